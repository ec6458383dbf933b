import PyProof.Rows.All
import Wide.All
import OpenK.AllK
import Wide.FinOn
import PyProof.EqAt
import PyProof.EqKinds
import PyProof.TupleCall
import PyProof.P3In
import PyProof.ZipIter
import PyProof.ListRange
import PyProof.SetRoads
import PyProof.Rows.SetFrom
import PyProof.Rows.SeqMore2
import KE.RegKIsAll
import PyProof.StrWalks
import PyProof.EnumMake
import PyProof.Conv_int
import PyProof.Conv_int_bool
import PyProof.StrBlockI
import PyProof.Draws
import PyProof.ConsumeWalk
import PySem.Challenge.RW_farcuts_k60_no_web
set_option Elab.async false
set_option linter.all false
set_option maxRecDepth 100000
set_option genSizeOfSpec false
set_option genInjectivity false
open Array renaming length_toList->Xq,getElem?_toList->Qc,getElem?_eq_getElem->QZ,getElem?_eq_some_iff->Vq,getD_eq_getD_getElem?->V6
open Bool renaming false_ne_true->Xx,and_eq_true->XJ,false_eq_true->XN,eq_false_iff->Ve,not_true->Vl
open Classical renaming axiomOfChoice->Vz,byContradiction->V9
open False renaming elim->Vp
open ForInStep renaming yield->Bq
open Int renaming toNat_natCast->Bx,ofNat_lt->Uq
open List renaming length_map->Xd,getElem?_map->Xi,getElem?_eq_getElem->Xj,getElem?_eq_some_iff->Xk,getD_eq_getElem?_getD->Xm,mem_cons->Xn,mem_singleton->Xp,length_append->Xv,range->XC,mem_map->XF,size_toArray->XM,mem_append_right->XR,append_nil->XX,length_range->X6,map_cons->X7,length_cons->Qd,mem_of_getElem?->Qg,mem_range->Qj,map_congr_left->Qk,replicate->Qm,mem_append->Qp,map_map->Qq,getElem?_set_ne->Qs,nodup_cons->Qt,mem_append_left->Qw,map_append->Qx,append_assoc->QF,length_nil->QH,getElem?_set_self->QT,getElem?_eq_none_iff->Q0,getElem?_range->Q8,lookup_cons->JB,getElem?_eq_none->JN,getElem?_append_right->JZ,length_drop->Bb,eq_nil_of_length_eq_zero->Bg,length_take->Bk,getElem_mem->Bl,drop_eq_getElem_cons->By,pairwise_cons->BV,not_mem_nil->BW,all_eq_true->BX,Nodup->BZ,length_set->Vf,drop_eq_nil_of_le->Vj,getElem?_append_left->Vu,nodup_append->Vw,getElem?_of_mem->Vx,replicate_succ->VL,getElem_of_mem->VM,filterMap_cons->VN,mem_filter->V2,length_replicate->V4,toArray->Ui,pairwise_iff_getElem->Um,getElem?_zip_eq_some->Uo,any_cons->Uu,length_zip->Uw,find?_cons->Ux,getElem?_drop->Uz,pairwise_singleton->UL,filter_cons_of_pos->UT,filter_cons_of_neg->UV,getElem?_nil->U3,flatten_cons->U4
open Nat renaming ne_of_lt->Xr,le_refl->XD,ne_of_gt->X5,lt_of_lt_of_le->Qi,zero_le->QJ,lt_succ_self->QQ,le_trans->QX,lt_irrefl->JC,not_lt_zero->JL,lt_or_ge->JS,lt_succ_of_lt->Bw,lt_trans->Vd,succ_le_succ->Vn,le_add_right->Vo,le_of_lt->Vy,lt_of_succ_lt_succ->V1,lt_succ_iff->V3,zero_add->Uk,succ_pos->Ul,lt_trichotomy->U6
open Ne renaming symm->Bo
open Option renaming bind_some->Xh,map_eq_some_iff->Qe,some->Va
open Option.some renaming inj->QR
open Or renaming inr->Qz,inl->QG
open PyProof.Rows renaming callWith_type1->JH,seqObj->Bu,IntsAre->Vb,get?_update_seq->Ub,callWith_builtin1->Uy
open PySem renaming PyData->Xa,wpAny_bind->Xb,Value->Xe,Shared->Xf,wpAny_pure->Xl,starEach->Xo,sizeLine->Xw,wpAny->Xz,Program->X3,model->X4,sizeLine_eq->X8,mainGlobals->Qa,bootBuiltins->Qh,FuncData->Ql,Around->Qn,World->Qo,wpAny_mono->QB,compareOp->QL,SetTable->QM,wpAny_loadPart'->QW,backTo->Q3,wpAny_setField_rec->Q7,wpAny_call_entry->JD,wpAny_setState_of->JG,rawInt->JP,wpAny_holding->JR,assignEach->JT,wpAny_truthy_bool->JV,wpAny_newObj_type->JW,foldedSetIterable->JX,wpAny_callSpecial?_slot->Ba,wpAny_field->Bc,wpAny_Call_Name_kw->Be,wpAny_passesOwn->Bf,wpAny_seqItems->Bj,mem_of_lookup->Bs,Builtin->BJ,cellsFrom->BK,NameKind->Vg,swapsWith->Vi,codeAny_builtin->Vk,IsPair->Vr,pushCells->Vs,intKind->Vv,cLine->VB,wpAny_loadPart_at->VJ,binaryOp->V0,Keyword->V8,attributeBase->Ue,sysModules->Ur,wpAny_setEntries_of->UG,pyNext->UJ,plainId_quiet->UW,wpAny_rule->U5,keywordEach->U7,Apart->U9
open PySem.Around renaming under_plainId->Vc
open PySem.Builtin.Int renaming intBits->U8
open PySem.Builtin.List renaming listTooLong->Ua
open PySem.Builtin.SmallTypes renaming nextOf->Q4,ownedTupleIsFree->BP
open PySem.F renaming called_set->Us,plainAttrs_list->Ut
open PySem.Heap renaming get?_push_of_some->Xg,lt_size->XH,get?_push_size->XQ,size_push->QS,SameBut->JQ,get?_update_self->V5
open PySem.Heap.SameBut renaming update->QK
open PySem.NameKind renaming free->Q9,cell->BL
open PySem.Obj renaming mapSeq->Bv
open PySem.PassesOwn renaming never->Qu
open PySem.PyData renaming int->Xu,eqv->JF,canLayAll0->Bp,canLay0->Vm,list->VP,bool->Uv
open PySem.SeqAt renaming EqAt->Br,canLay_of_shaped->U0
open PySem.SetTable renaming below->Qy,runEnd->Q5,insertAt->JM,bits->Bm,Probe->BR,grown->VD,leap->Uh
open PySem.SetTable.layClean renaming free->Uc
open PySem.SetTable.probe renaming go->Ug
open PySem.Str renaming ofString->Uj
open PySem.Value renaming ref->Xy,none->QD,int->Vt
open PySem.W renaming Frag->Xc,nsIn->Qv,kitOne->QC,mg_none_of->QV,kia_one->Q6,Looks->JK,hideAll->Bh,subIn->Vh,kitAny->VF,keepIn->VG,findIn->VH,hideAll_none->V7,fnOf->Ud
open True renaming intro->VR
noncomputable section
local macro_rules|`(!0)=>`(by omega)|`(!1)=>`(by decide)
open PySem renaming Addr->YG,Heap->YH,Expr->YJ,Stmt->YK,Scope->YL
open Bool renaming true->YD,false->YF
open Option renaming some->YB,none->YC
abbrev YM:=@if_pos
abbrev YQ:=@if_neg
abbrev YS:=@decide_eq_true
abbrev YT:=@decide_eq_false
abbrev YW:=@congrArg
abbrev YX:=@of_decide_eq_true
abbrev YZ:=@absurd
abbrev ZC:=@beq_iff_eq
namespace L2
open PySem PySem.Spec PyProof.Rows
abbrev Key:=Sum Int Str
def Zqd:Key->Xe->Bool
 | .inl k,v=>Value.isInt k v
 | .inr x,v=>Value.isStrOf x v
def Yjb(w:Qo):Key->Int
 | .inl k=>hashInt k
 | .inr x=>hashStr w x
def Y5:∀{k:Key} {v:Xe},Zqd k v=YD->(∃i t,k=Sum.inl i/\v=Vt i t)\/(∃x t,k=Sum.inr x/\v=Value.str x t)
 | .inl i,v,h=>by
  obtain⟨t,e⟩:=Value.isInt_shape (k:=i) (v:=v) h;exact .inl ⟨i,t,rfl,e⟩
 | .inr x,v,h=>by
  obtain⟨t,e⟩:=Xe.isStrOf_shape (x:=x) (v:=v) h;exact .inr ⟨x,t,rfl,e⟩
def Zun(i:Int)(t:Tok):Zqd (.inl i) (.int i t)=YD:=by simp[Zqd,Value.isInt]
def Ztb(x:Str)(t:Tok):Zqd (.inr x) (.str x t)=YD:=by simp[Zqd,Value.isStrOf]
def Z6s(a b:Int):decide ((Sum.inl a:Key)=Sum.inl b)=(a==b):=by
 by_cases e:a=b
 .subst e;simp
 .have h:¬(Sum.inl a:Key)=Sum.inl b:=λq=>e (Sum.inl.inj q)
  rw[YT h];exact(beq_eq_false_iff_ne.mpr e).symm
def Z99(a b:Str):decide ((Sum.inr a:Key)=Sum.inr b)=decide (a=b):=by
 by_cases e:a=b
 .subst e;simp
 .have h:¬(Sum.inr a:Key)=Sum.inr b:=λq=>e (Sum.inr.inj q)
  rw[YT h,YT e]
def Z9p(a:Int)(b:Str):decide ((Sum.inl a:Key)=Sum.inr b)=YF:=YT (λq=>nomatch q)
def Z8v(a:Str)(b:Int):decide ((Sum.inr a:Key)=Sum.inl b)=YF:=YT (λq=>nomatch q)
def Wr(prog:X3)(w:Qo):PySem.KeyKind prog w Key where
 is:=Zqd
 hash:=Yjb w
 inj:=λv a b ha hb=>by
  rcases Y5 ha with⟨i,t,rfl,rfl⟩|⟨x,t,rfl,rfl⟩
  .rcases Y5 hb with⟨j,u,rfl,e⟩|⟨y,u,rfl,e⟩
   .injection e with e1 _;rw[e1]
   .exact nomatch e
  .rcases Y5 hb with⟨j,u,rfl,e⟩|⟨y,u,rfl,e⟩
   .exact nomatch e
   .injection e with e1 _;rw[e1]
 byValue:=λk v h=>by
  rcases Y5 h with⟨i,t,rfl,rfl⟩|⟨x,t,rfl,rfl⟩<;>rfl
 pyHash:=λhv h=>by
  rcases Y5 hv with⟨i,t,rfl,rfl⟩|⟨x,t,rfl,rfl⟩
  .exact wpAny_pyHash_int h
  .exact wpAny_pyHash_str h
 eqBool:=λhu hv h=>by
  rcases Y5 hu with⟨i,t,rfl,rfl⟩|⟨x,t,rfl,rfl⟩
  .rcases Y5 hv with⟨j,u,rfl,rfl⟩|⟨y,u,rfl,rfl⟩
   .rw[Z6s]at h;exact wpAny_eqBool_int h
   .rw[Z9p]at h;exact SeqAt.EqAt.int_str i t y u _ _ _ _ h
  .rcases Y5 hv with⟨j,u,rfl,rfl⟩|⟨y,u,rfl,rfl⟩
   .rw[Z8v]at h;exact SeqAt.EqAt.str_int x t j u _ _ _ _ h
   .rw[Z99]at h;exact wpAny_eqBool_str h
 «strs»:=λk x t v h=>by
  rcases Y5 h with⟨i,u,rfl,e⟩|⟨y,u,rfl,e⟩
  .exact nomatch e
  .injection e with e1 _
   subst e1;cases v<;>rfl
def Znd(prog:X3)(w:Qo)(i:Int)(t:Tok):(Wr prog w).is (.inl i) (.int i t)=YD:=Zun i t
def Zms(prog:X3)(w:Qo)(x:Str)(t:Tok):(Wr prog w).is (.inr x) (.str x t)=YD:=Ztb x t
inductive V where
 | non|bl (b:Bool)|int (i:Int)|str (x:Str)|byt (b:Array UInt8)|flt (b:UInt64)|ref (a:YG)|ty (n:String)
 deriving DecidableEq
def RelV:V->Xe->Prop
 | .non,u=>u=QD
 | .bl b,u=>u=Value.bool b
 | .int i,u=>∃t,u=Vt i t
 | .str x,u=>∃t,u=Value.str x t
 | .byt b,u=>∃t,u=Xe.bytes b t
 | .flt b,u=>∃t,u=Xe.float b t
 | .ref a,u=>u=Xy a
 | .ty n,u=>u=Value.type n
abbrev Vals:List V->List Xe->Prop:=Paired RelV
theorem Vals.length{xs:List V}{us:List Xe}(r:Vals xs us):xs.length=us.length:=Paired.length r
theorem Vals.get{xs:List V}{us:List Xe}{i:Nat}{x:V}(h:Vals xs us)(e:xs[i]? =YB x):∃u,us[i]? =YB u/\RelV x u:=by
 induction h generalizing i with
 | nil=>exact(Option.some_ne_none _ (e.symm.trans U3)).elim
 | cons r t ih=>
  cases i with
  | zero=>exact⟨_,rfl,QR e▸r⟩
  | succ i=>exact ih e
theorem Vals.set{x:V}{u:Xe}(r:RelV x u){xs:List V}{us:List Xe}(i:Nat)(h:Vals xs us):Vals (xs.set i x) (us.set i u):=by
 induction h generalizing i with
 | nil=>exact .nil
 | cons q t ih=>
  cases i with
  | zero=>exact .cons r t
  | succ i=>exact .cons q (ih i)
def Vals.append{xs ys:List V}{us ws:List Xe}(h:Vals xs us)(s:Vals ys ws):Vals (xs++ys) (us++ws):=by
 induction h with
 | nil=>exact s
 | cons r t ih=>exact .cons r ih
theorem Vals.take{xs:List V}{us:List Xe}(n:Nat)(h:Vals xs us):Vals (xs.take n) (us.take n):=by
 induction h generalizing n with
 | nil=>rw[List.take_nil,List.take_nil];exact .nil
 | cons r t ih=>
  cases n with
  | zero=>exact .nil
  | succ n=>exact .cons r (ih n)
theorem Vals.drop{xs:List V}{us:List Xe}(n:Nat)(h:Vals xs us):Vals (xs.drop n) (us.drop n):=by
 induction h generalizing n with
 | nil=>rw[List.drop_nil,List.drop_nil];exact .nil
 | cons r t ih=>
  cases n with
  | zero=>exact .cons r t
  | succ n=>exact ih n
def RelO:Option V->Option Xe->Prop
 | some v,YB u=>RelV v u
 | none,YC=>True
 | _,_=>False
def KV{κ:Type}:List (κ×V)->List (κ×Xe)->Prop:=Paired λ(p:κ×V) (q:κ×Xe)=>p.1=q.1/\RelV p.2 q.2
def kV:Key->V
 | .inl i=>.int i
 | .inr x=>.str x
inductive HO where
  | lst (xs:List V)
  | tup (xs:List V)
  | dK (kvs:List (Key×V))|dT (kvs:List (List Key×V))
  | set (S:Int->Bool) (n:Nat)
  | ins (C dx:YG) (fs:List (Str×V))
  | own (x:YG)
  | xd (fs:List (Str×V))
  | met (f x:YG)
  | rng (lo hi:Int)
  | frz (o:Obj) (u:HO)
  | tbl (ps:Array Xe)
  | ext (φ:YH->Prop)
abbrev Hp:=YG->Option HO
def upd(H:Hp)(a:YG)(o:HO):Hp:=λb=>if b=a then YB o else H b
theorem Zq{H:Hp}{a:YG}{o:HO}:upd H a o a=YB o:=by unfold upd;rw[YM rfl]
theorem Zk{H:Hp}{a b:YG}{o:HO}(h:b≠a):upd H a o b=H b:=by unfold upd;rw[YQ h]
def Yfn{H:Hp}{a b:YG}{o u:HO}(h:H a=YB o)(h':H b=YB u)(d:o≠u):a≠b:=by
 intro e;subst e;rw[h]at h';exact d (QR h')
def Ym{H:Hp}{a b:YG}{o:HO}(h:H a=YB o)(h':H b=YC):a≠b:=by
 intro e;subst e;rw[h]at h';cases h'
section
variable (P:X3)(w:Qo)
def ObjOk(H:Hp)(h:YH)(a:YG):HO->Prop
 | .lst xs=>xs.length<=Xw/\∃(its:List Xe) (n:Nat),Vals xs its/\h.get? a=YB { cls:=.type "list",data:=.seq its.toArray n }
 | .tup xs=>xs.length<=Xw/\∃its:List Xe,Vals xs its/\IsTup h a its.toArray
 | .dK kvs=>kvs.length<=Xw/\(a==Ur)=YF/\∃vs,KV kvs vs/\h.DictOf (Wr P w) a vs
 | .dT kvs=>kvs.length<=Xw/\(a==Ur)=YF/\∃xs:List (List Key×YG×Xe),
   Paired (λ(p:List Key×V) (q:List Key×YG×Xe)=>p.1=q.1/\H q.2.1=YB (.tup (p.1.map kV))/\RelV p.2 q.2.2) kvs xs/\
   ∃o es ep,h.get? a=YB o/\o.ExactDict/\o.data= .dict es ep/\es.toList=xs.map (entryOfKey (tupleKind (Wr P w)))/\(xs.map (·.1)).Nodup
 | .set S n=>h.SetOf (Vv P w) a S n
 | .ins C dx fs=>H dx=YB (.own a)/\fs.length<=1000/\dx≠a/\h.get? a=YB (PySem.W.instObj C dx)/\
   ∃mA,h.Ns1 dx mA/\(∀f,RelO (fs.lookup f) (mA f))/\PySem.Within mA (fs.map (·.1))
 | .own _=>∃o,h.get? a=YB o
 | .xd fs=>∃mA,h.Ns1 a mA/\∀f,RelO (fs.lookup f) (mA f)
 | .rng lo hi=>∃t u v,h.get? a=YB { cls:=.type "range",data:=.fields #[.int lo t,.int hi u,.int 1 v] }
 | .frz o u=>h.get? a=YB o/\ObjOk H h a u
 | .tbl ps=>h.get? a=YB { cls:=.none,data:=.fields ps }
 | .met f x=>h.get? a=YB (PySem.W.methodObj (.ref f) (.ref x))
 | .ext φ=>φ h/\(∃o,h.get? a=YB o)/\∀h1 h2:YH,φ h1->(∀o,h1.get? a=YB o->h2.get? a=YB o)->φ h2
def HOk(H:Hp)(h:YH):Prop:=∀a o,H a=YB o->ObjOk P w H h a o
end
section
variable {P:X3}{w:Qo}{H H':Hp}{h h':YH}{a:YG}{o:HO}
theorem ObjOk.lt(x:ObjOk P w H h a o):a<h.objs.size:=by
 cases o with
 | lst xs=>obtain⟨_,_,_,_,e⟩:=x;exact XH e
 | tup xs=>obtain⟨_,_,_,p⟩:=x;exact p.lt
 | dK kvs=>obtain⟨_,_,_,_,o,_,_,e,_⟩:=x;exact XH e
 | dT kvs=>obtain⟨_,_,_,_,o,_,_,e,_⟩:=x;exact XH e
 | set S n=>obtain⟨o,_,_,_,e,_⟩:=x;exact XH e
 | ins C dx fs=>obtain⟨_,_,_,e,_⟩:=x;exact XH e
 | own y=>obtain⟨_,e⟩:=x;exact XH e
 | xd fs=>obtain⟨_,⟨_,_,_,e,_⟩,_⟩:=x;exact XH e
 | rng lo hi=>obtain⟨_,_,_,e⟩:=x;exact XH e
 | frz ob u=>obtain⟨e,_⟩:=x;exact XH e
 | tbl ps=>exact XH (show h.get? a=YB _ from x)
 | met f y=>exact XH (show h.get? a=YB _ from x)
 | ext φ=>obtain⟨_,⟨_,e⟩,_⟩:=x;exact XH e
def Paired.mapP{Y β:Type}{F G:Y->β->Prop}{l₁:List Y}{l₂:List β}(h:Paired F l₁ l₂)(f:∀a b,F a b->G a b):Paired G l₁ l₂:=by
 induction h with
 | nil=>exact .nil
 | cons r t ih=>exact .cons (f _ _ r) ih
theorem ObjOk.stay(x:ObjOk P w H h a o)(k:∀b u,(b=a\/H b=YB (.own a))->h.get? b=YB u->h'.get? b=YB u)
  (ho:∀b,H b=YB (.own a)->H' b=YB (.own a)) (ht:∀b xs,H b=YB (.tup xs)->H' b=YB (.tup xs)):ObjOk P w H' h' a o:=by
 induction o with
 | lst xs=>obtain⟨z,its,n,r,e⟩:=x;exact⟨z,its,n,r,k _ _ (.inl rfl) e⟩
 | tup xs=>obtain⟨z,its,r,ob,e,c⟩:=x;exact⟨z,its,r,ob,k _ _ (.inl rfl) e,c⟩
 | dK kvs=>obtain⟨z,y,vs,r,ob,es,ep,e,c⟩:=x;exact⟨z,y,vs,r,ob,es,ep,k _ _ (.inl rfl) e,c⟩
 | dT kvs=>
  obtain⟨z,y,xs,r,ob,es,ep,e,c⟩:=x;exact⟨z,y,xs,Paired.mapP r λp q z=>⟨z.1,ht _ _ z.2.1,z.2.2⟩,ob,es,ep,k _ _ (.inl rfl) e,c⟩
 | set S n=>obtain⟨ob,es,ep,t,e,c⟩:=x;exact⟨ob,es,ep,t,k _ _ (.inl rfl) e,c⟩
 | ins C dx fs=>
  obtain⟨d,z,ne,e,mA,⟨od,es,ep,e2,c⟩,r⟩:=x;exact⟨ho _ d,z,ne,k _ _ (.inl rfl) e,mA,⟨od,es,ep,k _ _ (.inr d) e2,c⟩,r⟩
 | own y=>obtain⟨ob,e⟩:=x;exact⟨ob,k _ _ (.inl rfl) e⟩
 | xd fs=>obtain⟨mA,⟨od,es,ep,e,c⟩,r⟩:=x;exact⟨mA,⟨od,es,ep,k _ _ (.inl rfl) e,c⟩,r⟩
 | rng lo hi=>obtain⟨t,u,v,e⟩:=x;exact⟨t,u,v,k _ _ (.inl rfl) e⟩
 | frz ob u ih=>obtain⟨e,q⟩:=x;exact⟨k _ _ (.inl rfl) e,ih q⟩
 | tbl ps=>
  have e:h.get? a=YB { cls:=.none,data:=.fields ps }:=x;show h'.get? a=YB { cls:=.none,data:=.fields ps };exact k a _ (.inl rfl) e
 | met f y=>
  have e:h.get? a=YB (PySem.W.methodObj (.ref f) (.ref y)):=x;show h'.get? a=YB (PySem.W.methodObj (.ref f) (.ref y));exact k a _ (.inl rfl) e
 | ext φ=>obtain⟨p,⟨o,e⟩,st⟩:=x;exact⟨st _ _ p λo q=>k _ _ (.inl rfl) q,⟨o,k _ _ (.inl rfl) e⟩,st⟩
theorem HOk.lt(x:HOk P w H h)(e:H a=YB o):a<h.objs.size:=(x a o e).lt
theorem HOk.fresh(x:HOk P w H h)(e:h.objs.size<=a):H a=YC:=by
 cases q:H a with
 | none=>rfl
 | some u=>exact YZ (Qi (x.lt q) e) (JC _)
def HOk.kept(x:HOk P w H h)(k:∀b u,h.get? b=YB u->h'.get? b=YB u):HOk P w H h':=λa o e=>
 (x a o e).stay (λb u _ q=>k b u q) (λ_ q=>q) λ_ _ q=>q
def HOk.laid(x:HOk P w H h)(k:∀b u,h.get? b=YB u->h'.get? b=YB u)(hp:h.objs.size<=a)(new:ObjOk P w (upd H a o) h' a o):HOk P w (upd H a o) h':=λb u e=>by
 have hn:=x.fresh hp
 by_cases hb:b=a
 .subst hb;rw[Zq]at e;cases e;exact new
 .rw[Zk hb]at e
  exact(x b u e).stay (λc v _ q=>k c v q) (λc q=>by rw[Zk (Ym q hn)];exact q) λc xs q=>by rw[Zk (Ym q hn)];exact q
end
def Rd(H:Hp)(a:YG)(u:HO):Prop:=H a=YB u\/∃o,H a=YB (.frz o u)
theorem Rd.ok{P:X3}{w:Qo}{H:Hp}{h:YH}{a:YG}{u:HO}(r:Rd H a u)(x:HOk P w H h):ObjOk P w H h a u:=by
 rcases r with r|⟨o,r⟩
 .exact x a u r
 .obtain⟨_,q⟩:=x a _ r
  exact q
def Mut:Option HO->Prop
 | some (.lst _)=>True
 | some (.dK _)=>True
 | some (.dT _)=>True
 | some (.set _ _)=>True
 | some (.ins _ _ _)=>True
 | some (.ext _)=>True
 | _=>False
section
variable {P:X3}{w:Qo}{H:Hp}{h h':YH}{x e:YG}{o':HO}
def HOk.write(ok:HOk P w H h)(mu:Mut (H x))(he:e=x\/H e=YB (.own x))(k:∀b u,b≠e->h.get? b=YB u->h'.get? b=YB u)(heo:∃u,h'.get? e=YB u)
  (new:ObjOk P w (upd H x o') h' x o'):HOk P w (upd H x o') h':=λb u q=>by
 have nown:∀c y,H c=YB (.own y)->c≠x:=λc y r z=>by subst z;rw[r]at mu;exact mu
 have ntup:∀c xs,H c=YB (.tup xs)->c≠x:=λc xs r z=>by subst z;rw[r]at mu;exact mu
 by_cases hb:b=x
 .subst hb;rw[Zq]at q;cases q;exact new
 .rw[Zk hb]at q
  by_cases hbe:b=e
  .have q':H b=YB (.own x):=by
    rcases he with z|z
    .exact YZ (hbe.trans z) hb
    .rw[hbe];exact z
   rw[q]at q';cases q';obtain⟨v,hv⟩:=heo;exact⟨v,by rw[hbe];exact hv⟩
  .refine(ok b u q).stay (λc v hc r=>k c v ?_ r) (λc r=>by rw[Zk (nown c b r)];exact r) λc xs r=>by rw[Zk (ntup c xs r)];exact r
   rcases hc with rfl|hc
   .exact hbe
   .rintro rfl
    rcases he with z|z
    .exact nown c b hc z
    .rw[hc]at z;cases z;exact hb rfl
end
structure Un(fs ex:List YG)(H H':Hp)(h h':YH):Prop where
 keep:∀b o,h.get? b=YB o->H b=YC->b∉fs->b∉ex->h'.get? b=YB o
 slot:∀b o,h.get? b=YB o->H b=YC->b∈fs->b∉ex->∃sl,h'.get? b=YB { o with slots:=sl }
 free:∀b o,h.get? b=YB o->H b=YC->b∉ex->H' b=YC
 there:∀b o,h.get? b=YB o->b∉ex->∃o',h'.get? b=YB o'
 tups:∀b xs,H b=YB (.tup xs)->H' b=YB (.tup xs)
 frzs:∀b o u,H b=YB (.frz o u)->H' b=YB (.frz o u)
 tbls:∀b ps,H b=YB (.tbl ps)->∃more,H' b=YB (.tbl (ps++more))
section
variable {fs fs' ex ex':List YG}{H H1 H2:Hp}{h h1 h2 h':YH}{a x e:YG}{o:HO}
def Un.any(u:Un fs ex H H1 h h1){b:YG}{ob:Obj}(q:h.get? b=YB ob)(n:H b=YC)(hx:b∉ex):∃sl,h1.get? b=YB { ob with slots:=sl }:=by
 by_cases hb:b∈fs
 .exact u.slot b ob q n hb hx
 .exact⟨ob.slots,u.keep b ob q n hb hx⟩
def Un.kept(k:∀b u,h.get? b=YB u->h'.get? b=YB u):Un fs ex H H h h' :=
 ⟨λb ob q _ _ _=>k b ob q,λb ob q _ _ _=>⟨ob.slots,k b ob q⟩,λ_ _ _ n _=>n,λb ob q _=>⟨ob,k b ob q⟩,λ_ _ q=>q,λ_ _ _ q=>q,λ_ ps q=>⟨#[],by rw[q];simp⟩⟩
theorem Un.refl:Un fs ex H H h h:=Un.kept λ_ _ q=>q
def Un.laid(k:∀b u,h.get? b=YB u->h'.get? b=YB u)(hp:h.objs.size<=a)(hn:H a=YC):Un fs ex H (upd H a o) h h' where
 keep:=λb u q _ _ _=>k b u q
 slot:=λb u q _ _ _=>⟨u.slots,k b u q⟩
 free:=λb u q n _=>by rw[Zk (Xr (Qi (XH q) hp))];exact n
 there:=λb u q _=>⟨u,k b u q⟩
 tups:=λb xs q=>by rw[Zk (Ym q hn)];exact q
 frzs:=λb u xs q=>by rw[Zk (Ym q hn)];exact q
 tbls:=λb ps q=>⟨#[],by rw[Zk (Ym q hn),q];simp⟩
def Un.write(mu:Mut (H x))(he:e=x\/H e=YB (.own x))(k:∀b u,b≠e->h.get? b=YB u->h'.get? b=YB u)(heo:∃u,h'.get? e=YB u):Un fs ex H (upd H x o) h h':=by
 have hx:∀b,H b=YC->b≠x:=λb n z=>by subst z;rw[n]at mu;exact mu
 have hb:∀b,H b=YC->b≠e:=λb n z=>by
  subst z;rcases he with r|r
  .exact hx b n r
  .rw[n]at r;cases r
 have hm:∀b u,H b=YB u->¬Mut (YB u)->b≠x:=λb u q nm z=>by subst z;rw[q]at mu;exact nm mu
 refine⟨λb u q n _ _=>k b u (hb b n) q,λb u q n _ _=>⟨u.slots,k b u (hb b n) q⟩,λb u q n _=>by rw[Zk (hx b n)];exact n,λb u q _=>?_,
  λb xs q=>by rw[Zk (hm b _ q λz=>z)];exact q,λb u xs q=>by rw[Zk (hm b _ q λz=>z)];exact q,λb ps q=>⟨#[],by rw[Zk (hm b _ q λz=>z),q];simp⟩⟩
 by_cases hbe:b=e
 .subst hbe;exact heo
 .exact⟨u,k b u hbe q⟩
end
def trk(h:YH)(H:Hp):List YG:=(XC h.objs.size).filter λa=>(H a).isSome
def Zwk(h:YH)(H:Hp):YH:=Bh h (trk h H)
def Zss(h:YH)(H:Hp):(Zwk h H).objs.size=h.objs.size:=PySem.W.hideAll_size _ _
def Zwe{h:YH}{H:Hp}{b:YG}{o:Obj}(e:h.get? b=YB o)(n:H b=YC):(Zwk h H).get? b=YB o :=
 PySem.W.hideAll_get _ e λhm=>by
  have q:(H b).isSome=YD:=(V2.mp hm).2;rw[n]at q;simp at q
def Z3o{h:YH}{H:Hp}{b:YG}{o:Obj}(e:(Zwk h H).get? b=YB o):h.get? b=YB o/\H b=YC:=by
 have e':h.get? b=YB o:=PySem.W.of_hideAll (trk h H) e;refine⟨e',?_⟩;cases q:H b with
 | none=>rfl
 | some x=>
  have hm:b∈trk h H:=V2.mpr ⟨Qj.mpr (XH e'),by simp[q]⟩;have z:(Zwk h H).get? b=YC:=V7 (trk h H) hm;rw[z]at e;cases e
def Z0r(g h:YH)(L:YG):List (YG×Obj):=(XC h.objs.size).filterMap λa=>if a=L\/(g.get? a).isSome=YD then YC else(h.get? a).map λo=>(a,o)
def rest(g h:YH)(L d:YG):List (YG×Obj):=(Z0r g h L).filter λp=>decide (p.1≠d)
structure Mod(K:Xc)(mg:Str->Option Xe)(base:YH):Prop where
 kin:K.In base
 glob:base.Ns Qa mg
 blt:∃mb,base.Ns builtinsNs mb/\∀x:Str,x≠"__name__" ->mb x=Qh x
 nolimit:base.NoLimit
set_option genInjectivity false in
structure Cx where
 prog:X3
 w:Qo
 K:Xc
 mg:Str->Option Xe
 base:YH
 A:Qn
 N:List Str
 s₀:Xf
 H₀:Hp
 env:Env
 outer:List Env
 stack:List Env
 ex:List YG
 fn:Str->Bool
 calm:Bool
 pn:List (YG×Obj)
 xe:Xe->Xf->Prop
def frs(l:List Env):List YG:=l.filterMap (·.frame)
abbrev Cx.fs(X:Cx):List YG:=frs X.outer
def Vis(sc:YL)(x:Str):Prop:=sc.names.lookup x=YB .local\/sc.names.lookup x=YB .cell\/sc.names.lookup x=YB .free
def Loc(sc:YL)(x:Str):Prop:=sc.names.lookup x=YB .local\/sc.names.lookup x=YB .cell
def Look(env:Env)(h:YH)(m:Str->Option Xe)(x:Str)(u:Xe):Prop :=
 (env.kindOf x=YB .local/\m x=YB u)\/((env.kindOf x=YB .cell\/env.kindOf x=YB .free)/\∃c,env.cells.lookup x=YB c/\h.IsCell c (YB u))
structure Cx.Ok(X:Cx):Prop where
 mod:Mod X.K X.mg X.base
 kind:X.env.scope.kind= .function
 glob:X.env.globals=Qa
 blt:X.env.builtins=builtinsNs
 above:X.s₀.heap.objs.size<=X.env.locals
 inj:∀x y c,X.env.cells.lookup x=YB c->X.env.cells.lookup y=YB c->x=y
 has:∀x,(X.env.kindOf x=YB .cell\/X.env.kindOf x=YB .free)->∃c,X.env.cells.lookup x=YB c
 cab:∀x c,X.fn x=YD->X.env.cells.lookup x=YB c->X.s₀.heap.objs.size<=c
 hd:X.calm=YD->X.A.handled=YC
 frames:X.A.frames=YB X.stack
 stk:X.stack=X.outer\/(X.stack=X.env::X.outer/\X.env.frame=YB X.env.locals)
 exf:∀b∈X.ex,b≠X.env.locals/\∀x c,X.env.cells.lookup x=YB c->c≠b
 bs:∀b o,X.base.get? b=YB o->X.s₀.heap.get? b=YB o/\X.H₀ b=YC
 bsz:X.base.objs.size<=X.s₀.heap.objs.size
 noex:∀b o,X.base.get? b=YB o->b∉X.ex
 exfs:∀b∈X.ex,b∉X.fs
 funs:X.s₀.heap.FunFrames X.base X.outer
 frf:∀b∈X.fs,X.H₀ b=YC
structure Inv(X:Cx)(pins:List (YG×Obj))(O:List (Option V))(H:Hp)(s:Xf):Prop where
 ok:X.Ok
 os:s.os=X.s₀.os
 bare:AllBare s.gens
 base:Un X.fs X.ex X.H₀ H X.s₀.heap s.heap
 loc:∃m,s.heap.Ns X.env.locals m/\∀(i:Nat) (x:Str) (v:V),X.N[i]? =YB x->O[i]? =YB (YB v)->Vis X.env.scope x->∃u,RelV v u/\Look X.env s.heap m x u
 cell:∀x c,X.env.cells.lookup x=YB c->∃v,s.heap.IsCell c v
 free:H X.env.locals=YC
 freeC:∀x c,X.env.cells.lookup x=YB c->H c=YC
 pin:∀p∈X.pn++pins,s.heap.get? p.1=YB p.2/\H p.1=YC/\p.1≠X.env.locals/\p.1∉X.fs/\∀v,p.2.data≠ .cell v
 hok:HOk X.prog X.w H s.heap
 len:O.length=X.N.length
section
variable {X:Cx}{pins:List (YG×Obj)}{O:List (Option V)}{H H':Hp}{s:Xf}{h':YH}
def Cx.Ok.nofr(ok:X.Ok){b:YG}{o:Obj}(e:X.base.get? b=YB o):b∉X.fs:=λhb=>by
 have:=(ok.funs.mem hb).1;rw[e]at this;cases this
def Inv.bs(I:Inv X pins O H s):∀b o,X.base.get? b=YB o->s.heap.get? b=YB o/\H b=YC:=λb o e=>
 ⟨I.base.keep b o (I.ok.bs b o e).1 (I.ok.bs b o e).2 (I.ok.nofr e) (I.ok.noex b o e),I.base.free b o (I.ok.bs b o e).1 (I.ok.bs b o e).2 (I.ok.noex b o e)⟩
def Inv.bk(I:Inv X pins O H s):∀b o,X.base.get? b=YB o->s.heap.get? b=YB o:=λb o e=>(I.bs b o e).1
def Inv.mod(I:Inv X pins O H s):Mod X.K X.mg X.base:=I.ok.mod
def Inv.kIn(I:Inv X pins O H s):X.K.In s.heap:=I.ok.mod.kin.keeps I.bk
theorem Inv.lt(I:Inv X pins O H s):X.env.locals<s.heap.objs.size:=let⟨_,hn,_⟩:=I.loc;hn.lt
theorem Inv.sz(I:Inv X pins O H s):X.s₀.heap.objs.size<=s.heap.objs.size:=QX I.ok.above (Vy I.lt)
def Inv.nofs(I:Inv X pins O H s){a:YG}(h:s.heap.objs.size<=a):a∉X.fs:=λhb=>by
 obtain⟨_,o,ho,_⟩:=I.ok.funs.mem hb;exact YZ (Qi (XH ho) (QX I.sz h)) (JC _)
theorem Inv.cne(I:Inv X pins O H s):∀x c,X.env.cells.lookup x=YB c->c≠X.env.locals:=λx c e z=>by
 obtain⟨v,o,ho,hd⟩:=I.cell x c e;obtain⟨m,⟨o',es,ep,ho',hd',_⟩,_⟩:=I.loc;rw[z,ho']at ho;cases ho;rw[hd']at hd;cases hd
def Inv.funs(I:Inv X pins O H s):s.heap.FunFrames X.base X.outer:=by
 have all:∀(l:List Env),(∀b∈frs l,b∈X.fs)->X.s₀.heap.FunFrames X.base l->s.heap.FunFrames X.base l:=by
  intro l
  induction l with
  | nil=>intro _ _;trivial
  | cons env r ih=>
   intro hs hl;obtain⟨hk,⟨L,o,hf,hn,ho,hd⟩,hr⟩:=hl;have hL:L∈X.fs:=hs L (by unfold frs;rw[VN,hf];exact List.mem_cons_self);obtain⟨sl,e⟩:=I.base.slot L o ho (I.ok.frf L hL) hL λz=>I.ok.exfs L z hL;exact⟨hk,⟨L,_,hf,hn,e,hd⟩,ih (λb hb=>hs b (by unfold frs;rw[VN,hf];exact List.mem_cons_of_mem _ hb)) hr⟩
 exact all X.outer (λ_ hb=>hb) I.ok.funs
def Inv.stack(I:Inv X pins O H s):s.heap.FunFrames X.base X.stack:=by
 rcases I.ok.stk with e|⟨e,hf⟩
 .rw[e];exact I.funs
 .rw[e]
  obtain⟨m,hn,_⟩:=I.loc;refine .cons (by rw[I.ok.kind];decide) hf hn ?_ I.funs;exact Heap.get?_none_of_le (QX I.ok.bsz I.ok.above)
def Inv.stkSub(I:Inv X pins O H s):∀b∈frs X.stack,b∈X.env.locals::X.fs:=λb hb=>by
 rcases I.ok.stk with e|⟨e,hf⟩
 .rw[e]at hb;exact List.mem_cons_of_mem _ hb
 .rw[e]at hb
  unfold frs at hb;rw[VN,hf]at hb;exact hb
def Inv.stkFree(I:Inv X pins O H s):∀b∈frs X.stack,H b=YC:=λb hb=>by
 rcases Xn.mp (I.stkSub b hb)with e|hb
 .rw[e];exact I.free
 .obtain⟨_,o,ho,_⟩:=I.ok.funs.mem hb
  exact I.base.free b o ho (I.ok.frf b hb) λz=>I.ok.exfs b z hb
theorem Inv.step{g':Array GenState}{t':Nat}{d':Drawn}{ch:List YG}(I:Inv X pins O H s)
  (hch:∀b∈ch,(b∈X.ex\/X.s₀.heap.objs.size<=b)/\b≠X.env.locals/\(∀x c,X.env.cells.lookup x=YB c->c≠b)/\∀p∈X.pn++pins,p.1≠b)
  (keep:∀b o,b≠X.env.locals->b∉X.fs->b∉ch->s.heap.get? b=YB o->H b=YC->h'.get? b=YB o)
  (slot:∀b o,b≠X.env.locals->b∈X.fs->b∉ch->s.heap.get? b=YB o->H b=YC->∃sl,h'.get? b=YB { o with slots:=sl }) (free:∀b o,b∉ch->s.heap.get? b=YB o->H b=YC->H' b=YC)
  (there:∀b o,b∉ch->s.heap.get? b=YB o->∃o',h'.get? b=YB o')
  (tups:∀b xs,H b=YB (.tup xs)->H' b=YB (.tup xs)) (frzs:∀b o u,H b=YB (.frz o u)->H' b=YB (.frz o u)) (tbls:∀b ps,H b=YB (.tbl ps)->∃more,H' b=YB (.tbl (ps++more)))
  (ns:∀m,s.heap.Ns X.env.locals m->h'.Ns X.env.locals m) (hok:HOk X.prog X.w H' h') (hg:AllBare g') :
  Inv X pins O H' { s with heap:=h',gens:=g',drawn:=d',toks:=t' }:=by
 have neL:∀b o,X.s₀.heap.get? b=YB o->b≠X.env.locals:=λb o e=>Xr (Qi (XH e) I.ok.above);have neC:∀b o,X.s₀.heap.get? b=YB o->b∉X.ex->b∉ch:=λb o e hx hb=>by
  rcases(hch b hb).1 with z|z
  .exact hx z
  .exact YZ (Qi (XH e) z) (JC _)
 have cellK:∀x c,X.env.cells.lookup x=YB c->∀v,s.heap.IsCell c v->h'.IsCell c v:=λx c e v ⟨o,ho,hd⟩=>by
  have nch:c∉ch:=λz=>(hch c z).2.2.1 x c e rfl
  by_cases hc:c∈X.fs
  .obtain⟨sl,q⟩:=slot c o (I.cne x c e) hc nch ho (I.freeC x c e)
   exact⟨_,q,hd⟩
  .exact⟨o,keep c o (I.cne x c e) hc nch ho (I.freeC x c e),hd⟩
 refine⟨I.ok,I.os,hg,⟨λb o e n hb hx=>?_,λb o e n hb hx=>?_,λb o e n hx=>?_,λb o e hx=>?_,λb xs e=>tups b xs (I.base.tups b xs e),λb o xs e=>frzs b o xs (I.base.frzs b o xs e),λb ps e=>?_⟩,?_,λx c e=>?_,?_,λx c e=>?_,λp hp=>?_,hok,I.len⟩
 .exact keep b o (neL b o e) hb (neC b o e hx) (I.base.keep b o e n hb hx) (I.base.free b o e n hx)
 .obtain⟨sl,e1⟩:=I.base.slot b o e n hb hx
  obtain⟨sl',e2⟩:=slot b _ (neL b o e) hb (neC b o e hx) e1 (I.base.free b o e n hx);exact⟨sl',e2⟩
 .obtain⟨o',e1⟩:=I.base.there b o e hx
  exact free b o' (neC b o e hx) e1 (I.base.free b o e n hx)
 .obtain⟨o',e1⟩:=I.base.there b o e hx
  exact there b o' (neC b o e hx) e1
 .obtain⟨m1,e1⟩:=I.base.tbls b ps e
  obtain⟨m2,e2⟩:=tbls b _ e1;exact⟨m1++m2,by rw[e2,Array.append_assoc]⟩
 .obtain⟨m,hn,hl⟩:=I.loc
  refine⟨m,ns m hn,λi x v e1 e2 e3=>?_⟩;obtain⟨u,r,l⟩:=hl i x v e1 e2 e3;refine⟨u,r,?_⟩;rcases l with l|⟨k,c,e,z⟩
  .exact .inl l
  .exact .inr ⟨k,c,e,cellK x c e _ z⟩
 .obtain⟨v,z⟩:=I.cell x c e
  exact⟨v,cellK x c e v z⟩
 .obtain⟨m,⟨o,_,_,ho,_⟩,_⟩:=I.loc
  exact free _ o (λz=>(hch _ z).2.1 rfl) ho I.free
 .obtain⟨v,o,ho,hd⟩:=I.cell x c e
  exact free c o (λz=>(hch c z).2.2.1 x c e rfl) ho (I.freeC x c e)
 .obtain⟨e,n,ne,nf,d⟩:=I.pin p hp
  have nch:p.1∉ch:=λz=>(hch p.1 z).2.2.2 p hp rfl;exact⟨keep p.1 p.2 ne nf nch e n,free p.1 p.2 nch e n,ne,nf,d⟩
def Inv.un{t':Nat}(I:Inv X pins O H s)(u:Un X.fs [] H H' s.heap h')(hok:HOk X.prog X.w H' h'):Inv X pins O H' { s with heap:=h',toks:=t' }:=by
 obtain⟨m,⟨o,es,ep,ho,r⟩,_⟩:=id I.loc;obtain⟨sl,hL⟩:=u.any ho I.free (by simp);exact I.step (g':=s.gens) (d':=s.drawn) (ch:=[]) (λ_ z=>nomatch z) (λb o _ hb _ e n=>u.keep b o e n hb (by simp)) (λb o _ hb _ e n=>u.slot b o e n hb (by simp)) (λb o _ e n=>u.free b o e n (by simp)) (λb o _ e=>u.there b o e (by simp)) u.tups u.frzs u.tbls (λm' hm=>by
  obtain⟨o',es',ep',ho',r'⟩:=hm;rw[ho]at ho';cases ho';exact⟨_,es',ep',hL,r'⟩) hok I.bare
theorem Inv.call{g':Array GenState}{t':Nat}{d':Drawn}{ch:List YG}(I:Inv X pins O H s)(u:Un (frs X.stack) ch H H' s.heap h')(hok:HOk X.prog X.w H' h')(hg:AllBare g')
  (hch:∀b∈ch,(b∈X.ex\/X.s₀.heap.objs.size<=b)/\b≠X.env.locals/\(∀x c,X.env.cells.lookup x=YB c->c≠b)/\∀p∈X.pn++pins,p.1≠b) :
  Inv X pins O H' { s with heap:=h',gens:=g',drawn:=d',toks:=t' }:=by
 obtain⟨m,⟨o,es,ep,ho,r⟩,_⟩:=id I.loc;obtain⟨sl,hL⟩:=u.any ho I.free λz=>(hch _ z).2.1 rfl;exact I.step (ch:=ch) hch (λb o hL hb hc e n=>u.keep b o e n (λz=>(Xn.mp (I.stkSub b z)).elim hL hb) hc) (λb o _ _ hc e n=>u.any e n hc) (λb o hc e n=>u.free b o e n hc) (λb o hc e=>u.there b o e hc) u.tups u.frzs u.tbls (λm' hm=>by
  obtain⟨o',es',ep',ho',r'⟩:=hm;rw[ho]at ho';cases ho';exact⟨_,es',ep',hL,r'⟩) hok hg
theorem Inv.turned{t':Nat}{it:YG}(I:Inv X pins O H s)(k:∀b o,b≠it->s.heap.get? b=YB o->h'.get? b=YB o)(hn:H it=YC)(hL:it≠X.env.locals)
  (h1:it∈X.ex\/X.s₀.heap.objs.size<=it) (h2:∀x c,X.env.cells.lookup x=YB c->c≠it) (h3:∀p∈X.pn++pins,p.1≠it):Inv X pins O H { s with heap:=h',toks:=t' }:=by
 have nit:∀b u,H b=YB u->b≠it:=λb u e z=>by rw[z,hn]at e;cases e
 refine I.step (g':=s.gens) (d':=s.drawn) (ch:=[it]) (λb hb=>?_) (λb o _ _ hc e _=>k b o (λz=>hc (by simp[z])) e) (λb o _ _ hc e _=>⟨o.slots,k b o (λz=>hc (by simp[z])) e⟩) (λ_ _ _ _ n=>n)
  (λb o hc e=>⟨o,k b o (λz=>hc (by simp[z])) e⟩) (λ_ _ e=>e) (λ_ _ _ e=>e) (λb ps e=>⟨#[],by rw[e];simp⟩) (λm hm=>?_) (λb u e=>?_) I.bare
 .have e:b=it:=by simpa using hb
  subst e;exact⟨h1,hL,h2,h3⟩
 .obtain⟨o,es,ep,ho,r⟩:=hm
  exact⟨o,es,ep,k _ o (Bo hL) ho,r⟩
 .refine(I.hok b u e).stay (λc v hc q=>k c v ?_ q) (λ_ q=>q) λ_ _ q=>q
  rcases hc with z|z
  .rw[z];exact nit b u e
  .exact nit c _ z
def Inv.tok(I:Inv X pins O H s)(t:Nat):Inv X pins O H { s with toks:=t }:=I.un (h':=s.heap) (t':=t) Un.refl I.hok
def Inv.kept{t':Nat}(I:Inv X pins O H s)(k:∀b u,s.heap.get? b=YB u->h'.get? b=YB u):Inv X pins O H { s with heap:=h',toks:=t' }:=I.un (Un.kept k) (I.hok.kept k)
def Inv.laid{a:YG}{o:HO}{t':Nat}(I:Inv X pins O H s)(k:∀b u,s.heap.get? b=YB u->h'.get? b=YB u)(hp:s.heap.objs.size<=a)(new:ObjOk X.prog X.w (upd H a o) h' a o) :
  Inv X pins O (upd H a o) { s with heap:=h',toks:=t' }:=I.un (Un.laid k hp (I.hok.fresh hp)) (I.hok.laid k hp new)
def Inv.write{x e:YG}{o:HO}{t':Nat}(I:Inv X pins O H s)(mu:Mut (H x))(he:e=x\/H e=YB (.own x))(k:∀b u,b≠e->s.heap.get? b=YB u->h'.get? b=YB u)(heo:∃u,h'.get? e=YB u)
  (new:ObjOk X.prog X.w (upd H x o) h' x o):Inv X pins O (upd H x o) { s with heap:=h',toks:=t' }:=I.un (Un.write mu he k heo) (I.hok.write mu he k heo new)
def Inv.pins_of{pins':List (YG×Obj)}(I:Inv X pins O H s)(h:∀p∈pins',s.heap.get? p.1=YB p.2/\H p.1=YC/\p.1≠X.env.locals/\p.1∉X.fs/\∀v,p.2.data≠ .cell v):Inv X pins' O H s :=
 ⟨I.ok,I.os,I.bare,I.base,I.loc,I.cell,I.free,I.freeC,λp hp=>(Qp.mp hp).elim (λz=>I.pin p (Qw _ z)) (h p),I.hok,I.len⟩
theorem Zje{N:List Str}(hN:N.Nodup){i j:Nat}{x:Str}(a:N[i]? =YB x)(b:N[j]? =YB x):i=j:=by
 obtain⟨h1,e1⟩:=Xk.mp a;obtain⟨h2,e2⟩:=Xk.mp b;exact(List.getElem_inj hN).mp (e1.trans e2.symm)
theorem Zkp{M:Model}{A:Qn}{E:Xe->Xf->Prop}{i:Nat}{x:Str}{v:V}{u:Xe}{Q:Unit->Xf->Prop}(I:Inv X pins O H s)(hN:X.N.Nodup)(hi:X.N[i]? =YB x)(hx:Loc X.env.scope x)(r:RelV v u)
  (h:∀s',Inv X pins (O.set i (YB v)) H s'->(∃a,JQ a s.heap s'.heap/\(a=X.env.locals\/X.env.cells.lookup x=YB a))->Q () s') (hf:X.fn x=YD\/X.env.scope.names.lookup x=YB .local:=by first|exact .inl rfl|exact .inr rfl|assumption):Xz M A (storeName X.env x u) Q E s:=by
 obtain⟨m,hn,hl⟩:=id I.loc;have hcls:(X.env.scope.kind== .class||(X.env.scope.kind== .module&&X.env.locals !=X.env.globals))=YF:=by rw[I.ok.kind];rfl
 have hiσ:i<O.length:=by rw[I.len];exact(Xk.mp hi).1
 have cne:=I.cne;have tracked:∀{a:YG} {h':YH},(∃o,s.heap.get? a=YB o/\H a=YC)->JQ a s.heap h'->HOk X.prog X.w H h':=fun{a h'} ha hs b ob e=>by
  obtain⟨_,_,hfree⟩:=ha;refine(I.hok b ob e).stay (λc w' hc q=>(hs.2 c ?_).trans q) (λ_ q=>q) λ_ _ q=>q;rintro rfl;rcases hc with rfl|hc
  .rw[hfree]at e;cases e
  .rw[hfree]at hc;cases hc
 rcases hx with hk|hk
 .refine wpAny_storeName_local hk hn (λh' hn' hs=>?_) hcls
  obtain⟨oL,_,_,hoL,_⟩:=id hn;refine h _ ⟨I.ok,I.os,I.bare,⟨λb o e n hb hx=>?_,λb o e n hb hx=>?_,I.base.free,λb o e hx=>?_,I.base.tups,I.base.frzs,I.base.tbls⟩,⟨_,hn',λj y v' e1 e2 e3=>?_⟩,λy c e=>?_,I.free,I.freeC,λp hp=>?_,tracked ⟨oL,hoL,I.free⟩ hs,by simpa using I.len⟩ ⟨_,hs,.inl rfl⟩
  .exact(hs.2 b (Xr (Qi (XH e) I.ok.above))).trans (I.base.keep b o e n hb hx)
  .obtain⟨sl,e1⟩:=I.base.slot b o e n hb hx
   exact⟨sl,(hs.2 b (Xr (Qi (XH e) I.ok.above))).trans e1⟩
  .obtain⟨o',e1⟩:=I.base.there b o e hx
   exact⟨o',(hs.2 b (Xr (Qi (XH e) I.ok.above))).trans e1⟩
  .by_cases hj:j=i
   .subst hj
    rw[hi]at e1;cases e1;rw[QT hiσ]at e2;cases e2;exact⟨u,r,.inl ⟨hk,by simp⟩⟩
   .rw[Qs (Bo hj)]at e2
    obtain⟨u',r',q⟩:=hl j y v' e1 e2 e3;refine⟨u',r',?_⟩;rcases q with⟨k,e⟩|⟨k,c,e,z⟩
    .refine .inl ⟨k,?_⟩
     have:y≠x:=λe=>hj (Zje hN e1 (e▸hi));simp[this,e]
    .exact .inr ⟨k,c,e,z.sameBut hs (cne y c e)⟩
  .obtain⟨w',z⟩:=I.cell y c e
   exact⟨w',z.sameBut hs (cne y c e)⟩
  .obtain⟨e,n,ne,nf,d⟩:=I.pin p hp
   exact⟨(hs.2 p.1 ne).trans e,n,ne,nf,d⟩
 .have hfn:X.fn x=YD:=by
   rcases hf with z|z
   .exact z
   .rw[z]at hk;cases hk
  obtain⟨c,hc⟩:=I.ok.has x (.inl hk);obtain⟨w',z⟩:=I.cell x c hc;refine wpAny_storeName_cell I.ok.kind hk hc z (λh' hc' hs=>?_);obtain⟨oc,hoc,hocd⟩:=id z;refine h { s with heap:=h' } ⟨I.ok,I.os,I.bare,⟨λb o e n hb hx=>?_,λb o e n hb hx=>?_,I.base.free,λb o e hx=>?_,I.base.tups,I.base.frzs,I.base.tbls⟩,⟨m,hn.sameBut hs (Bo (cne x c hc)),λj y v' e1 e2 e3=>?_⟩,λy c' e=>?_,I.free,I.freeC,λp hp=>?_,tracked ⟨oc,hoc,I.freeC x c hc⟩ hs,by simpa using I.len⟩ ⟨c,hs,.inr hc⟩
  .exact(hs.2 b (Xr (Qi (XH e) (I.ok.cab x c hfn hc)))).trans (I.base.keep b o e n hb hx)
  .obtain⟨sl,e1⟩:=I.base.slot b o e n hb hx
   exact⟨sl,(hs.2 b (Xr (Qi (XH e) (I.ok.cab x c hfn hc)))).trans e1⟩
  .obtain⟨o',e1⟩:=I.base.there b o e hx
   exact⟨o',(hs.2 b (Xr (Qi (XH e) (I.ok.cab x c hfn hc)))).trans e1⟩
  .by_cases hj:j=i
   .subst hj
    rw[hi]at e1;cases e1;rw[QT hiσ]at e2;cases e2;exact⟨u,r,.inr ⟨.inl hk,c,hc,hc'⟩⟩
   .rw[Qs (Bo hj)]at e2
    obtain⟨u',r',q⟩:=hl j y v' e1 e2 e3;refine⟨u',r',?_⟩;rcases q with q|⟨k,c',e,z'⟩
    .exact .inl q
    .refine .inr ⟨k,c',e,z'.sameBut hs ?_⟩
     rintro rfl;exact hj (Zje hN e1 (I.ok.inj _ _ _ e hc▸hi))
  .by_cases hcc:c'=c
   .subst hcc;exact⟨_,hc'⟩
   .obtain⟨w2,z2⟩:=I.cell y c' e
    exact⟨w2,z2.sameBut hs hcc⟩
  .obtain⟨e,n,ne,nf,d⟩:=I.pin p hp
   refine⟨(hs.2 p.1 ?_).trans e,n,ne,nf,d⟩;intro q;rw[q,hoc]at e;have q':oc=p.2:=QR e;exact d w' (by rw[<-q'];exact hocd)
def Zjz{M:Model}{A:Qn}{E:Xe->Xf->Prop}{i:Nat}{x:Str}{v:V}{u:Xe}{Q:Unit->Xf->Prop}(I:Inv X pins O H s)(hN:X.N.Nodup)(hi:X.N[i]? =YB x)(hx:Loc X.env.scope x)(r:RelV v u)
  (h:∀s',Inv X pins (O.set i (YB v)) H s'->Q () s') (hf:X.fn x=YD\/X.env.scope.names.lookup x=YB .local:=by first|exact .inl rfl|exact .inr rfl|assumption):Xz M A (storeName X.env x u) Q E s :=
 Zkp I hN hi hx r (λs' I' _=>h s' I') hf
def Inv.call'{s':Xf}{ch:List YG}(I:Inv X pins O H s)(ho:s'.os=s.os)(u:Un (frs X.stack) ch H H' s.heap s'.heap)(hok:HOk X.prog X.w H' s'.heap)(hg:AllBare s'.gens)
  (hch:∀b∈ch,(b∈X.ex\/X.s₀.heap.objs.size<=b)/\b≠X.env.locals/\(∀x c,X.env.cells.lookup x=YB c->c≠b)/\∀p∈X.pn++pins,p.1≠b):Inv X pins O H' s':=by
 obtain⟨h',g',d',t',o'⟩:=s';have e:o'=s.os:=ho;subst e;exact I.call (g':=g') (t':=t') (d':=d') u hok hg hch
end
abbrev XK:=Xe->Option YG->Hp->Prop
abbrev St:=List (Option V)
abbrev VK:=V->Hp->Prop
abbrev TE:=St->Hp->VK->Prop
abbrev TT:=St->Hp->(Bool->Hp->Prop)->Prop
abbrev TA:=St->Hp->(List V->Hp->Prop)->Prop
set_option genInjectivity false in
structure Ends where
 nx:St->Hp->Prop
 rt:VK
 bk:St->Hp->Prop:=λ_ _=>False
 ct:St->Hp->Prop:=λ_ _=>False
abbrev TS:=Ends->St->Hp->Prop
def EP(X:Cx)(pins:List (YG×Obj))(O:St)(Q:VK)(u:Xe)(s':Xf):Prop:=∃v H',Inv X pins O H' s'/\RelV v u/\Q v H'
def TP(X:Cx)(pins:List (YG×Obj))(O:St)(Q:Bool->Hp->Prop)(b:Bool)(s':Xf):Prop:=∃H',Inv X pins O H' s'/\Q b H'
def AP(X:Cx)(pins:List (YG×Obj))(O:St)(Q:List V->Hp->Prop)(us:List Xe)(s':Xf):Prop:=∃vs H',Inv X pins O H' s'/\Vals vs us/\Q vs H'
def SP(X:Cx)(pins:List (YG×Obj))(D:Ends)(f:Flow)(s':Xf):Prop :=
 match f with
 | .next=>∃O' H',Inv X pins O' H' s'/\D.nx O' H'
 | .brk=>∃O' H',Inv X pins O' H' s'/\D.bk O' H'
 | .cont=>∃O' H',Inv X pins O' H' s'/\D.ct O' H'
 | .ret u=>∃v O' H',Inv X pins O' H' s'/\RelV v u/\D.rt v H'
def PE(X:Cx)(e:YJ)(t:TE):Prop :=
 ∀(pins:List (YG×Obj)) (s:Xf) (O:St) (H:Hp) (Q:VK),Inv X pins O H s->t O H Q->Xz (X4 X.prog X.w) X.A (eval e X.env) (EP X pins O Q) X.xe s
def PT(X:Cx)(e:YJ)(t:TT):Prop :=
 ∀(pins:List (YG×Obj)) (s:Xf) (O:St) (H:Hp) (Q:Bool->Hp->Prop),Inv X pins O H s->t O H Q->Xz (X4 X.prog X.w) X.A (isTrue e X.env (eval e X.env)) (TP X pins O Q) X.xe s
def PW(X:Cx)(e:YJ)(t:TT):Prop :=
 ∀(whole:Sem Xe) (pins:List (YG×Obj)) (s:Xf) (O:St) (H:Hp) (Q:Bool->Hp->Prop),Inv X pins O H s->t O H Q->Xz (X4 X.prog X.w) X.A (isTrue e X.env whole) (TP X pins O Q) X.xe s
theorem PW.pt{X:Cx}{e:YJ}{t:TT}(h:PW X e t):PT X e t:=h _
def PA(X:Cx)(es:List YJ)(t:TA):Prop :=
 ∀(pos:Pos) (pins:List (YG×Obj)) (s:Xf) (O:St) (H:Hp) (Q:List V->Hp->Prop),Inv X pins O H s->t O H Q->Xz (X4 X.prog X.w) X.A (spliced (Q3 pos (Xo es X.env))) (AP X pins O Q) X.xe s
def PS(X:Cx)(st:YK)(t:TS):Prop :=
 ∀(pins:List (YG×Obj)) (s:Xf) (O:St) (H:Hp) (D:Ends),Inv X pins O H s->t D O H->Xz (X4 X.prog X.w) X.A (exec st X.env) (SP X pins D) X.xe s
def PSs(X:Cx)(st:List YK)(t:TS):Prop :=
 ∀(pins:List (YG×Obj)) (s:Xf) (O:St) (H:Hp) (D:Ends),Inv X pins O H s->t D O H->Xz (X4 X.prog X.w) X.A (execs st X.env) (SP X pins D) X.xe s
theorem thn{Y:Type}{t:Sem Y}{Q Q':Y->Xf->Prop}{M:Model}{A:Qn}{E:Xe->Xf->Prop}{s:Xf}(h:Xz M A t Q E s)(hQ:∀a s,Q a s->Q' a s):Xz M A t Q' E s:=QB h hQ λ_ _ x=>x
section
variable {X:Cx}
def Yh6(i:Nat):TE:=λO H Q=>∃v,O[i]? =YB (YB v)/\Q v H
def tC(v:V):TE:=λ_ H Q=>Q v H
def Z6t{i:Nat}{x:Str}{pos:Pos}(hN:X.N[i]? =YB x)(hv:Vis X.env.scope x)(hd:(x==("__debug__" : Str))=YF:=by decide)(hcd:(x==("__classdict__" : Str))=YF:=by decide):PE X (.Name x pos) (Yh6 i):=by
 intro pins s O H Q I h;obtain⟨v,e,h⟩:=h;obtain⟨m,hn,hl⟩:=I.loc;obtain⟨u,r,l⟩:=hl i x v hN e hv;have fin:EP X pins O Q u s:=⟨v,H,I,r,h⟩;rcases l with⟨hk,hm⟩|⟨hk,c,hc,hcell⟩
 .exact wpAny_Name (wpAny_loadName_local I.ok.kind hk hn hm fin) hd
 .rcases hk with hk|hk
  .exact wpAny_Name (wpAny_loadName_cell I.ok.kind hk hc hcell fin) hd
  .exact wpAny_Name (wpAny_loadName_free I.ok.kind hk hc hcell fin hcd) hd
def Ya5{i j pos}:PE X (.Constant (.int i) j pos) (tC (.int i)):=λ_ _ _ H _ I h=>wpAny_Constant_int ⟨.int i,H,I.tok _,⟨_,rfl⟩,h⟩
def Yef{b j pos}:PE X (.Constant (.bool b) j pos) (tC (.bl b)):=λ_ _ _ H _ I h=>Constant_bool ⟨.bl b,H,I,rfl,h⟩
def Z5o{j pos}:PE X (.Constant .none j pos) (tC .non):=λ_ _ _ H _ I h=>Constant_none ⟨.non,H,I,rfl,h⟩
def Z9k{x j pos}:PE X (.Constant (.str x) j pos) (tC (.str x)):=λ_ _ _ H _ I h=>Calls.Constant_str ⟨.str x,H,I.tok _,⟨_,rfl⟩,h⟩
def Gl(X:Cx)(x:Str):Prop:=X.env.kindOf x=YB .globalImplicit
def Zg2{E:Xe->Xf->Prop}{pins:List (YG×Obj)}{s:Xf}{O:St}{H:Hp}{x:Str}{u:Xe}{pos:Pos}{Q:Xe->Xf->Prop}(I:Inv X pins O H s)(hg:Gl X x)(hm:X.mg x=YB u)(h:Q u s)
  (hd:(x==("__debug__" : Str))=YF:=by decide):Xz (X4 X.prog X.w) X.A (eval (.Name x pos) X.env) Q E s :=
 Calls.Name_function_global I.ok.kind hg (Calls.loadGlobal_global (by rw[I.ok.glob];exact I.mod.glob.keeps I.bk) hm h) hd
def Zcc{E:Xe->Xf->Prop}{pins:List (YG×Obj)}{s:Xf}{O:St}{H:Hp}{x:Str}{u:Xe}{pos:Pos}{Q:Xe->Xf->Prop}(I:Inv X pins O H s)(hg:Gl X x)(hm:X.mg x=YC)(hv:Qh x=YB u)(h:Q u s)
  (hn:x≠"__name__" :=by decide) (hd:(x==("__debug__" : Str))=YF:=by decide):Xz (X4 X.prog X.w) X.A (eval (.Name x pos) X.env) Q E s:=by
 obtain⟨mb,h1,h2⟩:=I.mod.blt;exact Calls.Name_function_global I.ok.kind hg (Calls.loadGlobal_builtin (by rw[I.ok.glob];exact I.mod.glob.keeps I.bk) hm (by rw[I.ok.blt];exact h1.keeps I.bk) ((h2 x hn).trans hv) h) hd
def Yu{x:Str}{v:V}{u:Xe}{pos:Pos}(hg:Gl X x)(hm:X.mg x=YB u)(r:RelV v u)(hd:(x==("__debug__" : Str))=YF:=by decide):PE X (.Name x pos) (tC v) :=
 λ_ _ _ H _ I h=>Zg2 I hg hm ⟨v,H,I,r,h⟩ hd
def Zmy{x:Str}{v:V}{u:Xe}{pos:Pos}(hg:Gl X x)(hm:X.mg x=YC)(hv:Qh x=YB u)(r:RelV v u)(hn:x≠"__name__" :=by decide)(hd:(x==("__debug__" : Str))=YF:=by decide):PE X (.Name x pos) (tC v) :=
 λ_ _ _ H _ I h=>Zcc I hg hm hv ⟨v,H,I,r,h⟩ hn hd
def t2I(ta tb:TE)(k:Int->Int->Hp->Prop):St->Hp->Prop:=λO H=>ta O H λx H1=>tb O H1 λy H2=>∃i j,x= .int i/\y= .int j/\k i j H2
variable {a b:YJ}{ta tb:TE}{pos:Pos}
def Z47(p:Int->Int->Bool)(ta tb:TE):TE:=λO H Q=>t2I ta tb (λi j H2=>Q (.bl (p i j)) H2) O H
abbrev tLt:TE->TE->TE:=Z47 λi j=>decide (i<j)
abbrev tLe:TE->TE->TE:=Z47 λi j=>decide (i<=j)
abbrev tGt:TE->TE->TE:=Z47 λi j=>decide (j<i)
abbrev tGe:TE->TE->TE:=Z47 λi j=>decide (j<=i)
abbrev Ykx:TE->TE->TE:=Z47 λi j=>decide (i=j)
abbrev Ykv:TE->TE->TE:=Z47 λi j=>!decide (i=j)
def tB(t:TE):TT:=λO H Q=>t O H λx H1=>∃c,x= .bl c/\Q c H1
variable {tA tB':TT}{rest:List YJ}
def Ykb(t u:TT):TT:=λO H Q=>t O H λc H1=>if c=YD then u O H1 Q else Q YF H1
def tOr(t u:TT):TT:=λO H Q=>t O H λc H1=>if c=YD then Q YD H1 else u O H1 Q
def Ykr(t:TT):TT:=λO H Q=>t O H λc H1=>Q (!c) H1
def Z0u(ha:PT X a tA):PW X (.BoolOp .And [a] pos) tA:=by
 intro wh pins s O H Q I h;refine isTrue_and (thn (ha pins s O H Q I h) λc s1 e=>?_);cases c with
 | true=>exact isTrue_and_nil e
 | false=>exact e
def Z81(ha:PT X a tA):PW X (.BoolOp .Or [a] pos) tA:=by
 intro wh pins s O H Q I h;refine isTrue_or (thn (ha pins s O H Q I h) λc s1 e=>?_);cases c with
 | false=>exact isTrue_or_nil e
 | true=>exact e
def Z67(ha:PT X a tA)(hb:PW X (.BoolOp .And (b::rest) pos) tB'):PW X (.BoolOp .And (a::b::rest) pos) (Ykb tA tB'):=by
 intro wh pins s O H Q I h;refine isTrue_and (thn (ha pins s O H _ I h) λc s1 qz9=>?_);obtain⟨H1,I1,q1⟩:=qz9;cases c with
 | true=>exact hb wh pins s1 O H1 Q I1 q1
 | false=>exact⟨H1,I1,q1⟩
def Yd6(ha:PT X a tA)(hb:PW X (.BoolOp .Or (b::rest) pos) tB'):PW X (.BoolOp .Or (a::b::rest) pos) (tOr tA tB'):=by
 intro wh pins s O H Q I h;refine isTrue_or (thn (ha pins s O H _ I h) λc s1 qz9=>?_);obtain⟨H1,I1,q1⟩:=qz9;cases c with
 | true=>exact⟨H1,I1,q1⟩
 | false=>exact hb wh pins s1 O H1 Q I1 q1
def Ya0(ha:PT X a tA):PT X (.UnaryOp .Not a pos) (Ykr tA):=by
 intro pins s O H Q I h;exact isTrue_not (ha pins s O H (λc H1=>Q (!c) H1) I h)
def Yel(ta tb:TE):TE:=λO H Q=>ta O H λx H1=>∃c,x= .bl c/\if c=YD then tb O H1 Q else Q (.bl YF) H1
def Yfe(ta:TE):TE:=λO H Q=>ta O H λx H1=>∃c,x= .bl c/\Q (.bl (!c)) H1
def Ya6{op}{t:TE}(h:PE X a t):PE X (.BoolOp op [a] pos) t:=λpins s O H Q I hw=>BoolOp_one (h pins s O H Q I hw)
def Z6n(ha:PE X a ta)(hb:PE X (.BoolOp .And (b::rest) pos) tb):PE X (.BoolOp .And (a::b::rest) pos) (Yel ta tb):=by
 intro pins s O H Q I h;refine BoolOp_and (thn (ha pins s O H _ I h) λv s1 qz9=>?_);obtain⟨x,H1,I1,r1,q1⟩:=qz9;obtain⟨c,rfl,q1⟩:=q1;cases r1;refine JV ?_;cases c with
 | true=>exact hb pins s1 O H1 Q I1 q1
 | false=>exact⟨.bl YF,H1,I1,rfl,q1⟩
def Z6h(ha:PE X a ta):PE X (.UnaryOp .Not a pos) (Yfe ta):=by
 intro pins s O H Q I h;refine UnaryOp_ (thn (ha pins s O H _ I h) λv s1 qz9=>?_);obtain⟨x,H1,I1,r1,q1⟩:=qz9;obtain⟨c,rfl,q1⟩:=q1;cases r1;exact not_of (JV ⟨.bl (!c),H1,I1,rfl,q1⟩)
def tIf(t:TT)(ta tb:TE):TE:=λO H Q=>t O H λc H1=>if c=YD then ta O H1 Q else tb O H1 Q
def Zv0{c:YJ}(hc:PT X c tA)(ha:PE X a ta)(hb:PE X b tb):PE X (.IfExp c a b pos) (tIf tA ta tb):=by
 intro pins s O H Q I h;refine wpAny_IfExp (thn (hc pins s O H _ I h) λd s1 qz9=>?_);obtain⟨H1,I1,q1⟩:=qz9;cases d with
 | true=>exact ha pins s1 O H1 Q I1 q1
 | false=>exact hb pins s1 O H1 Q I1 q1
end
def SqL(K:Xc)(H:Hp)(a:YG)(xs:List V):Prop :=
 Rd H a (.lst xs)\/
  ∃(o:Obj) (its:Array Xe) (n:Nat),K.lookup a=YB o/\o.cls= .type "list"/\o.dict=YC/\o.data= .seq its n/\its.size<=Xw/\Vals xs its.toList
def SqT(K:Xc)(H:Hp)(a:YG)(xs:List V):Prop :=
 Rd H a (.tup xs)\/
  ∃(o:Obj) (its:Array Xe) (n:Nat),K.lookup a=YB o/\o.cls= .type "tuple"/\o.data= .seq its n/\its.size<=Xw/\Vals xs its.toList
def Ykn:Xe->Option V
 | .none=>YB .non
 | .bool b=>YB (.bl b)
 | .int i _=>YB (.int i)
 | .str x _=>YB (.str x)
 | .bytes b _=>YB (.byt b)
 | .float b _=>YB (.flt b)
 | .ref a=>YB (.ref a)
 | .type n=>YB (.ty n)
 | _=>YC
def RelV.abs{x:V}{u:Xe}(r:RelV x u):Ykn u=YB x:=by
 cases x with
 | non=>cases r;rfl
 | bl _=>cases r;rfl
 | int _=>obtain⟨t,rfl⟩:=r;rfl
 | str _=>obtain⟨t,rfl⟩:=r;rfl
 | byt _=>obtain⟨t,rfl⟩:=r;rfl
 | flt _=>obtain⟨t,rfl⟩:=r;rfl
 | ref _=>cases r;rfl
 | ty _=>cases r;rfl
theorem RelV.inj{x y:V}{u:Xe}(r:RelV x u)(q:RelV y u):x=y:=QR (r.abs.symm.trans q.abs)
theorem Vals.inj{xs ys:List V}{us:List Xe}(h:Vals xs us)(k:Vals ys us):xs=ys:=by
 induction h generalizing ys with
 | nil=>cases k;rfl
 | cons r t ih=>
  cases k with
  | cons r' t'=>rw[r.inj r',ih t']
section
variable {X:Cx}{pins:List (YG×Obj)}{O:St}{H:Hp}{s:Xf}{a:YG}{xs ys:List V}
theorem Inv.list(I:Inv X pins O H s)(h:SqL X.K H a xs):∃its:List Xe,Vals xs its/\PlainL s.heap a its.toArray/\xs.length<=Xw:=by
 rcases h with h|⟨o,its,n,hk,hc,hd,hs,hz,r⟩
 .obtain⟨z,its,n,r,e⟩:=h.ok I.hok
  exact⟨its,r,⟨_,n,e,rfl,rfl,rfl⟩,z⟩
 .refine⟨its.toList,r,⟨o,n,I.kIn a o hk,hc,hd,by simpa using hs⟩,?_⟩
  have e:=r.length;simp only[Xq]at e;omega
theorem Inv.tuple(I:Inv X pins O H s)(h:SqT X.K H a xs):∃its:List Xe,Vals xs its/\IsTup s.heap a its.toArray/\xs.length<=Xw:=by
 rcases h with h|⟨o,its,n,hk,hc,hs,hz,r⟩
 .obtain⟨z,its,r,p⟩:=h.ok I.hok
  exact⟨its,r,p,z⟩
 .refine⟨its.toList,r,⟨o,I.kIn a o hk,hc,n,by simpa using hs⟩,?_⟩
  have e:=r.length;simp only[Xq]at e;omega
def Inv.list_inj(I:Inv X pins O H s)(h:SqL X.K H a xs)(h':SqL X.K H a ys):xs=ys:=by
 obtain⟨its,r,⟨o,n,e,_,_,d⟩,_⟩:=I.list h;obtain⟨its',r',⟨o',n',e',_,_,d'⟩,_⟩:=I.list h';rw[e]at e';cases e';rw[d]at d';injection d' with d1 _;have:its=its':=by simpa using YW Array.toList d1
 subst this;exact r.inj r'
def Inv.tuple_inj(I:Inv X pins O H s)(h:SqT X.K H a xs)(h':SqT X.K H a ys):xs=ys:=by
 obtain⟨its,r,⟨o,e,_,n,d⟩,_⟩:=I.tuple h;obtain⟨its',r',⟨o',e',_,n',d'⟩,_⟩:=I.tuple h';rw[e]at e';cases e';rw[d]at d';injection d' with d1 _;have:its=its':=by simpa using YW Array.toList d1
 subst this;exact r.inj r'
end
abbrev Cx.wish(X:Cx)(E:Xe->Xf->Prop):Cx:={ X with xe:=E }
abbrev Cx.nox(X:Cx):Cx:=X.wish λ_ _=>False
theorem Cx.Ok.wish{X:Cx}(ok:X.Ok)(E:Xe->Xf->Prop):(X.wish E).Ok :=
 ⟨ok.mod,ok.kind,ok.glob,ok.blt,ok.above,ok.inj,ok.has,ok.cab,ok.hd,ok.frames,ok.stk,ok.exf,ok.bs,ok.bsz,ok.noex,ok.exfs,ok.funs,ok.frf⟩
def Cx.Ok.unwish{X:Cx}{E:Xe->Xf->Prop}(ok:(X.wish E).Ok):X.Ok :=
 ⟨ok.mod,ok.kind,ok.glob,ok.blt,ok.above,ok.inj,ok.has,ok.cab,ok.hd,ok.frames,ok.stk,ok.exf,ok.bs,ok.bsz,ok.noex,ok.exfs,ok.funs,ok.frf⟩
section
variable {X:Cx}{pins:List (YG×Obj)}{O:St}{H:Hp}{s:Xf}{E:Xe->Xf->Prop}
theorem Inv.wish(I:Inv X pins O H s)(E:Xe->Xf->Prop):Inv (X.wish E) pins O H s:=⟨I.ok.wish E,I.os,I.bare,I.base,I.loc,I.cell,I.free,I.freeC,I.pin,I.hok,I.len⟩
def Inv.unwish(I:Inv (X.wish E) pins O H s):Inv X pins O H s:=⟨I.ok.unwish,I.os,I.bare,I.base,I.loc,I.cell,I.free,I.freeC,I.pin,I.hok,I.len⟩
def SP.unwish{D:Ends}{f:Flow}{s':Xf}(h:SP (X.wish E) pins D f s'):SP X pins D f s':=by
 cases f with
 | next=>obtain⟨O',H',I,q⟩:=h;exact⟨O',H',I.unwish,q⟩
 | brk=>obtain⟨O',H',I,q⟩:=h;exact⟨O',H',I.unwish,q⟩
 | cont=>obtain⟨O',H',I,q⟩:=h;exact⟨O',H',I.unwish,q⟩
 | ret u=>obtain⟨v,O',H',I,r,q⟩:=h;exact⟨v,O',H',I.unwish,r,q⟩
theorem PSs.nox{st:List YK}{t:TS}(h:PSs X.nox st t):PSs X st t:=λpins s O H D I hw=>
 QB (h pins s O H D (I.wish _) hw) (λ_ _ q=>q.unwish) λ_ _ z=>Vp z
end
section
variable {X:Cx}{st:YK}{rest:List YK}{t u:TS}{e:YJ}{te:TE}{pos:Pos}
def Yd9:TS:=λD O H=>D.nx O H
def Ykp(t u:TS):TS:=λD O H=>t { D with nx:=u D } O H
def Z4p:PSs X [] Yd9:=λ_ _ O H _ I h=>wpAny_execs_nil ⟨O,H,I,h⟩
def Zv1(h1:PS X st t)(h2:PSs X rest u):PSs X (st::rest) (Ykp t u):=by
 intro pins s O H D I h;refine wpAny_execs_cons (thn (h1 pins s O H { D with nx:=u D } I h) λf s1 q=>?_);cases f with
 | next=>
  obtain⟨O',H',I',q⟩:=q;exact h2 pins s1 O' H' D I' q
 | ret v=>exact q
 | brk=>exact q
 | cont=>exact q
def Z4u(h1:PS X st t):PSs X [st] t:=by
 intro pins s O H D I h;refine wpAny_execs_cons (thn (h1 pins s O H D I h) λf s1 q=>?_);cases f with
 | next=>exact wpAny_execs_nil q
 | ret v=>exact q
 | brk=>exact q
 | cont=>exact q
def Inv.quiet{pins:List (YG×Obj)}{O:St}{H:Hp}{s:Xf}(I:Inv X pins O H s):interactive X.env=YF:=by simp[interactive,I.ok.kind]
def Yfu(te:TE):TS:=λD O H=>te O H λ_ H1=>D.nx O H1
def Zi7(he:PE X e te)(hs:Vi e YC pos.line X.env=pure YF:=by rfl):PS X (.Expr e pos) (Yfu te):=by
 intro pins s O H D I h;refine wpAny_Expr_any (thn (he pins s O H _ I h) λv s1 qz9=>?_) I.quiet hs;obtain⟨x,H1,I1,r1,q1⟩:=qz9;exact⟨O,H1,I1,q1⟩
def Ykt(te:TE):TS:=λD O H=>te O H D.rt
def Zzn(he:PE X e te):PS X (.Return (YB e) pos) (Ykt te):=by
 intro pins s O H D I h;refine wpAny_Return_some (thn (he pins s O H _ I h) λv s1 qz9=>?_);obtain⟨x,H1,I1,r1,q1⟩:=qz9;exact⟨x,O,H1,I1,r1,q1⟩
def Yjr(c:TT)(t u:TS):TS:=λD O H=>c O H λb H1=>if b=YD then t D O H1 else u D O H1
def Ye5{c:YJ}{a b:List YK}{tc:TT}(hc:PT X c tc)(ha:PSs X a t)(hb:PSs X b u):PS X (.If c a b pos) (Yjr tc t u):=by
 intro pins s O H D I h;refine wpAny_If (thn (hc pins s O H _ I h) λd s1 qz9=>?_);obtain⟨H1,I1,q1⟩:=qz9;cases d with
 | true=>exact ha pins s1 O H1 D I1 q1
 | false=>exact hb pins s1 O H1 D I1 q1
def Z6e:TS:=λ_ _ _=>False
def Zxa:PS X st Z6e:=λ_ _ _ _ _ _ h=>h.elim
end
abbrev TG:=V->St->Hp->(St->Hp->Prop)->Prop
abbrev TGs:=List V->St->Hp->(St->Hp->Prop)->Prop
def PG(X:Cx)(target:YJ)(t:TG):Prop :=
 ∀(pins:List (YG×Obj)) (s:Xf) (O:St) (H:Hp) (v:V) (u:Xe) (Q:St->Hp->Prop),Inv X pins O H s->RelV v u->t v O H Q ->
  Xz (X4 X.prog X.w) X.A (assign target X.env u) (λ_ s'=>∃O' H',Inv X pins O' H' s'/\Q O' H') X.xe s
def PGs(X:Cx)(ts:List YJ)(t:TGs):Prop :=
 ∀(pins:List (YG×Obj)) (s:Xf) (O:St) (H:Hp) (vs:List V) (us:List Xe) (Q:St->Hp->Prop),Inv X pins O H s->Vals vs us->t vs O H Q ->
  Xz (X4 X.prog X.w) X.A (assignInOrder ((JT ts X.env).map (·.2)) us) (λ_ s'=>∃O' H',Inv X pins O' H' s'/\Q O' H') X.xe s
abbrev Yd3:=V->V->V->Hp->(Hp->Prop)->Prop
def Yit(X:Cx)(t:Yd3):Prop :=
 ∀(pins:List (YG×Obj)) (s:Xf) (O:St) (H:Hp) (o i v:V) (ov iv u:Xe) (Q:Hp->Prop),Inv X pins O H s->RelV o ov->RelV i iv->RelV v u->t o i v H Q ->
  Xz (X4 X.prog X.w) X.A (setItem ov iv u) (λ_ s'=>∃H',Inv X pins O H' s'/\Q H') X.xe s
abbrev TIp:=V->V->Hp->VK->Prop
section
variable {X:Cx}{pos:Pos}
def Zu9(i:Nat):TG:=λv O H Q=>Q (O.set i (YB v)) H
def Zsm{i:Nat}{x:Str}(hN:X.N.Nodup)(hi:X.N[i]? =YB x)(hx:Loc X.env.scope x)(hf:X.fn x=YD\/X.env.scope.names.lookup x=YB .local:=by first|exact .inl rfl|exact .inr rfl|assumption):PG X (.Name x pos) (Zu9 i):=by
 intro pins s O H v u Q I r h;exact wpAny_assign_Name (Zjz I hN hi hx r (λs' I'=>⟨_,H,I',h⟩) hf)
def Ykq:TGs:=λvs O H Q=>vs=[]/\Q O H
def Yfy(t:TG)(u:TGs):TGs:=λvs O H Q=>∃v r,vs=v::r/\t v O H λO' H'=>u r O' H' Q
def Z02:PGs X [] Ykq:=by
 intro pins s O H vs us Q I r h;obtain⟨e,h⟩:=h;subst e;cases r;exact assignInOrder_nil ⟨O,H,I,h⟩
def Zos{e:YJ}{es:List YJ}{t:TG}{u:TGs}(h1:PG X e t)(h2:PGs X es u)
  (hs:(JT (e::es) X.env).map (·.2)=assign e X.env::(JT es X.env).map (·.2):=by rfl):PGs X (e::es) (Yfy t u):=by
 intro pins s O H vs us Q I r h;obtain⟨v,vr,e1,h⟩:=h;subst e1;cases r with
 | cons r rr=>
  rw[hs];refine assignInOrder_cons (thn (h1 pins s O H _ _ _ I r h) λ_ s1 qz9=>?_);obtain⟨O1,H1,I1,q1⟩:=qz9;exact h2 pins s1 O1 H1 _ _ Q I1 rr q1
def Ykh(K:Xc)(n:Nat)(t:TGs):TG:=λv O H Q=>∃a xs,v= .ref a/\SqT K H a xs/\xs.length=n/\t xs O H Q
def Z63{es:List YJ}{k:Nat}{t:TGs}{n:Nat}(hc:X.calm=YD)(h:PGs X es t)
  (hn:(JT es X.env).length=n:=by rfl) (hst:(JT es X.env).findIdx? (·.1)=YC:=by rfl):PG X (.Tuple es k pos) (Ykh X.K n t):=by
 intro pins s O H v u Q I r hw;obtain⟨a,xs,e1,hq,hl,hw⟩:=hw;subst e1;cases r;obtain⟨its,rv,ht,hz⟩:=I.tuple hq;refine assign_Tuple_tuple (I.ok.hd hc) ht (by simp[hn,<-hl,rv.length]) hst λh' hx=>?_;have I1:Inv X pins O H { s with heap:=h' }:=I.kept (t':=s.toks) λb o e=>hx b o (Xr (XH e)) e;exact h pins _ O H xs _ Q I1 (by simpa using rv) hw
def Ygh(to ti:TE)(t:Yd3):TG:=λv O H Q=>to O H λo H1=>ti O H1 λi H2=>t o i v H2 λH3=>Q O H3
def Z5y{o i:YJ}{to ti:TE}{t:Yd3}(ho:PE X o to)(hi:PE X i ti)(hs:Yit X t)
  (ha:∀v,assign (.Subscript o i pos) X.env v=(do
   let ov<-holding [v] (eval o X.env);let iv<-holding [v,ov] (eval i X.env)
   standAt pos
   holding [v,ov,iv] (setItem ov iv v)
   release [v,ov,iv] []):=by intro _;rfl):PG X (.Subscript o i pos) (Ygh to ti t):=by
 intro pins s O H v u Q I r h;rw[ha];refine Xb (JR (thn (ho pins s O H _ I h) λov s1 qz9=>?_));obtain⟨x,H1,I1,r1,q1⟩:=qz9;refine Xb (JR (thn (hi pins s1 O H1 _ I1 q1) λiv s2 qz9=>?_));obtain⟨y,H2,I2,r2,q2⟩:=qz9;refine Xb (wpAny_standAt (Xb (JR (thn (hs pins s2 O H2 x y v ov iv u _ I2 r1 r2 r q2) λ_ s3 qz9=>?_))));obtain⟨H3,I3,q3⟩:=qz9;exact wpAny_release ⟨O,H3,I3,q3⟩
def Z97(te:TE)(g:TG):TS:=λD O H=>te O H λx H1=>g x O H1 D.nx
def Zzt{tg e:YJ}{te:TE}{g:TG}(he:PE X e te)(hg:PG X tg g)(hs:swapsWithSole [tg] e pos.line X.env=pure YF:=by rfl)(hw:swappedStores [tg] e X.env=pure YC:=by rfl)
  (h1:(JT [tg] X.env).map (·.2)=[assign tg X.env]:=by rfl):PS X (.Assign [tg] e pos) (Z97 te g):=by
 intro pins s O H D I h;refine wpAny_Assign_stores (thn (he pins s O H _ I h) λv s1 qz9=>?_) hs hw;obtain⟨x,H1,I1,r1,q1⟩:=qz9;rw[h1];exact thn (hg pins s1 O H1 x v _ I1 r1 q1) λ_ s2 q=>q
def Zzl{i:Nat}{x:Str}{e:YJ}{te:TE}{pos':Pos}(hN:X.N.Nodup)(hi:X.N[i]? =YB x)(hx:Loc X.env.scope x)(he:PE X e te)(hs:Vi e (YB (.Name x pos')) pos.line X.env=pure YF:=by rfl)(hf:X.fn x=YD\/X.env.scope.names.lookup x=YB .local:=by first|exact .inl rfl|exact .inr rfl|assumption) :
  PS X (.Assign [.Name x pos'] e pos) (Z97 te (Zu9 i)):=by
 intro pins s O H D I h;refine wpAny_Assign_Name (thn (he pins s O H _ I h) λv s1 qz9=>?_) hs;obtain⟨y,H1,I1,r1,q1⟩:=qz9;exact Zjz I1 hN hi hx r1 (λs2 I2=>⟨_,H1,I2,q1⟩) hf
end
section
variable {X:Cx}{pos:Pos}
def Z52(c:TT)(tb:TS):TS:=λD O H=>∃W:Nat->St->Hp->Prop,(∃m,W m O H)/\∀m O H,W m O H ->
 c O H λb H1=>if b=YD then∃N:St->Hp->Prop,(∀O' H',N O' H'->∃m',m'<m/\W m' O' H')/\tb { D with nx:=N,ct:=N,bk:=D.nx } O H1 else D.nx O H1
def Zyi{c:YJ}{body:List YK}{tc:TT}{tb:TS}(hp:PassesOwn (X4 X.prog X.w) X.A X.env X.xe)(hc:PT X c tc)(hb:PSs X body tb):PS X (.While c body [] pos) (Z52 tc tb):=by
 intro pins s O H D I h;obtain⟨W,⟨m0,w0⟩,turn⟩:=h;refine wpAny_While (codeAny_whileLoop (λn s'=>∃O' H',Inv X pins O' H' s'/\W n O' H') ?_ m0 ⟨O,H,I,w0⟩);rintro n s1 ⟨O1,H1,I1,w1⟩;refine Bf hp (thn (hc pins s1 O1 H1 _ I1 (turn n O1 H1 w1)) λb s2 qz9=>?_);obtain⟨H2,I2,q2⟩:=qz9;cases b with
 | true=>
  obtain⟨N,hN,q2⟩:=q2;rw[YM rfl];refine Bf hp (thn (hb pins s2 O1 H2 _ I2 q2) λf s3 q3=>?_);cases f with
  | next=>
   obtain⟨O3,H3,I3,n3⟩:=q3;obtain⟨m',hm,w3⟩:=hN O3 H3 n3;exact⟨m',hm,O3,H3,I3,w3⟩
  | cont=>
   obtain⟨O3,H3,I3,n3⟩:=q3;obtain⟨m',hm,w3⟩:=hN O3 H3 n3;exact⟨m',hm,O3,H3,I3,w3⟩
  | brk=>exact q3
  | ret v=>exact q3
 | false=>
  rw[YQ Xx];exact wpAny_execs_nil ⟨O1,H2,I2,q2⟩
end
set_option genInjectivity false in
structure It where
 go:Nat->Hp->Prop
 yld:Nat->Hp->V->Hp->Prop
 stop:Nat->Hp->Prop
def Ziz(X:Cx)(pins:List (YG×Obj))(H:Hp)(b:YG):Prop :=
 H b=YC/\b≠X.env.locals/\b∉X.fs/\(b∈X.ex\/X.s₀.heap.objs.size<=b)/\(∀x c,X.env.cells.lookup x=YB c->c≠b)/\∀p∈X.pn++pins,p.1≠b
def Inv.fpOk{X:Cx}{pins:List (YG×Obj)}{O:St}{H H':Hp}{s:Xf}{b:YG}(I:Inv X pins O H s)(hb:s.heap.objs.size<=b)(hn:H' b=YC):Ziz X pins H' b:=by
 refine⟨hn,X5 (Qi I.lt hb),I.nofs hb,.inr (QX I.sz hb),λx c e z=>?_,λp hp z=>?_⟩
 .obtain⟨v,q⟩:=I.cell x c e
  exact YZ (Qi q.lt (by rw[z];exact hb)) (JC _)
 .exact YZ (Qi (XH (I.pin p hp).1) (by rw[z];exact hb)) (JC _)
structure Turn(P:X3)(w:Qo)(K:Xc)(tg:YJ)(J:It)(fp:List YG)(it:YG)(tn:Nat->YH->Prop):Prop where
 mem:it∈fp
 obj:∀i h,tn i h->∀b∈fp,∃o,h.get? b=YB o/\∀v,o.data≠ .cell v
 keep:∀i h h',tn i h->(∀b∈fp,∀o,h.get? b=YB o->h'.get? b=YB o)->tn i h'
 item:∀(X:Cx),X.prog=P->X.w=w->X.K=K->X.calm=YD->∀(i:Nat) (pins:List (YG×Obj)) (s:Xf) (O:St) (H:Hp) (E:Xe->Xf->Prop),Inv X pins O H s->(∀b∈fp,Ziz X pins H b)->tn i s.heap->J.go i H ->
  Xz (X4 P w) X.A (UJ (.ref it)) (λr s1=>∃u,r=YB u/\
   Xz (X4 P w) X.A (letOwnedTupleGo tg (.ref it) u) (λ_ s2=>∃x H',Inv X pins O H' s2/\RelV x u/\J.yld i H x H'/\tn (i+1) s2.heap/\∀b∈fp,H' b=YC) E s1) E s
 done:∀(X:Cx),X.prog=P->X.w=w->X.K=K->X.calm=YD->∀(i:Nat) (pins:List (YG×Obj)) (s:Xf) (O:St) (H:Hp) (E:Xe->Xf->Prop),Inv X pins O H s->(∀b∈fp,Ziz X pins H b)->tn i s.heap->J.stop i H ->
  Xz (X4 P w) X.A (UJ (.ref it)) (λr s1=>r=YC/\Inv X pins O H s1) E s
 self:∀(A:Qn) (i:Nat) (s:Xf) (Q:Xe->Xf->Prop) (E:Xe->Xf->Prop),tn i s.heap->Q (.ref it) s->Xz (X4 P w) A (pyIter (.ref it)) Q E s
abbrev TI:=St->Hp->(It->Hp->Prop)->Prop
def PIE(X:Cx)(pins:List (YG×Obj))(O:St)(tg:YJ)(R:It->Hp->Prop)(itv:Xe)(s2:Xf):Prop :=
 ∃(it:YG) (fp:List YG) (tn:Nat->YH->Prop) (J:It) (H':Hp),itv= .ref it/\Inv X pins O H' s2/\Turn X.prog X.w X.K tg J fp it tn/\tn 0 s2.heap/\(∀b∈fp,Ziz X pins H' b)/\R J H'
def PI(X:Cx)(tg iter:YJ)(wi:TI):Prop :=
 ∀(pins:List (YG×Obj)) (s:Xf) (O:St) (H:Hp) (R:It->Hp->Prop),Inv X pins O H s->wi O H R ->
  Xz (X4 X.prog X.w) X.A (eval iter X.env) (λv s1=>Xz (X4 X.prog X.w) X.A (pyIter v) (PIE X pins O tg R) X.xe s1) X.xe s
def Z1w{M:Model}{A:Qn}{E:Xe->Xf->Prop}{s:Xf}{tg:YJ}{it:YG}{u:Xe}{o:Obj}{n:String}{vs:Array Xe}{Q:Unit->Xf->Prop}(ho:s.heap.get? it=YB o)(hc:o.cls= .type n)(hd:o.data= .fields vs)
  (hn:["enumerate","zip","dict_itemiterator","dict_reverseitemiterator","odict_iterator","itertools.zip_longest","itertools.pairwise"].contains n=YF) (hQ:Q () s):Xz M A (letOwnedTupleGo tg (.ref it) u) Q E s:=by
 unfold letOwnedTupleGo;cases tg<;>first
  | exact Xl hQ
  | (cases u<;>first
    | exact Xl hQ
    | (refine Xb (wpAny_load ho ?_)
       rw[hc,hd];show Xz M A (if(["enumerate","zip","dict_itemiterator","dict_reverseitemiterator","odict_iterator","itertools.zip_longest","itertools.pairwise"].contains n&&vs[0]? ==YB (JP _))=YD then _ else _) Q E s;rw[YQ (by intro h;rw[hn,Bool.false_and]at h;cases h)];exact Xl hQ))
def Itl(K:Xc)(a:YG):It :=
 ⟨λi H=>∃xs x,SqL K H a xs/\xs[i]? =YB x,λi H x H'=>H'=H/\∀xs,SqL K H a xs->xs[i]? =YB x,λi H=>∃xs,SqL K H a xs/\xs.length<=i⟩
def Itt(K:Xc)(a:YG):It :=
 ⟨λi H=>∃xs x,SqT K H a xs/\xs[i]? =YB x,λi H x H'=>H'=H/\∀xs,SqT K H a xs->xs[i]? =YB x,λi H=>∃xs,SqT K H a xs/\xs.length<=i⟩
def Itr(lo:Int)(n:Nat):It:=⟨λi _=>i<n,λi H x H'=>H'=H/\x= .int (lo+i),λi _=>n<=i⟩
def Zth{P:X3}{w:Qo}{K:Xc}{tg:YJ}(a it:YG):Turn P w K tg (Itl K a) [it] it (λi h=>h.IsListIter it a i) where
 mem:=by simp
 obj:=λi h st b hb=>by
  have e:b=it:=by simpa using hb
  subst e;obtain⟨o,e,c,d⟩:=st;exact⟨o,e,λv z=>by rw[d]at z;cases z⟩
 keep:=λi h h' st k=>st.at λo e=>k it (by simp) o e
 item:=by
  intro X hP hw hK hc i pins s O H E I hf st hg;subst hP hw hK;obtain⟨xs,x,hq,hx⟩:=hg;obtain⟨its,rv,p,hz⟩:=I.list hq;obtain⟨u,hu,ru⟩:=rv.get hx;obtain⟨f0,f1,f2,f3,f4,f5⟩:=hf it (by simp);refine wpAny_pyNext_list_item st p.isList (x:=u) (by simpa using hu) λh' st' sb=>?_;have I1:Inv X pins O H { s with heap:=h' }:=I.turned (t':=s.toks) (λb o hb e=>(sb.2 b hb).trans e) f0 f1 f3 f4 f5;obtain⟨o,e,c,d⟩:=id st';exact⟨u,rfl,Z1w (s:={ s with heap:=h' }) e c d (!1) ⟨x,H,I1,ru,⟨rfl,λys hy=>by rw[I.list_inj hy hq];exact hx⟩,st',λb hb=>(hf b hb).1⟩⟩
 done:=by
  intro X hP hw hK hc i pins s O H E I hf st hg;subst hP hw hK;obtain⟨xs,hq,hx⟩:=hg;obtain⟨its,rv,p,hz⟩:=I.list hq;obtain⟨f0,f1,f2,f3,f4,f5⟩:=hf it (by simp);have hl:=rv.length;exact wpAny_pyNext_list_end (I.ok.hd hc) st p.isList (by simp;omega) λh' eb=>⟨rfl,I.turned (t':=s.toks) (λb o hb e=>eb b o hb e) f0 f1 f3 f4 f5⟩
 self:=λ_ _ _ _ _ st h=>wpAny_pyIter_listiter st h
def Zpw{P:X3}{w:Qo}{K:Xc}{tg:YJ}(a it:YG):Turn P w K tg (Itt K a) [it] it (λi h=>h.IsTupleIter it a i) where
 mem:=by simp
 obj:=λi h st b hb=>by
  have e:b=it:=by simpa using hb
  subst e;obtain⟨o,e,c,d⟩:=st;exact⟨o,e,λv z=>by rw[d]at z;cases z⟩
 keep:=λi h h' st k=>st.at λo e=>k it (by simp) o e
 item:=by
  intro X hP hw hK hc i pins s O H E I hf st hg;subst hP hw hK;obtain⟨xs,x,hq,hx⟩:=hg;obtain⟨its,rv,p,hz⟩:=I.tuple hq;obtain⟨u,hu,ru⟩:=rv.get hx;obtain⟨f0,f1,f2,f3,f4,f5⟩:=hf it (by simp);refine wpAny_pyNext_tuple_item st (show s.heap.IsTuple a its.toArray from p) (x:=u) (by simpa using hu) λh' st' sb=>?_;have I1:Inv X pins O H { s with heap:=h' }:=I.turned (t':=s.toks) (λb o hb e=>(sb.2 b hb).trans e) f0 f1 f3 f4 f5;obtain⟨o,e,c,d⟩:=id st';exact⟨u,rfl,Z1w (s:={ s with heap:=h' }) e c d (!1) ⟨x,H,I1,ru,⟨rfl,λys hy=>by rw[I.tuple_inj hy hq];exact hx⟩,st',λb hb=>(hf b hb).1⟩⟩
 done:=by
  intro X hP hw hK hc i pins s O H E I hf st hg;subst hP hw hK;obtain⟨xs,hq,hx⟩:=hg;obtain⟨its,rv,p,hz⟩:=I.tuple hq;obtain⟨f0,f1,f2,f3,f4,f5⟩:=hf it (by simp);have hl:=rv.length;exact wpAny_pyNext_tuple_end (I.ok.hd hc) st (show s.heap.IsTuple a its.toArray from p) (by simp;omega) λh' eb=>⟨rfl,I.turned (t':=s.toks) (λb o hb e=>eb b o hb e) f0 f1 f3 f4 f5⟩
 self:=λ_ _ _ _ _ st h=>wpAny_pyIter_tupleiter st h
def Zqm{P:X3}{w:Qo}{K:Xc}{tg:YJ}(it:YG)(lo:Int)(n:Nat):Turn P w K tg (Itr lo n) [it] it (λi h=>IsRangeIter h it (lo+(i:Nat)*1) ((n:Int)-(i:Nat)) 1) where
 mem:=by simp
 obj:=λi h st b hb=>by
  have e:b=it:=by simpa using hb
  subst e;exact⟨_,st,λv z=>by
   have z':Data.fields _=Data.cell v:=z;cases z'⟩
 keep:=λi h h' st k=>k it (by simp) _ st
 item:=by
  intro X hP hw hK hc i pins s O H E I hf st hg;subst hP hw hK;obtain⟨f0,f1,f2,f3,f4,f5⟩:=hf it (by simp);have W:=Walks.range (prog:=X.prog) (w:=X.w) (I.ok.hd hc) it lo 1 n;refine W.item i s _ _ hg st λv h' tk hv st' kk=>?_;obtain⟨t,rfl⟩:=hv;have I1:Inv X pins O H { s with heap:=h',toks:=tk }:=I.turned (λb o hb e=>kk b o (by simpa using hb) e) f0 f1 f3 f4 f5;refine⟨_,rfl,Z1w (s:={ s with heap:=h',toks:=tk }) (n :="range_iterator") st' rfl rfl (!1) ⟨.int (lo+i),H,I1,⟨t,?_⟩,⟨rfl,rfl⟩,st',λb hb=>(hf b hb).1⟩⟩;rw[Int.mul_one]
 done:=by
  intro X hP hw hK hc i pins s O H E I hf st hg;subst hP hw hK;obtain⟨f0,f1,f2,f3,f4,f5⟩:=hf it (by simp);exact wpAny_pyNext_range_end (I.ok.hd hc) st (by have:n<=i:=hg;omega) λh' eb=>⟨rfl,I.turned (t':=s.toks) (λb o hb e=>eb b o hb e) f0 f1 f3 f4 f5⟩
 self:=λ_ _ _ _ _ st h=>wpAny_pyIter_rangeiter st h
end L2
open PySem PySem.Spec L2
variable {a:YG}{X:Cx}{e b tg iter:YJ}{h h':YH}{H H' H1 H2:Hp}{lo:Int}{pins:List (YG×Obj)}{ch:List YG}{es:List YJ}{body:List YK}{N:List Str}{us:List Xe}{M:Model}{i t' j:Nat}{o:Obj}{pos pos':Pos}{A:Qn}{w:Qo}{st:YK}{x:Str}{ta tb te to tl:TE}{Y β:Type}{P:X3}{K:Xc}{u:Xe}{E Q:Xe->Xf->Prop}{s s':Xf}
namespace L2
open PySem PySem.Spec PyProof.Rows
def Ya2(K:Xc)(tl:TE):TI:=λO H R=>tl O H λx H1=>∃a,x= .ref a/\(∃xs,SqL K H1 a xs)/\R (Itl K a) H1
def Yhx(K:Xc)(tl:TE):TI:=λO H R=>tl O H λx H1=>∃a,x= .ref a/\(∃xs,SqT K H1 a xs)/\R (Itt K a) H1
def Z40{l:YJ}(hl:PE X l tl):PI X tg l (Ya2 X.K tl):=by
 intro pins s O H R I h;refine thn (hl pins s O H _ I h) λv s1 qz9=>?_;obtain⟨x,H1,I1,r1,q1⟩:=qz9;obtain⟨a,e,⟨xs,hq⟩,q⟩:=q1;subst e;cases r1;obtain⟨its,rv,p,hz⟩:=I1.list hq;refine wpAny_pyIter_list p.isList ?_;refine⟨s1.heap.objs.size,[s1.heap.objs.size],_,_,H1,rfl,I1.kept (t':=s1.toks) λb o e=>Xg _ e,Zth a _,⟨_,XQ _ rfl,rfl,rfl⟩,λb hb=>?_,q⟩;have e:b=s1.heap.objs.size:=by simpa using hb
 subst e;exact I1.fpOk (XD _) (I1.hok.fresh (XD _))
def Z7h{l:YJ}(hl:PE X l tl):PI X tg l (Yhx X.K tl):=by
 intro pins s O H R I h;refine thn (hl pins s O H _ I h) λv s1 qz9=>?_;obtain⟨x,H1,I1,r1,q1⟩:=qz9;obtain⟨a,e,⟨xs,hq⟩,q⟩:=q1;subst e;cases r1;obtain⟨its,rv,p,hz⟩:=I1.tuple hq;refine wpAny_pyIter_tuple (show s1.heap.IsTuple a its.toArray from p) ?_;refine⟨s1.heap.objs.size,[s1.heap.objs.size],_,_,H1,rfl,I1.kept (t':=s1.toks) λb o e=>Xg _ e,Zpw a _,⟨_,XQ _ rfl,rfl,rfl⟩,λb hb=>?_,q⟩;have e:b=s1.heap.objs.size:=by simpa using hb
 subst e;exact I1.fpOk (XD _) (I1.hok.fresh (XD _))
def Zn5{O:St}{R:It->Hp->Prop}{hi:Int}{t u v:Tok}{tk:Nat}(I:Inv X pins O H s)(h1:-(2^62)<=lo)(h2:lo<2^62)(h3:-(2^62)<=hi)(h4:hi<2^62)
  (q:R (Itr lo (hi-lo).toNat) H):Xz (X4 X.prog X.w) X.A (pyIter (.ref s.heap.objs.size)) (PIE X pins O tg R) E { s with heap:=s.heap.push { cls:=.type "range",data:=.fields #[.int lo t,.int hi u,.int 1 v] },toks:=tk }:=by
 refine wpAny_pyIter_range (IsRange.new ..) (small_one h1 h2 h3 h4) ?_;have I1:Inv X pins O H { s with heap:=s.heap.push { cls:=.type "range",data:=.fields #[.int lo t,.int hi u,.int 1 v] },toks:=tk }:=I.kept λb o e=>Xg _ e;refine⟨(s.heap.push { cls:=.type "range",data:=.fields #[.int lo t,.int hi u,.int 1 v] }).objs.size,[(s.heap.push { cls:=.type "range",data:=.fields #[.int lo t,.int hi u,.int 1 v] }).objs.size],_,_,H,rfl,
  I1.kept (t':=tk) λb o e=>Xg _ e,Zqm _ lo (hi-lo).toNat,?_,λb hb=>?_,q⟩
 .have e1:lo+((0:Nat):Int)*1=lo:=by simp
  have e2:(((hi-lo).toNat:Nat):Int)-((0:Nat):Int)=Builtin.Range.rangeSize lo hi 1:=by rw[rangeSize_one];split<;>omega
  show IsRangeIter _ _ (lo+((0:Nat):Int)*1) ((((hi-lo).toNat:Nat):Int)-((0:Nat):Int)) 1;rw[e1,e2];exact XQ _ rfl
 .have e:b=(s.heap.push { cls:=.type "range",data:=.fields #[.int lo t,.int hi u,.int 1 v] }).objs.size:=by simpa using hb
  subst e;exact I1.fpOk (XD _) (I1.hok.fresh (XD _))
def Ydy(ta:TA):TI:=λO H R=>ta O H λvs H1=>∃j:Int,vs=[.int j]/\-(2^62)<=j/\j<2^62/\R (Itr 0 j.toNat) H1
def Yfd(ta:TA):TI:=λO H R=>ta O H λvs H1=>∃i j:Int,vs=[.int i,.int j]/\(-(2^62)<=i/\i<2^62/\-(2^62)<=j/\j<2^62)/\R (Itr i (j-i).toNat) H1
def Zt0{a:YJ}{ta:TA}{p:Pos}(hg:Gl X "range")(hm:X.mg "range"=YC)(ha:PA X [a] ta)(hs:Xo [a] X.env=[(YF,eval a X.env)]:=by rfl):PI X tg (.Call (.Name "range" p) [a] [] pos) (Ydy ta):=by
 intro pins s O H R I h;refine Call_ (Zcc I hg hm boot_range (JH (thn (ha pos pins s O H _ I h) λus s1 qz9=>?_) hs rfl));obtain⟨vs,H1,I1,r1,q1⟩:=qz9;obtain⟨j,e,q1,q2,q⟩:=q1;subst e;cases r1 with
 | cons r rr=>
  cases rr;obtain⟨t,rfl⟩:=r;exact call_range_1 (Zn5 I1 (!0) (!0) q1 q2 (by simpa using q))
def Zr7{a:YJ}{ta:TA}{p:Pos}(hg:Gl X "range")(hm:X.mg "range"=YC)(ha:PA X [a,b] ta)(hs:Xo [a,b] X.env=[(YF,eval a X.env),(YF,eval b X.env)]:=by rfl)(hs2:Xo [b] X.env=[(YF,eval b X.env)]:=by rfl) :
  PI X tg (.Call (.Name "range" p) [a,b] [] pos) (Yfd ta):=by
 intro pins s O H R I h;refine Call_ (Zcc I hg hm boot_range (JH (thn (ha pos pins s O H _ I h) λus s1 ⟨vs,H1,I1,r1,q1⟩=>?_) (by rw[hs,hs2]) (by rw[hs2];rfl)));obtain⟨i,j,e,⟨q1,q2,q3,q4⟩,q⟩:=q1;subst e;cases r1 with
 | cons r rr=>
  cases rr with
  | cons r' rr=>
   cases rr;obtain⟨t,rfl⟩:=r;obtain⟨t',rfl⟩:=r';exact call_range_2 (Zn5 I1 q1 q2 q3 q4 q)
def Yiz(wi:TI)(g:TG)(tb:TS):TS:=λD O H=>wi O H λJ H1=>∃W:Nat->Nat->St->Hp->Prop,(∃m,W 0 m O H1)/\∀i m O H,W i m O H ->
 (J.stop i H/\D.nx O H)\/(J.go i H/\∃N:St->Hp->Prop,(∀O' H',N O' H'->∃m',m'<m/\W (i+1) m' O' H')/\∀x H',J.yld i H x H'->g x O H' λO2 H2=>tb { D with nx:=N,ct:=N,bk:=D.nx } O2 H2)
def Zi2(fp:List YG)(h:YH):List (YG×Obj):=fp.filterMap λb=>(h.get? b).map λo=>(b,o)
theorem J3{fp:List YG}{b:YG}(hb:b∈fp)(e:h.get? b=YB o):(b,o)∈Zi2 fp h:=List.mem_filterMap.mpr ⟨b,hb,by rw[e];rfl⟩
def Zsr{fp:List YG}{p:YG×Obj}(hp:p∈Zi2 fp h):p.1∈fp/\h.get? p.1=YB p.2:=by
 obtain⟨b,hb,e⟩:=List.mem_filterMap.mp hp;cases q:h.get? b with
 | none=>rw[q]at e;cases e
 | some o=>
  rw[q]at e;have e':(b,o)=p:=QR e;subst e';exact⟨hb,q⟩
theorem Inv.pinned{O:St}{fp:List YG}(I:Inv X pins O H s)(hf:∀b∈fp,Ziz X pins H b)(ho:∀b∈fp,∃o,s.heap.get? b=YB o/\∀v,o.data≠ .cell v):Inv X (pins++Zi2 fp s.heap) O H s :=
 I.pins_of λp hp=>(Qp.mp hp).elim (λz=>I.pin p (XR _ z)) λz=>by
  obtain⟨hb,e⟩:=Zsr z;obtain⟨f0,f1,f2,_⟩:=hf p.1 hb;obtain⟨o,e',d⟩:=ho p.1 hb;rw[e]at e';cases e';exact⟨e,f0,f1,f2,d⟩
theorem Inv.unpinned{pl:List (YG×Obj)}{O:St}(I:Inv X (pins++pl) O H s):Inv X pins O H s:=I.pins_of λp hp=>I.pin p (XR _ (Qw _ hp))
def Ybc{wi:TI}{g:TG}{tb:TS}(hp:PassesOwn (X4 X.prog X.w) X.A X.env X.xe)(hc:X.calm=YD)(hi:PI X tg iter wi)(hg:PG X tg g)(hb:PSs X body tb)
  (hs:∀x,JX iter X.env x=pure x:=by intro _;rfl):PS X (.For tg iter body [] pos) (Yiz wi g tb):=by
 intro pins s O H D I h;refine wpAny_For (thn (hi pins s O H _ I h) λv s1 h1=>thn h1 λitv s2 h2=>?_) hs;obtain⟨it,fp,tn,J,H2,e,I2,T,st2,f2,W,⟨m0,w0⟩,turn⟩:=h2;subst e
 -- what stays YD of the iterator's objects through the loop
 have stat:∀{H':Hp},(∀b∈fp,H' b=YC)->∀b∈fp,Ziz X pins H' b:=λhn b hb=>⟨hn b hb,(f2 b hb).2⟩;refine codeAny_forLoop_any (λn s'=>∃i O' H',Inv X pins O' H' s'/\tn i s'.heap/\(∀b∈fp,H' b=YC)/\W i n O' H') ?_ m0 ⟨0,O,H2,I2,st2,λb hb=>(f2 b hb).1,w0⟩;rintro n s3 ⟨i,O3,H3,I3,st3,fr3,w3⟩;rcases turn i n O3 H3 w3 with⟨stop,qn⟩|⟨go,N,hN,step⟩
 .refine Bf hp (thn (T.done X rfl rfl rfl hc i pins s3 O3 H3 X.xe I3 (stat fr3) st3 stop) λr s4 qz9=>?_)
  obtain⟨hr,I4⟩:=qz9;subst hr;exact wpAny_execs_nil ⟨O3,H3,I4,qn⟩
 .refine Bf hp (thn (T.item X rfl rfl rfl hc i pins s3 O3 H3 X.xe I3 (stat fr3) st3 go) λr s4 qz9=>?_)
  obtain⟨u,hr,h4⟩:=qz9;subst hr;refine Bf hp (thn h4 λ_ s5 qz9=>?_);obtain⟨x,H5,I5,r5,y5,st5,fr5⟩:=qz9;have I5':=I5.pinned (stat fr5) (T.obj _ _ st5);refine Bf hp (thn (hg _ s5 O3 H5 x u _ I5' r5 (step x H5 y5)) λ_ s6 qz9=>?_);obtain⟨O6,H6,I6,q6⟩:=qz9;refine Bf hp (thn (hb _ s6 O6 H6 _ I6 q6) λf s7 q7=>?_);have again:∀{O7:St} {H7:Hp},Inv X (pins++Zi2 fp s5.heap) O7 H7 s7->N O7 H7->∃m,m<n/\∃i O' H',Inv X pins O' H' s7/\tn i s7.heap/\(∀b∈fp,H' b=YC)/\W i m O' H':=fun{O7 H7} I7 n7=>by
   obtain⟨m',hm,w7⟩:=hN O7 H7 n7;refine⟨m',hm,i+1,O7,H7,I7.unpinned,T.keep _ _ _ st5 λb hb o e=>(I7.pin (b,o) (XR _ (XR _ (J3 hb e)))).1,λb hb=>?_,w7⟩;obtain⟨o,e,d⟩:=T.obj _ _ st5 b hb;exact(I7.pin (b,o) (XR _ (XR _ (J3 hb e)))).2.1
  cases f with
  | next=>obtain⟨O7,H7,I7,n7⟩:=q7;exact again I7 n7
  | cont=>obtain⟨O7,H7,I7,n7⟩:=q7;exact again I7 n7
  | brk=>obtain⟨O7,H7,I7,q7⟩:=q7;exact⟨O7,H7,I7.unpinned,q7⟩
  | ret v=>obtain⟨x7,O7,H7,I7,r7,q7⟩:=q7;exact⟨x7,O7,H7,I7.unpinned,r7,q7⟩
abbrev R2:=V->V->Hp->VK->Prop
def OpR(X:Cx)(f:Xe->Xe->Sem Xe)(r:R2):Prop :=
 ∀(pins:List (YG×Obj)) (s:Xf) (O:St) (H:Hp) (x y:V) (v u:Xe) (Q:VK),Inv X pins O H s->RelV x v->RelV y u->r x y H Q ->
  Xz (X4 X.prog X.w) X.A (f v u) (EP X pins O Q) X.xe s
def UnR(X:Cx)(f:Xe->Sem Xe)(r:V->Hp->VK->Prop):Prop :=
 ∀(pins:List (YG×Obj)) (s:Xf) (O:St) (H:Hp) (x:V) (v:Xe) (Q:VK),Inv X pins O H s->RelV x v->r x H Q ->
  Xz (X4 X.prog X.w) X.A (f v) (EP X pins O Q) X.xe s
def Zc0(X:Cx)(f:Xe)(r:List V->Hp->VK->Prop):Prop :=
 ∀(pins:List (YG×Obj)) (s:Xf) (O:St) (H:Hp) (xs:List V) (us:List Xe) (Q:VK),Inv X pins O H s->Vals xs us->r xs H Q ->
  Xz (X4 X.prog X.w) X.A (call f us) (EP X pins O Q) X.xe s
def Yj5(X:Cx)(r:V->Hp->(Bool->Hp->Prop)->Prop):Prop :=
 ∀(pins:List (YG×Obj)) (s:Xf) (O:St) (H:Hp) (x:V) (v:Xe) (Q:Bool->Hp->Prop),Inv X pins O H s->RelV x v->r x H Q ->
  Xz (X4 X.prog X.w) X.A (truthy v) (TP X pins O Q) X.xe s
def tOp(r:R2)(ta tb:TE):TE:=λO H Q=>ta O H λx H1=>tb O H1 λy H2=>r x y H2 Q
def tUn(r:V->Hp->VK->Prop)(ta:TE):TE:=λO H Q=>ta O H λx H1=>r x H1 Q
def rI(C:Int->Int->Prop)(g:Int->Int->V):R2:=λx y H Q=>∃i j,x= .int i/\y= .int j/\C i j/\Q (g i j) H
def rI0(g:Int->Int->V):R2:=λx y H Q=>∃i j,x= .int i/\y= .int j/\Q (g i j) H
def rU(g:Int->V):V->Hp->VK->Prop:=λx H Q=>∃i,x= .int i/\Q (g i) H
section
variable {a c:YJ}{tc:TE}
def Ydf(ha:PE X a ta)(hb:PE X b tb){O:St}{R:V->V->Hp->Prop}(I:Inv X pins O H s)
  (h:ta O H λx H1=>tb O H1 λy H2=>R x y H2)  {f:Xe->Xe->Sem Xe}
  (hf:∀v u s2 x y H2,Inv X pins O H2 s2->RelV x v->RelV y u->R x y H2->Xz (X4 X.prog X.w) X.A (f v u) Q X.xe s2) :
  Xz (X4 X.prog X.w) X.A (eval a X.env) (λv s₁=>Xz (X4 X.prog X.w) X.A (eval b X.env) (λu s₂=>Xz (X4 X.prog X.w) X.A (f v u) Q X.xe s₂) X.xe s₁) X.xe s:=by
 refine thn (ha pins s O H _ I h) λv s1 qz9=>?_;obtain⟨x,H1,I1,r1,q1⟩:=qz9;refine thn (hb pins s1 O H1 _ I1 q1) λu s2 qz9=>?_;obtain⟨y,H2,I2,r2,q2⟩:=qz9;exact hf v u s2 x y H2 I2 r1 r2 q2
def Z16{op:Operator}{r:R2}(ho:OpR X (V0 op) r)(ha:PE X a ta)(hb:PE X b tb):PE X (.BinOp a op b pos) (tOp r ta tb):=by
 intro pins s O H Q I h;exact wpAny_BinOp (Ydf ha hb I h λv u s2 x y H2 I2 rx ry q=>ho pins s2 O H2 x y v u Q I2 rx ry q)
def Yfa{op:UnaryOp}{r:V->Hp->VK->Prop}(ho:UnR X (unaryOp op) r)(ha:PE X a ta):PE X (.UnaryOp op a pos) (tUn r ta):=by
 intro pins s O H Q I h;refine UnaryOp_ (thn (ha pins s O H _ I h) λv s1 qz9=>?_);obtain⟨x,H1,I1,r1,q1⟩:=qz9;exact ho pins s1 O H1 x v Q I1 r1 q1
def opI{f:Xe->Xe->Sem Xe}{C:Int->Int->Prop}{g:Int->Int->Int}
  (rule:∀(i j:Int) (t u:Tok) (s:Xf) (Q:Xe->Xf->Prop) (E:Xe->Xf->Prop),C i j->Q (.int (g i j) s.toks) { s with toks:=s.toks+1 }->Xz (X4 X.prog X.w) X.A (f (.int i t) (.int j u)) Q E s) :
  OpR X f (rI C λi j=>.int (g i j)):=by
 intro pins s O H x y v u Q I rx ry h;obtain⟨i,j,rfl,rfl,hc,q⟩:=h;obtain⟨t,rfl⟩:=rx;obtain⟨t',rfl⟩:=ry;exact rule i j t t' s _ _ hc ⟨.int (g i j),H,I.tok _,⟨_,rfl⟩,q⟩
def Ygf{f:Xe->Xe->Sem Xe}{g:Int->Int->Int}
  (rule:∀(i j:Int) (t u:Tok) (s:Xf) (Q:Xe->Xf->Prop) (E:Xe->Xf->Prop),Q (.int (g i j) s.toks) { s with toks:=s.toks+1 }->Xz (X4 X.prog X.w) X.A (f (.int i t) (.int j u)) Q E s) :
  OpR X f (rI0 λi j=>.int (g i j)):=by
 intro pins s O H x y v u Q I rx ry h;obtain⟨i,j,rfl,rfl,q⟩:=h;obtain⟨t,rfl⟩:=rx;obtain⟨t',rfl⟩:=ry;exact rule i j t t' s _ _ ⟨.int (g i j),H,I.tok _,⟨_,rfl⟩,q⟩
def Ybn{f:Xe->Xe->Sem Xe}{g:Int->Int->Bool}
  (rule:∀(i j:Int) (t u:Tok) (s:Xf) (Q:Xe->Xf->Prop) (E:Xe->Xf->Prop),Q (.bool (g i j)) s->Xz (X4 X.prog X.w) X.A (f (.int i t) (.int j u)) Q E s) :
  OpR X f (rI0 λi j=>.bl (g i j)):=by
 intro pins s O H x y v u Q I rx ry h;obtain⟨i,j,rfl,rfl,q⟩:=h;obtain⟨t,rfl⟩:=rx;obtain⟨t',rfl⟩:=ry;exact rule i j t t' s _ _ ⟨.bl (g i j),H,I,rfl,q⟩
def Ybk(i j:Int):Prop:=0<=j/\j<=1000000/\i.natAbs<2^64
def CMul(i j:Int):Prop:=(-(2^64)<i/\i<2^64)\/(-(2^64)<j/\j<2^64)
theorem CMul.ok{i j:Int}(h:CMul i j):IntMulOk i j:=by
 rcases h with⟨h1,h2⟩|⟨h1,h2⟩
 .exact .of_left (intBits_le_64 h1 h2)
 .exact .of_right (intBits_le_64 h1 h2)
def Yaj:OpR X (V0 .Add) (rI0 λi j=>.int (i+j)):=Ygf λ_ _ _ _ _ _ _ q=>add_int q
def Ya9:OpR X (V0 .Sub) (rI0 λi j=>.int (i-j)):=Ygf λ_ _ _ _ _ _ _ q=>sub_int q
def Z41:OpR X (V0 .Mod) (rI (λ_ j=>j≠0) λi j=>.int (i.fmod j)):=opI λ_ _ _ _ _ _ _ hc q=>mod_int' hc q
def Ya1:OpR X (V0 .Pow) (rI Ybk λi j=>.int (i^j.toNat)):=opI λ_ _ _ _ _ _ _ hc q=>pow_int_small hc.1 hc.2.1 hc.2.2 q
def unI{f:Xe->Sem Xe}{g:Int->Int}
  (rule:∀(i:Int) (t:Tok) (s:Xf) (Q:Xe->Xf->Prop) (E:Xe->Xf->Prop),Q (.int (g i) s.toks) { s with toks:=s.toks+1 }->Xz (X4 X.prog X.w) X.A (f (.int i t)) Q E s) :
  UnR X f (rU λi=>.int (g i)):=by
 intro pins s O H x v Q I rx h;obtain⟨i,rfl,q⟩:=h;obtain⟨t,rfl⟩:=rx;exact rule i t s _ _ ⟨.int (g i),H,I.tok _,⟨_,rfl⟩,q⟩
def Z5l:UnR X (unaryOp .USub) (rU λi=>.int (-i)):=unI λ_ _ _ _ _ q=>neg_int q
end
section
variable {a c:YJ}{tc:TE}
def Z8c{O:St}{Q:VK}{k k':Bool}(I:Inv X pins O H s)(q:Q (.bl k) H)(e:k=k'):EP X pins O Q (.bool k') s:=by
 subst e;exact⟨.bl k,H,I,rfl,q⟩
def Zlr:OpR X (QL .Lt) (rI0 λi j=>.bl (decide (i<j))):=Ybn λ_ _ _ _ _ _ _ q=>lt_int q
def Zs4:OpR X (QL .LtE) (rI0 λi j=>.bl (decide (i<=j))):=Ybn λ_ _ _ _ _ _ _ q=>le_int q
def Yew:OpR X (QL .Gt) (rI0 λi j=>.bl (decide (j<i))):=Ybn λ_ _ _ _ _ _ _ q=>gt_int q
def Ydu:OpR X (QL .GtE) (rI0 λi j=>.bl (decide (j<=i))):=Ybn λ_ _ _ _ _ _ _ q=>ge_int q
def Zmq:OpR X (QL .IsNot) (λx y H Q=>y= .non/\Q (.bl (!decide (x= .non))) H):=by
 intro pins s O H x y v u Q I rx ry h;obtain⟨rfl,q⟩:=h;cases ry;refine isnot_none_gen (Z8c I q ?_);cases x<;>first
  | (cases rx;rfl)
  | (obtain⟨t,rfl⟩:=rx;rfl)
def J4(b:YJ){op:CmpOp}(h:op≠ .In:=by decide)(h2:op≠ .NotIn:=by decide):behindInMarks op b=YF:=by
 have e1:(op==CmpOp.In)=YF:=by cases op<;>first|rfl|exact YZ rfl h
 have e2:(op==CmpOp.NotIn)=YF:=by cases op<;>first|rfl|exact YZ rfl h2
 cases b<;>simp[behindInMarks,e1,e2]
def Z19{op:CmpOp}{r:R2}(ho:OpR X (QL op) r)(ha:PE X a ta)(hb:PE X b tb)(hm:behindInMarks op b=YF):PE X (.Compare a [op] [b] pos) (tOp r ta tb):=by
 intro pins s O H Q I h;exact wpAny_Compare1 (Ydf ha hb I h λv u s2 x y H2 I2 rx ry q=>ho pins s2 O H2 x y v u Q I2 rx ry q) hm
def Zxm(t:TE):TT:=λO H Q=>t O H λx H'=>∃k,x= .bl k/\Q k H'
def Z3c{op:CmpOp}{r:R2}(ho:OpR X (QL op) r)(ha:PE X a ta)(hb:PE X b tb)(hm:behindInMarks op b=YF):PT X (.Compare a [op] [b] pos) (Zxm (tOp r ta tb)):=by
 intro pins s O H Q I h;refine wpAny_isTrue_Compare1 (thn (ha pins s O H _ I h) λv s1 ⟨x,H1,I1,r1,q1⟩=>thn (hb pins s1 O H1 _ I1 q1) λu s2 ⟨y,H2,I2,r2,q2⟩=>
  thn (ho pins s2 O H2 x y v u _ I2 r1 r2 q2) λc s3 ⟨z,H3,I3,r3,k,e,q3⟩=>?_) hm
 subst e;cases r3;exact JV ⟨H3,I3,q3⟩
def Zsg(r r':R2)(ta tb tc:TE):TE:=λO H Q=>ta O H λx H1=>tb O H1 λy H2=>r x y H2 λz H3=>∃k,z= .bl k/\
 (if k=YD then tc O H3 λw' H4=>r' y w' H4 Q else Q (.bl YF) H3)
def Zwa{op op':CmpOp}{r r':R2}(ho:OpR X (QL op) r)(ho':OpR X (QL op') r')(ha:PE X a ta)(hb:PE X b tb)(hc:PE X c tc)
  (hm:lastMarks [op,op'] [b,c]=YF:=by with_unfolding_all rfl):PE X (.Compare a [op,op'] [b,c] pos) (Zsg r r' ta tb tc):=by
 intro pins s O H Q I h;refine Compare_chain (thn (ha pins s O H _ I h) λv s1 ⟨x,H1,I1,r1,q1⟩=>chain_link (thn (hb pins s1 O H1 _ I1 q1) λu s2 ⟨y,H2,I2,r2,q2⟩=>
  thn (ho pins s2 O H2 x y v u _ I2 r1 r2 q2) λd s3 ⟨z,H3,I3,r3,k,e,q3⟩=>?_)) hm
 subst e;cases r3;refine JV ?_;cases k with
 | false=>exact ite_ff ⟨.bl YF,H3,I3,rfl,q3⟩
 | true=>exact ite_tt (chain_last (thn (hc pins s3 O H3 _ I3 q3) λw' s4 ⟨z',H4,I4,r4,q4⟩=>ho' pins s4 O H4 y z' u w' Q I4 r2 r4 q4))
def Zyh{op op':CmpOp}{r r':R2}(ho:OpR X (QL op) r)(ho':OpR X (QL op') r')(ha:PE X a ta)(hb:PE X b tb)(hc:PE X c tc)
  (hm:lastMarks [op,op'] [b,c]=YF:=by with_unfolding_all rfl):PT X (.Compare a [op,op'] [b,c] pos) (Zxm (Zsg r r' ta tb tc)):=by
 intro pins s O H Q I h;refine isTrue_chain (thn (ha pins s O H _ I h) λv s1 ⟨x,H1,I1,r1,q1⟩=>test_link (thn (hb pins s1 O H1 _ I1 q1) λu s2 ⟨y,H2,I2,r2,q2⟩=>
  thn (ho pins s2 O H2 x y v u _ I2 r1 r2 q2) λd s3 ⟨z,H3,I3,r3,k,e,q3⟩=>?_)) hm
 subst e;cases r3;refine JV ?_;cases k with
 | false=>
  obtain⟨k',e',q'⟩:=q3;cases e';exact ite_ff ⟨H3,I3,q'⟩
 | true=>
  refine ite_tt (test_last (thn (hc pins s3 O H3 _ I3 q3) λw' s4 qz9=>?_));obtain⟨z',H4,I4,r4,q4⟩:=qz9;refine thn (ho' pins s4 O H4 y z' u w' _ I4 r2 r4 q4) λd' s5 qz9=>?_;obtain⟨z2,H5,I5,r5,k2,e2,q5⟩:=qz9;subst e2;cases r5;exact JV ⟨H5,I5,q5⟩
def Yc3(K:Xc)(x:V)(H:Hp)(k:Bool):Prop :=
 match x with
 | .non=>k=YF
 | .bl b=>k=b
 | .int i=>k=(i !=0)
 | .str y=>y.length<=Xw/\k=((y.length:Int) !=0)
 | .byt y=>y.size<=Xw/\k=((y.size:Int) !=0)
 | .ref p=>(∃xs,SqL K H p xs/\k= !xs.isEmpty)\/(∃xs,SqT K H p xs/\k= !xs.isEmpty)\/∃kvs,H p=YB (.dK kvs)/\k= !kvs.isEmpty
 | _=>False
def Zq3{κ:Type}{kvs:List (κ×V)}{vs:List (κ×Xe)}(r:KV kvs vs):(!vs.isEmpty)= !kvs.isEmpty:=by
 cases r<;>rfl
def Zii{xs:List V}{its:List Xe}(r:Vals xs its):(!its.toArray.isEmpty)= !xs.isEmpty:=by
 cases r<;>simp
def Zis:(Xw:Nat)<2^63:=by rw[X8];decide
def Z57:Yj5 X (λx H Q=>∃k,Yc3 X.K x H k/\Q k H):=by
 intro pins s O H x v Q I rx h;obtain⟨k,e,q⟩:=h;have hl:=Zis;have hs:Xw=16777216:=X8;cases x with
 | non=>
  cases rx;have e':k=YF:=e;subst e';exact truthy_none ⟨H,I,q⟩
 | bl b=>
  cases rx;have e':k=b:=e;subst e';exact JV ⟨H,I,q⟩
 | int i=>
  obtain⟨t,rfl⟩:=rx;have e':k=(i !=0):=e;subst e';exact PySem.P.truthy_int ⟨H,I,q⟩
 | str y=>
  obtain⟨t,rfl⟩:=rx;obtain⟨hy,e'⟩:y.length<=Xw/\k=((y.length:Int) !=0):=e;subst e';exact PySem.P.truthy_str (!0) ⟨H,I.tok _,q⟩
 | byt y=>
  obtain⟨t,rfl⟩:=rx;obtain⟨hy,e'⟩:y.size<=Xw/\k=((y.size:Int) !=0):=e;subst e';exact PySem.W.truthy_bytes (!0) ⟨H,I.tok _,q⟩
 | ref p=>
  cases rx;have e':(∃xs,SqL X.K H p xs/\k= !xs.isEmpty)\/(∃xs,SqT X.K H p xs/\k= !xs.isEmpty)\/∃kvs,H p=YB (.dK kvs)/\k= !kvs.isEmpty:=e;rcases e' with⟨xs,hx,e'⟩|⟨xs,hx,e'⟩|⟨kvs,hx,e'⟩
  .subst e'
   obtain⟨its,r,pl,hz⟩:=I.list hx;have hlen:=r.length;exact wpAny_truthy_list pl.isList (by simp only[XM];omega) ⟨H,I.tok _,by rw[Zii r];exact q⟩
  .subst e'
   obtain⟨its,r,pl,hz⟩:=I.tuple hx;have hlen:=r.length;exact truthy_tuple pl (by simp only[XM];omega) ⟨H,I.tok _,by rw[Zii r];exact q⟩
  .subst e'
   obtain⟨hz,hS,vs,r,m⟩:kvs.length<=Xw/\(p==Ur)=YF/\∃vs,KV kvs vs/\s.heap.DictOf (Wr X.prog X.w) p vs:=I.hok p _ hx;have hlen:kvs.length=vs.length:=Paired.length r;exact wpAny_truthy_dict hS m (!0) ⟨H,I.tok _,by rw[Zq3 r];exact q⟩
 | _=>exact(show False from e).elim
def Zv9(ha:PE X a ta)(he:∀whole,isTrue a X.env whole=(do let v<-whole;standAt a.pos;holding [v] (truthy v))) :
  PT X a (λO H Q=>ta O H λx H'=>∃k,Yc3 X.K x H' k/\Q k H'):=by
 intro pins s O H Q I h;refine isTrue_plain (thn (ha pins s O H _ I h) λv s1 qz9=>?_) (he _);obtain⟨x,H1,I1,r1,q1⟩:=qz9;exact Z57 pins s1 O H1 x v Q I1 r1 q1
def vals1{x:V}(r:Vals [x] us):∃u,us=[u]/\RelV x u:=by
 cases r with
 | cons r1 r2=>cases r2;exact⟨_,rfl,r1⟩
def vals2{x y:V}(r:Vals [x,y] us):∃u w',us=[u,w']/\RelV x u/\RelV y w':=by
 cases r with
 | cons r1 r2=>
  cases r2 with
  | cons r3 r4=>cases r4;exact⟨_,_,rfl,r1,r3⟩
def Zl3(hc:X.calm=YD):Zc0 X (.builtin "max") (λxs H Q=>∃i j,xs=[.int i,.int j]/\Q (.int (if j>i then j else i)) H):=by
 intro pins s O H xs us Q I r h;obtain⟨i,j,rfl,q⟩:=h;obtain⟨u,w',rfl,⟨t,rfl⟩,⟨t',rfl⟩⟩:=vals2 r;refine max_two_ints (I.ok.hd hc) λh' tk k=>⟨_,H,I.kept k,?_,q⟩
 by_cases hj:j>i
 .rw[YM hj,YM hj];exact⟨_,rfl⟩
 .rw[YQ hj,YQ hj];exact⟨_,rfl⟩
def Zk2(hc:X.calm=YD):Zc0 X (.builtin "min") (λxs H Q=>∃i j,xs=[.int i,.int j]/\Q (.int (if j<i then j else i)) H):=by
 intro pins s O H xs us Q I r h;obtain⟨i,j,rfl,q⟩:=h;obtain⟨u,w',rfl,⟨t,rfl⟩,⟨t',rfl⟩⟩:=vals2 r;refine min_two_ints (I.ok.hd hc) λh' tk k=>⟨_,H,I.kept k,?_,q⟩
 by_cases hj:j<i
 .rw[YM hj,YM hj];exact⟨_,rfl⟩
 .rw[YQ hj,YQ hj];exact⟨_,rfl⟩
end
structure ObjM(h:YH)(x dx C:YG)(mA:Str->Option Xe):Prop where
 obj:h.get? x=YB (PySem.W.instObj C dx)
 ns:h.Ns1 dx mA
 ne:dx≠x
def Zs7{dx:YG}{mA:Str->Option Xe}(n:h.Ns1 dx mA):∃od,h.get? dx=YB od/\∀name,PySem.W.lookIn name od=YB (mA name):=by
 obtain⟨o,es,ep,ho,hd,hk,_,hm⟩:=n;refine⟨o,ho,λname=>?_⟩;have e:=hm name;unfold nsFind findBy at e;rw[<-Array.find?_toList]at e;unfold PySem.W.lookIn;rw[hd];dsimp only;split
 .rename_i y q
  rw[q]at e;exact YW YB e
 .rename_i q
  rw[q]at e;have a:es.toList.any (·.refKey)=YF:=by
   rw[List.any_eq_false];intro y hy;obtain⟨z,t,hkey⟩:=hk y (Array.mem_toList_iff.mp hy);simp[DictEntry.refKey,hkey]
  have a':¬es.toList.any (·.refKey)=YD:=by rw[a];exact Xx
  rw[YQ a'];exact YW YB e
def ObjM.look{x dx C:YG}{mA:Str->Option Xe}(I:ObjM h x dx C mA):∃od,PySem.W.InstAt h x (PySem.W.instObj C dx) C (YB od)/\∀name,PySem.W.lookIn name od=YB (mA name) :=
 let⟨od,ho,hl⟩:=Zs7 I.ns
 ⟨od,⟨I.obj,rfl,rfl,ho⟩,hl⟩
section
variable {prog:X3}{x dx C f:YG}{mA:Str->Option Xe}{name:Str}{v:Xe}
end
def RelO.some_of{v:V}{o:Option Xe}(r:RelO (YB v) o):∃u,o=YB u/\RelV v u:=by
 cases o with
 | none=>exact(show False from r).elim
 | some u=>exact⟨u,rfl,r⟩
section
variable {C dx:YG}{fs fs':List (Str×V)}
def Z2v(hok:HOk P w H h)(e:H a=YB (.ins C dx fs)):∃mA,ObjM h a dx C mA/\(∀f,RelO (fs.lookup f) (mA f))/\PySem.Within mA (fs.map (·.1))/\fs.length<=1000/\H dx=YB (.own a):=by
 obtain⟨d,z,ne,ob,mA,n,r,q⟩:=(show ObjOk P w H h a (.ins C dx fs)from hok a _ e);exact⟨mA,⟨ob,n,ne⟩,r,q,z,d⟩
end
structure Cls(K:Xc)(C:YG):Prop where
 pg:PySem.W.plainGet K C Str.empty=YD
 hd:PySem.W.hasDictIn K C=YD
 po:PySem.W.plainOver K C=YD
 sa:VH K (.ref C) "__setattr__"=YB (YB (.builtin "object.__setattr__"))
theorem Cls.get{C:YG}(c:Cls K C)(f:Str):PySem.W.plainGet K C f=YD:=c.pg
structure Con(K:Xc)(C:YG)(f:Str)(v:V)(u:Xe):Prop where
 at_:VH K (.ref C) f=YB (YB u)
 rel:RelV v u
 get:PySem.W.specialIn K u "__get__"=YB YC
 cp:PySem.W.copiedNames.contains f=YF
structure Meth(K:Xc)(C:YG)(m:Str)(f:YG):Prop where
 at_:VH K (.ref C) m=YB (YB (.ref f))
 fn:PySem.W.isFn K (.ref f)=YD
 kp:VG K (.ref f)=YD
section
variable {O:St}{C dx:YG}{fs:List (Str×V)}{f:Str}{v:V}
end
section
variable {o value:YJ}{f:Str}{tpos:Pos}{tv:TE}
end
section
variable {O:St}{c:Xe}{b:Bool}
inductive Zq5(K:Xc)(H:Hp):V->Xe->Prop where
 | non:Zq5 K H .non (.type "NoneType")
 | bl (x:Bool):Zq5 K H (.bl x) (.type "bool")
 | int (i:Int):Zq5 K H (.int i) (.type "int")
 | str (x:Str):Zq5 K H (.str x) (.type "str")
 | flt (x:UInt64):Zq5 K H (.flt x) (.type "float")
 | lst {a:YG} {xs:List V} (e:H a=YB (.lst xs)):Zq5 K H (.ref a) (.type "list")
 | frz {a:YG} {o:Obj} {xs:List V} (e:H a=YB (.frz o (.lst xs))):Zq5 K H (.ref a) (.type "list")
 | tup {a:YG} {xs:List V} (e:H a=YB (.tup xs)):Zq5 K H (.ref a) (.type "tuple")
 | dK {a:YG} {kvs:List (Key×V)} (e:H a=YB (.dK kvs)):Zq5 K H (.ref a) (.type "dict")
 | dT {a:YG} {kvs:List (List Key×V)} (e:H a=YB (.dT kvs)):Zq5 K H (.ref a) (.type "dict")
 | ins {a C dx:YG} {fs:List (Str×V)} (e:H a=YB (.ins C dx fs)) (cl:Cls K C) (ha:VH K (.ref C) "__class__"=YB (YB (.builtin "object.__class__")))
   (hn:PySem.W.specialIn K (.builtin "object.__class__") "__get__"=YB (YB (.builtin "getset_descriptor.__get__"))) (htk:PySem.W.takesIn K (.builtin "object.__class__")=YB YD)
   (hm:PySem.W.mroIn K C (.type "object")=YB YD):Zq5 K H (.ref a) (.ref C)
def Zae{x:V}{t:Xe}(I:Inv X pins O H s)(rx:RelV x u)(ty:Zq5 X.K H x t)(e:QC X.K t c=YB b)(h:∀tk,Q (.bool b) { s with toks:=tk }) :
  Xz (X4 X.prog X.w) A (call (.builtin "isinstance") [u,c]) Q E s:=by
 cases ty with
 | non=>cases(show u=QD from rx);exact Q6 PySem.W.kitx_none I.kIn VR e (λz=>nomatch z) h
 | bl y=>cases(show u=Value.bool y from rx);exact Q6 PySem.W.kitx_bool I.kIn VR e (λz=>nomatch z) h
 | int i=>obtain⟨t,q⟩:=(show∃t,u=Vt i t from rx);cases q;exact Q6 PySem.W.kitx_int I.kIn VR e (λz=>nomatch z) h
 | str y=>obtain⟨t,q⟩:=(show∃t,u=Value.str y t from rx);cases q;exact Q6 PySem.W.kitx_str I.kIn VR e (λz=>nomatch z) h
 | flt y=>obtain⟨t,q⟩:=(show∃t,u=Xe.float y t from rx);cases q;exact Q6 PySem.W.kitx_float I.kIn VR e (λz=>nomatch z) h
 | @lst a xs ea=>
  cases(show u=Xy a from rx);obtain⟨_,_,n,_,h1⟩:=(show ObjOk X.prog X.w H s.heap a (.lst xs)from I.hok a _ ea);exact Q6 PySem.W.kitx_list I.kIn ⟨_,h1,rfl⟩ e (λz=>nomatch z) h
 | @frz a ob xs ea=>
  cases(show u=Xy a from rx);obtain⟨_,_,_,n,_,h1⟩:=(show ObjOk X.prog X.w H s.heap a (.frz ob (.lst xs))from I.hok a _ ea);exact Q6 PySem.W.kitx_list I.kIn ⟨_,h1,rfl⟩ e (λz=>nomatch z) h
 | @tup a xs ea=>
  cases(show u=Xy a from rx);obtain⟨_,_,_,p⟩:=(show ObjOk X.prog X.w H s.heap a (.tup xs)from I.hok a _ ea);obtain⟨o,h1,h2,_⟩:=p;exact Q6 PySem.W.kitx_tuple I.kIn ⟨o,h1,h2⟩ e (λz=>nomatch z) h
 | @dK a kvs ea=>
  cases(show u=Xy a from rx);obtain⟨_,_,vs,_,p⟩:=(show ObjOk X.prog X.w H s.heap a (.dK kvs)from I.hok a _ ea);obtain⟨o,es,ep,h1,h2,_⟩:=p;exact Q6 PySem.W.kitx_dict I.kIn ⟨o,h1,h2.1⟩ e (λz=>nomatch z) h
 | @dT a kvs ea=>
  cases(show u=Xy a from rx);obtain⟨_,_,xs,_,o,es,ep,h1,h2,_⟩:=(show ObjOk X.prog X.w H s.heap a (.dT kvs)from I.hok a _ ea);exact Q6 PySem.W.kitx_dict I.kIn ⟨o,h1,h2.1⟩ e (λz=>nomatch z) h
 | @ins a C dx fs ea cl ha hn htk hm=>
  cases(show u=Xy a from rx);obtain⟨mA,Oa,_⟩:=Z2v I.hok ea;obtain⟨od,J,_⟩:=Oa.look;exact Q6 (PySem.W.kitx_own (cl.get _) cl.hd ha hn htk hm) I.kIn J e (λz=>nomatch z) h
end
structure Room(k:Nat)(A:Qn):Prop where
 hd:A.handled=YC
 dp:A.depth+3*k+5<recursionLimit
 un:A.units+16*k+200<VB
def Room.mono{k:Nat}(r:Room k A)(h:j<=k):Room j A:=⟨r.hd,by have:=r.dp;omega,by have:=r.un;omega⟩
theorem Room.deeper{k:Nat}(r:Room (k+1) A)(env:Env):Room k (A.deeper env) :=
 ⟨r.hd,by have:=r.dp;show A.depth+1+3*k+5<_;omega,by have:=r.un;show A.units+3+16*k+200<_;omega⟩
def Room.depth{k:Nat}(r:Room k A):A.depth<recursionLimit:=by have:=r.dp;omega
theorem Room.units{k:Nat}(r:Room k A):A.units+64<VB:=by have:=r.un;omega
def Yju:TA:=λ_ H Q=>Q [] H
def Yc9(ta:TE)(tr:TA):TA:=λO H Q=>ta O H λx H1=>tr O H1 λxs H2=>Q (x::xs) H2
section
variable {t:TA}
def Zcl:PA X [] Yju:=λ_ _ _ _ H Q I h=>Calls.spliced_nil ⟨[],H,I,.nil,h⟩
theorem Zz(ha:PE X e te)(hr:PA X es t)(hs:Xo (e::es) X.env=(YF,eval e X.env)::Xo es X.env:=by rfl):PA X (e::es) (Yc9 te t):=by
 intro pos pins s O H Q I h;rw[hs];show Xz _ _ (spliced ((YF,eval e X.env)::Q3 pos (Xo es X.env))) _ _ s;refine Calls.spliced_cons (thn (ha pins s O H _ I h) λu s1 qz9=>?_);obtain⟨x,H1,I1,r1,q1⟩:=qz9;refine thn (hr pos pins s1 O H1 _ I1 q1) λus s2 qz9=>?_;obtain⟨xs,H2,I2,r2,q2⟩:=qz9;exact⟨x::xs,H2,I2,.cons r1 r2,q2⟩
def Yi3(t:TA):TE:=λO H Q=>t O H λxs H1=>xs.length<=Xw/\∀p,H1 p=YC->Q (.ref p) (upd H1 p (.tup xs))
def Ykk(t:TA):TE:=λO H Q=>t O H λxs H1=>xs.length<=Xw/\∀p,H1 p=YC->Q (.ref p) (upd H1 p (.lst xs))
def Ztm{x1}(h:PA X es t):PE X (.Tuple es x1 pos) (Yi3 t):=by
 intro pins s O H Q I hq;refine wpAny_Tuple_spliced (thn (h pos pins s O H _ I hq) λus s1 ⟨xs,H1,I1,r,z,q⟩=>⟨by rw[<-r.length];exact z,?_⟩);have hf:H1 s1.heap.objs.size=YC:=I1.hok.fresh (XD _);refine⟨.ref s1.heap.objs.size,upd H1 s1.heap.objs.size (.tup xs),I1.laid (t':=s1.toks) (λb u e=>Xg _ e) (XD _) ?_,rfl,q _ hf⟩;exact⟨z,us,r,⟨_,XQ _ rfl,rfl,_,rfl⟩⟩
def Zz2(h:PA X es t):PE X (.List es pos) (Ykk t):=by
 intro pins s O H Q I hq;refine wpAny_List_spliced (thn (h pos pins s O H _ I hq) λus s1 ⟨xs,H1,I1,r,z,q⟩=>⟨by rw[<-r.length];exact z,?_⟩);have hf:H1 s1.heap.objs.size=YC:=I1.hok.fresh (XD _);refine⟨.ref s1.heap.objs.size,upd H1 s1.heap.objs.size (.lst xs),I1.laid (t':=s1.toks) (λb u e=>Xg _ e) (XD _) ?_,rfl,q _ hf⟩;exact⟨z,us,0,r,XQ _ rfl⟩
end
abbrev Sp:=List V->Hp->VK->XK->Prop
abbrev CXT:=List Env->Hp->Xf->XK->Xe->Xf->Prop
structure Ybx(P:X3)(w:Qo)(K:Xc)(mg:Str->Option Xe)(base:YH)(A:Qn)(outer:List Env)(s:Xf)(H:Hp):Prop where
 frames:A.frames=YB outer
 mod:Mod K mg base
 bs:∀b o,base.get? b=YB o->s.heap.get? b=YB o/\H b=YC
 bsz:base.objs.size<=s.heap.objs.size
 funs:s.heap.FunFrames base outer
 frf:∀b∈frs outer,H b=YC
 hok:HOk P w H s.heap
 bare:AllBare s.gens
def CE(outer:List Env)(P:X3)(w:Qo)(H:Hp)(s:Xf)(Q:VK)(u:Xe)(s':Xf):Prop :=
 ∃v H',s'.os=s.os/\AllBare s'.gens/\Un (frs outer) [] H H' s.heap s'.heap/\HOk P w H' s'.heap/\RelV v u/\Q v H'
def CR(CX:CXT)(outer:List Env)(P:X3)(w:Qo)(H:Hp)(s:Xf)(Q:VK)(E:XK)(r:Result)(s':Xf):Prop :=
 match r with
 | .ok (.ret u)=>CE outer P w H s Q u s'
 | .ok _=>False
 | .error e=>CX outer H s E e s'
structure FnOk(P:X3)(w:Qo)(K:Xc)(mg:Str->Option Xe)(base:YH)(CX:CXT)(k:Nat)(f:YG)(fd:Ql)(ps:List Str)(sp:Sp):Prop where
 len:∀vs H Q E,sp vs H Q E->vs.length=ps.length
 run:∀(A:Qn) (outer:List Env) (s:Xf) (H:Hp) (args:Args) (us:List Xe) (vs:List V) (Q:VK) (E:XK),Room k A->Ybx P w K mg base A outer s H->BindsTo s fd args (ps.zip us)->Vals vs us->sp vs H Q E ->
  codeAny (X4 P w) A (.call (.ref f) args) (CR CX outer P w H s Q E) s
theorem FnOk.imp{mg:Str->Option Xe}{base:YH}{CX:CXT}{k:Nat}{f:YG}{fd:Ql}{ps:List Str}{sp sp':Sp}(F:FnOk P w K mg base CX k f fd ps sp)
  (h:∀vs H Q E,sp' vs H Q E->sp vs H Q E):FnOk P w K mg base CX k f fd ps sp' :=
 ⟨λvs H Q E q=>F.len vs H Q E (h _ _ _ _ q),λA outer s H args us vs Q E hr he hb hv hs=>F.run A outer s H args us vs Q E hr he hb hv (h _ _ _ _ hs)⟩
section
variable {O:St}
def Inv.env0(I:Inv X pins O H s):Ybx X.prog X.w X.K X.mg X.base X.A X.stack s H :=
 ⟨I.ok.frames,I.ok.mod,I.bs,QX I.ok.bsz I.sz,I.stack,I.stkFree,I.hok,I.bare⟩
def Inv.after{Q:VK}(I:Inv X pins O H s)(h:CE X.stack X.prog X.w H s Q u s'):EP X pins O Q u s':=by
 obtain⟨v,H',os,bare,un,hok,r,q⟩:=h;obtain⟨hh,g,d,t,os'⟩:=s';obtain rfl:os'=s.os:=os;exact⟨v,H',I.call (h':=hh) (g':=g) (d':=d) (t':=t) (ch:=[]) un hok bare (λb z=>YZ z (by simp)),r,q⟩
end
def Z76(sp:Sp)(dvs:List V)(E:XK)(t:TA):TE:=λO H Q=>t O H λvs H1=>sp (vs++dvs) H1 Q E
def Binds(K:Xc)(fd:Ql)(ps:List Str)(ds:List Xe):Prop :=
 ∀(s:Xf) (us:List Xe),K.In s.heap->(us++ds).length=ps.length->BindsTo s fd ⟨us,[]⟩ (ps.zip (us++ds))
def Binds.all{fd:Ql}{ps:List Str}(h:∀us:List Xe,us.length=ps.length->bindArgs fd ⟨us,[]⟩=pure (ps.zip us)):Binds K fd ps []:=λs us _ hl=>by
 rw[XX]at hl|-
 exact .of_eq (h us hl)
def Zn7(CX:CXT)(X:Cx)(E:XK):Prop:=∀(pins:List (YG×Obj)) (O:St) (H:Hp) (s:Xf) (e:Xe) (s':Xf),Inv X pins O H s->CX X.stack H s E e s'->X.xe e s'
section
variable {CX:CXT}{k:Nat}{f C:YG}{fd:Ql}{ps:List Str}{sp:Sp}{dvs:List V}{ds:List Xe}{E:XK}{m:Str}{p apos:Pos}{o:YJ}{t:TA}
def Z9u{O:St}{Q:VK}{vs:List V}(F:FnOk X.prog X.w X.K X.mg X.base CX k f fd ps sp)(hr:Room k X.A)(hb:Binds X.K fd ps ds)(hd:Vals dvs ds)(hx:Zn7 CX X E)
  (I:Inv X pins O H s) (r:Vals vs us) (h:sp (vs++dvs) H Q E):Xz (X4 X.prog X.w) X.A (call (.ref f) us) (EP X pins O Q) X.xe s:=by
 have r2:Vals (vs++dvs) (us++ds):=r.append hd;have hl:(us++ds).length=ps.length:=by rw[<-r2.length];exact F.len _ _ _ _ h
 refine wpAny_call (codeAny_mono (F.run X.A X.stack s H ⟨us,[]⟩ (us++ds) (vs++dvs) Q E hr I.env0 (hb s us I.kIn hl) r2 h) λr s' hq=>?_);cases r with
 | error e=>exact hx pins O H s e s' I hq
 | ok fl=>
  cases fl with
  | ret u=>exact I.after hq
  | next=>exact Vp hq
  | brk=>exact Vp hq
  | cont=>exact Vp hq
def Z15(F:FnOk X.prog X.w X.K X.mg X.base CX k f fd ps sp)(hr:Room k X.A)(hg:Gl X x)(hm:X.mg x=YB (.ref f))(hk:VG X.K (.ref f)=YD)(hb:Binds X.K fd ps ds)(hd:Vals dvs ds)(hx:Zn7 CX X E)
  (ha:PA X (e::es) t) (hdb:(x==("__debug__" : Str))=YF:=by decide) (he:Xo (e::es) X.env=(YF,eval e X.env)::Xo es X.env:=by rfl) (hpl:(Q3 pos (Xo es X.env)).any (·.1)=YF:=by rfl) :
  PE X (.Call (.Name x p) (e::es) [] pos) (Z76 sp dvs E t):=by
 intro pins s O H Q I h;refine Be (Zg2 I hg hm ?_ hdb);refine PySem.W.callWith_K (h₀:=X.base) I.ok.mod.kin hk (thn (ha pos pins s O H _ I h) λus s1 qz9=>?_) he hpl;obtain⟨vs,H1,I1,r,q⟩:=qz9;refine⟨I1.kIn,?_⟩;exact Z9u F hr hb hd hx I1 r q
structure Mk(K:Xc)(C f:YG):Prop where
 makes:PySem.W.makesIn K C=YD
 init:VH K (.ref C) "__init__"=YB (YB (.ref f))
 fn:PySem.W.isFn K (.ref f)=YD
 kp:VG K (.ref C)=YD
end
section
variable {CX:CXT}{k:Nat}{f C:YG}{fd:Ql}{ps ks:List Str}{sp:Sp}{E:XK}{m:Str}{p apos kpos:Pos}{o:YJ}{kws:List V8}{t tk:TA}{nm:Option Str}
structure Ygo(K:Xc)(fd:Ql)(ps ks:List Str)(g:List Xe->List Xe->List Xe)(gV:List V->List V->List V):Prop where
 to:∀(s:Xf) (us ws:List Xe),K.In s.heap->(g us ws).length=ps.length->BindsTo s fd ⟨us,ks.zip ws⟩ (ps.zip (g us ws))
 rel:∀{vs:List V} {us:List Xe} {zs:List V} {ws:List Xe},Vals vs us->Vals zs ws->Vals (gV vs zs) (g us ws)
variable {g:List Xe->List Xe->List Xe}{gV:List V->List V->List V}
end
structure Zv(N P:List Str)(sc:YL):Prop where
 kind:sc.kind= .function
 co:sc.isCoroutine=YF
 gen:sc.isGenerator=YF
 nd:N.Nodup
 pre:N.take P.length=P
 par:∀x∈P,sc.names.lookup x=YB .local\/sc.names.lookup x=YB .cell
 nofree:∀y∈sc.names,y.2≠ .free
theorem Zlf{kindOf:Str->Option Vg}:∀{binds:List (Str×Xe)} {m:Str->Option Xe},(∀v,(x,v)∉binds)->bindL kindOf binds m x=m x
 | [],_,_=>rfl
 | (n,v)::r,m,h=>by
  unfold bindL;rw[Zlf λw hw=>h w (List.mem_cons_of_mem _ hw)];split
  .have:x≠n:=by rintro rfl;exact h v List.mem_cons_self
   simp[this]
  .rfl
theorem Zkw{kindOf:Str->Option Vg}:∀{binds:List (Str×Xe)} {m:Str->Option Xe},(∀v,(x,v)∉binds)->bindC kindOf binds m x=m x
 | [],_,_=>rfl
 | (n,v)::r,m,h=>by
  unfold bindC;rw[Zkw λw hw=>h w (List.mem_cons_of_mem _ hw)];split
  .rfl
  .have:x≠n:=by rintro rfl;exact h v List.mem_cons_self
   simp[this]
theorem Zlh{kindOf:Str->Option Vg}{v:Xe}:∀{P:List Str} {vs:List Xe} {i:Nat} {m:Str->Option Xe},P.Nodup->P[i]? =YB x->vs[i]? =YB v->kindOf x=YB .local ->
  bindL kindOf (P.zip vs) m x=YB v
 | [],_,_,_,_,h,_,_=>by simp at h
 | _::_,[],_,_,_,_,h,_=>by simp at h
 | p::P,w::vs,0,m,nd,h1,h2,hk=>by
  simp at h1 h2;subst h1;subst h2;show bindL kindOf ((p,w)::P.zip vs) m p=_;unfold bindL;rw[Zlf λv hv=>(Qt.mp nd).1 (List.of_mem_zip hv).1,YM hk];simp
 | p::P,w::vs,i+1,m,nd,h1,h2,hk=>by
  show bindL kindOf ((p,w)::P.zip vs) m x=_;unfold bindL;exact Zlh (i:=i) (Qt.mp nd).2 (by simpa using h1) (by simpa using h2) hk
theorem Zky{kindOf:Str->Option Vg}{v:Xe}:∀{P:List Str} {vs:List Xe} {i:Nat} {m:Str->Option Xe},P.Nodup->P[i]? =YB x->vs[i]? =YB v->kindOf x≠YB .local ->
  bindC kindOf (P.zip vs) m x=YB v
 | [],_,_,_,_,h,_,_=>by simp at h
 | _::_,[],_,_,_,_,h,_=>by simp at h
 | p::P,w::vs,0,m,nd,h1,h2,hk=>by
  simp at h1 h2;subst h1;subst h2;show bindC kindOf ((p,w)::P.zip vs) m p=_;unfold bindC;rw[Zkw λv hv=>(Qt.mp nd).1 (List.of_mem_zip hv).1,YQ hk];simp
 | p::P,w::vs,i+1,m,nd,h1,h2,hk=>by
  show bindC kindOf ((p,w)::P.zip vs) m x=_;unfold bindC;exact Zky (i:=i) (Qt.mp nd).2 (by simpa using h1) (by simpa using h2) hk
def start(N:List Str)(vs:List V):St:=vs.map YB++Qm (N.length-vs.length) YC
def Zvd(CX:CXT)(P:X3)(w:Qo)(K:Xc)(mg:Str->Option Xe)(base:YH)(N:List Str)(qual:Str)(scope:YL)(f:YG)(cd:Xe)(A:Qn)(outer:List Env)(s:Xf)(H:Hp)(E:XK):Cx where
 prog:=P
 w:=w
 K:=K
 mg:=mg
 base:=base
 A:=A.deeper (envOfC qual scope s.heap.objs.size f cd)
 N:=N
 s₀:=s
 H₀:=H
 env:=envOfC qual scope s.heap.objs.size f cd
 outer:=outer
 stack:=envOfC qual scope s.heap.objs.size f cd::outer
 ex:=[]
 calm:=YD
 fn:=λ_=>YD
 pn:=[]
 xe:=λe s'=>Xz (X4 P w) (A.deeper (envOfC qual scope s.heap.objs.size f cd)) (leaving (envOfC qual scope s.heap.objs.size f cd) e) (λ_ s''=>CX outer H s E e s'') (λe' s''=>CX outer H s E e' s'') s'
def Zn2{sc:YL}{n:Nat}(h:sc.names.lookup x=YB .cell):∃c,(BK n sc.names []).lookup x=YB c:=by
 have q:=PySem.W.cellsFrom_some sc.names n [] (.inl h);exact Option.isSome_iff_exists.mp q
def Zrx{CX:CXT}{mg:Str->Option Xe}{base:YH}{ps:List Str}{qual:Str}{scope:YL}{f:YG}{cd:Xe}{outer:List Env}{s1:Xf}{E:XK}{vs:List V}
  (S:Zv N ps scope) (hd:A.handled=YC) (e0:Ybx P w K mg base A outer s H) (hl:vs.length=ps.length) (r:Vals vs us)
  (x:InCallC s s.heap.objs.size (bindL (envOfC qual scope s.heap.objs.size f cd).kindOf (ps.zip us) λ_=>YC) (BK (s.heap.objs.size+1) scope.names []) (bindC (envOfC qual scope s.heap.objs.size f cd).kindOf (ps.zip us) λ_=>YC) s1) :
  Inv (Zvd CX P w K mg base N qual scope f cd A outer s H E) [] (start N vs) H s1:=by
 have hpl:ps.length<=N.length:=by have:=YW List.length S.pre;rw[Bk]at this;omega
 obtain⟨h1,tk,rfl,hk⟩:=x.done;have noA:∀b:YG,b∉(Zvd CX P w K mg base N qual scope f cd A outer s H E).ex:=λb z=>YZ (show b∈([]:List YG)from z) (by simp);refine⟨⟨e0.mod,S.kind,rfl,rfl,XD _,λy z c h1 h2=>?_,λy hy=>?_,λy c _ h=>?_,λ_=>hd,Qn.frames_deeper e0.frames,.inr ⟨rfl,rfl⟩,λb z=>YZ z (noA b),e0.bs,e0.bsz,λb _ _=>noA b,λb z=>YZ z (noA b),e0.funs,e0.frf⟩,
  rfl,e0.bare,Un.kept hk,⟨_,x.toInCall.ns,λi y v h1 h2 h3=>?_⟩,λy c h=>⟨_,x.cell y c h⟩,e0.hok.fresh (XD _),λy c h=>?_,λp hp=>YZ (show p∈([]:List (YG×Obj))from hp) (by simp),e0.hok.kept hk,?_⟩
 .exact name_of_addr x.apart (Bs h1) (Bs h2)
 .have hy:scope.names.lookup y=YB .cell\/scope.names.lookup y=YB .free:=hy
  rcases hy with hy|hy
  .exact Zn2 hy
  .exact YZ rfl (S.nofree _ (Bs hy))
 .exact Vy (x.above y c (Bs h))
 .have hi:i<vs.length:=by
   unfold start at h2
   by_cases hi:i<vs.length
   .exact hi
   .rw[JZ (by simpa using hi)]at h2
    rw[List.getElem?_replicate]at h2;split at h2<;>cases h2
  have ha:vs[i]? =YB v:=by
   unfold start at h2;rw[Vu (by simpa using hi),Xi]at h2;cases e:vs[i]? with
   | none=>rw[e]at h2;cases h2
   | some a=>rw[e]at h2;cases h2;rfl
  obtain⟨u,hu,rv⟩:=r.get ha;have hp:ps[i]? =YB y:=by
   rw[<-S.pre,List.getElem?_take_of_lt (!0)];exact h1
  have ndP:ps.Nodup:=by rw[<-S.pre];exact S.nd.sublist (List.take_sublist _ _)
  refine⟨u,rv,?_⟩;rcases S.par y (Qg hp)with k|k
  .exact .inl ⟨k,Zlh ndP hp hu k⟩
  .obtain⟨c,e⟩:=Zn2 (n:=s.heap.objs.size+1) k
   refine .inr ⟨.inl k,c,e,?_⟩;have q:=x.cell y c e;rw[Zky ndP hp hu (by show scope.names.lookup y≠_;rw[k];decide)]at q;exact q
 .exact e0.hok.fresh (Vy (x.above y c (Bs h)))
 .unfold start
  show _=N.length;rw[Xv,Xd,V4];omega
theorem Z7i{CX:CXT}{mg:Str->Option Xe}{base:YH}{k:Nat}{f:YG}{name qual:Str}{params:Arguments}{scope:YL}{dV kV doc pm cdv ct oc:Xe}{an od:Option YG}
  {osl:Array (Option Xe)} {ps:List Str} {sp:Sp} (lk:K.lookup f=YB ⟨oc,od,.func (Ud name qual params body scope dV kV doc pm an cdv ct),osl⟩) (hcd:PySem.W.codeIn K cdv qual=YD) (S:Zv N ps scope)
  (len:∀vs H Q E,sp vs H Q E->vs.length=ps.length)
  (hbody:∀(A:Qn) (outer:List Env) (s:Xf) (H:Hp) (vs:List V) (Q:VK) (E:XK),Room k (A.deeper (envOfC qual scope s.heap.objs.size f cdv))->sp vs H Q E ->
   ∃t,PSs (Zvd CX P w K mg base N qual scope f cdv A outer s H E) body t/\t { nx:=λ_ H'=>Q .non H',rt:=Q } (start N vs) H) :
  FnOk P w K mg base CX (k+1) f (Ud name qual params body scope dV kV doc pm an cdv ct) ps sp:=by
 refine⟨len,λA outer s H args us vs Q E hr e0 hb r hsp=>?_⟩;have hl:=len _ _ _ _ hsp;have KX:K.In s.heap:=e0.mod.kin.keeps λb o e=>(e0.bs b o e).1;have lim:s.heap.NoLimit:=e0.mod.nolimit.keeps λb o e=>(e0.bs b o e).1;have hkind:∀y∈ps.zip us,scope.names.lookup y.1=YB .local\/(scope.names.lookup y.1=YB .cell/\((BK (s.heap.objs.size+1) scope.names []).lookup y.1).isSome=YD):=λ⟨n,v⟩ hy=>by
  rcases S.par n (List.of_mem_zip hy).1 with q|q
  .exact .inl q
  .exact .inr ⟨q,PySem.W.cellsFrom_some _ _ _ (.inl q)⟩
 refine codeAny_call_function hr.depth (KX _ _ lk) rfl S.co S.gen rfl (PySem.W.codeRec_of KX hcd) (hb _ _ _ _ ?_);refine wpAny_newFunctionEnv_cells S.kind hkind λenv he s1 x=>?_;subst he;refine⟨lim.keeps x.toInCall.keep,codeAny_func ?_⟩;obtain⟨t,ht,hq⟩:=hbody A outer s H vs Q E (hr.deeper _) hsp;have I:Inv (Zvd CX P w K mg base N qual scope f cdv A outer s H E) [] (start N vs) H s1:=Zrx S hr.hd e0 hl r x;refine QB (ht [] s1 (start N vs) H _ I hq) (λfl s' hs=>?_) λe s' hs=>hs;have fin:∀{O':St} {H':Hp} {v:V} {u:Xe},Inv (Zvd CX P w K mg base N qual scope f cdv A outer s H E) [] O' H' s'->RelV v u->Q v H'->CE outer P w H s Q u s' :=
  fun{O' H' v u} J rv q=>⟨v,H',J.os,J.bare,J.base,J.hok,rv,q⟩
 cases fl with
 | ret u=>
  obtain⟨v,O',H',J,rv,q⟩:=hs;exact fin J rv q
 | next=>
  obtain⟨O',H',J,q⟩:=hs;exact fin (v:=V.non) (u:=QD) J rfl q
 | brk=>
  obtain⟨_,_,_,q⟩:=hs;exact Vp q
 | cont=>
  obtain⟨_,_,_,q⟩:=hs;exact Vp q
section
variable {p:Pos}{t:TA}{id T:String}{r:List V->Hp->VK->Prop}
def tCB(r:List V->Hp->VK->Prop)(t:TA):TE:=λO H Q=>t O H λvs H1=>r vs H1 Q
def Zdr(hc:Zc0 X (.builtin id) r)(hg:Gl X x)(hm:X.mg x=YC)(hv:Qh x=YB (.builtin id))(ha:PA X (e::es) t)(hn:x≠"__name__" :=by decide)(hdb:(x==("__debug__" : Str))=YF:=by decide)
  (he:Xo (e::es) X.env=(YF,eval e X.env)::Xo es X.env:=by rfl) (hpl:(Q3 pos (Xo es X.env)).any (·.1)=YF:=by rfl):PE X (.Call (.Name x p) (e::es) [] pos) (tCB r t):=by
 intro pins s O H Q I h;refine Be (Zcc I hg hm hv ?_ hn hdb);refine Uy (thn (ha pos pins s O H _ I h) λus s1 qz9=>?_) he hpl;obtain⟨vs,H1,I1,r1,q1⟩:=qz9;exact hc pins s1 O H1 vs us Q I1 r1 q1
def Zro(hc:Zc0 X (.type T) r)(hg:Gl X x)(hm:X.mg x=YC)(hv:Qh x=YB (.type T))(ha:PA X (e::es) t)(hn:x≠"__name__" :=by decide)(hdb:(x==("__debug__" : Str))=YF:=by decide)
  (he:Xo (e::es) X.env=(YF,eval e X.env)::Xo es X.env:=by rfl) (hpl:(Q3 pos (Xo es X.env)).any (·.1)=YF:=by rfl):PE X (.Call (.Name x p) (e::es) [] pos) (tCB r t):=by
 intro pins s O H Q I h;refine Be (Zcc I hg hm hv ?_ hn hdb);refine JH (thn (ha pos pins s O H _ I h) λus s1 qz9=>?_) he hpl;obtain⟨vs,H1,I1,r1,q1⟩:=qz9;exact hc pins s1 O H1 vs us Q I1 r1 q1
end
end L2
namespace HT
open PySem PyProof.Rows
section
open PySem.SeqAt
open PySem.AutoSeq1 (wpAny_loadPart')
open PySem.MeetsSeq PySem.MeetsSeq2 PySem.MeetsSeq3
end
section
variable {prog:X3}
def cat_tup{t b:YG}{vs ws:List Xe}(ht:IsTup s.heap t vs.toArray)(hb:IsTup s.heap b ws.toArray)(hv:vs≠[])
  (h1:ws=[]->Q (.ref t) s) (h2:ws≠[]->Q (.ref s.heap.objs.size) { s with heap:=s.heap.push { cls:=.type "tuple",data:=.seq (vs++ws).toArray } })
  (hsz:vs.length+ws.length<=Xw):Xz (X4 prog w) A (V0 .Add (.ref t) (.ref b)) Q E s:=by
 obtain⟨⟨cls,dd,data,sl⟩,ho,hc,n,hd⟩:=id ht;obtain⟨⟨cls2,dd2,data2,sl2⟩,ho2,hc2,n2,hd2⟩:=id hb;simp only at hc hd hc2 hd2;subst hc hd hc2 hd2;have e:vs.toArray++ws.toArray=(vs++ws).toArray:=by simp
 by_cases hw:ws=[]
 .exact concat_meets ⟨_,ho,rfl⟩ ⟨_,ho2,rfl⟩ noFill_tuple_add seq_tuple_add PySem.F.slot_tuple_add PySem.F.entry_tuple_add (PySem.F.args_tuple_add_2 _ _)
   (tuple_addW1 t b vs.toArray ws.toArray n n2 dd dd2 sl sl2 (by simpa using hv) (by simp[hw])) ⟨ho,ho2,h1 hw⟩
 .refine concat_meets ⟨_,ho,rfl⟩ ⟨_,ho2,rfl⟩ noFill_tuple_add seq_tuple_add PySem.F.slot_tuple_add PySem.F.entry_tuple_add (PySem.F.args_tuple_add_2 _ _)
   (tuple_addW2 t b vs.toArray ws.toArray n n2 dd dd2 sl sl2 (by simpa using hv) (by simpa using hw) (by rw[XM,XM];exact hsz)) ⟨ho,ho2,?_⟩
  rw[e];exact h2 hw
def sIx(n d:Nat):Option Int->Nat
 | none=>d
 | some v=>if v<0 then(v+(n:Int)).toNat else min v.toNat n
def sIx_none(n d:Nat):sIx n d YC=d:=rfl
def sIx_nat(n d k:Nat):sIx n d (YB (k:Int))=min k n:=by
 show(if(k:Int)<0 then((k:Int)+(n:Int)).toNat else min (k:Int).toNat n)=min k n;rw[YQ (!0),Bx]
end
end HT
namespace L2
open PySem PySem.Spec PyProof.Rows
abbrev TO:=St->Hp->(Option Int->Hp->Prop)->Prop
def PO(X:Cx)(e:Option YJ)(t:TO):Prop :=
 ∀(pins:List (YG×Obj)) (s:Xf) (O:St) (H:Hp) (Q:Option Int->Hp->Prop),Inv X pins O H s->t O H Q ->
  Xz (X4 X.prog X.w) X.A (evalPart e X.env) (λu s'=>∃o H',Inv X pins O H' s'/\IsPart u o/\Q o H') X.xe s
def Z1m:TO:=λ_ H Q=>Q YC H
def Ydp(t:TE):TO:=λO H Q=>t O H λx H1=>∃i,x= .int i/\Q (YB i) H1
section
variable {lo hi:Option YJ}{tl th:TO}{p2:Pos}
def Z4n:PO X YC Z1m:=by
 intro pins s O H Q I h;rw[evalPart_none];exact Xl ⟨YC,H,I,.none,h⟩
def Z2d(h:PE X e te):PO X (YB e) (Ydp te):=by
 intro pins s O H Q I hw;rw[evalPart_some];refine thn (h pins s O H _ I hw) λu s1 qz9=>?_;obtain⟨x,H1,I1,r1,q1⟩:=qz9;obtain⟨i,rfl,q⟩:=q1;obtain⟨t,rfl⟩:=r1;exact⟨YB i,H1,I1,.int i t,q⟩
def SlR(X:Cx)(r:V->Option Int->Option Int->Hp->VK->Prop):Prop :=
 ∀(pins:List (YG×Obj)) (s:Xf) (O:St) (H:Hp) (x:V) (v vl vu:Xe) (lo hi:Option Int) (sl:YG) (Q:VK),Inv X pins O H s->RelV x v->s.heap.IsSliceOf sl vl vu .none->IsPart vl lo->IsPart vu hi->r x lo hi H Q ->
  ∃T id,typeLookup (.type T) "__getitem__"=pure (YB (.builtin id))/\s.TypeIs v T/\Xz (X4 X.prog X.w) X.A (getItem v (.ref sl)) (EP X pins O Q) X.xe s
def tSl(r:V->Option Int->Option Int->Hp->VK->Prop)(te:TE)(tl th:TO):TE:=λO H Q=>te O H λx H1=>tl O H1 λl H2=>th O H2 λu H3=>r x l u H3 Q
def Zxl{r:V->Option Int->Option Int->Hp->VK->Prop}(hr:SlR X r)(he:PE X e te)(hl:PO X lo tl)(hu:PO X hi th):PE X (.Subscript e (.Slice lo hi YC p2) pos) (tSl r te tl th):=by
 intro pins s O H Q I h;refine Subscript_ (thn (he pins s O H _ I h) λv s1 qz9=>?_);obtain⟨x,H1,I1,r1,q1⟩:=qz9;refine wpAny_Slice (thn (hl pins s1 O H1 _ I1 q1) λvl s2 qz9=>?_);obtain⟨l,H2,I2,pl,q2⟩:=qz9;refine thn (hu pins s2 O H2 _ I2 q2) λvu s3 qz9=>?_;obtain⟨u,H3,I3,pu,q3⟩:=qz9;rw[evalPart_none];refine Xl ?_;have I4:Inv X pins O H3 { s3 with heap:=s3.heap.push { cls:=.type "slice",data:=.fields #[vl,vu,.none] } }:=I3.kept (t':=s3.toks) λb ob q=>Xg _ q;obtain⟨T,id,hT,ht,hg⟩:=hr pins { s3 with heap:=s3.heap.push { cls:=.type "slice",data:=.fields #[vl,vu,.none] } } O H3 x v vl vu l u s3.heap.objs.size Q I4 r1 (Heap.IsSliceOf.new ..) pl pu q3;show Xz (X4 X.prog X.w) X.A (subscriptTail e (.Slice lo hi YC p2) v (.ref s3.heap.objs.size)) (EP X pins O Q) X.xe { s3 with heap:=s3.heap.push { cls:=.type "slice",data:=.fields #[vl,vu,.none] } };exact tail_any (ops:=[.ref s3.heap.objs.size,v]) ht hT hg (by with_unfolding_all rfl)
def Z5b(xs:List V)(lo hi:Option Int):List V:=(xs.drop (HT.sIx xs.length 0 lo)).take (HT.sIx xs.length xs.length hi-HT.sIx xs.length 0 lo)
def Zmm(xs:List V)(lo hi:Option Int):(Z5b xs lo hi).length<=xs.length:=by
 unfold Z5b;rw[Bk,Bb];omega
def Z7k(K:Xc):R2:=λx y H Q=>∃a b xs ys,x= .ref a/\y= .ref b/\SqT K H a xs/\SqT K H b ys/\xs≠[]/\xs.length+ys.length<=Xw/\
 (ys=[]->Q (.ref a) H)/\(ys≠[]->∀p,H p=YC->Q (.ref p) (upd H p (.tup (xs++ys))))
def Vals.nil_iff{xs:List V}(r:Vals xs us):us=[]↔xs=[]:=by
 cases r with
 | nil=>simp
 | cons _ _=>simp
theorem Z3d:OpR X (V0 .Add) (Z7k X.K):=by
 intro pins s O H x y v u Q I rx ry h;obtain⟨a,b,xs,ys,rfl,rfl,ha,hb,hx,hz,q1,q2⟩:=h;cases rx;cases ry;obtain⟨its,r1,p1,_⟩:=I.tuple ha;obtain⟨its2,r2,p2,_⟩:=I.tuple hb;refine HT.cat_tup p1 p2 (λz=>hx (r1.nil_iff.mp z)) (λz=>⟨.ref a,H,I,rfl,q1 (r2.nil_iff.mp z)⟩) (λz=>?_) (by rw[<-r1.length,<-r2.length];exact hz);refine⟨.ref s.heap.objs.size,_,I.laid (t':=s.toks) (o:=.tup (xs++ys)) (λb ob q=>Xg _ q) (XD _) ?_,rfl,q2 (λw=>z (r2.nil_iff.mpr w)) _ (I.hok.fresh (XD _))⟩;exact⟨by rw[Xv];exact hz,_,r1.append r2,IsTup.new _ _⟩
end
def ixN(n:Nat)(i:Int):Option Nat:=if 0<=i then(if i<n then YB i.toNat else YC)else if -(n:Int)<=i then YB (i+n).toNat else YC
def atI(xs:List Y)(i:Int):Option Y:=(ixN xs.length i).bind λj=>xs[j]?
def Zm7{n:Nat}{i:Int}(h:ixN n i=YB j):seqIndex? i n=YB j/\j<n/\-(n:Int)<=i/\i<n:=by
 unfold ixN at h
 by_cases h0:0<=i
 .rw[YM h0]at h
  by_cases h1:i<n
  .rw[YM h1]at h
   have e:i.toNat=j:=QR h;exact⟨by rw[seqIndex_of h0 h1,e],by omega,by omega,h1⟩
  .rw[YQ h1]at h;cases h
 .rw[YQ h0]at h
  by_cases h1:-(n:Int)<=i
  .rw[YM h1]at h
   have e:(i+n).toNat=j:=QR h;exact⟨by rw[seqIndex_neg (!0) h1,e],by omega,h1,by omega⟩
  .rw[YQ h1]at h;cases h
def Zm2{xs:List Y}{i:Int}{v:Y}(h:atI xs i=YB v):∃j,seqIndex? i xs.length=YB j/\xs[j]? =YB v/\j<xs.length/\-(xs.length:Int)<=i/\i<xs.length:=by
 unfold atI at h;cases e:ixN xs.length i with
 | none=>rw[e]at h;cases h
 | some j=>
  rw[e]at h;obtain⟨h1,h2,h3,h4⟩:=Zm7 e;exact⟨j,h1,h,h2,h3,h4⟩
def Zdj{xs:List Y}{v:Y}(h:xs[j]? =YB v):atI xs (j:Int)=YB v:=by
 have hj:j<xs.length:=(Xk.mp h).1;have e:ixN xs.length (j:Int)=YB j:=by
  unfold ixN;rw[YM (!0),YM (!0)];simp
 unfold atI;rw[e];exact h
def Zwg(xs:List Y)(v:Y):atI (xs++[v]) (-1)=YB v:=by
 have hl:(xs++[v]).length=xs.length+1:=by simp
 have e:ixN (xs++[v]).length (-1)=YB xs.length:=by
  unfold ixN;rw[hl,YQ (!1),YM (!0)];congr 1;omega
 unfold atI;rw[e];show(xs++[v])[xs.length]? =YB v;simp
def Zi5(b:YJ):Prop:=∀o i,subscripted b YF o i=operate [o,i] (getItem o i)
def IxR(X:Cx)(r:R2):Prop :=
 ∀(value slice:YJ) (pins:List (YG×Obj)) (s:Xf) (O:St) (H:Hp) (x y:V) (v u:Xe) (Q:VK),Inv X pins O H s->RelV x v->RelV y u->r x y H Q ->
  subscripted slice YF v u=operate [v,u] (getItem v u)->Xz (X4 X.prog X.w) X.A (subscriptTail value slice v u) (EP X pins O Q) X.xe s
def MtR(X:Cx)(id:String)(r:V->List V->Hp->VK->Prop):Prop :=
 ∀(pins:List (YG×Obj)) (s:Xf) (O:St) (H:Hp) (x:V) (xs:List V) (v:Xe) (us:List Xe) (Q:VK),Inv X pins O H s->RelV x v->Vals xs us->r x xs H Q ->
  Xz (X4 X.prog X.w) X.A (call (.builtin id) (v::us)) (EP X pins O Q) X.xe s
section
variable {a:YJ}
def IxR.or{r r':R2}(h:IxR X r)(h':IxR X r'):IxR X (λx y H Q=>r x y H Q\/r' x y H Q):=by
 intro value slice pins s O H x y v u Q I rx ry q hs;rcases q with q|q
 .exact h value slice pins s O H x y v u Q I rx ry q hs
 .exact h' value slice pins s O H x y v u Q I rx ry q hs
def Z5u{r:R2}(hr:IxR X r)(ha:PE X a ta)(hb:PE X b tb)(hs:Zi5 b):PE X (.Subscript a b pos) (tOp r ta tb):=by
 intro pins s O H Q I h;exact Subscript_ (Ydf ha hb I h λv u s2 x y H2 I2 rx ry q=>hr a b pins s2 O H2 x y v u Q I2 rx ry q (hs _ _))
def Ycj(K:Xc):R2:=λx y H Q=>∃p xs i v,x= .ref p/\y= .int i/\SqL K H p xs/\atI xs i=YB v/\Q v H
def Ygu(K:Xc):R2:=λx y H Q=>∃p xs i v,x= .ref p/\y= .int i/\SqT K H p xs/\atI xs i=YB v/\Q v H
def Ygm:R2:=λx y H Q=>∃z i c,x= .str z/\y= .int i/\z.length<=Xw/\atI z.cps.toList i=YB c/\Q (.str ⟨#[c]⟩) H
def Zts:IxR X (Ycj X.K):=by
 intro value slice pins s O H x y v u Q I rx ry h hs;obtain⟨p,xs,i,z,rfl,rfl,hq,he,q⟩:=h;cases rx;obtain⟨t,rfl⟩:=ry;obtain⟨its,r,pl,hz⟩:=I.list hq;obtain⟨j,h1,h2,h3,h4,h5⟩:=Zm2 he;obtain⟨w,ew,rw'⟩:=r.get h2;have hl:=r.length;have hn:=Zis;have fin:EP X pins O Q w s:=⟨z,H,I,rw',q⟩
 by_cases h0:0<=i
 .have hj:i.toNat=j:=by
   rw[seqIndex_of h0 h5]at h1;exact QR h1
  exact item_listR pl.isList h0 (!0) (by rw[hj];simpa using ew) fin hs
 .have hj:(i+(its.toArray.size:Int)).toNat=j:=by
   rw[seqIndex_neg (!0) h4]at h1;rw[XM,<-hl];exact QR h1
  exact subscriptTail_builtinR (x:=w) pl.isList.typeIs slot_list_getitem.lookup
   (wpAny_getItem_list_neg (Q:=λr s'=>r=w/\EP X pins O Q r s') pl.isList (!0) (by rw[XM]<;>omega) (!0) (by rw[hj];simpa using ew) ⟨rfl,fin⟩) hs
def Z6a:IxR X (Ygu X.K):=by
 intro value slice pins s O H x y v u Q I rx ry h hs;obtain⟨p,xs,i,z,rfl,rfl,hq,he,q⟩:=h;cases rx;obtain⟨t,rfl⟩:=ry;obtain⟨its,r,pl,hz⟩:=I.tuple hq;obtain⟨j,h1,h2,h3,h4,h5⟩:=Zm2 he;obtain⟨w,ew,rw'⟩:=r.get h2;have hl:=r.length;have hn:=Zis;have fin:EP X pins O Q w s:=⟨z,H,I,rw',q⟩;exact subscriptTail_builtinR (x:=w) pl.typeIs slot_tuple_getitem.lookup
  (getItem_tuple (j:=j) (Q:=λr s'=>r=w/\EP X pins O Q r s') pl (!0) (!0) (by rw[XM,<-hl];exact h1) (by simpa using ew) ⟨rfl,fin⟩) hs
def Z9g:IxR X Ygm:=by
 intro value slice pins s O H x y v u Q I rx ry h hs;obtain⟨z,i,c,rfl,rfl,hz,he,q⟩:=h;obtain⟨t,rfl⟩:=rx;obtain⟨t',rfl⟩:=ry;obtain⟨j,h1,h2,h3,h4,h5⟩:=Zm2 he;have hl:z.cps.toList.length=z.length:=by simp[Str.length]
 rw[hl]at h1 h4 h5;have hn:=Zis;exact tail_any (typeIs_str s z t) slot_str_getitem.lookup (getItem_str (c:=c) (by
  have e1:decide (i< -(2^63:Int))=YF:=YT (!0);have e2:decide (i>=2^63)=YF:=YT (!0);rw[e1,e2,Bool.or_false]) (by rw[h1];simpa using h2) ⟨.str ⟨#[c]⟩,H,I.tok _,⟨_,rfl⟩,q⟩) hs
def rIx(K:Xc):R2:=λx y H Q=>Ycj K x y H Q\/Ygu K x y H Q\/Ygm x y H Q
def Z6j:IxR X (rIx X.K):=Zts.or (Z6a.or Z9g)
def Zp9(its:List Xe)(n j:Nat)(u:Xe):Bv (·.setIfInBounds j u) { cls:=.type "list",data:=.seq its.toArray n }={ cls:=.type "list",data:=.seq (its.set j u).toArray n }:=by
 simp[Bv]
theorem Inv.lst{O:St}{p:YG}{xs:List V}(I:Inv X pins O H s)(h:H p=YB (.lst xs)) :
  ∃(its:List Xe) (n:Nat),Vals xs its/\s.heap.get? p=YB { cls:=.type "list",data:=.seq its.toArray n }/\xs.length<=Xw:=by
 obtain⟨z,its,n,r,e⟩:=I.hok p _ h;exact⟨its,n,r,e,z⟩
def Inv.lstUpd{O:St}{p:YG}{xs ys:List V}{its its':List Xe}{n n':Nat}{f:Obj->Obj}(I:Inv X pins O H s)(h:H p=YB (.lst xs))
  (ho:s.heap.get? p=YB { cls:=.type "list",data:=.seq its.toArray n }) (hf:f { cls:=.type "list",data:=.seq its.toArray n }={ cls:=.type "list",data:=.seq its'.toArray n' }) (r:Vals ys its') (hz:ys.length<=Xw) (t:Nat) :
  Inv X pins O (upd H p (.lst ys)) { s with heap:=s.heap.update p f,toks:=t }:=by
 have e:(s.heap.update p f).get? p=YB { cls:=.type "list",data:=.seq its'.toArray n' }:=by
  rw[V5 f ho (by rw[hf]<;>rfl),hf]
 refine I.write (x:=p) (e:=p) (by rw[h];trivial) (.inl rfl) (λb u hb q=>(Heap.get?_update_other _ _ (Bo hb)).trans q) ⟨_,e⟩ ?_;exact⟨hz,its',n',r,e⟩
def Z55:V->V->V->Hp->(Hp->Prop)->Prop:=λo i v H Q=>∃p xs k j,o= .ref p/\i= .int k/\H p=YB (.lst xs)/\ixN xs.length k=YB j/\Q (upd H p (.lst (xs.set j v)))
def set_list:Yit X Z55:=by
 intro pins s O H o i v ov iv u Q I ro ri rv h;obtain⟨p,xs,k,j,rfl,rfl,hp,hj,q⟩:=h;cases ro;obtain⟨t,rfl⟩:=ri;obtain⟨its,n,r,ho,hz⟩:=I.lst hp;obtain⟨h1,h2,h3,h4⟩:=Zm7 hj;have hl:=r.length;have hn:=Zis;have I':Inv X pins O (upd H p (.lst (xs.set j v))) { s with heap:=s.heap.update p (Bv (·.setIfInBounds j u)) } :=
  I.lstUpd hp ho (Zp9 its n j u) (r.set rv j) (by rw[Vf];exact hz) s.toks
 by_cases h0:0<=k
 .have hk:k.toNat=j:=by
   rw[seqIndex_of h0 h4]at h1;exact QR h1
  exact PySem.W.ki_setAt ho h0 (!0) (by rw[XM,<-hl];exact h4) (by rw[hk];exact⟨_,I',q⟩)
 .have hk:(k+(its.toArray.size:Int)).toNat=j:=by
   rw[seqIndex_neg (!0) h3]at h1;rw[XM,<-hl];exact QR h1
  exact PySem.W.ki_setBack ho (!0) (by rw[XM,<-hl];exact h3) (!0) (by rw[hk];exact⟨_,I',q⟩)
def Zk3(lo hi:Option Int)(n:Nat):(sliceBounds lo hi YC n).1=((HT.sIx n 0 lo:Nat):Int)/\(sliceBounds lo hi YC n).2.1=((HT.sIx n n hi:Nat):Int)/\(sliceBounds lo hi YC n).2.2=1:=by
 refine⟨?_,?_,rfl⟩
 .cases lo with
  | none=>simp[sliceBounds,HT.sIx]
  | some i=>
   simp only[sliceBounds,HT.sIx,Option.getD_none,show(1:Int)>0 by decide,if_true]
   by_cases h:i<0
   .simp only[h,if_true]<;>omega
   .simp only[h,if_false]<;>omega
 .cases hi with
  | none=>simp[sliceBounds,HT.sIx]
  | some i=>
   simp only[sliceBounds,HT.sIx,Option.getD_none,show(1:Int)>0 by decide,if_true]
   by_cases h:i<0
   .simp only[h,if_true]<;>omega
   .simp only[h,if_false]<;>omega
def Zjm(its:List Xe)(lo hi:Option Int):slicePick its.toArray lo hi YC=((its.drop (HT.sIx its.length 0 lo)).take (HT.sIx its.length its.length hi-HT.sIx its.length 0 lo)).toArray:=by
 obtain⟨h1,h2,h3⟩:=Zk3 lo hi its.toArray.size;unfold slicePick;rw[h1,h2,h3];simp only[sliceRange_one,pick_run,XM]<;>rfl
def Ygj(K:Xc):V->Option Int->Option Int->Hp->VK->Prop:=λx lo hi H Q=>∃a xs,x= .ref a/\SqL K H a xs/\∀p,H p=YC->Q (.ref p) (upd H p (.lst (Z5b xs lo hi)))
def Z1i:SlR X (Ygj X.K):=by
 intro pins s O H x v vl vu lo hi sl Q I rx hs pl pu h;obtain⟨a,xs,rfl,hx,q⟩:=h;cases rx;obtain⟨its,r,ht,hz⟩:=I.list hx;have hlen:=r.length;refine⟨"list",_,slot_list_getitem.lookup,ht.isList.typeIs,?_⟩;refine wpAny_getItem_list_slice ht.isList hs pl pu .none (by simp) ?_ (by rw[XM]<;>omega);rw[Zjm,<-hlen];refine⟨.ref s.heap.objs.size,_,I.laid (t':=s.toks) (o:=.lst (Z5b xs lo hi)) (λb ob q=>Xg _ q) (XD _) ?_,rfl,q _ (I.hok.fresh (XD _))⟩;exact⟨QX (Zmm xs lo hi) hz,_,0,(r.drop (HT.sIx xs.length 0 lo)).take (HT.sIx xs.length xs.length hi-HT.sIx xs.length 0 lo),XQ _ rfl⟩
def Zgs:V->Bool
 | .non=>YD
 | .bl _=>YD
 | .int _=>YD
 | .str _=>YD
 | _=>YF
def eqV:V->V->Bool
 | .non,.non=>YD
 | .bl a,.bl b=>a==b
 | .bl a,.int b=>(if a then 1 else 0)==b
 | .int a,.bl b=>a==(if b then 1 else 0)
 | .int a,.int b=>a==b
 | .str a,.str b=>a==b
 | _,_=>YF
def Ybh{y x:V}{v:Xe}(ry:RelV y u)(rx:RelV x v)(fy:Zgs y=YD)(fx:Zgs x=YD):Br A s u v (eqV y x):=by
 cases y with
 | non=>
  cases ry;cases x with
  | non=>cases rx;exact Br.same _
  | bl b=>cases rx;exact Br.none_bool b
  | int b=>obtain⟨t,rfl⟩:=rx;exact Br.none_int b t
  | str b=>obtain⟨t,rfl⟩:=rx;exact Br.none_str b t
  | _=>exact YZ (show YF=YD from fx) Xx
 | bl a=>
  cases ry;cases x with
  | non=>cases rx;exact Br.bool_none a
  | bl b=>cases rx;exact Br.bool_bool a b
  | int b=>obtain⟨t,rfl⟩:=rx;exact Br.bool_int a b t
  | str b=>obtain⟨t,rfl⟩:=rx;exact Br.bool_str a b t
  | _=>exact YZ (show YF=YD from fx) Xx
 | int a=>
  obtain⟨t',rfl⟩:=ry;cases x with
  | non=>cases rx;exact Br.int_none a t'
  | bl b=>cases rx;exact Br.int_bool a t' b
  | int b=>obtain⟨t,rfl⟩:=rx;exact Br.int_int a t' b t
  | str b=>obtain⟨t,rfl⟩:=rx;exact SeqAt.EqAt.int_str a t' b t
  | _=>exact YZ (show YF=YD from fx) Xx
 | str a=>
  obtain⟨t',rfl⟩:=ry;cases x with
  | non=>cases rx;exact Br.str_none a t'
  | bl b=>cases rx;exact Br.str_bool a t' b
  | int b=>obtain⟨t,rfl⟩:=rx;exact SeqAt.EqAt.str_int a t' b t
  | str b=>obtain⟨t,rfl⟩:=rx;exact Br.str_str a t' b t
  | _=>exact YZ (show YF=YD from fx) Xx
 | _=>exact YZ (show YF=YD from fy) Xx
def eqU(x:V)(u:Xe):Bool:=match u with
 | .none=>eqV .non x
 | .bool b=>eqV (.bl b) x
 | .int i _=>eqV (.int i) x
 | .str z _=>eqV (.str z) x
 | _=>YF
def Zyu{x y:V}(r:RelV y u)(f:Zgs y=YD):eqU x u=eqV y x:=by
 cases y with
 | non=>cases r;rfl
 | bl b=>cases r;rfl
 | int i=>obtain⟨t,rfl⟩:=r;rfl
 | str z=>obtain⟨t,rfl⟩:=r;rfl
 | _=>exact YZ (show YF=YD from f) Xx
def Zj0{x:V}{xs:List V}(h:Vals xs us)(f:xs.all Zgs=YD):us.any (eqU x)=xs.any λy=>eqV y x:=by
 induction h with
 | nil=>rfl
 | cons r t ih=>
  rw[List.all_cons,XJ]at f;rw[Uu,Uu,Zyu r f.1,ih f.2]
def Zf6{x:V}{v:Xe}(rx:RelV x v)(fx:Zgs x=YD){xs:List V}(h:Vals xs us)(f:xs.all Zgs=YD):∀u∈us,Br A s u v (eqU x u):=by
 induction h with
 | nil=>intro u hu;cases hu
 | cons r t ih=>
  intro u' hu;rw[List.all_cons,XJ]at f;rcases Xn.mp hu with rfl|hu
  .rw[Zyu r f.1];exact Ybh r rx f.1 fx
  .exact ih f.2 u' hu
def inV(x:V)(xs:List V):Bool:=xs.any λy=>eqV y x
def rIn(K:Xc)(neg:Bool):R2:=λx y H Q=>∃p xs,y= .ref p/\(SqL K H p xs\/SqT K H p xs)/\Zgs x=YD/\xs.all Zgs=YD/\Q (.bl (if neg then !inV x xs else inV x xs)) H
def Zsw:OpR X (QL .In) (rIn X.K YF):=by
 intro pins s O H x y v u Q I rx ry h;obtain⟨p,xs,rfl,hq,fx,fs,q⟩:=h;cases ry;rcases hq with hq|hq
 .obtain⟨its,r,pl,hz⟩:=I.list hq
  refine SeqAt.in_listAt (eqU x) pl.isList (λw hw=>Zf6 rx fx r fs w (by simpa using hw)) ⟨.bl _,H,I,rfl,?_⟩;rw[show its.toArray.any (eqU x)=its.any (eqU x) by simp,Zj0 r fs];exact q
 .obtain⟨its,r,pl,hz⟩:=I.tuple hq
  refine SeqAt.in_tupleAt (eqU x) pl (λw hw=>Zf6 rx fx r fs w (by simpa using hw)) ⟨.bl _,H,I,rfl,?_⟩;rw[show its.toArray.any (eqU x)=its.any (eqU x) by simp,Zj0 r fs];exact q
def Zlb:OpR X (QL .NotIn) (rIn X.K YD):=by
 intro pins s O H x y v u Q I rx ry h;obtain⟨p,xs,rfl,hq,fx,fs,q⟩:=h;cases ry;rcases hq with hq|hq
 .obtain⟨its,r,pl,hz⟩:=I.list hq
  refine SeqAt.notIn_listAt (eqU x) pl.isList (λw hw=>Zf6 rx fx r fs w (by simpa using hw)) ⟨.bl _,H,I,rfl,?_⟩;rw[show its.toArray.any (eqU x)=its.any (eqU x) by simp,Zj0 r fs];exact q
 .obtain⟨its,r,pl,hz⟩:=I.tuple hq
  refine SeqAt.notIn_tupleAt (eqU x) pl (λw hw=>Zf6 rx fx r fs w (by simpa using hw)) ⟨.bl _,H,I,rfl,?_⟩;rw[show its.toArray.any (eqU x)=its.any (eqU x) by simp,Zj0 r fs];exact q
def Zlt:Zc0 X (.builtin "len") (λxs H Q=>∃p ys,xs=[.ref p]/\(SqL X.K H p ys\/SqT X.K H p ys)/\Q (.int ys.length) H):=by
 intro pins s O H xs us Q I r h;obtain⟨p,ys,rfl,hq,q⟩:=h;obtain⟨u,rfl,rx⟩:=vals1 r;cases rx;have hn:=Zis;rcases hq with hq|hq
 .obtain⟨its,r',pl,hz⟩:=I.list hq
  have hlen:=r'.length;exact Calls.call_len_list pl.isList (by simp only[XM]<;>omega) ⟨.int ys.length,H,I.tok _,⟨s.toks+1,by rw[XM,hlen]⟩,q⟩
 .obtain⟨its,r',pl,hz⟩:=I.tuple hq
  have hlen:=r'.length;exact len_tuple pl (by simp only[XM]<;>omega) ⟨.int ys.length,H,I.tok _,⟨s.toks+1,by rw[XM,hlen]⟩,q⟩
def Zl7:Zc0 X (.type "list") (λxs H Q=>∃p ys,xs=[.ref p]/\(SqL X.K H p ys\/SqT X.K H p ys)/\∀l,H l=YC->Q (.ref l) (upd H l (.lst ys))):=by
 intro pins s O H xs us Q I r h;obtain⟨p,ys,rfl,hq,q⟩:=h;obtain⟨u,rfl,rx⟩:=vals1 r;cases rx;have fin:∀(its:List Xe),Vals ys its->ys.length<=Xw->∀(h':YH) (c':Nat),(∀b o',s.heap.get? b=YB o'->h'.get? b=YB o') ->
   h'.get? s.heap.objs.size=YB { cls:=.type "list",dict:=YC,data:=.seq its.toArray c',slots:=#[] }->EP X pins O Q (.ref s.heap.objs.size) { s with heap:=h' }:=λits r' hz h' c' kp e=>
  ⟨.ref s.heap.objs.size,_,I.laid (t':=s.toks) kp (XD _) (show ObjOk X.prog X.w _ h' _ (.lst ys)from⟨hz,its,c',r',e⟩),rfl,q _ (I.hok.fresh (XD _))⟩
 rcases hq with hq|hq
 .obtain⟨its,r',pl,hz⟩:=I.list hq
  have hlen:=r'.length;obtain⟨o,ho,hc,n,hd⟩:=pl.isList;exact call_list_seq p (.inl rfl) ho hc hd (λh' c' kp e=>fin its r' hz h' c' kp e) (by simp only[XM]<;>omega)
 .obtain⟨its,r',pl,hz⟩:=I.tuple hq
  have hlen:=r'.length;obtain⟨o,ho,hc,n,hd⟩:=pl;exact call_list_seq p (.inr rfl) ho hc hd (λh' c' kp e=>fin its r' hz h' c' kp e) (by simp only[XM]<;>omega)
def tyV(K:Xc)(T:String)(x:V)(H:Hp):Prop:=match x with
 | .str _=>T="str"
 | .int _=>T="int"
 | .ref p=>(T="list"/\∃xs,SqL K H p xs)\/(T="tuple"/\∃o,K.lookup p=YB o/\o.cls= .type "tuple"/\o.dict=YC)\/
   (T="dict"/\((∃kvs,H p=YB (.dK kvs))\/∃kvs,H p=YB (.dT kvs)))\/(T="set"/\∃S n,H p=YB (.set S n))
 | _=>False
def Z88{O:St}{T:String}{x:V}{v:Xe}(I:Inv X pins O H s)(r:RelV x v)(ty:tyV X.K T x H) :
  s.TypeIs v T/\∀a,v= .ref a->∃ob,s.heap.get? a=YB ob/\ob.dict=YC:=by
 cases x with
 | str z=>
  obtain⟨t,rfl⟩:=r;cases(show T="str"from ty);exact⟨typeIs_str s z t,λ_ e=>nomatch e⟩
 | int i=>
  obtain⟨t,rfl⟩:=r;cases(show T="int"from ty);exact⟨typeIs_int s i t,λ_ e=>nomatch e⟩
 | ref p=>
  cases r;rcases ty with⟨rfl,xs,hq⟩|⟨rfl,o,hk,hc,hd⟩|⟨rfl,hk⟩|⟨rfl,S,n,hk⟩
  .obtain⟨its,_,pl,_⟩:=I.list hq
   refine⟨pl.isList.typeIs,λa e=>?_⟩;cases e;obtain⟨o,n,e,c,hd,_⟩:=pl;exact⟨o,e,hd⟩
  .refine⟨⟨o,I.kIn p o hk,hc⟩,λa e=>?_⟩
   cases e;exact⟨o,I.kIn _ o hk,hd⟩
  .have z:∃o,s.heap.get? p=YB o/\o.ExactDict:=by
    rcases hk with⟨kvs,hk⟩|⟨kvs,hk⟩
    .obtain⟨_,_,_,_,o,_,_,e,ex,_⟩:=I.hok p _ hk
     exact⟨o,e,ex⟩
    .obtain⟨_,_,_,_,o,_,_,e,ex,_⟩:=I.hok p _ hk
     exact⟨o,e,ex⟩
   obtain⟨o,e,ex⟩:=z;refine⟨⟨o,e,ex.1⟩,λa e2=>?_⟩;cases e2;exact⟨o,e,ex.2.1⟩
  .obtain⟨o,_,_,_,e,ex,_⟩:=I.hok p _ hk
   refine⟨⟨o,e,ex.1⟩,λa e2=>?_⟩;cases e2;exact⟨o,e,ex.2.1⟩
 | _=>exact Vp ty
def tBM(K:Xc)(T:String)(r:V->List V->Hp->VK->Prop)(to:TE)(t:TA):TE:=λO H Q=>to O H λx H1=>tyV K T x H1/\t O H1 λxs H2=>r x xs H2 Q
variable {o:YJ}{t:TA}{name:Str}{apos cpos:Pos}{T id:String}{r:V->List V->Hp->VK->Prop}
def Zuq(pa:PlainAttrs T)(slot:Slot T name id)(hty:typeOf (.builtin id)=pure (.type "method_descriptor"))(hm:MtR X id r)(ho:PE X o to)(ha:PA X (e::es) t)
  (hbase:Ue o name X.env (eval o X.env)=eval o X.env:=by rfl)
  (hfew:((Q3 cpos (Xo (e::es) X.env)).all (λx=>!x.1)&&(backToKw cpos (U7 [] X.env)).all (λx=>x.1.isSome)
   &&decide ((e::es).length+([]:List V8).length+(if([]:List V8).isEmpty then 0 else 1)<30))=YD:=by rfl)
  (hline:(apos.endLine==cpos.line)=YD:=by rfl) (hs:Xo (e::es) X.env=(YF,eval e X.env)::Xo es X.env:=by rfl) (hplain:(Q3 cpos (Xo es X.env)).any (·.1)=YF:=by rfl) :
  PE X (.Call (.Attribute o name apos) (e::es) [] cpos) (tBM X.K T r to t):=by
 intro pins s O H Q I h;refine wpAny_Call_method_late hbase hfew hline rfl (thn (ho pins s O H _ I h) λv s1 qz9=>?_);obtain⟨x,H1,I1,r1,ty,q1⟩:=qz9;obtain⟨h1,h2⟩:=Z88 I1 r1 ty;refine⟨T,id,pa,slot,hty,h1,h2,?_⟩;have hA:=ha cpos pins s1 O H1 _ I1 q1;rw[hs]at hA|-
 refine Calls.callWith_builtin (by show(YF||(Q3 cpos (Xo es X.env)).any (·.1))=YF;rw[hplain]<;>rfl) (Calls.evalArgs_plain ?_);refine thn hA λus s2 qz9=>?_;obtain⟨vs,H2,I2,r2,q2⟩:=qz9;exact hm pins s2 O H2 x vs v us Q I2 r1 r2 q2
end
def MtM(X:Cx)(id:String)(r:V->List V->Hp->VK->Prop):Prop :=
 ∀(pins:List (YG×Obj)) (s:Xf) (O:St) (H:Hp) (x:V) (xs:List V) (v:Xe) (us:List Xe) (Q:VK),Inv X pins O H s->RelV x v->Vals xs us->r x xs H Q ->
  Xz (X4 X.prog X.w) X.A (call (.builtin id) (v::us)) (EP X pins O Q) X.xe s
def Vals.one{x:V}(h:Vals [x] us):∃u,us=[u]/\RelV x u:=by
 cases h with
 | cons r t=>cases t;exact⟨_,rfl,r⟩
theorem Vals.zero:∀{us:List Xe},Vals [] us->us=[]
 | _,.nil=>rfl
def Vals.eraseIdx:∀{xs:List V} {us:List Xe} (i:Nat),Vals xs us->Vals (xs.eraseIdx i) (us.eraseIdx i)
 | _,_,_,.nil=>.nil
 | _,_,0,.cons _ t=>t
 | _,_,i+1,.cons r t=>.cons r (Vals.eraseIdx i t)
def Vals.rep{xs:List V}(h:Vals xs us):∀k:Nat,Vals (Qm k xs).flatten (Qm k us).flatten
 | 0=>.nil
 | k+1=>by
  rw[VL,VL,U4,U4];exact Vals.append h (Vals.rep h k)
theorem Zlv:∀(l:List Y) (i:Nat),(l.eraseIdx i).length<=l.length
 | [],_=>XD _
 | _::_,0=>Nat.le_succ _
 | _::r,i+1=>Vn (Zlv r i)
theorem foldl_rep(its:List Xe):∀(k:Nat) (acc:List Xe),
  List.foldl (λx1 x2=>x1++x2) acc.toArray (Qm k its.toArray)=(acc++(Qm k its).flatten).toArray
 | 0,acc=>by simp
 | k+1,acc=>by
  have e:acc.toArray++its.toArray=(acc++its).toArray:=by simp
  have e2:(acc++its)++(Qm k its).flatten=acc++(Qm (k+1) its).flatten:=by
   rw[VL,U4,QF]
  rw[<-e2,<-foldl_rep its k (acc++its),<-e,VL,List.foldl_cons]
end L2
variable {dx C l:YG}{CX:CXT}{op op':CmpOp}{value:YJ}{g:Int->Int->Bool}{ps:List Str}{vs:List Xe}{apos p2 cpos:Pos}{r r':R2}{scope:YL}{sp:Sp}{name qual:Str}{kindOf:Str->Option Vg}{mA mg:Str->Option Xe}{id:String}{tc tv:TE}{prog:X3}{v:Xe}
namespace L2
open PySem PySem.Spec PyProof.Rows
section
variable {O:St}{b:YG}{xs ys zs:List V}
def Inv.lset{its its':List Xe}{n:Nat}{f:Array Xe->Array Xe}(I:Inv X pins O H s)(hH:H l=YB (.lst xs))
  (e:s.heap.get? l=YB { cls:=.type "list",data:=.seq its.toArray n }) (hf:f its.toArray=its'.toArray) (hv:Vals ys its') (hz:ys.length<=Xw) :
  Inv X pins O (upd H l (.lst ys)) { s with heap:=s.heap.update l (Bv f),toks:=t' }:=by
 have q:=PySem.IsL.update e f;rw[hf]at q;refine I.write (x:=l) (e:=l) (by rw[hH];exact trivial) (.inl rfl) (λb' u hb hu=>(Heap.get?_update_other s.heap (Bv f) (Bo hb)).trans hu) ⟨_,q⟩ ?_;exact⟨hz,its',_,hv,q⟩
def Inv.lnew{its:List Xe}(I:Inv X pins O H s)(hv:Vals ys its)(hz:ys.length<=Xw) :
  Inv X pins O (upd H s.heap.objs.size (.lst ys)) { s with heap:=s.heap.push { cls:=.type "list",data:=.seq its.toArray },toks:=t' } :=
 I.laid (λ_ _ q=>Xg _ q) (XD _) ⟨hz,its,0,hv,XQ _ rfl⟩
theorem Inv.fresh(I:Inv X pins O H s):H s.heap.objs.size=YC:=I.hok.fresh (XD _)
def Inv.lstM(I:Inv X pins O H s)(hH:H l=YB (.lst xs)):xs.length<=Xw/\∃(its:List Xe) (n:Nat),Vals xs its/\xs.length=its.length/\s.heap.get? l=YB { cls:=.type "list",data:=.seq its.toArray n }:=by
 obtain⟨z,its,n,r,e⟩:=I.hok l _ hH;exact⟨z,its,n,r,r.length,e⟩
def Znx{n:Nat}(h:n<=Xw):Ua n=YF:=by
 unfold Ua;exact YT (!0)
end
def Z3k:V->List V->Hp->VK->Prop:=λx vs H Q=>∃l xs y,x= .ref l/\vs=[y]/\H l=YB (.lst xs)/\xs.length<Xw/\Q .non (upd H l (.lst (xs++[y])))
theorem Zhh:MtM X "list.append" Z3k:=by
 intro pins s O H x vs v us Q I rx rv h;obtain⟨l,xs,y,rfl,rfl,hH,hz,q⟩:=h;cases rx;obtain⟨u,rfl,ru⟩:=rv.one;obtain⟨z,its,n,r,hl,e⟩:=I.lstM hH;refine call_meets F.slot_list_append ⟨_,e,rfl⟩ F.entry_list_append (F.args_list_append_2 _ _) (PySem.list_append l its.toArray n u (by rw[XM];omega)) ⟨e,?_⟩;refine⟨.non,_,I.lset (its':=its++[u]) hH e (by simp) (r.append (.cons ru .nil)) ?_,rfl,q⟩;rw[Xv,List.length_singleton];omega
def Z3i:V->List V->Hp->VK->Prop:=λx vs H Q=>∃l b xs zs,x= .ref l/\vs=[.ref b]/\H l=YB (.lst xs)/\H b=YB (.lst zs)/\xs.length+zs.length<=Xw/\Q .non (upd H l (.lst (xs++zs)))
def Zs0:MtM X "list.extend" Z3i:=by
 intro pins s O H x vs v us Q I rx rv h;obtain⟨l,b,xs,zs,rfl,rfl,hH,hB,hz,q⟩:=h;cases rx;obtain⟨u,rfl,ru⟩:=rv.one;cases ru;obtain⟨z,its,n,r,hl,e⟩:=I.lstM hH;obtain⟨z2,its2,n2,r2,hl2,e2⟩:=I.lstM hB;have hsz:its.toArray.size+its2.toArray.size<=Xw:=by rw[XM,XM];omega
 have hlong:¬(!its.toArray.isEmpty&&Ua (its.toArray.size+its2.toArray.size))=YD:=by
  rw[Znx hsz,Bool.and_false];exact Xx
 refine call_meets F.slot_list_extend ⟨_,e,rfl⟩ F.entry_list_extend (F.args_list_extend_2 _ _)
  (AutoSeq1.list_extend_list_list_0 l its.toArray n b its2.toArray n2 hlong (by rw[XM];omega) (!0)) ⟨e,e2,?_⟩
 refine⟨.non,_,I.lset (its':=its++its2) hH e (by simp) (r.append r2) ?_,rfl,q⟩;rw[Xv];omega
def Z6v:V->List V->Hp->VK->Prop:=λx vs H Q=>∃l xs i k y,x= .ref l/\vs=[.int i]/\H l=YB (.lst xs)/\-(2^63)<=i/\i<2^63/\seqIndex? i xs.length=YB k/\xs[k]? =YB y/\Q y (upd H l (.lst (xs.eraseIdx k)))
def Zwv:MtM X "list.pop" Z6v:=by
 intro pins s O H x vs v us Q I rx rv h;obtain⟨l,xs,i,k,y,rfl,rfl,hH,h1,h2,hk,hy,q⟩:=h;cases rx;obtain⟨u,rfl,ru⟩:=rv.one;obtain⟨t,rfl⟩:=ru;obtain⟨z,its,n,r,hl,e⟩:=I.lstM hH;obtain⟨w,hw,rw'⟩:=r.get hy;refine call_meets F.slot_list_pop ⟨_,e,rfl⟩ F.entry_list_pop (F.args_list_pop_2 _ _)
  (MeetsSeq.list_pop_at l its.toArray n i t k w (fitsIndex_both h1 h2) (by rw[XM,<-hl];exact hk) (by rw[<-Qc];exact hw) (by rw[XM];omega)) ⟨e,?_⟩
 refine⟨y,_,I.lset (its':=its.eraseIdx k) hH e ?_ (r.eraseIdx k) ?_,rw',q⟩
 .show its.toArray.eraseIdxIfInBounds k=(its.eraseIdx k).toArray
  rw[List.eraseIdxIfInBounds_toArray]
 .have:=Zlv xs k
  omega
def Yj9:R2:=λx y H Q=>∃l k xs,x= .ref l/\y= .int k/\H l=YB (.lst xs)/\-(2^63)<=k/\k<2^63/\xs.length*k.toNat<=Xw/\
 ∀p,H p=YC->Q (.ref p) (upd H p (.lst (Qm k.toNat xs).flatten))
def len_rep(xs:List Y)(k:Nat):(Qm k xs).flatten.length=k*xs.length:=by
 induction k with
 | zero=>simp
 | succ k ih=>rw[VL,U4,Xv,ih,Nat.succ_mul,Nat.add_comm]
def Z9q:OpR X (V0 .Mult) Yj9:=by
 intro pins s O H x y v u Q I rx ry h;obtain⟨l,k,xs,rfl,rfl,hH,h1,h2,hz,q⟩:=h;cases rx;obtain⟨t,rfl⟩:=ry;obtain⟨z,its,n,r,hl,e⟩:=I.lstM hH;have hlen:its.toArray.size*k.toNat<=Xw:=by rw[XM,<-hl];exact hz
 have hcap:¬its.toArray.size*k.toNat>(2^63-1)/8:=by
  have:(Xw:Nat)<=(2^63-1)/8:=by decide
  omega
 have hfit:¬(!BJ.List.listFitsIndex k)=YD:=by
  rw[fitsIndex_both h1 h2];exact Xx
 have hlong:¬Ua (its.toArray.size*k.toNat)=YD:=by
  rw[Znx hlen];exact Xx
 have hnew:List.foldl (λx1 x2=>x1++x2) #[] (Qm (if its.toArray.isEmpty=YD then 0 else k.toNat) its.toArray)=(Qm k.toNat its).flatten.toArray:=by
  have f0:∀m:Nat,List.foldl (λx1 x2=>x1++x2) #[] (Qm m its.toArray)=(Qm m its).flatten.toArray:=λm=>by
   have:=foldl_rep its m [];rw[List.nil_append]at this;exact this
  rw[f0];cases its with
  | nil=>simp
  | cons a r'=>rw[YQ (by simp)]
 refine wpAny_binaryOp_repeat_ref (T :="list") (U :="int") (!1) ⟨_,e,rfl⟩ (λs'=>typeIs_int s' k t) noFill_list_mul F.fills_int_mul F.slot_int_rmul repeat_list F.slot_int_index.lookup
  (call_meets F.slot_int_rmul (typeIs_int s k t) F.entry_int_rmul (F.args_int_rmul_2 _ _) (int___rmul___int_list k t l its.toArray n)
   ⟨e,rfl,⟨_,e,rfl⟩,call_meets F.slot_list_mul ⟨_,e,rfl⟩ F.entry_list_mul (F.args_list_mul_2 _ _) (AutoListH.list___mul___list_int_3 l its.toArray n k t hfit hcap hlong) ⟨e,?_⟩⟩)
 rw[hnew];exact⟨.ref _,_,I.lnew (t':=s.toks) (r.rep k.toNat) (by rw[len_rep,Nat.mul_comm];exact hz),rfl,q _ I.fresh⟩
end L2
namespace Att
open PySem PySem.W PySem.Calls PyProof.Rows
def Zgo{P:Params}:∀(ns:List Int) (vs:List Xe),WellAll P h vs (ns.map WData.int)->Vb vs ns:=by
 intro ns
 induction ns with
 | nil=>
  intro vs w;rw[List.map_nil]at w;cases w;exact .nil
 | cons n ns ih=>
  intro vs w;rw[X7]at w;cases w with
  | cons a b=>
   cases a;exact .cons _ _ (ih _ b)
def Zua{l:OpenLaw}{n:Nat}(hn:l.most=YB n){P:Params}{args:List WData}{vals:List Xe}
  (hpre:l.row.toRowW.claim.pre args=YD) (hwl:WellAll P h vals args) :
  ∃a vs ns,vals=[Xy a]/\args=[WData.list (ns.map WData.int)]/\h.get? a=YB { cls:=.type "list",data:=.seq vs.toArray }/\Vb vs ns/\ns.length<=n:=by
 have hsh:WShape.hasAll [] args [.list .int]=YD:=(pre_splitW hpre).1;have hc:l.pre.holds [] { args:=args }=YD:=(pre_splitW hpre).2;obtain⟨d,r,rfl,h1,h2⟩:=hasAllW_cons hsh;obtain rfl:=hasAllW_nil h2;obtain⟨xs,rfl,h3⟩:=hasW_list h1;obtain⟨ns,rfl⟩:=items_int h3;have hlen:ns.length<=n:=by
  unfold OpenLaw.pre at hc;have h4:(WTm.not (.lt (.lit (.int (n:Int))) (.len (.arg 0)))).holds [] { args:=[.list (ns.map .int)] }=YD:=by
   have h4:=(holds_andW hc).1;rw[hn]at h4;exact h4
  have h5:=condW_of h4 (w_not (w_lt w_lit (w_len_list (w_arg rfl))));rw[Xd]at h5;refine Nat.le_of_not_lt λq=>?_;have q':(n:Int)<((ns.length:Nat):Int):=by omega
  first
   | (rw[YS q']at h5;exact YZ h5 (!1))
   | (simp at h5;omega)
 cases hwl with
 | cons w1 w2=>
  cases w2;cases w1 with
  | list ho hall=>exact⟨_,_,ns,rfl,rfl,ho,Zgo ns _ hall,hlen⟩
def Ztd(l:OpenLaw)(args:List WData):l.row.toRowW.claim.post args (.bool YD) args=YD :=
 postW_of (r:=l.row.toRowW) (X:=(YD==YD))
  (show WShape.has [] (.bool YD) .bool=YD by first|rfl|decide|simp[WShape.has,WShape.arms,WShape.armsAll])
  (show(WTm.eq .res (.lit (.bool YD))).value [] { args:=args,res:=YB (.bool YD),after:=args }=YB (.bool (YD==YD))from w_eq_bool (w_res rfl) w_lit) rfl
def attach_call{l:OpenLaw}{n:Nat}{q:X3}{loose:List Str}{XP:(Str->Option Xe)->YH->Prop}{YP:Qo->YH->Prop}{d:DefRec}
  (hn:l.most=YB n) (hdf:d.params.defaults=[])
  (call:∀(w:Qo) (s₀ s₁:Xf) (mg mb:Str->Option Xe) (fa:YG) (o:Obj) (pm cd doc:Xe) (a:YG) (vs:List Xe) (ns:List Int),
   Ground q loose [] XP w s₀ mg mb s₁.heap->YP w s₁.heap ->
   s₁.heap.get? fa=YB o->o.data= .func (docDef d.name d.params d.body d.scope pm cd doc)->s₁.heap.CodeRec cd d.name->mg d.name=YB (.ref fa) ->
   s₁.heap.get? a=YB { cls:=.type "list",data:=.seq vs.toArray }->Vb vs ns->ns.length<=n->s₁.gens=#[] ->
   codeAny (X4 l.prog w) callerA (.call (.ref fa) ⟨[.ref a],[]⟩) (λr s'=>r= .ok (.ret (.bool YD))/\OldK s₁.heap s'.heap/\s'.os=s₁.os/\AllBare s'.gens) s₁) :
  WalkO q loose XP YP l.row.toRowW d [] (λf vs=>PySem.call f vs):=by
 intro w s₀ s₁ mg mb G Y_a fa o pm cd doc dV kV ho hd hcd hD hmg hg args vals as hpre hlay hrd hwl hlo;obtain rfl:dV= .none:=Dflts.none hD hdf;obtain rfl:kV= .none:=Dflts.noKw hD;obtain⟨a,vs,ns,rfl,rfl,hobj,hints,hlen⟩:=Zua hn hpre hwl;refine enter_call (codeAny_mono (call w s₀ s₁ mg mb fa o pm cd doc a vs ns G Y_a ho (fd_plain hd) hcd hmg hobj hints hlen hg) λr s' hq=>?_);obtain⟨rfl,h2,h3,h4⟩:=hq;exact⟨.inl ⟨.bool YD,.bool YD,[],rfl,λ_=>rfl,.bool YD,Ztd l _,λ_=>⟨List.Pairwise.nil,λ_ hm=>(nomatch hm)⟩⟩,h2,h3,h4⟩
section
variable {K:Frag}
end
end Att
namespace L2
open PySem PySem.Spec PyProof.Rows
def Zrs{ns:List Int}(h:Vb vs ns):Vals (ns.map V.int) vs:=by
 induction h with
 | nil=>exact .nil
 | cons n t h ih=>exact .cons ⟨t,rfl⟩ ih
def Only(H:Hp):Prop:=∀b,H b=YC\/∃o xs,H b=YB (.frz o (.lst xs))
def Zyd{mb:Str->Option Xe}{k:Nat}{fa:YG}{fd:Ql}{s₁:Xf}{ns:List Int}
  (KX:K.In s₁.heap) (hns:s₁.heap.Ns Qa mg) (hb:s₁.heap.Ns builtinsNs mb) (hbb:∀x:Str,x≠"__name__" ->mb x=Qh x) (hlim:s₁.heap.NoLimit) (hg:s₁.gens=#[])
  (ha:s₁.heap.get? a=YB { cls:=.type "list",data:=.seq vs.toArray }) (hi:Vb vs ns) (hl:ns.length<=Xw) (hr:Room k callerA)
  (F:∀base:YH,K.In base->base.Ns Qa mg->FnOk P w K mg base CX k fa fd [x] sp) (hbind:∀(s:Xf) (u:Xe),BindsTo s fd ⟨[u],[]⟩ [(x,u)])
  (hsp:∀H:Hp,Only H->SqL K H a (ns.map V.int)->sp [.ref a] H (λv _=>v= .bl YD) λ_ _ _=>False)
  (hCX:∀H e s',CX [] H s₁ (λ_ _ _=>False) e s'->False) :
  codeAny (X4 P w) callerA (.call (.ref fa) ⟨[.ref a],[]⟩) (λr s'=>r= .ok (.ret (.bool YD))/\OldK s₁.heap s'.heap/\s'.os=s₁.os/\AllBare s'.gens) s₁:=by
 have rv:=Zrs hi;have lenV:=hi.length
 -- from an abstract heap in which nothing but the script may be tracked
 have core:∀H:Hp,Only H->SqL K H a (ns.map V.int)->HOk P w H s₁.heap->(∀b,H b≠YC->b=a)->(H a≠YC->K.lookup a=YC) ->
   codeAny (X4 P w) callerA (.call (.ref fa) ⟨[.ref a],[]⟩) (λr s'=>r= .ok (.ret (.bool YD))/\OldK s₁.heap s'.heap/\s'.os=s₁.os/\AllBare s'.gens) s₁:=by
  intro H hO hS hok hA hK;have base_of:∀{b:YG} {o:Obj},s₁.heap.get? b=YB o->H b=YC->(Zwk s₁.heap H).get? b=YB o:=λe n=>Zwe e n;have noA:∀{b:YG} {o:Obj} {es:Array DictEntry} {ep:Nat},s₁.heap.get? b=YB o->o.data= .dict es ep->H b=YC:=fun{b o es ep} e d=>by
   cases q:H b with
   | none=>rfl
   | some u=>
    have e':b=a:=hA b (by rw[q];simp);subst e';rw[ha]at e;cases e;have d':Data.seq vs.toArray _=Data.dict es ep:=d;cases d'
  have nsK:∀{b:YG} {m:Str->Option Xe},s₁.heap.Ns b m->(Zwk s₁.heap H).Ns b m:=fun{b m} ⟨o,es,ep,e,d,r⟩=>⟨o,es,ep,base_of e (noA e d),d,r⟩;have hKb:K.In (Zwk s₁.heap H):=λb o e=>base_of (KX b o e) (by
   cases q:H b with
   | none=>rfl
   | some u=>
    have e':b=a:=hA b (by rw[q];simp);subst e';rw[hK (by rw[q];simp)]at e;cases e)
  have hM:Mod K mg (Zwk s₁.heap H):=⟨hKb,nsK hns,⟨mb,nsK hb,hbb⟩,let⟨mc,h1,h2⟩:=hlim;⟨mc,nsK h1,h2⟩⟩;have e0:Ybx P w K mg (Zwk s₁.heap H) callerA [] s₁ H:=⟨rfl,hM,λb o e=>Z3o e,Nat.le_of_eq (Zss _ _),trivial,λb hb=>YZ (show b∈([]:List YG)from hb) (by simp),hok,.of_eq hg⟩;refine codeAny_mono ((F _ hKb (nsK hns)).run callerA [] s₁ H ⟨[.ref a],[]⟩ [.ref a] [.ref a] _ _ hr e0 (hbind s₁ (.ref a)) (.cons rfl .nil) (hsp H hO hS)) λr s' h=>?_;cases r with
  | error e=>exact(hCX H e s' h).elim
  | ok fl=>
   cases fl with
   | next=>exact Vp h
   | brk=>exact Vp h
   | cont=>exact Vp h
   | ret u=>
    obtain⟨v,H',os,bare,un,hok',r',q⟩:=h;have q':v= .bl YD:=q;subst q';obtain rfl:u=Value.bool YD:=r';refine⟨rfl,OldK.of_keep λb o e=>?_,os,bare⟩;cases q:H b with
    | none=>exact un.keep b o e q (by intro z;exact YZ (show b∈([]:List YG)from z) (by simp)) (by simp)
    | some u=>
     rcases hO b with z|⟨ob,xs,z⟩
     .rw[q]at z;cases z
     .have z2:=un.frzs b ob _ z
      obtain⟨e1,_⟩:=hok b _ z;obtain⟨e2,_⟩:=hok' b _ z2;rw[e]at e1;cases e1;exact e2
 cases hk:K.lookup a with
 | some o=>
  -- the script is one of the module's own objects
  have e:=KX a o hk;rw[ha]at e;cases e;refine core (λ_=>YC) (λ_=>.inl rfl) (.inr ⟨_,vs.toArray,_,hk,rfl,rfl,rfl,by rw[XM,lenV];exact hl,by simpa using rv⟩) (λb u z=>by have z':(YC:Option HO)=YB u:=z;cases z') (λb z=>YZ rfl z) λz=>YZ rfl z
 | none=>
  refine core (λb=>if b=a then YB (.frz { cls:=.type "list",data:=.seq vs.toArray } (.lst (ns.map V.int)))else YC) (λb=>?_) (.inl (.inr ⟨{ cls:=.type "list",data:=.seq vs.toArray },YM rfl⟩)) (λb u z=>?_) (λb z=>?_) λ_=>hk
  .by_cases hb:b=a
   .exact .inr ⟨_,_,YM hb⟩
   .exact .inl (YQ hb)
  .by_cases hb:b=a
   .have z':=(YM hb).symm.trans z
    cases z';subst hb;exact⟨ha,by rw[Xd];exact hl,vs,_,rv,ha⟩
   .have z':=(YQ hb).symm.trans z
    cases z'
  .by_cases hb:b=a
   .exact hb
   .exact YZ (YQ hb) z
abbrev KOf(_:K.In h):Xc:=K
def Z3b{l:PySem.W.OpenLaw}{n k:Nat}{q:X3}{loose:List Str}{XP:(Str->Option Xe)->YH->Prop}{YP:Qo->YH->Prop}{d:DefRec}{K:Params->Xc}{CX:Qo->CXT}{sp:Qo->Sp}
  (hn:l.most=YB n) (hn2:n<=Xw) (hdf:d.params.defaults=[]) (hr:Room k callerA)
  (hY:∀(w:Qo) (h:YH),YP w h->(K w.params).In h)
  (F:∀(w:Qo) (mg:Str->Option Xe) (fa:YG) (h:YH),(K w.params).In h->h.Ns Qa mg->mg d.name=YB (.ref fa) ->
   ∃fd:Ql,(∀(s:Xf) (u:Xe),BindsTo s fd ⟨[u],[]⟩ [(x,u)])/\
    ∀base:YH,(K w.params).In base->base.Ns Qa mg->FnOk l.prog w (K w.params) mg base (CX w) k fa fd [x] (sp w))
  (hsp:∀(w:Qo) (H:Hp) (a:YG) (ns:List Int),ns.length<=n->Only H->SqL (K w.params) H a (ns.map V.int)->sp w [.ref a] H (λv _=>v= .bl YD) λ_ _ _=>False)
  (hCX:∀(w:Qo) (H:Hp) (s:Xf) (e:Xe) (s':Xf),CX w [] H s (λ_ _ _=>False) e s'->False) :
  PySem.W.WalkO q loose XP YP l.row.toRowW d [] (λf vs=>PySem.call f vs):=by
 refine Att.attach_call hn hdf λw s₀ s₁ mg mb fa o pm cd doc a vs ns G Y_a ho hd hcd hmg hobj hints hlen hg=>?_;have KX:=hY w _ Y_a;obtain⟨fd,hb,hF⟩:=F w mg fa _ KX G.T.g hmg;exact Zyd KX G.T.g G.T.b G.T.builtins G.T.nolimit hg hobj hints (QX hlen hn2) hr hF hb (λH hO hS=>hsp w H a ns hlen hO hS) λH e s'=>hCX w H s₁ e s'
def Zfe(s:YK):Arguments:=match s with
 | .FunctionDef _ a _ _ _ _ _ _ _ _=>a
 | _=>{ posonlyargs:=[],args:=[],vararg:=YC,kwonlyargs:=[],kw_defaults:=[],kwarg:=YC,defaults:=[] }
def Ju(s:YK):List YK:=match s with
 | .FunctionDef _ _ b _ _ _ _ _ _ _=>b
 | _=>[]
def Zi(s:YK):YL:=match s with
 | .FunctionDef _ _ _ _ _ _ sc _ _ _=>sc
 | _=>{ kind:=.function,names:=[],isGenerator:=YF,isCoroutine:=YF }
abbrev CX0:CXT:=λ_ _ _ _ _ _=>False
abbrev E0:XK:=λ_ _ _=>False
def Zc1:Zn7 CX0 X E0:=λ_ _ _ _ _ _ _ h=>h.elim
structure Fun(K:Xc)(x qual:Str)(st:YK)(f:YG)(fd:Ql):Prop where
 ex:∃(oc:Xe) (od:Option YG) (kV doc pm:Xe) (an:Option YG) (cdv ct:Xe) (osl:Array (Option Xe)),
  fd=Ud x qual (Zfe st) (Ju st) (Zi st) .none kV doc pm an cdv ct/\K.lookup f=YB ⟨oc,od,.func fd,osl⟩/\PySem.W.codeIn K cdv qual=YD
 kp:VG K (.ref f)=YD
section
variable {base:YH}
theorem Fun.ok{x qual:Str}{st:YK}{f:YG}{fd:Ql}{N ps:List Str}{k:Nat}{sp:Sp}(F:Fun K x qual st f fd)(S:Zv N ps (Zi st))(len:∀vs H Q E,sp vs H Q E->vs.length=ps.length)
  (hbody:∀(cdv:Xe) (A:Qn) (outer:List Env) (s:Xf) (H:Hp) (vs:List V) (Q:VK) (E:XK),Room k (A.deeper (envOfC qual (Zi st) s.heap.objs.size f cdv))->sp vs H Q E ->
   ∃t,PSs (Zvd CX0 P w K mg base N qual (Zi st) f cdv A outer s H E).nox (Ju st) t/\t { nx:=λ_ H'=>Q .non H',rt:=Q } (start N vs) H):FnOk P w K mg base CX0 (k+1) f fd ps sp:=by
 obtain⟨oc,od,kV,doc,pm,an,cdv,ct,osl,rfl,lk,hcd⟩:=F.ex;refine Z7i lk hcd S len λA outer s H vs Q E hr hsp=>?_;obtain⟨t,h,q⟩:=hbody cdv A outer s H vs Q E hr hsp;exact⟨t,h.nox,q⟩
def Fun.binds{f:YG}{fd:Ql}(F:Fun K x qual st f fd)
  (h:∀(kV doc pm:Xe) (an:Option YG) (cdv ct:Xe) (us:List Xe),us.length=ps.length->bindArgs (Ud x qual (Zfe st) (Ju st) (Zi st) .none kV doc pm an cdv ct) ⟨us,[]⟩=pure (ps.zip us)):Binds K fd ps []:=by
 obtain⟨oc,od,kV,doc,pm,an,cdv,ct,osl,rfl,lk,hcd⟩:=F.ex;exact .all (h kV doc pm an cdv ct)
def Z7m{f:YG}{oc:Xe}{od an:Option YG}{osl:Array (Option Xe)}{kV doc pm cdv ct:Xe}(l:K.lookup f=YB ⟨oc,od,.func (Ud x qual (Zfe st) (Ju st) (Zi st) .none kV doc pm an cdv ct),osl⟩)
  (c:PySem.W.codeIn K cdv qual=YD) (k:VG K (.ref f)=YD):Fun K x qual st f (Ud x qual (Zfe st) (Ju st) (Zi st) .none kV doc pm an cdv ct):=⟨⟨oc,od,kV,doc,pm,an,cdv,ct,osl,rfl,l,c⟩,k⟩
end
theorem pv(i:Nat)(hN:X.N[i]? =YB x:=by rfl)(hv:Vis X.env.scope x:=by first|exact QG rfl|exact Qz (QG rfl)|exact Qz (Qz rfl))(hd:(x==("__debug__" : Str))=YF:=by decide)
  (hcd:(x==("__classdict__" : Str))=YF:=by decide):PE X (.Name x pos) (Yh6 i):=Z6t hN hv hd hcd
def Same(H H':Hp):Prop:=∀b o,H b=YB o->H' b=YB o
theorem Same.refl(H:Hp):Same H H:=λ_ _ h=>h
theorem Same.trans{H H1 H2:Hp}(a:Same H H1)(b:Same H1 H2):Same H H2:=λc o h=>b c o (a c o h)
theorem Same.free(e:Same H H')(h:H' l=Option.none):H l=Option.none:=by
 cases q:H l with
 | none=>rfl
 | some o=>
  rw[e l o q]at h;cases h
end L2
set_option maxHeartbeats 4000000
namespace L2
open PySem PySem.Spec PyProof.Rows
def Bt(n:Nat)(x:Int):Prop:=x.natAbs<2^n
def Bt.of_lt{m:Nat}{x:Int}(h1:-(2^m)<x)(h2:x<2^m):Bt m x:=by
 unfold Bt;have e:((2^m:Nat):Int)=2^m:=by simp
 omega
def DivOk(_ j:Int):Prop:=j≠0/\j.natAbs.log2<9000
def DivOk.of{i j:Int}{n:Nat}(h0:j≠0)(h:Bt n j)(hn:n<=9000:=by decide):DivOk i j:=by
 refine⟨h0,?_⟩;have hp:j.natAbs≠0:=by omega
 have:=(Nat.log2_lt hp).mpr h;omega
def Z2i:OpR X (V0 .Mult) (rI IntMulOk λi j=>.int (i*j)):=opI λ_ _ _ _ _ _ _ hc q=>mul_int q hc
def Zxc:OpR X (V0 .FloorDiv) (rI DivOk λi j=>.int (i.fdiv j)):=opI λ_ _ _ _ _ _ _ hc q=>floordiv_int hc.1 q (.inl (PyProof.noPylong_of_log2 hc.2))
def Z0w:OpR X (V0 .Pow) (rI Ybk λi j=>.int (i^j.toNat)):=Ya1
def Zhx(elt target iter:YJ)(ifs:List YJ)(scope:YL)(pos:Pos)(it acc:Xe)(env:Env) :
  compTurn (.ListComp elt [⟨target,iter,ifs,0⟩] scope pos) 0 it acc env=(standAt iter.pos>>= λ_=>UJ it>>= λr=>match r with
   | none=>pure (.done .next)
   | some v=>letOwnedTupleGo target it v>>= λ_=>assign target env v>>= λ_=>
    (forIn ifs YD λc r=>if r=YD then do let ok<-isTrue c env (eval c env);pure (Bq ok)else pure (Bq r))>>= λok=>
     if ok=YD then((eval elt env>>= λx=>call (.builtin "list.append") [acc,x]>>= λ_=>pure ())>>= λ_=>
      again (.compLoop (.ListComp elt [⟨target,iter,ifs,0⟩] scope pos) 0 it acc env))
     else again (.compLoop (.ListComp elt [⟨target,iter,ifs,0⟩] scope pos) 0 it acc env)):=by rfl
theorem Zll{R:Result->Xf->Prop}{elt target:YJ}{ifs:List YJ}{it acc:Xe}{env:Env}(I:Nat->Xf->Prop)
  (turn:∀n s,I n s->Xz (X4 prog w) A (UJ it) (λr s₁=>match r with
   | none=>R (.ok .next) s₁
   | some v=>Xz (X4 prog w) A (letOwnedTupleGo target it v) (λ_ s₁=>Xz (X4 prog w) A (assign target env v) (λ_ s₂=>
     Xz (X4 prog w) A (forIn ifs YD λc r=>if r=YD then do let ok<-isTrue c env (eval c env);pure (Bq ok)else pure (Bq r)) (λok s₃=>
      if ok=YD then Xz (X4 prog w) A (eval elt env) (λx s₄=>
       Xz (X4 prog w) A (call (.builtin "list.append") [acc,x]) (λ_ s₅=>∃m,m<n/\I m s₅) (notedBy (X4 prog w) A env λe s'=>R (.error e) s') s₄) (notedBy (X4 prog w) A env λe s'=>R (.error e) s') s₃
      else∃m,m<n/\I m s₃) (notedBy (X4 prog w) A env λe s'=>R (.error e) s') s₂) (notedBy (X4 prog w) A env λe s'=>R (.error e) s') s₁) (notedBy (X4 prog w) A env λe s'=>R (.error e) s') s₁) (notedBy (X4 prog w) A env λe s'=>R (.error e) s') s)
  (n:Nat) (h:I n s) :
  codeAny (X4 prog w) A (.compLoop (.ListComp elt [⟨target,iter,ifs,0⟩] scope pos) 0 it acc env) R s:=by
 refine codeAny_loop rfl I (λn s hI=>?_) n h;show Xz _ A ((compTurn (.ListComp elt [⟨target,iter,ifs,0⟩] scope pos) 0 it acc env).onRaise (λx=>do noteFrame x env;theTreesLotGoes x)) _ _ s;refine wpAny_noted ?_;rw[Zhx];refine Xb (wpAny_standAt (Xb (QB (turn n s hI) (λr s₁ h₁=>?_) λ_ _ h'=>h')));cases r with
 | none=>exact Xl h₁
 | some v=>
  refine Xb (QB h₁ (λ_ s₂ h₂=>?_) λ_ _ h'=>h');refine Xb (QB h₂ (λ_ s₂ h₂=>Xb (QB h₂ (λok s₃ h₃=>?_) λ_ _ h'=>h')) λ_ _ h'=>h');cases ok with
  | false=>exact Xl ⟨rfl,h₃⟩
  | true=>
   exact Xb (Xb (QB h₃ (λx s₄ h₄=>Xb (QB h₄ (λ_ s₅ h₅=>Xl (Xl ⟨rfl,h₅⟩)) λ_ _ h'=>h')) λ_ _ h'=>h'))
def Zhv(env:Env):List (Str×Vg)->List (Str×YG)->List (Str×YG)
 | [],acc=>acc
 | (n,k)::r,acc=>if k== .free then Zhv env r ((n,(env.cells.lookup n).getD 0)::acc)else Zhv env r acc
theorem Zi6{env:Env}:∀(names:List (Str×Vg)) (acc:List (Str×YG)),(∀y∈names,y.2= .free->∃c,env.cells.lookup y.1=YB c) ->
  (forIn names acc (λ(y:Str×Vg) cs=>(if y.2== .free then(cellOf env y.1>>= λc=>pure (Bq ((y.1,c)::cs)))else pure (Bq cs):Sem (ForInStep (List (Str×YG))))))=pure (Zhv env names acc)
 | [],acc,_=>by rw[List.forIn_nil];rfl
 | (n,k)::r,acc,h=>by
  by_cases hk:k= .free
  .subst hk
   obtain⟨c,hc⟩:=h (n,.free) (.head _) rfl;have hc':env.cells.lookup n=YB c:=hc;have e:=Zi6 (env:=env) r ((n,c)::acc) λy hy=>h y (.tail _ hy);have ec:cellOf env n=pure c:=by
    unfold cellOf;rw[hc']
   rw[List.forIn_cons];simp only[beq_self_eq_true,if_true];rw[ec];simp only[Zhv,beq_self_eq_true,if_true,hc',Option.getD_some];exact e
  .have e:=Zi6 (env:=env) r acc λy hy=>h y (.tail _ hy)
   have hb:(k==Q9)=YF:=by simpa using hk
   rw[List.forIn_cons];simp only[Zhv,hb,XN,if_false];exact e
theorem Zda{env:Env}(h:∀y∈scope.names,y.2= .free->∃c,env.cells.lookup y.1=YB c):closureFor scope env=pure (Zhv env scope.names []):=by
 have e:=Zi6 scope.names [] h;have e':(forIn scope.names ([]:List (Str×YG)) (λ(y:Str×Vg) cs=>(match y with|(name,kind)=>do
   if kind== .free then do let a<-cellOf env name;pure (Bq ((name,a)::cs))else pure (Bq cs):Sem (ForInStep (List (Str×YG))))))=pure (Zhv env scope.names []):=e
 exact YW (λ(m:Sem (List (Str×YG)))=>m>>= λx=>pure x) e'
theorem Zji{env:Env}:∀(names:List (Str×Vg)) (acc:List (Str×YG)),(∀y∈names,y.2= .free->∃c,env.cells.lookup y.1=YB c) ->
  ∀n c,(n,c)∈Zhv env names acc->(n,c)∈acc\/((n,Q9)∈names/\env.cells.lookup n=YB c)
 | [],acc,_,n,c,h=>.inl h
 | (m,k)::r,acc,h,n,c,hm=>by
  by_cases hk:k= .free
  .subst hk
   obtain⟨d,hd⟩:=h (m,.free) (.head _) rfl;have hd':env.cells.lookup m=YB d:=hd;simp only[Zhv,beq_self_eq_true,if_true,hd',Option.getD_some]at hm;rcases Zji r _ (λy hy=>h y (.tail _ hy)) n c hm with z|⟨z1,z2⟩
   .rcases Xn.mp z with z|z
    .cases z;exact .inr ⟨.head _,hd'⟩
    .exact .inl z
   .exact .inr ⟨.tail _ z1,z2⟩
  .have hb:(k==Q9)=YF:=by simpa using hk
   simp only[Zhv,hb,XN,if_false]at hm;refine(Zji r _ (λy hy=>h y (.tail _ hy)) n c hm).imp id λqz9=>?_;obtain⟨z1,z2⟩:=qz9;exact⟨.tail _ z1,z2⟩
theorem Zkn{env:Env}:∀(names:List (Str×Vg)) (acc:List (Str×YG)),∀p∈acc,p∈Zhv env names acc
 | [],_,_,h=>h
 | (m,k)::r,acc,p,h=>by
  unfold Zhv;split
  .exact Zkn r _ p (.tail _ h)
  .exact Zkn r _ p h
theorem Zjn{env:Env}:∀(names:List (Str×Vg)) (acc:List (Str×YG)) (n:Str),(n,Q9)∈names->∃c,(n,c)∈Zhv env names acc
 | [],_,_,h=>nomatch h
 | (m,k)::r,acc,n,h=>by
  rcases Xn.mp h with z|z
  .cases z
   exact⟨_,by
    simp only[Zhv,beq_self_eq_true,if_true];exact Zkn _ _ _ (.head _)⟩
  .unfold Zhv
   split
   .exact Zjn r _ n z
   .exact Zjn r _ n z
theorem Ze7{env:Env}(inj:∀x y c,env.cells.lookup x=YB c->env.cells.lookup y=YB c->x=y):∀(names:List (Str×Vg)) (acc:List (Str×YG)),
  (∀ y∈names,y.2= .free->∃c,env.cells.lookup y.1=YB c)->(names.map (·.1)).Nodup->(∀p∈acc,env.cells.lookup p.1=YB p.2)->(∀p∈acc,p.1∉names.map (·.1))->(acc.Pairwise λx y=>x.2≠y.2) ->
  (Zhv env names acc).Pairwise λx y=>x.2≠y.2
 | [],_,_,_,_,_,h=>h
 | (m,k)::r,acc,hf,hn,ha,hd,hp=>by
  rw[X7,Qt]at hn;have hf':∀y∈r,y.2= .free->∃c,env.cells.lookup y.1=YB c:=λy hy=>hf y (.tail _ hy);have hd':∀p∈acc,p.1∉r.map (·.1):=λp hp z=>hd p hp (by rw[X7];exact .tail _ z)
  by_cases hk:k= .free
  .subst hk
   obtain⟨d,hd0⟩:=hf (m,.free) (.head _) rfl;have hd1:env.cells.lookup m=YB d:=hd0;simp only[Zhv,beq_self_eq_true,if_true,hd1,Option.getD_some];refine Ze7 inj r _ hf' hn.2 (λp hp'=>?_) (λp hp'=>?_) (BV.mpr ⟨λp hp' z=>?_,hp⟩)
   .rcases Xn.mp hp' with rfl|hp'
    .exact hd1
    .exact ha p hp'
   .rcases Xn.mp hp' with rfl|hp'
    .exact hn.1
    .exact hd' p hp'
   .have e:m=p.1:=inj m p.1 d hd1 (by rw[ha p hp',<-z])
    exact hd p hp' (by rw[X7,<-e];exact .head _)
  .have hb:(k==Q9)=YF:=by simpa using hk
   simp only[Zhv,hb,XN,if_false];exact Ze7 inj r _ hf' hn.2 ha hd' hp
structure Zqa(h:YH)(lo:Nat)(names:List (Str×Vg))(acc cs:List (Str×YG)):Prop where
 mem:∀n c,(n,c)∈cs->(n,c)∈acc\/(h.IsCell c YC/\lo<=c/\(n,BL)∈names)
 has:∀n,(n,BL)∈names->∃c,(n,c)∈cs
 old:∀p∈acc,p∈cs
theorem Zeo:∀(names:List (Str×Vg)) (h:YH) (lo:Nat) (acc:List (Str×YG)),lo<=h.objs.size->Zqa (Vs h names) lo names acc (BK h.objs.size names acc)
 | [],_,_,_,_=>⟨λ_ _ m=>.inl m,(λ_ m=>nomatch m),λ_ m=>m⟩
 | (name,kind)::r,h,lo,acc,hlo=>by
  by_cases hk:(kind==BL)=YD
  .have ek:kind= .cell:=by simpa using hk
   subst ek;have ih:=Zeo r (h.push { cls:=.type "cell",data:=.cell YC }) lo ((name,h.objs.size)::acc) (by rw[QS];omega);rw[QS]at ih;have e1:BK h.objs.size ((name,.cell)::r) acc=BK (h.objs.size+1) r ((name,h.objs.size)::acc):=by
    rw[BK,YM hk]
   have e2:Vs h ((name,.cell)::r)=Vs (h.push { cls:=.type "cell",data:=.cell YC }) r:=by
    rw[Vs,YM hk]
   rw[e1,e2];refine⟨λn c m=>?_,λn m=>?_,λp m=>ih.old p (.tail _ m)⟩
   .rcases ih.mem n c m with z|⟨z1,z2,z3⟩
    .rcases Xn.mp z with z|z
     .cases z
      exact .inr ⟨⟨_,pushCells_keeps _ _ _ _ (XQ _ rfl),rfl⟩,hlo,.head _⟩
     .exact .inl z
    .exact .inr ⟨z1,z2,.tail _ z3⟩
   .rcases Xn.mp m with z|z
    .cases z
     exact⟨_,ih.old _ (.head _)⟩
    .exact ih.has n z
  .have ih:=Zeo r h lo acc hlo
   have e1:BK h.objs.size ((name,kind)::r) acc=BK h.objs.size r acc:=by
    rw[BK,YQ hk]
   have e2:Vs h ((name,kind)::r)=Vs h r:=by
    rw[Vs,YQ hk]
   rw[e1,e2];refine⟨λn c m=>(ih.mem n c m).imp id λ⟨z1,z2,z3⟩=>⟨z1,z2,.tail _ z3⟩,λn m=>?_,ih.old⟩;rcases Xn.mp m with z|z
   .cases z
    exact YZ rfl hk
   .exact ih.has n z
def Zgm(names:List (Str×Vg)):∀(h:YH) (acc:List (Str×YG)),(acc.Pairwise λx y=>x.2≠y.2)->(∀p∈acc,p.2<h.objs.size)->(BK h.objs.size names acc).Pairwise λx y=>x.2≠y.2:=by
 induction names with
 | nil=>intro h acc ha _;exact ha
 | cons y r ih=>
  intro h acc ha hb;obtain⟨name,kind⟩:=y;unfold BK;split
  .have:=ih (h.push { cls:=.type "cell",data:=.cell YC }) ((name,h.objs.size)::acc) (BV.mpr ⟨λp hp=>X5 (hb p hp),ha⟩) (λp hp=>by
    rw[QS];rcases Xn.mp hp with rfl|hp
    .exact QQ _
    .exact Bw (hb p hp))
   rwa[QS]at this
  .exact ih h acc ha hb
theorem Zhz{globals:YG}{cl:List (Str×YG)}{env:Env}{Q:Env->Xf->Prop}
  (hQ:Q (newEnv scope s.heap.objs.size globals (BK (s.heap.objs.size+1) scope.names cl) qual YC .none (YB env) builtinsNs)
   { s with heap:=Vs (s.heap.push { cls:=.type "dict",data:=.dict #[] }) scope.names }) :
  Xz M A (newFunctionEnv scope globals cl [] qual YC .none (YB env)) Q E s:=by
 simp only[newFunctionEnv,Option.isSome_some,if_true];refine Xb (wpAny_alloc ?_);refine Xb (wpAny_layCells _ (λname kind cells=>by cases hkc:kind==BL<;>simp[hkc]) _ _ _ _ ?_);rw[show({ s with heap:=s.heap.push { cls:=.type "dict",data:=.dict #[] } }:Xf).heap.objs.size=s.heap.objs.size+1 from QS ..];rw[List.forIn_nil];exact Xb (Xl (Xl hQ))
def Y6(X:Cx)(N':List Str)(sc:YL)(C:YG)(cells:List (Str×YG))(s₂:Xf)(H₂:Hp)(fp:List YG):Cx :=
 { X with N:=N',s₀:=s₂,H₀:=H₂,env:=compEnvC sc cells C X.env,outer:=X.stack,stack:=X.stack,ex:=fp,fn:=λx=>sc.names.lookup x==YB .cell,pn:=[],xe:=λ_ _=>False }
theorem Zdb{env:Env}:∀{names:List (Str×Vg)} {x:Str} {k:Vg},names.lookup x=YB k ->
  (names.map λ(n,k)=>if(k==Q9&&env.scope.kind== .function&&env.kindOf n==YB .cell)then(n,BL)else(n,k)).lookup x=
   YB (if(k==Q9&&env.scope.kind== .function&&env.kindOf x==YB .cell)then BL else k)
 | [],_,_,h=>by simp at h
 | (n,k')::r,x,k,h=>by
  have ih:=@Zdb env r x k;show List.lookup x ((if(k'==Q9&&env.scope.kind== .function&&env.kindOf n==YB .cell)=YD then(n,BL)else(n,k'))::_)=_;cases hx:x==n with
  | true=>
   simp only[JB,hx]at h;cases h;have e:=ZC.mp hx;subst e;split<;>simp[JB]
  | false=>
   simp only[JB,hx]at h;split
   .simp only[JB,hx];exact ih h
   .simp only[JB,hx];exact ih h
theorem Zfi{env:Env}:∀{names:List (Str×Vg)} {x:Str},names.lookup x=YC ->
  (names.map λ(n,k)=>if(k==Q9&&env.scope.kind== .function&&env.kindOf n==YB .cell)then(n,BL)else(n,k)).lookup x=YC
 | [],_,_=>rfl
 | (n,k')::r,x,h=>by
  have ih:=@Zfi env r x;show List.lookup x ((if(k'==Q9&&env.scope.kind== .function&&env.kindOf n==YB .cell)=YD then(n,BL)else(n,k'))::_)=_;cases hx:x==n with
  | true=>
   simp only[JB,hx]at h;cases h
  | false=>
   simp only[JB,hx]at h;split
   .simp only[JB,hx];exact ih h
   .simp only[JB,hx];exact ih h
theorem Zed:∀{l:List (Str×Y)} {n:Str} {c:Y},(l.map (·.1)).Nodup->(n,c)∈l->l.lookup n=YB c
 | (k,v)::r,n,c,hd,h=>by
  rw[X7,Qt]at hd;rcases Xn.mp h with e|hr
  .cases e
   simp[JB]
  .have hne:(n==k)=YF:=by
    refine Ve.mpr λz=>hd.1 ?_;have e:n=k:=ZC.mp z;rw[<-e];exact XF.mpr ⟨(n,c),hr,rfl⟩
   rw[JB,hne];exact Zed hd.2 hr
theorem Ys:∀{l:List (Str×Y)} {n:Str} {c:Y},(n,c)∈l->∃d,l.lookup n=YB d/\(n,d)∈l
 | (k,v)::r,n,c,h=>by
  by_cases e:n=k
  .subst e
   exact⟨v,by simp[JB],List.mem_cons_self⟩
  .have hne:(n==k)=YF:=by simpa using e
   rcases Xn.mp h with z|z
   .cases z;exact YZ rfl e
   .obtain⟨d,h1,h2⟩:=Ys z
    exact⟨d,by rw[JB,hne];exact h1,.tail _ h2⟩
structure CompScope(X:Cx)(own:List Str)(caps:List Nat)(N':List Str)(sc:YL):Prop where
 kind:sc.kind= .function
 nd:N'.Nodup
 names:N'=own++caps.map λi=>X.N.getD i Str.empty
 nn:(sc.names.map (·.1)).Nodup
 free:(sc.names.all λy=>y.2 != .free||(X.env.kindOf y.1==YB .cell||X.env.kindOf y.1==YB .free))=YD
 caps:(caps.all λi=>sc.names.lookup (X.N.getD i Str.empty)==YB .free)=YD
def Jy(own:List Str)(caps:List Nat)(O:St):St:=own.map (λ_=>YC)++caps.map λi=>(O[i]?).getD YC
section
variable {own:List Str}{caps:List Nat}{N':List Str}{sc:YL}
theorem CompScope.lk(S:CompScope X own caps N' sc){n:Str}{k:Vg}(h:(n,k)∈sc.names):sc.names.lookup n=YB k:=Zed S.nn h
theorem CompScope.fr(S:CompScope X own caps N' sc){n:Str}(h:(n,Q9)∈sc.names):X.env.kindOf n=YB .cell\/X.env.kindOf n=YB .free:=by
 have:=BX.mp S.free _ h;simpa using this
theorem Zpv{O:St}{fp:List YG}{cl:List (Str×YG)}(S:CompScope X own caps N' sc)(I:Inv X pins O H s)
  (f:∀b∈fp,Ziz X pins H b) (fo:∀b∈fp,∃o,s.heap.get? b=YB o)
  (hcl:∀n c,(n,c)∈cl->(n,Q9)∈sc.names/\X.env.cells.lookup n=YB c) (hcl2:∀n,(n,Q9)∈sc.names->∃c,(n,c)∈cl) (hapart:cl.Pairwise λx y=>x.2≠y.2) :
  Inv (Y6 X N' sc (s.heap.objs.size+1) (BK (s.heap.objs.size+2) sc.names cl) s H fp) [] (Jy own caps O) (upd H s.heap.objs.size (.lst []))
   { s with heap:=Vs ((s.heap.push { cls:=.type "list",data:=.seq #[] }).push { cls:=.type "dict",data:=.dict #[] }) sc.names }:=by
 generalize hh1:s.heap.push { cls:=.type "list",data:=.seq #[] }=h1;have z1:h1.objs.size=s.heap.objs.size+1:=by rw[<-hh1,QS]
 generalize hh2:h1.push { cls:=.type "dict",data:=.dict #[] }=h2;have z2:h2.objs.size=s.heap.objs.size+2:=by rw[<-hh2,QS,z1]
 have BC:=Zeo sc.names h2 (s.heap.objs.size+2) cl (!0);have AP:=Zgm sc.names h2 cl hapart (λp hp=>by
  obtain⟨v,hv⟩:=I.cell p.1 p.2 (hcl p.1 p.2 hp).2;exact Qi hv.lt (!0))
 rw[z2]at BC AP;have keep:∀b o,s.heap.get? b=YB o->(Vs h2 sc.names).get? b=YB o:=λb o e=>pushCells_keeps _ _ _ _ (by
  rw[<-hh2];refine Xg _ ?_;rw[<-hh1];exact Xg _ e)
 have hD:(Vs h2 sc.names).get? s.heap.objs.size=YB { cls:=.type "list",data:=.seq #[] }:=pushCells_keeps _ _ _ _ (by
  rw[<-hh2];refine Xg _ ?_;rw[<-hh1];exact XQ _ rfl)
 have hC:(Vs h2 sc.names).Ns (s.heap.objs.size+1) (λ_=>YC):=by
  refine Heap.Ns.keeps ?_ (pushCells_keeps _ _);have:=Heap.Ns.new h1 (.type "dict");rw[hh2,z1]at this;exact this
 have cellOld:∀n c,X.env.cells.lookup n=YB c->c<s.heap.objs.size:=λn c e=>by
  obtain⟨v,hv⟩:=I.cell n c e;exact hv.lt
 have lk':∀n c,(BK (s.heap.objs.size+2) sc.names cl).lookup n=YB c->(n,c)∈BK (s.heap.objs.size+2) sc.names cl:=λn c e=>Bs e;have hnD:H s.heap.objs.size=YC:=I.fresh;have fresh:∀c,s.heap.objs.size<c->upd H s.heap.objs.size (.lst []) c=YC:=λc hc=>by
  rw[Zk (X5 hc)];exact I.hok.fresh (Vy hc)
 have isc:∀n c,(n,c)∈BK (s.heap.objs.size+2) sc.names cl->∃v,(Vs h2 sc.names).IsCell c v:=λn c m=>by
  rcases BC.mem n c m with z|⟨z,_⟩
  .obtain⟨v,hv⟩:=I.cell n c (hcl n c z).2
   exact⟨v,hv.keeps keep⟩
  .exact⟨YC,z⟩
 have okH:HOk X.prog X.w (upd H s.heap.objs.size (.lst [])) (Vs h2 sc.names):=by
  refine I.hok.laid keep (XD _) ?_;exact⟨QJ _,[],0,.nil,hD⟩
 have kinds:∀x k,sc.names.lookup x=YB k->(relabel sc X.env).names.lookup x=YB (if(k==Q9&&X.env.scope.kind== .function&&X.env.kindOf x==YB .cell)then BL else k):=λx k e=>Zdb e;have kindsR:∀x k,(relabel sc X.env).names.lookup x=YB k->∃k',(x,k')∈sc.names/\k=(if(k'==Q9&&X.env.scope.kind== .function&&X.env.kindOf x==YB .cell)then BL else k'):=λx k e=>by
  cases q:sc.names.lookup x with
  | none=>
   have:=Zfi (env:=X.env) q;rw[show(relabel sc X.env).names.lookup x=_ from this]at e;cases e
  | some k'=>
   refine⟨k',Bs q,?_⟩;rw[kinds x k' q]at e;exact(QR e).symm
 refine⟨⟨I.ok.mod,S.kind,I.ok.glob,I.ok.blt,?_,?_,?_,?_,I.ok.hd,I.ok.frames,.inl rfl,?_,?_,?_,?_,?_,?_,?_⟩,rfl,I.bare,?_,?_,?_,?_,?_,(λp hp=>nomatch hp),okH,?_⟩
 .show s.heap.objs.size<=s.heap.objs.size+1;omega
 .intro x y c e1 e2
  exact name_of_addr AP (lk' x c e1) (lk' y c e2)
 .intro x hx
  rcases hx with hx|hx
  .obtain⟨k',hm,hk'⟩:=kindsR x _ hx
   cases k' with
   | cell=>
    obtain⟨c,hc⟩:=BC.has x hm;obtain⟨d,h1,_⟩:=Ys hc;exact⟨d,h1⟩
   | free=>
    obtain⟨c,hc⟩:=hcl2 _ hm;obtain⟨d,h1,_⟩:=Ys (BC.old _ hc);exact⟨d,h1⟩
   | _=>simp at hk'
  .obtain⟨k',hm,hk'⟩:=kindsR x _ hx
   cases k' with
   | free=>
    obtain⟨c,hc⟩:=hcl2 _ hm;obtain⟨d,h1,_⟩:=Ys (BC.old _ hc);exact⟨d,h1⟩
   | _=>simp at hk'
 .intro x c hf e
  have hf':sc.names.lookup x=YB .cell:=by simpa [Y6]using hf
  rcases BC.mem x c (lk' x c e)with z|⟨_,z,_⟩
  .-- a free one and a cell at once: the name stands once
   exfalso;have q:=S.lk (hcl x c z).1;rw[hf']at q;cases q
  .show s.heap.objs.size<=c;omega
 .intro b hb
  obtain⟨o,ho⟩:=fo b hb;have hlt:=XH ho;refine⟨Xr (Vd hlt (QQ _)),λx c e z=>?_⟩;rcases BC.mem x c (lk' x c e)with q|⟨_,q,_⟩
  .exact(f b hb).2.2.2.2.1 x c (hcl x c q).2 z
  .subst z
   exact YZ hlt (Nat.not_lt.mpr (QX (Vo _ 2) q))
 .exact I.bs
 .exact QX I.ok.bsz I.sz
 .intro b o e hb
  rcases(f b hb).2.2.2.1 with z|z
  .exact I.ok.noex b o e z
  .exact YZ (Qi (XH e) I.ok.bsz) (Nat.not_lt.mpr z)
 .intro b hb z
  rcases Xn.mp (I.stkSub b z)with q|q
  .exact(f b hb).2.1 q
  .exact(f b hb).2.2.1 q
 .exact I.stack
 .exact I.stkFree
 .exact Un.laid keep (XD _) hnD
 .refine⟨_,hC,λi x v e1 e2 e3=>?_⟩
  have e1':(own++caps.map λi=>X.N.getD i Str.empty)[i]? =YB x:=by rw[<-S.names];exact e1
  have e2':(own.map (λ_=>(YC:Option V))++caps.map λi=>(O[i]?).getD YC)[i]? =YB (YB v):=e2
  by_cases hi:i<own.length
  .rw[Vu (by simpa using hi),Xi]at e2'
   cases q:own[i]? with
   | none=>rw[q]at e2';cases e2'
   | some y=>rw[q]at e2';cases e2'
  .rw[JZ (by simpa using hi),Xi]at e2'
   rw[JZ (!0),Xi]at e1';rw[Xd]at e2';cases q:caps[i-own.length]? with
   | none=>rw[q]at e2';cases e2'
   | some j=>
    rw[q]at e1' e2';have e1:X.N.getD j Str.empty=x:=QR e1';have e2:(O[j]?).getD YC=YB v:=QR e2';have e4:O[j]? =YB (YB v):=by
     cases r:O[j]? with
     | none=>rw[r]at e2;cases e2
     | some o=>rw[r]at e2;exact YW YB e2
    have hj:j<X.N.length:=by rw[<-I.len];exact(Xk.mp e4).1
    have e5:X.N[j]? =YB x:=by rw[<-e1];simp[Xm,hj]
    have hc:=BX.mp S.caps j (Qg q);have e6:sc.names.lookup x=YB .free:=by rw[<-e1];simpa using hc
    have hm:=Bs e6;have kx:=S.fr hm;obtain⟨m,hn,hl⟩:=I.loc;obtain⟨u,ru,lo⟩:=hl j x v e5 e4 (by rcases kx with z|z;exact .inr (.inl z);exact .inr (.inr z));refine⟨u,ru,.inr ⟨?_,?_⟩⟩
    .have:=kinds x _ e6
     show(relabel sc X.env).names.lookup x=_\/(relabel sc X.env).names.lookup x=_;rw[this];split
     .exact .inl rfl
     .exact .inr rfl
    .rcases lo with⟨z,_⟩|⟨_,c,hc1,hc2⟩
     .rcases kx with w|w<;>(rw[w]at z;cases z)
     .obtain⟨d,hd⟩:=hcl2 x hm
      obtain⟨d',h1,h2⟩:=Ys (BC.old _ hd);refine⟨d',h1,?_⟩;rcases BC.mem x d' h2 with w|⟨_,_,w⟩
      .have w':=(hcl x d' w).2
       rw[hc1]at w';cases w';exact hc2.keeps keep
      .have:=S.lk w
       rw[e6]at this;cases this
 .intro x c e
  exact isc x c (lk' x c e)
 .exact fresh _ (QQ _)
 .intro x c e
  rcases BC.mem x c (lk' x c e)with z|⟨_,z,_⟩
  .have e':=(hcl x c z).2
   have hlt:=cellOld x c e';rw[Zk (Xr hlt)];exact I.freeC x c e'
  .exact fresh c (!0)
 .show(Jy own caps O).length=N'.length
  rw[S.names];unfold Jy;simp
end
def Z04(J:It)(g:TG)(tt:TT)(te:TE)(O0:St)(D:YG)(Q:Hp->Prop)(H1:Hp):Prop :=
 ∃W:Nat->Nat->St->Hp->Prop,(∃m,W 0 m O0 (upd H1 D (.lst [])))/\∀i m O' H',W i m O' H' ->
  (J.stop i H'/\Q H')\/(J.go i H'/\∀x H2,J.yld i H' x H2->g x O' H2 λO2 H3=>tt O2 H3 λb H4=>
   if b=YD then te O2 H4 λy H5=>∃ys,H5 D=YB (.lst ys)/\ys.length<Xw/\∃m',m'<m/\W (i+1) m' O2 (upd H5 D (.lst (ys++[y])))
   else∃m',m'<m/\W (i+1) m' O2 H4)
def Z3m(own:List Str)(caps:List Nat)(wi:TI)(g:TG)(tt:TT)(te:TE):TE:=λO H Q=>wi O H λJ H1=>∀D,H1 D=YC->Z04 J g tt te (Jy own caps O) D (Q (.ref D)) H1
def Ycr:TT:=λ_ H Q=>Q YD H
def Z4v(X:Cx)(ifs:List YJ)(t:TT):Prop :=
 ∀(pins:List (YG×Obj)) (s:Xf) (O:St) (H:Hp) (Q:Bool->Hp->Prop),Inv X pins O H s->t O H Q ->
  Xz (X4 X.prog X.w) X.A (forIn ifs YD λc r=>if r=YD then do let ok<-isTrue c X.env (eval c X.env);pure (Bq ok)else pure (Bq r)) (TP X pins O Q) X.xe s
def Z35:Z4v X [] Ycr:=λpins s O H Q I h=>by
 rw[List.forIn_nil];exact Xl ⟨H,I,h⟩
def Z3t{c:YJ}{t:TT}(h:PT X c t):Z4v X [c] t:=λpins s O H Q I q=>wpAny_tests_one (h pins s O H Q I q)
theorem Z2o{t:Sem Y}{Q Q':Y->Xf->Prop}(h:Xz M A t Q (λ_ _=>False) s)(hQ:∀a s,Q a s->Q' a s):Xz M A t Q' E s :=
 QB h hQ λ_ _ z=>z.elim
section
variable {own:List Str}{caps:List Nat}{N':List Str}{sc:YL}{elt:YJ}{ifs:List YJ}{wi:TI}{g:TG}{tt:TT}
theorem Zn9{p':List (YG×Obj)}{O O':St}{fp:List YG}{cells:List (Str×YG)}(I:Inv X pins O H s)(f:∀b∈fp,Ziz X pins H b)
  (I':Inv (Y6 X N' sc C cells s H fp) p' O' H' s') (hs:JQ C s'.heap h'):Inv X pins O H' { s' with heap:=h' }:=by
 have hC:s.heap.objs.size<=C:=I'.ok.above;have B:=I'.base;have ne:∀b o,s.heap.get? b=YB o->b≠C:=λb o e=>Xr (Qi (XH e) hC);obtain⟨m,⟨oC,_,_,hoC,_⟩,_⟩:=I'.loc;refine I.call' (ch:=fp) (s':={ s' with heap:=h' }) I'.os ⟨λb o e n hb hx=>?_,λb o e n hb hx=>?_,B.free,λb o e hx=>?_,B.tups,B.frzs,B.tbls⟩ (λb ob e=>?_) I'.bare λb hb=>?_
 .exact(hs.2 b (ne b o e)).trans (B.keep b o e n hb hx)
 .obtain⟨sl,q⟩:=B.slot b o e n hb hx
  exact⟨sl,(hs.2 b (ne b o e)).trans q⟩
 .obtain⟨o',q⟩:=B.there b o e hx
  exact⟨o',(hs.2 b (ne b o e)).trans q⟩
 .have hfree:H' C=YC:=I'.free
  refine(I'.hok b ob e).stay (λc w' hc q=>(hs.2 c ?_).trans q) (λ_ q=>q) λ_ _ q=>q;rintro rfl;rcases hc with rfl|hc
  .rw[hfree]at e;cases e
  .rw[hfree]at hc;cases hc
 .obtain⟨_,f1,_,f3,f4,f5⟩:=f b hb
  exact⟨f3,f1,f4,f5⟩
theorem Zig{Qf:Result->Xf->Prop}(S:CompScope X own caps N' sc)(hc:X.calm=YD)
  (hg:∀C cells s₂ H₂ fp,PG (Y6 X N' sc C cells s₂ H₂ fp) tg g) (ht:∀C cells s₂ H₂ fp,Z4v (Y6 X N' sc C cells s₂ H₂ fp) ifs tt) (he:∀C cells s₂ H₂ fp,PE (Y6 X N' sc C cells s₂ H₂ fp) elt te)
   {O:St}   {fp:List YG} {it:YG} {tn:Nat->YH->Prop} {J:It} {Q:Hp->Prop} (I:Inv X pins O H s) (T:Turn X.prog X.w X.K tg J fp it tn) (st:tn 0 s.heap) (f:∀b∈fp,Ziz X pins H b)
  (h:Z04 J g tt te (Jy own caps O) s.heap.objs.size Q H)
  (fin:∀s' O' H' p' C cells,Inv (Y6 X N' sc C cells s H fp) p' O' H' s'->C=s.heap.objs.size+1->Q H'->Qf (.ok .next) s') :
  Xz (X4 X.prog X.w) X.A (newFunctionEnv sc X.env.globals (Zhv X.env sc.names []) [] X.env.qual YC .none (YB X.env)) (λcenv s₄=>
   cenv.locals=s.heap.objs.size+1/\codeAny (X4 X.prog X.w) X.A (.compStart (.ListComp elt [⟨tg,iter,ifs,0⟩] sc pos) 0 (.ref it) (.ref s.heap.objs.size) { cenv with scope:=relabel sc X.env }) Qf s₄) X.xe
    { s with heap:=s.heap.push { cls:=.type "list",data:=.seq #[] } }:=by
 have hf:∀y∈sc.names,y.2= .free->∃c,X.env.cells.lookup y.1=YB c:=λy hy e=>by
  obtain⟨n,k⟩:=y;have e':k= .free:=e;subst e';exact I.ok.has n (S.fr hy)
 have hcl:∀n c,(n,c)∈Zhv X.env sc.names []->(n,Q9)∈sc.names/\X.env.cells.lookup n=YB c:=λn c m=>(Zji sc.names [] hf n c m).elim (λz=>nomatch z) id;have hap:=Ze7 I.ok.inj sc.names [] hf S.nn (λ_ z=>nomatch z) (λ_ z=>nomatch z) .nil;have I0:=Zpv (cl:=Zhv X.env sc.names []) S I f (λb hb=>let⟨o,e,_⟩:=T.obj _ _ st b hb;⟨o,e⟩) hcl (λn m=>Zjn sc.names [] n m) hap;refine Zhz ?_;rw[show({ s with heap:=s.heap.push { cls:=.type "list",data:=.seq #[] } }:Xf).heap.objs.size=s.heap.objs.size+1 from QS ..];refine⟨rfl,?_⟩;dsimp only;generalize hs0:({ s with heap:=Vs ((s.heap.push { cls:=.type "list",data:=.seq #[] }).push { cls:=.type "dict",data:=.dict #[] }) sc.names }:Xf)=s0 at I0|-
 have st0:tn 0 s0.heap:=T.keep _ _ _ st λb hb o e=>by
  rw[<-hs0];exact pushCells_keeps _ _ _ _ (Xg _ (Xg _ e))
 generalize hcells:BK (s.heap.objs.size+1+1) sc.names (Zhv X.env sc.names [])=cells at I0|-
 -- the loop
 obtain⟨W,⟨m0,w0⟩,turn⟩:=h;have loop:codeAny (X4 X.prog X.w) X.A (.compLoop (.ListComp elt [⟨tg,iter,ifs,0⟩] sc pos) 0 (.ref it) (.ref s.heap.objs.size) (Y6 X N' sc (s.heap.objs.size+1) cells s H fp).env) Qf s0:=by
  generalize hX':Y6 X N' sc (s.heap.objs.size+1) cells s H fp=X' at I0|-
  have hg':=hg (s.heap.objs.size+1) cells s H fp;have ht':=ht (s.heap.objs.size+1) cells s H fp;have he':=he (s.heap.objs.size+1) cells s H fp;have fin':=λs' O' H' p' (z:Inv (Y6 X N' sc (s.heap.objs.size+1) cells s H fp) p' O' H' s')=>fin s' O' H' p' _ _ z rfl;rw[hX']at hg' ht' he' fin';have hxe:X'.xe= λ_ _=>False:=by rw[<-hX'];rfl
  have hpr:X'.prog=X.prog:=by rw[<-hX'];rfl
  have hw:X'.w=X.w:=by rw[<-hX'];rfl
  have hK:X'.K=X.K:=by rw[<-hX'];rfl
  have hA:X'.A=X.A:=by rw[<-hX'];rfl
  have hcm:X'.calm=YD:=by rw[<-hX'];exact hc
  have hex:X'.ex=fp:=by rw[<-hX'];rfl
  have hpn:X'.pn=[]:=by rw[<-hX'];rfl
  have stat:∀{H':Hp},(∀b∈fp,H' b=YC)->∀b∈fp,Ziz X' [] H' b:=λhn b hb=>by
   have e1:=I0.ok.exf b (by rw[hex];exact hb);have e2:=I0.ok.exfs b (by rw[hex];exact hb);exact⟨hn b hb,e1.1,e2,.inl (by rw[hex];exact hb),e1.2,λp hp=>by rw[hpn]at hp;exact nomatch hp⟩
  have frD:∀b∈fp,(upd H s.heap.objs.size (.lst [])) b=YC:=λb hb=>by
   obtain⟨o,e,_⟩:=T.obj _ _ st b hb;rw[Zk (Xr (XH e))];exact(f b hb).1
  have T':Turn X'.prog X'.w X'.K tg J fp it tn:=by rw[hpr,hw,hK];exact T
  rw[<-hpr,<-hw,<-hA];refine Zll (λn s'=>∃i O' H',Inv X' [] O' H' s'/\tn i s'.heap/\(∀b∈fp,H' b=YC)/\W i n O' H') ?_ m0 ⟨0,_,_,I0,st0,frD,w0⟩;rintro n s3 ⟨i,O3,H3,I3,st3,fr3,w3⟩;rcases turn i n O3 H3 w3 with⟨stop,qn⟩|⟨go,step⟩
  .refine Z2o (T'.done X' rfl rfl rfl hcm i [] s3 O3 H3 _ I3 (stat fr3) st3 stop) λr s4 qz9=>?_
   obtain⟨hr,I4⟩:=qz9;subst hr;exact fin' s4 O3 H3 [] I4 qn
  .refine Z2o (T'.item X' rfl rfl rfl hcm i [] s3 O3 H3 _ I3 (stat fr3) st3 go) λr s4 qz9=>?_
   obtain⟨u,hr,h4⟩:=qz9;subst hr;refine Z2o h4 λ_ s5 qz9=>?_;obtain⟨x,H5,I5,r5,y5,st5,fr5⟩:=qz9;have I5':=I5.pinned (stat fr5) (T.obj _ _ st5);have hgg:=hg' _ s5 O3 H5 x u _ I5' r5 (step x H5 y5);rw[hxe]at hgg;refine Z2o hgg λ_ s6 qz9=>?_;obtain⟨O6,H6,I6,q6⟩:=qz9;have htt:=ht' _ s6 O6 H6 _ I6 q6;rw[hxe]at htt;refine Z2o htt λok s7 qz9=>?_;obtain⟨H7,I7,q7⟩:=qz9;have again:∀{O7:St} {H7:Hp} {s7:Xf} {m:Nat},Inv X' ([]++Zi2 fp s5.heap) O7 H7 s7->W (i+1) m O7 H7->m<n->∃m,m<n/\∃i O' H',Inv X' [] O' H' s7/\tn i s7.heap/\(∀b∈fp,H' b=YC)/\W i m O' H':=fun{O7 H7 s7 m} I7 w7 hm=>by
    refine⟨m,hm,i+1,O7,H7,I7.unpinned,T.keep _ _ _ st5 λb hb o e=>(I7.pin (b,o) (XR _ (XR _ (J3 hb e)))).1,λb hb=>?_,w7⟩;obtain⟨o,e,d⟩:=T.obj _ _ st5 b hb;exact(I7.pin (b,o) (XR _ (XR _ (J3 hb e)))).2.1
   cases ok with
   | false=>
    obtain⟨m',hm,w7⟩:=q7;rw[YQ Xx];exact again I7 w7 hm
   | true=>
    rw[YM rfl];have hee:=he' _ s7 O6 H7 _ I7 q7;rw[hxe]at hee;refine Z2o hee λy s8 qz9=>?_;obtain⟨vy,H8,I8,r8,ys,hD,hlen,m',hm,w8⟩:=qz9;have hap:=Zhh (X:=X') _ s8 O6 H8 (.ref s.heap.objs.size) [vy] (.ref s.heap.objs.size) [y] (λ_ H'=>W (i+1) m' O6 H') I8 rfl (.cons r8 .nil) ⟨_,ys,vy,rfl,rfl,hD,hlen,w8⟩;rw[hxe]at hap;refine Z2o hap λz s9 qz9=>?_;obtain⟨_,H9,I9,_,w9⟩:=qz9;exact again I9 w9 hm
 exact codeAny_compStart_list loop (T.self _ 0 _ _ _ st0 loop)
theorem Z18(S:CompScope X own caps N' sc)(hc:X.calm=YD)(hi:PI X tg iter wi)
  (hg:∀C cells s₂ H₂ fp,PG (Y6 X N' sc C cells s₂ H₂ fp) tg g) (ht:∀C cells s₂ H₂ fp,Z4v (Y6 X N' sc C cells s₂ H₂ fp) ifs tt) (he:∀C cells s₂ H₂ fp,PE (Y6 X N' sc C cells s₂ H₂ fp) elt te)
  (hs:∀x,JX iter X.env x=pure x:=by intro _;rfl):PE X (.ListComp elt [⟨tg,iter,ifs,0⟩] sc pos) (Z3m own caps wi g tt te):=by
 intro pins s O H Q I h;rw[eval_ListComp];have hf:∀y∈sc.names,y.2= .free->∃c,X.env.cells.lookup y.1=YB c:=λy hy e=>by
  obtain⟨n,k⟩:=y;have e':k= .free:=e;subst e';exact I.ok.has n (S.fr hy)
 refine wpAny_comprehension_free (use:=YC) rfl hs (Zda hf) S.kind (λy hy e=>by obtain⟨n,k⟩:=y;have e':k= .local:=e;subst e';exact S.lk hy) ?_;refine thn (hi pins s O H _ I h) λv s1 h1=>thn h1 λitv s2 h2=>?_;obtain⟨it,fp,tn,J,H2,e,I2,T,st2,f2,q⟩:=h2;subst e;refine JW ?_;refine thn (Zig (iter:=iter) (pos:=pos) (Qf:=compPost (X4 X.prog X.w) X.A X.xe YC (EP X pins O Q) (.ref s2.heap.objs.size) (s2.heap.objs.size+1)) S hc hg ht he I2 T st2 f2 (q s2.heap.objs.size I2.fresh) ?_) λcenv s4 ⟨hl,hr⟩=>?_
 .intro s' O' H' p' C cells I' eC q'
  subst eC;obtain⟨m,hn,_⟩:=id I'.loc;exact⟨m,hn,λh' hs'=>⟨.ref s2.heap.objs.size,H',Zn9 I2 f2 I' hs',rfl,q'⟩⟩
 .rw[<-hl]at hr
  exact hr
end
section
variable {own:List Str}{caps:List Nat}{N':List Str}{sc:YL}{elt:YJ}{ifs:List YJ}{wi:TI}{g:TG}{tt:TT}
theorem Zp2{y:Str}{py spos:Pos}(hN:X.N.Nodup)(hy:X.N[i]? =YB y)(hx:Loc X.env.scope y)(S:CompScope X own caps N' sc)(hc:X.calm=YD)(hi:PI X tg iter wi)
  (hg:∀C cells s₂ H₂ fp,PG (Y6 X N' sc C cells s₂ H₂ fp) tg g) (ht:∀C cells s₂ H₂ fp,Z4v (Y6 X N' sc C cells s₂ H₂ fp) ifs tt) (he:∀C cells s₂ H₂ fp,PE (Y6 X N' sc C cells s₂ H₂ fp) elt te)
  (hsw:Vi (.ListComp elt [⟨tg,iter,ifs,0⟩] sc pos) (YB (.Name y py)) spos.line X.env=pure YD:=by rfl)
  (hs:∀x,JX iter X.env x=pure x:=by intro _;rfl) (hf:X.fn y=YD\/X.env.scope.names.lookup y=YB .local:=by first|exact .inl rfl|exact .inr rfl|assumption) :
  PS X (.Assign [.Name y py] (.ListComp elt [⟨tg,iter,ifs,0⟩] sc pos) spos) (Z97 (Z3m own caps wi g tt te) (Zu9 i)):=by
 intro pins s O H D I h;have hfr:∀y∈sc.names,y.2= .free->∃c,X.env.cells.lookup y.1=YB c:=λy hy e=>by
  obtain⟨n,k⟩:=y;have e':k= .free:=e;subst e';exact I.ok.has n (S.fr hy)
 rw[exec_Assign_Name_used _ _ _ _ hsw];refine Xb (wpAny_standAt (Xb ?_));show Xz _ X.A (do let _<-comprehension (.ListComp elt [⟨tg,iter,ifs,0⟩] sc pos) sc X.env _ (newList []) YF (eval iter X.env) (YB (assign (.Name y py) X.env))) _ _ s;refine Xb (QB (wpAny_comprehension_free (use:=YB (assign (.Name y py) X.env)) (Q:=λ_ s'=>SP X pins D .next s') rfl hs (Zda hfr) S.kind (λy hy e=>by obtain⟨n,k⟩:=y;have e':k= .local:=e;subst e';exact S.lk hy) ?_) (λ_ s' hq=>Xl (Xl hq)) λ_ _ e=>e);refine thn (hi pins s O H _ I h) λv s1 h1=>thn h1 λitv s2 h2=>?_;obtain⟨it,fp,tn,J,H2,e,I2,T,st2,f2,q⟩:=h2;subst e;refine JW ?_;refine thn (Zig (iter:=iter) (pos:=pos) (Qf:=compPost (X4 X.prog X.w) X.A X.xe (YB (assign (.Name y py) X.env)) (λ_ s'=>SP X pins D .next s') (.ref s2.heap.objs.size) (s2.heap.objs.size+1)) S hc hg ht he I2 T st2 f2 (q s2.heap.objs.size I2.fresh) ?_) λcenv s4 ⟨hl,hr⟩=>?_
 .intro s' O' H' p' C cells I' eC q'
  subst eC;obtain⟨m,hn,_⟩:=id I'.loc;have I3:Inv X pins O H' s':=Zn9 I2 f2 I' (.refl ..);show Xz _ X.A (assign (.Name y py) X.env (.ref s2.heap.objs.size)) _ _ s';refine wpAny_assign_Name (Zkp (v:=.ref s2.heap.objs.size) I3 hN hy hx rfl (λs5 I5 hsb=>?_) hf);have hC:s2.heap.objs.size<s2.heap.objs.size+1:=QQ _;have ltL:X.env.locals<s2.heap.objs.size:=I2.lt;have ltC:∀x c,X.env.cells.lookup x=YB c->c<s2.heap.objs.size:=λx c e=>by
   obtain⟨w',z⟩:=I2.cell x c e;exact z.lt
  refine⟨m,?_,λh' hs'=>⟨O.set i (YB (.ref s2.heap.objs.size)),H',?_,q'⟩⟩
  .obtain⟨a,hsa,ha⟩:=hsb
   refine hn.sameBut hsa ?_;rcases ha with ha|ha
   .rw[ha];exact X5 (Vd ltL hC)
   .exact X5 (Vd (ltC _ _ ha) hC)
  .refine I5.turned (t':=s5.toks) (it:=s2.heap.objs.size+1) (λb o hb e=>(hs'.2 b hb).trans e) I'.free (X5 (Vd ltL hC)) (.inr (QX I2.sz (Vy hC))) (λx c e=>Xr (Vd (ltC x c e) hC)) λp hp=>?_
   obtain⟨e,_⟩:=I2.pin p hp;exact Xr (Vd (XH e) hC)
 .rw[<-hl]at hr
  exact hr
end
section
variable (n:Nat)(D:YG)(Pv:Nat->List V->St->Hp->Prop)
variable {n D Pv}
end
mutual
inductive Is(H:Hp)(L:YG->Prop):V->Xa->Prop where
 | non:Is H L .non .none
 | bl (b:Bool):Is H L (.bl b) (.bool b)
 | int (i:Int):Is H L (.int i) (.int i)
 | str (x:Str):Is H L (.str x) (.str x)
 | lst {a:YG} {xs:List V} {ds:List Xa}:L a->H a=YB (.lst xs)->IsAll H L xs ds->Is H L (.ref a) (.list ds)
 | tup {a:YG} {xs:List V} {ds:List Xa}:H a=YB (.tup xs)->IsAll H L xs ds->Is H L (.ref a) (.tuple ds)
inductive IsAll(H:Hp)(L:YG->Prop):List V->List Xa->Prop where
 | nil:IsAll H L [] []
 | cons {x:V} {xs:List V} {d:Xa} {ds:List Xa}:Is H L x d->IsAll H L xs ds->IsAll H L (x::xs) (d::ds)
end
section
variable {L L':YG->Prop}
def IsAll.ind{Q:List V->List Xa->Prop}(n:Q [] [])(c:∀{x:V} {xs:List V} {d:Xa} {ds:List Xa},Is H L x d->IsAll H L xs ds->Q xs ds->Q (x::xs) (d::ds)):∀{xs ds},IsAll H L xs ds->Q xs ds:=λh=>
 IsAll.rec (motive_1:=λ_ _ _=>True) (motive_2:=λxs ds _=>Q xs ds) trivial (λ_=>trivial) (λ_=>trivial) (λ_=>trivial) (λ_ _ _ _=>trivial) (λ_ _ _=>trivial) n (λp q _ r=>c p q r) h
theorem IsAll.length{xs:List V}{ds:List Xa}(h:IsAll H L xs ds):xs.length=ds.length:=IsAll.ind (Q:=λxs ds=>xs.length=ds.length) rfl (λ_ _ r=>YW (·+1) r) h
theorem IsAll.set{xs:List V}{ds:List Xa}{x:V}{d:Xa}(i:Nat)(h:IsAll H L xs ds)(k:Is H L x d):IsAll H L (xs.set i x) (ds.set i d) :=
 IsAll.ind (Q:=λxs ds=>∀i,IsAll H L (xs.set i x) (ds.set i d)) (λ_=>.nil) (λh q r i=>Nat.casesOn i (.cons k q) λi=>.cons h (r i)) h i
end
section
variable {O:St}{L L':YG->Prop}
end
abbrev Shp(d:Xa):Prop:=SeqAt.shaped d=YD
mutual
def Wm:Xa->Bool
 | .none=>YD
 | .int _=>YD
 | .str _=>YD
 | .list ds=>Zce ds
 | .tuple ds=>Zce ds
 | _=>YF
def Zce:List Xa->Bool
 | []=>YD
 | d::ds=>Wm d&&Zce ds
end
mutual
theorem Zmp:∀(d e:Xa),Wm d=YD->Wm e=YD->(JF d e=YD↔d=e)
 | .none,e,_,he=>by cases e<;>simp_all [JF,Wm]
 | .int i,e,_,he=>by cases e<;>simp_all [JF,Wm]
 | .str i,e,_,he=>by cases e<;>simp_all [JF,Wm]
 | .list ds,e,hd,he=>by
  cases e with
  | list es=>
   rw[Wm]at hd he;rw[JF,VP.injEq];exact Zev ds es hd he
  | _=>simp_all [JF,Wm]
 | .tuple ds,e,hd,he=>by
  cases e with
  | tuple es=>
   rw[Wm]at hd he;rw[JF,PyData.tuple.injEq];exact Zev ds es hd he
  | _=>simp_all [JF,Wm]
 | .bool b,e,hd,_=>by simp[Wm]at hd
 | .dict b,e,hd,_=>by simp[Wm]at hd
theorem Zev:∀(ds es:List Xa),Zce ds=YD->Zce es=YD->(PyData.eqvAll ds es=YD↔ds=es)
 | [],[],_,_=>by simp[PyData.eqvAll]
 | [],_::_,_,_=>by simp[PyData.eqvAll]
 | _::_,[],_,_=>by simp[PyData.eqvAll]
 | d::ds,e::es,hd,he=>by
  rw[Zce,XJ]at hd he;rw[PyData.eqvAll,XJ,Zmp d e hd.1 he.1,Zev ds es hd.2 he.2,List.cons.injEq]
end
theorem Zzu{d e:Xa}(h:Wm d=YD)(k:Wm e=YD)(q:d=e):JF d e=YD:=(Zmp d e h k).mpr q
theorem Z64{d e:Xa}(h:Wm d=YD)(k:Wm e=YD)(q:d≠e):JF d e=YF:=Ve.mpr λz=>q ((Zmp d e h k).mp z)
def fr(a b:Int):Xa:=.tuple [.int a,.int b]
def frD(q:Rat):Xa:=fr q.num (q.den:Int)
def BQ(n:Nat)(q:Rat):Prop:=Bt n q.num/\Bt n (q.den:Int)
theorem BQ.zero:BQ 1 0:=⟨by unfold Bt;decide,by unfold Bt;decide⟩
section
variable {a o:YJ}
def Zxv(hK:X.K=K):IxR X (Ycj K):=hK▸Zts
def Z06(hK:X.K=K):IxR X (rIx K):=hK▸Z6j
def Zxj(hK:X.K=K):SlR X (Ygj K):=hK▸Z1i
def Yhb(K:Xc):List V->Hp->VK->Prop:=λxs H Q=>∃p ys,xs=[.ref p]/\(SqL K H p ys\/SqT K H p ys)/\Q (.int ys.length) H
def Zdx(hK:X.K=K):Zc0 X (.builtin "len") (Yhb K):=by subst hK;exact Zlt
def Zul(K:Xc):List V->Hp->VK->Prop:=λxs H Q=>∃p ys,xs=[.ref p]/\(SqL K H p ys\/SqT K H p ys)/\∀l,H l=YC->Q (.ref l) (upd H l (.lst ys))
def Zqo(hK:X.K=K):Zc0 X (.type "list") (Zul K):=by subst hK;exact Zl7
def Yi1(K:Xc)(ta:TE):TT:=λO H Q=>ta O H λx H'=>∃k,Yc3 K x H' k/\Q k H'
def Z4x(hK:X.K=K)(ha:PE X a ta)(he:∀whole,isTrue a X.env whole=(do let v<-whole;standAt a.pos;holding [v] (truthy v))):PT X a (Yi1 K ta):=by subst hK;exact Zv9 ha he
def Zyg{l:YJ}(hK:X.K=K)(hl:PE X l tl):PI X tg l (Ya2 K tl):=by subst hK;exact Z40 hl
def Z24{l:YJ}(hK:X.K=K)(hl:PE X l tl):PI X tg l (Yhx K tl):=by subst hK;exact Z7h hl
theorem Zox(hK:X.K=K):OpR X (QL .In) (rIn K YF):=by subst hK;exact Zsw
def Zg8(hK:X.K=K):OpR X (QL .NotIn) (rIn K YD):=by subst hK;exact Zlb
end
theorem Zw{p:YG}(h:H p=YC)(o:HO):Same H (upd H p o):=λb u q=>by rw[Zk (Ym q h)];exact q
def But(p:YG)(H H':Hp):Prop:=∀b o,b≠p->H b=YB o->H' b=YB o
theorem But.upd(p:YG)(H:Hp)(o:HO):But p H (upd H p o):=λb u n e=>by rw[Zk n];exact e
def Pl(H:Hp)(p:YG)(n:Nat):Prop:=∃a b c:Int,H p=YB (.lst [.int a,.int b,.int c])/\0<=c/\c<=n
theorem Pl.at{H:Hp}{p:YG}{n:Nat}(h:Pl H p n):∃xs,H p=YB (.lst xs):=by
 obtain⟨a,b,c,e,h1,h2⟩:=h;exact⟨_,e⟩
namespace B
def boot_len:Qh "len"=YB (.builtin "len"):=by decide +kernel
def boot_max:Qh "max"=YB (.builtin "max"):=by decide +kernel
def boot_min:Qh "min"=YB (.builtin "min"):=by decide +kernel
def boot_isinstance:Qh "isinstance"=YB (.builtin "isinstance"):=by decide +kernel
def boot_sorted:Qh "sorted"=YB (.builtin "sorted"):=by decide +kernel
def boot_int:Qh "int"=YB (.type "int"):=by decide +kernel
def boot_bool:Qh "bool"=YB (.type "bool"):=by decide +kernel
def boot_list:Qh "list"=YB (.type "list"):=by decide +kernel
def boot_range:Qh "range"=YB (.type "range"):=by decide +kernel
def boot_zip:Qh "zip"=YB (.type "zip"):=by decide +kernel
def boot_enumerate:Qh "enumerate"=YB (.type "enumerate"):=by decide +kernel
def boot_set:Qh "set"=YB (.type "set"):=by decide +kernel
end B
def Znz{a b:Int}(hb:0<b):a.fmod b=a%b:=Int.fmod_eq_emod_of_nonneg a (!0)
def Z0a:(2:Nat)<=Xw:=by decide
theorem BQ.n{n:Nat}{q:Rat}(h:BQ n q):Bt n q.num:=h.1
theorem BQ.d{n:Nat}{q:Rat}(h:BQ n q):Bt n (q.den:Int):=h.2
variable {G:Xc}
def KS(G:Xc)(a:YG)(ns:List Int):Prop:=∃(o:Obj) (its:Array Xe) (n:Nat),G.lookup a=YB o/\o.cls= .type "list"/\o.dict=YC/\o.data= .seq its n/\its.size<=Xw/\Vals (ns.map V.int) its.toList
def KS.sq{G:Xc}{ns:List Int}(h:KS G a ns):SqL G H a (ns.map V.int):=.inr h
def exD(x:Str):Xa:=.dict [(.str x,.none)]
def fnD(x:Str):Xa:=.dict [(.str x,.bool YD)]
def Zkx:Xa->Bool| .dict ((_,.bool _)::_)=>YD|_=>YF
def ClsAt(G:Xc)(x:Str)(C:YG):Prop:=Qv G Qa x=YB (YB (.ref C))
structure Zbl(G:Xc)(C:YG):Prop where
 ga:VH G (.ref C) "__getattribute__"=YB (YB (.builtin "BaseException.__getattribute__"))
 gt:VH G (.ref C) "__getattr__"=YB YC
 cl:VH G (.ref C) "__class__"=YB (YB (.builtin "object.__class__"))
 isB:Vh G (.ref C) (.type "BaseException")=YB YD
 isO:Vh G (.ref C) (.type "object")=YB YD
 isC:(PySem.W.clsIn G C).isSome=YD
 k1:QC G (.ref C) (.type "int")=YB YF
 k2:QC G (.ref C) (.type "bool")=YB YF
 k3:QC G (.ref C) (.type "str")=YB YF
 k4:QC G (.ref C) (.type "list")=YB YF
 k5:QC G (.ref C) (.type "tuple")=YB YF
def ExO(C a:YG)(h:YH):Prop:=∃o vs,h.get? a=YB o/\o.cls= .ref C/\o.data= .fields vs
inductive ImO where
 | tup (xs:List V)
 | ext (φ:YH->Prop)
def ImO.ho:ImO->HO
 | .tup xs=>.tup xs
 | .ext φ=>.ext φ
inductive MuO where
 | lst (xs:List V)
 | dK (kvs:List (Key×V))
 | dT (kvs:List (List Key×V))
def MuO.ho:MuO->HO
 | .lst xs=>.lst xs
 | .dK kvs=>.dK kvs
 | .dT kvs=>.dT kvs
def Z8d:Key->Xa
 | .inl i=>.int i
 | .inr x=>.str x
def keyT(ks:List Key):Xa:=.tuple (ks.map Z8d)
abbrev KY:=Sum Key (List Key)
def kyD:KY->Xa
 | .inl k=>Z8d k
 | .inr ks=>keyT ks
def MuO.dic(t:Bool)(ks:List KY)(xs:List V):MuO->Prop
 | .lst _=>False
 | .dK kvs=>t=YF/\ks=kvs.map (λp=>.inl p.1)/\xs=kvs.map (·.2)
 | .dT kvs=>t=YD/\ks=kvs.map (λp=>.inr p.1)/\xs=kvs.map (·.2)
def dcD(t:Bool)(ks:List KY)(ds:List Xa):Xa:=.dict ((.none,.bool t)::(ks.map kyD).zip ds)
theorem ImO.nm{H:Hp}{a:YG}{x:ImO}{y:MuO}(h:H a=YB x.ho)(h':H a=YB y.ho):False:=by
 rw[h]at h';cases x<;>cases y<;>cases h'
theorem ImO.nl{x:ImO}{ys:List V}(h:H a=YB x.ho)(h':H a=YB (.lst ys)):False:=by
 rw[h]at h';cases x<;>cases h'
mutual
inductive Da(G:Xc)(H:Hp)(L:YG->Prop):V->Xa->Prop where
 | non:Da G H L .non .none
 | bl (b:Bool):Da G H L (.bl b) (.bool b)
 | int (i:Int):Da G H L (.int i) (.int i)
 | str (x:Str):Da G H L (.str x) (.str x)
 | lst {a:YG} {xs:List V} {ds:List Xa}:L a->Rd H a (.lst xs)->Das G H L xs ds->Da G H L (.ref a) (.list ds)
 | tup {a:YG} {xs:List V} {ds:List Xa}:H a=YB (.tup xs)->Das G H L xs ds->Da G H L (.ref a) (.tuple ds)
 | scr {a:YG} {ns:List Int}:KS G a ns->Da G H L (.ref a) (.list (ns.map Xu))
 | exc {a C:YG} {x:Str}:Zbl G C->ClsAt G x C->H a=YB (.ext (ExO C a))->Da G H L (.ref a) (exD x)
 | fn {a:YG} {x:Str}:ClsAt G x a->Da G H L (.ref a) (fnD x)
 | dic {a:YG} {o:MuO} {t:Bool} {ks:List KY} {xs:List V} {ds:List Xa}:L a->Rd H a o.ho->o.dic t ks xs->Das G H L xs ds->Da G H L (.ref a) (dcD t ks ds)
inductive Das(G:Xc)(H:Hp)(L:YG->Prop):List V->List Xa->Prop where
 | nil:Das G H L [] []
 | cons {x:V} {xs:List V} {d:Xa} {ds:List Xa}:Da G H L x d->Das G H L xs ds->Das G H L (x::xs) (d::ds)
end
section
variable {L L':YG->Prop}
def Da.both{P:V->Xa->Prop}{Q:List V->List Xa->Prop}(c1:P .non .none)(c2:∀b,P (.bl b) (.bool b))(c3:∀i,P (.int i) (.int i))(c4:∀x,P (.str x) (.str x))
  (c5:∀{a:YG} {xs:List V} {ds:List Xa},L a->Rd H a (.lst xs)->Q xs ds->P (.ref a) (.list ds)) (c6:∀{a:YG} {xs:List V} {ds:List Xa},H a=YB (.tup xs)->Q xs ds->P (.ref a) (.tuple ds))
  (c7:∀{a:YG} {ns:List Int},KS G a ns->P (.ref a) (.list (ns.map Xu))) (c8:∀{a C:YG} {x:Str},Zbl G C->ClsAt G x C->H a=YB (.ext (ExO C a))->P (.ref a) (exD x)) (c9:∀{a:YG} {x:Str},ClsAt G x a->P (.ref a) (fnD x))
  (c10:∀{a:YG} {o:MuO} {t:Bool} {ks:List KY} {xs:List V} {ds:List Xa},L a->Rd H a o.ho->o.dic t ks xs->Q xs ds->P (.ref a) (dcD t ks ds)) (n:Q [] []) (c:∀{x:V} {xs:List V} {d:Xa} {ds:List Xa},P x d->Q xs ds->Q (x::xs) (d::ds)):(∀{v d},Da G H L v d->P v d)/\∀{xs ds},Das G H L xs ds->Q xs ds :=
 ⟨λh=>Da.rec (motive_1:=λv d _=>P v d) (motive_2:=λxs ds _=>Q xs ds) c1 c2 c3 c4 (λp e _ r=>c5 p e r) (λe _ r=>c6 e r) (λk=>c7 k) (λk l m=>c8 k l m) (λk=>c9 k) (λp e k _ r=>c10 p e k r) n (λ_ _ p q=>c p q) h,
   λh=>Das.rec (motive_1:=λv d _=>P v d) (motive_2:=λxs ds _=>Q xs ds) c1 c2 c3 c4 (λp e _ r=>c5 p e r) (λe _ r=>c6 e r) (λk=>c7 k) (λk l m=>c8 k l m) (λk=>c9 k) (λp e k _ r=>c10 p e k r) n (λ_ _ p q=>c p q) h⟩
def Das.ind{Q:List V->List Xa->Prop}(n:Q [] [])(c:∀{x:V} {xs:List V} {d:Xa} {ds:List Xa},Da G H L x d->Das G H L xs ds->Q xs ds->Q (x::xs) (d::ds)):∀{xs ds},Das G H L xs ds->Q xs ds:=λh=>
 Das.rec (motive_1:=λ_ _ _=>True) (motive_2:=λxs ds _=>Q xs ds) trivial (λ_=>trivial) (λ_=>trivial) (λ_=>trivial) (λ_ _ _ _=>trivial) (λ_ _ _=>trivial) (λ_=>trivial) (λ_ _ _=>trivial) (λ_=>trivial) (λ_ _ _ _ _=>trivial) n (λp q _ r=>c p q r) h
def Da.frame2(hl:∀a (xs:MuO),L a->Rd H a xs.ho->L' a/\Rd H' a xs.ho)(ht:∀a (xs:ImO),H a=YB xs.ho->H' a=YB xs.ho):(∀{v:V} {d:Xa},Da G H L v d->Da G H' L' v d)/\∀{xs:List V} {ds:List Xa},Das G H L xs ds->Das G H' L' xs ds :=
 Da.both .non .bl .int .str (fun{_ xs _} p e r=>.lst (hl _ (.lst xs) p e).1 (hl _ (.lst xs) p e).2 r) (fun{_ xs _} e r=>.tup (ht _ (.tup xs) e) r) .scr (λc n e=>.exc c n (ht _ (.ext _) e)) .fn (λp e k r=>.dic (hl _ _ p e).1 (hl _ _ p e).2 k r) .nil .cons
theorem Da.frame(hl:∀a (xs:MuO),L a->Rd H a xs.ho->L' a/\Rd H' a xs.ho)(ht:∀a (xs:ImO),H a=YB xs.ho->H' a=YB xs.ho){v:V}{d:Xa}(h:Da G H L v d):Da G H' L' v d:=(Da.frame2 hl ht).1 h
theorem Das.frame(hl:∀a (xs:MuO),L a->Rd H a xs.ho->L' a/\Rd H' a xs.ho)(ht:∀a (xs:ImO),H a=YB xs.ho->H' a=YB xs.ho){xs:List V}{ds:List Xa}(h:Das G H L xs ds):Das G H' L' xs ds:=(Da.frame2 hl ht).2 h
theorem Rd.same{u:HO}(s:Same H H')(h:Rd H a u):Rd H' a u:=h.imp (s _ _) λ⟨o,h⟩=>⟨o,s _ _ h⟩
theorem Rd.some{a:YG}{u:HO}(h:Rd H a u):H a≠Option.none:=by
 rcases h with h|⟨o,h⟩<;>rw[h]<;>intro z<;>cases z
theorem Da.same(h:Same H H'){v:V}{d:Xa}(x:Da G H L v d):Da G H' L v d:=x.frame (λa xs p e=>⟨p,e.same h⟩) λa xs e=>h _ _ e
theorem Das.same(h:Same H H'){v:List V}{d:List Xa}(x:Das G H L v d):Das G H' L v d:=x.frame (λa xs p e=>⟨p,e.same h⟩) λa xs e=>h _ _ e
theorem Da.wide(h:∀a,L a->H a≠YC->L' a){v:V}{d:Xa}(x:Da G H L v d):Da G H L' v d:=x.frame (λa xs p e=>⟨h a p e.some,e⟩) λa xs e=>e
theorem Das.wide(h:∀a,L a->H a≠YC->L' a){v:List V}{d:List Xa}(x:Das G H L v d):Das G H L' v d:=x.frame (λa xs p e=>⟨h a p e.some,e⟩) λa xs e=>e
theorem Das.length{xs:List V}{ds:List Xa}(h:Das G H L xs ds):xs.length=ds.length:=Das.ind (Q:=λxs ds=>xs.length=ds.length) rfl (λ_ _ r=>YW (·+1) r) h
def Das.append{xs ys:List V}{ds es:List Xa}(h:Das G H L xs ds)(k:Das G H L ys es):Das G H L (xs++ys) (ds++es):=Das.ind (Q:=λxs ds=>Das G H L (xs++ys) (ds++es)) k (λh _ r=>.cons h r) h
theorem Das.snoc{xs:List V}{ds:List Xa}{x:V}{d:Xa}(h:Das G H L xs ds)(k:Da G H L x d):Das G H L (xs++[x]) (ds++[d]):=h.append (.cons k .nil)
theorem Das.get{xs:List V}{ds:List Xa}{d:Xa}(h:Das G H L xs ds):ds[i]? =YB d->∃x,xs[i]? =YB x/\Da G H L x d :=
 Das.ind (Q:=λxs ds=>∀i,ds[i]? =YB d->∃x,xs[i]? =YB x/\Da G H L x d) (λ_ e=>(Option.some_ne_none _ (e.symm.trans U3)).elim) (fun{x _ _ _} h _ r i=>Nat.casesOn i (λe=>⟨x,rfl,QR e▸h⟩) λi e=>r i e) h i
def Das.get'{xs:List V}{ds:List Xa}{x:V}(h:Das G H L xs ds):xs[i]? =YB x->∃d,ds[i]? =YB d/\Da G H L x d :=
 Das.ind (Q:=λxs ds=>∀i,xs[i]? =YB x->∃d,ds[i]? =YB d/\Da G H L x d) (λ_ e=>(Option.some_ne_none _ (e.symm.trans U3)).elim) (fun{_ _ d _} h _ r i=>Nat.casesOn i (λe=>⟨d,rfl,QR e▸h⟩) λi e=>r i e) h i
theorem Das.take{xs:List V}{ds:List Xa}(n:Nat)(h:Das G H L xs ds):Das G H L (xs.take n) (ds.take n) :=
 Das.ind (Q:=λxs ds=>∀n,Das G H L (xs.take n) (ds.take n)) (λn=>by rw[List.take_nil,List.take_nil];exact .nil) (λh _ r n=>Nat.casesOn n .nil λn=>.cons h (r n)) h n
theorem Das.drop{xs:List V}{ds:List Xa}(n:Nat)(h:Das G H L xs ds):Das G H L (xs.drop n) (ds.drop n) :=
 Das.ind (Q:=λxs ds=>∀n,Das G H L (xs.drop n) (ds.drop n)) (λn=>by rw[List.drop_nil,List.drop_nil];exact .nil) (λh q r n=>Nat.casesOn n (.cons h q) λn=>r n) h n
def Das.ints(ns:List Int):Das G H L (ns.map V.int) (ns.map Xu):=by
 induction ns with
 | nil=>exact .nil
 | cons n ns ih=>exact .cons (.int n) ih
def Das.int_inv{xs:List V}{ns:List Int}(h:Das G H L xs (ns.map Xu)):xs=ns.map V.int:=by
 induction ns generalizing xs with
 | nil=>cases h;rfl
 | cons n ns ih=>
  rw[X7]at h;cases h with
  | cons h r=>cases h;rw[ih r];rfl
end
def Zqb(ns:List Int)(v:Vals (ns.map V.int) us):∃as,ReadsAll h us (ns.map Xu) as:=by
 induction ns generalizing us with
 | nil=>cases v;exact⟨_,.nil⟩
 | cons n ns ih=>
  rw[X7]at v;cases v with
  | cons r rs=>
   obtain⟨t,e⟩:=(show∃t,_=Vt n t from r);subst e;obtain⟨bs,k'⟩:=ih rs;exact⟨_,.cons (.int n t) k'⟩
section
variable {O:St}{L L':YG->Prop}
def Da.reads2(hG:X.K=G)(I:Inv X pins O H s):(∀{v:V} {d:Xa},Da G H L v d->∀u,RelV v u->d.canLay0=YD->∃as,Reads s.heap u d as)/\∀{xs:List V} {ds:List Xa},Das G H L xs ds->∀us,Vals xs us->Bp ds=YD->∃as,ReadsAll s.heap us ds as:=by
 refine Da.both ?_ ?_ ?_ ?_ ?_ ?_ ?_ ?_ ?_ ?_ ?_ ?_
 .intro u r _
  cases(show _=QD from r);exact⟨_,.none⟩
 .intro b u r _
  cases(show _=Value.bool b from r);exact⟨_,.bool b⟩
 .intro i u r _
  obtain⟨t,e⟩:=(show∃t,_=Vt i t from r);subst e;exact⟨_,.int i t⟩
 .intro x u r _
  obtain⟨t,e⟩:=(show∃t,_=Value.str x t from r);subst e;exact⟨_,.str x t⟩
 .intro a xs ds _ e q u r hcl
  cases(show _=Xy a from r);obtain⟨_,its,n,vs,h1⟩:=(show ObjOk X.prog X.w H s.heap a (.lst xs)from e.ok I.hok);rw[Vm]at hcl;obtain⟨as,k⟩:=q _ vs hcl;exact⟨_,Reads.list h1 rfl rfl k⟩
 .intro a xs ds e q u r hcl
  cases(show _=Xy a from r);obtain⟨_,its,vs,o,ho,hc,n,hd⟩:=(show ObjOk X.prog X.w H s.heap a (.tup xs)from I.hok a _ e);rw[Vm]at hcl;obtain⟨as,k⟩:=q _ vs hcl;exact⟨_,Reads.tuple ho hc hd k⟩
 .intro a ns k u r _
  cases(show _=Xy a from r);subst hG;obtain⟨its,vs,⟨o,n,ho,hc,hd,hs⟩,_⟩:=I.list (k.sq (H:=H));obtain⟨as,q⟩:=Zqb ns vs;exact⟨_,Reads.list ho hc hs q⟩
 .intro a C x _ _ e u r hc
  rw[exD,Vm]at hc;cases hc
 .intro a x _ u r hc
  rw[fnD,Vm]at hc;cases hc
 .intro a o t ks xs ds _ _ _ _ u r hc
  rw[dcD,Vm]at hc;cases hc
 .intro us v _
  cases v;exact⟨_,.nil⟩
 .intro x xs d ds h q us v hc
  cases v with
  | cons r rs=>
   rw[Bp,XJ]at hc;obtain⟨as,k⟩:=h _ r hc.1;obtain⟨bs,k'⟩:=q _ rs hc.2;exact⟨_,.cons k k'⟩
def Da.reads(hG:X.K=G)(I:Inv X pins O H s){v:V}{d:Xa}(h:Da G H L v d)(r:RelV v u)(c:d.canLay0=YD):∃as,Reads s.heap u d as:=(Da.reads2 hG I).1 h u r c
def Das.reads(hG:X.K=G)(I:Inv X pins O H s){xs:List V}{ds:List Xa}(h:Das G H L xs ds)(r:Vals xs us)(c:Bp ds=YD):∃as,ReadsAll s.heap us ds as:=(Da.reads2 hG I).2 h us r c
end
inductive OT where
 | fz (d:Xa)
 | nd (ts:List OT)
 | tp (ts:List OT)
 | dc (t:Bool) (ks:List KY) (ds:List Xa)
mutual
def OT.data:OT->Xa
 | .fz d=>d
 | .nd ts=>.list (OT.datas ts)
 | .tp ts=>.tuple (OT.datas ts)
 | .dc t ks ds=>dcD t ks ds
def OT.datas:List OT->List Xa
 | []=>[]
 | t::ts=>t.data::OT.datas ts
end
def OT.datas_map:∀(ts:List OT),OT.datas ts=ts.map OT.data
 | []=>rfl
 | t::ts=>by rw[OT.datas,OT.datas_map ts];rfl
@[simp] theorem OT.data_fz(d:Xa):(OT.fz d).data=d:=by rw[OT.data]
@[simp] theorem OT.data_nd(ts:List OT):(OT.nd ts).data= .list (ts.map OT.data):=by rw[OT.data,OT.datas_map]
@[simp] theorem OT.data_tp(ts:List OT):(OT.tp ts).data= .tuple (ts.map OT.data):=by rw[OT.data,OT.datas_map]
theorem OT.data_dc(t:Bool)(ks:List KY)(ds:List Xa):(OT.dc t ks ds).data=dcD t ks ds:=by rw[OT.data]
@[simp] theorem OT.map_fz(ds:List Xa):(ds.map OT.fz).map OT.data=ds:=by
 rw[Qq];exact(Qk λd _=>OT.data_fz d).trans (List.map_id _)
mutual
inductive Own(G:Xc)(H:Hp)(L:YG->Prop):V->OT->List YG->Prop where
 | fz {v:V} {d:Xa}:Da G H L v d->Own G H L v (.fz d) []
 | nd {a:YG} {xs:List V} {ts:List OT} {bs:List YG}:H a=YB (.lst xs)->Owns G H L xs ts bs->Own G H L (.ref a) (.nd ts) (a::bs)
 | tp {a:YG} {xs:List V} {ts:List OT} {bs:List YG}:H a=YB (.tup xs)->Owns G H L xs ts bs->Own G H L (.ref a) (.tp ts) bs
 | dc {a:YG} {o:MuO} {t:Bool} {ks:List KY} {xs:List V} {ds:List Xa}:H a=YB o.ho->o.dic t ks xs->Das G H L xs ds->Own G H L (.ref a) (.dc t ks ds) [a]
inductive Owns(G:Xc)(H:Hp)(L:YG->Prop):List V->List OT->List YG->Prop where
 | nil:Owns G H L [] [] []
 | cons {x:V} {xs:List V} {t:OT} {ts:List OT} {as bs:List YG}:Own G H L x t as->Owns G H L xs ts bs->Owns G H L (x::xs) (t::ts) (as++bs)
end
variable {XP:(Str->Option Xe)->YH->Prop}{L L':YG->Prop}{env:Env}{elt:YJ}{J:It}{as:List YG}{ifs:List YJ}{ns:List Int}{caps:List Nat}{ts:List OT}{loose own N':List Str}{ds:List Xa}{m:Nat}{py:Pos}{YP:Qo->YH->Prop}{R:Result->Xf->Prop}{G:Xc}
def Own.both{P:V->OT->List YG->Prop}{Q:List V->List OT->List YG->Prop}(c1:∀{v:V} {d:Xa},Da G H L v d->P v (.fz d) [])(c2:∀{a:YG} {xs:List V} {ts:List OT} {bs:List YG},H a=YB (.lst xs)->Q xs ts bs->P (.ref a) (.nd ts) (a::bs))
  (c3:∀{a:YG} {xs:List V} {ts:List OT} {bs:List YG},H a=YB (.tup xs)->Q xs ts bs->P (.ref a) (.tp ts) bs) (c4:∀{a:YG} {o:MuO} {t:Bool} {ks:List KY} {xs:List V} {ds:List Xa},H a=YB o.ho->o.dic t ks xs->Das G H L xs ds->P (.ref a) (.dc t ks ds) [a]) (n:Q [] [] []) (c:∀{x:V} {xs:List V} {t:OT} {ts:List OT} {as bs:List YG},P x t as->Q xs ts bs->Q (x::xs) (t::ts) (as++bs)) :
  (∀ {v t as},Own G H L v t as->P v t as)/\∀{xs ts as},Owns G H L xs ts as->Q xs ts as :=
 ⟨λh=>Own.rec (motive_1:=λv t as _=>P v t as) (motive_2:=λxs ts as _=>Q xs ts as) c1 (λe _ r=>c2 e r) (λe _ r=>c3 e r) (λe k r=>c4 e k r) n (λ_ _ p q=>c p q) h,
   λh=>Owns.rec (motive_1:=λv t as _=>P v t as) (motive_2:=λxs ts as _=>Q xs ts as) c1 (λe _ r=>c2 e r) (λe _ r=>c3 e r) (λe k r=>c4 e k r) n (λ_ _ p q=>c p q) h⟩
def Own.frame2(hl:∀a (xs:MuO),L a->Rd H a xs.ho->L' a/\Rd H' a xs.ho)(ht:∀a (xs:ImO),H a=YB xs.ho->H' a=YB xs.ho) :
  (∀ {v:V} {t:OT} {as:List YG},Own G H L v t as->(∀a∈as,∀xs:MuO,H a=YB xs.ho->H' a=YB xs.ho)->Own G H' L' v t as)/\∀{xs:List V} {ts:List OT} {as:List YG},Owns G H L xs ts as->(∀a∈as,∀xs:MuO,H a=YB xs.ho->H' a=YB xs.ho)->Owns G H' L' xs ts as :=
 Own.both (λh _=>.fz (h.frame hl ht)) (fun{_ xs _ _} e r ha=>.nd (ha _ (.head _) (.lst xs) e) (r λa m=>ha a (.tail _ m))) (fun{_ xs _ _} e r ha=>.tp (ht _ (.tup xs) e) (r ha)) (λe k r ha=>.dc (ha _ (.head _) _ e) k (r.frame hl ht)) (λ_=>.nil) (λh r ha=>.cons (h λa m=>ha a (Qw _ m)) (r λa m=>ha a (XR _ m)))
theorem Own.frame(hl:∀a (xs:MuO),L a->Rd H a xs.ho->L' a/\Rd H' a xs.ho)(ht:∀a (xs:ImO),H a=YB xs.ho->H' a=YB xs.ho){v:V}{t:OT}{as:List YG}(ha:∀a∈as,∀xs:MuO,H a=YB xs.ho->H' a=YB xs.ho)(h:Own G H L v t as):Own G H' L' v t as:=(Own.frame2 hl ht).1 h ha
theorem Owns.frame(hl:∀a (xs:MuO),L a->Rd H a xs.ho->L' a/\Rd H' a xs.ho)(ht:∀a (xs:ImO),H a=YB xs.ho->H' a=YB xs.ho){xs:List V}{ts:List OT}{as:List YG}(ha:∀a∈as,∀xs:MuO,H a=YB xs.ho->H' a=YB xs.ho)(h:Owns G H L xs ts as):Owns G H' L' xs ts as:=(Own.frame2 hl ht).2 h ha
theorem Own.same(h:Same H H'){v:V}{t:OT}(x:Own G H L v t as):Own G H' L v t as:=x.frame (λa xs p e=>⟨p,e.same h⟩) (λa xs e=>h _ _ e) λa _ xs e=>h _ _ e
theorem Own.wide(h:∀a,L a->H a≠YC->L' a){v:V}{t:OT}(x:Own G H L v t as):Own G H L' v t as:=x.frame (λa xs p e=>⟨h a p e.some,e⟩) (λa xs e=>e) λa _ xs e=>e
theorem Owns.wide(h:∀a,L a->H a≠YC->L' a){v:List V}{t:List OT}(x:Owns G H L v t as):Owns G H L' v t as:=x.frame (λa xs p e=>⟨h a p e.some,e⟩) (λa xs e=>e) λa _ xs e=>e
theorem Owns.same(h:Same H H'){v:List V}{t:List OT}(x:Owns G H L v t as):Owns G H' L v t as:=x.frame (λa xs p e=>⟨p,e.same h⟩) (λa xs e=>h _ _ e) λa _ xs e=>h _ _ e
def Own.da2(h:∀a,L a->H a≠YC->L' a):(∀{v:V} {t:OT} {as:List YG},Own G H L v t as->(∀a∈as,L' a)->Da G H L' v t.data)/\∀{v:List V} {t:List OT} {as:List YG},Owns G H L v t as->(∀a∈as,L' a)->Das G H L' v (OT.datas t) :=
 Own.both (λk _=>by rw[OT.data_fz];exact k.wide h) (λe r ha=>by rw[OT.data];exact .lst (ha _ (.head _)) (.inl e) (r λa m=>ha a (.tail _ m))) (λe r ha=>by rw[OT.data];exact .tup e (r ha)) (λe k r ha=>by rw[OT.data];exact .dic (ha _ (.head _)) (.inl e) k (r.wide h)) (λ_=>.nil) (λk r ha=>.cons (k λa m=>ha a (Qw _ m)) (r λa m=>ha a (XR _ m)))
theorem Own.da(h:∀a,L a->H a≠YC->L' a){v:V}{t:OT}(ha:∀a∈as,L' a)(k:Own G H L v t as):Da G H L' v t.data:=(Own.da2 h).1 k ha
def Owns.das(h:∀a,L a->H a≠YC->L' a){v:List V}{t:List OT}(ha:∀a∈as,L' a)(k:Owns G H L v t as):Das G H L' v (OT.datas t):=(Own.da2 h).2 k ha
def Own.some2:(∀{v:V} {t:OT} {as:List YG},Own G H L v t as->∀a∈as,∃xs:MuO,H a=YB xs.ho)/\∀{v:List V} {t:List OT} {as:List YG},Owns G H L v t as->∀a∈as,∃xs:MuO,H a=YB xs.ho :=
 Own.both (λ_ _ m=>nomatch m) (fun{_ xs _ _} e r a m=>(Xn.mp m).elim (λq=>⟨.lst xs,q▸e⟩) (r a)) (λ_ r=>r) (fun{_ o _ _ _ _} e _ _ a m=>⟨o,Xp.mp m▸e⟩) (λ_ m=>nomatch m) (λk r a m=>(Qp.mp m).elim (k a) (r a))
theorem Own.some{v:V}{t:OT}{as:List YG}(h:Own G H L v t as):∀a∈as,∃xs:MuO,H a=YB xs.ho:=Own.some2.1 h
theorem Owns.some{v:List V}{t:List OT}{as:List YG}(h:Owns G H L v t as):∀a∈as,∃xs:MuO,H a=YB xs.ho:=Own.some2.2 h
theorem Owns.length{xs:List V}{ts:List OT}{as:List YG}(h:Owns G H L xs ts as):xs.length=ts.length:=(Own.both (P:=λ_ _ _=>True) (Q:=λxs ts _=>xs.length=ts.length) (λ_=>trivial) (λ_ _=>trivial) (λ_ _=>trivial) (λ_ _ _=>trivial) rfl (λ_ r=>YW (·+1) r)).2 h
def Das.owns{xs:List V}(h:Das G H L xs ds):Owns G H L xs (ds.map OT.fz) []:=Das.ind (Q:=λxs ds=>Owns G H L xs (ds.map OT.fz) []) .nil (λh _ r=>.cons (.fz h) r) h
variable {G:Xc}
abbrev Ze:=List (Option OT)
abbrev Fp:=Nat->List YG
set_option genInjectivity false in
structure MC(G:Xc) where
 H₀:Hp
 as₀:YG->Prop
 L:YG->Prop
 O₀:St
def Foot(fp:Fp)(a:YG):Prop:=∃i,a∈fp i
def Lf(C:MC G)(fp:Fp)(ex:YG->Prop)(a:YG):Prop:=¬Foot fp a/\¬ex a/\(C.L a\/C.H₀ a=YC)
structure Rel(C:MC G)(io:List Nat)(H:Hp)(O:St)(δ:Ze)(fp:Fp)(ex:YG->Prop):Prop where
 len:O.length=δ.length
 own:∀(i:Nat) (t:OT),δ[i]? =YB (YB t)->∃v,O[i]? =YB (YB v)/\Own G H (Lf C fp ex) v t (fp i)
 emp:∀i:Nat,(∀t,δ[i]? ≠YB (YB t))->fp i=[]
 nd:∀i,(fp i).Nodup
 dj:∀i j a,a∈fp i->a∈fp j->i=j
 dx:∀i a,a∈fp i->¬ex a
 xa:∀a,ex a->H a≠YC
 fr:∀b o,C.H₀ b=YB o->¬C.as₀ b->H b=YB o
 al:∀b,H b=YC->C.H₀ b=YC
 new:∀i a,a∈fp i->(i∈io/\C.as₀ a)\/C.H₀ a=YC
 io:∀i∈io,O[i]? =C.O₀[i]?
structure Stp(p:Bool)(H:Hp)(δ:Ze)(fp:Fp)(H':Hp)(δ':Ze)(fp':Fp):Prop where
 keep:∀b o,H b=YB o->(p=YD\/¬Foot fp b)->H' b=YB o
 env:p=YD->δ'=δ/\fp'=fp
 grow:∀a,Foot fp' a->Foot fp a\/H a=YC
 al:∀b,H' b=YC->H b=YC
section
variable {C:MC G}{io:List Nat}{H'':Hp}{O:St}{δ δ' δ'':Ze}{fp fp' fp'':Fp}{ex ex':YG->Prop}{p p' c:Bool}{v:V}{d:Xa}{r:OT}{new:List YG}
theorem Rel.foot(R:Rel C io H O δ fp ex)(h:Foot fp a):∃xs:MuO,H a=YB xs.ho:=by
 obtain⟨i,h⟩:=h
 by_cases q:∃t,δ[i]? =YB (YB t)
 .obtain⟨t,q⟩:=q
  obtain⟨v,_,o⟩:=R.own i t q;exact o.some a h
 .rw[R.emp i (λt z=>q ⟨t,z⟩)]at h
  exact nomatch h
theorem Rel.footSome(R:Rel C io H O δ fp ex)(h:H a=YC):¬Foot fp a:=λz=>by
 obtain⟨xs,e⟩:=R.foot z;rw[h]at e;cases e
theorem Stp.refl(p:Bool)(H:Hp)(δ:Ze)(fp:Fp):Stp p H δ fp H δ fp:=⟨λ_ _ h _=>h,λ_=>⟨rfl,rfl⟩,λ_ h=>.inl h,λ_ h=>h⟩
theorem Stp.same(h:Same H H')(hn:∀b,H' b=YC->H b=YC):Stp p H δ fp H' δ fp:=⟨λ_ _ q _=>h _ _ q,λ_=>⟨rfl,rfl⟩,λ_ h=>.inl h,hn⟩
theorem Same.al(h:Same H H'):∀b,H' b=YC->H b=YC:=λ_ q=>h.free q
theorem Stp.trans(a:Stp p H δ fp H' δ' fp')(b:Stp p' H' δ' fp' H'' δ'' fp''):Stp (p&&p') H δ fp H'' δ'' fp'' where
 keep:=λx o e h=>by
  rcases h with h|h
  .rw[XJ]at h
   exact b.keep x o (a.keep x o e (.inl h.1)) (.inl h.2)
  .refine b.keep x o (a.keep x o e (.inr h)) (.inr λz=>?_)
   rcases a.grow x z with z|z
   .exact h z
   .rw[e]at z;cases z
 env:=λh=>by
  rw[XJ]at h;obtain⟨e1,e2⟩:=a.env h.1;obtain⟨e3,e4⟩:=b.env h.2;exact⟨e3.trans e1,e4.trans e2⟩
 grow:=λx h=>by
  rcases b.grow x h with h|h
  .exact a.grow x h
  .exact .inr (a.al x h)
 al:=λx h=>a.al x (b.al x h)
def Rel.frameL(R:Rel C io H O δ fp ex)(S:Stp p H δ fp H' δ' fp')(hc:p=YD\/c=YD)(hx:∀a,ex' a->ex a\/H a=YC) :
  (∀ a (xs:MuO),(c=YD->Lf C fp ex a)->Rd H a xs.ho->(c=YD->Lf C fp' ex' a)/\Rd H' a xs.ho)/\(∀a (xs:ImO),H a=YB xs.ho->H' a=YB xs.ho):=by
 have nf:∀a,Foot fp a->∃xs:MuO,H a=YB xs.ho:=λa h=>R.foot h;refine⟨λa xs l q=>⟨λhc'=>?_,?_⟩,λa xs q=>S.keep a _ q (.inr λz=>?_)⟩
 .obtain⟨l1,l2,l3⟩:=l hc'
  refine⟨λz=>?_,λz=>?_,l3⟩
  .rcases S.grow a z with z|z
   .exact l1 z
   .exact q.some z
  .rcases hx a z with z|z
   .exact l2 z
   .exact q.some z
 .have hk:p=YD\/¬Foot fp a:=by
   rcases hc with h|h
   .exact .inl h
   .exact .inr (l h).1
  rcases q with q|⟨o,q⟩
  .exact .inl (S.keep a _ q hk)
  .exact .inr ⟨o,S.keep a _ q hk⟩
 .obtain⟨ys,e⟩:=nf a z
  exact ImO.nm q e
theorem Rel.own_step(R:Rel C io H O δ fp ex)(S:Stp p H δ fp H' δ' fp')(hc:p=YD\/c=YD)(hx:∀a,ex' a->ex a\/H a=YC)(hn:∀a∈new,ex a)
  (x:Own G H (λa=>c=YD->Lf C fp ex a) v r new):Own G H' (λa=>c=YD->Lf C fp' ex' a) v r new :=
 x.frame (R.frameL S hc hx).1 (R.frameL S hc hx).2 λa m xs e=>S.keep a _ e (.inr λ⟨i,z⟩=>R.dx i a z (hn a m))
theorem Rel.owns_step(R:Rel C io H O δ fp ex)(S:Stp p H δ fp H' δ' fp')(hc:p=YD\/c=YD)(hx:∀a,ex' a->ex a\/H a=YC)(hn:∀a∈new,ex a){vs:List V}{rs:List OT}
  (x:Owns G H (λa=>c=YD->Lf C fp ex a) vs rs new):Owns G H' (λa=>c=YD->Lf C fp' ex' a) vs rs new :=
 x.frame (R.frameL S hc hx).1 (R.frameL S hc hx).2 λa m xs e=>S.keep a _ e (.inr λ⟨i,z⟩=>R.dx i a z (hn a m))
theorem Rel.drop(R:Rel C io H O δ fp ex)(h:∀a,ex' a->ex a):Rel C io H O δ fp ex' :=
 ⟨R.len,λi t e=>by
  obtain⟨v,e1,o⟩:=R.own i t e;exact⟨v,e1,o.wide λa l _=>⟨l.1,λz=>l.2.1 (h a z),l.2.2⟩⟩,R.emp,R.nd,R.dj,λi a m z=>R.dx i a m (h a z),λa z=>R.xa a (h a z),R.fr,R.al,R.new,R.io⟩
theorem Rel.made(R:Rel C io H O δ fp ex)(s:Same H H')(hn:∀a∈new,H a=YC/\H' a≠YC):Rel C io H' O δ fp (λa=>ex a\/a∈new) :=
 ⟨R.len,λi t e=>by
  obtain⟨v,e1,o⟩:=R.own i t e;refine⟨v,e1,(o.wide λa l q=>⟨l.1,λz=>?_,l.2.2⟩).same s⟩;rcases z with z|z
  .exact l.2.1 z
  .exact q (hn a z).1,R.emp,R.nd,R.dj,λi a m z=>by
   rcases z with z|z
   .exact R.dx i a m z
   .exact R.footSome (hn a z).1 ⟨i,m⟩,λa z=>by
   rcases z with z|z
   .intro q;exact R.xa a z (s.free q)
   .exact(hn a z).2,λb o e n=>s _ _ (R.fr b o e n),λb q=>R.al b (s.free q),R.new,R.io⟩
end
abbrev MEt:=Ze->(OT->Ze->Prop)->Prop
abbrev MAt:=Ze->(List OT->Ze->Prop)->Prop
abbrev MTt:=Ze->(Bool->Ze->Prop)->Prop
abbrev exu(ex:YG->Prop)(new:List YG):YG->Prop:=λa=>ex a\/a∈new
structure RE(C:MC G)(io:List Nat)(p c:Bool)(H:Hp)(O:St)(δ:Ze)(fp:Fp)(ex:YG->Prop)(H':Hp)(v:V)(r:OT)(δ':Ze)(fp':Fp)(new:List YG):Prop where
 rel:Rel C io H' O δ' fp' (exu ex new)
 stp:Stp p H δ fp H' δ' fp'
 own:Own G H' (λa=>c=YD->Lf C fp' (exu ex new) a) v r new
 nd:new.Nodup
 fresh:∀a∈new,H a=YC
structure RA(C:MC G)(io:List Nat)(p c:Bool)(H:Hp)(O:St)(δ:Ze)(fp:Fp)(ex:YG->Prop)(H':Hp)(v:List V)(r:List OT)(δ':Ze)(fp':Fp)(new:List YG):Prop where
 rel:Rel C io H' O δ' fp' (exu ex new)
 stp:Stp p H δ fp H' δ' fp'
 own:Owns G H' (λa=>c=YD->Lf C fp' (exu ex new) a) v r new
 nd:new.Nodup
 fresh:∀a∈new,H a=YC
def SE(G:Xc)(io:List Nat)(p c:Bool)(t:TE)(m:MEt):Prop:=∀(C:MC G) (H:Hp) (O:St) (δ:Ze) (fp:Fp) (ex:YG->Prop) (K:OT->Ze->Prop) (Q:VK),Rel C io H O δ fp ex->m δ K ->
 (∀ H' v r δ' fp' new,RE C io p c H O δ fp ex H' v r δ' fp' new->K r δ'->Q v H')->t O H Q
def SA(G:Xc)(io:List Nat)(p c:Bool)(t:TA)(m:MAt):Prop:=∀(C:MC G) (H:Hp) (O:St) (δ:Ze) (fp:Fp) (ex:YG->Prop) (K:List OT->Ze->Prop) (Q:List V->Hp->Prop),Rel C io H O δ fp ex->m δ K ->
 (∀ H' v r δ' fp' new,RA C io p c H O δ fp ex H' v r δ' fp' new->K r δ'->Q v H')->t O H Q
def STt(G:Xc)(io:List Nat)(p:Bool)(t:TT)(m:MTt):Prop:=∀(C:MC G) (H:Hp) (O:St) (δ:Ze) (fp:Fp) (ex:YG->Prop) (K:Bool->Ze->Prop) (Q:Bool->Hp->Prop),Rel C io H O δ fp ex->m δ K ->
 (∀ H' b δ' fp',Rel C io H' O δ' fp' ex->Stp p H δ fp H' δ' fp'->K b δ'->Q b H')->t O H Q
def ME(X:Cx)(io:List Nat)(p c:Bool)(e:YJ)(m:MEt):Prop:=∃t,PE X e t/\SE X.K io p c t m
def MA(X:Cx)(io:List Nat)(p c:Bool)(e:List YJ)(m:MAt):Prop:=∃t,PA X e t/\SA X.K io p c t m
def MT(X:Cx)(io:List Nat)(p:Bool)(e:YJ)(m:MTt):Prop:=∃t,PT X e t/\STt X.K io p t m
def MW(X:Cx)(io:List Nat)(p:Bool)(e:YJ)(m:MTt):Prop:=∃t,PW X e t/\STt X.K io p t m
section
variable {C:MC G}{io:List Nat}{H'':Hp}{O:St}{δ δ' δ'':Ze}{fp fp' fp'':Fp}{ex ex':YG->Prop}{p p' c:Bool}{v:V}{d:Xa}{r:OT}{vs:List V}{rs:List OT}{new:List YG}
theorem Rel.newOk(R:Rel C io H O δ fp ex)(h:H a=YC):¬Foot fp a/\¬ex a/\C.H₀ a=YC:=⟨R.footSome h,λz=>R.xa a z h,R.al a h⟩
theorem RE.da(R:RE C io p c H O δ fp ex H' v r δ' fp' new)(R0:Rel C io H O δ fp ex):Da G H' (λa=>c=YD->Lf C fp' ex a) v r.data:=by
 refine R.own.da (λa l _ h=>?_) (λa m _=>?_)
 .exact⟨(l h).1,λz=>(l h).2.1 (.inl z),(l h).2.2⟩
 .refine⟨λqz9=>?_,(R0.newOk (R.fresh a m)).2.1,.inr (R0.newOk (R.fresh a m)).2.2⟩
  obtain⟨i,z⟩:=qz9;exact R.rel.dx i a z (.inr m)
def RA.das(R:RA C io p c H O δ fp ex H' vs rs δ' fp' new)(R0:Rel C io H O δ fp ex):Das G H' (λa=>c=YD->Lf C fp' ex a) vs (OT.datas rs):=by
 refine R.own.das (λa l _ h=>?_) (λa m _=>?_)
 .exact⟨(l h).1,λz=>(l h).2.1 (.inl z),(l h).2.2⟩
 .refine⟨λqz9=>?_,(R0.newOk (R.fresh a m)).2.1,.inr (R0.newOk (R.fresh a m)).2.2⟩
  obtain⟨i,z⟩:=qz9;exact R.rel.dx i a z (.inr m)
theorem RE.base(R:RE C io p c H O δ fp ex H' v r δ' fp' new):Rel C io H' O δ' fp' ex:=R.rel.drop λa z=>.inl z
theorem RA.base(R:RA C io p c H O δ fp ex H' vs rs δ' fp' new):Rel C io H' O δ' fp' ex:=R.rel.drop λa z=>.inl z
theorem Zbp{a:YG}:exu ex [] a↔ex a:=by simp[exu]
theorem RE.fz(R:Rel C io H' O δ' fp' ex)(S:Stp p H δ fp H' δ' fp')(h:Da G H' (λa=>c=YD->Lf C fp' ex a) v d):RE C io p c H O δ fp ex H' v (.fz d) δ' fp' [] :=
 ⟨R.drop λa z=>Zbp.mp z,S,.fz (h.wide λa l _ hc=>⟨(l hc).1,λz=>(l hc).2.1 (Zbp.mp z),(l hc).2.2⟩),.nil,λa m=>nomatch m⟩
def RE.tree(R0:Rel C io H O δ fp ex)(R:Rel C io H1 O δ' fp' ex)(S:Stp p H δ fp H1 δ' fp')(s:Same H1 H')(hn:∀a∈new,H1 a=YC)(nd:new.Nodup)
  (o:Own G H' (λa=>((c=YD->Lf C fp' ex a)\/H1 a=YC)/\a∉new) v r new):RE C io p c H O δ fp ex H' v r δ' fp' new:=by
 refine⟨R.made s λa m=>⟨hn a m,λz=>?_⟩,?_,o.wide λa l q hc=>?_,nd,λa m=>S.al a (hn a m)⟩
 .obtain⟨xs,e⟩:=o.some a m
  rw[z]at e;cases e
 .have:=S.trans (p':=YD) (Stp.same (p:=YD) (δ:=δ') (fp:=fp') s s.al)
  rwa[Bool.and_true]at this
 .rcases l.1 with l1|l1
  .exact⟨(l1 hc).1,λz=>z.elim (l1 hc).2.1 l.2,(l1 hc).2.2⟩
  .exact⟨R.footSome l1,λz=>z.elim (λz=>R.xa a z l1) l.2,.inr (R.al a l1)⟩
end
inductive ScD:V->Xa->Prop where
 | non:ScD .non .none
 | bl (b:Bool):ScD (.bl b) (.bool b)
 | int (i:Int):ScD (.int i) (.int i)
 | str (x:Str):ScD (.str x) (.str x)
theorem ScD.da{v:V}{d:Xa}(h:ScD v d):Da G H L v d:=by
 cases h
 .exact .non
 .exact .bl _
 .exact .int _
 .exact .str _
section
variable {io:List Nat}{p p' c c':Bool}{a:YJ}{m ma mb:MEt}
def Ycb(i:Nat):MEt:=λδ K=>match δ[i]? with|some (YB (.fz d))=>K (.fz d) δ|_=>False
def Ybt(i:Nat):MEt:=λδ K=>match δ[i]? with|some (YB t)=>K (.fz t.data) δ|_=>False
def mC(d:Xa):MEt:=λδ K=>K (.fz d) δ
def mv(i:Nat)(hN:X.N[i]? =YB x:=by rfl)(hv:Vis X.env.scope x:=by first|exact QG rfl|exact Qz (QG rfl)|exact Qz (Qz rfl))(hd:(x==("__debug__" : Str))=YF:=by decide)
  (hcd:(x==("__classdict__" : Str))=YF:=by decide):ME X io YD YD (.Name x pos) (Ycb i):=by
 refine⟨_,pv i hN hv hd hcd,λC H O δ fp ex K Q R h k=>?_⟩;unfold Ycb at h;split at h
 .rename_i d hd
  obtain⟨v,e,o⟩:=R.own i _ hd;refine⟨v,e,k H v _ δ fp [] (.fz R (.refl _ _ _ _) ?_) h⟩;generalize fp i=as at o;cases o with
  | fz q=>exact q.wide λa l _ _=>l
 .exact h.elim
def mo(i:Nat)(hN:X.N[i]? =YB x:=by rfl)(hv:Vis X.env.scope x:=by first|exact QG rfl|exact Qz (QG rfl)|exact Qz (Qz rfl))(hd:(x==("__debug__" : Str))=YF:=by decide)
  (hcd:(x==("__classdict__" : Str))=YF:=by decide):ME X io YD YF (.Name x pos) (Ybt i):=by
 refine⟨_,pv i hN hv hd hcd,λC H O δ fp ex K Q R h k=>?_⟩;unfold Ybt at h;split at h
 .rename_i d hd
  obtain⟨v,e,o⟩:=R.own i _ hd;exact⟨v,e,k H v _ δ fp [] (.fz R (.refl _ _ _ _) (o.da (λa _ _ z=>(nomatch z)) λa _ z=>(nomatch z))) h⟩
 .exact h.elim
def Zjk{t:V}{d:Xa}(h:PE X e (tC t))(s:ScD t d):ME X io YD YD e (mC d) :=
 ⟨_,h,λC H O δ fp ex K Q R h k=>k H t _ δ fp [] (.fz R (.refl _ _ _ _) s.da) h⟩
def Zgq{i j pos}:ME X io YD YD (.Constant (.int i) j pos) (mC (.int i)):=Zjk Ya5 (.int i)
def Zkl{b j pos}:ME X io YD YD (.Constant (.bool b) j pos) (mC (.bool b)):=Zjk Yef (.bl b)
def Zip{j pos}:ME X io YD YD (.Constant .none j pos) (mC .none):=Zjk Z5o .non
theorem Ziy{x j pos}:ME X io YD YD (.Constant (.str x) j pos) (mC (.str x)):=Zjk Z9k (.str x)
theorem SE.two(ha:SE G io p c ta ma)(hb:SE G io p' c' tb mb)(hc:p'=YD\/c=YD){C:MC G}{O:St}{δ:Ze}{fp:Fp}{ex:YG->Prop}{K:OT->OT->Ze->Prop}{Q:V->V->Hp->Prop}
  (R:Rel C io H O δ fp ex) (h:ma δ λx δ1=>mb δ1 λy δ2=>K x y δ2)
  (k:∀H' x y u v δ' fp',Rel C io H' O δ' fp' ex->Stp (p&&p') H δ fp H' δ' fp'->Da G H' (λa=>(c&&c')=YD->Lf C fp' ex a) x u.data->Da G H' (λa=>(c&&c')=YD->Lf C fp' ex a) y v.data->K u v δ'->Q x y H') :
  ta O H λx H1=>tb O H1 λy H2=>Q x y H2:=by
 refine ha C H O δ fp ex _ _ R h λH1 x u δ1 fp1 new1 r1 h1=>?_;refine hb C H1 O δ1 fp1 (exu ex new1) _ _ r1.rel h1 λH2 y v δ2 fp2 new2 r2 h2=>?_;have o1:=r1.rel.own_step (ex':=exu (exu ex new1) new2) r2.stp (c:=c) hc (λa z=>z.imp id λz=>r2.fresh a z) (λa m=>.inr m) r1.own;have R2:Rel C io H2 O δ2 fp2 ex:=r2.rel.drop λa z=>.inl (.inl z);have q1:Da G H2 (λa=>c=YD->Lf C fp2 ex a) x u.data:=by
  refine o1.da (λa l _ z=>?_) (λa m z=>?_)
  .exact⟨(l z).1,λw=>(l z).2.1 (.inl (.inl w)),(l z).2.2⟩
  .have:=R.newOk (r1.fresh a m)
   refine⟨λqz9=>?_,this.2.1,.inr this.2.2⟩;obtain⟨i,w⟩:=qz9;exact r2.rel.dx i a w (.inl (.inr m))
 have q2:=r2.da r1.rel;refine k H2 x y u v δ2 fp2 R2 (r1.stp.trans r2.stp) (q1.wide λa l _ z=>l (by rw[XJ]at z;exact z.1)) (q2.wide λa l _ z=>?_) h2;have l:=l (by rw[XJ]at z;exact z.2);exact⟨l.1,λw=>l.2.1 (.inl w),l.2.2⟩
def P2s(G:Xc)(r:R2)(rp:Xa->Xa->(Xa->Prop)->Prop):Prop:=∀(H:Hp) (L:YG->Prop) (x y:V) (d e:Xa) (k:Xa->Prop) (Q:VK),Da G H L x d->Da G H L y e->rp d e k->(∀v d',ScD v d'->k d'->Q v H)->r x y H Q
def P2(G:Xc)(r:R2)(rp:Xa->Xa->(OT->Prop)->Prop):Prop:=∀(H:Hp) (L:YG->Prop) (x y:V) (d e:Xa) (k:OT->Prop) (Q:VK),Da G H L x d->Da G H L y e->rp d e k ->
 (∀ H' v o new,Same H H'->Own G H' (λa=>(L a\/H a=YC)/\a∉new) v o new->new.Nodup->(∀a∈new,H a=YC)->k o->Q v H')->r x y H Q
def Zmg(rp:Xa->Xa->(Xa->Prop)->Prop)(ma mb:MEt):MEt:=λδ K=>ma δ λx δ1=>mb δ1 λy δ2=>rp x.data y.data λd=>K (.fz d) δ2
def Z58(rp:Xa->Xa->(OT->Prop)->Prop)(ma mb:MEt):MEt:=λδ K=>ma δ λx δ1=>mb δ1 λy δ2=>rp x.data y.data λd=>K d δ2
def Z2g{rp}(P:P2s G r rp)(ha:SE G io p c ta ma)(hb:SE G io p' c' tb mb)(hc:p'=YD\/c=YD):SE G io (p&&p') YD (tOp r ta tb) (Zmg rp ma mb):=by
 intro C H O δ fp ex K Q R h k;refine SE.two (K:=λx y δ2=>rp x.data y.data λd=>K (.fz d) δ2) (Q:=λx y H2=>r x y H2 Q) ha hb hc R h λH' x y u v δ' fp' R' S q1 q2 h'=>?_;exact P H' _ x y _ _ _ _ q1 q2 h' λw d' sc h''=>k H' w _ δ' fp' [] (.fz R' S sc.da) h''
def Yeb{rp}(P:P2 G r rp)(ha:SE G io p c ta ma)(hb:SE G io p' c' tb mb)(hc:p'=YD\/c=YD):SE G io (p&&p') (c&&c') (tOp r ta tb) (Z58 rp ma mb):=by
 intro C H O δ fp ex K Q R h k;refine SE.two (K:=λx y δ2=>rp x.data y.data λd=>K d δ2) (Q:=λx y H2=>r x y H2 Q) ha hb hc R h λH' x y u v δ' fp' R' S q1 q2 h'=>?_;exact P H' _ x y _ _ _ _ q1 q2 h' λH2 w o new s ow nd hn h''=>k H2 w o δ' fp' new (RE.tree R R' S s hn nd ow) h''
def Zqz{op:Operator}{rp}(ho:OpR X (V0 op) r)(P:P2s X.K r rp)(ha:ME X io p c a ma)(hb:ME X io p' c' b mb)(hc:p'=YD\/c=YD:=by first|exact QG rfl|exact Qz rfl):ME X io (p&&p') YD (.BinOp a op b pos) (Zmg rp ma mb):=by
 obtain⟨_,A,sa⟩:=ha;obtain⟨_,B,sb⟩:=hb;exact⟨_,Z16 ho A B,Z2g P sa sb hc⟩
def Zq6{op:Operator}{rp}(ho:OpR X (V0 op) r)(P:P2 X.K r rp)(ha:ME X io p c a ma)(hb:ME X io p' c' b mb)(hc:p'=YD\/c=YD:=by first|exact QG rfl|exact Qz rfl):ME X io (p&&p') (c&&c') (.BinOp a op b pos) (Z58 rp ma mb):=by
 obtain⟨_,A,sa⟩:=ha;obtain⟨_,B,sb⟩:=hb;exact⟨_,Z16 ho A B,Yeb P sa sb hc⟩
def Zxk{rp}(ho:OpR X (QL op) r)(P:P2s X.K r rp)(ha:ME X io p c a ma)(hb:ME X io p' c' b mb)(hc:p'=YD\/c=YD:=by first|exact QG rfl|exact Qz rfl)(hm:behindInMarks op b=YF):ME X io (p&&p') YD (.Compare a [op] [b] pos) (Zmg rp ma mb):=by
 obtain⟨_,A,sa⟩:=ha;obtain⟨_,B,sb⟩:=hb;exact⟨_,Z19 ho A B hm,Z2g P sa sb hc⟩
def Yks{rp}(ho:IxR X r)(P:P2 X.K r rp)(ha:ME X io p c a ma)(hb:ME X io p' c' b mb)(hc:p'=YD\/c=YD:=by first|exact QG rfl|exact Qz rfl)(hs:Zi5 b):ME X io (p&&p') (c&&c') (.Subscript a b pos) (Z58 rp ma mb):=by
 obtain⟨_,A,sa⟩:=ha;obtain⟨_,B,sb⟩:=hb;exact⟨_,Z5u ho A B hs,Yeb P sa sb hc⟩
def kB(K:Bool->Ze->Prop):OT->Ze->Prop:=λo δ=>match o with| .fz (.bool b)=>K b δ|_=>False
def Z4b{t:TE}(h:SE G io p c t m):STt G io p (Zxm t) (λδ K=>m δ (kB K)):=by
 intro C H O δ fp ex K Q R h' k;refine h C H O δ fp ex _ _ R h' λH' v r δ' fp' new r1 h1=>?_;cases r with
 | nd ts=>exact h1.elim
 | tp ts=>exact h1.elim
 | dc _ _ _=>exact h1.elim
 | fz d=>
  cases d with
  | bool b=>
   cases r1.own with
   | fz q=>
    cases q;exact⟨b,rfl,k H' b δ' fp' r1.base r1.stp h1⟩
  | _=>exact h1.elim
theorem W5{rp}(ho:OpR X (QL op) r)(P:P2s X.K r rp)(ha:ME X io p c a ma)(hb:ME X io p' c' b mb)(hc:p'=YD\/c=YD:=by first|exact QG rfl|exact Qz rfl)(hm:behindInMarks op b=YF) :
  MT X io (p&&p') (.Compare a [op] [b] pos) (λδ K=>Zmg rp ma mb δ (kB K)):=by
 obtain⟨_,A,sa⟩:=ha;obtain⟨_,B,sb⟩:=hb;exact⟨_,Z3c ho A B hm,Z4b (Z2g P sa sb hc)⟩
end
variable {G:Xc}
section
variable {io:List Nat}{p p' p'' c c':Bool}{a:YJ}{m ma mb:MEt}{rest:List YJ}{ta tb:MTt}
def Yg8(t:MTt):MTt:=λδ K=>t δ λb δ'=>K (!b) δ'
def Yhm(t u:MTt):MTt:=λδ K=>t δ λb δ'=>if b=YD then u δ' K else K YF δ'
def mOr(t u:MTt):MTt:=λδ K=>t δ λb δ'=>if b=YD then K YD δ' else u δ' K
def Zin(h:MT X io p a ta):MT X io p (.UnaryOp .Not a pos) (Yg8 ta):=by
 obtain⟨_,A,sa⟩:=h;exact⟨_,Ya0 A,λC H O δ fp ex K Q R h k=>sa C H O δ fp ex _ _ R h λH' b δ' fp' R' S h'=>k H' (!b) δ' fp' R' S h'⟩
def Zjr(h:MT X io p a ta):MW X io p (.BoolOp .And [a] pos) ta:=by
 obtain⟨_,A,sa⟩:=h;exact⟨_,Z0u A,sa⟩
def Zij(h:MT X io p a ta):MW X io p (.BoolOp .Or [a] pos) ta:=by
 obtain⟨_,A,sa⟩:=h;exact⟨_,Z81 A,sa⟩
def Stp.andL{δ δ':Ze}{fp fp':Fp}(S:Stp p H δ fp H' δ' fp'):Stp (p&&p') H δ fp H' δ' fp':=by
 have:=S.trans (Stp.refl p' H' δ' fp');exact this
def Zo4(h:MT X io p a ta)(g:MW X io p' (.BoolOp .And (b::rest) pos) tb):MW X io (p&&p') (.BoolOp .And (a::b::rest) pos) (Yhm ta tb):=by
 obtain⟨_,A,sa⟩:=h;obtain⟨_,B,sb⟩:=g;exact⟨_,Z67 A B,λC H O δ fp ex K Q R h k=>sa C H O δ fp ex _ _ R h λH' b δ' fp' R' S h'=>by
  cases b with
  | true=>
   rw[YM rfl]at h'|-
   exact sb C H' O δ' fp' ex _ _ R' h' λH2 b2 δ2 fp2 R2 S2 h2=>k H2 b2 δ2 fp2 R2 (S.trans S2) h2
  | false=>
   rw[YQ Xx]at h'|-
   exact k H' YF δ' fp' R' S.andL h'⟩
def Zng(h:MT X io p a ta)(g:MW X io p' (.BoolOp .Or (b::rest) pos) tb):MW X io (p&&p') (.BoolOp .Or (a::b::rest) pos) (mOr ta tb):=by
 obtain⟨_,A,sa⟩:=h;obtain⟨_,B,sb⟩:=g;exact⟨_,Yd6 A B,λC H O δ fp ex K Q R h k=>sa C H O δ fp ex _ _ R h λH' b δ' fp' R' S h'=>by
  cases b with
  | true=>
   rw[YM rfl]at h'|-
   exact k H' YD δ' fp' R' S.andL h'
  | false=>
   rw[YQ Xx]at h'|-
   exact sb C H' O δ' fp' ex _ _ R' h' λH2 b2 δ2 fp2 R2 S2 h2=>k H2 b2 δ2 fp2 R2 (S.trans S2) h2⟩
theorem MW.mt(h:MW X io p e ta):MT X io p e ta:=by
 obtain⟨_,A,sa⟩:=h;exact⟨_,A.pt,sa⟩
def Zxb:Xa->Option Bool
 | .none=>YB YF
 | .bool b=>YB b
 | .int i=>YB (i !=0)
 | .list ds=>YB (!ds.isEmpty)
 | .tuple ds=>YB (!ds.isEmpty)
 | _=>YC
def Yib(m:MEt):MTt:=λδ K=>m δ λr δ'=>match Zxb r.data with|some b=>K b δ'|none=>False
def Das.isEmpty{xs:List V}(h:Das G H L xs ds):xs.isEmpty=ds.isEmpty:=by cases h<;>rfl
def Zl6(ha:ME X io p c a ma)(he:∀whole,isTrue a X.env whole=(do let v<-whole;standAt a.pos;holding [v] (truthy v))):MT X io p a (Yib ma):=by
 obtain⟨_,A,sa⟩:=ha;exact⟨_,Z4x rfl A he,λC H O δ fp ex K' Q R h k=>sa C H O δ fp ex _ _ R h λH' v r δ' fp' new r1 h1=>by
  have q:=r1.da R;generalize r.data=d at q h1;cases q with
  | non=>exact⟨_,rfl,k H' _ δ' fp' r1.base r1.stp h1⟩
  | bl b=>exact⟨_,rfl,k H' _ δ' fp' r1.base r1.stp h1⟩
  | int b=>exact⟨_,rfl,k H' _ δ' fp' r1.base r1.stp h1⟩
  | str x=>exact h1.elim
  | lst _ e q=>exact⟨_,.inl ⟨_,.inl e,rfl⟩,k H' _ δ' fp' r1.base r1.stp (by rw[q.isEmpty];exact h1)⟩
  | tup e q=>exact⟨_,.inr (.inl ⟨_,.inl (.inl e),rfl⟩),k H' _ δ' fp' r1.base r1.stp (by rw[q.isEmpty];exact h1)⟩
  | scr q=>exact⟨_,.inl ⟨_,q.sq,rfl⟩,k H' _ δ' fp' r1.base r1.stp (by simpa [Zxb]using h1)⟩
  | exc _ _ _=>exact h1.elim
  | fn _=>exact h1.elim
  | dic _ _ _ _=>exact h1.elim⟩
def asB(d:Xa)(k:Bool->Prop):Prop:=match d with| .bool b=>k b|_=>False
def Z80(a b:MEt):MEt:=λδ K=>a δ λx δ1=>asB x.data λc=>if c=YD then b δ1 K else K (.fz (.bool YF)) δ1
def Z53(a:MEt):MEt:=λδ K=>a δ λx δ1=>asB x.data λc=>K (.fz (.bool (!c))) δ1
def mIf(t:MTt)(a b:MEt):MEt:=λδ K=>t δ λc δ1=>if c=YD then a δ1 K else b δ1 K
def Da.boolInv{v:V}{d:Xa}{k:Bool->Prop}(q:Da G H L v d)(h:asB d k):∃b,v= .bl b/\k b:=by
 cases q with
 | bl b=>exact⟨b,rfl,h⟩
 | _=>exact h.elim
theorem RE.step{C:MC G}{O:St}{δ δ1 δ2:Ze}{fp fp1 fp2:Fp}{ex:YG->Prop}{v:V}{r:OT}{new:List YG}(S:Stp p H δ fp H1 δ1 fp1)(R:RE C io p' c H1 O δ1 fp1 ex H2 v r δ2 fp2 new) :
  RE C io (p&&p') c H O δ fp ex H2 v r δ2 fp2 new:=⟨R.rel,S.trans R.stp,R.own,R.nd,λa m=>S.al a (R.fresh a m)⟩
def Yfr{op}(h:ME X io p c a ma):ME X io p c (.BoolOp op [a] pos) ma:=by
 obtain⟨_,A,sa⟩:=h;exact⟨_,Ya6 A,sa⟩
def Yfp(ha:ME X io p c a ma)(hb:ME X io p' c' (.BoolOp .And (b::rest) pos) mb):ME X io (p&&p') c' (.BoolOp .And (a::b::rest) pos) (Z80 ma mb):=by
 obtain⟨_,A,sa⟩:=ha;obtain⟨_,B,sb⟩:=hb;exact⟨_,Z6n A B,λC H O δ fp ex K Q R h k=>sa C H O δ fp ex _ _ R h λH' v r δ' fp' new r1 h1=>by
  obtain⟨b,rfl,h1⟩:=(r1.da R).boolInv h1;refine⟨b,rfl,?_⟩;cases b with
  | true=>
   rw[YM rfl]at h1|-
   exact sb C H' O δ' fp' ex _ _ r1.base h1 λH2 w r2 δ2 fp2 new2 R2 h2=>k H2 w r2 δ2 fp2 new2 (R2.step r1.stp) h2
  | false=>
   rw[YQ Xx]at h1|-
   exact k H' _ _ δ' fp' [] (RE.fz r1.base r1.stp.andL (.bl YF)) h1⟩
def Ydn(ha:ME X io p c a ma):ME X io p YD (.UnaryOp .Not a pos) (Z53 ma):=by
 obtain⟨_,A,sa⟩:=ha;exact⟨_,Z6h A,λC H O δ fp ex K Q R h k=>sa C H O δ fp ex _ _ R h λH' v r δ' fp' new r1 h1=>by
  obtain⟨b,rfl,h1⟩:=(r1.da R).boolInv h1;exact⟨b,rfl,k H' _ _ δ' fp' [] (RE.fz r1.base r1.stp (.bl _)) h1⟩⟩
theorem Stp.cast{p p':Bool}{H H':Hp}{δ δ':Ze}{fp fp':Fp}(h:p'=YD->p=YD)(S:Stp p H δ fp H' δ' fp'):Stp p' H δ fp H' δ' fp' :=
 ⟨λb o e q=>S.keep b o e (q.imp h id),λq=>S.env (h q),S.grow,S.al⟩
theorem RE.cast{C:MC G}{H H1:Hp}{O:St}{δ δ1:Ze}{fp fp1:Fp}{ex:YG->Prop}{v:V}{r:OT}{new:List YG}(hp:p'=YD->p=YD)(hc:c'=YD->c=YD)(R:RE C io p c H O δ fp ex H1 v r δ1 fp1 new) :
  RE C io p' c' H O δ fp ex H1 v r δ1 fp1 new:=⟨R.rel,R.stp.cast hp,R.own.wide λa l _ z=>l (hc z),R.nd,R.fresh⟩
theorem Yi5{t:YJ}(ht:MT X io p t ta)(ha:ME X io p' c a ma)(hb:ME X io p'' c' b mb):ME X io (p&&(p'&&p'')) (c&&c') (.IfExp t a b pos) (mIf ta ma mb):=by
 obtain⟨_,T,st⟩:=ht;obtain⟨_,A,sa⟩:=ha;obtain⟨_,B,sb⟩:=hb;exact⟨_,Zv0 T A B,λC H O δ fp ex K Q R h k=>st C H O δ fp ex _ _ R h λH' b δ' fp' R' S h'=>by
  cases b with
  | true=>
   rw[YM rfl]at h'|-
   exact sa C H' O δ' fp' ex _ _ R' h' λH2 w r2 δ2 fp2 new2 R2 h2=>k H2 w r2 δ2 fp2 new2 ((R2.step S).cast (λz=>by simp at z;simp[z]) (λz=>by simp at z;exact z.1)) h2
  | false=>
   rw[YQ Xx]at h'|-
   exact sb C H' O δ' fp' ex _ _ R' h' λH2 w r2 δ2 fp2 new2 R2 h2=>k H2 w r2 δ2 fp2 new2 ((R2.step S).cast (λz=>by simp at z;simp[z]) (λz=>by simp at z;exact z.2)) h2⟩
end
section
variable {io:List Nat}{p p' p'' c c':Bool}{a:YJ}{m ma mb:MEt}{rest:List YJ}{mr:MAt}
def Ygw:MAt:=λδ K=>K [] δ
def Z8i(m:MEt)(mr:MAt):MAt:=λδ K=>m δ λr δ1=>mr δ1 λrs δ2=>K (r::rs) δ2
def Z9:MA X io YD YD [] Ygw:=⟨_,Zcl,λC H O δ fp ex K Q R h k=>k H [] [] δ fp [] ⟨R.drop λa z=>Zbp.mp z,.refl _ _ _ _,.nil,.nil,λa m=>nomatch m⟩ h⟩
theorem Z32(ha:ME X io p c e m)(hr:MA X io p' c' es mr)(hc:p'=YD\/c=YD)(hs:Xo (e::es) X.env=(YF,eval e X.env)::Xo es X.env:=by rfl):MA X io (p&&p') (c&&c') (e::es) (Z8i m mr):=by
 obtain⟨tA,A,sa⟩:=ha;obtain⟨tB,B,sb⟩:=hr;refine⟨_,Zz A B hs,λC H O δ fp ex K Q R h k=>?_⟩;refine sa C H O δ fp ex _ _ R h λH1 x u δ1 fp1 new1 r1 h1=>?_;refine sb C H1 O δ1 fp1 (exu ex new1) _ _ r1.rel h1 λH2 ys us δ2 fp2 new2 r2 h2=>?_;have o1:=r1.rel.own_step (ex':=exu (exu ex new1) new2) r2.stp (c:=c) hc (λa z=>z.imp id λz=>r2.fresh a z) (λa m=>.inr m) r1.own;have eqx:∀a,exu ex (new1++new2) a->exu (exu ex new1) new2 a:=λa z=>by
  rcases z with z|z
  .exact .inl (.inl z)
  .rcases Qp.mp z with z|z
   .exact .inl (.inr z)
   .exact .inr z
 refine k H2 (x::ys) (u::us) δ2 fp2 (new1++new2) ⟨r2.rel.drop eqx,r1.stp.trans r2.stp,.cons (o1.wide λa l _ z=>?_) (r2.own.wide λa l _ z=>?_),?_,?_⟩ h2
 .have l:=l (by rw[XJ]at z;exact z.1)
  exact⟨l.1,λw=>l.2.1 (eqx a w),l.2.2⟩
 .have l:=l (by rw[XJ]at z;exact z.2)
  exact⟨l.1,λw=>l.2.1 (eqx a w),l.2.2⟩
 .refine Vw.mpr ⟨r1.nd,r2.nd,λa m b m' z=>?_⟩
  subst z;obtain⟨xs,e⟩:=r1.own.some a m;rw[r2.fresh a m']at e;cases e
 .intro a m
  rcases Qp.mp m with m|m
  .exact r1.fresh a m
  .exact r1.stp.al a (r2.fresh a m)
def Yhs(m:MAt):MEt:=λδ K=>m δ λrs δ'=>rs.length<=Xw/\K (.fz (.tuple (OT.datas rs))) δ'
def Ygd(m:MAt):MEt:=λδ K=>m δ λrs δ'=>rs.length<=Xw/\K (.nd rs) δ'
def Zvy{x1}(h:MA X io p c es mr):ME X io p c (.Tuple es x1 pos) (Yhs mr):=by
 obtain⟨tA,A,sa⟩:=h;refine⟨_,Ztm A,λC H O δ fp ex K Q R h k=>?_⟩;refine sa C H O δ fp ex _ _ R h λH1 vs rs δ1 fp1 new1 r1 h1=>⟨by rw[r1.own.length];exact h1.1,λq hq=>?_⟩;have s:=Zw hq (.tup vs);have R1:=r1.base;have S:=r1.stp.trans (p':=YD) (Stp.same (p:=YD) (δ:=δ1) (fp:=fp1) s s.al);rw[Bool.and_true]at S;refine k _ _ _ δ1 fp1 [] (.fz ?_ S (.tup Zq ((r1.das R).same s))) h1.2;exact(R1.made (new:=[]) s λa m=>nomatch m).drop λa z=>.inl z
def Zw6(h:MA X io p c es mr):ME X io p c (.List es pos) (Ygd mr):=by
 obtain⟨tA,A,sa⟩:=h;refine⟨_,Zz2 A,λC H O δ fp ex K Q R h k=>?_⟩;refine sa C H O δ fp ex _ _ R h λH1 vs rs δ1 fp1 new1 r1 h1=>⟨by rw[r1.own.length];exact h1.1,λq hq=>?_⟩;have s:=Zw hq (.lst vs);have S:=r1.stp.trans (p':=YD) (Stp.same (p:=YD) (δ:=δ1) (fp:=fp1) s s.al);rw[Bool.and_true]at S;have hqn:q∉new1:=λm=>by
  obtain⟨xs,e⟩:=r1.own.some q m;rw[hq]at e;cases e
 have R2:=(r1.rel.made (new:=[q]) s λa m=>by
  rcases Xp.mp m with rfl;exact⟨hq,by rw[Zq];intro z;cases z⟩)
 have eqx:∀a,exu ex (q::new1) a->exu (exu ex new1) [q] a:=λa z=>by
  rcases z with z|z
  .exact .inl (.inl z)
  .rcases Xn.mp z with z|z
   .exact .inr (Xp.mpr z)
   .exact .inl (.inr z)
 refine k _ _ _ δ1 fp1 (q::new1) ⟨R2.drop eqx,S,.nd Zq ((r1.own.wide λa l w z=>?_).same s),Qt.mpr ⟨hqn,r1.nd⟩,λa m=>?_⟩ h1.2
 .have l:=l z
  refine⟨l.1,λy=>?_,l.2.2⟩;rcases eqx a y with y|y
  .exact l.2.1 y
  .rcases Xp.mp y with rfl
   exact w hq
 .rcases Xn.mp m with rfl|m
  .exact r1.stp.al _ hq
  .exact r1.fresh a m
end
variable {G:Xc}
def spD(G:Xc)(S:List Xa->(OT->Prop)->Prop):Sp:=λvs H Q _=>∃L ds k,Das G H L vs ds/\S ds k/\
 ∀r v H' new,k r->Same H H'->Own G H' (λa=>(L a\/H a=YC)/\a∉new) v r new->new.Nodup->(∀a∈new,H a=YC)->Q v H'
section
variable {io:List Nat}{p p' p'' c c':Bool}{a:YJ}{m ma mb:MEt}{rest:List YJ}{mr:MAt}
variable {k:Nat}{f:YG}{fd:Ql}{E:XK}{pp:Pos}
def Z1z(S:List Xa->(OT->Prop)->Prop)(mr:MAt):MEt:=λδ K=>mr δ λrs δ1=>S (OT.datas rs) λr=>K r δ1
def Yee{S}{t:TA}(sa:SA G io p c t mr):SE G io p c (Z76 (spD G S) [] E t) (Z1z S mr):=by
 intro C H O δ fp ex K Q R h kk;refine sa C H O δ fp ex _ _ R h λH1 vs rs δ1 fp1 new1 r1 h1=>?_;rw[XX];refine⟨_,_,_,r1.das R,h1,λr v H' new kr s o nd hn=>?_⟩;exact kk H' v r δ1 fp1 new (RE.tree R r1.base r1.stp s hn nd o) kr
def Jz{S}(F:FnOk X.prog X.w X.K X.mg X.base CX k f fd ps (spD X.K S))(hr:Room k X.A)(hg:Gl X x)(hm:X.mg x=YB (.ref f))(hk:VG X.K (.ref f)=YD)(hb:Binds X.K fd ps [])(hx:Zn7 CX X E)
  (ha:MA X io p c (e::es) mr) (hdb:(x==("__debug__" : Str))=YF:=by decide) (he:Xo (e::es) X.env=(YF,eval e X.env)::Xo es X.env:=by rfl) (hpl:(Q3 pos (Xo es X.env)).any (·.1)=YF:=by rfl) :
  ME X io p c (.Call (.Name x pp) (e::es) [] pos) (Z1z S mr):=by
 obtain⟨_,A,sa⟩:=ha;exact⟨_,Z15 F hr hg hm hk hb .nil hx A hdb he hpl,Yee sa⟩
def fpu(fp:Fp)(i:Nat)(as:List YG):Fp:=λj=>if j=i then as else fp j
theorem Z3{fp:Fp}:fpu fp i as i=as:=YM rfl
theorem Yn{fp:Fp}(h:j≠i):fpu fp i as j=fp j:=YQ h
theorem Foot.of_u{fp:Fp}{i:Nat}{as:List YG}{a:YG}(h:Foot (fpu fp i as) a):a∈as\/∃j,j≠i/\a∈fp j:=by
 obtain⟨j,h⟩:=h
 by_cases e:j=i
 .subst e;rw[Z3]at h;exact .inl h
 .rw[Yn e]at h;exact .inr ⟨j,e,h⟩
theorem Rel.change{C:MC G}{H H':Hp}{O:St}{δ:Ze}{fp:Fp}{ex:YG->Prop}{i:Nat}{t t':OT}{v:V}{as' new:List YG}(R:Rel C io H O δ fp ex)(hi:δ[i]? =YB (YB t))(hv:O[i]? =YB (YB v))
  (keep:∀b o,H b=YB o->b∉fp i->H' b=YB o) (al:∀b,H' b=YC->H b=YC) (o:Own G H' (Lf C (fpu fp i as') (exu ex new)) v t' as') (nd:as'.Nodup) (new':∀a∈as',a∈fp i\/H a=YC)
  (hn:∀a∈new,H a=YC/\H' a≠YC/\a∉as') :
  Rel C io H' O (δ.set i (YB t')) (fpu fp i as') (exu ex new)/\Stp YF H δ fp H' (δ.set i (YB t')) (fpu fp i as'):=by
 have hil:i<δ.length:=(Xk.mp hi).1;have apart:∀j a,j≠i->a∈fp j->a∉as':=λj a e m z=>by
  rcases new' a z with z|z
  .exact e (R.dj j i a m z)
  .exact R.footSome z ⟨j,m⟩
 constructor
 .refine⟨by rw[Vf];exact R.len,λj t'' e=>?_,λj h=>?_,λj=>?_,λj k a h1 h2=>?_,λj a h z=>?_,λa z w=>z.elim (λz=>R.xa a z (al a w)) (λz=>(hn a z).2.1 w),λb ob e n=>?_,λb z=>R.al b (al b z),λj a h=>?_,R.io⟩
  .by_cases ej:j=i
   .subst ej
    rw[QT hil]at e;cases e;exact⟨v,hv,by rw[Z3];exact o⟩
   .rw[Qs (Bo ej)]at e
    obtain⟨w,e1,o1⟩:=R.own j t'' e;refine⟨w,e1,?_⟩;rw[Yn ej];refine o1.frame (λa xs l q=>?_) (λa xs q=>keep a _ q λz=>?_) λa m xs q=>keep a _ q λz=>ej (R.dj j i a m z)
    .have na:a∉fp i:=λz=>l.1 ⟨i,z⟩
     refine⟨⟨λz=>?_,λz=>z.elim l.2.1 λz=>q.some (hn a z).1,l.2.2⟩,?_⟩
     .rcases z.of_u with z|⟨k,_,z⟩
      .rcases new' a z with z|z
       .exact na z
       .exact q.some z
      .exact l.1 ⟨k,z⟩
     .rcases q with q|⟨u,q⟩
      .exact .inl (keep a _ q na)
      .exact .inr ⟨u,keep a _ q na⟩
    .obtain⟨ys,e⟩:=R.foot ⟨i,z⟩
     exact ImO.nm q e
  .by_cases ej:j=i
   .subst ej
    exact YZ (QT hil) (h t')
   .rw[Yn ej]
    refine R.emp j λt'' z=>h t'' ?_;rw[Qs (Bo ej)];exact z
  .by_cases ej:j=i
   .subst ej;rw[Z3];exact nd
   .rw[Yn ej];exact R.nd j
  .by_cases ej:j=i
   .subst ej
    rw[Z3]at h1
    by_cases ek:k=j
    .exact ek.symm
    .rw[Yn ek]at h2
     exact YZ h1 (apart k a ek h2)
   .rw[Yn ej]at h1
    by_cases ek:k=i
    .subst ek
     rw[Z3]at h2;exact YZ h2 (apart j a ej h1)
    .rw[Yn ek]at h2
     exact R.dj j k a h1 h2
  .by_cases ej:j=i
   .subst ej
    rw[Z3]at h;rcases z with z|z
    .rcases new' a h with w|w
     .exact R.dx _ a w z
     .exact R.xa a z w
    .exact(hn a z).2.2 h
   .rw[Yn ej]at h
    rcases z with z|z
    .exact R.dx j a h z
    .exact R.footSome (hn a z).1 ⟨j,h⟩
  .refine keep b ob (R.fr b ob e n) λz=>?_
   rcases R.new i b z with w|w
   .exact n w.2
   .rw[e]at w;cases w
  .by_cases ej:j=i
   .subst ej
    rw[Z3]at h;rcases new' a h with w|w
    .exact R.new _ a w
    .exact .inr (R.al a w)
   .rw[Yn ej]at h
    exact R.new j a h
 .refine⟨λb ob e q=>keep b ob e λz=>(q.resolve_left (!1)) ⟨i,z⟩,λz=>(nomatch z),λa z=>?_,al⟩
  rcases z.of_u with z|⟨j,_,z⟩
  .exact(new' a z).imp (λw=>⟨i,w⟩) id
  .exact .inl ⟨j,z⟩
def PNs(G:Xc)(r:List V->Hp->VK->Prop)(rp:List Xa->(Xa->Prop)->Prop):Prop:=∀(H:Hp) (L:YG->Prop) (xs:List V) (ds:List Xa) (k:Xa->Prop) (Q:VK),Das G H L xs ds->rp ds k->(∀v d',ScD v d'->k d'->Q v H)->r xs H Q
def PN(G:Xc)(r:List V->Hp->VK->Prop)(rp:List Xa->(OT->Prop)->Prop):Prop:=∀(H:Hp) (L:YG->Prop) (xs:List V) (ds:List Xa) (k:OT->Prop) (Q:VK),Das G H L xs ds->rp ds k ->
 (∀ H' v o new,Same H H'->Own G H' (λa=>(L a\/H a=YC)/\a∉new) v o new->new.Nodup->(∀a∈new,H a=YC)->k o->Q v H')->r xs H Q
def Ydo(rp:List Xa->(Xa->Prop)->Prop)(mr:MAt):MEt:=λδ K=>mr δ λrs δ1=>rp (OT.datas rs) λd=>K (.fz d) δ1
def mBl(rp:List Xa->(OT->Prop)->Prop)(mr:MAt):MEt:=λδ K=>mr δ λrs δ1=>rp (OT.datas rs) λo=>K o δ1
def Yjj{r rp}{t:TA}(P:PNs G r rp)(sa:SA G io p c t mr):SE G io p YD (tCB r t) (Ydo rp mr):=λC H O δ fp ex K Q R h kk=>
 sa C H O δ fp ex _ _ R h λH1 vs rs δ1 fp1 new1 r1 h1=>P H1 _ vs _ _ _ (r1.das R) h1 λv d' sc h2=>kk H1 v _ δ1 fp1 [] (.fz r1.base r1.stp sc.da) h2
def sBl{r rp}{t:TA}(P:PN G r rp)(sa:SA G io p c t mr):SE G io p c (tCB r t) (mBl rp mr):=λC H O δ fp ex K Q R h kk=>
 sa C H O δ fp ex _ _ R h λH1 vs rs δ1 fp1 new1 r1 h1=>P H1 _ vs _ _ _ (r1.das R) h1 λH' v o new s ow nd hn h2=>kk H' v o δ1 fp1 new (RE.tree R r1.base r1.stp s hn nd ow) h2
variable {T:String}{r:List V->Hp->VK->Prop}
def Zki{rp}(P:PNs X.K r rp)(hc:Zc0 X (.builtin id) r)(hg:Gl X x)(hm:X.mg x=YC)(hv:Qh x=YB (.builtin id))(ha:MA X io p c (e::es) mr)(hn:x≠"__name__" :=by decide)(hdb:(x==("__debug__" : Str))=YF:=by decide)
  (he:Xo (e::es) X.env=(YF,eval e X.env)::Xo es X.env:=by rfl) (hpl:(Q3 pos (Xo es X.env)).any (·.1)=YF:=by rfl):ME X io p YD (.Call (.Name x pp) (e::es) [] pos) (Ydo rp mr):=by
 obtain⟨_,A,sa⟩:=ha;exact⟨_,Zdr hc hg hm hv A hn hdb he hpl,Yjj P sa⟩
def Yfz{rp}(P:PN X.K r rp)(hc:Zc0 X (.builtin id) r)(hg:Gl X x)(hm:X.mg x=YC)(hv:Qh x=YB (.builtin id))(ha:MA X io p c (e::es) mr)(hn:x≠"__name__" :=by decide)(hdb:(x==("__debug__" : Str))=YF:=by decide)
  (he:Xo (e::es) X.env=(YF,eval e X.env)::Xo es X.env:=by rfl) (hpl:(Q3 pos (Xo es X.env)).any (·.1)=YF:=by rfl):ME X io p c (.Call (.Name x pp) (e::es) [] pos) (mBl rp mr):=by
 obtain⟨_,A,sa⟩:=ha;exact⟨_,Zdr hc hg hm hv A hn hdb he hpl,sBl P sa⟩
def Yjm{rp}(P:PN X.K r rp)(hc:Zc0 X (.type T) r)(hg:Gl X x)(hm:X.mg x=YC)(hv:Qh x=YB (.type T))(ha:MA X io p c (e::es) mr)(hn:x≠"__name__" :=by decide)(hdb:(x==("__debug__" : Str))=YF:=by decide)
  (he:Xo (e::es) X.env=(YF,eval e X.env)::Xo es X.env:=by rfl) (hpl:(Q3 pos (Xo es X.env)).any (·.1)=YF:=by rfl):ME X io p c (.Call (.Name x pp) (e::es) [] pos) (mBl rp mr):=by
 obtain⟨_,A,sa⟩:=ha;exact⟨_,Zro hc hg hm hv A hn hdb he hpl,sBl P sa⟩
end
variable {G:Xc}
mutual
def Jf:Xa->Bool
 | .none=>YD
 | .bool _=>YD
 | .int _=>YD
 | .str _=>YD
 | .tuple ds=>Zfl ds
 | .list _=>YF
 | .dict _=>YF
def Zfl:List Xa->Bool
 | []=>YD
 | d::ds=>Jf d&&Zfl ds
end
def Da.flat2:(∀{v:V} {d:Xa},Da G H L v d->Jf d=YD->Da G H L' v d)/\∀{v:List V} {d:List Xa},Das G H L v d->Zfl d=YD->Das G H L' v d :=
 Da.both (λ_=>.non) (λb _=>.bl b) (λi _=>.int i) (λx _=>.str x) (λ_ _ _ h=>by rw[Jf]at h;cases h) (λe r h=>.tup e (r (by rw[Jf]at h;exact h))) (λk _=>.scr k) (λc n e _=>.exc c n e) (λk _=>.fn k) (λ_ _ _ _ h=>by rw[dcD,Jf]at h;cases h) (λ_=>.nil)
  (λk r h=>by rw[Zfl,XJ]at h;exact .cons (k h.1) (r h.2))
def Da.flat{v:V}{d:Xa}(h:Da G H L v d)(f:Jf d=YD):Da G H L' v d:=Da.flat2.1 h f
set_option genInjectivity false in
structure Zhe where
 nx:Ze->Prop
 rt:OT->Ze->Prop
 bk:Ze->Prop:=λ_=>False
 ct:Ze->Prop:=λ_=>False
abbrev MSt:=Zhe->Ze->Prop
abbrev Kp(H:Hp)(fp:Fp)(H':Hp)(fp':Fp):Prop:=Stp YF H [] fp H' [] fp'
theorem Stp.kp{p:Bool}{H H':Hp}{δ δ':Ze}{fp fp':Fp}(S:Stp p H δ fp H' δ' fp'):Kp H fp H' fp':=⟨λb o e q=>S.keep b o e (.inr (q.resolve_left (!1))),λz=>(nomatch z),S.grow,S.al⟩
theorem Kp.trans{H H1 H2:Hp}{fp fp1 fp2:Fp}(a:Kp H fp H1 fp1)(b:Kp H1 fp1 H2 fp2):Kp H fp H2 fp2:=Stp.trans a b
theorem Kp.refl(H:Hp)(fp:Fp):Kp H fp H fp:=Stp.refl _ _ _ _
structure RelEnds(C:MC G)(io:List Nat)(ex:YG->Prop)(H:Hp)(fp:Fp)(D:Zhe)(D':Ends):Prop where
 nx:∀H' O' δ' fp',Rel C io H' O' δ' fp' ex->Kp H fp H' fp'->D.nx δ'->D'.nx O' H'
 bk:∀H' O' δ' fp',Rel C io H' O' δ' fp' ex->Kp H fp H' fp'->D.bk δ'->D'.bk O' H'
 ct:∀H' O' δ' fp',Rel C io H' O' δ' fp' ex->Kp H fp H' fp'->D.ct δ'->D'.ct O' H'
 rt:∀H' O' v r δ' fp' new,Rel C io H' O' δ' fp' (exu ex new)->Own G H' (Lf C fp' (exu ex new)) v r new->new.Nodup->(∀a∈new,C.H₀ a=YC)->D.rt r δ'->D'.rt v H'
def RelEnds.shift{C:MC G}{io:List Nat}{ex:YG->Prop}{fp fp1:Fp}{D:Zhe}{D':Ends}(E:RelEnds C io ex H fp D D')(k:Kp H fp H1 fp1):RelEnds C io ex H1 fp1 D D' :=
 ⟨λH' O' δ' fp' R q=>E.nx H' O' δ' fp' R (k.trans q),λH' O' δ' fp' R q=>E.bk H' O' δ' fp' R (k.trans q),λH' O' δ' fp' R q=>E.ct H' O' δ' fp' R (k.trans q),E.rt⟩
def SS(G:Xc)(io:List Nat)(t:TS)(m:MSt):Prop:=∀(C:MC G) (H:Hp) (O:St) (δ:Ze) (fp:Fp) (ex:YG->Prop) (D:Zhe) (D':Ends),Rel C io H O δ fp ex->m D δ->RelEnds C io ex H fp D D'->t D' O H
def MS(X:Cx)(io:List Nat)(st:YK)(m:MSt):Prop:=∃t,PS X st t/\SS X.K io t m
def MSs(X:Cx)(io:List Nat)(st:List YK)(m:MSt):Prop:=∃t,PSs X st t/\SS X.K io t m
section
variable {io:List Nat}{p p' p'' c c':Bool}{a:YJ}{m ma mb:MEt}{rest:List YJ}{mr:MAt}{sts:List YK}{u w:MSt}{mt:MTt}
def Z8n:MSt:=λD δ=>D.nx δ
def Yjl(w:MSt)(D:Zhe)(δ:Ze):Prop:=w D δ
def Yeo(u w:MSt):MSt:=λD δ=>u { D with nx:=Yjl w D } δ
def Zac:MSs X io [] Z8n:=⟨_,Z4p,λC H O δ fp ex D D' R h E=>E.nx H O δ fp R (.refl _ _) h⟩
theorem Zg(h:MS X io st u):MSs X io [st] u:=by
 obtain⟨_,A,s⟩:=h;exact⟨_,Z4u A,s⟩
def Zo6(h:MS X io st u)(g:MSs X io sts w):MSs X io (st::sts) (Yeo u w):=by
 obtain⟨_,A,s⟩:=h;obtain⟨tb,B,s'⟩:=g;exact⟨_,Zv1 A B,λC H O δ fp ex D D' R h E=>s C H O δ fp ex _ _ R h ⟨λH1 O1 δ1 fp1 R1 k1 h1=>s' C H1 O1 δ1 fp1 ex D D' R1 h1 (E.shift k1),E.bk,E.ct,E.rt⟩⟩
def Z8e:MSt:=λ_ _=>False
def Zxr:MS X io st Z8e:=⟨_,Zxa,λC H O δ fp ex D D' R h E=>h.elim⟩
def Yar(m:MEt):MSt:=λD δ=>m δ λ_ δ'=>D.nx δ'
def Zeu(he:ME X io p c e m)(hs:Vi e YC pos.line X.env=pure YF:=by rfl):MS X io (.Expr e pos) (Yar m):=by
 obtain⟨_,A,s⟩:=he;exact⟨_,Zi7 A hs,λC H O δ fp ex D D' R h E=>s C H O δ fp ex _ _ R h λH' v r δ' fp' new r1 h1=>E.nx H' O δ' fp' r1.base r1.stp.kp h1⟩
def Yia(m:MEt):MSt:=λD δ=>m δ λr δ'=>D.rt r δ'
def Zgr(he:ME X io p YD e m):MS X io (.Return (YB e) pos) (Yia m):=by
 obtain⟨_,A,s⟩:=he;exact⟨_,Zzn A,λC H O δ fp ex D D' R h E=>s C H O δ fp ex _ _ R h λH' v r δ' fp' new r1 h1=>E.rt H' O v r δ' fp' new r1.rel (r1.own.wide λa l _=>l rfl) r1.nd (λa m=>(R.newOk (r1.fresh a m)).2.2) h1⟩
def Zwu(i:Nat):MSt:=λD δ=>match δ[i]? with|some (YB t)=>D.rt t (δ.set i YC)|_=>False
theorem Rel.take{C:MC G}{O:St}{δ:Ze}{fp:Fp}{ex:YG->Prop}{t:OT}(R:Rel C io H O δ fp ex)(hi:δ[i]? =YB (YB t)):Rel C io H O (δ.set i YC) (fpu fp i []) (exu ex (fp i)):=by
 have hil:i<δ.length:=(Xk.mp hi).1;have get:∀j (t':OT),(δ.set i YC)[j]? =YB (YB t')->j≠i/\δ[j]? =YB (YB t'):=λj t' e=>by
  by_cases ej:j=i
  .subst ej;rw[QT hil]at e;cases e
  .rw[Qs (Bo ej)]at e;exact⟨ej,e⟩
 have sub:∀j a,a∈fpu fp i [] j->j≠i/\a∈fp j:=λj a m=>by
  by_cases ej:j=i
  .subst ej;rw[Z3]at m;exact nomatch m
  .rw[Yn ej]at m;exact⟨ej,m⟩
 have lw:∀a,Lf C fp ex a->Lf C (fpu fp i []) (exu ex (fp i)) a:=λa l=>⟨λ⟨j,z⟩=>l.1 ⟨j,(sub j a z).2⟩,λz=>z.elim l.2.1 λz=>l.1 ⟨i,z⟩,l.2.2⟩;refine⟨by rw[Vf];exact R.len,λj t' e=>?_,λj h=>?_,λj=>?_,λj k a h1 h2=>R.dj j k a (sub j a h1).2 (sub k a h2).2,λj a h z=>?_,λa z w=>?_,R.fr,R.al,λj a h=>R.new j a (sub j a h).2,R.io⟩
 .obtain⟨ej,e⟩:=get j t' e
  obtain⟨w,e1,o⟩:=R.own j t' e;exact⟨w,e1,by rw[Yn ej];exact o.wide λa l _=>lw a l⟩
 .by_cases ej:j=i
  .subst ej;rw[Z3]
  .rw[Yn ej]
   exact R.emp j λt' z=>h t' (by rw[Qs (Bo ej)];exact z)
 .by_cases ej:j=i
  .subst ej;rw[Z3];exact .nil
  .rw[Yn ej];exact R.nd j
 .obtain⟨ej,h⟩:=sub j a h
  rcases z with z|z
  .exact R.dx j a h z
  .exact ej (R.dj j i a h z)
 .rcases z with z|z
  .exact R.xa a z w
  .exact R.footSome w ⟨i,z⟩
def Zb3(i:Nat){px:Pos}(hio:i∉io:=by decide)(hN:X.N[i]? =YB x:=by rfl)(hv:Vis X.env.scope x:=by first|exact QG rfl|exact Qz (QG rfl)|exact Qz (Qz rfl))(hd:(x==("__debug__" : Str))=YF:=by decide)
  (hcd:(x==("__classdict__" : Str))=YF:=by decide):MS X io (.Return (YB (.Name x px)) pos) (Zwu i):=by
 refine⟨_,Zzn (pv i hN hv hd hcd),λC H O δ fp ex D D' R h E=>?_⟩;unfold Zwu at h;split at h
 case h_2=>exact h.elim
 rename_i t hi;obtain⟨v,e,o⟩:=R.own i t hi;have lw:∀a,Lf C fp ex a->H a≠YC->Lf C (fpu fp i []) (exu ex (fp i)) a:=λa l _=>⟨λz=>by
  rcases z.of_u with z|⟨j,_,z⟩
  .exact nomatch z
  .exact l.1 ⟨j,z⟩,λz=>z.elim l.2.1 λz=>l.1 ⟨i,z⟩,l.2.2⟩
 have hn:∀a∈fp i,C.H₀ a=YC:=λa m=>by
  rcases R.new i a m with z|z
  .exact YZ z.1 hio
  .exact z
 exact⟨v,e,E.rt H O v t _ _ (fp i) (R.take hi) (o.wide lw) (R.nd i) hn h⟩
def Yga(t:MTt)(u w:MSt):MSt:=λD δ=>t δ λb δ'=>if b=YD then u D δ' else w D δ'
def Zsk{cnd:YJ}{ss ss':List YK}(hc:MT X io p cnd mt)(ha:MSs X io ss u)(hb:MSs X io ss' w):MS X io (.If cnd ss ss' pos) (Yga mt u w):=by
 obtain⟨_,T,s⟩:=hc;obtain⟨_,A,sa⟩:=ha;obtain⟨_,B,sb⟩:=hb;exact⟨_,Ye5 T A B,λC H O δ fp ex D D' R h E=>s C H O δ fp ex _ _ R h λH' b δ' fp' R' S h'=>by
  cases b with
  | true=>
   rw[YM rfl]at h'|-
   exact sa C H' O δ' fp' ex D D' R' h' (E.shift S.kp)
  | false=>
   rw[YQ Xx]at h'|-
   exact sb C H' O δ' fp' ex D D' R' h' (E.shift S.kp)⟩
theorem Rel.put{C:MC G}{O:St}{δ:Ze}{fp:Fp}{ex:YG->Prop}{v:V}{r:OT}{new:List YG}(R:Rel C io H O δ fp (exu ex new))(hio:i∉io)(o:Own G H (Lf C fp (exu ex new)) v r new)(nd:new.Nodup)
  (hn:∀a∈new,C.H₀ a=YC/\¬ex a):∃fp',Rel C io H (O.set i (YB v)) (δ.set i (YB r)) fp' ex/\∀a,Foot fp' a->Foot fp a\/a∈new:=by
 by_cases hil:i<δ.length
 case neg=>
  refine⟨fp,?_,λa h=>.inl h⟩;have hl:=R.len;rw[List.set_eq_of_length_le (show δ.length<=i by omega),List.set_eq_of_length_le (show O.length<=i by omega)];exact R.drop λa z=>.inl z
 have hsl:i<O.length:=by rw[R.len];exact hil
 have sub:∀a,Foot (fpu fp i new) a->Foot fp a\/a∈new:=λa z=>by
  rcases z.of_u with z|⟨j,_,z⟩
  .exact .inr z
  .exact .inl ⟨j,z⟩
 have lw:∀a,Lf C fp (exu ex new) a->Lf C (fpu fp i new) ex a:=λa l=>⟨λz=>(sub a z).elim l.1 λz=>l.2.1 (.inr z),λz=>l.2.1 (.inl z),l.2.2⟩;refine⟨fpu fp i new,⟨by rw[Vf,Vf];exact R.len,λj t' e=>?_,λj h=>?_,λj=>?_,λj k a h1 h2=>?_,λj a h z=>?_,λa z=>R.xa a (.inl z),R.fr,R.al,λj a h=>?_,λj hj=>?_⟩,sub⟩
 .by_cases ej:j=i
  .subst ej
   rw[QT hil]at e;cases e;exact⟨v,QT hsl,by rw[Z3];exact o.wide λa l _=>lw a l⟩
  .rw[Qs (Bo ej)]at e
   obtain⟨w,e1,o1⟩:=R.own j t' e;exact⟨w,by rw[Qs (Bo ej)];exact e1,by rw[Yn ej];exact o1.wide λa l _=>lw a l⟩
 .by_cases ej:j=i
  .subst ej;exact YZ (QT hil) (h r)
  .rw[Yn ej]
   exact R.emp j λt' z=>h t' (by rw[Qs (Bo ej)];exact z)
 .by_cases ej:j=i
  .subst ej;rw[Z3];exact nd
  .rw[Yn ej];exact R.nd j
 .by_cases ej:j=i
  .subst ej
   rw[Z3]at h1
   by_cases ek:k=j
   .exact ek.symm
   .rw[Yn ek]at h2
    exact YZ (.inr h1) (R.dx k a h2)
  .rw[Yn ej]at h1
   by_cases ek:k=i
   .subst ek
    rw[Z3]at h2;exact YZ (.inr h2) (R.dx j a h1)
   .rw[Yn ek]at h2
    exact R.dj j k a h1 h2
 .by_cases ej:j=i
  .subst ej
   rw[Z3]at h;exact(hn a h).2 z
  .rw[Yn ej]at h
   exact R.dx j a h (.inl z)
 .by_cases ej:j=i
  .subst ej
   rw[Z3]at h;exact .inr (hn a h).1
  .rw[Yn ej]at h
   exact R.new j a h
 .have ej:j≠i:=λz=>hio (z▸hj)
  rw[Qs (Bo ej)];exact R.io j hj
theorem RE.put{C:MC G}{O:St}{δ δ':Ze}{fp fp':Fp}{ex:YG->Prop}{v:V}{r:OT}{new:List YG}(R:RE C io p YD H O δ fp ex H' v r δ' fp' new)(R0:Rel C io H O δ fp ex)(hio:i∉io) :
  ∃fp2,Rel C io H' (O.set i (YB v)) (δ'.set i (YB r)) fp2 ex/\Kp H fp H' fp2:=by
 obtain⟨fp2,R2,g⟩:=R.rel.put hio (R.own.wide λa l _=>l rfl) R.nd λa m=>⟨(R0.newOk (R.fresh a m)).2.2,(R0.newOk (R.fresh a m)).2.1⟩;refine⟨fp2,R2,λb o e q=>R.stp.keep b o e (.inr (q.resolve_left (!1))),λz=>(nomatch z),λa z=>?_,R.stp.al⟩;rcases g a z with z|z
 .exact R.stp.grow a z
 .exact .inr (R.fresh a z)
def RE.fzc{C:MC G}{O:St}{δ δ':Ze}{fp fp':Fp}{ex:YG->Prop}{v:V}{r:OT}{new:List YG}(R:RE C io p c H O δ fp ex H' v r δ' fp' new)(R0:Rel C io H O δ fp ex) :
  RE C io p c H O δ fp ex H' v (.fz r.data) δ' fp' []:=.fz R.base R.stp (R.da R0)
def RE.fzs{C:MC G}{O:St}{δ δ':Ze}{fp fp':Fp}{ex:YG->Prop}{v:V}{r:OT}{new:List YG}(R:RE C io p c H O δ fp ex H' v r δ' fp' new)(R0:Rel C io H O δ fp ex)(h:Jf r.data=YD) :
  RE C io p YD H O δ fp ex H' v (.fz r.data) δ' fp' []:=.fz R.base R.stp ((R.da R0).flat h)
def Z5h(i:Nat)(m:MEt):MSt:=λD δ=>m δ λr δ'=>D.nx (δ'.set i (YB (.fz r.data)))
def Zqs(i:Nat)(m:MEt):MSt:=λD δ=>m δ λr δ'=>D.nx (δ'.set i (YB r))
section
variable {px:Pos}
def Yhp{t:TE}(s:SE G io p YD t m)(hio:i∉io):SS G io (Z97 t (Zu9 i)) (Z5h i m):=λC H O δ fp ex D D' R h E=>s C H O δ fp ex _ _ R h λH' v r δ' fp' new r1 h1=>by
 obtain⟨fp2,R2,k2⟩:=(r1.fzc R).put R hio;exact E.nx H' _ _ fp2 R2 k2 h1
def Z8q{t:TE}(s:SE G io p YD t m)(hio:i∉io):SS G io (Z97 t (Zu9 i)) (Zqs i m):=λC H O δ fp ex D D' R h E=>s C H O δ fp ex _ _ R h λH' v r δ' fp' new r1 h1=>by
 obtain⟨fp2,R2,k2⟩:=r1.put R hio;exact E.nx H' _ _ fp2 R2 k2 h1
def Zdd(hN:X.N.Nodup)(hi:X.N[i]? =YB x)(hx:Loc X.env.scope x)(he:ME X io p YD e m)(hio:i∉io:=by decide)(hs:Vi e (YB (.Name x px)) pos.line X.env=pure YF:=by rfl)(hf:X.fn x=YD\/X.env.scope.names.lookup x=YB .local:=by first|exact .inl rfl|exact .inr rfl|assumption) :
  MS X io (.Assign [.Name x px] e pos) (Z5h i m):=by
 obtain⟨_,A,s⟩:=he;exact⟨_,Zzl hN hi hx A hs hf,Yhp s hio⟩
def Zhi(hN:X.N.Nodup)(hi:X.N[i]? =YB x)(hx:Loc X.env.scope x)(he:ME X io p YD e m)(hio:i∉io:=by decide)(hs:Vi e (YB (.Name x px)) pos.line X.env=pure YF:=by rfl)(hf:X.fn x=YD\/X.env.scope.names.lookup x=YB .local:=by first|exact .inl rfl|exact .inr rfl|assumption) :
  MS X io (.Assign [.Name x px] e pos) (Zqs i m):=by
 obtain⟨_,A,s⟩:=he;exact⟨_,Zzl hN hi hx A hs hf,Z8q s hio⟩
end
def Z0e(t:MTt)(u:MSt):MSt:=λD δ=>∃W:Nat->Ze->Prop,(∃n,W n δ)/\∀n δ,W n δ->t δ λb δ'=>if b=YD then∃N:Ze->Prop,(∀δ',N δ'->∃n',n'<n/\W n' δ')/\u { D with nx:=N,ct:=N,bk:=D.nx } δ' else D.nx δ'
def Zx3{cnd:YJ}{ss:List YK}(hp:PassesOwn (X4 X.prog X.w) X.A X.env X.xe)(hc:MT X io p cnd mt)(ha:MSs X io ss u):MS X io (.While cnd ss [] pos) (Z0e mt u):=by
 obtain⟨_,T,s⟩:=hc;obtain⟨_,A,sa⟩:=ha;refine⟨_,Zyi hp T A,λC H O δ fp ex D D' R h E=>?_⟩;obtain⟨W,⟨n0,w0⟩,turn⟩:=h;refine⟨λn O' H'=>∃δ' fp',Rel C io H' O' δ' fp' ex/\Kp H fp H' fp'/\W n δ',⟨n0,δ,fp,R,.refl _ _,w0⟩,?_⟩;rintro n O1 H1 ⟨δ1,fp1,R1,k1,w1⟩;refine s C H1 O1 δ1 fp1 ex _ _ R1 (turn n δ1 w1) λH2 b δ2 fp2 R2 S2 h2=>?_;have k2:=k1.trans S2.kp;cases b with
 | true=>
  rw[YM rfl]at h2|-
  obtain⟨N,hN,h2⟩:=h2;refine⟨λO' H'=>∃δ' fp',Rel C io H' O' δ' fp' ex/\Kp H fp H' fp'/\N δ',λO' H' ⟨δ',fp',R',k',n'⟩=>?_,?_⟩
  .obtain⟨n1,hn1,w1⟩:=hN δ' n'
   exact⟨n1,hn1,δ',fp',R',k',w1⟩
  .refine sa C H2 O1 δ2 fp2 ex _ _ R2 h2 ⟨λH' O' δ' fp' R' k' n'=>⟨δ',fp',R',k2.trans k',n'⟩,λH' O' δ' fp' R' k' n'=>E.nx H' O' δ' fp' R' (k2.trans k') n',λH' O' δ' fp' R' k' n'=>⟨δ',fp',R',k2.trans k',n'⟩,E.rt⟩
 | false=>
  rw[YQ Xx]at h2|-
  exact E.nx H2 O1 δ2 fp2 R2 k2 h2
end
variable {G:Xc}
def Ziq(N:List Str)(ds:List Xa):Ze:=ds.map (λd=>YB (.fz d))++Qm (N.length-ds.length) YC
section
variable {vs:List V}
def Zse{t:OT}{n:Nat}(h:(ds.map (λd=>YB (.fz d))++Qm n YC:Ze)[i]? =YB (YB t)):∃d,ds[i]? =YB d/\t= .fz d:=by
 rw[List.getElem?_append]at h;split at h
 .rw[Xi]at h
  cases e:ds[i]? with
  | none=>rw[e]at h;cases h
  | some d=>rw[e]at h;cases h;exact⟨d,rfl,rfl⟩
 .rw[List.getElem?_replicate]at h
  split at h
  .cases h
  .cases h
theorem Rel.entry(h:Das G H L vs ds):Rel (G:=G) ⟨H,λ_=>False,L,start N vs⟩ [] H (start N vs) (Ziq N ds) (λ_=>[]) (λ_=>False):=by
 refine⟨?_,λi t e=>?_,λ_ _=>rfl,λ_=>.nil,λi j a m=>(nomatch m),λi a m=>(nomatch m),λa z=>z.elim,λb o e _=>e,λb e=>e,λi a m=>(nomatch m),λi m=>nomatch m⟩
 .unfold start Ziq
  simp[h.length]
 .obtain⟨d,e',rfl⟩:=Zse e
  obtain⟨x,e1,q⟩:=h.get e';refine⟨x,?_,.fz (q.wide λa l _=>⟨λ⟨j,z⟩=>(nomatch z),λz=>z,.inl l⟩)⟩;unfold L2.start;rw[Vu (by rw[Xd];exact(Xk.mp e1).1),Xi,e1];rfl
variable {base:YH}
def Z4h(k:OT->Prop):Zhe:={ nx:=λ_=>k (.fz .none),rt:=λr _=>k r }
theorem Fun.okD{f:YG}{fd:Ql}{n:Nat}{S:List Xa->(OT->Prop)->Prop}(F:Fun K x qual st f fd)(Sc:Zv N ps (Zi st))(len:∀ds k,S ds k->ds.length=ps.length)
  (hbody:∀(cdv:Xe) (A:Qn) (outer:List Env) (s:Xf) (H:Hp) (E:XK),Room n (A.deeper (envOfC qual (Zi st) s.heap.objs.size f cdv)) ->
   ∃m,MSs (Zvd CX0 P w K mg base N qual (Zi st) f cdv A outer s H E).nox [] (Ju st) m/\∀ds k,S ds k->m (Z4h k) (Ziq N ds)):FnOk P w K mg base CX0 (n+1) f fd ps (spD K S):=by
 refine F.ok Sc (λvs H Q E h=>?_) (λcdv A outer s H vs Q E hr h=>?_)
 .obtain⟨L,ds,k,h1,h2,_⟩:=h
  rw[h1.length];exact len ds k h2
 .obtain⟨L,ds,k,h1,h2,h3⟩:=h
  obtain⟨m,⟨t,A1,s1⟩,q⟩:=hbody cdv A outer s H E hr;refine⟨t,A1,s1 ⟨H,λ_=>False,L,start N vs⟩ H _ _ _ _ (Z4h k) _ (Rel.entry h1) (q ds k h2) ⟨λH' O' δ' fp' R _ hk=>?_,λ_ _ _ _ _ _ z=>z.elim,λ_ _ _ _ _ _ z=>z.elim,λH' O' v r δ' fp' new R o nd hn hk=>?_⟩⟩
  .exact h3 _ .non H' [] hk (λb o e=>R.fr b o e id) (.fz .non) .nil λa m=>nomatch m
  .refine h3 r v H' new hk (λb o e=>R.fr b o e id) (o.wide λa l _=>⟨?_,λz=>l.2.1 (.inr z)⟩) nd hn
   exact l.2.2
end
abbrev MGt:=Xa->Ze->(Ze->Prop)->Prop
abbrev Zrz:=List Xa->Ze->(Ze->Prop)->Prop
def SG(G:Xc)(io:List Nat)(c:Bool)(t:TG)(g:MGt):Prop:=∀(C:MC G) (H:Hp) (O:St) (δ:Ze) (fp:Fp) (ex:YG->Prop) (v:V) (d:Xa) (k:Ze->Prop) (Q:St->Hp->Prop),Rel C io H O δ fp ex->Da G H (λa=>c=YD->Lf C fp ex a) v d->g d δ k ->
 (∀ O' δ' fp',Rel C io H O' δ' fp' ex->Kp H fp H fp'->k δ'->Q O' H)->t v O H Q
def SGs(G:Xc)(io:List Nat)(c:Bool)(t:TGs)(g:Zrz):Prop:=∀(C:MC G) (H:Hp) (O:St) (δ:Ze) (fp:Fp) (ex:YG->Prop) (v:List V) (d:List Xa) (k:Ze->Prop) (Q:St->Hp->Prop),Rel C io H O δ fp ex->Das G H (λa=>c=YD->Lf C fp ex a) v d->g d δ k ->
 (∀ O' δ' fp',Rel C io H O' δ' fp' ex->Kp H fp H fp'->k δ'->Q O' H)->t v O H Q
def MG(X:Cx)(io:List Nat)(c:Bool)(tg:YJ)(g:MGt):Prop:=∃t,PG X tg t/\SG X.K io c t g
def MGs(X:Cx)(io:List Nat)(c:Bool)(tg:List YJ)(g:Zrz):Prop:=∃t,PGs X tg t/\SGs X.K io c t g
section
variable {io:List Nat}{c:Bool}
def dName(i:Nat):MGt:=λd δ k=>k (δ.set i (YB (.fz d)))
def Zy2(i:Nat):MGt:=λd δ k=>Jf d=YD/\k (δ.set i (YB (.fz d)))
theorem Rel.putD{C:MC G}{O:St}{δ:Ze}{fp:Fp}{ex:YG->Prop}{v:V}{d:Xa}(R:Rel C io H O δ fp ex)(hio:i∉io)(q:Da G H (Lf C fp ex) v d) :
  ∃fp',Rel C io H (O.set i (YB v)) (δ.set i (YB (.fz d))) fp' ex/\Kp H fp H fp':=by
 obtain⟨fp',R',g⟩:=(R.drop λa z=>Zbp.mp z).put (new:=[]) hio (.fz (q.wide λa l _=>⟨l.1,λz=>l.2.1 (Zbp.mp z),l.2.2⟩)) .nil (λa m=>nomatch m);exact⟨fp',R',λb o e _=>e,λz=>(nomatch z),λa z=>(g a z).imp id λz=>(nomatch z),λb e=>e⟩
def W6(hN:X.N.Nodup)(hi:X.N[i]? =YB x:=by rfl)(hx:Loc X.env.scope x:=by first|exact QG rfl|exact Qz rfl)(hio:i∉io:=by decide)(hf:X.fn x=YD\/X.env.scope.names.lookup x=YB .local:=by first|exact .inl rfl|exact .inr rfl|assumption):MG X io YD (.Name x pos) (dName i) :=
 ⟨_,Zsm hN hi hx hf,λC H O δ fp ex v d k Q R q h kk=>by
  obtain⟨fp',R',k'⟩:=R.putD hio (q.wide λa l _=>l rfl);exact kk _ _ fp' R' k' h⟩
def Zok(hN:X.N.Nodup)(hi:X.N[i]? =YB x:=by rfl)(hx:Loc X.env.scope x:=by first|exact QG rfl|exact Qz rfl)(hio:i∉io:=by decide)(hf:X.fn x=YD\/X.env.scope.names.lookup x=YB .local:=by first|exact .inl rfl|exact .inr rfl|assumption):MG X io c (.Name x pos) (Zy2 i) :=
 ⟨_,Zsm hN hi hx hf,λC H O δ fp ex v d k Q R q h kk=>by
  obtain⟨fp',R',k'⟩:=R.putD hio (q.flat h.1);exact kk _ _ fp' R' k' h.2⟩
def Yf7:Zrz:=λds δ k=>ds=[]/\k δ
def Z3x(g:MGt)(gs:Zrz):Zrz:=λds δ k=>match ds with|d::r=>g d δ λδ'=>gs r δ' k|[]=>False
def Zgi:MGs X io c [] Yf7:=⟨_,Z02,λC H O δ fp ex v d k Q R q h kk=>by
 obtain⟨rfl,h⟩:=h;cases q;exact⟨rfl,kk O δ fp R (.refl _ _) h⟩⟩
def Rel.kp_das{C:MC G}{O:St}{δ:Ze}{fp fp':Fp}{ex:YG->Prop}{vs:List V}(R:Rel C io H O δ fp ex)(S:Kp H fp H' fp')(h:Das G H (Lf C fp ex) vs ds):Das G H' (Lf C fp' ex) vs ds:=by
 have S':Stp YF H δ fp H' δ fp':=⟨S.keep,λz=>(nomatch z),S.grow,S.al⟩;obtain⟨f1,f2⟩:=R.frameL (c:=YD) (ex':=ex) S' (.inr rfl) λa z=>.inl z;exact h.frame (λa xs l q=>⟨(f1 a xs (λ_=>l) q).1 rfl,(f1 a xs (λ_=>l) q).2⟩) f2
def Zas{g:MGt}{gs:Zrz}(h1:MG X io YD e g)(h2:MGs X io YD es gs)
  (hs:(JT (e::es) X.env).map (·.2)=assign e X.env::(JT es X.env).map (·.2):=by rfl):MGs X io YD (e::es) (Z3x g gs):=by
 obtain⟨_,A,s⟩:=h1;obtain⟨_,B,s'⟩:=h2;exact⟨_,Zos A B hs,λC H O δ fp ex v d k Q R q h kk=>by
  cases q with
  | nil=>exact h.elim
  | cons q qs=>
   refine⟨_,_,rfl,s C H O δ fp ex _ _ _ _ R q h λO1 δ1 fp1 R1 k1 h1=>?_⟩;exact s' C H O1 δ1 fp1 ex _ _ _ _ R1 ((R.kp_das k1 (qs.wide λa l _=>l rfl)).wide λa l _ _=>l) h1 λO2 δ2 fp2 R2 k2 h2=>kk O2 δ2 fp2 R2 (k1.trans k2) h2⟩
def Zmc{g:MGt}{gs:Zrz}(h1:MG X io YF e g)(h2:MGs X io YF es gs)
  (hs:(JT (e::es) X.env).map (·.2)=assign e X.env::(JT es X.env).map (·.2):=by rfl):MGs X io YF (e::es) (Z3x g gs):=by
 obtain⟨_,A,s⟩:=h1;obtain⟨_,B,s'⟩:=h2;exact⟨_,Zos A B hs,λC H O δ fp ex v d k Q R q h kk=>by
  cases q with
  | nil=>exact h.elim
  | cons q qs=>
   refine⟨_,_,rfl,s C H O δ fp ex _ _ _ _ R (q.wide λa _ _ z=>nomatch z) h λO1 δ1 fp1 R1 k1 h1=>?_⟩;exact s' C H O1 δ1 fp1 ex _ _ _ _ R1 (qs.wide λa _ _ z=>nomatch z) h1 λO2 δ2 fp2 R2 k2 h2=>kk O2 δ2 fp2 R2 (k1.trans k2) h2⟩
def dTup(n:Nat)(gs:Zrz):MGt:=λd δ k=>match d with| .tuple ds=>ds.length=n/\gs ds δ k|_=>False
def Zk6{k:Nat}{gs:Zrz}{n:Nat}(hc:X.calm=YD)(h:MGs X io c es gs)
  (hn:(JT es X.env).length=n:=by rfl) (hst:(JT es X.env).findIdx? (·.1)=YC:=by rfl):MG X io c (.Tuple es k pos) (dTup n gs):=by
 obtain⟨_,A,s⟩:=h;exact⟨_,Z63 hc A hn hst,λC H O δ fp ex v d k Q R q h kk=>by
  cases q with
  | tup e qs=>exact⟨_,_,rfl,.inl (.inl e),by rw[qs.length];exact h.1,s C H O δ fp ex _ _ _ _ R qs h.2 kk⟩
  | _=>exact h.elim⟩
def Yhz(m:MEt)(g:MGt):MSt:=λD δ=>m δ λr δ'=>g r.data δ' D.nx
def Zsn{p:Bool}{m:MEt}{g:MGt}(he:ME X io p c e m)(hg:MG X io c tg g)(hs:swapsWithSole [tg] e pos.line X.env=pure YF:=by rfl)(hw:swappedStores [tg] e X.env=pure YC:=by rfl)
  (h1:(JT [tg] X.env).map (·.2)=[assign tg X.env]:=by rfl):MS X io (.Assign [tg] e pos) (Yhz m g):=by
 obtain⟨_,A,s⟩:=he;obtain⟨_,B,s'⟩:=hg;exact⟨_,Zzt A B hs hw h1,λC H O δ fp ex D D' R h E=>s C H O δ fp ex _ _ R h λH' v r δ' fp' new r1 h1=>
  s' C H' O δ' fp' ex v _ _ _ r1.base (r1.da R) h1 λO2 δ2 fp2 R2 k2 h2=>E.nx H' O2 δ2 fp2 R2 (r1.stp.kp.trans k2) h2⟩
end
variable {G:Xc}
def IterOk(C:MC G)(fp:Fp)(ex:YG->Prop)(H1:Hp)(c:Bool)(J:It)(ds:List Xa):Prop:=∀H':Hp,(∀b o,H1 b=YB o->(c=YF\/¬Foot fp b)->H' b=YB o)->∀i:Nat,
 (∀ d,ds[i]? =YB d->J.go i H'/\∀x H'',J.yld i H' x H''->Same H' H''/\Da G H'' (λa=>c=YD->(Lf C fp ex a/\H1 a≠YC)) x d)/\(ds[i]? =YC->J.stop i H')
abbrev MIt:=Ze->(List Xa->Ze->Prop)->Prop
def SI(G:Xc)(io:List Nat)(p c:Bool)(t:TI)(m:MIt):Prop:=∀(C:MC G) (H:Hp) (O:St) (δ:Ze) (fp:Fp) (ex:YG->Prop) (K:List Xa->Ze->Prop) (Q:It->Hp->Prop),Rel C io H O δ fp ex->m δ K ->
 (∀ J H1 ds δ1 fp1,Rel C io H1 O δ1 fp1 ex->Stp p H δ fp H1 δ1 fp1->IterOk C fp1 ex H1 c J ds->K ds δ1->Q J H1)->t O H Q
def MI(X:Cx)(io:List Nat)(p c:Bool)(tg iter:YJ)(m:MIt):Prop:=∃t,PI X tg iter t/\SI X.K io p c t m
variable {ex ex':YG->Prop}{c p p' c' p'':Bool}{cnd:YJ}{fp fp' fp1:Fp}{H'':Hp}{io:List Nat}{sts ss ss':List YK}{mr:MAt}{ma mb:MEt}{mi:MIt}{pp px:Pos}{δ δ' δ1 δ2:Ze}{gs:Zrz}
section
variable {a:YJ}{m:MEt}
def iL(m:MEt):MIt:=λδ K=>m δ λr δ'=>match r.data with| .list ds=>K ds δ'|_=>False
def iT(m:MEt):MIt:=λδ K=>m δ λr δ'=>match r.data with| .tuple ds=>K ds δ'|_=>False
def Rel.kept{C:MC G}{H H':Hp}{O:St}{δ:Ze}{fp:Fp}{ex:YG->Prop}(R:Rel C io H O δ fp ex)(kp:∀b o,H b=YB o->(c=YF\/¬Foot fp b)->H' b=YB o) :
  (∀ a (xs:MuO),(c=YD->Lf C fp ex a)->Rd H a xs.ho->(c=YD->(Lf C fp ex a/\H a≠YC))/\Rd H' a xs.ho)/\(∀a (xs:ImO),H a=YB xs.ho->H' a=YB xs.ho):=by
 refine⟨λa xs l q=>⟨λhc=>⟨l hc,q.some⟩,?_⟩,λa xs q=>kp a _ q (.inr λz=>?_)⟩
 .have hk:c=YF\/¬Foot fp a:=by
   cases c with
   | false=>exact .inl rfl
   | true=>exact .inr (l rfl).1
  rcases q with q|⟨o,q⟩
  .exact .inl (kp a _ q hk)
  .exact .inr ⟨o,kp a _ q hk⟩
 .obtain⟨ys,e⟩:=R.foot z
  exact ImO.nm q e
def Zep(h:ME X io p c e m):MI X io p c tg e (iL m):=by
 obtain⟨_,A,s⟩:=h;exact⟨_,Zyg rfl A,λC H O δ fp ex K' Q R h kk=>s C H O δ fp ex _ _ R h λH1 v r δ1 fp1 new r1 h1=>by
  have q:=r1.da R;generalize r.data=d at q h1;cases q with
  | lst l e qs=>
   refine⟨_,rfl,⟨_,.inl e⟩,kk _ H1 _ δ1 fp1 r1.base r1.stp (λH' kp i=>?_) h1⟩;obtain⟨f1,f2⟩:=r1.base.kept kp;have e':=(f1 _ (.lst _) l e).2;have qs':=qs.frame f1 f2;refine⟨λd hd=>?_,λhd=>?_⟩
   .obtain⟨x,hx,qx⟩:=qs'.get hd
    refine⟨⟨_,x,.inl e',hx⟩,λy H'' hy=>?_⟩;obtain⟨rfl,hy⟩:=hy;have:=hy _ (.inl e');rw[hx]at this;cases this;exact⟨Same.refl _,qx⟩
   .exact⟨_,.inl e',by rw[qs'.length];exact Q0.mp hd⟩
  | scr ks=>
   refine⟨_,rfl,⟨_,ks.sq⟩,kk _ H1 _ δ1 fp1 r1.base r1.stp (λH' kp i=>?_) h1⟩;refine⟨λd hd=>?_,λhd=>?_⟩
   .obtain⟨x,hx,qx⟩:=(Das.ints (G:=X.K) (H:=H') (L:=λa=>c=YD->(Lf C fp1 ex a/\H1 a≠YC)) _).get hd
    refine⟨⟨_,x,ks.sq,hx⟩,λy H'' hy=>?_⟩;obtain⟨rfl,hy⟩:=hy;have:=hy _ ks.sq;rw[hx]at this;cases this;exact⟨Same.refl _,qx⟩
   .refine⟨_,ks.sq,?_⟩
    have:=Q0.mp hd;simpa using this
  | _=>exact h1.elim⟩
def Z61(h:ME X io p c e m):MI X io p c tg e (iT m):=by
 obtain⟨_,A,s⟩:=h;exact⟨_,Z24 rfl A,λC H O δ fp ex K' Q R h kk=>s C H O δ fp ex _ _ R h λH1 v r δ1 fp1 new r1 h1=>by
  have q:=r1.da R;generalize r.data=d at q h1;cases q with
  | tup e qs=>
   refine⟨_,rfl,⟨_,.inl (.inl e)⟩,kk _ H1 _ δ1 fp1 r1.base r1.stp (λH' kp i=>?_) h1⟩;obtain⟨f1,f2⟩:=r1.base.kept kp;have e':=f2 _ (.tup _) e;have qs':=qs.frame f1 f2;refine⟨λd hd=>?_,λhd=>?_⟩
   .obtain⟨x,hx,qx⟩:=qs'.get hd
    refine⟨⟨_,x,.inl (.inl e'),hx⟩,λy H'' hy=>?_⟩;obtain⟨rfl,hy⟩:=hy;have:=hy _ (.inl (.inl e'));rw[hx]at this;cases this;exact⟨Same.refl _,qx⟩
   .exact⟨_,.inl (.inl e'),by rw[qs'.length];exact Q0.mp hd⟩
  | _=>exact h1.elim⟩
def Zdk(lo:Int)(n:Nat):List Xa:=(XC n).map λ(i:Nat)=>Xu (lo+(i:Int))
@[simp] theorem Wf(lo:Int)(n:Nat):(Zdk lo n).length=n:=by simp[Zdk]
theorem Zap{lo:Int}{n i:Nat}{d:Xa}(h:(Zdk lo n)[i]? =YB d):i<n/\d= .int (lo+i):=by
 have hi:i<n:=by
  have:=(Xk.mp h).1;simpa using this
 unfold Zdk at h;rw[Xi,Q8 hi]at h;cases h;exact⟨hi,rfl⟩
def Zo3{C:MC G}{n:Nat}:IterOk C fp ex H1 YD (Itr lo n) (Zdk lo n):=λH' _ i=>by
 refine⟨λd hd=>?_,λhd=>?_⟩
 .obtain⟨hi,rfl⟩:=Zap hd
  refine⟨hi,λx H'' hy=>?_⟩;obtain⟨rfl,rfl⟩:=hy;exact⟨Same.refl _,.int _⟩
 .have:=Q0.mp hd
  show n<=i;simpa using this
def iR1(mr:MAt):MIt:=λδ K=>mr δ λrs δ'=>match OT.datas rs with|[.int j]=>(-(2^62)<=j/\j<2^62)/\K (Zdk 0 j.toNat) δ'|_=>False
def iR2(mr:MAt):MIt:=λδ K=>mr δ λrs δ'=>match OT.datas rs with|[.int i,.int j]=>(-(2^62)<=i/\i<2^62/\-(2^62)<=j/\j<2^62)/\K (Zdk i (j-i).toNat) δ'|_=>False
def Yj{p':Pos}(hg:Gl X "range")(hm:X.mg "range"=YC)(ha:MA X io p c [a] mr)(hs:Xo [a] X.env=[(YF,eval a X.env)]:=by rfl):MI X io p YD tg (.Call (.Name "range" p') [a] [] pos) (iR1 mr):=by
 obtain⟨_,A,s⟩:=ha;exact⟨_,Zt0 hg hm A hs,λC H O δ fp ex K' Q R h kk=>s C H O δ fp ex _ _ R h λH1 vs rs δ1 fp1 new r1 h1=>by
  have q:=r1.das R;generalize OT.datas rs=d at q h1;split at h1
  case h_2=>exact h1.elim
  cases q with
  | cons q1 q2=>
   cases q1;cases q2;exact⟨_,rfl,h1.1.1,h1.1.2,kk _ H1 _ δ1 fp1 r1.base r1.stp Zo3 h1.2⟩⟩
def Zgx{p':Pos}(hg:Gl X "range")(hm:X.mg "range"=YC)(ha:MA X io p c [a,b] mr)(hs:Xo [a,b] X.env=[(YF,eval a X.env),(YF,eval b X.env)]:=by rfl)(hs2:Xo [b] X.env=[(YF,eval b X.env)]:=by rfl):MI X io p YD tg (.Call (.Name "range" p') [a,b] [] pos) (iR2 mr):=by
 obtain⟨_,A,s⟩:=ha;exact⟨_,Zr7 hg hm A hs hs2,λC H O δ fp ex K' Q R h kk=>s C H O δ fp ex _ _ R h λH1 vs rs δ1 fp1 new r1 h1=>by
  have q:=r1.das R;generalize OT.datas rs=d at q h1;split at h1
  case h_2=>exact h1.elim
  cases q with
  | cons q1 q2=>
   cases q1;cases q2 with
   | cons q2 q3=>
    cases q2;cases q3;exact⟨_,_,rfl,h1.1,kk _ H1 _ δ1 fp1 r1.base r1.stp Zo3 h1.2⟩⟩
theorem IterOk.at{C:MC G}{fp fp':Fp}{ex:YG->Prop}{H1 H' H'':Hp}{J:It}{ds:List Xa}{x:V}{d:Xa}(g:∀a,Foot fp' a->Foot fp a\/H1 a=YC)(h:Da G H'' (λa=>YD=YD->(Lf C fp ex a/\H1 a≠YC)) x d):Da G H'' (λa=>YD=YD->Lf C fp' ex a) x d :=
 h.wide λa l _ z=>⟨λw=>(g a w).elim (l z).1.1 (l z).2,(l z).1.2.1,(l z).1.2.2⟩
def Yff(ds:List Xa)(g:MGt)(u:MSt)(D:Zhe)(δ1:Ze):Prop:=∃I:Nat->Ze->Prop,I 0 δ1/\(∀(i:Nat) (d:Xa) (δ':Ze),ds[i]? =YB d->I i δ'->g d δ' λδ2=>u { D with nx:=I (i+1),ct:=I (i+1),bk:=D.nx } δ2)/\∀δ',I ds.length δ'->D.nx δ'
def Yh5(mi:MIt)(g:MGt)(u:MSt):MSt:=λD δ=>mi δ λds δ1=>Yff ds g u D δ1
theorem Rel.mk0{C:MC G}{O:St}(R:Rel C io H O δ fp ex)(s:Same H H'):Rel C io H' O δ fp ex:=(R.made (new:=[]) s λa m=>nomatch m).drop λa z=>.inl z
def Zz7{g:MGt}{u:MSt}(hp:PassesOwn (X4 X.prog X.w) X.A X.env X.xe)(hc:X.calm=YD)(hi:MI X io p YD tg iter mi)(hg:MG X io YD tg g)(hb:MSs X io body u)
  (hs:∀x,JX iter X.env x=pure x:=by intro _;rfl):MS X io (.For tg iter body [] pos) (Yh5 mi g u):=by
 obtain⟨_,A,s⟩:=hi;obtain⟨_,G,sg⟩:=hg;obtain⟨_,B,sb⟩:=hb;refine⟨_,Ybc hp hc A G B hs,λC H O δ fp ex D D' R h E=>s C H O δ fp ex _ _ R h λJ H1 ds δ1 fp1 R1 S1 it h1=>?_⟩;obtain⟨I,h0,turn,fin⟩:=h1;refine⟨λi n O' H'=>n=ds.length-i/\i<=ds.length/\∃δ' fp',Rel C io H' O' δ' fp' ex/\Kp H1 fp1 H' fp'/\I i δ',⟨ds.length,rfl,QJ _,δ1,fp1,R1,.refl _ _,h0⟩,?_⟩;rintro i n O2 H2 ⟨rfl,hle,δ2,fp2,R2,k2,i2⟩;have itk:=it H2 (λb o e q=>k2.keep b o e (.inr (q.resolve_left (!1)))) i
 by_cases hlt:i<ds.length
 .have hd:ds[i]? =YB ds[i]:=Xj hlt
  obtain⟨go,yl⟩:=itk.1 _ hd;refine .inr ⟨go,λO' H'=>∃δ' fp',Rel C io H' O' δ' fp' ex/\Kp H1 fp1 H' fp'/\I (i+1) δ',λO' H' ⟨δ',fp',R',k',i'⟩=>⟨ds.length-(i+1),by omega,rfl,hlt,δ',fp',R',k',i'⟩,λx H3 hy=>?_⟩;obtain⟨s3,q3⟩:=yl x H3 hy;have R3:=R2.mk0 s3;have k3:Kp H1 fp1 H3 fp2:=k2.trans ⟨λb o e _=>s3 _ _ e,λz=>(nomatch z),λa z=>.inl z,s3.al⟩;refine sg C H3 O2 δ2 fp2 ex x _ _ _ R3 (IterOk.at (H':=H2) (J:=J) (ds:=ds) k2.grow q3) (turn i _ δ2 hd i2) λO4 δ4 fp4 R4 k4 h4=>?_;have k5:=k3.trans k4;refine sb C H3 O4 δ4 fp4 ex _ _ R4 h4 ⟨λH' O' δ' fp' R' k' n'=>⟨δ',fp',R',k5.trans k',n'⟩,λH' O' δ' fp' R' k' n'=>E.nx H' O' δ' fp' R' (S1.kp.trans (k5.trans k')) n',λH' O' δ' fp' R' k' n'=>⟨δ',fp',R',k5.trans k',n'⟩,E.rt⟩
 .have e:i=ds.length:=by omega
  subst e;exact .inl ⟨itk.2 (by simp),E.nx H2 O2 δ2 fp2 R2 (S1.kp.trans k2) (fin δ2 i2)⟩
end
def gM(G:Xc)(io:List Nat)(c:Bool)(g:MGt):TG:=λv O H Q=>∃(C:MC G) (δ:Ze) (fp:Fp) (ex:YG->Prop) (d:Xa) (k:Ze->Prop),Rel C io H O δ fp ex/\Da G H (λa=>c=YD->Lf C fp ex a) v d/\g d δ k/\
 ∀O' δ' fp',Rel C io H O' δ' fp' ex->Kp H fp H fp'->k δ'->Q O' H
def tM(G:Xc)(io:List Nat)(p c:Bool)(m:MEt):TE:=λO H Q=>∃(C:MC G) (δ:Ze) (fp:Fp) (ex:YG->Prop) (K:OT->Ze->Prop),Rel C io H O δ fp ex/\m δ K/\∀H' v r δ' fp' new,RE C io p c H O δ fp ex H' v r δ' fp' new->K r δ'->Q v H'
def ttM(G:Xc)(io:List Nat)(p:Bool)(m:MTt):TT:=λO H Q=>∃(C:MC G) (δ:Ze) (fp:Fp) (ex:YG->Prop) (K:Bool->Ze->Prop),Rel C io H O δ fp ex/\m δ K/\∀H' b δ' fp',Rel C io H' O δ' fp' ex->Stp p H δ fp H' δ' fp'->K b δ'->Q b H'
def MIfs(X:Cx)(io:List Nat)(p:Bool)(ifs:List YJ)(m:MTt):Prop:=∃t,Z4v X ifs t/\STt X.K io p t m
section
variable {m:MEt}{mt:MTt}{g:MGt}
def MG.canon(h:MG X io c tg g):PG X tg (gM X.K io c g):=by
 obtain⟨t,A,s⟩:=h;rintro pins sh O H v u Q I r ⟨C,δ,fp,ex,d,k,R,q,h,kk⟩;exact A pins sh O H v u Q I r (s C H O δ fp ex v d k Q R q h kk)
def ME.canon(h:ME X io p c e m):PE X e (tM X.K io p c m):=by
 obtain⟨t,A,s⟩:=h;rintro pins sh O H Q I ⟨C,δ,fp,ex,K,R,h,kk⟩;exact A pins sh O H Q I (s C H O δ fp ex K Q R h kk)
def MIfs.canon(h:MIfs X io p ifs mt):Z4v X ifs (ttM X.K io p mt):=by
 obtain⟨t,A,s⟩:=h;rintro pins sh O H Q I ⟨C,δ,fp,ex,K,R,h,kk⟩;exact A pins sh O H Q I (s C H O δ fp ex K Q R h kk)
def Ya7:MTt:=λδ K=>K YD δ
theorem Zbf:MIfs X io YD [] Ya7:=⟨_,Z35,λC H O δ fp ex K Q R h kk=>kk H YD δ fp R (.refl _ _ _ _) h⟩
def Zj2(h:MT X io p cnd mt):MIfs X io p [cnd] mt:=by
 obtain⟨_,A,s⟩:=h;exact⟨_,Z3t A,s⟩
end
variable {G:Xc}
def blk(n:Nat)(caps:List Nat)(δ:Ze):Ze:=Qm n YC++caps.map λi=>(δ[i]?).getD YC
def Jb(n:Nat)(caps:List Nat)(fp:Fp):Fp:=λk=>if k<n then[]else match caps[k-n]? with|some i=>fp i|none=>[]
def Za6(n:Nat)(caps:List Nat):List Nat:=(XC caps.length).map (·+n)
def Z0g(C:MC G)(H1:Hp)(fp:Fp)(O0:St):MC G:=⟨H1,Foot fp,λa=>(C.L a\/C.H₀ a=YC)/\¬Foot fp a,O0⟩
def Zft(ex:YG->Prop)(D:YG)(fp fpb:Fp)(a:YG):Prop:=ex a\/a=D\/(Foot fp a/\¬Foot fpb a)
section
variable {C:MC G}{O:St}{D:YG}{n:Nat}
theorem Zcq{k:Nat}(h:a∈Jb n caps fp k):∃i,n<=k/\caps[k-n]? =YB i/\a∈fp i:=by
 unfold Jb at h;split at h
 .exact nomatch h
 .split at h
  .rename_i i e
   exact⟨i,by omega,e,h⟩
  .exact nomatch h
def Zwb(h:caps[j]? =YB i):Jb n caps fp (n+j)=fp i:=by
 unfold Jb;rw[YQ (!0),show n+j-n=j by omega,h]
def Z6c{k:Nat}{t:OT}(h:(blk n caps δ)[k]? =YB (YB t)):∃i,n<=k/\caps[k-n]? =YB i/\δ[i]? =YB (YB t):=by
 unfold blk at h;rw[List.getElem?_append]at h;split at h
 .rw[List.getElem?_replicate]at h
  split at h<;>cases h
 .rename_i hk
  rw[V4]at hk h;rw[Xi]at h;cases e:caps[k-n]? with
  | none=>rw[e]at h;cases h
  | some i=>
   rw[e]at h;refine⟨i,by omega,rfl,?_⟩;simp only[Option.map_some]at h;cases e2:δ[i]? with
   | none=>rw[e2]at h;cases h
   | some o=>
    rw[e2]at h;simpa using h
theorem Rel.block(R:Rel C io H1 O δ fp ex)(nd:caps.Nodup)(hD:H1 D=YC) :
  Rel (Z0g C H1 fp (Jy own caps O)) (Za6 own.length caps) (upd H1 D (.lst [])) (Jy own caps O) (blk own.length caps δ) (Jb own.length caps fp) (Zft ex D fp (Jb own.length caps fp)):=by
 have s:=Zw hD (.lst []);have sub:∀a,Foot (Jb own.length caps fp) a->Foot fp a:=λa q91=>by
  obtain⟨k,z⟩:=q91;obtain⟨i,_,_,z⟩:=Zcq z;exact⟨i,z⟩
 have neD:∀a,H1 a≠YC->a≠D:=λa h z=>h (z▸hD);refine⟨by unfold Jy blk;simp,λk t e=>?_,λk h=>?_,λk=>?_,λk l a h1 h2=>?_,λk a h z=>?_,λa z=>?_,λb o e _=>s _ _ e,λb e=>s.free e,λk a h=>?_,λk _=>rfl⟩
 .obtain⟨i,hk,e1,e2⟩:=Z6c e
  obtain⟨v,e3,o⟩:=R.own i t e2;refine⟨v,?_,?_⟩
  .unfold Jy
   rw[JZ (by simpa using hk),Xd,Xi,e1];simp[e3]
  .have ef:Jb own.length caps fp k=fp i:=by
    have:=Zwb (n:=own.length) (fp:=fp) e1
    rwa[show own.length+(k-own.length)=k by omega]at this
   rw[ef];refine(o.wide λa l q=>⟨λz=>l.1 (sub a z),λz=>?_,.inl ⟨l.2.2,l.1⟩⟩).same s;rcases z with z|z|z
   .exact l.2.1 z
   .exact neD a q z
   .exact l.1 z.1
 .unfold Jb
  split
  .rfl
  .split
   .rename_i i e1
    refine R.emp i λt z=>h t ?_;unfold blk;rw[JZ (by rw[V4];omega),V4,Xi,e1];simp[z]
   .rfl
 .unfold Jb
  split
  .exact .nil
  .split
   .exact R.nd _
   .exact .nil
 .obtain⟨i,hk,e1,m1⟩:=Zcq h1
  obtain⟨j,hl,e2,m2⟩:=Zcq h2;have:=R.dj i j a m1 m2;subst this;have hlt:=(Xk.mp e1).1;have:=(List.getElem?_inj hlt nd).mp (e1.trans e2.symm);omega
 .obtain⟨i,hk,e1,m⟩:=Zcq h
  rcases z with z|z|z
  .exact R.dx i a m z
  .exact R.footSome (z▸hD) ⟨i,m⟩
  .exact z.2 ⟨k,h⟩
 .rcases z with z|z|z
  .intro q;exact R.xa a z (s.free q)
  .subst z;rw[Zq];intro q;cases q
  .obtain⟨xs,e⟩:=R.foot z.1
   rw[s _ _ e];intro q;cases q
 .obtain⟨i,hk,e1,m⟩:=Zcq h
  refine .inl ⟨?_,⟨i,m⟩⟩;have:=(Xk.mp e1).1;exact XF.mpr ⟨k-own.length,by simpa using this,by omega⟩
def Yam{O0:St}(hx:∀a,ex a->ex' a)(l:Lf (Z0g C H1 fp O0) fp' ex' a):Lf C fp ex a\/H1 a=YC:=by
 obtain⟨l1,l2,l3⟩:=l;rcases l3 with l3|l3
 .exact .inl ⟨l3.2,λz=>l2 (hx a z),l3.1⟩
 .exact .inr l3
theorem Rel.poke(R:Rel C io H' O δ fp ex){xs ys:List V}(hx:ex D)(hD:H' D=YB (.lst xs))(h0:C.H₀ D=YC):Rel C io (upd H' D (.lst ys)) O δ fp ex:=by
 have nf:¬Foot fp D:=λ⟨i,z⟩=>R.dx i D z hx;have kp:∀b o,b≠D->H' b=YB o->upd H' D (.lst ys) b=YB o:=λb o n e=>by rw[Zk n];exact e
 refine⟨R.len,λi t e=>?_,R.emp,R.nd,R.dj,R.dx,λa z=>?_,λb o e n=>?_,λb e=>?_,R.new,R.io⟩
 .obtain⟨v,e1,o⟩:=R.own i t e
  refine⟨v,e1,o.frame (λa zs l q=>⟨l,?_⟩) (λa zs q=>kp a _ (λz=>?_) q) λa m zs q=>kp a _ (λz=>nf ⟨i,z▸m⟩) q⟩
  .have na:a≠D:=λz=>l.2.1 (z▸hx)
   rcases q with q|⟨u,q⟩
   .exact .inl (kp a _ na q)
   .exact .inr ⟨u,kp a _ na q⟩
  .exact ImO.nl q (z▸hD)
 .by_cases e:a=D
  .subst e;rw[Zq];intro q;cases q
  .rw[Zk e];exact R.xa a z
 .refine kp b o (λz=>?_) (R.fr b o e n)
  rw[z,h0]at e;cases e
 .refine R.al b ?_
  by_cases q:b=D
  .subst q;rw[Zq]at e;cases e
  .rwa[Zk q]at e
theorem Owns.poke{xs ys zs:List V}{rs:List OT}(o:Owns G H' L zs rs as)(hD:H' D=Va (HO.lst xs))(hL:¬L D)(hn:D∉as):Owns G (upd H' D (.lst ys)) L zs rs as:=by
 refine o.frame (λa zs l q=>⟨l,?_⟩) (λa zs q=>?_) λa m zs q=>?_
 .have na:a≠D:=λz=>hL (z▸l)
  rcases q with q|⟨u,q⟩
  .exact .inl (by rw[Zk na];exact q)
  .exact .inr ⟨u,by rw[Zk na];exact q⟩
 .rw[Zk (λz=>ImO.nl q (z▸hD))];exact q
 .have na:a≠D:=λz=>hn (by rw[<-z];exact m)
  rw[Zk na];exact q
theorem Owns.snoc{xs:List V}{rs:List OT}{bs:List YG}{x:V}{r:OT}(h:Owns G H' L xs rs as)(k:Own G H' L x r bs):Owns G H' L (xs++[x]) (rs++[r]) (as++bs) :=
 Owns.rec (motive_1:=λ_ _ _ _=>True) (motive_2:=λxs rs as _=>Owns G H' L (xs++[x]) (rs++[r]) (as++bs)) (λ_=>trivial) (λ_ _ _=>trivial) (λ_ _ _=>trivial) (λ_ _ _=>trivial) (by have:=Owns.cons k .nil;rwa[XX]at this) (λk _ _ ih=>by rw[QF];exact .cons k ih) h
end
structure Zzg(C:MC G)(H1:Hp)(fp1:Fp)(ex:YG->Prop)(n:Nat)(caps:List Nat)(O0:St)(D:YG)(pb:Bool)(H':Hp)(O':St)(δ':Ze)(fp':Fp)(ys:List V)(rs:List OT)(new:List YG):Prop where
 keep:∀b o,H1 b=YB o->(pb=YD\/¬Foot (Jb n caps fp1) b)->H' b=YB o
 al:∀b,H' b=YC->H1 b=YC
 dat:H' D=YB (.lst ys)
 rel:Rel (Z0g C H1 fp1 O0) (Za6 n caps) H' O' δ' fp' (exu (Zft ex D fp1 (Jb n caps fp1)) new)
 grow:∀a,Foot fp' a->Foot (Jb n caps fp1) a\/H1 a=YC
 own:Owns G H' (λa=>YD=YD->Lf (Z0g C H1 fp1 O0) fp' (exu (Zft ex D fp1 (Jb n caps fp1)) new) a) ys rs new
 nd:new.Nodup
 fresh:∀a∈new,H1 a=YC/\a≠D
section
variable {pt pe ci:Bool}{g:MGt}{mt:MTt}{me:MEt}
theorem Zr3{C:MC G}{O:St}{D:YG}{Qf:Hp->Prop}(I:Nat->List OT->Ze->Prop)(R1:Rel C io H1 O δ1 fp1 ex)
  (it:∀H':Hp,(∀b o,H1 b=YB o->((pt&&pe)=YD\/¬Foot (Jb own.length caps fp1) b)->H' b=YB o)->∀i:Nat,(∀d,ds[i]? =YB d->J.go i H'/\∀x H'',J.yld i H' x H''->Same H' H''/\Da G H'' (λa=>ci=YD->(Lf C fp1 ex a/\H1 a≠YC)) x d)/\(ds[i]? =YC->J.stop i H'))
  (nd:caps.Nodup) (hD:H1 D=YC) (hz:ds.length<=Xw) (h0:I 0 [] (blk own.length caps δ1))
  (turn:∀(i:Nat) (d:Xa) (rs:List OT) (δ':Ze),ds[i]? =YB d->I i rs δ'->g d δ' λδ2=>mt δ2 λb δ3=>if b=YD then me δ3 λr δ4=>I (i+1) (rs++[r]) δ4 else I (i+1) rs δ3)
  (fin:∀H' O' δ' fp' ys rs new,Zzg C H1 fp1 ex own.length caps (Jy own caps O) D (pt&&pe) H' O' δ' fp' ys rs new->I ds.length rs δ'->Qf H') :
  Z04 J (gM G (Za6 own.length caps) ci g) (ttM G (Za6 own.length caps) pt mt) (tM G (Za6 own.length caps) pe YD me) (Jy own caps O) D Qf H1:=by
 have hx:Zft ex D fp1 (Jb own.length caps fp1) D:=.inr (.inl rfl);refine⟨λi n O' H'=>n=ds.length-i/\i<=ds.length/\∃rs ys new δ' fp',Zzg C H1 fp1 ex own.length caps (Jy own caps O) D (pt&&pe) H' O' δ' fp' ys rs new/\ys.length<=i/\I i rs δ',⟨ds.length,rfl,QJ _,[],[],[],_,_,⟨λb o e _=>Zw hD _ _ _ e,(Zw hD _).al,Zq,?_,λa z=>.inl z,.nil,.nil,λa m=>(nomatch m)⟩,XD _,h0⟩,?_⟩
 .exact(R1.block nd hD).drop λa z=>Zbp.mp z
 rintro i n O2 H2 ⟨rfl,hle,rs,ys,new,δ2,fp2,B,hl,i2⟩;have subB:∀b,Foot (Jb own.length caps fp1) b->Foot fp1 b:=λb q92=>by
  obtain⟨k,z⟩:=q92;obtain⟨i,_,_,z⟩:=Zcq z;exact⟨i,z⟩
 have itk:=it H2 B.keep i
 by_cases hlt:i<ds.length
 case neg=>
  have e:i=ds.length:=by omega
  subst e;exact .inl ⟨itk.2 (by simp),fin H2 O2 δ2 fp2 ys rs new B i2⟩
 have hd:ds[i]? =YB ds[i]:=Xj hlt;obtain⟨go,yl⟩:=itk.1 _ hd;refine .inr ⟨go,λx H3 hy=>?_⟩;obtain⟨s3,q3⟩:=yl x H3 hy;have R3:=B.rel.mk0 s3;have D3:H3 D=YB (.lst ys):=s3 _ _ B.dat
 -- the item,clean in the block
 have q3':Da G H3 (λa=>ci=YD->Lf (Z0g C H1 fp1 (Jy own caps O)) fp2 (exu (Zft ex D fp1 (Jb own.length caps fp1)) new) a) x ds[i]:=by
  refine q3.wide λa l _ z=>?_;obtain⟨⟨l1,l2,l3⟩,l4⟩:=l z;refine⟨λw=>?_,λw=>?_,.inl ⟨l3,l1⟩⟩
  .rcases B.grow a w with w|w
   .exact l1 (subB a w)
   .exact l4 w
  .rcases w with(w|w|w)|w
   .exact l2 w
   .subst w;exact l4 hD
   .exact l1 w.1
   .exact l4 (B.fresh a w).1
 refine⟨_,δ2,fp2,_,_,_,R3,q3',turn i _ rs δ2 hd i2,λO4 δ4 fp4 R4 k4 h4=>?_⟩;refine⟨_,δ4,fp4,_,_,R4,h4,λH5 b δ5 fp5 R5 S5 h5=>?_⟩
 -- the state behind the test
 have keep5:∀b o,H1 b=YB o->((pt&&pe)=YD\/¬Foot (Jb own.length caps fp1) b)->H5 b=YB o:=λb o e q=>by
  refine S5.keep b o (s3 _ _ (B.keep b o e q)) ?_;rcases q with q|q
  .rw[XJ]at q;exact .inl q.1
  .refine .inr λz=>?_
   rcases k4.grow b z with z|z
   .rcases B.grow b z with z|z
    .exact q z
    .rw[e]at z;cases z
   .rw[s3 _ _ (B.keep b o e (.inr q))]at z;cases z
 have al5:∀b,H5 b=YC->H1 b=YC:=λb e=>B.al b (s3.al b (S5.al b e));have grow4:∀a,Foot fp4 a->Foot (Jb own.length caps fp1) a\/H1 a=YC:=λa z=>by
  rcases k4.grow a z with z|z
  .exact B.grow a z
  .exact .inr (B.al a (s3.al a z))
 have grow5:∀a,Foot fp5 a->Foot (Jb own.length caps fp1) a\/H1 a=YC:=λa z=>by
  rcases S5.grow a z with z|z
  .exact grow4 a z
  .exact .inr (B.al a (s3.al a z))
 have D5:H5 D=YB (.lst ys):=S5.keep D _ D3 (.inr λ⟨k,z⟩=>R4.dx k D z (.inl hx));have own3:=B.own.same s3
 -- the items so far behind the target and the test
 have own4:Owns G H3 (λa=>YD=YD->Lf (Z0g C H1 fp1 (Jy own caps O)) fp4 (exu (Zft ex D fp1 (Jb own.length caps fp1)) new) a) ys rs new:=by
  refine own3.wide λa l q z=>?_;obtain⟨l1,l2,l3⟩:=l z;exact⟨λw=>(k4.grow a w).elim l1 q,l2,l3⟩
 have own5:=R4.owns_step (ex':=exu (Zft ex D fp1 (Jb own.length caps fp1)) new) S5 (c:=YD) (.inr rfl) (λa z=>.inl z) (λa m=>.inr m) own4;dsimp only at h5|-
 cases b with
 | false=>
  rw[YQ Xx]at h5|-
  exact⟨ds.length-(i+1),by omega,rfl,hlt,rs,ys,new,δ5,fp5,⟨keep5,al5,D5,R5,grow5,own5,B.nd,B.fresh⟩,by omega,h5⟩
 | true=>
  rw[YM rfl]at h5|-
  refine⟨_,δ5,fp5,_,_,R5,h5,λH6 v r δ6 fp6 nr r6 h6=>?_⟩;have D6:H6 D=YB (.lst ys):=r6.stp.keep D _ D5 (.inr λ⟨k,z⟩=>R5.dx k D z (.inl hx));have hDnr:D∉nr:=λz=>by
   have:=r6.fresh D z;rw[D5]at this;cases this
  have own6:=R5.owns_step (ex':=exu (exu (Zft ex D fp1 (Jb own.length caps fp1)) new) nr) r6.stp (c:=YD) (.inr rfl) (λa z=>z.imp id λz=>r6.fresh a z) (λa m=>.inr m) own5;have eqx:∀a,exu (Zft ex D fp1 (Jb own.length caps fp1)) (new++nr) a->exu (exu (Zft ex D fp1 (Jb own.length caps fp1)) new) nr a:=λa z=>by
   rcases z with z|z
   .exact .inl (.inl z)
   .rcases Qp.mp z with z|z
    .exact .inl (.inr z)
    .exact .inr z
  have lw:∀a,(YD=YD->Lf (Z0g C H1 fp1 (Jy own caps O)) fp6 (exu (exu (Zft ex D fp1 (Jb own.length caps fp1)) new) nr) a)->H6 a≠YC->(YD=YD->Lf (Z0g C H1 fp1 (Jy own caps O)) fp6 (exu (Zft ex D fp1 (Jb own.length caps fp1)) (new++nr)) a) :=
   λa l _ z=>⟨(l z).1,λw=>(l z).2.1 (eqx a w),(l z).2.2⟩
  have ownA:=(own6.snoc r6.own).wide lw;refine⟨ys,D6,by omega,ds.length-(i+1),by omega,rfl,hlt,rs++[r],ys++[v],new++nr,δ6,fp6,⟨λb o e q=>?_,λb e=>?_,Zq,?_,λa z=>?_,?_,?_,λa m=>?_⟩,by rw[Xv];show ys.length+1<=i+1;omega,h6⟩
  .have nD:b≠D:=λz=>by rw[z,hD]at e;cases e
   rw[Zk nD];refine r6.stp.keep b o (keep5 b o e q) ?_;rcases q with q|q
   .rw[XJ]at q;exact .inl q.2
   .refine .inr λz=>?_
    rcases grow5 b z with z|z
    .exact q z
    .rw[e]at z;cases z
  .by_cases q:b=D
   .subst q;rw[Zq]at e;cases e
   .rw[Zk q]at e
    exact al5 b (r6.stp.al b e)
  .exact(r6.rel.drop eqx).poke (.inl hx) D6 hD
  .rcases r6.stp.grow a z with z|z
   .exact grow5 a z
   .exact .inr (al5 a z)
  .exact ownA.poke D6 (λz=>(z rfl).2.1 (.inl hx)) (λm=>by
    rcases Qp.mp m with m|m
    .exact(B.fresh D m).2 rfl
    .exact hDnr m)
  .refine Vw.mpr ⟨B.nd,r6.nd,λa m b m' z=>?_⟩
   subst z;obtain⟨xs,e⟩:=own5.some a m;rw[r6.fresh a m']at e;cases e
  .rcases Qp.mp m with m|m
   .exact B.fresh a m
   .exact⟨al5 a (r6.fresh a m),λz=>hDnr (z▸m)⟩
end
variable {G:Xc}
section
variable {pt pe ci:Bool}{g:MGt}{mt:MTt}{me m:MEt}
def Z9i(m:MEt):MEt:=λδ K=>m δ λr δ'=>Jf r.data=YD/\K (.fz r.data) δ'
def Z5x(h:ME X io p c e m):ME X io p YD e (Z9i m):=by
 obtain⟨_,A,s⟩:=h;exact⟨_,A,λC H O δ fp ex K Q R h k=>s C H O δ fp ex _ _ R h λH' v r δ' fp' new r1 h1=>k H' v _ δ' fp' [] (r1.fzs R h1.1) h1.2⟩
def Z96(n:Nat)(caps:List Nat)(ds:List Xa)(g:MGt)(mt:MTt)(me:MEt)(δ1:Ze)(K:OT->Ze->Prop):Prop:=ds.length<=Xw/\∃I:Nat->List OT->Ze->Prop,I 0 [] (blk n caps δ1)/\
 (∀ (i:Nat) (d:Xa) (rs:List OT) (δ':Ze),ds[i]? =YB d->I i rs δ'->g d δ' λδ2=>mt δ2 λb δ3=>if b=YD then me δ3 λr δ4=>I (i+1) (rs++[r]) δ4 else I (i+1) rs δ3)/\
 ∀rs δ',I ds.length rs δ'->K (.nd rs) δ1
def Zhn(n:Nat)(caps:List Nat)(mi:MIt)(g:MGt)(mt:MTt)(me:MEt):MEt:=λδ K=>mi δ λds δ1=>Z96 n caps ds g mt me δ1 K
def Z30{wi:TI}(si:SI G io p ci wi mi)(nd:caps.Nodup)(hp:(pt&&pe)=YD) :
  SE G io p YD (Z3m own caps wi (gM G (Za6 own.length caps) ci g) (ttM G (Za6 own.length caps) pt mt) (tM G (Za6 own.length caps) pe YD me)) (Zhn own.length caps mi g mt me):=by
 intro C H O δ fp ex K Q R h k;refine si C H O δ fp ex _ _ R h λJ H1 ds δ1 fp1 R1 S1 it h1 D hD=>?_;obtain⟨hz,I,h0,turn,fin⟩:=h1;refine Zr3 I R1 (λH' kp=>it H' λb o e _=>kp b o e (.inl hp)) nd hD hz h0 turn λH' O' δ' fp' ys rs new B i'=>?_;have s:Same H1 H':=λb o e=>B.keep b o e (.inl hp);refine k H' (.ref D) (.nd rs) δ1 fp1 (D::new) (RE.tree R R1 S1 s (λa m=>?_) (Qt.mpr ⟨λm=>(B.fresh D m).2 rfl,B.nd⟩) (.nd B.dat (B.own.wide λa l _=>?_))) (fin rs δ' i')
 .rcases Xn.mp m with rfl|m
  .exact hD
  .exact(B.fresh a m).1
 .refine⟨?_,λm=>?_⟩
  .rcases Yam (λa z=>.inl (.inl z)) (l rfl)with z|z
   .exact .inl λ_=>z
   .exact .inr z
  .rcases Xn.mp m with z|z
   .exact(l rfl).2.1 (.inl (.inr (.inl z)))
   .exact(l rfl).2.1 (.inr z)
variable {sc:YL}
def Z8z(S:CompScope X own caps N' sc)(hc:X.calm=YD)(nd:caps.Nodup)(hi:MI X io p ci tg iter mi)
  (hg:∀C cells s₂ H₂ fp,MG (Y6 X N' sc C cells s₂ H₂ fp) (Za6 own.length caps) ci tg g) (ht:∀C cells s₂ H₂ fp,MIfs (Y6 X N' sc C cells s₂ H₂ fp) (Za6 own.length caps) pt ifs mt) (he:∀C cells s₂ H₂ fp,ME (Y6 X N' sc C cells s₂ H₂ fp) (Za6 own.length caps) pe YD elt me)
  (hp:(pt&&pe)=YD:=by rfl) (hs:∀x,JX iter X.env x=pure x:=by intro _;rfl):ME X io p YD (.ListComp elt [⟨tg,iter,ifs,0⟩] sc pos) (Zhn own.length caps mi g mt me):=by
 obtain⟨_,A,si⟩:=hi;exact⟨_,Z18 S hc A (λC cells s₂ H₂ fp=>(hg C cells s₂ H₂ fp).canon) (λC cells s₂ H₂ fp=>(ht C cells s₂ H₂ fp).canon) (λC cells s₂ H₂ fp=>(he C cells s₂ H₂ fp).canon) hs,Z30 si nd hp⟩
section
variable {y:Str}{spos:Pos}
def Za2(own':Bool)(hN:X.N.Nodup)(hy:X.N[i]? =YB y)(hx:Loc X.env.scope y)(S:CompScope X own caps N' sc)(hc:X.calm=YD)(nd:caps.Nodup)(hi:MI X io p ci tg iter mi)
  (hg:∀C cells s₂ H₂ fp,MG (Y6 X N' sc C cells s₂ H₂ fp) (Za6 own.length caps) ci tg g) (ht:∀C cells s₂ H₂ fp,MIfs (Y6 X N' sc C cells s₂ H₂ fp) (Za6 own.length caps) pt ifs mt) (he:∀C cells s₂ H₂ fp,ME (Y6 X N' sc C cells s₂ H₂ fp) (Za6 own.length caps) pe YD elt me)
  (hp:(pt&&pe)=YD:=by rfl) (hio:i∉io:=by decide)
  (hsw:Vi (.ListComp elt [⟨tg,iter,ifs,0⟩] sc pos) (YB (.Name y py)) spos.line X.env=pure YD:=by rfl)
  (hs:∀x,JX iter X.env x=pure x:=by intro _;rfl) (hf:X.fn y=YD\/X.env.scope.names.lookup y=YB .local:=by first|exact .inl rfl|exact .inr rfl|assumption) :
  MS X io (.Assign [.Name y py] (.ListComp elt [⟨tg,iter,ifs,0⟩] sc pos) spos) (if own'=YD then Zqs i (Zhn own.length caps mi g mt me)else Z5h i (Zhn own.length caps mi g mt me)):=by
 obtain⟨_,A,si⟩:=hi;refine⟨_,Zp2 (g:=gM X.K (Za6 own.length caps) ci g) (tt:=ttM X.K (Za6 own.length caps) pt mt) (te:=tM X.K (Za6 own.length caps) pe YD me) hN hy hx S hc A (λC cells s₂ H₂ fp=>(hg C cells s₂ H₂ fp).canon) (λC cells s₂ H₂ fp=>(ht C cells s₂ H₂ fp).canon) (λC cells s₂ H₂ fp=>(he C cells s₂ H₂ fp).canon) hsw hs hf,?_⟩;cases own'
 .exact Yhp (Z30 si nd hp) hio
 .exact Z8q (Z30 si nd hp) hio
end
end
variable {G:Xc}
section
variable {O:St}{xs:List V}
def Yba(K:Xc):R2:=λx y H Q=>∃l b xs zs,x= .ref l/\y= .ref b/\SqL K H l xs/\SqL K H b zs/\xs.length+zs.length<=Xw/\∀p,H p=YC->Q (.ref p) (upd H p (.lst (xs++zs)))
def Inv.lstQ(hK:X.K=K)(I:Inv X pins O H s)(hH:SqL K H l xs):∃(its:List Xe) (n:Nat),Vals xs its/\xs.length=its.length/\∃o,s.heap.get? l=YB o/\o.cls= .type "list"/\o.dict=YC/\o.data= .seq its.toArray n:=by
 subst hK;obtain⟨its,r,⟨o,n,e,h1,h2,h3⟩,_⟩:=I.list hH;exact⟨its,n,r,r.length,o,e,h1,h2,h3⟩
def J8(hK:X.K=K):OpR X (V0 .Add) (Yba K):=by
 intro pins s O H x y v u Q I rx ry h;obtain⟨l,b,xs,zs,rfl,rfl,hH,hB,hz,q⟩:=h;cases rx;cases ry;obtain⟨its,n,r,hl,⟨cls,dd,data,sl⟩,ho,hc,_,hd⟩:=I.lstQ hK hH;obtain⟨its2,n2,r2,hl2,⟨cls2,dd2,data2,sl2⟩,ho2,hc2,_,hd2⟩:=I.lstQ hK hB;simp only at hc hd hc2 hd2;subst hc hd hc2 hd2;have ea:its.toArray++its2.toArray=(its++its2).toArray:=by simp
 refine concat_meets ⟨_,ho,rfl⟩ ⟨_,ho2,rfl⟩ noFill_list_add seq_list_add PySem.F.slot_list_add PySem.F.entry_list_add (PySem.F.args_list_add_2 _ _) (list_addW l b its.toArray its2.toArray n n2 dd dd2 sl sl2 (by simp only[XM];omega)) ⟨ho,ho2,?_⟩;rw[ea];exact⟨.ref _,_,I.lnew (t':=s.toks) (r.append r2) (by rw[Xv];omega),rfl,q _ I.fresh⟩
end
def asI(d:Xa)(k:Int->Prop):Prop:=match d with| .int i=>k i|_=>False
def asL(d:Xa)(k:List Xa->Prop):Prop:=match d with| .list ds=>k ds|_=>False
section
variable {v:V}{d:Xa}
def Da.intInv{k:Int->Prop}(q:Da G H L v d)(h:asI d k):∃i,v= .int i/\k i:=by
 cases q with
 | int b=>exact⟨b,rfl,h⟩
 | _=>exact h.elim
def Da.lstInv{k:List Xa->Prop}(q:Da G H L v d)(h:asL d k):∃a xs ds,v= .ref a/\SqL G H a xs/\Das G H L xs ds/\k ds:=by
 cases q with
 | lst l e r=>exact⟨_,_,_,rfl,.inl e,r,h⟩
 | scr s=>exact⟨_,_,_,rfl,s.sq,.ints _,h⟩
 | _=>exact h.elim
end
def d2I(C:Int->Int->Prop)(g:Int->Int->Xa):Xa->Xa->(Xa->Prop)->Prop:=λd e k=>asI d λi=>asI e λj=>C i j/\k (g i j)
def Zzi(g:Int->Int->Xa):Xa->Xa->(Xa->Prop)->Prop:=λd e k=>asI d λi=>asI e λj=>k (g i j)
def Z7n{C:Int->Int->Prop}{f:Int->Int->Int}:P2s G (rI C λi j=>.int (f i j)) (d2I C λi j=>.int (f i j)):=λH L x y d e k Q hx hy h kk=>by
 obtain⟨i,rfl,h⟩:=hx.intInv h;obtain⟨j,rfl,h⟩:=hy.intInv h;exact⟨i,j,rfl,rfl,h.1,kk _ _ (.int _) h.2⟩
structure MulOk(i j:Int):Prop where
 ok:IntMulOk i j
structure Ygr(i j:Int):Prop where
 ok:DivOk i j
structure Yid(i j:Int):Prop where
 ok:Ybk i j
def Z5r{f:Int->Int->Int}:P2s G (rI IntMulOk λi j=>.int (f i j)) (d2I MulOk λi j=>.int (f i j)):=λH L x y d e k Q hx hy h kk=>by
 obtain⟨i,rfl,h⟩:=hx.intInv h;obtain⟨j,rfl,h⟩:=hy.intInv h;exact⟨i,j,rfl,rfl,h.1.ok,kk _ _ (.int _) h.2⟩
def Z62{f:Int->Int->Int}:P2s G (rI DivOk λi j=>.int (f i j)) (d2I Ygr λi j=>.int (f i j)):=λH L x y d e k Q hx hy h kk=>by
 obtain⟨i,rfl,h⟩:=hx.intInv h;obtain⟨j,rfl,h⟩:=hy.intInv h;exact⟨i,j,rfl,rfl,h.1.ok,kk _ _ (.int _) h.2⟩
def Z9j{f:Int->Int->Int}:P2s G (rI Ybk λi j=>.int (f i j)) (d2I Yid λi j=>.int (f i j)):=λH L x y d e k Q hx hy h kk=>by
 obtain⟨i,rfl,h⟩:=hx.intInv h;obtain⟨j,rfl,h⟩:=hy.intInv h;exact⟨i,j,rfl,rfl,h.1.ok,kk _ _ (.int _) h.2⟩
def Zvh{f:Int->Int->Int}:P2s G (rI0 λi j=>.int (f i j)) (Zzi λi j=>.int (f i j)):=λH L x y d e k Q hx hy h kk=>by
 obtain⟨i,rfl,h⟩:=hx.intInv h;obtain⟨j,rfl,h⟩:=hy.intInv h;exact⟨i,j,rfl,rfl,kk _ _ (.int _) h⟩
def Zlw{f:Int->Int->Bool}:P2s G (rI0 λi j=>.bl (f i j)) (Zzi λi j=>.bool (f i j)):=λH L x y d e k Q hx hy h kk=>by
 obtain⟨i,rfl,h⟩:=hx.intInv h;obtain⟨j,rfl,h⟩:=hy.intInv h;exact⟨i,j,rfl,rfl,kk _ _ (.bl _) h⟩
def Yir(K:Xc):R2:=λx y H Q=>∃(L L':YG->Prop) (d e:Xa),Da K H L x d/\Da K H L' y e/\Shp d/\Shp e/\Q (.bl (JF d e)) H
def Ygc(K:Xc):R2:=λx y H Q=>∃(L L':YG->Prop) (d e:Xa),Da K H L x d/\Da K H L' y e/\Shp d/\Shp e/\Q (.bl (!JF d e)) H
def Zpc(hu:X.A.units+64<VB):OpR X (QL .Eq) (Yir X.K):=by
 intro pins s O H x y v u Q I rx ry h;obtain⟨L,L',d,e,h1,h2,s1,s2,q⟩:=h;obtain⟨as,k1⟩:=h1.reads rfl I rx (U0 s1);obtain⟨bs,k2⟩:=h2.reads rfl I ry (U0 s2);exact eq_dataH k1 k2 s1 s2 hu ⟨.bl _,H,I,rfl,q⟩
def Yal(hu:X.A.units+64<VB):OpR X (QL .NotEq) (Ygc X.K):=by
 intro pins s O H x y v u Q I rx ry h;obtain⟨L,L',d,e,h1,h2,s1,s2,q⟩:=h;obtain⟨as,k1⟩:=h1.reads rfl I rx (U0 s1);obtain⟨bs,k2⟩:=h2.reads rfl I ry (U0 s2);exact ne_dataH k1 k2 s1 s2 hu ⟨.bl _,H,I,rfl,q⟩
structure Yay(d:Xa):Prop where
 ok:Shp d
def dEq:Xa->Xa->(Xa->Prop)->Prop:=λd e k=>Yay d/\Yay e/\k (.bool (JF d e))
def dNe:Xa->Xa->(Xa->Prop)->Prop:=λd e k=>Yay d/\Yay e/\k (.bool (!JF d e))
def Zx4:P2s G (Yir G) dEq:=λH L x y d e k Q hx hy h kk=>⟨L,L,d,e,hx,hy,h.1.ok,h.2.1.ok,kk _ _ (.bl _) h.2.2⟩
def Yfj:P2s G (Ygc G) dNe:=λH L x y d e k Q hx hy h kk=>⟨L,L,d,e,hx,hy,h.1.ok,h.2.1.ok,kk _ _ (.bl _) h.2.2⟩
def Ze8:Xa->Bool
 | .none=>YD
 | _=>YF
def Da.isNone{v:V}{d:Xa}(h:Da G H L v d):decide (v= .non)=Ze8 d:=by
 cases h<;>rfl
def Z9a:Xa->Xa->(Xa->Prop)->Prop:=λd e k=>e= .none/\k (.bool (!Ze8 d))
def Zm3:P2s G (λx y H Q=>y= .non/\Q (.bl (!decide (x= .non))) H) Z9a:=λH L x y d e k Q hx hy h kk=>by
 obtain⟨rfl,h⟩:=h;cases hy;exact⟨rfl,by rw[hx.isNone];exact kk _ _ (.bl _) h⟩
def scD:Xa->Bool
 | .none=>YD
 | .bool _=>YD
 | .int _=>YD
 | .str _=>YD
 | _=>YF
def eqS:Xa->Xa->Bool
 | .none,.none=>YD
 | .bool a,.bool b=>a==b
 | .bool a,.int b=>(if a then 1 else 0)==b
 | .int a,.bool b=>a==(if b then 1 else 0)
 | .int a,.int b=>a==b
 | .str a,.str b=>a==b
 | _,_=>YF
def memS(d:Xa)(ds:List Xa):Bool:=ds.any λe=>eqS e d
def Da.toSc{v:V}{d:Xa}(h:Da G H L v d)(s:scD d=YD):ScD v d:=by
 cases h with
 | non=>exact .non
 | bl b=>exact .bl b
 | int i=>exact .int i
 | str x=>exact .str x
 | _=>cases s
theorem Da.sc{v:V}{d:Xa}(h:Da G H L v d)(s:scD d=YD):Zgs v=YD:=by
 cases h.toSc s<;>rfl
theorem Das.sc{vs:List V}(h:Das G H L vs ds):ds.all scD=YD->vs.all Zgs=YD :=
 Das.ind (Q:=λvs ds=>ds.all scD=YD->vs.all Zgs=YD) (λ_=>rfl) (λh _ r s=>by
  rw[List.all_cons,XJ]at s;rw[List.all_cons,h.sc s.1,r s.2];rfl) h
def Da.eqS{v u:V}{d e:Xa}(h:Da G H L v d)(g:Da G H L u e)(s:scD d=YD)(t:scD e=YD):eqV v u=L2.eqS d e:=by
 cases h.toSc s<;>cases g.toSc t<;>rfl
def Das.memS{v:V}{d:Xa}(h:Da G H L v d)(s:scD d=YD){vs:List V}(g:Das G H L vs ds):ds.all scD=YD->inV v vs=L2.memS d ds :=
 Das.ind (Q:=λvs ds=>ds.all scD=YD->inV v vs=L2.memS d ds) (λ_=>rfl) (λg _ r t=>by
  rw[List.all_cons,XJ]at t;have:=r t.2;unfold inV L2.memS at*
  rw[Uu,Uu,this,g.eqS h t.1 s]) g
def dIn(neg:Bool):Xa->Xa->(Xa->Prop)->Prop:=λd e k=>scD d=YD/\match e with
 | .list ds=>ds.all scD=YD/\k (.bool (if neg then !memS d ds else memS d ds))
 | .tuple ds=>ds.all scD=YD/\k (.bool (if neg then !memS d ds else memS d ds))
 | _=>False
theorem Zmz{neg:Bool}:P2s G (rIn G neg) (dIn neg):=λH L x y d e k Q hx hy h kk=>by
 obtain⟨s,h⟩:=h;cases hy with
 | lst l e r=>exact⟨_,_,rfl,.inl (.inl e),hx.sc s,r.sc h.1,by rw[Das.memS hx s r h.1];exact kk _ _ (.bl _) h.2⟩
 | tup e r=>exact⟨_,_,rfl,.inr (.inl (.inl e)),hx.sc s,r.sc h.1,by rw[Das.memS hx s r h.1];exact kk _ _ (.bl _) h.2⟩
 | scr ks=>exact⟨_,_,rfl,.inl ks.sq,hx.sc s,(Das.ints (G:=G) (H:=H) (L:=L) _).sc h.1,by rw[Das.memS hx s (Das.ints (G:=G) (H:=H) (L:=L) _) h.1];exact kk _ _ (.bl _) h.2⟩
 | _=>exact h.elim
def ixD(d e:Xa):Option Xa:=match d,e with
 | .list ds,.int i=>atI ds i
 | .tuple ds,.int i=>atI ds i
 | _,_=>YC
def dIx:Xa->Xa->(OT->Prop)->Prop:=λd e k=>match ixD d e with|some x=>k (.fz x)|none=>False
def Das.atI{xs:List V}{i:Int}{d:Xa}(h:Das G H L xs ds)(e:L2.atI ds i=YB d):∃x,L2.atI xs i=YB x/\Da G H L x d:=by
 unfold L2.atI at*
 rw[h.length];cases q:ixN ds.length i with
 | none=>rw[q]at e;cases e
 | some j=>
  rw[q]at e;exact h.get e
def Ydg:P2 G (rIx G) dIx:=λH L x y d e k Q hx hy h kk=>by
 unfold dIx at h;split at h
 case h_2=>exact h.elim
 rename_i z ez;have fin:∀v,Da G H L v z->Q v H:=λv q=>kk H v (.fz z) [] (Same.refl _) (.fz (q.wide λa l _=>⟨.inl l,λm=>nomatch m⟩)) .nil (λa m=>nomatch m) h;cases hx with
 | lst l e1 r=>
  cases hy with
  | int i=>
   obtain⟨v,e2,q⟩:=r.atI (show L2.atI _ i=YB z from ez);exact .inl ⟨_,_,i,v,rfl,rfl,.inl e1,e2,fin v q⟩
  | _=>cases ez
 | tup e1 r=>
  cases hy with
  | int i=>
   obtain⟨v,e2,q⟩:=r.atI (show L2.atI _ i=YB z from ez);exact .inr (.inl ⟨_,_,i,v,rfl,rfl,.inl (.inl e1),e2,fin v q⟩)
  | _=>cases ez
 | scr ks=>
  cases hy with
  | int i=>
   obtain⟨v,e2,q⟩:=(Das.ints (G:=G) (H:=H) (L:=L) _).atI (show L2.atI _ i=YB z from ez);exact .inl ⟨_,_,i,v,rfl,rfl,ks.sq,e2,fin v q⟩
  | _=>cases ez
 | _=>cases ez
theorem Own.list{H:Hp}{L:YG->Prop}{p:YG}{xs:List V}{ds:List Xa}(hp:H p=YC)(h:Das G H L xs ds):Own G (upd H p (.lst xs)) (λa=>(L a\/H a=YC)/\a∉[p]) (.ref p) (.nd (ds.map OT.fz)) [p] :=
 .nd Zq (((h.wide λa l q=>⟨.inl l,λm=>q (by rw[Xp.mp m];exact hp)⟩).same (Zw hp _)).owns)
def Zaw{p:YG}(hp:H p=YC):∀a∈[p],H a=YC:=λa m=>by rw[Xp.mp m];exact hp
def Zcd(p:YG):[p].Nodup:=Qt.mpr ⟨λm=>(nomatch m),.nil⟩
def dCat:Xa->Xa->(OT->Prop)->Prop:=λd e k=>asL d λds=>asL e λes=>ds.length+es.length<=Xw/\k (.nd ((ds++es).map OT.fz))
def Zco:P2 G (Yba G) dCat:=λH L x y d e k Q hx hy h kk=>by
 obtain⟨a,xs,ds,rfl,e1,r1,h⟩:=hx.lstInv h;obtain⟨b,ys,es,rfl,e2,r2,h⟩:=hy.lstInv h;exact⟨a,b,xs,ys,rfl,rfl,e1,e2,by rw[r1.length,r2.length];exact h.1,λp hp=>kk _ _ _ [p] (Zw hp _) (Own.list hp (r1.append r2)) (Zcd p) (Zaw hp) h.2⟩
def n1(k:Xa->Prop)(ds:List Xa):Prop:=match ds with|[d]=>k d|_=>False
def n2(k:Xa->Xa->Prop)(ds:List Xa):Prop:=match ds with|[d,e]=>k d e|_=>False
def Das.one{vs:List V}{k:Xa->Prop}(q:Das G H L vs ds)(h:n1 k ds):∃v d,vs=[v]/\ds=[d]/\Da G H L v d/\k d:=by
 cases q with
 | nil=>exact h.elim
 | cons q r=>
  cases r with
  | nil=>exact⟨_,_,rfl,rfl,q,h⟩
  | cons _ _=>exact h.elim
theorem Das.two{vs:List V}{k:Xa->Xa->Prop}(q:Das G H L vs ds)(h:n2 k ds):∃v u d e,vs=[v,u]/\ds=[d,e]/\Da G H L v d/\Da G H L u e/\k d e:=by
 cases q with
 | nil=>exact h.elim
 | cons q r=>
  cases r with
  | nil=>exact h.elim
  | cons q' r'=>
   cases r' with
   | nil=>exact⟨_,_,_,_,rfl,rfl,q,q',h⟩
   | cons _ _=>exact h.elim
def Zyb:Xa->Option Nat
 | .list ds=>YB ds.length
 | .tuple ds=>YB ds.length
 | _=>YC
def Yg7:List Xa->(Xa->Prop)->Prop:=λds k=>n1 (λd=>match Zyb d with|some n=>k (.int n)|none=>False) ds
def Zn8:PNs G (Yhb G) Yg7:=λH L xs ds k Q hx h kk=>by
 obtain⟨v,d,rfl,rfl,q,h⟩:=hx.one h;cases q with
 | lst l e r=>exact⟨_,_,rfl,.inl (.inl e),by rw[r.length];exact kk _ _ (.int _) h⟩
 | tup e r=>exact⟨_,_,rfl,.inr (.inl (.inl e)),by rw[r.length];exact kk _ _ (.int _) h⟩
 | scr ks=>exact⟨_,_,rfl,.inl ks.sq,by rw[(Das.ints (G:=G) (H:=H) (L:=L) _).length];exact kk _ _ (.int _) h⟩
 | _=>exact h.elim
def Yis:List Xa->(Xa->Prop)->Prop:=λds k=>n2 (λd e=>asI d λi=>asI e λj=>k (.int (if j>i then j else i))) ds
def Zu5:PNs G (λxs H Q=>∃i j,xs=[.int i,.int j]/\Q (.int (if j>i then j else i)) H) Yis:=λH L xs ds k Q hx h kk=>by
 obtain⟨v,u,d,e,rfl,rfl,q,q',h⟩:=hx.two h;obtain⟨i,rfl,h⟩:=q.intInv h;obtain⟨j,rfl,h⟩:=q'.intInv h;exact⟨i,j,rfl,kk _ _ (.int _) h⟩
def Yf8:List Xa->(Xa->Prop)->Prop:=λds k=>n2 (λd e=>asI d λi=>asI e λj=>k (.int (if j<i then j else i))) ds
def Zra:PNs G (λxs H Q=>∃i j,xs=[.int i,.int j]/\Q (.int (if j<i then j else i)) H) Yf8:=λH L xs ds k Q hx h kk=>by
 obtain⟨v,u,d,e,rfl,rfl,q,q',h⟩:=hx.two h;obtain⟨i,rfl,h⟩:=q.intInv h;obtain⟨j,rfl,h⟩:=q'.intInv h;exact⟨i,j,rfl,kk _ _ (.int _) h⟩
def Zie:Xa->Option (List Xa)
 | .list ds=>YB ds
 | .tuple ds=>YB ds
 | _=>YC
def Z9v:List Xa->(OT->Prop)->Prop:=λds k=>n1 (λd=>match Zie d with|some es=>k (.nd (es.map OT.fz))|none=>False) ds
def Z2f:PN G (Zul G) Z9v:=λH L xs ds k Q hx h kk=>by
 obtain⟨v,d,rfl,rfl,q,h⟩:=hx.one h;cases q with
 | lst l e r=>exact⟨_,_,rfl,.inl (.inl e),λp hp=>kk _ _ _ [p] (Zw hp _) (Own.list hp r) (Zcd p) (Zaw hp) h⟩
 | tup e r=>exact⟨_,_,rfl,.inr (.inl (.inl e)),λp hp=>kk _ _ _ [p] (Zw hp _) (Own.list hp r) (Zcd p) (Zaw hp) h⟩
 | scr ks=>exact⟨_,_,rfl,.inl ks.sq,λp hp=>kk _ _ _ [p] (Zw hp _) (Own.list hp (Das.ints _)) (Zcd p) (Zaw hp) h⟩
 | _=>exact h.elim
section
variable {a:YJ}
def Ygg(m:MEt):MEt:=λδ K=>m δ λr δ'=>asI r.data λi=>K (.fz (.int (-i))) δ'
def Zww(ha:ME X io p c a ma):ME X io p YD (.UnaryOp .USub a pos) (Ygg ma):=by
 obtain⟨_,A,s⟩:=ha;exact⟨_,Yfa Z5l A,λC H O δ fp ex K Q R h k=>s C H O δ fp ex _ _ R h λH' v r δ' fp' new r1 h1=>by
  obtain⟨i,rfl,h1⟩:=(r1.da R).intInv h1;exact⟨i,rfl,k H' _ _ δ' fp' [] (.fz r1.base r1.stp (.int _)) h1⟩⟩
def Zvm(T:String):Xa->Bool
 | .none=>YF
 | .bool _=>T=="bool"||T=="int"
 | .int _=>T=="int"
 | .str _=>T=="str"
 | .list _=>T=="list"
 | .tuple _=>T=="tuple"
 | .dict _=>YF
def Yhr(T:String)(m:MEt):MEt:=λδ K=>m δ λr δ'=>Zkx r.data=YF/\K (.fz (.bool (Zvm T r.data))) δ'
end
section
variable {g:Array GenState}{d:Drawn}{t:Nat}{os:OsState}
def Z33(M:Model)(hx:h.get? a=YB o)(hc:o.cls= .ref C):JK M h (typeOf (.ref a)) (.ref C):=hc▸(JK.ld hx).andThen .now
def Zx9(X:K.In h)(Z:Zbl K C)(hx:h.get? a=YB o)(hc:o.cls= .ref C)(hq:R (.ok (.ret (.ref C))) ⟨h,g,d,t,os⟩) :
  codeAny (X4 prog w) A (.call (.builtin "getset_descriptor.__get__") ⟨[.builtin "object.__class__",.ref a,.ref C],[]⟩) R ⟨h,g,d,t,os⟩:=by
 have L1:JK (X4 prog w) h (isSubtype (.ref C) (.type (".".intercalate ("object.__class__".cutAt '.').dropLast))) YD:=by
  rw[F.owner_object_class];exact PySem.W.looks_subIn X Z.isO
 have T5:(⟨h,g,d,t,os⟩:Xf).TypeIs (.builtin "object.__class__") "getset_descriptor" :=F.typeOf_object_class;refine codeAny_call_builtin F.slot_gs_get.plain F.entry_gs_get (F.slot_gs_get.check _ _ _ _ _ _ _ _ T5 (F.args_gs_get _ _ _) ?_)
 repeat (any_goals (first|assumption|(with_reducible refine VJ hx ?_;rw[hc])|(with_reducible refine Xb (JK.at L1 ?_))|(with_reducible refine JK.at L1 ?_)|wp_step))
 refine⟨Code.quiet_builtin _ (by decide +kernel),Vk F.entry_object_class ?_⟩
 repeat (any_goals (first|assumption|(with_reducible refine VJ hx ?_;rw[hc])|wp_step))
def Zpi{tk:Tok}{Q:Fin->Xf->Prop}(X:K.In h)(Z:Zbl K C)(hx:h.get? a=YB o)(hc:o.cls= .ref C)(hq:Q (.done (.ret (.ref C))) ⟨h,g,d,t,os⟩) :
  Xz (X4 prog w) A (BJ.«object.__getattribute__» ⟨[.ref a,.str "__class__" tk],[]⟩) Q E ⟨h,g,d,t,os⟩:=by
 have T5:(⟨h,g,d,t,os⟩:Xf).TypeIs (.builtin "object.__class__") "getset_descriptor" :=F.typeOf_object_class;have g5:=F.typeOf_object_class;have g6:=F.slot_gs_get.lookup;have g7:=F.slot_gs_set.lookup;have L4:=PySem.W.looks_findIn (M:=X4 prog w) X Z.cl
 repeat (any_goals (first|assumption|(with_reducible refine VJ hx ?_;rw[hc])|(with_reducible refine Xb (JK.at L4 ?_))|(with_reducible refine JK.at L4 ?_)|wp_step))
 refine Zx9 X Z hx hc ?_
 repeat (any_goals (first|assumption|wp_step))
def Zq2{nameV:Xe}{Q:Unit->Xf->Prop}(X:K.In h)(Z:Zbl K C)(hx:h.get? a=YB o)(hc:o.cls= .ref C)(hq:Q () ⟨h,g,d,t,os⟩) :
  Xz M A (checkBuiltinCall "BaseException.__getattribute__" ⟨[.ref a,nameV],[]⟩) Q E ⟨h,g,d,t,os⟩:=by
 have e1:builtinKind "BaseException.__getattribute__"=YB .slot:=by decide +kernel
 have e2:splitId "BaseException.__getattribute__"=YB ("BaseException","__getattribute__"):=by decide +kernel
 have L1:=PySem.W.looks_subIn (M:=M) X Z.isB;have e3:=F.args_bexc_ga (.ref a) nameV;simp only[checkBuiltinCall,e1,e2];refine Xb ?_;unfold isInstance
 repeat (first|(with_reducible refine VJ hx ?_;rw[hc])|(with_reducible refine Xb (JK.at L1 ?_))|(with_reducible refine JK.at L1 ?_)|wp_step)
 exact hq
def Zt1{tk:Tok}(X:K.In h)(Z:Zbl K C)(hx:h.get? a=YB o)(hc:o.cls= .ref C)(hq:R (.ok (.ret (.ref C))) ⟨h,g,d,t,os⟩) :
  codeAny (X4 prog w) A (.call (.builtin "BaseException.__getattribute__") ⟨[.ref a,.str "__class__" tk],[]⟩) R ⟨h,g,d,t,os⟩ :=
 codeAny_call_builtin F.excAttr_ValueError.ga.plain F.entry_bexc_ga (Zq2 X Z hx hc (Zpi X Z hx hc hq))
def Z2z{tk:Tok}{fill expr:Bool}(X:K.In h)(Z:Zbl K C)(hx:h.get? a=YB o)(hc:o.cls= .ref C)(hq:Q (.ref C) ⟨h,g,d,t,os⟩) :
  Xz (X4 prog w) A (getAttrBy (.ref a) (.str "__class__" tk) fill expr) Q E ⟨h,g,d,t,os⟩:=by
 have f3:=F.excAttr_ValueError.ga.bind (.ref a);have y0:(expr&&onTheHeap (Value.builtin "BaseException.__getattribute__"))=YF:=by cases expr<;>rfl
 have y2:(Value.builtin "BaseException.__getattribute__"==Value.builtin "object.__getattribute__")=YF:=by decide +kernel
 have y1:(onTheHeap (Xy C)&&Value.builtin "BaseException.__getattribute__"==Value.builtin "object.__getattribute__")=YF:=by rw[y2];rfl
 have L2:=PySem.W.looks_findIn (M:=X4 prog w) X Z.ga;have L3:=PySem.W.looks_findIn (M:=X4 prog w) X Z.gt
 repeat (any_goals (first|assumption|(with_reducible refine VJ hx ?_;rw[hc])|(with_reducible refine JK.at L2 ?_)|(with_reducible refine JK.at L3 ?_)|(with_reducible refine Xb (JK.at L2 ?_))|(with_reducible refine Xb (JK.at L3 ?_))|wp_step))
 refine Zt1 X Z hx hc ?_
 repeat (any_goals (first|assumption|wp_step))
def Zsv{Q:Option Xe->Xf->Prop}(X:K.In h)(Z:Zbl K C)(hx:h.get? a=YB o)(hc:o.cls= .ref C)(hq:Q (YB (.ref C)) ⟨h,g,d,t+1,os⟩) :
  Xz (X4 prog w) A (getAttr? (.ref a) "__class__") Q E ⟨h,g,d,t,os⟩:=by
 unfold getAttr? getAttrBy?
 repeat (any_goals (first|assumption|with_reducible apply Z2z X Z hx hc|wp_step))
end
def Zj6(Z:Zbl K C):PySem.W.KitX K (.ref a) (.ref C) (λh=>∃o,h.get? a=YB o/\o.cls= .ref C) where
 ty:=λM h _ p=>let⟨_,hx,hc⟩:=p;Z33 M hx hc
 it:=λM h X _=>by
  have z:=Z.isC;unfold PySem.W.clsIn at z;split at z
  .rename_i ho
   intro A' Q' E' s' k q;unfold isType loadHead;exact Xb (wpAny_loadPart (k _ _ (X _ _ ho)) (Xl q))
  .cases z
 ne:=λh tp dd its n sl X htp=>by
  have z:=Z.isC;refine Ve.mpr λq=>?_;have e:C=tp:=Xy.inj (ZC.mp q);subst e;unfold PySem.W.clsIn at z;split at z
  .rename_i ho
   have z:=(X _ _ ho).symm.trans htp;cases z
  .cases z
 ca:=fun{_ _ _ _ _ s} X p k=>by
  obtain⟨h,g,d,t,os⟩:=s;obtain⟨_,hx,hc⟩:=p;exact Zsv X Z hx hc k
variable {G:Xc}
def tyD:Xa->String
 | .none=>"NoneType"
 | .bool _=>"bool"
 | .int _=>"int"
 | .str _=>"str"
 | .list _=>"list"
 | .tuple _=>"tuple"
 | .dict _=>"dict"
def Zz1{T:String}{d:Xa}(h:T="int"\/T="bool"\/T="str"\/T="list"\/T="tuple")(hd:∀kvs,d≠ .dict kvs):QC K (.type (tyD d)) (.type T)=YB (Zvm T d):=by
 rcases h with rfl|rfl|rfl|rfl|rfl<;>cases d<;>first|rfl|(exact YZ rfl (hd _))|(unfold QC PySem.W.kitCls;rfl)|(simp only[tyD,Zvm];decide +kernel)
def Yeu(G:Xc):List V->Hp->VK->Prop:=λxs H Q=>∃(x:V) (T:String) (L:YG->Prop) (d:Xa),xs=[x,.ty T]/\Da G H L x d/\Zkx d=YF/\(T="int"\/T="bool"\/T="str"\/T="list"\/T="tuple")/\Q (.bl (Zvm T d)) H
def Zsd(hK:X.K=G):Zc0 X (.builtin "isinstance") (Yeu G):=by
 subst hK;intro pins s O H xs us Q I r h;obtain⟨x,T,L,d,rfl,q,hf,hT,h⟩:=h;obtain⟨u,w',rfl,r1,r2⟩:=vals2 r;cases(show w'=Value.type T from r2);have fin:∀tk:Nat,EP X pins O Q (.bool (Zvm T d)) { s with toks:=tk }:=λtk=>⟨.bl _,H,I.tok tk,rfl,h⟩;cases q with
 | non=>exact Zae I r1 .non (Zz1 (d:=.none) hT λ_ z=>by cases z) fin
 | bl b=>exact Zae I r1 (.bl b) (Zz1 (d:=.bool b) hT λ_ z=>by cases z) fin
 | int b=>exact Zae I r1 (.int b) (Zz1 (d:=.int b) hT λ_ z=>by cases z) fin
 | str b=>exact Zae I r1 (.str b) (Zz1 (d:=.str b) hT λ_ z=>by cases z) fin
 | lst l e qs=>
  rename_i ds;rcases e with e|⟨o,e⟩
  .exact Zae I r1 (.lst e) (Zz1 (d:=.list ds) hT λ_ z=>by cases z) fin
  .exact Zae I r1 (.frz e) (Zz1 (d:=.list ds) hT λ_ z=>by cases z) fin
 | tup e qs=>
  rename_i ds;exact Zae I r1 (.tup e) (Zz1 (d:=.tuple ds) hT λ_ z=>by cases z) fin
 | scr ks=>
  rename_i a ns;cases(show u=Xy a from r1);obtain⟨its,vs,⟨o,n,ho,hc,hd,hs⟩,_⟩:=I.list (ks.sq (H:=H));exact Q6 PySem.W.kitx_list I.kIn ⟨o,ho,hc⟩ (Zz1 (d:=.list (ns.map Xu)) hT λ_ z=>by cases z) (λz=>nomatch z) fin
 | exc Z hn e=>
  rename_i a C x;cases(show u=Xy a from r1);obtain⟨⟨o,vs,ho,hc,_⟩,_,_⟩:=(show ObjOk X.prog X.w H s.heap a (.ext (ExO C a))from I.hok a _ e);refine Q6 (Zj6 Z) I.kIn ⟨o,ho,hc⟩ (b:=Zvm T (exD x)) ?_ (λz=>nomatch z) fin;rcases hT with rfl|rfl|rfl|rfl|rfl
  .exact Z.k1
  .exact Z.k2
  .exact Z.k3
  .exact Z.k4
  .exact Z.k5
 | fn _=>cases hf
 | dic _ _ _ _=>unfold dcD Zkx at hf;cases hf
section
variable {a:YJ}{m:MEt}
def Yad{T:Str}{T':String}(hT:T'="int"\/T'="bool"\/T'="str"\/T'="list"\/T'="tuple")(hg:Gl X "isinstance")(hm:X.mg "isinstance"=YC)(hv:Qh "isinstance"=YB (.builtin "isinstance"))
  (hg2:Gl X T) (hm2:X.mg T=YC) (hv2:Qh T=YB (.type T')) (ha:ME X io p c a ma) (hn:T≠"__name__" :=by decide) (hd:(T==("__debug__" : Str))=YF:=by decide)
  (he:Xo [a,.Name T p2] X.env=(YF,eval a X.env)::Xo [.Name T p2] X.env:=by rfl) (he2:Xo [.Name T p2] X.env=(YF,eval (.Name T p2) X.env)::Xo [] X.env:=by rfl) (hpl:(Q3 pos (Xo [.Name T p2] X.env)).any (·.1)=YF:=by rfl) :
  ME X io p YD (.Call (.Name "isinstance" pp) [a,.Name T p2] [] pos) (Yhr T' ma):=by
 obtain⟨_,A,s⟩:=ha;refine⟨_,Zdr (Zsd rfl) hg hm hv (Zz A (Zz (Zmy (v:=.ty T') hg2 hm2 hv2 rfl hn hd) Zcl he2) he) (!1) (!1) he hpl,?_⟩;intro C H O δ fp ex K' Q R h k;refine s C H O δ fp ex _ _ R h λH' v r δ' fp' new r1 h1=>?_;exact⟨v,T',_,_,rfl,r1.da R,h1.1,hT,k H' _ _ δ' fp' [] (.fz r1.base r1.stp (.bl _)) h1.2⟩
abbrev MOt:=Ze->(Option Int->Ze->Prop)->Prop
def MO(X:Cx)(io:List Nat)(p:Bool)(e:Option YJ)(m:MOt):Prop:=∃t,PO X e t/\∀(C:MC X.K) (H:Hp) (O:St) (δ:Ze) (fp:Fp) (ex:YG->Prop) (K:Option Int->Ze->Prop) (Q:Option Int->Hp->Prop),Rel C io H O δ fp ex->m δ K ->
 (∀ H' b δ' fp',Rel C io H' O δ' fp' ex->Stp p H δ fp H' δ' fp'->K b δ'->Q b H')->t O H Q
def Zur:MOt:=λδ K=>K YC δ
def Z86(m:MEt):MOt:=λδ K=>m δ λr δ'=>asI r.data λi=>K (YB i) δ'
def Zbs:MO X io YD YC Zur:=⟨_,Z4n,λC H O δ fp ex K Q R h k=>k H YC δ fp R (.refl _ _ _ _) h⟩
def Zaa(h:ME X io p c e m):MO X io p (YB e) (Z86 m):=by
 obtain⟨_,A,s⟩:=h;exact⟨_,Z2d A,λC H O δ fp ex K Q R h k=>s C H O δ fp ex _ _ R h λH' v r δ' fp' new r1 h1=>by
  obtain⟨i,rfl,h1⟩:=(r1.da R).intInv h1;exact⟨i,rfl,k H' _ δ' fp' r1.base r1.stp h1⟩⟩
def cutD(ds:List Xa)(lo hi:Option Int):List Xa:=(ds.drop (HT.sIx ds.length 0 lo)).take (HT.sIx ds.length ds.length hi-HT.sIx ds.length 0 lo)
theorem Das.cut{xs:List V}(h:Das G H L xs ds)(lo hi:Option Int):Das G H L (Z5b xs lo hi) (cutD ds lo hi):=by
 unfold Z5b cutD;rw[h.length];exact(h.drop _).take _
def mSl(m:MEt)(ml mh:MOt):MEt:=λδ K=>m δ λr δ1=>ml δ1 λlo δ2=>mh δ2 λhi δ3=>asL r.data λds=>K (.nd ((cutD ds lo hi).map OT.fz)) δ3
def Zh7{lo hi:Option YJ}{ml mh:MOt}(ha:ME X io YD c a ma)(hl:MO X io YD lo ml)(hh:MO X io YD hi mh):ME X io YD c (.Subscript a (.Slice lo hi YC p2) pos) (mSl ma ml mh):=by
 obtain⟨_,A,s⟩:=ha;obtain⟨_,B,sl⟩:=hl;obtain⟨_,D,sh⟩:=hh;refine⟨_,Zxl (Zxj rfl) A B D,?_⟩;intro C H O δ fp ex K' Q R h k;refine s C H O δ fp ex _ _ R h λH1 v r δ1 fp1 new r1 h1=>?_;refine sl C H1 O δ1 fp1 ex _ _ r1.base h1 λH2 l δ2 fp2 R2 S2 h2=>?_;refine sh C H2 O δ2 fp2 ex _ _ R2 h2 λH3 u δ3 fp3 R3 S3 h3=>?_;have s2:Same H1 H2:=λb o e=>S2.keep b o e (.inl rfl);have s3:Same H2 H3:=λb o e=>S3.keep b o e (.inl rfl);obtain⟨e1,e2⟩:=r1.stp.env rfl;obtain⟨e3,e4⟩:=S2.env rfl;obtain⟨e5,e6⟩:=S3.env rfl;have q:=((r1.da R).same s2).same s3;obtain⟨a',xs,ds,rfl,e,qs,h3⟩:=q.lstInv h3;refine⟨a',xs,rfl,e,λp hp=>?_⟩;have S:=(r1.stp.trans S2).trans S3;refine k _ _ _ δ3 fp3 [p] (RE.tree R R3 S (Zw hp _) (Zaw hp) (Zcd p) (Own.list hp ((qs.cut l u).wide λa l _=>?_))) h3;rw[e6,e4];exact l
theorem Owns.set{H:Hp}{L:YG->Prop}{x:V}{r:OT}(hr:Own G H L x r []):∀{xs:List V} {ts:List OT} {as:List YG} (j:Nat),Owns G H L xs ts as->∃bs,Owns G H L (xs.set j x) (ts.set j r) bs/\bs.Sublist as
 | _,_,_,_,.nil=>⟨[],.nil,.refl _⟩
 | _,_,_,0,.cons k t=>⟨_,.cons hr t,by simp⟩
 | _,_,_,j+1,.cons (as:=as) k t=>by
  obtain⟨bs,o,s⟩:=Owns.set hr j t;exact⟨as++bs,.cons k o,List.Sublist.append_left s as⟩
theorem Owns.get:∀{xs:List V} {ts:List OT} {as:List YG} {j:Nat} {t:OT},Owns G H L xs ts as->ts[j]? =Va t->∃x bs,xs[j]? =Va x/\Own G H L x t bs/\bs.Sublist as
 | _,_,_,_,_,.nil,e=>by simp at e
 | _,_,_,0,_,.cons k _,e=>by simp at e;subst e;exact⟨_,_,rfl,k,List.sublist_append_left _ _⟩
 | _,_,_,j+1,t,.cons _ r,e=>by
  obtain⟨x,bs,h1,h2,h3⟩:=Owns.get (j:=j) (t:=t) r (by simpa using e);exact⟨x,bs,by simpa using h1,h2,h3.trans (List.sublist_append_right _ _)⟩
def Rel.top{C:MC G}{O:St}{ts':List OT}{a':YG}{xs ys:List V}{bs bs':List YG}(R:Rel C io H O δ fp ex)(hi:δ[i]? =YB (YB (.nd ts)))(hv:O[i]? =YB (YB (.ref a')))
  (hf:fp i=a'::bs) (hx:H a'=YB (.lst xs)) (o:Owns G H (Lf C fp ex) ys ts' bs') (hs:bs'.Sublist bs) :
  Rel C io (upd H a' (.lst ys)) O (δ.set i (YB (.nd ts'))) (fpu fp i (a'::bs')) ex/\Stp YF H δ fp (upd H a' (.lst ys)) (δ.set i (YB (.nd ts'))) (fpu fp i (a'::bs')):=by
 have nd:=R.nd i;rw[hf]at nd;have hn:=Qt.mp nd;have hm:a'∈fp i:=by rw[hf];exact .head _
 have ne':∀a,¬Foot fp a->a≠a':=λa h z=>h ⟨i,by rw[z];exact hm⟩;have kp:∀b o,H b=YB o->b≠a'->upd H a' (.lst ys) b=YB o:=λb o e n=>by rw[Zk n];exact e
 have sub:∀a,a∈a'::bs'->a∈fp i:=λa m=>by
  rw[hf];rcases Xn.mp m with rfl|m
  .exact .head _
  .exact .tail _ (hs.subset m)
 have o':Owns G (upd H a' (.lst ys)) (Lf C (fpu fp i (a'::bs')) (exu ex [])) ys ts' bs':=by
  have f0:∀a,¬Foot fp a->¬Foot (fpu fp i (a'::bs')) a:=λa h z=>by
   rcases z.of_u with z|⟨j,_,z⟩
   .exact h ⟨i,sub a z⟩
   .exact h ⟨j,z⟩
  have f1:∀a (zs:MuO),Lf C fp ex a->Rd H a zs.ho->Lf C (fpu fp i (a'::bs')) (exu ex []) a/\Rd (upd H a' (.lst ys)) a zs.ho:=λa zs l q=>by
   refine⟨⟨f0 a l.1,λz=>l.2.1 (Zbp.mp z),l.2.2⟩,?_⟩;rcases q with q|⟨u,q⟩
   .exact .inl (kp a _ q (ne' a l.1))
   .exact .inr ⟨u,kp a _ q (ne' a l.1)⟩
  have f2:∀a (zs:ImO),H a=YB zs.ho->upd H a' (.lst ys) a=YB zs.ho:=λa zs q=>kp a _ q λz=>ImO.nl q (z▸hx);exact o.frame f1 f2 λa m zs q=>kp a _ q λz=>hn.1 (hs.subset (z▸m))
 have key:=R.change (new:=[]) (as':=a'::bs') (t':=.nd ts') (H':=upd H a' (.lst ys)) hi hv (λb o e nb=>kp b o e λz=>nb (by rw[z];exact hm)) (λb e=>by
   by_cases q:b=a'
   .subst q;rw[Zq]at e;cases e
   .rwa[Zk q]at e) (.nd Zq o') (Qt.mpr ⟨λm=>hn.1 (hs.subset m),hn.2.sublist hs⟩) (λa m=>.inl (sub a m)) (λa m=>nomatch m)
 exact⟨key.1.drop λa z=>.inl z,key.2⟩
end
variable {G:Xc}
section
variable {a:YJ}{m mi mj:MEt}
def Rel.ownNd{C:MC G}{O:St}(R:Rel C io H O δ fp ex)(hi:δ[i]? =YB (YB (.nd ts))) :
  ∃a' xs bs,O[i]? =YB (YB (.ref a'))/\H a'=YB (.lst xs)/\Owns G H (Lf C fp ex) xs ts bs/\fp i=a'::bs:=by
 obtain⟨v,e,o⟩:=R.own i _ hi;generalize hf:fp i=as at o;cases o with
 | nd h r=>exact⟨_,_,_,e,h,r,rfl⟩
def Zjd(i:Nat)(m:MEt):MSt:=λD δ=>match δ[i]? with
 | some (YB (.nd _))=>m δ λr δ1=>match δ1[i]? with
  | some (YB (.nd ts))=>ts.length<Xw/\D.nx (δ1.set i (YB (.nd (ts++[.fz r.data]))))
  | _=>False
 | _=>False
def Wh(i:Nat)(he:ME X io p YD e m)(hN:X.N[i]? =YB x:=by rfl)(hv:Vis X.env.scope x:=by first|exact QG rfl|exact Qz (QG rfl)|exact Qz (Qz rfl))(hd:(x==("__debug__" : Str))=YF:=by decide)
  (hcd:(x==("__classdict__" : Str))=YF:=by decide)
  (hbase:Ue (.Name x px) "append" X.env (eval (.Name x px) X.env)=eval (.Name x px) X.env:=by rfl)
  (hfew:((Q3 cpos (Xo [e] X.env)).all (λx=>!x.1)&&(backToKw cpos (U7 [] X.env)).all (λx=>x.1.isSome)
   &&decide ([e].length+([]:List V8).length+(if([]:List V8).isEmpty then 0 else 1)<30))=YD:=by rfl)
  (hline:(apos.endLine==cpos.line)=YD:=by rfl) (hs:Xo [e] X.env=(YF,eval e X.env)::Xo [] X.env:=by rfl) (hplain:(Q3 cpos (Xo [] X.env)).any (·.1)=YF:=by rfl)
  (hsw:Vi (.Call (.Attribute (.Name x px) "append" apos) [e] [] cpos) YC pos.line X.env=pure YF:=by rfl) :
  MS X io (.Expr (.Call (.Attribute (.Name x px) "append" apos) [e] [] cpos) pos) (Zjd i m):=by
 obtain⟨_,A,s⟩:=he;refine⟨_,Zi7 (Zuq Ut PySem.F.slot_list_append PySem.F.type_list_append Zhh (pv i hN hv hd hcd) (Zz A Zcl hs) hbase hfew hline hs hplain) hsw,λC H O δ fp ex D D' R h E=>?_⟩;unfold Zjd at h;split at h
 case h_2=>exact h.elim
 rename_i ts0 hi0;obtain⟨a',xs0,bs0,hv0,hx0,_,_⟩:=R.ownNd hi0;refine⟨_,hv0,.inl ⟨rfl,xs0,.inl (.inl hx0)⟩,?_⟩;refine s C H O δ fp ex _ _ R h λH1 v r δ1 fp1 new r1 h1=>?_;split at h1
 case h_2=>exact h1.elim
 rename_i ts1 hi1;have R1:=r1.base;obtain⟨a1,xs1,bs1,hv1,hx1,o1,hf1⟩:=R1.ownNd hi1;rw[hv0]at hv1;cases hv1;have q:=(r1.da R).wide (L':=Lf C fp1 ex) λa l _=>l rfl;refine⟨a',xs1,v,rfl,rfl,hx1,by rw[o1.length];exact h1.1,?_⟩;have o2:=o1.snoc (.fz q);obtain⟨R2,S2⟩:=R1.top hi1 hv0 hf1 hx1 o2 (by simp);exact E.nx _ O _ _ R2 (r1.stp.kp.trans S2.kp) h1.2
def Ygs(i:Nat)(m mi:MEt):MSt:=λD δ=>m δ λr δ1=>match δ1[i]? with
 | some (YB (.nd ts))=>mi δ1 λn _=>asI n.data λk=>match ixN ts.length k with
  | some j=>D.nx (δ1.set i (YB (.nd (ts.set j (.fz r.data)))))
  | none=>False
 | _=>False
def SE.pureAfter{t:TE}{C:MC G}{O:St}{K':OT->Ze->Prop}{Q:VK}(s:SE G io YD c t m)(R:Rel C io H O δ fp ex)(h:m δ K')(k:∀H' v r,Rel C io H' O δ fp ex->Same H H'->Da G H' (λa=>c=YD->Lf C fp ex a) v r.data->K' r δ->Q v H'):t O H Q :=
 s C H O δ fp ex _ _ R h λH1 v r δ1 fp1 new r1 h1=>by
  obtain⟨e1,e2⟩:=r1.stp.env rfl;have q:=r1.da R;have R1:=r1.base;rw[e1]at R1 h1;rw[e2]at R1 q;exact k H1 v r R1 (λb o e=>r1.stp.keep b o e (.inl rfl)) q h1
def Z7b(i:Nat)(he:ME X io p YD e m)(hj:ME X io YD c a mi)(hN:X.N[i]? =YB x:=by rfl)(hv:Vis X.env.scope x:=by first|exact QG rfl|exact Qz (QG rfl)|exact Qz (Qz rfl))(hd:(x==("__debug__" : Str))=YF:=by decide)
  (hcd:(x==("__classdict__" : Str))=YF:=by decide)
  (hpg:∀{to ti:TE},PE X (.Name x px) to->PE X a ti->PG X (.Subscript (.Name x px) a pp) (Ygh to ti Z55):=by intro _ _ A B;exact Z5y A B set_list)
  (hs:swapsWithSole [.Subscript (.Name x px) a pp] e pos.line X.env=pure YF:=by rfl) (hw:swappedStores [.Subscript (.Name x px) a pp] e X.env=pure YC:=by rfl)
  (h1:(JT [.Subscript (.Name x px) a pp] X.env).map (·.2)=[assign (.Subscript (.Name x px) a pp) X.env]:=by rfl):MS X io (.Assign [.Subscript (.Name x px) a pp] e pos) (Ygs i m mi):=by
 obtain⟨_,A,s⟩:=he;obtain⟨_,B,sj⟩:=hj;refine⟨_,Zzt A (hpg (pv i hN hv hd hcd) B) hs hw h1,λC H O δ fp ex D D' R h E=>?_⟩;refine s C H O δ fp ex _ _ R h λH1 v r δ1 fp1 new r1 h1=>?_;have R1:=r1.base;have q:=(r1.da R).wide (L':=Lf C fp1 ex) λa l _=>l rfl;split at h1
 case h_2=>exact h1.elim
 rename_i ts hi;obtain⟨a',_,_,hv0,_⟩:=R1.ownNd hi;refine⟨_,hv0,?_⟩;refine sj.pureAfter R1 h1 λH2 w n R2 s2 q2 h2=>?_;obtain⟨k,rfl,h2⟩:=q2.intInv h2;split at h2
 case h_2=>exact h2.elim
 rename_i j hj;obtain⟨a2,xs,bs,hv2,hx,o,hf⟩:=R2.ownNd hi;rw[hv0]at hv2;cases hv2;obtain⟨bs',o',hs'⟩:=Owns.set (.fz (q.same s2)) j o;refine⟨a',xs,k,j,rfl,rfl,hx,by rw[o.length];exact hj,?_⟩;obtain⟨R3,S3⟩:=R2.top hi hv0 hf hx o' hs';exact E.nx _ O _ _ R3 (r1.stp.kp.trans (Kp.trans ⟨λb o e _=>s2 _ _ e,λz=>(nomatch z),λa z=>.inl z,s2.al⟩ S3.kp)) h2
def Owns.deep{b':YG}{ws ws':List V}{us us':List OT}(hb:H b'=Va (HO.lst ws))(hL:¬L b')(hc:∀cs,Owns G H L ws us cs->∃cs',Owns G H L ws' us' cs'/\cs'.Sublist cs) :
  ∀{xs:List V} {ts:List OT} {as:List YG} {j:Nat},Owns G H L xs ts as->as.Nodup->xs[j]? =Va (.ref b')->ts[j]? =Va (.nd us)->∃as',Owns G (upd H b' (.lst ws')) L xs (ts.set j (.nd us')) as'/\as'.Sublist as/\b'∈as
 | _,_,_,_,.nil,_,e,_=>by simp at e
 | _,_,_,0,.cons (as:=as) (bs:=bs) k t,nd,e,e'=>by
  simp at e e';subst e e';have nd':=Vw.mp nd;have kp:∀a o,a≠b'->H a=Va o->upd H b' (.lst ws') a=Va o:=λa o n q=>by rw[Zk n];exact q
  have f1:∀a (zs:MuO),L a->Rd H a zs.ho->L a/\Rd (upd H b' (.lst ws')) a zs.ho:=λa zs l q=>⟨l,by
   have na:a≠b':=λz=>hL (z▸l);rcases q with q|⟨u,q⟩
   .exact .inl (kp a _ na q)
   .exact .inr ⟨u,kp a _ na q⟩⟩
  have f2:∀a (zs:ImO),H a=Va zs.ho->upd H b' (.lst ws') a=Va zs.ho:=λa zs q=>kp a _ (λz=>ImO.nl q (z▸hb)) q;cases k with
  | nd h r=>
   rename_i xs0 as0;rw[hb]at h;cases h;have nd2:=Qt.mp nd'.1;obtain⟨cs',o',s'⟩:=hc _ r;refine⟨b'::cs'++bs,.cons (.nd Zq (o'.frame f1 f2 λa m zs q=>kp a _ (λz=>nd2.1 (s'.subset (z▸m))) q)) (t.frame f1 f2 λa m zs q=>kp a _ (λz=>nd'.2.2 b' (.head _) a m z.symm) q),List.Sublist.append_right (List.Sublist.cons₂ _ s') bs,Qw _ (.head _)⟩
 | _,_,_,j+1,.cons (as:=as) (bs:=bs) k t,nd,e,e'=>by
  have nd':=Vw.mp nd;obtain⟨as',o,s,m⟩:=Owns.deep hb hL hc (j:=j) t nd'.2.1 (by simpa using e) (by simpa using e');have nb:b'∉as:=λz=>nd'.2.2 b' z b' m rfl;refine⟨as++as',.cons ?_ o,List.Sublist.append_left s as,XR _ m⟩;have kp:∀a o,a≠b'->H a=Va o->upd H b' (.lst ws') a=Va o:=λa o n q=>by rw[Zk n];exact q
  refine k.frame (λa zs l q=>⟨l,?_⟩) (λa zs q=>kp a _ (λz=>ImO.nl q (z▸hb)) q) λa m' zs q=>kp a _ (λz=>nb (z▸m')) q;have na:a≠b':=λz=>hL (z▸l);rcases q with q|⟨u,q⟩
  .exact .inl (kp a _ na q)
  .exact .inr ⟨u,kp a _ na q⟩
end
variable {G:Xc}
mutual
def Z4g:OT->Bool
 | .fz d=>Jf d
 | .nd ts=>Zue ts
 | .tp ts=>Zue ts
 | .dc _ _ _=>YF
def Zue:List OT->Bool
 | []=>YD
 | t::ts=>Z4g t&&Zue ts
end
section
variable {m:MEt}
def Rel.freeze{C:MC G}{O:St}{t:OT}(R:Rel C io H O δ fp ex)(hio:i∉io)(hi:δ[i]? =YB (YB t)):Rel C io H O (δ.set i (YB (.fz t.data))) (fpu fp i []) ex:=by
 have hil:i<δ.length:=(Xk.mp hi).1;have sub:∀j a,a∈fpu fp i [] j->j≠i/\a∈fp j:=λj a m=>by
  by_cases ej:j=i
  .subst ej;rw[Z3]at m;exact nomatch m
  .rw[Yn ej]at m;exact⟨ej,m⟩
 have lw:∀a,Lf C fp ex a->Lf C (fpu fp i []) ex a:=λa l=>⟨λ⟨j,z⟩=>l.1 ⟨j,(sub j a z).2⟩,l.2.1,l.2.2⟩;have ln:∀a∈fp i,Lf C (fpu fp i []) ex a:=λa m=>⟨λ⟨j,z⟩=>(sub j a z).1 (R.dj j i a (sub j a z).2 m),R.dx i a m,.inr (by
  rcases R.new i a m with z|z
  .exact YZ z.1 hio
  .exact z)⟩
 refine⟨by rw[Vf];exact R.len,λj t' e=>?_,λj h=>?_,λj=>?_,λj k a h1 h2=>R.dj j k a (sub j a h1).2 (sub k a h2).2,λj a h z=>R.dx j a (sub j a h).2 z,R.xa,R.fr,R.al,λj a h=>R.new j a (sub j a h).2,R.io⟩
 .by_cases ej:j=i
  .subst ej
   rw[QT hil]at e;cases e;obtain⟨v,e1,o⟩:=R.own j t hi;exact⟨v,e1,by rw[Z3];exact .fz (o.da (λa l _=>lw a l) ln)⟩
  .rw[Qs (Bo ej)]at e
   obtain⟨w,e1,o⟩:=R.own j t' e;exact⟨w,e1,by rw[Yn ej];exact o.wide λa l _=>lw a l⟩
 .by_cases ej:j=i
  .subst ej;rw[Z3]
  .rw[Yn ej]
   exact R.emp j λt' z=>h t' (by rw[Qs (Bo ej)];exact z)
 .by_cases ej:j=i
  .subst ej;rw[Z3];exact .nil
  .rw[Yn ej];exact R.nd j
def Zjs(i:Nat)(u:MSt):MSt:=λD δ=>match δ[i]? with|some (YB t)=>u D (δ.set i (YB (.fz t.data)))|_=>False
def Zlc{u:MSt}(i:Nat)(h:MS X io st u)(hio:i∉io:=by decide):MS X io st (Zjs i u):=by
 obtain⟨_,A,s⟩:=h;exact⟨_,A,λC H O δ fp ex D D' R h E=>by
  unfold Zjs at h;split at h
  case h_2=>exact h.elim
  rename_i t hi;refine s C H O _ _ ex D D' (R.freeze hio hi) h (E.shift ⟨λb o e _=>e,λz=>(nomatch z),λa z=>?_,λb e=>e⟩);rcases z.of_u with z|⟨j,_,z⟩
  .exact nomatch z
  .exact .inl ⟨j,z⟩⟩
end
variable {G:Xc}
def Yaw(ds:List Xa)(k:OT->Prop):Prop:=∃ns:List Int,ds=[.list (ns.map Xu)]/\ns.length<=63/\k (.fz (.bool YD))
def Z59{E:XK}(hl:ns.length<=63)(h:SqL G H a (ns.map V.int)):spD G Yaw [.ref a] H (λv _=>v= .bl YD) E:=by
 refine⟨λ_=>True,[.list (ns.map Xu)],λr=>r= .fz (.bool YD),.cons ?_ .nil,⟨ns,rfl,hl,rfl⟩,λr v H' new kr s o _ _=>?_⟩
 .rcases h with h|h
  .exact .lst trivial h (.ints ns)
  .exact .scr h
 .subst kr
  cases o with
  | fz q=>cases q;rfl
section
variable {base:YH}{n:Nat}{f:YG}{fd:Ql}
def Da.ints_sq{v:V}(h:Da G H L v (.list (ns.map Xu))):∃a,v= .ref a/\SqL G H a (ns.map V.int):=by
 generalize e:VP (ns.map Xu)=d at h;cases h with
 | lst l e1 r=>
  cases e;rw[r.int_inv]at e1;exact⟨_,rfl,.inl e1⟩
 | scr k=>
  rename_i a ms;have e':=PyData.list.inj e;have:ns=ms:=(List.map_inj_right (λ_ _ h=>by cases h;rfl)).mp e';subst this;exact⟨_,rfl,k.sq⟩
 | _=>cases e
end
@[simp] theorem Zgv:OT.datas []=[]:=rfl
@[simp] theorem Zes(t:OT)(ts:List OT):OT.datas (t::ts)=t.data::OT.datas ts:=rfl
theorem Zn6{xs:List Y}{i:Int}(h0:0<=i):atI xs i=xs[i.toNat]?:=by
 unfold atI ixN;rw[YM h0];split
 .rfl
 .rename_i h
  symm;exact Q0.mpr (!0)
@[simp] theorem Yj6{Y:Type}(x:Y)(xs:List Y):atI (x::xs) 0=YB x:=by
 rw[Zn6 (!1)];rfl
@[simp] theorem Yji{Y:Type}(x y:Y)(xs:List Y):atI (x::y::xs) 1=YB y:=by
 rw[Zn6 (!1)];rfl
@[simp] theorem Yjk{Y:Type}(x y z:Y)(xs:List Y):atI (x::y::z::xs) 2=YB z:=by
 rw[Zn6 (!1)];rfl
@[simp] theorem Yca(ds:List Xa)(i:Int):ixD (.list ds) (.int i)=atI ds i:=rfl
@[simp] theorem Yd0(ds:List Xa)(i:Int):ixD (.tuple ds) (.int i)=atI ds i:=rfl
@[simp] theorem Z8u(ds:List Xa):Zyb (.list ds)=YB ds.length:=rfl
@[simp] theorem Ybw(ds:List Xa):Zyb (.tuple ds)=YB ds.length:=rfl
def Zmd(r:List Rat):Xa:=.list (r.map frD)
def tbD(T:List (List Rat)):Xa:=.list (T.map Zmd)
def Yf4(r:List Rat):OT:=.nd (r.map λq=>.fz (frD q))
def tbT(T:List (List Rat)):OT:=.nd (T.map Yf4)
@[simp] theorem Zrr(r:List Rat):(Yf4 r).data=Zmd r:=by
 unfold Yf4 Zmd;rw[OT.data_nd,Qq];rfl
@[simp] theorem Ybu(T:List (List Rat)):(tbT T).data=tbD T:=by
 unfold tbT tbD;rw[OT.data_nd,Qq];exact YW VP (Qk λr _=>Zrr r)
def dd(T:List (List Rat))(i j:Nat):Rat:=(T.getD i []).getD j 0
@[simp] theorem Ycx(T:List (List Rat)):Zyb (tbD T)=YB T.length:=by unfold tbD Zyb;simp
@[simp] theorem Yb0(r:List Rat):Zyb (Zmd r)=YB r.length:=by unfold Zmd Zyb;simp
@[simp] theorem Yda(q:Rat):Jf (frD q)=YD:=by unfold frD fr;simp[Jf,Zfl]
theorem Zrc{n a:Nat}(h:a<n):ixN n (a:Int)=YB a:=by
 unfold ixN;rw[YM (!0),YM (!0)];simp
def ix3{d1 d2 d3:Xa}{r:Int}(r0:0<=r)(r1:r<3):∃d,(d=d1\/d=d2\/d=d3)/\ixD (.list [d1,d2,d3]) (.int r)=YB d:=by
 have:r=0\/r=1\/r=2:=by omega
 rcases this with rfl|rfl|rfl
 .exact⟨d1,.inl rfl,rfl⟩
 .exact⟨d2,.inr (.inl rfl),rfl⟩
 .exact⟨d3,.inr (.inr rfl),rfl⟩
def Zye{d:Xa}(h:Wm d=YD):JF d d=YD:=Zzu h h rfl
structure Sh(n:Nat)(d:Xa):Prop where
 lay:Vm d=YD
 dep:PyData.depth d<=n
def Sh.shp{n:Nat}{d:Xa}(h:Sh n d)(hn:n<=64:=by decide):Yay d:=⟨by
 show(Vm d&&decide (PyData.depth d<=64))=YD;rw[h.lay,YS (QX h.dep hn)];rfl⟩
theorem Zk1{n:Nat}:∀{ds:List Xa},(∀d∈ds,Sh n d)->Bp ds=YD/\PyData.depthAll ds<=n
 | [],_=>⟨by rw[Bp],by rw[PyData.depthAll];exact QJ _⟩
 | d::ds,h=>by
  obtain⟨h1,h2⟩:=Zk1 λe m=>h e (.tail _ m);have h3:=h d (.head _);refine⟨by rw[Bp,h3.lay,h1];rfl,?_⟩;rw[PyData.depthAll];exact Nat.max_le.mpr ⟨h3.dep,h2⟩
def Zhq{n:Nat}(h:∀d∈ds,Sh n d):Sh (n+1) (.list ds) :=
 ⟨by rw[Vm];exact(Zk1 h).1,by rw[PyData.depth];exact Vn (Zk1 h).2⟩
def Yaq{n:Nat}(h:∀d∈ds,Sh n d):Sh (n+1) (.tuple ds) :=
 ⟨by rw[Vm];exact(Zk1 h).1,by rw[PyData.depth];exact Vn (Zk1 h).2⟩
def Zyx(i:Int):Sh 0 (.int i):=⟨rfl,Nat.le_of_eq rfl⟩
section
variable {O:St}
def Inv.turnTup{T:YG}{xs:List V}{its:List Xe}(I:Inv X pins O H s)(f:∀b∈ch,Ziz X pins H b)(k:∀b o,b∉ch->s.heap.get? b=YB o->h'.get? b=YB o)
  (th:∀b∈ch,∃o,h'.get? b=YB o) (hT:s.heap.objs.size<=T) (hz:xs.length<=Xw) (r:Vals xs its) (ht:IsTup h' T its.toArray):Inv X pins O (upd H T (.tup xs)) { s with heap:=h' }:=by
 have hn:H T=YC:=I.hok.fresh hT;have nch:∀b u,H b=YB u->b∉ch:=λb u e z=>by rw[(f b z).1]at e;cases e
 have new:ObjOk X.prog X.w (upd H T (.tup xs)) h' T (.tup xs):=⟨hz,its,r,ht⟩;refine I.call (ch:=ch) (g':=s.gens) (d':=s.drawn) (t':=s.toks) ⟨λb o e _ _ hc=>k b o hc e,λb o e _ _ hc=>⟨o.slots,k b o hc e⟩,λb o e n _=>?_,λb o e hc=>?_,λb ys e=>?_,λb o u e=>?_,λb ps e=>?_⟩ (λb u e=>?_) I.bare (λb hb=>?_)
 .rw[Zk (λz=>by rw[z]at e;exact YZ (XH e) (Nat.not_lt.mpr hT))];exact n
 .exact⟨o,k b o hc e⟩
 .rw[Zk (Ym e hn)];exact e
 .rw[Zk (Ym e hn)];exact e
 .exact⟨#[],by rw[Zk (Ym e hn),e];simp⟩
 .by_cases hb:b=T
  .subst hb;rw[Zq]at e;cases e;exact new
  .rw[Zk hb]at e
   refine(I.hok b u e).stay (λc v hc q=>k c v ?_ q) (λc q=>by rw[Zk (Ym q hn)];exact q) λc ys q=>by rw[Zk (Ym q hn)];exact q
   rcases hc with rfl|hc
   .exact nch _ _ e
   .exact nch _ _ hc
 .obtain⟨f0,f1,f2,f3,f4,f5⟩:=f b hb
  exact⟨f3,f1,f4,f5⟩
def Inv.turnAll(I:Inv X pins O H s)(f:∀b∈ch,Ziz X pins H b)(k:∀b o,b∉ch->s.heap.get? b=YB o->h'.get? b=YB o):Inv X pins O H { s with heap:=h' }:=by
 have nch:∀b u,H b=YB u->b∉ch:=λb u e z=>by rw[(f b z).1]at e;cases e
 refine I.call (ch:=ch) (g':=s.gens) (d':=s.drawn) (t':=s.toks) ⟨λb o e _ _ hc=>k b o hc e,λb o e _ _ hc=>⟨o.slots,k b o hc e⟩,λb o e n _=>n,λb o e hc=>⟨o,k b o hc e⟩,λb ys e=>e,λb o u e=>e,λb ps e=>⟨#[],by rw[e];simp⟩⟩ (λb u e=>?_) I.bare (λb hb=>?_)
 .refine(I.hok b u e).stay (λc v hc q=>k c v ?_ q) (λc q=>q) λc ys q=>q
  rcases hc with rfl|hc
  .exact nch _ _ e
  .exact nch _ _ hc
 .obtain⟨f0,f1,f2,f3,f4,f5⟩:=f b hb
  exact⟨f3,f1,f4,f5⟩
end
variable {G:Xc}
section
variable {a:YJ}{m:MEt}
def Rel.keptList{C:MC G}{H:Hp}{O:St}{δ:Ze}{fp:Fp}{ex:YG->Prop}{v:V}{ds:List Xa}(R:Rel C io H O δ fp ex)(q:Da G H (λa=>c=YD->Lf C fp ex a) v (.list ds)) :
  ∃a xs,v= .ref a/\∀H':Hp,(∀b o,H b=YB o->(c=YF\/¬Foot fp b)->H' b=YB o)->SqL G H' a xs/\Das G H' (λa=>c=YD->(Lf C fp ex a/\H a≠YC)) xs ds:=by
 generalize hd:VP ds=d at q;cases q with
 | lst l e r=>
  cases hd;rename_i a0 xs0;refine⟨a0,xs0,rfl,λH' kp=>?_⟩;obtain⟨f1,f2⟩:=R.kept kp;exact⟨.inl (f1 _ (.lst _) l e).2,r.frame f1 f2⟩
 | scr k=>
  rename_i a ns;have:=PyData.list.inj hd;subst this;exact⟨a,_,rfl,λH' _=>⟨k.sq,.ints ns⟩⟩
 | _=>cases hd
def Zme(as bs:List Xa):List Xa:=(as.zip bs).map λx=>.tuple [x.1,x.2]
def Zot{as bs:List Xa}{d:Xa}(h:(Zme as bs)[i]? =YB d):∃x y,as[i]? =YB x/\bs[i]? =YB y/\d= .tuple [x,y]:=by
 unfold Zme at h;rw[Xi]at h;cases e:(as.zip bs)[i]? with
 | none=>rw[e]at h;cases h
 | some z=>
  rw[e]at h;cases h;obtain⟨h1,h2⟩:=Uo.mp e;exact⟨z.1,z.2,h1,h2,rfl⟩
def Ztr{as bs:List Xa}(h:(Zme as bs)[i]? =YC):as.length<=i\/bs.length<=i:=by
 unfold Zme at h;have:=Q0.mp h;simp at this;omega
@[simp] theorem Z0z(as bs:List Xa):(Zme as bs).length=min as.length bs.length:=by simp[Zme]
end
variable {G:Xc}
section
variable {c1 c2 c3:Bool}{a:YJ}{mc:MEt}{f:Int->Int->Bool}
def Zik(f g:Int->Int->Bool)(ma mb mc:MEt):MEt:=λδ K=>ma δ λx δ1=>mb δ1 λy δ2=>asI x.data λi=>asI y.data λj=>if f i j=YD then mc δ2 λz δ3=>asI z.data λk=>K (.fz (.bool (g j k))) δ3 else K (.fz (.bool YF)) δ2
def Zz4(ha:SE G io YD c1 ta ma)(hb:SE G io YD c2 tb mb)(hc:SE G io YD c3 tc mc):SE G io YD YD (Zsg (rI0 λi j=>.bl (f i j)) (rI0 λi j=>.bl (g i j)) ta tb tc) (Zik f g ma mb mc):=by
 intro C H O δ fp ex K Q R h k;refine ha.pureAfter R h λH1 x u R1 s1 q1 h1=>?_;refine hb.pureAfter R1 h1 λH2 y v R2 s2 q2 h2=>?_;obtain⟨i,rfl,h2⟩:=q1.intInv h2;obtain⟨j,rfl,h2⟩:=q2.intInv h2;refine⟨i,j,rfl,rfl,f i j,rfl,?_⟩
 by_cases hf:f i j=YD
 .rw[YM hf]at h2|-
  refine hc.pureAfter R2 h2 λH3 z w R3 s3 q3 h3=>?_;obtain⟨l,rfl,h3⟩:=q3.intInv h3;have s13:Same H H3:=(s1.trans s2).trans s3;exact⟨j,l,rfl,rfl,k H3 _ _ δ fp [] (.fz R3 (.same s13 s13.al) (.bl _)) h3⟩
 .rw[YQ hf]at h2|-
  have s12:Same H H2:=s1.trans s2;exact k H2 _ _ δ fp [] (.fz R2 (.same s12 s12.al) (.bl _)) h2
def Z4c(ho:OpR X (QL op) (rI0 λi j=>.bl (f i j)))(ho':OpR X (QL op') (rI0 λi j=>.bl (g i j)))(ha:ME X io YD c1 a ma)(hb:ME X io YD c2 b mb)(hc:ME X io YD c3 e mc)
  (hm:lastMarks [op,op'] [b,e]=YF:=by with_unfolding_all rfl):ME X io YD YD (.Compare a [op,op'] [b,e] pos) (Zik f g ma mb mc):=by
 obtain⟨_,A,sa⟩:=ha;obtain⟨_,B,sb⟩:=hb;obtain⟨_,D,sc⟩:=hc;exact⟨_,Zwa ho ho' A B D hm,Zz4 sa sb sc⟩
def Zwm(ho:OpR X (QL op) (rI0 λi j=>.bl (f i j)))(ho':OpR X (QL op') (rI0 λi j=>.bl (g i j)))(ha:ME X io YD c1 a ma)(hb:ME X io YD c2 b mb)(hc:ME X io YD c3 e mc)
  (hm:lastMarks [op,op'] [b,e]=YF:=by with_unfolding_all rfl):MT X io YD (.Compare a [op,op'] [b,e] pos) (λδ K=>Zik f g ma mb mc δ (kB K)):=by
 obtain⟨_,A,sa⟩:=ha;obtain⟨_,B,sb⟩:=hb;obtain⟨_,D,sc⟩:=hc;exact⟨_,Zyh ho ho' A B D hm,Z4b (Zz4 sa sb sc)⟩
end
theorem Zib:∀{ns:List Int} {its:List Xe},Vals (ns.map V.int) its->∃xs:List (Int×Tok),its=xs.map (λp=>Vt p.1 p.2)/\xs.map (·.1)=ns
 | [],_,.nil=>⟨[],rfl,rfl⟩
 | n::ns,_,.cons r rs=>by
  obtain⟨t,e⟩:=(show∃t,_=Vt n t from r);obtain⟨xs,h1,h2⟩:=Zib rs;exact⟨(n,t)::xs,by rw[e,h1];rfl,by rw[X7,h2]⟩
section
variable {a:YJ}{m:MEt}{pl:Pos}
def Ygl(m mb:MEt):MEt:=λδ K=>m δ λr δ1=>mb δ1 λn _=>asI n.data λk=>(-(2^63)<=k/\k<2^63/\k.toNat<=Xw)/\K (.nd (Qm k.toNat (.fz r.data))) δ1
theorem Znv(x:Y):∀n:Nat,(Qm n [x]).flatten=Qm n x
 | 0=>rfl
 | n+1=>by rw[VL,U4,Znv x n];rfl
def Das.rep{v:V}{d:Xa}(h:Da G H L v d):∀n:Nat,Das G H L (Qm n v) (Qm n d)
 | 0=>.nil
 | n+1=>.cons h (Das.rep h n)
def Ye3(ha:ME X io p YD a m)(hb:ME X io YD c b mb)(hs:Xo [a] X.env=(YF,eval a X.env)::Xo [] X.env:=by rfl):ME X io p YD (.BinOp (.List [a] pl) .Mult b pos) (Ygl m mb):=by
 obtain⟨_,A,sa⟩:=ha;obtain⟨_,B,sb⟩:=hb;refine⟨_,Z16 Z9q (Zz2 (Zz A Zcl hs)) B,λC H O δ fp ex K Q R h k=>?_⟩;refine sa C H O δ fp ex _ _ R h λH1 v r δ1 fp1 new r1 h1=>⟨(by show 1<=Xw;decide),λl hl=>?_⟩;have R1:=r1.base;have s1:=Zw hl (.lst [v]);refine sb.pureAfter (R1.mk0 s1) h1 λH2 w n R2 s2 q2 h2=>?_;obtain⟨i,rfl,h2⟩:=q2.intInv h2;have q:=(((r1.da R).wide (L':=Lf C fp1 ex) λa l _=>l rfl).same s1).same s2;refine⟨l,i,[v],rfl,rfl,s2 _ _ Zq,h2.1.1,h2.1.2.1,by show 1*i.toNat<=Xw;rw[Nat.one_mul];exact h2.1.2.2,λt ht=>?_⟩;rw[Znv];have S:Stp p H δ fp H2 δ1 fp1:=by
  have:=r1.stp.trans (p':=YD) (Stp.same (p:=YD) (δ:=δ1) (fp:=fp1) (s1.trans s2) (s1.trans s2).al)
  rwa[Bool.and_true]at this
 refine k _ _ _ δ1 fp1 [t] (RE.tree R R2 S (Zw ht _) (Zaw ht) (Zcd t) ?_) h2.2;have:=Own.list ht ((Das.rep q i.toNat).wide (L':=λa=>YD=YD->Lf C fp1 ex a) λa l _ _=>l)
 rwa[List.map_replicate]at this
end
end L2
namespace L2
open PySem PySem.Spec PyProof.Rows PySem.SeqAt
def Zus(lo:Int)(n:Nat):Zdk lo (n+1)= .int lo::Zdk (lo+1) n:=by
 unfold Zdk;rw[List.range_succ_eq_map,X7,Qq];congr 1
 .simp
 .refine Qk λi _=>?_
  show Xu (lo+((i+1:Nat):Int))=Xu (lo+1+(i:Int));congr 1;omega
section
variable {a:YJ}{m:MEt}{pl pr:Pos}
end
theorem Zdw:∀{ns:List Int} {its:List Xe},Vals (ns.map V.int) its->Vb its ns
 | [],_,.nil=>.nil
 | n::ns,_,.cons r rs=>by
  obtain⟨t,e⟩:=(show∃t,_=Vt n t from r);rw[e];exact .cons n t (Zdw rs)
section
variable {a:YJ}{m:MEt}{pl pr:Pos}
def Yb7(i:Nat)(m:MEt):MEt:=λδ K=>match δ[i]? with
 | some (YB (.nd _))=>m δ λn δ1=>match δ1[i]? with
  | some (YB (.nd ts))=>asI n.data λj=>match ixN ts.length j with
   | some k=>match ts[k]? with
    | some (.fz d)=>ts.length<=Xw/\K (.fz d) (δ1.set i (YB (.nd (ts.eraseIdx k))))
    | _=>False
   | none=>False
  | _=>False
 | _=>False
def Owns.erase:∀{xs:List V} {ts:List OT} {as:List YG} {k:Nat} {d:Xa},Owns G H L xs ts as->ts[k]? =Va (.fz d)->Owns G H L (xs.eraseIdx k) (ts.eraseIdx k) as
 | _,_,_,_,_,.nil,e=>by simp at e
 | _,_,_,0,d,.cons q r,e=>by
  simp at e;subst e;cases q;exact r
 | _,_,_,k+1,d,.cons q r,e=>.cons q (Owns.erase (k:=k) r (by simpa using e))
def Yf1(i:Nat)(he:ME X io p c e m)(hN:X.N[i]? =YB x:=by rfl)(hv:Vis X.env.scope x:=by first|exact QG rfl|exact Qz (QG rfl)|exact Qz (Qz rfl))(hd:(x==("__debug__" : Str))=YF:=by decide)
  (hcd:(x==("__classdict__" : Str))=YF:=by decide)
  (hbase:Ue (.Name x px) "pop" X.env (eval (.Name x px) X.env)=eval (.Name x px) X.env:=by rfl)
  (hfew:((Q3 cpos (Xo [e] X.env)).all (λx=>!x.1)&&(backToKw cpos (U7 [] X.env)).all (λx=>x.1.isSome)
   &&decide ([e].length+([]:List V8).length+(if([]:List V8).isEmpty then 0 else 1)<30))=YD:=by rfl)
  (hline:(apos.endLine==cpos.line)=YD:=by rfl) (hs:Xo [e] X.env=(YF,eval e X.env)::Xo [] X.env:=by rfl) (hplain:(Q3 cpos (Xo [] X.env)).any (·.1)=YF:=by rfl) :
  ME X io YF YD (.Call (.Attribute (.Name x px) "pop" apos) [e] [] cpos) (Yb7 i m):=by
 obtain⟨_,A,s⟩:=he;refine⟨_,Zuq Ut PySem.F.slot_list_pop PySem.F.type_list_pop Zwv (pv i hN hv hd hcd) (Zz A Zcl hs) hbase hfew hline hs hplain,λC H O δ fp ex K Q R h kk=>?_⟩;unfold Yb7 at h;split at h
 case h_2=>exact h.elim
 rename_i ts0 hi0;obtain⟨a',xs0,bs0,hv0,hx0,_,_⟩:=R.ownNd hi0;refine⟨_,hv0,.inl ⟨rfl,xs0,.inl (.inl hx0)⟩,?_⟩;refine s C H O δ fp ex _ _ R h λH1 v r δ1 fp1 new r1 h1=>?_;split at h1
 case h_2=>exact h1.elim
 rename_i ts1 hi1;obtain⟨j,rfl,h1⟩:=(r1.da R).intInv h1;split at h1
 case h_2=>exact h1.elim
 rename_i k hk;split at h1
 case h_2=>exact h1.elim
 rename_i d hd1;have R1:=r1.base;obtain⟨a1,xs1,bs1,hv1,hx1,o1,hf1⟩:=R1.ownNd hi1;rw[hv0]at hv1;cases hv1;obtain⟨y,cs,hy,oy,_⟩:=o1.get hd1;have qy:Da X.K H1 (Lf C fp1 ex) y d:=by cases oy;assumption
 obtain⟨z1,z2,z3,z4⟩:=Zm7 hk;have hz:=h1.1;have hsz:Xw=16777216:=X8;refine⟨a',xs1,j,k,y,rfl,rfl,hx1,by omega,by omega,by rw[o1.length];exact z1,hy,?_⟩;obtain⟨R2,S2⟩:=R1.top hi1 hv0 hf1 hx1 (o1.erase hd1) (List.Sublist.refl _);have S:=(r1.stp.trans S2).cast (p':=YF) λz=>nomatch z;refine kk _ _ _ _ _ [] (.fz R2 S ?_) h1.2;have ne':∀a,¬Foot fp1 a->a≠a':=λa h z=>h ⟨i,by rw[z,hf1];exact .head _⟩;have f0:∀a,¬Foot fp1 a->¬Foot (fpu fp1 i (a'::bs1)) a:=λa h z=>by
  rcases z.of_u with z|⟨j,_,z⟩
  .exact h ⟨i,by rw[hf1];exact z⟩
  .exact h ⟨j,z⟩
 refine qy.frame (λa zs l q=>⟨λ_=>⟨f0 a l.1,l.2.1,l.2.2⟩,?_⟩) λa zs q=>?_
 .rcases q with q|⟨u,q⟩
  .exact .inl (by rw[Zk (ne' a l.1)];exact q)
  .exact .inr ⟨u,by rw[Zk (ne' a l.1)];exact q⟩
 .rw[Zk]
  .exact q
  .intro z
   exact ImO.nl q (z▸hx1)
end
end L2
namespace L2
open PySem PySem.Spec PyProof.Rows
def ObjOk.is{o:HO}(x:ObjOk P w H h a o):∃u,h.get? a=YB u:=by
 cases o with
 | lst xs=>obtain⟨_,_,_,_,e⟩:=x;exact⟨_,e⟩
 | tup xs=>obtain⟨_,_,_,ob,e,_⟩:=x;exact⟨_,e⟩
 | dK kvs=>obtain⟨_,_,_,_,o,_,_,e,_⟩:=x;exact⟨_,e⟩
 | dT kvs=>obtain⟨_,_,_,_,o,_,_,e,_⟩:=x;exact⟨_,e⟩
 | set S n=>obtain⟨o,_,_,_,e,_⟩:=x;exact⟨_,e⟩
 | ins C dx fs=>obtain⟨_,_,_,e,_⟩:=x;exact⟨_,e⟩
 | own y=>obtain⟨_,e⟩:=x;exact⟨_,e⟩
 | xd fs=>obtain⟨_,⟨_,_,_,e,_⟩,_⟩:=x;exact⟨_,e⟩
 | rng lo hi=>obtain⟨_,_,_,e⟩:=x;exact⟨_,e⟩
 | frz ob u=>obtain⟨e,_⟩:=x;exact⟨_,e⟩
 | tbl ps=>exact⟨_,(show h.get? a=YB _ from x)⟩
 | met f y=>exact⟨_,(show h.get? a=YB _ from x)⟩
 | ext φ=>obtain⟨_,⟨_,e⟩,_⟩:=x;exact⟨_,e⟩
structure U9(X:Cx)(pins:List (YG×Obj))(H:Hp)(b:YG):Prop where
 fr:H b=YC
 new:X.s₀.heap.get? b=YC
 loc:b≠X.env.locals
 cel:∀x c,X.env.cells.lookup x=YB c->c≠b
 pin:∀p∈X.pn++pins,p.1≠b
end L2
variable {a':YG}{pe ci neg c2:Bool}{pl pr:Pos}{tk:Tok}{fl:Xe}
namespace L2
open PySem PySem.Spec PyProof.Rows
section
variable {O:St}{b:YG}
theorem Inv.apart(I:Inv X pins O H s)(hex:X.ex=[])(hb:s.heap.get? b=YC)(hH:H' b=YC):U9 X pins H' b:=by
 have ne:∀c o,s.heap.get? c=YB o->c≠b:=λc o e z=>by rw[z,hb]at e;cases e
 refine⟨hH,?_,?_,λx c e=>?_,λp hp=>?_⟩
 .cases q:X.s₀.heap.get? b with
  | none=>rfl
  | some o=>
   obtain⟨o',e⟩:=I.base.there b o q (by rw[hex];simp);rw[hb]at e;cases e
 .obtain⟨m,⟨o,_,_,ho,_⟩,_⟩:=I.loc
  exact(ne _ _ ho).symm
 .obtain⟨v,o,ho,_⟩:=I.cell x c e
  exact ne _ _ ho
 .exact ne _ _ (I.pin p hp).1
def Inv.unheld(I:Inv X pins O H s)(hb:s.heap.get? b=YC):H b=YC:=by
 cases q:H b with
 | none=>rfl
 | some u=>
  obtain⟨o,e⟩:=(I.hok b u q).is;rw[hb]at e;cases e
def Inv.nofrs(I:Inv X pins O H s)(hb:b≠X.env.locals)(hf:b∉X.fs):b∉frs X.stack:=λz=>(Xn.mp (I.stkSub b z)).elim hb hf
def Inv.flown(I:Inv X pins O H s)(hch:∀b∈ch,U9 X pins H b)(keep:∀b o,b∉frs X.stack->b∉ch->s.heap.get? b=YB o->h'.get? b=YB o)
  (slot:∀b o,b∈frs X.stack->s.heap.get? b=YB o->∃sl,h'.get? b=YB { o with slots:=sl }):Inv X pins O H { s with heap:=h',toks:=t' }:=by
 have any:∀b o,b∉ch->s.heap.get? b=YB o->∃sl,h'.get? b=YB { o with slots:=sl }:=λb o n e=>by
  by_cases hb:b∈frs X.stack
  .exact slot b o hb e
  .exact⟨o.slots,keep b o hb n e⟩
 have neL:∀b o,X.s₀.heap.get? b=YB o->b≠X.env.locals:=λb o e=>Xr (Qi (XH e) I.ok.above);have neC:∀b o,X.s₀.heap.get? b=YB o->b∉ch:=λb o e hb=>by
  have:=(hch b hb).new;rw[this]at e;cases e
 have cellK:∀x c,X.env.cells.lookup x=YB c->∀v,s.heap.IsCell c v->h'.IsCell c v:=λx c e v q91=>by
  obtain⟨o,ho,hd⟩:=q91;obtain⟨sl,q⟩:=any c o (λz=>(hch c z).cel x c e rfl) ho;exact⟨_,q,hd⟩
 have nL:X.env.locals∉ch:=λz=>(hch _ z).loc rfl;refine⟨I.ok,I.os,I.bare,⟨λb o e n hb hx=>?_,λb o e n hb hx=>?_,I.base.free,λb o e hx=>?_,I.base.tups,I.base.frzs,I.base.tbls⟩,?_,λx c e=>?_,I.free,I.freeC,λp hp=>?_,λb u e=>?_,I.len⟩
 .exact keep b o (I.nofrs (neL b o e) hb) (neC b o e) (I.base.keep b o e n hb hx)
 .obtain⟨sl,e1⟩:=I.base.slot b o e n hb hx
  obtain⟨sl',e2⟩:=any b _ (neC b o e) e1;exact⟨sl',e2⟩
 .obtain⟨o',e1⟩:=I.base.there b o e hx
  obtain⟨sl,e2⟩:=any b o' (neC b o e) e1;exact⟨_,e2⟩
 .obtain⟨m,⟨o,es,ep,ho,r⟩,hl⟩:=I.loc
  obtain⟨sl,q⟩:=any _ o nL ho;refine⟨m,⟨_,es,ep,q,r⟩,λi x v e1 e2 e3=>?_⟩;obtain⟨u,rv,l⟩:=hl i x v e1 e2 e3;refine⟨u,rv,?_⟩;rcases l with l|⟨k,c,e,z⟩
  .exact .inl l
  .exact .inr ⟨k,c,e,cellK x c e _ z⟩
 .obtain⟨v,z⟩:=I.cell x c e
  exact⟨v,cellK x c e v z⟩
 .obtain⟨e,n,ne,nf,d⟩:=I.pin p hp
  exact⟨keep p.1 p.2 (I.nofrs ne nf) (λz=>(hch _ z).pin p hp rfl) e,n,ne,nf,d⟩
 .refine(I.hok b u e).stay (λc v hc q=>keep c v (λz=>?_) (λz=>?_) q) (λ_ q=>q) λ_ _ q=>q
  .have n:=I.stkFree c z
   rcases hc with rfl|hc
   .rw[n]at e;cases e
   .rw[n]at hc;cases hc
  .have n:=(hch c z).fr
   rcases hc with rfl|hc
   .rw[n]at e;cases e
   .rw[n]at hc;cases hc
def Fl(ap:YG->Prop)(C a:YG)(fl:Xe)(h:YH):Prop:=∃a0 oe vs T oT ts,h.get? a=YB oe/\(oe.cls= .ref C/\vs[0]? =YB a0)/\oe.data= .fields vs/\vs[1]? =YB (.ref T)/\T≠a/\h.get? T=YB oT/\oT.data= .fields ts/\ts[3]? =YB fl/\ap a/\ap T
def Fl0(ap:YG->Prop)(C a:YG)(h:YH):Prop:=∃a0 oe vs,h.get? a=YB oe/\(oe.cls= .ref C/\vs[0]? =YB a0)/\oe.data= .fields vs/\vs[1]? =YB .none/\ap a
def FlA(ap:YG->Prop)(fl:Xe)(C a:YG)(h:YH):Prop:=Fl ap C a .none h\/Fl0 ap C a h\/Fl ap C a fl h
theorem Fl.imp{ap ap':YG->Prop}(f:∀b,ap b->ap' b)(x:Fl ap C a fl h):Fl ap' C a fl h:=by
 obtain⟨a0,oe,vs,T,oT,ts,h1,h2,h3,h4,h5,h6,h7,h8,h9,h10⟩:=x;exact⟨a0,oe,vs,T,oT,ts,h1,h2,h3,h4,h5,h6,h7,h8,f _ h9,f _ h10⟩
def Fl.exO{ap:YG->Prop}(x:Fl ap C a fl h):ExO C a h:=by
 obtain⟨a0,oe,vs,T,oT,ts,h1,h2,h3,_⟩:=x;exact⟨oe,vs,h1,h2.1,h3⟩
section
variable {Q:Unit->Xf->Prop}
def Inv.hidFrames(I:Inv X pins O H s):s.heap.FunFrames (Bh s.heap (frs X.stack++ch)) X.stack :=
 PySem.W.funFrames_hide I.stack λenv he b hb=>Qw _ (List.mem_filterMap.mpr ⟨env,he,hb⟩)
def Inv.flyTo(I:Inv X pins O H s)(hch:∀b∈ch,U9 X pins H b)(k1:(Bh s.heap (frs X.stack++ch)).StaysIn h')(k4:∀b o,s.heap.get? b=YB o->(∀vs,o.data≠ .fields vs)->∃sl,h'.get? b=YB { o with slots:=sl }) :
  Inv X pins O H { s with heap:=h' } :=
 I.flown (t':=s.toks) hch (λb o hf hc e=>k1 b o (PySem.W.hideAll_get _ e λz=>(Qp.mp z).elim hf hc)) λb o hb e=>by
  obtain⟨_,o',ho',hd⟩:=I.stack.mem hb;rw[e]at ho';cases ho';exact k4 b o e hd
def Inv.flyT(I:Inv X pins O H s)(hex:X.ex=[])(hch:∀b∈ch,U9 X pins H b){T:YG}{oT:Obj}{ts:Array Xe}(k4:∀b o,s.heap.get? b=YB o->(∀vs,o.data≠ .fields vs)->∃sl,h'.get? b=YB { o with slots:=sl })
  (hT:(Bh s.heap (frs X.stack++ch)).get? T=YC) (h1:h'.get? T=YB oT) (h2:oT.data= .fields ts):U9 X pins H T:=by
 by_cases hc:T∈ch
 .exact hch T hc
 by_cases hf:T∈frs X.stack
 .obtain⟨_,o',ho',hd⟩:=I.stack.mem hf
  obtain⟨sl,e⟩:=k4 T o' ho' hd;rw[h1]at e;cases e;exact YZ h2 (hd ts)
 have hn:s.heap.get? T=YC:=by
  cases q:s.heap.get? T with
  | none=>rfl
  | some o=>
   have:=PySem.W.hideAll_get (frs X.stack++ch) q λz=>(Qp.mp z).elim hf hc;rw[hT]at this;cases this
 exact I.apart hex hn (I.unheld hn)
def Zj7(I:Inv X pins O H s)(hex:X.ex=[])(hst:X.stack=X.env::X.outer)(hf:X.env.frame=YB X.env.locals)(hA:A.frames=YB X.stack)(F:FlA (U9 X pins H) (JP X.env.locals) C a s.heap)
  (h:∀s',Inv X pins O H s'->Fl (U9 X pins H) C a (JP X.env.locals) s'.heap->Q () s'):Xz M A (noteFrame (.ref a) X.env) Q E s:=by
 rcases F with F|F|F
 .obtain⟨a0,oe,vs,T,oT,ts,eA,cA,dA,v1,nT,eT,dT,t3,pA,pT⟩:=F
  have hch:∀b∈[a,T],U9 X pins H b:=λb hb=>by
   rcases Xn.mp hb with rfl|hb
   .exact pA
   .rw[Xp.mp hb];exact pT
  have hen:(Bh s.heap (frs X.stack++[a,T])).get? a=YC:=V7 _ (XR _ (.head _));have hTn:(Bh s.heap (frs X.stack++[a,T])).get? T=YC:=V7 _ (XR _ (.tail _ (.head _)));have fr:=I.hidFrames (ch:=[a,T]);refine wpAny_noteFrame_onW (base:=Bh s.heap (frs X.stack++[a,T])) (outer:=X.outer) (hA.trans (by rw[hst])) (hst▸fr) hf ⟨oe,vs,T,oT,ts,eA,cA,dA,v1,hTn,nT,eT,dT,t3⟩ (λb o e=>PySem.W.of_hideAll _ e) hen λh' hN=>?_;obtain⟨k1,_,⟨oe',vs',T',oT',ts',e1,e2,e3,e4,e5,e6,e7,e8,e9⟩,k4⟩:=hN;exact h _ (I.flyTo hch k1 k4) ⟨a0,oe',vs',T',oT',ts',e1,e2,e3,e4,e6,e7,e8,e9,pA,I.flyT hex hch k4 e5 e7 e8⟩
 .obtain⟨a0,oe,vs,eA,cA,dA,v1,pA⟩:=F
  have hch:∀b∈[a],U9 X pins H b:=λb hb=>by rw[Xp.mp hb];exact pA
  have hen:(Bh s.heap (frs X.stack++[a])).get? a=YC:=V7 _ (XR _ (.head _));have fr:=I.hidFrames (ch:=[a]);unfold noteFrame;simp only[hf];refine Xb (Bc eA dA v1 ?_);rw[YQ (!1)];refine wpAny_entryW (base:=Bh s.heap (frs X.stack++[a])) (outer:=X.outer) (hA.trans (by rw[hst])) (hst▸fr) hf eA (λb o e=>PySem.W.of_hideAll _ e) hen dA (Vq.mp v1).1 cA.2 λh' hN=>?_;obtain⟨k1,_,⟨oe',vs',T',oT',ts',e1,e2,e3,e4,e5,e6,e7,e8,e9⟩,k4⟩:=hN;exact h _ (I.flyTo hch k1 k4) ⟨a0,oe',vs',T',oT',ts',e1,⟨e2.1.trans cA.1,e2.2⟩,e3,e4,e6,e7,e8,e9,pA,I.flyT hex hch k4 e5 e7 e8⟩
 .have F':=F
  obtain⟨a0,oe,vs,T,oT,ts,eA,cA,dA,v1,nT,eT,dT,t3,pA,pT⟩:=F;unfold noteFrame;simp only[hf];refine Xb (Bc eA dA v1 ?_);rw[YM (by rfl)];refine Xb (Bc eT dT t3 ?_);rw[YM (by simp)];exact Xl (h s I F')
def Zjx(I:Inv X pins O H s)(hex:X.ex=[])(F:Fl (U9 X pins H) C a fl s.heap)
  (h:∀s',Inv X pins O H s'->Fl (U9 X pins H) C a .none s'.heap->Q () s'):Xz M A (setFlight (.ref a) YC) Q E s:=by
 obtain⟨a0,oe,vs,T,oT,ts,eA,cA,dA,v1,nT,eT,dT,t3,pA,pT⟩:=F;have hch:∀b∈[a,T],U9 X pins H b:=λb hb=>by
  rcases Xn.mp hb with rfl|hb
  .exact pA
  .rw[Xp.mp hb];exact pT
 have hTn:(Bh s.heap (frs X.stack++[a,T])).get? T=YC:=V7 _ (XR _ (.tail _ (.head _)));refine wpAny_setFlight_noneW (base:=Bh s.heap (frs X.stack++[a,T])) (l:=X.stack) (λb o e=>PySem.W.of_hideAll _ e) I.hidFrames ⟨oe,vs,T,oT,ts,eA,cA,dA,v1,hTn,nT,eT,dT,t3⟩ λh' k1 _ k3 k4'=>?_;have k4:∀b o,s.heap.get? b=YB o->(∀vs,o.data≠ .fields vs)->∃sl,h'.get? b=YB { o with slots:=sl }:=λb o e n=>⟨o.slots,k4' b o e n⟩;obtain⟨oe',vs',T',oT',ts',e1,e2,e3,e4,e5,e6,e7,e8,e9⟩:=k3;exact h _ (I.flyTo hch k1 k4) ⟨a0,oe',vs',T',oT',ts',e1,e2,e3,e4,e6,e7,e8,e9,pA,I.flyT hex hch k4 e5 e7 e8⟩
theorem Zrt(I:Inv X pins O H s)(hex:X.ex=[])(hst:X.stack=X.env::X.outer)(hf:X.env.frame=YB X.env.locals)(hA:A.frames=YB X.stack)(F:FlA (U9 X pins H) (JP X.env.locals) C a s.heap)
  (h:∀s',Inv X pins O H s'->Fl (U9 X pins H) C a .none s'.heap->Q () s'):Xz M A (leaving X.env (.ref a)) Q E s:=by
 unfold leaving;exact Xb (Zj7 I hex hst hf hA F λs1 I1 F1=>Zjx I1 hex F1 h)
end
end
def Zj5(K:Xc)(C:YG):Prop:=PySem.W.excIn K C [.type "ValueError",.type "Exception",.type "BaseException",.type "object"] "ValueError.__new__"=YD
def Zuu{bmB:List Xe}{newId:String}(X:K.In h)(q:PySem.W.excIn K C bmB newId=YD) :
  ∃bm N nm qn bs hdct sn sub ab col dd k0 k1 k2 k3 k5 mN,h.get? C=YB (excClassObj nm qn C N bs bm hdct sn sub ab col dd k0 k1 k2 k3 k5 newId)/\h.Ns N mN/\mN "__init__"=YC/\OwnTail h bmB bm:=by
 unfold PySem.W.excIn at q;split at q
 case h_2=>cases q
 rename_i dd cd sl ho;split at q
 case h_2=>cases q
 rename_i C' bm k0 k1 k2 k3 n k5 hm hs;simp only[XJ,ZC,Bool.not_eq_true']at q;obtain⟨⟨⟨⟨⟨rfl,rfl⟩,e1⟩,e2⟩,e3⟩,e4⟩:=q;obtain⟨nm,bs,mro,ns,qn,hd,sn,sub,ab,col,del⟩:=cd;dsimp only at hm e1 e3 e4;subst hm e1;obtain⟨l⟩:=sl;have e5:l=[k0,k1,k2,k3,YB (.builtin n),k5]:=hs;subst e5;exact⟨bm,ns,nm,qn,bs,hd,sn,sub,ab,col,dd,k0,k1,k2,k3,k5,_,X _ _ ho,.of_isNs (PySem.W.isNs_of_in X e3),PySem.W.nsMap_none_of_in X e3 e4,PySem.W.tail_of_in X e2⟩
abbrev MXt:=Ze->(YG->Ze->Prop)->Prop
def XW(X:Cx)(C:MC X.K)(io:List Nat)(pins:List (YG×Obj))(ex:YG->Prop)(H:Hp)(fp:Fp)(k:YG->Ze->Prop)(e:Xe)(s':Xf):Prop :=
 ∃a cl O' H' δ' fp',e= .ref a/\Inv X pins O' H' s'/\FlA (U9 X pins H') (JP X.env.locals) cl a s'.heap/\Rel C io H' O' δ' fp' ex/\Kp H fp H' fp'/\k cl δ'
def XE(X:Cx)(io:List Nat)(e:YJ)(m:MXt):Prop:=∀(C:MC X.K) (pins:List (YG×Obj)) (s:Xf) (O:St) (H:Hp) (δ:Ze) (fp:Fp) (ex:YG->Prop) (k:YG->Ze->Prop),Inv X pins O H s->Rel C io H O δ fp ex->m δ k ->
 Xz (X4 X.prog X.w) X.A (eval e X.env) (λ_ _=>False) (XW X C io pins ex H fp k) s
def XS(X:Cx)(io:List Nat)(st:YK)(m:MXt):Prop:=∀(C:MC X.K) (pins:List (YG×Obj)) (s:Xf) (O:St) (H:Hp) (δ:Ze) (fp:Fp) (ex:YG->Prop) (k:YG->Ze->Prop),Inv X pins O H s->Rel C io H O δ fp ex->m δ k ->
 Xz (X4 X.prog X.w) X.A (exec st X.env) (λ_ _=>False) (XW X C io pins ex H fp k) s
def XSs(X:Cx)(io:List Nat)(sts:List YK)(m:MXt):Prop:=∀(C:MC X.K) (pins:List (YG×Obj)) (s:Xf) (O:St) (H:Hp) (δ:Ze) (fp:Fp) (ex:YG->Prop) (k:YG->Ze->Prop),Inv X pins O H s->Rel C io H O δ fp ex->m δ k ->
 Xz (X4 X.prog X.w) X.A (execs sts X.env) (λ_ _=>False) (XW X C io pins ex H fp k) s
def XW.shift{C:MC X.K}{k:YG->Ze->Prop}{e:Xe}(q:Kp H fp H1 fp1)(h:XW X C io pins ex H1 fp1 k e s):XW X C io pins ex H fp k e s:=by
 obtain⟨a,cl,O',H',δ',fp',e,I,F,R,K,hk⟩:=h;exact⟨a,cl,O',H',δ',fp',e,I,F,R,q.trans K,hk⟩
def Zuk:MXt:=λ_ _=>False
def Yd7(u:MSt)(w:MXt):MXt:=λδ k=>u { nx:=λδ'=>w δ' k,rt:=λ_ _=>False } δ
def Yil(t:MTt)(u w:MXt):MXt:=λδ k=>t δ λb δ'=>if b=YD then u δ' k else w δ' k
def Zuo(cl:YG):MXt:=λδ k=>k cl δ
section
variable {m:MXt}{a b:List YK}{u:MSt}{w v:MXt}{mt:MTt}
def Zr2:XSs X io sts Zuk:=λ_ _ _ _ _ _ _ _ _ _ _ h=>h.elim
def Zw0:XS X io st Zuk:=λ_ _ _ _ _ _ _ _ _ _ _ h=>h.elim
def Zof(h:XS X io st w):XSs X io (st::sts) w:=λC pins s O H δ fp ex k I R hm=>wpAny_execs_cons (thn (h C pins s O H δ fp ex k I R hm) λ_ _ z=>z.elim)
def Zwx(h:MS X io st u)(g:XSs X io sts w)(hx:X.xe= λ_ _=>False:=by rfl):XSs X io (st::sts) (Yd7 u w):=by
 obtain⟨t,A,sS⟩:=h;intro C pins s O H δ fp ex k I R hm;refine wpAny_execs_cons (QB (A pins s O H { nx:=λO1 H1=>∃δ1 fp1,Rel C io H1 O1 δ1 fp1 ex/\Kp H fp H1 fp1/\w δ1 k,rt:=λ_ _=>False } I
  (sS C H O δ fp ex _ _ R hm ⟨λH' O' δ' fp' R' k' h'=>⟨δ',fp',R',k',h'⟩,λ_ _ _ _ _ _ z=>z.elim,λ_ _ _ _ _ _ z=>z.elim,λ_ _ _ _ _ _ _ _ _ _ _ z=>z.elim⟩)) (λf s1 q=>?_) λe s1 q=>by rw[hx]at q;exact q.elim)
 cases f with
 | next=>
  obtain⟨O1,H1,I1,δ1,fp1,R1,k1,h1⟩:=q;exact QB (g C pins s1 O1 H1 δ1 fp1 ex k I1 R1 h1) (λ_ _ z=>z) λe s2 z=>z.shift k1
 | ret v=>obtain⟨_,_,_,_,_,z⟩:=q;exact z.elim
 | brk=>obtain⟨_,_,_,z⟩:=q;exact z.elim
 | cont=>obtain⟨_,_,_,z⟩:=q;exact z.elim
def Yc5(ht:MT X io p e mt)(ha:XSs X io a w)(hb:XSs X io b v)(hx:X.xe= λ_ _=>False:=by rfl):XS X io (.If e a b pos) (Yil mt w v):=by
 obtain⟨t,A,sT⟩:=ht;intro C pins s O H δ fp ex k I R hm;refine wpAny_If (QB (A pins s O H (λr H1=>∃δ1 fp1,Rel C io H1 O δ1 fp1 ex/\Kp H fp H1 fp1/\if r=YD then w δ1 k else v δ1 k) I
  (sT C H O δ fp ex _ _ R hm λH' r δ' fp' R' S' h'=>⟨δ',fp',R',S'.kp,h'⟩)) (λr s1 q=>?_) λe s1 q=>by rw[hx]at q;exact q.elim)
 obtain⟨H1,I1,δ1,fp1,R1,k1,h1⟩:=q;cases r with
 | true=>exact QB (ha C pins s1 O H1 δ1 fp1 ex k I1 R1 h1) (λ_ _ z=>z) λe s2 z=>z.shift k1
 | false=>exact QB (hb C pins s1 O H1 δ1 fp1 ex k I1 R1 h1) (λ_ _ z=>z) λe s2 z=>z.shift k1
def Zju(he:XE X io e m)(hs:Vi e YC pos.line X.env=pure YF:=by rfl):XS X io (.Expr e pos) m:=λC pins s O H δ fp ex k I R hm=>
 wpAny_Expr_any (thn (he C pins s O H δ fp ex k I R hm) λ_ _ z=>z.elim) I.quiet hs
def Zt9(he:XE X io e m)(hs:Vi e (YB (.Name x pos')) pos.line X.env=pure YF:=by rfl):XS X io (.Assign [.Name x pos'] e pos) m:=λC pins s O H δ fp ex k I R hm=>
 wpAny_Assign_Name (thn (he C pins s O H δ fp ex k I R hm) λ_ _ z=>z.elim) hs
def Zcw{j:Str}{jk:Nat}{np kp:Pos}(hex:X.ex=[])(hh:X.A.handled=YC)(hg:Gl X x)(hm:X.mg x=YB (.ref C))(q:Zj5 X.K C)(hd:(x==("__debug__" : Str))=YF:=by decide) :
  XS X io (.Raise (YB (.Call (.Name x np) [.Constant (.str j) jk kp] [] cpos)) YC pos) (Zuo C):=by
 intro M pins s O H δ fp ex k I R hk;obtain⟨tl,N,nm,qn,bs,hdct,sn,sub,ab,col,dd,k0,k1,k2,k3,k5,mN,hC,hN,hni,TL⟩:=Zuu I.ok.mod.kin q;refine wpAny_Raise_call_subT (C:=C) (nm:=nm) (q:=qn) (N:=N) (bs:=bs) (bm:=tl) (hdct:=hdct) (sn:=sn) (sub:=sub) (ab:=ab) (col:=col) (dd:=dd) (k0:=k0) (k1:=k1) (k2:=k2) (k3:=k3) (k5:=k5)
  PySem.F.excBase_ValueError (mN:=mN) (TL.hasType PySem.F.excBase_ValueError.hasBase) hh rfl hni (Zg2 I hg hm ⟨rfl,?_⟩ hd)
 refine Calls.evalArgs_plain ?_;refine Calls.spliced_cons ?_;show Xz _ _ (eval (.Constant (.str j) jk kp) X.env) _ _ _;refine Calls.Constant_str ?_;refine Calls.spliced_nil ?_;have I1:=I.tok (s.toks+1);refine⟨rfl,by show 1<=Xw;decide,I1.bk _ _ hC,hN.keeps I1.bk,TL.keeps I1.bk,λh' e hx=>?_⟩;obtain⟨t,e1,_,_⟩:=hx.there;have I2:=I1.kept (t':=s.toks+1) hx.keeps;exact⟨e,C,O,H,δ,fp,rfl,I2,.inr (.inl ⟨_,_,_,e1,⟨rfl,rfl⟩,rfl,rfl,I1.apart hex hx.new (I1.unheld hx.new)⟩),R,.refl _ _,hk⟩
end
def CX1(P:X3)(w:Qo):CXT:=λouter H s E e s'=>∃a C H',e= .ref a/\s'.os=s.os/\AllBare s'.gens/\Un (frs outer) [] H H' s.heap s'.heap/\HOk P w H' s'.heap/\Fl (λb=>H' b=YC/\s.heap.get? b=YC) C a .none s'.heap/\E (.ref C) YC H'
def spX(G:Xc)(S:List Xa->YG->Prop):Sp:=λvs H Q E=>∃L ds cl,Das G H L vs ds/\S ds cl/\∀H',Same H H'->E (.ref cl) YC H'
section
variable {base:YH}
theorem Fun.okX{f:YG}{fd:Ql}{n:Nat}{S:List Xa->YG->Prop}(F:Fun K x qual st f fd)(Sc:Zv N ps (Zi st))(len:∀ds cl,S ds cl->ds.length=ps.length)
  (hbody:∀(cdv:Xe) (A:Qn) (outer:List Env) (s:Xf) (H:Hp) (E:XK),Room n (A.deeper (envOfC qual (Zi st) s.heap.objs.size f cdv)) ->
   ∃m,XSs (Zvd (CX1 P w) P w K mg base N qual (Zi st) f cdv A outer s H E).nox [] (Ju st) m/\∀ds cl,S ds cl->m (Ziq N ds) (λc _=>c=cl)):FnOk P w K mg base (CX1 P w) (n+1) f fd ps (spX K S):=by
 obtain⟨oc,od,kV,doc,pm,an,cdv,ct,osl,rfl,lk,hcd⟩:=F.ex;refine Z7i lk hcd Sc (λvs H Q E h=>?_) λA outer s H vs Q E hr hsp=>?_
 .obtain⟨L,ds,cl,h1,h2,_⟩:=h
  rw[h1.length];exact len ds cl h2
 obtain⟨L,ds,cl,h1,h2,h3⟩:=hsp;obtain⟨m,hX,q⟩:=hbody cdv A outer s H E hr;refine⟨λ_ O' H'=>O'=start N vs/\H'=H,λpins s1 O1 H1 D I e=>?_,rfl,rfl⟩;obtain⟨rfl,rfl⟩:=e;refine QB (hX ⟨H1,λ_=>False,L,start N vs⟩ pins s1 _ _ _ _ _ (λc _=>c=cl) (I.wish _) (Rel.entry h1) (q ds cl h2)) (λ_ _ z=>z.elim) λe s' z=>?_;obtain⟨a,cl',O',H',δ',fp',rfl,I',F',R',K',rfl⟩:=z;exact Zrt I' rfl rfl rfl I'.ok.frames F' λs'' J FF=>⟨a,cl',H',rfl,J.os,J.bare,J.base,J.hok,FF.imp λb ap=>⟨ap.fr,ap.new⟩,h3 H' λb o e=>R'.fr b o e id⟩
end
def Rel.grown{C:MC G}{io:List Nat}{O:St}(R:Rel C io H O δ fp ex)(s:Same H H'):Rel C io H' O δ fp ex :=
 (R.made (new:=[]) s (λa m=>nomatch m)).drop λa z=>.inl z
def Zoc(S:List Xa->YG->Prop)(mr:MAt):MXt:=λδ k=>mr δ λrs δ1=>∃cl,S (OT.datas rs) cl/\k cl δ1
section
variable {k:Nat}{f:YG}{fd:Ql}
def Z14{S}(F:FnOk X.prog X.w X.K X.mg X.base (CX1 X.prog X.w) k f fd ps (spX X.K S))(hr:Room k X.A)(hg:Gl X x)(hm:X.mg x=YB (.ref f))(hk:VG X.K (.ref f)=YD)(hb:Binds X.K fd ps [])
  (ha:MA X io p c (e::es) mr) (hex:X.ex=[]:=by rfl) (hx:X.xe= λ_ _=>False:=by rfl) (hdb:(x==("__debug__" : Str))=YF:=by decide) (he:Xo (e::es) X.env=(YF,eval e X.env)::Xo es X.env:=by rfl) (hpl:(Q3 pos (Xo es X.env)).any (·.1)=YF:=by rfl) :
  XE X io (.Call (.Name x pp) (e::es) [] pos) (Zoc S mr):=by
 obtain⟨t,A,sA⟩:=ha;intro C pins s O H δ fp ex kk I R hm';refine Be (Zg2 I hg hm ?_ hdb);refine PySem.W.callWith_K (h₀:=X.base) I.ok.mod.kin hk (QB (A pos pins s O H (λvs H1=>∃δ1 fp1 L ds cl,Rel C io H1 O δ1 fp1 ex/\Kp H fp H1 fp1/\Das X.K H1 L vs ds/\S ds cl/\kk cl δ1) I
  (sA C H O δ fp ex _ _ R hm' λH1 vs rs δ1 fp1 new r1 h1=>let⟨cl,h2,h3⟩:=h1;⟨δ1,fp1,_,_,cl,r1.base,r1.stp.kp,r1.das R,h2,h3⟩)) (λus s1 ⟨vs,H1,I1,r,q⟩=>⟨I1.kIn,?_⟩) λe s1 z=>by rw[hx]at z;exact z.elim) he hpl
 obtain⟨δ1,fp1,L,ds,cl,R1,k1,hd,hS,hkk⟩:=q;have hsp:spX X.K S vs H1 (λ_ _=>False) (λc _ H'=>c= .ref cl/\Same H1 H'):=⟨L,ds,cl,hd,hS,λH' s=>⟨rfl,s⟩⟩;have hl:(us++[]).length=ps.length:=by rw[XX,<-r.length];exact F.len _ _ _ _ hsp
 have hB:=hb s1 us I1.kIn hl;rw[XX]at hB;refine wpAny_call (codeAny_mono (F.run X.A X.stack s1 H1 ⟨us,[]⟩ us vs _ _ hr I1.env0 hB r hsp) λres s' hq=>?_);cases res with
 | error e=>
  obtain⟨a,C',H',rfl,ho,bare,un,hok,FF,eC,same⟩:=hq;cases eC;have J:=I1.call' (ch:=[]) ho un hok bare λb z=>nomatch z;exact⟨a,cl,O,H',δ1,fp1,rfl,J,.inl (FF.imp λb z=>I1.apart hex z.2 z.1),R1.grown same,k1.trans (Stp.same same same.al),hkk⟩
 | ok fl=>
  cases fl with
  | ret u=>obtain⟨_,_,_,_,_,_,_,z⟩:=hq;exact z.elim
  | next=>exact Vp hq
  | brk=>exact Vp hq
  | cont=>exact Vp hq
end
section
variable {O:St}
def Inv.track(I:Inv X pins O H s)(A:U9 X pins H a){φ:YH->Prop}(h1:φ s.heap)(h2:∃o,s.heap.get? a=YB o)(h3:∀g1 g2:YH,φ g1->(∀o,g1.get? a=YB o->g2.get? a=YB o)->φ g2):Inv X pins O (upd H a (.ext φ)) s:=by
 have ne:∀b u,H b=YB u->b≠a:=λb u e=>Ym e A.fr;refine⟨I.ok,I.os,I.bare,⟨I.base.keep,I.base.slot,λb o e n hx=>?_,I.base.there,λb xs e=>?_,λb o u e=>?_,λb ps e=>?_⟩,I.loc,I.cell,?_,λx c e=>?_,λp hp=>?_,λb u e=>?_,I.len⟩
 .rw[Zk (λz=>by rw[z,A.new]at e;cases e)];exact I.base.free b o e n hx
 .have:=I.base.tups b xs e;rw[Zk (ne _ _ this)];exact this
 .have:=I.base.frzs b o u e;rw[Zk (ne _ _ this)];exact this
 .obtain⟨m,q⟩:=I.base.tbls b ps e;exact⟨m,by rw[Zk (ne _ _ q)];exact q⟩
 .rw[Zk (Bo A.loc)];exact I.free
 .rw[Zk (A.cel x c e)];exact I.freeC x c e
 .obtain⟨e,n,r⟩:=I.pin p hp
  exact⟨e,by rw[Zk (A.pin p hp)];exact n,r⟩
 .by_cases hb:b=a
  .subst hb;rw[Zq]at e;cases e;exact⟨h1,h2,h3⟩
  .rw[Zk hb]at e
   exact(I.hok b u e).stay (λc v _ q=>q) (λc q=>by rw[Zk (ne _ _ q)];exact q) λc xs q=>by rw[Zk (ne _ _ q)];exact q
abbrev Cx.suite(X:Cx)(a:YG):Cx:={ X with A:=X.A.mark (YB (.ref a)),calm:=YF }
def Inv.suite(I:Inv X pins O H s)(a:YG):Inv (X.suite a) pins O H s :=
 ⟨⟨I.ok.mod,I.ok.kind,I.ok.glob,I.ok.blt,I.ok.above,I.ok.inj,I.ok.has,I.ok.cab,λz=>(nomatch z),I.ok.frames,I.ok.stk,I.ok.exf,I.ok.bs,I.ok.bsz,I.ok.noex,I.ok.exfs,I.ok.funs,I.ok.frf⟩,I.os,I.bare,I.base,I.loc,I.cell,I.free,I.freeC,I.pin,I.hok,I.len⟩
def Inv.unsuite(ok:X.Ok)(I:Inv (X.suite a) pins O H s):Inv X pins O H s:=⟨ok,I.os,I.bare,I.base,I.loc,I.cell,I.free,I.freeC,I.pin,I.hok,I.len⟩
theorem name_goes{Q:Unit->Xf->Prop}(I:Inv X pins O H s)(hN:X.N.Nodup)(hi:X.N[i]? =YB x)(hk:X.env.scope.names.lookup x=YB .local)
  (h:∀s',Inv X pins (O.set i YC) H s'->Q () s'):Xz M A (do bindName X.env x .none;unbindBehindTheSuite X.env x pos) Q E s:=by
 obtain⟨m,hn,hl⟩:=id I.loc;have hcls:(X.env.scope.kind== .class||(X.env.scope.kind== .module&&X.env.locals !=X.env.globals))=YF:=by rw[I.ok.kind];rfl
 refine wpAny_nameGoes_keeps hk hn hcls λh' u hn' hs=>?_;obtain⟨oL,_,_,hoL,_⟩:=id hn;have neL:∀b o,X.s₀.heap.get? b=YB o->b≠X.env.locals:=λb o e=>Xr (Qi (XH e) I.ok.above);refine h _ ⟨I.ok,I.os,I.bare,⟨λb o e n hb hx=>?_,λb o e n hb hx=>?_,I.base.free,λb o e hx=>?_,I.base.tups,I.base.frzs,I.base.tbls⟩,⟨_,hn',λj y v' e1 e2 e3=>?_⟩,λy c e=>?_,I.free,I.freeC,λp hp=>?_,λb ob e=>?_,by simpa using I.len⟩
 .exact(hs.2 b (neL b o e)).trans (I.base.keep b o e n hb hx)
 .obtain⟨sl,e1⟩:=I.base.slot b o e n hb hx
  exact⟨sl,(hs.2 b (neL b o e)).trans e1⟩
 .obtain⟨o',e1⟩:=I.base.there b o e hx
  exact⟨o',(hs.2 b (neL b o e)).trans e1⟩
 .by_cases hj:j=i
  .subst hj
   have:j<O.length:=by
    have z:=(Xk.mp e2).1;simpa using z
   rw[QT this]at e2;cases e2
  .rw[Qs (Bo hj)]at e2
   obtain⟨u',r',q⟩:=hl j y v' e1 e2 e3;refine⟨u',r',?_⟩;rcases q with⟨k,e⟩|⟨k,c,e,z⟩
   .refine .inl ⟨k,?_⟩
    have:y≠x:=λe=>hj (Zje hN e1 (e▸hi));simp[this,e]
   .exact .inr ⟨k,c,e,z.sameBut hs (I.cne y c e)⟩
 .obtain⟨w',z⟩:=I.cell y c e
  exact⟨w',z.sameBut hs (I.cne y c e)⟩
 .obtain⟨e,n,ne,nf,d⟩:=I.pin p hp
  exact⟨(hs.2 p.1 ne).trans e,n,ne,nf,d⟩
 .refine(I.hok b ob e).stay (λc w' hc q=>(hs.2 c ?_).trans q) (λ_ q=>q) λ_ _ q=>q
  rintro rfl;rcases hc with rfl|hc
  .rw[I.free]at e;cases e
  .rw[I.free]at hc;cases hc
end
def Rel.forget{C:MC G}{io:List Nat}{O:St}(R:Rel C io H O δ fp ex)(hio:i∉io):∃fp',Rel C io H (O.set i YC) (δ.set i YC) fp' ex/\Kp H fp H fp':=by
 have get:∀j (t':OT),(δ.set i YC)[j]? =YB (YB t')->j≠i/\δ[j]? =YB (YB t'):=λj t' e=>by
  by_cases ej:j=i
  .subst ej
   have hl:j<δ.length:=by simpa using(Xk.mp e).1
   rw[QT hl]at e;cases e
  .rw[Qs (Bo ej)]at e;exact⟨ej,e⟩
 have sub:∀j a,a∈fpu fp i [] j->j≠i/\a∈fp j:=λj a m=>by
  by_cases ej:j=i
  .subst ej;rw[Z3]at m;exact nomatch m
  .rw[Yn ej]at m;exact⟨ej,m⟩
 have lw:∀a,Lf C fp ex a->Lf C (fpu fp i []) ex a:=λa l=>⟨λ⟨j,z⟩=>l.1 ⟨j,(sub j a z).2⟩,l.2⟩;refine⟨fpu fp i [],⟨by rw[Vf,Vf];exact R.len,λj t' e=>?_,λj h=>?_,λj=>?_,λj k a h1 h2=>R.dj j k a (sub j a h1).2 (sub k a h2).2,λj a h z=>R.dx j a (sub j a h).2 z,R.xa,R.fr,R.al,λj a h=>R.new j a (sub j a h).2,λj h=>?_⟩,λb o e _=>e,λz=>(nomatch z),λa ⟨j,z⟩=>.inl ⟨j,(sub j a z).2⟩,λb e=>e⟩
 .obtain⟨ej,e⟩:=get j t' e
  obtain⟨w,e1,o⟩:=R.own j t' e;exact⟨w,by rw[Qs (Bo ej)];exact e1,by rw[Yn ej];exact o.wide λa l _=>lw a l⟩
 .by_cases ej:j=i
  .subst ej;rw[Z3]
  .rw[Yn ej]
   exact R.emp j λt' z=>h t' (by rw[Qs (Bo ej)];exact z)
 .by_cases ej:j=i
  .subst ej;rw[Z3];exact .nil
  .rw[Yn ej];exact R.nd j
 .rw[Qs (λz=>hio (by rw[z];exact h))];exact R.io j h
def Zvz{g:Array GenState}{d:Drawn}{t:Nat}{os:OsState}{e D:YG}{oe:Obj}{Q:Bool->Xf->Prop}(X:K.In h)(q:Zj5 K D)
  (hs:Vh K (.ref C) (.ref D)=YB YD) (he:h.get? e=YB oe) (hc:oe.cls= .ref C) (hQ:Q YD ⟨h,g,d,t,os⟩):Xz M A (excMatches (.ref e) (.ref D)) Q E ⟨h,g,d,t,os⟩:=by
 obtain⟨bm,N,nm,qn,bs,hdct,sn,sub,ab,col,dd,k0,k1,k2,k3,k5,mN,hC,hN,hni,TL⟩:=Zuu X q;have L:=PySem.W.looks_subIn (M:=M) X hs;have f:=tc_notTuple;have hB:(Xy D::bm).contains (.type "BaseException")=YD:=by rw[List.contains_cons,TL.hasType PySem.F.excBase_ValueError.hasBase,Bool.or_true]
 unfold excMatches
 repeat (first|(with_reducible refine VJ he ?_;rw[hc])|with_reducible refine VJ hC ?_|(with_reducible refine Xb (JK.at L ?_))|(with_reducible refine JK.at L ?_)|(with_reducible refine wpAny_isSubtype_exc hC ?_;rw[hB])|wp_step)
 exact hQ
def Ycp(G:Xc)(Dc:YG)(i:Nat)(u:MSt)(x:MXt)(h:MSt):MSt:=λD δ=>u D δ\/x δ λcl δ'=>∃xn,ClsAt G xn cl/\(Zbl G cl/\Vh G (.ref cl) (.ref Dc)=YB YD)/\
 h { nx:=λδ2=>D.nx (δ2.set i YC),rt:=λ_ _=>False } (δ'.set i (YB (.fz (exD xn))))
section
variable {n y:Str}{Dc:YG}{b₀:YK}{suite:List YK}{hpos np:Pos}{u h:MSt}{x:MXt}
def Zyv(hN:X.N.Nodup)(hi:X.N[i]? =YB n)(hk:X.env.scope.names.lookup n=YB .local)(hg:Gl X y)(hm:X.mg y=YB (.ref Dc))(q:Zj5 X.K Dc)(hb:MSs X io body u)(hbx:XSs X io body x)(hs:∀a,MSs (X.suite a) io (b₀::suite) h)
  (hio:i∉io:=by decide) (hex:X.ex=[]:=by rfl) (hst:X.stack=X.env::X.outer:=by rfl) (hf:X.env.frame=YB X.env.locals:=by rfl) (hx:X.xe= λ_ _=>False:=by rfl) (hdb:(y==("__debug__" : Str))=YF:=by decide) :
  MS X io (.Try body [.ExceptHandler (YB (.Name y np)) (YB n) (b₀::suite) hpos] [] [] pos) (Ycp X.K Dc i u x h):=by
 refine⟨λD' O H=>∃(C:MC X.K) (δ:Ze) (fp:Fp) (ex:YG->Prop) (D:Zhe),Rel C io H O δ fp ex/\Ycp X.K Dc i u x h D δ/\RelEnds C io ex H fp D D',?_,λC H O δ fp ex D D' R hm E=>⟨C,δ,fp,ex,D,R,hm,E⟩⟩;intro pins s O H D' I hq;obtain⟨C,δ,fp,ex,D,R,hm',EE⟩:=hq;rcases hm' with hu|hr
 .obtain⟨tb,Ab,sb⟩:=hb
  refine wpAny_Try_except (QB (Ab pins s O H D' I (sb C H O δ fp ex D D' R hu EE)) (λf s1 z=>?_) λe s1 z=>by rw[hx]at z;exact z.elim);cases f with
  | next=>exact wpAny_execs_nil z
  | ret v=>exact z
  | brk=>exact z
  | cont=>exact z
 refine wpAny_Try_except (QB (hbx C pins s O H δ fp ex _ I R hr) (λ_ _ z=>z.elim) λe s1 z=>?_);obtain⟨a,cl,O1,H1,δ1,fp1,rfl,I1,F1,R1,K1,xn,hxn,⟨Z,hsub⟩,hh⟩:=z;refine Zj7 I1 hex hst hf I1.ok.frames F1 λs2 I2 F2=>Zjx I2 hex F2 λs3 I3 F3=>?_;refine wpAny_handleBy_cons (codeAny_handlers_test (Zg2 (X:=X.suite a) (I3.suite a) hg hm ?_ hdb)) (by intro z;cases z);obtain⟨oe,vs,e1,e2,e3⟩:=F3.exO;have KI:=I3.kIn;obtain⟨g3,gg3,d3,t3,os3⟩:=s3;refine Zvz KI q hsub e1 e2 (codeAny_handlers_suite_as ?_);refine Zjx I3 hex F3 λs4 I4 F4=>?_;have ap:U9 X pins H1 a:=by obtain⟨_,_,_,_,_,_,_,_,_,_,_,_,_,_,z,_⟩:=F4;exact z
 have x4:=F4.exO;have I5:Inv X pins O1 (upd H1 a (.ext (ExO cl a))) s4:=I4.track ap x4 (let⟨o,_,e,_⟩:=x4;⟨o,e⟩) λg1 g2 ⟨o,vs,z1,z2⟩ k=>⟨o,vs,k o z1,z2⟩;have sm:Same H1 (upd H1 a (.ext (ExO cl a))):=Zw ap.fr _;have R5:=R1.grown sm;obtain⟨fp2,R6,K6⟩:=RE.put (p:=YD) (RE.fz (c:=YD) R5 (Stp.refl YD _ _ _) (.exc Z hxn Zq)) R5 hio;refine Zjz (X:=X.suite a) (v:=.ref a) (I5.suite a) hN hi (.inl hk) rfl (λs5 I6=>?_) (.inr hk);obtain⟨ts,As,ss⟩:=hs a;refine QB (As pins s5 _ _ { nx:=λO' H'=>∃δ' fp',Rel C io H' O' δ' fp' ex/\Kp (upd H1 a (.ext (ExO cl a))) fp2 H' fp'/\D.nx (δ'.set i YC),rt:=λ_ _=>False } I6
  (ss C _ _ _ fp2 ex _ _ R6 hh ⟨λH' O' δ' fp' R' k' h'=>⟨δ',fp',R',k',h'⟩,λ_ _ _ _ _ _ z=>z.elim,λ_ _ _ _ _ _ z=>z.elim,λ_ _ _ _ _ _ _ _ _ _ _ z=>z.elim⟩)) (λf s6 z=>?_) λe s6 z=>by
   have z':X.xe e s6:=z;rw[hx]at z';exact z'.elim
 cases f with
 | next=>
  obtain⟨O7,H7,I7,δ7,fp7,R7,K7,h7⟩:=z;obtain⟨fp8,R8,K8⟩:=R7.forget hio;exact name_goes (I7.unsuite I4.ok) hN hi hk λs8 I8=>⟨_,_,I8,EE.nx H7 _ _ fp8 R8 (K1.trans ((Stp.same sm sm.al:Kp H1 fp1 _ fp1).trans (K6.trans (K7.trans K8)))) h7⟩
 | ret v=>obtain⟨_,_,_,_,_,w⟩:=z;exact w.elim
 | brk=>obtain⟨_,_,_,w⟩:=z;exact w.elim
 | cont=>obtain⟨_,_,_,w⟩:=z;exact w.elim
end
def Zy0(b:Bool)(k:Bool->Prop):asB (.bool b) k=k b:=rfl
def Da.exInv{v:V}(q:Da G H L v (exD x)):∃a C,v= .ref a/\Zbl G C/\ClsAt G x C/\H a=YB (.ext (ExO C a)):=by
 generalize e:exD x=d at q;cases q with
 | exc Z n h=>
  have e':=e;unfold exD at e';injection e' with e';injection e' with e' _;injection e' with e' _;injection e' with e';subst e';exact⟨_,_,rfl,Z,n,h⟩
 | _=>unfold exD at e;cases e
inductive ClsV:V->Xe->Prop where
 | own (D:YG):ClsV (.ref D) (.ref D)
 | ty (T:String):ClsV (.ty T) (.type T)
def ClsV.val{v:V}{c:Xe}(h:ClsV v c)(r:RelV v u):u=c:=by
 cases h with
 | own D=>exact r
 | ty T=>exact r
inductive ClsVs:List V->List Xe->Prop where
 | nil:ClsVs [] []
 | cons {v:V} {c:Xe} {vs:List V} {cs:List Xe}:ClsV v c->ClsVs vs cs->ClsVs (v::vs) (c::cs)
def ClsVs.vals{vs:List V}{cs:List Xe}(h:ClsVs vs cs)(k:Vals vs us):us=cs:=by
 induction h generalizing us with
 | nil=>cases k;rfl
 | cons h t ih=>
  cases k with
  | cons r q=>rw[h.val r,ih q]
theorem ClsVs.length:∀{vs:List V} {cs:List Xe},ClsVs vs cs->vs.length=cs.length
 | _,_,.nil=>rfl
 | _,_,.cons _ t=>by simp[t.length]
def Yc0(G:Xc):List V->Hp->VK->Prop:=λxs H Q=>∃a C v c b,xs=[.ref a,v]/\Zbl G C/\H a=YB (.ext (ExO C a))/\ClsV v c/\QC G (.ref C) c=YB b/\Q (.bl b) H
def Yae(G:Xc):List V->Hp->VK->Prop:=λxs H Q=>∃a C p vs cs b,xs=[.ref a,.ref p]/\Zbl G C/\H a=YB (.ext (ExO C a))/\H p=YB (.tup vs)/\ClsVs vs cs/\VF G (.ref C) cs=YB b/\Q (.bl b) H
def Zuv:Zc0 X (.builtin "isinstance") (Yc0 X.K):=by
 intro pins s O H xs us Q I r h;obtain⟨a,C,v,c,b,rfl,Z,e,hc,hb,h⟩:=h;obtain⟨u,w',rfl,r1,r2⟩:=vals2 r;cases(show u=Xy a from r1);rw[hc.val r2];obtain⟨⟨o,vs,ho,hcl,_⟩,_,_⟩:=(show ObjOk X.prog X.w H s.heap a (.ext (ExO C a))from I.hok a _ e);exact Q6 (Zj6 Z) I.kIn ⟨o,ho,hcl⟩ hb (λz=>nomatch z) λtk=>⟨.bl _,H,I.tok tk,rfl,h⟩
def Zpz:Zc0 X (.builtin "isinstance") (Yae X.K):=by
 intro pins s O H xs us Q I r h;obtain⟨a,C,p,vs,cs,b,rfl,Z,e,ep,hc,hb,h⟩:=h;obtain⟨u,w',rfl,r1,r2⟩:=vals2 r;cases(show u=Xy a from r1);cases(show w'=Xy p from r2);obtain⟨⟨o,vs',ho,hcl,_⟩,_,_⟩:=(show ObjOk X.prog X.w H s.heap a (.ext (ExO C a))from I.hok a _ e);obtain⟨_,its,q,⟨⟨oc,od,oda,osl⟩,hp,hpc,n,hpd⟩⟩:=(show ObjOk X.prog X.w H s.heap p (.tup vs)from I.hok p _ ep);dsimp only at hpc hpd;subst hpc hpd;rw[hc.vals q]at hp;exact PySem.W.kia_tup (Zj6 Z) I.kIn ⟨o,ho,hcl⟩ hp hb (λz=>nomatch z) λtk=>⟨.bl _,H,I.tok tk,rfl,h⟩
def Ybb(G:Xc)(c:Xe)(m:MEt):MEt:=λδ K=>m δ λr δ'=>∃x C b,r.data=exD x/\ClsAt G x C/\QC G (.ref C) c=YB b/\K (.fz (.bool b)) δ'
def Zz8(G:Xc)(cs:List Xe)(m:MEt):MEt:=λδ K=>m δ λr δ'=>∃x C b,r.data=exD x/\ClsAt G x C/\VF G (.ref C) cs=YB b/\K (.fz (.bool b)) δ'
section
variable {a:YJ}
def Zoa{v:V}{cv:Xe}(hb:PE X b (tC v))(hv:ClsV v cv)(hg:Gl X "isinstance")(hm:X.mg "isinstance"=YC)(hbv:Qh "isinstance"=YB (.builtin "isinstance"))(ha:ME X io p c a ma)
  (he:Xo [a,b] X.env=(YF,eval a X.env)::Xo [b] X.env:=by rfl) (he2:Xo [b] X.env=(YF,eval b X.env)::Xo [] X.env:=by rfl) (hpl:(Q3 pos (Xo [b] X.env)).any (·.1)=YF:=by rfl) :
  ME X io p YD (.Call (.Name "isinstance" pp) [a,b] [] pos) (Ybb X.K cv ma):=by
 obtain⟨_,A,s⟩:=ha;refine⟨_,Zdr Zuv hg hm hbv (Zz A (Zz hb Zcl he2) he) (!1) (!1) he hpl,?_⟩;intro C H O δ fp ex K' Q R h k;refine s C H O δ fp ex _ _ R h λH' v r δ' fp' new r1 h1=>?_;obtain⟨xn,Cx,bb,e,hn,hk,h2⟩:=h1;have q:=r1.da R;rw[e]at q;obtain⟨a,C0,rfl,Z,hn0,eh⟩:=q.exInv;have eC:C0=Cx:=by
  have:=hn0.symm.trans hn;injection this with this;injection this with this;injection this
 subst eC;exact⟨a,C0,_,cv,bb,rfl,Z,eh,hv,hk,k H' _ _ δ' fp' [] (.fz r1.base r1.stp (.bl _)) h2⟩
def Zrn{bs:List YJ}{x1}{t:TA}{vs:List V}{cs:List Xe}(hb:PA X bs t)(ht:∀O H Q,Q vs H->t O H Q)(hv:ClsVs vs cs)(hl:vs.length<=Xw)(hg:Gl X "isinstance")(hm:X.mg "isinstance"=YC)(hbv:Qh "isinstance"=YB (.builtin "isinstance"))(ha:ME X io p c a ma)
  (he:Xo [a,.Tuple bs x1 p2] X.env=(YF,eval a X.env)::Xo [.Tuple bs x1 p2] X.env:=by rfl) (he2:Xo [.Tuple bs x1 p2] X.env=(YF,eval (.Tuple bs x1 p2) X.env)::Xo [] X.env:=by rfl) (hpl:(Q3 pos (Xo [.Tuple bs x1 p2] X.env)).any (·.1)=YF:=by rfl) :
  ME X io p YD (.Call (.Name "isinstance" pp) [a,.Tuple bs x1 p2] [] pos) (Zz8 X.K cs ma):=by
 obtain⟨_,A,s⟩:=ha;refine⟨_,Zdr Zpz hg hm hbv (Zz A (Zz (Ztm hb) Zcl he2) he) (!1) (!1) he hpl,?_⟩;intro C H O δ fp ex K' Q R h k;refine s C H O δ fp ex _ _ R h λH' v r δ' fp' new r1 h1=>?_;obtain⟨xn,Cx,bb,e,hn,hk,h2⟩:=h1;have q:=r1.da R;rw[e]at q;obtain⟨a,C0,rfl,Z,hn0,eh⟩:=q.exInv;have eC:C0=Cx:=by
  have:=hn0.symm.trans hn;injection this with this;injection this with this;injection this
 subst eC;refine ht _ _ _ ⟨hl,λtp hp=>?_⟩;have sm:Same H' (upd H' tp (.tup vs)):=Zw hp _;refine⟨a,C0,tp,vs,cs,bb,rfl,Z,sm _ _ eh,Zq,hv,hk,k _ _ _ δ' fp' [] (.fz (r1.base.grown sm) ?_ (.bl _)) h2⟩;have z:=r1.stp.trans (p':=YD) (Stp.same (p:=YD) (δ:=δ') (fp:=fp') sm sm.al)
 rwa[Bool.and_true]at z
end
end L2
namespace L2
open PySem PySem.Spec PyProof.Rows PySem.P
section
variable {e t0:YG}{vs:Array Xe}{m:Str}
structure Yka(s:Xf)(e C t0:YG)(m:Str)(tk:Tok):Prop where
 ob:∃o vs,s.heap.get? e=YB o/\o.cls= .ref C/\o.data= .fields vs/\vs[0]? =YB (.ref t0)
 tx:s.heap.TupAt t0 [.str m tk]
end
section
variable {j:Str}{jk:Nat}{np kp p1:Pos}
end
end L2
namespace L2
open PySem PySem.Spec PyProof.Rows
section
variable {X:Cx}{pins:List (YG×Obj)}{O:St}{H:Hp}{s:Xf}{M:Model}{A:Qn}{E:Xe->Xf->Prop}{Q:Unit->Xf->Prop}{C a L:YG}{fl:Xe}
def Zw8(I:Inv X pins O H s)(F:Fl (U9 X pins H) C a fl s.heap)
  (h:∀s',Inv X pins O H s'->Fl (U9 X pins H) C a (JP L) s'.heap->Q () s'):Xz M A (setFlight (.ref a) (YB L)) Q E s:=by
 obtain⟨a0,oe,vs,T,oT,ts,eA,cA,dA,v1,nT,eT,dT,t3,pA,pT⟩:=F;have hsz:3<ts.size:=(Vq.mp t3).1;unfold setFlight;refine Xb (Bc eA dA v1 ?_);rw[YM (show(Xy T !=QD)=YD from by simp)];refine wpAny_setField eT dT hsz ?_;have hm:Obj.mapFields (λz=>z.setIfInBounds 3 ((YB L:Option YG).elim QD λf=>JP f)) oT={ oT with data:=.fields (ts.setIfInBounds 3 (JP L)) }:=by
  obtain⟨c1,c2,c3,c4⟩:=oT;have dT':c3= .fields ts:=dT;subst dT';rfl
 have self:=V5 (Obj.mapFields (λz=>z.setIfInBounds 3 ((YB L:Option YG).elim QD λf=>JP f))) eT (by rw[hm];rfl);have other:∀b o,b≠T->s.heap.get? b=YB o->(s.heap.update T (Obj.mapFields (λz=>z.setIfInBounds 3 ((YB L:Option YG).elim QD λf=>JP f)))).get? b=YB o:=λb o n e=>(Heap.get?_update_other _ _ (Bo n)).trans e;rw[hm]at self;refine h _ (I.flown (t':=s.toks) (ch:=[T]) (λb hb=>by rw[Xp.mp hb];exact pT) (λb o hf hc e=>other b o (λz=>hc (by simp[z])) e) λb o hb e=>?_) ⟨a0,oe,vs,T,_,_,other a oe (Bo nT) eA,cA,dA,v1,nT,self,rfl,?_,pA,pT⟩
 .obtain⟨_,o',ho',hd⟩:=I.stack.mem hb
  have hbT:b≠T:=λz=>by
   subst z;rw[eT]at ho';cases ho';exact hd ts dT
  exact⟨o.slots,other b o hbT e⟩
 .simp[hsz]
def Zt4{Cm:MC X.K}{k:YG->Ze->Prop}(hex:X.ex=[]:=by rfl)(hst:X.stack=X.env::X.outer:=by rfl)(hf:X.env.frame=YB X.env.locals:=by rfl) :
  PassesOwn (X4 X.prog X.w) X.A X.env (XW X Cm io pins ex H fp k):=by
 rintro e s' ⟨a,cl,O',H',δ',fp',rfl,I,F,R,Kp,hk⟩;refine Zj7 I hex hst hf I.ok.frames F λs1 I1 F1=>?_;have F1':=F1;obtain⟨a0,oe,vs,T,oT,ts,eA,cA,dA,v1,nT,eT,dT,t3,pA,pT⟩:=F1;show Xz _ _ _ _ _ s1;refine Xb (Bc eA dA v1 ?_);rw[YQ (by simp)];rw[hf];exact Zw8 I1 F1' λs2 I2 F2=>⟨a,cl,O',H',δ',fp',rfl,I2,.inr (.inr F2),R,Kp,hk⟩
end
def Z7r(ds:List Xa)(g:MGt)(u:MSt)(x:MXt)(δ:Ze)(k:YG->Ze->Prop):Prop:=∃(I:Nat->Ze->Prop) (r:Nat),r<ds.length/\I 0 δ/\
 (∀ i d δ',i<r->ds[i]? =YB d->I i δ'->g d δ' λδ2=>u { nx:=I (i+1),ct:=I (i+1),rt:=λ_ _=>False } δ2)/\∀d δ',ds[r]? =YB d->I r δ'->g d δ' λδ2=>x δ2 k
def Z5i(mi:MIt)(g:MGt)(u:MSt)(x:MXt):MXt:=λδ k=>mi δ λds δ1=>Z7r ds g u x δ1 k
section
variable {X:Cx}{io:List Nat}{p:Bool}{tg iter:YJ}{body:List YK}{mi:MIt}{g:MGt}{u:MSt}{x:MXt}{pos:Pos}
def XW.unpin{C:MC X.K}{more:List (YG×Obj)}{k:YG->Ze->Prop}{e:Xe}(h:XW X C io (pins++more) ex H fp k e s):XW X C io pins ex H fp k e s:=by
 obtain⟨a,cl,O',H',δ',fp',rfl,I,F,R,K,hk⟩:=h;have ap:∀b,U9 X (pins++more) H' b->U9 X pins H' b:=λb z=>⟨z.fr,z.new,z.loc,z.cel,λq hq=>z.pin q ((Qp.mp hq).elim (λm=>Qw _ m) λm=>XR _ (Qw _ m))⟩;refine⟨a,cl,O',H',δ',fp',rfl,I.unpinned,?_,R,K,hk⟩;rcases F with F|F|F
 .exact .inl (F.imp ap)
 .obtain⟨a0,oe,vs,eA,cA,dA,v1,pA⟩:=F
  exact .inr (.inl ⟨a0,oe,vs,eA,cA,dA,v1,ap _ pA⟩)
 .exact .inr (.inr (F.imp ap))
def Z9f(hc:X.calm=YD)(hi:MI X io p YD tg iter mi)(hg:MG X io YD tg g)(hb:MSs X io body u)(hbx:XSs X io body x)(hx:X.xe= λ_ _=>False:=by rfl)
  (hex:X.ex=[]:=by rfl) (hst:X.stack=X.env::X.outer:=by rfl) (hf:X.env.frame=YB X.env.locals:=by rfl) (hs:∀x,JX iter X.env x=pure x:=by intro _;rfl):XS X io (.For tg iter body [] pos) (Z5i mi g u x):=by
 obtain⟨_,A,sI⟩:=hi;obtain⟨gt,G,sg⟩:=hg;obtain⟨tb,B,sb⟩:=hb;intro C pins s O H δ fp ex k I R hm;have hp:PassesOwn (X4 X.prog X.w) X.A X.env (XW X C io pins ex H fp k):=Zt4 hex hst hf;have no:∀(E:Xe->Xf->Prop) (e:Xe) (s':Xf),X.xe e s'->E e s':=λE e s' z=>by rw[hx]at z;exact z.elim
 refine wpAny_For (QB (A pins s O H (λJ H1=>∃W:Nat->Nat->St->Hp->Prop,(∃m,W 0 m O H1)/\∀i m O' H',W i m O' H'->J.go i H'/\∃N:St->Hp->Prop,(∀O2 H2,N O2 H2->∃m',m'<m/\W (i+1) m' O2 H2)/\
   ∀x' H3,J.yld i H' x' H3->gt x' O' H3 λO4 H4=>tb { nx:=N,ct:=N,bk:=λ_ _=>False,rt:=λ_ _=>False } O4 H4\/∃δ4 fp4,Rel C io H4 O4 δ4 fp4 ex/\Kp H fp H4 fp4/\x δ4 k) I (sI C H O δ fp ex _ _ R hm λJ H1 ds δ1 fp1 R1 S1 it h1=>?_)) (λv s1 h1=>QB h1 (λitv s2 h2=>?_) (no _)) (no _)) hs
 .obtain⟨I0,r,hr,h0,turn,last⟩:=h1
  refine⟨λi n O' H'=>n=r-i/\i<=r/\∃δ' fp',Rel C io H' O' δ' fp' ex/\Kp H1 fp1 H' fp'/\I0 i δ',⟨r,rfl,QJ _,δ1,fp1,R1,.refl _ _,h0⟩,?_⟩;rintro i n O2 H2 ⟨rfl,hle,δ2,fp2,R2,k2,i2⟩;have itk:=it H2 (λb o e q=>k2.keep b o e (.inr (q.resolve_left (!1)))) i;have hlt:i<ds.length:=by omega
  have hd:ds[i]? =YB ds[i]:=Xj hlt;obtain⟨go,yl⟩:=itk.1 _ hd;refine⟨go,λO' H'=>i<r/\∃δ' fp',Rel C io H' O' δ' fp' ex/\Kp H1 fp1 H' fp'/\I0 (i+1) δ',λO' H' ⟨hir,δ',fp',R',k',i'⟩=>⟨r-(i+1),by omega,rfl,hir,δ',fp',R',k',i'⟩,λx' H3 hy=>?_⟩;obtain⟨s3,q3⟩:=yl x' H3 hy;have R3:=R2.mk0 s3;have k3:Kp H1 fp1 H3 fp2:=k2.trans ⟨λb o e _=>s3 _ _ e,λz=>(nomatch z),λa z=>.inl z,s3.al⟩
  by_cases hir:i<r
  .refine sg C H3 O2 δ2 fp2 ex x' _ _ _ R3 (IterOk.at (H':=H2) (J:=J) (ds:=ds) k2.grow q3) (turn i _ δ2 hir hd i2) λO4 δ4 fp4 R4 k4 h4=>?_
   have k5:=k3.trans k4;exact .inl (sb C H3 O4 δ4 fp4 ex _ _ R4 h4 ⟨λH' O' δ' fp' R' k' n'=>⟨hir,δ',fp',R',k5.trans k',n'⟩,λ_ _ _ _ _ _ z=>z.elim,λH' O' δ' fp' R' k' n'=>⟨hir,δ',fp',R',k5.trans k',n'⟩,λ_ _ _ _ _ _ _ _ _ _ _ z=>z.elim⟩)
  .have e:i=r:=by omega
   subst e;refine sg C H3 O2 δ2 fp2 ex x' _ _ _ R3 (IterOk.at (H':=H2) (J:=J) (ds:=ds) k2.grow q3) (last _ δ2 hd i2) λO4 δ4 fp4 R4 k4 h4=>?_;exact .inr ⟨δ4,fp4,R4,S1.kp.trans (k3.trans k4),h4⟩
 .obtain⟨it,fpi,tn,J,H2,e,I2,T,st2,f2,W,⟨m0,w0⟩,turn⟩:=h2
  subst e;have stat:∀{H':Hp},(∀b∈fpi,H' b=YC)->∀b∈fpi,Ziz X pins H' b:=λhn b hb=>⟨hn b hb,(f2 b hb).2⟩;refine codeAny_forLoop_any (λn s'=>∃i O' H',Inv X pins O' H' s'/\tn i s'.heap/\(∀b∈fpi,H' b=YC)/\W i n O' H') ?_ m0 ⟨0,O,H2,I2,st2,λb hb=>(f2 b hb).1,w0⟩;rintro n s3 ⟨i,O3,H3,I3,st3,fr3,w3⟩;obtain⟨go,N,hN,step⟩:=turn i n O3 H3 w3;refine Bf hp (QB (T.item X rfl rfl rfl hc i pins s3 O3 H3 X.xe I3 (stat fr3) st3 go) (λr s4 qz9=>?_) (no _));obtain⟨u',hr,h4⟩:=qz9;subst hr;refine Bf hp (QB h4 (λ_ s5 qz9=>?_) (no _));obtain⟨x5,H5,I5,r5,y5,st5,fr5⟩:=qz9;have I5':=I5.pinned (stat fr5) (T.obj _ _ st5);refine Bf hp (QB (G _ s5 O3 H5 x5 u' _ I5' r5 (step x5 H5 y5)) (λ_ s6 qz9=>?_) (no _));obtain⟨O6,H6,I6,q6⟩:=qz9;rcases q6 with q6|⟨δ4,fp4,R4,K4,h4⟩
  .refine Bf hp (QB (B _ s6 O6 H6 _ I6 q6) (λf s7 q7=>?_) (no _))
   have again:∀{O7:St} {H7:Hp},Inv X (pins++Zi2 fpi s5.heap) O7 H7 s7->N O7 H7->∃m,m<n/\∃i O' H',Inv X pins O' H' s7/\tn i s7.heap/\(∀b∈fpi,H' b=YC)/\W i m O' H':=fun{O7 H7} I7 n7=>by
    obtain⟨m',hm,w7⟩:=hN O7 H7 n7;refine⟨m',hm,i+1,O7,H7,I7.unpinned,T.keep _ _ _ st5 λb hb o e=>(I7.pin (b,o) (XR _ (XR _ (J3 hb e)))).1,λb hb=>?_,w7⟩;obtain⟨o,e,d⟩:=T.obj _ _ st5 b hb;exact(I7.pin (b,o) (XR _ (XR _ (J3 hb e)))).2.1
   cases f with
   | next=>obtain⟨O7,H7,I7,n7⟩:=q7;exact again I7 n7
   | cont=>obtain⟨O7,H7,I7,n7⟩:=q7;exact again I7 n7
   | brk=>obtain⟨_,_,_,z⟩:=q7;exact z.elim
   | ret v=>obtain⟨_,_,_,_,_,z⟩:=q7;exact z.elim
  .exact Bf hp (QB (hbx C _ s6 O6 H6 δ4 fp4 ex k I6 R4 h4) (λ_ _ z=>z.elim) λe s7 z=>(z.shift K4).unpin)
end
abbrev FE:=Ze->Option (OT×Ze)
abbrev FA:=Ze->Option (List OT×Ze)
abbrev FT:=Ze->Option (Bool×Ze)
abbrev FI:=Ze->Option (List Xa×Ze)
abbrev FO:=Ze->Option (Option Int×Ze)
abbrev FG:=Xa->Ze->Option Ze
abbrev FGs:=List Xa->Ze->Option Ze
def o2(f:Ze->Option (Y×Ze)):Ze->(Y->Ze->Prop)->Prop:=λδ K=>∃r δ',f δ=YB (r,δ')/\K r δ'
def oG(g:FG):MGt:=λd δ k=>∃δ',g d δ=YB δ'/\k δ'
def oGs(g:FGs):Zrz:=λd δ k=>∃δ',g d δ=YB δ'/\k δ'
section
variable {X:Cx}{io:List Nat}{p c:Bool}{e tg:YJ}{es:List YJ}{m m':MEt}{mr mr':MAt}{mt mt':MTt}{mi mi':MIt}{g g':MGt}{gs gs':Zrz}{mo mo':MOt}{st:YK}{sts:List YK}{u u':MSt}{eo:Option YJ}
def ME.weak(h:ME X io p c e m)(w:∀δ K,m' δ K->m δ K):ME X io p c e m':=let⟨t,A,s⟩:=h;⟨t,A,λC H O δ fp ex K Q R h k=>s C H O δ fp ex K Q R (w δ K h) k⟩
def MA.weak(h:MA X io p c es mr)(w:∀δ K,mr' δ K->mr δ K):MA X io p c es mr':=let⟨t,A,s⟩:=h;⟨t,A,λC H O δ fp ex K Q R h k=>s C H O δ fp ex K Q R (w δ K h) k⟩
def MT.weak(h:MT X io p e mt)(w:∀δ K,mt' δ K->mt δ K):MT X io p e mt':=let⟨t,A,s⟩:=h;⟨t,A,λC H O δ fp ex K Q R h k=>s C H O δ fp ex K Q R (w δ K h) k⟩
def MW.weak(h:MW X io p e mt)(w:∀δ K,mt' δ K->mt δ K):MW X io p e mt':=let⟨t,A,s⟩:=h;⟨t,A,λC H O δ fp ex K Q R h k=>s C H O δ fp ex K Q R (w δ K h) k⟩
def MIfs.weak(h:MIfs X io p es mt)(w:∀δ K,mt' δ K->mt δ K):MIfs X io p es mt':=let⟨t,A,s⟩:=h;⟨t,A,λC H O δ fp ex K Q R h k=>s C H O δ fp ex K Q R (w δ K h) k⟩
def MI.weak(h:MI X io p c tg e mi)(w:∀δ K,mi' δ K->mi δ K):MI X io p c tg e mi':=let⟨t,A,s⟩:=h;⟨t,A,λC H O δ fp ex K Q R h k=>s C H O δ fp ex K Q R (w δ K h) k⟩
def MO.weak(h:MO X io p eo mo)(w:∀δ K,mo' δ K->mo δ K):MO X io p eo mo':=let⟨t,A,s⟩:=h;⟨t,A,λC H O δ fp ex K Q R h k=>s C H O δ fp ex K Q R (w δ K h) k⟩
def MG.weak(h:MG X io c tg g)(w:∀d δ K,g' d δ K->g d δ K):MG X io c tg g':=let⟨t,A,s⟩:=h;⟨t,A,λC H O δ fp ex v d k Q R q h kk=>s C H O δ fp ex v d k Q R q (w d δ k h) kk⟩
def MGs.weak(h:MGs X io c es gs)(w:∀d δ K,gs' d δ K->gs d δ K):MGs X io c es gs':=let⟨t,A,s⟩:=h;⟨t,A,λC H O δ fp ex v d k Q R q h kk=>s C H O δ fp ex v d k Q R q (w d δ k h) kk⟩
def MS.weak(h:MS X io st u)(w:∀D δ,u' D δ->u D δ):MS X io st u':=let⟨t,A,s⟩:=h;⟨t,A,λC H O δ fp ex D D' R h E=>s C H O δ fp ex D D' R (w D δ h) E⟩
def MSs.weak(h:MSs X io sts u)(w:∀D δ,u' D δ->u D δ):MSs X io sts u':=let⟨t,A,s⟩:=h;⟨t,A,λC H O δ fp ex D D' R h E=>s C H O δ fp ex D D' R (w D δ h) E⟩
end
def Z0(i:Nat):FE:=λδ=>match δ[i]? with|some (YB (.fz d))=>YB (.fz d,δ)|_=>YC
def Zd5(i:Nat):FE:=λδ=>match δ[i]? with|some (YB t)=>YB (.fz t.data,δ)|_=>YC
def fC(d:Xa):FE:=λδ=>YB (.fz d,δ)
def Zd(g:Xa->Xa->Option Xa)(a b:FE):FE:=λδ=>(a δ).bind λp=>(b p.2).bind λq=>(g p.1.data q.1.data).bind λd=>YB (.fz d,q.2)
def Z4(g:Xa->Xa->Option OT)(a b:FE):FE:=λδ=>(a δ).bind λp=>(b p.2).bind λq=>(g p.1.data q.1.data).bind λd=>YB (d,q.2)
def fUn(g:Xa->Option Xa)(a:FE):FE:=λδ=>(a δ).bind λp=>(g p.1.data).bind λd=>YB (.fz d,p.2)
def Yce(a b:FE):FE:=λδ=>(a δ).bind λp=>match p.1.data with| .bool YD=>b p.2| .bool YF=>YB (.fz (.bool YF),p.2)|_=>YC
def fOr(a b:FE):FE:=λδ=>(a δ).bind λp=>match p.1.data with| .bool YD=>YB (.fz (.bool YD),p.2)| .bool YF=>b p.2|_=>YC
def fIf(t:FT)(a b:FE):FE:=λδ=>(t δ).bind λp=>if p.1=YD then a p.2 else b p.2
def tV(e:FE):FT:=λδ=>(e δ).bind λp=>match p.1 with| .fz (.bool b)=>YB (b,p.2)|_=>YC
def tNo(t:FT):FT:=λδ=>(t δ).bind λp=>YB (!p.1,p.2)
def tAn(t u:FT):FT:=λδ=>(t δ).bind λp=>if p.1=YD then u p.2 else YB (YF,p.2)
def tO(t u:FT):FT:=λδ=>(t δ).bind λp=>if p.1=YD then YB (YD,p.2)else u p.2
def tD(e:FE):FT:=λδ=>(e δ).bind λp=>(Zxb p.1.data).bind λb=>YB (b,p.2)
def Z5:FA:=λδ=>YB ([],δ)
def Zf(e:FE)(a:FA):FA:=λδ=>(e δ).bind λp=>(a p.2).bind λq=>YB (p.1::q.1,q.2)
def Zbv(a:FA):FE:=λδ=>(a δ).bind λp=>if p.1.length<=Xw then YB (.fz (.tuple (OT.datas p.1)),p.2)else YC
def Zc2(a:FA):FE:=λδ=>(a δ).bind λp=>if p.1.length<=Xw then YB (.nd p.1,p.2)else YC
def Zu2(e:FE):FE:=λδ=>(e δ).bind λp=>if Jf p.1.data=YD then YB (.fz p.1.data,p.2)else YC
def Z68(e:FE):FE:=λδ=>(e δ).bind λp=>if Z4g p.1=YD then YB (p.1,p.2)else YC
inductive RF where
 | ok (r:OT)
 | exn (c:Str)
 | bad
abbrev FD:=List Xa->RF
abbrev FIO:=OT->List Xa->Option (OT×OT)
def Yo(F:FD)(a:FA):FE:=λδ=>(a δ).bind λp=>match F (OT.datas p.1)with| .ok r=>YB (r,p.2)|_=>YC
def Z0b(i:Nat)(F:FIO)(a:FA):FE:=λδ=>match δ[i]? with
 | some (YB _)=>(a δ).bind λp=>match p.2[i]? with
  | some (YB t)=>(F t (OT.datas p.1)).bind λq=>YB (q.1,p.2.set i (YB q.2))
  | _=>YC
 | _=>YC
def Zem(g:List Xa->Option Xa)(a:FA):FE:=λδ=>(a δ).bind λp=>(g (OT.datas p.1)).bind λd=>YB (.fz d,p.2)
def fBl(g:List Xa->Option OT)(a:FA):FE:=λδ=>(a δ).bind λp=>(g (OT.datas p.1)).bind λd=>YB (d,p.2)
def Ycd(T:String)(e:FE):FE:=λδ=>(e δ).bind λp=>if Zkx p.1.data=YD then YC else YB (.fz (.bool (Zvm T p.1.data)),p.2)
def oN:FO:=λδ=>YB (YC,δ)
def oI(e:FE):FO:=λδ=>(e δ).bind λp=>match p.1.data with| .int i=>YB (YB i,p.2)|_=>YC
def fSl(e:FE)(lo hi:FO):FE:=λδ=>(e δ).bind λp=>(lo p.2).bind λq=>(hi q.2).bind λr=>match p.1.data with| .list ds=>YB (.nd ((cutD ds q.1 r.1).map OT.fz),r.2)|_=>YC
def Zd7(f g:Int->Int->Bool)(a b c:FE):FE:=λδ=>(a δ).bind λp=>(b p.2).bind λq=>match p.1.data,q.1.data with
 | .int i,.int j=>if f i j=YD then(c q.2).bind λr=>match r.1.data with| .int k=>YB (.fz (.bool (g j k)),r.2)|_=>YC else YB (.fz (.bool YF),q.2)
 | _,_=>YC
def Zf0(e:FE):FI:=λδ=>(e δ).bind λp=>match p.1.data with| .list ds=>YB (ds,p.2)|_=>YC
def iTp(e:FE):FI:=λδ=>(e δ).bind λp=>match p.1.data with| .tuple ds=>YB (ds,p.2)|_=>YC
def rOk(j:Int):Bool:=decide (-(2^62)<=j)&&decide (j<2^62)
def Zew{j:Int}(h:rOk j=YD):-(2^62)<=j/\j<2^62:=by
 unfold rOk at h;rw[XJ]at h;exact⟨YX h.1,YX h.2⟩
def Zog{j:Int}(h0:-1000000<=j)(h1:j<=1000000):rOk j=YD:=by
 unfold rOk;rw[YS (show -(2^62)<=j by omega),YS (show j<2^62 by omega)];rfl
def iRa(a:FA):FI:=λδ=>(a δ).bind λp=>match OT.datas p.1 with|[.int j]=>if rOk j=YD then YB (Zdk 0 j.toNat,p.2)else YC|_=>YC
def iRb(a:FA):FI:=λδ=>(a δ).bind λp=>match OT.datas p.1 with|[.int i,.int j]=>if(rOk i&&rOk j)=YD then YB (Zdk i (j-i).toNat,p.2)else YC|_=>YC
def Z6b(a:FA):FI:=λδ=>(a δ).bind λp=>match OT.datas p.1 with|[.list as,.list bs]=>YB (Zme as bs,p.2)|_=>YC
def gNm(i:Nat):FG:=λd δ=>YB (δ.set i (YB (.fz d)))
def Z8j(i:Nat):FG:=λd δ=>if Jf d=YD then YB (δ.set i (YB (.fz d)))else YC
def gNl:FGs:=λds δ=>match ds with|[]=>YB δ|_=>YC
def gCn(g:FG)(gs:FGs):FGs:=λds δ=>match ds with|d::r=>(g d δ).bind (gs r)|[]=>YC
def gTp(n:Nat)(gs:FGs):FG:=λd δ=>match d with| .tuple ds=>if ds.length=n then gs ds δ else YC|_=>YC
def gLs(n:Nat)(gs:FGs):FG:=λd δ=>match d with| .list ds=>if ds.length=n then gs ds δ else YC|_=>YC
def compLoop(g:FG)(t:FT)(e:FE):List Xa->Ze->Option (List OT×Ze)
 | [],δ=>YB ([],δ)
 | d::ds,δ=>(g d δ).bind λδ1=>(t δ1).bind λp=>if p.1=YD then(e p.2).bind λq=>(compLoop g t e ds q.2).bind λz=>YB (q.1::z.1,z.2)else compLoop g t e ds p.2
def Wk(n:Nat)(caps:List Nat)(it:FI)(g:FG)(t:FT)(e:FE):FE:=λδ=>(it δ).bind λp=>if p.1.length<=Xw then(compLoop g t e p.1 (blk n caps p.2)).bind λz=>YB (.nd z.1,p.2)else YC
def Zh5:FT:=λδ=>YB (YD,δ)
inductive RS where
 | nx (δ:Ze)
 | rt (r:OT) (δ:Ze)
 | bk (δ:Ze)
 | ct (δ:Ze)
 | ex (c:Str) (δ:Ze)
 | bad
abbrev FS:=Ze->RS
def RS.fits(D:Zhe):RS->Prop
 | .nx δ=>D.nx δ
 | .rt r δ=>D.rt r δ
 | .bk δ=>D.bk δ
 | .ct δ=>D.ct δ
 | _=>False
def oS(f:FS):MSt:=λD δ=>(f δ).fits D
def xS(K:Xc)(f:FS):MXt:=λδ k=>∃c C δ',f δ= .ex c δ'/\ClsAt K c C/\k C δ'
def Zt(f g:FS):FS:=λδ=>match f δ with| .nx δ'=>g δ'|r=>r
def fNx:FS:=λδ=>.nx δ
def Yjx:FS:=λδ=>.bk δ
def Yi4:FS:=λδ=>.ct δ
def wE(e:FE)(k:OT->Ze->RS):FS:=λδ=>match e δ with|some (r,δ')=>k r δ'|none=>.bad
def wX(F:FD)(a:FA)(k:OT->Ze->RS):FS:=λδ=>match a δ with
 | some (rs,δ1)=>match F (OT.datas rs)with
  | .ok r=>k r δ1
  | .exn c=>.ex c δ1
  | .bad=>.bad
 | none=>.bad
def Zkh:OT->Ze->RS:=λ_ δ=>.nx δ
def Zam:OT->Ze->RS:=λr δ=>.rt r δ
def Ydz:OT->Ze->RS:=λr δ=>if Jf r.data=YD then .rt (.fz r.data) δ else .bad
def Y8(i:Nat):OT->Ze->RS:=λr δ=>.nx (δ.set i (YB (.fz r.data)))
def Yck(i:Nat):OT->Ze->RS:=λr δ=>if Jf r.data=YD then .nx (δ.set i (YB (.fz r.data)))else .bad
def J7(i:Nat):OT->Ze->RS:=λr δ=>.nx (δ.set i (YB r))
def Zw4(g:FG):OT->Ze->RS:=λr δ=>match g r.data δ with|some δ'=>.nx δ'|none=>.bad
def Ycm:FS:=λδ=>.rt (.fz .none) δ
def Zb9(i:Nat):FS:=λδ=>match δ[i]? with|some (YB t)=>.rt t (δ.set i YC)|_=>.bad
def Ws(t:FT)(u w:FS):FS:=λδ=>match t δ with|some (b,δ')=>if b=YD then u δ' else w δ'|none=>.bad
def Zhl(c:Str):FS:=λδ=>.ex c δ
def Yh(i:Nat)(e:FE):FS:=λδ=>match δ[i]? with
 | some (YB (.nd _))=>wE e (λr δ1=>match δ1[i]? with
  | some (YB (.nd ts))=>if ts.length<Xw then .nx (δ1.set i (YB (.nd (ts++[.fz r.data]))))else .bad
  | _=>.bad) δ
 | _=>.bad
def Zoj(i:Nat)(e:FE):FS:=λδ=>match δ[i]? with
 | some (YB (.nd _))=>wE e (λr δ1=>match δ1[i]? with
  | some (YB (.nd ts))=>if ts.length<Xw then .nx (δ1.set i (YB (.nd (ts++[r]))))else .bad
  | _=>.bad) δ
 | _=>.bad
def Z49(i:Nat)(e j:FE):FS:=wE e λr δ1=>match δ1[i]? with
 | some (YB (.nd ts))=>wE j (λn _=>match n.data with
  | .int k=>match ixN ts.length k with
   | some j=>.nx (δ1.set i (YB (.nd (ts.set j (.fz r.data)))))
   | none=>.bad
  | _=>.bad) δ1
 | _=>.bad
def Za1(i:Nat)(u:FS):FS:=λδ=>match δ[i]? with|some (YB t)=>u (δ.set i (YB (.fz t.data)))|_=>.bad
def forLoop(g:FG)(u:FS):List Xa->Ze->RS
 | [],δ=>.nx δ
 | d::ds,δ=>match g d δ with
  | none=>.bad
  | some δ1=>match u δ1 with
   | .nx δ2=>forLoop g u ds δ2
   | .ct δ2=>forLoop g u ds δ2
   | .bk δ2=>.nx δ2
   | r=>r
def Jx(it:FI)(g:FG)(u:FS):FS:=λδ=>match it δ with|some (ds,δ1)=>forLoop g u ds δ1|none=>.bad
def whileLoop(t:FT)(u:FS):Nat->Ze->RS
 | 0,_=>.bad
 | n+1,δ=>match t δ with
  | none=>.bad
  | some (b,δ1)=>if b=YD then match u δ1 with
   | .nx δ2=>whileLoop t u n δ2
   | .ct δ2=>whileLoop t u n δ2
   | .bk δ2=>.nx δ2
   | .rt r δ2=>.rt r δ2
   | _=>.bad
   else .nx δ1
open Classical in
def Zi0(t:FT)(u:FS):FS:=λδ=>if h:∃n,whileLoop t u n δ≠ .bad then whileLoop t u (Classical.choose h) δ else .bad
def Zqy(c d:Str):Bool:=c==d||d==("CutError" : Str)||d==("ValueError" : Str)
def Zxw(xs:List Str)(u:FS)(D:Str)(i:Nat)(h:FS):FS:=λδ=>match u δ with
 | .ex c δ'=>if(xs.contains c&&Zqy c D)=YD then match h (δ'.set i (YB (.fz (exD c))))with
   | .nx δ2=>.nx (δ2.set i YC)
   | _=>.bad
  else .bad
 | r=>r
def Zck(n:Nat)(ds:List Xa):Ze:=ds.map (λd=>YB (.fz d))++Qm (n-ds.length) YC
def Ydj(n:Nat)(t:OT)(ds:List Xa):Ze:=YB t::(ds.map (λd=>YB (.fz d))++Qm (n-(ds.length+1)) YC)
def RS.told:RS->RF
 | .nx _=>.ok (.fz .none)
 | .rt r _=>.ok r
 | .ex c _=>.exn c
 | _=>.bad
def Jv(np n:Nat)(S:FS):FD:=λds=>if ds.length=np then(S (Zck n ds)).told else .bad
def sD(F:FD):List Xa->(OT->Prop)->Prop:=λds k=>∃r,F ds= .ok r/\k r
def sI(F:FIO):OT->List Xa->(OT->OT->Prop)->Prop:=λt ds k=>∃r t',F t ds=YB (r,t')/\k r t'
def sX(K:Xc)(F:FD):List Xa->YG->Prop:=λds cl=>∃c,F ds= .exn c/\ClsAt K c cl
def bs{Y β:Type}{x:Option Y}{f:Y->Option β}{b:β}(h:x.bind f=YB b):∃a,x=YB a/\f a=YB b:=Option.bind_eq_some_iff.mp h
section
variable {X:Cx}{io:List Nat}{p c:Bool}{e tg:YJ}{es:List YJ}{st:YK}{sts:List YK}{eo:Option YJ}{fa fb fc:FE}{ra:FA}{ta tb:FT}{i:Nat}
def Zj(h:ME X io p c e (Ycb i)):ME X io p c e (o2 (Z0 i)):=h.weak λδ K q91=>by
 obtain⟨r,δ',h,k⟩:=q91;unfold Z0 at h;unfold Ycb;split at h
 .rename_i d hd;(try rw[hd]);cases h;exact k
 .cases h
def Zyz(h:ME X io p c e (Ybt i)):ME X io p c e (o2 (Zd5 i)):=h.weak λδ K q92=>by
 obtain⟨r,δ',h,k⟩:=q92;unfold Zd5 at h;unfold Ybt;split at h
 .rename_i d hd;(try rw[hd]);cases h;exact k
 .cases h
theorem Zeb{d:Xa}(h:ME X io p c e (mC d)):ME X io p c e (o2 (fC d)):=h.weak λδ K ⟨r,δ',h,k⟩=>by cases h;exact k
def ByS(g:Xa->Xa->Option Xa)(rp:Xa->Xa->(Xa->Prop)->Prop):Prop:=∀d e r k,g d e=YB r->k r->rp d e k
def ByO(g:Xa->Xa->Option OT)(rp:Xa->Xa->(OT->Prop)->Prop):Prop:=∀d e r k,g d e=YB r->k r->rp d e k
def Zy4{g rp}(G:ByS g rp){K:OT->Ze->Prop}(h:o2 (Zd g fa fb) δ K):Zmg rp (o2 fa) (o2 fb) δ K:=by
 obtain⟨r,δ',h,k⟩:=h;obtain⟨⟨x,δ1⟩,h1,h⟩:=bs h;obtain⟨⟨y,δ2⟩,h2,h⟩:=bs h;obtain⟨d,h3,h⟩:=bs h;cases h;exact⟨x,δ1,h1,y,δ2,h2,G _ _ _ _ h3 k⟩
def Zay{g rp}(G:ByS g rp)(h:ME X io p c e (Zmg rp (o2 fa) (o2 fb))):ME X io p c e (o2 (Zd g fa fb)):=h.weak λδ K z=>Zy4 G z
def Yek{f:FE}{K:Bool->Ze->Prop}(h:o2 (tV f) δ K):o2 f δ (kB K):=by
 obtain⟨b,δ',h,k⟩:=h;obtain⟨⟨x,δ1⟩,h1,h⟩:=bs h;refine⟨x,δ1,h1,?_⟩;unfold kB
 try dsimp only at h|-
 split at h
 .cases h;exact k
 .cases h
theorem W2{g rp}(G:ByS g rp)(h:MT X io p e (λδ K=>Zmg rp (o2 fa) (o2 fb) δ (kB K))):MT X io p e (o2 (tV (Zd g fa fb))):=h.weak λδ K z=>Zy4 G (Yek z)
def J9{g rp}(G:ByO g rp)(h:ME X io p c e (Z58 rp (o2 fa) (o2 fb))):ME X io p c e (o2 (Z4 g fa fb)):=h.weak λδ K h=>by
 obtain⟨r,δ',h,k⟩:=h;obtain⟨⟨x,δ1⟩,h1,h⟩:=bs h;obtain⟨⟨y,δ2⟩,h2,h⟩:=bs h;obtain⟨d,h3,h⟩:=bs h;cases h;exact⟨x,δ1,h1,y,δ2,h2,G _ _ _ _ h3 k⟩
def Zq7:Xa->Option Xa| .int i=>YB (.int (-i))|_=>YC
def Yey:Xa->Option Xa| .bool b=>YB (.bool (!b))|_=>YC
def Zoe(h:ME X io p c e (Ygg (o2 fa))):ME X io p c e (o2 (fUn Zq7 fa)):=h.weak λδ K h=>by
 obtain⟨r,δ',h,k⟩:=h;obtain⟨⟨x,δ1⟩,h1,h⟩:=bs h;obtain⟨d,h3,h⟩:=bs h;cases h;refine⟨x,δ1,h1,?_⟩;dsimp only at h3|-
 cases q:x.data<;>rw[q]at h3<;>cases h3
 exact k
def Z2p(h:ME X io p c e (Z53 (o2 fa))):ME X io p c e (o2 (fUn Yey fa)):=h.weak λδ K h=>by
 obtain⟨r,δ',h,k⟩:=h;obtain⟨⟨x,δ1⟩,h1,h⟩:=bs h;obtain⟨d,h3,h⟩:=bs h;cases h;refine⟨x,δ1,h1,?_⟩;dsimp only at h3|-
 cases q:x.data<;>rw[q]at h3<;>cases h3
 exact k
def Z26(h:ME X io p c e (Z80 (o2 fa) (o2 fb))):ME X io p c e (o2 (Yce fa fb)):=h.weak λδ K h=>by
 obtain⟨r,δ',h,k⟩:=h;obtain⟨⟨x,δ1⟩,h1,h⟩:=bs h;refine⟨x,δ1,h1,?_⟩
 try dsimp only at h|-
 split at h
 .rename_i q;(try rw[q]);rw[Zy0,YM rfl];exact⟨r,δ',h,k⟩
 .rename_i q;(try rw[q]);cases h;rw[Zy0,YQ Xx];exact k
 .cases h
theorem Yea(h:ME X io p c e (mIf (o2 ta) (o2 fa) (o2 fb))):ME X io p c e (o2 (fIf ta fa fb)):=h.weak λδ K h=>by
 obtain⟨r,δ',h,k⟩:=h;obtain⟨⟨x,δ1⟩,h1,h⟩:=bs h;refine⟨x,δ1,h1,?_⟩
 try dsimp only at h|-
 split at h
 .rename_i q;rw[YM q];exact⟨r,δ',h,k⟩
 .rename_i q;rw[YQ q];exact⟨r,δ',h,k⟩
def Zil(h:MT X io p e (Yg8 (o2 ta))):MT X io p e (o2 (tNo ta)):=h.weak λδ K h=>by
 obtain⟨r,δ',h,k⟩:=h;obtain⟨⟨x,δ1⟩,h1,h⟩:=bs h;cases h;exact⟨x,δ1,h1,k⟩
def Znu(h:MW X io p e (Yhm (o2 ta) (o2 tb))):MW X io p e (o2 (tAn ta tb)):=h.weak λδ K h=>by
 obtain⟨r,δ',h,k⟩:=h;obtain⟨⟨x,δ1⟩,h1,h⟩:=bs h;refine⟨x,δ1,h1,?_⟩
 try dsimp only at h|-
 split at h
 .rename_i q;rw[YM q];exact⟨r,δ',h,k⟩
 .rename_i q;rw[YQ q];cases h;exact k
def Zna(h:MW X io p e (mOr (o2 ta) (o2 tb))):MW X io p e (o2 (tO ta tb)):=h.weak λδ K h=>by
 obtain⟨r,δ',h,k⟩:=h;obtain⟨⟨x,δ1⟩,h1,h⟩:=bs h;refine⟨x,δ1,h1,?_⟩
 try dsimp only at h|-
 split at h
 .rename_i q;rw[YM q];cases h;exact k
 .rename_i q;rw[YQ q];exact⟨r,δ',h,k⟩
def Zma(h:MT X io p e (Yib (o2 fa))):MT X io p e (o2 (tD fa)):=h.weak λδ K h=>by
 obtain⟨r,δ',h,k⟩:=h;obtain⟨⟨x,δ1⟩,h1,h⟩:=bs h;obtain⟨d,h3,h⟩:=bs h;cases h;refine⟨x,δ1,h1,?_⟩;dsimp only at h3|-
 rw[h3];exact k
def Z8(h:MA X io p c es Ygw):MA X io p c es (o2 Z5):=h.weak λδ K ⟨r,δ',h,k⟩=>by cases h;exact k
def Z4d(h:MA X io p c es (Z8i (o2 fa) (o2 ra))):MA X io p c es (o2 (Zf fa ra)):=h.weak λδ K h=>by
 obtain⟨r,δ',h,k⟩:=h;obtain⟨⟨x,δ1⟩,h1,h⟩:=bs h;obtain⟨⟨y,δ2⟩,h2,h⟩:=bs h;cases h;exact⟨x,δ1,h1,y,δ2,h2,k⟩
def Zpd(h:ME X io p c e (Yhs (o2 ra))):ME X io p c e (o2 (Zbv ra)):=h.weak λδ K h=>by
 obtain⟨r,δ',h,k⟩:=h;obtain⟨⟨x,δ1⟩,h1,h⟩:=bs h;refine⟨x,δ1,h1,?_⟩;dsimp only at h;split at h
 .rename_i q;cases h;exact⟨q,k⟩
 .cases h
def Zo2(h:ME X io p c e (Ygd (o2 ra))):ME X io p c e (o2 (Zc2 ra)):=h.weak λδ K h=>by
 obtain⟨r,δ',h,k⟩:=h;obtain⟨⟨x,δ1⟩,h1,h⟩:=bs h;refine⟨x,δ1,h1,?_⟩;dsimp only at h;split at h
 .rename_i q;cases h;exact⟨q,k⟩
 .cases h
def Z1e(h:ME X io p c e (Z9i (o2 fa))):ME X io p c e (o2 (Zu2 fa)):=h.weak λδ K h=>by
 obtain⟨r,δ',h,k⟩:=h;obtain⟨⟨x,δ1⟩,h1,h⟩:=bs h;refine⟨x,δ1,h1,?_⟩;dsimp only at h;split at h
 .rename_i q;cases h;exact⟨q,k⟩
 .cases h
def Wq{F:FD}(h:ME X io p c e (Z1z (sD F) (o2 ra))):ME X io p c e (o2 (Yo F ra)):=h.weak λδ K h=>by
 obtain⟨r,δ',h,k⟩:=h;obtain⟨⟨x,δ1⟩,h1,h⟩:=bs h;refine⟨x,δ1,h1,?_⟩;dsimp only at h;split at h
 .rename_i q;cases h;exact⟨_,q,k⟩
 .cases h
def Zel{g rp}(G:∀ds r k,g ds=YB r->k r->rp ds k)(h:ME X io p c e (Ydo rp (o2 ra))):ME X io p c e (o2 (Zem g ra)):=h.weak λδ K h=>by
 obtain⟨r,δ',h,k⟩:=h;obtain⟨⟨x,δ1⟩,h1,h⟩:=bs h;obtain⟨d,h3,h⟩:=bs h;cases h;exact⟨x,δ1,h1,G _ _ _ h3 k⟩
def Zxi{g rp}(G:∀ds r k,g ds=YB r->k r->rp ds k)(h:ME X io p c e (mBl rp (o2 ra))):ME X io p c e (o2 (fBl g ra)):=h.weak λδ K h=>by
 obtain⟨r,δ',h,k⟩:=h;obtain⟨⟨x,δ1⟩,h1,h⟩:=bs h;obtain⟨d,h3,h⟩:=bs h;cases h;exact⟨x,δ1,h1,G _ _ _ h3 k⟩
def Zz3{T:String}(h:ME X io p c e (Yhr T (o2 fa))):ME X io p c e (o2 (Ycd T fa)):=h.weak λδ K h=>by
 obtain⟨r,δ',h,k⟩:=h;obtain⟨⟨x,δ1⟩,h1,h⟩:=bs h
 by_cases hf:Zkx x.data=YD
 .have h':(if Zkx x.data=YD then YC else YB (OT.fz (.bool (Zvm T x.data)),δ1))=YB (r,δ'):=h
  rw[YM hf]at h';cases h'
 .have h':(if Zkx x.data=YD then YC else YB (OT.fz (.bool (Zvm T x.data)),δ1))=YB (r,δ'):=h
  rw[YQ hf]at h';injection h' with h';injection h' with e1 e2;subst e1 e2;exact⟨x,_,h1,Ve.mpr hf,k⟩
def Zbr(h:MO X io p eo Zur):MO X io p eo (o2 oN):=h.weak λδ K ⟨r,δ',h,k⟩=>by cases h;exact k
def Zad(h:MO X io p eo (Z86 (o2 fa))):MO X io p eo (o2 (oI fa)):=h.weak λδ K h=>by
 obtain⟨r,δ',h,k⟩:=h;obtain⟨⟨x,δ1⟩,h1,h⟩:=bs h;refine⟨x,δ1,h1,?_⟩
 try dsimp only at h|-
 split at h
 .rename_i q;(try rw[q]);cases h;exact k
 .cases h
def Zh6{lo hi:FO}(h:ME X io p c e (mSl (o2 fa) (o2 lo) (o2 hi))):ME X io p c e (o2 (fSl fa lo hi)):=h.weak λδ K h=>by
 obtain⟨r,δ',h,k⟩:=h;obtain⟨⟨x,δ1⟩,h1,h⟩:=bs h;obtain⟨⟨y,δ2⟩,h2,h⟩:=bs h;obtain⟨⟨z,δ3⟩,h3,h⟩:=bs h;refine⟨x,δ1,h1,y,δ2,h2,z,δ3,h3,?_⟩
 try dsimp only at h|-
 split at h
 .rename_i q;(try rw[q]);cases h;exact k
 .cases h
def Zsc{f:Int->Int->Bool}{K:OT->Ze->Prop}(h:o2 (Zd7 f g fa fb fc) δ K):Zik f g (o2 fa) (o2 fb) (o2 fc) δ K:=by
 obtain⟨r,δ',h,k⟩:=h;obtain⟨⟨x,δ1⟩,h1,h⟩:=bs h;obtain⟨⟨y,δ2⟩,h2,h⟩:=bs h;refine⟨x,δ1,h1,y,δ2,h2,?_⟩
 try dsimp only at h|-
 split at h
 case h_2=>cases h
 rename_i i j q1 q2
 (try rw[q1,q2])
 show(if f i j=YD then _ else _);split at h
 .rename_i hf
  rw[YM hf];obtain⟨⟨z,δ3⟩,h3,h⟩:=bs h;refine⟨z,δ3,h3,?_⟩
  try dsimp only at h|-
  split at h
  .rename_i q;(try rw[q]);cases h;exact k
  .cases h
 .rename_i hf
  rw[YQ hf];cases h;exact k
def Zxf{f:Int->Int->Bool}(h:ME X io p c e (Zik f g (o2 fa) (o2 fb) (o2 fc))):ME X io p c e (o2 (Zd7 f g fa fb fc)):=h.weak λδ K z=>Zsc z
def Zv5{f:Int->Int->Bool}(h:MT X io p e (λδ K=>Zik f g (o2 fa) (o2 fb) (o2 fc) δ (kB K))):MT X io p e (o2 (tV (Zd7 f g fa fb fc))):=h.weak λδ K z=>Zsc (Yek z)
def Zff(h:MI X io p c tg e (iL (o2 fa))):MI X io p c tg e (o2 (Zf0 fa)):=h.weak λδ K h=>by
 obtain⟨r,δ',h,k⟩:=h;obtain⟨⟨x,δ1⟩,h1,h⟩:=bs h;refine⟨x,δ1,h1,?_⟩
 try dsimp only at h|-
 split at h
 .rename_i q;(try rw[q]);cases h;exact k
 .cases h
def Yao(h:MI X io p c tg e (iT (o2 fa))):MI X io p c tg e (o2 (iTp fa)):=h.weak λδ K h=>by
 obtain⟨r,δ',h,k⟩:=h;obtain⟨⟨x,δ1⟩,h1,h⟩:=bs h;refine⟨x,δ1,h1,?_⟩
 try dsimp only at h|-
 split at h
 .rename_i q;(try rw[q]);cases h;exact k
 .cases h
def Zdi(h:MI X io p c tg e (iR1 (o2 ra))):MI X io p c tg e (o2 (iRa ra)):=h.weak λδ K h=>by
 obtain⟨r,δ',h,k⟩:=h;obtain⟨⟨x,δ1⟩,h1,h⟩:=bs h;refine⟨x,δ1,h1,?_⟩
 try dsimp only at h|-
 split at h
 case h_2=>cases h
 rename_i q
 (try rw[q])
 try dsimp only
 split at h
 .rename_i b;cases h;exact⟨Zew b,k⟩
 .cases h
def Z2y(h:MI X io p c tg e (iR2 (o2 ra))):MI X io p c tg e (o2 (iRb ra)):=h.weak λδ K h=>by
 obtain⟨r,δ',h,k⟩:=h;obtain⟨⟨x,δ1⟩,h1,h⟩:=bs h;refine⟨x,δ1,h1,?_⟩
 try dsimp only at h|-
 split at h
 case h_2=>cases h
 rename_i q
 (try rw[q])
 try dsimp only
 split at h
 .rename_i b
  cases h;rw[XJ]at b;exact⟨⟨(Zew b.1).1,(Zew b.1).2,(Zew b.2).1,(Zew b.2).2⟩,k⟩
 .cases h
def W7(h:MG X io c tg (dName i)):MG X io c tg (oG (gNm i)):=h.weak λd δ K ⟨δ',h,k⟩=>by cases h;exact k
def Znr(h:MG X io c tg (Zy2 i)):MG X io c tg (oG (Z8j i)):=h.weak λd δ K q93=>by
 obtain⟨δ',h,k⟩:=q93;unfold Z8j at h;split at h
 .rename_i q;cases h;exact⟨q,k⟩
 .cases h
def Zg0(h:MGs X io c es Yf7):MGs X io c es (oGs gNl):=h.weak λd δ K q94=>by
 obtain⟨δ',h,k⟩:=q94;unfold gNl at h;split at h
 .cases h;exact⟨rfl,k⟩
 .cases h
def Jl{g:FG}{gs:FGs}(h:MGs X io c es (Z3x (oG g) (oGs gs))):MGs X io c es (oGs (gCn g gs)):=h.weak λd δ K q95=>by
 obtain⟨δ',h,k⟩:=q95;unfold gCn at h;split at h
 .obtain⟨δ1,h1,h⟩:=bs h
  exact⟨δ1,h1,δ',h,k⟩
 .cases h
def Zl8{n:Nat}{gs:FGs}(h:MG X io c tg (dTup n (oGs gs))):MG X io c tg (oG (gTp n gs)):=h.weak λd δ K q96=>by
 obtain⟨δ',h,k⟩:=q96;unfold gTp at h;split at h
 case h_2=>cases h
 split at h
 .rename_i q;exact⟨q,δ',h,k⟩
 .cases h
theorem Zbk(h:MIfs X io p es Ya7):MIfs X io p es (o2 Zh5):=h.weak λδ K ⟨r,δ',h,k⟩=>by cases h;exact k
def Z22{g:FG}{t:FT}{me:FE}{δ0:Ze}{zs:List OT}{δe:Ze}(h:compLoop g t me ds δ0=YB (zs,δe)) :
  ∃I:Nat->List OT->Ze->Prop,I 0 [] δ0/\
 (∀ (i:Nat) (d:Xa) (rs:List OT) (δ':Ze),ds[i]? =YB d->I i rs δ'->oG g d δ' λδ2=>o2 t δ2 λb δ3=>if b=YD then o2 me δ3 λr δ4=>I (i+1) (rs++[r]) δ4 else I (i+1) rs δ3)/\
 ∀rs δ',I ds.length rs δ'->rs=zs/\δ'=δe:=by
 refine⟨λi rs δ'=>∃ys,rs++ys=zs/\compLoop g t me (ds.drop i) δ'=YB (ys,δe),⟨zs,rfl,by rw[List.drop_zero];exact h⟩,?_,?_⟩
 .rintro i d rs δ' hd ⟨ys,e,hl⟩
  obtain⟨hi,hdi⟩:=Xk.mp hd;rw[By hi,hdi]at hl;unfold compLoop at hl;obtain⟨δ1,h1,hl⟩:=bs hl;obtain⟨⟨b,δ2⟩,h2,hl⟩:=bs hl;refine⟨δ1,h1,b,δ2,h2,?_⟩;dsimp only at hl;split at hl
  .rename_i hb
   rw[YM hb];obtain⟨⟨r,δ3⟩,h3,hl⟩:=bs hl;obtain⟨⟨ws,δ4⟩,h4,hl⟩:=bs hl;cases hl;exact⟨r,δ3,h3,ws,by rw[QF];exact e,h4⟩
  .rename_i hb
   rw[YQ hb];exact⟨ys,e,hl⟩
 .rintro rs δ' ⟨ys,e,hl⟩
  rw[List.drop_length]at hl;unfold compLoop at hl;cases hl;exact⟨by rw[<-e,XX],rfl⟩
def Zvb{n:Nat}{it:FI}{g:FG}{t:FT}{me:FE}{K:OT->Ze->Prop}(h:o2 (Wk n caps it g t me) δ K):Zhn n caps (o2 it) (oG g) (o2 t) (o2 me) δ K:=by
 obtain⟨r,δ',h,k⟩:=h;obtain⟨⟨ds,δ1⟩,h1,h⟩:=bs h;refine⟨ds,δ1,h1,?_⟩;dsimp only at h;split at h
 case isFalse=>cases h
 rename_i hz;obtain⟨⟨zs,δe⟩,h2,h⟩:=bs h;cases h;obtain⟨I,i0,st,en⟩:=Z22 h2;refine⟨hz,I,i0,st,λrs δ'' q=>?_⟩;obtain⟨rfl,rfl⟩:=en rs δ'' q;exact k
theorem Zb1{n:Nat}{it:FI}{g:FG}{t:FT}{me:FE}(h:ME X io p c e (Zhn n caps (o2 it) (oG g) (o2 t) (o2 me))):ME X io p c e (o2 (Wk n caps it g t me)):=h.weak λδ K z=>Zvb z
end
section
variable {X:Cx}{io:List Nat}{p c:Bool}{e tg iter:YJ}{es:List YJ}{st:YK}{sts:List YK}{fa fb fc:FE}{ra:FA}{ta tb:FT}{i:Nat}{f g u w:FS}
def Zy1(h:MSs X io sts (Yeo (oS f) (oS g))):MSs X io sts (oS (Zt f g)):=h.weak λD δ h=>by
 unfold oS Zt at h;unfold Yeo oS;cases q:f δ<;>rw[q]at h<;>exact h
def Zaf(h:MSs X io sts Z8n):MSs X io sts (oS fNx):=h.weak λD δ h=>h
def Zmt{k:OT->Ze->RS}{D:Zhe}(h:oS (wE fa k) D δ):o2 fa δ λr δ'=>(k r δ').fits D:=by
 unfold oS wE at h;split at h
 .rename_i q;exact⟨_,_,q,h⟩
 .exact h.elim
theorem o2.imp{f:Ze->Option (Y×Ze)}{K K':Y->Ze->Prop}(h:o2 f δ K)(k:∀r δ',K r δ'->K' r δ'):o2 f δ K':=let⟨r,δ',e,q⟩:=h;⟨r,δ',e,k r δ' q⟩
def Zei{P:Prop}[Decidable P]{a:RS}{D:Zhe}(h:(if P then a else .bad:RS).fits D):P/\a.fits D:=by
 split at h
 .exact⟨‹_›,h⟩
 .exact h.elim
def Zex(h:MS X io st (Yar (o2 fa))):MS X io st (oS (wE fa Zkh)):=h.weak λD δ h=>Zmt h
def Zhf(h:MS X io st (Yia (o2 fa))):MS X io st (oS (wE fa Zam)):=h.weak λD δ h=>Zmt h
def Zci(h:MS X io st (Zwu i)):MS X io st (oS (Zb9 i)):=h.weak λD δ h=>by
 unfold oS Zb9 at h;unfold Zwu;split at h
 .rename_i q;(try rw[q]);exact h
 .exact h.elim
def Ztx(h:MS X io st (Yga (o2 ta) (oS u) (oS w))):MS X io st (oS (Ws ta u w)):=h.weak λD δ h=>by
 unfold oS Ws at h;split at h
 .rename_i b δ' q
  refine⟨b,δ',q,?_⟩;split at h
  .rename_i hb;rw[YM hb];exact h
  .rename_i hb;rw[YQ hb];exact h
 .exact h.elim
def Zc8(h:MS X io st (Z5h i (o2 fa))):MS X io st (oS (wE fa (Y8 i))):=h.weak λD δ h=>Zmt h
def Zgn(h:MS X io st (Zqs i (o2 fa))):MS X io st (oS (wE fa (J7 i))):=h.weak λD δ h=>Zmt h
section
variable {n:Nat}{o q:Nat}{it:FI}{gg:FG}{t:FT}{me:FE}
def Zpb(h:MS X io st (if YD=YD then Zqs i (Zhn n caps (o2 it) (oG gg) (o2 t) (o2 me))else Z5h i (Zhn n caps (o2 it) (oG gg) (o2 t) (o2 me)))):MS X io st (oS (wE (Wk n caps it gg t me) (J7 i))) :=
 h.weak λD δ h=>by rw[YM rfl];exact Zvb (Zmt h)
def Zmv(h:MS X io st (if YF=YD then Zqs i (Zhn n caps (o2 it) (oG gg) (o2 t) (o2 me))else Z5h i (Zhn n caps (o2 it) (oG gg) (o2 t) (o2 me)))):MS X io st (oS (wE (Wk n caps it gg t me) (Y8 i))) :=
 h.weak λD δ h=>by rw[YQ Xx];exact Zvb (Zmt h)
end
def Zvi{gg:FG}(h:MS X io st (Yhz (o2 fa) (oG gg))):MS X io st (oS (wE fa (Zw4 gg))):=h.weak λD δ h=>(Zmt h).imp λr δ' q=>by
 unfold Zw4 at q;split at q
 .rename_i z;exact⟨_,z,q⟩
 .exact q.elim
def Wi(h:MS X io st (Zjd i (o2 fa))):MS X io st (oS (Yh i fa)):=h.weak λD δ h=>by
 unfold oS Yh at h;unfold Zjd;split at h
 case h_2=>exact h.elim
 rename_i q;(try rw[q]);refine(Zmt h).imp λr δ' z=>?_;split at z
 .rename_i q2;(try rw[q2]);exact Zei z
 .exact z.elim
def Z93(h:MS X io st (Ygs i (o2 fa) (o2 fb))):MS X io st (oS (Z49 i fa fb)):=h.weak λD δ h=>by
 refine(Zmt h).imp λr δ' z=>?_;split at z
 case h_2=>exact z.elim
 rename_i q;(try rw[q]);refine(Zmt z).imp λn δ2 z=>?_;split at z
 case h_2=>exact z.elim
 rename_i k q2;(try rw[q2]);show match ixN _ k with|some j=>_|none=>_
 split at z
 .rename_i q3;(try rw[q3]);exact z
 .exact z.elim
def Zks(h:MS X io st (Zjs i (oS u))):MS X io st (oS (Za1 i u)):=h.weak λD δ h=>by
 unfold oS Za1 at h;unfold Zjs;split at h
 .rename_i q;(try rw[q]);exact h
 .exact h.elim
def Zcb{gg:FG}{d:Xa}:forLoop gg u (d::ds) δ=match gg d δ with
  | none=>.bad
  | some δ1=>match u δ1 with
   | .nx δ2=>forLoop gg u ds δ2
   | .ct δ2=>forLoop gg u ds δ2
   | .bk δ2=>.nx δ2
   | r=>r:=rfl
def Zyy{it:FI}{gg:FG}(h:MS X io st (Yh5 (o2 it) (oG gg) (oS u))):MS X io st (oS (Jx it gg u)):=h.weak λD δ h=>by
 unfold oS Jx at h;split at h
 case h_2=>exact h.elim
 rename_i ds δ1 q;refine⟨ds,δ1,q,λi δ'=>(forLoop gg u (ds.drop i) δ').fits D,by show RS.fits D (forLoop gg u (ds.drop 0) δ1);rw[List.drop_zero];exact h,λi d δ' hd z=>?_,λδ' z=>?_⟩
 .obtain⟨hi,hdi⟩:=Xk.mp hd
  replace z:RS.fits D (forLoop gg u (ds.drop i) δ'):=z;rw[By hi,hdi,Zcb]at z;split at z
  case h_1=>exact z.elim
  rename_i δ2 q2;refine⟨δ2,q2,?_⟩;unfold oS;cases q3:u δ2<;>rw[q3]at z<;>(try rw[q3])<;>exact z
 .replace z:RS.fits D (forLoop gg u (ds.drop ds.length) δ'):=z
  rw[List.drop_length]at z;exact z
def Zx8(h:MS X io st (Z0e (o2 ta) (oS u))):MS X io st (oS (Zi0 ta u)):=h.weak λD δ h=>by
 unfold oS Zi0 at h;split at h
 case isFalse=>exact h.elim
 rename_i hn;refine⟨λn δ'=>(whileLoop ta u n δ').fits D,⟨_,h⟩,λn δ' z=>?_⟩;cases n with
 | zero=>exact z.elim
 | succ n=>
  unfold whileLoop at z;split at z
  case h_1=>exact z.elim
  rename_i b δ1 q;refine⟨b,δ1,q,?_⟩;split at z
  .rename_i hb
   rw[YM hb];refine⟨λδ''=>(whileLoop ta u n δ'').fits D,λδ'' y=>⟨n,QQ n,y⟩,?_⟩;unfold oS;cases q3:u δ1<;>rw[q3]at z<;>exact z
  .rename_i hb
   rw[YQ hb];exact z
def Zc5{n:Nat}:∀{δ:Ze},whileLoop ta u n δ≠ .bad->whileLoop ta u (n+m) δ=whileLoop ta u n δ:=by
 induction n with
 | zero=>intro δ h;exact YZ rfl h
 | succ n ih=>
  intro δ h;rw[Nat.succ_add];unfold whileLoop at h|-
  cases q:ta δ with
  | none=>rfl
  | some x=>
   obtain⟨b,δ1⟩:=x;rw[q]at h
   try dsimp only at h|-
   split
   .rename_i hb
    rw[YM hb]at h;cases q3:u δ1<;>rw[q3]at h<;>first|exact ih h|rfl
   .rfl
def Zq8{r:RS}(n:Nat)(h:whileLoop ta u n δ=r)(hr:r≠ .bad):Zi0 ta u δ=r:=by
 have hn:∃n,whileLoop ta u n δ≠ .bad:=⟨n,by rw[h];exact hr⟩;unfold Zi0;rw[dif_pos hn];have h1:=Classical.choose_spec hn;have e1:=Zc5 (m:=n) h1;have e2:=Zc5 (m:=Classical.choose hn) (show whileLoop ta u n δ≠ .bad by rw[h];exact hr);rw[Nat.add_comm]at e2;rw[<-e1,e2,h]
def Zct{cn:Str}:MS X io st (oS (Zhl cn)):=Zxr.weak λD δ h=>h
def Zwj{F:FD}{k:OT->Ze->RS}(h:MS X io st (oS (wE (Yo F ra) k))):MS X io st (oS (wX F ra k)):=h.weak λD δ h=>by
 unfold oS wX at h;unfold oS wE Yo;split at h
 case h_2=>exact h.elim
 rename_i rs δ1 q
 (try rw[q])
 dsimp only[Option.bind];split at h
 .rename_i q2;(try rw[q2]);exact h
 .exact h.elim
 .exact h.elim
def Zzb{xs:List Str}{D:Str}{Dc:YG}{h0:FS}(hk:∀cn∈xs,Zqy cn D=YD->∃C,ClsAt X.K cn C/\Zbl X.K C/\Vh X.K (.ref C) (.ref Dc)=YB YD)(h:MS X io st (Ycp X.K Dc i (oS u) (xS X.K u) (oS h0))):MS X io st (oS (Zxw xs u D i h0)):=h.weak λDD δ h=>by
 unfold oS Zxw at h;split at h
 .rename_i cn δ' q
  refine .inr ?_;obtain⟨hc,h⟩:=Zei h;rw[XJ]at hc;obtain⟨C,k1,k2,k3⟩:=hk cn (by simpa using hc.1) hc.2;refine⟨cn,C,δ',q,k1,cn,k1,⟨k2,k3⟩,?_⟩;unfold oS;split at h
  .rename_i q2;(try rw[q2]);exact h
  .exact h.elim
 .exact .inl h
def XS.weak{m m':MXt}(h:XS X io st m)(w:∀δ k,m' δ k->m δ k):XS X io st m':=λC pins s O H δ fp ex k I R hm=>h C pins s O H δ fp ex k I R (w δ k hm)
def XSs.weak{m m':MXt}(h:XSs X io sts m)(w:∀δ k,m' δ k->m δ k):XSs X io sts m':=λC pins s O H δ fp ex k I R hm=>h C pins s O H δ fp ex k I R (w δ k hm)
def XE.weak{m m':MXt}(h:XE X io e m)(w:∀δ k,m' δ k->m δ k):XE X io e m':=λC pins s O H δ fp ex k I R hm=>h C pins s O H δ fp ex k I R (w δ k hm)
class NoEx (f:FS):Prop where
 no:∀δ cn δ',f δ≠ .ex cn δ'
class NoExK (k:OT->Ze->RS):Prop where
 no:∀r δ cn δ',k r δ≠ .ex cn δ'
def Yfh(f:FS)[NoEx f]:XS X io st (xS X.K f):=Zw0.weak λδ k ⟨cn,_,δ',h,_⟩=>(NoEx.no δ cn δ' h).elim
def Ybi(f:FS)[NoEx f]:XSs X io sts (xS X.K f):=Zr2.weak λδ k ⟨cn,_,δ',h,_⟩=>(NoEx.no δ cn δ' h).elim
instance nx_kDrop_k:NoExK Zkh:=⟨λ_ _ _ _ h=>by cases h⟩
instance nx_kRet_k:NoExK Zam:=⟨λ_ _ _ _ h=>by cases h⟩
instance nx_kSet_k:NoExK (Y8 i):=⟨λ_ _ _ _ h=>by cases h⟩
instance nx_kSetO_k:NoExK (J7 i):=⟨λ_ _ _ _ h=>by cases h⟩
instance nx_wE{k:OT->Ze->RS}[NoExK k]:NoEx (wE fa k):=⟨λδ cn δ' h=>by
 unfold wE at h;split at h
 .exact NoExK.no _ _ _ _ h
 .cases h⟩
instance nx_fSeq[NoEx f][NoEx g]:NoEx (Zt f g):=⟨λδ cn δ' h=>by
 unfold Zt at h;split at h
 .exact NoEx.no _ _ _ h
 .exact NoEx.no _ _ _ h⟩
instance nx_fNx:NoEx fNx:=⟨λ_ _ _ h=>by cases h⟩
instance nx_fRetO:NoEx (Zb9 i):=⟨λ_ _ _ h=>by unfold Zb9 at h;split at h<;>cases h⟩
instance nx_fIfS[NoEx u][NoEx w]:NoEx (Ws ta u w):=⟨λδ cn δ' h=>by
 unfold Ws at h;split at h
 .split at h
  .exact NoEx.no _ _ _ h
  .exact NoEx.no _ _ _ h
 .cases h⟩
def Z00{k:OT->Ze->RS}(n:∀r δ cn δ',k r δ≠ .ex cn δ'){cn:Str}(h:wE fa k δ= .ex cn δ'):False:=by
 unfold wE at h;split at h
 .exact n _ _ _ _ h
 .cases h
instance nx_fAppend:NoEx (Yh i fa):=⟨λδ cn δ' h=>by
 unfold Yh at h;split at h
 .exact Z00 (λr δ1 _ _ z=>by
   split at z
   .split at z<;>cases z
   .cases z) h
 .cases h⟩
def Zcr{cn:Str}(hc:ClsAt X.K cn C)(h:XS X io st (Zuo C)):XS X io st (xS X.K (Zhl cn)):=h.weak λδ k z=>by
 obtain⟨c',C',δ',h,k1,k2⟩:=z;cases h;have:=k1.symm.trans hc;injection this with this;injection this with this;injection this with this;subst this;exact k2
def Zdl{F:FD}{k:OT->Ze->RS}[NoExK k](h:XE X io e (Zoc (sX X.K F) (o2 ra))):XE X io e (xS X.K (wX F ra k)):=h.weak λδ kk z=>by
 obtain⟨c',C',δ',h,k1,k2⟩:=z;unfold wX at h;split at h
 case h_2=>cases h
 rename_i rs δ1 q;refine⟨rs,δ1,q,?_⟩;split at h
 .exact(NoExK.no _ _ _ _ h).elim
 .rename_i q2
  cases h;exact⟨C',⟨_,q2,k1⟩,k2⟩
 .cases h
def Z84(h1:XS X io st (xS X.K f))(m1:MS X io st (oS f))(h2:XSs X io sts (xS X.K g))(hx:X.xe= λ_ _=>False:=by rfl):XSs X io (st::sts) (xS X.K (Zt f g)):=by
 intro C pins s O H δ fp ex k I R hm;obtain⟨cn,C',δ',h,k1,k2⟩:=hm;unfold Zt at h;split at h
 .rename_i δ1 q
  exact Zwx m1 h2 hx C pins s O H δ fp ex k I R (by
   show(f δ).fits _
   (try rw[q])
   exact⟨cn,C',δ',h,k1,k2⟩)
 .exact Zof h1 C pins s O H δ fp ex k I R ⟨cn,C',δ',h,k1,k2⟩
def Z1j(h1:XS X io st (xS X.K f)):XSs X io [st] (xS X.K f):=Zof h1
def Ycs{a b:List YK}(h:XS X io (.If e a b pos) (Yil (o2 ta) (xS X.K u) (xS X.K w))):XS X io (.If e a b pos) (xS X.K (Ws ta u w)):=h.weak λδ k z=>by
 obtain⟨cn,C',δ',h,k1,k2⟩:=z;unfold Ws at h;split at h
 case h_2=>cases h
 rename_i b δ1 q;refine⟨b,δ1,q,?_⟩;split at h
 .rename_i hb;rw[YM hb];exact⟨cn,C',δ',h,k1,k2⟩
 .rename_i hb;rw[YQ hb];exact⟨cn,C',δ',h,k1,k2⟩
theorem Zen{gg:FG}{cn:Str}:∀(ds:List Xa) (δ:Ze),forLoop gg u ds δ= .ex cn δ'->∃(S:Nat->Ze) (r:Nat),r<ds.length/\S 0=δ/\
  (∀ i d,i<r->ds[i]? =YB d->∃δ1,gg d (S i)=YB δ1/\(u δ1= .nx (S (i+1))\/u δ1= .ct (S (i+1))))/\∀d,ds[r]? =YB d->∃δ1,gg d (S r)=YB δ1/\u δ1= .ex cn δ'
 | [],δ,h=>by cases h
 | d::ds,δ,h=>by
  rw[Zcb]at h;split at h
  .cases h
  rename_i δ1 q;have go:∀δ2,(u δ1= .nx δ2\/u δ1= .ct δ2)->forLoop gg u ds δ2= .ex cn δ'->∃(S:Nat->Ze) (r:Nat),r<(d::ds).length/\S 0=δ/\
    (∀ i d',i<r->(d::ds)[i]? =YB d'->∃δ1,gg d' (S i)=YB δ1/\(u δ1= .nx (S (i+1))\/u δ1= .ct (S (i+1))))/\∀d',(d::ds)[r]? =YB d'->∃δ1,gg d' (S r)=YB δ1/\u δ1= .ex cn δ':=λδ2 hu hl=>by
   obtain⟨S,r,h1,h2,h3,h4⟩:=Zen ds δ2 hl;refine⟨λi=>match i with|0=>δ|i+1=>S i,r+1,by simpa using h1,rfl,λi d' hi hd=>?_,λd' hd=>h4 d' (by simpa using hd)⟩;cases i with
   | zero=>
    have:d=d':=by simpa using hd
    subst this;exact⟨δ1,q,by show _=RS.nx (S 0)\/_=RS.ct (S 0);rw[h2];exact hu⟩
   | succ i=>exact h3 i d' (!0) (by simpa using hd)
  split at h
  .rename_i q2;exact go _ (.inl q2) h
  .rename_i q2;exact go _ (.inr q2) h
  .cases h
  .rename_i q2 _ _ _
   exact⟨λ_=>δ,0,by simp,rfl,λi d' hi=>YZ hi (JL i),λd' hd=>by
    have:d=d':=by simpa using hd
    subst this;exact⟨δ1,q,h⟩⟩
def Z9l{it:FI}{gg:FG}(h:XS X io st (Z5i (o2 it) (oG gg) (oS u) (xS X.K u))):XS X io st (xS X.K (Jx it gg u)):=h.weak λδ k z=>by
 obtain⟨cn,C',δ',h,k1,k2⟩:=z;unfold Jx at h;split at h
 case h_2=>cases h
 rename_i ds δ1 q;refine⟨ds,δ1,q,?_⟩;obtain⟨S,r,h1,h2,h3,h4⟩:=Zen ds δ1 h;refine⟨λi δ=>δ=S i,r,h1,h2.symm,λi d δ2 hi hd e=>?_,λd δ2 hd e=>?_⟩
 .subst e
  obtain⟨δ3,a,b⟩:=h3 i d hi hd;refine⟨δ3,a,?_⟩;unfold oS;rcases b with b|b<;>rw[b]<;>rfl
 .subst e
  obtain⟨δ3,a,b⟩:=h4 d hd;exact⟨δ3,a,cn,C',δ',b,k1,k2⟩
end
section
variable {P:X3}{w:Qo}{K:Xc}{mg:Str->Option Xe}{base:YH}{x qual:Str}{st:YK}{f:YG}{fd:Ql}{N ps:List Str}{n np nn:Nat}{S:FS}
def RS.told_fits{r:RS}{o:OT}{k:OT->Prop}(h:r.told= .ok o)(hk:k o):r.fits (Z4h k):=by
 cases r<;>unfold RS.told at h<;>first|(cases h;exact hk)|cases h
theorem W3(F:Fun K x qual st f fd)(Sc:Zv N ps (Zi st))(hN:N.length=nn)(hp:np=ps.length)
  (hb:∀(cdv:Xe) (A:Qn) (outer:List Env) (s:Xf) (H:Hp) (E:XK),Room n (A.deeper (envOfC qual (Zi st) s.heap.objs.size f cdv))->MSs (Zvd CX0 P w K mg base N qual (Zi st) f cdv A outer s H E).nox [] (Ju st) (oS S)) :
  FnOk P w K mg base CX0 (n+1) f fd ps (spD K (sD (Jv np nn S))):=by
 subst hN hp;refine F.okD Sc (λds k h=>?_) λcdv A outer s H E hr=>⟨_,hb cdv A outer s H E hr,λds k h=>?_⟩
 .obtain⟨r,h,_⟩:=h
  unfold Jv at h;split at h
  .assumption
  .cases h
 .obtain⟨r,h,hk⟩:=h
  unfold Jv at h;split at h
  .exact RS.told_fits h hk
  .cases h
def Yac(F:Fun K x qual st f fd)(Sc:Zv N ps (Zi st))(hN:N.length=nn)(hp:np=ps.length)
  (hb:∀(cdv:Xe) (A:Qn) (outer:List Env) (s:Xf) (H:Hp) (E:XK),Room n (A.deeper (envOfC qual (Zi st) s.heap.objs.size f cdv))->XSs (Zvd (CX1 P w) P w K mg base N qual (Zi st) f cdv A outer s H E).nox [] (Ju st) (xS K S)) :
  FnOk P w K mg base (CX1 P w) (n+1) f fd ps (spX K (sX K (Jv np nn S))):=by
 subst hN hp;refine F.okX Sc (λds cl h=>?_) λcdv A outer s H E hr=>⟨_,hb cdv A outer s H E hr,λds cl h=>?_⟩
 .obtain⟨r,h,_⟩:=h
  unfold Jv at h;split at h
  .assumption
  .cases h
 .obtain⟨c,h,hc⟩:=h
  unfold Jv at h;split at h
  case isFalse=>cases h
  have e:Zck N.length ds=Ziq N ds:=rfl;rw[e]at h;cases q:S (Ziq N ds)<;>rw[q]at h<;>unfold RS.told at h<;>cases h
  exact⟨_,cl,_,q,hc,rfl⟩
end
def i2(g:Int->Int->Xa):Xa->Xa->Option Xa:=λd e=>match d,e with| .int i,.int j=>YB (g i j)|_,_=>YC
def i2c(c:Int->Int->Bool)(g:Int->Int->Xa):Xa->Xa->Option Xa:=λd e=>match d,e with| .int i,.int j=>if c i j=YD then YB (g i j)else YC|_,_=>YC
def Ztq{g:Int->Int->Xa}:ByS (i2 g) (Zzi g):=λd e r k h hk=>by
 unfold i2 at h;split at h
 .cases h;exact hk
 .cases h
def Zn1{c:Int->Int->Bool}{C:Int->Int->Prop}{g:Int->Int->Xa}(hc:∀i j,c i j=YD->C i j):ByS (i2c c g) (d2I C g):=λd e r k h hk=>by
 unfold i2c at h;split at h
 .split at h
  .cases h;exact⟨hc _ _ ‹_›,hk⟩
  .cases h
 .cases h
def Z5d(a b:Int):Bool:=!(decide (U8 a>shortFactorBits)&&decide (U8 b>shortFactorBits)&&BJ.Int.intTooBig (U8 a+U8 b))
def Yan(_ j:Int):Bool:=decide (j≠0)&&decide (j.natAbs.log2<9000)
def Yhi(_ j:Int):Bool:=decide (j≠0)
def Yjh(i j:Int):Bool:=decide (0<=j/\j<=1000000/\i.natAbs<2^64)
def Zj1{a b:Int}:Z5d a b=YD↔IntMulOk a b:=by
 unfold Z5d IntMulOk;rw[Bool.not_eq_true',Bool.not_eq_true]
def Za0:=i2 λi j=>.int (i+j)
def gSb:=i2 λi j=>.int (i-j)
def Zhw:=i2c Z5d λi j=>.int (i*j)
def Zaz:=i2c Yan λi j=>.int (i.fdiv j)
def Js:=i2c Yhi λi j=>.int (i.fmod j)
def Zrl:=i2c Yjh λi j=>.int (i^j.toNat)
def gLt:=i2 λi j=>.bool (decide (i<j))
def gLe:=i2 λi j=>.bool (decide (i<=j))
def gGt:=i2 λi j=>.bool (decide (j<i))
def gGe:=i2 λi j=>.bool (decide (j<=i))
def Yd1:ByS Za0 (Zzi λi j=>.int (i+j)):=Ztq
def Yer:ByS gSb (Zzi λi j=>.int (i-j)):=Ztq
def Yfk:ByS Zhw (d2I MulOk λi j=>.int (i*j)):=Zn1 λi j h=>⟨Zj1.mp h⟩
def Z7q:ByS Zaz (d2I Ygr λi j=>.int (i.fdiv j)):=Zn1 λi j h=>⟨by
 unfold Yan at h;rw[XJ]at h;exact⟨YX h.1,YX h.2⟩⟩
def Ydt:ByS Js (d2I (λ_ j=>j≠0) λi j=>.int (i.fmod j)):=Zn1 λi j h=>YX h
def Yde:ByS Zrl (d2I Yid λi j=>.int (i^j.toNat)):=Zn1 λi j h=>⟨(YX h:0<=j/\j<=1000000/\i.natAbs<2^64)⟩
def Ycu:ByS gLt (Zzi λi j=>.bool (decide (i<j))):=Ztq
def Yjw:ByS gGt (Zzi λi j=>.bool (decide (j<i))):=Ztq
def Ykc:ByS gGe (Zzi λi j=>.bool (decide (j<=i))):=Ztq
def gEq:Xa->Xa->Option Xa:=λd e=>if(SeqAt.shaped d&&SeqAt.shaped e)=YD then YB (.bool (JF d e))else YC
def gNe:Xa->Xa->Option Xa:=λd e=>if(SeqAt.shaped d&&SeqAt.shaped e)=YD then YB (.bool (!JF d e))else YC
def Yb2:ByS gEq dEq:=λd e r k h hk=>by
 unfold gEq at h;split at h
 .rename_i q
  rw[XJ]at q;cases h;exact⟨⟨q.1⟩,⟨q.2⟩,hk⟩
 .cases h
def Yj0:ByS gNe dNe:=λd e r k h hk=>by
 unfold gNe at h;split at h
 .rename_i q
  rw[XJ]at q;cases h;exact⟨⟨q.1⟩,⟨q.2⟩,hk⟩
 .cases h
def gIs:Xa->Xa->Option Xa:=λd e=>match e with| .none=>YB (.bool (Ze8 d))|_=>YC
def Zid:Xa->Xa->Option Xa:=λd e=>match e with| .none=>YB (.bool (!Ze8 d))|_=>YC
def Znj:ByS Zid Z9a:=λd e r k h hk=>by
 unfold Zid at h;split at h
 .cases h;exact⟨rfl,hk⟩
 .cases h
def Zjw(neg:Bool):Xa->Xa->Option Xa:=λd e=>match Zie e with
 | some ds=>if(scD d&&ds.all scD)=YD then YB (.bool (if neg then !memS d ds else memS d ds))else YC
 | none=>YC
theorem Zm6:ByS (Zjw neg) (dIn neg):=λd e r k h hk=>by
 unfold Zjw at h;split at h
 case h_2=>cases h
 rename_i ds q;split at h
 case isFalse=>cases h
 rename_i q2;rw[XJ]at q2;cases h;refine⟨q2.1,?_⟩;cases e<;>cases q
 .exact⟨q2.2,hk⟩
 .exact⟨q2.2,hk⟩
def gIx:Xa->Xa->Option OT:=λd e=>(ixD d e).bind λx=>YB (.fz x)
def Yjo:ByO gIx dIx:=λd e r k h hk=>by
 obtain⟨x,h1,h2⟩:=bs h;cases h2;unfold dIx;rw[h1];exact hk
def Zer:Xa->Xa->Option OT:=λd e=>match d,e with| .list ds,.list es=>if ds.length+es.length<=Xw then YB (.nd ((ds++es).map OT.fz))else YC|_,_=>YC
def Zg3:ByO Zer dCat:=λd e r k h hk=>by
 unfold Zer at h;split at h
 .split at h
  .cases h;exact⟨‹_›,hk⟩
  .cases h
 .cases h
def Zi3:List Xa->Option Xa:=λds=>match ds with|[d]=>(Zyb d).bind λn=>YB (.int n)|_=>YC
def Zv3:∀ds r k,Zi3 ds=YB r->k r->Yg7 ds k:=λds r k h hk=>by
 unfold Zi3 at h;split at h
 .obtain⟨n,h1,h2⟩:=bs h
  cases h2;show match Zyb _ with|some n=>_|none=>_
  rw[h1];exact hk
 .cases h
def Ye7:List Xa->Option Xa:=λds=>match ds with|[.int i]=>YB (.int (if i<0 then -i else i))|_=>YC
def Z2a:List Xa->Option Xa:=λds=>match ds with|[.int i,.int j]=>YB (.int (if j>i then j else i))|_=>YC
def Z65:∀ds r k,Z2a ds=YB r->k r->Yis ds k:=λds r k h hk=>by
 unfold Z2a at h;split at h
 .cases h;exact hk
 .cases h
def Z2e:List Xa->Option Xa:=λds=>match ds with|[.int i,.int j]=>YB (.int (if j<i then j else i))|_=>YC
def Z5v:∀ds r k,Z2e ds=YB r->k r->Yf8 ds k:=λds r k h hk=>by
 unfold Z2e at h;split at h
 .cases h;exact hk
 .cases h
def Yig:List Xa->Option Xa:=λds=>match ds with|[.int i]=>YB (.int i)|[.bool b]=>YB (.int (if b then 1 else 0))|_=>YC
def Zr9:List Xa->Option OT:=λds=>match ds with|[d]=>(Zie d).bind λes=>YB (.nd (es.map OT.fz))|_=>YC
def Ya8:∀ds r k,Zr9 ds=YB r->k r->Z9v ds k:=λds r k h hk=>by
 unfold Zr9 at h;split at h
 .obtain⟨n,h1,h2⟩:=bs h
  cases h2;show match Zie _ with|some n=>_|none=>_
  rw[h1];exact hk
 .cases h
def Zez:List Xa->Option (List Int)
 | []=>YB []
 | .int i::r=>(Zez r).bind λl=>YB (i::l)
 | _::_=>YC
theorem Zbj:∀{ds:List Xa} {ns:List Int},Zez ds=YB ns->ds=ns.map Xu
 | [],_,h=>by cases h;rfl
 | .int i::r,_,h=>by
  obtain⟨l,h1,h2⟩:=bs h;cases h2;rw[Zbj h1];rfl
 | .none::_,_,h=>by cases h
 | .bool _::_,_,h=>by cases h
 | .str _::_,_,h=>by cases h
 | .list _::_,_,h=>by cases h
 | .tuple _::_,_,h=>by cases h
 | .dict _::_,_,h=>by cases h
@[simp] theorem Zht:∀ns:List Int,Zez (ns.map Xu)=YB ns
 | []=>rfl
 | n::ns=>by rw[X7,Zez,Zht ns];rfl
section
variable {X:Cx}{io:List Nat}{p c:Bool}{e tg:YJ}{es:List YJ}{st:YK}{fa fb fc:FE}{ra:FA}{i:Nat}
def Yhk(a:FA):FE:=λδ=>(a δ).bind λp=>match OT.datas p.1 with|[.int j]=>if rOk j=YD/\j.toNat<=Xw then YB (.nd ((Zdk 0 j.toNat).map OT.fz),p.2)else YC|_=>YC
def Z95(a b:FE):FE:=λδ=>(a δ).bind λp=>(b p.2).bind λq=>match q.1.data with| .int k=>if rOk k=YD/\k.toNat<=Xw then YB (.nd (Qm k.toNat (.fz p.1.data)),p.2)else YC|_=>YC
def Z9c(h:ME X io p c e (Ygl (o2 fa) (o2 fb))):ME X io p c e (o2 (Z95 fa fb)):=h.weak λδ K h=>by
 obtain⟨r,δ',h,k⟩:=h;obtain⟨⟨x,δ1⟩,h1,h⟩:=bs h;obtain⟨⟨y,δ2⟩,h2,h⟩:=bs h;refine⟨x,δ1,h1,y,δ2,h2,?_⟩
 try dsimp only at h|-
 split at h
 case h_2=>cases h
 rename_i q
 (try rw[q])
 split at h
 case isFalse=>cases h
 rename_i b;cases h;have z:=Zew b.1;exact⟨⟨by omega,by omega,b.2⟩,k⟩
def Z45(i:Nat)(a:FE):FE:=λδ=>match δ[i]? with
 | some (YB (.nd _))=>(a δ).bind λp=>match p.2[i]? with
  | some (YB (.nd ts))=>match p.1.data with
   | .int j=>match ixN ts.length j with
    | some k=>match ts[k]? with
     | some (.fz d)=>if ts.length<=Xw then YB (.fz d,p.2.set i (YB (.nd (ts.eraseIdx k))))else YC
     | _=>YC
    | none=>YC
   | _=>YC
  | _=>YC
 | _=>YC
def Z9z(h:ME X io p c e (Yb7 i (o2 fa))):ME X io p c e (o2 (Z45 i fa)):=h.weak λδ K h=>by
 obtain⟨r,δ',h,k⟩:=h;unfold Z45 at h;unfold Yb7;split at h
 case h_2=>cases h
 rename_i q;(try rw[q]);obtain⟨⟨x,δ1⟩,h1,h⟩:=bs h;refine⟨x,δ1,h1,?_⟩
 try dsimp only at h|-
 split at h
 case h_2=>cases h
 rename_i q2;(try rw[q2])
 try dsimp only
 split at h
 case h_2=>cases h
 rename_i j q3;(try rw[q3]);show match ixN _ j with|some k=>_|none=>_
 split at h
 case h_2=>cases h
 rename_i q4;(try rw[q4]);(try dsimp only);split at h
 case h_2=>cases h
 rename_i q5;(try rw[q5]);split at h
 case isFalse=>cases h
 cases h;exact⟨‹_›,k⟩
def Ziv:Xa->Option Str| .dict [(.str x,.none)]=>YB x|_=>YC
def Zl1{d:Xa}(h:Ziv d=YB x):d=exD x:=by
 unfold Ziv at h;split at h
 .cases h;rfl
 .cases h
def Zmn(xs:List Str)(D:Str)(a:FE):FE:=λδ=>(a δ).bind λp=>(Ziv p.1.data).bind λx=>if xs.contains x=YD then YB (.fz (.bool (Zqy x D)),p.2)else YC
def Zn4(xs Ds:List Str)(a:FE):FE:=λδ=>(a δ).bind λp=>(Ziv p.1.data).bind λx=>if xs.contains x=YD then YB (.fz (.bool (Ds.any (Zqy x))),p.2)else YC
def Zkd{xs:List Str}{D:Str}{cv:Xe}(hk:∀x∈xs,∃C,ClsAt X.K x C/\QC X.K (.ref C) cv=YB (Zqy x D))(h:ME X io p c e (Ybb X.K cv (o2 fa))):ME X io p c e (o2 (Zmn xs D fa)):=h.weak λδ K h=>by
 obtain⟨r,δ',h,k⟩:=h;obtain⟨⟨x,δ1⟩,h1,h⟩:=bs h;obtain⟨n,h2,h⟩:=bs h;split at h
 case isFalse=>cases h
 rename_i q;cases h;obtain⟨C,k1,k2⟩:=hk n (by simpa using q);exact⟨x,δ1,h1,n,C,_,Zl1 h2,k1,k2,k⟩
def Zoq{xs Ds:List Str}{cs:List Xe}(hk:∀x∈xs,∃C,ClsAt X.K x C/\VF X.K (.ref C) cs=YB (Ds.any (Zqy x)))(h:ME X io p c e (Zz8 X.K cs (o2 fa))):ME X io p c e (o2 (Zn4 xs Ds fa)):=h.weak λδ K h=>by
 obtain⟨r,δ',h,k⟩:=h;obtain⟨⟨x,δ1⟩,h1,h⟩:=bs h;obtain⟨n,h2,h⟩:=bs h;split at h
 case isFalse=>cases h
 rename_i q;cases h;obtain⟨C,k1,k2⟩:=hk n (by simpa using q);exact⟨x,δ1,h1,n,C,_,Zl1 h2,k1,k2,k⟩
instance nx_fFreeze{u:FS}[NoEx u]:NoEx (Za1 i u):=⟨λδ cn δ' h=>by
 unfold Za1 at h;split at h
 .exact NoEx.no _ _ _ h
 .cases h⟩
end
variable {G:Xc}
section
variable {X:Cx}{io:List Nat}{p c:Bool}{e a b:YJ}{es:List YJ}{m ma mb:MEt}{mr:MAt}{pos apos cpos px py pt sp kp:Pos}{i j:Nat}{x y:Str}{fa fb:FE}{ra:FA}{st:YK}
def Yai(m:MAt):MEt:=λδ K=>m δ λrs δ'=>rs.length<=Xw/\K (.tp rs) δ'
def Z6l{x1}(h:MA X io p c es mr):ME X io p c (.Tuple es x1 pos) (Yai mr):=by
 obtain⟨tA,A,sa⟩:=h;refine⟨_,Ztm A,λC H O δ fp ex K Q R h k=>?_⟩;refine sa C H O δ fp ex _ _ R h λH1 vs rs δ1 fp1 new1 r1 h1=>⟨by rw[r1.own.length];exact h1.1,λq hq=>?_⟩;have s:=Zw hq (.tup vs);have S:=r1.stp.trans (p':=YD) (Stp.same (p:=YD) (δ:=δ1) (fp:=fp1) s s.al);rw[Bool.and_true]at S;exact k _ _ _ δ1 fp1 new1 ⟨(r1.rel.made (new:=[]) s λa m=>nomatch m).drop λa z=>.inl z,S,.tp Zq (r1.own.same s),r1.nd,r1.fresh⟩ h1.2
def Zx1(a:FA):FE:=λδ=>(a δ).bind λp=>if p.1.length<=Xw then YB (.tp p.1,p.2)else YC
def Z1n(h:ME X io p c e (Yai (o2 ra))):ME X io p c e (o2 (Zx1 ra)):=h.weak λδ K h=>by
 obtain⟨r,δ',h,k⟩:=h;obtain⟨⟨x,δ1⟩,h1,h⟩:=bs h;refine⟨x,δ1,h1,?_⟩;dsimp only at h;split at h
 .rename_i q;cases h;exact⟨q,k⟩
 .cases h
def Z0c(i c:Nat)(e:FE):FS:=λδ=>match δ[i]? with
 | some (YB (.tp ts))=>match ts[c]? with
  | some (.nd us)=>wE e (λr _=>if us.length<Xw then .nx (δ.set i (YB (.tp (ts.set c (.nd (us++[.fz r.data]))))))else .bad) δ
  | _=>.bad
 | _=>.bad
def Yh8(i j:Nat)(a:FA):FS:=λδ=>match a δ with
 | some (rs,δ1)=>match OT.datas rs with
  | [d,e]=>.nx ((δ1.set i (YB (.fz d))).set j (YB (.fz e)))
  | _=>.bad
 | none=>.bad
end
class NoStar (e:YJ):Prop where
 h:∀es env,Xo (e::es) env=(YF,eval e env)::Xo es env
instance nx_Name{p:Pos}:NoStar (.Name x p):=⟨λ_ _=>rfl⟩
instance nx_Constant{x k}{p:Pos}:NoStar (.Constant x k p):=⟨λ_ _=>rfl⟩
instance nx_BinOp{a o b}{p:Pos}:NoStar (.BinOp a o b p):=⟨λ_ _=>rfl⟩
instance nx_UnaryOp{o a}{p:Pos}:NoStar (.UnaryOp o a p):=⟨λ_ _=>rfl⟩
instance nx_Call{f a k}{p:Pos}:NoStar (.Call f a k p):=⟨λ_ _=>rfl⟩
instance nx_List{a}{p:Pos}:NoStar (.List a p):=⟨λ_ _=>rfl⟩
instance nx_Tuple{a k}{p:Pos}:NoStar (.Tuple a k p):=⟨λ_ _=>rfl⟩
instance nx_Subscript{a b}{p:Pos}:NoStar (.Subscript a b p):=⟨λ_ _=>rfl⟩
instance nx_ListComp{a b s}{p:Pos}:NoStar (.ListComp a b s p):=⟨λ_ _=>rfl⟩
def Zc{p2:Bool}{fa:FE}{ra:FA}[NoStar e](ha:ME X io p c e (o2 fa))(hr:MA X io p' c' es (o2 ra))(hc:p'=YD\/c=YD:=by first|exact QG rfl|exact Qz rfl)(h2:(p&&p')=p2:=by rfl)(h3:(c&&c')=c2:=by rfl):MA X io p2 c2 (e::es) (o2 (Zf fa ra)) :=
 h2▸h3▸Z4d (Z32 ha hr hc (NoStar.h es X.env))
theorem Zdh{m:MEt}(h:ME X io p c e m)(h2:p=p':=by rfl)(h3:c=c':=by rfl):ME X io p' c' e m:=h2▸h3▸h
variable {G:Xc}
section
variable {X:Cx}{io:List Nat}{p c:Bool}{e a b:YJ}{es:List YJ}{m ma mb:MEt}{mr:MAt}{pos apos cpos px py pt sp kp:Pos}{i j:Nat}{x y:Str}{fa fb:FE}{ra:FA}{st:YK}{u:FS}
def insI(x:Int):List Int->List Int
 | []=>[x]
 | y::ys=>if x<=y then x::y::ys else y::insI x ys
def Zch:List Int->List Int
 | []=>[]
 | x::xs=>insI x (Zch xs)
theorem insI_perm(x:Int):∀l,(insI x l).Perm (x::l)
 | []=>.refl _
 | y::ys=>by
  unfold insI;split
  .exact .refl _
  .exact((insI_perm x ys).cons y).trans (.swap x y ys)
theorem Za3:∀l,(Zch l).Perm l
 | []=>.refl _
 | x::xs=>(insI_perm x _).trans ((Za3 xs).cons x)
theorem Zgk(x:Int):∀{l},l.Pairwise (·<=·)->(insI x l).Pairwise (·<=·)
 | [],_=>.cons (λ_ m=>nomatch m) .nil
 | y::ys,h=>by
  unfold insI;cases h with
  | cons h1 h2=>
   split
   .rename_i c
    refine .cons (λz m=>?_) (.cons h1 h2);rcases Xn.mp m with rfl|m
    .exact c
    .exact Int.le_trans c (h1 z m)
   .rename_i c
    refine .cons (λz m=>?_) (Zgk x h2);rcases Xn.mp ((insI_perm x ys).mem_iff.mp m)with rfl|m
    .omega
    .exact h1 z m
theorem Zan:∀l,(Zch l).Pairwise (·<=·)
 | []=>.nil
 | x::xs=>Zgk x (Zan xs)
theorem Zbh:∀{l₁ l₂:List Int},l₁.Perm l₂->l₁.Pairwise (·<=·)->l₂.Pairwise (·<=·)->l₁=l₂
 | [],l₂,h,_,_=>h.nil_eq
 | a::l₁,[],h,_,_=>h.eq_nil
 | a::l₁,b::l₂,h,h1,h2=>by
  cases h1 with
  | cons p1 q1=>
   cases h2 with
   | cons p2 q2=>
    have e:a=b:=by
     have m1:a∈b::l₂:=h.mem_iff.mp (.head _);have m2:b∈a::l₁:=h.mem_iff.mpr (.head _);rcases Xn.mp m1 with e|m1
     .exact e
     .rcases Xn.mp m2 with e|m2
      .exact e.symm
      .have:=p2 a m1
       have:=p1 b m2;omega
    subst e;rw[Zbh h.cons_inv q1 q2]
theorem Z7v:∀{its:List Xe} {ns:List Int},Vb its ns->Vals (ns.map V.int) its
 | [],_,h=>by cases h;exact .nil
 | v::its,_,h=>by
  cases h with
  | cons n t h=>exact .cons ⟨_,rfl⟩ (Z7v h)
end
structure Gives(P:X3)(w:Qo)(it:YG)(f:List YG)(St:YH->Prop)(x:Xe)(St':YH->Prop):Prop where
 mem:it∈f
 run:∀{A:Qn} {E:Xe->Xf->Prop} {s:Xf} {Q:Xe->Xf->Prop},St s.heap->(∀h',St' h'->JQ it s.heap h'->Q x { s with heap:=h' })->Xz (X4 P w) A (Q4 (.ref it)) Q E s
 keep:∀h h',(∀c∈f,∀o,h.get? c=YB o->h'.get? c=YB o)->St h->St h'
 keep':∀h h',(∀c∈f,∀o,h.get? c=YB o->h'.get? c=YB o)->St' h->St' h'
structure Zit(P:X3)(w:Qo)(it:YG)(f:List YG)(St:YH->Prop):Prop where
 mem:it∈f
 run:∀{A:Qn} {E:Xe->Xf->Prop} {s:Xf} {Q:Xe->Xf->Prop},A.handled=YC->St s.heap->(∀h' e,Heap.ExtBut it s.heap h'->(∃o,h'.get? e=YB o/\o.cls= .type "StopIteration")->E (.ref e) { s with heap:=h' })->Xz (X4 P w) A (Q4 (.ref it)) Q E s
 keep:∀h h',(∀c∈f,∀o,h.get? c=YB o->h'.get? c=YB o)->St h->St h'
structure ZA(z TI TO i1 i2:YG)(f1 f2:List YG):Prop where
 TIz:TI≠z
 TOz:TO≠z
 a1:∀c∈f1,c≠z/\c≠TO/\c≠i2
 a2:∀c∈f2,c≠z/\c≠TO/\c≠i1
end L2
variable {z i1:YG}{items:Array Xe}{ra:FA}{F:FD}{me fa fb fc:FE}{gg:FG}{S1 T1:YH->Prop}{m':MXt}{np:Nat}{D cn:Str}
namespace L2
open PySem PySem.Spec PyProof.Rows
section
variable {P:X3}{w:Qo}{A:Qn}{E:Xe->Xf->Prop}{s:Xf}
def Zjt{T:YG}{a b x:Xe}{k:Nat}{Q:Unit->Xf->Prop}(hT:Vr s.heap T a b)(h:∀h',h'.get? T=YB { cls:=.type "tuple",data:=.seq ((#[a,b]:Array Xe).setIfInBounds k x) }->JQ T s.heap h'->Q () { s with heap:=h' }) :
  Xz (X4 P w) A (updateSeq T (·.setIfInBounds k x)) Q E s:=wpAny_updateSeq_pair hT h
theorem Zte{TI TO i2:YG}{f1 f2:List YG}{S2 T2:YH->Prop}{x y a b:Xe}(D:ZA z TI TO i1 i2 f1 f2)(G1:Gives P w i1 f1 S1 x T1)(G2:Gives P w i2 f2 S2 y T2)
  (hz:IsZip s.heap z TI TO .none) (hTI:Vr s.heap TI (.ref i1) (.ref i2)) (hTO:Vr s.heap TO a b) (h1:S1 s.heap) (h2:S2 s.heap)
  (hQ:∀h',IsZip h' z TI TO (JP s.heap.objs.size)->Vr h' TO x y->T1 h'->T2 h'->Vr h' s.heap.objs.size x y ->
   (∀ c o,c∉[z,TO,i1,i2]->s.heap.get? c=YB o->h'.get? c=YB o)->Q (.ref s.heap.objs.size) { s with heap:=h' }) :
  Xz (X4 P w) A (BJ.«zip.__next__» ⟨[.ref z],[]⟩) (λfin s'=>∃v,fin= .done (.ret v)/\Q v s') E s:=by
 obtain⟨i1z,i1O,i12⟩:=D.a1 i1 G1.mem;obtain⟨i2z,i2O,i21⟩:=D.a2 i2 G2.mem;have r1:z∉f1/\TO∉f1/\i2∉f1:=⟨λm=>(D.a1 z m).1 rfl,λm=>(D.a1 TO m).2.1 rfl,λm=>(D.a1 i2 m).2.2 rfl⟩;have r2:z∉f2/\TO∉f2/\i1∉f2:=⟨λm=>(D.a2 z m).1 rfl,λm=>(D.a2 TO m).2.1 rfl,λm=>(D.a2 i1 m).2.2 rfl⟩;have st:∀{b:YG} {h h':YH} {f:List YG},JQ b h h'->b∉f->∀c∈f,∀o,h.get? c=YB o->h'.get? c=YB o:=λsb hb c hc o e=>sb.extBut _ _ (λq=>hb (q▸hc)) e;show Xz _ _ (field (.ref z) 2>>=_) _ _ _;refine Xb (Bc hz rfl (x:=.bool YF) rfl ?_);show Xz _ _ (field (.ref z) 3>>=_) _ _ _;refine Xb (Bc hz rfl (x:=.ref TI) rfl (Xb (Bj hTI rfl ?_)));show Xz _ _ (BP (.ref z)>>=_) _ _ _;refine Xb ?_;unfold BP;refine Xb (Bc hz rfl (x:=.none) rfl (Xl ?_));simp only[if_true];refine Xb (U5 (Xb (Bc hz rfl (x:=.ref TO) rfl (Xb (Q7 hz (by simp) λh3 z3 b3=>?_)))));replace z3:IsZip h3 z TI TO .ellipsis:=z3;refine Xb ?_;simp only[List.zipIdx_cons,List.zipIdx_nil,List.forIn_cons,List.forIn_nil];refine Xb (Xb (wpAny_onRaise ?_));show Xz _ _ (Q4 (.ref i1)>>=_) _ _ _;refine Xb (G1.run (s:={ s with heap:=h3 }) (G1.keep _ _ (st b3 r1.1) h1) λh4 k4 b4=>Xl ?_);have o4:Vr h4 TO a b:=b4.extBut _ _ i1O.symm (b3.extBut _ _ D.TOz hTO);refine Xb (Bj o4 rfl (Xb (Zjt (s:={ s with heap:=h4 }) o4 λh5 o5 b5=>Xb (wpAny_letGo (Xl ?_)))));replace o5:Vr h5 TO x b:=o5;refine Xb (Xb (wpAny_onRaise ?_));show Xz _ _ (Q4 (.ref i2)>>=_) _ _ _;refine Xb (G2.run (s:={ s with heap:=h5 }) (G2.keep _ _ (st b5 r2.2.1) (G2.keep _ _ (st b4 r2.2.2) (G2.keep _ _ (st b3 r2.1) h2))) λh6 k6 b6=>Xl ?_);have o6:Vr h6 TO x b:=b6.extBut _ _ i2O.symm o5;refine Xb (Bj o6 rfl (Xb (Zjt (s:={ s with heap:=h6 }) o6 λh7 o7 b7=>Xb (wpAny_letGo (Xl (Xl ?_))))));replace o7:Vr h7 TO x y:=o7;refine Xb (Bj o7 rfl (Xb (wpAny_newTuple ?_)));have sz:h7.objs.size=s.heap.objs.size:=by rw[b7.1,b6.1,b5.1,b4.1,b3.1]
 have z7:IsZip h7 z TI TO .ellipsis:=b7.extBut _ _ D.TOz.symm (b6.extBut _ _ i2z.symm (b5.extBut _ _ D.TOz.symm (b4.extBut _ _ i1z.symm z3)));have t1:T1 h7:=G1.keep' _ _ (st b7 r1.2.1) (G1.keep' _ _ (st b6 r1.2.2) (G1.keep' _ _ (st b5 r1.2.1) k4));have t2:T2 h7:=G2.keep' _ _ (st b7 r2.2.1) k6;have old:∀c o,c∉[z,TO,i1,i2]->s.heap.get? c=YB o->h7.get? c=YB o:=λc o n e=>by
  simp only[Xn,BW,or_false,not_or]at n;exact b7.extBut _ _ n.2.1 (b6.extBut _ _ n.2.2.2 (b5.extBut _ _ n.2.1 (b4.extBut _ _ n.2.2.1 (b3.extBut _ _ n.1 e))))
 show Xz _ _ (Builtin.SmallTypes.ownedTupleHandOut (.ref z) (.ref h7.objs.size)>>=_) _ _ _;refine Xb ?_;unfold Builtin.SmallTypes.ownedTupleHandOut;have zp:IsZip (h7.push { cls:=.type "tuple",data:=.seq #[x,y] }) z TI TO .ellipsis:=Xg _ z7;refine Xb (Q7 zp (by simp) λh8 z8 b8=>?_);replace z8:IsZip h8 z TI TO (JP h7.objs.size):=z8;refine Q7 z8 (by simp) λh9 z9 b9=>?_;replace z9:IsZip h9 z TI TO (JP h7.objs.size):=z9;have up:∀c o,c≠z->h7.get? c=YB o->h9.get? c=YB o:=λc o n e=>b9.extBut _ _ n (b8.extBut _ _ n (Xg _ e));have nz:h7.objs.size≠z:=X5 (XH z7);have p9:Vr h9 h7.objs.size x y:=b9.extBut _ _ nz (b8.extBut _ _ nz (XQ _ rfl));refine Xl ⟨_,rfl,?_⟩;show Q (.ref h7.objs.size) _;rw[sz]at z9 p9|-
 exact hQ h9 z9 (up _ _ D.TOz o7) (G1.keep' _ _ (λc hc o e=>up c o (λq=>r1.1 (q▸hc)) e) t1) (G2.keep' _ _ (λc hc o e=>up c o (λq=>r2.1 (q▸hc)) e) t2) p9 λc o n e=>up c o (λq=>n (by simp[q])) (old c o n e)
theorem Zyn{TI TO i2:YG}{f1 f2:List YG}{S2:YH->Prop}{a b:Xe}{Q:Fin->Xf->Prop}(hh:A.handled=YC)(D:ZA z TI TO i1 i2 f1 f2)(g1:Zit P w i1 f1 S1\/(∃x,Gives P w i1 f1 S1 x T1)/\Zit P w i2 f2 S2)
  (hz:IsZip s.heap z TI TO .none) (hTI:Vr s.heap TI (.ref i1) (.ref i2)) (hTO:Vr s.heap TO a b) (h1:S1 s.heap) (h2:S2 s.heap)
  (hE:∀h' e,(∀c o,c∉[z,TO,i1,i2]->s.heap.get? c=YB o->h'.get? c=YB o)->(∃o,h'.get? e=YB o/\o.cls= .type "StopIteration")->E (.ref e) { s with heap:=h' }) :
  Xz (X4 P w) A (BJ.«zip.__next__» ⟨[.ref z],[]⟩) Q E s:=by
 have r1:z∉f1/\TO∉f1/\i2∉f1:=⟨λm=>(D.a1 z m).1 rfl,λm=>(D.a1 TO m).2.1 rfl,λm=>(D.a1 i2 m).2.2 rfl⟩;have r2:z∉f2/\TO∉f2/\i1∉f2:=⟨λm=>(D.a2 z m).1 rfl,λm=>(D.a2 TO m).2.1 rfl,λm=>(D.a2 i1 m).2.2 rfl⟩;have st:∀{b:YG} {h h':YH} {f:List YG},JQ b h h'->b∉f->∀c∈f,∀o,h.get? c=YB o->h'.get? c=YB o:=λsb hb c hc o e=>sb.extBut _ _ (λq=>hb (q▸hc)) e;show Xz _ _ (field (.ref z) 2>>=_) _ _ _;refine Xb (Bc hz rfl (x:=.bool YF) rfl ?_);show Xz _ _ (field (.ref z) 3>>=_) _ _ _;refine Xb (Bc hz rfl (x:=.ref TI) rfl (Xb (Bj hTI rfl ?_)));show Xz _ _ (BP (.ref z)>>=_) _ _ _;refine Xb ?_;unfold BP;refine Xb (Bc hz rfl (x:=.none) rfl (Xl ?_));simp only[if_true];refine Xb (U5 (Xb (Bc hz rfl (x:=.ref TO) rfl (Xb (Q7 hz (by simp) λh3 z3 b3=>?_)))));replace z3:IsZip h3 z TI TO .ellipsis:=z3;refine Xb ?_;simp only[List.zipIdx_cons,List.zipIdx_nil,List.forIn_cons,List.forIn_nil];refine Xb (Xb (wpAny_onRaise ?_));show Xz _ _ (Q4 (.ref i1)>>=_) _ _ _;rcases g1 with G1|⟨⟨x,G1⟩,G2⟩
 .obtain⟨i1z,i1O,i12⟩:=D.a1 i1 G1.mem
  refine Xb (G1.run (s:={ s with heap:=h3 }) hh (G1.keep _ _ (st b3 r1.1) h1) λh4 e b4 he=>?_);obtain⟨oe,hoe,hce⟩:=he;have z4:IsZip h4 z TI TO .ellipsis:=b4 _ _ i1z.symm z3;have ez:e≠z:=λq=>by subst q;rw[z4]at hoe;cases hoe;simp at hce
  refine Q7 z4 (by simp) λh5 _ b5=>hE h5 e (λc o n q=>?_) ⟨oe,b5.extBut _ _ ez hoe,hce⟩;simp only[Xn,BW,or_false,not_or]at n;exact b5.extBut _ _ n.1 (b4 _ _ n.2.2.1 (b3.extBut _ _ n.1 q))
 .obtain⟨i1z,i1O,i12⟩:=D.a1 i1 G1.mem
  obtain⟨i2z,i2O,i21⟩:=D.a2 i2 G2.mem;refine Xb (G1.run (s:={ s with heap:=h3 }) (G1.keep _ _ (st b3 r1.1) h1) λh4 k4 b4=>Xl ?_);have o4:Vr h4 TO a b:=b4.extBut _ _ i1O.symm (b3.extBut _ _ D.TOz hTO);refine Xb (Bj o4 rfl (Xb (Zjt (s:={ s with heap:=h4 }) o4 λh5 o5 b5=>Xb (wpAny_letGo (Xl ?_)))));refine Xb (Xb (wpAny_onRaise ?_));show Xz _ _ (Q4 (.ref i2)>>=_) _ _ _;refine Xb (G2.run (s:={ s with heap:=h5 }) hh (G2.keep _ _ (st b5 r2.2.1) (G2.keep _ _ (st b4 r2.2.2) (G2.keep _ _ (st b3 r2.1) h2))) λh6 e b6 he=>?_);obtain⟨oe,hoe,hce⟩:=he;have z6:IsZip h6 z TI TO .ellipsis:=b6 _ _ i2z.symm (b5.extBut _ _ D.TOz.symm (b4.extBut _ _ i1z.symm z3));have ez:e≠z:=λq=>by subst q;rw[z6]at hoe;cases hoe;simp at hce
  refine Q7 z6 (by simp) λh7 _ b7=>hE h7 e (λc o n q=>?_) ⟨oe,b7.extBut _ _ ez hoe,hce⟩;simp only[Xn,BW,or_false,not_or]at n;exact b7.extBut _ _ n.1 (b6 _ _ n.2.2.2 (b5.extBut _ _ n.2.1 (b4.extBut _ _ n.2.2.1 (b3.extBut _ _ n.1 q))))
theorem Zp5{TI TO i2:YG}{f1 f2:List YG}{S2 T2:YH->Prop}{x y a b:Xe}{Q:Option Xe->Xf->Prop}(D:ZA z TI TO i1 i2 f1 f2)(G1:Gives P w i1 f1 S1 x T1)(G2:Gives P w i2 f2 S2 y T2)
  (hz:IsZip s.heap z TI TO .none) (hTI:Vr s.heap TI (.ref i1) (.ref i2)) (hTO:Vr s.heap TO a b) (h1:S1 s.heap) (h2:S2 s.heap)
  (hQ:∀h',IsZip h' z TI TO (JP s.heap.objs.size)->Vr h' TO x y->T1 h'->T2 h'->Vr h' s.heap.objs.size x y ->
   (∀ c o,c∉[z,TO,i1,i2]->s.heap.get? c=YB o->h'.get? c=YB o)->Q (YB (.ref s.heap.objs.size)) { s with heap:=h' }):Xz (X4 P w) A (UJ (.ref z)) Q E s:=by
 have hT:s.TypeIs (.ref z) "zip" :=⟨_,hz,rfl⟩;unfold UJ;exact Xb (wpAny_attempt (Ba (name:=Uj "__next__") hT F.slot_zip_next (JD F.slot_zip_next hT F.entry_zip_next (Zte D G1 G2 hz hTI hTO h1 h2 λh' a1 a2 a3 a4 a5 a6=>Xl (hQ h' a1 a2 a3 a4 a5 a6)) (F.args_zip_next_1 _))))
theorem Ztt{TI TO i2:YG}{f1 f2:List YG}{S2:YH->Prop}{a b:Xe}{Q:Option Xe->Xf->Prop}(hh:A.handled=YC)(D:ZA z TI TO i1 i2 f1 f2)(g1:Zit P w i1 f1 S1\/(∃x,Gives P w i1 f1 S1 x T1)/\Zit P w i2 f2 S2)
  (hz:IsZip s.heap z TI TO .none) (hTI:Vr s.heap TI (.ref i1) (.ref i2)) (hTO:Vr s.heap TO a b) (h1:S1 s.heap) (h2:S2 s.heap)
  (hQ:∀h',(∀c o,c∉[z,TO,i1,i2]->s.heap.get? c=YB o->h'.get? c=YB o)->Q YC { s with heap:=h' }):Xz (X4 P w) A (UJ (.ref z)) Q E s:=by
 have hT:s.TypeIs (.ref z) "zip" :=⟨_,hz,rfl⟩;unfold UJ;refine Xb (wpAny_attempt (Ba (name:=Uj "__next__") hT F.slot_zip_next (JD F.slot_zip_next hT F.entry_zip_next (Zyn hh D g1 hz hTI hTO h1 h2 λh' e hk he=>?_) (F.args_zip_next_1 _))));obtain⟨o,ho,hc⟩:=he;exact Xb (wpAny_isInstance (T :="StopIteration") (b:=YD) ⟨o,ho,hc⟩ isSubtype_stop (Xl (hQ _ hk)))
theorem Zry{it t:YG}{x:Xe}(hx:items[i]? =YB x):Gives P w it [it,t] (λh=>IsTupIter h it t i/\IsTup h t items) x (λh=>IsTupIter h it t (i+1)) where
 mem:=by simp
 run:=fun{A E s Q} ⟨hit,ht⟩ hQ=>by
  obtain⟨o,ho,hc,hd⟩:=id hit;obtain⟨ol,hol,_,nl,hdl⟩:=ht;unfold Q4;refine Xb (Ba (name:=Uj "__next__") hit.typeIs slot_tupleiter_next (JD slot_tupleiter_next hit.typeIs entry_tupleiter_next ?_ (args_tupleiter_next _)));show Xz _ _ (field (.ref it) 0>>=_) _ _ s;refine Xb (Bc ho hd (x:=.ref t) rfl ?_);show Xz _ _ (if(Xy t==QD)=YD then _ else _) _ _ s;rw[YQ (show¬((Xy t==QD)=YD)from Xx)];show Xz _ _ (field (.ref it) 1>>=_) _ _ s;refine Xb (Bc ho hd (x:=.int i 0) rfl ?_);show Xz _ _ (seqItems? (.ref t)>>=_) _ _ s;refine Xb (Bj hol hdl ?_);simp only[Bx,hx];refine Xb (wpAny_setField ho hd (by simp) (Xl ⟨x,rfl,Xl (hQ _ ?_ (QK ..))⟩));exact⟨_,V5 _ ho (Obj.isFreed_of_fields (Obj.data_mapFields hd _)),(Obj.cls_mapFields ..).trans hc,by rw[Obj.data_mapFields hd];simp[JP]⟩
 keep:=λh h' k ⟨⟨o,a1,a2⟩,⟨o',b1,b2⟩⟩=>⟨⟨o,k it (by simp) o a1,a2⟩,⟨o',k t (by simp) o' b1,b2⟩⟩
 keep':=λh h' k ⟨o,a1,a2⟩=>⟨o,k it (by simp) o a1,a2⟩
theorem Zxu{it t:YG}(hx:items[i]? =YC):Zit P w it [it,t] (λh=>IsTupIter h it t i/\IsTup h t items) where
 mem:=by simp
 run:=fun{A E s Q} hh ⟨hit,ht⟩ hE=>by
  obtain⟨o,ho,hc,hd⟩:=id hit;obtain⟨ol,hol,_,nl,hdl⟩:=ht;unfold Q4;refine Xb (Ba (name:=Uj "__next__") hit.typeIs slot_tupleiter_next (JD slot_tupleiter_next hit.typeIs entry_tupleiter_next ?_ (args_tupleiter_next _)));show Xz _ _ (field (.ref it) 0>>=_) _ _ s;refine Xb (Bc ho hd (x:=.ref t) rfl ?_);show Xz _ _ (if(Xy t==QD)=YD then _ else _) _ _ s;rw[YQ (show¬((Xy t==QD)=YD)from Xx)];show Xz _ _ (field (.ref it) 1>>=_) _ _ s;refine Xb (Bc ho hd (x:=.int i 0) rfl ?_);show Xz _ _ (seqItems? (.ref t)>>=_) _ _ s;refine Xb (Bj hol hdl ?_);simp only[Bx,hx];refine Xb (U5 (Xb (wpAny_setField ho hd (by simp) ?_)));show Xz _ _ (newExc (.type "StopIteration") []>>=_) _ _ _;refine Xb ?_;simp only[newExc,newTuple];refine Xb (JW ?_ (by size_fits));refine Xb (m:=firstArgMember _ _) (wpAny_of_eq (a:=QD) (by first|rfl|(simp only[firstArgMember];rfl)) ?_);refine JW ?_ (by size_fits);simp only[raiseNew];refine Xb (wpAny_handled ?_)
  first|rw[show A.in1.handled=YC from hh]|rw[hh]
  exact Xb (Xl (wpAny_throw (hE _ _ (((QK ..).extBut.push _).push _) ⟨_,XQ _ rfl,rfl⟩)))
 keep:=λh h' k ⟨⟨o,a1,a2⟩,⟨o',b1,b2⟩⟩=>⟨⟨o,k it (by simp) o a1,a2⟩,⟨o',k t (by simp) o' b1,b2⟩⟩
end
abbrev zT1(h:YH)(a:YG):YH:=h.push { cls:=.type "tuple_iterator",data:=.fields #[.ref a,.int 0 0] }
abbrev zT2(h:YH)(a b:YG):YH:=(zT1 h a).push { cls:=.type "tuple_iterator",data:=.fields #[.ref b,.int 0 0] }
abbrev zT3(h:YH)(a b:YG):YH:=(zT2 h a b).push { cls:=.type "tuple",data:=.seq #[.ref h.objs.size,.ref (zT1 h a).objs.size] }
abbrev zT4(h:YH)(a b:YG):YH:=(zT3 h a b).push { cls:=.type "tuple",data:=.seq #[.none,.none] }
abbrev zT5(h:YH)(a b:YG):YH:=(zT4 h a b).push { cls:=.type "zip",data:=.fields #[.none,.bool YF,.bool YF,.ref (zT2 h a b).objs.size,.ref (zT3 h a b).objs.size] }
theorem Zw9(a b:YG)(xs ys:Array Xe) :
  Meets (BJ.«zip.__new__» ⟨[.type "zip",.ref a,.ref b],[]⟩) (λ_ R s=>IsTup s.heap a xs/\IsTup s.heap b ys/\R (.ok (.ret (.ref (zT4 s.heap a b).objs.size))) { s with heap:=zT5 s.heap a b }) :=
 .of_wp λprog w A R s h=>by
  obtain⟨hp,g,d,tk,os⟩:=s;obtain⟨h1,h2,h⟩:=h;have hsub:=sub_zip;have hL1:IsTup (Xf.heap ⟨hp,g,d,tk,os⟩) a xs:=h1;have hL2:IsTup (Xf.heap ⟨hp.push { cls:=.type "tuple_iterator",data:=.fields #[.ref a,.int 0 0] },g,d,tk,os⟩) b ys:=h2.push _
  wp_walk using iter_tuple hL1,iter_tuple hL2
  exact⟨_,rfl,h⟩
section
variable {P:X3}{w:Qo}{A:Qn}{E:Xe->Xf->Prop}{s:Xf}
theorem Ztp{b:YG}{xs ys:Array Xe}(h1:IsTup s.heap a xs)(h2:IsTup s.heap b ys)
  (h:∀h' n,n=s.heap.objs.size->IsZip h' (n+4) (n+2) (n+3) .none->Vr h' (n+2) (.ref n) (.ref (n+1))->Vr h' (n+3) .none .none->IsTupIter h' n a 0->IsTupIter h' (n+1) b 0 ->
   (∀ c o,s.heap.get? c=YB o->h'.get? c=YB o)->Q (.ref (n+4)) { s with heap:=h' }):Xz (X4 P w) A (call (.type "zip") [.ref a,.ref b]) Q E s:=by
 refine callType_new F.called_zip (!1) (F.typeCall_zip_2 _ _) (F.newCall_zip_2 _ _) (λobj=>F.args_object_init_3 obj _ _) F.entry_zip_new (Zw9 a b xs ys) ⟨h1,h2,?_⟩;have e1:(zT1 s.heap a).objs.size=s.heap.objs.size+1:=QS ..;have e2:(zT2 s.heap a b).objs.size=s.heap.objs.size+2:=by rw[QS,e1]
 have e3:(zT3 s.heap a b).objs.size=s.heap.objs.size+3:=by rw[QS,e2]
 have e4:(zT4 s.heap a b).objs.size=s.heap.objs.size+4:=by rw[QS,e3]
 have up:∀{c o},(zT1 s.heap a).get? c=YB o->(zT5 s.heap a b).get? c=YB o:=λx=>Xg _ (Xg _ (Xg _ (Xg _ x)));have p5:(zT5 s.heap a b).get? (zT4 s.heap a b).objs.size=YB _:=XQ _ rfl;have p4:(zT5 s.heap a b).get? (zT3 s.heap a b).objs.size=YB _:=Xg _ (XQ _ rfl);have p3:(zT5 s.heap a b).get? (zT2 s.heap a b).objs.size=YB _:=Xg _ (Xg _ (XQ _ rfl));have p2:(zT5 s.heap a b).get? (zT1 s.heap a).objs.size=YB _:=Xg _ (Xg _ (Xg _ (XQ _ rfl)));have p1:(zT5 s.heap a b).get? s.heap.objs.size=YB _:=up (XQ _ rfl);show _/\_;rw[e2,e3,e4]at p5;rw[e1,e2]at p3;rw[e3]at p4;rw[e1]at p2;rw[e4];exact⟨⟨_,p5,rfl⟩,h _ _ rfl p5 p3 p4 ⟨_,p1,rfl,rfl⟩ ⟨_,p2,rfl,rfl⟩ λc o x=>up (Xg _ x)⟩
end
theorem nn{n a b:Nat}(h:a≠b):n+a≠n+b:=λe=>h (Nat.add_left_cancel e)
def n0{n b:Nat}(h:0≠b):n≠n+b:=λe=>h (Nat.add_left_cancel (n:=n) e)
def nlt{n a c:Nat}(h:a<n):a≠n+c:=Xr (Qi h (Vo ..))
theorem ZA.new{n a b:Nat}(h1:a<n)(h2:b<n):ZA (n+4) (n+2) (n+3) n (n+1) [n,a] [n+1,b] where
 TIz:=(by first|exact nn (!1)|exact n0 (!1)|exact(n0 (!1)).symm|exact nlt h1|exact nlt h2|exact(nlt h1).symm|exact(nlt h2).symm|exact Xr h1|exact Xr h2|exact X5 h1|exact X5 h2|omega)
 TOz:=(by first|exact nn (!1)|exact n0 (!1)|exact(n0 (!1)).symm|exact nlt h1|exact nlt h2|exact(nlt h1).symm|exact(nlt h2).symm|exact Xr h1|exact Xr h2|exact X5 h1|exact X5 h2|omega)
 a1:=λc hc=>by
  simp only[Xn,BW,or_false]at hc;rcases hc with rfl|rfl
  .exact⟨(by first|exact nn (!1)|exact n0 (!1)|exact(n0 (!1)).symm|exact nlt h1|exact nlt h2|exact(nlt h1).symm|exact(nlt h2).symm|exact Xr h1|exact Xr h2|exact X5 h1|exact X5 h2|omega),(by first|exact nn (!1)|exact n0 (!1)|exact(n0 (!1)).symm|exact nlt h1|exact nlt h2|exact(nlt h1).symm|exact(nlt h2).symm|exact Xr h1|exact Xr h2|exact X5 h1|exact X5 h2|omega),(by first|exact nn (!1)|exact n0 (!1)|exact(n0 (!1)).symm|exact nlt h1|exact nlt h2|exact(nlt h1).symm|exact(nlt h2).symm|exact Xr h1|exact Xr h2|exact X5 h1|exact X5 h2|omega)⟩
  .exact⟨(by first|exact nn (!1)|exact n0 (!1)|exact(n0 (!1)).symm|exact nlt h1|exact nlt h2|exact(nlt h1).symm|exact(nlt h2).symm|exact Xr h1|exact Xr h2|exact X5 h1|exact X5 h2|omega),(by first|exact nn (!1)|exact n0 (!1)|exact(n0 (!1)).symm|exact nlt h1|exact nlt h2|exact(nlt h1).symm|exact(nlt h2).symm|exact Xr h1|exact Xr h2|exact X5 h1|exact X5 h2|omega),(by first|exact nn (!1)|exact n0 (!1)|exact(n0 (!1)).symm|exact nlt h1|exact nlt h2|exact(nlt h1).symm|exact(nlt h2).symm|exact Xr h1|exact Xr h2|exact X5 h1|exact X5 h2|omega)⟩
 a2:=λc hc=>by
  simp only[Xn,BW,or_false]at hc;rcases hc with rfl|rfl
  .exact⟨(by first|exact nn (!1)|exact n0 (!1)|exact(n0 (!1)).symm|exact nlt h1|exact nlt h2|exact(nlt h1).symm|exact(nlt h2).symm|exact Xr h1|exact Xr h2|exact X5 h1|exact X5 h2|omega),(by first|exact nn (!1)|exact n0 (!1)|exact(n0 (!1)).symm|exact nlt h1|exact nlt h2|exact(nlt h1).symm|exact(nlt h2).symm|exact Xr h1|exact Xr h2|exact X5 h1|exact X5 h2|omega),(by first|exact nn (!1)|exact n0 (!1)|exact(n0 (!1)).symm|exact nlt h1|exact nlt h2|exact(nlt h1).symm|exact(nlt h2).symm|exact Xr h1|exact Xr h2|exact X5 h1|exact X5 h2|omega)⟩
  .exact⟨(by first|exact nn (!1)|exact n0 (!1)|exact(n0 (!1)).symm|exact nlt h1|exact nlt h2|exact(nlt h1).symm|exact(nlt h2).symm|exact Xr h1|exact Xr h2|exact X5 h1|exact X5 h2|omega),(by first|exact nn (!1)|exact n0 (!1)|exact(n0 (!1)).symm|exact nlt h1|exact nlt h2|exact(nlt h1).symm|exact(nlt h2).symm|exact Xr h1|exact Xr h2|exact X5 h1|exact X5 h2|omega),(by first|exact nn (!1)|exact n0 (!1)|exact(n0 (!1)).symm|exact nlt h1|exact nlt h2|exact(nlt h1).symm|exact(nlt h2).symm|exact Xr h1|exact Xr h2|exact X5 h1|exact X5 h2|omega)⟩
theorem ZA.new2(n:Nat):(n+2:Nat)≠n+3/\(n+2:Nat)≠n/\(n+2:Nat)≠n+1:=⟨nn (!1),(n0 (!1)).symm,nn (!1)⟩
section
variable {X:Cx}{io:List Nat}{p c:Bool}{a b:YJ}{mr:MAt}
def Z8a(ds:List Xa):Option (List Xa):=match ds with|[.list as,.list bs]=>YB (Zme as bs)|[.tuple as,.tuple bs]=>YB (Zme as bs)|_=>YC
def Zq1(a:FA):FI:=λδ=>(a δ).bind λp=>(Z8a (OT.datas p.1)).bind λds=>YB (ds,p.2)
end
section
variable {X:Cx}{io:List Nat}{c1 c2 c3 c4 p:Bool}{a b e d:YJ}{ma mb mc md:MEt}{pos:Pos}{f g h:Int->Int->Bool}{ta tb tc td:TE}{fa fb fc fd:FE}{G:Xc}
def Zq9(r r' r'':R2)(ta tb tc td:TE):TE:=λO H Q=>ta O H λx H1=>tb O H1 λy H2=>r x y H2 λz H3=>∃k,z= .bl k/\
 (if k=YD then tc O H3 λw H4=>r' y w H4 λz' H5=>∃k',z'= .bl k'/\(if k'=YD then td O H5 λu H6=>r'' w u H6 Q else Q (.bl YF) H5)else Q (.bl YF) H3)
def Zsh{op'':CmpOp}{r'':R2}(ho:OpR X (QL op) r)(ho':OpR X (QL op') r')(ho'':OpR X (QL op'') r'')(ha:PE X a ta)(hb:PE X b tb)(hc:PE X e tc)(hd:PE X d td)
  (hm:lastMarks [op,op',op''] [b,e,d]=YF:=by with_unfolding_all rfl):PT X (.Compare a [op,op',op''] [b,e,d] pos) (Zxm (Zq9 r r' r'' ta tb tc td)):=by
 intro pins s O H Q I h;refine isTrue_chain (thn (ha pins s O H _ I h) λv s1 ⟨x,H1,I1,r1,q1⟩=>test_link (thn (hb pins s1 O H1 _ I1 q1) λu s2 ⟨y,H2,I2,r2,q2⟩=>
  thn (ho pins s2 O H2 x y v u _ I2 r1 r2 q2) λd s3 ⟨z,H3,I3,r3,k,e,q3⟩=>?_)) hm
 subst e;cases r3;refine JV ?_;cases k with
 | false=>
  obtain⟨k',e',q'⟩:=q3;cases e';exact ite_ff ⟨H3,I3,q'⟩
 | true=>
  refine ite_tt (test_link (thn (hc pins s3 O H3 _ I3 q3) λw' s4 qz9=>?_));obtain⟨z',H4,I4,r4,q4⟩:=qz9;refine thn (ho' pins s4 O H4 y z' u w' _ I4 r2 r4 q4) λd' s5 qz9=>?_;obtain⟨z2,H5,I5,r5,k2,e2,q5⟩:=qz9;subst e2;cases r5;refine JV ?_;cases k2 with
  | false=>
   obtain⟨k',e',q'⟩:=q5;cases e';exact ite_ff ⟨H5,I5,q'⟩
  | true=>
   refine ite_tt (test_last (thn (hd pins s5 O H5 _ I5 q5) λw2 s6 qz9=>?_));obtain⟨z6,H6,I6,r6,q6⟩:=qz9;refine thn (ho'' pins s6 O H6 z' z6 w' w2 _ I6 r4 r6 q6) λd3 s7 qz9=>?_;obtain⟨z7,H7,I7,r7,k7,e7,q7⟩:=qz9;subst e7;cases r7;exact JV ⟨H7,I7,q7⟩
def Zni(f g h:Int->Int->Bool)(ma mb mc md:MEt):MEt:=λδ K=>ma δ λx δ1=>mb δ1 λy δ2=>asI x.data λi=>asI y.data λj=>if f i j=YD then mc δ2 λz δ3=>asI z.data λk=>(if g j k=YD then md δ3 λw δ4=>asI w.data λl=>K (.fz (.bool (h k l))) δ4 else K (.fz (.bool YF)) δ3)else K (.fz (.bool YF)) δ2
def Z25(ha:SE G io YD c1 ta ma)(hb:SE G io YD c2 tb mb)(hc:SE G io YD c3 tc mc)(hd:SE G io YD c4 td md):SE G io YD YD (Zq9 (rI0 λi j=>.bl (f i j)) (rI0 λi j=>.bl (g i j)) (rI0 λi j=>.bl (h i j)) ta tb tc td) (Zni f g h ma mb mc md):=by
 intro C H O δ fp ex K Q R h k;refine ha.pureAfter R h λH1 x u R1 s1 q1 h1=>?_;refine hb.pureAfter R1 h1 λH2 y v R2 s2 q2 h2=>?_;obtain⟨i,rfl,h2⟩:=q1.intInv h2;obtain⟨j,rfl,h2⟩:=q2.intInv h2;refine⟨i,j,rfl,rfl,f i j,rfl,?_⟩
 by_cases hf:f i j=YD
 .rw[YM hf]at h2|-
  refine hc.pureAfter R2 h2 λH3 z w R3 s3 q3 h3=>?_;obtain⟨l,rfl,h3⟩:=q3.intInv h3;have s13:Same H H3:=(s1.trans s2).trans s3;refine⟨j,l,rfl,rfl,g j l,rfl,?_⟩
  by_cases hg:g j l=YD
  .rw[YM hg]at h3|-
   refine hd.pureAfter R3 h3 λH4 z4 w4 R4 s4 q4 h4=>?_;obtain⟨n,rfl,h4⟩:=q4.intInv h4;have s14:Same H H4:=s13.trans s4;exact⟨l,n,rfl,rfl,k H4 _ _ δ fp [] (.fz R4 (.same s14 s14.al) (.bl _)) h4⟩
  .rw[YQ hg]at h3|-
   exact k H3 _ _ δ fp [] (.fz R3 (.same s13 s13.al) (.bl _)) h3
 .rw[YQ hf]at h2|-
  have s12:Same H H2:=s1.trans s2;exact k H2 _ _ δ fp [] (.fz R2 (.same s12 s12.al) (.bl _)) h2
def Zl2{op'':CmpOp}(ho:OpR X (QL op) (rI0 λi j=>.bl (f i j)))(ho':OpR X (QL op') (rI0 λi j=>.bl (g i j)))(ho'':OpR X (QL op'') (rI0 λi j=>.bl (h i j)))(ha:ME X io YD c1 a ma)(hb:ME X io YD c2 b mb)(hc:ME X io YD c3 e mc)(hd:ME X io YD c4 d md)
  (hm:lastMarks [op,op',op''] [b,e,d]=YF:=by with_unfolding_all rfl):MT X io YD (.Compare a [op,op',op''] [b,e,d] pos) (λδ K=>Zni f g h ma mb mc md δ (kB K)):=by
 obtain⟨_,A,sa⟩:=ha;obtain⟨_,B,sb⟩:=hb;obtain⟨_,D,sc⟩:=hc;obtain⟨_,F,sd⟩:=hd;exact⟨_,Zsh ho ho' ho'' A B D F hm,Z4b (Z25 sa sb sc sd)⟩
def intOf(d:Xa):Option Int:=match d with| .int i=>YB i|_=>YC
def Zdu{d:Xa}{i:Int}(h:intOf d=YB i):d= .int i:=by
 unfold intOf at h;split at h
 .cases h;rfl
 .cases h
def Zcg(f g h:Int->Int->Bool)(a b c d:FE):FE:=λδ=>(a δ).bind λx=>(b x.2).bind λy=>(intOf x.1.data).bind λi=>(intOf y.1.data).bind λj=>
 if f i j=YD then(c y.2).bind λz=>(intOf z.1.data).bind λk=>if g j k=YD then(d z.2).bind λw=>(intOf w.1.data).bind λl=>YB (.fz (.bool (h k l)),w.2)else YB (.fz (.bool YF),z.2)else YB (.fz (.bool YF),y.2)
def Zly{ee:YJ}(hh:MT X io p ee (λδ K=>Zni f g h (o2 fa) (o2 fb) (o2 fc) (o2 fd) δ (kB K))):MT X io p ee (o2 (tV (Zcg f g h fa fb fc fd))):=hh.weak λδ K z=>by
 obtain⟨r,δ',h,k⟩:=Yek z;obtain⟨⟨x,δ1⟩,h1,h⟩:=bs h;obtain⟨⟨y,δ2⟩,h2,h⟩:=bs h;obtain⟨i,hi,h⟩:=bs h;obtain⟨j,hj,h⟩:=bs h;refine⟨x,δ1,h1,y,δ2,h2,?_⟩;dsimp only at h hi hj|-
 rw[Zdu hi,Zdu hj];show(if f i j=YD then _ else _)
 by_cases hf:f i j=YD
 .rw[YM hf]at h|-
  obtain⟨⟨z,δ3⟩,h3,h⟩:=bs h;obtain⟨l,hl,h⟩:=bs h;refine⟨z,δ3,h3,?_⟩;dsimp only at h hl|-
  rw[Zdu hl];show(if g j l=YD then _ else _)
  by_cases hg:g j l=YD
  .rw[YM hg]at h|-
   obtain⟨⟨w,δ4⟩,h4,h⟩:=bs h;obtain⟨n,hn,h⟩:=bs h;cases h;refine⟨w,δ4,h4,?_⟩;dsimp only at hn|-
   rw[Zdu hn];exact k
  .rw[YQ hg]at h|-
   cases h;exact k
 .rw[YQ hf]at h|-
  cases h;exact k
end
variable {G:Xc}
section
variable {X:Cx}{io:List Nat}{p c:Bool}{a b e:YJ}{mr:MAt}{ra:FA}{i:Nat}
def isFn(y:Str)(d:Xa):Bool:=match d with| .dict [(.str x,.bool YD)]=>decide (x=y)|_=>YF
end
def Yh2(K:Xc)(l:YG):It :=
 ⟨λi H=>∃xs x,SqL K H l xs/\xs[i]? =YB x,
   λi H v H'=>∃p x,H p=YC/\v= .ref p/\H'=upd H p (.tup [.int i,x])/\∀xs,SqL K H l xs->xs[i]? =YB x,
   λi H=>∃xs,SqL K H l xs/\xs.length<=i⟩
def StE(z it l:YG)(i:Nat)(h:YH):Prop:=(∃old,IsEnum h z it (i:Int) old)/\h.IsListIter it l i
def Ztv{kk:Nat}{it:YG}(hne:z≠it):Turn P w K (.Tuple es kk pos) (Yh2 K l) [z,it] z (StE z it l) where
 mem:=.head _
 obj:=λi h st b hb=>by
  obtain⟨⟨old,s1⟩,o4,e4,_,d4⟩:=st;rcases Xn.mp hb with rfl|hb
  .exact⟨_,s1,λv q=>by cases q⟩
  .rcases Xp.mp hb with rfl
   exact⟨_,e4,λv q=>by rw[d4]at q;cases q⟩
 keep:=λi h h' st k=>by
  obtain⟨⟨old,s1⟩,s4⟩:=st;exact⟨⟨old,k z (.head _) _ s1⟩,s4.at λo e=>k it (.tail _ (.head _)) o e⟩
 item:=by
  intro X hP hw hK hc i pins s O H E I hf st hg;subst hP hw hK;obtain⟨⟨old,s1⟩,s4⟩:=st;obtain⟨xs,x,hx,ex⟩:=hg;obtain⟨its,rx,px,hzx⟩:=I.list hx;obtain⟨u,hu,ru⟩:=rx.get ex;refine wpAny_pyNext_enum_item s1 s4 px.isList (by simpa using hu) hne λh' g1 g2 g3 g4 g5=>?_;refine⟨_,rfl,wpAny_letOwnedTupleGo_enum (s:={ s with heap:=h',toks:=s.toks+1 }) g1 λh2 z2 sb=>?_⟩;have hTz:s.heap.objs.size≠z:=X5 (XH s1);have up:∀c o,c≠z->h'.get? c=YB o->h2.get? c=YB o:=λc o n e=>(sb.2 c n).trans e;have kp:∀b o,b∉[z,it]->s.heap.get? b=YB o->h2.get? b=YB o:=λb o n e=>by
   have n1:b≠z:=λq=>n (q▸ .head _);exact up b o n1 (g5 b o n1 (λq=>n (q▸ .tail _ (.head _))) e)
  have t5:=up _ _ hTz g3;have g2':h2.IsListIter it l (i+1):=g2.at λo e=>up _ o (Bo hne) e;have I2:Inv X pins O (upd H s.heap.objs.size (.tup [.int i,x])) { s with heap:=h2,toks:=s.toks+1 }:=by
   refine(I.tok (s.toks+1)).turnTup (ch:=[z,it]) (its:=[.int i s.toks,u]) (λb hb=>hf b hb) kp (λb hb=>?_) (XD _) Z0a (.cons ⟨_,rfl⟩ (.cons ru .nil)) ⟨_,t5,rfl,0,rfl⟩;rcases Xn.mp hb with rfl|hb
   .exact⟨_,z2⟩
   .rcases Xp.mp hb with rfl
    obtain⟨o4,e4,_⟩:=g2';exact⟨_,e4⟩
  refine⟨.ref s.heap.objs.size,_,I2,rfl,⟨_,x,I.fresh,rfl,rfl,λys hy=>by rw[I.list_inj hy hx];exact ex⟩,⟨⟨_,z2⟩,g2'⟩,λb hb=>?_⟩;have:b≠s.heap.objs.size:=by
   rcases Xn.mp hb with rfl|hb
   .exact Xr (XH s1)
   .rcases Xp.mp hb with rfl
    obtain⟨o4,e4,_⟩:=s4;exact Xr (XH e4)
  rw[Zk this];exact(hf b hb).1
 done:=by
  intro X hP hw hK hc i pins s O H E I hf st hg;subst hP hw hK;obtain⟨⟨old,s1⟩,s4⟩:=st;obtain⟨xs,hx,he⟩:=hg;obtain⟨its,rx,px,hzx⟩:=I.list hx;have l1:=rx.length;refine wpAny_pyNext_enum_end (I.ok.hd hc) s1 s4 px.isList (by simp;omega) λh' k=>⟨rfl,I.turnAll (ch:=[it]) (λb hb=>hf b (.tail _ hb)) λb o n e=>k b o (λq=>n (q▸ .head _)) e⟩
 self:=λ_ _ _ _ _ st h=>by
  obtain⟨⟨old,s1⟩,_⟩:=st;exact wpAny_pyIter_enum s1 h
def Ykg(K:Xc)(ta:TA):TI:=λO H R=>ta O H λvs H1=>∃l,vs=[.ref l]/\(∃xs,SqL K H1 l xs)/\R (Yh2 K l) H1
def Z2b{a:YJ}{ta:TA}{p pt:Pos}{kk:Nat}(hK:X.K=K)(hg:Gl X "enumerate")(hm:X.mg "enumerate"=YC)(hv:Qh "enumerate"=YB (.type "enumerate"))(ha:PA X [a] ta)
  (he:Xo [a] X.env=(YF,eval a X.env)::Xo [] X.env:=by rfl) (hpl:(Q3 pos (Xo [] X.env)).any (·.1)=YF:=by rfl) :
  PI X (.Tuple es kk pt) (.Call (.Name "enumerate" p) [a] [] pos) (Ykg K ta):=by
 subst hK;intro pins s O H R I h;refine Be (Zcc I hg hm hv ?_ (!1) (!1));refine JH (thn (ha pos pins s O H _ I h) λus s1 q=>?_) he hpl;obtain⟨vs,H1,I1,r1,l,e1,⟨xs,hx⟩,q⟩:=q;subst e1;obtain⟨u,rfl,ru⟩:=vals1 r1;cases(show u=Xy l from ru);obtain⟨its,rx,px,hzx⟩:=I1.list hx;refine call_enumerate_list px.isList λh' g1 g2 g3 g4=>?_;have I2:Inv X pins O H1 { s1 with heap:=h' }:=I1.kept (t':=s1.toks) g4;refine wpAny_pyIter_enum (s:={ s1 with heap:=h' }) g1 ?_;refine⟨_,[_,_],StE _ _ _,_,H1,rfl,I2,Ztv (X5 (QQ _)),⟨⟨_,g1⟩,g2⟩,λb hb=>?_,q⟩;have hb':s1.heap.objs.size<=b:=by
  rcases Xn.mp hb with rfl|hb
  .exact Nat.le_succ _
  .rcases Xp.mp hb with rfl
   exact XD _
 exact I1.fpOk hb' (I1.hok.fresh hb')
def Zjl(as:List Xa):List Xa:=as.zipIdx.map λp=>.tuple [.int p.2,p.1]
def Zr8{as:List Xa}{d:Xa}(h:(Zjl as)[i]? =YB d):∃x,as[i]? =YB x/\d= .tuple [.int i,x]:=by
 unfold Zjl at h;rw[Xi,List.getElem?_zipIdx]at h;cases e:as[i]? with
 | none=>rw[e]at h;cases h
 | some x=>
  rw[e]at h;cases h;exact⟨x,rfl,by rw[Uk]⟩
def Zqj{as:List Xa}(h:(Zjl as)[i]? =YC):as.length<=i:=by
 have:=Q0.mp h;unfold Zjl at this;simpa using this
section
variable {X:Cx}{io:List Nat}{p c:Bool}{a:YJ}{mr:MAt}{ra:FA}
def iEn(mr:MAt):MIt:=λδ K=>mr δ λrs δ'=>match OT.datas rs with|[.list as]=>K (Zjl as) δ'|_=>False
def Z0i{p' pt:Pos}{kk:Nat}(hg:Gl X "enumerate")(hm:X.mg "enumerate"=YC)(hv:Qh "enumerate"=YB (.type "enumerate"))(ha:MA X io p c [a] mr)
  (he:Xo [a] X.env=(YF,eval a X.env)::Xo [] X.env:=by rfl) (hpl:(Q3 pos (Xo [] X.env)).any (·.1)=YF:=by rfl):MI X io p c (.Tuple es kk pt) (.Call (.Name "enumerate" p') [a] [] pos) (iEn mr):=by
 obtain⟨_,A,s⟩:=ha;refine⟨_,Z2b rfl hg hm hv A he hpl,λC H O δ fp ex K' Q R h kk=>s C H O δ fp ex _ _ R h λH1 vs rs δ1 fp1 new r1 h1=>?_⟩;have q:=r1.das R;generalize OT.datas rs=ds at q h1;split at h1
 case h_2=>exact h1.elim
 rename_i as;cases q with
 | cons q1 q2=>
  cases q2;have R1:=r1.base;obtain⟨l1,xs,rfl,k1⟩:=R1.keptList q1;have e1:=k1 H1 λ_ _ e _=>e;refine⟨l1,rfl,⟨_,e1.1⟩,kk _ H1 _ δ1 fp1 R1 r1.stp (λH' kp i=>?_) h1⟩;obtain⟨s1,d1⟩:=k1 H' kp;refine⟨λd hd=>?_,λhd=>?_⟩
  .obtain⟨x,hx,rfl⟩:=Zr8 hd
   obtain⟨u,hu,qu⟩:=d1.get hx;refine⟨⟨_,u,s1,hu⟩,λv H'' hyl=>?_⟩;obtain⟨t,u',ht,rfl,rfl,hu'⟩:=hyl;have eu:=hu' _ s1;rw[hu]at eu;cases eu;exact⟨Zw ht _,.tup Zq (.cons (.int _) (.cons (qu.same (Zw ht _)) .nil))⟩
  .exact⟨_,s1,by rw[d1.length];exact Zqj hd⟩
def Zv7(a:FA):FI:=λδ=>(a δ).bind λp=>match OT.datas p.1 with|[.list as]=>YB (Zjl as,p.2)|_=>YC
def Z20(h:MI X io p c tg e (iEn (o2 ra))):MI X io p c tg e (o2 (Zv7 ra)):=h.weak λδ K h=>by
 obtain⟨r,δ',h,k⟩:=h;obtain⟨⟨x,δ1⟩,h1,h⟩:=bs h;dsimp only at h;split at h
 .rename_i q
  injection h with h;injection h with e1 e2;subst e1 e2;refine⟨x,_,h1,?_⟩;dsimp only;rw[q];exact k
 .cases h
end
variable {G:Xc}
def Z7a{p:Y->Prop}{a b c d:Y}(h1:p a)(h2:p b)(h3:p c)(h4:p d):∀x∈[a,b,c,d],p x:=by
 intro x hx;rcases Xn.mp hx with rfl|hx
 .exact h1
 rcases Xn.mp hx with rfl|hx
 .exact h2
 rcases Xn.mp hx with rfl|hx
 .exact h3
 rcases Xp.mp hx with rfl;exact h4
def Ydc{p:Y->Prop}{a b c d e:Y}(h1:p a)(h2:p b)(h3:p c)(h4:p d)(h5:p e):∀x∈[a,b,c,d,e],p x:=λx hx=>(Xn.mp hx).elim (λq=>q▸h1) (Z7a h2 h3 h4 h5 x)
def no4{a b c d x:Y}(h1:x≠a)(h2:x≠b)(h3:x≠c)(h4:x≠d):x∉[a,b,c,d]:=λhx=>Z7a (p:=λy=>x≠y) h1 h2 h3 h4 x hx rfl
def SqB(K:Xc)(t:Bool)(H:Hp)(a:YG)(xs:List V):Prop:=match t with|true=>H a=YB (.tup xs)|false=>SqL K H a xs
def IsB(t:Bool)(h:YH)(a:YG)(its:Array Xe):Prop:=match t with|true=>IsTup h a its|false=>h.IsList a its
def ItB(t:Bool)(h:YH)(it a:YG)(i:Nat):Prop:=match t with|true=>IsTupIter h it a i|false=>h.IsListIter it a i
theorem ItB.at{t:Bool}{h h':YH}{it a:YG}{i:Nat}(x:ItB t h it a i)(k:∀o,h.get? it=YB o->h'.get? it=YB o):ItB t h' it a i:=by
 cases t with
 | false=>exact Heap.IsListIter.at x k
 | true=>
  obtain⟨o,ho,r⟩:=x;exact⟨o,k o ho,r⟩
theorem ItB.obj{t:Bool}{it:YG}(x:ItB t h it a i):∃o,h.get? it=YB o/\∀v,o.data≠ .cell v:=by
 cases t with
 | false=>
  obtain⟨o,ho,_,d⟩:=x;exact⟨o,ho,λv q=>by rw[d]at q;cases q⟩
 | true=>
  obtain⟨o,ho,_,d⟩:=x;exact⟨o,ho,λv q=>by rw[d]at q;cases q⟩
theorem IsB.lt{t:Bool}{its:Array Xe}(x:IsB t h a its):a<h.objs.size:=by
 cases t with
 | false=>
  obtain⟨o,ho,_⟩:=x;exact XH ho
 | true=>
  obtain⟨o,ho,_⟩:=x;exact XH ho
theorem SqB.its{O:St}{t:Bool}{xs:List V}(I:Inv X pins O H s)(h:SqB X.K t H a xs):∃its:List Xe,Vals xs its/\IsB t s.heap a its.toArray:=by
 cases t with
 | false=>
  obtain⟨its,r,p,_⟩:=I.list h;exact⟨its,r,p.isList⟩
 | true=>
  obtain⟨_,its,r,p⟩:=(show ObjOk X.prog X.w H s.heap a (.tup xs)from I.hok a _ h);exact⟨its,r,p⟩
theorem SqB.inj{O:St}{t:Bool}{xs ys:List V}(I:Inv X pins O H s)(h:SqB X.K t H a xs)(k:SqB X.K t H a ys):xs=ys:=by
 cases t with
 | false=>exact I.list_inj h k
 | true=>
  have:=(show H a=YB (.tup xs)from h).symm.trans k;cases this;rfl
section
variable {P:X3}{w:Qo}
def Zsz{t:Bool}{it:YG}{x:Xe}(hx:items[i]? =YB x):Gives P w it [it,a] (λh=>ItB t h it a i/\IsB t h a items) x (λh=>ItB t h it a (i+1)):=by
 cases t with
 | true=>exact Zry hx
 | false=>
  exact⟨.head _,λst hQ=>wpAny_nextOf_list_item st.1 st.2 hx hQ,λh h' k st=>⟨Heap.IsListIter.at st.1 λo e=>k it (.head _) o e,by
   obtain⟨o,ho,r⟩:=st.2;exact⟨o,k a (.tail _ (.head _)) o ho,r⟩⟩,λh h' k st=>Heap.IsListIter.at st λo e=>k it (.head _) o e⟩
def Yah{t:Bool}{it:YG}(hx:items[i]? =YC):Zit P w it [it,a] (λh=>ItB t h it a i/\IsB t h a items):=by
 cases t with
 | true=>exact Zxu hx
 | false=>
  exact⟨.head _,λhh st hE=>wpAny_nextOf_list_end hh st.1 st.2 hx hE,λh h' k st=>⟨Heap.IsListIter.at st.1 λo e=>k it (.head _) o e,by
   obtain⟨o,ho,r⟩:=st.2;exact⟨o,k a (.tail _ (.head _)) o ho,r⟩⟩⟩
end
def Yhf(K:Xc)(t:Bool)(a b:YG):It :=
 ⟨λi H=>∃xs ys x y,SqB K t H a xs/\SqB K t H b ys/\xs[i]? =YB x/\ys[i]? =YB y,
   λi H v H'=>∃p x y,H p=YC/\v= .ref p/\H'=upd H p (.tup [x,y])/\(∀xs,SqB K t H a xs->xs[i]? =YB x)/\∀ys,SqB K t H b ys->ys[i]? =YB y,
   λi H=>∃xs ys,SqB K t H a xs/\SqB K t H b ys/\(xs.length<=i\/ys.length<=i)⟩
def Yif(t:Bool)(z TI TO i1 i2 a b:YG)(i:Nat)(h:YH):Prop:=IsZip h z TI TO .none/\Vr h TI (.ref i1) (.ref i2)/\(∃x y,Vr h TO x y)/\ItB t h i1 a i/\ItB t h i2 b i
def Zvc{kk:Nat}{t:Bool}{TI TO i2 b:YG}(D:ZA z TI TO i1 i2 [i1,a] [i2,b])(D2:TI≠TO/\TI≠i1/\TI≠i2):Turn P w K (.Tuple es kk pos) (Yhf K t a b) [z,TI,TO,i1,i2] z (Yif t z TI TO i1 i2 a b) where
 mem:=.head _
 obj:=λi h st=>by
  obtain⟨s1,s2,⟨x,y,s3⟩,s4,s5⟩:=st;exact Ydc ⟨_,s1,λv q=>by cases q⟩ ⟨_,s2,λv q=>by cases q⟩ ⟨_,s3,λv q=>by cases q⟩ s4.obj s5.obj
 keep:=λi h h' st k=>by
  obtain⟨s1,s2,⟨x,y,s3⟩,s4,s5⟩:=st;have m2:TI∈[z,TI,TO,i1,i2]:=.tail _ (.head _);have m3:TO∈[z,TI,TO,i1,i2]:=.tail _ (.tail _ (.head _));have m4:i1∈[z,TI,TO,i1,i2]:=.tail _ (.tail _ (.tail _ (.head _)));have m5:i2∈[z,TI,TO,i1,i2]:=.tail _ (.tail _ (.tail _ (.tail _ (.head _))));exact⟨k z (.head _) _ s1,k TI m2 _ s2,⟨x,y,k TO m3 _ s3⟩,s4.at (k i1 m4),s5.at (k i2 m5)⟩
 item:=by
  intro X hP hw hK hc i pins s O H E I hf st hg;subst hP hw hK;obtain⟨s1,s2,⟨x0,y0,s3⟩,s4,s5⟩:=st;obtain⟨xs,ys,x,y,hx,hy,ex,ey⟩:=hg;obtain⟨its,rx,px⟩:=hx.its I;obtain⟨its',ry,py⟩:=hy.its I;obtain⟨u,hu,ru⟩:=rx.get ex;obtain⟨u',hu',ru'⟩:=ry.get ey;rw[<-List.getElem?_toArray]at hu hu';refine Zp5 D (Zsz hu) (Zsz hu') s1 s2 s3 ⟨s4,px⟩ ⟨s5,py⟩ λh' g1 g2 g3 g4 g5 g6=>?_;refine⟨_,rfl,wpAny_letOwnedTupleGo_zip (s:={ s with heap:=h' }) g1 λh2 z2 sb=>?_⟩;have up:∀c o,c≠z->h'.get? c=YB o->h2.get? c=YB o:=λc o n e=>(sb.2 c n).trans e;have kp:∀c o,c∉[z,TO,i1,i2]->s.heap.get? c=YB o->h2.get? c=YB o:=λc o n e=>up c o (λq=>n (q▸ .head _)) (g6 c o n e);have t5:Vr h2 s.heap.objs.size u u':=up _ _ (X5 (XH s1)) g5;have i1z:=(D.a1 i1 (.head _)).1;have i2z:=(D.a2 i2 (.head _)).1;have n3:=g3.at (up i1 · i1z);have n4:=g4.at (up i2 · i2z);obtain⟨f1,f2,f3,f4,f5⟩:(Ziz X pins H z/\Ziz X pins H TI/\Ziz X pins H TO/\Ziz X pins H i1/\Ziz X pins H i2):=⟨hf _ (.head _),hf _ (.tail _ (.head _)),hf _ (.tail _ (.tail _ (.head _))),hf _ (.tail _ (.tail _ (.tail _ (.head _)))),hf _ (.tail _ (.tail _ (.tail _ (.tail _ (.head _)))))⟩;have I2:Inv X pins O (upd H s.heap.objs.size (.tup [x,y])) { s with heap:=h2 } :=
   I.turnTup (ch:=[z,TO,i1,i2]) (its:=[u,u']) (Z7a f1 f3 f4 f5) kp (Z7a ⟨_,z2⟩ ⟨_,up _ _ D.TOz g2⟩ (n3.obj.imp λ_ q=>q.1) (n4.obj.imp λ_ q=>q.1)) (XD _) Z0a (.cons ru (.cons ru' .nil)) ⟨_,t5,rfl,0,rfl⟩
  have lt:∀{c:YG} {o:Obj},s.heap.get? c=YB o->Ziz X pins H c->upd H s.heap.objs.size (.tup [x,y]) c=YC:=λe f=>by rw[Zk (Xr (XH e))];exact f.1
  refine⟨.ref s.heap.objs.size,_,I2,rfl,⟨_,x,y,I.fresh,rfl,rfl,λzs hz=>by rw[hz.inj I hx];exact ex,λzs hz=>by rw[hz.inj I hy];exact ey⟩,⟨z2,kp TI _ (no4 D.TIz D2.1 D2.2.1 D2.2.2) s2,⟨_,_,up _ _ D.TOz g2⟩,n3,n4⟩,?_⟩;obtain⟨o4,e4,_⟩:=s4.obj;obtain⟨o5,e5,_⟩:=s5.obj;exact Ydc (lt s1 f1) (lt s2 f2) (lt s3 f3) (lt e4 f4) (lt e5 f5)
 done:=by
  intro X hP hw hK hc i pins s O H E I hf st hg;subst hP hw hK;obtain⟨s1,s2,⟨x0,y0,s3⟩,s4,s5⟩:=st;obtain⟨xs,ys,hx,hy,he⟩:=hg;obtain⟨its,rx,px⟩:=hx.its I;obtain⟨its',ry,py⟩:=hy.its I;have l1:=rx.length;have l2:=ry.length;refine Ztt (I.ok.hd hc) D (S1:=λh=>ItB t h i1 a i/\IsB t h a its.toArray) (T1:=λh=>ItB t h i1 a (i+1)) (S2:=λh=>ItB t h i2 b i/\IsB t h b its'.toArray) ?_ s1 s2 s3 ⟨s4,px⟩ ⟨s5,py⟩ λh' k=>⟨rfl,I.turnAll (ch:=[z,TO,i1,i2]) (Z7a (hf _ (.head _)) (hf _ (.tail _ (.tail _ (.head _)))) (hf _ (.tail _ (.tail _ (.tail _ (.head _))))) (hf _ (.tail _ (.tail _ (.tail _ (.tail _ (.head _))))))) k⟩;cases q:its.toArray[i]? with
  | none=>exact .inl (Yah q)
  | some v=>
   refine .inr ⟨⟨v,Zsz q⟩,Yah ?_⟩;have:=(Vq.mp q).1;rw[XM]at this;rw[Array.getElem?_eq_none_iff,XM];omega
 self:=λ_ _ _ _ _ st h=>wpAny_pyIter_zip st.1 h
def Zr0{t:Bool}{b:YG}{xs ys:Array Xe}(h1:IsB t s.heap a xs)(h2:IsB t s.heap b ys)
  (h:∀h' n,n=s.heap.objs.size->IsZip h' (n+4) (n+2) (n+3) .none->Vr h' (n+2) (.ref n) (.ref (n+1))->Vr h' (n+3) .none .none->ItB t h' n a 0->ItB t h' (n+1) b 0 ->
   (∀ c o,s.heap.get? c=YB o->h'.get? c=YB o)->Q (.ref (n+4)) { s with heap:=h' }):Xz (X4 P w) A (call (.type "zip") [.ref a,.ref b]) Q E s:=by
 cases t with
 | true=>exact Ztp h1 h2 h
 | false=>exact call_zip_2 h1 h2 λh' g1 g2 g3 g4 g5 _ g7=>h h' _ rfl g1 g2 g3 g4 g5 g7
def Yc4(K:Xc)(ta:TA):TI:=λO H R=>ta O H λvs H1=>∃t a b,vs=[.ref a,.ref b]/\(∃xs,SqB K t H1 a xs)/\(∃ys,SqB K t H1 b ys)/\R (Yhf K t a b) H1
def Z1r{a:YJ}{ta:TA}{p pt:Pos}{kk:Nat}(hK:X.K=K)(hg:Gl X "zip")(hm:X.mg "zip"=YC)(hv:Qh "zip"=YB (.type "zip"))(ha:PA X [a,b] ta)
  (he:Xo [a,b] X.env=(YF,eval a X.env)::Xo [b] X.env:=by rfl) (hpl:(Q3 pos (Xo [b] X.env)).any (·.1)=YF:=by rfl) :
  PI X (.Tuple es kk pt) (.Call (.Name "zip" p) [a,b] [] pos) (Yc4 K ta):=by
 subst hK;intro pins s O H R I h;refine Be (Zcc I hg hm hv ?_ (!1) (!1));refine JH (thn (ha pos pins s O H _ I h) λus s1 q=>?_) he hpl;obtain⟨vs,H1,I1,r1,t,l1,l2,e1,⟨xs,hx⟩,⟨ys,hy⟩,q⟩:=q;subst e1;obtain⟨u,u',rfl,ru,ru'⟩:=vals2 r1;cases(show u=Xy l1 from ru);cases(show u'=Xy l2 from ru');obtain⟨its,rx,px⟩:=hx.its I1;obtain⟨its',ry,py⟩:=hy.its I1;refine Zr0 px py λh' n en g1 g2 g3 g4 g5 g7=>?_;have I2:Inv X pins O H1 { s1 with heap:=h' }:=I1.kept (t':=s1.toks) g7;refine wpAny_pyIter_zip (s:={ s1 with heap:=h' }) g1 ?_;refine⟨_,[_,_,_,_,_],Yif _ _ _ _ _ _ _ _,_,H1,rfl,I2,Zvc (ZA.new (en▸px.lt) (en▸py.lt)) (ZA.new2 n),⟨g1,g2,⟨_,_,g3⟩,g4,g5⟩,?_,q⟩;subst en;have ok:∀k:Nat,Ziz X pins H1 (s1.heap.objs.size+k):=λk=>I1.fpOk (Vo _ _) (I1.hok.fresh (Vo _ _));exact Ydc (ok 4) (ok 2) (ok 3) (ok 0) (ok 1)
section
variable {X:Cx}{io:List Nat}{p c:Bool}{a b:YJ}{mr:MAt}{ra:FA}
def Yb3(t:Bool)(as:List Xa):Xa:=match t with|true=>.tuple as|false=>.list as
def Rel.keptSq{C:MC G}{H:Hp}{O:St}{δ:Ze}{fp:Fp}{ex:YG->Prop}{v:V}{t:Bool}{ds:List Xa}(R:Rel C io H O δ fp ex)(q:Da G H (λa=>c=YD->Lf C fp ex a) v (Yb3 t ds)) :
  ∃a xs,v= .ref a/\∀H':Hp,(∀b o,H b=YB o->(c=YF\/¬Foot fp b)->H' b=YB o)->SqB G t H' a xs/\Das G H' (λa=>c=YD->(Lf C fp ex a/\H a≠YC)) xs ds:=by
 cases t with
 | false=>exact R.keptList q
 | true=>
  generalize hd:Yb3 YD ds=d at q;cases q with
  | tup e r=>
   cases hd;rename_i a0 xs0;refine⟨a0,xs0,rfl,λH' kp=>?_⟩;obtain⟨f1,f2⟩:=R.kept kp;exact⟨f2 _ (.tup _) e,r.frame f1 f2⟩
  | _=>cases hd
def Zx5{es:List Xa}(h:Z8a ds=YB es):∃t as bs,ds=[Yb3 t as,Yb3 t bs]/\es=Zme as bs:=by
 unfold Z8a at h;split at h
 .cases h;exact⟨YF,_,_,rfl,rfl⟩
 .cases h;exact⟨YD,_,_,rfl,rfl⟩
 .cases h
def iZB(mr:MAt):MIt:=λδ K=>mr δ λrs δ'=>∃es,Z8a (OT.datas rs)=YB es/\K es δ'
def Z4f{p' pt:Pos}{kk:Nat}(hg:Gl X "zip")(hm:X.mg "zip"=YC)(hv:Qh "zip"=YB (.type "zip"))(ha:MA X io p c [a,b] mr)
  (he:Xo [a,b] X.env=(YF,eval a X.env)::Xo [b] X.env:=by rfl) (hpl:(Q3 pos (Xo [b] X.env)).any (·.1)=YF:=by rfl):MI X io p c (.Tuple es kk pt) (.Call (.Name "zip" p') [a,b] [] pos) (iZB mr):=by
 obtain⟨_,A,s⟩:=ha;refine⟨_,Z1r rfl hg hm hv A he hpl,λC H O δ fp ex K' Q R h kk=>s C H O δ fp ex _ _ R h λH1 vs rs δ1 fp1 new r1 h1=>?_⟩;have q:=r1.das R;obtain⟨es,hz,h1⟩:=h1;obtain⟨t,as,bs,e,rfl⟩:=Zx5 hz;rw[e]at q;cases q with
 | cons q1 q2=>
  cases q2 with
  | cons q2 q3=>
   cases q3;have R1:=r1.base;obtain⟨l1,xs,rfl,k1⟩:=R1.keptSq q1;obtain⟨l2,ys,rfl,k2⟩:=R1.keptSq q2;refine⟨t,l1,l2,rfl,⟨_,(k1 H1 λ_ _ e _=>e).1⟩,⟨_,(k2 H1 λ_ _ e _=>e).1⟩,kk _ H1 _ δ1 fp1 R1 r1.stp (λH' kp i=>?_) h1⟩;obtain⟨s1,d1⟩:=k1 H' kp;obtain⟨s2,d2⟩:=k2 H' kp;refine⟨λd hd=>?_,λhd=>⟨_,_,s1,s2,by rw[d1.length,d2.length];exact Ztr hd⟩⟩;obtain⟨x,y,hx,hy,rfl⟩:=Zot hd;obtain⟨u,hu,qu⟩:=d1.get hx;obtain⟨w,hw,qw⟩:=d2.get hy;refine⟨⟨_,_,u,w,s1,s2,hu,hw⟩,λv H'' hyl=>?_⟩;obtain⟨t',u',w',ht,rfl,rfl,hu',hw'⟩:=hyl;cases hu.symm.trans (hu' _ s1);cases hw.symm.trans (hw' _ s2);exact⟨Zw ht _,.tup Zq (.cons (qu.same (Zw ht _)) (.cons (qw.same (Zw ht _)) .nil))⟩
def Z3f(g:MI X io p c tg e (iZB (o2 ra))):MI X io p c tg e (o2 (Zq1 ra)):=g.weak λδ K h=>by
 obtain⟨r,δ',h,k⟩:=h;obtain⟨⟨x,δ1⟩,h1,h⟩:=bs h;obtain⟨ds,h2,h⟩:=bs h;cases h;exact⟨x,_,h1,_,h2,k⟩
end
end L2
namespace L2
open PySem PySem.Spec PyProof.Rows PySem.W
def kEv(lt:Nat->Nat->Bool):KasT Y->Y
 | .ret a=>a
 | .ask i j k=>kEv lt (k (lt i j))
def kGood(n:Nat)(P:Y->Prop):KasT Y->Prop
 | .ret a=>P a
 | .ask i j k=>i<n/\j<n/\∀b,kGood n P (k b)
theorem kGood.bind{n:Nat}{P:Y->Prop}{R:β->Prop}{f:Y->KasT β}(hf:∀a,P a->kGood n R (f a)){t:KasT Y}(h:kGood n P t):kGood n R (t.bind f):=by
 induction t with
 | ret a=>exact hf a h
 | ask i j k ih=>exact⟨h.1,h.2.1,λb=>ih b (h.2.2 b)⟩
def kGood.ev{n:Nat}{P:Y->Prop}{lt:Nat->Nat->Bool}{t:KasT Y}(h:kGood n P t):P (kEv lt t):=by
 induction t with
 | ret a=>exact h
 | ask i j k ih=>exact ih _ (h.2.2 _)
def kGood.wp{n:Nat}{P:Y->Prop}{lt:Nat->Nat->Bool}{cmp:Nat->Nat->(Bool->Xf->Prop)->Xf->Prop}{Q:Y->Xf->Prop}(hc:∀i j C,i<n->j<n->C (lt i j) s->cmp i j C s){t:KasT Y}(h:kGood n P t)(q:Q (kEv lt t) s):t.kasWp cmp Q s:=by
 induction t with
 | ret a=>exact q
 | ask i j k ih=>exact hc i j _ h.1 h.2.1 (ih _ (h.2.2 _) q)
def kP(n:Nat)(p:Array Nat):Prop:=p.toList.Perm (XC n)
theorem kP.at{n:Nat}{p:Array Nat}(h:kP n p)(h0:0<n)(i:Nat):p.getD i 0<n:=by
 by_cases c:i<p.size
 .have e:p.getD i 0=p[i]:=by simp[Array.getD,c]
  rw[e];exact Qj.mp (h.mem_iff.mp (Array.getElem_mem_toList c))
 .have e:p.getD i 0=0:=by simp[Array.getD,c]
  rw[e];exact h0
def kP.rev{n:Nat}{p:Array Nat}(h:kP n p)(i j:Nat):kP n (kas_rev p i j):=(Array.perm_iff_toList_perm.mp (mirror_perm p i j _)).trans h
def kP.bub{n:Nat}{p:Array Nat}(h:kP n p)(i j:Nat):kP n (bubble p i j):=(Array.perm_iff_toList_perm.mp (bubble_perm p i j)).trans h
def Zov{n:Nat}{p:Array Nat}(h:kP n p)(h0:0<n)(f m:Nat):kGood n (λ_=>True) (kas_asc p f m):=by
 induction f generalizing m with
 | zero=>exact trivial
 | succ f ih=>
  refine⟨h.at h0 _,h.at h0 _,λb=>?_⟩;cases b
  .exact ih _
  .exact trivial
def Zto{n:Nat}(h0:0<n)(f:Nat){p:Array Nat}(h:kP n p)(m q:Nat):kGood n (λr:Array Nat×Nat×Nat=>kP n r.1) (kas_desc f p m q):=by
 induction f generalizing p m q with
 | zero=>exact h
 | succ f ih=>
  refine⟨h.at h0 _,h.at h0 _,λb=>?_⟩;cases b
  .refine⟨h.at h0 _,h.at h0 _,λb=>?_⟩
   cases b
   .exact ih h _ _
   .exact h
  .show kGood n _ (if q>0 then _ else _)
   split
   .exact ih (h.rev _ _) _ _
   .exact ih h _ _
def Zk0{n:Nat}{p:Array Nat}(h:kP n p)(h0:0<n)(m r:Nat):kGood n (λr:Nat×Array Nat=>kP n r.2) (kas_tail3 m r p):=by
 refine kGood.bind (P:=λ_=>True) (λa _=>?_) (Zov (h.rev _ _) h0 _ _);exact h.rev _ _
def Zd6{n:Nat}{p:Array Nat}(h:kP n p)(h0:0<n)(m r:Nat):kGood n (λr:Nat×Array Nat=>kP n r.2) (kas_descPart m r p) :=
 (Zto h0 _ h _ _).bind λx hx=>by
  show kGood n _ (if x.2.2>0 then _ else _);split
  .exact Zk0 (hx.rev _ _) h0 _ _
  .exact Zk0 hx h0 _ _
def Zp6{n:Nat}{p:Array Nat}(h:kP n p)(h0:0<n)(r:Nat):kGood n (λr:Nat×Array Nat=>kP n r.2) (kas_count r p) :=
 (Zov h h0 _ _).bind λm _=>by
  show kGood n _ (if(m==r)=YD then _ else if m>1 then _ else _);split
  .exact h
  .split
   .refine⟨h.at h0 _,h.at h0 _,λb=>?_⟩
    cases b
    .exact Zd6 (h.rev _ _) h0 _ _
    .exact h
   .exact Zd6 h h0 _ _
def Zpq{n:Nat}{p:Array Nat}(h:kP n p)(h0:0<n)(k f l r:Nat):kGood n (λ_=>True) (kas_place p k f l r):=by
 induction f generalizing l r with
 | zero=>exact trivial
 | succ f ih=>
  show kGood n _ (if l>=r then _ else _);split
  .exact trivial
  .refine⟨h.at h0 _,h.at h0 _,λb=>?_⟩
   cases b
   .exact ih _ _
   .exact ih _ _
def Zyj{n:Nat}(h0:0<n)(f:Nat){p:Array Nat}(h:kP n p)(k:Nat):kGood n (kP n) (kas_bin f p k):=by
 induction f generalizing p k with
 | zero=>exact h
 | succ f ih=>exact(Zpq h h0 _ _ _ _).bind λl _=>ih (h.bub _ _) _
def Zg9{n:Nat}(h0:0<n):kGood n (kP n) (kas_sort n) :=
 (Zp6 (p:=Ui (XC n)) (.refl _) h0 n).bind λr hr=>by
  show kGood n _ (if r.1<n then _ else _);split
  .exact Zyj h0 _ hr _
  .exact hr
def Zvo(lt:Nat->Nat->Bool)(n:Nat):List Nat:=(kEv lt (kas_sort n)).toList
def Zea{lt:Nat->Nat->Bool}{n:Nat}(h0:0<n):(Zvo lt n).Perm (XC n):=(Zg9 h0).ev (P:=kP n)
end L2
namespace L2
open PySem PySem.Spec PyProof.Rows PySem.W PySem.SeqAt
open PySem.AutoSeq1 (wpAny_loadPart')
open MeetsSeq MeetsSeq2 MeetsSeq3 SeqRoads2
def ltI:List Int->List Int->Bool
 | [],[]=>YF
 | [],_::_=>YD
 | _::_,[]=>YF
 | x::xs,y::ys=>if x=y then ltI xs ys else decide (x<y)
def Zi1(h:Vb vs ns)(i:Nat)(hi:i<vs.length):∃x t,vs[i]? =YB (.int x t)/\ns.drop i=x::ns.drop (i+1):=by
 induction h generalizing i with
 | nil=>exact YZ hi (JL i)
 | cons n t h ih=>
  cases i with
  | zero=>exact⟨n,t,rfl,rfl⟩
  | succ i=>exact ih i (V1 hi)
def Zcs(h:Vb vs ns):vs.length=ns.length:=by
 induction h with
 | nil=>rfl
 | cons n t h ih=>exact YW Nat.succ ih
def Zgy{xs ys:List Int}(h:xs=[]\/ys=[]):ltI xs ys=decide (xs.length<ys.length):=by
 cases xs<;>cases ys<;>first|rfl|(rcases h with h|h<;>cases h)|exact(YS (Ul _)).symm
def Zso(l b:YG)(items items2:Array Xe)(n n2:Nat)(dd dd2:Option YG)(sl sl2:Array (Option Xe)){xs ys:List Int}(h1:Vb items.toList xs)(h2:Vb items2.toList ys)(k:Nat) :
  ∀i:Nat,items.size-i=k->i<=items.size->i<=items2.size->Meets (BJ.«list.__eq__.loop» ⟨[.ref l,.ref b,JP i,JP 0],[]⟩)
   (λA R s=>s.heap.get? l=YB { cls:=.type "list",dict:=dd,data:=.seq items n,slots:=sl }/\s.heap.get? b=YB { cls:=.type "list",dict:=dd2,data:=.seq items2 n2,slots:=sl2 }/\
    R (.ok (.ret (.bool (ltI (xs.drop i) (ys.drop i))))) s):=by
 have e1:items.size=xs.length:=Zcs h1;have e2:items2.size=ys.length:=Zcs h2;have fin:∀i,i<=items.size->i<=items2.size->(i=items.size\/i=items2.size)->ltI (xs.drop i) (ys.drop i)=decide (items.size<items2.size):=λi u1 u2 c=>by
  rw[Zgy (c.imp (λc=>Vj (!0)) λc=>Vj (!0)),Bb,Bb];exact decide_eq_decide.mpr (!0)
 induction k with
 | zero=>
  intro i hk u1 u2 prog w A R s h;obtain⟨hp,g,d,tk,os⟩:=s;obtain⟨hl,hb,h⟩:=h
  wp_walk using QW hl,QW hb
  have hi1:items[((i:Nat):Int).toNat]? =YC:=by simp;omega
  rw[fin i u1 u2 (.inl (!0))]at h;rw[hi1]
  wp_walk using QW hl,QW hb
  exact h
 | succ k ih=>
  intro i hk u1 u2 prog w A R s h;obtain⟨hp,g,d,tk,os⟩:=s;obtain⟨hl,hb,h⟩:=h;have hlt:i<items.size:=by omega
  obtain⟨x,t,q1,q2⟩:=Zi1 h1 i hlt;have hi1:items[((i:Nat):Int).toNat]? =YB (.int x t):=by rw[Bx,<-q1,Qc]
  wp_walk using QW hl,QW hb
  by_cases c:i<items2.size
  .obtain⟨y,u,q3,q4⟩:=Zi1 h2 i c
   have hi2:items2[((i:Nat):Int).toNat]? =YB (.int y u):=by rw[Bx,<-q3,Qc]
   have hc:((i:Int)+1)=((i+1:Nat):Int):=by push_cast;rfl
   rw[q2,q4]at h;unfold ltI at h;rw[hi1,hi2];refine Xb (EqAt.int_int x t y u prog w _ _ ?_)
   by_cases cx:x=y
   .rw[YM cx]at h
    rw[ZC.mpr cx]
    wp_walk
    rw[hc];exact⟨UW plain_eq_loop _,Vk entry_eq_loop (by
     rw[Vc plain_eq_loop _];exact ih (i+1) (!0) (!0) (!0) prog w A R _ ⟨hl,hb,h⟩)⟩
   .rw[YQ cx]at h
    rw[beq_eq_false_iff_ne.mpr cx]
    wp_walk using QW hl,QW hb
    rw[hi1,hi2];refine Xb (lt_int ?_)
    wp_walk
    exact h
  .have hi2:items2[((i:Nat):Int).toNat]? =YC:=by simp;omega
   rw[fin i u1 u2 (.inr (!0))]at h;rw[hi1,hi2]
   wp_walk using QW hl,QW hb
   exact h
theorem Ztw(l b:YG)(items items2:Array Xe)(n n2:Nat)(dd dd2:Option YG)(sl sl2:Array (Option Xe)){xs ys:List Int}(h1:Vb items.toList xs)(h2:Vb items2.toList ys) :
  Meets (BJ.«list.__lt__» ⟨[.ref l,.ref b],[]⟩)
   (λA R s=>s.heap.get? l=YB { cls:=.type "list",dict:=dd,data:=.seq items n,slots:=sl }/\s.heap.get? b=YB { cls:=.type "list",dict:=dd2,data:=.seq items2 n2,slots:=sl2 }/\
    R (.ok (.ret (.bool (ltI xs ys)))) s):=by
 intro prog w A R s h;obtain⟨hp,g,d,tk,os⟩:=s;obtain⟨hl,hb,h⟩:=h;have f3:=AutoSeq1.sub_list_list
 wp_walk using QW hl,QW hb
 exact⟨UW plain_eq_loop _,Vk entry_eq_loop (by
  rw[Vc plain_eq_loop _];exact Zso l b items items2 n n2 dd dd2 sl sl2 h1 h2 _ 0 rfl (QJ _) (QJ _) prog w A R _ ⟨hl,hb,h⟩)⟩
theorem Zqe{b:YG}{items2:Array Xe}{xs ys:List Int}{Q:Bool->Xf->Prop}(hu:A.units<VB)(hl:s.heap.IsList l items)(hb:s.heap.IsList b items2)(h1:Vb items.toList xs)(h2:Vb items2.toList ys)(h:Q (ltI xs ys) s) :
  Xz (X4 prog w) A (oneLt' YD (.ref l) (.ref b)) Q E s:=by
 obtain⟨⟨cls,dd,data,sl⟩,hl,hc,n,hd⟩:=hl;obtain⟨⟨cls2,dd2,data2,sl2⟩,hb,hc2,n2,hd2⟩:=hb;simp only at hc hd hc2 hd2;subst hc hd hc2 hd2;rw[oneLt'_eq];simp only[if_true];refine Xb (wpAny_cRoomFor hu ?_);refine Xb (wpAny_callSpecialIfBound?_slot ⟨_,hl,rfl⟩ F.slot_list_lt (call_meets F.slot_list_lt ⟨_,hl,rfl⟩ F.entry_list_lt (F.args_list_lt_2 _ _) (Ztw l b items items2 n n2 dd dd2 sl sl2 h1 h2) ⟨hl,hb,?_⟩));exact JV h
def Zy5{a b:Int}{t u:Tok}(h:Q (.bool (decide (a<b))) s):Xz (X4 prog w) A (richCompare .Lt (.int a t) (.int b u)) Q E s:=lt_int h
theorem Zp3(l b:YG)(items items2:Array Xe)(n n2:Nat)(dd dd2:Option YG)(sl sl2:Array (Option Xe)){xs ys:List Int}(h1:Vb items.toList xs)(h2:Vb items2.toList ys) :
  Meets (BJ.«tuple.__lt__» ⟨[.ref l,.ref b],[]⟩)
   (λA R s=>s.heap.get? l=YB { cls:=.type "tuple",dict:=dd,data:=.seq items n,slots:=sl }/\s.heap.get? b=YB { cls:=.type "tuple",dict:=dd2,data:=.seq items2 n2,slots:=sl2 }/\
    R (.ok (.ret (.bool (ltI xs ys)))) s) :=
 .of_wp λprog w A R s h=>by
  obtain⟨hp,g,d,tk,os⟩:=s;obtain⟨hl,hb,h⟩:=h;have f2:=AutoSeq1.sub_tuple_tuple;have e1:items.toList.length=xs.length:=Zcs h1;have e2:items2.toList.length=ys.length:=Zcs h2
  wp_walk using QW hl,QW hb,wpAny_forIn_list _ (λrest b s'=>b.1=YC/\s'=⟨hp,g,d,tk,os⟩/\∃i,rest=(items.toList.zip items2.toList).drop i/\i<=items.toList.length/\i<=items2.toList.length/\
   R (.ok (.ret (.bool (ltI (xs.drop i) (ys.drop i))))) ⟨hp,g,d,tk,os⟩) _
  case turn=>
   rintro⟨v,u⟩ rest b s' ⟨hb',rfl,i,hz,u1,u2,hR⟩;have hlt:i<(items.toList.zip items2.toList).length:=by
    rcases JS i (items.toList.zip items2.toList).length with h'|h'
    .exact h'
    .rw[List.drop_of_length_le h']at hz;cases hz
   have hm:=hlt;rw[Uw]at hm;obtain⟨x,t,q1,q2⟩:=Zi1 h1 i (!0);obtain⟨y,r,q3,q4⟩:=Zi1 h2 i (!0);rw[By hlt]at hz;injection hz with hyx hrest;have hz0:(items.toList.zip items2.toList)[i]? =YB (.int x t,.int y r):=by rw[Uo];exact⟨q1,q3⟩
   rw[Xj hlt]at hz0;injection hz0 with hz0;rw[hz0]at hyx;cases hyx;rw[q2,q4]at hR;unfold ltI at hR;refine Xb (EqAt.int_int x t y r prog w _ _ ?_)
   by_cases cx:x=y
   .rw[YM cx]at hR
    rw[ZC.mpr cx]
    wp_walk
    exact⟨rfl,rfl,i+1,hrest,by omega,by omega,hR⟩
   .rw[YQ cx]at hR
    rw[beq_eq_false_iff_ne.mpr cx]
    wp_walk using Zy5
    exact⟨_,rfl,hR⟩
  case fin=>
   rintro⟨b1,b2⟩ s' ⟨hb',rfl,i,hz,u1,u2,hR⟩;simp only at hb';subst hb';have hge:min items.toList.length items2.toList.length<=i:=by
    rcases JS i (items.toList.zip items2.toList).length with h'|h'
    .rw[By h']at hz;cases hz
    .rw[Uw]at h';exact h'
   have hv:ltI (xs.drop i) (ys.drop i)=decide (items.size<items2.size):=by
    rw[Zgy ((show i=items.toList.length\/i=items2.toList.length by omega).imp (λc=>Vj (!0)) λc=>Vj (!0)),Bb,Bb];rw[Xq]at e1 e2 u1 u2;exact decide_eq_decide.mpr (!0)
   rw[hv]at hR
   wp_walk
   exact⟨_,rfl,hR⟩
  case h=>
   exact⟨rfl,rfl,0,rfl,QJ _,QJ _,h⟩
end L2
namespace L2
open PySem PySem.Spec PyProof.Rows PySem.W
def sLay(d:Y)(lt:Nat->Nat->Bool)(vs:List Y):List Y:=if vs.length<2 then vs else(Zvo lt vs.length).map λi=>vs.getD i d
def Zpr(d:Y)(vs:List Y):((XC vs.length).map λi=>vs.getD i d)=vs:=by
 refine List.ext_getElem? λi=>?_;rw[Xi]
 by_cases c:i<vs.length
 .rw[Q8 c,Xj c]
  show YB (vs.getD i d)=_;rw[Xm,Xj c];rfl
 .rw[JN (by rw[X6];omega),JN (!0)];rfl
def Zcj(d:Y)(lt:Nat->Nat->Bool)(vs:List Y):(sLay d lt vs).Perm vs:=by
 unfold sLay;split
 .exact .refl _
 .have:=(Zea (lt:=lt) (n:=vs.length) (!0)).map λi=>vs.getD i d
  rwa[Zpr]at this
def Zjp(f:Y->β)(d:Y)(lt:Nat->Nat->Bool)(vs:List Y):sLay (f d) lt (vs.map f)=(sLay d lt vs).map f:=by
 unfold sLay;rw[Xd];split
 .rfl
 .rw[Qq]
  refine Qk λi _=>?_;show(vs.map f).getD i (f d)=f (vs.getD i d);rw[Xm,Xm,Xi];cases vs[i]? <;>rfl
def Zsb{lt:Nat->Nat->Bool}{xs:List V}(h:Vals xs us):Vals (sLay .non lt xs) (sLay .none lt us):=by
 unfold sLay;rw[h.length];split
 .exact h
 .generalize Zvo lt _=l
  induction l with
  | nil=>exact .nil
  | cons i l ih=>
   refine .cons ?_ ih;show RelV (xs.getD i V.non) (us.getD i QD);rw[Xm,Xm];cases e:xs[i]? with
   | some x=>
    obtain⟨u,e',r⟩:=h.get e;rw[e'];exact r
   | none=>
    have:us[i]? =YC:=JN (by rw[<-h.length];exact Q0.mp e);rw[this];exact rfl
def Zio{κ:SortKind}{lt:Nat->Nat->Bool}{h0:YH}{n:Nat}{P:PySem.Fin->Xf->Prop}(ho:s.heap.get? a=YB (Bu "list" vs.toArray n))
  (k0:∀b o,h0.get? b=YB o->s.heap.get? b=YB o) (ha0:h0.get? a=YC) (h64:vs.length<64)
  (hk:2<=vs.length->∀s':Xf,(∀b o,h0.get? b=YB o->s'.heap.get? b=YB o)->∀Q:SortKind->Xf->Prop,Q κ s'->Xz (X4 prog w) A (keyKind' vs.toArray) Q E s')
  (hc:2<=vs.length->∀s':Xf,(∀b o,h0.get? b=YB o->s'.heap.get? b=YB o)->∀i j C,i<vs.length->j<vs.length->C (lt i j) s'->kas_ask prog w A κ vs i j C s')
  (h:P (.done (.ret .none)) { s with heap:=sortedHeap s.heap a vs (Ui (sLay QD lt vs)) }):Xz (X4 prog w) A (BJ.«list.sort» ⟨[.ref a],[]⟩) P E s:=by
 have ha:a<s.heap.objs.size:=XH ho;obtain⟨e1,ho1⟩:∃e1,(s.heap.update a (Bv λ_=>(#[]:Array Xe))).get? a=YB (Bu "list" #[] e1):=⟨_,Ub ho λ_=>#[]⟩;have ho6:(((s.heap.update a (Bv λ_=>(#[]:Array Xe))).push (Bu "tuple" vs.toArray 0)).push (Bu "list" #[] 0)).get? a=YB (Bu "list" #[] e1):=Xg _ (Xg _ ho1);have k6:∀b o,h0.get? b=YB o->(((s.heap.update a (Bv λ_=>(#[]:Array Xe))).push (Bu "tuple" vs.toArray 0)).push (Bu "list" #[] 0)).get? b=YB o:=λb o e=>by
  refine Xg _ (Xg _ ?_);rw[Heap.get?_update_ne _ _ _ _ (λq=>by rw[q,ha0]at e;cases e)];exact k0 b o e
 rw[list_sort_plain];refine Xb (listItems_at ho rfl ?_);refine Xb (listUpdate_at ho rfl ?_ (by rw[XM,X8];omega) (QJ _));refine Xb (seqEpoch_at ho1 rfl ?_);refine Xb (wpAny_newTuple ?_ (by show vs.length<=_;rw[X8];omega));refine Xb (wpAny_newList ?_ (QJ _));refine JR ?_;show Xz (X4 prog w) A _ P E { s with heap:=((s.heap.update a (Bv λ_=>(#[]:Array Xe))).push (Bu "tuple" vs.toArray 0)).push (Bu "list" #[] 0) };dsimp only;have hs:vs.toArray.size=vs.length:=XM ..
 by_cases h2:vs.toArray.size<2
 .have el:sLay QD lt vs=vs:=YM (hs▸h2)
  rw[el]at h;rw[YM h2,YM h2];refine Xb (Xl ?_);rw[StateT.run_pure];refine Xb (Xl ?_);dsimp only;refine Xb (seqEpoch_at ho6 rfl ?_);have ez:((vs.toArray.zip vs.toArray).map (·.2))=vs.toArray:=by
   apply Array.toList_inj.mp;rw[Array.toList_map,Array.toList_zip,List.map_snd_zip (XD _)]
  show Xz _ _ (Builtin.List.listUpdate _ (λ_=>(vs.toArray.zip vs.toArray).map (·.2))>>=_) _ _ _;rw[ez];refine Xb (listUpdate_at ho6 rfl ?_ (QJ _) (by rw[hs,X8];omega));simp only[bne_self_eq_false,XN,if_false];exact Xl h
 .rw[YQ h2,YQ h2]
  have h2':2<=vs.length:=by omega
  have el:sLay QD lt vs=(Zvo lt vs.length).map λi=>vs.getD i QD:=YQ (!0);rw[el]at h;refine Xb (hk h2' _ k6 _ ?_);have est:SortSt.mk' κ (vs.toArray.zip vs.toArray) #[] 7 YC=kas_st κ (pairsOf vs) (Ui (XC vs.length)):=by
   have e:=kas_range (pairsOf vs);rw[pairsOf_size]at e;show SortSt.mk' κ (pairsOf vs) #[] 7 YC=SortSt.mk' κ ((Ui (XC vs.length)).map (kas_item (pairsOf vs))) #[] 7 YC;rw[e]
  have run:=kas_runs (prog:=prog) (w:=w) (A:=A) (κ:=κ) (it:=pairsOf vs) (E:=E) (s:={ s with heap:=((s.heap.update a (Bv λ_=>(#[]:Array Xe))).push (Bu "tuple" vs.toArray 0)).push (Bu "list" #[] 0) })
   (Q:=λ_ st' s'=>arrOf st'=(kEv lt (kas_sort vs.length)).map (kas_item (pairsOf vs))/\failedOf st'=YC/\s'={ s with heap:=((s.heap.update a (Bv λ_=>(#[]:Array Xe))).push (Bu "tuple" vs.toArray 0)).push (Bu "list" #[] 0) })
   (G:=λp s'=>p=kEv lt (kas_sort vs.length)/\s'={ s with heap:=((s.heap.update a (Bv λ_=>(#[]:Array Xe))).push (Bu "tuple" vs.toArray 0)).push (Bu "list" #[] 0) })
   h2' h64 (λp' st' s' _ a2 a3 a4=>⟨a4.1▸a2,a3,a4.2⟩) (by
    rw[<-kas_ask_eq];exact(Zg9 (n:=vs.length) (!0)).wp (hc h2' _ k6) ⟨rfl,rfl⟩)
  rw[<-est]at run;refine Xb (QB run ?_ λ_ _ e=>e);intro r s' z;obtain⟨har,hf,rfl⟩:=z;have hout:(arrOf r.2).map (·.2)=Ui ((Zvo lt vs.length).map λi=>vs.getD i QD):=by
   apply Array.toList_inj.mp;rw[har,Array.map_map,Array.toList_map];exact Qk λi _=>by show(kas_item (pairsOf vs) i).2=_;rw[kas_item_eq]
  rw[hout];refine Xb (seqEpoch_at ho6 rfl ?_);refine Xb (listUpdate_at ho6 rfl ?_ (QJ _) (by rw[XM,Xd,(Zea (!0)).length_eq,X6,X8];omega));rw[hf];simp only[bne_self_eq_false,XN,if_false];exact Xl h
def Z1y{κ:SortKind}{lt:Nat->Nat->Bool}(hl:s.heap.IsList l vs.toArray)(h64:vs.length<64)
  (hk:2<=vs.length->∀s':Xf,(∀b o,s.heap.get? b=YB o->s'.heap.get? b=YB o)->∀Q:SortKind->Xf->Prop,Q κ s'->Xz (X4 prog w) A.in1.in1 (keyKind' vs.toArray) Q E s')
  (hc:2<=vs.length->∀s':Xf,(∀b o,s.heap.get? b=YB o->s'.heap.get? b=YB o)->∀i j C,i<vs.length->j<vs.length->C (lt i j) s'->kas_ask prog w A.in1.in1 κ vs i j C s')
  (h:Q (.ref (s.heap.objs.size+1)) { s with heap:=sortedAll s.heap vs (Ui (sLay QD lt vs)) }):Xz (X4 prog w) A (call (.builtin "sorted") [.ref l]) Q E s:=by
 refine Calls.call_function_entry kind_sorted plain_sorted entry_sorted (args_sorted1 _) ?_;unfold BJ.«sorted»;refine Xb (m:=checkCount "sorted" 1 1 _) (Xl ?_);refine Xb (collect_list hl ?_ (by rw[X8];omega));refine Xb (wpAny_newList ?_ (by rw[X8];omega));have hsz:((s.heap.push (Bu "list" #[] 0)).update s.heap.objs.size (Bv (·++vs.toArray))).objs.size=s.heap.objs.size+1:=by
  rw[Heap.size_update,size_push']
 have hoL:(((s.heap.push (Bu "list" #[] 0)).update s.heap.objs.size (Bv (·++vs.toArray))).push (Bu "list" vs.toArray 0)).get? (s.heap.objs.size+1)=YB (Bu "list" vs.toArray 0):=by
  rw[<-hsz];exact XQ _ rfl
 have keep:∀b o,s.heap.get? b=YB o->(((s.heap.push (Bu "list" #[] 0)).update s.heap.objs.size (Bv (·++vs.toArray))).push (Bu "list" vs.toArray 0)).get? b=YB o:=λb o q=>by
  have hlt:b<s.heap.objs.size:=XH q;rw[Heap.get?_push_ne _ _ _ (by rw[hsz];exact Xr (Bw hlt)),Heap.get?_update_ne _ _ _ _ (Xr hlt),Heap.get?_push_ne _ _ _ (Xr hlt)];exact q
 show Xz _ _ _ _ _ { s with heap:=((s.heap.push (Bu "list" #[] 0)).update s.heap.objs.size (Bv (·++vs.toArray))).push (Bu "list" vs.toArray 0) };rw[hsz];refine Xb (JR (JD slot_list_sort ⟨_,hoL,rfl⟩ entry_list_sort (Zio (h0:=s.heap) hoL keep (Heap.get?_none_of_le (Nat.le_succ _)) h64 hk hc ⟨_,rfl,?_⟩) (args_list_sort _)));exact Xl ⟨_,rfl,h⟩
end L2
namespace L2
open PySem PySem.Spec PyProof.Rows PySem.W
structure Yc6{Y:Type}(kd:Xa->Option Y)(lt:Y->Y->Bool):Prop where
 lay:∀d k,kd d=YB k->d.canLay0=YD
 run:∃κ:SortKind,(∀(prog:X3) (w:Qo) (A:Qn) (E:Xe->Xf->Prop) (s:Xf) (vs:List Xe) (ds:List Xa) (as:List YG) (Q:SortKind->Xf->Prop),2<=vs.length->ReadsAll s.heap vs ds as->(∀d∈ds,∃k,kd d=YB k)->Q κ s->Xz (X4 prog w) A (keyKind' vs.toArray) Q E s)/\
  ∀(prog:X3) (w:Qo) (A:Qn) (E:Xe->Xf->Prop) (s:Xf) (u v:Xe) (d e:Xa) (as bs:List YG) (k m:Y) (C:Bool->Xf->Prop),A.units+32<VB->Reads s.heap u d as->Reads s.heap v e bs->kd d=YB k->kd e=YB m->C (lt k m) s->Xz (X4 prog w) A (keyLt' κ u v) C E s
def readsAll_ints(ns:List Int)(r:ReadsAll h vs (ns.map Xu) as):Vb vs ns:=by
 induction ns generalizing vs as with
 | nil=>cases r;exact .nil
 | cons n ns ih=>
  cases r with
  | cons r q=>
   cases r;exact .cons _ _ (ih q)
def Ze6(r:Reads h u (.list (ns.map Xu)) as):∃a items,u= .ref a/\h.IsList a items/\Vb items.toList ns:=by
 cases r with
 | list e c d q=>exact⟨_,_,rfl,⟨_,e,c,_,d⟩,readsAll_ints ns q⟩
def readsAll_get(r:ReadsAll h vs ds as):vs.length=ds.length/\∀(i:Nat) d,ds[i]? =YB d->∃v bs,vs[i]? =YB v/\Reads h v d bs:=by
 induction ds generalizing vs as with
 | nil=>cases r;exact⟨rfl,λi d e=>by rw[U3]at e;cases e⟩
 | cons d ds ih=>
  cases r with
  | cons r q=>
   obtain⟨z1,z2⟩:=ih q;refine⟨YW Nat.succ z1,λi e he=>?_⟩;cases i with
   | zero=>cases he;exact⟨_,_,rfl,r⟩
   | succ i=>exact z2 i e he
def lay_ints(ns:List Int):Sh 1 (.list (ns.map Xu)):=Zhq λd m=>by
 obtain⟨x,_,rfl⟩:=XF.mp m;exact Zyx x
def Zl9(ns:List Int):Sh 1 (.tuple (ns.map Xu)):=Yaq λd m=>by
 obtain⟨x,_,rfl⟩:=XF.mp m;exact Zyx x
def Zpl(e:h.IsList a items):Looks M h (typeOf (.ref a)) (.type "list"):=by
 obtain⟨o,e,c,_⟩:=e;have:Looks M h (typeOf (.ref a)) o.cls:=(Looks.ld e).andThen .now
 rwa[c]at this
def kdL:Xa->Option (List Int):=λd=>match d with| .list es=>Zez es|_=>YC
def Zf4{d:Xa}{k:List Int}(h:kdL d=YB k):d= .list (k.map Xu):=by
 cases d with
 | list es=>exact YW VP (Zbj h)
 | _=>cases h
def Zu7(r:ReadsAll h vs ds as)(hv:v∈vs):∃d∈ds,∃bs,Reads h v d bs:=by
 obtain⟨i,hi⟩:=Vx hv;obtain⟨z1,z2⟩:=readsAll_get r;have c:i<ds.length:=z1▸(Xk.mp hi).1;obtain⟨v',bs,e,q⟩:=z2 i _ (Xj c);rw[hi]at e;cases e;exact⟨_,Bl c,bs,q⟩
def Z92:Yc6 kdL ltI:=by
 refine⟨λd k h=>by rw[Zf4 h];exact(lay_ints k).1,oneType',λprog w A E s vs ds as Q h2 r hk q=>kas_kind (T:=.type "list") h2 (λv hv=>?_) rfl rfl q,λprog w A E s u v d e as bs k m C hu r1 r2 h1 h2 h=>?_⟩
 .obtain⟨d,hd,bs,z⟩:=Zu7 r hv
  obtain⟨k,hk⟩:=hk d hd;rw[Zf4 hk]at z;obtain⟨a,items,rfl,e,_⟩:=Ze6 z;exact Zpl e
 .rw[Zf4 h1]at r1
  rw[Zf4 h2]at r2;obtain⟨a,i1,rfl,e1,z1⟩:=Ze6 r1;obtain⟨b,i2,rfl,e2,z2⟩:=Ze6 r2;rw[keyLt'_oneType];exact Zqe (!0) e1 e2 z1 z2 h
def Zk7(a b:List Int):JF (.list (a.map Xu)) (.list (b.map Xu))=decide (a=b):=by
 have p:∀l:List Int,Wm (.list (l.map Xu))=YD:=λl=>by rw[Wm];induction l with|nil=>rfl|cons x l ih=>exact ih
 have inj:∀{l m:List Int},VP (l.map Xu)= .list (m.map Xu)->l=m:=λh=>by
  injection h with h;exact(List.map_inj_right λx y z=>by injection z).mp h
 by_cases c:a=b
 .rw[Zzu (p a) (p b) (by rw[c]),YS c]
 .rw[Z64 (p a) (p b) λz=>c (inj z),YT c]
end L2
namespace L2
open PySem PySem.Spec PyProof.Rows PySem.W
def lk(kd:Xa->Option Y)(lt:Y->Y->Bool)(es:List Xa):Nat->Nat->Bool:=λi j=>((kd (es.getD i .none)).bind λa=>(kd (es.getD j .none)).map λb=>lt a b).getD YF
def keyed(kd:Xa->Option Y)(es:List Xa):Prop:=∀d∈es,∃k,kd d=YB k
def Zqf{es:List Xa}(h:∀d∈es,d.canLay0=YD):Bp es=YD:=by
 induction es with
 | nil=>rw[Bp]
 | cons d es ih=>rw[Bp,h d (.head _),ih λd m=>h d (.tail _ m)];rfl
def Das.sLay{lt:Nat->Nat->Bool}{xs:List V}(h:Das G H L xs ds):Das G H L (L2.sLay .non lt xs) (L2.sLay .none lt ds):=by
 unfold L2.sLay;rw[h.length];split
 .exact h
 .generalize Zvo lt _=l
  induction l with
  | nil=>exact .nil
  | cons i l ih=>
   refine .cons ?_ ih;show Da G H L (xs.getD i .non) (ds.getD i .none);rw[Xm,Xm];cases e:xs[i]? with
   | some x=>
    obtain⟨u,e',r⟩:=h.get' e;rw[e'];exact r
   | none=>
    have:ds[i]? =YC:=JN (by rw[<-h.length];exact Q0.mp e);rw[this];exact .non
def Zzf(kd:Xa->Option Y)(lt:Y->Y->Bool)(K:Xc):List V->Hp->VK->Prop:=λxs H Q=>∃(a:YG) (vs:List V) (L:YG->Prop) (es:List Xa),xs=[.ref a]/\SqL K H a vs/\Das K H L vs es/\vs.length<64/\keyed kd es/\∀l,H l=YC->Q (.ref l) (upd H l (.lst (sLay .non (lk kd lt es) vs)))
section
variable {kd:Xa->Option Y}{lt:Y->Y->Bool}
def Zfa(S:Yc6 kd lt)(hK:X.K=K)(hu:X.A.units+64<VB):Zc0 X (.builtin "sorted") (Zzf kd lt K):=by
 subst hK;intro pins s O H xs us Q I r h;obtain⟨l,vs,L,es,rfl,hs,hd,h64,hk,q⟩:=h;obtain⟨u,rfl,ru⟩:=vals1 r;cases(show u=Xy l from ru);obtain⟨its,rv,pl,hz⟩:=I.list hs;have hl:=rv.length;obtain⟨as,ra⟩:=hd.reads rfl I rv (Zqf λd m=>by obtain⟨k,e⟩:=hk d m;exact S.lay d k e);obtain⟨κ,S1,S2⟩:=S.run;obtain⟨z1,z2⟩:=readsAll_get ra;refine Z1y (κ:=κ) (lt:=lk kd lt es) pl.isList (!0) (λh2 s' k Q q=>S1 _ _ _ _ s' _ es as Q h2 (ReadsAll.keeps k ra) hk q) (λh2 s' k i j C hi hj hc=>?_) ?_
 .rw[z1]at hi hj
  obtain⟨v,b1,e1,r1⟩:=z2 i _ (Xj hi);obtain⟨w,b2,e2,r2⟩:=z2 j _ (Xj hj);obtain⟨k1,q1⟩:=hk _ (Bl hi);obtain⟨k2,q2⟩:=hk _ (Bl hj);have ek:lk kd lt es i j=lt k1 k2:=by
   unfold lk;rw[Xm,Xm,Xj hi,Xj hj];show((kd es[i]).bind λa=>(kd es[j]).map λb=>lt a b).getD YF=_;rw[q1,q2];rfl
  rw[ek]at hc;unfold kas_ask;rw[Xm,Xm,e1,e2];exact S2 _ _ _ _ s' v w _ _ _ _ k1 k2 C (show X.A.units+1+1+32<VB by omega) (Reads.keeps k r1) (Reads.keeps k r2) q1 q2 hc
 .obtain⟨e,he⟩:=sortedAll_at s.heap its (Ui (sLay QD (lk kd lt es) its))
  refine⟨.ref (s.heap.objs.size+1),_,I.laid (t':=s.toks) (o:=.lst (sLay .non (lk kd lt es) vs)) (λb ob q=>sortedAll_old q) (!0) ⟨?_,sLay QD (lk kd lt es) its,e,Zsb rv,he⟩,rfl,q _ (I.hok.fresh (!0))⟩;rw[(Zcj _ _ _).length_eq,X8];omega
def Zyo(kd:Xa->Option Y)(lt:Y->Y->Bool):List Xa->(OT->Prop)->Prop:=λds k=>n1 (λd=>∃es:List Xa,d= .list es/\es.length<64/\keyed kd es/\k (.nd ((sLay .none (lk kd lt es) es).map OT.fz))) ds
def Zjf:PN G (Zzf kd lt G) (Zyo kd lt):=λH L xs ds k Q hx h kk=>by
 obtain⟨v,d,rfl,rfl,q,es,e,h64,hk,h⟩:=hx.one h;have fin:∀(vs:List V) (p:YG),Das G H L vs es->H p=YC->Q (.ref p) (upd H p (.lst (sLay .non (lk kd lt es) vs))):=λvs p hv hp=>kk _ _ _ [p] (Zw hp _) (Own.list hp hv.sLay) (Zcd p) (Zaw hp) h;subst e;generalize ed:VP es=d at q;cases q with
 | lst l e r=>
  cases ed;exact⟨_,_,L,es,rfl,.inl e,r,by rw[r.length];exact h64,hk,λp hp=>fin _ p r hp⟩
 | scr ks=>
  cases ed;exact⟨_,_,L,_,rfl,ks.sq,Das.ints _,by rw[(Das.ints (G:=G) (H:=H) (L:=L) _).length];exact h64,hk,λp hp=>fin _ p (Das.ints _) hp⟩
 | _=>cases ed
def Zfs(kd:Xa->Option Y)(lt:Y->Y->Bool):List Xa->Option OT:=λds=>match ds with|[.list es]=>if(decide (es.length<64)&&es.all λd=>(kd d).isSome)=YD then YB (.nd ((sLay .none (lk kd lt es) es).map OT.fz))else YC|_=>YC
def Zmr:∀ds r k,Zfs kd lt ds=YB r->k r->Zyo kd lt ds k:=λds r k h hk=>by
 unfold Zfs at h;split at h
 case h_2=>cases h
 split at h
 case isFalse=>cases h
 rename_i h2;rw[XJ]at h2;cases h;exact⟨_,rfl,YX h2.1,λd m=>Option.isSome_iff_exists.mp (BX.mp h2.2 d m),hk⟩
end
end L2
namespace L2
open PySem PySem.Spec PyProof.Rows
section
variable {X:Cx}{io:List Nat}{p p' c c' q r:Bool}{a b e:YJ}{fa fb:FE}{es:List YJ}{ra:FA}{st:YK}{sts ss ss':List YK}{f g:FS}{ta:FT}
theorem xv(i:Nat)(hN:X.N[i]? =YB x:=by rfl)(hv:Vis X.env.scope x:=by first|exact QG rfl|exact Qz (QG rfl)|exact Qz (Qz rfl))(hd:(x==("__debug__" : Str))=YF:=by decide)(he:(x==("__classdict__" : Str))=YF:=by decide):ME X io YD YD (.Name x pos) (o2 (Z0 i)):=Zj (mv i hN hv hd he)
def xo(i:Nat)(hN:X.N[i]? =YB x:=by rfl)(hv:Vis X.env.scope x:=by first|exact QG rfl|exact Qz (QG rfl)|exact Qz (Qz rfl))(hd:(x==("__debug__" : Str))=YF:=by decide)(he:(x==("__classdict__" : Str))=YF:=by decide):ME X io YD YF (.Name x pos) (o2 (Zd5 i)):=Zyz (mo i hN hv hd he)
def xci{i:Int}:ME X io YD YD (.Constant (.int i) j pos) (o2 (fC (.int i))):=Zeb Zgq
def xix(ha:ME X io p c a (o2 fa))(hb:ME X io p' c' b (o2 fb))(hc:p'=YD\/c=YD:=by first|exact QG rfl|exact Qz rfl)(hs:Zi5 b:=by exact λ_ _=>rfl)(h2:(p&&p')=q:=by rfl)(h3:(c&&c')=r:=by rfl):ME X io q r (.Subscript a b pos) (o2 (Z4 gIx fa fb)):=h2▸h3▸J9 Yjo (Yks (Z06 rfl) Ydg ha hb hc (hs:=hs))
def xa0:MA X io YD YD [] (o2 Z5):=Z8 Z9
theorem xa1[NoStar e](ha:ME X io p c e (o2 fa))(h2:(p&&YD)=q:=by rfl)(h3:(c&&YD)=r:=by rfl):MA X io q r [e] (o2 (Zf fa Z5)):=Zc ha xa0 (.inl rfl) h2 h3
def xsq(h:MS X io st (oS f))(k:MSs X io sts (oS g)):MSs X io (st::sts) (oS (Zt f g)):=Zy1 (Zo6 h k)
def xst(i:Nat)(hN:X.N.Nodup)(he:ME X io p YD e (o2 fa))(hi:X.N[i]? =YB x:=by rfl)(hx:Loc X.env.scope x:=by first|exact QG rfl|exact Qz rfl)(hio:i∉io:=by decide)(hs:Vi e (YB (.Name x px)) pos.line X.env=pure YF:=by rfl)(hf:X.fn x=YD\/X.env.scope.names.lookup x=YB .local:=by first|exact .inl rfl|exact .inr rfl|assumption):MS X io (.Assign [.Name x px] e pos) (oS (wE fa (Y8 i))):=Zc8 (Zdd hN hi hx he hio hs hf)
theorem xrt(h:ME X io p YD e (o2 fa)):MS X io (.Return (YB e) pos) (oS (wE fa Zam)):=Zhf (Zgr h)
theorem xg(i:Nat)(hN:X.N.Nodup)(hi:X.N[i]? =YB x:=by rfl)(hx:Loc X.env.scope x:=by first|exact QG rfl|exact Qz rfl)(hio:i∉io:=by decide)(hf:X.fn x=YD\/X.env.scope.names.lookup x=YB .local:=by first|exact .inl rfl|exact .inr rfl|assumption):MG X io YD (.Name x pos) (oG (gNm i)):=W7 (W6 hN hi hx hio hf)
def xif(h:MT X io p e (o2 ta))(k:MSs X io ss (oS f))(l:MSs X io ss' (oS g)):MS X io (.If e ss ss' pos) (oS (Ws ta f g)):=Ztx (Zsk h k l)
def xnl:MSs X io [] (oS fNx):=Zaf Zac
def xtp{n:Nat}(h:MA X io p c es (o2 ra)):ME X io p c (.Tuple es n pos) (o2 (Zbv ra)):=Zpd (Zvy h)
def xls(h:MA X io p c es (o2 ra)):ME X io p c (.List es pos) (o2 (Zc2 ra)):=Zo2 (Zw6 h)
theorem xil(h:ME X io p c e (o2 fa)):MI X io p c tg e (o2 (Zf0 fa)):=Zff (Zep h)
def xno(h:MT X io p e (o2 ta)):MT X io p (.UnaryOp .Not e pos) (o2 (tNo ta)):=Zil (Zin h)
def Zjh(ha:ME X io p c a (o2 fa))(hb:ME X io p' c' b (o2 fb))(hc:p'=YD\/c=YD:=by first|exact QG rfl|exact Qz rfl)(h2:(p&&p')=q:=by rfl):ME X io q YD (.BinOp a .Add b pos) (o2 (Zd Za0 fa fb)):=h2▸Zay Yd1 (Zqz Yaj Zvh ha hb hc)
def Zvx(ha:ME X io p c a (o2 fa))(hb:ME X io p' c' b (o2 fb))(hc:p'=YD\/c=YD:=by first|exact QG rfl|exact Qz rfl)(h2:(p&&p')=q:=by rfl):ME X io q YD (.BinOp a .Sub b pos) (o2 (Zd gSb fa fb)):=h2▸Zay Yer (Zqz Ya9 Zvh ha hb hc)
def Z44(ha:ME X io p c a (o2 fa))(hb:ME X io p' c' b (o2 fb))(hc:p'=YD\/c=YD:=by first|exact QG rfl|exact Qz rfl)(h2:(p&&p')=q:=by rfl):ME X io q YD (.BinOp a .Mult b pos) (o2 (Zd Zhw fa fb)):=h2▸Zay Yfk (Zqz Z2i Z5r ha hb hc)
def Zg4(ha:ME X io p c a (o2 fa))(hb:ME X io p' c' b (o2 fb))(hc:p'=YD\/c=YD:=by first|exact QG rfl|exact Qz rfl)(h2:(p&&p')=q:=by rfl):ME X io q YD (.BinOp a .Mod b pos) (o2 (Zd Js fa fb)):=h2▸Zay Ydt (Zqz Z41 Z7n ha hb hc)
def Z9b(ha:ME X io p c a (o2 fa))(hb:ME X io p' c' b (o2 fb))(hc:p'=YD\/c=YD:=by first|exact QG rfl|exact Qz rfl)(h2:(p&&p')=q:=by rfl):ME X io q YD (.BinOp a .FloorDiv b pos) (o2 (Zd Zaz fa fb)):=h2▸Zay Z7q (Zqz Zxc Z62 ha hb hc)
def Z6z(ha:ME X io p c a (o2 fa))(hb:ME X io p' c' b (o2 fb))(hc:p'=YD\/c=YD:=by first|exact QG rfl|exact Qz rfl)(h2:(p&&p')=q:=by rfl):ME X io q YD (.BinOp a .Pow b pos) (o2 (Zd Zrl fa fb)):=h2▸Zay Yde (Zqz Z0w Z9j ha hb hc)
def xeq(hu:X.A.units+64<VB)(ha:ME X io p c a (o2 fa))(hb:ME X io p' c' b (o2 fb))(hc:p'=YD\/c=YD:=by first|exact QG rfl|exact Qz rfl)(h2:(p&&p')=q:=by rfl):MT X io q (.Compare a [.Eq] [b] pos) (o2 (tV (Zd gEq fa fb))):=h2▸W2 Yb2 (W5 (Zpc hu) Zx4 ha hb hc (hm:=J4 _))
def xne(hu:X.A.units+64<VB)(ha:ME X io p c a (o2 fa))(hb:ME X io p' c' b (o2 fb))(hc:p'=YD\/c=YD:=by first|exact QG rfl|exact Qz rfl)(h2:(p&&p')=q:=by rfl):MT X io q (.Compare a [.NotEq] [b] pos) (o2 (tV (Zd gNe fa fb))):=h2▸W2 Yj0 (W5 (Yal hu) Yfj ha hb hc (hm:=J4 _))
def xlt(ha:ME X io p c a (o2 fa))(hb:ME X io p' c' b (o2 fb))(hc:p'=YD\/c=YD:=by first|exact QG rfl|exact Qz rfl)(h2:(p&&p')=q:=by rfl):MT X io q (.Compare a [.Lt] [b] pos) (o2 (tV (Zd gLt fa fb))):=h2▸W2 Ycu (W5 Zlr Zlw ha hb hc (hm:=J4 _))
def xgt(ha:ME X io p c a (o2 fa))(hb:ME X io p' c' b (o2 fb))(hc:p'=YD\/c=YD:=by first|exact QG rfl|exact Qz rfl)(h2:(p&&p')=q:=by rfl):MT X io q (.Compare a [.Gt] [b] pos) (o2 (tV (Zd gGt fa fb))):=h2▸W2 Yjw (W5 Yew Zlw ha hb hc (hm:=J4 _))
def xge(ha:ME X io p c a (o2 fa))(hb:ME X io p' c' b (o2 fb))(hc:p'=YD\/c=YD:=by first|exact QG rfl|exact Qz rfl)(h2:(p&&p')=q:=by rfl):MT X io q (.Compare a [.GtE] [b] pos) (o2 (tV (Zd gGe fa fb))):=h2▸W2 Ykc (W5 Ydu Zlw ha hb hc (hm:=J4 _))
def xfr{it:FI}(hp:PassesOwn (X4 X.prog X.w) X.A X.env X.xe)(hc:X.calm=YD)(hi:MI X io p YD tg e (o2 it))(hg:MG X io YD tg (oG gg))(hb:MSs X io ss (oS f))(hs:∀x,JX e X.env x=pure x:=by intro _;rfl):MS X io (.For tg e ss [] pos) (oS (Jx it gg f)):=Zyy (Zz7 hp hc hi hg hb hs)
def xg2{n:Nat}{g1 g2:FG}(hc:X.calm=YD)(ha:MG X io YD a (oG g1))(hb:MG X io YD b (oG g2))(h1:List.map (λx=>x.snd) (JT [a,b] X.env)=assign a X.env::List.map (λx=>x.snd) (JT [b] X.env):=by rfl)(h2:List.map (λx=>x.snd) (JT [b] X.env)=assign b X.env::List.map (λx=>x.snd) (JT [] X.env):=by rfl)(h3:(JT [a,b] X.env).length=2:=by rfl)(h4:List.findIdx? (λx=>x.fst) (JT [a,b] X.env)=YC:=by rfl):MG X io YD (.Tuple [a,b] n pos) (oG (gTp 2 (gCn g1 (gCn g2 gNl)))):=Zl8 (Zk6 (n:=2) hc (Jl (Zas ha (Jl (Zas hb (Zg0 Zgi) h2)) h1)) h3 h4)
def xso(i:Nat)(hN:X.N.Nodup)(he:ME X io p YD e (o2 fa))(hi:X.N[i]? =YB x:=by rfl)(hx:Loc X.env.scope x:=by first|exact QG rfl|exact Qz rfl)(hio:i∉io:=by decide)(hs:Vi e (YB (.Name x px)) pos.line X.env=pure YF:=by rfl)(hf:X.fn x=YD\/X.env.scope.names.lookup x=YB .local:=by first|exact .inl rfl|exact .inr rfl|assumption):MS X io (.Assign [.Name x px] e pos) (oS (wE fa (J7 i))):=Zgn (Zhi hN hi hx he hio hs hf)
def xcl{k:Nat}{f:YG}{fd:Ql}(G:FnOk X.prog X.w X.K X.mg X.base CX0 k f fd ps (spD X.K (sD F)))(hr:Room k X.A)(hm:X.mg x=YB (.ref f))(hk:VG X.K (.ref f)=YD)(hb:Binds X.K fd ps [])(ha:MA X io p c (e::es) (o2 ra))(hg:Gl X x:=by rfl)(h1:(x==("__debug__" : Str))=YF:=by decide)(h2:Xo (e::es) X.env=(YF,eval e X.env)::Xo es X.env:=by rfl)(h3:((Q3 pos (Xo es X.env)).any λx=>x.fst)=YF:=by rfl):ME X io p c (.Call (.Name x pp) (e::es) [] pos) (o2 (Yo F ra)):=Wq (Jz G hr hg hm hk hb Zc1 ha h1 h2 h3)
def xln(hm:X.mg "len"=YC)(ha:MA X io p c [e] (o2 ra))(hg:Gl X "len" :=by rfl)(h2:Xo [e] X.env=(YF,eval e X.env)::Xo [] X.env:=by rfl):ME X io p YD (.Call (.Name "len" pp) [e] [] pos) (o2 (Zem Zi3 ra)):=Zel Zv3 (Zki Zn8 (Zdx rfl) hg hm L2.B.boot_len ha (!1) (!1) h2 (by rfl))
end
def tbl(P:List Nat)(led:Bool):QM:={ mask:=7,place:=P.toArray,dummies:=#[],finger:=0,led,moves:=0,plain:=YD }
def hT(k:List Int):Int:=reduceHash (Builtin.Tuple.tupleHashOf (k.map hashInt))
def hAt(ks:List (List Int))(i:Nat):Int:=(ks[i]?.map hT).getD 0
def Yc1(P:List Nat)(j:Nat):List Nat:=((tbl P YF).put j).1.place.toList
def Ygi(P:List Nat)(j:Nat):Nat:=((tbl P YF).put j).2
def Yjn(ks:List (List Int))(p:Nat)(k:List Int):List (List Int):=ks.take p++k::ks.drop p
def Yj4(P:List Nat)(ks:List (List Int))(k:List Int):Option (List Nat×List (List Int)) :=
 match(tbl P YF).probe (hAt ks) (hT k) ((tbl P YF).probeStart (hT k))with
 | some (.empty j YC)=>if(tbl (Yc1 P j) YF).tooFull=YF/\(Yc1 P j).length=ks.length+1/\ks.length<=6/\Ygi P j<=ks.length then YB (Yc1 P j,Yjn ks (Ygi P j) k)else YC
 | some (.candidate _ i _)=>if ks[i]? =YB k then YB (P,ks)else YC
 | _=>YC
def grow(K:List (List Int)):Nat->List (List Nat×List (List Int))->List (List Nat×List (List Int))
 | 0,S=>S
 | n+1,S=>grow K n (S++(S.flatMap λs=>K.filterMap λk=>Yj4 s.1 s.2 k).filter λs=>!S.contains s)
def K2:List (List Int):=[[0,0],[0,1],[1,0],[1,1]]
def S2:List (List Nat×List (List Int)):=(grow K2 4 [([],[])]).eraseDups
section
variable {prog:X3}{w:Qo}{A:Qn}{E:Xe->Xf->Prop}{s:Xf}
inductive KeysIn(U:YG->List Int->Prop):List (List Int)->List (Int×Xe)->Prop
 | nil:KeysIn U [] []
 | cons {k:List Int} {a:YG} {ks:List (List Int)} {l:List (Int×Xe)} (h:U a k) (t:KeysIn U ks l):KeysIn U (k::ks) ((hT k,.ref a)::l)
def KeysIn.hash{U:YG->List Int->Prop}{ks:List (List Int)}{l:List (Int×Xe)}(h:KeysIn U ks l):l.map (·.1)=ks.map hT:=by
 induction h with
 | nil=>rfl
 | cons _ _ ih=>rw[X7,X7,ih]
def Zp0(xs:Array Y)(p:Nat)(x:Y)(h:p<=xs.size):(JM xs p x).toList=xs.toList.take p++x::xs.toList.drop p:=by
 unfold JM;rw[Array.toList_append,Array.toList_push,Array.toList_extract,Array.toList_extract];simp;rw[List.take_of_length_le (by simp)]
abbrev IK(prog:X3)(w:Qo)(h:YH)(k:List Int)(a:YG):Prop:=IsTupleKey (Vv prog w) h k a
theorem items_int{ks:List Int}(h:ItemsAre (Vv prog w) ks vs):∀v∈vs,∃i t,v= .int i t:=by
 induction h with
 | nil=>exact λ_ m=>nomatch m
 | cons h _ ih=>
  intro v hv;rcases Xn.mp hv with rfl|hv
  .obtain⟨t,e⟩:=Value.isInt_shape h
   exact⟨_,t,e⟩
  .exact ih v hv
theorem Zt5{k:List Int}{Q:Bool->Xf->Prop}(hk:IK prog w s.heap k a)(h:Q YD s):Xz (X4 prog w) A (hashByValue 8 (.ref a)) Q E s:=by
 have hT:=hk.typeIs;obtain⟨o,its,n,ho,_,hd,hi⟩:=hk;unfold hashByValue;refine Xb (wpAny_specialOf hT F.slot_tuple_hash.lookup ?_);dsimp only;refine Xb (Bj ho hd ?_);show Xz _ _ (forIn its _ _>>=_) _ _ s;rw[<-Array.forIn_toList];refine Xb (wpAny_forIn_list _ (λrest r s'=>r.1=YC/\s'=s/\∀v∈rest,∃i t,v=Vt i t) _ ?_ ?_ _ _ ⟨rfl,rfl,items_int hi⟩)
 .rintro v rest r s' ⟨hr,rfl,hall⟩
  obtain⟨i,t,rfl⟩:=hall v (.head _);refine Xb (wpAny_of_eq (show hashByValue 7 (.int i t)=pure YD from rfl) ?_);simp only[Vl,XN,if_false];exact Xl ⟨rfl,rfl,λu hu=>hall u (.tail _ hu)⟩
 .rintro⟨r1,r2⟩ s' ⟨hr,rfl,_⟩
  simp only at hr;subst hr;exact Xl h
def Zle{k:List Int}{Q:Bool->Xf->Prop}(hk:IK prog w s.heap k a)(h:Q YF s):Xz (X4 prog w) A (ofAClassStatement 8 (.ref a)) Q E s:=by
 have hT:=hk.typeIs;obtain⟨o,its,n,ho,hc,hd,hi⟩:=hk;unfold ofAClassStatement;refine Xb (wpAny_typeOf hT ?_);dsimp only;refine Xb (Xl ?_);refine Xb (Bj ho hd ?_);show Xz _ _ (forIn its _ _>>=_) _ _ s;rw[<-Array.forIn_toList];refine Xb (wpAny_forIn_list _ (λrest r s'=>r.1=YC/\s'=s/\∀v∈rest,∃i t,v=Vt i t) _ ?_ ?_ _ _ ⟨rfl,rfl,items_int hi⟩)
 .rintro v rest r s' ⟨hr,rfl,hall⟩
  obtain⟨i,t,rfl⟩:=hall v (.head _);refine Xb (wpAny_of_eq (show ofAClassStatement 7 (.int i t)=pure YF from rfl) ?_);simp only[XN,if_false];exact Xl ⟨rfl,rfl,λu hu=>hall u (.tail _ hu)⟩
 .rintro⟨r1,r2⟩ s' ⟨hr,rfl,_⟩
  simp only at hr;subst hr;exact Xl h
def Zwz{k:List Int}{ys:List Xe}{Q:Bool->Xf->Prop}(hk:IK prog w s.heap k a)(hy:∀y∈ys,∃b k',y= .ref b/\IK prog w s.heap k' b)(h:Q YF s):Xz (X4 prog w) A (searchCouldBeSeen (.ref a) ys) Q E s:=by
 unfold searchCouldBeSeen;refine Xb (wpAny_forIn_list _ (λrest r s'=>r.1=YC/\s'=s/\∀y∈rest,∃b k',y=Xy b/\IK prog w s.heap k' b) _ ?_ ?_ _ _ ⟨rfl,rfl,hy⟩)
 .rintro y rest r s' ⟨hr,rfl,hall⟩
  obtain⟨b,k',rfl,hb⟩:=hall y (.head _);dsimp only;split
  .exact Xl ⟨rfl,rfl,λu hu=>hall u (.tail _ hu)⟩
  .refine Xb (wpAny_eqIsQuiet_tuple hk ?_)
   simp only[Vl,XN,if_false];refine Xb (wpAny_eqIsQuiet_tuple hb ?_);simp only[Vl,XN,if_false];refine Xb (Zle hk ?_);simp only[XN,if_false];refine Xb (Zle hb ?_);simp only[XN,if_false];exact Xl ⟨rfl,rfl,λu hu=>hall u (.tail _ hu)⟩
 .rintro⟨r1,r2⟩ s' ⟨hr,rfl,_⟩
  simp only at hr;subst hr;exact Xl h
theorem KeysIn.at{U:YG->List Int->Prop}{ks:List (List Int)}{es:Array (Int×Xe)}(h:KeysIn U ks es.toList)(i:Nat):(es[i]?.map (·.1)).getD 0=hAt ks i:=by
 unfold hAt;rw[<-Xi,<-h.hash,Xi,Qc]
end
section
variable {prog:X3}{w:Qo}{A:Qn}{R:Result->Xf->Prop}{I:YG}{fp wr:List YG}{n:Nat}{Pv:Nat->Xe->Prop}{St:Nat->YH->Prop}
end
def tupI(k:List Int):Xa:=.tuple (k.map Xu)
inductive Zzv(H:Hp):List V->List (List Int)->Prop
 | nil:Zzv H [] []
 | cons {a:YG} {k:List Int} {xs:List V} {ks:List (List Int)} (h:H a=YB (.tup (k.map V.int))) (t:Zzv H xs ks):Zzv H (.ref a::xs) (k::ks)
end L2
variable {I:YG}{q:Bool}{kss:List (List Int)}{wr:List YG}{ys:List Int}{kk:Nat}{td:TE}
namespace L2
open PySem PySem.Spec PyProof.Rows
def Zwi:∀{xs:List V},Das G H L xs (kss.map tupI)->Zzv H xs kss:=by
 induction kss with
 | nil=>
  intro xs h;cases h;exact .nil
 | cons k kss ih=>
  intro xs h;cases h with
  | cons h t=>
   generalize e:tupI k=d at h;cases h with
   | tup e1 r=>
    cases e;rw[r.int_inv]at e1;exact .cons e1 (ih t)
   | _=>cases e
def Zqr:∀{k:List Int} {its:List Xe},Vals (k.map V.int) its->ItemsAre (Vv prog w) k its:=fun{k}=>by
 induction k with
 | nil=>
  intro its h;cases h;exact .nil
 | cons i k ih=>
  intro its h;cases h with
  | cons h t=>
   obtain⟨t0,rfl⟩:=h;exact .cons (intKind_is prog w i t0) (ih t)
section
variable {X:Cx}{p c:Bool}{io:List Nat}{a e:YJ}{pos pos' pl pr:Pos}{t:TA}{mr:MAt}{ra:FA}
def Z4z{O:St}(I:Inv X pins O H s){xs:List V}(h:Zzv H xs kss):∀{its:List Xe},Vals xs its->its.length=kss.length/\∀(i:Nat) (v:Xe),its[i]? =YB v->∃a k,v=Xy a/\kss[i]? =YB k/\IK X.prog X.w s.heap k a:=by
 induction h with
 | nil=>
  intro its r;cases r;exact⟨rfl,λi v e=>by simp at e⟩
 | cons h t ih=>
  intro its r;cases r with
  | cons r rr=>
   cases r;obtain⟨l,g⟩:=ih rr;refine⟨by rw[Qd,Qd,l],λi v e=>?_⟩;cases i with
   | zero=>
    cases e;obtain⟨its',rv,pl,_⟩:=I.tuple (.inl (.inl h));obtain⟨o,ho,hc,n,hd⟩:=(show s.heap.IsTuple _ its'.toArray from pl);exact⟨_,_,rfl,rfl,o,its'.toArray,n,ho,hc,hd,Zqr rv⟩
   | succ i=>exact g i v e
def Yc7(ds:List Xa):Option (List Xa):=match ds with|[.list es]=>YB es|_=>YC
def Z3p{es:List Xa}(h:Yc7 ds=YB es):ds=[.list es]:=by
 unfold Yc7 at h;split at h
 .cases h;rfl
 .cases h
end
section
variable {X:Cx}{G:Xc}
def Z2t(d:Xa)(ds:List Xa):Bool:=ds.any λy=>JF y d
def Yhc(neg:Bool)(K:Xc):R2:=λx y H Q=>∃(L L':YG->Prop) (d e:Xa) (ds:List Xa),Da K H L x d/\Da K H L' y e/\Zie e=YB ds/\d.canLay0=YD/\e.canLay0=YD/\d.depth<=32/\Q (.bl (if neg then !Z2t d ds else Z2t d ds)) H
def Z9x{d:Xa}(hd:d.depth<=32)(hu:A.units+64<VB):A.units+1+min (PyData.depthAll ds) d.depth<VB:=by
 have:=Nat.min_le_right (PyData.depthAll ds) d.depth;omega
def Zsx(hu:X.A.units+64<VB):OpR X (QL .NotIn) (Yhc YD X.K):=by
 intro pins s O H x y v u Q I rx ry h;obtain⟨L,L',d,e,ds,h1,h2,h3,s1,s2,hd,q⟩:=h;obtain⟨as,k1⟩:=h1.reads rfl I rx s1;obtain⟨bs,k2⟩:=h2.reads rfl I ry s2;cases e<;>cases h3
 .exact SeqAt.notIn_list_reads k2 k1 s2 s1 (Z9x hd hu) ⟨.bl _,H,I,rfl,q⟩
 .exact SeqAt.notIn_tuple_reads k2 k1 s2 s1 (Z9x hd hu) ⟨.bl _,H,I,rfl,q⟩
def Zui(neg:Bool):Xa->Xa->Option Xa:=λd e=>match Zie e with
 | some ds=>if(d.canLay0&&(e.canLay0&&decide (d.depth<=32)))=YD then YB (.bool (if neg then !Z2t d ds else Z2t d ds))else YC
 | none=>YC
def Yha(neg:Bool):Xa->Xa->(Xa->Prop)->Prop:=λd e k=>∃r,Zui neg d e=YB r/\k r
def Z9e:P2s G (Yhc neg G) (Yha neg):=λH L x y d e k Q hx hy h kk=>by
 obtain⟨r,h,hk⟩:=h;unfold Zui at h;split at h
 case h_2=>cases h
 rename_i ds q;split at h
 case isFalse=>cases h
 rename_i q2;rw[XJ,XJ,decide_eq_true_eq]at q2;cases h;exact⟨L,L,d,e,ds,hx,hy,q,q2.1,q2.2.1,q2.2.2,kk _ _ (.bl _) hk⟩
def Z8f:ByS (Zui neg) (Yha neg):=λd e r k h hk=>⟨r,h,hk⟩
end
abbrev Yj8(h:YH)(T:YG)(a b c:Xe):Prop:=h.get? T=YB { cls:=.type "tuple",data:=.seq #[a,b,c] }
structure Z3A(z TI TO i1 i2 i3:YG)(f1 f2 f3:List YG):Prop where
 TIz:TI≠z
 TOz:TO≠z
 a1:∀c∈f1,c≠z/\c≠TO/\c≠i2/\c≠i3
 a2:∀c∈f2,c≠z/\c≠TO/\c≠i1/\c≠i3
 a3:∀c∈f3,c≠z/\c≠TO/\c≠i1/\c≠i2
section
variable {P:X3}{w:Qo}{A:Qn}{E:Xe->Xf->Prop}{s:Xf}
end
abbrev z3A(h:YH)(a:YG):YH:=h.push { cls:=.type "list_iterator",data:=.fields #[.ref a,.int 0 0] }
abbrev z3B(h:YH)(a b:YG):YH:=z3A (z3A h a) b
abbrev z3C(h:YH)(a b c:YG):YH:=z3A (z3B h a b) c
abbrev z3D(h:YH)(a b c:YG):YH:=(z3C h a b c).push { cls:=.type "tuple",data:=.seq #[.ref h.objs.size,.ref (z3A h a).objs.size,.ref (z3B h a b).objs.size] }
abbrev z3E(h:YH)(a b c:YG):YH:=(z3D h a b c).push { cls:=.type "tuple",data:=.seq #[.none,.none,.none] }
abbrev z3F(h:YH)(a b c:YG):YH:=(z3E h a b c).push { cls:=.type "zip",data:=.fields #[.none,.bool YF,.bool YF,.ref (z3C h a b c).objs.size,.ref (z3D h a b c).objs.size] }
section
variable {P:X3}{w:Qo}{A:Qn}{E:Xe->Xf->Prop}{s:Xf}
end
section
variable {X:Cx}{io:List Nat}{p c:Bool}{a b e:YJ}{mr:MAt}{ra:FA}
end
variable {G:Xc}
section
variable {X:Cx}{io:List Nat}{p c:Bool}{e:YJ}{m:MEt}{pos apos cpos px:Pos}{i:Nat}{x:Str}{st:YK}{fa:FE}
def Zja(i:Nat)(m:MEt):MSt:=λD δ=>match δ[i]? with
 | some (YB (.nd _))=>m δ λr δ1=>match r,δ1[i]? with
  | .nd rs,YB (YB (.nd ts))=>ts.length+rs.length<=Xw/\D.nx (δ1.set i (YB (.nd (ts++(OT.datas rs).map OT.fz))))
  | _,_=>False
 | _=>False
def Owns.app:∀{zs xs:List V} {ts:List OT} {bs:List YG},Owns G H L xs ts bs->Das G H L zs ds->Owns G H L (xs++zs) (ts++ds.map OT.fz) bs:=by
 induction ds with
 | nil=>
  intro zs xs ts bs h g;cases g;rw[XX,List.map_nil,XX];exact h
 | cons d ds ih=>
  intro zs xs ts bs h g;cases g with
  | cons q g=>
   have:=ih (h.snoc (.fz q)) g;rw[XX,QF,QF]at this;exact this
def Zrm(i:Nat)(he:ME X io p YD e m)(hN:X.N[i]? =YB x:=by rfl)(hv:Vis X.env.scope x:=by first|exact QG rfl|exact Qz (QG rfl)|exact Qz (Qz rfl))(hd:(x==("__debug__" : Str))=YF:=by decide)
  (hcd:(x==("__classdict__" : Str))=YF:=by decide)
  (hbase:Ue (.Name x px) "extend" X.env (eval (.Name x px) X.env)=eval (.Name x px) X.env:=by rfl)
  (hfew:((Q3 cpos (Xo [e] X.env)).all (λx=>!x.1)&&(backToKw cpos (U7 [] X.env)).all (λx=>x.1.isSome)
   &&decide ([e].length+([]:List V8).length+(if([]:List V8).isEmpty then 0 else 1)<30))=YD:=by rfl)
  (hline:(apos.endLine==cpos.line)=YD:=by rfl) (hs:Xo [e] X.env=(YF,eval e X.env)::Xo [] X.env:=by rfl) (hplain:(Q3 cpos (Xo [] X.env)).any (·.1)=YF:=by rfl)
  (hsw:Vi (.Call (.Attribute (.Name x px) "extend" apos) [e] [] cpos) YC pos.line X.env=pure YF:=by rfl) :
  MS X io (.Expr (.Call (.Attribute (.Name x px) "extend" apos) [e] [] cpos) pos) (Zja i m):=by
 obtain⟨_,A,s⟩:=he;refine⟨_,Zi7 (Zuq Ut PySem.F.slot_list_extend PySem.F.type_list_extend Zs0 (pv i hN hv hd hcd) (Zz A Zcl hs) hbase hfew hline hs hplain) hsw,λC H O δ fp ex D D' R h E=>?_⟩;unfold Zja at h;split at h
 case h_2=>exact h.elim
 rename_i ts0 hi0;obtain⟨a',xs0,bs0,hv0,hx0,_,_⟩:=R.ownNd hi0;refine⟨_,hv0,.inl ⟨rfl,xs0,.inl (.inl hx0)⟩,?_⟩;refine s C H O δ fp ex _ _ R h λH1 v r δ1 fp1 new r1 h1=>?_;split at h1
 case h_2=>exact h1.elim
 rename_i rs ts1 hi1;have R1:=r1.base;obtain⟨a1,xs1,bs1,hv1,hx1,o1,hf1⟩:=R1.ownNd hi1;rw[hv0]at hv1;cases hv1;obtain⟨b,zs,rfl,hb,lz,qs⟩:∃b zs,v= .ref b/\H1 b=YB (.lst zs)/\zs.length=rs.length/\Das X.K H1 (Lf C fp1 ex) zs (OT.datas rs):=by
  have ow:=r1.own;have nw:∀a∈new,Lf C fp1 ex a:=λa m=>by
   refine⟨λqz=>?_,(R.newOk (r1.fresh a m)).2.1,.inr (R.newOk (r1.fresh a m)).2.2⟩;obtain⟨i,z⟩:=qz;exact r1.rel.dx i a z (.inr m)
  cases ow with
  | nd hb r=>exact⟨_,_,rfl,hb,r.length,r.das (λa l _=>⟨(l rfl).1,λz=>(l rfl).2.1 (.inl z),(l rfl).2.2⟩) λa m=>nw a (.tail _ m)⟩
 refine⟨a',b,xs1,zs,rfl,rfl,hx1,hb,by rw[o1.length,lz];exact h1.1,?_⟩;obtain⟨R2,S2⟩:=R1.top hi1 hv0 hf1 hx1 (o1.app qs) (List.Sublist.refl _);exact E.nx _ O _ _ R2 (r1.stp.kp.trans S2.kp) h1.2
def Zge(i:Nat)(e:FE):FS:=λδ=>match δ[i]? with
 | some (YB (.nd _))=>wE e (λr δ1=>match r,δ1[i]? with
  | .nd rs,YB (YB (.nd ts))=>if ts.length+rs.length<=Xw then .nx (δ1.set i (YB (.nd (ts++(OT.datas rs).map OT.fz))))else .bad
  | _,_=>.bad) δ
 | _=>.bad
def Zrw(h:MS X io st (Zja i (o2 fa))):MS X io st (oS (Zge i fa)):=h.weak λD δ h=>by
 unfold oS Zge at h;unfold Zja;split at h
 case h_2=>exact h.elim
 rename_i q;(try rw[q]);refine(Zmt h).imp λr δ' z=>?_;split at z
 .rename_i q2;(try rw[q2]);exact Zei z
 .exact z.elim
end
def Up(xs:List Nat):Prop:=xs.Pairwise (·<·)
def Znn{xs:List Nat}(h:Up xs){a b:Nat}(ha:xs[i]? =YB a)(hb:xs[j]? =YB b)(l:i<j):a<b:=by
 obtain⟨hi,rfl⟩:=Xk.mp ha;obtain⟨hj,rfl⟩:=Xk.mp hb;exact Um.mp h i j hi hj l
def getD_at{xs:Array Nat}{d:Nat}(h:i<xs.size):xs.toList[i]? =YB (xs.getD i d):=by
 rw[Qc,QZ h,Array.getD,dif_pos h];rfl
def Zw2{xs:Array Nat}(up:Up xs.toList):∀(fuel lo hi:Nat),hi-lo<=fuel->lo<=hi->hi<=xs.size->(∀i a,i<lo->xs.toList[i]? =YB a->a<j)->(∀i a,hi<=i->xs.toList[i]? =YB a->j<=a) ->
  ∃p,SetTable.below.go xs j fuel lo hi=p/\p<=xs.size/\(∀i a,i<p->xs.toList[i]? =YB a->a<j)/\∀i a,p<=i->xs.toList[i]? =YB a->j<=a:=by
 intro fuel
 induction fuel with
 | zero=>
  intro lo hi f l z h1 h2;have e:lo=hi:=by omega
  exact⟨lo,rfl,by omega,h1,λi a q=>h2 i a (!0)⟩
 | succ fuel ih=>
  intro lo hi f l z h1 h2;rw[SetTable.below.go]
  by_cases c:lo<hi
  .rw[YM c]
   have hm:(lo+hi)/2<xs.size:=by omega
   have em:=getD_at (xs:=xs) (d:=j) hm
   by_cases q:xs.getD ((lo+hi)/2) j<j
   .simp only[YM q]
    refine ih _ _ (!0) (!0) z (λi a li ea=>?_) h2
    by_cases e:i=(lo+hi)/2
    .subst e
     rw[em]at ea;cases ea;exact q
    .exact Vd (Znn up ea em (!0)) q
   .simp only[YQ q]
    refine ih _ _ (!0) (!0) (!0) h1 λi a li ea=>?_
    by_cases e:i=(lo+hi)/2
    .subst e
     rw[em]at ea;cases ea;omega
    .have:=Znn up em ea (!0)
     omega
  .rw[YQ c]
   have e:lo=hi:=by omega
   exact⟨lo,rfl,by omega,h1,λi a q=>h2 i a (!0)⟩
def Zd3{xs:Array Nat}(up:Up xs.toList)(j:Nat):Qy xs j<=xs.size/\(∀i a,i<Qy xs j->xs.toList[i]? =YB a->a<j)/\∀i a,Qy xs j<=i->xs.toList[i]? =YB a->j<=a:=by
 obtain⟨p,e,h⟩:=Zw2 (j:=j) up xs.size 0 xs.size (!0) (QJ _) (XD _) (λi a q=>YZ q (JL _)) λi a q ea=>by
  have:=(Xk.mp ea).1;rw[Xq]at this;omega
 unfold Qy;rw[e];exact h
def Zqk{xs:Array Nat}(up:Up xs.toList){a:Nat}(h:xs.toList[i]? =YB a):Qy xs (a+1)=i+1:=by
 obtain⟨b0,b1,b2⟩:=Zd3 up (a+1);have hi:=(Xk.mp h).1;rw[Xq]at hi;rcases U6 (Qy xs (a+1)) (i+1)with c|c|c
 .have:=b2 i a (!0) h
  omega
 .exact c
 .have hs:i+1<xs.toList.length:=by rw[Xq];omega
  have e1:=Xj hs;have:=b1 (i+1) _ c e1;have:=Znn up h e1 (QQ _);omega
theorem Zqh{xs:Array Nat}(up:Up xs.toList):Qy xs 0=0:=by
 obtain⟨b0,b1,_⟩:=Zd3 up 0;cases e:Qy xs 0 with
 | zero=>rfl
 | succ k=>
  rw[e]at b0 b1;have hs:0<xs.toList.length:=by rw[Xq];omega
  exact YZ (b1 0 _ (Nat.zero_lt_succ _) (Xj hs)) (JL _)
def Z8b{xs:List Nat}(up:Up xs){p:Nat}(h1:∀i a,i<p->xs[i]? =YB a->a<j)(h2:∀i a,p<=i->xs[i]? =YB a->j<a):Up (xs.take p++j::xs.drop p):=by
 refine List.pairwise_append.mpr ⟨up.sublist (List.take_sublist ..),BV.mpr ⟨λa ha=>?_,up.sublist (List.drop_sublist ..)⟩,λa ha b hb=>?_⟩
 .obtain⟨i,hi⟩:=Vx ha
  rw[Uz]at hi;exact h2 _ a (Vo _ _) hi
 .obtain⟨i,hi⟩:=Vx ha
  have ip:i<p:=by
   have:=(Xk.mp hi).1;rw[Bk]at this;omega
  rw[List.getElem?_take_of_lt ip]at hi;have aj:=h1 i a ip hi;rcases Xn.mp hb with rfl|hb
  .exact aj
  .obtain⟨k,hk⟩:=Vx hb
   rw[Uz]at hk;exact Vd aj (h2 _ b (Vo _ _) hk)
def Zdn(t:QM)(j:Nat):Prop:=t.place[Qy t.place j]? ≠YB j
structure Tb(b:Bool)(t:QM):Prop where
 led:t.led=b
 up:t.plain=YD->Up t.place.toList
def Zod{t:QM}(h:t.slot j= .empty\/t.slot j= .dummy):Zdn t j:=λz=>by
 have:t.slot j= .live (Qy t.place j):=by
  unfold SetTable.slot;rw[YM (ZC.mpr z)]
 rcases h with h|h<;>rw[this]at h<;>cases h
def Zsi{t:QM}{f:Nat->Int}{h:Int}:∀(fuel:Nat) (p:BR),(∀d,p.dummy=YB d->Zdn t d)->∀j dm,Ug t f h fuel p=YB (.empty j dm)->Zdn t j/\∀d,dm=YB d->Zdn t d:=by
 intro fuel
 induction fuel with
 | zero=>intro p _ j dm e;cases e
 | succ fuel ih=>
  have adv:∀q:BR,(t.advance q).dummy=q.dummy:=λq=>by
   unfold SetTable.advance;split<;>rfl
  intro p hp j dm e;rw[Ug]at e;split at e
  .rename_i c
   cases e;exact⟨Zod (.inl c),hp⟩
  .rename_i c
   refine ih _ (λd hd=>?_) j dm e;rw[adv]at hd;cases hd;exact Zod (.inr c)
  .split at e
   .cases e
   .exact ih _ (λd hd=>hp d (by rw[adv]at hd;exact hd)) j dm e
def Zxt{t:QM}{h:Int}{d:Bool}(e:t.freeSlot h=YB (j,d)):Zdn t j:=by
 unfold QM.freeSlot at e;split at e
 .rename_i j' dm q
  cases e;obtain⟨h1,h2⟩:=Zsi _ _ (λd hd=>by cases hd) _ _ q;cases dm with
  | none=>exact h1
  | some d=>exact h2 d rfl
 .cases e
def Zzz{t:QM}(up:Up t.place.toList)(n:Zdn t j):Up (t.put j).1.place.toList:=by
 show Up (JM t.place (Qy t.place j) j).toList;obtain⟨b0,b1,b2⟩:=Zd3 up j;rw[SetTable.toList_insertAt];refine Z8b up b1 λi a l ea=>?_;have ja:=b2 i a l ea;rcases JS j a with c|c
 .exact c
 .have e:a=j:=by omega
  subst e;exfalso;rcases JS (Qy t.place a) i with c2|c2
  .have hs:Qy t.place a<t.place.toList.length:=Vd c2 (Xk.mp ea).1
   have e1:=Xj hs;have:=Znn up e1 ea c2;have:=b2 _ _ (XD _) e1;omega
  .have e:i=Qy t.place a:=by omega
   subst e;exact n (by rw[<-Qc];exact ea)
def Tb.stand{b:Bool}{t:QM}(h:Tb b t)(n:Nat):Tb b (t.standIn n):=⟨h.led,λz=>nomatch z⟩
def Tb.lay{b:Bool}{t:QM}(h:Tb b t)(es:Array (Int×Xe))(k:Int)(x:Xe):Tb b (layNew t es k x).2.1:=by
 unfold layNew;split
 .rename_i j d e
  dsimp only;unfold QM.orStandIn;split
  .exact⟨h.led,λz=>Zzz (h.up z) (Zxt e)⟩
  .exact⟨h.led,λz=>nomatch z⟩
 .exact h.stand _
def Zm0(f:Nat->Option Nat)(n:Nat):Up (((XC n).filterMap λj=>(f j).map (j,·)).map (·.1)):=by
 have e:∀l:List Nat,((l.filterMap λj=>(f j).map (j,·)).map (·.1)).Sublist l:=λl=>by
  induction l with
  | nil=>exact .slnil
  | cons a l ih=>
   rw[VN];cases f a with
   | none=>exact ih.cons a
   | some v=>exact ih.cons_cons a
 exact List.Pairwise.sublist (e _) List.pairwise_lt_range
def Tb.relay{b:Bool}{t:QM}(h:Tb b t)(es:Array (Int×Xe))(n:Nat):Tb b (relayAll t es n).2.1:=by
 unfold relayAll;split
 .rename_i t' order e
  dsimp only;split
  .unfold SetTable.relaid SetTable.laid at e
   obtain⟨ow,_,e⟩:=Option.bind_eq_some_iff.mp e;cases e;exact⟨h.led,λ_=>Zm0 _ _⟩
  .exact h.stand _
 .exact h.stand _
def vI:Xe->Int
 | .int k _=>k
 | _=>0
def SetI(prog:X3)(w:Qo)(b:Bool)(h:YH)(S:YG)(ks:List Int):Prop :=
 ∃o es ep t,h.get? S=YB o/\o.ExactSet/\o.data= .set es ep t/\ElemsOf (Vv prog w) es.toList/\es.size<scanBound/\t.fits es.size=YD/\Tb b t/\es.toList.map (λe=>vI e.2)=ks
section
variable {prog:X3}{w:Qo}{A:Qn}{E:Xe->Xf->Prop}{s:Xf}{b:Bool}
def Ztl{k:Int}(h:(Vv prog w).is k v=YD):∃t,v= .int k t:=by
 cases v<;>simp_all [Vv,Value.isInt]
theorem SetI.stay{S:YG}{ks:List Int}(hS:SetI prog w b h S ks)(k:∀o,h.get? S=YB o->h'.get? S=YB o):SetI prog w b h' S ks:=by
 obtain⟨o,es,ep,t,ho,r⟩:=hS;exact⟨o,es,ep,t,k o ho,r⟩
theorem SetI.put{S:YG}{es es':Array (Int×Xe)}{ep:Nat}{t t':QM}(ho:h.get? S=YB o)(hex:o.ExactSet)(hd:o.data= .set es ep t)(he:ElemsOf (Vv prog w) es'.toList)(hb:es'.size<scanBound)(hf:t'.fits es'.size=YD)(ht:Tb b t') :
  (h.update S (Obj.putSet es' t')).get? S=YB { o with data:=.set es' (ep+1) t' }/\SetI prog w b (h.update S (Obj.putSet es' t')) S (es'.toList.map λe=>vI e.2):=by
 have g:=V5 (Obj.putSet es' t') ho (by rw[putSet_of es' t' hd];rfl);rw[putSet_of es' t' hd]at g;exact⟨g,_,es',ep+1,t',g,hex,rfl,he,hb,hf,ht,rfl⟩
def Zy7{g:Bool->Sem Unit}(hg:∀(c:Bool) (s₁:Xf) (Q':Unit->Xf->Prop),Q' () s₁->Xz (X4 prog w) A (g c) Q' E s₁){S:YG}{es es1:Array (Int×Xe)}{ep:Nat}{t t1:QM}{wasDummy:Bool}{R:Option Bool->Xf->Prop}
  (ho:s.heap.get? S=YB o) (hex:o.ExactSet) (hd:o.data= .set es ep t) (he:ElemsOf (Vv prog w) es1.toList) (hb:es1.size<scanBound) (hf:t1.fits es1.size=YD) (ht:Tb b t1)
  (q:∀h' ks',JQ S s.heap h'->SetI prog w b h' S ks'->ks'.Perm (es1.toList.map λe=>vI e.2)->R (YB YD) { s with heap:=h' }) :
  Xz (X4 prog w) A (do
    storeSet S es1 t1
    if(!wasDummy&&t1.tooFull)=YD then do
      g (relayAll t1 es1 (VD es1.size)).2.2
      storeSet S (relayAll t1 es1 (VD es1.size)).1 (relayAll t1 es1 (VD es1.size)).2.1
      pure (YB YD)
     else pure (YB YD)) R E s:=by
 refine Xb (wpAny_storeSet_of ho hd ?_ (fits_of_scanBound hb));obtain⟨g1,S1⟩:=SetI.put (b:=b) ho hex hd he hb hf ht;split
 .have pm:=relayAll_perm t1 es1 (VD es1.size)
  have ff:=relayAll_fits t1 es1 (VD es1.size);have tt:=ht.relay es1 (VD es1.size);generalize relayAll t1 es1 (VD es1.size)=Rl at pm ff tt|-
  obtain⟨es2,t3,gv⟩:=Rl;have sz:es2.size=es1.size:=by rw[<-Xq,pm.length_eq,Xq]
  have b2:es2.size<scanBound:=by rw[sz];exact hb
  refine Xb (hg _ _ _ (Xb (wpAny_storeSet_of g1 rfl ?_ (fits_of_scanBound b2))));obtain⟨_,S2⟩:=SetI.put (b:=b) g1 hex rfl (he.perm pm) b2 ff tt;exact Xl (q _ _ ((QK s.heap S _).trans (QK _ S _)) S2 (pm.map _))
 .exact Xl (q _ _ (QK s.heap S _) S1 (.refl _))
def Yeq{S:YG}{ks:List Int}{k:Int}{u:Tok}{Q:Bool->Xf->Prop}(hS:SetI prog w b s.heap S ks)(hr:ks.length+1<scanBound)
  (q:∀v h' tk ks',JQ S s.heap h'->SetI prog w b h' S ks'->(k∈ks->ks'=ks)->(k∉ks->ks'.Perm (ks++[k]))->Q v { s with heap:=h',toks:=tk }):Xz (X4 prog w) A (setAdd S (.int k u)) Q E s:=by
 have hS0:=hS;obtain⟨o,es,ep,t,ho,hex,hd,he,hb,hf,ht,rfl⟩:=hS;unfold setAdd;refine JR (Xb ((Vv prog w).pyHash (k:=k) (intKind_is _ _ _ _) ?_));show Xz _ _ (setAddHashed S (.int k u) ((Vv prog w).hash k)) Q E { s with toks:=s.toks+1 };unfold setAddHashed setAddHashedIn;refine JR (Xb (JG (s:={ s with toks:=s.toks+1 }) ho hd hf ?_));dsimp only;rw[byScan_of (x:=.int k u) rfl hb he,YM rfl];unfold setAddByScan;refine Xb (Xb (U5 (Xb (wpAny_setScan_of (s:={ s with toks:=s.toks+1 }) (intKind_is prog w k u) ho hd hf he ?_))));cases hx:List.findIdx? (λe=>(Vv prog w).is k e.2) es.toList with
 | some j=>
  dsimp only;obtain⟨hj,pj,_⟩:=List.findIdx?_eq_some_iff_getElem.mp hx;obtain⟨tj,ej⟩:=Ztl pj;have hk:k∈es.toList.map λe=>vI e.2:=XF.mpr ⟨_,Bl hj,by rw[ej];rfl⟩;exact Xl (Xl (q _ s.heap _ _ (Heap.SameBut.refl ..) hS0 (λ_=>rfl) λz=>YZ hk z))
 | none=>
  dsimp only;have hk:k∉es.toList.map λe=>vI e.2:=λz=>by
   obtain⟨e,m,ev⟩:=XF.mp z;obtain⟨⟨k',i1,_⟩,_⟩:=he e m;obtain⟨t',e2⟩:=Ztl i1;have:=List.findIdx?_eq_none_iff.mp hx e m;rw[e2]at this ev;cases ev;have z2:(Vv prog w).is k' (.int k' t')=YF:=this;rw[intKind_is]at z2;cases z2
  have gw:∀(c:Bool) {s₁:Xf} {Q':Unit->Xf->Prop},Q' () s₁->Xz (X4 prog w) A (match c with|true=>rule "set.scan.the-table-gave-way"|false=>pure ()) Q' E s₁:=λc s₁ Q' z=>by
   cases c<;>first|exact Xl z|exact U5 z
  have pm:=layNew_perm t es ((Vv prog w).hash k) (.int k u);have ff:=layNew_fits t es ((Vv prog w).hash k) (.int k u);have tt:=ht.lay es ((Vv prog w).hash k) (.int k u);generalize layNew t es ((Vv prog w).hash k) (.int k u)=Ln at pm ff tt|-
  obtain⟨es1,t1,wd,gv⟩:=Ln;dsimp only at pm ff tt|-
  rw[Array.toList_push]at pm;have he1:ElemsOf (Vv prog w) es1.toList:=(he.push (intKind_is prog w k u) rfl).perm pm;have hb1:es1.size<scanBound:=by
   rw[<-Xq,pm.length_eq,Xv];rw[Xd]at hr;exact hr
  refine Xb (gw _ ?_);have fin:∀h' ks',JQ S s.heap h'->SetI prog w b h' S ks'->ks'.Perm (es1.toList.map λe=>vI e.2)->Xz (X4 prog w) A (pure YD) Q E { s with heap:=h',toks:=s.toks+1 }:=λh' ks' sb S' p'=>Xl (q _ h' _ ks' sb S' (λz=>YZ z hk) λ_=>p'.trans (by
   have:=pm.map (λe:Int×Xe=>vI e.2);rw[Qx]at this;exact this))
  have hv:hashByValue 8 (.int k u)=pure YD:=hashByValue_scannable 8 (x:=.int k u) rfl;split
  .refine Xb ?_
   rw[hv];refine Xl ?_;simp only[if_true];exact Zy7 (s:={ s with toks:=s.toks+1 }) (by intro c s₁ Q' z;cases c<;>first|exact Xl z|exact U5 z) ho hex hd he1 hb1 ff tt λh' ks' sb S' p'=>fin h' ks' sb S' p'
  .refine Xb (Xl ?_)
   simp only[if_true];exact Zy7 (s:={ s with toks:=s.toks+1 }) (by intro c s₁ Q' z;cases c<;>first|exact Xl z|exact U5 z) ho hex hd he1 hb1 ff tt λh' ks' sb S' p'=>fin h' ks' sb S' p'
end
def byT(w:Qo):Bool:=w.params.followText "set-order"
def OfL(ks ns:List Y):Prop:=ks.Nodup/\∀x,x∈ks↔x∈ns
theorem OfL.add[DecidableEq Y]{ks ks2 ns:List Y}{k:Y}(h:OfL ks ns)(c1:k∈ks->ks2=ks)(c2:k∉ks->ks2.Perm (ks++[k])):OfL ks2 (ns++[k])/\ks2.length<=ks.length+1:=by
 by_cases c:k∈ks
 .rw[c1 c]
  refine⟨⟨h.1,λx=>?_⟩,Nat.le_succ _⟩;rw[Qp,<-h.2,Xp];exact⟨.inl,λm=>m.elim id λe=>e▸c⟩
 .have pm:=c2 c
  refine⟨⟨pm.nodup_iff.mpr (Vw.mpr ⟨h.1,Qt.mpr ⟨(λz=>nomatch z),.nil⟩,λa ha y hy e=>c (by rw[<-Xp.mp hy,<-e];exact ha)⟩),λx=>?_⟩,by rw[pm.length_eq,Xv];exact XD _⟩;rw[pm.mem_iff,Qp,Qp,h.2]
abbrev Of(ks ns:List Int):Prop:=OfL ks ns
structure Ydh{τ:Type}(prog:X3)(w:Qo)(A:Qn)(S:YG)(T:YH->List τ->Prop)(h0:YH)(n:Nat)(Ok:Xe->τ->Prop):Prop where
 stay:∀h h' ks,T h ks->(∀o,h.get? S=YB o->h'.get? S=YB o)->T h' ks
 add:∀(s:Xf) (E:Xe->Xf->Prop) (v:Xe) (k:τ) (ks:List τ) (Q:Bool->Xf->Prop),Ok v k->(∀b o,b<S->h0.get? b=YB o->s.heap.get? b=YB o)->T s.heap ks->ks.length<n->(∀c h' tk ks',JQ S s.heap h'->T h' ks'->(k∈ks->ks'=ks)->(k∉ks->ks'.Perm (ks++[k]))->Q c { s with heap:=h',toks:=tk })->Xz (X4 prog w) A (setAdd S v) Q E s
section
variable {prog:X3}{w:Qo}{A:Qn}{R:Result->Xf->Prop}{I S:YG}{fp wr:List YG}{n:Nat}{Pv:Nat->Xe->Prop}{St:Nat->YH->Prop}{τ:Type}{T:YH->List τ->Prop}{h0:YH}{Ok:Xe->τ->Prop}
theorem Z6m[DecidableEq τ](W:Walks prog w A.in1 I fp wr n Pv St)(D:Ydh prog w A.in1 S T h0 n Ok)(sf:S∉fp)(zw:∀b∈wr,S<b)(ns:List τ)(ln:ns.length=n)(hv:∀i v,Pv i v->∃k,ns[i]? =YB k/\Ok v k) :
  ∀(m i:Nat) (s:Xf) (ks:List τ),n-i=m->i<=n->St i s.heap->T s.heap ks->(∀b o,b<S->h0.get? b=YB o->s.heap.get? b=YB o)->OfL ks (ns.take i)->ks.length<=i ->
  (∀ h' tk ks',T h' ks'->OfL ks' ns->(∀b o,b<S->h0.get? b=YB o->h'.get? b=YB o)->R (.ok (.ret .none)) { s with heap:=h',toks:=tk }) ->
  codeAny (X4 prog w) A (.builtin "set.update.loop" ⟨[.ref S,.ref I],[]⟩) R s:=by
 have sw:S∉wr:=λh=>sf (W.sub _ h);have lw:∀b,b<S->b∉wr:=λb l m=>Nat.lt_asymm l (zw b m);intro m
 induction m with
 | zero=>
  intro i s ks em ei st hS hG hO lk r;have en:i=n:=by omega
  refine Vk F.entry_set_update_loop ?_;rw[Vc F.plain_set_update_loop _];show Xz _ A.in1 (UJ (.ref I)>>=_) _ _ _;refine Xb (W.done s _ _ (en▸st) λh' tk kp=>?_);show Xz _ A.in1 (ret QD) _ _ { s with heap:=h',toks:=tk };rw[List.take_of_length_le (!0)]at hO;exact Xl (r h' tk ks (D.stay _ _ _ hS λo e=>kp S o sw e) hO λb o l e=>kp b o (lw b l) (hG b o l e))
 | succ m ih=>
  intro i s ks em ei st hS hG hO lk r;have lt:i<n:=by omega
  refine Vk F.entry_set_update_loop ?_;rw[Vc F.plain_set_update_loop _];show Xz _ A.in1 (UJ (.ref I)>>=_) _ _ _;refine Xb (W.item i s _ _ lt st λv h' tk pv st' kp=>?_);obtain⟨k,ek,ok⟩:=hv i v pv;show Xz _ A.in1 (holding [v] (setAdd S v)>>=_) _ _ { s with heap:=h',toks:=tk };have hG':∀b o,b<S->h0.get? b=YB o->h'.get? b=YB o:=λb o l e=>kp b o (lw b l) (hG b o l e);refine Xb (JR (D.add { s with heap:=h',toks:=tk } _ v k ks _ ok hG' (D.stay _ _ _ hS λo e=>kp S o sw e) (!0) λv h2 tk2 ks2 sb hS2 c1 c2=>?_));have k2:∀b o,b≠S->h'.get? b=YB o->h2.get? b=YB o:=λb o nS e=>by rw[sb.2 b nS];exact e
  have et:ns.take (i+1)=ns.take i++[k]:=by rw[List.take_succ,ek];rfl
  obtain⟨O2,l2⟩:=hO.add c1 c2;rw[<-et]at O2;exact Xl ⟨UW F.plain_set_update_loop _,ih (i+1) _ ks2 (!0) lt (W.frame _ _ _ st' λb bf o e=>k2 b o (λh:b=S=>sf (by rw[<-h];exact bf)) e) hS2 (λb o l e=>k2 b o (Xr l) (hG' b o l e)) O2 (!0) r⟩
end
section
variable {prog:X3}{w:Qo}{A:Qn}{E:Xe->Xf->Prop}{s:Xf}
theorem Ye8(a:Xe){Q₁:Xe->Xf->Prop}(h:Q₁ (.ref s.heap.objs.size) { s with heap:=s.heap.push { cls:=.type "set",dict:=YC,data:=.set #[] 0 (.fresh 0 0 (!byT w)) } }) :
  codeAny (X4 prog w) A (.call (.builtin "set.__new__") ⟨[.type "set",a],[]⟩) (wants Q₁ E) s:=by
 refine codeAny_of_tree ?_;show Xz _ A.in1 (do checkBuiltinCall "set.__new__" ⟨[.type "set",a],[]⟩;again (.builtin "set.__new__" ⟨[.type "set",a],[]⟩)) _ _ s;refine Xb (wpAny_of_eq (F.newCall_set_1 a) (Xl ⟨UW F.plain_set_new _,Vk F.entry_set_new ?_⟩));rw[Vc F.plain_set_new _];unfold BJ.«set.__new__» Builtin.Frozenset.newClass;have hsub:=sub_set_self;obtain⟨hp,g,d,tk,os⟩:=s;dsimp only
 wp_walk
 refine wpAny_askSetting (Xl ?_);dsimp only;simp only[newObj];exact Xb (wpAny_alloc (Xl (Xl h)))
theorem Yaz{τ:Type}[DecidableEq τ]{T:YH->List τ->Prop}{Ok:Xe->τ->Prop}{its:Array Xe}{ns:List τ}{b:Bool}(hh:A.handled=YC)(hl:s.heap.IsList l its)(ln:ns.length=its.size)(D:∀A':Qn,A'.units=A.units+1->Ydh prog w A' s.heap.objs.size T s.heap its.size Ok)(emp:∀h',h'.get? s.heap.objs.size=YB { cls:=.type "set",dict:=YC,data:=.set #[] 0 (.fresh 0 0 b) }->T h' [])(hv:∀(i:Nat) (v:Xe),its[i]? =YB v->∃k,ns[i]? =YB k/\Ok v k)
  (q:∀h' tk ks,T h' ks->OfL ks ns->(∀b o,b<s.heap.objs.size->s.heap.get? b=YB o->h'.get? b=YB o)->Q .none { s with heap:=h',toks:=tk }) :
  Xz (X4 prog w) A (BJ.«set.__init__» ⟨[Xy s.heap.objs.size,Xy l],[]⟩) (λfin s'=>∃v,fin= .done (.ret v)/\Q v s') E { s with heap:=s.heap.push { cls:=.type "set",dict:=YC,data:=.set #[] 0 (.fresh 0 0 b) } }:=by
 obtain⟨ol,hol,hcl,nl,hdl⟩:=id hl;obtain⟨ocls,odict,odata,oslots⟩:=ol;simp only at hcl hdl;subst hcl hdl;have ho':(s.heap.push { cls:=.type "set",dict:=YC,data:=.set #[] 0 (.fresh 0 0 b) }).get? l=YB { cls:=.type "list",dict:=odict,data:=.seq its nl,slots:=oslots }:=Xg _ hol;have gS:(s.heap.push { cls:=.type "set",dict:=YC,data:=.set #[] 0 (.fresh 0 0 b) }).get? s.heap.objs.size=YB { cls:=.type "set",dict:=YC,data:=.set #[] 0 (.fresh 0 0 b) }:=XQ _ rfl;have hT:Shared.TypeIs { s with heap:=s.heap.push { cls:=.type "set",dict:=YC,data:=.set #[] 0 (.fresh 0 0 b) } } (.ref s.heap.objs.size) "set" :=⟨_,gS,rfl⟩;have h1:=F.sub_list_set;have h2:=F.sub_list_frozenset;have h3:(Value.type "list"==Value.type "dict")=YF:=by decide
 have hl1:(s.heap.push { cls:=.type "set",dict:=YC,data:=.set #[] 0 (.fresh 0 0 b) }).IsList l its:=⟨_,ho',rfl,nl,rfl⟩;unfold BJ.«set.__init__» noKeywords Builtin.Frozenset.updateFrom;generalize hPI:pyIter=PI
 wp_walk
 subst hPI;refine wpAny_pyIter_list hl1 (Xb (wpAny_runValue ?_));have lS:l<s.heap.objs.size:=XH hol;refine Z6m (Walks.list (by simpa using hh) _ l ?hne its) (D _ rfl) ?sf ?zw ns ln hv its.size 0 _ [] (!0) (QJ _) ⟨⟨_,XQ _ rfl,rfl,rfl⟩,hl1.push _⟩ (emp _ (Xg _ gS)) (λb o _ e=>Xg _ (Xg _ e)) ⟨.nil,λx=>by rw[List.take_zero]⟩ (XD _) λh' tk ks hS hO kp=>?_
 case hne=>rw[QS];exact Xr (Bw lS)
 case sf=>
  rw[QS];intro m;rcases Xn.mp m with e|m
  .exact Xr (QQ _) e
  .exact X5 lS (Xp.mp m)
 case zw=>
  rw[QS];exact λb m=>Xp.mp m▸QQ _
 refine Xl ?_;show Xz _ _ (ret QD) _ _ { s with heap:=h',toks:=tk };exact Xl ⟨_,rfl,q h' tk ks hS hO kp⟩
theorem Zkt{τ:Type}[DecidableEq τ]{T:YH->List τ->Prop}{Ok:Xe->τ->Prop}{its:Array Xe}{ns:List τ}(hh:A.handled=YC)(hl:s.heap.IsList l its)(ln:ns.length=its.size)(D:∀A':Qn,A'.units<=A.units+24->Ydh prog w A' s.heap.objs.size T s.heap its.size Ok)(emp:∀h',h'.get? s.heap.objs.size=YB { cls:=.type "set",dict:=YC,data:=.set #[] 0 (.fresh 0 0 (!byT w)) }->T h' [])(hv:∀(i:Nat) (v:Xe),its[i]? =YB v->∃k,ns[i]? =YB k/\Ok v k)
  (q:∀h' tk ks,T h' ks->OfL ks ns->(∀b o,b<s.heap.objs.size->s.heap.get? b=YB o->h'.get? b=YB o)->Q (Xy s.heap.objs.size) { s with heap:=h',toks:=tk }) :
  Xz (X4 prog w) A (call (.type "set") [Xy l]) Q E s:=by
 obtain⟨c,tl,e0⟩:=Us.mro;have e1:=Us.made;have e2:=Us.sub;refine wpAny_call (codeAny_of_tree ?_);show Xz _ _ (callAny (.type "set") _) _ _ _;refine Xl ⟨Code.quiet_builtin _ (by decide +kernel),Vk F.entry_type_call ?_⟩;rw[Qn.under_plain (weight_type_call_type "set" [Xy l] []) rfl];have e3:=Us.notType;have e4:=Us.canCreate;have e5:=F.typeCall_set_1 (Xy l)
 repeat any_goals first|assumption|wp_step
 refine codeAny_mono (Ye8 (Xy l) (E:=E) (Q₁:=λobj s1=>obj=Xy s.heap.objs.size/\s1={ s with heap:=s.heap.push { cls:=.type "set",dict:=YC,data:=.set #[] 0 (.fresh 0 0 (!byT w)) } }) ⟨rfl,rfl⟩) λr s1 r1=>?_;cases r with
 | error e=>exact r1
 | ok fl=>
  cases fl with
  | ret obj=>
   obtain⟨rfl,rfl⟩:=r1;have gS:(s.heap.push { cls:=.type "set",dict:=YC,data:=.set #[] 0 (.fresh 0 0 (!byT w)) }).get? s.heap.objs.size=YB { cls:=.type "set",dict:=YC,data:=.set #[] 0 (.fresh 0 0 (!byT w)) }:=XQ _ rfl;have hT:Shared.TypeIs { s with heap:=s.heap.push { cls:=.type "set",dict:=YC,data:=.set #[] 0 (.fresh 0 0 (!byT w)) } } (Xy s.heap.objs.size) "set" :=⟨_,gS,rfl⟩;have e6:=Us.init.lookup;have e7:=Us.init.bind (Xy s.heap.objs.size)
   repeat any_goals first|assumption|wp_step
   refine codeAny_mono (codeAny_call_builtin (R:=wants (λr s2=>r= .none/\∃h' tk ks,s2={ s with heap:=h',toks:=tk }/\T h' ks/\OfL ks ns/\∀b o,b<s.heap.objs.size->s.heap.get? b=YB o->h'.get? b=YB o) E) Us.init.plain F.entry_set_init (check_set_init_1 hT ?_)) λr2 s2 hr2=>?_
   .refine QB (Yaz (T:=T) (Ok:=Ok) (by simpa using hh) hl ln (λA' e=>D A' (by rw[e];show _<=_;dsimp only;omega)) emp hv (Q:=λr s2=>r= .none/\∃h' tk ks,s2={ s with heap:=h',toks:=tk }/\T h' ks/\OfL ks ns/\∀b o,b<s.heap.objs.size->s.heap.get? b=YB o->h'.get? b=YB o) λh' tk ks a1 a2 a3=>⟨rfl,h',tk,ks,rfl,a1,a2,a3⟩) (λfin s' hf=>?_) λ_ _ x=>x
    obtain⟨v,rfl,hq⟩:=hf;exact hq
   .cases r2 with
    | error e=>exact hr2
    | ok fl2=>
     cases fl2 with
     | ret r=>
      obtain⟨rfl,h',tk,ks,rfl,a1,a2,a3⟩:=hr2
      repeat any_goals first|assumption|wp_step
      exact q h' tk ks a1 a2 a3
     | _=>exact hr2.elim
  | _=>exact r1.elim
def Zs8{its:Array Xe}(hh:A.handled=YC)(hl:s.heap.IsList l its)(ln:ns.length=its.size)(lb:its.size+1<scanBound)(hv:∀(i:Nat) (v:Xe),its[i]? =YB v->∃k t,v=Vt k t/\ns[i]? =YB k)
  (q:∀h' tk ks,SetI prog w (!byT w) h' s.heap.objs.size ks->Of ks ns->(∀b o,b<s.heap.objs.size->s.heap.get? b=YB o->h'.get? b=YB o)->Q (Xy s.heap.objs.size) { s with heap:=h',toks:=tk }) :
  Xz (X4 prog w) A (call (.type "set") [Xy l]) Q E s :=
 Zkt (T:=λh ks=>SetI prog w (!byT w) h s.heap.objs.size ks) (Ok:=λv k=>∃t,v=Vt k t) hh hl ln (λ_ _=>⟨λ_ _ _ h k=>h.stay k,λs' E v k ks Q ok _ hS hl r=>by
  obtain⟨t,rfl⟩:=ok;exact Yeq hS (!0) r⟩) (λh' e=>⟨_,#[],0,_,e,⟨rfl,rfl,rfl⟩,rfl,(λe m=>nomatch m),(!1),rfl,⟨rfl,λ_=>.nil⟩,rfl⟩) (λi v e=>by
  obtain⟨k,t,h1,h2⟩:=hv i v e;exact⟨k,h2,t,h1⟩) q
end
theorem Zm:Slot "set_iterator" "__next__" "set_iterator.__next__" :=
 .of (owner :="set_iterator") (n :="__next__") (by rw[typeLookup_type,builtinLookup_eq_fast];kernel_rfl) (by decide +kernel) (by decide +kernel) (by decide +kernel) (by first|exact .inl (by decide +kernel)|exact .inr (by decide +kernel)) (by rw[isSubtype_type];kernel_rfl)
def Wc:entryFor table "set_iterator.__next__"=YB BJ.«set_iterator.__next__»:=entryFor_of_fast (by kernel_rfl)
def Wl(a:Xe):argsOk "set_iterator.__next__" ⟨[a],[]⟩:=by unfold argsOk;kernel_rfl
def Ybs(h:YH)(I S:YG)(slot i n ep:Nat):Prop:=h.get? I=YB { cls:=.type "set_iterator",data:=.fields #[JP slot,JP i,.ref S,JP n,JP ep] }
def Zt8:∀{l:List Y} {i:Nat} (h:i<l.length),(l[i]::l.eraseIdx i).Perm l:=fun{l}=>by
 induction l with
 | nil=>intro i h;cases h
 | cons a l ih=>
  intro i h;cases i with
  | zero=>exact .refl _
  | succ i=>exact(List.Perm.swap ..).trans ((ih (V1 h)).cons a)
def Z3e(f:Nat->Nat):∀(fuel k:Nat) (left:List Y) (out:Array Y),left.length=fuel->(pickOrder.go f fuel k left out).toList.Perm (out.toList++left):=by
 intro fuel
 induction fuel with
 | zero=>
  intro k left out l;rw[List.length_eq_zero_iff.mp l,XX,pickOrder.go]
 | succ fuel ih=>
  intro k left out l;rw[pickOrder.go];have hlt:f k%left.length<left.length:=Nat.mod_lt _ (!0);rw[Xj hlt];dsimp only;refine(ih (k+1) _ _ (by rw[List.length_eraseIdx_of_lt hlt];omega)).trans ?_;rw[Array.toList_push,QF];exact List.Perm.append_left _ (Zt8 hlt)
def Zsq(f:Nat->Nat)(xs:Array Y):(pickOrder f xs).toList.Perm xs.toList:=by
 unfold pickOrder;have:=Z3e f xs.size 0 xs.toList #[] (by rw[Xq])
 rwa[List.nil_append]at this
section
variable {prog:X3}{w:Qo}{A:Qn}{E:Xe->Xf->Prop}{s:Xf}
def Zvg{src:Source}{n:Nat}{Q:Nat->Xf->Prop}(hn:n≠0)(h:∀i,i<n->Q i { s with drawn:=s.drawn.bump src }):Xz (X4 prog w) A (choose src n) Q E s:=fun Γ p _=>by
 show Sem.wp _ _ (.choose src n .pure) _ _ _ _;rw[Sem.wp_choose];exact⟨hn,h _ (Nat.mod_lt _ (Nat.pos_of_ne_zero hn))⟩
theorem Z3u:∀(n:Nat) (xs:List Y) (s:Xf) (Q:List Y->Xf->Prop),xs.length=n->(∀ys d,ys.Perm xs->Q ys { s with drawn:=d })->Xz (X4 prog w) A (drawOrder n xs) Q E s:=by
 intro n
 induction n with
 | zero=>
  intro xs s Q l q;rw[List.length_eq_zero_iff.mp l]at q|-
  exact Xl (q [] s.drawn (.refl _))
 | succ n ih=>
  intro xs s Q l q;cases xs with
  | nil=>cases l
  | cons a xs=>
   rw[drawOrder];refine Xb (Zvg (by rw[l];exact Nat.succ_ne_zero _) λi hi=>?_);rw[Xj hi];dsimp only;refine Xb (ih _ _ _ (by rw[List.length_eraseIdx_of_lt hi];omega) λys d pm=>Xl (q _ d ?_))
   .exact(pm.cons _).trans (Zt8 hi)
   .intro z;cases z
def Ze9(w:Qo)(S:YG)(ep:Nat)(es:Array (Int×Xe)):List Xe:=(if byT w then(pickOrder (w.params.setOrder S ep) es).toList else es.toList).map (·.2)
theorem Zdz{S:YG}{ep:Nat}{es:Array (Int×Xe)}:(Ze9 w S ep es).Perm (es.toList.map (·.2)):=by
 unfold Ze9;split
 .exact(Zsq _ es).map _
 .exact .refl _
def Ziw(w:Qo)(t:QM)(slot i:Nat):Prop:=byT w=YF->Qy t.place slot=i
theorem Zho{Q:Bool->Xf->Prop}(h:Q (byT w) s):Xz (X4 prog w) A setsByText Q E s:=by
 unfold setsByText;exact Xb (wpAny_askSetting (Xl h))
def Zir{S:YG}{es:Array (Int×Xe)}{ep slot:Nat}{t:QM}{Q:Option (Xe×Nat)->Xf->Prop}(ho:s.heap.get? S=YB o)(hd:o.data= .set es ep t)(hf:t.fits es.size=YD)(tb:Tb (!byT w) t)(hdr:byT w=YF->t.plain=YD\/es.size<=1)(hs:Ziw w t slot i)
  (q:∀r,(∀x,(Ze9 w S ep es)[i]? =YB x->∃nx,r=YB (x,nx)/\Ziw w t nx (i+1))->((Ze9 w S ep es)[i]? =YC->r=YC)->Q r s):Xz (X4 prog w) A (setNext S slot i ep) Q E s:=by
 unfold setNext;refine Xb (JG ho hd hf (Xb (Zho ?_)));cases hb:byT w with
 | true=>
  have ew:Ze9 w S ep es=(pickOrder (w.params.setOrder S ep) es).toList.map (·.2):=by unfold Ze9;rw[hb,YM rfl]
  simp only[if_true,bne_self_eq_false,XN,if_false];unfold setWalk;refine Xb (Xb (JG ho hd hf (Xb (Zho ?_))));rw[hb];simp only[if_true];refine Xb (wpAny_askSetting (Xl (Xl (q _ (λx hx=>?_) λhx=>?_))))
  .rw[ew,Xi,Qc]at hx
   show∃nx,Option.map _ (pickOrder (w.params.setOrder S ep) es)[i]? =_/\_;cases e:(pickOrder (w.params.setOrder S ep) es)[i]? with
   | none=>rw[e]at hx;cases hx
   | some y=>
    rw[e]at hx;cases hx;exact⟨slot,rfl,λz=>by rw[hb]at z;cases z⟩
  .rw[ew,Xi,Qc]at hx
   show Option.map _ (pickOrder (w.params.setOrder S ep) es)[i]? =_;cases e:(pickOrder (w.params.setOrder S ep) es)[i]? with
   | none=>rfl
   | some y=>rw[e]at hx;cases hx
 | false=>
  have ew:Ze9 w S ep es=es.toList.map (·.2):=by unfold Ze9;rw[hb];rfl
  have pl:=hdr hb;have le:=tb.led;rw[hb]at le;have bl:=hs hb;obtain⟨mask,place,dummies,finger,led,moves,plain⟩:=t;dsimp only at pl le bl;subst le;have sz0:place.size=es.size:=by
   unfold SetTable.fits at hf;rw[XJ,ZC]at hf;exact hf.1
  have up:Up place.toList:=by
   rcases pl with pl|pl
   .exact tb.up pl
   .have l1:place.toList.length<=1:=by rw[Xq,sz0];exact pl
    generalize place.toList=l at l1
    match l,l1 with
    | [],_=>exact .nil
    | [a],_=>exact UL _ _
  have dr:(!plain&&decide (es.size>1))=YF:=by
   rcases pl with pl|pl
   .rw[pl];rfl
   .rw[YT (!0),Bool.and_false]
  simp only[XN,if_false];show Xz _ _ (if(!plain&&decide (es.size>1))=YD then _ else _) _ _ _;rw[dr];simp only[XN,if_false];refine Xb (Xl ?_);have sz:place.size=es.size:=by
   unfold SetTable.fits at hf;rw[XJ,ZC]at hf;exact hf.1
  rw[bl];refine Xl (q _ (λx hx=>?_) λhx=>?_)
  .rw[ew,Xi,Qc]at hx
   cases e:es[i]? with
   | none=>rw[e]at hx;cases hx
   | some y=>
    rw[e]at hx;cases hx;have hi:i<place.size:=by rw[sz];exact(Vq.mp e).1
    have ep:place[i]? =YB place[i]:=QZ hi;rw[ep];exact⟨place[i]+1,rfl,λ_=>Zqk up (by rw[Qc];exact ep)⟩
  .rw[ew,Xi,Qc]at hx
   cases e:es[i]? with
   | none=>rfl
   | some y=>rw[e]at hx;cases hx
end
section
variable {prog:X3}{w:Qo}{A:Qn}{E:Xe->Xf->Prop}{s:Xf}
def Zql{S:YG}{es:Array (Int×Xe)}{ep slot:Nat}{t:QM}{x:Xe}{Q:Option Xe->Xf->Prop}(hI:Ybs s.heap I S slot i es.size ep)(ho:s.heap.get? S=YB o)(hd:o.data= .set es ep t)(hf:t.fits es.size=YD)(tb:Tb (!byT w) t)(hdr:byT w=YF->t.plain=YD\/es.size<=1)(hs:Ziw w t slot i)(hx:(Ze9 w S ep es)[i]? =YB x)
  (q:∀h' nx,Ybs h' I S nx (i+1) es.size ep->Ziw w t nx (i+1)->JQ I s.heap h'->Q (YB x) { s with heap:=h' }):Xz (X4 prog w) A (UJ (.ref I)) Q E s:=by
 have hT:s.TypeIs (.ref I) "set_iterator" :=⟨_,hI,rfl⟩;unfold UJ;refine Xb (wpAny_attempt (Ba (name:=Uj "__next__") hT Zm (JD Zm hT Wc ?_ (Wl _))));unfold BJ.«set_iterator.__next__» slotArgs fieldsOf;simp only[List.isEmpty_nil,Vl,XN,if_false,QH,bne_self_eq_false,pure_bind,bind_assoc];refine Xb (wpAny_load hI ?_);dsimp only;refine Xb (Xl ?_);show Xz _ _ (setEntries S>>=_) _ _ _;refine Xb (UG ho hd hf ?_);rw[show(((es.size:Nat):Int) !=((es.size:Nat):Int))=YF from bne_self_eq_false _];simp only[XN,if_false];show Xz _ _ (setNext S slot i ep>>=_) _ _ _;refine Xb (Zir ho hd hf tb hdr hs λr h1 _=>?_);obtain⟨nx,rfl,sk⟩:=h1 x hx;dsimp only;refine Xb (Q7 hI (by simp) λh2 g2 b2=>?_);refine Xb (Q7 g2 (by simp) λh3 g3 b3=>?_);exact Xl ⟨_,rfl,Xl (q h3 nx g3 sk (b2.trans b3))⟩
def Zrb{S:YG}{es:Array (Int×Xe)}{ep slot:Nat}{t:QM}{Q:Option Xe->Xf->Prop}(hh:A.handled=YC)(hI:Ybs s.heap I S slot i es.size ep)(ho:s.heap.get? S=YB o)(hd:o.data= .set es ep t)(hf:t.fits es.size=YD)(tb:Tb (!byT w) t)(hdr:byT w=YF->t.plain=YD\/es.size<=1)(hs:Ziw w t slot i)(hx:(Ze9 w S ep es)[i]? =YC)
  (q:∀h',Heap.ExtBut I s.heap h'->Q YC { s with heap:=h' }):Xz (X4 prog w) A (UJ (.ref I)) Q E s:=by
 have hT:s.TypeIs (.ref I) "set_iterator" :=⟨_,hI,rfl⟩;unfold UJ;refine Xb (wpAny_attempt (Ba (name:=Uj "__next__") hT Zm (JD Zm hT Wc ?_ (Wl _))));unfold BJ.«set_iterator.__next__» slotArgs fieldsOf;simp only[List.isEmpty_nil,Vl,XN,if_false,QH,bne_self_eq_false,pure_bind,bind_assoc];refine Xb (wpAny_load hI ?_);dsimp only;refine Xb (Xl ?_);show Xz _ _ (setEntries S>>=_) _ _ _;refine Xb (UG ho hd hf ?_);rw[show(((es.size:Nat):Int) !=((es.size:Nat):Int))=YF from bne_self_eq_false _];simp only[XN,if_false];show Xz _ _ (setNext S slot i ep>>=_) _ _ _;refine Xb (Zir ho hd hf tb hdr hs λr _ h2=>?_);rw[h2 hx];dsimp only;refine Xb (Q7 hI (by simp) λh3 g3 b3=>?_);show Xz _ _ (newExc (.type "StopIteration") []>>=_) _ _ _;refine Xb ?_;simp only[newExc,newTuple];refine Xb (JW ?_ (by size_fits));refine Xb (m:=firstArgMember _ _) (wpAny_of_eq (a:=QD) (by first|rfl|(simp only[firstArgMember];rfl)) ?_);refine JW ?_ (by size_fits);simp only[raiseNew];refine Xb (wpAny_handled ?_);rw[show A.in1.handled=YC from hh];refine Xb (Xl (wpAny_throw ?_));exact Xb (wpAny_isInstance (T :="StopIteration") (b:=YD) ⟨_,XQ _ rfl,rfl⟩ isSubtype_stop (Xl (q _ ((b3.extBut.push _).push _))))
end
def Yb6(h:YH)(I S T:YG)(i n ep:Nat):Prop:=h.get? I=YB { cls:=.type "set_iterator",data:=.fields #[.ref T,JP i,.ref S,JP n,JP ep] }
def Zti(ps:List Nat):Array Xe:=(ps.map λ(i:Nat)=>JP i).toArray
def Z2r{ps:List Nat}{p:Nat}(h:ps[i]? =YB p):(Zti ps)[i]? =YB (JP p):=by
 unfold Zti;rw[List.getElem?_toArray,Xi,h];rfl
def Zvj{ps:List Nat}(h:ps[i]? =YC):(Zti ps)[i]? =YC:=by
 unfold Zti;rw[List.getElem?_toArray,Xi,h];rfl
section
variable {prog:X3}{w:Qo}{A:Qn}{E:Xe->Xf->Prop}{s:Xf}
def Zqv{S T:YG}{es:Array (Int×Xe)}{ep p:Nat}{t:QM}{ps:List Nat}{x:Int×Xe}{Q:Option Xe->Xf->Prop}(hI:Yb6 s.heap I S T i es.size ep)(hT2:s.heap.get? T=YB { cls:=.type "tuple",data:=.seq (Zti ps) })(ho:s.heap.get? S=YB o)(hd:o.data= .set es ep t)(hf:t.fits es.size=YD)(hp:ps[i]? =YB p)(hx:es[p]? =YB x)
  (q:∀h',Yb6 h' I S T (i+1) es.size ep->JQ I s.heap h'->Q (YB x.2) { s with heap:=h' }):Xz (X4 prog w) A (UJ (.ref I)) Q E s:=by
 have hT:s.TypeIs (.ref I) "set_iterator" :=⟨_,hI,rfl⟩;unfold UJ;refine Xb (wpAny_attempt (Ba (name:=Uj "__next__") hT Zm (JD Zm hT Wc ?_ (Wl _))));unfold BJ.«set_iterator.__next__» slotArgs fieldsOf;simp only[List.isEmpty_nil,Vl,XN,if_false,QH,bne_self_eq_false,pure_bind,bind_assoc];refine Xb (wpAny_load hI ?_);dsimp only;refine Xb (Xl ?_);show Xz _ _ (setEntries S>>=_) _ _ _;refine Xb (UG ho hd hf ?_);rw[show(((es.size:Nat):Int) !=((es.size:Nat):Int))=YF from bne_self_eq_false _];simp only[XN,if_false];show Xz _ _ (seqItems? (.ref T)>>=_) _ _ _;refine Xb (Bj hT2 rfl ?_);dsimp only;rw[Bx,Z2r hp];show Xz _ _ (setNextDrawn S p ep>>=_) _ _ _;unfold setNextDrawn;refine Xb (Xb (JG ho hd hf ?_));dsimp only;rw[bne_self_eq_false];simp only[XN,if_false];rw[hx];refine Xl ?_;refine Xb (Q7 hI (by simp) λh2 g2 b2=>?_);exact Xl ⟨_,rfl,Xl (q h2 g2 b2)⟩
def Zru{S T:YG}{es:Array (Int×Xe)}{ep:Nat}{t:QM}{ps:List Nat}{Q:Option Xe->Xf->Prop}(hh:A.handled=YC)(hI:Yb6 s.heap I S T i es.size ep)(hT2:s.heap.get? T=YB { cls:=.type "tuple",data:=.seq (Zti ps) })(ho:s.heap.get? S=YB o)(hd:o.data= .set es ep t)(hf:t.fits es.size=YD)(hp:ps[i]? =YC)
  (q:∀h',Heap.ExtBut I s.heap h'->Q YC { s with heap:=h' }):Xz (X4 prog w) A (UJ (.ref I)) Q E s:=by
 have hT:s.TypeIs (.ref I) "set_iterator" :=⟨_,hI,rfl⟩;unfold UJ;refine Xb (wpAny_attempt (Ba (name:=Uj "__next__") hT Zm (JD Zm hT Wc ?_ (Wl _))));unfold BJ.«set_iterator.__next__» slotArgs fieldsOf;simp only[List.isEmpty_nil,Vl,XN,if_false,QH,bne_self_eq_false,pure_bind,bind_assoc];refine Xb (wpAny_load hI ?_);dsimp only;refine Xb (Xl ?_);show Xz _ _ (setEntries S>>=_) _ _ _;refine Xb (UG ho hd hf ?_);rw[show(((es.size:Nat):Int) !=((es.size:Nat):Int))=YF from bne_self_eq_false _];simp only[XN,if_false];show Xz _ _ (seqItems? (.ref T)>>=_) _ _ _;refine Xb (Bj hT2 rfl ?_);dsimp only;rw[Bx,Zvj hp];dsimp only;refine Xb (Q7 hI (by simp) λh2 g2 b2=>?_);refine Xb (Q7 g2 (by simp) λh3 g3 b3=>?_);show Xz _ _ (newExc (.type "StopIteration") []>>=_) _ _ _;refine Xb ?_;simp only[newExc,newTuple];refine Xb (JW ?_ (by size_fits));refine Xb (m:=firstArgMember _ _) (wpAny_of_eq (a:=QD) (by first|rfl|(simp only[firstArgMember];rfl)) ?_);refine JW ?_ (by size_fits);simp only[raiseNew];refine Xb (wpAny_handled ?_);rw[show A.in1.handled=YC from hh];refine Xb (Xl (wpAny_throw ?_));exact Xb (wpAny_isInstance (T :="StopIteration") (b:=YD) ⟨_,XQ _ rfl,rfl⟩ isSubtype_stop (Xl (q _ (((b2.trans b3).extBut.push _).push _))))
end
theorem Zh1:entryFor table "set.__iter__"=YB BJ.«frozenset.__iter__»:=entryFor_alias (id' :="frozenset.__iter__") (by kernel_rfl) rfl (by decide +kernel) (by kernel_rfl)
def Zbc:Slot "set_iterator" "__iter__" "set_iterator.__iter__" :=
 .of (owner :="set_iterator") (n :="__iter__") (by rw[typeLookup_type,builtinLookup_eq_fast];kernel_rfl) (by decide +kernel) (by decide +kernel) (by decide +kernel) (by first|exact .inl (by decide +kernel)|exact .inr (by decide +kernel)) (by rw[isSubtype_type];kernel_rfl)
def Zdy:entryFor table "set_iterator.__iter__"=YB BJ.«dict_keyiterator.__iter__»:=entryFor_alias (id' :="dict_keyiterator.__iter__") (by kernel_rfl) (by first|rfl|decide +kernel|(unfold String.splitOn;simp +decide [String.splitOnAux])) (by decide +kernel) (by kernel_rfl)
def Zfc(a:Xe):argsOk "set_iterator.__iter__" ⟨[a],[]⟩:=by unfold argsOk;kernel_rfl
section
variable {prog:X3}{w:Qo}{A:Qn}{E:Xe->Xf->Prop}{s:Xf}
def Zih{vs:Array Xe}(hI:s.heap.get? I=YB { cls:=.type "set_iterator",data:=.fields vs })(h:Q (.ref I) s):Xz (X4 prog w) A (pyIter (.ref I)) Q E s:=by
 have hT:s.TypeIs (.ref I) "set_iterator" :=⟨_,hI,rfl⟩;refine wpAny_pyIter_slot hT Zbc (JD Zbc hT Zdy ?_ (Zfc _));show Xz _ _ (ret (.ref I)) _ _ s;exact Xl ⟨_,rfl,"set_iterator",_,hT,Zm.lookup,h⟩
theorem Z6o{S:YG}{es:Array (Int×Xe)}{ep:Nat}{t:QM}(ho:s.heap.get? S=YB o)(hex:o.ExactSet)(hd:o.data= .set es ep t)(hf:t.fits es.size=YD)(hz:es.size<=1000)
  (q1:(byT w=YF->t.plain=YD\/es.size<=1)->Q (.ref s.heap.objs.size) { s with heap:=s.heap.push { cls:=.type "set_iterator",data:=.fields #[JP 0,JP 0,.ref S,JP es.size,JP ep] } })
  (q2:∀ps d,ps.Perm (XC es.size)->Q (.ref (s.heap.objs.size+1)) { s with heap:=(s.heap.push { cls:=.type "tuple",data:=.seq (Zti ps) }).push { cls:=.type "set_iterator",data:=.fields #[.ref s.heap.objs.size,JP 0,.ref S,JP es.size,JP ep] },drawn:=d }):Xz (X4 prog w) A (pyIter (.ref S)) Q E s:=by
 have hT:s.TypeIs (.ref S) "set" :=⟨o,ho,hex.1⟩;refine wpAny_pyIter_slot hT F.slot_set_iter (JD F.slot_set_iter hT Zh1 ?_ (F.args_set_iter_1 _));unfold BJ.«frozenset.__iter__» Builtin.Frozenset.slot0 slotArgs;simp only[List.isEmpty_nil,Vl,XN,if_false,QH,bne_self_eq_false,pure_bind,bind_assoc];unfold Builtin.Frozenset.addrOf Builtin.Frozenset.sizeOf setDrawn;refine Xb (Xl ?_);refine Xb (Xb (UG ho hd hf (Xl ?_)));refine Xb (Xb (JG ho hd hf (Xb (Zho (Xl ?_)))));show Xz _ _ (if(!byT w&&(!t.plain&&decide (es.size>1)))=YD then _ else _) _ _ _
 by_cases c:(!byT w&&(!t.plain&&decide (es.size>1)))=YD
 .rw[YM c]
  refine Xb (Z3u _ _ _ _ X6 λps d pm=>?_);refine Xb (wpAny_newTuple ?_ (by rw[Xd,pm.length_eq,X6,X8];omega));refine Xb (wpAny_setEpoch_of (Xg _ ho) hd hf ?_);have e:(s.heap.push { cls:=.type "tuple",data:=.seq (Zti ps) }).objs.size=s.heap.objs.size+1:=QS ..;refine Xb (JW (Xl ⟨_,rfl,"set_iterator",_,⟨_,XQ _ rfl,rfl⟩,Zm.lookup,?_⟩));have:=q2 ps d pm;rw[<-e]at this;exact this
 .rw[YQ c]
  refine Xb (wpAny_setEpoch_of ho hd hf ?_);refine Xb (JW (Xl ⟨_,rfl,"set_iterator",_,⟨_,XQ _ rfl,rfl⟩,Zm.lookup,q1 λhb=>?_⟩));rw[hb]at c;cases hp:t.plain with
  | true=>exact .inl rfl
  | false=>
   rw[hp]at c;exact .inr (Nat.le_of_not_lt λz=>c (by rw[YS z];rfl))
theorem Z8m(hh:A.handled=YC){S:YG}(ne:S≠I){es:Array (Int×Xe)}{ep:Nat}{t:QM}(hd:o.data= .set es ep t)(hf:t.fits es.size=YD)(tb:Tb (!byT w) t)(hdr:byT w=YF->t.plain=YD\/es.size<=1) :
  Walks prog w A I [I,S] [I] es.size (λi v=>(Ze9 w S ep es)[i]? =YB v) (λi h=>(∃slot,Ybs h I S slot i es.size ep/\Ziw w t slot i)/\h.get? S=YB o) where
 sub:=λb hb=>by rw[Xp.mp hb];exact .head _
 frame:=λi h h' st k=>by
  obtain⟨⟨slot,h1,h2⟩,h3⟩:=st;exact⟨⟨slot,k I (.head _) _ h1,h2⟩,k S (.tail _ (.head _)) _ h3⟩
 item:=λi s Q E hi st q=>by
  obtain⟨⟨slot,h1,h2⟩,h3⟩:=st;have hl:i<(Ze9 w S ep es).length:=by rw[Zdz.length_eq,Xd,Xq];exact hi
  have hx:=Xj hl;refine Zql h1 h3 hd hf tb hdr h2 hx λh' nx g1 g2 g3=>?_;exact q _ h' s.toks hx ⟨⟨nx,g1,g2⟩,g3.extBut _ _ ne h3⟩ λb o nb e=>g3.extBut _ _ (λz=>nb (Xp.mpr z)) e
 done:=λs Q E st q=>by
  obtain⟨⟨slot,h1,h2⟩,h3⟩:=st;refine Zrb hh h1 h3 hd hf tb hdr h2 (JN (by rw[Zdz.length_eq,Xd,Xq];exact XD _)) λh' g=>?_;exact q h' s.toks λb o nb e=>g _ _ (λz=>nb (Xp.mpr z)) e
 self:=λi s Q E st q=>by
  obtain⟨⟨slot,h1,h2⟩,h3⟩:=st;exact Zih h1 q
def Zj3(ps:List Nat)(es:Array (Int×Xe)):List Xe:=ps.filterMap λp=>es[p]?.map (·.2)
theorem Zk4{ps:List Nat}{es:Array (Int×Xe)}(pm:ps.Perm (XC es.size)):(Zj3 ps es).Perm (es.toList.map (·.2)):=by
 have e:Zj3 (XC es.size) es=es.toList.map (·.2):=by
  have h:=filterMap_getElem?_range es;unfold Zj3;rw[<-List.map_filterMap,h]
 rw[<-e];exact pm.filterMap _
def Z1q{ps:List Nat}{es:Array (Int×Xe)}(h:∀p∈ps,p<es.size):∀{i p:Nat},ps[i]? =YB p->∃x,es[p]? =YB x/\(Zj3 ps es)[i]? =YB x.2:=by
 induction ps with
 | nil=>intro i p e;cases e
 | cons a ps ih=>
  intro i p e;have ha:=h a (.head _);have ea:es[a]? =YB es[a]:=QZ ha;have ed:Zj3 (a::ps) es=es[a].2::Zj3 ps es:=by
   unfold Zj3;rw[VN,ea];rfl
  rw[ed];cases i with
  | zero=>
   cases e;exact⟨_,ea,rfl⟩
  | succ i=>exact ih (λp m=>h p (.tail _ m)) e
theorem Z5w(hh:A.handled=YC){S T:YG}(n1:S≠I)(n2:T≠I){es:Array (Int×Xe)}{ep:Nat}{t:QM}{ps:List Nat}(hd:o.data= .set es ep t)(hf:t.fits es.size=YD)(pm:ps.Perm (XC es.size)) :
  Walks prog w A I [I,S,T] [I] es.size (λi v=>(Zj3 ps es)[i]? =YB v) (λi h=>Yb6 h I S T i es.size ep/\h.get? S=YB o/\h.get? T=YB { cls:=.type "tuple",data:=.seq (Zti ps) }) where
 sub:=λb hb=>by rw[Xp.mp hb];exact .head _
 frame:=λi h h' st k=>⟨k I (.head _) _ st.1,k S (.tail _ (.head _)) _ st.2.1,k T (.tail _ (.tail _ (.head _))) _ st.2.2⟩
 item:=λi s Q E hi st q=>by
  have hl:i<ps.length:=by rw[pm.length_eq,X6];exact hi
  have hp:=Xj hl;obtain⟨x,h1,h2⟩:=Z1q (es:=es) (λp m=>Qj.mp (pm.mem_iff.mp m)) hp;refine Zqv st.1 st.2.2 st.2.1 hd hf hp h1 λh' g1 g3=>?_;exact q _ h' s.toks h2 ⟨g1,g3.extBut _ _ n1 st.2.1,g3.extBut _ _ n2 st.2.2⟩ λb o nb e=>g3.extBut _ _ (λz=>nb (Xp.mpr z)) e
 done:=λs Q E st q=>by
  refine Zru hh st.1 st.2.2 st.2.1 hd hf (JN (by rw[pm.length_eq,X6];exact XD _)) λh' g=>?_;exact q h' s.toks λb o nb e=>g _ _ (λz=>nb (Xp.mpr z)) e
 self:=λi s Q E st q=>Zih st.1 q
end
theorem Z4m:typeLookup (.type "set") "__len__"=pure (YB (.builtin "set.__len__")):=F.slot_set_len.lookup
section
variable {prog:X3}{w:Qo}{A:Qn}{E:Xe->Xf->Prop}{s:Xf}
theorem Zzd{S:YG}{Q:Bool->Xf->Prop}(ho:s.heap.get? S=YB o)(hex:o.ExactSet)(h:Q YF s):Xz (X4 prog w) A (Builtin.List.listLengthHint (.ref S)) Q E s:=by
 have hT:s.TypeIs (.ref S) "set" :=⟨o,ho,hex.1⟩;unfold Builtin.List.listLengthHint;refine Xb (wpAny_specialOf hT Z4m ?_);generalize hid:("set.__len__" : String)=id0
 (fail_if_success (clear hid id0))
 wp_delta
 rw[show splitId id0=YB ("set","__len__")from by subst hid;decide +kernel];subst hid;refine Xb (wpAny_isInstance (b:=YD) hT (by rw[isSubtype_type];kernel_rfl) ?_);simp only[Vl,XN,if_false];rw[YM (by decide +kernel)];refine Xb (wpAny_typeOf hT ?_);exact Xl h
theorem Zlm{N:YG}{fp:List YG}{n:Nat}{P:Nat->Xe->Prop}{St:Nat->YH->Prop}(W:Walks prog w A.in1 I fp wr n P St)(hn:n<=1000)(hN:N∉fp)(st:St 0 s.heap)(gN:s.heap.get? N=YB { cls:=.type "list",data:=.seq #[] 2 })
  (q:∀h' tk (acc:Array Xe) c,acc.size=n->(∀(j:Nat) v,acc[j]? =YB v->P j v)->h'.get? N=YB { cls:=.type "list",data:=.seq acc c }->(∀b o,b∉N::wr->s.heap.get? b=YB o->h'.get? b=YB o)->R (.ok (.ret (.ref N))) { s with heap:=h',toks:=tk }) :
  codeAny (X4 prog w) A (.builtin "list.extend.loop" ⟨[.ref N,.ref I,.ref N],[]⟩) R s:=by
 refine codeAny_extend_loopS W.toS (by rw[X8];omega) N hN (.ref N) n 0 s #[] 2 rfl (QJ _) st gN (ItemsOf.nil P) λs' acc c hm g it=>?_;obtain⟨h',g',d',tk',os'⟩:=s';have eg:g'=s.gens:=hm.gens;have ed:d'=s.drawn:=hm.drawn;have eo:os'=s.os:=hm.os;subst eg ed eo;exact q h' tk' acc c it.1 it.2 g hm.heap
theorem Zuc{N:YG}{Q:Unit->Xf->Prop}(gN:s.heap.get? N=YB { cls:=.type "list",data:=.seq #[] 0 })(q:∀h',h'.get? N=YB { cls:=.type "list",data:=.seq #[] 2 }->JQ N s.heap h'->Q () { s with heap:=h' }):Xz (X4 prog w) A (Builtin.List.listTouch (.ref N)) Q E s:=by
 unfold Builtin.List.listTouch;refine Xb (listUpdate_at gN rfl ?_ (by rw[X8];exact QJ _) (by rw[X8];exact Nat.le_of_ble_eq_true rfl));have g1:=Ub (c :="list") (n:=0) gN (·.push .none);refine listUpdate_at g1 rfl (q _ ?_ ((QK ..).trans (QK ..))) (by rw[X8];exact Nat.le_of_ble_eq_true rfl) (by rw[X8];exact QJ _);exact Ub (c :="list") g1 (·.pop)
end
section
variable {prog:X3}{w:Qo}{A:Qn}{E:Xe->Xf->Prop}{s:Xf}
theorem Zif{l:List Y}{acc:Array Y}(h:acc.size=l.length)(k:∀(j:Nat) v,acc[j]? =YB v->l[j]? =YB v):acc.toList=l:=by
 refine List.ext_getElem? λj=>?_;rw[Qc];cases e:acc[j]? with
 | some v=>exact(k j v e).symm
 | none=>
  have:=Array.getElem?_eq_none_iff.mp e;exact(JN (!0)).symm
theorem Zlu{S:YG}{es:Array (Int×Xe)}{ep:Nat}{t:QM}{Q:List Xe->Xf->Prop}(hh:A.handled=YC)(ho:s.heap.get? S=YB o)(hex:o.ExactSet)(hd:o.data= .set es ep t)(hf:t.fits es.size=YD)(tb:Tb (!byT w) t)(hz:es.size<=1000)
  (q:∀h' tk d acc,acc.Perm (es.toList.map (·.2))->s.heap.objs.size<=h'.objs.size->(∀b o,b<s.heap.objs.size->s.heap.get? b=YB o->h'.get? b=YB o)->Q acc { s with heap:=h',toks:=tk,drawn:=d }):Xz (X4 prog w) A (collect (.ref S)) Q E s:=by
 have lS:S<s.heap.objs.size:=XH ho;unfold collect;refine Xb (wpAny_runValue (Vk F.entry_proto_collect ?_));rw[Vc F.plain_proto_collect _];show Xz _ A.in1 (newList []>>= λl=>again (.builtin "list.__iadd__" ⟨[l,.ref S],[]⟩)) _ _ s;refine Xb (JW (Xl ⟨UW F.plain_list_iadd _,Vk F.entry_list_iadd ?_⟩));rw[Vc F.plain_list_iadd _];have g0:(s.heap.push { cls:=.type "list",data:=.seq ([]:List Xe).toArray }).get? s.heap.objs.size=YB { cls:=.type "list",data:=.seq #[] 0 }:=XQ _ rfl;have s0:(s.heap.push { cls:=.type "list",data:=.seq ([]:List Xe).toArray }).objs.size=s.heap.objs.size+1:=QS ..;have ho1:(s.heap.push { cls:=.type "list",data:=.seq ([]:List Xe).toArray }).get? S=YB o:=Xg _ ho;generalize hH:s.heap.push { cls:=.type "list",data:=.seq ([]:List Xe).toArray }=H1 at g0 s0 ho1|-
 have old:∀b o,s.heap.get? b=YB o->H1.get? b=YB o:=λb o e=>by rw[<-hH];exact Xg _ e
 show Xz _ A.in1 (Builtin.List.listExtendWith (.ref s.heap.objs.size) (.ref S) (.ref s.heap.objs.size)) _ _ { s with heap:=H1 };have hT1:Shared.TypeIs { s with heap:=H1 } (.ref S) "set" :=⟨o,ho1,hex.1⟩;have ns:Builtin.List.listSameRef (.ref s.heap.objs.size) (.ref S)=YF:=by simp[Builtin.List.listSameRef,X5 lS]
 unfold Builtin.List.listExtendWith;refine Xb (wpAny_typeOf hT1 ?_);rw[YQ (by rw[ns];decide)];refine Xb (Z6o (s:={ s with heap:=H1 }) ho1 hex hd hf hz (λhdr=>?_) λps d pm=>?_)
 .refine Xb (JR (Zzd (Xg _ ho1) hex ?_))
  rw[YM (by decide +kernel)];refine Xb (U5 (Xb (Zuc (Xg _ g0) λh2 g2 b2=>Xl ⟨UW F.plain_extend_loop _,?_⟩)));have gI:h2.get? H1.objs.size=YB { cls:=.type "set_iterator",data:=.fields #[JP 0,JP 0,.ref S,JP es.size,JP ep] }:=b2.extBut _ _ (by rw[s0];exact X5 (QQ _)) (XQ _ rfl);have gS:h2.get? S=YB o:=b2.extBut _ _ (Xr lS) (Xg _ ho1);refine Zlm (I:=H1.objs.size) (s:={ s with heap:=h2 }) (Z8m (S:=S) (by simpa using hh) (by rw[s0];exact Xr (Bw lS)) hd hf tb hdr) hz (λm=>?_) ⟨⟨0,gI,λhb=>?_⟩,gS⟩ g2 λh' tk acc c l1 l2 g k=>?_
  .rw[s0]at m
   rcases Xn.mp m with e|m
   .exact Xr (QQ _) e
   .exact X5 lS (Xp.mp m)
  .refine Zqh ?_
   rcases hdr hb with z|z
   .exact tb.up z
   .have sz:t.place.size=es.size:=by
     unfold SetTable.fits at hf;rw[XJ,ZC]at hf;exact hf.1
    have l1:t.place.toList.length<=1:=by rw[Xq,sz];exact z
    generalize t.place.toList=l at l1
    match l,l1 with
    | [],_=>exact .nil
    | [a],_=>exact UL _ _
  .have ea:acc.toList=Ze9 w S ep es:=Zif (by rw[l1,Zdz.length_eq,Xd,Xq]) l2
   show Xz _ A (load s.heap.objs.size>>=_) _ _ { s with heap:=h',toks:=tk };refine Xb (wpAny_load g (Xl (q h' tk s.drawn acc.toList (ea▸Zdz) (Vy (XH g)) λb o lb e=>k b o (λm=>?_) (b2.extBut _ _ (Xr lb) (Xg _ (old b o e))))));rcases Xn.mp m with z|m
   .exact Xr lb z
   .rw[Xp.mp m,s0]at lb
    exact JC _ (Nat.lt_of_succ_lt lb)
 .refine Xb (JR (Zzd (Xg _ (Xg _ ho1)) hex ?_))
  rw[YM (by decide +kernel)];refine Xb (U5 (Xb (Zuc (Xg _ (Xg _ g0)) λh2 g2 b2=>Xl ⟨UW F.plain_extend_loop _,?_⟩)));have s1:(H1.push { cls:=.type "tuple",data:=.seq (Zti ps) }).objs.size=s.heap.objs.size+1+1:=by rw[QS,s0]
  have gI:h2.get? (s.heap.objs.size+1+1)=YB { cls:=.type "set_iterator",data:=.fields #[.ref H1.objs.size,JP 0,.ref S,JP es.size,JP ep] }:=b2.extBut _ _ (X5 (Bw (QQ _))) (by rw[<-s1];exact XQ _ rfl);have gS:h2.get? S=YB o:=b2.extBut _ _ (Xr lS) (Xg _ (Xg _ ho1));have gT:h2.get? H1.objs.size=YB { cls:=.type "tuple",data:=.seq (Zti ps) }:=b2.extBut _ _ (by rw[s0];exact X5 (QQ _)) (Xg _ (XQ _ rfl));rw[show H1.objs.size+1=s.heap.objs.size+1+1 by rw[s0]];refine Zlm (I:=s.heap.objs.size+1+1) (s:={ s with heap:=h2,drawn:=d }) (Z5w (S:=S) (T:=H1.objs.size) (by simpa using hh) (Xr (Bw (Bw lS))) (by rw[s0];exact Xr (QQ _)) hd hf pm) hz (λm=>?_) ⟨gI,gS,gT⟩ g2 λh' tk acc c l1 l2 g k=>?_
  .rcases Xn.mp m with e|m
   .exact Xr (Bw (QQ _)) e
   rcases Xn.mp m with e|m
   .exact X5 lS e
   .have:=Xp.mp m
    rw[s0]at this;exact Xr (QQ _) this
  .have ea:acc.toList=Zj3 ps es:=Zif (by rw[l1,(Zk4 pm).length_eq,Xd,Xq]) l2
   show Xz _ A (load s.heap.objs.size>>=_) _ _ { s with heap:=h',toks:=tk,drawn:=d };refine Xb (wpAny_load g (Xl (q h' tk d acc.toList (ea▸Zk4 pm) (Vy (XH g)) λb o lb e=>k b o (λm=>?_) (b2.extBut _ _ (Xr lb) (Xg _ (Xg _ (old b o e)))))));rcases Xn.mp m with z|m
   .exact Xr lb z
   .rw[Xp.mp m]at lb
    exact JC _ (Nat.lt_of_succ_lt (Nat.lt_of_succ_lt lb))
end
def ints_of(h:∀v∈vs,∃k t,v= .int k t):Vb vs (vs.map vI):=by
 induction vs with
 | nil=>exact .nil
 | cons v vs ih=>
  obtain⟨k,t,rfl⟩:=h v (.head _);exact .cons k t (ih λu m=>h u (.tail _ m))
section
variable {prog:X3}{w:Qo}{A:Qn}{E:Xe->Xf->Prop}{s:Xf}
def Zym{S:YG}{ks:List Int}(hh:A.handled=YC)(hS:SetI prog w (!byT w) s.heap S ks)(h64:ks.length<64)
  (q:∀h' tk d L (out:List Xe) c,s.heap.objs.size<=L->h'.get? L=YB { cls:=.type "list",data:=.seq out.toArray c }->Vb out (Zch ks)->(∀b o,b<s.heap.objs.size->s.heap.get? b=YB o->h'.get? b=YB o)->Q (.ref L) { s with heap:=h',toks:=tk,drawn:=d }):Xz (X4 prog w) A (call (.builtin "sorted") [.ref S]) Q E s:=by
 obtain⟨o,es,ep,t,ho,hex,hd,he,hb,hf,tb,rfl⟩:=hS;rw[Xd,Xq]at h64;refine Calls.call_function_entry kind_sorted plain_sorted entry_sorted (args_sorted1 _) ?_;unfold BJ.«sorted»;refine Xb (m:=checkCount "sorted" 1 1 _) (Xl ?_);refine Xb (Zlu (by simpa using hh) ho hex hd hf tb (!0) λh1 tk d acc pm lN k1=>?_);have la:acc.length=es.size:=by rw[pm.length_eq,Xd,Xq]
 refine Xb (wpAny_newList ?_ (by rw[X8];omega));have ga:(h1.push (Bu "list" acc.toArray 0)).get? h1.objs.size=YB (Bu "list" acc.toArray 0):=XQ _ rfl;have ia:Vb acc (acc.map vI):=ints_of λv m=>by
  obtain⟨e,me,rfl⟩:=XF.mp (pm.mem_iff.mp m);obtain⟨⟨k,i1,_⟩,_⟩:=he e me;obtain⟨t',e2⟩:=Ztl i1;exact⟨k,t',e2⟩
 refine Xb (JR (JD slot_list_sort ⟨_,ga,rfl⟩ entry_list_sort (list_sort_tree ga ia (!0) λout ns' a1 a2 a3=>⟨_,rfl,?_⟩) (args_list_sort _)));have en:ns'=Zch (es.toList.map λe=>vI e.2):=Zbh (a2.trans (((pm.map vI).trans (by rw[Qq];exact .refl _)).trans (Za3 _).symm)) a3 (Zan _);subst en;have g1:=Ub (c :="list") ga (λ_=>(#[]:Array Xe));have g3:=Ub (c :="list") (Xg (Bu "list" #[] 0) (Xg (Bu "tuple" acc.toArray 0) g1)) (λ_=>out);refine Xl ⟨_,rfl,q _ tk d _ out.toList _ lN (by rw[Array.toArray_toList];exact g3) a1 λb o lb e=>?_⟩;have nb:b≠h1.objs.size:=Xr (Qi lb lN);exact(QK ..).extBut _ _ nb (Xg _ (Xg _ ((QK ..).extBut _ _ nb (Xg _ (k1 b o lb e)))))
end
theorem Inv.drawn{O:St}(I:Inv X pins O H s)(d:Drawn):Inv X pins O H { s with drawn:=d }:=by
 refine I.call (ch:=[]) (g':=s.gens) (d':=d) (t':=s.toks) ⟨λb o e _ _ _=>e,λb o e _ _ _=>⟨o.slots,e⟩,λb o e n _=>n,λb o e _=>⟨o,e⟩,λb ys e=>e,λb o u e=>e,λb ps e=>⟨#[],by rw[e];simp⟩⟩ (λb u e=>I.hok b u e) I.bare (λb hb=>nomatch hb)
def dnc:List Int->List Int
 | []=>[]
 | x::xs=>if x∈xs then dnc xs else x::dnc xs
theorem Zo0(ns:List Int):Of (dnc ns) ns:=by
 induction ns with
 | nil=>exact⟨.nil,λx=>.rfl⟩
 | cons a ns ih=>
  rw[dnc];split
  .rename_i c
   exact⟨ih.1,λx=>by rw[ih.2,Xn];exact⟨.inr,λm=>m.elim (λe=>e▸c) id⟩⟩
  .rename_i c
   exact⟨Qt.mpr ⟨λm=>c ((ih.2 a).mp m),ih.1⟩,λx=>by rw[Xn,Xn,ih.2]⟩
def Z1v(ns:List Int):(dnc ns).length<=ns.length:=by
 induction ns with
 | nil=>exact XD _
 | cons a ns ih=>
  rw[dnc];split
  .exact Nat.le_succ_of_le ih
  .exact Vn ih
def Z6i{ks:List Int}(h:Of ks ns):ks.length<=ns.length:=by
 have pm:ks.Perm (dnc ns):=(List.perm_ext_iff_of_nodup h.1 (Zo0 ns).1).mpr λx=>by rw[h.2,(Zo0 ns).2]
 rw[pm.length_eq];exact Z1v ns
def Zud{ks:List Int}(h:Of ks ns):Zch ks=Zch (dnc ns):=by
 have pm:ks.Perm (dnc ns):=(List.perm_ext_iff_of_nodup h.1 (Zo0 ns).1).mpr λx=>by rw[h.2,(Zo0 ns).2]
 exact Zbh ((Za3 ks).trans (pm.trans (Za3 _).symm)) (Zan _) (Zan _)
section
variable {X:Cx}{p c:Bool}{io:List Nat}{a e:YJ}{pos pos' pl pr:Pos}{t:TA}{mr:MAt}{ra:FA}
def tSS(K:Xc)(t:TA):TE:=λO H Q=>t O H λvs H1=>∃(l:YG) (ns:List Int),vs=[.ref l]/\SqL K H1 l (ns.map V.int)/\ns.length<64/\∀p,H1 p=YC->Q (.ref p) (upd H1 p (.lst ((Zch (dnc ns)).map V.int)))
def Zqp(hc:X.calm=YD)(hgl:Gl X "sorted")(hml:X.mg "sorted"=YC)(hvl:Qh "sorted"=YB (.builtin "sorted"))(hg:Gl X "set")(hm:X.mg "set"=YC)(hv:Qh "set"=YB (.type "set"))(ha:PA X [a] t)
  (he:Xo [a] X.env=(YF,eval a X.env)::Xo [] X.env:=by rfl) (hpl:(Q3 pos' (Xo [] X.env)).any (·.1)=YF:=by rfl)
  (he':Xo [.Call (.Name "set" pr) [a] [] pos'] X.env=(YF,eval (.Call (.Name "set" pr) [a] [] pos') X.env)::Xo [] X.env:=by rfl) (hpl':(Q3 pos (Xo [] X.env)).any (·.1)=YF:=by rfl) :
  PE X (.Call (.Name "sorted" pl) [.Call (.Name "set" pr) [a] [] pos'] [] pos) (tSS X.K t):=by
 intro pins s O H Q I h;refine Be (Zcc I hgl hml hvl ?_ (!1) (!1));refine Uy ?_ he' hpl';rw[he'];show Xz _ _ (spliced ((YF,eval (.Call (.Name "set" pr) [a] [] pos') X.env)::Q3 pos (Xo [] X.env))) _ _ s;have inner:Xz (X4 X.prog X.w) X.A (eval (.Call (.Name "set" pr) [a] [] pos') X.env) (λu s2=>∃(S:YG) (ks ns:List Int) (H1:Hp),u=Xy S/\SetI X.prog X.w (!byT X.w) s2.heap S ks/\Of ks ns/\ns.length<64/\Inv X pins O H1 s2/\∀p,H1 p=YC->Q (.ref p) (upd H1 p (.lst ((Zch (dnc ns)).map V.int)))) X.xe s:=by
  refine Be (Zcc I hg hm hv ?_ (!1) (!1));refine JH (thn (ha pos' pins s O H _ I h) λus s1 qz=>?_) he hpl;obtain⟨vs,H1,I1,r1,l,ns,rfl,hs,h64,q⟩:=qz;obtain⟨u,rfl,ru⟩:=vals1 r1;cases(show u=Xy l from ru);obtain⟨its,rv,pl,hz⟩:=I1.list hs;obtain⟨ps,rfl,e2⟩:=Zib rv;have lp:ps.length=ns.length:=by rw[<-e2,Xd]
  refine Zs8 (its:=(ps.map λp=>Vt p.1 p.2).toArray) (ns:=ns) (I1.ok.hd hc) pl.isList (by simp[lp]) (by rw[XM,Xd];unfold scanBound;omega) (λi v ev=>?_) λh' tk ks a1 a2 a3=>?_
  .rw[List.getElem?_toArray,Xi]at ev
   cases ep:ps[i]? with
   | none=>rw[ep]at ev;cases ev
   | some p=>
    rw[ep]at ev;cases ev;exact⟨p.1,p.2,rfl,by rw[<-e2,Xi,ep];rfl⟩
  .exact⟨_,ks,ns,H1,rfl,a1,a2,h64,I1.kept (t':=tk) (λb u e=>a3 b u (XH e) e),q⟩
 refine Calls.spliced_cons (thn inner λu s2 qz=>?_);obtain⟨S,ks,ns,H1,rfl,hS,hO,h64,I2,q⟩:=qz;refine Calls.spliced_nil ?_;have lk:ks.length<=ns.length:=Z6i hO;refine Zym (I2.ok.hd hc) hS (!0) λh' tk d L out cc lN g io k=>?_;rw[Zud hO]at io;have ld:((Zch (dnc ns)).map V.int).length<=Xw:=by
  rw[Xd,<-Zud hO,(Za3 ks).length_eq,X8];omega
 refine⟨.ref L,_,(I2.laid (t':=tk) (o:=.lst ((Zch (dnc ns)).map V.int)) (λb ob e=>k b ob (XH e) e) lN ⟨ld,out,cc,Z7v io,g⟩).drawn d,rfl,q _ (I2.hok.fresh lN)⟩
def Znt(mr:MAt):MEt:=λδ K=>mr δ λrs δ'=>n1 (λd=>∃ns:List Int,d= .list (ns.map Xu)/\ns.length<64/\K (.nd (((Zch (dnc ns)).map Xu).map OT.fz)) δ') (OT.datas rs)
def Zu0(hc:X.calm=YD)(hgl:Gl X "sorted")(hml:X.mg "sorted"=YC)(hvl:Qh "sorted"=YB (.builtin "sorted"))(hg:Gl X "set")(hm:X.mg "set"=YC)(hv:Qh "set"=YB (.type "set"))(ha:MA X io p c [a] mr)
  (he:Xo [a] X.env=(YF,eval a X.env)::Xo [] X.env:=by rfl) (hpl:(Q3 pos' (Xo [] X.env)).any (·.1)=YF:=by rfl)
  (he':Xo [.Call (.Name "set" pr) [a] [] pos'] X.env=(YF,eval (.Call (.Name "set" pr) [a] [] pos') X.env)::Xo [] X.env:=by rfl) (hpl':(Q3 pos (Xo [] X.env)).any (·.1)=YF:=by rfl) :
  ME X io p YD (.Call (.Name "sorted" pl) [.Call (.Name "set" pr) [a] [] pos'] [] pos) (Znt mr):=by
 obtain⟨_,A,s⟩:=ha;refine⟨_,Zqp hc hgl hml hvl hg hm hv A he hpl he' hpl',λC H O δ fp ex K Q R h kk=>s C H O δ fp ex _ _ R h λH1 vs rs δ1 fp1 new r1 h1=>?_⟩;obtain⟨v,d,rfl,e2,q,ns,e,h64,h2⟩:=(r1.das R).one h1;subst e;obtain⟨l,rfl,hs⟩:=q.ints_sq;refine⟨l,ns,rfl,hs,h64,λp hp=>?_⟩;have sm:=Zw hp (.lst ((Zch (dnc ns)).map V.int));exact kk _ _ _ δ1 fp1 [p] (RE.tree R r1.base r1.stp sm (Zaw hp) (Zcd p) (Own.list hp (Das.ints _))) h2
def Zf9(a:FA):FE:=λδ=>(a δ).bind λq=>match OT.datas q.1 with|[.list es]=>(Zez es).bind λns=>if ns.length<64 then YB (.nd (((Zch (dnc ns)).map Xu).map OT.fz),q.2)else YC|_=>YC
def Zpp(h:ME X io p c e (Znt (o2 ra))):ME X io p c e (o2 (Zf9 ra)):=h.weak λδ K h=>by
 obtain⟨r,δ',h,k⟩:=h;obtain⟨⟨x,δ1⟩,h1,h⟩:=bs h;refine⟨x,δ1,h1,?_⟩;dsimp only at h|-
 split at h
 case h_2=>cases h
 rename_i es q;rw[q];obtain⟨ns,h2,h⟩:=bs h;split at h
 case isFalse=>cases h
 rename_i l64;cases h;exact⟨ns,by rw[Zbj h2],l64,k⟩
end
section
variable {κ:Type}[DecidableEq κ]
def Zpy(kvs:List (κ×V))(k:κ):Option V:=(kvs.find? λkv=>decide (kv.1=k)).map (·.2)
def putK(kvs:List (κ×V))(k:κ)(v:V):List (κ×V) :=
 if(kvs.any λkv=>decide (kv.1=k))=YD then kvs.map (λkv=>if kv.1=k then(kv.1,v)else kv)else kvs++[(k,v)]
def Zf7{p:κ×V}{r:List (κ×V)}{k:κ}(e:p.1=k):Zpy (p::r) k=YB p.2:=by simp[Zpy,Ux,e]
def Zf5{p:κ×V}{r:List (κ×V)}{k:κ}(e:¬p.1=k):Zpy (p::r) k=Zpy r k:=by simp[Zpy,Ux,e]
theorem Zns(k:κ):∀kvs:List (κ×V),(kvs.any λkv=>decide (kv.1=k))=(Zpy kvs k).isSome
 | []=>rfl
 | p::r=>by
  rw[Uu]
  by_cases e:p.1=k
  .simp only[Zf7 e,YS e,Bool.true_or,Option.isSome_some]
  .rw[Zf5 e,YT e,Bool.false_or];exact Zns k r
def Zdo(kvs:List (κ×V))(k:κ)(v:V):(putK kvs k v).length<=kvs.length+1:=by
 unfold putK;split
 .rw[Xd];omega
 .rw[Xv,Qd,QH];omega
def RelO.isSome_eq{o:Option V}{u:Option Xe}(r:RelO o u):o.isSome=u.isSome:=by
 cases o with
 | none=>cases u with
  | none=>rfl
  | some _=>exact(show False from r).elim
 | some _=>cases u with
  | none=>exact(show False from r).elim
  | some _=>rfl
def RelO.getD{o:Option V}{u:Option Xe}{d:V}{d':Xe}(r:RelO o u)(rd:RelV d d'):RelV (o.getD d) (u.getD d'):=by
 cases o with
 | none=>cases u with
  | none=>exact rd
  | some _=>exact(show False from r).elim
 | some _=>cases u with
  | none=>exact(show False from r).elim
  | some _=>exact r
def KV.val{kvs:List (κ×V)}{vs:List (κ×Xe)}(r:KV kvs vs)(k:κ):RelO (Zpy kvs k) (valueAt vs k):=by
 unfold KV at r
 induction r with
 | nil=>exact VR
 | @cons p q ps qs h t ih=>
  obtain⟨h1,h2⟩:=h
  by_cases e:p.1=k
  .have e':q.1=k:=h1.symm.trans e
   have b:valueAt (q::qs) k=YB q.2:=by simp[valueAt,Ux,e']
   rw[Zf7 e,b];exact h2
  .have e':¬q.1=k:=λz=>e (h1.trans z)
   have b:valueAt (q::qs) k=valueAt qs k:=by simp[valueAt,Ux,e']
   rw[Zf5 e,b];exact ih
def KV.any{kvs:List (κ×V)}{vs:List (κ×Xe)}(r:KV kvs vs)(k:κ):(kvs.any λkv=>decide (kv.1=k))=vs.any λkv=>decide (kv.1=k):=by
 unfold KV at r
 induction r with
 | nil=>rfl
 | cons h t ih=>rw[Uu,Uu,ih,h.1]
def KV.repl{kvs:List (κ×V)}{vs:List (κ×Xe)}(r:KV kvs vs)(k:κ){y:V}(ry:RelV y u) :
  KV (kvs.map λkv=>if kv.1=k then(kv.1,y)else kv) (vs.map λkv=>if kv.1=k then(kv.1,u)else kv):=by
 unfold KV at r|-
 induction r with
 | nil=>exact .nil
 | @cons p q ps qs h t ih=>
  rw[X7,X7];refine .cons ?_ ih;obtain⟨h1,h2⟩:=h
  by_cases e:p.1=k
  .rw[YM e,YM (h1.symm.trans e)];exact⟨h1,ry⟩
  .rw[YQ e,YQ (λz=>e (h1.trans z))];exact⟨h1,h2⟩
theorem KV.put{kvs:List (κ×V)}{vs:List (κ×Xe)}(r:KV kvs vs)(k:κ){y:V}(ry:RelV y u):KV (putK kvs k y) (stored vs k u):=by
 unfold putK stored;rw[r.any k]
 by_cases e:(vs.any λkv=>decide (kv.1=k))=YD
 .rw[YM e,YM e];exact r.repl k ry
 .rw[YQ e,YQ e];exact Paired.snoc r ⟨rfl,ry⟩
theorem KV.length{kvs:List (κ×V)}{vs:List (κ×Xe)}(r:KV kvs vs):kvs.length=vs.length:=Paired.length r
end
def Zsa{P:X3}{w:Qo}{k:Key}{u:Xe}(r:RelV (kV k) u):(Wr P w).is k u=YD:=by
 cases k with
 | inl i=>obtain⟨t,e⟩:=(show∃t,u=Vt i t from r);subst e;exact Znd P w i t
 | inr x=>obtain⟨t,e⟩:=(show∃t,u=Value.str x t from r);subst e;exact Zms P w x t
theorem Zl5:∀{ks:List Key} {us:List Xe},Vals (ks.map kV) us->ItemsAre (Wr P w) ks us
 | [],_,r=>by rw[List.map_nil]at r;cases r;exact .nil
 | k::ks,_,r=>by
  rw[X7]at r;cases r with
  | cons h t=>exact .cons (Zsa h) (Zl5 t)
abbrev KT(H:Hp):List (List Key×V)->List (List Key×YG×Xe)->Prop:=Paired λp q=>p.1=q.1/\H q.2.1=YB (.tup (p.1.map kV))/\RelV p.2 q.2.2
end L2
variable {S:YG}{xs:List (List Key×YG×Xe)}{ep slot:Nat}{τ:Type}
namespace L2
open PySem PySem.Spec PyProof.Rows
def KT.val{kvs:List (List Key×V)}(r:KT H kvs xs)(k:List Key):RelO (Zpy kvs k) ((atKey xs k).map (·.2)):=by
 induction r with
 | nil=>exact VR
 | @cons p q ps qs h t ih=>
  obtain⟨h1,_,h2⟩:=h
  by_cases e:p.1=k
  .have e':q.1=k:=h1.symm.trans e
   have b:atKey (q::qs) k=YB q.2:=by simp[atKey,Ux,e']
   rw[Zf7 e,b];exact h2
  .have e':¬q.1=k:=λz=>e (h1.trans z)
   have b:atKey (q::qs) k=atKey qs k:=by simp[atKey,Ux,e']
   rw[Zf5 e,b];exact ih
def KT.repl{kvs:List (List Key×V)}(r:KT H kvs xs)(k:List Key){y:V}(ry:RelV y u) :
  KT H (kvs.map λkv=>if kv.1=k then(kv.1,y)else kv) (xs.map (putAt k u)):=by
 induction r with
 | nil=>exact .nil
 | @cons p q ps qs h t ih=>
  rw[X7,X7];refine .cons ?_ ih;obtain⟨h1,h2,h3⟩:=h;unfold putAt
  by_cases e:p.1=k
  .rw[YM e,YM (h1.symm.trans e)];exact⟨h1,h2,ry⟩
  .rw[YQ e,YQ (λz=>e (h1.trans z))];exact⟨h1,h2,h3⟩
theorem KT.put{kvs:List (List Key×V)}(r:KT H kvs xs)(k:List Key){b:YG}{y:V}(hb:H b=YB (.tup (k.map kV)))(ry:RelV y u) :
  KT H (putK kvs k y) (storedH xs k b u):=by
 have e:(kvs.any λkv=>decide (kv.1=k))=(atKey xs k).isSome:=by
  rw[Zns,(r.val k).isSome_eq,Option.isSome_map]
 unfold putK storedH;rw[e]
 by_cases q:(atKey xs k).isSome=YD
 .rw[YM q,YM q];exact r.repl k ry
 .rw[YQ q,YQ q];exact Paired.snoc r ⟨rfl,hb,ry⟩
def KT.keeps{kvs:List (List Key×V)}(r:KT H kvs xs)(ht:∀b ys,H b=YB (.tup ys)->H' b=YB (.tup ys)):KT H' kvs xs :=
 Paired.mapP r λ_ _ z=>⟨z.1,ht _ _ z.2.1,z.2.2⟩
section
variable {P:X3}{w:Qo}{H:Hp}{h:YH}{a:YG}
def Z60{u:HO}(ok:HOk P w H h)(e:Rd H a u):ObjOk P w H h a u:=e.ok ok
def Zux{kvs:List (Key×V)}(ok:HOk P w H h)(e:Rd H a (.dK kvs)):kvs.length<=Xw/\(a==Ur)=YF/\∃vs,KV kvs vs/\h.DictOf (Wr P w) a vs :=
 show ObjOk P w H h a (.dK kvs)from Z60 ok e
def Z8g{kvs:List (Key×V)}(ok:HOk P w H h)(e:H a=YB (.dK kvs)):kvs.length<=Xw/\(a==Ur)=YF/\∃vs,KV kvs vs/\h.DictOf (Wr P w) a vs:=Zux ok (.inl e)
def Zor{ks:List Key}(ok:HOk P w H h)(e:H a=YB (.tup (ks.map kV))):(tupleKind (Wr P w)).is h ks a:=by
 obtain⟨_,its,r,o,h1,h2,n,h3⟩:=(show ObjOk P w H h a (.tup (ks.map kV))from ok a _ e);exact⟨o,its.toArray,n,h1,h2,h3,by simpa using Zl5 r⟩
def Zw7{kvs:List (List Key×V)}(ok:HOk P w H h)(e:Rd H a (.dT kvs)):kvs.length<=Xw/\(a==Ur)=YF/\
  ∃xs,KT H kvs xs/\h.DictOfH (tupleKind (Wr P w)) a xs:=by
 obtain⟨z,y,xs,r,o,es,ep,h1,h2,h3,h4,h5⟩:=(show ObjOk P w H h a (.dT kvs)from Z60 ok e);refine⟨z,y,xs,r,o,es,ep,h1,h2,h3,h4,λx hx=>?_,h5⟩;have all:∀{l:List (List Key×V)} {m:List (List Key×YG×Xe)},KT H l m->∀x∈m,(tupleKind (Wr P w)).is h x.1 x.2.1:=by
  intro l m q
  induction q with
  | nil=>intro x hx;exact nomatch hx
  | @cons p q ps qs hq t ih=>
   intro x hx;rcases Xn.mp hx with e|hx
   .subst e
    exact Zor ok (by rw[<-hq.1];exact hq.2.1)
   .exact ih x hx
 exact all r x hx
def Yfo{kvs:List (List Key×V)}(ok:HOk P w H h)(e:H a=YB (.dT kvs)):kvs.length<=Xw/\(a==Ur)=YF/\
  ∃xs,KT H kvs xs/\h.DictOfH (tupleKind (Wr P w)) a xs:=Zw7 ok (.inl e)
end
def DGet(H:Hp)(a:YG)(y:V)(r:Option V):Prop :=
 (∃ kvs k,Rd H a (.dK kvs)/\y=kV k/\r=Zpy kvs k)\/∃kvs k b,Rd H a (.dT kvs)/\y= .ref b/\H b=YB (.tup (k.map kV))/\r=Zpy kvs k
def DPut(H:Hp)(a:YG)(y v:V)(H':Hp):Prop :=
 (∃ kvs k,H a=YB (.dK kvs)/\y=kV k/\kvs.length<Xw/\H'=upd H a (.dK (putK kvs k v)))\/
 ∃kvs k b,H a=YB (.dT kvs)/\y= .ref b/\H b=YB (.tup (k.map kV))/\kvs.length<Xw/\H'=upd H a (.dT (putK kvs k v))
theorem DGet.k{H:Hp}{a:YG}{kvs:List (Key×V)}{k:Key}(e:H a=YB (.dK kvs)):DGet H a (kV k) (Zpy kvs k):=.inl ⟨kvs,k,.inl e,rfl,rfl⟩
theorem DGet.t{H:Hp}{a b:YG}{kvs:List (List Key×V)}{k:List Key}(e:H a=YB (.dT kvs))(eb:H b=YB (.tup (k.map kV))):DGet H a (.ref b) (Zpy kvs k):=.inr ⟨kvs,k,b,.inl e,rfl,eb,rfl⟩
theorem DPut.k{H:Hp}{a:YG}{kvs:List (Key×V)}{k:Key}{v:V}(e:H a=YB (.dK kvs))(hl:kvs.length<Xw):DPut H a (kV k) v (upd H a (.dK (putK kvs k v))):=.inl ⟨kvs,k,e,rfl,hl,rfl⟩
theorem DPut.t{H:Hp}{a b:YG}{kvs:List (List Key×V)}{k:List Key}{v:V}(e:H a=YB (.dT kvs))(eb:H b=YB (.tup (k.map kV)))(hl:kvs.length<Xw) :
  DPut H a (.ref b) v (upd H a (.dT (putK kvs k v))):=.inr ⟨kvs,k,b,e,rfl,eb,hl,rfl⟩
section
variable {X:Cx}{pins:List (YG×Obj)}{O:St}{H:Hp}{s:Xf}{a:YG}{y v:V}{u r:Xe}{o:Option V}{A:Qn}{E:Xe->Xf->Prop}
def Inv.big(I:Inv X pins O H s):Ur<s.heap.objs.size:=by
 have h:Qa<s.heap.objs.size:=(I.mod.glob.keeps I.bk).lt;exact Vd (!1) h
def Zre(hu:A.units+1<VB)(I:Inv X pins O H s)(g:DGet H a y (YB v))(ry:RelV y u)(h:∀w' s',Inv X pins O H s'->RelV v w'->Q w' s') :
  Xz (X4 X.prog X.w) A (getItem (.ref a) u) Q E s:=by
 rcases g with⟨kvs,k,e,ey,l⟩|⟨kvs,k,b,e,ey,eb,l⟩
 .subst ey
  obtain⟨z,hd,vs,rel,dd⟩:=Zux I.hok e;obtain⟨w',hw,rw'⟩:=RelO.some_of (v:=v) (o:=valueAt vs k) (by rw[l];exact rel.val k);exact wpAny_getItem_of (Zsa ry) dd.mapOf hw (h w' _ (I.tok _) rw')
 .subst ey
  cases(show u=Xy b from ry);obtain⟨z,hd,xs,rel,dd⟩:=Zw7 I.hok e;obtain⟨w',hw,rw'⟩:=RelO.some_of (v:=v) (o:=(atKey xs k).map (·.2)) (by rw[l];exact rel.val k);obtain⟨p,hp,hp2⟩:=Qe.mp hw;refine wpAny_getItem_heap (tupleKind_room_in1 hu) (Zor I.hok eb) dd hp ?_;rw[hp2];exact h w' _ (I.tok _) rw'
def Z2q(hu:A.units+1<VB)(I:Inv X pins O H s)(g:DGet H a y o)(ry:RelV y u)(h:∀s',Inv X pins O H s'->Q (.bool (!o.isSome)) s') :
  Xz (X4 X.prog X.w) A (QL .NotIn u (.ref a)) Q E s:=by
 rcases g with⟨kvs,k,e,ey,l⟩|⟨kvs,k,b,e,ey,eb,l⟩
 .subst ey
  obtain⟨z,hd,vs,rel,dd⟩:=Zux I.hok e;refine wpAny_notIn_of (Zsa ry) hd dd.mapOf ?_;rw[<-(rel.val k).isSome_eq,<-l];exact h _ (I.tok _)
 .subst ey
  cases(show u=Xy b from ry);obtain⟨z,hd,xs,rel,dd⟩:=Zw7 I.hok e;refine wpAny_notIn_heap (tupleKind_room_in1 hu) (Zor I.hok eb) hd dd ?_;have q:=(rel.val k).isSome_eq;rw[Option.isSome_map]at q;rw[<-q,<-l];exact h _ (I.tok _)
def Zmu{ob:HO}(I:Inv X pins O H s)(mu:Mut (H a))(hs:JQ a s.heap h')(he:∃q,h'.get? a=YB q)(new:ObjOk X.prog X.w (upd H a ob) h' a ob) :
  Inv X pins O (upd H a ob) { s with heap:=h',toks:=t' } :=
 I.write (x:=a) (e:=a) mu (.inl rfl) (λb q hb z=>(hs.2 b hb).trans z) he new
def Z0f{kvs:List (Key×V)}{vs:List (Key×Xe)}(z:kvs.length<=Xw)(hd:(a==Ur)=YF)(rel:KV kvs vs)(dd:h'.DictOf (Wr P w) a vs) :
  ObjOk P w H' h' a (.dK kvs):=⟨z,hd,vs,rel,dd⟩
def Zta{Q:Unit->Xf->Prop}(hu:A.units+1<VB)(I:Inv X pins O H s)(g:DPut H a y v H')(ry:RelV y u)(rv:RelV v r)(h:∀s',Inv X pins O H' s'->Q () s') :
  Xz (X4 X.prog X.w) A (setItem (.ref a) u r) Q E s:=by
 rcases g with⟨kvs,k,e,ey,l,eH⟩|⟨kvs,k,b,e,ey,eb,l,eH⟩
 .subst ey eH
  obtain⟨z,hd,vs,rel,dd⟩:=Z8g I.hok e;have hz:vs.length<=Xw:=by rw[<-rel.length];exact z
  have hl:(putK kvs k v).length<=Xw:=by have:=Zdo kvs k v;omega
  refine wpAny_setItem_pairs (hsz:=hz) (Zsa ry) dd λh' dd' hs=>h _ ?_;have he:∃q,h'.get? a=YB q:=let⟨q,_,_,hq,_⟩:=dd';⟨q,hq⟩;exact Zmu I (by rw[e];exact VR) hs he (Z0f hl hd (rel.put k rv) dd')
 .subst ey eH
  cases(show u=Xy b from ry);obtain⟨z,hd,xs,rel,dd⟩:=Yfo I.hok e;have hz:xs.length<=Xw:=by rw[<-Paired.length rel];exact z
  have hl:(putK kvs k v).length<=Xw:=by have:=Zdo kvs k v;omega
  refine wpAny_setItem_heap (hsz:=hz) (tupleKind_room_in1 hu) (Zor I.hok eb) dd λh' dd' hs=>h _ ?_;obtain⟨q,es,ep,hq,h2,h3,h4,_,h5⟩:=dd';refine Zmu I (by rw[e];exact VR) hs ⟨q,hq⟩ ⟨hl,hd,_,(rel.put k eb rv).keeps λc ys ec=>?_,q,es,ep,hq,h2,h3,h4,h5⟩;rw[Zk (Yfn ec e (λz=>nomatch z))];exact ec
end
section
variable {X:Cx}{pins:List (YG×Obj)}{O:St}{H:Hp}{s:Xf}{a:YG}{kvs:List (Key×V)}{k:Key}{u:Xe}{A:Qn}{E:Xe->Xf->Prop}
end
def Yfm(i:YJ):Prop:=∀ov iv,subscripted i YF ov iv=operate [ov,iv] (getItem ov iv)
def Z4o{slice:YJ}{T:String}
  (hl:typeLookup (.type T) "__getitem__"=pure (YB (.builtin id))) (hs:Yfm slice)
  (h:Xz (X4 prog w) A (eval value env) (λo s₁=>Xz (X4 prog w) A (eval slice env) (λi s₂=>s₂.TypeIs o T/\Xz (X4 prog w) A (getItem o i) Q E s₂) E s₁) E s) :
  Xz (X4 prog w) A (eval (.Subscript value slice pos) env) Q E s:=by
 refine Subscript_ (QB h (λo s₁ h₁=>QB h₁ (λi s₂ h₂=>?_) λ_ _ x=>x) λ_ _ x=>x);obtain⟨hT,h₂⟩:=h₂;unfold subscriptTail;refine Xb ?_;rw[getitemInPython_of_ne hT.not_modules];refine Xb (wpAny_specialOf hT hl ?_);have fin:Xz (X4 prog w) A (subscripted slice YF o i) (λr s₃=>Xz (X4 prog w) A (letTemporaryGo value o r>>= λ_=>pure r) Q E s₃) E s₂:=by
  rw[hs o i];exact wpAny_operating (QB h₂ (λr s₃ h₃=>Xb (wpAny_letTemporaryGo (Xl h₃))) λ_ _ x=>x)
 first
  | exact Xl (Xb fin)
  | exact Xb (Xl (Xb fin))
  | exact Xb fin
def Zmo{O:St}{y:V}{o:Option V}(I:Inv X pins O H s)(g:DGet H a y o):s.TypeIs (.ref a) "dict" :=by
 rcases g with⟨kvs,k,e,_,_⟩|⟨kvs,k,b,e,_,_,_⟩
 .obtain⟨_,_,vs,_,dd⟩:=Zux I.hok e
  exact dd.typeIs
 .obtain⟨_,_,xs,_,dd⟩:=Zw7 I.hok e
  exact dd.typeIs
def Ydv(td ty:TE):TE:=λO H Q=>td O H λx H1=>ty O H1 λy H2=>∃a v,x= .ref a/\DGet H2 a y (YB v)/\Q v H2
def Ye1(td ty tv:TE):TS:=λD O H=>tv O H λv H1=>td O H1 λx H2=>ty O H2 λy H3=>∃a H4,x= .ref a/\DPut H3 a y v H4/\D.nx O H4
section
variable {X:Cx}{o i e value:YJ}{pos pos' tpos:Pos}{td ty tv:TE}
def Z0h(hu:X.A.units+1<VB)(ho:PE X o td)(hi:PE X i ty)(hs:Yfm i):PE X (.Subscript o i pos) (Ydv td ty):=by
 intro pins s O H Q I h;refine Z4o PySem.F.slot_dict_getitem.lookup hs (thn (ho pins s O H _ I h) λu s1 ⟨x,H1,I1,rx,q1⟩=>thn (hi pins s1 O H1 _ I1 q1) λiv s2 ⟨y,H2,I2,ry,a,v,ex,g,q2⟩=>?_);subst ex;obtain rfl:u=Xy a:=rx;exact⟨Zmo I2 g,Zre hu I2 g ry λw' s3 I3 rw'=>⟨v,H2,I3,rw',q2⟩⟩
def Z13(hu:X.A.units+1<VB)(ho:PE X o td)(hi:PE X i ty)(hv:PE X value tv)(hs:Vi value (YB (.Subscript o i pos')) pos.line X.env=pure YF) :
  PS X (.Assign [.Subscript o i pos'] value pos) (Ye1 td ty tv):=by
 intro pins s O H D I h;refine wpAny_Assign_Subscript (thn (hv pins s O H _ I h) λr s1 ⟨v,H1,I1,rv,q1⟩=>thn (ho pins s1 O H1 _ I1 q1) λu s2 ⟨x,H2,I2,rx,q2⟩=>thn (hi pins s2 O H2 _ I2 q2) λiv s3 ⟨y,H3,I3,ry,a,H4,ex,g,q3⟩=>?_) hs;subst ex;obtain rfl:u=Xy a:=rx;exact Zta hu I3 g ry rv λs4 I4=>⟨O,H4,I4,q3⟩
end
def Zxq(h:YH)(hb:Ur<h.objs.size):ObjOk P w H (h.push { cls:=.type "dict",data:=.dict #[] }) h.objs.size (.dK []) :=
 ⟨QJ _,beq_eq_false_iff_ne.mpr (Bo (Xr hb)),[],.nil,Heap.DictOf.new h⟩
section
variable {X:Cx}{pos:Pos}
end
def Zs1:List (TE×TE)->St->Hp->(List (V×V)->Hp->Prop)->Prop
 | [],_,H,Q=>Q [] H
 | (tk,tv)::r,O,H,Q=>tk O H λx H1=>tv O H1 λy H2=>Zs1 r O H2 λps H3=>Q ((x,y)::ps) H3
abbrev VV:List (V×V)->List (Xe×Xe)->Prop:=Paired λp q=>RelV p.1 q.1/\RelV p.2 q.2
def PPs(X:Cx)(pos:Pos)(keys:List (Option YJ))(values:List YJ)(trs:List (TE×TE)):Prop :=
 ∀(pins:List (YG×Obj)) (s:Xf) (O:St) (H:Hp) (Q:List (V×V)->Hp->Prop),Inv X pins O H s->Zs1 trs O H Q ->
  Xz (X4 X.prog X.w) X.A (evalPairs (pairTrees keys values X.env pos)) (λvs s'=>∃ps H',Inv X pins O H' s'/\VV ps vs/\Q ps H') X.xe s
def Z2k:PPs X pos [] [] []:=λpins s O H Q I h=>pairTrees_nil_walk ⟨[],H,I,.nil,h⟩
def Zx6{k v:YJ}{ks:List (Option YJ)}{vs:List YJ}{tk:TE}{trs:List (TE×TE)}(hk:PE X k tk)(hv:PE X v tv)(hr:PPs X pos ks vs trs) :
  PPs X pos (YB k::ks) (v::vs) ((tk,tv)::trs):=λpins s O H Q I h=>
 pairTrees_cons_walk (thn (hk pins s O H _ I h) λu s1 ⟨x,H1,I1,rx,q1⟩=>thn (hv pins s1 O H1 _ I1 q1) λw2 s2 ⟨y,H2,I2,ry,q2⟩=>
  thn (hr pins s2 O H2 _ I2 q2) λws s3 ⟨ps,H3,I3,rel,q3⟩=>⟨(x,y)::ps,H3,I3,.cons ⟨rx,ry⟩ rel,q3⟩)
def Zfm(kvs more:List (Key×V)):List (Key×V):=more.foldl (λacc kv=>putK acc kv.1 kv.2) kvs
def KV.merge:∀{more:List (Key×V)} {rs:List (Key×Xe)} {kvs:List (Key×V)} {vs:List (Key×Xe)},KV more rs->KV kvs vs->KV (Zfm kvs more) (merged vs rs):=by
 intro more rs kvs vs r;unfold KV at r
 induction r generalizing kvs vs with
 | nil=>intro q;exact q
 | @cons p q ps qs h t ih=>
  intro r0;have e:KV (putK kvs p.1 p.2) (stored vs q.1 q.2):=by
   have:=r0.put p.1 h.2;rw[<-h.1];exact this
  exact ih e
theorem Zdv:∀(more kvs:List (Key×V)),(Zfm kvs more).length<=kvs.length+more.length
 | [],kvs=>by show kvs.length<=kvs.length+0;omega
 | p::r,kvs=>by
  have h1:=Zdv r (putK kvs p.1 p.2);have h2:=Zdo kvs p.1 p.2;show(Zfm (putK kvs p.1 p.2) r).length<=_;rw[Qd];omega
theorem Zic{P:X3}{w:Qo}:∀{kvs:List (Key×V)} {ws:List (Xe×Xe)},VV (kvs.map λkv=>(kV kv.1,kv.2)) ws->∃rs,Carries (Wr P w) ws rs/\KV kvs rs
 | [],_,r=>by rw[List.map_nil]at r;cases r;exact⟨[],VR,.nil⟩
 | p::kvs,_,r=>by
  rw[X7]at r;cases r with
  | @cons a b as bs h t=>
   obtain⟨rs,c,q⟩:=Zic (P:=P) (w:=w) t;obtain⟨b1,b2⟩:=b;exact⟨(p.1,b2)::rs,⟨Zsa h.1,rfl,c⟩,.cons ⟨rfl,h.2⟩ q⟩
def Yfv(trs:List (TE×TE)):TE:=λO H Q=>∀p,H p=YC->Zs1 trs O (upd H p (.dK [])) λps H2=>H2 p=YB (.dK [])/\∃kvs:List (Key×V),ps=kvs.map (λkv=>(kV kv.1,kv.2))/\kvs.length<=15/\Q (.ref p) (upd H2 p (.dK (Zfm [] kvs)))
def Z4l{keys:List (Option YJ)}{values:List YJ}{trs:List (TE×TE)}(h:PPs X pos keys values trs)(hall:keys.all (·.isSome)=YD)(hl:keys.length=values.length)(h0:keys≠[])
  (h15:keys.length<=15):PE X (.Dict keys values pos) (Yfv trs):=by
 intro pins s O H Q I q;have hn:=I.hok.fresh (XD s.heap.objs.size);have I1:=I.laid (a:=s.heap.objs.size) (o:=.dK []) (h':=s.heap.push { cls:=.type "dict",data:=.dict #[] }) (t':=s.toks) (λ_ _ q=>Xg _ q) (XD _) (Zxq s.heap I.big);refine wpAny_Dict_walk (knd:=Wr X.prog X.w) hall hl h0 h15 (thn (h pins _ O _ _ I1 (q _ hn)) λws s2 ⟨ps,H2,I2,rel,e,kvs,ep,lk,q2⟩=>?_);subst ep;obtain⟨rs,c,rk⟩:=Zic (P:=X.prog) (w:=X.w) rel;obtain⟨z,hd,vs0,r0,dd⟩:=Z8g I2.hok e;cases r0;refine⟨rs,c,dd,λh' dd' hs=>⟨.ref s.heap.objs.size,_,?_,rfl,q2⟩⟩;have hz:(Zfm [] kvs).length<=Xw:=by
  have h1:=Zdv kvs [];rw[QH]at h1;rw[X8];omega
 have he:∃q,h'.get? s.heap.objs.size=YB q:=let⟨q,_,_,hq,_⟩:=dd';⟨q,hq⟩;exact Zmu I2 (by rw[e];exact VR) hs he (Z0f hz hd (rk.merge .nil) dd')
structure M1(X:Cx)(o:YJ)(m:Str)(apos:Pos)(e:YJ)(cpos:Pos):Prop where
 base:Ue o m X.env (eval o X.env)=eval o X.env
 few:((Q3 cpos (Xo [e] X.env)).all (λx=>!x.1)&&(backToKw cpos (U7 [] X.env)).all (λx=>x.1.isSome)
  &&decide (([e]:List YJ).length+([]:List V8).length+(if([]:List V8).isEmpty then 0 else 1)<30))=YD
 line:(apos.endLine==cpos.line)=YD
 trees:Q3 cpos (Xo [e] X.env)=[(YF,eval e X.env)]
structure M2(X:Cx)(o:YJ)(m:Str)(apos:Pos)(e f:YJ)(cpos:Pos):Prop where
 base:Ue o m X.env (eval o X.env)=eval o X.env
 few:((Q3 cpos (Xo [e,f] X.env)).all (λx=>!x.1)&&(backToKw cpos (U7 [] X.env)).all (λx=>x.1.isSome)
  &&decide (([e,f]:List YJ).length+([]:List V8).length+(if([]:List V8).isEmpty then 0 else 1)<30))=YD
 line:(apos.endLine==cpos.line)=YD
 trees:Q3 cpos (Xo [e,f] X.env)=[(YF,eval e X.env),(YF,eval f X.env)]
def IsD(H:Hp)(a:YG):Prop:=(∃kvs,Rd H a (.dK kvs))\/∃kvs,Rd H a (.dT kvs)
section
variable {X:Cx}{pins:List (YG×Obj)}{O:St}{H:Hp}{s:Xf}{a:YG}{y d:V}{u r:Xe}{o:Option V}{A:Qn}{E:Xe->Xf->Prop}
end
section
variable {X:Cx}{o e f:YJ}{apos cpos:Pos}{td ty tx:TE}
end
variable {G:Xc}
def Zh9:Xa->Option Key
 | .int i=>YB (.inl i)
 | .str x=>YB (.inr x)
 | _=>YC
def Zld:List Xa->Option (List Key)
 | []=>YB []
 | d::ds=>(Zh9 d).bind λk=>(Zld ds).bind λks=>YB (k::ks)
def Zko:Xa->Option KY
 | .tuple ds=>(Zld ds).map .inr
 | d=>(Zh9 d).map .inl
def Zug:KY->Bool
 | .inl _=>YF
 | .inr _=>YD
def Z37(k:Key):Zh9 (Z8d k)=YB k:=by cases k<;>rfl
def Z0l(ks:List Key):Zld (ks.map Z8d)=YB ks:=by
 induction ks with
 | nil=>rfl
 | cons k ks ih=>rw[X7,Zld,Z37,ih];rfl
def Z78(k:KY):Zko (kyD k)=YB k:=by
 cases k with
 | inl k=>cases k<;>rfl
 | inr ks=>show(Zld (ks.map Z8d)).map (Sum.inr:List Key->KY)=_;rw[Z0l];rfl
def Zvl(k:KY):List KY->List Xa->Option Xa
 | [],_=>YC
 | _::_,[]=>YC
 | j::ks,d::ds=>if j=k then YB d else Zvl k ks ds
def Yfq(k:KY)(x:Xa):List KY->List Xa->List Xa
 | [],ds=>ds
 | _::_,[]=>[]
 | j::ks,d::ds=>(if j=k then x else d)::Yfq k x ks ds
def Zza(k:KY)(ks:List KY):Bool:=ks.any λj=>decide (j=k)
def Zsu(k:KY)(ks:List KY):List KY:=if Zza k ks=YD then ks else ks++[k]
def Zrd(k:KY)(x:Xa)(ks:List KY)(ds:List Xa):List Xa:=if Zza k ks=YD then Yfq k x ks ds else ds++[x]
section
variable {H:Hp}{L:YG->Prop}{κ:Type}[DecidableEq κ]{f:κ->KY}
def Ycz(G:Xc)(H:Hp)(L:YG->Prop)(a:Option V)(b:Option Xa):Prop:=(∃v d,a=YB v/\b=YB d/\Da G H L v d)\/(a=YC/\b=YC)
def look(hf:∀a b,f a=f b->a=b)(k:κ)(kvs:List (κ×V)):∀ds,Das G H L (kvs.map (·.2)) ds->Ycz G H L (Zpy kvs k) (Zvl (f k) (kvs.map λp=>f p.1) ds):=by
 induction kvs with
 | nil=>exact λds _=>.inr ⟨rfl,rfl⟩
 | cons p kvs ih=>
  intro ds h;cases h with
  | cons h r=>
   rename_i d ds;show Ycz G H L _ (if f p.1=f k then YB d else Zvl (f k) (kvs.map λp=>f p.1) ds)
   by_cases e:p.1=k
   .rw[Zf7 e,YM (YW f e)]
    exact .inl ⟨_,_,rfl,rfl,h⟩
   .rw[Zf5 e,YQ λz=>e (hf _ _ z)]
    exact ih _ r
def Yio(hf:∀a b,f a=f b->a=b)(k:κ)(kvs:List (κ×V)):(kvs.any λkv=>decide (kv.1=k))=Zza (f k) (kvs.map λp=>f p.1):=by
 unfold Zza;rw[List.any_map];refine YW (List.any kvs) (funext λp=>?_);exact decide_eq_decide.mpr ⟨YW f,hf _ _⟩
def Yi0(k:κ)(v:V)(kvs:List (κ×V)):(kvs.map (λkv=>if kv.1=k then(kv.1,v)else kv)).map (λp=>f p.1)=kvs.map λp=>f p.1:=by
 rw[Qq];refine Qk λp _=>?_;show f (if p.1=k then(p.1,v)else p).1=f p.1
 by_cases c:p.1=k
 .rw[YM c]
 .rw[YQ c]
def Yku(hf:∀a b,f a=f b->a=b)(k:κ){v:V}{x:Xa}(hv:Da G H L v x)(kvs:List (κ×V)):∀ds,Das G H L (kvs.map (·.2)) ds->Das G H L ((kvs.map (λkv=>if kv.1=k then(kv.1,v)else kv)).map (·.2)) (Yfq (f k) x (kvs.map λp=>f p.1) ds):=by
 induction kvs with
 | nil=>intro ds h;cases h;exact .nil
 | cons p kvs ih=>
  intro ds h;cases h with
  | cons h r=>
   rename_i d ds;refine .cons ?_ (ih _ r);show Da G H L (if p.1=k then(p.1,v)else p).2 (if f p.1=f k then x else d)
   by_cases e:p.1=k
   .rw[YM e,YM (YW f e)];exact hv
   .rw[YQ e,YQ λz=>e (hf _ _ z)];exact h
def Zo1(hf:∀a b,f a=f b->a=b)(k:κ)(v:V)(kvs:List (κ×V)):(putK kvs k v).map (λp=>f p.1)=Zsu (f k) (kvs.map λp=>f p.1):=by
 unfold putK Zsu;rw[Yio hf];cases c:Zza (f k) (kvs.map λp=>f p.1)with
 | true=>rw[YM rfl,YM rfl,Yi0]
 | false=>rw[YQ Xx,YQ Xx,Qx];rfl
def Zpf(hf:∀a b,f a=f b->a=b)(k:κ){v:V}{x:Xa}(hv:Da G H L v x)(kvs:List (κ×V))(h:Das G H L (kvs.map (·.2)) ds):Das G H L ((putK kvs k v).map (·.2)) (Zrd (f k) x (kvs.map λp=>f p.1) ds):=by
 unfold putK Zrd;rw[Yio hf];cases c:Zza (f k) (kvs.map λp=>f p.1)with
 | true=>rw[YM rfl,YM rfl];exact Yku hf k hv kvs _ h
 | false=>rw[YQ Xx,YQ Xx,Qx];exact h.snoc hv
end
def Zmh:∀a b:Key,(Sum.inl a:KY)=Sum.inl b->a=b:=λ_ _ h=>Sum.inl.inj h
def Znf:∀a b:List Key,(Sum.inr a:KY)=Sum.inr b->a=b:=λ_ _ h=>Sum.inr.inj h
section
variable {H:Hp}{L:YG->Prop}{y:V}{e:Xa}
def Da.key1{k:Key}(h:Da G H L y e)(hk:Zh9 e=YB k):y=kV k:=by
 cases h with
 | int i=>cases hk;rfl
 | str x=>cases hk;rfl
 | exc _ _ _=>unfold exD Zh9 at hk;cases hk
 | fn _=>unfold fnD Zh9 at hk;cases hk
 | dic _ _ _ _=>unfold dcD Zh9 at hk;cases hk
 | _=>cases hk
def Das.keys{xs:List V}(h:Das G H L xs ds):∀ks,Zld ds=YB ks->xs=ks.map kV :=
 Das.ind (Q:=λxs ds=>∀ks,Zld ds=YB ks->xs=ks.map kV) (λks h=>by cases h;rfl) (fun{x xs d ds} h _ ih ks hk=>by
  rw[Zld]at hk;obtain⟨k,h1,hk⟩:=bs hk;obtain⟨ks',h2,hk⟩:=bs hk;cases hk;rw[h.key1 h1,ih _ h2];rfl) h
def Da.keyT{ks:List Key}(h:Da G H L y e)(hk:Zko e=YB (.inr ks)):∃b,y= .ref b/\H b=YB (.tup (ks.map kV)):=by
 cases h with
 | tup e1 r=>
  rw[Zko]at hk;obtain⟨ks',h1,h2⟩:=Qe.mp hk;cases h2;exact⟨_,rfl,by rw[<-r.keys _ h1];exact e1⟩
 | exc _ _ _=>unfold exD Zko Zh9 at hk;cases hk
 | fn _=>unfold fnD Zko Zh9 at hk;cases hk
 | dic _ _ _ _=>unfold dcD Zko Zh9 at hk;cases hk
 | _=>cases hk
def Da.keyS{k:Key}(h:Da G H L y e)(hk:Zko e=YB (.inl k)):y=kV k:=by
 refine h.key1 ?_;unfold Zko at hk;split at hk
 .obtain⟨_,_,z⟩:=Qe.mp hk;cases z
 .obtain⟨_,h1,z⟩:=Qe.mp hk;cases z;exact h1
def Zia(k:KY):List (Xa×Xa)->Option Xa
 | []=>YC
 | p::r=>if Zko p.1=YB k then YB p.2 else Zia k r
def Zgz(k:KY)(ks:List KY):∀ds,Zia k ((ks.map kyD).zip ds)=Zvl k ks ds:=by
 induction ks with
 | nil=>intro ds;rfl
 | cons j ks ih=>
  intro ds;cases ds with
  | nil=>rfl
  | cons d ds=>
   show(if Zko (kyD j)=YB k then YB d else Zia k ((ks.map kyD).zip ds))=if j=k then YB d else Zvl k ks ds
   rw[Z78,ih]
   by_cases c:j=k
   .rw[YM c,YM (YW YB c)]
   .rw[YQ c,YQ λz=>c (QR z)]
def Da.dget{x:V}{t:Bool}{kvs:List (Xa×Xa)}{k:KY}(h:Da G H L x (.dict ((.none,.bool t)::kvs)))(hy:Da G H L y e)(hk:Zko e=YB k)(ht:Zug k=t):∃a o,x= .ref a/\IsD H a/\DGet H a y o/\Ycz G H L o (Zia k kvs):=by
 generalize ed:Xa.dict ((.none,.bool t)::kvs)=d at h;cases h with
 | dic l r dk q=>
  rename_i a o t' ks xs ds;unfold dcD at ed;injection ed with ed;injection ed with e1 e2;injection e1 with _ e1;injection e1 with e1;subst e1 e2;rw[Zgz];cases o with
  | lst _=>exact dk.elim
  | dK kv=>
   obtain⟨rfl,rfl,rfl⟩:=dk;cases k with
   | inr _=>cases ht
   | inl k=>exact⟨a,_,rfl,.inl ⟨kv,r⟩,.inl ⟨kv,k,r,hy.keyS hk,rfl⟩,look Zmh k kv _ q⟩
  | dT kv=>
   obtain⟨rfl,rfl,rfl⟩:=dk;cases k with
   | inl _=>cases ht
   | inr k=>
    obtain⟨b,hb,eb⟩:=hy.keyT hk;exact⟨a,_,rfl,.inr ⟨kv,r⟩,.inr ⟨kv,k,b,r,hb,eb,rfl⟩,look Znf k kv _ q⟩
 | exc _ _ _=>unfold exD at ed;cases ed
 | fn _=>unfold fnD at ed;cases ed
 | _=>cases ed
end
variable {G:Xc}
section
variable {X:Cx}{io:List Nat}{p c p' c':Bool}{a b e f o:YJ}{ma mb m mi mo me mf:MEt}{pos pp apos cpos px:Pos}{i:Nat}{x:Str}
def hu1{n:Nat}(h:n+64<VB):n+1<VB:=Nat.lt_of_le_of_lt (Nat.add_le_add_left (by decide:1<=64) _) h
def Zxy:Xa->Xa->Option OT:=λd e=>match d with
 | .dict ((.none,.bool t)::kvs)=>(Zko e).bind λk=>if Zug k=t then(Zia k kvs).map OT.fz else YC
 | _=>YC
def Ych:Xa->Xa->(OT->Prop)->Prop:=λd e k=>∃r,Zxy d e=YB r/\k r
def Yhl:R2:=λx y H Q=>∃a v,x= .ref a/\DGet H a y (YB v)/\Q v H
def Yag:ByO Zxy Ych:=λ_ _ r _ h hk=>⟨r,h,hk⟩
def Z8h:P2 G Yhl Ych:=λH L x y d e k Q hx hy h kk=>by
 obtain⟨r,h,hk⟩:=h;unfold Zxy at h;split at h
 case h_2=>cases h
 rename_i t kvs;obtain⟨ky,h1,h⟩:=bs h
 by_cases ht:Zug ky=t
 .rw[YM ht]at h
  obtain⟨a,o,rfl,_,g,R⟩:=hx.dget hy h1 ht;obtain⟨z,hz,rfl⟩:=Qe.mp h;rcases R with⟨v,d,rfl,hd,q⟩|⟨_,hd⟩
  .rw[hz]at hd
   cases hd;exact⟨a,v,rfl,g,kk H v (.fz z) [] (Same.refl _) (.fz (q.wide λa l _=>⟨.inl l,λm=>nomatch m⟩)) .nil (λa m=>nomatch m) hk⟩
  .rw[hz]at hd;cases hd
 .rw[YQ ht]at h;cases h
def Z9w(hu:X.A.units+64<VB)(ha:ME X io p c a ma)(hb:ME X io p' c' b mb)(hc:p'=YD\/c=YD:=by first|exact QG rfl|exact Qz rfl)(hs:Yfm b):ME X io (p&&p') (c&&c') (.Subscript a b pos) (Z58 Ych ma mb):=by
 obtain⟨_,A,sa⟩:=ha;obtain⟨_,B,sb⟩:=hb;exact⟨_,Z0h (hu1 hu) A B hs,Yeb (r:=Yhl) Z8h sa sb hc⟩
def Rel.ownDc{C:MC G}{H:Hp}{O:St}{δ:Ze}{fp:Fp}{ex:YG->Prop}{t:Bool}{ks:List KY}{ds:List Xa}(R:Rel C io H O δ fp ex)(hi:δ[i]? =YB (YB (.dc t ks ds))) :
  ∃a' ob xs,O[i]? =YB (YB (.ref a'))/\H a'=YB (MuO.ho ob)/\ob.dic t ks xs/\Das G H (Lf C fp ex) xs ds/\fp i=[a']:=by
 obtain⟨v,e,o⟩:=R.own i _ hi;generalize hf:fp i=as at o;cases o with
 | dc h k r=>exact⟨_,_,_,e,h,k,r,rfl⟩
def Rel.topD{C:MC G}{H:Hp}{O:St}{δ:Ze}{fp:Fp}{ex:YG->Prop}{t:Bool}{ks ks':List KY}{ds ds':List Xa}{a':YG}{ob ob':MuO}{ys:List V}(R:Rel C io H O δ fp ex)(hi:δ[i]? =YB (YB (.dc t ks ds)))(hv:O[i]? =YB (YB (.ref a')))
  (hf:fp i=[a']) (hx:H a'=YB ob.ho) (dk:ob'.dic t ks' ys) (o:Das G H (Lf C fp ex) ys ds') :
  Rel C io (upd H a' ob'.ho) O (δ.set i (YB (.dc t ks' ds'))) (fpu fp i [a']) ex/\Stp YF H δ fp (upd H a' ob'.ho) (δ.set i (YB (.dc t ks' ds'))) (fpu fp i [a']):=by
 have hm:a'∈fp i:=by rw[hf];exact .head _
 have ne':∀a,¬Foot fp a->a≠a':=λa h z=>h ⟨i,by rw[z];exact hm⟩;have kp:∀b o,H b=YB o->b≠a'->upd H a' ob'.ho b=YB o:=λb o e n=>by rw[Zk n];exact e
 have sub:∀a,a∈[a']->a∈fp i:=λa m=>by rw[hf];exact m
 have o':Das G (upd H a' ob'.ho) (Lf C (fpu fp i [a']) (exu ex [])) ys ds':=by
  have f0:∀a,¬Foot fp a->¬Foot (fpu fp i [a']) a:=λa h z=>by
   rcases z.of_u with z|⟨j,_,z⟩
   .exact h ⟨i,sub a z⟩
   .exact h ⟨j,z⟩
  refine o.frame (λa zs l q=>⟨⟨f0 a l.1,λz=>l.2.1 (Zbp.mp z),l.2.2⟩,?_⟩) λa zs q=>kp a _ q λz=>ImO.nm q (z▸hx);rcases q with q|⟨u,q⟩
  .exact .inl (kp a _ q (ne' a l.1))
  .exact .inr ⟨u,kp a _ q (ne' a l.1)⟩
 have key:=R.change (new:=[]) (as':=[a']) (t':=.dc t ks' ds') (H':=upd H a' ob'.ho) hi hv (λb o e nb=>kp b o e λz=>nb (by rw[z];exact hm)) (λb e=>by
   by_cases q:b=a'
   .subst q;rw[Zq]at e;cases e
   .rwa[Zk q]at e) (.dc Zq dk o') (Zcd a') (λa m=>.inl (sub a m)) (λa m=>nomatch m)
 exact⟨key.1.drop λa z=>.inl z,key.2⟩
def Z5j(i:Nat)(m mi:MEt):MSt:=λD δ=>m δ λr δ1=>match δ1[i]? with
 | some (YB (.dc t ks ds))=>mi δ1 λn _=>match Zko n.data with
  | some k=>(Zug k=t/\ks.length<Xw)/\D.nx (δ1.set i (YB (.dc t (Zsu k ks) (Zrd k r.data ks ds))))
  | none=>False
 | _=>False
def Z38(i:Nat)(hu:X.A.units+64<VB)(he:ME X io p YD e m)(hj:ME X io YD c a mi)(hN:X.N[i]? =YB x:=by rfl)(hv:Vis X.env.scope x:=by first|exact QG rfl|exact Qz (QG rfl)|exact Qz (Qz rfl))(hd:(x==("__debug__" : Str))=YF:=by decide)
  (hcd:(x==("__classdict__" : Str))=YF:=by decide)
  (hs:Vi e (YB (.Subscript (.Name x px) a pp)) pos.line X.env=pure YF:=by rfl):MS X io (.Assign [.Subscript (.Name x px) a pp] e pos) (Z5j i m mi):=by
 obtain⟨_,A,s⟩:=he;obtain⟨_,B,sj⟩:=hj;refine⟨_,Z13 (hu1 hu) (pv i hN hv hd hcd) B A hs,λC H O δ fp ex D D' R h E=>?_⟩;refine s C H O δ fp ex _ _ R h λH1 v r δ1 fp1 new r1 h1=>?_;have R1:=r1.base;have q:=(r1.da R).wide (L':=Lf C fp1 ex) λa l _=>l rfl;split at h1
 case h_2=>exact h1.elim
 rename_i t ks ds hi;obtain⟨a',_,_,hv0,_⟩:=R1.ownDc hi;refine⟨_,hv0,?_⟩;refine sj.pureAfter R1 h1 λH2 w n R2 s2 q2 h2=>?_;split at h2
 case h_2=>exact h2.elim
 rename_i k hk;obtain⟨⟨ht,hl⟩,h2⟩:=h2;obtain⟨a2,ob,xs,hv2,hx,dk,o,hf⟩:=R2.ownDc hi;rw[hv0]at hv2;cases hv2;have q':=q.same s2;have kpp:Kp H1 fp1 H2 fp1:=⟨λb o e _=>s2 _ _ e,λz=>(nomatch z),λa z=>.inl z,s2.al⟩;cases ob with
 | lst _=>exact dk.elim
 | dK kv=>
  obtain⟨rfl,rfl,rfl⟩:=dk;rw[Xd]at hl;cases k with
  | inr _=>cases ht
  | inl k=>
   obtain⟨R3,S3⟩:=R2.topD (ob':=.dK (putK kv k v)) hi hv0 hf hx ⟨rfl,(Zo1 Zmh k v kv).symm,rfl⟩ (Zpf Zmh k q' kv o);exact⟨a',_,rfl,.inl ⟨kv,k,hx,q2.keyS hk,hl,rfl⟩,E.nx _ O _ _ R3 (r1.stp.kp.trans (Kp.trans kpp S3.kp)) h2⟩
 | dT kv=>
  obtain⟨rfl,rfl,rfl⟩:=dk;rw[Xd]at hl;cases k with
  | inl _=>cases ht
  | inr k=>
   obtain⟨b',hb,eb⟩:=q2.keyT hk;obtain⟨R3,S3⟩:=R2.topD (ob':=.dT (putK kv k v)) hi hv0 hf hx ⟨rfl,(Zo1 Znf k v kv).symm,rfl⟩ (Zpf Znf k q' kv o);exact⟨a',_,rfl,.inr ⟨kv,k,b',hx,hb,eb,hl,rfl⟩,E.nx _ O _ _ R3 (r1.stp.kp.trans (Kp.trans kpp S3.kp)) h2⟩
def Zvk(i:Nat)(e j:FE):FS:=wE e λr δ1=>match δ1[i]? with
 | some (YB (.dc t ks ds))=>wE j (λn _=>match Zko n.data with
  | some k=>if Zug k=t/\ks.length<Xw then .nx (δ1.set i (YB (.dc t (Zsu k ks) (Zrd k r.data ks ds))))else .bad
  | none=>.bad) δ1
 | _=>.bad
def Z0s(h:MS X io st (Z5j i (o2 fa) (o2 fb))):MS X io st (oS (Zvk i fa fb)):=h.weak λD δ h=>by
 refine(Zmt h).imp λr δ' z=>?_;split at z
 case h_2=>exact z.elim
 rename_i q;(try rw[q]);refine(Zmt z).imp λn δ2 z=>?_;split at z
 case h_2=>exact z.elim
 rename_i k q2;(try rw[q2]);exact Zei z
end
end L2
namespace L2
open PySem PySem.Spec PyProof.Rows PySem.W PySem.SeqAt
theorem Paired.at{Y β:Type}{R:Y->β->Prop}{as:List Y}{bs:List β}(h:PySem.Paired R as bs):∀{i:Nat} {y:β},bs[i]? =YB y->∃x,as[i]? =YB x/\R x y:=by
 induction h with
 | nil=>intro i y z;cases z
 | cons h t ih=>
  intro i y z;cases i with
  | zero=>cases z;exact⟨_,rfl,h⟩
  | succ i=>exact ih z
end L2
namespace L2
open PySem PySem.Spec PyProof.Rows PySem.W PySem.SeqAt
def kdP:Xa->Option (Int×Int):=λd=>match d with| .tuple [.int a,.int b]=>YB (a,b)|_=>YC
def ltP:Int×Int->Int×Int->Bool:=λa b=>if a.1=b.1 then(if a.2=b.2 then YF else decide (a.2<b.2))else decide (a.1<b.1)
def Zdt{d:Xa}{k:Int×Int}(h:kdP d=YB k):d= .tuple [.int k.1,.int k.2]:=by
 unfold kdP at h;split at h
 case h_2=>cases h
 cases h;rfl
def Znk{k:Int×Int}(r:Reads h u (.tuple [.int k.1,.int k.2]) as):∃(t:YG) (o:Obj) (n:Nat) (t1 t2:Tok),u= .ref t/\h.get? t=YB o/\o.cls= .type "tuple"/\o.data= .seq #[.int k.1 t1,.int k.2 t2] n:=by
 cases r with
 | @tuple t o vs n xs as e c d q=>
  obtain⟨l,hl⟩:∃l,l=vs.toList:=⟨_,rfl⟩;rw[<-hl]at q;cases q with
  | cons r1 q=>
   cases q with
   | cons r2 q=>
    cases q;cases r1;cases r2;rename_i t1 t2;have:vs=#[.int k.1 t1,.int k.2 t2]:=Array.toList_inj.mp hl.symm;subst this;exact⟨t,o,n,t1,t2,rfl,e,c,d⟩
def Zrp:Yc6 kdP ltP:=by
 refine⟨λd k h=>by rw[Zdt h];exact(Zl9 [k.1,k.2]).1,tuples' YD,λprog w A E s vs ds as Q h2 r hk q=>?_,λprog w A E s u v d e as bs k m C hu r1 r2 h1 h2 h=>?_⟩
 .have key:∃fs:List Xe,KatTups s.heap vs fs/\fs.length=vs.length/\∀v∈fs,∃i t,v= .int i t:=by
   clear h2 q
   induction ds generalizing vs as with
   | nil=>cases r;exact⟨[],trivial,rfl,λ_ m=>nomatch m⟩
   | cons d ds ih=>
    cases r with
    | cons r q=>
     obtain⟨fs,t,l,z⟩:=ih _ _ q λd m=>hk d (.tail _ m);obtain⟨k,hk⟩:=hk d (.head _);rw[Zdt hk]at r;obtain⟨t',o,n,t1,t2,rfl,e,c,hd⟩:=Znk r;refine⟨.int k.1 t1::fs,KatTups.cons e c hd rfl t,YW Nat.succ l,λv hv=>?_⟩;rcases Xn.mp hv with rfl|hv
     .exact⟨_,_,rfl⟩
     .exact z v hv
  obtain⟨fs,t,l,z⟩:=key;exact kat_kind (T:=.type "int") t (!0) (λv hv=>by obtain⟨i,t,rfl⟩:=z v hv;exact(show Looks _ _ (pure (Value.type "int")) _ from .now)) rfl q
 .rw[Zdt h1]at r1
  rw[Zdt h2]at r2;obtain⟨t1,o1,n1,x1,y1,rfl,g1,c1,d1⟩:=Znk r1;obtain⟨t2,o2,n2,x2,y2,rfl,g2,c2,d2⟩:=Znk r2;refine kat_lt g1 d1 g2 d2 (kat_cons ?_);refine EqAt.int_int _ _ _ _ prog w _ _ ?_;unfold ltP at h
  by_cases c:k.1=m.1
  .rw[YM c]at h
   rw[ZC.mpr c];refine kat_yes (kat_cons ?_);refine EqAt.int_int _ _ _ _ prog w _ _ ?_
   by_cases c':k.2=m.2
   .rw[YM c']at h
    rw[ZC.mpr c'];exact kat_yes (kat_nil h)
   .rw[YQ c']at h
    rw[beq_eq_false_iff_ne.mpr c'];exact kat_no (kat_one _ _ (Zy5 h))
  .rw[YQ c]at h
   rw[beq_eq_false_iff_ne.mpr c];exact kat_no (oneLt_int h)
end L2
namespace L2
open PySem PySem.Spec PyProof.Rows
variable {G:Xc}
def Z9m(K:Xc):R2:=λx y H Q=>Z7k K x y H Q\/∃a b ys,x= .ref a/\y= .ref b/\SqT K H a []/\SqT K H b ys/\Q (.ref b) H
theorem Z3j:OpR X (V0 .Add) (Z9m X.K):=by
 intro pins s O H x y v u Q I rx ry h;rcases h with h|h
 .exact Z3d pins s O H x y v u Q I rx ry h
 .obtain⟨a,b,ys,rfl,rfl,ha,hb,q⟩:=h
  cases rx;cases ry;obtain⟨its,r1,p1,_⟩:=I.tuple ha;obtain⟨its2,r2,p2,_⟩:=I.tuple hb;cases r1;obtain⟨⟨cls,dd,data,sl⟩,ho,hc,n,hd⟩:=id p1;obtain⟨⟨cls2,dd2,data2,sl2⟩,ho2,hc2,n2,hd2⟩:=id p2;simp only at hc hd hc2 hd2;subst hc hd hc2 hd2;exact concat_meets ⟨_,ho,rfl⟩ ⟨_,ho2,rfl⟩ noFill_tuple_add seq_tuple_add PySem.F.slot_tuple_add PySem.F.entry_tuple_add (PySem.F.args_tuple_add_2 _ _)
   (tuple_addW0 a b _ its2.toArray n n2 dd dd2 sl sl2 rfl) ⟨ho,ho2,.ref b,H,I,rfl,q⟩
def Zwo:Xa->Xa->Option OT:=λd e=>match d,e with| .tuple ds,.tuple es=>if ds.length+es.length<=Xw then YB (.fz (.tuple (ds++es)))else YC|_,_=>YC
def Z50:Xa->Xa->(OT->Prop)->Prop:=λd e k=>∃r,Zwo d e=YB r/\k r
def Z77:ByO Zwo Z50:=λ_ _ r _ h hk=>⟨r,h,hk⟩
def Z3h:P2 G (Z9m G) Z50:=λH L x y d e k Q hx hy h kk=>by
 obtain⟨r,h,hk⟩:=h;unfold Zwo at h;split at h
 case h_2=>cases h
 rename_i ds es
 by_cases c:ds.length+es.length<=Xw
 .rw[YM c]at h
  cases h;have same:∀v,Da G H L v (.tuple (ds++es))->Q v H:=λv q=>kk H v _ [] (Same.refl _) (.fz (q.wide λa l _=>⟨.inl l,λm=>nomatch m⟩)) .nil (λa m=>nomatch m) hk;cases hx with
  | tup e1 r1=>
   cases hy with
   | tup e2 r2=>
    rename_i a1 xs1 a2 xs2
    by_cases z:xs1=[]
    .subst z
     cases r1;exact .inr ⟨_,_,_,rfl,rfl,.inl (.inl e1),.inl (.inl e2),same _ (.tup e2 r2)⟩
    .refine .inl ⟨_,_,_,_,rfl,rfl,.inl (.inl e1),.inl (.inl e2),z,by rw[r1.length,r2.length];exact c,λw=>?_,λw p hp=>?_⟩
     .subst w
      cases r2;rw[XX]at same;exact same _ (.tup e1 r1)
     .exact kk _ _ _ [] (Zw hp _) (.fz (.tup Zq (((r1.append r2).wide λa l _=>⟨.inl l,λm=>nomatch m⟩).same (Zw hp _)))) .nil (λa m=>nomatch m) hk
 .rw[YQ c]at h;cases h
def Yhw(o:Option (Option OT))(δ:Ze):Option (OT×Ze):=match o with|some (YB (.fz d))=>YB (.fz d,δ)|_=>YC
def Z1b(d:Xa)(δ:Ze):Yhw (YB (YB (.fz d))) δ=YB (.fz d,δ):=rfl
def Z94(o:Option (Option OT))(δ:Ze):Option (OT×Ze):=match o with|some (YB t)=>YB (.fz t.data,δ)|_=>YC
def Z12(t:OT)(δ:Ze):Z94 (YB (YB t)) δ=YB (.fz t.data,δ):=rfl
def Z4i(i:Nat)(δ:Ze):Z0 i δ=Yhw δ[i]? δ:=rfl
def Z3l(i:Nat)(δ:Ze):Zd5 i δ=Z94 δ[i]? δ:=rfl
def Z70(d:Xa)(δ:Ze):fC d δ=YB (.fz d,δ):=rfl
def Zx2(g:Xa->Xa->Option Xa)(a b:FE)(δ:Ze):Zd g a b δ=(a δ).bind λp=>(b p.2).bind λq=>(g p.1.data q.1.data).bind λd=>YB (.fz d,q.2):=rfl
def Z4j(g:Xa->Xa->Option OT)(a b:FE)(δ:Ze):Z4 g a b δ=(a δ).bind λp=>(b p.2).bind λq=>(g p.1.data q.1.data).bind λd=>YB (d,q.2):=rfl
def Z6q(g:Xa->Option Xa)(a:FE)(δ:Ze):fUn g a δ=(a δ).bind λp=>(g p.1.data).bind λd=>YB (.fz d,p.2):=rfl
def onB(d:Xa)(x y:Option Y):Option Y:=match d with| .bool YD=>x| .bool YF=>y|_=>YC
def Ykf(x y:Option Y):onB (.bool YD) x y=x:=rfl
def Ykm(x y:Option Y):onB (.bool YF) x y=y:=rfl
def Yd5(a b:FE)(δ:Ze):Yce a b δ=(a δ).bind λp=>onB p.1.data (b p.2) (YB (.fz (.bool YF),p.2)):=by
 unfold Yce onB;cases a δ with
 | none=>rfl
 | some p=>first|rfl|(simp only[Xh];done)|(simp only[Xh];generalize p.1.data=d;cases d<;>first|rfl|(rename_i b;cases b<;>rfl))
def Ygy(a b:FE)(δ:Ze):fOr a b δ=(a δ).bind λp=>onB p.1.data (YB (.fz (.bool YD),p.2)) (b p.2):=by
 unfold fOr onB;cases a δ with
 | none=>rfl
 | some p=>first|rfl|(simp only[Xh];done)|(simp only[Xh];generalize p.1.data=d;cases d<;>first|rfl|(rename_i b;cases b<;>rfl))
def Zyr(t:FT)(a b:FE)(δ:Ze):fIf t a b δ=(t δ).bind λp=>if p.1=YD then a p.2 else b p.2:=rfl
def Ye6(t:OT)(δ:Ze):Option (Bool×Ze):=match t with| .fz (.bool b)=>YB (b,δ)|_=>YC
def Z7w(b:Bool)(δ:Ze):Ye6 (.fz (.bool b)) δ=YB (b,δ):=rfl
def Ydl(e:FE)(δ:Ze):tV e δ=(e δ).bind λp=>Ye6 p.1 p.2:=by
 unfold tV Ye6;cases e δ with
 | none=>rfl
 | some p=>rfl
def Z71(t:FT)(δ:Ze):tNo t δ=(t δ).bind λp=>YB (!p.1,p.2):=rfl
def Zzx(t u:FT)(δ:Ze):tAn t u δ=(t δ).bind λp=>if p.1=YD then u p.2 else YB (YF,p.2):=rfl
def Z85(t u:FT)(δ:Ze):tO t u δ=(t δ).bind λp=>if p.1=YD then YB (YD,p.2)else u p.2:=rfl
def Yfg(e:FE)(δ:Ze):tD e δ=(e δ).bind λp=>(Zxb p.1.data).bind λb=>YB (b,p.2):=rfl
def Yf2(δ:Ze):Zh5 δ=YB (YD,δ):=rfl
def Ycf(δ:Ze):Z5 δ=YB ([],δ):=rfl
def Zd9(e:FE)(a:FA)(δ:Ze):Zf e a δ=(e δ).bind λp=>(a p.2).bind λq=>YB (p.1::q.1,q.2):=rfl
def Z3r(a:FA)(δ:Ze):Zbv a δ=(a δ).bind λp=>if p.1.length<=Xw then YB (.fz (.tuple (OT.datas p.1)),p.2)else YC:=rfl
def Znh(a:FA)(δ:Ze):Zc2 a δ=(a δ).bind λp=>if p.1.length<=Xw then YB (.nd p.1,p.2)else YC:=rfl
def Zv8(a:FA)(δ:Ze):Zx1 a δ=(a δ).bind λp=>if p.1.length<=Xw then YB (.tp p.1,p.2)else YC:=rfl
def Zxp(e:FE)(δ:Ze):Zu2 e δ=(e δ).bind λp=>if Jf p.1.data=YD then YB (.fz p.1.data,p.2)else YC:=rfl
def Z8p(e:FE)(δ:Ze):Z68 e δ=(e δ).bind λp=>if Z4g p.1=YD then YB (p.1,p.2)else YC:=rfl
def okO(x:RF)(δ:Ze):Option (OT×Ze):=match x with| .ok r=>YB (r,δ)|_=>YC
def Z7u(r:OT)(δ:Ze):okO (.ok r) δ=YB (r,δ):=rfl
def Zo7(F:FD)(a:FA)(δ:Ze):Yo F a δ=(a δ).bind λp=>okO (F (OT.datas p.1)) p.2:=by
 unfold Yo okO;cases a δ with
 | none=>rfl
 | some p=>rfl
def atO(o:Option (Option OT))(k:OT->Option Y):Option Y:=match o with|some (YB t)=>k t|_=>YC
def Yjg(t:OT)(k:OT->Option Y):atO (YB (YB t)) k=k t:=rfl
def Z7x(i:Nat)(F:FIO)(a:FA)(δ:Ze):Z0b i F a δ=atO δ[i]? λ_=>(a δ).bind λp=>atO p.2[i]? λt=>(F t (OT.datas p.1)).bind λq=>YB (q.1,p.2.set i (YB q.2)):=by
 unfold Z0b;generalize δ[i]? =o;rcases o with _|_|t
 .rfl
 .rfl
 .show(a δ).bind _=(a δ).bind _
  cases a δ with
  | none=>rfl
  | some p=>
   show(λo:Option (Option OT)=>(match o with|some (YB t)=>(F t (OT.datas p.1)).bind λq=>YB (q.1,p.2.set i (YB q.2))|_=>YC)) p.2[i]? =atO p.2[i]? _;generalize p.2[i]? =o;rcases o with _|_|t<;>rfl
def Z01(g:List Xa->Option Xa)(a:FA)(δ:Ze):Zem g a δ=(a δ).bind λp=>(g (OT.datas p.1)).bind λd=>YB (.fz d,p.2):=rfl
def Z91(g:List Xa->Option OT)(a:FA)(δ:Ze):fBl g a δ=(a δ).bind λp=>(g (OT.datas p.1)).bind λd=>YB (d,p.2):=rfl
def Ye2(T:String)(e:FE)(δ:Ze):Ycd T e δ=(e δ).bind λp=>if Zkx p.1.data=YD then YC else YB (.fz (.bool (Zvm T p.1.data)),p.2):=rfl
def Yi9(δ:Ze):oN δ=YB (YC,δ):=rfl
def asInt(d:Xa)(k:Int->Option Y):Option Y:=match d with| .int i=>k i|_=>YC
def Zs9(i:Int)(k:Int->Option Y):asInt (.int i) k=k i:=rfl
def Zpk(d:Xa)(k:List Xa->Option Y):Option Y:=match d with| .list i=>k i|_=>YC
def Zs6(i:List Xa)(k:List Xa->Option Y):Zpk (.list i) k=k i:=rfl
def Z0t(d:Xa)(k:List Xa->Option Y):Option Y:=match d with| .tuple i=>k i|_=>YC
def Yfx(i:List Xa)(k:List Xa->Option Y):Z0t (.tuple i) k=k i:=rfl
def Yfb(e:FE)(δ:Ze):oI e δ=(e δ).bind λp=>asInt p.1.data λi=>YB (YB i,p.2):=by
 unfold oI asInt;cases e δ with
 | none=>rfl
 | some p=>rfl
def Z6k(e:FE)(lo hi:FO)(δ:Ze):fSl e lo hi δ=(e δ).bind λp=>(lo p.2).bind λq=>(hi q.2).bind λr=>Zpk p.1.data λds=>YB (.nd ((cutD ds q.1 r.1).map OT.fz),r.2):=by
 unfold fSl Zpk;rfl
def Zu8(e:FE)(δ:Ze):Zf0 e δ=(e δ).bind λp=>Zpk p.1.data λds=>YB (ds,p.2):=by
 unfold Zf0 Zpk;rfl
def Yg6(e:FE)(δ:Ze):iTp e δ=(e δ).bind λp=>Z0t p.1.data λds=>YB (ds,p.2):=by
 unfold iTp Z0t;rfl
def as1(ds:List Xa)(k:Int->Option Y):Option Y:=match ds with|[.int i]=>k i|_=>YC
def Ye4(i:Int)(k:Int->Option Y):as1 [.int i] k=k i:=rfl
def as2(ds:List Xa)(k:Int->Int->Option Y):Option Y:=match ds with|[.int i,.int j]=>k i j|_=>YC
def Yd4{Y:Type}(i j:Int)(k:Int->Int->Option Y):as2 [.int i,.int j] k=k i j:=rfl
def Z89(a:FA)(δ:Ze):iRa a δ=(a δ).bind λp=>as1 (OT.datas p.1) λj=>if rOk j=YD then YB (Zdk 0 j.toNat,p.2)else YC:=by
 unfold iRa as1;rfl
def Yab(a:FA)(δ:Ze):iRb a δ=(a δ).bind λp=>as2 (OT.datas p.1) λi j=>if(rOk i&&rOk j)=YD then YB (Zdk i (j-i).toNat,p.2)else YC:=by
 unfold iRb as2;rfl
def Yct(a:FA)(δ:Ze):Yhk a δ=(a δ).bind λp=>as1 (OT.datas p.1) λj=>if rOk j=YD/\j.toNat<=Xw then YB (.nd ((Zdk 0 j.toNat).map OT.fz),p.2)else YC:=by
 unfold Yhk as1;rfl
def Z09(a b:FE)(δ:Ze):Z95 a b δ=(a δ).bind λp=>(b p.2).bind λq=>asInt q.1.data λk=>if rOk k=YD/\k.toNat<=Xw then YB (.nd (Qm k.toNat (.fz p.1.data)),p.2)else YC:=by
 unfold Z95 asInt;rfl
def Ydm(ds:List Xa)(k:List Xa->List Xa->Option Y):Option Y:=match ds with|[.list i,.list j]=>k i j|_=>YC
def Yip(i j:List Xa)(k:List Xa->List Xa->Option Y):Ydm [.list i,.list j] k=k i j:=rfl
def Ybz(a:FA)(δ:Ze):Z6b a δ=(a δ).bind λp=>Ydm (OT.datas p.1) λas bs=>YB (Zme as bs,p.2):=by
 unfold Z6b Ydm;rfl
def Yg4(i:Nat)(d:Xa)(δ:Ze):gNm i d δ=YB (δ.set i (YB (.fz d))):=rfl
def Ztz(i:Nat)(d:Xa)(δ:Ze):Z8j i d δ=if Jf d=YD then YB (δ.set i (YB (.fz d)))else YC:=rfl
def Yhq(δ:Ze):gNl [] δ=YB δ:=rfl
def Zz5(g:FG)(gs:FGs)(d:Xa)(r:List Xa)(δ:Ze):gCn g gs (d::r) δ=(g d δ).bind (gs r):=rfl
def Z6g(n:Nat)(gs:FGs)(ds:List Xa)(δ:Ze):gTp n gs (.tuple ds) δ=if ds.length=n then gs ds δ else YC:=rfl
def Yh9(n:Nat)(gs:FGs)(ds:List Xa)(δ:Ze):gLs n gs (.list ds) δ=if ds.length=n then gs ds δ else YC:=rfl
def RS.thn(r:RS)(g:FS):RS:=match r with| .nx δ=>g δ|r=>r
def Z6x(δ:Ze)(g:FS):(RS.nx δ).thn g=g δ:=rfl
def Z75(r:OT)(δ:Ze)(g:FS):(RS.rt r δ).thn g= .rt r δ:=rfl
def Yh1(δ:Ze)(g:FS):(RS.bk δ).thn g= .bk δ:=rfl
def Yge(δ:Ze)(g:FS):(RS.ct δ).thn g= .ct δ:=rfl
def Yas(c:Str)(δ:Ze)(g:FS):(RS.ex c δ).thn g= .ex c δ:=rfl
def Zm1(f g:FS)(δ:Ze):Zt f g δ=(f δ).thn g:=rfl
def Yh3(δ:Ze):fNx δ= .nx δ:=rfl
def Yep(δ:Ze):Yjx δ= .bk δ:=rfl
def Yed(δ:Ze):Yi4 δ= .ct δ:=rfl
def Z69(c:Str)(δ:Ze):Zhl c δ= .ex c δ:=rfl
def Yb1(δ:Ze):Ycm δ= .rt (.fz .none) δ:=rfl
def onO(o:Option (Y×Ze))(k:Y->Ze->RS):RS:=match o with|some (r,δ')=>k r δ'|none=>.bad
def Yd(r:Y)(δ:Ze)(k:Y->Ze->RS):onO (YB (r,δ)) k=k r δ:=rfl
def Zdp(e:FE)(k:OT->Ze->RS)(δ:Ze):wE e k δ=onO (e δ) k:=by
 unfold wE onO;cases e δ<;>rfl
def onF(x:RF)(δ:Ze)(k:OT->Ze->RS):RS:=match x with| .ok r=>k r δ| .exn c=>.ex c δ| .bad=>.bad
def Z9r(r:OT)(δ:Ze)(k:OT->Ze->RS):onF (.ok r) δ k=k r δ:=rfl
def Z83(c:Str)(δ:Ze)(k:OT->Ze->RS):onF (.exn c) δ k= .ex c δ:=rfl
def Z79(F:FD)(a:FA)(k:OT->Ze->RS)(δ:Ze):wX F a k δ=onO (a δ) λrs δ1=>onF (F (OT.datas rs)) δ1 k:=by
 unfold wX onO onF;cases a δ with
 | none=>rfl
 | some p=>rfl
def Zr6(t:FT)(u w:FS)(δ:Ze):Ws t u w δ=onO (t δ) λb δ'=>if b=YD then u δ' else w δ':=by
 unfold Ws onO;cases t δ<;>rfl
def Zrh(it:FI)(g:FG)(u:FS)(δ:Ze):Jx it g u δ=onO (it δ) λds δ1=>forLoop g u ds δ1:=by
 unfold Jx onO;cases it δ<;>rfl
def Ybv(r:OT)(δ:Ze):Zkh r δ= .nx δ:=rfl
def Z28(r:OT)(δ:Ze):Zam r δ= .rt r δ:=rfl
def Yby(r:OT)(δ:Ze):Ydz r δ=if Jf r.data=YD then .rt (.fz r.data) δ else .bad:=rfl
def Ztk(i:Nat)(r:OT)(δ:Ze):Y8 i r δ= .nx (δ.set i (YB (.fz r.data))):=rfl
def Yb8(i:Nat)(r:OT)(δ:Ze):Yck i r δ=if Jf r.data=YD then .nx (δ.set i (YB (.fz r.data)))else .bad:=rfl
def Zxd(i:Nat)(r:OT)(δ:Ze):J7 i r δ= .nx (δ.set i (YB r)):=rfl
def onD(o:Option Ze):RS:=match o with|some δ=>.nx δ|none=>.bad
def Ybo(δ:Ze):onD (YB δ)= .nx δ:=rfl
def Z0q(g:FG)(r:OT)(δ:Ze):Zw4 g r δ=onD (g r.data δ):=rfl
def onT(o:Option (Option OT))(k:OT->RS):RS:=match o with|some (YB t)=>k t|_=>.bad
def Z7l(t:OT)(k:OT->RS):onT (YB (YB t)) k=k t:=rfl
def Zwc(i:Nat)(δ:Ze):Zb9 i δ=onT δ[i]? λt=>.rt t (δ.set i YC):=rfl
def Zpo(i:Nat)(u:FS)(δ:Ze):Za1 i u δ=onT δ[i]? λt=>u (δ.set i (YB (.fz t.data))):=rfl
def onN(o:Option (Option OT))(k:List OT->RS):RS:=match o with|some (YB (.nd ts))=>k ts|_=>.bad
def Zuf(t:List OT)(k:List OT->RS):onN (YB (YB (.nd t))) k=k t:=rfl
def Ziu(i:Nat)(e:FE)(δ:Ze):Yh i e δ=onN δ[i]? λ_=>onO (e δ) λr δ1=>onN δ1[i]? λts=>if ts.length<Xw then .nx (δ1.set i (YB (.nd (ts++[.fz r.data]))))else .bad:=by
 unfold Yh;generalize δ[i]? =o;rcases o with _|_|(_|_|_|_)
 .rfl
 .rfl
 .rfl
 .show wE e _ δ=onO (e δ) _
  rw[Zdp];congr 1
 .rfl
 .rfl
def Z0k(i:Nat)(e:FE)(δ:Ze):Zoj i e δ=onN δ[i]? λ_=>onO (e δ) λr δ1=>onN δ1[i]? λts=>if ts.length<Xw then .nx (δ1.set i (YB (.nd (ts++[r]))))else .bad:=by
 unfold Zoj;generalize δ[i]? =o;rcases o with _|_|(_|_|_|_)
 .rfl
 .rfl
 .rfl
 .show wE e _ δ=onO (e δ) _
  rw[Zdp];congr 1
 .rfl
 .rfl
def onI(d:Xa)(k:Int->RS):RS:=match d with| .int i=>k i|_=>.bad
def Yjq(i:Int)(k:Int->RS):onI (.int i) k=k i:=rfl
def onX(o:Option Nat)(k:Nat->RS):RS:=match o with|some i=>k i|_=>.bad
def Ykd(i:Nat)(k:Nat->RS):onX (YB i) k=k i:=rfl
def Z08(i:Nat)(e j:FE)(δ:Ze):Z49 i e j δ=onO (e δ) λr δ1=>onN δ1[i]? λts=>onO (j δ1) λn _=>onI n.data λk=>onX (ixN ts.length k) λj=>.nx (δ1.set i (YB (.nd (ts.set j (.fz r.data))))):=by
 unfold Z49;rw[Zdp];congr 1;funext r δ1;generalize δ1[i]? =o;rcases o with _|_|(_|_|_|_)
 .rfl
 .rfl
 .rfl
 .show wE j _ δ1=onO (j δ1) _
  rw[Zdp];congr 1;funext n δ2;generalize n.data=d;cases d<;>try rfl
  show(match ixN _ _ with|some j=>_|none=>_)=onX (ixN _ _) _;generalize ixN _ _=x;cases x<;>rfl
 .rfl
 .rfl
def onU(o:Option OT)(k:List OT->RS):RS:=match o with|some (.nd ts)=>k ts|_=>.bad
def Yjs(t:List OT)(k:List OT->RS):onU (YB (.nd t)) k=k t:=rfl
def onP(o:Option (Option OT))(k:List OT->RS):RS:=match o with|some (YB (.tp ts))=>k ts|_=>.bad
def Yko(t:List OT)(k:List OT->RS):onP (YB (YB (.tp t))) k=k t:=rfl
def Z51(i c:Nat)(e:FE)(δ:Ze):Z0c i c e δ=onP δ[i]? λts=>onU ts[c]? λus=>onO (e δ) λr _=>if us.length<Xw then .nx (δ.set i (YB (.tp (ts.set c (.nd (us++[.fz r.data]))))))else .bad:=by
 unfold Z0c;generalize δ[i]? =o;rcases o with _|_|(_|_|ts|_)
 .rfl
 .rfl
 .rfl
 .rfl
 .show(match ts[c]? with|some (.nd us)=>wE e _ δ|_=>_)=onU ts[c]? _
  generalize ts[c]? =o;rcases o with _|(_|_|_|_)
  .rfl
  .rfl
  .show wE e _ δ=onO (e δ) _
   rw[Zdp]
  .rfl
  .rfl
 .rfl
def on2(ds:List Xa)(k:Xa->Xa->RS):RS:=match ds with|[d,e]=>k d e|_=>.bad
def Yiw(d e:Xa)(k:Xa->Xa->RS):on2 [d,e] k=k d e:=rfl
def Ye9(i j:Nat)(a:FA)(δ:Ze):Yh8 i j a δ=onO (a δ) λrs δ1=>on2 (OT.datas rs) λd e=>.nx ((δ1.set i (YB (.fz d))).set j (YB (.fz e))):=by
 unfold Yh8 onO on2;cases a δ<;>rfl
def Zke{n:Nat}{S:FS}(h:ds.length=np):Jv np n S ds=(S (Zck n ds)).told:=by
 unfold Jv;rw[YM h]
def Z4t(δ:Ze):(RS.nx δ).told= .ok (.fz .none):=rfl
def Z3v(r:OT)(δ:Ze):(RS.rt r δ).told= .ok r:=rfl
def Z4s(c:Str)(δ:Ze):(RS.ex c δ).told= .exn c:=rfl
def Yhj(i j:Int):Za0 (.int i) (.int j)=YB (.int (i+j)):=rfl
def Ykl(i j:Int):gSb (.int i) (.int j)=YB (.int (i-j)):=rfl
def Yjp(i j:Int):gLt (.int i) (.int j)=YB (.bool (decide (i<j))):=rfl
def Yjt(i j:Int):gLe (.int i) (.int j)=YB (.bool (decide (i<=j))):=rfl
def Yes(i j:Int):gGt (.int i) (.int j)=YB (.bool (decide (j<i))):=rfl
def Ydx(i j:Int):gGe (.int i) (.int j)=YB (.bool (decide (j<=i))):=rfl
def Zzc{i j:Int}(h:Z5d i j=YD):Zhw (.int i) (.int j)=YB (.int (i*j)):=by
 unfold Zhw i2c;dsimp only;rw[YM h]
def Z0n{i j:Int}(h:Yan i j=YD):Zaz (.int i) (.int j)=YB (.int (i.fdiv j)):=by
 unfold Zaz i2c;dsimp only;rw[YM h]
def Z74{i j:Int}(h:j≠0):Js (.int i) (.int j)=YB (.int (i.fmod j)):=by
 unfold Js i2c Yhi;dsimp only;rw[YM (YS h)]
def Z6r{x y:Int}(h:x.natAbs<2^64):Z5d x y=YD:=Zj1.mpr (.of_left (intBits_le_64 (!0) (!0)))
def Ybe{x y:Int}(h:y.natAbs<2^64):Z5d x y=YD:=Zj1.mpr (.of_right (intBits_le_64 (!0) (!0)))
def Z3q{n:Nat}{i j:Int}(h0:j≠0)(h:Bt n j)(hn:n<=9000:=by decide):Yan i j=YD:=by
 obtain⟨h1,h2⟩:=DivOk.of (i:=i) h0 h hn;unfold Yan;rw[YS h1,YS h2];rfl
def Yet(i j:Int):gEq (.int i) (.int j)=YB (.bool (decide (i=j))):=by
 show YB (Uv (i==j))=_;rw[show(i==j)=decide (i=j)from rfl]
def Yev(i j:Int):gNe (.int i) (.int j)=YB (.bool (!decide (i=j))):=by
 show YB (Uv (!(i==j)))=_;rw[show(i==j)=decide (i=j)from rfl]
def Yiy(d:Xa):gIs d .none=YB (.bool (Ze8 d)):=rfl
def Yb4(d:Xa):Zid d .none=YB (.bool (!Ze8 d)):=rfl
def Z54(ds:List Xa)(i:Int):gIx (.list ds) (.int i)=(atI ds i).bind λx=>YB (.fz x):=rfl
def Yje(ds:List Xa)(i:Int):gIx (.tuple ds) (.int i)=(atI ds i).bind λx=>YB (.fz x):=rfl
def Ya3(ds:List Xa):Zi3 [.list ds]=YB (.int ds.length):=rfl
def Yin(ds:List Xa):Zi3 [.tuple ds]=YB (.int ds.length):=rfl
def Yij(i:Int):Ye7 [.int i]=YB (.int (i.natAbs:Int)):=by
 show YB (Xu (if i<0 then -i else i))=_;congr 2;split<;>omega
def Z8t(i j:Int):Z2a [.int i,.int j]=YB (.int (if j>i then j else i)):=rfl
def Ybd(i j:Int):Z2e [.int i,.int j]=YB (.int (if j<i then j else i)):=rfl
def Ygk(i:Int):Yig [.int i]=YB (.int i):=rfl
def Yih(b:Bool):Yig [.bool b]=YB (.int (if b then 1 else 0)):=rfl
def Z2x(ds:List Xa):Zr9 [.list ds]=YB (.nd (ds.map OT.fz)):=rfl
def Ycg(ds:List Xa):Zr9 [.tuple ds]=YB (.nd (ds.map OT.fz)):=rfl
def Z8l{es:List Xa}(h:ds.length+es.length<=Xw):Zer (.list ds) (.list es)=YB (.nd ((ds++es).map OT.fz)):=by
 unfold Zer;dsimp only;rw[YM h]
def Z6d(i:Int):Zq7 (.int i)=YB (.int (-i)):=rfl
def Ygv(b:Bool):Yey (.bool b)=YB (.bool (!b)):=rfl
def Yht(b:Bool):Zxb (.bool b)=YB b:=rfl
def Yhn(i:Int):Zxb (.int i)=YB (i !=0):=rfl
def Yhh:Zxb .none=YB YF:=rfl
def Ygb(ds:List Xa):Zxb (.list ds)=YB (!ds.isEmpty):=rfl
def Zwt{n:Nat}{d:Xa}(h:Sh n d)(hp:Wm d=YD)(hn:n<=60):gNe d d=YB (.bool YF):=by
 have s:SeqAt.shaped d=YD:=(h.shp (!0)).ok;unfold gNe;rw[YM (by rw[s];rfl),Zye hp];rfl
def Zlk{u:FS}(I:Nat->Ze->Prop)(h0:I 0 δ)
  (turn:∀(i:Nat) (d:Xa) (δ:Ze),ds[i]? =YB d->I i δ->∃δ1 δ2,gg d δ=YB δ1/\(u δ1= .nx δ2\/u δ1= .ct δ2)/\I (i+1) δ2):∃δ',forLoop gg u ds δ= .nx δ'/\I ds.length δ':=by
 induction ds generalizing δ I with
 | nil=>exact⟨δ,rfl,h0⟩
 | cons d ds ih=>
  obtain⟨δ1,δ2,e1,e2,h1⟩:=turn 0 d δ rfl h0;obtain⟨δ',e3,h3⟩:=ih (δ:=δ2) (λi δ=>I (i+1) δ) h1 λi d' δ hd hi=>turn (i+1) d' δ (by simpa using hd) hi;refine⟨δ',?_,h3⟩;rw[Zcb,e1];dsimp only;rcases e2 with e2|e2<;>rw[e2]<;>exact e3
def Goes(r:RS)(Q:Ze->Prop):Prop:=∃δ,(r= .nx δ\/r= .ct δ)/\Q δ
def Goes.nx{δ:Ze}{Q:Ze->Prop}(h:Q δ):Goes (.nx δ) Q:=⟨δ,.inl rfl,h⟩
theorem Goes.ct{Q:Ze->Prop}(h:Q δ):Goes (.ct δ) Q:=⟨δ,.inr rfl,h⟩
theorem Zu1{cs:Ze}(mk:Y->Xa)(f:Y->OT):∀(xs:List Y) (z:Option OT),(∀x∈xs,me (YB (.fz (mk x))::cs)=YB (f x,YB (.fz (mk x))::cs)) ->
  ∃z',compLoop (gNm 0) Zh5 me (xs.map mk) (z::cs)=YB (xs.map f,z'::cs)
 | [],z,_=>⟨z,rfl⟩
 | x::xs,z,h=>by
  obtain⟨z',e⟩:=Zu1 mk f xs (YB (.fz (mk x))) λy hy=>h y (.tail _ hy);refine⟨z',?_⟩;rw[X7,compLoop];show(YB (YB (OT.fz (mk x))::cs)).bind _=_;rw[Xh];show(YB (YD,YB (OT.fz (mk x))::cs)).bind _=_;rw[Xh,YM rfl,h x (.head _),Xh,e];rfl
theorem Zoo{t:FT}{cs:Ze}(mk:Y->Xa)(p:Y->Bool)(f:Y->OT):∀(xs:List Y) (z:Option OT),(∀x∈xs,t (YB (.fz (mk x))::cs)=YB (p x,YB (.fz (mk x))::cs))->(∀x∈xs,p x=YD->me (YB (.fz (mk x))::cs)=YB (f x,YB (.fz (mk x))::cs)) ->
  ∃z',compLoop (gNm 0) t me (xs.map mk) (z::cs)=YB ((xs.filter p).map f,z'::cs)
 | [],z,_,_=>⟨z,rfl⟩
 | x::xs,z,ht,h=>by
  obtain⟨z',e⟩:=Zoo mk p f xs (YB (.fz (mk x))) (λy hy=>ht y (.tail _ hy)) λy hy=>h y (.tail _ hy);refine⟨z',?_⟩;rw[X7,compLoop];show(YB (YB (OT.fz (mk x))::cs)).bind _=_;rw[Xh,ht x (.head _),Xh];dsimp only
  by_cases hp:p x=YD
  .rw[YM hp,h x (.head _) hp,Xh,e,UT hp];rfl
  .rw[YQ hp,e,UV hp]
def Zf8{it:FI}{cs:Ze}(xs:List Y)(mk:Y->Xa)(f:Y->OT)(hi:it δ=YB (xs.map mk,δ1))(hz:xs.length<=Xw)(hb:blk 1 caps δ1=YC::cs)
  (h:∀x∈xs,me (YB (.fz (mk x))::cs)=YB (f x,YB (.fz (mk x))::cs)):Wk 1 caps it (gNm 0) Zh5 me δ=YB (.nd (xs.map f),δ1):=by
 unfold Wk;rw[hi,Xh];dsimp only;rw[YM (by rw[Xd];exact hz),hb];obtain⟨z',e⟩:=Zu1 (me:=me) (cs:=cs) mk f xs YC h;rw[e];rfl
def Zkv{it:FI}{t:FT}{cs:Ze}(xs:List Y)(mk:Y->Xa)(p:Y->Bool)(f:Y->OT)(hi:it δ=YB (xs.map mk,δ1))(hz:xs.length<=Xw)(hb:blk 1 caps δ1=YC::cs)
  (ht:∀x∈xs,t (YB (.fz (mk x))::cs)=YB (p x,YB (.fz (mk x))::cs)) (h:∀x∈xs,p x=YD->me (YB (.fz (mk x))::cs)=YB (f x,YB (.fz (mk x))::cs)):Wk 1 caps it (gNm 0) t me δ=YB (.nd ((xs.filter p).map f),δ1):=by
 unfold Wk;rw[hi,Xh];dsimp only;rw[YM (by rw[Xd];exact hz),hb];obtain⟨z',e⟩:=Zoo (t:=t) (me:=me) (cs:=cs) mk p f xs YC ht h;rw[e];rfl
def Yi6:(2<=Xw)=True:=by simp[X8]
def Yke:(1<=Xw)=True:=by simp[X8]
def Ykj:(0<=Xw)=True:=by simp
def Ydq:(3<=Xw)=True:=by simp[X8]
def Zqn(f:Y->Xa)(xs:List Y):(xs.map λx=>OT.fz (f x)).map OT.data=xs.map f:=by
 rw[Qq];exact Qk λx _=>OT.data_fz _
def Z1l{j:Int}{x:Y}(h0:0<=j)(h1:j<=1000000):(if rOk j=YD then YB x else YC)=YB x:=YM (Zog (!0) h1)
def Z2u{Y:Type}{i j:Int}{x:Y}(h0:0<=i)(h1:i<=1000000)(h2:0<=j)(h3:j<=1000000):(if(rOk i&&rOk j)=YD then YB x else YC)=YB x:=YM (by rw[Zog (!0) h1,Zog (!0) h3];rfl)
def Zzk{r:RS}{k:Nat}(h:k<=1000000):(if k<Xw then r else .bad)=r:=YM (by rw[X8];omega)
def EvV(e:FE)(δ:Ze)(d:Xa):Prop:=∃t,e δ=YB (t,δ)/\t.data=d
def EvA(a:FA)(δ:Ze)(ds:List Xa):Prop:=∃ts,a δ=YB (ts,δ)/\OT.datas ts=ds
def EvT(t:FT)(δ:Ze)(b:Bool):Prop:=t δ=YB (b,δ)
def Told(F:FD)(ds:List Xa)(d:Xa):Prop:=∃t,F ds= .ok t/\t.data=d
end L2
variable {S':FS}{y:Xa}{cs:Ze}
namespace L2
open PySem PySem.Spec PyProof.Rows
section
variable {e a b:FE}{as:FA}{δ δ':Ze}{x y d:Xa}{xs ds:List Xa}{i j:Nat}{p q:Bool}{t u:FT}{S S':FS}{r:RS}
theorem EvV.cast{e:FE}{δ:Ze}{x y:Xa}(h:EvV e δ x)(k:x=y):EvV e δ y:=k▸h
theorem Za(h:δ[i]? =YB (YB (.fz d)):=by rfl):EvV (Z0 i) δ d:=⟨_,by rw[Z4i,h,Z1b],OT.data_fz _⟩
def Zc7{t:OT}(h:δ[i]? =YB (YB t))(hd:t.data=d):EvV (Zd5 i) δ d:=⟨_,by rw[Z3l,h,Z12],by rw[OT.data_fz,hd]⟩
def Zy:EvV (fC d) δ d:=⟨_,rfl,OT.data_fz _⟩
def Zo{g:Xa->Xa->Option Xa}(ha:EvV a δ x)(hb:EvV b δ y)(h:g x y=YB d):EvV (Zd g a b) δ d:=by
 obtain⟨_,e1,d1⟩:=ha;obtain⟨_,e2,d2⟩:=hb;exact⟨_,by rw[Zx2,e1,Xh,e2,Xh,d1,d2,h,Xh],OT.data_fz _⟩
def Zow{g:Xa->Xa->Option OT}{o:OT}(ha:EvV a δ x)(hb:EvV b δ y)(h:g x y=YB o)(hd:o.data=d):EvV (Z4 g a b) δ d:=by
 obtain⟨_,e1,d1⟩:=ha;obtain⟨_,e2,d2⟩:=hb;exact⟨_,by rw[Z4j,e1,Xh,e2,Xh,d1,d2,h,Xh],hd⟩
def Zfu(ha:EvV a δ x)(hb:EvV b δ y)(h:gIx x y=YB (.fz d)):EvV (Z4 gIx a b) δ d:=Zow ha hb h (OT.data_fz _)
def Jd{i j:Int}(ha:EvV a δ (.int i))(hb:EvV b δ (.int j)):EvV (Zd Za0 a b) δ (.int (i+j)):=Zo ha hb rfl
def Zfk{i j:Int}(ha:EvV a δ (.int i))(hb:EvV b δ (.int j)):EvV (Zd gSb a b) δ (.int (i-j)):=Zo ha hb rfl
def Yft{g:Xa->Option Xa}(ha:EvV a δ x)(h:g x=YB d):EvV (fUn g a) δ d:=by
 obtain⟨_,e1,d1⟩:=ha;exact⟨_,by rw[Z6q,e1,Xh,d1,h,Xh],OT.data_fz _⟩
theorem Zh:EvA Z5 δ []:=⟨_,rfl,Zgv⟩
theorem Zb(h:EvV e δ d)(k:EvA as δ ds):EvA (Zf e as) δ (d::ds):=by
 obtain⟨_,e1,d1⟩:=h;obtain⟨_,e2,d2⟩:=k;exact⟨_,by rw[Zd9,e1,Xh,e2,Xh],by rw[Zes,d1,d2]⟩
theorem Ye(h:EvA as δ ds)(k:Told F ds d):EvV (Yo F as) δ d:=by
 obtain⟨_,e1,d1⟩:=h;obtain⟨_,e2,d2⟩:=k;exact⟨_,by rw[Zo7,e1,Xh,d1,e2,Z7u],d2⟩
theorem Zhg{g:List Xa->Option Xa}(h:EvA as δ ds)(k:g ds=YB d):EvV (Zem g as) δ d:=by
 obtain⟨_,e1,d1⟩:=h;exact⟨_,by rw[Z01,e1,Xh,d1,k,Xh],OT.data_fz _⟩
def Z0p{g:List Xa->Option OT}{o:OT}(h:EvA as δ ds)(k:g ds=YB o)(hd:o.data=d):EvV (fBl g as) δ d:=by
 obtain⟨_,e1,d1⟩:=h;exact⟨_,by rw[Z91,e1,Xh,d1,k,Xh],hd⟩
theorem Zgu:∀ts:List OT,(OT.datas ts).length=ts.length
 | []=>by rw[Zgv];rfl
 | t::ts=>by rw[Zes,Qd,Qd,Zgu ts]
theorem datas_map:∀ts:List OT,OT.datas ts=ts.map OT.data
 | []=>Zgv
 | t::ts=>by rw[Zes,X7,datas_map ts]
def Zbb(h:EvA as δ ds)(hl:ds.length<=1000):EvV (Zbv as) δ (.tuple ds):=by
 obtain⟨ts,e1,d1⟩:=h;have:=Zgu ts;rw[d1]at this;exact⟨_,by rw[Z3r,e1,Xh,YM (by rw[X8];show ts.length<=_;omega)],by rw[OT.data_fz];exact YW _ d1⟩
def Zfr(h:EvA as δ ds)(hl:ds.length<=1000):EvV (Zc2 as) δ (.list ds):=by
 obtain⟨ts,e1,d1⟩:=h;have:=Zgu ts;rw[d1]at this;exact⟨_,by rw[Znh,e1,Xh,YM (by rw[X8];show ts.length<=_;omega)],by rw[OT.data_nd,<-datas_map,d1]⟩
def Zgt{o:OT}{b:Bool}(h:o.data= .bool b):o= .fz (.bool b):=by
 cases o with
 | fz d=>rw[OT.data_fz]at h;rw[h]
 | nd ts=>rw[OT.data_nd]at h;cases h
 | tp ts=>rw[OT.data_tp]at h;cases h
 | dc _ _ _=>rw[OT.data_dc]at h;cases h
theorem Jp(h:EvV e δ (.bool p)):EvT (tV e) δ p:=by
 obtain⟨_,e1,d1⟩:=h;unfold EvT;rw[Ydl,e1,Xh,Zgt d1,Z7w]
def Yix(h:EvV e δ d)(k:Zxb d=YB p):EvT (tD e) δ p:=by
 obtain⟨_,e1,d1⟩:=h;unfold EvT;rw[Yfg,e1,Xh,d1,k,Xh]
def Zla(h:EvV e δ (.bool p)):EvT (tD e) δ p:=Yix h rfl
def Zej(h:EvT t δ p):EvT (tNo t) δ (!p):=by
 unfold EvT at h|-
 rw[Z71,h,Xh]
def Zvw(h:EvT t δ YD)(k:EvT u δ p):EvT (tAn t u) δ p:=by
 unfold EvT at h k|-
 rw[Zzx,h,Xh,YM rfl,k]
def Zmk(h:EvT t δ YF):EvT (tAn t u) δ YF:=by
 unfold EvT at h|-
 rw[Zzx,h,Xh,YQ Xx]
def Zvt(h:EvT t δ YF)(k:EvT u δ p):EvT (tO t u) δ p:=by
 unfold EvT at h k|-
 rw[Z85,h,Xh,YQ Xx,k]
def Zs5(h:EvT t δ YD):EvT (tO t u) δ YD:=by
 unfold EvT at h|-
 rw[Z85,h,Xh,YM rfl]
theorem Zx(h:S δ= .nx δ')(k:S' δ'=r):Zt S S' δ=r:=by rw[Zm1,h,Z6x,k]
def Zuw{o:OT}(h:S δ= .rt o δ'):Zt S S' δ= .rt o δ':=by rw[Zm1,h,Z75]
theorem Z7(h:EvV e δ d):wE e (Y8 i) δ= .nx (δ.set i (YB (.fz d))):=by
 obtain⟨_,e1,d1⟩:=h;rw[Zdp,e1,Yd,Ztk,d1]
def Zrj(h:EvV e δ d):∃o,wE e Zam δ= .rt o δ/\o.data=d:=by
 obtain⟨_,e1,d1⟩:=h;exact⟨_,by rw[Zdp,e1,Yd,Z28],d1⟩
def Y9(h:EvT t δ YD)(k:S δ=r):Ws t S S' δ=r:=by
 unfold EvT at h;rw[Zr6,h,Yd,YM rfl,k]
theorem Z6(h:EvT t δ YF)(k:S' δ=r):Ws t S S' δ=r:=by
 unfold EvT at h;rw[Zr6,h,Yd,YQ (!1),k]
theorem Z9o{F:FD}{k:OT->Ze->RS}(h:EvA as δ ds)(hF:Told F ds d)(hk:∀o,o.data=d->k o δ=r):wX F as k δ=r:=by
 obtain⟨_,e1,d1⟩:=h;obtain⟨o,e2,d2⟩:=hF;rw[Z79,e1,Yd,d1,e2,Z9r,hk o d2]
def Znp{F:FD}{k:OT->Ze->RS}{c:Str}(h:EvA as δ ds)(hF:F ds= .exn c):wX F as k δ= .ex c δ:=by
 obtain⟨_,e1,d1⟩:=h;rw[Z79,e1,Yd,d1,hF,Z83]
def Zmf(S:FS)(δ:Ze)(d:Xa):Prop:=∃o δ',S δ= .rt o δ'/\o.data=d
theorem Z2(h:S δ= .nx δ')(k:Zmf S' δ' d):Zmf (Zt S S') δ d:=by
 obtain⟨o,δ2,e,hd⟩:=k;exact⟨o,δ2,Zx h e,hd⟩
def Zbg(k:Zmf S δ d):Zmf (Zt S S') δ d:=by
 obtain⟨o,δ2,e,hd⟩:=k;exact⟨o,δ2,Zuw e,hd⟩
def Za5(h:EvV e δ d):Zmf (wE e Zam) δ d:=by
 obtain⟨o,e1,hd⟩:=Zrj h;exact⟨o,δ,e1,hd⟩
def Zgh(h:EvT t δ YD)(k:Zmf S δ d):Zmf (Ws t S S') δ d:=by
 obtain⟨o,δ2,e,hd⟩:=k;exact⟨o,δ2,Y9 h e,hd⟩
theorem Yk{np n:Nat}(hl:xs.length=np)(k:Zmf S (Zck n xs) d):Told (Jv np n S) xs d:=by
 obtain⟨o,δ2,e,hd⟩:=k;exact⟨o,by rw[Zke hl,e,Z3v],hd⟩
def EvO(o:FO)(δ:Ze)(l:Option Int):Prop:=o δ=YB (l,δ)
def Yei:EvO oN δ YC:=rfl
def Yav{i:Int}(h:EvV e δ (.int i)):EvO (oI e) δ (YB i):=by
 obtain⟨_,e1,d1⟩:=h;unfold EvO;rw[Yfb,e1,Xh,d1,Zs9]
def Zyf{lo hi:FO}{l h:Option Int}(he:EvV e δ (.list ds))(hl:EvO lo δ l)(hh:EvO hi δ h):EvV (fSl e lo hi) δ (.list (cutD ds l h)):=by
 obtain⟨_,e1,d1⟩:=he;unfold EvO at hl hh;exact⟨_,by rw[Z6k,e1,Xh,hl,Xh,hh,Xh,d1,Zs6],by rw[OT.data_nd,OT.map_fz]⟩
def Zz0{es:List Xa}(ha:EvV a δ (.list ds))(hb:EvV b δ (.list es))(h:ds.length+es.length<=1000000):EvV (Z4 Zer a b) δ (.list (ds++es)) :=
 Zow ha hb (Z8l (by rw[X8];omega)) (by rw[OT.data_nd,OT.map_fz])
def EvI(it:FI)(δ:Ze)(ds:List Xa):Prop:=it δ=YB (ds,δ)
def Jr(h:EvV e δ (.list ds)):EvI (Zf0 e) δ ds:=by
 obtain⟨_,e1,d1⟩:=h;unfold EvI;rw[Zu8,e1,Xh,d1,Zs6]
theorem Zcx{n:Nat}(h:EvA as δ [.int n])(hn:n<=1000000):EvI (iRa as) δ (Zdk 0 n):=by
 obtain⟨_,e1,d1⟩:=h;unfold EvI;rw[Z89,e1,Xh,d1,Ye4,Z1l (!0) (!0),Bx]
def Zal{it:FI}{g:FG}(h:EvI it δ ds)(k:forLoop g S ds δ=r):Jx it g S δ=r:=by
 unfold EvI at h;rw[Zrh,h,Yd,k]
theorem Zgb{it:FI}(xs:List Y)(mk f:Y->Xa)(hi:EvI it δ (xs.map mk))(hz:xs.length<=1000000)(hb:blk 1 caps δ=YC::cs)(h:∀x∈xs,EvV me (YB (.fz (mk x))::cs) (f x)):EvV (Wk 1 caps it (gNm 0) Zh5 me) δ (.list (xs.map f)):=by
 have g:∀x,∃o:OT,x∈xs->me (YB (.fz (mk x))::cs)=YB (o,YB (.fz (mk x))::cs)/\o.data=f x:=λx=>by
  by_cases c:x∈xs
  .obtain⟨o,h1,h2⟩:=h x c
   exact⟨o,λ_=>⟨h1,h2⟩⟩
  .exact⟨.fz .none,λz=>YZ z c⟩
 obtain⟨o,ho⟩:=Vz g;unfold EvI at hi;refine⟨_,Zf8 (cs:=cs) xs mk o hi (by rw[X8];omega) hb (λx hx=>(ho x hx).1),?_⟩;rw[OT.data_nd,Qq];exact YW _ (Qk λx hx=>(ho x hx).2)
theorem Zek{ts:List OT}(h:EvV e δ d)(hi:δ[i]? =YB (YB (.nd ts)))(hl:ts.length<=1000000):Yh i e δ= .nx (δ.set i (YB (.nd (ts++[.fz d])))):=by
 obtain⟨_,e1,d1⟩:=h;rw[Ziu,hi,Zuf,e1,Yd,hi,Zuf,Zzk hl,d1]
def Zey{o:OT}(h:e δ=YB (o,δ)):wE e (J7 i) δ= .nx (δ.set i (YB o)):=by rw[Zdp,h,Yd,Zxd]
theorem Zyp{o:OT}(h:δ[i]? =YB (YB o))(hd:o.data=d):Zmf (Zb9 i) δ d:=⟨o,_,by rw[Zwc,h,Z7l],hd⟩
def Zlg{o:OT}(h:δ[i]? =YB (YB o))(k:S (δ.set i (YB (.fz o.data)))=r):Za1 i S δ=r:=by rw[Zpo,h,Z7l,k]
def Zvf{n:Nat}(hl:xs.length=np)(k:S (Zck n xs)= .nx δ'):Told (Jv np n S) xs .none:=⟨_,by rw[Zke hl,k,Z4t],OT.data_fz _⟩
def Zbq{n:Nat}{c:Str}(hl:xs.length=np)(k:S (Zck n xs)= .ex c δ'):Jv np n S xs= .exn c:=by rw[Zke hl,k,Z4s]
def J6{c:Str}(h:S δ= .ex c δ'):Zt S S' δ= .ex c δ':=by rw[Zm1,h,Yas]
theorem Told.ok{F:FD}{b:Bool}(h:Told F ds (.bool b)):F ds= .ok (.fz (.bool b)):=by
 obtain⟨o,e1,d1⟩:=h;rw[e1,Zgt d1]
def Zoy{o:OT}{i:Int}(h:o.data= .int i):o= .fz (.int i):=by
 cases o with
 | fz d=>rw[OT.data_fz]at h;rw[h]
 | nd ts=>rw[OT.data_nd]at h;cases h
 | tp ts=>rw[OT.data_tp]at h;cases h
 | dc _ _ _=>rw[OT.data_dc]at h;cases h
theorem Told.int{F:FD}{i:Int}(h:Told F ds (.int i)):F ds= .ok (.fz (.int i)):=by
 obtain⟨o,e1,d1⟩:=h;rw[e1,Zoy d1]
def Zuj{o:OT}(h:o.data= .none):o= .fz .none:=by
 cases o with
 | fz d=>rw[OT.data_fz]at h;rw[h]
 | nd ts=>rw[OT.data_nd]at h;cases h
 | tp ts=>rw[OT.data_tp]at h;cases h
 | dc _ _ _=>rw[OT.data_dc]at h;cases h
def Told.of{F:FD}{o:OT}(h:F ds= .ok o)(hd:o.data=d):Told F ds d:=⟨o,h,hd⟩
end
section
variable {e a b:FE}{as:FA}{δ δ':Ze}{x y d:Xa}{xs ds:List Xa}{i j:Int}{k:Nat}{p q:Bool}{t u:FT}{S S':FS}{r:RS}{Q:Xa->Prop}
def Wb(ha:EvV a δ (.int i))(hb:EvV b δ (.int j))(h:j≠0):EvV (Zd Js a b) δ (.int (i.fmod j)):=Zo ha hb (Z74 h)
def Z6y{i j:Int}(h:(decide (0<j)&&decide (j<18446744073709551616))=YD):Zaz (.int i) (.int j)=YB (.int (i.fdiv j)):=by
 rw[XJ,decide_eq_true_eq,decide_eq_true_eq]at h;exact Z0n (Z3q (n:=64) (!0) (Bt.of_lt (!0) (!0)))
def Zet(ha:EvV a δ (.int i))(hb:EvV b δ (.int j))(h:(decide (0<j)&&decide (j<18446744073709551616))=YD:=by decide):EvV (Zd Zaz a b) δ (.int (i.fdiv j)):=Zo ha hb (Z6y h)
def Zhs(ha:EvV a δ (.int i))(hb:EvV b δ (.int j))(h:i.natAbs<2^64:=by decide):EvV (Zd Zhw a b) δ (.int (i*j)):=Zo ha hb (Zzc (Z6r h))
def Znc(ha:EvV a δ (.int i))(hb:EvV b δ (.int j))(h:j.natAbs<2^64:=by decide):EvV (Zd Zhw a b) δ (.int (i*j)):=Zo ha hb (Zzc (Ybe h))
theorem Zls(ha:EvV a δ (.int i))(hb:EvV b δ (.int j))(h:decide (i<j)=p):EvV (Zd gLt a b) δ (.bool p):=h▸Zo ha hb rfl
def Zmi(ha:EvV a δ (.int i))(hb:EvV b δ (.int j))(h:decide (j<i)=p):EvV (Zd gGt a b) δ (.bool p):=h▸Zo ha hb (Yes _ _)
def Z5n(ha:EvV a δ (.int i))(hb:EvV b δ (.int j))(h:decide (j<=i)=p):EvV (Zd gGe a b) δ (.bool p):=h▸Zo ha hb (Ydx _ _)
def Zde(ha:EvV a δ (.int i))(hb:EvV b δ (.int j))(h:decide (i=j)=p):EvV (Zd gEq a b) δ (.bool p):=h▸Zo ha hb (Yet _ _)
def Z8w(ha:EvV a δ (.int i))(hb:EvV b δ (.int j))(h:(!decide (i=j))=p):EvV (Zd gNe a b) δ (.bool p):=h▸Zo ha hb (Yev _ _)
def Zo8(ha:EvV a δ (.int i)):EvV (fUn Zq7 a) δ (.int (-i)):=Yft ha (Z6d _)
def Zhr(h:EvV e δ (.list ds)):EvV (Zem Zi3 (Zf e Z5)) δ (.int ds.length):=Zhg (Zb h Zh) (Ya3 ds)
def Zfj(ha:EvV a δ (.list ds))(hb:EvV b δ (.int i))(h:atI ds i=YB d):EvV (Z4 gIx a b) δ d:=Zfu ha hb (by rw[Z54,h];rfl)
def Zkf(S:FS)(δ:Ze)(Q:Xa->Prop):Prop:=∃d,Zmf S δ d/\Q d
def Wn(h:S δ= .nx δ')(k:Zkf S' δ' Q):Zkf (Zt S S') δ Q:=k.imp λ_ k=>⟨Z2 h k.1,k.2⟩
def Zjq(k:Zkf S δ Q):Zkf (Zt S S') δ Q:=k.imp λ_ k=>⟨Zbg k.1,k.2⟩
def Zeh(h:EvV e δ d)(k:Q d):Zkf (wE e Zam) δ Q:=⟨d,Za5 h,k⟩
def Zt7(h:EvT t δ YD)(k:Zkf S δ Q):Zkf (Ws t S S') δ Q:=k.imp λ_ k=>⟨Zgh h k.1,k.2⟩
def Yjf{o:OT}(h:δ[k]? =YB (YB o))(hd:Q o.data):Zkf (Zb9 k) δ Q:=⟨_,Zyp h rfl,hd⟩
def Zli{np n:Nat}(hl:xs.length=np)(h:Zkf S (Zck n xs) Q):∃d,Told (Jv np n S) xs d/\Q d:=h.imp λ_ k=>⟨Yk hl k.1,k.2⟩
def Zim{it:FI}{g:FG}(I:Nat->Ze->Prop)(hi:EvI it δ ds)(h0:I 0 δ)(turn:∀(i:Nat) (d:Xa) (δ:Ze),ds[i]? =YB d->I i δ->∃δ1 δ2,g d δ=YB δ1/\(S δ1= .nx δ2\/S δ1= .ct δ2)/\I (i+1) δ2)(k:∀δ',I ds.length δ'->Zkf S' δ' Q):Zkf (Zt (Jx it g S) S') δ Q:=by
 obtain⟨δ',e,h⟩:=Zlk I h0 turn;exact Wn (Zal hi e) (k δ' h)
theorem Zpg{it:FI}{g:FG}(I:Nat->Ze->Prop)(hi:EvI it δ ds)(h0:I 0 δ)(turn:∀(i:Nat) (d:Xa) (δ:Ze),ds[i]? =YB d->I i δ->∃δ1 δ2,g d δ=YB δ1/\(S δ1= .nx δ2\/S δ1= .ct δ2)/\I (i+1) δ2)(k:∀δ',I ds.length δ'->Zmf S' δ' d):Zmf (Zt (Jx it g S) S') δ d:=by
 obtain⟨δ',e,h⟩:=Zlk I h0 turn;exact Z2 (Zal hi e) (k δ' h)
def Zst{it:FI}{g:FG}(I:Nat->Ze->Prop)(hi:EvI it δ ds)(h0:I 0 δ)(turn:∀(i:Nat) (d:Xa) (δ:Ze),ds[i]? =YB d->I i δ->∃δ1 δ2,g d δ=YB δ1/\(S δ1= .nx δ2\/S δ1= .ct δ2)/\I (i+1) δ2):∃δ',Jx it g S δ= .nx δ'/\I ds.length δ':=by
 obtain⟨δ',e,h⟩:=Zlk I h0 turn;exact⟨δ',Zal hi e,h⟩
def Z21{m n:Nat}(h:EvA as δ [.int m,.int n])(hm:m<=1000000)(hn:n<=1000000):EvI (iRb as) δ (Zdk m (n-m)):=by
 obtain⟨_,e1,d1⟩:=h;unfold EvI;rw[Yab,e1,Xh,d1,Yd4,Z2u (!0) (!0) (!0) (!0),show((n:Int)-(m:Int)).toNat=n-m by omega]
theorem Zby:wE (Zc2 Z5) (J7 k) δ= .nx (δ.set k (YB (.nd []))):=Zey (by rw[Znh];rfl)
def Zi8{i:Int}(h:0<j):0<=i.fmod j:=by rw[Znz h];exact Int.emod_nonneg _ (!0)
def Zjg{i:Int}(h:0<j):i.fmod j<j:=by rw[Znz h];exact Int.emod_lt_of_pos _ h
def Jo(i:Int){n:Nat}(h:0<n):∃m:Nat,i.fmod (n:Int)=m/\m<n:=by
 have h0:=Zi8 (i:=i) (j:=n) (!0);have h1:=Zjg (i:=i) (j:=n) (!0);exact⟨(i.fmod n).toNat,by omega,by omega⟩
def Ztu{o:OT}(h:δ[k]? =YB (YB o))(g:Zkf S (δ.set k (YB (.fz o.data))) Q):Zkf (Za1 k S) δ Q:=by
 obtain⟨d,⟨o',δ2,e,hd⟩,hq⟩:=g;exact⟨d,⟨o',δ2,Zlg h e,hd⟩,hq⟩
def Z39{o:OT}{ts0:List OT}(h:e δ=YB (o,δ'))(h0:δ[k]? =YB (YB (.nd ts0)))(h1:δ'[k]? =YB (YB (.nd ts)))(hl:ts.length<=1000000):Yh k e δ= .nx (δ'.set k (YB (.nd (ts++[.fz o.data])))):=by
 rw[Ziu,h0,Zuf,h,Yd,h1,Zuf,Zzk hl]
def Z4w{es:List Xa}(h:EvA as δ ds)(hz:Z8a ds=YB es):EvI (Zq1 as) δ es:=by
 obtain⟨_,e1,d1⟩:=h;unfold EvI Zq1;rw[e1,Xh,d1,hz,Xh]
def Z8s{xs:List Str}{D c:Str}{h:FS}{δ2:Ze}(e:S δ= .ex c δ')(hc:(xs.contains c&&Zqy c D)=YD)(hh:h (δ'.set k (YB (.fz (exD c))))= .nx δ2):Zxw xs S D k h δ= .nx (δ2.set k YC):=by
 unfold Zxw;rw[e];dsimp only;rw[YM hc,hh]
def Zyt{xs:List Str}{D x:Str}(ha:EvV a δ (exD x))(h:xs.contains x=YD)(hd:Zqy x D=p):EvV (Zmn xs D a) δ (.bool p):=by
 obtain⟨_,e1,d1⟩:=ha;exact⟨_,by unfold Zmn;rw[e1,Xh,d1,show Ziv (exD x)=YB x from rfl,Xh,YM h],by rw[OT.data_fz,hd]⟩
def Z3z{xs Ds:List Str}{x:Str}(ha:EvV a δ (exD x))(h:xs.contains x=YD)(hd:Ds.any (Zqy x)=p):EvV (Zn4 xs Ds a) δ (.bool p):=by
 obtain⟨_,e1,d1⟩:=ha;exact⟨_,by unfold Zn4;rw[e1,Xh,d1,show Ziv (exD x)=YB x from rfl,Xh,YM h],by rw[OT.data_fz,hd]⟩
def Zn3{it:FI}{g gg:FG}{δ1:Ze}(I:Nat->Ze->Prop){J:Ze->Prop}(hg:gg d δ=YB δ1)(hi:EvI it δ1 ds)(h0:I 0 δ1)(turn:∀(i:Nat) (d:Xa) (δ:Ze),ds[i]? =YB d->I i δ->∃δ1 δ2,g d δ=YB δ1/\(S δ1= .nx δ2\/S δ1= .ct δ2)/\I (i+1) δ2)(hJ:∀δ',I ds.length δ'->J δ'):∃δ1 δ2,gg d δ=YB δ1/\(Jx it g S δ1= .nx δ2\/Jx it g S δ1= .ct δ2)/\J δ2:=by
 obtain⟨δ',e,h⟩:=Zlk I h0 turn;exact⟨δ1,δ',hg,.inl (Zal hi e),hJ δ' h⟩
def Zum{f h:Int->Int->Bool}{c d:FE}{m n:Int}(ha:EvV a δ (.int i))(hb:EvV b δ (.int j))(hc:EvV c δ (.int m))(hd:EvV d δ (.int n)):EvV (Zcg f g h a b c d) δ (.bool (f i j&&(g j m&&h m n))):=by
 obtain⟨_,e1,d1⟩:=ha;obtain⟨_,e2,d2⟩:=hb;obtain⟨_,e3,d3⟩:=hc;obtain⟨_,e4,d4⟩:=hd;have io:∀i,intOf (.int i)=YB i:=λ_=>rfl;unfold EvV Zcg;rw[e1,Xh,e2,Xh,d1,io,Xh,d2,io,Xh];cases f i j with
 | false=>exact⟨_,rfl,OT.data_fz _⟩
 | true=>
  rw[YM rfl,e3,Xh,d3,io,Xh];cases g j m with
  | false=>exact⟨_,rfl,OT.data_fz _⟩
  | true=>exact⟨_,by rw[YM rfl,e4,Xh,d4,io,Xh];rfl,OT.data_fz _⟩
def Z4k{a b:FE}{bs es:List Xa}{as:List Xa}(ha:EvV a δ (.list as))(hb:EvV b δ (.list bs))(hz:Zme as bs=es):EvI (Zq1 (Zf a (Zf b Z5))) δ es:=Z4w (Zb ha (Zb hb Zh)) (YW YB hz)
def Z17(ha:EvV a δ (.list ds)):EvI (Zv7 (Zf a Z5)) δ (Zjl ds):=by
 obtain⟨_,e1,d1⟩:=Zb ha Zh;unfold EvI Zv7;rw[e1,Xh];dsimp only;rw[d1]
def Zpe{it:FI}{t:FT}(xs:List Y)(mk:Y->Xa)(pr:Y->Bool)(hi:EvI it δ (xs.map mk))(hz:xs.length<=1000000)(hb:blk 1 caps δ=YC::cs)(ht:∀x∈xs,EvT t (YB (.fz (mk x))::cs) (pr x))(h:∀x∈xs,pr x=YD->me (YB (.fz (mk x))::cs)=YB (.fz (mk x),YB (.fz (mk x))::cs)):EvV (Wk 1 caps it (gNm 0) t me) δ (.list ((xs.filter pr).map mk)):=by
 unfold EvI at hi;refine⟨_,Zkv (cs:=cs) xs mk pr (λx=>.fz (mk x)) hi (by rw[X8];omega) hb (λx hx=>ht x hx) h,?_⟩;rw[OT.data_nd,Qq];exact YW _ (Qk λx _=>OT.data_fz _)
theorem Told.none{F:FD}(h:Told F ds .none):F ds= .ok (.fz .none):=by
 obtain⟨o,e1,d1⟩:=h;rw[e1,Zuj d1]
end
end L2
namespace My
open PySem L2 PySem.Spec
def Zbt:FS :=
 (Zt (wE (Zem Ye7 (Zf (Z0 0) Z5)) (Y8 0))
  (Zt (wE (Zem Ye7 (Zf (Z0 1) Z5)) (Y8 1))
  (Zt (Zi0 (tV (Zd gNe (Z0 1) (fC (.int 0)))) (Zt (wE (Zd Js (Z0 0) (Z0 1)) (Y8 2))
  (Zt (wE (Z0 1) (Y8 0))
  (wE (Z0 2) (Y8 1)))))
  (wE (Z0 0) Zam))))
def W8:FD:=Jv 2 3 Zbt
def Zga:FS :=
 (Zt (wE (Yo W8 (Zf (Z0 0) (Zf (Z0 1) Z5))) (Y8 2))
  (Zt (Ws (tV (Zd gLt (Z0 1) (fC (.int 0))))
  (wE (fUn Zq7 (Z0 2)) (Y8 2))
  fNx)
  (wE (Zbv (Zf (Zd Zaz (Z0 0) (Z0 2)) (Zf (Zd Zaz (Z0 1) (Z0 2)) Z5))) Zam)))
def Zgc:FD:=Jv 2 3 Zga
def Zbz:FS :=
 (wE (Yce (Ycd "int" (Z0 0)) (fUn Yey (Ycd "bool" (Z0 0)))) Zam)
def Yz:FD:=Jv 1 1 Zbz
def Zku(i:Int):Yz [.int i]= .ok (.fz (.bool YD)):=rfl
def Zhc:FS :=
 (Zt (Ws (tO (tNo (tD (Yo Yz (Zf (Z0 0) Z5)))) (tO (tNo (tD (Yo Yz (Zf (Z0 1) Z5)))) (tV (Zd gEq (Z0 1) (fC (.int 0))))))
  (Zhl "NoNumber")
  fNx)
  (wE (Yo Zgc (Zf (Z0 0) (Zf (Z0 1) Z5))) Zam))
def Zrf:FD:=Jv 2 2 Zhc
def Zc3:FS :=
 (Zt (wE (fC (.int 1)) (Y8 1))
  (Zt (Jx (Zf0 (Z0 0)) (gNm 2)
  (wE (Zd Zhw (Zd Zaz (Z0 1) (Yo W8 (Zf (Z0 1) (Zf (Z4 gIx (Z0 2) (fC (.int 1))) Z5)))) (Z4 gIx (Z0 2) (fC (.int 1)))) (Y8 1)))
  (wE (Z0 1) Zam)))
def Zcz:FD:=Jv 1 3 Zc3
def Zdg:FS :=
 (Zt (wE (fC (.int 1)) (Y8 1))
  (Zt (Jx (Zf0 (Z0 0)) (gNm 2)
  (wE (Yo Zcz (Zf (Z4 Zer (Zc2 (Zf (Zbv (Zf (fC (.int 1)) (Zf (Z0 1) Z5))) Z5)) (Z0 2)) Z5)) (Y8 1)))
  (wE (Z0 1) Zam)))
def Znm:FD:=Jv 1 3 Zdg
def Zf1:FS :=
 (wE (Wk 1 [0] (Zf0 (Z0 1)) (gNm 0) Zh5 (Zd Zhw (Z4 gIx (Z0 0) (fC (.int 0))) (Zd Zaz (Z0 1) (Z4 gIx (Z0 0) (fC (.int 1)))))) Zam)
def Zfy:FD:=Jv 2 2 Zf1
def Ze0:FS :=
 (wE (Wk 1 [0] (Zf0 (Z0 1)) (gNm 0) Zh5 (Yo Zfy (Zf (Z0 1) (Zf (Z0 0) Z5)))) Zam)
def Zp7:FD:=Jv 2 2 Ze0
def Zca:FS :=
 (Zt (wE (Zc2 Z5) (J7 1))
  (Zt (Jx (iRa (Zf (Z0 0) Z5)) (gNm 2)
  (Jx (iRb (Zf (Zd Za0 (Z0 2) (fC (.int 1))) (Zf (Z0 0) Z5))) (gNm 3)
  (Yh 1 (Zbv (Zf (Z0 2) (Zf (Z0 3) Z5))))))
  (Zb9 1)))
def J5:FD:=Jv 1 4 Zca
def Zup(n:Nat):List (Nat×Nat):=(XC n).flatMap λi=>(XC (n-(i+1))).map λj=>(i,i+1+j)
def ptD(p:Nat×Nat):Xa:=.tuple [.int p.1,.int p.2]
def Zqi{n:Nat}{p:Nat×Nat}(h:p∈Zup n):p.1<p.2/\p.2<n:=by
 unfold Zup at h;obtain⟨i,hi,hp⟩:=List.mem_flatMap.mp h;obtain⟨j,hj,rfl⟩:=XF.mp hp;have:=Qj.mp hi;have:=Qj.mp hj;dsimp only;omega
def Zlo(n i:Nat):List (Nat×Nat):=(XC i).flatMap λi=>(XC (n-(i+1))).map λj=>(i,i+1+j)
theorem Zlx(n:Nat):∀i,(Zlo n i).length<=i*n
 | 0=>by simp[Zlo]
 | i+1=>by
  have:=Zlx n i;unfold Zlo at this|-
  rw[List.range_succ,List.flatMap_append,Xv];simp only[List.flatMap_cons,List.flatMap_nil,XX,Xd,X6];have e:(i+1)*n=i*n+n:=by rw[Nat.succ_mul]
  omega
def Zpu(n i:Nat):Zlo n (i+1)=Zlo n i++(XC (n-(i+1))).map λj=>(i,i+1+j):=by
 unfold Zlo;rw[List.range_succ,List.flatMap_append];simp
def Zmx(n:Nat)(hn:n<=1000):Told J5 [.int n] (.list ((Zup n).map ptD)):=by
 refine Yk rfl<|Z2 Zby<|Zpg (ds:=Zdk 0 n) (λi δ=>∃z1 z2,δ=[YB (.fz (.int n)),YB (.nd (((Zlo n i).map ptD).map OT.fz)),z1,z2]) (Zcx (Zb Za Zh) (!0)) ⟨_,_,rfl⟩ (λi d δ hd h=>?_) λδ' h=>?_
 .obtain⟨z1,z2,rfl⟩:=h
  obtain⟨hi,rfl⟩:=Zap hd;rw[Int.zero_add];have ln:=Zlx n i;have l2:i*n<=999*1000:=Nat.mul_le_mul (!0) hn;refine Zn3 (ds:=Zdk ((i+1:Nat):Int) (n-(i+1))) (λj δ=>∃z,δ=[YB (.fz (.int n)),YB (.nd (((Zlo n i++(XC j).map λj=>(i,i+1+j)).map ptD).map OT.fz)),YB (.fz (.int i)),z]) rfl (Z21 (m:=i+1) (Zb (EvV.cast (Jd Za Zy) rfl) (Zb Za Zh)) (!0) (!0)) ⟨z2,by rw[List.range_zero,List.map_nil,XX];rfl⟩ (λj d δ hd h=>?_) λδ' h=>?_
  .obtain⟨z,rfl⟩:=h
   obtain⟨hj,rfl⟩:=Zap hd;refine⟨_,_,rfl,.inl (Zek (Zbb (Zb Za (Zb Za Zh)) (show 2<=1000 by decide)) rfl (by rw[Xd,Xd,Xv,Xd,X6];omega)),YB (.fz (.int (((i+1:Nat):Int)+j))),?_⟩;rw[List.range_succ];simp only[Qx,QF];rfl
  .obtain⟨z,rfl⟩:=h
   rw[Wf,<-Zpu];exact⟨_,_,rfl⟩
 .obtain⟨z1,z2,rfl⟩:=h
  rw[Wf];exact Zyp rfl (by rw[OT.data_nd,OT.map_fz];rfl)
end My
namespace My
open PySem L2 PySem.Spec
def Zak:FS :=
 (Zt (Ws (tV (Zd gLt (Z0 1) (Zem Zi3 (Zf (Z0 0) Z5))))
  (wE (Z4 gIx (Z0 0) (Z0 1)) Zam)
  fNx)
  (wE (fC (.int 0)) Zam))
def We:FD:=Jv 2 2 Zak
def Zgj:FS :=
 (Zt (Ws (tV (Zd gEq (Zd Js (Zd Zaz (Z0 0) (fC (.int 7))) (fC (.int 8))) (fC (.int 3))))
  (wE (Zd Za0 (Zd Za0 (Z0 2) (fC (.int 1))) (Zd Js (Zd Zaz (Z0 0) (fC (.int 56))) (Zd gSb (Z0 3) (Z0 2)))) Zam)
  fNx)
  (wE (Zd Za0 (Z0 1) (Zd Js (Z0 0) (Zd gSb (Zd Za0 (Z0 2) (fC (.int 1))) (Z0 1)))) Zam))
def Zr4:FD:=Jv 4 4 Zgj
def Zg5:FS :=
 (Zt (wE (Zd Js (Zd Zhw (Zd Za0 (Zd Za0 (Zd Js (Z0 0) (fC (.int 2147483629))) (Zd Zhw (fC (.int 9973)) (Z0 1))) (fC (.int 5))) (fC (.int 48271))) (fC (.int 2147483647))) (Y8 2))
  (Zt (wE (Zd Js (Zd Zhw (Z0 2) (Z0 2)) (fC (.int 2147483587))) (Y8 2))
  (wE (Zd Zaz (Zd Js (Zd Zhw (Zd Za0 (Z0 2) (Zd Zhw (fC (.int 7919)) (Z0 1))) (fC (.int 16807))) (fC (.int 2147483563))) (fC (.int 8))) Zam)))
def Zgl:FD:=Jv 2 3 Zg5
def Zec:FS :=
 (Zt (wE (Zc2 Z5) (J7 2))
  (Zt (wE (Z0 0) (Y8 3))
  (Zt (Jx (iRa (Zf (Z0 1) Z5)) (gNm 4)
  (Zt (wE (Yo Zgl (Zf (Z0 0) (Zf (Z0 4) Z5))) (Y8 5))
  (Zt (Ws (tV (Zd gGe (Z0 0) (Zd Zrl (fC (.int 10)) (fC (.int 18)))))
  (wE (Zd Js (Z0 3) (fC (.int 720720))) (Y8 5))
  fNx)
  (Zt (wE (Zd Zaz (Z0 3) (fC (.int 720720))) (Y8 3))
  (Yh 2 (Z0 5))))))
  (Zb9 2))))
def Zoz:FD:=Jv 2 6 Zec
def Zn(p:List Int):Xa:=.list (p.map Xu)
def Zxg{p:List Int}{i:Int}(h0:0<=i)(h1:i<p.length):atI (p.map Xu) i=YB (.int (p.getD i.toNat 0)):=by
 rw[Zn6 h0,Xi,Xj (!0)];simp[Xm,Xj (show i.toNat<p.length by omega)]
def Ww{a b:FE}{p:List Int}{i:Int}(ha:EvV a δ (Zn p))(hb:EvV b δ (.int i))(h0:0<=i)(h1:i<p.length):EvV (Z4 gIx a b) δ (.int (p.getD i.toNat 0)):=Zfj ha hb (Zxg h0 h1)
def Zcu{a:FE}{δ:Ze}{p:List Int}(ha:EvV a δ (Zn p)):EvV (Zem Zi3 (Zf a Z5)) δ (.int p.length):=by
 have:=Zhr (ds:=p.map Xu) ha
 rwa[Xd]at this
def Ydw:Zrl (.int 10) (.int 18)=YB (.int 1000000000000000000):=rfl
def Zp1(ns:List Int){k:Int}(h0:0<=k):∃c,We [Zn ns,.int k]= .ok (.fz (.int c)):=by
 by_cases c:k<ns.length
 .exact⟨_,Told.int<|Yk rfl<|Zbg (Zgh (Jp (Zls Za (Zcu Za) (YS c))) (Za5 (Ww Za Za h0 c)))⟩
 .exact⟨_,Told.int<|Yk rfl<|Z2 (Z6 (Jp (Zls Za (Zcu Za) (YT c))) rfl) (Za5 Zy)⟩
def Zoh{e:FE}{vs:List Int}{v:Int}(h:EvV e δ (.int v))(hi:δ[i]? =YB (YB (.nd (vs.map λv=>.fz (.int v)))))(hl:vs.length<=1000000):Yh i e δ= .nx (δ.set i (YB (.nd ((vs++[v]).map λv=>.fz (.int v))))):=by
 rw[Zek h hi (by rw[Xd];exact hl),Qx];rfl
def Z34(p:List Int):(OT.nd ((p.map Xu).map OT.fz)).data=Zn p:=by
 rw[OT.data_nd,OT.map_fz];rfl
def Zws(vs:List Int):(OT.nd (vs.map λv=>OT.fz (.int v))).data=Zn vs:=by rw[OT.data_nd,Zqn];rfl
end My
namespace L2
open PySem PySem.Spec PyProof.Rows
variable {G:Xc}
section
variable {X:Cx}{io:List Nat}{p c:Bool}{e a b:YJ}{es:List YJ}{m mj:MEt}{pos apos cpos px sp kp:Pos}{i:Nat}{x:Str}{fa fb:FE}{st:YK}
def Zou(i:Nat)(mj m:MEt):MSt:=λD δ=>match δ[i]? with
 | some (YB (.nd ts))=>mj δ λn _=>match n.data with
  | .int k=>match ixN ts.length k with
   | some j=>match ts[j]? with
    | some (.nd us)=>m δ λr _=>us.length<Xw/\D.nx (δ.set i (YB (.nd (ts.set j (.nd (us++[.fz r.data]))))))
    | _=>False
   | none=>False
  | _=>False
 | _=>False
def Zo9(i:Nat)(hj:ME X io YD c a mj)(he:ME X io YD YD e m)(hPa:Zi5 a:=by exact λ_ _=>rfl)(hN:X.N[i]? =YB x:=by rfl)(hv:Vis X.env.scope x:=by first|exact QG rfl|exact Qz (QG rfl)|exact Qz (Qz rfl))(hd:(x==("__debug__" : Str))=YF:=by decide)
  (hcd:(x==("__classdict__" : Str))=YF:=by decide)
  (hbase:Ue (.Subscript (.Name x px) a sp) "append" X.env (eval (.Subscript (.Name x px) a sp) X.env)=eval (.Subscript (.Name x px) a sp) X.env:=by rfl)
  (hfew:((Q3 cpos (Xo [e] X.env)).all (λx=>!x.1)&&(backToKw cpos (U7 [] X.env)).all (λx=>x.1.isSome)
   &&decide ([e].length+([]:List V8).length+(if([]:List V8).isEmpty then 0 else 1)<30))=YD:=by rfl)
  (hline:(apos.endLine==cpos.line)=YD:=by rfl) (hs:Xo [e] X.env=(YF,eval e X.env)::Xo [] X.env:=by rfl) (hplain:(Q3 cpos (Xo [] X.env)).any (·.1)=YF:=by rfl)
  (hsw:Vi (.Call (.Attribute (.Subscript (.Name x px) a sp) "append" apos) [e] [] cpos) YC pos.line X.env=pure YF:=by rfl) :
  MS X io (.Expr (.Call (.Attribute (.Subscript (.Name x px) a sp) "append" apos) [e] [] cpos) pos) (Zou i mj m):=by
 obtain⟨_,A,s⟩:=he;obtain⟨_,B,sj⟩:=hj;refine⟨_,Zi7 (Zuq Ut PySem.F.slot_list_append PySem.F.type_list_append Zhh (Z5u (Zxv rfl) (pv i hN hv hd hcd) B hPa) (Zz A Zcl hs) hbase hfew hline hs hplain) hsw,λC H O δ fp ex D D' R h E=>?_⟩;unfold Zou at h;split at h
 case h_2=>exact h.elim
 rename_i ts hi;obtain⟨a',_,_,hv0,_⟩:=R.ownNd hi;refine⟨_,hv0,?_⟩;refine sj.pureAfter R h λH2 w n R2 s2 q2 h2=>?_;obtain⟨k,rfl,h2⟩:=q2.intInv h2;split at h2
 case h_2=>exact h2.elim
 rename_i j hj;split at h2
 case h_2=>exact h2.elim
 rename_i us hus;obtain⟨a2,xs2,bs2,hv2,hx2,o2,hf2⟩:=R2.ownNd hi;rw[hv0]at hv2;cases hv2;obtain⟨xr,cr,hxr,orow,_⟩:=o2.get hus;obtain⟨b',ws0,rfl,hb0⟩:∃b' ws0,xr=V.ref b'/\H2 b'=YB (.lst ws0):=by
  cases orow with
  | nd h r=>exact⟨_,_,rfl,h⟩
 refine⟨a',xs2,k,V.ref b',rfl,rfl,.inl (.inl hx2),?_,?_⟩
 .unfold atI
  rw[o2.length,hj];exact hxr
 refine⟨.inl ⟨rfl,ws0,.inl (.inl hb0)⟩,?_⟩;refine s.pureAfter R2 h2 λH3 v r R3 s3 q h3=>?_;obtain⟨a3,xs3,bs3,hv3,hx3,o3,hf3⟩:=R3.ownNd hi;rw[hv0]at hv3;cases hv3;have exs:xs3=xs2:=by
  have:=s3 _ _ hx2;rw[hx3]at this;cases this;rfl
 subst exs;obtain⟨xr3,cr3,hxr3,orow3,hsub3⟩:=o3.get hus;rw[hxr]at hxr3;cases hxr3;have nd3:=R3.nd i;rw[hf3]at nd3;have hn3:=Qt.mp nd3;cases orow3 with
 | nd hb r3=>
  rename_i ws3 bs4;have hbm:b'∈bs3:=hsub3.subset (.head _);have hbf:b'∈fp i:=by rw[hf3];exact .tail _ hbm
  have hLb:¬Lf C fp ex b':=λl=>l.1 ⟨i,hbf⟩;have q':=q.wide (L':=Lf C fp ex) λa l _=>l rfl;obtain⟨as',oo,ss,_⟩:=Owns.deep (ws':=ws3++[v]) (us':=us++[.fz r.data]) hb hLb (λcs hcs=>⟨cs,by have:=hcs.snoc (.fz q');simpa using this,List.Sublist.refl _⟩) o3 hn3.2 hxr hus;refine⟨b',ws3,v,rfl,rfl,hb,by rw[r3.length];exact h3.1,?_⟩;have hba:a'≠b':=λz=>hn3.1 (z▸hbm);have sub:∀a,a∈a'::as'->a∈fp i:=λa m=>by
   rw[hf3];rcases Xn.mp m with rfl|m
   .exact .head _
   .exact .tail _ (ss.subset m)
  have kp:∀b o,H3 b=YB o->b≠b'->upd H3 b' (.lst (ws3++[v])) b=YB o:=λb o e n=>by rw[Zk n];exact e
  have lw:∀a,Lf C fp ex a->upd H3 b' (.lst (ws3++[v])) a≠YC->Lf C (fpu fp i (a'::as')) (exu ex []) a:=λa l _=>⟨λz=>by
   rcases z.of_u with z|⟨j,_,z⟩
   .exact l.1 ⟨i,sub a z⟩
   .exact l.1 ⟨j,z⟩,λz=>l.2.1 (Zbp.mp z),l.2.2⟩
  obtain⟨R4,S4⟩:=R3.change (new:=[]) (as':=a'::as') (t':=.nd (ts.set j (.nd (us++[.fz r.data])))) (H':=upd H3 b' (.lst (ws3++[v]))) hi hv0 (λb o e nb=>kp b o e λz=>nb (by rw[z];exact hbf)) (λb e=>by
   by_cases q:b=b'
   .subst q;rw[Zq]at e;cases e
   .rwa[Zk q]at e) (.nd (by rw[Zk hba];exact hx3) (oo.wide lw)) (Qt.mpr ⟨λm=>hn3.1 (ss.subset m),hn3.2.sublist ss⟩) (λa m=>.inl (sub a m)) (λa m=>nomatch m)
  have k1:Kp H fp H3 fp:=⟨λb o e _=>s3 _ _ (s2 _ _ e),λz=>(nomatch z),λa z=>.inl z,λb e=>s2.al b (s3.al b e)⟩;exact E.nx _ O _ _ (R4.drop λa z=>.inl z) (k1.trans S4.kp) h3.2
def Zix(i:Nat)(j e:FE):FS:=λδ=>match δ[i]? with
 | some (YB (.nd ts))=>wE j (λn _=>match n.data with
  | .int k=>match ixN ts.length k with
   | some j=>match ts[j]? with
    | some (.nd us)=>wE e (λr _=>if us.length<Xw then .nx (δ.set i (YB (.nd (ts.set j (.nd (us++[.fz r.data]))))))else .bad) δ
    | _=>.bad
   | none=>.bad
  | _=>.bad) δ
 | _=>.bad
def Zny(h:MS X io st (Zou i (o2 fb) (o2 fa))):MS X io st (oS (Zix i fb fa)):=h.weak λD δ h=>by
 unfold oS Zix at h;unfold Zou;split at h
 case h_2=>exact h.elim
 rename_i q;(try rw[q]);(try dsimp only);refine(Zmt h).imp λn δ' z=>?_;split at z
 case h_2=>exact z.elim
 rename_i k q1;(try rw[q1]);(try dsimp only);split at z
 case h_2=>exact z.elim
 rename_i j q2;(try rw[q2]);(try dsimp only);split at z
 case h_2=>exact z.elim
 rename_i us q3;(try rw[q3]);(try dsimp only);exact(Zmt z).imp λr δ' z=>Zei z
end
variable {G:Xc}
section
variable {X:Cx}{io:List Nat}{p c p' c':Bool}{a b e:YJ}{ma mb m:MEt}{pos pp:Pos}{x:Str}
def Z9t{n:Int}{t:Tok}(hg:Gl X x)(hm:X.mg x=YB (.int n t))(hdb:(x==("__debug__" : Str))=YF:=by decide):ME X io YD YD (.Name x pos) (mC (.int n)) :=
 ⟨_,Yu (v:=.int n) hg hm ⟨t,rfl⟩ hdb,λC H O δ fp ex K Q R h k=>k H (.int n) _ δ fp [] (.fz R (.refl _ _ _ _) (.int n)) h⟩
def Zyq(ma mb:MEt):MEt:=λδ K=>ma δ λrk _=>∃k:Int,rk.data= .int k/\mb δ λrv _=>K (.dc YF [.inl (.inl k)] [rv.data]) δ
def Z1p(ha:ME X io YD c a ma)(hb:ME X io YD YD b mb):ME X io YD YD (.Dict [YB a] [b] pos) (Zyq ma mb):=by
 obtain⟨_,A,sa⟩:=ha;obtain⟨_,B,sb⟩:=hb;refine⟨_,Z4l (Zx6 A B Z2k) rfl rfl (λz=>nomatch z) (show 1<=15 by decide),λC H O δ fp ex K Q R h kk q hq=>?_⟩;have s0:Same H (upd H q (.dK [])):=Zw hq _;have R0:Rel C io (upd H q (.dK [])) O δ fp (exu ex [q]):=R.made s0 λa m=>by
  rw[Xp.mp m];exact⟨hq,by rw[Zq];exact Option.some_ne_none _⟩
 refine sa.pureAfter R0 h λH1 v r R1 s1 q1 h1=>?_;obtain⟨k,hk,h1⟩:=h1;rw[hk]at q1;have hv:v= .int k:=by cases q1;rfl
 refine sb.pureAfter R1 h1 λH2 v2 r2 R2 s2 q2 h2=>?_;have e2:H2 q=YB (.dK []):=s2 _ _ (s1 _ _ Zq);refine⟨e2,[(.inl k,v2)],by rw[hv];rfl,show 1<=15 by decide,?_⟩;have keep:∀b o,H2 b=YB o->b≠q->upd H2 q (.dK (Zfm [] [(.inl k,v2)])) b=YB o:=λb o e n=>by rw[Zk n];exact e
 have sm:Same H (upd H2 q (.dK (Zfm [] [(.inl k,v2)]))):=λb o e=>keep b o (s2 _ _ (s1 _ _ (s0 _ _ e))) λz=>by rw[z,hq]at e;cases e
 have d3:Da X.K (upd H2 q (.dK (Zfm [] [(.inl k,v2)]))) (λa=>((YD=YD->Lf C fp ex a)\/H a=YC)/\a∉[q]) v2 r2.data:=q2.frame (λa xs l e=>by
  have l:=l rfl;have n:a≠q:=λz=>l.2.1 (.inr (Xp.mpr z));exact⟨⟨.inl λ_=>⟨l.1,λz=>l.2.1 (.inl z),l.2.2⟩,λm=>n (Xp.mp m)⟩,e.imp (λe=>keep a _ e n) λz=>z.imp λo e=>keep a _ e n⟩) λa xs e=>keep a _ e λz=>by
   rw[z,e2]at e;cases xs<;>cases e
 exact kk _ _ _ δ fp [q] (RE.tree (H1:=H) R R (Stp.same (Same.refl H) λ_ z=>z) sm (Zaw hq) (Zcd q) (.dc (o:=.dK [(.inl k,v2)]) Zq ⟨rfl,rfl,rfl⟩ (.cons d3 .nil))) h2
def Zz6(a b:FE):FE:=λδ=>(a δ).bind λp=>match p.1.data with
 | .int k=>(b δ).bind λq=>YB (.dc YF [.inl (.inl k)] [q.1.data],δ)
 | _=>YC
def Zyk(h:ME X io p c e (Zyq (o2 fa) (o2 fb))):ME X io p c e (o2 (Zz6 fa fb)):=h.weak λδ K z=>by
 obtain⟨r,δ',h,k⟩:=z;obtain⟨⟨x,δ1⟩,h1,h⟩:=bs h;dsimp only at h;split at h
 case h_2=>cases h
 rename_i n hn;obtain⟨⟨y,δ2⟩,h2,h⟩:=bs h;cases h;exact⟨x,δ1,h1,n,hn,y,δ2,h2,k⟩
end
variable {G:Xc}
def Zkz:List Xa->Option (List Str)
 | []=>YB []
 | .str x::ds=>(Zkz ds).map (x::·)
 | _::_=>YC
def Das.strs:∀{xs:List V} {ds:List Xa} {ts:List Str},Das G H L xs ds->Zkz ds=YB ts->xs=ts.map V.str
 | _,[],_,.nil,h=>by cases h;rfl
 | _,d::ds,_,.cons h r,e=>by
  cases d with
  | str x=>
   rw[Zkz]at e;obtain⟨ts,e1,rfl⟩:=Qe.mp e;cases h;rw[r.strs e1];rfl
  | _=>cases e
theorem Zlp:∀{ts:List Str} {us:List Xe},Vals (ts.map V.str) us->∃l:List (Str×Tok),us=strValues l/\l.map (·.1)=ts
 | [],_,r=>by cases r;exact⟨[],rfl,rfl⟩
 | t::ts,_,r=>by
  rw[X7]at r;cases r with
  | cons h r=>
   obtain⟨k,rfl⟩:=h;obtain⟨l,rfl,rfl⟩:=Zlp r;exact⟨(t,k)::l,rfl,rfl⟩
section
variable {X:Cx}{K:Xc}
def rJoin(K:Xc):V->List V->Hp->VK->Prop:=λx vs H Q=>∃sep b ts,x= .str sep/\vs=[.ref b]/\SqL K H b (ts.map V.str)/\JoinOk sep ts=YD/\Q (.str (PySem.Txt.join sep ts)) H
theorem Z11(hK:X.K=K):MtR X "str.join" (rJoin K):=by
 intro pins s O H x vs v us Q I rx rv h;obtain⟨sep,b,ts,rfl,rfl,hb,ok,q⟩:=h;obtain⟨t,rfl⟩:=rx;obtain⟨u,rfl,ru⟩:=rv.one;cases ru;obtain⟨its,n,r,hl,o,e1,e2,e3,e4⟩:=I.lstQ hK hb;obtain⟨l,rfl,hl2⟩:=Zlp r;exact SC.join (l:=l) (texts:=ts) ⟨o,e1,e2,n,e4⟩ hl2 ok λt' k=>⟨.str _,H,I.tok k,⟨t',rfl⟩,q⟩
end
section
variable {X:Cx}{io:List Nat}{p c p' c':Bool}{o e:YJ}{es:List YJ}{mo:MEt}{mr:MAt}{apos cpos:Pos}{r:V->List V->Hp->VK->Prop}{name:Str}{id:String}
def PMs(G:Xc)(r:V->List V->Hp->VK->Prop)(g:Str->List Xa->Option Xa):Prop:=∀(H:Hp) (L:YG->Prop) (z:Str) (xs:List V) (ds:List Xa) (d:Xa) (Q:VK),Das G H L xs ds->g z ds=YB d->(∀v,ScD v d->Q v H)->r (.str z) xs H Q
def Ydk(g:Str->List Xa->Option Xa)(mo:MEt)(mr:MAt):MEt:=λδ K=>mo δ λro δ1=>∃z,ro.data= .str z/\mr δ1 λrs δ2=>∃d,g z (OT.datas rs)=YB d/\K (.fz d) δ2
def Da.strInv{v:V}{z:Str}(h:Da G H L v (.str z)):v= .str z:=by cases h;rfl
def Yja{g:Str->List Xa->Option Xa}{t:TA}(P:PMs G r g)(so:SE G io p c to mo)(sa:SA G io p' c' t mr):SE G io (p&&p') YD (tBM G "str" r to t) (Ydk g mo mr):=λC H O δ fp ex K Q R h kk=>
 so C H O δ fp ex _ _ R h λH1 v ro δ1 fp1 new1 r1 h1=>by
  obtain⟨z,hz,h1⟩:=h1;have q:=r1.da R;rw[hz]at q;cases q.strInv;exact⟨rfl,sa C H1 O δ1 fp1 ex _ _ r1.base h1 λH2 vs rs δ2 fp2 new2 r2 h2=>by
   obtain⟨d,e,h2⟩:=h2;exact P H2 _ z vs _ d _ (r2.das r1.base) e λv sc=>kk H2 v _ δ2 fp2 [] (.fz r2.base (r1.stp.trans r2.stp) sc.da) h2⟩
theorem Ye0{g:Str->List Xa->Option Xa}(P:PMs X.K r g)(slot:Slot "str" name id)(hty:typeOf (.builtin id)=pure (.type "method_descriptor"))(hm:MtR X id r)(ho:ME X io p c o mo)(ha:MA X io p' c' (e::es) mr)
  (hbase:Ue o name X.env (eval o X.env)=eval o X.env:=by rfl)
  (hfew:((Q3 cpos (Xo (e::es) X.env)).all (λx=>!x.1)&&(backToKw cpos (U7 [] X.env)).all (λx=>x.1.isSome)
   &&decide ((e::es).length+([]:List V8).length+(if([]:List V8).isEmpty then 0 else 1)<30))=YD:=by rfl)
  (hline:(apos.endLine==cpos.line)=YD:=by rfl) (hs:Xo (e::es) X.env=(YF,eval e X.env)::Xo es X.env:=by rfl) (hplain:(Q3 cpos (Xo es X.env)).any (·.1)=YF:=by rfl) :
  ME X io (p&&p') YD (.Call (.Attribute o name apos) (e::es) [] cpos) (Ydk g mo mr):=by
 obtain⟨_,Oa,so⟩:=ho;obtain⟨_,A,sa⟩:=ha;exact⟨_,Zuq PySem.F.plainAttrs_str slot hty hm Oa A hbase hfew hline hs hplain,Yja P so sa⟩
def Zwn:Str->List Xa->Option Xa:=λz ds=>match ds with
 | [.list es]=>(Zkz es).bind λts=>if JoinOk z ts=YD then YB (.str (PySem.Txt.join z ts))else YC
 | _=>YC
theorem Z1u:PMs G (rJoin G) Zwn:=λH L z xs ds d Q hx h kk=>by
 unfold Zwn at h;split at h
 case h_2=>cases h
 rename_i es;obtain⟨ts,h1,h⟩:=bs h;split at h
 case isFalse=>cases h
 rename_i ok;cases h;cases hx with
 | cons q r0=>
  cases r0;cases q with
  | lst l e r=>exact⟨z,_,ts,rfl,rfl,.inl (r.strs h1▸e),ok,kk _ (.str _)⟩
  | scr ks=>
   rename_i a ns;cases ns with
   | nil=>cases h1;exact⟨z,_,[],rfl,rfl,ks.sq,ok,kk _ (.str _)⟩
   | cons n ns=>cases h1
def Yb9(g:Str->List Xa->Option Xa)(o:FE)(a:FA):FE:=λδ=>(o δ).bind λp=>match p.1.data with
 | .str z=>(a p.2).bind λq=>(g z (OT.datas q.1)).bind λd=>YB (.fz d,q.2)
 | _=>YC
variable {fo:FE}{ra:FA}
theorem Z90{g:Str->List Xa->Option Xa}(h:ME X io p c e (Ydk g (o2 fo) (o2 ra))):ME X io p c e (o2 (Yb9 g fo ra)):=h.weak λδ K z=>by
 obtain⟨r,δ',h,k⟩:=z;obtain⟨⟨x,δ1⟩,h1,h⟩:=bs h;dsimp only at h;split at h
 case h_2=>cases h
 rename_i z hz;obtain⟨⟨y,δ2⟩,h2,h⟩:=bs h;obtain⟨d,h3,h⟩:=bs h;cases h;exact⟨x,δ1,h1,z,hz,y,δ2,h2,_,h3,k⟩
end
variable {G:Xc}
section
variable {X:Cx}
def Yg3(neg:Bool):R2:=λy x H Q=>∃a o,x= .ref a/\DGet H a y o/\Q (.bl (if neg then !o.isSome else o.isSome)) H
def Zr5(hu:X.A.units+64<VB):OpR X (QL .NotIn) (Yg3 YD):=by
 intro pins s O H y x iv u Q I ry rx h;obtain⟨a,o,rfl,g,q⟩:=h;cases rx;exact Z2q (hu1 hu) I g ry λs3 I3=>⟨.bl (!o.isSome),H,I3,rfl,q⟩
def Z5k(neg:Bool):Xa->Xa->Option Xa:=λe d=>match d with
 | .dict ((.none,.bool t)::kvs)=>(Zko e).bind λk=>if Zug k=t then YB (.bool (if neg then !(Zia k kvs).isSome else(Zia k kvs).isSome))else YC
 | _=>YC
def Yiq(neg:Bool):Xa->Xa->(Xa->Prop)->Prop:=λe d k=>∃r,Z5k neg e d=YB r/\k r
def Yd8:ByS (Z5k neg) (Yiq neg):=λ_ _ r _ h hk=>⟨r,h,hk⟩
def Z8y:P2s G (Yg3 neg) (Yiq neg):=λH L y x e d k Q hy hx h kk=>by
 obtain⟨r,h,hk⟩:=h;unfold Z5k at h;split at h
 case h_2=>cases h
 rename_i t kvs;obtain⟨ky,h1,h⟩:=bs h
 by_cases ht:Zug ky=t
 .rw[YM ht]at h
  cases h;obtain⟨a,o,rfl,_,g,R⟩:=hx.dget hy h1 ht;have eo:o.isSome=(Zia ky kvs).isSome:=by
   rcases R with⟨v,d,rfl,hd,_⟩|⟨rfl,hd⟩<;>rw[hd]<;>rfl
  exact⟨a,o,rfl,g,by rw[eo];exact kk _ _ (.bl _) hk⟩
 .rw[YQ ht]at h;cases h
def Zuh:List Xa->Option Xa:=λds=>match ds with|[.dict ((.none,.bool YF)::kvs)]=>YB (.int kvs.length)|_=>YC
def Z8r:List Xa->(Xa->Prop)->Prop:=λds k=>∃d,Zuh ds=YB d/\k d
def Yat:∀ds r k,Zuh ds=YB r->k r->Z8r ds k:=λds r k h hk=>⟨r,h,hk⟩
def Z7s:List V->Hp->VK->Prop:=λxs H Q=>∃a kvs,xs=[.ref a]/\Rd H a (.dK kvs)/\Q (.int kvs.length) H
def Zrg:Zc0 X (.builtin "len") Z7s:=by
 intro pins s O H xs us Q I rv h;obtain⟨a,kvs,rfl,e,q⟩:=h;obtain⟨u,rfl,ru⟩:=rv.one;cases ru;obtain⟨z,hd,vs,rel,dd⟩:=Zux I.hok e;refine call_len_dict hd dd (by rw[<-rel.length];rw[X8]at z;omega) ?_;exact⟨.int kvs.length,H,I.tok _,⟨_,by rw[rel.length]⟩,q⟩
def Z31:PNs G Z7s Z8r:=λH L xs ds k Q hx h kk=>by
 obtain⟨d,h,hk⟩:=h;unfold Zuh at h;split at h
 case h_2=>cases h
 rename_i kvs;cases h;cases hx with
 | cons q r0=>
  cases r0;generalize ed:Xa.dict ((.none,.bool YF)::kvs)=d at q;cases q with
  | dic l r dk qs=>
   rename_i a o t' ks xs ds;unfold dcD at ed;injection ed with ed;injection ed with e1 e2;injection e1 with _ e1;injection e1 with e1;subst e1 e2;cases o with
   | lst _=>exact dk.elim
   | dT _=>exact nomatch dk.1
   | dK kv=>
    obtain⟨_,e1,e2⟩:=dk;subst e1 e2;refine⟨a,kv,rfl,r,?_⟩;have hl:kv.length=(((kv.map λp=>(Sum.inl p.1:KY)).map kyD).zip ds).length:=by
     have:=qs.length;rw[Xd]at this;rw[Uw,Xd,Xd,<-this,Nat.min_self]
    rw[hl];exact kk _ _ (.int _) hk
  | exc _ _ _=>unfold exD at ed;cases ed
  | fn _=>unfold fnD at ed;cases ed
  | _=>cases ed
end
variable {G:Xc}
def Sg(z:Str)(t:Tok)(it:YG)(i:Nat)(h:YH):Prop:=h.IsStrIter it "str_ascii_iterator" z t i\/h.IsStrIter it "str_iterator" z t i
section
variable {P:X3}{w:Qo}{A:Qn}{E:Xe->Xf->Prop}{s:Xf}
structure Ap(z TI TO i1 i2:YG):Prop where
 a1:TI≠z
 a2:TO≠z
 a3:i1≠z
 a4:i2≠z
 a5:i1≠TO
 a6:i2≠TO
 a7:i1≠i2
 a8:TI≠TO
 a9:TI≠i1
 a10:TI≠i2
abbrev yT1(h:YH)(x:Str)(t:Tok):YH:=h.push { cls:=.type (strIterType x),data:=.fields #[.str x t,.int 0 0] }
abbrev yT2(h:YH)(x y:Str)(t u:Tok):YH:=yT1 (yT1 h x t) y u
abbrev yT3(h:YH)(x y:Str)(t u:Tok):YH:=(yT2 h x y t u).push { cls:=.type "tuple",data:=.seq #[.ref h.objs.size,.ref (yT1 h x t).objs.size] }
abbrev yT4(h:YH)(x y:Str)(t u:Tok):YH:=(yT3 h x y t u).push { cls:=.type "tuple",data:=.seq #[.none,.none] }
abbrev yT5(h:YH)(x y:Str)(t u:Tok):YH:=(yT4 h x y t u).push { cls:=.type "zip",data:=.fields #[.none,.bool YF,.bool YF,.ref (yT2 h x y t u).objs.size,.ref (yT3 h x y t u).objs.size] }
theorem Sg.at{h:YH}{x:Str}{t:Tok}{it:YG}(e:h.get? it=YB { cls:=.type (strIterType x),data:=.fields #[.str x t,.int 0 0] }):Sg x t it 0 h:=by
 unfold strIterType at e;split at e
 .exact .inl ⟨_,e,rfl,rfl⟩
 .exact .inr ⟨_,e,rfl,rfl⟩
end
section
variable {X:Cx}{io:List Nat}{p c:Bool}{a b:YJ}{mr:MAt}{ra:FA}
end
section
variable {X:Cx}{io:List Nat}{tg iter test:YJ}{rs:List YK}{mi:MIt}{g:MGt}{mt:MTt}{ur:MSt}{pos pi:Pos}{st:YK}{it:FI}{gg:FG}{t:FT}{r:FS}
end
section
variable {X:Cx}{io:List Nat}{e:YJ}{m:MEt}{fa:FE}{i:Nat}{pos pt:Pos}{st:YK}
end
section
variable {X:Cx}{io:List Nat}{x:Str}{pos:Pos}
def Z1a{n:Int}(hg:Gl X x)(hm:∃t,X.mg x=YB (.int n t))(hdb:(x==("__debug__" : Str))=YF:=by decide):ME X io YD YD (.Name x pos) (mC (.int n)):=by
 obtain⟨t,h⟩:=hm;exact Z9t hg h hdb
end
variable {G:Xc}
section
variable {X:Cx}
def Yie:R2:=λx y H Q=>∃a b ns ms,x= .ref a/\y= .ref b/\H a=YB (.tup (ns.map V.int))/\H b=YB (.tup (ms.map V.int))/\Q (.bl (ltI ns ms)) H
theorem Yak(hu:X.A.units+64<VB):OpR X (QL .Lt) Yie:=by
 intro pins s O H x y v u Q I rx ry h;obtain⟨a,b,ns,ms,rfl,rfl,ha,hb,q⟩:=h;cases rx;cases ry;obtain⟨its,r1,p1,_⟩:=I.tuple (.inl (.inl ha));obtain⟨its',r2,p2,_⟩:=I.tuple (.inl (.inl hb));obtain⟨⟨cls,dd,data,sl⟩,hl,hc,n,hd⟩:=p1;obtain⟨⟨cls2,dd2,data2,sl2⟩,hl2,hc2,n2,hd2⟩:=p2;simp only at hc hd hc2 hd2;subst hc hd hc2 hd2;exact richCompare_meets_room (op:=.Lt) ⟨_,hl,rfl⟩ ⟨_,hl2,rfl⟩ F.slot_tuple_lt F.entry_tuple_lt (F.args_tuple_lt_2 _ _) (Zp3 a b its.toArray its'.toArray n n2 dd dd2 sl sl2 (Zdw r1) (Zdw r2))
  ⟨hl,hl2,show Value.bool (ltI ns ms)≠Value.notImplemented/\_ from⟨(λx=>nomatch x),⟨.bl (ltI ns ms),H,I,rfl,q⟩⟩⟩ (!0)
def Z5c:Xa->Xa->Option Xa:=λd e=>match d,e with
 | .tuple ds,.tuple es=>(Zez ds).bind λns=>(Zez es).bind λms=>YB (.bool (ltI ns ms))
 | _,_=>YC
def Yik:Xa->Xa->(Xa->Prop)->Prop:=λd e k=>∃r,Z5c d e=YB r/\k r
def Yf5:ByS Z5c Yik:=λ_ _ r _ h hk=>⟨r,h,hk⟩
def Zkc{H:Hp}{L:YG->Prop}{v:V}{ns:List Int}(h:Da G H L v (.tuple (ns.map Xu))):∃a,v= .ref a/\H a=YB (.tup (ns.map V.int)):=by
 generalize e:PyData.tuple (ns.map Xu)=d at h;cases h with
 | tup e1 r=>
  cases e;exact⟨_,rfl,r.int_inv▸e1⟩
 | _=>cases e
def Z8k:P2s G Yie Yik:=λH L x y d e k Q hx hy h kk=>by
 obtain⟨r,h,hk⟩:=h;unfold Z5c at h;split at h
 case h_2=>cases h
 obtain⟨ns,h1,h⟩:=bs h;obtain⟨ms,h2,h⟩:=bs h;cases h;rw[Zbj h1]at hx;rw[Zbj h2]at hy;obtain⟨a,rfl,ha⟩:=Zkc hx;obtain⟨b,rfl,hb⟩:=Zkc hy;exact⟨a,b,ns,ms,rfl,rfl,ha,hb,kk _ _ (.bl _) hk⟩
end
end L2
namespace L2
open PySem PySem.Spec PyProof.Rows PySem.W
def Zd4{lt:Nat->Nat->Bool}{f:Y->KasT β}(t:KasT Y):kEv lt (t.bind f)=kEv lt (f (kEv lt t)):=by
 induction t with
 | ret a=>rfl
 | ask i j k ih=>exact ih _
structure Tot(lt:Nat->Nat->Bool)(n:Nat):Prop where
 tr:∀i j k,i<n->j<n->k<n->lt i j=YD->lt j k=YD->lt i k=YD
 tot:∀i j,i<n->j<n->i≠j->lt i j=YF->lt j i=YD
 asy:∀i j,i<n->j<n->lt i j=YD->lt j i=YF
section
variable {lt:Nat->Nat->Bool}{n:Nat}
abbrev gD(p:Array Nat)(i:Nat):Nat:=p.getD i 0
theorem kP.size{p:Array Nat}(h:kP n p):p.size=n:=by rw[<-Xq,List.Perm.length_eq h,X6]
def Znb{p:Array Nat}(h:i<p.size):p[i]? =YB (gD p i):=by rw[QZ h];simp[gD,Array.getD,h]
def Zxo{p q:Array Nat}(h:p[i]? =q[j]?):gD p i=gD q j:=by
 show p.getD i 0=q.getD j 0;rw[V6,V6,h]
def kP.blw{p:Array Nat}(h:kP n p)(hi:i<n):gD p i<n:=h.at (Nat.lt_of_le_of_lt (QJ _) hi) i
theorem kP.ne{p:Array Nat}(h:kP n p)(hi:i<j)(hj:j<n):gD p i≠gD p j:=λe=>by
 have nd:p.toList.Nodup:=(List.Perm.nodup_iff h).mpr List.nodup_range;have sz:=h.size;have a:=Znb (p:=p) (i:=i) (!0);have b:=Znb (p:=p) (i:=j) (!0);rw[<-Qc]at a b;obtain⟨a1,a2⟩:=Xk.mp a;obtain⟨b1,b2⟩:=Xk.mp b;exact Um.mp nd i j a1 b1 hi (by rw[a2,b2,e])
def Ri(lt:Nat->Nat->Bool)(p:Array Nat)(m:Nat):Prop:=∀i j,i<j->j<m->lt (gD p i) (gD p j)=YD
def Fa(lt:Nat->Nat->Bool)(p:Array Nat)(m:Nat):Prop:=∀i j,i<j->j<m->lt (gD p j) (gD p i)=YD
variable (T:Tot lt n)
include T
def Zzy{p:Array Nat}(h:kP n p)(f:Nat):∀m,1<=m->m+f<=n->Ri lt p m->Ri lt p (kEv lt (kas_asc p f m))/\m<=kEv lt (kas_asc p f m)/\kEv lt (kas_asc p f m)<=m+f/\(kEv lt (kas_asc p f m)<m+f->lt (gD p (kEv lt (kas_asc p f m))) (gD p (kEv lt (kas_asc p f m)-1))=YD):=by
 induction f with
 | zero=>exact λm _ _ r=>⟨r,XD _,XD _,λz=>YZ z (JC _)⟩
 | succ f ih=>
  intro m h1 hn r;show _/\_;rw[kas_asc,kEv];cases c:lt (p.getD m 0) (p.getD (m-1) 0)with
  | true=>
   rw[YM rfl,kEv];exact⟨r,XD _,Vo _ _,λ_=>c⟩
  | false=>
   rw[YQ Xx];have up:lt (gD p (m-1)) (gD p m)=YD:=T.tot _ _ (h.blw (!0)) (h.blw (!0)) (h.ne (!0) (!0)).symm c;have r2:Ri lt p (m+1):=λi j hij hj=>by
    rcases JS j m with q|q
    .exact r i j hij q
    .have:j=m:=by omega
     subst this;rcases JS i (j-1)with q2|q2
     .exact T.tr _ _ _ (h.blw (!0)) (h.blw (!0)) (h.blw (!0)) (r i (j-1) q2 (!0)) up
     .have:i=j-1:=by omega
      subst this;exact up
   obtain⟨a,b,c,d⟩:=ih (m+1) (!0) (!0) r2;exact⟨a,by omega,by omega,λz=>d (!0)⟩
def Z4q{p:Array Nat}(h:kP n p)(f:Nat):∀m,1<=m->m+f<=n->Fa lt p m->∃m',kEv lt (kas_desc f p m 0)=(p,m',0)/\Fa lt p m'/\m<=m'/\m'<=m+f:=by
 induction f with
 | zero=>exact λm _ _ r=>⟨m,rfl,r,XD _,XD _⟩
 | succ f ih=>
  intro m h1 hn r;rw[kas_desc,kEv];cases c:lt (p.getD m 0) (p.getD (m-1) 0)with
  | true=>
   rw[YM rfl,YQ (JC _)];have r2:Fa lt p (m+1):=λi j hij hj=>by
    rcases JS j m with q|q
    .exact r i j hij q
    .have:j=m:=by omega
     subst this;rcases JS i (j-1)with q2|q2
     .exact T.tr _ _ _ (h.blw (!0)) (h.blw (!0)) (h.blw (!0)) c (r i (j-1) q2 (!0))
     .have:i=j-1:=by omega
      subst this;exact c
   obtain⟨m',e,a,b,d⟩:=ih (m+1) (!0) (!0) r2;exact⟨m',e,a,by omega,by omega⟩
  | false=>
   rw[YQ Xx,kEv];have up:lt (p.getD (m-1) 0) (p.getD m 0)=YD:=T.tot _ _ (h.blw (!0)) (h.blw (!0)) (h.ne (!0) (!0)).symm c;rw[up,YM rfl,kEv];exact⟨m,rfl,r,XD _,Vo _ _⟩
def Zx7{p:Array Nat}(h:kP n p)(h0:0<n):∃m p',kEv lt (kas_count n p)=(m,p')/\kP n p'/\Ri lt p' m/\1<=m/\m<=n:=by
 rw[kas_count,Zd4];obtain⟨a,b,c,d⟩:=Zzy T h (n-1) 1 (XD _) (!0) λi j _ _=>by omega
 generalize kEv lt (kas_asc p (n-1) 1)=m at a b c d
 by_cases e:m=n
 .rw[YM (by rw[e];exact beq_self_eq_true _),kEv]
  exact⟨m,p,rfl,h,a,b,by omega⟩
 rw[YQ (λz=>e (ZC.mp z))]
 by_cases m1:m>1
 .rw[YM m1,kEv,a 0 (m-1) (!0) (!0),YM rfl,kEv]
  exact⟨m,p,rfl,h,a,b,by omega⟩
 rw[YQ m1];have em:m=1:=by omega
 subst em;have lt1:=d (!0);rw[kas_descPart,Zd4];obtain⟨m',e2,f2,b2,d2⟩:=Z4q T h (n-(1+1)) (1+1) (!0) (!0) λi j hij hj=>by
  have:i=0:=by omega
  have:j=1:=by omega
  subst i j;exact lt1
 rw[e2,YQ (JC _),kas_tail3,Zd4,kEv];have kr:kP n (kas_rev p 0 m'):=h.rev _ _;have rr:Ri lt (kas_rev p 0 m') m':=λi j hij hj=>by
  have ge:∀k,k<m'->gD (kas_rev p 0 m') k=gD p (m'-1-k):=λk hk=>Zxo (by
   have:=getElem?_mirror_all (xs:=p) (i:=0) (j:=m') (by rw[h.size];omega) k;rw[YM ⟨QJ _,hk⟩,Uk]at this;exact this)
  rw[ge i (!0),ge j hj];exact f2 _ _ (!0) (!0)
 obtain⟨a,b,c,_⟩:=Zzy T kr (n-m') m' (!0) (!0) rr;have n2:2<=n:=by omega
 have:m'<=n:=by omega
 refine⟨_,_,rfl,kr,a,?_,?_⟩
 .exact QX (!0) b
 .exact QX c (!0)
def Zyl{p:Array Nat}(h:kP n p){k:Nat}(hk:k<n)(f:Nat):∀l r,l<=r->r<=k->r-l<=f->(∀i,i<l->lt (gD p i) (gD p k)=YD)->(∀i,r<=i->i<k->lt (gD p k) (gD p i)=YD)->Ri lt p k ->
  kEv lt (kas_place p k f l r)<=k/\(∀i,i<kEv lt (kas_place p k f l r)->lt (gD p i) (gD p k)=YD)/\∀i,kEv lt (kas_place p k f l r)<=i->i<k->lt (gD p k) (gD p i)=YD:=by
 induction f with
 | zero=>
  intro l r lr rk z a b R;have:l=r:=by omega
  subst this;exact⟨rk,a,b⟩
 | succ f ih=>
  intro l r lr rk z a b R;rw[kas_place]
  by_cases c:l>=r
  .rw[YM c,kEv]
   exact⟨by omega,a,λi x y=>b i (!0) y⟩
  rw[YQ c,kEv];have hm:(l+r)/2<k:=by omega
  cases q:lt (p.getD k 0) (p.getD ((l+r)/2) 0)with
  | true=>
   rw[YM rfl];refine ih _ _ (!0) (!0) (!0) a (λi x y=>?_) R
   by_cases e:i=(l+r)/2
   .subst e;exact q
   .exact T.tr _ _ _ (h.blw hk) (h.blw (!0)) (h.blw (!0)) q (R _ _ (!0) y)
  | false=>
   rw[YQ Xx];have up:lt (gD p ((l+r)/2)) (gD p k)=YD:=T.tot _ _ (h.blw hk) (h.blw (!0)) (h.ne hm hk).symm q;refine ih _ _ (!0) (!0) (!0) (λi x=>?_) b R
   by_cases e:i=(l+r)/2
   .subst e;exact up
   .exact T.tr _ _ _ (h.blw (!0)) (h.blw (!0)) (h.blw hk) (R _ _ (!0) hm) up
def Ya4(f:Nat):∀{p:Array Nat} (h:kP n p) (k:Nat),k+f<=n->Ri lt p k->Ri lt (kEv lt (kas_bin f p k)) (k+f):=by
 induction f with
 | zero=>exact λh k _ r=>r
 | succ f ih=>
  intro p h k hn r;rw[kas_bin,Zd4];obtain⟨a,b,c⟩:=Zyl T h (k:=k) (!0) k 0 k (QJ _) (XD _) (!0) (λi z=>YZ z (JL _)) (λi x y=>YZ y (!0)) r;generalize kEv lt (kas_place p k k 0 k)=l at a b c;have ge:∀j,gD (bubble p k (k-l)) j=if j=l then gD p k else if l<j/\j<=k then gD p (j-1)else gD p j:=λj=>by
   have e:=getElem?_bubble (xs:=p) (src:=k) (by rw[h.size];omega) (k-l) (!0) j;have e0:k-(k-l)=l:=by omega
   rw[e0]at e
   by_cases c1:j=l
   .rw[YM c1]at e|-
    exact Zxo e
   .rw[YQ c1]at e|-
    by_cases c2:l<j/\j<=k
    .rw[YM c2]at e|-
     exact Zxo e
    .rw[YQ c2]at e|-
     exact Zxo e
  have:=ih (h.bub k (k-l)) (k+1) (!0) λi j hij hj=>?_
  .rw[show k+1+f=k+(f+1) by omega]at this
   exact this
  rw[ge,ge];rcases U6 j l with q|q|q
  .rw[YQ (!0),YQ (!0),YQ (!0),YQ (!0)]
   exact r i j hij (!0)
  .rw[YQ (!0),YQ (!0),YM q]
   exact b i (!0)
  .rw[YQ (show¬j=l by omega),YM (show l<j/\j<=k by omega)]
   rcases U6 i l with q2|q2|q2
   .rw[YQ (!0),YQ (!0)]
    exact r i (j-1) (!0) (!0)
   .rw[YM q2]
    exact c (j-1) (!0) (!0)
   .rw[YQ (!0),YM (!0)]
    exact r (i-1) (j-1) (!0) (!0)
def Z27(h0:0<n):Ri lt (kEv lt (kas_sort n)) n:=by
 rw[kas_sort,Zd4];obtain⟨m,p,e,kp,r,l1,l2⟩:=Zx7 T (p:=Ui (XC n)) (List.Perm.refl _) h0;rw[e]
 by_cases c:m<n
 .rw[YM c]
  have em:max m 1=m:=by omega
  rw[em];have:=Ya4 T (n-m) kp m (!0) r;rw[show m+(n-m)=n by omega]at this;exact this
 .rw[YQ c,kEv]
  have:m=n:=by omega
  rw[this]at r;exact r
def Z2j(h0:0<n):(Zvo lt n).Pairwise λi j=>lt i j=YD:=by
 have h:kP n (kEv lt (kas_sort n)):=(Zg9 h0).ev (P:=kP n);have r:=Z27 T h0;refine Um.mpr λi j hi hj hij=>?_;have sz:=h.size;rw[<-Xq]at sz;have l2:(Zvo lt n).length=n:=sz;have ge:∀k (hk:k<(Zvo lt n).length),(Zvo lt n)[k]=gD (kEv lt (kas_sort n)) k:=λk hk=>by
  have:=Znb (p:=kEv lt (kas_sort n)) (i:=k) (by rw[h.size];omega);rw[<-Qc]at this;exact(Xk.mp this).2
 rw[ge,ge];exact r i j hij (!0)
end
def Z0y{β:Type}{d:Y}{lt:Nat->Nat->Bool}{vs:List Y}{R:Y->Y->Prop}(T:Tot lt vs.length)(hR:∀i j,i<vs.length->j<vs.length->lt i j=YD->R (vs.getD i d) (vs.getD j d)):(sLay d lt vs).Pairwise R:=by
 unfold sLay;split
 .rename_i c
  match vs,c with
  | [],_=>exact .nil
  | [a],_=>exact UL _ _
 .rename_i c
  have pm:=Zea (lt:=lt) (n:=vs.length) (!0);have up:=Z2j T (!0);have h:=List.Pairwise.imp_of_mem (fun{i j} hi hj e=>hR i j (Qj.mp (pm.mem_iff.mp hi)) (Qj.mp (pm.mem_iff.mp hj)) e) up;exact List.pairwise_map.mpr h
end L2
namespace L2
open PySem PySem.Spec PyProof.Rows
def mt(m:Nat):QM:={ mask:=m,place:=#[],dummies:=#[],finger:=0,led:=YF,moves:=0,plain:=YD }
def adv(m:Nat):Nat->BR->BR
 | 0,p=>p
 | k+1,p=>adv m k ((mt m).advance p)
def Zkj(m a b:Nat)(p:BR):adv m (a+b) p=adv m b (adv m a p):=by
 induction a generalizing p with
 | zero=>rw[Uk];rfl
 | succ a ih=>rw[Nat.succ_add];exact ih _
def pt(m i pb:Nat):BR:=⟨i,Q5 m i-i,i,pb,YC⟩
def stP(m:Nat)(h:Int):BR:=pt m (Bm h%(m+1)) (Bm h)
def Zuy(h:Int):Bm h<2^64:=by
 unfold Bm;have:=Int.emod_nonneg h (show(2^64:Int)≠0 by decide);have:=Int.emod_lt_of_pos h (show(0:Int)<2^64 by decide);omega
def chunk(m:Nat):∀k j more i pb,k<=more->adv m k ⟨j,more,i,pb,YC⟩=⟨j+k,more-k,i,pb,YC⟩:=by
 intro k
 induction k with
 | zero=>exact λj more i pb _=>rfl
 | succ k ih=>
  intro j more i pb hk;show adv m k (if more>0 then _ else _)=_;rw[YM (!0)];show adv m k ⟨j+1,more-1,i,pb,YC⟩=_;rw[ih _ _ _ _ (!0),Nat.sub_sub,Nat.add_comm 1 k,Nat.add_assoc,Nat.add_comm 1 k]
def Zjb(m i pb:Nat):adv m (Q5 m i-i+1) (pt m i pb)=pt m (Uh m i pb).1 (Uh m i pb).2:=by
 rw[Zkj,pt,chunk m _ _ _ _ _ (XD _),Nat.sub_self];rfl
def Zyw(m i:Nat):Q5 m i-i+1<=10/\i<=Q5 m i/\(i<=m->Q5 m i<=m):=by
 unfold Q5;split<;>omega
def lp(m:Nat):Nat->Nat×Nat->Nat×Nat
 | 0,x=>x
 | n+1,x=>lp m n (Uh m x.1 x.2)
def Z7e(m a b:Nat)(x:Nat×Nat):lp m (a+b) x=lp m b (lp m a x):=by
 induction a generalizing x with
 | zero=>rw[Uk];rfl
 | succ a ih=>rw[Nat.succ_add];exact ih _
def Zx0(m:Nat):∀n i pb,∃K,K<=10*n/\adv m K (pt m i pb)=pt m (lp m n (i,pb)).1 (lp m n (i,pb)).2:=by
 intro n
 induction n with
 | zero=>exact λi pb=>⟨0,XD _,rfl⟩
 | succ n ih=>
  intro i pb;obtain⟨K,hK,e⟩:=ih (Uh m i pb).1 (Uh m i pb).2;have:=(Zyw m i).1;exact⟨Q5 m i-i+1+K,by omega,by rw[Zkj,Zjb,e];rfl⟩
def Yds(m:Nat):∀n i pb,(lp m n (i,pb)).2=pb/32^n:=by
 intro n
 induction n with
 | zero=>exact λi pb=>(Nat.div_one _).symm
 | succ n ih=>
  intro i pb;show(lp m n (_,pb/32)).2=_;rw[ih,Nat.div_div_eq_div_mul,Nat.pow_succ,Nat.mul_comm 32]
def Yem(m n i pb:Nat)(h:i<=m):(lp m n (i,pb)).1<=m:=by
 induction n generalizing i pb with
 | zero=>exact h
 | succ n ih=>exact ih _ _ (V3.mp (Nat.mod_lt _ (Ul _)))
def it(m:Nat):Nat->Nat->Nat
 | 0,x=>x
 | n+1,x=>it m n ((x*5+1)%(m+1))
def Zzp(m a b x:Nat):it m (a+b) x=it m b (it m a x):=by
 induction a generalizing x with
 | zero=>rw[Uk];rfl
 | succ a ih=>rw[Nat.succ_add];exact ih _
def Yc8(m n x:Nat):lp m n (x,0)=(it m n x,0):=by
 induction n generalizing x with
 | zero=>rfl
 | succ n ih=>
  show lp m n ((x*5+1+0/32)%(m+1),0/32)=_;rw[Nat.zero_div,Nat.add_zero];exact ih _
def orb(m:Nat):Nat->Nat->List Nat
 | 0,_=>[]
 | n+1,x=>x::orb m n ((x*5+1)%(m+1))
def Z23{e:Nat}:∀{n x},e∈orb m n x->∃k,k<n/\it m k x=e:=by
 intro n
 induction n with
 | zero=>exact λh=>nomatch h
 | succ n ih=>
  intro x h;rcases Xn.mp h with rfl|h
  .exact⟨0,Ul _,rfl⟩
  .obtain⟨k,hk,e⟩:=ih h
   exact⟨k+1,Nat.succ_lt_succ hk,e⟩
def cyc(m:Nat):Bool:=((XC (m+1)).all λe=>(orb m (m+1) 0).contains e)&&it m (m+1) 0==0
def Msk(m:Nat):Prop:=m=7\/m=31\/m=127
def Z7o(h:Msk m):cyc m=YD:=by
 rcases h with rfl|rfl|rfl<;>decide +kernel
def cov(h:Msk m){pb e:Nat}(hi:i<=m)(hp:pb<2^64)(he:e<=m):∃n,n<=m+13/\(lp m n (i,pb)).1=e:=by
 have c:=Z7o h;unfold cyc at c;rw[XJ,ZC]at c;have f:∀x,x<=m->∃k,k<m+1/\it m k 0=x:=λx hx=>Z23 (List.elem_iff.mp (BX.mp c.1 x (Qj.mpr (Nat.lt_succ_of_le hx))));have e13:lp m 13 (i,pb)=((lp m 13 (i,pb)).1,0):=by
  have:(lp m 13 (i,pb)).2=0:=by
   rw[Yds];exact Nat.div_eq_of_lt (Qi hp (!1))
  exact Prod.ext rfl this
 obtain⟨a,ha,ea⟩:=f _ (Yem m 13 i pb hi);obtain⟨b,hb,eb⟩:=f e he;have go:∀n,(lp m (13+n) (i,pb)).1=it m (a+n) 0:=λn=>by rw[Z7e,e13,Yc8,Zzp,ea]
 rcases JS b a with q|q
 .refine⟨13+(b+(m+1)-a),by omega,?_⟩
  rw[go,show a+(b+(m+1)-a)=m+1+b by omega,Zzp,c.2,eb]
 .refine⟨13+(b-a),by omega,?_⟩
  rw[go,show a+(b-a)=b by omega,eb]
def missing:∀(n:Nat) (l:List Nat),l.length<n->∃e,e<n/\e∉l:=by
 intro n
 induction n with
 | zero=>exact λl h=>YZ h (JL _)
 | succ n ih=>
  intro l h
  by_cases c:n∈l
  .obtain⟨e,he,m⟩:=ih (l.erase n) (by rw[List.length_erase_of_mem c];have:=List.length_pos_of_mem c;omega)
   exact⟨e,Bw he,λz=>m ((List.mem_erase_of_ne (Xr he)).mpr z)⟩
  .exact⟨n,QQ _,c⟩
def Rch'(m:Nat)(P:Nat->Prop)(h:Int)(j:Nat):Prop:=∃k,(adv m k (stP m h)).j=j/\∀k',k'<k->P (adv m k' (stP m h)).j
def Rch'.mono{P P':Nat->Prop}{h:Int}(hp:∀x,P x->P' x)(r:Rch' m P h j):Rch' m P' h j:=by
 obtain⟨k,a,b⟩:=r;exact⟨k,a,λk' l=>hp _ (b k' l)⟩
def Zpm{t:QM}(up:Up t.place.toList)(hd:t.dummies=#[])(j:Nat):(∃i,t.slot j= .live i/\t.place.toList[i]? =YB j)\/(t.slot j= .empty/\j∉t.place.toList):=by
 unfold SetTable.slot
 by_cases c:t.place[Qy t.place j]? =YB j
 .refine .inl ⟨_,YM (ZC.mpr c),?_⟩
  rw[Qc];exact c
 .refine .inr ⟨?_,λm=>?_⟩
  .dsimp only
   rw[YQ (λz=>c (ZC.mp z)),hd];rfl
  .obtain⟨i,hi⟩:=Vx m
   obtain⟨_,b1,b2⟩:=Zd3 up j;rcases U6 i (Qy t.place j)with q|q|q
   .exact JC _ (b1 i j q hi)
   .rw[<-q,<-Qc]at c
    exact c hi
   .have hs:=Vd q (Xk.mp hi).1
    have e1:=Xj hs;have:=Znn up e1 hi q;have:=b2 _ _ (XD _) e1;omega
def Zpa{t:QM}(up:Up t.place.toList)(hd:t.dummies=#[]){f:Nat->Int}{h:Int}:∀(fuel:Nat) (p:BR),p.dummy=YC->(∃k,k<fuel/\(adv t.mask k p).j∉t.place.toList) ->
  (∃ k,Ug t f h fuel p=YB (.empty (adv t.mask k p).j YC)/\(adv t.mask k p).j∉t.place.toList/\∀k',k'<k->∃i,t.place.toList[i]? =YB (adv t.mask k' p).j/\f i≠h)
  \/∃j i nx,Ug t f h fuel p=YB (.candidate j i nx)/\t.place.toList[i]? =YB j/\f i=h:=by
 intro fuel
 induction fuel with
 | zero=>exact λp _ h=>by obtain⟨k,hk,_⟩:=h;exact YZ hk (JL _)
 | succ fuel ih=>
  intro p hp hx;rw[Ug];rcases Zpm up hd p.j with⟨i,e,g⟩|⟨e,g⟩
  .rw[e]
   dsimp only
   by_cases c:f i=h
   .rw[YM (ZC.mpr c)]
    exact .inr ⟨_,i,_,rfl,g,c⟩
   .rw[YQ (λz=>c (ZC.mp z))]
    have ad:(t.advance p).dummy=YC:=by
     unfold SetTable.advance;split<;>exact hp
    obtain⟨k,hk,hm⟩:=hx;cases k with
    | zero=>exact YZ (Qg g) hm
    | succ k=>
     rcases ih (t.advance p) ad ⟨k,V1 hk,hm⟩with⟨k2,a1,a2,a3⟩|z
     .refine .inl ⟨k2+1,a1,a2,λk' hk'=>?_⟩
      cases k' with
      | zero=>exact⟨i,g,c⟩
      | succ k'=>exact a3 k' (V1 hk')
     .exact .inr z
  .rw[e]
   dsimp only;rw[hp];exact .inl ⟨0,rfl,g,λk' z=>YZ z (JL _)⟩
structure GT(b:Bool)(t:QM)(hs:List Int):Prop where
 led:t.led=b
 pl:t.plain=YD
 du:t.dummies=#[]
 mm:Msk t.mask
 sz:t.place.toList.length=hs.length
 up:Up t.place.toList
 fu:hs.length*5<t.mask*3
 re:∀(i:Nat) h j,hs[i]? =YB h->t.place.toList[i]? =YB j->Rch' t.mask (·∈t.place.toList) h j
section
variable {b:Bool}{t:QM}{hs:List Int}
theorem GT.fits(g:GT b t hs):t.fits hs.length=YD:=by
 unfold SetTable.fits SetTable.fill;have:=g.sz;rw[Xq]at this;have f:=g.fu;rw[g.du,this,beq_self_eq_true,YS (show hs.length+(#[]:Array Nat).size<=t.mask by show hs.length+0<=_;omega)];rfl
def GT.way(g:GT b t hs):t.gaveWay=YF:=by
 unfold QM.gaveWay;rcases g.mm with e|e|e<;>rw[e]<;>rfl
def GT.ends(g:GT b t hs)(h:Int):∃k,k<10*SetTable.turns t.mask/\(adv t.mask k (stP t.mask h)).j∉t.place.toList:=by
 have f:=g.fu;obtain⟨e,he,hm⟩:=missing (t.mask+1) t.place.toList (by rw[g.sz];omega);obtain⟨n,hn,en⟩:=cov g.mm (i:=Bm h%(t.mask+1)) (V3.mp (Nat.mod_lt _ (Ul _))) (Zuy h) (V3.mp he);obtain⟨K,hK,eK⟩:=Zx0 t.mask n (Bm h%(t.mask+1)) (Bm h);refine⟨K,by unfold SetTable.turns;omega,?_⟩;show(adv t.mask K (pt t.mask _ _)).j∉_;rw[eK];show(lp t.mask n _).1∉_;rw[en];exact hm
theorem GT.new(g:GT b t hs){f:Nat->Int}{h:Int}(hf:∀(i:Nat) x,hs[i]? =YB x->f i=x)(hn:h∉hs):∃j,t.probe f h (t.probeStart h)=YB (.empty j YC)/\j∉t.place.toList/\Rch' t.mask (·∈t.place.toList) h j:=by
 rcases Zpa g.up g.du (f:=f) (h:=h) _ (stP t.mask h) rfl (g.ends h)with⟨k,e,m,p⟩|⟨j,i,nx,e,m,q⟩
 .exact⟨_,e,m,k,rfl,λk' hk=>by obtain⟨i,e,_⟩:=p k' hk;exact Qg e⟩
 .have hi:i<hs.length:=g.sz▸(Xk.mp m).1
  have:=hf i _ (Xj hi);exact YZ (by rw[<-q,this];exact Bl hi) hn
theorem GT.old(g:GT b t hs){f:Nat->Int}{h:Int}(hf:∀(i:Nat) x,hs[i]? =YB x->f i=x)(hn:h∈hs):∃j i nx,t.probe f h (t.probeStart h)=YB (.candidate j i nx)/\hs[i]? =YB h:=by
 rcases Zpa g.up g.du (f:=f) (h:=h) _ (stP t.mask h) rfl (g.ends h)with⟨k,e,m,p⟩|⟨j,i,nx,e,m,q⟩
 .obtain⟨i,hi⟩:=Vx hn
  have hi':i<t.place.toList.length:=g.sz.symm▸(Xk.mp hi).1;have ei:=Xj hi';obtain⟨k0,a0,b0⟩:=g.re i h _ hi ei;exfalso;rcases JS k k0 with q|q
  .exact m (b0 k q)
  .rcases JS k0 k with q2|q2
   .obtain⟨i2,e2,n2⟩:=p k0 q2
    rw[a0]at e2;have:i2=i:=by
     rcases U6 i2 i with z|z|z
     .exact YZ (Znn g.up e2 ei z) (JC _)
     .exact z
     .exact YZ (Znn g.up ei e2 z) (JC _)
    rw[this]at n2;exact n2 (hf i h hi)
   .have:k=k0:=by omega
    rw[this,a0]at m;exact m (Bl hi')
 .have hi:i<hs.length:=g.sz▸(Xk.mp m).1
  have ei:=Xj hi;exact⟨j,i,nx,e,by rw[ei,<-q,hf i _ ei]⟩
end
def Yhu{l:List Y}{p:Nat}{x:Y}(hp:p<=l.length)(i:Nat):(l.take p++x::l.drop p)[i]? =if i<p then l[i]? else if i=p then YB x else l[i-1]?:=by
 have lt:(l.take p).length=p:=by rw[Bk];omega
 by_cases c:i<p
 .rw[YM c,Vu (!0),List.getElem?_take_of_lt c]
 .rw[YQ c,JZ (!0),lt]
  by_cases e:i=p
  .rw[YM e,e,Nat.sub_self];rfl
  .rw[YQ e]
   obtain⟨d,rfl⟩:∃d,i=p+d+1:=⟨i-p-1,by omega⟩;rw[show p+d+1-p=d+1 by omega,List.getElem?_cons_succ,Uz];rfl
def Z1c{l:List Y}{p:Nat}{x y:Y}(h:y∈l):y∈l.take p++x::l.drop p:=by
 rw[<-List.take_append_drop p l]at h;rcases Qp.mp h with h|h
 .exact Qw _ h
 .exact XR _ (.tail _ h)
theorem GT.put{b:Bool}{t:QM}{hs:List Int}(g:GT b t hs){h:Int}(hj:j∉t.place.toList)(hr:Rch' t.mask (·∈t.place.toList) h j) :
  (t.put j).1.led=b/\(t.put j).1.plain=YD/\(t.put j).1.dummies=#[]/\(t.put j).1.mask=t.mask/\(t.put j).2<=hs.length/\(t.put j).1.place.toList.length=hs.length+1/\Up (t.put j).1.place.toList/\
  ∀(i:Nat) h' j',(hs.take (t.put j).2++h::hs.drop (t.put j).2)[i]? =YB h'->(t.put j).1.place.toList[i]? =YB j'->Rch' t.mask (·∈(t.put j).1.place.toList) h' j':=by
 have bo:=(Zd3 g.up j).1;have sz:t.place.size=hs.length:=by rw[<-g.sz,Xq]
 have ep:(t.put j).1.place.toList=t.place.toList.take (Qy t.place j)++j::t.place.toList.drop (Qy t.place j):=SetTable.toList_insertAt ..;have e2:(t.put j).2=Qy t.place j:=rfl;have nl:Zdn t j:=λz=>hj (Qg (by rw[<-Qc]at z;exact z));refine⟨g.led,g.pl,?_,rfl,by rw[e2];omega,?_,Zzz g.up nl,λi h' j' a c=>?_⟩
 .show(if QM.has t.dummies j=YD then _ else t.dummies)=#[]
  rw[g.du];rfl
 .rw[ep,Xv,Qd,Bk,Bb,Xq];omega
 .rw[ep]at c|-
  rw[e2,Yhu (!0)]at a;rw[Yhu (by rw[Xq];exact bo)]at c;have mm:∀x,x∈t.place.toList->x∈t.place.toList.take (Qy t.place j)++j::t.place.toList.drop (Qy t.place j):=λx hx=>Z1c hx;split at a
  .rename_i q
   rw[YM q]at c;exact(g.re i h' j' a c).mono mm
  .rename_i q
   rw[YQ q]at c;split at a
   .rename_i q2
    rw[YM q2]at c;cases a;cases c;exact hr.mono mm
   .rename_i q2
    rw[YQ q2]at c;exact(g.re _ h' j' a c).mono mm
def owns(o:Array (Option Nat))(j k:Nat):Prop:=o[j]? =YB (YB k)
def owned(o:Array (Option Nat))(j:Nat):Prop:=∃k,owns o j k
def Zhb{o:Array (Option Nat)}(h:j<o.size):(o.getD j (YB 0)).isNone=YD↔¬owned o j:=by
 have e:o[j]? =YB o[j]:=QZ h;have d:o.getD j (YB 0)=o[j]:=by rw[Array.getD,dif_pos h];rfl
 rw[d];unfold owned owns;rw[e];cases o[j]with
 | none=>exact⟨λ_ z=>z.elim λk z=>(nomatch z),λ_=>rfl⟩
 | some k=>exact⟨λz=>(nomatch z),λz=>YZ ⟨k,rfl⟩ z⟩
def Zpj{f:Nat->Bool}:∀n,match(XC n).find? f with|some k=>k<n/\f k=YD/\∀x,x<k->f x=YF|none=>∀x,x<n->f x=YF:=by
 intro n;cases e:(XC n).find? f with
 | none=>
  intro x hx;have:=List.find?_eq_none.mp e x (Qj.mpr hx);exact Ve.mpr this
 | some k=>
  have m:=Qj.mp (List.mem_of_find?_eq_some e);refine⟨m,List.find?_some e,λx hx=>?_⟩;obtain⟨_,i,hi,ei,a⟩:=List.find?_eq_some_iff_getElem.mp e;rw[List.getElem_range]at ei;subst ei;have:=a x hx;rw[List.getElem_range]at this;exact Bool.not_eq_true' _▸this
def Z3w{o:Array (Option Nat)}(hs:o.size=m+1):∀(fuel i pb:Nat),i<=m->(∃n,n<fuel/\¬owned o (lp m n (i,pb)).1) ->
  ∃j,Uc m o fuel i pb=YB j/\j<=m/\¬owned o j/\∃k,(adv m k (pt m i pb)).j=j/\∀k',k'<k->owned o (adv m k' (pt m i pb)).j:=by
 intro fuel
 induction fuel with
 | zero=>exact λi pb _ h=>by obtain⟨n,hn,_⟩:=h;exact YZ hn (JL _)
 | succ fuel ih=>
  intro i pb him hx;rw[Uc];have rl:=Zyw m i;have rm:=rl.2.2 him;have at_:∀k,k<=Q5 m i-i->(adv m k (pt m i pb)).j=i+k:=λk hk=>by rw[pt,chunk m k _ _ _ _ hk]
  have ff:=Zpj (f:=λk=>(o.getD (i+k) (YB 0)).isNone) (Q5 m i+1-i);split
  .rename_i k e
   rw[e]at ff;obtain⟨h1,h2,h3⟩:=ff;refine⟨i+k,rfl,by omega,(Zhb (!0)).mp h2,k,at_ k (!0),λk' hk'=>?_⟩;rw[at_ k' (!0)];exact V9 λz=>by
    have:=(Zhb (o:=o) (j:=i+k') (!0)).mpr z;rw[h3 k' hk']at this;cases this
  .rename_i e
   rw[e]at ff;have all:∀k,k<=Q5 m i-i->owned o (i+k):=λk hk=>V9 λz=>by
    have:=(Zhb (o:=o) (j:=i+k) (!0)).mpr z;rw[ff k (!0)]at this;cases this
   obtain⟨n,hn,hm⟩:=hx;cases n with
   | zero=>exact YZ (all 0 (QJ _)) hm
   | succ n=>
    obtain⟨j,e,a1,a2,k,a3,a4⟩:=ih (Uh m i pb).1 (Uh m i pb).2 (V3.mp (Nat.mod_lt _ (Ul _))) ⟨n,V1 hn,hm⟩;refine⟨j,e,a1,a2,Q5 m i-i+1+k,by rw[Zkj,Zjb,a3],λk' hk'=>?_⟩;rcases JS k' (Q5 m i-i+1)with q|q
    .rw[at_ k' (!0)]
     exact all k' (!0)
    .obtain⟨d,rfl⟩:∃d,k'=Q5 m i-i+1+d:=⟨k'-(Q5 m i-i+1),by omega⟩
     rw[Zkj,Zjb];exact a4 d (!0)
structure Lay(m:Nat)(o:Array (Option Nat))(hs:List Int):Prop where
 sz:o.size=m+1
 re:∀j k,owns o j k->∃h,hs[k]? =YB h/\Rch' m (owned o) h j
 ex:∀k,k<hs.length->∃j,owns o j k
 inj:∀j j' k,owns o j k->owns o j' k->j=j'
 few:∃L:List Nat,L.length=hs.length/\∀j,owned o j->j∈L
def Zhk(m:Nat)(acc:Option (Array (Option Nat)×Nat))(h:Int):Option (Array (Option Nat)×Nat):=do
 let(owner,k)<-acc;let j<-Uc m owner (SetTable.turns m) (Bm h%(m+1)) (Bm h)
 pure (owner.setIfInBounds j (YB k),k+1)
def Zw5(hm:Msk m){o:Array (Option Nat)}{hs:List Int}(L:Lay m o hs)(hl:hs.length<=m)(h:Int):∃o',Zhk m (YB (o,hs.length)) h=YB (o',(hs++[h]).length)/\Lay m o' (hs++[h]):=by
 obtain⟨F,f1,f2⟩:=L.few;obtain⟨e,he,hn⟩:=missing (m+1) F (!0);obtain⟨n,n1,n2⟩:=cov hm (i:=Bm h%(m+1)) (V3.mp (Nat.mod_lt _ (Ul _))) (Zuy h) (V3.mp he);obtain⟨j,ej,jm,jo,k,k1,k2⟩:=Z3w L.sz (SetTable.turns m) (Bm h%(m+1)) (Bm h) (V3.mp (Nat.mod_lt _ (Ul _))) ⟨n,by unfold SetTable.turns;omega,by rw[n2];exact λz=>hn (f2 e z)⟩;have js:j<o.size:=by rw[L.sz];omega
 have gs:∀x y,owns (o.setIfInBounds j (YB hs.length)) x y↔(x=j/\y=hs.length)\/(x≠j/\owns o x y):=λx y=>by
  unfold owns;rw[Array.getElem?_setIfInBounds]
  by_cases c:j=x
  .subst c
   rw[YM rfl,YM js];exact⟨λz=>.inl ⟨rfl,by cases z;rfl⟩,λz=>z.elim (λq=>by rw[q.2]) λq=>YZ rfl q.1⟩
  .rw[YQ c]
   exact⟨λz=>.inr ⟨Bo c,z⟩,λz=>z.elim (λq=>YZ q.1.symm c) λq=>q.2⟩
 have ow:∀x,owned o x->owned (o.setIfInBounds j (YB hs.length)) x:=λx hx=>by
  obtain⟨y,hy⟩:=hx;exact⟨y,(gs x y).mpr (.inr ⟨λz=>jo (z▸⟨y,hy⟩),hy⟩)⟩
 refine⟨o.setIfInBounds j (YB hs.length),?_,?_,?_,?_,?_,?_⟩
 .unfold Zhk
  show(Uc m o _ _ _).bind _=_;rw[ej,Xv];rfl
 .rw[Array.size_setIfInBounds];exact L.sz
 .intro x y q
  rcases(gs x y).mp q with⟨rfl,rfl⟩|⟨_,q⟩
  .exact⟨h,by rw[JZ (XD _),Nat.sub_self];rfl,k,k1,λk' hk'=>ow _ (k2 k' hk')⟩
  .obtain⟨h',e,r⟩:=L.re x y q
   exact⟨h',by rw[Vu (Xk.mp e).1];exact e,r.mono ow⟩
 .intro y hy
  rw[Xv]at hy
  by_cases c:y=hs.length
  .exact⟨j,(gs j y).mpr (.inl ⟨rfl,c⟩)⟩
  .obtain⟨x,hx⟩:=L.ex y (by have:y<hs.length+1:=hy;omega)
   exact⟨x,(gs x y).mpr (.inr ⟨λz=>jo (z▸⟨y,hx⟩),hx⟩)⟩
 .intro x x' y q q'
  have lt:∀x,owns o x y->y<hs.length:=λx hx=>by
   obtain⟨h',e,_⟩:=L.re x y hx;exact(Xk.mp e).1
  rcases(gs x y).mp q with⟨e1,e2⟩|⟨_,q1⟩
  .rcases(gs x' y).mp q' with⟨e3,_⟩|⟨_,q2⟩
   .rw[e1,e3]
   .exact YZ (e2▸lt _ q2) (JC _)
  .rcases(gs x' y).mp q' with⟨_,e4⟩|⟨_,q2⟩
   .exact YZ (e4▸lt _ q1) (JC _)
   .exact L.inj x x' y q1 q2
 .refine⟨j::F,by rw[Qd,Xv,f1];rfl,λx hx=>?_⟩
  obtain⟨y,hy⟩:=hx;rcases(gs x y).mp hy with⟨rfl,_⟩|⟨_,q⟩
  .exact .head _
  .exact .tail _ (f2 x ⟨y,q⟩)
def Zwl(hm:Msk m)(l:List Int):∀(hs:List Int) (o:Array (Option Nat)),Lay m o hs->hs.length+l.length<=m->∃o',l.foldl (Zhk m) (YB (o,hs.length))=YB (o',(hs++l).length)/\Lay m o' (hs++l):=by
 induction l with
 | nil=>exact λhs o L _=>⟨o,by rw[XX];rfl,by rw[XX];exact L⟩
 | cons h l ih=>
  intro hs o L hl;rw[Qd]at hl;obtain⟨o',e,L'⟩:=Zw5 hm L (!0) h;obtain⟨o2,e2,L2⟩:=ih (hs++[h]) o' L' (by rw[Xv];show hs.length+1+_<=m;omega);rw[QF]at e2 L2;exact⟨o2,by rw[List.foldl_cons,e];exact e2,L2⟩
def Zu4(hm:Msk m){hs:List Int}(hl:hs.length<=m):∃o,SetTable.layClean m hs.toArray=YB o/\Lay m o hs:=by
 have no:∀j k,¬owns (Array.replicate (m+1) YC) j k:=λj k h=>by
  unfold owns at h;rw[Array.getElem?_replicate]at h;split at h<;>cases h
 obtain⟨o,e,L⟩:=Zwl hm hs [] (Array.replicate (m+1) YC) ⟨Array.size_replicate,λj k h=>YZ h (no j k),λk hk=>YZ hk (JL _),λj j' k h=>YZ h (no j k),[],rfl,λj h=>h.elim λk h=>YZ h (no j k)⟩ (by rw[QH];omega);refine⟨o,?_,L⟩;unfold SetTable.layClean;rw[List.foldl_toArray];have:hs.foldl (Zhk m) (YB (Array.replicate (m+1) YC,0))=YB (o,([]++hs).length):=e;show Option.map _ (hs.foldl (Zhk m) (YB (Array.replicate (m+1) YC,0)))=_;rw[this];rfl
def Zhy(m:Nat)(o:Array (Option Nat)):List (Nat×Nat):=(XC (m+1)).filterMap λj=>(o.getD j YC).map (j,·)
def Zcp{o:Array (Option Nat)}(hs:o.size=m+1){q:Nat×Nat}:q∈Zhy m o↔owns o q.1 q.2:=by
 unfold Zhy owns;rw[List.mem_filterMap];constructor
 .intro h
  obtain⟨j,hj,e⟩:=h;have hj:=Qj.mp hj;obtain⟨k,e1,rfl⟩:=Qe.mp e;rw[V6,QZ (!0)]at e1;rw[QZ (!0)];exact YW YB e1
 .intro h
  have hj:q.1<o.size:=(Vq.mp h).1;refine⟨q.1,Qj.mpr (!0),?_⟩;rw[V6,h];rfl
def Z1t{o:Array (Option Nat)}{hs:List Int}(L:Lay m o hs):((Zhy m o).map (·.2)).Perm (XC hs.length):=by
 have up:((Zhy m o).map (·.1)).Pairwise (·<·):=Zm0 _ _;have nd:((Zhy m o).map (·.2)).Nodup:=by
  refine List.pairwise_map.mpr (List.Pairwise.imp_of_mem (fun{a b} ha hb lt e=>?_) (List.pairwise_map.mp up));have h1:=(Zcp L.sz).mp ha;have h2:=(Zcp L.sz).mp hb;rw[e]at h1;rw[L.inj _ _ _ h1 h2]at lt;exact JC _ lt
 refine(List.perm_ext_iff_of_nodup nd List.nodup_range).mpr λk=>?_;rw[Qj,XF];constructor
 .intro h
  obtain⟨q,hq,rfl⟩:=h;obtain⟨h,e,_⟩:=L.re _ _ ((Zcp L.sz).mp hq);exact(Xk.mp e).1
 .intro h
  obtain⟨j,hj⟩:=L.ex k h;exact⟨(j,k),(Zcp L.sz).mpr hj,rfl⟩
def Z3n{fi mo:Nat}{b:Bool}(hm:Msk m){hs:List Int}(hl:hs.length*5<m*3):∃t' order,SetTable.laid m fi mo b YD hs.toArray=YB (t',order)/\t'.mask=m/\order.toList.Perm (XC hs.length)/\GT b t' (order.toList.map λk=>hs.getD k 0):=by
 obtain⟨o,e,L⟩:=Zu4 hm (hs:=hs) (!0);have pm:=Z1t L;refine⟨{ mask:=m,place:=((Zhy m o).map (·.1)).toArray,dummies:=#[],finger:=fi,led:=b,moves:=mo,plain:=YD },((Zhy m o).map (·.2)).toArray,?_,rfl,pm,?_⟩
 .unfold SetTable.laid
  rw[e];rfl
 .refine⟨rfl,rfl,rfl,hm,?_,Zm0 _ _,?_,λi h j a c=>?_⟩
  .show((Zhy m o).map (·.1)).length=_
   rw[Xd,Xd,Xd]
  .rw[Xd,pm.length_eq,X6];exact hl
  .have c:((Zhy m o).map (·.1))[i]? =YB j:=c
   have a:(((Zhy m o).map (·.2)).map λk=>hs.getD k 0)[i]? =YB h:=a;rw[Qq,Xi]at a;rw[Xi]at c;obtain⟨q,hq,rfl⟩:=Qe.mp c;rw[hq]at a;obtain⟨h',e1,r⟩:=L.re _ _ ((Zcp L.sz).mp (Qg hq));have:h=h':=by
    cases a;show hs.getD q.2 0=h';rw[Xm,e1];rfl
   rw[this];refine r.mono λx hx=>?_;obtain⟨y,hy⟩:=hx;exact XF.mpr ⟨(x,y),(Zcp L.sz).mpr hy,rfl⟩
def Ent(U:YG->Prop)(κ:YG->List Int)(e:Int×Xe):Prop:=∃a,e=(hT (κ a),Xy a)/\U a
def kOf(κ:YG->List Int)(e:Int×Xe):List Int:=match e.2 with| .ref a=>κ a|_=>[]
def HI(D:List (List Int)):Prop:=∀k,k∈D->∀k',k'∈D->hT k=hT k'->k=k'
def TuS(U:YG->Prop)(κ:YG->List Int)(b:Bool)(h:YH)(S:YG)(ks:List (List Int)):Prop :=
 ∃o es ep t,h.get? S=YB o/\o.ExactSet/\o.data= .set es ep t/\(∀e,e∈es.toList->Ent U κ e)/\GT b t (es.toList.map (·.1))/\es.toList.map (kOf κ)=ks
def Z7j{f:Y->β}{l:List Y}(h:(l.map f).Nodup){x y:Y}(hx:x∈l)(hy:y∈l)(e:f x=f y):x=y:=by
 induction l with
 | nil=>cases hx
 | cons a l ih=>
  obtain⟨h1,h2⟩:=Qt.mp h;rcases Xn.mp hx with rfl|mx
  .rcases Xn.mp hy with rfl|my
   .rfl
   .exact YZ (e▸XF.mpr ⟨y,my,rfl⟩) h1
  .rcases Xn.mp hy with rfl|my
   .exact YZ (e▸XF.mpr ⟨x,mx,rfl⟩) h1
   .exact ih h2 mx my
def Yez{es:Array Y}(d:Y)(l:List Nat)(h:∀k,k∈l->k<es.size):l.filterMap (λk=>es[k]?)=l.map λk=>es.toList.getD k d:=by
 induction l with
 | nil=>rfl
 | cons a l ih=>
  have ha:=h a (.head _);rw[VN,QZ ha,X7,ih λk m=>h k (.tail _ m),Xm,Qc,QZ ha];rfl
end L2
variable {κ:YG->List Int}{U:YG->Prop}{hs:List Int}
namespace L2
open PySem PySem.Spec PyProof.Rows
section
variable {b:Bool}
theorem TuS.fits{U:YG->Prop}{κ:YG->List Int}{es:Array (Int×Xe)}{t:QM}(g:GT b t (es.toList.map (·.1))):t.fits es.size=YD:=by
 have:=g.fits
 rwa[Xd,Xq]at this
def Zol{t:QM}{es:Array (Int×Xe)}{h:Int}{m:Option QM.Met}(e:t.probe (λi=>(es[i]?.map (·.1)).getD 0) h (t.probeStart h)=m)(f:Nat->Int)(hf:∀i,f i=(es[i]?.map (·.1)).getD 0):t.probe f h ((YC:Option BR).getD (t.probeStart h))=m:=by
 rw[funext hf];exact e
def Zs2{es:Array (Int×Xe)}:∀(i:Nat) x,(es.toList.map (·.1))[i]? =YB x->(es[i]?.map (·.1)).getD 0=x:=λi x h=>by
 rw[Xi,Qc]at h;rw[h];rfl
def Z7g{es:Array (Int×Xe)}{t:QM}{x:Xe}{h:Int}{Q:SetFound->Xf->Prop}(ho:s.heap.get? S=YB o)(hd:o.data= .set es ep t)(g:GT b t (es.toList.map (·.1)))
  (hp:t.probe (λi=>(es[i]?.map (·.1)).getD 0) h (t.probeStart h)=YB (.empty j YC)) (q:Q (.free j YF) s):Xz (X4 prog w) A (setSearch S x h YD) Q E s:=by
 unfold setSearch setSearchFrom;refine Xb (JG ho hd (TuS.fits (U:=λ_=>True) (κ:=λ_=>[]) g) ?_);dsimp only;rw[g.way];simp only[XN,if_false];rw[Zol hp]
 .exact Xl q
 .exact λi=>rfl
def Z5q{es:Array (Int×Xe)}{t:QM}{nx:BR}{Q:SetFound->Xf->Prop}(hu:A.units<VB)(ho:s.heap.get? S=YB o)(hd:o.data= .set es ep t)(g:GT b t (es.toList.map (·.1)))(he:∀e,e∈es.toList->Ent U κ e)
  (hG:∀a,U a->IK prog w s.heap (κ a) a) (ha:U a)  (hi:es[i]? =YB (hT (κ a'),Xy a')) (ua:U a') (ek:κ a'=κ a) (hp:t.probe (λi=>(es[i]?.map (·.1)).getD 0) (hT (κ a)) (t.probeStart (hT (κ a)))=YB (.candidate j i nx)) (q:Q (.there YC) s):Xz (X4 prog w) A (setSearch S (.ref a) (hT (κ a)) YD) Q E s:=by
 have hf:=TuS.fits (U:=λ_=>True) (κ:=λ_=>[]) g;unfold setSearch setSearchFrom;refine Xb (JG ho hd hf ?_);dsimp only;rw[g.way];simp only[XN,if_false];rw[Zol hp]
 rotate_left
 .exact λi=>rfl
 dsimp only;have fin:Xz (X4 prog w) A (holding [Xy a'] (eqBool (.ref a') (.ref a))) (λv s'=>v=YD/\s'=s) E s:=JR (wpAny_eqBool_tuple hu (hG a' ua) (hG a ha) ⟨YS ek,rfl⟩);cases hb:t.led with
 | true=>
  simp only[Vl,XN,if_false];rw[hi];refine Xb (thn fin λv s' z=>?_);obtain⟨rfl,rfl⟩:=z;refine Xb (JG ho hd hf ?_);dsimp only;rw[YM (show(YD&&YD)=YD from rfl)];exact Xl q
 | false=>
  simp only[Bool.not_false,if_true];refine Xb (Zwz (hG a ha) (λy hy=>?_) ?_)
  .obtain⟨e,he1,rfl⟩:=XF.mp hy
   have he':e∈es.toList:=by
    rw[Array.toList_filter]at he1;exact(V2.mp he1).1
   obtain⟨b,eb,ub⟩:=he e he';exact⟨b,κ b,by rw[eb],hG b ub⟩
  .simp only[XN,if_false]
   rw[hi];refine Xb (thn fin λv s' z=>?_);obtain⟨rfl,rfl⟩:=z;refine Xb (JG ho hd hf ?_);dsimp only;rw[YM (show(YD&&YD)=YD from rfl)];exact Xl q
def Zuz{es es':Array (Int×Xe)}{t t':QM}(ho:h.get? S=YB o)(hd:o.data= .set es ep t):(h.update S (Obj.putSet es' t')).get? S=YB { o with data:=.set es' (ep+1) t' }:=by
 have:=V5 (Obj.putSet es' t') ho (by rw[putSet_of _ _ hd];rfl);rw[putSet_of _ _ hd]at this;exact this
def Z0o{es:Array (Int×Xe)}{n:Nat}{t:QM}{Q:Unit->Xf->Prop}(ho:s.heap.get? S=YB o)(hd:o.data= .set es ep t)(hf:t.fits es.size=YD)(hled:t.led=b)(hpl:t.plain=YD)(hm:Msk m)(hn:SetTable.sizeAbove n=m+1)(hl:es.size*5<m*3)
  (q:∀es' t',es'.toList.Perm es.toList->GT b t' (es'.toList.map (·.1))->Q () { s with heap:=s.heap.update S (Obj.putSet es' t') }):Xz (X4 prog w) A (setRelay S n) Q E s:=by
 have hml:m+1<=128:=by rcases hm with e|e|e<;>rw[e]<;>decide
 unfold setRelay;refine Xb (JG ho hd hf ?_);dsimp only;rw[hn,YQ (by rw[X8];omega)];have eh:es.map (·.1)=(es.toList.map (·.1)).toArray:=by
  apply Array.toList_inj.mp;rw[Array.toList_map]
 obtain⟨t',order,e,em,pm,g⟩:=Z3n (fi:=t.finger) (mo:=t.movedTo (m+1-1)) (b:=b) hm (hs:=es.toList.map (·.1)) (by rw[Xd,Xq];exact hl);have er:t.relaid (es.map (·.1)) n=YB (t',order):=by
  unfold SetTable.relaid;rw[hn,eh,hled,hpl];exact e
 rw[er];have lt:∀k,k∈order.toList->k<es.size:=λk hk=>by
  have:=Qj.mp (pm.mem_iff.mp hk)
  rwa[Xd,Xq]at this
 have e2:(order.filterMap (λk=>es[k]?)).toList=order.toList.map λk=>es.toList.getD k (0,QD):=by rw[Array.toList_filterMap];exact Yez _ _ lt
 have p2:(order.filterMap (λk=>es[k]?)).toList.Perm es.toList:=by
  rw[Array.toList_filterMap];have:=pm.filterMap (λk=>es[k]?);rw[Xd,Xq,filterMap_getElem?_range es]at this;exact this
 have sz:(order.filterMap (λk=>es[k]?)).size=es.size:=by rw[<-Xq,p2.length_eq,Xq]
 refine Xb ?_;show Xz _ _ (if((order.filterMap (λk=>es[k]?)).size !=es.size)=YD then _ else _) _ _ _;rw[sz,bne_self_eq_false];simp only[XN,if_false];refine Xl (wpAny_storeSet_of ho hd (q _ t' p2 ?_) (by rw[sz,X8];omega));rw[e2,Qq];have:(order.toList.map λk=>(es.toList.map (·.1)).getD k 0)=order.toList.map ((λe:Int×Xe=>e.1)∘ λk=>es.toList.getD k (0,QD)):=by
  refine Qk λk _=>?_;show(es.toList.map (·.1)).getD k 0=(es.toList.getD k (0,QD)).1;rw[Xm,Xm,Xi];cases es.toList[k]? <;>rfl
 rw[<-this];exact g
def Ycv{D:List (List Int)}{ks:List (List Int)}{Q:Bool->Xf->Prop}(hu:A.units<VB)(hD:HI D)(hS:TuS U κ b s.heap S ks)(hG:∀a,U a->IK prog w s.heap (κ a) a)(hUD:∀a,U a->κ a∈D)(ha:U a)(hl:ks.length<64)
  (q:∀v h' tk ks',JQ S s.heap h'->TuS U κ b h' S ks'->(κ a∈ks->ks'=ks)->(κ a∉ks->ks'.Perm (ks++[κ a]))->Q v { s with heap:=h',toks:=tk }):Xz (X4 prog w) A (setAdd S (.ref a)) Q E s:=by
 have hS0:=hS;obtain⟨o,es,ep,t,ho,hex,hd,he,g,rfl⟩:=hS;rw[Xd,Xq]at hl;have hf:=TuS.fits (U:=U) (κ:=κ) g;have iff:hT (κ a)∈es.toList.map (·.1)↔κ a∈es.toList.map (kOf κ):=by
  constructor
  .intro m
   obtain⟨e,me,ee⟩:=XF.mp m;obtain⟨b,rfl,ub⟩:=he e me;refine XF.mpr ⟨_,me,?_⟩;exact hD _ (hUD b ub) _ (hUD a ha) ee
  .intro m
   obtain⟨e,me,ee⟩:=XF.mp m;obtain⟨b,rfl,ub⟩:=he e me;have ee:κ b=κ a:=ee;exact XF.mpr ⟨_,me,by rw[ee]⟩
 unfold setAdd;refine JR (Xb (wpAny_pyHash_tuple hu (hG a ha) ?_));show Xz _ _ (setAddHashed S (.ref a) (hT (κ a))) Q E _;unfold setAddHashed setAddHashedIn;refine JR (Xb (JG ho hd hf ?_));dsimp only;rw[show byScan (.ref a) es=YF from rfl];simp only[XN,if_false]
 by_cases c:hT (κ a)∈es.toList.map (·.1)
 .obtain⟨j,i,nx,hp,hi⟩:=g.old (f:=λi=>(es[i]?.map (·.1)).getD 0) Zs2 c
  rw[Xi,Qc]at hi;obtain⟨e,ei,eh⟩:=Qe.mp hi;obtain⟨a',rfl,ua⟩:=he e (by rw[<-Qc]at ei;exact Qg ei);refine Xb (Z5q (s:={ s with toks:=s.toks+((κ a).length+1) }) hu ho hd g he hG ha ei ua (hD _ (hUD _ ua) _ (hUD _ ha) eh) hp ?_);exact Xl (q YF s.heap _ _ (Heap.SameBut.refl ..) hS0 (λ_=>rfl) λz=>YZ (iff.mp c) z)
 .obtain⟨j,hp,hj,hr⟩:=g.new (f:=λi=>(es[i]?.map (·.1)).getD 0) Zs2 c
  refine Xb (Z7g (s:={ s with toks:=s.toks+((κ a).length+1) }) ho hd g hp ?_);dsimp only;refine Xb (JG ho hd hf ?_);dsimp only;obtain⟨b1,b2,b3,b4,b5,b6,b7,b8⟩:=g.put hj hr;obtain⟨t1,p1,hput⟩:∃t1 p1,t.put j=(t1,p1):=⟨_,_,rfl⟩;rw[hput]at b1 b2 b3 b4 b5 b6 b7 b8;dsimp only at b1 b2 b3 b4 b5 b6 b7 b8;rw[Xd]at b5 b6;rw[Xq (xs:=es)]at b5 b6;rw[hput];dsimp only;rw[b2,YM rfl];refine Xb (Zt5 (s:={ s with toks:=s.toks+((κ a).length+1) }) (hG a ha) ?_);rw[YM rfl];have sz:(JM es p1 (hT (κ a),Xy a)).toList=es.toList.take p1++(hT (κ a),Xy a)::es.toList.drop p1:=Zp0 es _ _ b5;have szl:(JM es p1 (hT (κ a),Xy a)).size=es.size+1:=by
   rw[<-Xq,sz,Xv,Qd,Bk,Bb,Xq];omega
  have hh:(JM es p1 (hT (κ a),Xy a)).toList.map (·.1)=(es.toList.map (·.1)).take p1++hT (κ a)::(es.toList.map (·.1)).drop p1:=by rw[sz,Qx,X7,List.map_take,List.map_drop]
  have he1:∀e,e∈(JM es p1 (hT (κ a),Xy a)).toList->Ent U κ e:=λe m=>by
   rw[sz]at m;rcases Qp.mp m with m|m
   .exact he e (List.mem_of_mem_take m)
   .rcases Xn.mp m with rfl|m
    .exact⟨a,rfl,ha⟩
    .exact he e (List.mem_of_mem_drop m)
  have hk1:((JM es p1 (hT (κ a),Xy a)).toList.map (kOf κ)).Perm (es.toList.map (kOf κ)++[κ a]):=by
   rw[sz,Qx,X7];refine(List.perm_middle).trans ?_;rw[<-Qx,List.take_append_drop];exact List.perm_append_comm (l₁:=[κ a])
  have nk:κ a∉es.toList.map (kOf κ):=λz=>c (iff.mpr z);have fl:t1.fill=es.size+1:=by
   unfold SetTable.fill;rw[b3,<-Xq,b6];rfl
  have fu:=g.fu;rw[Xd,Xq]at fu;have hf1:t1.fits (JM es p1 (hT (κ a),Xy a)).size=YD:=by
   unfold SetTable.fits;rw[fl,szl,<-Xq,b6,beq_self_eq_true,b4,YS (by rcases g.mm with e|e|e<;>rw[e]at fu|- <;>omega)];rfl
  refine Xb (wpAny_storeSet_of ho hd ?_ (by rw[szl,X8];omega));have hg:=Zuz (es':=JM es p1 (hT (κ a),Xy a)) (t':=t1) ho hd
  by_cases tf:(es.size+1)*5>=t.mask*3
  .have e1:t1.tooFull=YD:=by
    unfold SetTable.tooFull;rw[fl,b4];exact YS tf
   rw[e1];simp only[Bool.not_false,Bool.and_self,if_true];obtain⟨m,hm,hn,hlm⟩:∃m,Msk m/\SetTable.sizeAbove (VD (es.size+1))=m+1/\(es.size+1)*5<m*3:=by
    rcases g.mm with e|e|e<;>rw[e]at fu tf
    .have:es.size=4:=by omega
     rw[this];exact⟨31,.inr (.inl rfl),by decide +kernel,by decide⟩
    .have:es.size=18:=by omega
     rw[this];exact⟨127,.inr (.inr rfl),by decide +kernel,by decide⟩
    .omega
   refine Xb (Z0o (b:=b) (m:=m) (s:={ s with heap:=s.heap.update S (Obj.putSet (JM es p1 (hT (κ a),Xy a)) t1),toks:=s.toks+((κ a).length+1) }) hg rfl hf1 b1 b2 hm hn (by rw[szl];exact hlm) λes2 t2 pm g2=>?_);have hg2:=Zuz (es':=es2) (t':=t2) hg rfl;exact Xl (q YD _ _ _ ((QK s.heap S _).trans (QK _ S _)) ⟨_,es2,_,t2,hg2,hex,rfl,λe m=>he1 e (pm.mem_iff.mp m),g2,rfl⟩ (λz=>YZ z nk) λ_=>(pm.map _).trans hk1)
  .have e1:t1.tooFull=YF:=by
    unfold SetTable.tooFull;rw[fl,b4];exact YT tf
   rw[e1];simp only[Bool.and_false,XN,if_false];refine Xl (q YD _ _ _ (QK ..) ⟨_,_,_,t1,hg,hex,rfl,he1,?_,rfl⟩ (λz=>YZ z nk) λ_=>hk1);rw[hh];refine⟨b1,b2,b3,b4▸g.mm,?_,b7,?_,?_⟩
   .rw[b6,<-hh,Xd,Xq,szl]
   .rw[<-hh,Xd,Xq,szl,b4];omega
   .rw[b4];exact b8
end
end L2
namespace L2
open PySem PySem.Spec PyProof.Rows PySem.W
section
variable {b:Bool}
theorem TuS.stay{ks:List (List Int)}(hS:TuS U κ b h S ks)(k:∀o,h.get? S=YB o->h'.get? S=YB o):TuS U κ b h' S ks:=by
 obtain⟨o,es,ep,t,ho,r⟩:=hS;exact⟨o,es,ep,t,k o ho,r⟩
theorem IK.stay{k:List Int}(hk:IK prog w h k a)(e:∀o,h.get? a=YB o->h'.get? a=YB o):IK prog w h' k a:=by
 obtain⟨o,its,c,ho,rest⟩:=hk;exact⟨o,its,c,e o ho,rest⟩
def Zve{its:Array Xe}{D:List (List Int)}(hh:A.handled=YC)(hu:A.units+32<VB)(hD:HI D)(hl:s.heap.IsList l its)(ln:kss.length=its.size)(lb:its.size<64)
  (hv:∀(i:Nat) (v:Xe),its[i]? =YB v->∃a,v=Xy a/\kss[i]? =YB (κ a)/\κ a∈D/\IK prog w s.heap (κ a) a)
  (q:∀h' tk ks,TuS (λa=>∃i:Nat,its[i]? =YB (Xy a)) κ (!byT w) h' s.heap.objs.size ks->OfL ks kss->(∀b o,b<s.heap.objs.size->s.heap.get? b=YB o->h'.get? b=YB o)->Q (Xy s.heap.objs.size) { s with heap:=h',toks:=tk }) :
  Xz (X4 prog w) A (call (.type "set") [Xy l]) Q E s:=by
 have old:∀a,(∃i:Nat,its[i]? =YB (Xy a))->κ a∈D/\IK prog w s.heap (κ a) a:=λa u=>by
  obtain⟨i,hi⟩:=u;obtain⟨a',e,_,r⟩:=hv i _ hi;cases e;exact r
 have emp:GT (!byT w) (.fresh 0 0 (!byT w)) []:=⟨rfl,rfl,rfl,.inl rfl,rfl,.nil,(show 0<21 by decide),λi h j e=>by rw[U3]at e;cases e⟩;refine Zkt (T:=λh ks=>TuS (λa=>∃i:Nat,its[i]? =YB (Xy a)) κ (!byT w) h s.heap.objs.size ks) (Ok:=λv k=>∃a,v=Xy a/\κ a=k/\∃i:Nat,its[i]? =YB (Xy a)) hh hl ln (λA' e=>⟨λ_ _ _ h k=>h.stay k,λs' E v k ks Q ok hG hS hl r=>?_⟩) (λh' e=>⟨_,#[],0,_,e,⟨rfl,rfl,rfl⟩,rfl,(λe m=>nomatch m),emp,rfl⟩) (λi v e=>?_) q
 .obtain⟨a,rfl,rfl,u⟩:=ok
  exact Ycv (!0) hD hS (λa u=>(old a u).2.stay λo e=>hG a o (XH e) e) (λa u=>(old a u).1) u (!0) r
 .obtain⟨a,h1,h2,_⟩:=hv i v e
  exact⟨_,h2,a,h1,rfl,i,h1▸e⟩
end
end L2
namespace L2
open PySem PySem.Spec PyProof.Rows PySem.W
def pk:List Int->Int×Int
 | [a,b]=>(a,b)
 | _=>(0,0)
def kl(p:Int×Int):List Int:=[p.1,p.2]
def Zi9{a b:Int×Int}:ltP a b=YD↔a.1<b.1\/(a.1=b.1/\a.2<b.2):=by
 unfold ltP
 by_cases c:a.1=b.1
 .rw[YM c]
  by_cases c':a.2=b.2
  .rw[YM c']
   exact⟨λz=>(nomatch z),λz=>by omega⟩
  .rw[YQ c',decide_eq_true_iff]
   exact⟨λz=>.inr ⟨c,z⟩,λz=>by omega⟩
 .rw[YQ c,decide_eq_true_iff]
  exact⟨.inl,λz=>by omega⟩
def Znw{a b c:Int×Int}(h1:ltP a b=YD)(h2:ltP b c=YD):ltP a c=YD:=by
 rw[Zi9]at*
 omega
def Zm9(a:Int×Int):ltP a a=YF:=Ve.mpr λz=>by
 have:=Zi9.mp z;omega
def Ztf{a b:Int×Int}(h:a≠b)(c:ltP a b=YF):ltP b a=YD:=by
 rw[Zi9];have n:¬(a.1<b.1\/(a.1=b.1/\a.2<b.2)):=λz=>by rw[Zi9.mpr z]at c;cases c
 have:¬(a.1=b.1/\a.2=b.2):=λz=>h (Prod.ext z.1 z.2);omega
def Zya(x:Int×Int):List (Int×Int)->List (Int×Int)
 | []=>[x]
 | y::l=>if x=y then y::l else if ltP x y=YD then x::y::l else y::Zya x l
def ssP:List (Int×Int)->List (Int×Int)
 | []=>[]
 | x::l=>Zya x (ssP l)
theorem Zob{x y:Int×Int}{l:List (Int×Int)}:y∈Zya x l↔y=x\/y∈l:=by
 induction l with
 | nil=>rw[Zya,Xp];exact⟨.inl,λz=>z.elim id λz=>nomatch z⟩
 | cons z l ih=>
  rw[Zya];split
  .rename_i c
   rw[c];exact⟨.inr,λq=>q.elim (λe=>e▸ .head _) id⟩
  .split
   .exact Xn
   .rw[Xn,ih,Xn]
    exact⟨λq=>q.elim (λe=>.inr (.inl e)) λq=>q.elim .inl λq=>.inr (.inr q),λq=>q.elim (λe=>.inr (.inl e)) λq=>q.elim .inl λq=>.inr (.inr q)⟩
def Z2s{y:Int×Int}{l:List (Int×Int)}:y∈ssP l↔y∈l:=by
 induction l with
 | nil=>exact .rfl
 | cons x l ih=>rw[ssP,Zob,ih,Xn]
abbrev UpP(l:List (Int×Int)):Prop:=l.Pairwise λa b=>ltP a b=YD
def Z3y{x:Int×Int}{l:List (Int×Int)}(h:UpP l):UpP (Zya x l):=by
 induction l with
 | nil=>exact UL _ _
 | cons z l ih=>
  obtain⟨h1,h2⟩:=BV.mp h;rw[Zya];split
  .exact h
  .rename_i c
   split
   .rename_i c2
    exact BV.mpr ⟨λy hy=>by
     rcases Xn.mp hy with rfl|hy
     .exact c2
     .exact Znw c2 (h1 y hy),h⟩
   .rename_i c2
    refine BV.mpr ⟨λy hy=>?_,ih h2⟩;rcases Zob.mp hy with rfl|hy
    .exact Ztf c (Ve.mpr c2)
    .exact h1 y hy
def Z5z(l:List (Int×Int)):UpP (ssP l):=by
 induction l with
 | nil=>exact .nil
 | cons x l ih=>exact Z3y ih
def Zwh:∀{l l':List (Int×Int)},UpP l->UpP l'->(∀x,x∈l↔x∈l')->l=l':=by
 intro l
 induction l with
 | nil=>
  intro l' _ _ h;cases l' with
  | nil=>rfl
  | cons y l'=>exact YZ ((h y).mpr (.head _)) (λz=>nomatch z)
 | cons x l ih=>
  intro l' h1 h2 h;cases l' with
  | nil=>exact YZ ((h x).mp (.head _)) (λz=>nomatch z)
  | cons y l'=>
   obtain⟨a1,a2⟩:=BV.mp h1;obtain⟨b1,b2⟩:=BV.mp h2;have e:x=y:=by
    rcases Xn.mp ((h x).mp (.head _))with e|m
    .exact e
    .rcases Xn.mp ((h y).mpr (.head _))with e|m2
     .exact e.symm
     .have:=Znw (b1 x m) (a1 y m2)
      rw[Zm9]at this;cases this
   subst e;have irr:∀{m:List (Int×Int)},(∀z∈m,ltP x z=YD)->x∉m:=λq m=>by
    have:=q x m;rw[Zm9]at this;cases this
   rw[ih a2 b2 λz=>?_];constructor
   .intro m
    rcases Xn.mp ((h z).mp (.tail _ m))with e|m'
    .exact YZ (e▸m) (irr a1)
    .exact m'
   .intro m
    rcases Xn.mp ((h z).mpr (.tail _ m))with e|m'
    .exact YZ (e▸m) (irr b1)
    .exact m'
def Zw3(x:Int×Int)(l:List (Int×Int)):(Zya x l).length<=l.length+1:=by
 induction l with
 | nil=>exact XD _
 | cons z l ih=>
  rw[Zya];split
  .exact Nat.le_succ _
  .split
   .exact XD _
   .exact Vn ih
def Zva(l:List (Int×Int)):(ssP l).length<=l.length:=by
 induction l with
 | nil=>exact XD _
 | cons x l ih=>exact QX (Zw3 _ _) (Vn ih)
def Zno{k:List Int}(q:ItemsAre (Vv prog w) k vs):ReadsAll h vs (k.map Xu) []:=by
 induction q with
 | nil=>exact .nil
 | cons h _ ih=>
  obtain⟨t,rfl⟩:=Value.isInt_shape h;exact ReadsAll.cons (Reads.int _ t) ih
def Zj9{k:List Int}(q:IK prog w h k a):Reads h (.ref a) (tupI k) []:=by
 obtain⟨o,its,n,ho,hc,hd,hi⟩:=q;exact .tuple ho hc hd (Zno hi)
def adr:Xe->YG
 | .ref a=>a
 | _=>0
def Zg1(d d':Y)(lt:Nat->Nat->Bool)(vs:List Y):sLay d lt vs=sLay d' lt vs:=by
 unfold sLay;split
 .rfl
 .refine Qk λi hi=>?_
  have:=Qj.mp ((Zea (!0)).mem_iff.mp hi);rw[Xm,Xm,Xj this];rfl
def Znl(hG:∀a,U a->IK prog w h (κ a) a):∀(as:List YG),(∀a,a∈as->U a)->ReadsAll h (as.map Xy) (as.map λa=>tupI (κ a)) []:=by
 intro as
 induction as with
 | nil=>exact λ_=>.nil
 | cons a as ih=>exact λhu=>ReadsAll.cons (Zj9 (hG a (hu a (.head _)))) (ih λa m=>hu a (.tail _ m))
def Zv2{ks:List (List Int)}(hh:A.handled=YC)(hu:A.units+64<VB)(hS:TuS U κ (!byT w) s.heap S ks)(h64:ks.length<64)(hG:∀a,U a->IK prog w s.heap (κ a) a)(h2:∀k,k∈ks->k=kl (pk k))(nd:ks.Nodup)
  (q:∀h' tk d L (as:List YG) c,s.heap.objs.size<=L->h'.get? L=YB { cls:=.type "list",data:=.seq (as.map Xy).toArray c }->(∀a,a∈as->U a)->(as.map κ).Perm ks->UpP (as.map λa=>pk (κ a))->(∀b o,b<s.heap.objs.size->s.heap.get? b=YB o->h'.get? b=YB o)->Q (.ref L) { s with heap:=h',toks:=tk,drawn:=d }):Xz (X4 prog w) A (call (.builtin "sorted") [.ref S]) Q E s:=by
 obtain⟨o,es,ep,t,ho,hex,hd,he,g,rfl⟩:=hS;rw[Xd,Xq]at h64;have tb:Tb (!byT w) t:=⟨g.led,λ_=>g.up⟩;refine Calls.call_function_entry kind_sorted plain_sorted entry_sorted (args_sorted1 _) ?_;unfold BJ.«sorted»;refine Xb (m:=checkCount "sorted" 1 1 _) (Xl ?_);refine Xb (Zlu (by simpa using hh) ho hex hd (TuS.fits (U:=U) (κ:=κ) g) tb (!0) λh1 tk d acc pm lN k1=>?_);obtain⟨as,hacc⟩:∃as,as=acc.map adr:=⟨_,rfl⟩;have ua:∀a,a∈as->U a:=λa m=>by
  rw[hacc]at m;obtain⟨v,mv,rfl⟩:=XF.mp m;obtain⟨e,me,rfl⟩:=XF.mp (pm.mem_iff.mp mv);obtain⟨b,rfl,ub⟩:=he e me;exact ub
 have ea:acc=as.map Xy:=by
  rw[hacc,Qq];refine(List.map_id acc).symm.trans (Qk λv mv=>?_);obtain⟨e,me,rfl⟩:=XF.mp (pm.mem_iff.mp mv);obtain⟨b,rfl,ub⟩:=he e me;rfl
 have pk0:(as.map κ).Perm (es.toList.map (kOf κ)):=by
  have:=pm.map λv=>κ (adr v);rw[Qq]at this;rw[hacc,Qq];refine this.trans (.of_eq (Qk λe me=>?_));obtain⟨b,rfl,ub⟩:=he e me;rfl
 subst ea;have la:as.length=es.size:=by rw[<-Xd,pm.length_eq,Xd,Xq]
 clear hacc;have hG1:∀a,U a->IK prog w h1 (κ a) a:=λa u=>(hG a u).stay λo e=>k1 a o (XH e) e;have nk:(as.map κ).Nodup:=pk0.nodup_iff.mpr nd;have kf:∀a,a∈as->κ a=kl (pk (κ a)):=λa m=>h2 _ (pk0.mem_iff.mp (XF.mpr ⟨a,m,rfl⟩));obtain⟨K,S1,S2⟩:=Zrp.run;obtain⟨lt,hlt⟩:∃lt,lt=lk kdP ltP (as.map λa=>tupI (κ a)):=⟨_,rfl⟩;have ra:=Znl hG1 as ua;have at_:∀i,i<as.length->∃a,as[i]? =YB a/\a∈as:=λi hi=>⟨_,Xj hi,Bl hi⟩;have kd:∀a,a∈as->kdP (tupI (κ a))=YB (pk (κ a)):=λa m=>by rw[kf a m];rfl
 have lte:∀i j a b,as[i]? =YB a->as[j]? =YB b->lt i j=ltP (pk (κ a)) (pk (κ b)):=λi j a b h1 h2=>by
  rw[hlt];unfold lk;rw[Xm,Xm,Xi,Xi,h1,h2];show((kdP (tupI (κ a))).bind λx=>(kdP (tupI (κ b))).map λy=>ltP x y).getD YF=_;rw[kd a (Qg h1),kd b (Qg h2)];rfl
 have nea:∀i j a b,i≠j->as[i]? =YB a->as[j]? =YB b->pk (κ a)≠pk (κ b):=λi j a b ne h1 h2 e=>by
  obtain⟨hi,e1⟩:=Xk.mp h1;obtain⟨hj,e2⟩:=Xk.mp h2;have ek:κ a=κ b:=by rw[kf a (Qg h1),kf b (Qg h2),e]
  have pw:=Um.mp nk;rcases Nat.lt_or_gt_of_ne ne with c|c
  .exact pw i j (by rw[Xd];exact hi) (by rw[Xd];exact hj) c (by rw[List.getElem_map,List.getElem_map,e1,e2,ek])
  .exact pw j i (by rw[Xd];exact hj) (by rw[Xd];exact hi) c (by rw[List.getElem_map,List.getElem_map,e1,e2,ek])
 have T:Tot lt as.length:=by
  refine⟨λi j k hi hj hk h1 h2=>?_,λi j hi hj ne c=>?_,λi j hi hj h=>?_⟩
  .obtain⟨a,ha,_⟩:=at_ i hi
   obtain⟨b,hb,_⟩:=at_ j hj;obtain⟨c,hc,_⟩:=at_ k hk;rw[lte i j a b ha hb]at h1;rw[lte j k b c hb hc]at h2;rw[lte i k a c ha hc];exact Znw h1 h2
  .obtain⟨a,ha,_⟩:=at_ i hi
   obtain⟨b,hb,_⟩:=at_ j hj;rw[lte i j a b ha hb]at c;rw[lte j i b a hb ha];exact Ztf (nea i j a b ne ha hb) c
  .obtain⟨a,ha,_⟩:=at_ i hi
   obtain⟨b,hb,_⟩:=at_ j hj;rw[lte i j a b ha hb]at h;rw[lte j i b a hb ha];exact Ve.mpr λz=>by
    have:=Znw h z;rw[Zm9]at this;cases this
 have up:UpP ((sLay 0 lt as).map λa=>pk (κ a)):=List.pairwise_map.mpr (Z0y (β:=Nat) T λi j hi hj h=>by
  obtain⟨a,ha,_⟩:=at_ i hi;obtain⟨b,hb,_⟩:=at_ j hj;rw[lte i j a b ha hb]at h;rw[Xm,Xm,ha,hb];exact h)
 refine Xb (wpAny_newList ?_ (by rw[X8,Xd];omega));have ga:(h1.push (Bu "list" (as.map Xy).toArray 0)).get? h1.objs.size=YB (Bu "list" (as.map Xy).toArray 0):=XQ _ rfl;have keep:∀b o,h1.get? b=YB o->(h1.push (Bu "list" (as.map Xy).toArray 0)).get? b=YB o:=λb o e=>Xg _ e;obtain⟨z1,z2⟩:=readsAll_get ra;have kall:∀d,d∈(as.map λa=>tupI (κ a))->∃k,kdP d=YB k:=λd m=>by
  obtain⟨a,ma,rfl⟩:=XF.mp m;exact⟨_,kd a ma⟩
 refine Xb (JR (JD slot_list_sort ⟨_,ga,rfl⟩ entry_list_sort (Zio (κ:=K) (lt:=lt) (h0:=h1) ga keep (Heap.get?_none_of_le (XD _)) (by rw[Xd];omega) (λh2 s' k Q q=>S1 _ _ _ _ s' _ _ _ Q h2 (ReadsAll.keeps k ra) kall q) (λh2 s' k i j C hi hj hc=>?_) ⟨_,rfl,?_⟩) (args_list_sort _)))
 .rw[Xd]at hi hj
  obtain⟨a,ha,ma⟩:=at_ i hi;obtain⟨b,hb,mb⟩:=at_ j hj;rw[lte i j a b ha hb]at hc;unfold kas_ask;rw[Xm,Xm,Xi,Xi,ha,hb];exact S2 _ _ _ _ s' _ _ _ _ _ _ _ _ C (show A.units+1+1+32<VB by omega) (Reads.keeps k (Zj9 (hG1 a (ua a ma)))) (Reads.keeps k (Zj9 (hG1 b (ua b mb)))) (kd a ma) (kd b mb) hc
 .have eo:sLay QD lt (as.map Xy)=(sLay 0 lt as).map Xy:=by rw[Zg1 QD (Xy 0),Zjp]
  rw[eo];have g1:=Ub (c :="list") ga (λ_=>(#[]:Array Xe));have g3:=Ub (c :="list") (Xg (Bu "list" #[] 0) (Xg (Bu "tuple" (as.map Xy).toArray 0) g1)) (λ_=>((sLay 0 lt as).map Xy).toArray);refine Xl ⟨_,rfl,q _ tk d _ (sLay 0 lt as) _ lN g3 (λa m=>ua a ((Zcj _ _ _).mem_iff.mp m)) (((Zcj _ _ _).map κ).trans pk0) up λb o lb e=>?_⟩;have nb:b≠h1.objs.size:=Xr (Qi lb lN);exact(QK ..).extBut _ _ nb (Xg _ (Xg _ ((QK ..).extBut _ _ nb (Xg _ (k1 b o lb e)))))
end L2
namespace L2
open PySem PySem.Spec PyProof.Rows PySem.W
def D10:List (List Int):=(XC 10).flatMap λ(a:Nat)=>(XC 10).map λ(b:Nat)=>[(a:Int),(b:Int)]
def Yj7:HI D10:=λk hk k' hk' e=>Z7j (f:=hT) (show(D10.map hT).Nodup by decide +kernel) hk hk' e
def Z5e(p:Int×Int):Bool:=decide (0<=p.1)&&decide (p.1<10)&&(decide (0<=p.2)&&decide (p.2<10))
def Z9h{p:Int×Int}(h:Z5e p=YD):kl p∈D10:=by
 unfold Z5e at h;rw[XJ,XJ,XJ,decide_eq_true_iff,decide_eq_true_iff,decide_eq_true_iff,decide_eq_true_iff]at h;obtain⟨⟨a,b⟩,c,d⟩:=h;refine List.mem_flatMap.mpr ⟨p.1.toNat,Qj.mpr (!0),XF.mpr ⟨p.2.toNat,Qj.mpr (!0),?_⟩⟩;unfold kl;rw[Int.toNat_of_nonneg a,Int.toNat_of_nonneg c]
def Z56[DecidableEq Y]:∀{l m:List Y},l.Nodup->(∀x,x∈l->x∈m)->l.length<=m.length:=by
 intro l
 induction l with
 | nil=>exact λ_ _=>QJ _
 | cons a l ih=>
  intro m nd h;obtain⟨h1,h2⟩:=Qt.mp nd;have ha:=h a (.head _);have:=ih (m:=m.erase a) h2 λx hx=>(List.mem_erase_of_ne (λ(e:x=a)=>h1 (e▸hx))).mpr (h x (.tail _ hx));rw[List.length_erase_of_mem ha]at this;have:=List.length_pos_of_mem ha;rw[Qd];omega
def keyOf(h:YH)(a:YG):List Int:=match h.get? a with
 | some o=>(match o.data with| .seq its _=>its.toList.map vI|_=>[])
 | none=>[]
def Zyc{k:List Int}(q:ItemsAre (Vv prog w) k vs):vs.map vI=k:=by
 induction q with
 | nil=>rfl
 | cons h _ ih=>
  obtain⟨t,rfl⟩:=Value.isInt_shape h;rw[X7,ih];rfl
def Zw1{k:List Int}(q:IK prog w h k a):keyOf h a=k:=by
 obtain⟨o,its,n,ho,hc,hd,hi⟩:=q;unfold keyOf;rw[ho];dsimp only;rw[hd];exact Zyc hi
def pD(p:Int×Int):Xa:=.tuple [.int p.1,.int p.2]
def Zgd:List Xa->Option (List (Int×Int))
 | []=>YB []
 | d::r=>(kdP d).bind λk=>(Zgd r).bind λks=>YB (k::ks)
def Zsy{es:List Xa}{ps:List (Int×Int)}(h:Zgd es=YB ps):es=ps.map pD:=by
 induction es generalizing ps with
 | nil=>cases h;rfl
 | cons d r ih=>
  rw[Zgd]at h;obtain⟨k,h1,h⟩:=bs h;obtain⟨ks,h2,h⟩:=bs h;cases h;rw[X7,<-ih h2,Zdt h1];rfl
def Zq4(ps:List (Int×Int)):Zgd (ps.map pD)=YB ps:=by
 induction ps with
 | nil=>rfl
 | cons p ps ih=>
  rw[X7];show(Zgd (ps.map pD)).bind _=_;rw[ih];rfl
def Ycy(ps:List (Int×Int)):ps.map pD=(ps.map kl).map tupI:=by rw[Qq];rfl
def Zwy{v:V}(h:Da G H L v (.list (kss.map tupI))):∃a xs,v= .ref a/\SqL G H a xs/\Zzv H xs kss/\Das G H L xs (kss.map tupI):=by
 generalize e:VP (kss.map tupI)=d at h;cases h with
 | lst l e1 r=>
  cases e;exact⟨_,_,rfl,.inl e1,Zwi r,r⟩
 | scr k=>
  rename_i a ms;have e':=PyData.list.inj e;have hn:ms=[]:=by
   cases ms with
   | nil=>rfl
   | cons m ms=>
    cases kss with
    | nil=>cases e'
    | cons k kss=>cases(List.cons.inj e').1
  subst hn;have hk:kss=[]:=by
   cases kss with
   | nil=>rfl
   | cons k kss=>cases e'
  subst hk;obtain⟨a',e2,hs⟩:=Da.ints_sq (L:=λ_=>True) (Da.scr (H:=H) k);cases e2;exact⟨_,_,rfl,hs,.nil,.nil⟩
 | _=>cases e
def Z8o{xs:List V}(h:Zzv H xs kss):∀{its:List Xe},Vals xs its->∀(i:Nat) (a:YG),its[i]? =YB (Xy a)->xs[i]? =YB (V.ref a):=by
 induction h with
 | nil=>
  intro its r i a e;cases r;simp at e
 | cons h t ih=>
  intro its r i a e;cases r with
  | cons r rr=>
   cases r;cases i with
   | zero=>cases e;rfl
   | succ i=>exact ih rr i a e
def Z2m:∀{ys:List V} {ds:List Xa},ys.length=ds.length->(∀(j:Nat) y d,ys[j]? =YB y->ds[j]? =YB d->Da G H L y d)->Das G H L ys ds:=by
 intro ys
 induction ys with
 | nil=>
  intro ds l _;cases ds with
  | nil=>exact .nil
  | cons d ds=>cases l
 | cons y ys ih=>
  intro ds l h;cases ds with
  | nil=>cases l
  | cons d ds=>exact .cons (h 0 y d rfl rfl) (ih (Nat.succ.inj l) λj y d a b=>h (j+1) y d a b)
def Zs3(as:List YG):Vals (as.map V.ref) (as.map Xy):=by
 induction as with
 | nil=>exact .nil
 | cons a as ih=>exact .cons rfl ih
def Yh7(xs:List V)(ps:List (Int×Int))(ys:List V)(qs:List (Int×Int)):Prop:=ys.length=qs.length/\∀(j:Nat) y k,ys[j]? =YB y->qs[j]? =YB k->∃i:Nat,xs[i]? =YB y/\ps[i]? =YB k
section
variable {a:YJ}{t:TA}
def Yj2(K:Xc)(t:TA):TE:=λO H Q=>t O H λvs H1=>∃(l:YG) (xs:List V) (ps:List (Int×Int)),vs=[.ref l]/\SqL K H1 l xs/\Zzv H1 xs (ps.map kl)/\ps.length<64/\(∀p,p∈ps->kl p∈D10)/\∀q ys,H1 q=YC->Yh7 xs ps ys (ssP ps)->Q (.ref q) (upd H1 q (.lst ys))
def Zml(hc:X.calm=YD)(hu:X.A.units+64<VB)(hgl:Gl X "sorted")(hml:X.mg "sorted"=YC)(hvl:Qh "sorted"=YB (.builtin "sorted"))(hg:Gl X "set")(hm:X.mg "set"=YC)(hv:Qh "set"=YB (.type "set"))(ha:PA X [a] t)
  (he:Xo [a] X.env=(YF,eval a X.env)::Xo [] X.env:=by rfl) (hpl:(Q3 pos' (Xo [] X.env)).any (·.1)=YF:=by rfl)
  (he':Xo [.Call (.Name "set" pr) [a] [] pos'] X.env=(YF,eval (.Call (.Name "set" pr) [a] [] pos') X.env)::Xo [] X.env:=by rfl) (hpl':(Q3 pos (Xo [] X.env)).any (·.1)=YF:=by rfl) :
  PE X (.Call (.Name "sorted" pl) [.Call (.Name "set" pr) [a] [] pos'] [] pos) (Yj2 X.K t):=by
 intro pins s O H Q I h;refine Be (Zcc I hgl hml hvl ?_ (!1) (!1));refine Uy ?_ he' hpl';rw[he'];show Xz _ _ (spliced ((YF,eval (.Call (.Name "set" pr) [a] [] pos') X.env)::Q3 pos (Xo [] X.env))) _ _ s;have inner:Xz (X4 X.prog X.w) X.A (eval (.Call (.Name "set" pr) [a] [] pos') X.env) (λu s2=>∃(S:YG) (κ:YG->List Int) (U:YG->Prop) (ks:List (List Int)) (xs:List V) (ps:List (Int×Int)) (H1:Hp),u=Xy S/\TuS U κ (!byT X.w) s2.heap S ks/\OfL ks (ps.map kl)/\ks.length<=ps.length/\ps.length<64/\(∀a,U a->IK X.prog X.w s2.heap (κ a) a/\∃i:Nat,xs[i]? =YB (V.ref a)/\(ps.map kl)[i]? =YB (κ a))/\Inv X pins O H1 s2/\∀q ys,H1 q=YC->Yh7 xs ps ys (ssP ps)->Q (.ref q) (upd H1 q (.lst ys))) X.xe s:=by
  refine Be (Zcc I hg hm hv ?_ (!1) (!1));refine JH (thn (ha pos' pins s O H _ I h) λus s1 qz=>?_) he hpl;obtain⟨vs,H1,I1,r1,l,xs,ps,rfl,hs,ht,h64,hD,q⟩:=qz;obtain⟨u,rfl,ru⟩:=vals1 r1;cases(show u=Xy l from ru);obtain⟨its,rv,pl,hz⟩:=I1.list hs;obtain⟨ll,g⟩:=Z4z I1 ht rv;have g2:∀(i:Nat) (v:Xe),its.toArray[i]? =YB v->∃a,v=Xy a/\(ps.map kl)[i]? =YB (keyOf s1.heap a)/\keyOf s1.heap a∈D10/\IK X.prog X.w s1.heap (keyOf s1.heap a) a:=λi v ev=>by
   obtain⟨a,k,e1,e2,e3⟩:=g i v (by simpa using ev);refine⟨a,e1,?_⟩;rw[Zw1 e3];refine⟨e2,?_,e3⟩;obtain⟨p,mp,e⟩:=XF.mp (Qg e2);rw[<-e];exact hD p mp
  rw[Xd]at ll;refine Zve (its:=its.toArray) (κ:=keyOf s1.heap) (D:=D10) (kss:=ps.map kl) (I1.ok.hd hc) (!0) Yj7 pl.isList (by rw[Xd,XM,ll]) (by rw[XM];omega) g2 λh' tk ks a1 a2 a3=>?_;have lk:ks.length<=ps.length:=by
   have:=Z56 a2.1 λx hx=>(a2.2 x).mp hx
   rwa[Xd]at this
  refine⟨_,keyOf s1.heap,_,ks,xs,ps,H1,rfl,a1,a2,lk,h64,λa u=>?_,I1.kept (t':=tk) (λb u e=>a3 b u (XH e) e),q⟩;obtain⟨i,hi⟩:=u;obtain⟨a',e1,e2,_,e4⟩:=g2 i _ hi;cases e1;exact⟨e4.stay λo e=>a3 a o (XH e) e,i,Z8o ht rv i a (by simpa using hi),e2⟩
 refine Calls.spliced_cons (thn inner λu s2 qz=>?_);obtain⟨S,κ,U,ks,xs,ps,H1,rfl,hS,hO,lk,h64,hG,I2,q⟩:=qz;refine Calls.spliced_nil ?_;have kp:∀k,k∈ks->∃p,p∈ps/\k=kl p:=λk hk=>by
  obtain⟨p,mp,e⟩:=XF.mp ((hO.2 k).mp hk);exact⟨p,mp,e.symm⟩
 refine Zv2 (U:=U) (κ:=κ) (I2.ok.hd hc) (!0) hS (!0) (λa u=>(hG a u).1) (λk hk=>by obtain⟨p,_,e⟩:=kp k hk;rw[e];rfl) hO.1 λh' tk d L as cc lN g ua pm up k=>?_;have es:(as.map λa=>pk (κ a))=ssP ps:=Zwh up (Z5z ps) λx=>by
  rw[Z2s,XF];constructor
  .intro z
   obtain⟨a,ma,rfl⟩:=z;obtain⟨p,mp,e⟩:=kp _ (pm.mem_iff.mp (XF.mpr ⟨a,ma,rfl⟩));rw[e];exact mp
  .intro z
   obtain⟨a,ma,e⟩:=XF.mp (pm.mem_iff.mpr ((hO.2 (kl x)).mpr (XF.mpr ⟨x,z,rfl⟩)));exact⟨a,ma,by rw[e];rfl⟩
 have la:as.length=(ssP ps).length:=by rw[<-es,Xd]
 have l64:as.length<64:=by have:=Zva ps;omega
 refine⟨.ref L,_,(I2.laid (t':=tk) (o:=.lst (as.map V.ref)) (λb ob e=>k b ob (XH e) e) lN ⟨by rw[Xd,X8];omega,as.map Xy,cc,Zs3 as,g⟩).drawn d,rfl,q _ _ (I2.hok.fresh lN) ⟨by rw[Xd,la],λj y x e1 e2=>?_⟩⟩;rw[Xi]at e1;obtain⟨a,ea,rfl⟩:=Qe.mp e1;rw[<-es,Xi,ea]at e2;cases e2;obtain⟨_,i,i1,i2⟩:=hG a (ua a (Qg ea));refine⟨i,i1,?_⟩;rw[Xi]at i2;obtain⟨p,hp,e⟩:=Qe.mp i2;show ps[i]? =YB (pk (κ a));rw[hp,<-e];rfl
def Zkr(mr:MAt):MEt:=λδ K=>mr δ λrs δ'=>n1 (λd=>∃ps:List (Int×Int),d= .list (ps.map pD)/\ps.length<64/\(∀p,p∈ps->kl p∈D10)/\K (.nd (((ssP ps).map pD).map OT.fz)) δ') (OT.datas rs)
def Zqc(hc:X.calm=YD)(hu:X.A.units+64<VB)(hgl:Gl X "sorted")(hml:X.mg "sorted"=YC)(hvl:Qh "sorted"=YB (.builtin "sorted"))(hg:Gl X "set")(hm:X.mg "set"=YC)(hv:Qh "set"=YB (.type "set"))(ha:MA X io p c [a] mr)
  (he:Xo [a] X.env=(YF,eval a X.env)::Xo [] X.env:=by rfl) (hpl:(Q3 pos' (Xo [] X.env)).any (·.1)=YF:=by rfl)
  (he':Xo [.Call (.Name "set" pr) [a] [] pos'] X.env=(YF,eval (.Call (.Name "set" pr) [a] [] pos') X.env)::Xo [] X.env:=by rfl) (hpl':(Q3 pos (Xo [] X.env)).any (·.1)=YF:=by rfl) :
  ME X io p c (.Call (.Name "sorted" pl) [.Call (.Name "set" pr) [a] [] pos'] [] pos) (Zkr mr):=by
 obtain⟨_,A,s⟩:=ha;refine⟨_,Zml hc hu hgl hml hvl hg hm hv A he hpl he' hpl',λC H O δ fp ex K Q R h kk=>s C H O δ fp ex _ _ R h λH1 vs rs δ1 fp1 new r1 h1=>?_⟩;obtain⟨v,d,rfl,e2,q,ps,e,h64,hD,h2⟩:=(r1.das R).one h1;subst e;rw[Ycy]at q;obtain⟨l,xs,rfl,hs,ht,hd⟩:=Zwy q;refine⟨l,xs,ps,rfl,hs,ht,h64,hD,λp ys hp pick=>?_⟩;have sm:=Zw hp (.lst ys);exact kk _ _ _ δ1 fp1 [p] (RE.tree R r1.base r1.stp sm (Zaw hp) (Zcd p) (Own.list hp (Z2m (by rw[pick.1,Xd]) λj y d e1 e2=>by
  rw[Xi]at e2;obtain⟨k,ek,rfl⟩:=Qe.mp e2;obtain⟨i,i1,i2⟩:=pick.2 j y k e1 ek;obtain⟨d',ed,r⟩:=hd.get' i1;rw[Xi,Xi,i2]at ed;cases ed;exact r))) h2
def Zd2(a:FA):FE:=λδ=>(a δ).bind λq=>(Yc7 (OT.datas q.1)).bind λes=>(Zgd es).bind λps=>if(decide (ps.length<64)&&ps.all Z5e)=YD then YB (.nd (((ssP ps).map pD).map OT.fz),q.2)else YC
def Zm4(h:ME X io p c e (Zkr (o2 ra))):ME X io p c e (o2 (Zd2 ra)):=h.weak λδ K h=>by
 obtain⟨r,δ',h,k⟩:=h;obtain⟨⟨x,δ1⟩,h1,h⟩:=bs h;refine⟨x,δ1,h1,?_⟩;obtain⟨es,h2,h⟩:=bs h;obtain⟨ps,h3,h⟩:=bs h;split at h
 case isFalse=>cases h
 rename_i ok;rw[XJ,decide_eq_true_iff]at ok;cases h;rw[show OT.datas x=[.list es]from Z3p h2];exact⟨ps,YW VP (Zsy h3),ok.1,λp m=>Z9h (BX.mp ok.2 p m),k⟩
end
end L2
namespace L2
open PySem PySem.Spec
def EpS(S:FS)(δ:Ze)(N:Ze->Prop)(R:Xa->Ze->Prop):Prop:=(∃δ',S δ= .nx δ'/\N δ')\/∃o δ',S δ= .rt o δ'/\R o.data δ'
section
variable {e a b:FE}{as:FA}{Q:Xa->Ze->Prop}{QA:List Xa->Ze->Prop}{T:Bool->Ze->Prop}{t u:FT}{S:FS}{N:Ze->Prop}{R:Xa->Ze->Prop}{d:Xa}
def Z9d(h:S δ= .nx δ')(q:N δ'):EpS S δ N R:=.inl ⟨δ',h,q⟩
def Zxh{g:FG}(I:Nat->Ze->Prop)(ds:List Xa)(m:Nat)(h0:I m δ)(turn:∀(k:Nat) (d:Xa) (δ:Ze),ds[k]? =YB d->I (m+k) δ->∃δ1,g d δ=YB δ1/\EpS S δ1 (I (m+k+1)) R)(fin:∀δ',I (m+ds.length) δ'->N δ') :
  (∃ δ',forLoop g S ds δ= .nx δ'/\N δ')\/∃o δ',forLoop g S ds δ= .rt o δ'/\R o.data δ':=by
 induction ds generalizing m δ with
 | nil=>exact .inl ⟨δ,rfl,fin δ h0⟩
 | cons d ds ih=>
  obtain⟨δ1,e1,h⟩:=turn 0 d δ rfl h0;rcases h with⟨δ2,e2,q⟩|⟨o,δ2,e2,q⟩
  .have e:forLoop g S (d::ds) δ=forLoop g S ds δ2:=by rw[forLoop,e1];show(match S δ1 with| .nx δ2=>_| .ct δ2=>_| .bk δ2=>_|r=>_)=_;rw[e2]
   rw[e];refine ih (m+1) q (λk d' δ' hk hI=>?_) λδ' hI=>fin δ' (by rw[Qd];rw[show m+1+ds.length=m+(ds.length+1) by omega]at hI;exact hI);have:=turn (k+1) d' δ' hk (by rw[show m+(k+1)=m+1+k by omega];exact hI)
   rwa[show m+(k+1)+1=m+1+k+1 by omega]at this
  .refine .inr ⟨o,δ2,?_,q⟩
   rw[forLoop,e1];show(match S δ1 with| .nx δ2=>_| .ct δ2=>_| .bk δ2=>_|r=>_)=_;rw[e2]
def Z1g{it:FI}{g:FG}{δ0:Ze}(I:Nat->Ze->Prop)(hi:it δ=YB (ds,δ0))(h0:I 0 δ0)(turn:∀(k:Nat) (d:Xa) (δ:Ze),ds[k]? =YB d->I k δ->∃δ1,g d δ=YB δ1/\EpS S δ1 (I (k+1)) R)(fin:∀δ',I ds.length δ'->N δ'):EpS (Jx it g S) δ N R:=by
 have e:Jx it g S δ=forLoop g S ds δ0:=by unfold Jx;rw[hi]
 have h:=Zxh (R:=R) (N:=N) (S:=S) (g:=g) (δ:=δ0) I ds 0 h0 (λk d δ hk hI=>by rw[Uk]at hI|-;exact turn k d δ hk hI) (λδ' hI=>by rw[Uk]at hI;exact fin δ' hI);unfold EpS;rw[e];exact h
end
end L2
namespace L2
open PySem PySem.Spec PyProof.Rows
section
variable {m:MXt}
def Zwp(he:XE X io iter m)(hs:∀x,JX iter X.env x=pure x:=by intro _;rfl):XS X io (.For tg iter body [] pos) m:=λC pins s O H δ fp ex k I R hm=>
 wpAny_For (thn (he C pins s O H δ fp ex k I R hm) λ_ _ z=>z.elim) hs
end
def wXF(F:FD)(a:FA)(g:FG)(u:FS):FS:=λδ=>match a δ with
 | some (rs,δ1)=>match F (OT.datas rs)with
  | .ok r=>match r.data with
   | .list ds=>forLoop g u ds δ1
   | _=>.bad
  | .exn c=>.ex c δ1
  | .bad=>.bad
 | none=>.bad
section
variable {u:FS}
def Yeh(h:MS X io st (oS (Jx (Zf0 (Yo F ra)) gg u))):MS X io st (oS (wXF F ra gg u)):=h.weak λD δ h=>by
 unfold oS wXF at h;unfold oS;split at h
 case h_2=>exact h.elim
 rename_i rs δ1 q1;split at h
 case h_2=>exact h.elim
 case h_3=>exact h.elim
 rename_i r q2;split at h
 case h_2=>exact h.elim
 rename_i ds q3;have e0:Yo F ra δ=YB (r,δ1):=by rw[Zo7,q1];show okO (F _) δ1=_;rw[q2];rfl
 have e1:Zf0 (Yo F ra) δ=YB (ds,δ1):=by rw[Zu8,e0];show Zpk r.data _=_;rw[q3];rfl
 rw[Zrh,e1,Yd];exact h
def Ycq[nu:NoEx u](h:XE X io e (Zoc (sX X.K F) (o2 ra))):XE X io e (xS X.K (wXF F ra gg u)):=h.weak λδ kk z=>by
 obtain⟨c',C',δ',h,k1,k2⟩:=z;unfold wXF at h;split at h
 case h_2=>cases h
 rename_i rs δ1 q;refine⟨rs,δ1,q,?_⟩;split at h
 .split at h
  .rename_i ds _
   obtain⟨S,r,h1,h2,h3,h4⟩:=Zen ds δ1 h;obtain⟨δ2,_,h5⟩:=h4 ds[r] (Xj h1);exact(NoEx.no _ _ _ h5).elim
  .cases h
 .rename_i q2
  cases h;exact⟨C',⟨_,q2,k1⟩,k2⟩
 .cases h
def Yax{es:List Xa}{r:RS}(h1:EvA ra δ ds)(h2:Told F ds (.list es))(h3:forLoop gg u es δ=r):wXF F ra gg u δ=r:=by
 obtain⟨ts,e1,g1⟩:=h1;obtain⟨t,e2,g2⟩:=h2;unfold wXF;rw[e1];dsimp only;rw[g1,e2];dsimp only;rw[g2];exact h3
def Z6u(h1:EvA ra δ ds)(h2:F ds= .exn cn):wXF F ra gg u δ= .ex cn δ:=by
 obtain⟨ts,e1,g1⟩:=h1;unfold wXF;rw[e1];dsimp only;rw[g1,h2]
end
end L2
namespace L2
open PySem PySem.Spec PyProof.Rows PySem.W PySem.SeqAt
open PySem.AutoSeq1 (wpAny_loadPart')
open MeetsSeq MeetsSeq2 MeetsSeq3 SeqRoads2
def Z7p{a b:Int}{t u:Tok}(h:Q (.bool (decide (b<=a))) s):Xz (X4 prog w) A (richCompare .GtE (.int a t) (.int b u)) Q E s:=PyProof.Rows.ge_int h
theorem Zpt(l b:YG)(items items2:Array Xe)(n n2:Nat)(dd dd2:Option YG)(sl sl2:Array (Option Xe)){xs:List Int}(h1:Vb items.toList xs)(h2:Vb items2.toList ys) :
  Meets (BJ.«tuple.__ge__» ⟨[.ref l,.ref b],[]⟩)
   (λA R s=>s.heap.get? l=YB { cls:=.type "tuple",dict:=dd,data:=.seq items n,slots:=sl }/\s.heap.get? b=YB { cls:=.type "tuple",dict:=dd2,data:=.seq items2 n2,slots:=sl2 }/\
    R (.ok (.ret (.bool (!ltI xs ys)))) s) :=
 .of_wp λprog w A R s h=>by
  obtain⟨hp,g,d,tk,os⟩:=s;obtain⟨hl,hb,h⟩:=h;have f2:=AutoSeq1.sub_tuple_tuple;have e1:items.toList.length=xs.length:=Zcs h1;have e2:items2.toList.length=ys.length:=Zcs h2
  wp_walk using QW hl,QW hb,wpAny_forIn_list _ (λrest b s'=>b.1=YC/\s'=⟨hp,g,d,tk,os⟩/\∃i,rest=(items.toList.zip items2.toList).drop i/\i<=items.toList.length/\i<=items2.toList.length/\
   R (.ok (.ret (.bool (!ltI (xs.drop i) (ys.drop i))))) ⟨hp,g,d,tk,os⟩) _
  case turn=>
   rintro⟨v,u⟩ rest b s' ⟨hb',rfl,i,hz,u1,u2,hR⟩;have hlt:i<(items.toList.zip items2.toList).length:=by
    rcases JS i (items.toList.zip items2.toList).length with h'|h'
    .exact h'
    .rw[List.drop_of_length_le h']at hz;cases hz
   have hm:=hlt;rw[Uw]at hm;obtain⟨x,t,q1,q2⟩:=Zi1 h1 i (!0);obtain⟨y,r,q3,q4⟩:=Zi1 h2 i (!0);rw[By hlt]at hz;injection hz with hyx hrest;have hz0:(items.toList.zip items2.toList)[i]? =YB (.int x t,.int y r):=by rw[Uo];exact⟨q1,q3⟩
   rw[Xj hlt]at hz0;injection hz0 with hz0;rw[hz0]at hyx;cases hyx;rw[q2,q4]at hR;unfold ltI at hR;refine Xb (EqAt.int_int x t y r prog w _ _ ?_)
   by_cases cx:x=y
   .rw[YM cx]at hR
    rw[ZC.mpr cx]
    wp_walk
    exact⟨rfl,rfl,i+1,hrest,by omega,by omega,hR⟩
   .rw[YQ cx,<-decide_not,decide_eq_decide.mpr (show¬x<y↔y<=x by omega)]at hR
    rw[beq_eq_false_iff_ne.mpr cx]
    wp_walk using Z7p
    exact⟨_,rfl,hR⟩
  case fin=>
   rintro⟨b1,b2⟩ s' ⟨hb',rfl,i,hz,u1,u2,hR⟩;simp only at hb';subst hb';have hge:min items.toList.length items2.toList.length<=i:=by
    rcases JS i (items.toList.zip items2.toList).length with h'|h'
    .rw[By h']at hz;cases hz
    .rw[Uw]at h';exact h'
   have hv:(!ltI (xs.drop i) (ys.drop i))=decide (items.size>=items2.size):=by
    rw[Zgy ((show i=items.toList.length\/i=items2.toList.length by omega).imp (λc=>Vj (!0)) λc=>Vj (!0)),Bb,Bb,<-decide_not];rw[Xq]at e1 e2 u1 u2;exact decide_eq_decide.mpr (!0)
   rw[hv]at hR
   wp_walk
   exact⟨_,rfl,hR⟩
  case h=>
   exact⟨rfl,rfl,0,rfl,QJ _,QJ _,h⟩
end L2
namespace L2
open PySem PySem.Spec PyProof.Rows
def Yhv:R2:=λx y H Q=>∃a b ns ms,x= .ref a/\y= .ref b/\H a=YB (.tup (ns.map V.int))/\H b=YB (.tup (ms.map V.int))/\Q (.bl (!ltI ns ms)) H
theorem Z82(hu:X.A.units+64<VB):OpR X (QL .GtE) Yhv:=by
 intro pins s O H x y v u Q I rx ry h;obtain⟨a,b,ns,ms,rfl,rfl,ha,hb,q⟩:=h;cases rx;cases ry;obtain⟨its,r1,p1,_⟩:=I.tuple (.inl (.inl ha));obtain⟨its',r2,p2,_⟩:=I.tuple (.inl (.inl hb));obtain⟨⟨cls,dd,data,sl⟩,hl,hc,n,hd⟩:=p1;obtain⟨⟨cls2,dd2,data2,sl2⟩,hl2,hc2,n2,hd2⟩:=p2;simp only at hc hd hc2 hd2;subst hc hd hc2 hd2;exact richCompare_meets_room (op:=.GtE) ⟨_,hl,rfl⟩ ⟨_,hl2,rfl⟩ F.slot_tuple_ge F.entry_tuple_ge (F.args_tuple_ge_2 _ _) (Zpt a b its.toArray its'.toArray n n2 dd dd2 sl sl2 (Zdw r1) (Zdw r2))
  ⟨hl,hl2,show Value.bool (!ltI ns ms)≠Value.notImplemented/\_ from⟨(λx=>nomatch x),⟨.bl (!ltI ns ms),H,I,rfl,q⟩⟩⟩ (!0)
def Z5a:Xa->Xa->Option Xa:=λd e=>match d,e with
 | .tuple ds,.tuple es=>(Zez ds).bind λns=>(Zez es).bind λms=>YB (.bool (!ltI ns ms))
 | _,_=>YC
def Yhy:Xa->Xa->(Xa->Prop)->Prop:=λd e k=>∃r,Z5a d e=YB r/\k r
def Yej:ByS Z5a Yhy:=λ_ _ r _ h hk=>⟨r,h,hk⟩
def Ybg:P2s G Yhv Yhy:=λH L x y d e k Q hx hy h kk=>by
 obtain⟨r,h,hk⟩:=h;unfold Z5a at h;split at h
 case h_2=>cases h
 obtain⟨ns,h1,h⟩:=bs h;obtain⟨ms,h2,h⟩:=bs h;cases h;rw[Zbj h1]at hx;rw[Zbj h2]at hy;obtain⟨a,rfl,ha⟩:=Zkc hx;obtain⟨b,rfl,hb⟩:=Zkc hy;exact⟨a,b,ns,ms,rfl,rfl,ha,hb,kk _ _ (.bl _) hk⟩
end L2
namespace My
open PySem L2 PySem.Spec
def xsL:List Str:=["NoCut","NoWeb"]
abbrev J2:=Z0 1
abbrev Ztc:=Zf0 J2
abbrev Z5m:=gTp 2 (gCn (gNm 2) (gCn (gNm 3) gNl))
abbrev Wj:=Z0 0
abbrev Zvs:=Zf Wj Z5
abbrev Jh:=Z0 2
abbrev Zba:=Z0 4
abbrev Zar:=Z0 3
abbrev Ybm:=Zf Zar (Zf Zba Z5)
abbrev Yfs:=wE (fC .none) Zam
def Za9:FS :=
 (Zt (Jx Ztc Z5m
  (Jx (iRa (Zf (Zem Zi3 Zvs) Z5)) (gNm 4)
  (Ws (tV (Zd gEq (Z4 gIx (Z4 gIx Wj Jh) Zba) (Z4 gIx (Z4 gIx Wj Zar) Zba)))
  (wE (Zbv (Zf Jh Ybm)) Zam)
  fNx)))
  Yfs)
def Je:FD:=Jv 2 5 Za9
abbrev Zjj:=gNm 0
abbrev Z46:=Z4 gIx J2 Jh
def Zbw:FS :=
 (wE (Wk 1 [0,2,1] (iRa (Zf (Zem Zi3 Zvs) Z5)) Zjj Zh5 (Zd gLt (Z4 gIx Z46 Wj) (Z4 gIx (Z4 gIx J2 Zar) Wj))) Zam)
def Wy:FD:=Jv 3 3 Zbw
abbrev Z48:=Zf Jh Z5
abbrev Zys:=gTp 2 (gCn (gNm 3) (gCn (gNm 4) gNl))
abbrev Zjv:=Z0 5
abbrev Z7y:=Z4 gIx Wj Zjv
def J0:FS :=
 (Zt (wE (Zem Zi3 Zvs) (Y8 2))
  (Zt (Jx (Zf0 (Yo J5 Z48)) Zys
  (Ws (tV (Zd gEq (Z4 gIx J2 Zar) (Z4 gIx J2 Zba)))
  (Jx (iRa Z48) (gNm 5)
  (Ws (tAn (tV (Zd gNe (Z4 gIx J2 Zjv) (Z4 gIx J2 Zar))) (tV (Zd gEq (Zd Za0 (Z4 gIx (Z4 gIx Wj Zar) Zjv) (Z4 gIx Z7y Zba)) (Z4 gIx (Z4 gIx Wj Zar) Zba))))
  (wE (Zbv (Zf Zar (Zf Zba (Zf Zjv Z5)))) Zam)
  fNx))
  fNx))
  Yfs))
def Wt:FD:=Jv 2 6 J0
abbrev Zvq:=Zf Zar Z5
def Jc:FS :=
 (Zt (Jx Ztc Z5m
  (Zt (wE (Yo Wt (Zf Wj (Zf (Yo Wy (Zf Wj (Zf Jh Zvq))) Z5))) (Y8 4))
  (Ws (tV (Zd Zid Zba (fC .none)))
  (wE (Z4 Zwo (Zbv (Zf Jh Zvq)) Zba) Zam)
  fNx)))
  Yfs)
def Wa:FD:=Jv 2 5 Jc
abbrev Zhu:=fC (.int 0)
def Wz:FS :=
 (Jx Ztc (gNm 2)
  (Ws (tO (tNo (tD (Yo Yz Z48))) (tNo (tV (Zd7 (λi j=>decide (i<=j)) (λi j=>decide (i<j)) Zhu Jh Wj))))
  (Zhl "NoCut")
  fNx))
def Yi:FD:=Jv 2 3 Wz
abbrev Zvn:=Zf J2 Z5
abbrev Znq:=Zf Wj Zvn
abbrev Zvp:=iRa Zvs
abbrev Yh4:=Wk 1 [1] Zvp Zjj (tV (Zd (Zjw YD) Wj J2)) Wj
def Zeg:FS :=
 (Zt (wX Yi Znq Zkh)
  (Zt (wE Yh4 (Y8 2))
  (Zt (Ws (tO (tV (Zd gEq (Zem Zi3 Zvn) Zhu)) (tV (Zd gEq (Zem Zi3 Z48) Zhu)))
  (Zhl "NoCut")
  fNx)
  (Zt (Ws (tV (Zd (Zjw YF) Zhu J2))
  (wE Jh Zam)
  fNx)
  (wE (Zf9 Zvn) Zam)))))
def Ja:FD:=Jv 2 3 Zeg
abbrev Zvv:=Zc2 Z5
abbrev Z7t:=wE Zvv (J7 2)
abbrev Yh0:=Wk 2 [] (Zv7 (Zf (Yo Wy (Zf Wj Ybm)) Z5)) (gTp 2 (gCn Zjj (gCn (gNm 1) gNl))) (tD J2) Wj
def Zag:FS :=
 (Zt Z7t
  (Zt (Jx Ztc Zys
  (Zt (wX Ja (Zf (Zem Zi3 Zvs) (Zf Yh0 Z5)) (Y8 5))
  (Ws (tV (Zd (Zui YD) Zjv (Zd5 2)))
  (Yh 2 Zjv)
  fNx)))
  (Za1 2 (wE (fBl (Zfs kdL ltI) Z48) Zam))))
def Y0:FD:=Jv 2 6 Zag
def Zao:FS :=
 (Zt (wE (Wk 1 [] Zvp Zjj Zh5 Zvv) (J7 2))
  (Zt (Jx Ztc Zys
  (Zt (Zix 2 Zar Zba)
  (Zix 2 Zba Zar)))
  (Zb9 2)))
def W9:FD:=Jv 2 5 Zao
abbrev Zf3:=fC (.int 1)
abbrev Zu6:=fC (.int 10)
def Jq:FS :=
 (wE (Zd7 (λi j=>decide (i<=j)) (λi j=>decide (i<=j)) Zf3 Wj Zu6) Zam)
def Yp:FD:=Jv 1 1 Jq
abbrev Zzm:=wE (fC (.bool YF)) Zam
abbrev Ybl:=fC (.bool YD)
def Zbu:FS :=
 (Zt (Jx (Zq1 (Zf Wj (Zf (fSl Wj (oI Zf3) oN) Z5))) (gTp 2 (gCn (gNm 1) (gCn (gNm 2) gNl)))
  (Ws (tNo (tV (Zd Z5c J2 Jh)))
  Zzm
  fNx))
  (wE Ybl Zam))
def Jw:FD:=Jv 1 3 Zbu
abbrev Z5f:=Zhl "NoWeb"
def Zat:FS :=
 (Zt (Ws (tNo (tD (Yo Yp Zvs)))
  Z5f
  fNx)
  (Zt (Jx Ztc Z5m
  (Ws (tNo (tV (Zcg (λi j=>decide (i<=j)) (λi j=>decide (i<j)) (λi j=>decide (i<j)) Zhu Jh Zar Wj)))
  Z5f
  fNx))
  (Ws (tNo (tD (Yo Jw Zvn)))
  Z5f
  fNx)))
def Yc:FD:=Jv 2 4 Zat
abbrev Zb5:=Z0 6
abbrev Ybr:=tV (Zd (Z5k YD) Zb5 (Zd5 2))
def Za7:FS :=
 (Zt (wE (Zz6 J2 Zhu) (J7 2))
  (Zt (wE (Zc2 Zvn) (Y8 3))
  (Zt (Zi0 (tV (Zd gGt (Zem Zi3 Zvq) Zhu)) (Zt (wE Zvv (J7 4))
  (Zt (Jx (Zf0 Zar) (gNm 5)
  (Jx (Zf0 Z7y) (gNm 6)
  (Ws Ybr
  (Zt (Zvk 2 (Zd Za0 (Z4 Zxy (Zd5 2) Zjv) Zf3) Zb5)
  (Yh 4 Zb5))
  fNx)))
  (Za1 4 (wE Zba (Y8 3))))))
  (Zb9 2))))
def Yx:FD:=Jv 2 7 Za7
def Zb2:FS :=
 (Zt (wX Yc Znq Zkh)
  (Zt (wE (Yo W9 Znq) (Y8 2))
  (Zt (wE Zvv (J7 3))
  (Zt (Jx Zvp (gNm 4)
  (Zt (wE (Yo Yx (Zf Jh (Zf Zba Z5))) (Y8 5))
  (Zt (Ws (tV (Zd gLt (Zem Zuh (Zf Zjv Z5)) Wj))
  Z5f
  fNx)
  (Yh 3 (Wk 1 [5] Zvp Zjj Zh5 (Z4 Zxy J2 Wj))))))
  (Zb9 3)))))
def Zu:FD:=Jv 2 6 Zb2
def Zdc:FS :=
 (wE (Yb9 Zwn (fC (.str "")) (Zf (Wk 1 [0] Ztc Zjj Zh5 (fIf (tV (Zd (Zjw YF) J2 Wj)) (fC (.str "1")) (fC (.str "0")))) Z5)) Zam)
def Wv:FD:=Jv 2 2 Zdc
def Zaq:FS :=
 (Zt (wX Zu Znq (Y8 2))
  (Zt (wE (Yo Je (Zf Jh Zvn)) (Y8 3))
  (Zt (Ws (tV (Zd Zid Zar (fC .none)))
  (wE (Zbv (Zf (fC (.str "even")) Zvq)) Zam)
  fNx)
  (Zt (wE (Yo Wa (Zf Jh Zvn)) (Y8 4))
  (Zt (Ws (tV (Zd Zid Zba (fC .none)))
  (wE (Zbv (Zf (fC (.str "not whole")) (Zf Zba Z5))) Zam)
  fNx)
  (Zt (wX Y0 (Zf Jh Zvn) (Y8 5))
  (wE (Zx1 (Zf (fC (.str "halves")) (Zf (Wk 1 [5] Zvp Zjj Zh5 (Yo Wv Znq)) Z5))) Zam)))))))
def Yb:FD:=Jv 2 6 Zaq
abbrev Ydd:=Zt (wE (Zc2 (Zf (Zmn xsL "NoWeb" Zar) (Zf (Zmn xsL "ValueError" Zar) Z5))) (J7 2))
  (Yh 2 (Zn4 xsL ["NoCut","NoName","NoNumber","NoOrder","NoPoint","NoRow","NoTable","NoText","TooMany"] Zar))
def Wx:FS :=
 (Zt Z7t
  (Zt (Zxw xsL (wX Yb Znq Zkh) "CutError" 3 Ydd)
  (Zb9 2)))
def Yv:FD:=Jv 2 4 Wx
abbrev Ybp:=Zf (Zem Zi3 Zvn) Z5
abbrev Yhe:=tV (Zd gNe (Zd (Zjw YF) Zar (Zd5 5)) (Zd (Zjw YF) Zba (Zd5 5)))
abbrev Ygn:=Zge 5 (Wk 1 [5] (iTp (Zbv Ybm)) Zjj (tV (Zd (Zjw YD) Wj (Zd5 1))) Wj)
abbrev Yf6:=wE (Zd gEq (Zem Zi3 (Zf (Zd5 5) Z5)) Wj) Zam
def Za4:FS :=
 (Zt (Ws (tO (tV (Zd gLt Wj Zf3)) (tV (Zd gGt Wj Zu6)))
  Zzm
  fNx)
  (Zt (Jx (iRa Ybp) (gNm 2)
  (Zt (wE Z46 (Zw4 Zys))
  (Ws (tO (tNo (tV (Zcg (λi j=>decide (i<=j)) (λi j=>decide (i<j)) (λi j=>decide (i<j)) Zhu Zar Zba Wj))) (tAn (tV (Zd gGt Jh Zhu)) (tV (Zd Z5a (Z4 gIx J2 (Zd gSb Jh Zf3)) Z46))))
  Zzm
  fNx)))
  (Zt (wE (Zc2 (Zf Zhu Z5)) (J7 5))
  (Zt (Jx Zvp (gNm 6)
  (Jx Ztc Zys
  (Ws Yhe
  Ygn
  fNx)))
  Yf6))))
def Jj:FD:=Jv 2 7 Za4
abbrev Zwf:=fC (.int 3)
def Zaj:FS :=
 (Zt (wE (Zd Js Wj (Zd Zhw (Zd Zrl Zu6 (fC (.int 45))) (Zd Zrl Zu6 (fC (.int 45))))) (Y8 0))
  (Zt (wE Zvv (J7 3))
  (Zt (wE (Zd gSb Wj (Zd Zrl Zu6 (fC (.int 18)))) (Y8 4))
  (Zt (Jx (iRa Zvn) (gNm 5)
  (Zt (wE (Zd Js (Zd Zhw (Zd Za0 (Zd Za0 Wj (Zd Zhw (fC (.int 977)) Zjv)) Zf3) (fC (.int 48271))) (fC (.int 2147483647))) (Y8 6))
  (Zt (wE (Zd Js (Zd Zhw Zb5 Zb5) (fC (.int 2147483629))) (Y8 6))
  (Zt (wE (Zd Zaz (Zd Js (Zd Zhw (Zd Za0 Zb5 (Zd Zhw (fC (.int 40692)) (Zd Za0 Zjv Zwf))) (fC (.int 69621))) (fC (.int 2147483563))) (fC (.int 8))) (Y8 6))
  (Zt (Ws (tV (Zd gGe Wj (Zd Zrl Zu6 (fC (.int 18)))))
  (Zt (wE Zba (Y8 6))
  (wE (Zd Zaz Zba Jh) (Y8 4)))
  fNx)
  (Yh 3 (Zd Js Zb5 Jh)))))))
  (Zb9 3)))))
def Yt:FD:=Jv 3 7 Zaj
abbrev Ybq:=fC (.int 2)
abbrev Yhd:=wE (Zbv (Zf (Z0 7) (Zf (fBl (Zfs kdP ltP) (Zf (Z4 Zer J2 (Z0 8)) Z5)) Z5))) Zam
abbrev Ydb:=fSl J2 (oI (Zd Za0 Zba Zf3)) oN
abbrev Z8x:=fSl J2 oN (oI Zba)
abbrev Ycl:=Zd Js (Z4 gIx Jh Ybq) Wj
def Za8:FS :=
 (Zt (wE (Zd Js (Z4 gIx Jh Zf3) (Zem Z2a (Zf Zf3 Ybp))) (Y8 4))
  (Zt (wE (Z4 gIx (Z4 Zer J2 (Zc2 (Zf (Zbv (Zf Zhu (Zf Zhu Z5))) Z5))) Zba) (Y8 5))
  (Zt (wE (Zd Js (Z4 gIx Jh Zhu) Zu6) (Y8 6))
  (Zt (Ws (tV (Zd gEq Zb5 (fC (.int 9))))
  (Zt (wE (Zd Za0 Zu6 (Zd Js (Z4 gIx Jh Ybq) (fC (.int 31)))) (Y8 7))
  (Zt (wE (Wk 1 [2] (iRb (Zf Wj (Zf (Z0 7) Z5))) Zjj Zh5 (Zbv (Zf (Zd gSb (Zd gSb Wj Zf3) (Zd Js (Z4 gIx J2 Zwf) (Zem Z2e (Zf Wj (Zf Zwf Z5))))) Zvs))) (Y8 8))
  Yhd))
  fNx)
  (Zt (Ws (tAn (tV (Zd gEq Zb5 Zf3)) (tV (Zd gGt Zba Zhu)))
  (wE (Z4 Zer (Z4 Zer (fSl J2 oN (oI (Zd gSb Zba Zf3))) (Zc2 (Zf (Z4 gIx J2 Zba) (Zf (Z4 gIx J2 (Zd gSb Zba Zf3)) Z5)))) Ydb) (Y8 1))
  fNx)
  (Zt (Ws (tV (Zd gEq Zb5 Ybq))
  (wE (Z4 Zer (Z4 Zer Z8x (Zc2 (Zf Zjv Z5))) (fSl J2 (oI Zba) oN)) (Y8 1))
  fNx)
  (Zt (Ws (tV (Zd gEq Zb5 Zwf))
  (wE (Z4 Zer (Z4 Zer Z8x (Zc2 (Zf (Zbv (Zf (Z4 gIx Zjv Zf3) (Zf (Z4 gIx Zjv Zhu) Z5))) Z5))) Ydb) (Y8 1))
  fNx)
  (Zt (Ws (tV (Zd gEq Zb5 (fC (.int 4))))
  (wE (fBl (Zfs kdP ltP) (Zf (Z4 Zer J2 (Z4 gIx (Zc2 (Zf (Zc2 (Zf (Zbv (Zf Ycl (Zf Ycl Z5))) Z5)) (Zf (Zc2 (Zf (Zbv (Zf Ycl (Zf (Zd Za0 Wj Zar) Z5))) Z5)) (Zf (Zc2 (Zf (Zbv (Zf (Zd gSb (fUn Zq7 Zf3) Zar) (Zf Zhu Z5))) Z5)) Z5)))) (Zd Js (Z4 gIx Jh Zwf) Zwf))) Z5)) (Y8 1))
  fNx)
  (Zt (Ws (tV (Zd gEq Zb5 (fC (.int 5))))
  (wE (Z4 Zer Z8x Ydb) (Y8 1))
  fNx)
  (Zt (Ws (tV (Zd gEq Zb5 (fC (.int 6))))
  (wE (Wk 1 [2,0] Ztc Zjj (tV (Zd (Zjw YD) (Zd Js (Z4 gIx J2 Ybq) Jh) Wj)) Wj) (Y8 1))
  fNx)
  (Zt (Ws (tV (Zd gEq Zb5 (fC (.int 7))))
  (wE (Z4 gIx (Zc2 (Zf Zhu (Zf (Zd gSb (fUn Zq7 Zf3) Zar) (Zf (fC (.int 11)) (Zf (Zd Za0 (fC (.int 11)) Zar) (Zf (fUn Zq7 Wj) Z5)))))) (Zd Js (Z4 gIx Jh Zwf) (fC (.int 5)))) (Y8 0))
  fNx)
  (Zt (Ws (tV (Zd gEq Zb5 (fC (.int 8))))
  (wE (Zd Za0 Wj Zf3) (Y8 0))
  fNx)
  (wE (Zbv Znq) Zam)))))))))))))
def Ji:FD:=Jv 4 9 Za8
def Zbx:FS :=
 (Zt Z7t
  (Zt (wXF Zu Znq (gNm 3)
  (Yh 2 (Wk 1 [] (Zf0 Zar) Zjj Zh5 (Zbv (Zf Wj (Zf Zf3 Z5))))))
  (Zb9 2)))
def Yg:FD:=Jv 2 4 Zbx
def W4:FS :=
 (Zt Z7t
  (Zt (Zxw xsL (wX Yg Znq Zkh) "CutError" 3 Ydd)
  (Zb9 2)))
def Yy:FD:=Jv 2 4 W4
abbrev Yci:=Zem Zi3 (Zf (Zd5 4) Z5)
abbrev Ycc:=Z4 gIx (Zd5 5) Zb5
abbrev Yhg:=Z4 gIx Jh (Zd Za0 (fC (.int 22)) Zb5)
abbrev Ygq:=tV (Zd gNe (Z4 gIx (Zd5 8) (Z0 9)) (Z4 gIx (Zd5 8) (Z0 10)))
abbrev Ygp:=Yh 7 (Zbv (Zf (Z0 9) (Zf (Z0 10) Z5)))
abbrev Ygz:=Zf (Zem Z2e Znq) (Zf (Zem Z2a Znq) Z5)
abbrev Yg5:=Wk 2 [] (Zf0 (Zd5 7)) (gTp 2 (gCn (Z8j 0) (gCn (Z8j 1) gNl))) Zh5 (Zbv Ygz)
def Zc6:FS :=
 (Zt (wE (Yo Yt (Zf Wj (Zf (fC (.int 34)) (Zf (fC (.int 100)) Z5)))) (Y8 2))
  (Zt (wE (Zd Za0 Zf3 (Zd Js (Z4 gIx Jh Zhu) J2)) (Y8 3))
  (Zt (wE (Wk 1 [] (iRa Zvq) Zjj Zh5 Wj) (J7 4))
  (Zt (wE Zvv (J7 5))
  (Zt (Jx (iRa Zvq) (gNm 6)
  (Yh 5 (Z45 4 (Zd Js (Z4 gIx Jh (Zd Za0 Zf3 Zb5)) Yci))))
  (Zt (wE Zvv (J7 7))
  (Zt (wE (Z95 Zhu Zar) (J7 8))
  (Zt (Jx (iRb (Zf Zf3 Zvq)) (gNm 6)
  (Zt (Yh 7 (Zu2 (Zbv (Zf (Z4 gIx (Zd5 5) (Zd Js (Z4 gIx Jh (Zd Za0 (fC (.int 11)) Zb5)) Zb5)) (Zf Ycc Z5)))))
  (Z49 8 (Zd gSb Zf3 (Z4 gIx (Zd5 8) (Z4 gIx (Z4 gIx (Zd5 7) (fUn Zq7 Zf3)) Zhu))) Ycc)))
  (Zt (Jx (iRa (Zf (Zd Js (Z4 gIx Jh (fC (.int 21))) (fC (.int 13))) Z5)) (gNm 6)
  (Zt (wE (Zd Js (Zd Zaz Yhg Zu6) Zar) (Y8 9))
  (Zt (wE (Zd Js Yhg Zar) (Y8 10))
  (Ws (tAn (tV (Zd gNe (Z0 9) (Z0 10))) (tO (tV (Zd gEq (Zd Js (Zd Zaz (Z4 gIx Jh (fC (.int 21))) (fC (.int 13))) Zwf) Zhu)) Ygq))
  Ygp
  fNx))))
  (wE (Zbv (Zf Zar (Zf (Zd2 (Zf Yg5 Z5)) Z5))) Zam))))))))))
def Jm:FD:=Jv 2 11 Zc6
abbrev Yg1:=tNo (tD (Yo Jj (Zf Jh Zvq)))
abbrev Yho:=wE (Zc2 (Zf Ybl (Zf Ybl (Zf (fC (.bool YF)) Z5)))) (Y8 5)
def Ze2:FS :=
 (Zt (Jx (Zf0 (Z4 Zer (fSl Wj (oI Zf3) (oI (fC (.int 8)))) (Zc2 (Zf (Yo We (Zf Wj (Zf Zhu Z5))) Z5)))) (gNm 1)
  (Zt (wE (Yo Jm (Zf J2 (Zf Zu6 Z5))) (Zw4 Z5m))
  (Zt (wE (Yo Yt (Zf (Zd Zaz J2 Zwf) (Zf (fC (.int 4)) (Zf (fC (.int 2520)) Z5)))) (Y8 4))
  (Zt (wE (Yo Ji (Zf Jh (Zf Zar (Zf Zba (Zf (Zd Js J2 (Zd Zrl Zu6 (fC (.int 39)))) Z5))))) (Zw4 Z5m))
  (Zt (wE Zvv (Y8 5))
  (Zt (Ws Yg1
  Yho
  fNx)
  (Zt (wE (fBl Zr9 Zvq) (Y8 6))
  (Ws (tO (tV (Zd gNe (Yo Yy (Zf Jh (Zf Zb5 Z5))) Zjv)) (tO (tV (Zd gNe (Yo Yv (Zf Jh (Zf Zb5 Z5))) Zjv)) (tV (Zd gNe Zb5 Zar))))
  Zzm
  fNx))))))))
  (wE Ybl Zam))
def Ze3:FD:=Jv 1 7 Ze2
end My
namespace My
open PySem L2 PySem.Spec
abbrev zf(d:Xa):Option OT:=YB (.fz d)
abbrev fI(k:Int):FE:=fC (.int k)
inductive Rch(E:Nat->Nat->Prop)(s:Nat):Nat->Prop
 | refl:Rch E s s
 | step {k m:Nat}:Rch E s k->E k m->Rch E s m
theorem Rch.trans{E:Nat->Nat->Prop}{a b c:Nat}(h:Rch E a b)(k:Rch E b c):Rch E a c:=by
 induction k with
 | refl=>exact h
 | step _ e ih=>exact .step ih e
theorem Rch.symm{E:Nat->Nat->Prop}(hs:∀a b,E a b->E b a){a b:Nat}(h:Rch E a b):Rch E b a:=by
 induction h with
 | refl=>exact .refl
 | step _ e ih=>exact Rch.trans (.step .refl (hs _ _ e)) ih
def Rch.closed{E:Nat->Nat->Prop}{s:Nat}{ks:List Nat}(h0:s∈ks)(hc:∀k∈ks,∀m,E k m->m∈ks)(h:Rch E s m):m∈ks:=by
 induction h with
 | refl=>exact h0
 | step _ e ih=>exact hc _ ih _ e
def Zcv{ks:List Nat}{n:Nat}(hd:ks.Nodup)(hl:∀k∈ks,k<n):ks.length<=n:=by
 have:=hd.length_le_of_subset (l₂:=XC n) λk m=>Qj.mpr (hl k m)
 rwa[X6]at this
def Zzo{ks:List Nat}{n:Nat}(hd:ks.Nodup)(hl:∀k∈ks,k<n)(h:n<=ks.length):∀k<n,k∈ks:=by
 intro k hk;refine V9 λc=>?_;have hd':(k::ks).Nodup:=Qt.mpr ⟨c,hd⟩;have:=Zcv (n:=n) hd' λm hm=>(Xn.mp hm).elim (λe=>e▸hk) (hl m);rw[Qd]at this;omega
def Zrv{ks:List Nat}{n:Nat}(h:∀k<n,k∈ks):n<=ks.length:=by
 have:=(List.nodup_range (n:=n)).length_le_of_subset (l₂:=ks) λk m=>h k (Qj.mp m)
 rwa[X6]at this
def kI(k:Nat):KY:=.inl (.inl (k:Int))
def dI(k:Nat):Xa:=.int (k:Int)
def Ztg{a b:Nat}(h:kI a=kI b):a=b:=Int.ofNat.inj (Sum.inl.inj (Sum.inl.inj h))
def Zt6(k:Nat):Zko (dI k)=YB (kI k):=rfl
def Ykw(vs:List Xa):Prop:=∀v∈vs,∃i:Int,v= .int i
def Zze:∀{ks:List Nat} {vs:List Xa},vs.length=ks.length->(m∈ks->∃v∈vs,Zvl (kI m) (ks.map kI) vs=YB v)/\(m∉ks->Zvl (kI m) (ks.map kI) vs=YC):=by
 intro ks
 induction ks with
 | nil=>exact λ_=>⟨(λh=>nomatch h),λ_=>rfl⟩
 | cons k ks ih=>
  intro vs hl;cases vs with
  | nil=>cases hl
  | cons v vs=>
   obtain⟨i1,i2⟩:=ih (Nat.succ.inj hl);rw[X7,Zvl]
   by_cases c:k=m
   .subst c
    rw[YM rfl];exact⟨λ_=>⟨v,.head _,rfl⟩,λh=>YZ (.head _) h⟩
   .rw[YQ λe=>c (Ztg e)]
    refine⟨λh=>?_,λh=>i2 λz=>h (.tail _ z)⟩;obtain⟨w,hw,e⟩:=i1 ((Xn.mp h).resolve_left λe=>c e.symm);exact⟨w,.tail _ hw,e⟩
def Z72{ks:List Nat}(h:m∉ks):Zza (kI m) (ks.map kI)=YF:=by
 unfold Zza;rw[List.any_map];refine List.any_eq_false.mpr λk hk e=>?_;exact h (Ztg (YX e)▸hk)
theorem Zy6{a b:FE}{x d:Xa}(ha:EvV a δ x)(hb:EvV b δ y)(h:Zxy x y=zf d):EvV (Z4 Zxy a b) δ d:=Zow ha hb h (OT.data_fz _)
def Z6w(f:Nat->Nat):∀{ks:List Nat},m∈ks->Zvl (kI m) (ks.map kI) (ks.map λk=>dI (f k))=YB (dI (f m)):=by
 intro ks
 induction ks with
 | nil=>exact λh=>nomatch h
 | cons k ks ih=>
  intro h;rw[X7,X7,Zvl]
  by_cases c:k=m
  .rw[YM (by rw[c]),c]
  .rw[YQ λe=>c (Ztg e)]
   exact ih ((Xn.mp h).resolve_left λe=>c e.symm)
theorem Ybf{f:Nat->Nat}{ks:List Nat}(hm:m∈ks):Zxy (dcD YF (ks.map kI) (ks.map λk=>dI (f k))) (dI m)=zf (dI (f m)):=by
 show((Zko (dI m)).bind λk=>if Zug k=YF then(Zia k _).map OT.fz else YC)=_;rw[Zt6,Xh,YM (show Zug (kI m)=YF from rfl),Zgz,Z6w f hm];rfl
def Yfc{ks:List Nat}{vs:List Xa}(hl:vs.length=ks.length):Z5k YD (dI m) (dcD YF (ks.map kI) vs)=YB (.bool (!decide (m∈ks))):=by
 show((Zko (dI m)).bind λk=>if Zug k=YF then YB (Uv (!(Zia k _).isSome))else YC)=_;rw[Zt6,Xh,YM (show Zug (kI m)=YF from rfl),Zgz]
 by_cases c:m∈ks
 .obtain⟨v,_,e⟩:=(Zze hl).1 c
  rw[e,YS c];rfl
 .rw[(Zze hl).2 c,YT c];rfl
def Zv6{e j:FE}{d:Xa}{ks:List Nat}{vs:List Xa}(he:EvV e δ d)(hi:δ[i]? =YB (YB (.dc YF (ks.map kI) vs)))(hj:EvV j δ (dI m))(hl:ks.length<1000000)(hm:m∉ks) :
  Zvk i e j δ= .nx (δ.set i (YB (.dc YF ((ks++[m]).map kI) (vs++[d])))):=by
 obtain⟨t1,e1,d1⟩:=he;obtain⟨t2,e2,d2⟩:=hj;unfold Zvk;rw[Zdp,e1,Yd,hi];dsimp only;rw[Zdp,e2,Yd,d1,d2,Zt6];dsimp only;rw[YM ⟨rfl,by rw[X8,Xd];omega⟩];unfold Zsu Zrd;rw[Z72 hm,YQ Xx,YQ Xx,Qx];rfl
def eB(bs:Xa)(s:Nat)(ks:List Nat)(vs:List Xa)(ed:List Nat)(o4 o5 o6:Option OT):Ze:=[zf bs,zf (dI s),YB (.dc YF (ks.map kI) vs),zf (.list (ed.map dI)),o4,o5,o6]
def lsO(ns:List Nat):OT:=.nd ((ns.map dI).map OT.fz)
def Zd8(b:List Nat)(m:Nat):lsO (b++[m])= .nd ((b.map dI).map OT.fz++[OT.fz (dI m)]):=by
 unfold lsO;rw[Qx,Qx];rfl
structure Met(E:Nat->Nat->Prop)(n s:Nat)(f:Nat->Nat)(ks:List Nat):Prop where
 nd:ks.Nodup
 st:s∈ks
 lt:∀k∈ks,k<n
 rch:∀k∈ks,Rch E s k
 z:f s=0
 up:∀k∈ks,k≠s->0<f k
abbrev vF(f:Nat->Nat)(ks:List Nat):List Xa:=ks.map λk=>dI (f k)
section
variable {E:Nat->Nat->Prop}{n s:Nat}{nb:Nat->List Nat}{bs:Xa}
abbrev Zfo:=fI 1
abbrev Yii:=Zt (Zvk 2 (Zd Za0 (Z4 Zxy (Zd5 2) Zjv) Zfo) Zb5) (Yh 4 Zb5)
abbrev Yf0:=Ws Ybr Yii fNx
def Zqw{ks ks0 bey ed:List Nat}{f:Nat->Nat}{p:Nat}(hn:n<=10)(M:Met E n s f ks)(hk:ks=ks0++bey)(hp:p∈ks)(hm:m<n)(he:E p m) :
  ∃t f' o,Met E n s f' (ks++t)/\m∈ks++t/\
   Yf0 (eB bs s ks (vF f ks) ed (YB (lsO bey)) (zf (dI p)) (zf (dI m)))= .nx (eB bs s (ks++t) (vF f' (ks++t)) ed (YB (lsO (bey++t))) (zf (dI p)) o):=by
 have e2:EvV (Zd5 2) (eB bs s ks (vF f ks) ed (YB (lsO bey)) (zf (dI p)) (zf (dI m))) (dcD YF (ks.map kI) (vF f ks)):=Zc7 rfl (OT.data_dc _ _ _);have t:EvT Ybr (eB bs s ks (vF f ks) ed (YB (lsO bey)) (zf (dI p)) (zf (dI m))) (!decide (m∈ks)):=Jp (Zo (Za rfl) e2 (Yfc (Xd ..)))
 by_cases c:m∈ks
 .rw[YS c]at t
  refine⟨[],f,zf (dI m),by rw[XX];exact M,by rw[XX];exact c,?_⟩;rw[XX,XX];exact Z6 t rfl
 .rw[YT c]at t
  have lk:=Zcv M.nd M.lt;obtain⟨g,hg⟩:∃g:Nat->Nat,g= λx=>if x=m then f p+1 else f x:=⟨_,rfl⟩
  have gm:g m=f p+1:=by rw[hg];exact YM rfl
  have go:∀x∈ks,g x=f x:=λx hx=>by rw[hg];exact YQ (λ(e:x=m)=>c (e▸hx))
  have ev:vF g (ks++[m])=vF f ks++[.int ((f p:Int)+1)]:=by
   unfold vF;rw[Qx,Qk λx hx=>YW dI (go x hx)];exact YW (λz=>_++[z]) (show dI (g m)=_ by rw[gm];rfl)
  refine⟨[m],g,zf (dI m),⟨?_,Qw _ M.st,?_,?_,?_,?_⟩,XR _ (.head _),Y9 t (Zx (Zv6 (Jd (Zy6 e2 (Za rfl) (Ybf hp)) Zy) rfl (Za rfl) (!0) c) ?_)⟩
  .exact Vw.mpr ⟨M.nd,Qt.mpr ⟨(λz=>nomatch z),.nil⟩,λa ha b hb e=>c (by rw[<-Xp.mp hb,<-e];exact ha)⟩
  .exact λk hk=>(Qp.mp hk).elim (M.lt k) λq=>Xp.mp q▸hm
  .exact λk hk=>(Qp.mp hk).elim (M.rch k) λq=>Xp.mp q▸ .step (M.rch p hp) he
  .rw[go s M.st];exact M.z
  .intro k hk ne
   rcases Qp.mp hk with q|q
   .rw[go k q];exact M.up k q ne
   .rw[Xp.mp q,gm];exact Ul _
  .rw[ev]
   refine(Zek (ts:=(bey.map dI).map OT.fz) (Za rfl) rfl (by rw[Xd,Xd];rw[hk,Xv]at lk;omega)).trans ?_;rw[Zd8];rfl
def Zp4{ks ks0 bey ed:List Nat}{f:Nat->Nat}{p:Nat}{o6:Option OT}{bd:List Xa}(hn:n<=10)(hE:∀m∈nb p,m<n/\E p m)(hbs:bs= .list bd)(hbd:bd[p]? =YB (.list ((nb p).map dI)))(M:Met E n s f ks)(hk:ks=ks0++bey)(hp:p∈ks) :
  ∃t f' o,Met E n s f' (ks++t)/\(∀m∈nb p,m∈ks++t)/\
   (Jx (Zf0 Z7y) (gNm 6) Yf0) (eB bs s ks (vF f ks) ed (YB (lsO bey)) (zf (dI p)) o6)= .nx (eB bs s (ks++t) (vF f' (ks++t)) ed (YB (lsO (bey++t))) (zf (dI p)) o):=by
 refine Exists.elim (Zst (δ:=eB bs s ks (vF f ks) ed (YB (lsO bey)) (zf (dI p)) o6) (it:=Zf0 Z7y) (g:=gNm 6) (S:=Ws Ybr Yii fNx)
  (λi δ=>∃t f' o,δ=eB bs s (ks++t) (vF f' (ks++t)) ed (YB (lsO (bey++t))) (zf (dI p)) o/\Met E n s f' (ks++t)/\∀j m,j<i->(nb p)[j]? =YB m->m∈ks++t)
  (Jr (ds:=(nb p).map dI) (Zfj (ds:=bd) (i:=p) (hbs▸Za rfl) (Za rfl) (Zdj hbd))) ⟨[],f,o6,by rw[XX,XX],by rw[XX];exact M,λj m z=>YZ z (JL _)⟩ (λi d δ hd h=>?turn)) λδ' z=>?fin
 case fin=>
  obtain⟨e,t,f',o,rfl,M',hc⟩:=z;rw[Xd]at hc;exact⟨t,f',o,M',λm hm=>by
   obtain⟨j,hj,e⟩:=VM hm;exact hc j m hj (by rw[Xj hj,e]),e⟩
 case turn=>
  obtain⟨t,f',o,rfl,M',hc⟩:=h;rw[Xi]at hd;obtain⟨m,hm,rfl⟩:=Qe.mp hd;obtain⟨lm,em⟩:=hE m (Qg hm);obtain⟨t2,f2,o2,M2,m2,run⟩:=Zqw (bs:=bs) (ed:=ed) (bey:=bey++t) hn M' (by rw[hk,QF]) (Qw _ hp) lm em;rw[QF,QF]at run;rw[QF]at M2 m2;refine⟨_,_,rfl,.inl run,t++t2,f2,o2,rfl,M2,λj k hj hk=>?_⟩;rcases Nat.lt_succ_iff_lt_or_eq.mp hj with hj|rfl
  .rw[<-QF];exact Qw _ (hc j k hj hk)
  .rw[hm]at hk;cases hk;exact m2
end
def Nb(nb:Nat->List Nat):Nat->Nat->Prop:=λp m=>m∈nb p
structure Web(n:Nat)(nb:Nat->List Nat)(bs:Xa):Prop where
 le:n<=10
 lt:∀p m,m∈nb p->m<n
 bs:∃bd,bs= .list bd/\∀p<n,bd[p]? =YB (.list ((nb p).map dI))
def inB:FS:=Jx (Zf0 Z7y) (gNm 6) Yf0
def Z9s:FS:=Zt (wE Zvv (J7 4)) (Zt (Jx (Zf0 Zar) (gNm 5) inB) (Za1 4 (wE Zba (Y8 3))))
abbrev Zk8:=fI 0
def Z05:FT:=tV (Zd gGt (Zem Zi3 Zvq) Zk8)
section
variable {n s:Nat}{nb:Nat->List Nat}{bs:Xa}
def Z0x(W:Web n nb bs){ks ed:List Nat}{f:Nat->Nat}{o4 o5 o6:Option OT}(M:Met (Nb nb) n s f ks)(hed:∀p∈ed,p∈ks) :
  ∃bey f' o4' o5' o6',Met (Nb nb) n s f' (ks++bey)/\(∀p∈ed,∀m∈nb p,m∈ks++bey)/\Z9s (eB bs s ks (vF f ks) ed o4 o5 o6)= .nx (eB bs s (ks++bey) (vF f' (ks++bey)) bey o4' o5' o6'):=by
 obtain⟨bd,hbs,hbd⟩:=W.bs;refine Exists.elim (Zst (δ:=eB bs s ks (vF f ks) ed (YB (.nd [])) o5 o6) (it:=Zf0 Zar) (g:=gNm 5) (S:=inB)
  (λi δ=>∃bey f' o5 o6,δ=eB bs s (ks++bey) (vF f' (ks++bey)) ed (YB (lsO bey)) o5 o6/\Met (Nb nb) n s f' (ks++bey)/\∀j p,j<i->ed[j]? =YB p->∀m∈nb p,m∈ks++bey)
  (Jr (ds:=ed.map dI) (Za rfl)) ⟨[],f,o5,o6,by rw[XX];rfl,by rw[XX];exact M,λj m z=>YZ z (JL _)⟩ (λi d δ hd h=>?turn)) λδ' z=>?fin
 case fin=>
  obtain⟨e,bey,f',o5',o6',rfl,M',hc⟩:=z;rw[Xd]at hc;refine⟨bey,f',zf (.list (bey.map dI)),o5',o6',M',λp hp=>?_,Zx Zby (Zx e (Zlg (o:=lsO bey) rfl ?_))⟩
  .obtain⟨j,hj,e⟩:=VM hp
   exact hc j p hj (by rw[Xj hj,e])
  .have hd:(lsO bey).data= .list (bey.map dI):=by unfold lsO;rw[OT.data_nd,OT.map_fz]
   rw[hd];exact Z7 (Za rfl)
 case turn=>
  obtain⟨bey,f',o5,o6,rfl,M',hc⟩:=h;rw[Xi]at hd;obtain⟨p,hp,rfl⟩:=Qe.mp hd;have pk:p∈ks++bey:=Qw _ (hed p (Qg hp));obtain⟨t,f2,o,M2,m2,run⟩:=Zp4 (ed:=ed) (o6:=o6) W.le (λm hm=>⟨W.lt p m hm,hm⟩) hbs (hbd p (M'.lt p pk)) M' rfl pk;rw[QF]at run M2;refine⟨_,_,rfl,.inl run,bey++t,f2,_,o,rfl,M2,λj k hj hk m hm=>?_⟩;rw[<-QF];rcases Nat.lt_succ_iff_lt_or_eq.mp hj with hj|rfl
  .exact Qw _ (hc j k hj hk m hm)
  .rw[hp]at hk;cases hk;exact m2 m hm
def Zmw{ks ed:List Nat}{vs:List Xa}{o4 o5 o6:Option OT}:Z05 (eB bs s ks vs ed o4 o5 o6)=YB (decide (0<ed.length),eB bs s ks vs ed o4 o5 o6):=by
 refine Jp (Zmi (Zhr (ds:=ed.map dI) (Za rfl)) Zy ?_);rw[Xd];exact decide_eq_decide.mpr ⟨λh=>by omega,λh=>by omega⟩
def Z2w{t:FT}{u:FS}{k:Nat}(h:t δ=YB (YD,δ))(g:u δ= .nx δ2):whileLoop t u (k+1) δ=whileLoop t u k δ2:=by
 rw[whileLoop,h];dsimp only;rw[YM rfl,g]
def Zt3{t:FT}{u:FS}{k:Nat}(h:t δ=YB (YF,δ)):whileLoop t u (k+1) δ= .nx δ:=by
 rw[whileLoop,h];rfl
def Z03(W:Web n nb bs)(N:Nat):∀{ks ed:List Nat} {f:Nat->Nat} {o4 o5 o6:Option OT},Met (Nb nb) n s f ks->(∀p∈ed,p∈ks)->(∀k∈ks,k∉ed->∀m∈nb k,m∈ks)->2*(n-ks.length)+(if ed=[]then 0 else 1)<=N ->
  ∃g ks' f' o3 o4' o5' o6',whileLoop Z05 Z9s g (eB bs s ks (vF f ks) ed o4 o5 o6)= .nx (eB bs s ks' (vF f' ks') o3 o4' o5' o6')/\Met (Nb nb) n s f' ks'/\∀k∈ks',∀m∈nb k,m∈ks':=by
 induction N with
 | zero=>
  intro ks ed f o4 o5 o6 M hed hc hN;have e:ed=[]:=V9 λc=>by rw[YQ c]at hN;omega
  subst e;exact⟨1,ks,f,_,_,_,_,Zt3 Zmw,M,λk hk=>hc k hk λz=>nomatch z⟩
 | succ N ih=>
  intro ks ed f o4 o5 o6 M hed hc hN
  by_cases e:ed=[]
  .subst e
   exact⟨1,ks,f,_,_,_,_,Zt3 Zmw,M,λk hk=>hc k hk λz=>nomatch z⟩
  .rw[YQ e]at hN
   obtain⟨bey,f',p4,p5,p6,M',m',run⟩:=Z0x (o4:=o4) (o5:=o5) (o6:=o6) W M hed;have ll:=Zcv M'.nd M'.lt;rw[Xv]at ll;have tt:Z05 (eB bs s ks (vF f ks) ed o4 o5 o6)=YB (YD,eB bs s ks (vF f ks) ed o4 o5 o6):=by
    rw[Zmw,YS (List.length_pos_iff.mpr e)]
   have c1:∀k∈ks++bey,k∉bey->∀m∈nb k,m∈ks++bey:=λk hk hb m hm=>by
    by_cases ke:k∈ed
    .exact m' k ke m hm
    .exact Qw _ (hc k ((Qp.mp hk).resolve_right hb) ke m hm)
   have c2:2*(n-(ks++bey).length)+(if bey=[]then 0 else 1)<=N:=by
    rw[Xv]
    by_cases b:bey=[]
    .rw[YM b,b];show 2*(n-(ks.length+0))+0<=N;omega
    .rw[YQ b]
     have:=List.length_pos_iff.mpr b;omega
   obtain⟨g,ks',f2,o3,q4,q5,q6,k1,k2,k3⟩:=ih (ks:=ks++bey) (ed:=bey) (o4:=p4) (o5:=p5) (o6:=p6) M' (λp hp=>XR _ hp) c1 c2;exact⟨g+1,ks',f2,o3,q4,q5,q6,(Z2w tt run).trans k1,k2,k3⟩
def Zef(W:Web n nb bs)(hs:s<n):∃ks f,Told Yx [bs,dI s] (dcD YF (ks.map kI) (vF f ks))/\Met (Nb nb) n s f ks/\∀m,m∈ks↔Rch (Nb nb) s m:=by
 have M0:Met (Nb nb) n s (λ_=>0) [s]:=⟨Qt.mpr ⟨(λz=>nomatch z),.nil⟩,.head _,λk hk=>Xp.mp hk▸hs,λk hk=>Xp.mp hk▸ .refl,rfl,λk hk ne=>YZ (Xp.mp hk) ne⟩;obtain⟨g,ks,f,o3,o4,o5,o6,run,M,cl⟩:=Z03 (ed:=[s]) (o4:=YC) (o5:=YC) (o6:=YC) W _ M0 (λp hp=>hp) (λk hk hn=>YZ hk hn) (XD _);refine⟨ks,f,Yk rfl<|Z2 (δ':=[zf bs,zf (dI s),YB (.dc YF [kI s] [.int 0]),YC,YC,YC,YC]) ?_<|Z2 (Z7 (Zfr (ds:=[dI s]) (Zb (Za rfl) Zh) (show 1<=1000 by decide)))<|Z2 (Zq8 g run (λz=>nomatch z)) (Zyp (o:=.dc YF (ks.map kI) (vF f ks)) rfl (OT.data_dc _ _ _)),M,λm=>⟨M.rch m,Rch.closed M.st cl⟩⟩;rfl
end
def Zk9{f:Int->Int->Bool}{a b c:FE}{i j k:Int}(ha:EvV a δ (.int i))(hb:EvV b δ (.int j))(hc:EvV c δ (.int k)):EvV (Zd7 f g a b c) δ (.bool (f i j&&g j k)):=by
 cases h:f i j with
 | true=>
  obtain⟨_,e1,d1⟩:=ha;obtain⟨_,e2,d2⟩:=hb;obtain⟨_,e3,d3⟩:=hc;refine⟨.fz (.bool (g j k)),?_,OT.data_fz _⟩;unfold Zd7;rw[e1,Xh,e2,Xh];dsimp only;rw[d1,d2];dsimp only;rw[YM h,e3,Xh,d3]
 | false=>
  obtain⟨_,e1,d1⟩:=ha;obtain⟨_,e2,d2⟩:=hb;refine⟨.fz (.bool YF),?_,OT.data_fz _⟩;unfold Zd7;rw[e1,Xh,e2,Xh];dsimp only;rw[d1,d2];dsimp only;rw[YQ (by rw[h];exact Xx)]
theorem Zvu(n:Nat):Zdk 0 n=(XC n).map dI:=Qk λi _=>by
 show Xu (0+(i:Int))=_;rw[Int.zero_add];rfl
def nbR(rs:List (Nat×Nat))(p:Nat):List Nat:=rs.flatMap λr=>if r.1=p then[r.2]else if r.2=p then[r.1]else[]
def Zxn(rs:List (Nat×Nat))(r:Nat×Nat)(p:Nat):nbR (rs++[r]) p=nbR rs p++(if r.1=p then[r.2]else if r.2=p then[r.1]else[]):=by
 unfold nbR;rw[List.flatMap_append,List.flatMap_cons,List.flatMap_nil,XX]
def Zhd{rs:List (Nat×Nat)}{p:Nat}:m∈nbR rs p↔(p,m)∈rs\/(m,p)∈rs:=by
 unfold nbR;rw[List.mem_flatMap];constructor
 .intro h
  obtain⟨⟨a,b⟩,hr,hm⟩:=h;dsimp only at hm;split at hm
  .rename_i e;subst e;rw[Xp.mp hm];exact .inl hr
  .split at hm
   .rename_i e;subst e;rw[Xp.mp hm];exact .inr hr
   .cases hm
 .intro h
  rcases h with h|h
  .exact⟨_,h,by dsimp only;rw[YM rfl];exact .head _⟩
  .refine⟨_,h,?_⟩
   dsimp only;split
   .rename_i e;subst e;exact .head _
   .rw[YM rfl];exact .head _
def set_range{f:Nat->OT}{n a:Nat}{v:OT}:((XC n).map f).set a v=(XC n).map λp=>if p=a then v else f p:=by
 refine List.ext_getElem? λi=>?_;rw[List.getElem?_set,Xi,Xi,Xd,X6]
 by_cases c:i<n
 .rw[Q8 c]
  by_cases e:a=i
  .subst e;rw[YM rfl,YM c];show _=YB (if _ then _ else _);rw[YM rfl]
  .rw[YQ e];show _=YB (if _ then _ else _);rw[YQ λz=>e z.symm];rfl
 .rw[JN (by rw[X6];omega)]
  split
  .split
   .omega
   .rfl
  .rfl
def Zo5{j e:FE}{k:Nat}{us:List OT}{d:Xa}(hi:δ[i]? =YB (YB (.nd ts)))(hj:EvV j δ (dI k))(ht:ts[k]? =YB (.nd us))(he:EvV e δ d)(hl:us.length<=1000000):Zix i j e δ= .nx (δ.set i (YB (.nd (ts.set k (.nd (us++[.fz d])))))):=by
 obtain⟨t1,e1,d1⟩:=hj;obtain⟨t2,e2,d2⟩:=he;have hk:k<ts.length:=(Xk.mp ht).1;have hx:ixN ts.length (k:Int)=YB k:=Zrc hk;unfold Zix;rw[hi];dsimp only;rw[Zdp,e1,Yd,d1];show(match ixN ts.length (k:Int)with|some j=>_|none=>_)=_;rw[hx];dsimp only;rw[ht];dsimp only;rw[Zdp,e2,Yd,d2,YM (by rw[X8];omega)]
def bO(rs:List (Nat×Nat))(n:Nat):OT:=.nd ((XC n).map λp=>lsO (nbR rs p))
def Z0j(rs:List (Nat×Nat))(p:Nat):(nbR rs p).length<=rs.length:=by
 unfold nbR
 induction rs with
 | nil=>exact XD _
 | cons r rs ih=>
  rw[List.flatMap_cons,Xv,Qd];have:(if r.1=p then[r.2]else if r.2=p then[r.1]else[]).length<=1:=by
   split
   .exact XD _
   .split
    .exact XD _
    .exact QJ _
  omega
theorem Zmb{n:Nat}{rs:List (Nat×Nat)}(hn:n<=10)(hr:∀r∈rs,r.1<r.2/\r.2<n)(hl:rs.length<=1000):Told W9 [dI n,.list (rs.map ptD)] (.list ((XC n).map λp=>.list ((nbR rs p).map dI))):=by
 have h0:wE (Wk 1 [] Zvp Zjj Zh5 Zvv) (J7 2) (Zck 5 [dI n,.list (rs.map ptD)])= .nx [zf (dI n),zf (.list (rs.map ptD)),YB (bO [] n),YC,YC]:=by
  refine(Zey (o:=.nd ((XC n).map λ_=>.nd [])) (Zf8 (cs:=[]) (XC n) dI _ (hi:=?_) (by rw[X6,X8];omega) rfl λx _=>rfl)).trans rfl;rw[<-Zvu];exact Zcx (Zb (Za rfl) Zh) (!0)
 refine Yk rfl<|Z2 h0<|Zpg (ds:=rs.map ptD) (λi δ=>∃z3 z4,δ=[zf (dI n),zf (.list (rs.map ptD)),YB (bO (rs.take i) n),z3,z4]) (Jr (Za rfl)) ⟨_,_,by rw[List.take_zero]⟩ (λi d δ hd h=>?_) λδ' h=>?_
 .obtain⟨z3,z4,rfl⟩:=h
  rw[Xi]at hd;obtain⟨⟨a,b⟩,hab,rfl⟩:=Qe.mp hd;obtain⟨l1,l2⟩:=hr _ (Qg hab);have l1:a<b:=l1;have l2:b<n:=l2;have tk:rs.take (i+1)=rs.take i++[(a,b)]:=by rw[List.take_succ,hab];rfl
  have nl:∀p,(nbR (rs.take i) p).length<=1000:=λp=>by
   have h1:=Z0j (rs.take i) p;have h2:(rs.take i).length<=rs.length:=by rw[Bk];exact Nat.min_le_right _ _
   omega
  have s1:=Zo5 (i:=2) (j:=Z0 3) (e:=Z0 4) (δ:=[zf (dI n),zf (.list (rs.map ptD)),YB (bO (rs.take i) n),zf (dI a),zf (dI b)]) (k:=a) (us:=((nbR (rs.take i) a).map dI).map OT.fz) (d:=dI b) rfl (Za rfl) (by rw[Xi,Q8 (!0)];rfl) (Za rfl) (by rw[Xd,Xd];have:=nl a;omega);rw[set_range]at s1;have s2:=Zo5 (i:=2) (j:=Z0 4) (e:=Z0 3) (δ:=[zf (dI n),zf (.list (rs.map ptD)),YB (.nd ((XC n).map λp=>if p=a then OT.nd (((nbR (rs.take i) a).map dI).map OT.fz++[.fz (dI b)])else lsO (nbR (rs.take i) p))),zf (dI a),zf (dI b)]) (k:=b) (us:=((nbR (rs.take i) b).map dI).map OT.fz) (d:=dI a) rfl (Za rfl) (by rw[Xi,Q8 (!0)];show YB (if b=a then _ else _)=_;rw[YQ (!0)];rfl) (Za rfl) (by rw[Xd,Xd];have:=nl b;omega);rw[set_range]at s2;refine⟨_,_,rfl,.inl (Zx s1 s2),zf (dI a),zf (dI b),?_⟩;have e:((XC n).map λp=>if p=b then OT.nd (((nbR (rs.take i) b).map dI).map OT.fz++[.fz (dI a)])else if p=a then OT.nd (((nbR (rs.take i) a).map dI).map OT.fz++[.fz (dI b)])else lsO (nbR (rs.take i) p))=(XC n).map λp=>lsO (nbR (rs.take (i+1)) p):=Qk λp _=>by
   rw[tk,Zxn]
   by_cases c1:p=b
   .subst c1;rw[YM rfl];dsimp only;rw[YQ (!0),YM rfl,Zd8]
   .rw[YQ c1]
    by_cases c2:p=a
    .subst c2;rw[YM rfl];dsimp only;rw[YM rfl,Zd8]
    .rw[YQ c2];dsimp only;rw[YQ λz=>c2 z.symm,YQ λz=>c1 z.symm,XX]
  unfold bO;rw[<-e];rfl
 .obtain⟨z3,z4,rfl⟩:=h
  refine Zyp (o:=bO rs n) (by rw[Xd,List.take_length];rfl) ?_;unfold bO;rw[OT.data_nd,Qq];refine YW _ (Qk λp _=>?_);show(lsO (nbR rs p)).data=_;unfold lsO;rw[OT.data_nd,OT.map_fz]
def Zy8{n:Nat}{rs:List (Nat×Nat)}(hn:n<=10)(hr:∀r∈rs,r.1<r.2/\r.2<n):Web n (nbR rs) (.list ((XC n).map λp=>.list ((nbR rs p).map dI))) :=
 ⟨hn,λp m h=>by
  rcases Zhd.mp h with h|h
  .exact(hr _ h).2
  .have:=hr _ h;dsimp only at this;omega,_,rfl,λp hp=>by rw[Xi,Q8 hp];rfl⟩
structure Roads(n:Nat)(rs:List (Nat×Nat)):Prop where
 n1:1<=n
 n10:n<=10
 ok:∀r∈rs,r.1<r.2/\r.2<n
 ck:Told Yc [dI n,.list (rs.map ptD)] .none
 len:rs.length<=1000
def Zy9(n:Nat)(rs:List (Nat×Nat)):Prop:=∀m<n,Rch (Nb (nbR rs)) 0 m
def bsD(n:Nat)(rs:List (Nat×Nat)):Xa:=.list ((XC n).map λp=>.list ((nbR rs p).map dI))
def Z2c{rs:List (Nat×Nat)}(a b:Nat)(h:Nb (nbR rs) a b):Nb (nbR rs) b a:=Zhd.mpr (Zhd.mp h).symm
theorem Zr1{ks:List Nat}{vs:List Xa}(h:vs.length=ks.length):Zuh [dcD YF (ks.map kI) vs]=YB (.int ks.length):=by
 show YB (Xu (((ks.map kI).map kyD).zip vs).length)=_;rw[Uw,Xd,Xd,h,Nat.min_self]
def Z6f{g:FG}{u:FS}{d:Xa}{c:Str}(h:g d δ=YB δ1)(k:u δ1= .ex c δ2):forLoop g u (d::ds) δ= .ex c δ2:=by
 rw[forLoop,h];dsimp only;rw[k]
structure Dst(n:Nat)(rs:List (Nat×Nat))(s:Nat)(f:Nat->Nat):Prop where
 z:f s=0
 up:∀p<n,p≠s->0<f p
theorem Z4e{n:Nat}{rs:List (Nat×Nat)}(R:Roads n rs)(hc:Zy9 n rs){s:Nat}(hs:s<n):∃q:List Nat×(Nat->Nat),Told Yx [bsD n rs,dI s] (dcD YF (q.1.map kI) (vF q.2 q.1))/\(∀m<n,m∈q.1)/\q.1.length=n/\Dst n rs s q.2:=by
 have W:=Zy8 R.n10 R.ok;obtain⟨ks,f,T,M,hk⟩:=Zef W hs;have full:∀m<n,m∈ks:=λm hm=>(hk m).mpr (Rch.trans (Rch.symm Z2c (hc s hs)) (hc m hm));refine⟨(ks,f),T,full,Nat.le_antisymm (Zcv M.nd M.lt) (Zrv full),M.z,λp hp ne=>M.up p (full p hp) ne⟩
def Zmd(n:Nat)(f:Nat->Nat):Xa:=.list ((XC n).map λp=>dI (f p))
theorem Zhp{n:Nat}{rs:List (Nat×Nat)}(R:Roads n rs)(hc:Zy9 n rs):∃F:Nat->Nat->Nat,(∀s<n,Dst n rs s (F s))/\Told Zu [dI n,.list (rs.map ptD)] (.list ((XC n).map λs=>Zmd n (F s))):=by
 have n10:=R.n10;obtain⟨q,hq⟩:=Vz (λs=>show∃q:List Nat×(Nat->Nat),s<n->Told Yx [bsD n rs,dI s] (dcD YF (q.1.map kI) (vF q.2 q.1))/\(∀m<n,m∈q.1)/\q.1.length=n/\Dst n rs s q.2 by
  by_cases c:s<n
  .obtain⟨q,h⟩:=Z4e R hc c
   exact⟨q,λ_=>h⟩
  .exact⟨([],id),λz=>YZ z c⟩)
 refine⟨λs=>(q s).2,λs hs=>(hq s hs).2.2.2,?_⟩;refine Yk rfl<|Z2 (Z9o (Zb (Za rfl) (Zb (Za rfl) Zh)) R.ck λ_ _=>rfl)<|Z2 (Z7 (Ye (Zb (Za rfl) (Zb (Za rfl) Zh)) (Zmb R.n10 R.ok R.len)))<|Z2 Zby<|
  Zpg (ds:=Zdk 0 n) (λi δ=>∃z4 z5,δ=[zf (dI n),zf (.list (rs.map ptD)),zf (bsD n rs),YB (.nd (((XC i).map λs=>Zmd n (q s).2).map OT.fz)),z4,z5]) (Zcx (Zb (Za rfl) Zh) (QX n10 (!1))) ⟨_,_,rfl⟩ (λi d δ hd h=>?_) λδ' h=>?_
 .obtain⟨z4,z5,rfl⟩:=h
  obtain⟨hi,e⟩:=Zap hd;rw[Int.zero_add]at e;subst e;obtain⟨T,full,ln,_⟩:=hq i hi;refine⟨_,_,rfl,.inl (Zx (Z7 (Ye (Zb (Za rfl) (Zb (Za rfl) Zh)) T)) (Zx (Z6 (Jp (Zls (Zhg (Zb (Za rfl) Zh) (Zr1 (Xd ..))) (Za rfl) (YT (by rw[ln];exact Int.lt_irrefl _)))) rfl) (Zek (ts:=((XC i).map λs=>Zmd n (q s).2).map OT.fz) (d:=Zmd n (q i).2) (Zgb (cs:=[zf (dcD YF ((q i).1.map kI) (vF (q i).2 (q i).1))]) (XC n) dI (λp=>dI ((q i).2 p)) ?_ (by rw[X6];exact QX n10 (!1)) rfl λx hx=>Zy6 (Za rfl) (Za rfl) (Ybf (full x (Qj.mp hx)))) rfl (by rw[Xd,Xd,X6];exact QX (Vy hi) (QX n10 (!1)))))),zf (.int i),zf (dcD YF ((q i).1.map kI) (vF (q i).2 (q i).1)),?_⟩
  .rw[<-Zvu]
   exact Zcx (Zb (Za rfl) Zh) (QX n10 (!1))
  .rw[List.range_succ,Qx,Qx];rfl
 .obtain⟨z4,z5,rfl⟩:=h
  rw[Wf];exact Zyp rfl (by rw[OT.data_nd,OT.map_fz])
def Zne{n:Nat}{rs:List (Nat×Nat)}(R:Roads n rs)(hc:¬Zy9 n rs):Zu [dI n,.list (rs.map ptD)]= .exn "NoWeb" :=by
 have W:=Zy8 R.n10 R.ok;obtain⟨k,rfl⟩:∃k,n=k+1:=⟨n-1,by have:=R.n1;omega⟩;obtain⟨ks,f,T,M,hk⟩:=Zef W (s:=0) (!0);have lt:ks.length<k+1:=Nat.lt_of_not_le λz=>hc λm hm=>(hk m).mp (Zzo M.nd M.lt z m hm);have er:Zdk 0 (k+1)=dI 0::Zdk 1 k:=Zus 0 k;exact Zbq rfl (Zx (Z9o (Zb (Za rfl) (Zb (Za rfl) Zh)) R.ck λ_ _=>rfl)<|Zx (Z7 (Ye (Zb (Za rfl) (Zb (Za rfl) Zh)) (Zmb R.n10 R.ok R.len)))<|Zx Zby<|J6 (Zal (Zcx (n:=k+1) (Zb (Za rfl) Zh) (by have:=R.n10;omega))
  ((YW (λl=>forLoop _ _ l _) er).trans (Z6f rfl (Zx (Z7 (Ye (Zb (Za rfl) (Zb (Za rfl) Zh)) T)) (J6 (Y9 (Jp (Zls (Zhg (Zb (Za rfl) Zh) (Zr1 (Xd ..))) (Za rfl) (YS (!0)))) rfl)))))))
def Ze5(n:Nat)(F:Nat->Nat->Nat):Xa:=.list ((XC n).map λs=>Zmd n (F s))
def Zut{e:FE}{i:Int}(h:EvV e δ (.int i)):e δ=YB (.fz (.int i),δ):=by
 obtain⟨t,e1,d1⟩:=h;rw[e1,Zoy d1]
def Zee(ns:List Nat):(lsO ns).data= .list (ns.map dI):=by unfold lsO;rw[OT.data_nd,OT.map_fz]
def Zhj{a b:FE}{n p:Nat}{f:Nat->Nat}(ha:EvV a δ (Zmd n f))(hb:EvV b δ (dI p))(hp:p<n):EvV (Z4 gIx a b) δ (dI (f p)):=Zfj ha hb (Zdj (by rw[Xi,Q8 hp];rfl))
def Zgp{n s k:Nat}{F:Nat->Nat->Nat}(hs:s<n)(h1:δ[j]? =YB (zf (Ze5 n F)))(h2:δ[k]? =YB (zf (dI s))):EvV (Z4 gIx (Z0 j) (Z0 k)) δ (Zmd n (F s)):=Zfj (ds:=(XC n).map λs=>Zmd n (F s)) (Za h1) (Za h2) (Zdj (by rw[Xi,Q8 hs];rfl))
def Zj8{n:Nat}{F:Nat->Nat->Nat}(h:δ[j]? =YB (zf (Ze5 n F))):EvV (Zem Zi3 (Zf (Z0 j) Z5)) δ (dI n):=(Zhr (ds:=(XC n).map λs=>Zmd n (F s)) (Za h)).cast (by rw[Xd,X6];rfl)
def Zzq{t u:FT}(h:∃b,EvT t δ b)(k:∃b,EvT u δ b):∃b,EvT (tAn t u) δ b:=by
 obtain⟨b,h⟩:=h;obtain⟨c,k⟩:=k;cases b
 .exact⟨_,Zmk h⟩
 .exact⟨_,Zvw h k⟩
def Yeg{t u:FT}(h:∃b,EvT t δ b)(k:∃b,EvT u δ b):∃b,EvT (tO t u) δ b:=by
 obtain⟨b,h⟩:=h;obtain⟨c,k⟩:=k;cases b
 .exact⟨_,Zvt h k⟩
 .exact⟨_,Zs5 h⟩
def Sc(I:Ze->Prop)(V:Xa->Prop)(u:FS)(δ:Ze):Prop:=(∃δ2,u δ= .nx δ2/\I δ2)\/∃v,Zmf u δ v/\V v
section
variable {I J:Ze->Prop}{V Q:Xa->Prop}{g:FG}{u S:FS}{b:Bool}{t:FT}{e:FE}{v:Xa}
def Z4a{u':FS}(e:u δ=u' δ1)(h:Sc I V u' δ1):Sc I V u δ:=by
 rcases h with⟨δ3,e3,h3⟩|⟨v,⟨o,δ3,e3,d⟩,hv⟩
 .exact .inl ⟨δ3,e.trans e3,h3⟩
 .exact .inr ⟨v,⟨o,δ3,e.trans e3,d⟩,hv⟩
def Z5t:∀{δ:Ze},I δ->(∀d∈ds,∀δ,I δ->∃δ1,g d δ=YB δ1/\Sc I V u δ1)->Sc I V (forLoop g u ds) δ:=by
 induction ds with
 | nil=>exact λh _=>.inl ⟨_,rfl,h⟩
 | cons x xs ih=>
  intro δ h t;obtain⟨δ1,e1,r⟩:=t x (.head _) δ h;rcases r with⟨δ2,e2,h2⟩|⟨v,⟨o,δ2,e2,d⟩,hv⟩
  .exact Z4a (by rw[forLoop,e1];dsimp only;rw[e2]) (ih h2 λy hy=>t y (.tail _ hy))
  .exact .inr ⟨v,⟨o,δ2,by rw[forLoop,e1];dsimp only;rw[e2],d⟩,hv⟩
def Zsj{it:FI}(hi:EvI it δ ds)(h0:J δ)(hJ:∀δ,J δ->I δ)(t:∀d∈ds,∀δ,J δ->∃δ1,g d δ=YB δ1/\Sc J V u δ1):Sc I V (Jx it g u) δ:=by
 rcases Z5t h0 t with⟨δ3,e3,h3⟩|⟨v,⟨o,δ3,e3,d⟩,hv⟩
 .exact .inl ⟨δ3,Zal hi e3,hJ _ h3⟩
 .exact .inr ⟨v,⟨o,δ3,Zal hi e3,d⟩,hv⟩
def Zxs(h:EvT t δ b)(i:I δ)(k:b=YD->Sc I V S δ):Sc I V (Ws t S fNx) δ:=by
 cases b
 .exact .inl ⟨δ,Z6 h rfl,i⟩
 .exact Z4a (Y9 h rfl) (k rfl)
def Ztn(h:EvV e δ v)(hv:V v):Sc I V (wE e Zam) δ:=.inr ⟨v,Za5 h,hv⟩
def Yaa(h:S δ= .nx δ1)(k:Sc I V S' δ1):Sc I V (Zt S S') δ:=Z4a (Zx h rfl) k
def Z1x(h:Sc I Q S δ)(k:∀δ,I δ->Zkf S' δ Q):Zkf (Zt S S') δ Q:=by
 rcases h with⟨δ3,e3,h3⟩|h
 .exact Wn e3 (k _ h3)
 .exact Zjq h
end
def Ygx(v:Xa):Prop:=v= .none\/∃ds,v= .tuple ds/\ds.length<=5
def e5(a b:Xa)(δ:Ze):Prop:=∃z2 z3 z4,δ=[zf a,zf b,z2,z3,z4]
def Zkg{n:Nat}{rs:List (Nat×Nat)}(R:Roads n rs)(F:Nat->Nat->Nat):∃v,Told Je [Ze5 n F,.list (rs.map ptD)] v/\Ygx v:=by
 have n10:=R.n10;refine Zli rfl (Z1x (I:=e5 (Ze5 n F) (.list (rs.map ptD))) (Zsj (J:=e5 (Ze5 n F) (.list (rs.map ptD))) (Jr (Za rfl)) ⟨_,_,_,rfl⟩ (λ_ h=>h) λd hd δ h=>?_) λδ h=>?_)
 .obtain⟨z2,z3,z4,rfl⟩:=h
  obtain⟨r,hr,rfl⟩:=XF.mp hd;obtain⟨l1,l2⟩:=R.ok r hr;refine⟨_,rfl,Zsj (J:=λδ=>∃z4,δ=[zf (Ze5 n F),zf (.list (rs.map ptD)),zf (dI r.1),zf (dI r.2),z4]) (Zcx (n:=n) (Zb (Zj8 rfl) Zh) (!0)) ⟨_,rfl⟩ (λδ h=>by obtain⟨z,rfl⟩:=h;exact⟨_,_,_,rfl⟩) λd hd δ h=>?_⟩;obtain⟨z4,rfl⟩:=h;rw[Zvu]at hd;obtain⟨x,hx,rfl⟩:=XF.mp hd;have hx:=Qj.mp hx;exact⟨_,rfl,Zxs (Jp (Zde (Zhj (p:=x) (Zgp (s:=r.1) (!0) rfl rfl) (Za rfl) hx) (Zhj (p:=x) (Zgp (s:=r.2) l2 rfl rfl) (Za rfl) hx) rfl)) ⟨_,rfl⟩ λ_=>Ztn (Zbb (Zb (Za rfl) (Zb (Za rfl) (Zb (Za rfl) Zh))) (show 3<=1000 by decide)) (.inr ⟨_,rfl,show 3<=5 by decide⟩)⟩
 .obtain⟨z2,z3,z4,rfl⟩:=h
  exact Zeh Zy (.inl rfl)
def sdF(F:Nat->Nat->Nat)(a b x:Nat):Bool:=decide (F b x<F a x)
def bsL(n:Nat)(S:Nat->Bool):Xa:=.list ((XC n).map λx=>.bool (S x))
def Zfh{n:Nat}(n10:n<=10)(F:Nat->Nat->Nat){a b:Nat}(ha:a<n)(hb:b<n):Told Wy [Ze5 n F,dI a,dI b] (bsL n (sdF F a b)):=by
 refine Yk rfl (Za5 (Zgb (cs:=[zf (Ze5 n F),zf (dI b),zf (dI a)]) (XC n) dI (λx=>.bool (sdF F a b x)) (by rw[<-Zvu];exact Zcx (Zb (Zj8 rfl) Zh) (!0)) (by rw[X6];omega) rfl λx hx=>?_));have hx:=Qj.mp hx;exact Zls (Zhj (p:=x) (Zgp (s:=b) hb rfl rfl) (Za rfl) hx) (Zhj (p:=x) (Zgp (s:=a) ha rfl rfl) (Za rfl) hx) (decide_eq_decide.mpr ⟨λh=>Uq.mp h,λh=>Uq.mpr h⟩)
def Zjc{n k x:Nat}{S:Nat->Bool}(hx:x<n)(h1:δ[j]? =YB (zf (bsL n S)))(h2:δ[k]? =YB (zf (dI x))):EvV (Z4 gIx (Z0 j) (Z0 k)) δ (.bool (S x)):=Zfj (ds:=(XC n).map λx=>.bool (S x)) (Za h1) (Za h2) (Zdj (by rw[Xi,Q8 hx];rfl))
def Yc2(a b:Bool):gEq (.bool a) (.bool b)=YB (.bool (a==b)):=by cases a<;>cases b<;>rfl
def Yd2(a b:Bool):gNe (.bool a) (.bool b)=YB (.bool (a !=b)):=by cases a<;>cases b<;>rfl
def Zfz{n:Nat}(n10:n<=10)(F:Nat->Nat->Nat)(S:Nat->Bool):∃v,Told Wt [Ze5 n F,bsL n S] v/\Ygx v:=by
 refine Zli rfl (Wn (Z7 (Zj8 rfl)) (Z1x (I:=λδ=>∃z3 z4 z5,δ=[zf (Ze5 n F),zf (bsL n S),zf (dI n),z3,z4,z5]) (Zsj (J:=λδ=>∃z3 z4 z5,δ=[zf (Ze5 n F),zf (bsL n S),zf (dI n),z3,z4,z5]) (Jr (Ye (Zb (Za rfl) Zh) (Zmx n (!0)))) ⟨_,_,_,rfl⟩ (λ_ h=>h) λd hd δ h=>?_) λδ h=>?_))
 .obtain⟨z3,z4,z5,rfl⟩:=h
  obtain⟨r,hr,rfl⟩:=XF.mp hd;obtain⟨l1,l2⟩:=Zqi hr;have l0:r.1<n:=by omega
  refine⟨_,rfl,Zxs (Jp (Zo (Zjc (x:=r.1) l0 rfl rfl) (Zjc (x:=r.2) l2 rfl rfl) (Yc2 _ _))) ⟨_,_,_,rfl⟩ λ_=>Zsj (J:=λδ=>∃z5,δ=[zf (Ze5 n F),zf (bsL n S),zf (dI n),zf (dI r.1),zf (dI r.2),z5]) (Zcx (n:=n) (Zb (Za rfl) Zh) (!0)) ⟨_,rfl⟩ (λδ h=>by obtain⟨z,rfl⟩:=h;exact⟨_,_,_,rfl⟩) λd hd δ h=>?_⟩;obtain⟨z5,rfl⟩:=h;rw[Zvu]at hd;obtain⟨z,hz,rfl⟩:=XF.mp hd;have hz:=Qj.mp hz;obtain⟨b,T⟩:=Zzq (δ:=[zf (Ze5 n F),zf (bsL n S),zf (dI n),zf (dI r.1),zf (dI r.2),zf (dI z)]) ⟨_,Jp (Zo (Zjc (S:=S) (x:=z) (j:=1) (k:=5) hz rfl rfl) (Zjc (S:=S) (x:=r.1) (j:=1) (k:=3) l0 rfl rfl) (Yd2 _ _))⟩ ⟨_,Jp (Zde (Jd (Zhj (p:=z) (Zgp (F:=F) (s:=r.1) (j:=0) (k:=3) l0 rfl rfl) (Za (i:=5) rfl) hz) (Zhj (p:=r.2) (Zgp (F:=F) (s:=z) (j:=0) (k:=5) hz rfl rfl) (Za (i:=4) rfl) l2)) (Zhj (p:=r.2) (Zgp (F:=F) (s:=r.1) (j:=0) (k:=3) l0 rfl rfl) (Za (i:=4) rfl) l2) rfl)⟩;exact⟨_,rfl,Zxs T ⟨_,rfl⟩ λ_=>Ztn (Zbb (Zb (Za rfl) (Zb (Za rfl) (Zb (Za rfl) Zh))) (show 3<=1000 by decide)) (.inr ⟨_,rfl,show 3<=5 by decide⟩)⟩
 .obtain⟨z3,z4,z5,rfl⟩:=h
  exact Zeh Zy (.inl rfl)
def Zds(neg:Bool)(x:Int)(p:List Int):Zjw neg (.int x) (Zn p)=YB (.bool (if neg then !decide (x∈p)else decide (x∈p))):=by
 have e:memS (.int x) (p.map Xu)=decide (x∈p):=by
  unfold memS;rw[List.any_map];rw[Bool.eq_iff_iff,List.any_eq_true,decide_eq_true_eq];constructor
  .rintro⟨y,hy,h⟩
   have:(y==x)=YD:=h;rw[<-eq_of_beq this];exact hy
  .intro h
   exact⟨x,h,(show(x==x)=YD from beq_self_eq_true x)⟩
 have s:(p.map Xu).all scD=YD:=by
  rw[BX];intro d hd;obtain⟨y,_,rfl⟩:=XF.mp hd;rfl
 show(if(scD (.int x)&&(p.map Xu).all scD)=YD then YB (Uv (if neg then !memS (.int x) (p.map Xu)else memS (.int x) (p.map Xu)))else YC)=_;rw[s,e];rfl
def Z0m{a:Nat}{ns:List Nat}(neg:Bool):Zjw neg (dI a) (.list (ns.map dI))=YB (.bool (if neg then !decide (a∈ns)else decide (a∈ns))):=by
 have h:=Zds neg (a:Int) (ns.map λk:Nat=>(k:Int));have e:decide ((a:Int)∈ns.map λk:Nat=>(k:Int))=decide (a∈ns):=decide_eq_decide.mpr ⟨λh=>by
  obtain⟨k,hk,e⟩:=XF.mp h;exact Int.ofNat.inj e▸hk,λh=>XF.mpr ⟨a,h,rfl⟩⟩
 rw[e]at h;refine Eq.trans ?_ h;show Zjw neg (.int a) (.list _)=Zjw neg (.int a) (.list ((ns.map λk:Nat=>(k:Int)).map Xu));rw[Qq];rfl
def sdI(n:Nat)(c:Int->Bool):List Int:=((XC n).filter λi:Nat=>c i).map λi:Nat=>(i:Int)
def Z3a{n:Nat}(hn:n<=10){δ:Ze}{ns:List Int}(h0:δ[0]? =YB (zf (.int n)))(hb:blk 1 [1] δ=[YC,zf (Zn ns)]):EvV Yh4 δ (Zn (sdI n λx=>!decide (x∈ns))):=by
 have hi:EvI Zvp δ ((XC n).map λi:Nat=>Xu (0+(i:Int))):=Zcx (Zb (Za h0) Zh) (!0);have e0:(λi:Nat=>Xu (0+(i:Int)))= λi:Nat=>Xu (i:Int):=funext λi=>by rw[Int.zero_add]
 rw[e0]at hi;have:=Zpe (δ:=δ) (t:=tV (Zd (Zjw YD) Wj J2)) (me:=Z0 0) (XC n) (λi:Nat=>Xu (i:Int)) (λi:Nat=>!decide ((i:Int)∈ns)) hi (by rw[X6];omega) hb (λi _=>Jp (Zo Za Za (Zds YD _ _))) λi _ _=>rfl;refine this.cast ?_;unfold Zn sdI;rw[Qq];rfl
def inR(n:Nat)(x:Int):Bool:=decide (0<=x)&&decide (x<n)
def Ycn{n:Nat}{x:Int}(h0:δ[0]? =YB (zf (.int n)))(h2:δ[2]? =YB (zf (.int x))):EvT (tO (tNo (tD (Yo Yz Z48))) (tNo (tV (Zd7 (λi j=>decide (i<=j)) (λi j=>decide (i<j)) Zk8 Jh Wj)))) δ (!inR n x) :=
 Zvt (Zej (p:=YD) (Zla (Ye (Zb (Za h2) Zh) (Told.of (Zku x) (OT.data_fz _))))) (Zej (p:=inR n x) (Jp (Zk9 Zy (Za h2) (Za h0))))
def Yaf{n:Nat}{ns:List Int}(h:∀x∈ns,inR n x=YD):Yi [.int n,Zn ns]= .ok (.fz .none):=by
 have key:EpS Wz (Zck 3 [.int n,Zn ns]) (λ_=>True) λ_ _=>False:=by
  refine Z1g (ds:=ns.map Xu) (λ_ δ=>∃z,δ=[zf (.int n),zf (Zn ns),z]) (Jr Za) ⟨YC,rfl⟩ (λk d δ hd q=>?_) λ_ _=>trivial;obtain⟨z,rfl⟩:=q;obtain⟨x,hx,rfl⟩:=XF.mp (Qg hd);exact⟨_,rfl,Z9d (Z6 (by have:=Ycn (n:=n) (x:=x) (δ:=[zf (.int n),zf (Zn ns),zf (.int x)]) rfl rfl;rwa[h x hx]at this) rfl) ⟨_,rfl⟩⟩
 unfold Yi;rw[Zke (np:=2) (by rfl)];rcases key with⟨δ',e,_⟩|⟨o,δ',e,z⟩
 .exact YW RS.told e
 .exact z.elim
def Zq0{δ:Ze}{i:Nat}{ns:List Int}(h:δ[i]? =YB (zf (Zn ns)))(l:ns.length<64):EvV (Zf9 (Zf (Z0 i) Z5)) δ (Zn (Zch (dnc ns))):=by
 obtain⟨ts,e1,e2⟩:=Zb (Za h) (Zh (δ:=δ));refine⟨.nd (((Zch (dnc ns)).map Xu).map OT.fz),?_,Z34 _⟩;unfold Zf9;rw[e1,Xh];show(match OT.datas ts with|[.list es]=>(Zez es).bind λns=>if ns.length<64 then YB (OT.nd (((Zch (dnc ns)).map Xu).map OT.fz),δ)else YC|_=>YC)=_;rw[e2];show(Zez (ns.map Xu)).bind _=_;rw[Zht,Xh,YM l]
def Zt2{n:Nat}(hn:n<=10){ns:List Int}(hl:ns.length<64)(h:∀x∈ns,0<=x/\x<n)(hne:ns≠[]){x:Nat}(hx:x<n)(hx':(x:Int)∉ns):∃d,Told Ja [.int n,Zn ns] d/\∃c,d=Zn c:=by
 have l1:¬((ns.length:Int)=0):=λz=>hne (Bg (!0));have l2:¬(((sdI n λx=>!decide (x∈ns)).length:Int)=0):=λz=>by
  have m:(x:Int)∈sdI n λx=>!decide (x∈ns):=XF.mpr ⟨x,V2.mpr ⟨Qj.mpr hx,by show(!decide ((x:Int)∈ns))=YD;rw[YT hx'];rfl⟩,rfl⟩;rw[Bg (l:=sdI n λx=>!decide (x∈ns)) (!0)]at m;cases m
 have t:EvT (tV (Zd (Zjw YF) Zk8 J2)) [zf (.int n),zf (Zn ns),zf (Zn (sdI n λx=>!decide (x∈ns)))] (decide ((0:Int)∈ns)):=Jp (Zo Zy Za (Zds YF 0 ns));refine Zli rfl<|Wn (Z9o (Zb Za (Zb Za Zh)) (Told.of (Yaf λx m=>by unfold inR;rw[YS (h x m).1,YS (h x m).2];rfl) (OT.data_fz _)) λ_ _=>rfl)<|Wn (Z7 (Z3a hn rfl rfl))<|Wn (Z6 (Zvt (Jp (Zde (Zcu Za) Zy (YT l1))) (Jp (Zde (Zcu Za) Zy (YT l2)))) rfl) ?_;cases z:decide ((0:Int)∈ns)<;>rw[z]at t
 .exact Wn (Z6 t rfl) (Zeh (Zq0 rfl hl) ⟨_,rfl⟩)
 .exact Zjq (Zt7 t (Zeh Za ⟨_,rfl⟩))
def Ydr{g:FG}{t:FT}(x1 x2:Y->Xa)(p:Y->Bool)(f:Y->OT):∀(xs:List Y) (z0 z1:Option OT),(∀x∈xs,∀z0 z1,g (.tuple [x1 x,x2 x]) (z0::z1::cs)=YB (zf (x1 x)::zf (x2 x)::cs))->(∀x∈xs,t (zf (x1 x)::zf (x2 x)::cs)=YB (p x,zf (x1 x)::zf (x2 x)::cs))->(∀x∈xs,p x=YD->me (zf (x1 x)::zf (x2 x)::cs)=YB (f x,zf (x1 x)::zf (x2 x)::cs)) ->
  ∃z0' z1',compLoop g t me (xs.map λx=>.tuple [x1 x,x2 x]) (z0::z1::cs)=YB ((xs.filter p).map f,z0'::z1'::cs):=by
 intro xs
 induction xs with
 | nil=>exact λz0 z1 _ _ _=>⟨z0,z1,rfl⟩
 | cons x xs ih=>
  intro z0 z1 hg ht hm;obtain⟨y0,y1,e⟩:=ih (zf (x1 x)) (zf (x2 x)) (λy hy=>hg y (.tail _ hy)) (λy hy=>ht y (.tail _ hy)) λy hy=>hm y (.tail _ hy);refine⟨y0,y1,?_⟩;rw[X7,compLoop,hg x (.head _),Xh,ht x (.head _),Xh];dsimp only;cases hp:p x with
  | true=>rw[YM rfl,hm x (.head _) hp,Xh,UT hp,X7];dsimp only;rw[e];rfl
  | false=>rw[YQ Xx,UV (by rw[hp];exact Xx)];exact e
def Zzh{it:FI}{g:FG}{t:FT}(xs:List Y)(x1 x2:Y->Xa)(p:Y->Bool)(f:Y->OT)(hi:EvI it δ (xs.map λx=>.tuple [x1 x,x2 x]))(hz:xs.length<=1000000)(hb:blk 2 caps δ=YC::YC::cs)
  (hg:∀x∈xs,∀z0 z1,g (.tuple [x1 x,x2 x]) (z0::z1::cs)=YB (zf (x1 x)::zf (x2 x)::cs)) (ht:∀x∈xs,t (zf (x1 x)::zf (x2 x)::cs)=YB (p x,zf (x1 x)::zf (x2 x)::cs)) (hm:∀x∈xs,p x=YD->me (zf (x1 x)::zf (x2 x)::cs)=YB (f x,zf (x1 x)::zf (x2 x)::cs)) :
  Wk 2 caps it g t me δ=YB (.nd ((xs.filter p).map f),δ):=by
 obtain⟨z0,z1,e⟩:=Ydr x1 x2 p f xs YC YC hg ht hm;unfold EvI at hi;unfold Wk;rw[hi,Xh];dsimp only;rw[YM (by rw[X8,Xd];omega),hb,e];rfl
def Zd1{n:Nat}{rs:List (Nat×Nat)}(R:Roads n rs)(F:Nat->Nat->Nat):∃v,Told Wa [Ze5 n F,.list (rs.map ptD)] v/\True:=by
 have n10:=R.n10;refine Zli rfl (Z1x (I:=e5 (Ze5 n F) (.list (rs.map ptD))) (Zsj (J:=e5 (Ze5 n F) (.list (rs.map ptD))) (Jr (Za rfl)) ⟨_,_,_,rfl⟩ (λ_ h=>h) λd hd δ h=>?_) λδ h=>?_)
 .obtain⟨z2,z3,z4,rfl⟩:=h
  obtain⟨r,hr,rfl⟩:=XF.mp hd;obtain⟨l1,l2⟩:=R.ok r hr;obtain⟨v,T,hv⟩:=Zfz n10 F (sdF F r.1 r.2);refine⟨_,rfl,Yaa (δ1:=[zf (Ze5 n F),zf (.list (rs.map ptD)),zf (dI r.1),zf (dI r.2),zf v]) ((Z7 (Ye (Zb (Za rfl) (Zb (Ye (Zb (Za rfl) (Zb (Za rfl) (Zb (Za rfl) Zh))) (Zfh n10 F (!0) l2)) Zh)) T)).trans rfl) (Zxs (Jp (Zo (Za rfl) Zy rfl)) ⟨_,_,_,rfl⟩ λhb=>?_)⟩;rcases hv with rfl|⟨ds,rfl,hd⟩
  .cases hb
  .exact Ztn (Zow (Zbb (Zb (Za (d:=dI r.1) rfl) (Zb (Za (d:=dI r.2) rfl) Zh)) (show 2<=1000 by decide)) (Za rfl) (YM (show 2+ds.length<=Xw by rw[X8];omega)) (OT.data_fz _)) trivial
 .obtain⟨z2,z3,z4,rfl⟩:=h
  exact Zeh Zy trivial
def Z1o{as:FA}{d:Xa}(h:EvA as δ ds)(hF:Told F ds d):wX F as (Y8 i) δ= .nx (δ.set i (zf d)):=Z9o h hF λo ho=>by rw[Ztk,ho]
def Zub(p:List Int):(Zn p).canLay0=YD:=(lay_ints p).1
def Zsl(a:List Int)(l:List (List Int)):Z2t (Zn a) (l.map Zn)=decide (a∈l):=by
 unfold Z2t;rw[List.any_map,Bool.eq_iff_iff,List.any_eq_true,decide_eq_true_eq];constructor
 .rintro⟨y,hy,h⟩
  have h:JF (Zn y) (Zn a)=YD:=h;rw[show JF (Zn y) (Zn a)=decide (y=a)from Zk7 y a]at h;exact YX h▸hy
 .intro h
  exact⟨a,h,(Zk7 a a).trans (YS rfl)⟩
def Z4y(a:List Int)(l:List (List Int)):Zui YD (Zn a) (.list (l.map Zn))=YB (.bool (!decide (a∈l))):=by
 have d32:(Zn a).depth<=32:=QX (lay_ints a).2 (!1);have c2:(VP (l.map Zn)).canLay0=YD:=(Zhq (n:=1) λd m=>by
  obtain⟨x,_,rfl⟩:=XF.mp m;exact lay_ints x).1
 show(if _ then YB (Uv (!Z2t (Zn a) (l.map Zn)))else YC)=_;rw[YM (by rw[Zub,c2,YS d32];rfl),Zsl]
def Zpn(n:Nat)(g:Nat->Xa):Zjl ((XC n).map g)=(XC n).map λx=>.tuple [dI x,g x]:=by
 refine List.ext_getElem? λi=>?_;unfold Zjl;rw[Xi,List.getElem?_zipIdx,Xi,Xi]
 by_cases c:i<n
 .rw[Q8 c]
  show YB (PyData.tuple [.int ((0+i:Nat):Int),g i])=_;rw[Uk];rfl
 .rw[JN (by rw[X6];omega)];rfl
def Zzw(n:Nat)(F:Nat->Nat->Nat)(r:Nat×Nat):List Int:=((XC n).filter (sdF F r.1 r.2)).map λx:Nat=>(x:Int)
def Z5s{n:Nat}(n10:n<=10)(F:Nat->Nat->Nat){r:Nat×Nat}(h1:r.1<n)(h2:r.2<n)(d0:δ[0]? =YB (zf (Ze5 n F)))(d3:δ[3]? =YB (zf (dI r.1)))(d4:δ[4]? =YB (zf (dI r.2)))(hb:blk 2 [] δ=[YC,YC]):EvV Yh0 δ (Zn (Zzw n F r)):=by
 refine⟨_,Zzh (cs:=[]) (XC n) dI (λx=>.bool (sdF F r.1 r.2 x)) (sdF F r.1 r.2) (λx=>.fz (dI x)) (by rw[<-Zpn];exact Z17 (Ye (Zb (Za d0) (Zb (Za d3) (Zb (Za d4) Zh))) (Zfh n10 F h1 h2))) (by rw[X6];omega) hb (λx _ z0 z1=>rfl) (λx _=>Zla (Za rfl)) (λx _ _=>rfl),?_⟩;rw[OT.data_nd,Qq];unfold Zzw Zn;rw[Qq];exact YW _ (Qk λx _=>OT.data_fz _)
def Z1d{n:Nat}(n10:n<=10){F:Nat->Nat->Nat}{r:Nat×Nat}(h1:r.1<n)(h2:r.2<n)(p1:0<F r.1 r.2)(z1:F r.1 r.1=0)(z2:F r.2 r.2=0):∃d,Told Ja [dI n,Zn (Zzw n F r)] d/\∃c,d=Zn c:=by
 have mem:∀x:Int,x∈Zzw n F r↔∃i:Nat,i<n/\sdF F r.1 r.2 i=YD/\(i:Int)=x:=λx=>by
  unfold Zzw;rw[XF];exact⟨λ⟨i,hi,e⟩=>⟨i,Qj.mp (V2.mp hi).1,(V2.mp hi).2,e⟩,λ⟨i,a,b,e⟩=>⟨i,V2.mpr ⟨Qj.mpr a,b⟩,e⟩⟩
 refine Zt2 n10 (ns:=Zzw n F r) ?_ (λx hx=>?_) (λe=>?_) (x:=r.1) h1 λhx=>?_
 .unfold Zzw
  rw[Xd];have:=List.length_filter_le (sdF F r.1 r.2) (XC n);rw[X6]at this;omega
 .obtain⟨i,a,_,rfl⟩:=(mem x).mp hx
  omega
 .have:(r.2:Int)∈Zzw n F r:=(mem _).mpr ⟨r.2,h2,YS (!0),rfl⟩
  rw[e]at this;cases this
 .obtain⟨i,a,b,e⟩:=(mem _).mp hx
  have e:i=r.1:=Int.ofNat.inj e;subst e;have:=YX b;omega
def csO(cs:List (List Int)):OT:=.nd ((cs.map Zn).map OT.fz)
def Zon(cs:List (List Int)):(csO cs).data= .list (cs.map Zn):=by unfold csO;rw[OT.data_nd,OT.map_fz]
def Z7f{cs:List (List Int)}(h:δ[i]? =YB (zf (.list (cs.map Zn))))(hl:cs.length<64):∃CS:List (List Int),CS.length=cs.length/\EvV (fBl (Zfs kdL ltI) (Zf (Z0 i) Z5)) δ (.list (CS.map Zn)):=by
 refine⟨sLay [] (lk kdL ltI (cs.map Zn)) cs,(Zcj _ _ _).length_eq,Z0p (Zb (Za h) Zh) (o:=.nd (((sLay [] (lk kdL ltI (cs.map Zn)) cs).map Zn).map OT.fz)) ?_ (by rw[OT.data_nd,OT.map_fz])⟩;rw[<-Zjp,<-Zg1 Xa.none (Zn [])];refine YM ?_;rw[XJ,decide_eq_true_eq,Xd,BX];refine⟨hl,λd m=>?_⟩;obtain⟨p,_,rfl⟩:=XF.mp m;show(Zez (p.map Xu)).isSome=YD;rw[Zht];rfl
def Zqu{n:Nat}{rs:List (Nat×Nat)}(R:Roads n rs)(hl:rs.length<64){F:Nat->Nat->Nat}(D:∀s<n,Dst n rs s (F s)):∃d,Told Y0 [Ze5 n F,.list (rs.map ptD)] d/\∃CS:List (List Int),d= .list (CS.map Zn)/\CS.length<=1000:=by
 have n10:=R.n10;refine Zli rfl<|Wn Zby<|Zim (ds:=rs.map ptD) (λi δ=>∃cs z3 z4 z5,δ=[zf (Ze5 n F),zf (.list (rs.map ptD)),YB (csO cs),z3,z4,z5]/\cs.length<=i) (Jr (Za rfl)) ⟨[],_,_,_,rfl,XD _⟩ (λi d δ hd h=>?_) λδ' h=>?_
 .obtain⟨cs,z3,z4,z5,rfl,ll⟩:=h
  have hi:=(Xk.mp hd).1;rw[Xd]at hi;rw[Xi]at hd;obtain⟨r,hr,rfl⟩:=Qe.mp hd;obtain⟨l1,l2⟩:=R.ok r (Qg hr);have r1:r.1<n:=by omega
  have p1:0<F r.1 r.2:=(D r.1 r1).up r.2 l2 (!0);obtain⟨_,Tc,c,rfl⟩:=Z1d n10 r1 l2 p1 (D r.1 r1).z (D r.2 l2).z;have s1:=Z1o (i:=5) (δ:=[zf (Ze5 n F),zf (.list (rs.map ptD)),YB (csO cs),zf (dI r.1),zf (dI r.2),z5]) (Zb (Zj8 (j:=0) (n:=n) (F:=F) rfl) (Zb (Z5s n10 F r1 l2 rfl rfl rfl rfl) Zh)) Tc;have st:=Jp (Zo (Za (i:=5) (δ:=[zf (Ze5 n F),zf (.list (rs.map ptD)),YB (csO cs),zf (dI r.1),zf (dI r.2),zf (Zn (c))]) rfl) (Zc7 (i:=2) rfl (Zon _)) (Z4y _ _));cases q:!decide (c∈cs)with
  | false=>
   rw[q]at st;exact⟨_,_,rfl,.inl (Zx s1 (Z6 st rfl)),cs,_,_,_,rfl,by omega⟩
  | true=>
   rw[q]at st;refine⟨_,_,rfl,.inl (Zx s1 (Y9 st (Zek (ts:=(cs.map Zn).map OT.fz) (Za rfl) rfl (by rw[Xd,Xd];omega)))),cs++[c],zf (dI r.1),zf (dI r.2),zf (Zn (c)),?_,by rw[Xv];exact Vn ll⟩;unfold csO;rw[Qx,Qx];rfl
 .obtain⟨cs,z3,z4,z5,rfl,ll⟩:=h
  rw[Xd]at ll;obtain⟨CS,l2,ev⟩:=Z7f (δ:=[zf (Ze5 n F),zf (.list (rs.map ptD)),zf (.list (cs.map Zn)),z3,z4,z5]) (i:=2) (cs:=cs) rfl (!0);exact Ztu (o:=csO cs) rfl (by rw[Zon];exact Zeh ev ⟨CS,rfl,by omega⟩)
def Z5p{g:Str->List Xa->Option Xa}{o:FE}{as:FA}{z:Str}{d:Xa}(ho:EvV o δ (.str z))(ha:EvA as δ ds)(h:g z ds=YB d):Yb9 g o as δ=YB (.fz d,δ):=by
 obtain⟨t,e1,d1⟩:=ho;obtain⟨ts,e2,d2⟩:=ha;unfold Yb9;rw[e1,Xh];dsimp only;rw[d1];dsimp only;rw[e2,Xh,d2,h];rfl
def Z3g{t:FT}{a b:FE}{d:Xa}(h:EvT t δ YD)(k:EvV a δ d):EvV (fIf t a b) δ d:=by
 obtain⟨o,e,d1⟩:=k;exact⟨o,by rw[Zyr,h,Xh];exact e,d1⟩
def Z2n{t:FT}{a b:FE}{d:Xa}(h:EvT t δ YF)(k:EvV b δ d):EvV (fIf t a b) δ d:=by
 obtain⟨o,e,d1⟩:=k;exact⟨o,by rw[Zyr,h,Xh];exact e,d1⟩
def sgB(b:Bool):Str:=if b then"1"else"0"
def Z36(bs:List Bool):Zkz (bs.map λb=>PyData.str (sgB b))=YB (bs.map sgB):=by
 induction bs with
 | nil=>rfl
 | cons b bs ih=>rw[X7,Zkz,ih];rfl
def Yfw(CS:List (List Int))(p:Nat):Xa:=.str (PySem.Txt.join "" (CS.map λc=>sgB (decide ((p:Int)∈c))))
def Z3s{CS:List (List Int)}{p:Nat}(hl:CS.length<=1000):Zwn "" [.list (CS.map λc=>PyData.str (sgB (decide ((p:Int)∈c))))]=YB (Yfw CS p):=by
 have e:=Z36 (CS.map λc=>decide ((p:Int)∈c));rw[Qq,Qq]at e;show(Zkz (CS.map λc=>PyData.str (sgB (decide ((p:Int)∈c))))).bind _=_;rw[show Zkz (CS.map λc=>PyData.str (sgB (decide ((p:Int)∈c))))=YB (CS.map λc=>sgB (decide ((p:Int)∈c)))from e,Xh,YM]
 .rfl
 .have one:∀b,(sgB b).length=1:=λb=>by cases b<;>rfl
  refine PyProof.Rows.joinOk_of_weight ?_ (!1);rw[Qq,Xd];have:(CS.map (Str.length∘ λc=>sgB (decide ((p:Int)∈c)))).sum=CS.length:=by
   clear hl e
   induction CS with
   | nil=>rfl
   | cons c CS ih=>
    rw[X7,List.sum_cons,ih,Qd];show(sgB _).length+_=_;rw[one];omega
  rw[this];omega
def Zph{CS:List (List Int)}(hl:CS.length<=1000)(p:Nat):Told Wv [dI p,.list (CS.map Zn)] (Yfw CS p):=by
 refine Yk rfl (Za5 ⟨_,Z5p Zy (Zb (Zgb (cs:=[zf (dI p)]) CS Zn (λc=>PyData.str (sgB (decide ((p:Int)∈c)))) (Jr (Za rfl)) (!0) rfl λc _=>?_) Zh) (Z3s hl),OT.data_fz _⟩);have t:EvT (tV (Zd (Zjw YF) J2 Wj)) [zf (Zn c),zf (dI p)] (decide ((p:Int)∈c)):=Jp (Zo (Za rfl) (Za rfl) (Zds YF (p:Int) c));cases q:decide ((p:Int)∈c)with
 | true=>
  rw[q]at t;exact Z3g t Zy
 | false=>
  rw[q]at t;exact Z2n t Zy
def Z29{it:FI}(xs:List Y)(mk f:Y->Xa)(hi:EvI it δ (xs.map mk))(hz:xs.length<=1000000)(hb:blk 1 caps δ=YC::cs)(h:∀x∈xs,EvV me (zf (mk x)::cs) (f x)):∃rs,Wk 1 caps it Zjj Zh5 me δ=YB (.nd rs,δ)/\(OT.nd rs).data= .list (xs.map f):=by
 have g:∀x,∃o:OT,x∈xs->me (zf (mk x)::cs)=YB (o,zf (mk x)::cs)/\o.data=f x:=λx=>by
  by_cases c:x∈xs
  .obtain⟨o,h1,h2⟩:=h x c
   exact⟨o,λ_=>⟨h1,h2⟩⟩
  .exact⟨.fz .none,λz=>YZ z c⟩
 obtain⟨o,ho⟩:=Vz g;unfold EvI at hi;refine⟨_,Zf8 (cs:=cs) xs mk o hi (by rw[X8];omega) hb (λx hx=>(ho x hx).1),?_⟩;rw[OT.data_nd,Qq];exact YW _ (Qk λx hx=>(ho x hx).2)
def Yap{t:FT}{e:FE}{S:FS}{b:Bool}{v:Xa}{Q:Xa->Prop}(h:EvT t δ b)(he:EvV e δ v)(hv:Q v)(k:Zkf S δ Q):Zkf (Zt (Ws t (wE e Zam) fNx) S) δ Q:=by
 cases b
 .exact Wn (Z6 h rfl) k
 .exact Zjq (Zt7 h (Zeh he hv))
def Zsf{n:Nat}{rs:List (Nat×Nat)}(R:Roads n rs)(hc:Zy9 n rs)(hl:rs.length<64):∃d,Told Yb [dI n,.list (rs.map ptD)] d/\True:=by
 have n10:=R.n10;obtain⟨F,D,T⟩:=Zhp R hc;have T:Told Zu [dI n,.list (rs.map ptD)] (Ze5 n F):=T;obtain⟨v,T1,_⟩:=Zkg R F;obtain⟨v2,T2,_⟩:=Zd1 R F;obtain⟨_,T3,CS,rfl,cl⟩:=Zqu R hl D;have fin:Zkf (wE (Zx1 (Zf (fC (.str "halves")) (Zf (Wk 1 [5] Zvp Zjj Zh5 (Yo Wv Znq)) Z5))) Zam) [zf (dI n),zf (.list (rs.map ptD)),zf (Ze5 n F),zf v,zf v2,zf (.list (CS.map Zn))] λ_=>True:=by
  obtain⟨us,e1,_⟩:=Z29 (caps:=[5]) (it:=iRa Zvs) (me:=Yo Wv Znq) (cs:=[zf (.list (CS.map Zn))]) (δ:=[zf (dI n),zf (.list (rs.map ptD)),zf (Ze5 n F),zf v,zf v2,zf (.list (CS.map Zn))]) (XC n) dI (Yfw CS) (by rw[<-Zvu];exact Zcx (Zb (Za rfl) Zh) (!0)) (by rw[X6];omega) rfl λp _=>Ye (Zb (Za rfl) (Zb (Za rfl) Zh)) (Zph cl p);refine⟨_,⟨.tp [.fz (.str "halves"),.nd us],[zf (dI n),zf (.list (rs.map ptD)),zf (Ze5 n F),zf v,zf v2,zf (.list (CS.map Zn))],?_,rfl⟩,trivial⟩;rw[Zdp,Zv8,Zd9,Z70,Xh];dsimp only;rw[Zd9,e1];show onO (if 2<=Xw then YB (OT.tp [OT.fz (.str "halves"),OT.nd us],_)else YC) Zam=_;rw[YM (by rw[X8];decide),Yd];rfl
 have a2:∀{x:Xa} {i:Nat} {z:Str} {δ:Ze},δ[i]? =YB (zf x)->EvV (Zbv (Zf (fC (.str z)) (Zf (Z0 i) Z5))) δ (.tuple [.str z,x]):=λh=>Zbb (Zb Zy (Zb (Za h) Zh)) (show 2<=1000 by decide);exact Zli rfl<|Wn (Z1o (Zb (Za rfl) (Zb (Za rfl) Zh)) T)<|Wn (Z7 (Ye (Zb (Za rfl) (Zb (Za rfl) Zh)) T1))<|Yap (Jp (Zo (Za rfl) Zy rfl)) (a2 rfl) trivial<|
  Wn (Z7 (Ye (Zb (Za rfl) (Zb (Za rfl) Zh)) T2))<|Yap (Jp (Zo (Za rfl) Zy rfl)) (a2 rfl) trivial<|Wn (Z1o (Zb (Za rfl) (Zb (Za rfl) Zh)) T3) fin
def Yim:Zrl (.int 10) (.int 45)=YB (.int 1000000000000000000000000000000000000000000000):=rfl
def Yi8:Zhw (.int 1000000000000000000000000000000000000000000000) (.int 1000000000000000000000000000000000000000000000)=YB (.int 1000000000000000000000000000000000000000000000000000000000000000000000000000000000000000000):=rfl
def Zop(c:Int)(m:Nat)(b:Int)(hm:m<=1000)(hb:(decide (0<b)&&decide (b<18446744073709551616))=YD):∃vs:List Int,Told Yt [.int c,.int m,.int b] (Zn vs)/\vs.length=m:=by
 have b0:b≠0:=λe=>by rw[e]at hb;exact YZ hb (!1)
 have key:∃d,Told Yt [.int c,.int m,.int b] d/\∃vs,d=Zn vs/\vs.length=m :=
  Zli rfl<|Wn (Z7 (Wb Za (Zo (Zo Zy Zy Yim) (Zo Zy Zy Yim) Yi8) (!1)))<|Wn Zby<|Wn (Z7 (Zfk Za (Zo Zy Zy Ydw)))<|Zim (ds:=Zdk 0 m) (λi δ=>∃(vs:List Int) (c x:Int) (z1 z2:Option OT),δ=[zf (.int c),zf (.int m),zf (.int b),YB (.nd (vs.map λv=>.fz (.int v))),zf (.int x),z1,z2]/\vs.length=i)
   (Zcx (n:=m) (Zb Za Zh) (!0)) ⟨[],_,_,YC,YC,rfl,rfl⟩ (λi d δ hd q91=>by
    obtain⟨vs,c,x,z1,z2,e,hl⟩:=q91;subst e;obtain⟨hi,rfl⟩:=Zap hd;have n0:=Zi8 (i:=(c+977*(0+(i:Int))+1)*48271) (j:=2147483647) (!1);have n1:=Zjg (i:=(c+977*(0+(i:Int))+1)*48271) (j:=2147483647) (!1);have a1:∀z2,wE (Zd Js (Zd Zhw (Zd Za0 (Zd Za0 Wj (Zd Zhw (fI 977) Zjv)) Zfo) (fI 48271)) (fI 2147483647)) (Y8 6) [zf (.int c),zf (.int m),zf (.int b),YB (.nd (vs.map λv=>.fz (.int v))),zf (.int x),zf (.int (0+(i:Int))),z2]= .nx _:=λz2=>Z7 (Wb (Znc (Jd (Jd Za (Zhs Zy Za)) Zy) Zy) Zy (!1))
    by_cases q:1000000000000000000<=c
    .exact⟨_,_,rfl,.inl (Zx (a1 z2)<|Zx (Z7 (Wb (Zhs Za Za (!0)) Zy (!1)))<|Zx (Z7 (Zet (Wb (Znc (Jd Za (Zhs Zy (Jd Za Zy))) Zy) Zy (!1)) Zy))<|
      Zx (Y9 (Jp (Z5n Za (Zo Zy Zy Ydw) (YS q))) (Zx (Z7 Za) (Z7 (Zet Za Za hb))))<|
      (Zoh (vs:=vs) (Wb Za Za b0) rfl (!0))),_,_,_,_,_,rfl,by rw[Xv,hl];rfl⟩
    .exact⟨_,_,rfl,.inl (Zx (a1 z2)<|Zx (Z7 (Wb (Zhs Za Za (!0)) Zy (!1)))<|Zx (Z7 (Zet (Wb (Znc (Jd Za (Zhs Zy (Jd Za Zy))) Zy) Zy (!1)) Zy))<|
      Zx (Z6 (Jp (Z5n Za (Zo Zy Zy Ydw) (YT q))) rfl)<|
      (Zoh (vs:=vs) (Wb Za Za b0) rfl (!0))),_,_,_,_,_,rfl,by rw[Xv,hl];rfl⟩)
   λδ' q92=>by
    obtain⟨vs,c,x,z1,z2,e,hl⟩:=q92;subst e;rw[Wf]at hl;exact Yjf rfl ⟨vs,Zws vs,hl⟩
 obtain⟨d,h,vs,rfl,hl⟩:=key;exact⟨vs,h,hl⟩
def Z07{e:FE}{d:Xa}(h:EvV e δ d)(hf:Jf d=YD):EvV (Zu2 e) δ d:=by
 obtain⟨t,e1,d1⟩:=h;exact⟨_,by rw[Zxp,e1,Xh,d1,YM hf],OT.data_fz _⟩
def Z73{n:Nat}{e j:FE}{d:Xa}{k:Int}(h:EvV e δ d)(hi:δ[i]? =YB (YB (.nd ts)))(hj:EvV j δ (.int k))(hx:ixN ts.length k=YB n):Z49 i e j δ= .nx (δ.set i (YB (.nd (ts.set n (.fz d))))):=by
 obtain⟨t,e1,e2⟩:=h;obtain⟨u,e3,e4⟩:=hj;rw[Z08,e1,Yd,hi,Zuf,e3,Yd,e4,e2];show onX (ixN ts.length k) _=_;rw[hx];rfl
theorem Zg6(f:Y->β):∀(l:List Y) (j:Nat),(l.map f).eraseIdx j=(l.eraseIdx j).map f
 | [],_=>rfl
 | _::_,0=>rfl
 | a::l,j+1=>YW (f a::·) (Zg6 f l j)
def Z98{a:FE}{l:List Nat}(hi:δ[i]? =YB (YB (lsO l)))(ha:EvV a δ (dI j))(hj:j<l.length)(hl:l.length<=1000) :
  Z45 i a δ=YB (.fz (dI (l.getD j 0)),δ.set i (YB (lsO (l.eraseIdx j)))):=by
 have e1:((l.map dI).map OT.fz)[j]? =zf (dI (l.getD j 0)):=by
  rw[Xi,Xi,Xm,Xj hj];rfl
 unfold lsO at hi|-
 unfold Z45;rw[hi];dsimp only;rw[Zut (i:=(j:Int)) ha,Xh];dsimp only;rw[hi];dsimp only;rw[OT.data_fz];dsimp only;rw[Zrc (by rw[Xd,Xd];exact hj)];dsimp only;rw[e1];dsimp only;rw[YM (by rw[Xd,Xd,X8];omega),Zg6,Zg6]
def rsO(rs:List (Nat×Nat)):OT:=.nd ((rs.map ptD).map OT.fz)
def Zoi(rs:List (Nat×Nat)):(rsO rs).data= .list (rs.map ptD):=by unfold rsO;rw[OT.data_nd,OT.map_fz]
def siO(ss:List Int):OT:=.nd ((ss.map Xu).map OT.fz)
def Zwq(ss:List Int):(siO ss).data= .list (ss.map Xu):=by unfold siO;rw[OT.data_nd,OT.map_fz]
def eV(c:Int)(vs:List Int)(n:Nat)(o4 o5 o6 o7 o8 o9 oa:Option OT):Ze:=[zf (.int c),zf (.int 10),zf (Zn vs),zf (dI n),o4,o5,o6,o7,o8,o9,oa]
def Zxz{vs:List Int}(h2:δ[2]? =YB (zf (Zn vs)))(h6:δ[6]? =YB (zf (dI j)))(hm:m+j<vs.length):EvV (Z4 gIx Jh (Zd Za0 (fI m) Zb5)) δ (.int (vs.getD (m+j) 0)) :=
 (Ww (p:=vs) (i:=(m:Int)+(j:Int)) (Za h2) (Jd Zy (Za h6)) (!0) (!0)).cast (by rw[show((m:Int)+(j:Int)).toNat=m+j by omega])
def Yjy{c:Int}{vs:List Int}{n:Nat}{l N:List Nat}{o7 o8 o9 oa:Option OT}(hl:vs.length=34)(hi:i<n)(n10:n<=10)(ll:l.length+i=n)(lN:N.length=i)(bl:∀x∈l,x<n) :
  ∃x l',x<n/\(∀x∈l',x<n)/\l'.length+1=l.length/\Yh 5 (Z45 4 (Zd Js (Z4 gIx Jh (Zd Za0 Zfo Zb5)) Yci)) (eV c vs n (YB (lsO l)) (YB (lsO N)) (zf (dI i)) o7 o8 o9 oa)= .nx (eV c vs n (YB (lsO l')) (YB (lsO (N++[x]))) (zf (dI i)) o7 o8 o9 oa):=by
 obtain⟨j,hj,lj⟩:=Jo (vs.getD (1+i) 0) (n:=l.length) (!0);have p:=Z98 (a:=Zd Js (Z4 gIx Jh (Zd Za0 Zfo Zb5)) Yci) (δ:=eV c vs n (YB (lsO l)) (YB (lsO N)) (zf (dI i)) o7 o8 o9 oa) (i:=4) rfl ((Wb (Zxz (m:=1) rfl rfl (!0)) ((Zhr (Zc7 rfl (Zee l))).cast (by rw[Xd])) (!0)).cast (YW Xu hj)) lj (!0);refine⟨l.getD j 0,l.eraseIdx j,?_,λx h=>bl x (List.mem_of_mem_eraseIdx h),?_,(Z39 (ts0:=(N.map dI).map OT.fz) (ts:=(N.map dI).map OT.fz) p rfl rfl (by rw[Xd,Xd];omega)).trans ?_⟩
 .rw[Xm,Xj lj];exact bl _ (Bl _)
 .rw[List.length_eraseIdx_of_lt lj];omega
 .rw[OT.data_fz,Zd8];rfl
def Bd(n:Nat)(rs:List (Nat×Nat)):Prop:=∀r∈rs,r.1<n/\r.2<n
theorem Bd.add{n:Nat}{rs:List (Nat×Nat)}(P:Bd n rs){a b:Nat}(ha:a<n)(hb:b<n):Bd n (rs++[(a,b)]):=λr hr=>by
 rcases Qp.mp hr with q|q
 .exact P r q
 .rw[Xp.mp q];exact⟨ha,hb⟩
def Zv4(r:Nat×Nat):Jf (ptD r)=YD:=by unfold ptD;rw[Jf,Zfl,Zfl,Zfl,Jf,Jf];rfl
def Z10{k:Nat}{l:List Nat}{e:FE}(h:δ[j]? =YB (YB (lsO l)))(he:EvV e δ (dI k))(hk:k<l.length):EvV (Z4 gIx (Zd5 j) e) δ (dI (l.getD k 0)):=Zfj (Zc7 h (Zee l)) he (Zdj (by rw[Xi,Xm,Xj hk];rfl))
def Zn0(rs:List (Nat×Nat))(r:Nat×Nat):rsO (rs++[r])= .nd ((rs.map ptD).map OT.fz++[OT.fz (ptD r)]):=by
 unfold rsO;rw[Qx,Qx];rfl
def Z2h{x:Nat}{ss:List Int}{e:FE}(h:δ[j]? =YB (YB (siO ss)))(he:EvV e δ (dI x))(hx:x<ss.length):EvV (Z4 gIx (Zd5 j) e) δ (.int (ss.getD x 0)):=Zfj (ds:=ss.map Xu) (Zc7 h (Zwq ss)) he (Zdj (by rw[Xi,Xm,Xj hx];rfl))
def Yec{c:Int}{vs:List Int}{n k:Nat}{N:List Nat}{rs:List (Nat×Nat)}{ss:List Int}{o4 o9 oa:Option OT}(hl:vs.length=34)(hk:k<n)(k1:1<=k)(n10:n<=10)(lN:N.length=n)(hN:∀x∈N,x<n)(ls:ss.length=n)(lr:rs.length<=100)(P:Bd n rs) :
  ∃r ss',Bd n (rs++[r])/\ss'.length=n/\(Zt (Yh 7 (Zu2 (Zbv (Zf (Z4 gIx (Zd5 5) (Zd Js (Z4 gIx Jh (Zd Za0 (fI 11) Zb5)) Zb5)) (Zf Ycc Z5)))))
   (Z49 8 (Zd gSb Zfo (Z4 gIx (Zd5 8) (Z4 gIx (Z4 gIx (Zd5 7) (fUn Zq7 Zfo)) Zk8))) Ycc)) (eV c vs n o4 (YB (lsO N)) (zf (dI k)) (YB (rsO rs)) (YB (siO ss)) o9 oa)= .nx (eV c vs n o4 (YB (lsO N)) (zf (dI k)) (YB (rsO (rs++[r]))) (YB (siO ss')) o9 oa):=by
 obtain⟨i,hi,li⟩:=Jo (vs.getD (11+k) 0) (n:=k) k1;have g:∀i<n,N.getD i 0<n:=λi h=>by
  rw[Xm,Xj (!0)];exact hN _ (Bl _)
 have gk:=g k hk;have gi:=g i (!0);obtain⟨r,hr⟩:∃r,r=(N.getD i 0,N.getD k 0):=⟨_,rfl⟩;refine⟨r,ss.set (N.getD k 0) (1-ss.getD (N.getD i 0) 0),hr▸P.add gi gk,by rw[Vf];exact ls,Zx (δ':=eV c vs n o4 (YB (lsO N)) (zf (dI k)) (YB (rsO (rs++[r]))) (YB (siO ss)) o9 oa) ?_ ?_⟩
 .refine(Zek (ts:=(rs.map ptD).map OT.fz) (d:=ptD r) (Z07 (hr▸Zbb (Zb (Z10 rfl ((Wb (Zxz (m:=11) rfl rfl (!0)) (Za rfl) (!0)).cast (YW Xu hi)) (!0)) (Zb (Z10 rfl (Za rfl) (!0)) Zh)) (show 2<=1000 by decide)) (Zv4 _)) rfl (by rw[Xd,Xd];omega)).trans ?_
  rw[Zn0];rfl
 .refine(Z73 (n:=N.getD k 0) (ts:=(ss.map Xu).map OT.fz) (Zfk Zy (Z2h (x:=N.getD i 0) rfl (Zfu (Zfj (ds:=(rs++[r]).map ptD) (i:=-1) (d:=ptD r) (Zc7 rfl (Zoi _)) (Zo8 Zy) (by rw[Qx];exact Zwg _ _)) Zy (hr▸rfl)) (!0))) rfl (Z10 (k:=k) rfl (Za rfl) (!0)) (Zrc (by rw[Xd,Xd];omega))).trans ?_
  unfold siO;rw[<-List.map_set,<-List.map_set];rfl
abbrev Yco:=Z4 gIx Jh (Zd Za0 (fI 22) Zb5)
abbrev Yg9:=wE (Zd Js (Zd Zaz Yco (fI 10)) Zar) (Y8 9)
def Yf3{c:Int}{vs:List Int}{n k:Nat}{rs:List (Nat×Nat)}{ss:List Int}{o4 o5 o9 oa:Option OT}(hl:vs.length=34)(hk:k<12)(n1:1<=n)(ls:ss.length=n)(lr:rs.length<=100)(P:Bd n rs) :
  ∃rs' z9 za,Bd n rs'/\rs'.length<=rs.length+1/\(Zt Yg9
  (Zt (wE (Zd Js Yco Zar) (Y8 10))
  (Ws (tAn (tV (Zd gNe (Z0 9) (Z0 10))) (tO (tV (Zd gEq (Zd Js (Zd Zaz (Z4 gIx Jh (fI 21)) (fI 13)) (fI 3)) Zk8)) Ygq))
  Ygp
  fNx))) (eV c vs n o4 o5 (zf (dI k)) (YB (rsO rs)) (YB (siO ss)) o9 oa)= .nx (eV c vs n o4 o5 (zf (dI k)) (YB (rsO rs')) (YB (siO ss)) z9 za):=by
 obtain⟨a,ha,la⟩:=Jo ((vs.getD (22+k) 0).fdiv 10) (n:=n) n1;obtain⟨b,hb,lb⟩:=Jo (vs.getD (22+k) 0) (n:=n) n1;have n0:(n:Int)≠0:=by omega
 obtain⟨δ2,h2⟩:∃δ2,δ2=eV c vs n o4 o5 (zf (dI k)) (YB (rsO rs)) (YB (siO ss)) (zf (dI a)) (zf (dI b)):=⟨_,rfl⟩;have s1:∀{R:RS} {S:FS},S δ2=R->(Zt Yg9 (Zt (wE (Zd Js Yco Zar) (Y8 10)) S)) (eV c vs n o4 o5 (zf (dI k)) (YB (rsO rs)) (YB (siO ss)) o9 oa)=R:=λh=>
  Zx (δ':=eV c vs n o4 o5 (zf (dI k)) (YB (rsO rs)) (YB (siO ss)) (zf (dI a)) oa) ((Z7 (d:=dI a) ((Wb (Zet (Zxz (m:=22) rfl rfl (!0)) Zy) (Za rfl) n0).cast (YW Xu ha))).trans rfl) (Zx (δ':=δ2) ((Z7 (d:=dI b) ((Wb (Zxz (m:=22) rfl rfl (!0)) (Za rfl) n0).cast (YW Xu hb))).trans (h2▸rfl)) h)
 have e9:EvV (Z0 9) δ2 (dI a):=Za (h2▸rfl);have ea:EvV (Z0 10) δ2 (dI b):=Za (h2▸rfl);have e8:δ2[8]? =YB (YB (siO ss)):=h2▸rfl;obtain⟨t,T⟩:=Zzq ⟨_,Jp (Z8w e9 ea rfl)⟩ (Yeg ⟨_,Jp (Zde (Wb (Zet (Ww (p:=vs) (i:=21) (Za (i:=2) (δ:=δ2) (h2▸rfl)) Zy (!1) (!0)) (Zy (d:=.int 13))) (Zy (d:=.int 3)) (!1)) (Zy (d:=.int 0)) rfl)⟩ ⟨_,Jp (Z8w (Z2h e8 e9 (!0)) (Z2h e8 ea (!0)) rfl)⟩);cases t
 .exact⟨rs,zf (dI a),zf (dI b),P,Nat.le_succ _,s1 (Z6 T (by rw[h2];rfl))⟩
 .refine⟨rs++[(a,b)],zf (dI a),zf (dI b),P.add la lb,by rw[Xv];exact XD _,s1 (Y9 T ((Zek (ts:=(rs.map ptD).map OT.fz) (d:=ptD (a,b)) (Zbb (Zb e9 (Zb ea Zh)) (show 2<=1000 by decide)) (h2▸rfl) (by rw[Xd,Xd];omega)).trans ?_))⟩
  rw[Zn0,h2];rfl
def mm(r:Nat×Nat):Int×Int:=(((min r.1 r.2:Nat):Int),((max r.1 r.2:Nat):Int))
def Z1f{n:Nat}(n10:n<=10){r:Nat×Nat}(h:r.1<n/\r.2<n):Z5e (mm r)=YD:=by
 unfold Z5e mm;rw[YS (Int.natCast_nonneg _),YS (Int.natCast_nonneg _),YS (show((min r.1 r.2:Nat):Int)<10 by omega),YS (show((max r.1 r.2:Nat):Int)<10 by omega)];rfl
def Z0d(a:Nat):Jf (dI a)=YD:=by unfold dI;rw[Jf]
def Z42{n:Nat}{d:Xa}(h:δ[j]? =YB (zf (dI n)))(hn:n<=1000000):Z95 (fC d) (Z0 j) δ=YB (.nd (Qm n (.fz d)),δ):=by
 obtain⟨_,e1,d1⟩:=Za (δ:=δ) (i:=j) (d:=dI n) h;rw[Z09,Z70,Xh,e1,Xh,d1];show asInt (.int (n:Int)) _=_;rw[Zs9,YM ⟨Zog (!0) (!0),by rw[X8];omega⟩,Bx,OT.data_fz]
def Zwr{as:FA}{ps:List (Int×Int)}(h:EvA as δ [.list (ps.map pD)])(hl:ps.length<64)(hi:∀p∈ps,Z5e p=YD):EvV (Zd2 as) δ (.list ((ssP ps).map pD)):=by
 obtain⟨ts,e1,d1⟩:=h;refine⟨.nd (((ssP ps).map pD).map OT.fz),?_,by rw[OT.data_nd,OT.map_fz]⟩;unfold Zd2;rw[e1,Xh,d1];show(Zgd (ps.map pD)).bind _=_;rw[Zq4,Xh,YM (by rw[YS hl,BX.mpr hi];rfl)]
def Yen(r:Nat×Nat):Z2e [dI r.1,dI r.2]=YB (.int ((min r.1 r.2:Nat):Int)):=by
 show YB (Xu (if(r.2:Int)<(r.1:Int)then(r.2:Int)else(r.1:Int)))=_;rcases JS r.2 r.1 with q|q
 .rw[YM (Uq.mpr q),Nat.min_eq_right (Vy q)]
 .rw[YQ (λz=>Nat.not_lt.mpr q (Uq.mp z)),Nat.min_eq_left q]
def Ydi(r:Nat×Nat):Z2a [dI r.1,dI r.2]=YB (.int ((max r.1 r.2:Nat):Int)):=by
 show YB (Xu (if(r.2:Int)>(r.1:Int)then(r.2:Int)else(r.1:Int)))=_;rcases JS r.1 r.2 with q|q
 .rw[YM (Uq.mpr q),Nat.max_eq_right (Vy q)]
 .rw[YQ (λz=>Nat.not_lt.mpr q (Uq.mp z)),Nat.max_eq_left q]
def Z1h{c:Int}{vs:List Int}{n:Nat}{rs:List (Nat×Nat)}{o4 o5 o6 o8 o9 oa:Option OT}(hl:rs.length<=100):EvV Yg5 (eV c vs n o4 o5 o6 (YB (rsO rs)) o8 o9 oa) (.list ((rs.map mm).map pD)):=by
 have g:∀r:Nat×Nat,∃o:OT,Zbv Ygz [zf (dI r.1),zf (dI r.2)]=YB (o,[zf (dI r.1),zf (dI r.2)])/\o.data=pD (mm r):=λr=>
  Zbb (ds:=[.int ((min r.1 r.2:Nat):Int),.int ((max r.1 r.2:Nat):Int)]) (Zb (Zhg (Zb (Za rfl) (Zb (Za rfl) Zh)) (Yen r)) (Zb (Zhg (Zb (Za rfl) (Zb (Za rfl) Zh)) (Ydi r)) Zh)) (show 2<=1000 by decide)
 obtain⟨o,ho⟩:=Vz g;refine⟨_,Zzh (cs:=[]) rs (λr=>dI r.1) (λr=>dI r.2) (λ_=>YD) o (Jr (Zc7 rfl (Zoi rs))) (!0) rfl (λr _ z0 z1=>?_) (λr _=>rfl) λr _ _=>(ho r).1,?_⟩
 .rw[Z6g,YM (show[dI r.1,dI r.2].length=2 from rfl),Zz5,Ztz,YM (Z0d _),Xh,Zz5,Ztz,YM (Z0d _)];rfl
 .rw[OT.data_nd,Qq,Qq,List.filter_eq_self.mpr λ_ _=>rfl]
  exact YW _ (Qk λr _=>(ho r).2)
def Z66(c:Int):∃(n:Nat) (rs:List (Int×Int)),Told Jm [.int c,.int 10] (.tuple [dI n,.list (rs.map pD)])/\1<=n/\n<=10/\rs.length<23:=by
 obtain⟨vs,T,hl⟩:=Zop c 34 100 (!1) (!1);obtain⟨t,ht,t10⟩:=Jo (vs.getD 0 0) (n:=10) (!1);have ht:(vs.getD 0 0).fmod 10=t:=ht;obtain⟨n,hn⟩:∃n,n=1+t:=⟨_,rfl⟩;have n1:1<=n:=by omega
 have n10:n<=10:=by omega
 have nb:n<=1000000:=by omega
 have key:∃d,Told Jm [.int c,.int 10] d/\∃rs:List (Int×Int),d= .tuple [dI n,.list (rs.map pD)]/\rs.length<23:=by
  refine Zli rfl<|Wn (Z7 (Ye (Zb (Za rfl) (Zb Zy (Zb Zy Zh))) T))<|Wn (Z7 (d:=dI n) ((Jd Zy (Wb (Ww (p:=vs) (i:=0) (Za rfl) Zy (!1) (by rw[hl];decide)) (Za rfl) (!1))).cast ?_))<|
   Wn (δ':=eV c vs n (YB (lsO (XC n))) YC YC YC YC YC YC) ((Zey (o:=lsO (XC n)) ?_).trans rfl)<|Wn (δ':=eV c vs n (YB (lsO (XC n))) (YB (lsO [])) YC YC YC YC YC) Zby<|
   Zim (ds:=Zdk 0 n) (λi δ=>∃l N o6,δ=eV c vs n (YB (lsO l)) (YB (lsO N)) o6 YC YC YC YC/\(∀x∈l,x<n)/\(∀x∈N,x<n)/\l.length+i=n/\N.length=i) (Zcx (Zb (Za rfl) Zh) nb) ⟨_,_,_,rfl,λ_ h=>Qj.mp h,(λ_ h=>nomatch h),X6,rfl⟩ (λi d δ hd h=>?_) λδ' h=>?_
  .show Xu (1+(vs.getD 0 0).fmod 10)=Xu (n:Int)
   rw[ht,hn];rfl
  .refine(Zf8 (cs:=[]) (XC n) dI (λx=>.fz (dI x)) (by rw[<-Zvu];exact Zcx (Zb (Za rfl) Zh) nb) (by rw[X8,X6];omega) rfl λx _=>rfl).trans ?_
   unfold lsO;rw[Qq];rfl
  .obtain⟨l,N,o6,rfl,bl,bN,ll,lN⟩:=h
   obtain⟨hi,e⟩:=Zap hd;rw[Int.zero_add]at e;subst e;obtain⟨x,l',hx,b',l1,run⟩:=Yjy (c:=c) (o7:=YC) (o8:=YC) (o9:=YC) (oa:=YC) hl hi n10 ll lN bl;refine⟨_,_,rfl,.inl run,l',N++[x],_,rfl,b',λy hy=>?_,by omega,by rw[Xv,lN];rfl⟩;rcases Qp.mp hy with q|q
   .exact bN y q
   .rw[Xp.mp q];exact hx
  obtain⟨l,N,o6,rfl,_,hN,_,lN⟩:=h;rw[Wf]at lN;refine Wn (δ':=eV c vs n (YB (lsO l)) (YB (lsO N)) o6 (YB (rsO [])) YC YC YC) Zby<|Wn (δ':=eV c vs n (YB (lsO l)) (YB (lsO N)) o6 (YB (rsO [])) (YB (siO (Qm n 0))) YC YC) ((Zey (Z42 rfl nb)).trans ?_)<|
   Zim (ds:=Zdk 1 (n-1)) (λi δ=>∃o6 rs ss,δ=eV c vs n (YB (lsO l)) (YB (lsO N)) o6 (YB (rsO rs)) (YB (siO ss)) YC YC/\ss.length=n/\rs.length=i/\Bd n rs) (Z21 (m:=1) (n:=n) (Zb Zy (Zb (Za rfl) Zh)) (!1) nb) ⟨o6,[],Qm n 0,rfl,V4,rfl,λ_ h=>nomatch h⟩ (λi d δ hd h=>?_) λδ' h=>?_
  .unfold siO
   rw[List.map_replicate,List.map_replicate];rfl
  .obtain⟨o6,rs,ss,rfl,ls,lr,P⟩:=h
   obtain⟨hi,e⟩:=Zap hd;have e:d=dI (1+i):=e;subst e;obtain⟨r,ss',P',ls',run⟩:=Yec (c:=c) (o4:=YB (lsO l)) (o9:=YC) (oa:=YC) (k:=1+i) hl (!0) (!0) n10 lN hN ls (by omega:rs.length<=100) P;exact⟨_,_,rfl,.inl run,_,_,ss',rfl,ls',by rw[Xv,lr];rfl,P'⟩
  obtain⟨o6,rs,ss,rfl,ls,lr,P⟩:=h;rw[Wf]at lr;obtain⟨u,hu,lu⟩:=Jo (vs.getD 21 0) (n:=13) (!1);refine Zim (ds:=Zdk 0 u) (λi δ=>∃o6 rs o9 oa,δ=eV c vs n (YB (lsO l)) (YB (lsO N)) o6 (YB (rsO rs)) (YB (siO ss)) o9 oa/\Bd n rs/\rs.length<=9+i) (Zcx (n:=u) (Zb ((Wb (Ww (p:=vs) (i:=21) (Za rfl) Zy (!1) (!0)) Zy (!1)).cast (YW Xu hu)) Zh) (!0)) ⟨o6,rs,YC,YC,rfl,P,by omega⟩ (λi d δ hd h=>?_) λδ' h=>?_
  .obtain⟨o6,rs,o9,oa,rfl,P,lr⟩:=h
   obtain⟨hi,e⟩:=Zap hd;rw[Int.zero_add]at e;subst e;obtain⟨rs',_,_,P',l',run⟩:=Yf3 (c:=c) (o4:=YB (lsO l)) (o5:=YB (lsO N)) (o9:=o9) (oa:=oa) (k:=i) hl (!0) n1 ls (!0) P;exact⟨_,_,rfl,.inl run,_,rs',_,_,rfl,P',by omega⟩
  .obtain⟨o6,rs,o9,oa,rfl,P,lr⟩:=h
   rw[Wf]at lr;have:=Zva (rs.map mm);rw[Xd]at this;refine Zeh (Zbb (Zb (Za rfl) (Zb (Zwr (Zb (Z1h (!0)) Zh) (by rw[Xd];omega) λp hp=>?_) Zh)) (show 2<=1000 by decide)) ⟨ssP (rs.map mm),rfl,by omega⟩;obtain⟨r,hr,rfl⟩:=XF.mp hp;exact Z1f n10 (P r hr)
 obtain⟨d,T2,rs,rfl,h⟩:=key;exact⟨n,rs,T2,n1,n10,h⟩
def toN(p:Int×Int):Nat×Nat:=(p.1.toNat,p.2.toNat)
def rZ(p:Int×Int):List Int:=[p.1,p.2]
def Zom{p q:Int×Int}(h:pD p=pD q):p=q:=by
 injection h with h;injection h with h1 h2;injection h2 with h2 _;exact Prod.ext (PyData.int.inj h1) (PyData.int.inj h2)
structure RdZ(n:Int)(rs:List (Int×Int)):Prop where
 n1:1<=n
 n10:n<=10
 ok:∀r∈rs,0<=r.1/\r.1<r.2/\r.2<n
 ris:∀(i:Nat) (r r':Int×Int),rs[i]? =YB r->rs[i+1]? =YB r'->ltI (rZ r) (rZ r')=YD
def Z9n(ds:List Xa):cutD ds (YB 1) YC=ds.drop 1:=by
 unfold cutD;have e:HT.sIx ds.length 0 (YB 1)=min 1 ds.length:=HT.sIx_nat _ _ 1;rw[e,HT.sIx_none];cases ds with
 | nil=>rfl
 | cons d ds=>
  rw[Qd,Nat.min_eq_left (!0),List.drop_succ_cons,List.drop_zero];exact List.take_of_length_le (!0)
def Zi4{g:FG}{u:FS}{I:Ze->Prop}{P:Xa->Prop}{B:RS->Prop}(hB:∀r,B r->(∃c δ,r= .ex c δ)\/∃o δ,r= .rt o δ):∀(ds:List Xa) (δ:Ze),I δ->(∀d∈ds,∀δ,I δ->∃δ1,g d δ=YB δ1/\((P d/\∃δ2,u δ1= .nx δ2/\I δ2)\/(¬P d/\B (u δ1)))) ->
  ((∀ d∈ds,P d)/\∃δ',forLoop g u ds δ= .nx δ'/\I δ')\/((¬∀d∈ds,P d)/\B (forLoop g u ds δ)):=by
 intro ds
 induction ds with
 | nil=>exact λδ h _=>.inl ⟨λd hd=>(nomatch hd),δ,rfl,h⟩
 | cons d ds ih=>
  intro δ h t;obtain⟨δ1,hg,h1|h1⟩:=t d (.head _) δ h
  .obtain⟨p,δ2,hu,h2⟩:=h1
   have e:forLoop g u (d::ds) δ=forLoop g u ds δ2:=by
    rw[forLoop,hg];dsimp only;rw[hu]
   rw[e];exact(ih δ2 h2 (λd hd=>t d (.tail _ hd))).imp (λq=>⟨λx hx=>(Xn.mp hx).elim (λz=>z▸p) (q.1 x),q.2⟩) λq=>⟨λz=>q.1 λx hx=>z x (.tail _ hx),q.2⟩
  .obtain⟨p,b⟩:=h1
   have e:forLoop g u (d::ds) δ=u δ1:=by
    rw[forLoop,hg];dsimp only;rcases hB _ b with⟨c,δ2,e⟩|⟨o,δ2,e⟩<;>rw[e]
   rw[e];exact .inr ⟨λz=>p (z d (.head _)),b⟩
def RtF(r:RS):Prop:=∃o δ,r= .rt o δ/\o.data= .bool YF
theorem RtF.ok(r:RS)(h:RtF r):(∃c δ,r= .ex c δ)\/∃o δ,r= .rt o δ:=by
 obtain⟨o,δ,e,_⟩:=h;exact .inr ⟨o,δ,e⟩
def Zgg(n:Int):Told Yp [.int n] (.bool (decide (1<=n/\n<=10))):=by
 refine Yk rfl (Za5 ((Zk9 Zy (Za rfl) Zy).cast (YW Uv ?_)));show(decide ((1:Int)<=n)&&decide ((n:Int)<=10))=_;rw[<-Bool.decide_and]
def Ris(rs:List (Int×Int)):Prop:=∀(i:Nat) (r r':Int×Int),rs[i]? =YB r->rs[i+1]? =YB r'->ltI (rZ r) (rZ r')=YD
def Zpx(rs:List (Int×Int)):∃b,Told Jw [.list (rs.map pD)] (.bool b)/\(b=YD↔Ris rs):=by
 have hi:EvI (Zq1 (Zf Wj (Zf (fSl Wj (oI Zfo) oN) Z5))) [zf (.list (rs.map pD)),YC,YC] (Zme (rs.map pD) ((rs.map pD).drop 1)):=Z4k (Za rfl) ((Zyf (Za rfl) (Yav Zy) Yei).cast (by rw[Z9n])) rfl;have at':∀{i:Nat} {d:Xa},(Zme (rs.map pD) ((rs.map pD).drop 1))[i]? =YB d->∃r r',rs[i]? =YB r/\rs[i+1]? =YB r'/\d= .tuple [pD r,pD r']:=λhd=>by
  obtain⟨x,y,hx,hy,rfl⟩:=Zot hd;rw[Xi]at hx;rw[Uz,Xi]at hy;obtain⟨r,hr,rfl⟩:=Qe.mp hx;obtain⟨r',hr',rfl⟩:=Qe.mp hy;exact⟨r,r',hr,by rw[Nat.add_comm];exact hr',rfl⟩
 have inj:∀{r r' q q':Int×Int},PyData.tuple [pD r,pD r']= .tuple [pD q,pD q']->r=q/\r'=q':=λh=>by
  injection h with h;injection h with h1 h2;injection h2 with h2 _;exact⟨Zom h1,Zom h2⟩
 rcases Zi4 RtF.ok (g:=gTp 2 (gCn (gNm 1) (gCn (gNm 2) gNl))) (u:=Ws (tNo (tV (Zd Z5c J2 Jh))) Zzm fNx) (I:=λδ=>∃z1 z2,δ=[zf (.list (rs.map pD)),z1,z2]) (P:=λd=>∀r r',d= .tuple [pD r,pD r']->ltI (rZ r) (rZ r')=YD) (Zme (rs.map pD) ((rs.map pD).drop 1)) [zf (.list (rs.map pD)),YC,YC] ⟨_,_,rfl⟩ (λd hd δ h=>by
  obtain⟨z1,z2,rfl⟩:=h;obtain⟨i,hi,e⟩:=VM hd;obtain⟨r,r',h1,h2,rfl⟩:=at' (i:=i) (by rw[Xj hi,e]);have ev:∀{b:Bool},ltI (rZ r) (rZ r')=b->EvV (Zd Z5c J2 Jh) [zf (.list (rs.map pD)),zf (pD r),zf (pD r')] (.bool b):=λh=>h▸Zo (Za rfl) (Za rfl) rfl;cases c:ltI (rZ r) (rZ r')with
  | true=>exact⟨_,rfl,.inl ⟨λq q' h=>by obtain⟨rfl,rfl⟩:=inj h;exact c,_,Z6 (Zej (p:=YD) (Jp (ev c))) rfl,_,_,rfl⟩⟩
  | false=>
   obtain⟨o,e1,e2⟩:=Zrj (e:=fC (.bool YF)) (δ:=[zf (.list (rs.map pD)),zf (pD r),zf (pD r')]) Zy;exact⟨_,rfl,.inr ⟨λz=>Xx (c.symm.trans (z r r' rfl)),o,_,Y9 (Zej (p:=YF) (Jp (ev c))) e1,e2⟩⟩)with⟨q,δ',e,z1,z2,rfl⟩|⟨q,o,δ',e,ho⟩
 .refine⟨YD,Yk rfl (Z2 (Zal hi e) (Za5 Zy)),⟨λ_ i r r' h1 h2=>?_,λ_=>rfl⟩⟩
  refine q (.tuple [pD r,pD r']) (Qg (i:=i) ?_) r r' rfl;unfold Zme;rw[Xi,(Uo (z:=(pD r,pD r'))).mpr ⟨by rw[Xi,h1];rfl,by rw[Uz,Xi,Nat.add_comm,h2];rfl⟩];rfl
 .refine⟨YF,Yk rfl (Zbg ⟨o,δ',Zal hi e,ho⟩),⟨(λz=>nomatch z),λh=>YZ (λd hd=>?_) q⟩⟩
  obtain⟨i,hi,e⟩:=VM hd;obtain⟨r,r',h1,h2,rfl⟩:=at' (i:=i) (by rw[Xj hi,e]);intro x x' hx;obtain⟨rfl,rfl⟩:=inj hx;exact h i _ _ h1 h2
def Zjy{n a b:Int}{k:Nat}{t:Bool}(hi:δ[i]? =YB (zf (.int a)))(hj:δ[j]? =YB (zf (.int b)))(hk:δ[k]? =YB (zf (.int n)))(h:decide (0<=a/\a<b/\b<n)=t):EvT (tV (Zcg (λi j=>decide (i<=j)) (λi j=>decide (i<j)) (λi j=>decide (i<j)) Zk8 (Z0 i) (Z0 j) (Z0 k))) δ t:=by
 refine Jp ((Zum Zy (Za hi) (Za hj) (Za hk)).cast (YW Uv ?_));rw[<-h,Bool.decide_and,Bool.decide_and]
def Zfp{n:Int}{rs:List (Int×Int)}:(RdZ n rs/\Told Yc [.int n,.list (rs.map pD)] .none)\/¬RdZ n rs/\Yc [.int n,.list (rs.map pD)]= .exn "NoWeb" :=by
 by_cases c1:1<=n/\n<=10
 .have s1:Ws (tNo (tD (Yo Yp Zvs))) Z5f fNx [zf (.int n),zf (.list (rs.map pD)),YC,YC]= .nx [zf (.int n),zf (.list (rs.map pD)),YC,YC]:=Z6 (Zej (p:=YD) (Zla (Ye (Zb (Za rfl) Zh) (by have:=Zgg n;rwa[YS c1]at this)))) rfl
  rcases Zi4 (B:=λr=>∃δ,r= .ex "NoWeb" δ) (λr h=>.inl ⟨_,h⟩) (g:=gTp 2 (gCn (gNm 2) (gCn (gNm 3) gNl))) (u:=Ws (tNo (tV (Zcg (λi j=>decide (i<=j)) (λi j=>decide (i<j)) (λi j=>decide (i<j)) Zk8 Jh Zar Wj))) Z5f fNx) (I:=λδ=>∃z1 z2,δ=[zf (.int n),zf (.list (rs.map pD)),z1,z2]) (P:=λd=>∀r,d=pD r->0<=r.1/\r.1<r.2/\r.2<n) (rs.map pD) [zf (.int n),zf (.list (rs.map pD)),YC,YC] ⟨_,_,rfl⟩ (λd hd δ hI=>by
   obtain⟨z1,z2,rfl⟩:=hI;obtain⟨r,hr,rfl⟩:=XF.mp hd
   by_cases c:0<=r.1/\r.1<r.2/\r.2<n
   .exact⟨_,rfl,.inl ⟨λq hq=>by rw[<-Zom hq];exact c,_,Z6 (Zej (p:=YD) (Zjy (a:=r.1) (b:=r.2) (n:=n) rfl rfl rfl (YS c))) rfl,_,_,rfl⟩⟩
   .exact⟨_,rfl,.inr ⟨λz=>c (z r rfl),_,Y9 (Zej (p:=YF) (Zjy (a:=r.1) (b:=r.2) (n:=n) rfl rfl rfl (YT c))) rfl⟩⟩)with⟨q,δ',e,z1,z2,rfl⟩|⟨q,δ',e⟩
  .obtain⟨b,eb,hb⟩:=Zpx rs
   cases b with
   | false=>exact .inr ⟨λh=>(nomatch hb.mpr h.ris),Zbq rfl (Zx s1 (Zx (Zal (Jr (Za rfl)) e) (Y9 (Zej (p:=YF) (Zla (Ye (Zb (Za rfl) Zh) eb))) rfl)))⟩
   | true=>exact .inl ⟨⟨c1.1,c1.2,λr hr=>q (pD r) (XF.mpr ⟨r,hr,rfl⟩) r rfl,hb.mp rfl⟩,Zvf rfl (Zx s1 (Zx (Zal (Jr (Za rfl)) e) (Z6 (Zej (p:=YD) (Zla (Ye (Zb (Za rfl) Zh) eb))) rfl)))⟩
  .exact .inr ⟨λh=>q λd hd r e=>h.ok r (by obtain⟨x,hx,rfl⟩:=XF.mp hd;rw[<-Zom e];exact hx),Zbq rfl (Zx s1 (J6 (Zal (Jr (Za rfl)) e)))⟩
 .exact .inr ⟨λh=>c1 ⟨h.n1,h.n10⟩,Zbq rfl (J6 (Y9 (Zej (p:=YF) (Zla (Ye (Zb (Za rfl) Zh) (by have:=Zgg n;rwa[YT c1]at this)))) rfl))⟩
def Zl4{n:Int}{rs:List (Int×Int)}(h:¬RdZ n rs):Zu [.int n,.list (rs.map pD)]= .exn "NoWeb" :=
 Zbq rfl (J6 (Znp (Zb (Za rfl) (Zb (Za rfl) Zh)) (Zfp.elim (λz=>YZ z.1 h) (·.2))))
def RdZ.roads{n:Int}{rs:List (Int×Int)}(h:RdZ n rs)(hl:rs.length<=1000):n=(n.toNat:Int)/\rs.map pD=(rs.map toN).map ptD/\Roads n.toNat (rs.map toN):=by
 have n1:=h.n1;have n10:=h.n10;have e:∀r∈rs,((r.1.toNat:Int)=r.1)/\((r.2.toNat:Int)=r.2):=λr hr=>by
  have:=h.ok r hr;exact⟨by omega,by omega⟩
 have en:n=(n.toNat:Int):=by omega
 have er:rs.map pD=(rs.map toN).map ptD:=by
  rw[Qq];refine Qk λr hr=>?_;show pD r=ptD (toN r);unfold ptD toN pD;rw[(e r hr).1,(e r hr).2]
 refine⟨en,er,by omega,by omega,λr hr=>?_,?_,by rw[Xd];exact hl⟩
 .obtain⟨q,hq,rfl⟩:=XF.mp hr
  have:=h.ok q hq;show q.1.toNat<q.2.toNat/\q.2.toNat<n.toNat;omega
 .have:=(Zfp.resolve_right λz=>z.1 h).2
  rw[er,en]at this;exact this
structure Z9y(n:Nat)(rs:List (Nat×Nat))(ns:List Nat):Prop where
 nd:ns.Nodup
 z:0∈ns
 lt:∀k∈ns,k<n
 rch:∀k∈ns,Rch (Nb (nbR rs)) 0 k
def Clo(rs:List (Nat×Nat))(ns:List Nat):Prop:=∀r∈rs,r.1∈ns↔r.2∈ns
def eG(ws:Xa)(o0 o2:Option OT)(ns:List Nat)(o6 o3 o4:Option OT):Ze:=[o0,zf ws,o2,o3,o4,YB (lsO ns),o6]
def Ygt:FS:=Ws Yhe Ygn fNx
def Zrq{e:FE}{ns:List Nat}(h:e δ=YB (.nd [.fz (dI m)],δ))(hi:δ[i]? =YB (YB (lsO ns)))(hl:ns.length<=1000):Zge i e δ= .nx (δ.set i (YB (lsO (ns++[m])))):=by
 unfold lsO at hi;unfold Zge;rw[hi];dsimp only;rw[Zdp,h,Yd,hi];dsimp only;rw[YM (by rw[X8,Xd,Xd];show _+1<=_;omega),Zd8];rfl
def Zxe{n:Nat}{rs:List (Nat×Nat)}{ns:List Nat}{a b:Nat}{ws:Xa}{o1 o2 o4:Option OT}(hn:n<=10)(C:Z9y n rs ns)(hr:(a,b)∈rs)(ha:a<n)(hb:b<n) :
  ∃u,Z9y n rs (ns++u)/\(u=[]↔(a∈ns↔b∈ns))/\Ygt (eG ws o1 o2 ns o4 (zf (dI a)) (zf (dI b)))= .nx (eG ws o1 o2 (ns++u) o4 (zf (dI a)) (zf (dI b))):=by
 have ll:=Zcv C.nd C.lt;have e2:EvV (Zd5 5) (eG ws o1 o2 ns o4 (zf (dI a)) (zf (dI b))) (.list (ns.map dI)):=Zc7 rfl (Zee ns);have t:=Jp (Zo (g:=gNe) (Zo (Za (i:=3) rfl) e2 (Z0m YF)) (Zo (Za (i:=4) rfl) e2 (Z0m YF)) (d:=.bool (!decide (decide (a∈ns)=decide (b∈ns)))) (by cases decide (a∈ns)<;>cases decide (b∈ns)<;>rfl));have add:∀{x y:Nat},(x,y)∈rs\/(y,x)∈rs->x∈ns->y∉ns->y<n->Z9y n rs (ns++[y]):=fun{x y} h hx hy hl=>⟨Vw.mpr ⟨C.nd,Qt.mpr ⟨(λz=>nomatch z),.nil⟩,λp hp q hq e=>hy (by rw[<-Xp.mp hq,<-e];exact hp)⟩,Qw _ C.z,λk hk=>(Qp.mp hk).elim (C.lt k) λq=>Xp.mp q▸hl,λk hk=>(Qp.mp hk).elim (C.rch k) λq=>Xp.mp q▸ .step (C.rch x hx) (Zhd.mpr h)⟩;have cmp:Wk 1 [5] (iTp (Zbv Ybm)) Zjj (tV (Zd (Zjw YD) Wj (Zd5 1))) Wj (eG ws o1 o2 ns o4 (zf (dI a)) (zf (dI b)))=YB (.nd (([a,b].filter λx=>!decide (x∈ns)).map λx=>.fz (dI x)),eG ws o1 o2 ns o4 (zf (dI a)) (zf (dI b))) :=
  Zkv (cs:=[YB (lsO ns)]) [a,b] dI (λx=>!decide (x∈ns)) (λx=>.fz (dI x)) rfl (by rw[X8];show 2<=16777216;decide) rfl (λx _=>Jp (Zo (Za rfl) (Zc7 (i:=1) rfl (Zee ns)) (Z0m YD))) λx _ _=>rfl
 by_cases ca:a∈ns
 .by_cases cb:b∈ns
  .rw[YS ca,YS cb]at t
   exact⟨[],by rw[XX];exact C,⟨λ_=>⟨λ_=>cb,λ_=>ca⟩,λ_=>rfl⟩,(Z6 t rfl).trans (by rw[XX];rfl)⟩
  .rw[YS ca,YT cb]at t
   have f:([a,b].filter λx=>!decide (x∈ns))=[b]:=by rw[UV (by simpa using ca),UT (by simpa using cb)];rfl
   rw[f]at cmp;exact⟨[b],add (.inl hr) ca cb hb,⟨(λz=>nomatch z),λz=>YZ (z.mp ca) cb⟩,Y9 t ((Zrq cmp rfl (!0)).trans rfl)⟩
 .by_cases cb:b∈ns
  .rw[YT ca,YS cb]at t
   have f:([a,b].filter λx=>!decide (x∈ns))=[a]:=by rw[UT (by simpa using ca),UV (by simpa using cb)];rfl
   rw[f]at cmp;exact⟨[a],add (.inr hr) cb ca ha,⟨(λz=>nomatch z),λz=>YZ (z.mpr cb) ca⟩,Y9 t ((Zrq cmp rfl (!0)).trans rfl)⟩
  .rw[YT ca,YT cb]at t
   exact⟨[],by rw[XX];exact C,⟨λ_=>⟨λz=>YZ z ca,λz=>YZ z cb⟩,λ_=>rfl⟩,(Z6 t rfl).trans (by rw[XX];rfl)⟩
def Z7d:FS:=Zt (Jx Zvp (gNm 6) (Jx Ztc Zys Ygt)) Yf6
def Z4r{n:Nat}{rs:List (Nat×Nat)}(R:Roads n rs){o2 o3 o4 o6:Option OT}:∃b,Zmf Z7d (eG (.list (rs.map ptD)) (zf (dI n)) o2 [0] o6 o3 o4) (.bool b)/\(b=YD↔Zy9 n rs):=by
 have n10:=R.n10;have key:Zkf Z7d (eG (.list (rs.map ptD)) (zf (dI n)) o2 [0] o6 o3 o4) λd=>∃b,d= .bool b/\(b=YD↔Zy9 n rs):=by
  refine Zim (ds:=Zdk 0 n) (λi δ=>∃ns o6 o3 o4,δ=eG (.list (rs.map ptD)) (zf (dI n)) o2 ns o6 o3 o4/\Z9y n rs ns/\(Clo rs ns\/i+1<=ns.length)) (Zcx (Zb (Za rfl) Zh) (!0)) ⟨[0],_,_,_,rfl,⟨Qt.mpr ⟨(λz=>nomatch z),.nil⟩,.head _,λk hk=>by rw[Xp.mp hk];exact R.n1,λk hk=>by rw[Xp.mp hk];exact .refl⟩,.inr (XD _)⟩ (λi d δ hd h=>?_) λδ' h=>?_
  .obtain⟨ns,o6,o3,o4,rfl,C,hc⟩:=h
   refine Zn3 (ds:=rs.map ptD) (δ1:=eG (.list (rs.map ptD)) (zf (dI n)) o2 ns (zf d) o3 o4) (λi δ=>∃u o3 o4,δ=eG (.list (rs.map ptD)) (zf (dI n)) o2 (ns++u) (zf d) o3 o4/\Z9y n rs (ns++u)/\(u=[]->∀(j:Nat) r,j<i->rs[j]? =YB r->(r.1∈ns↔r.2∈ns))/\(Clo rs ns->u=[])) rfl (Jr (Za rfl)) ⟨[],o3,o4,by rw[XX],by rw[XX];exact C,λ_ j r z=>YZ z (JL _),λ_=>rfl⟩ (λj d2 δ hd2 h=>?_) λδ' h=>?_
   .obtain⟨u,o3,o4,rfl,C',h1,h2⟩:=h
    rw[Xi]at hd2;obtain⟨⟨a,b⟩,hr,rfl⟩:=Qe.mp hd2;have hm:=Qg hr;obtain⟨l1,l2⟩:=R.ok _ hm;have l1:a<b:=l1;have l2:b<n:=l2;obtain⟨v,C2,hv,run⟩:=Zxe (ws:=.list (rs.map ptD)) (o1:=zf (dI n)) (o2:=o2) (o4:=zf d) R.n10 C' hm (Vd l1 l2) l2;refine⟨_,_,rfl,.inl run,u++v,_,_,by rw[<-QF],by rw[<-QF];exact C2,λe k r hk hkr=>?_,λhcl=>?_⟩
    .obtain⟨e1,e2⟩:=List.append_eq_nil_iff.mp e
     rcases Nat.lt_succ_iff_lt_or_eq.mp hk with hk|rfl
     .exact h1 e1 k r hk hkr
     .rw[hr]at hkr
      cases hkr;have:=hv.mp e2;rw[e1,XX]at this;exact this
    .have e1:=h2 hcl
     have e2:v=[]:=hv.mpr (by rw[e1,XX];exact hcl _ hm);rw[e1,e2];rfl
   .obtain⟨u,o3,o4,rfl,C',h1,h2⟩:=h
    rw[Xd]at h1;refine⟨ns++u,_,_,_,rfl,C',?_⟩
    by_cases e:u=[]
    .rw[e,XX]
     refine .inl λr hr=>?_;obtain⟨j,hj,ej⟩:=VM hr;exact h1 e j r hj (by rw[Xj hj,ej])
    .rcases hc with hc|hc
     .exact YZ (h2 hc) e
     .have:=List.length_pos_iff.mpr e
      exact .inr (by rw[Xv];exact Nat.add_le_add hc this)
  .obtain⟨ns,o6,o3,o4,rfl,C,hc⟩:=h
   rw[Wf]at hc;have ll:=Zcv C.nd C.lt;have cl:Clo rs ns:=hc.resolve_right (Nat.not_le.mpr (Nat.lt_succ_of_le ll));refine Zeh (Zde (Zhr (Zc7 rfl (Zee ns))) (Za (d:=dI n) rfl) rfl) ⟨_,rfl,?_⟩;rw[decide_eq_true_iff,Xd];constructor
   .exact λh=>λm hm=>C.rch m (Zzo C.nd C.lt (!0) m hm)
   .intro h
    have:∀m<n,m∈ns:=λm hm=>Rch.closed C.z (λk hk m hm=>by
     rcases Zhd.mp hm with q|q
     .exact(cl _ q).mp hk
     .exact(cl _ q).mpr hk) (h m hm)
    have:=Zrv this;omega
 obtain⟨d,h1,b,rfl,h2⟩:=key;exact⟨b,h1,h2⟩
def Good(n:Int)(rs:List (Int×Int)):Prop:=RdZ n rs/\Zy9 n.toNat (rs.map toN)
def Zri{e:FE}{g:FG}{d:Xa}(h:EvV e δ d)(hg:g d δ=YB δ'):wE e (Zw4 g) δ= .nx δ':=by
 obtain⟨o,e1,e2⟩:=h;rw[Zdp,e1,Yd,Z0q,e2,hg];rfl
def Z43{rs:List (Int×Int)}{k:Nat}(h:k<rs.length):gIx (.list (rs.map pD)) (dI k)=zf (pD (rs.getD k (0,0))):=by
 show gIx (.list (rs.map pD)) (.int (k:Int))=_;rw[Z54,Zdj (v:=pD (rs.getD k (0,0))) (by rw[Xi,Xm,Xj h];rfl)];rfl
def OkK(n:Int)(rs:List (Int×Int))(k:Nat):Prop:=(0<=(rs.getD k (0,0)).1/\(rs.getD k (0,0)).1<(rs.getD k (0,0)).2/\(rs.getD k (0,0)).2<n)/\(0<k->ltI (rZ (rs.getD (k-1) (0,0))) (rZ (rs.getD k (0,0)))=YD)
abbrev Yex:=tV (Zd gGt Jh Zk8)
abbrev Yfi:=tV (Zd Z5a (Z4 gIx J2 (Zd gSb Jh Zfo)) Z46)
def wkB:FS:=Zt (wE Z46 (Zw4 Zys))
  (Ws (tO (tNo (tV (Zcg (λi j=>decide (i<=j)) (λi j=>decide (i<j)) (λi j=>decide (i<j)) Zk8 Zar Zba Wj))) (tAn Yex Yfi))
  Zzm
  fNx)
def Yau(r r':Int×Int):Z5a (pD r) (pD r')=YB (.bool (!ltI (rZ r) (rZ r'))):=rfl
def Yfl{n:Int}{rs:List (Int×Int)}{k:Nat}(hk:k<rs.length){o3 o4:Option OT}:(OkK n rs k/\∃p3 p4,wkB [zf (.int n),zf (.list (rs.map pD)),zf (dI k),o3,o4,YC,YC]= .nx [zf (.int n),zf (.list (rs.map pD)),zf (dI k),p3,p4,YC,YC])\/(¬OkK n rs k/\∃o δ2,wkB [zf (.int n),zf (.list (rs.map pD)),zf (dI k),o3,o4,YC,YC]= .rt o δ2/\o.data= .bool YF):=by
 have s1:∀{o3 o4:Option OT},wE Z46 (Zw4 Zys) [zf (.int n),zf (.list (rs.map pD)),zf (dI k),o3,o4,YC,YC]= .nx [zf (.int n),zf (.list (rs.map pD)),zf (dI k),zf (.int (rs.getD k (0,0)).1),zf (.int (rs.getD k (0,0)).2),YC,YC]:=Zri (Zfu (Za rfl) (Za rfl) (Z43 hk)) rfl;obtain⟨δ,hδ⟩:∃δ:Ze,δ=[zf (.int n),zf (.list (rs.map pD)),zf (dI k),zf (.int (rs.getD k (0,0)).1),zf (.int (rs.getD k (0,0)).2),YC,YC]:=⟨_,rfl⟩;have d0:δ[0]? =YB (zf (.int n)):=by rw[hδ];rfl
 have d1:δ[1]? =YB (zf (.list (rs.map pD))):=by rw[hδ];rfl
 have d2:δ[2]? =YB (zf (dI k)):=by rw[hδ];rfl
 have d3:δ[3]? =YB (zf (.int (rs.getD k (0,0)).1)):=by rw[hδ];rfl
 have d4:δ[4]? =YB (zf (.int (rs.getD k (0,0)).2)):=by rw[hδ];rfl
 obtain⟨o,e1,e2⟩:=Zrj (e:=fC (.bool YF)) (δ:=δ) (d:=.bool YF) Zy;have no:∀{t:FT},EvT t δ YD->∃o' δ2,Ws t Zzm fNx δ= .rt o' δ2/\o'.data= .bool YF:=λh=>⟨o,δ,Y9 h e1,e2⟩;rw[<-hδ]at s1
 by_cases c:0<=(rs.getD k (0,0)).1/\(rs.getD k (0,0)).1<(rs.getD k (0,0)).2/\(rs.getD k (0,0)).2<n
 .have t1:=Zej (p:=YD) (Zjy d3 d4 d0 (YS c))
  by_cases z:k=0
  .refine .inl ⟨⟨c,λq=>YZ q (!0)⟩,zf (.int (rs.getD k (0,0)).1),zf (.int (rs.getD k (0,0)).2),(Zx s1 (Z6 (Zvt t1 (Zmk (Jp (Zmi (Za (d:=.int (k:Int)) d2) Zy (YT (!0)))))) rfl)).trans (by rw[hδ];rfl)⟩
  .have t2:∀{b:Bool},(!ltI (rZ (rs.getD (k-1) (0,0))) (rZ (rs.getD k (0,0))))=b->EvT (tAn Yex Yfi) δ b:=λhb=>hb▸Zvw (Jp (Zmi (Za (d:=.int (k:Int)) d2) Zy (YS (!0)))) (Jp (Zo (Zfu (Za d1) ((Zfk (Za (d:=.int (k:Int)) d2) Zy).cast (y:=dI (k-1)) (YW Xu (!0))) (Z43 (!0))) (Zfu (Za d1) (Za d2) (Z43 hk)) (Yau _ _)))
   cases q:ltI (rZ (rs.getD (k-1) (0,0))) (rZ (rs.getD k (0,0)))with
   | true=>exact .inl ⟨⟨c,λ_=>q⟩,zf (.int (rs.getD k (0,0)).1),zf (.int (rs.getD k (0,0)).2),(Zx s1 (Z6 (Zvt t1 (t2 (by rw[q];rfl))) rfl)).trans (by rw[hδ];rfl)⟩
   | false=>
    obtain⟨o',δ2,h1,h2⟩:=no (Zvt t1 (t2 (by rw[q];rfl)));exact .inr ⟨λh=>Xx (q.symm.trans (h.2 (!0))),o',δ2,Zx s1 h1,h2⟩
 .obtain⟨o',δ2,h1,h2⟩:=no (Zs5 (u:=tAn Yex Yfi) (Zej (p:=YF) (Zjy d3 d4 d0 (YT c))))
  exact .inr ⟨λh=>c h.1,o',δ2,Zx s1 h1,h2⟩
def Zu3{n:Int}{rs:List (Int×Int)}(hl:rs.length<=1000):∃b,Told Jj [.int n,.list (rs.map pD)] (.bool b)/\(b=YD↔Good n rs):=by
 have st:Zck 7 [.int n,.list (rs.map pD)]=[zf (.int n),zf (.list (rs.map pD)),YC,YC,YC,YC,YC]:=rfl
 by_cases c1:n<1
 .exact⟨YF,Yk rfl (Zbg (Zgh (Zs5 (Jp (Zls (Za rfl) Zy (YS c1)))) (Za5 Zy))),(λz=>nomatch z),λg=>YZ g.1.n1 (!0)⟩
 by_cases c2:10<n
 .exact⟨YF,Yk rfl (Zbg (Zgh (Zvt (Jp (Zls (Za rfl) Zy (YT c1))) (Jp (Zmi (Za rfl) Zy (YS c2)))) (Za5 Zy))),(λz=>nomatch z),λg=>YZ g.1.n10 (!0)⟩
 have f1:Ws (tO (tV (Zd gLt Wj Zfo)) (tV (Zd gGt Wj (fI 10)))) Zzm fNx [zf (.int n),zf (.list (rs.map pD)),YC,YC,YC,YC,YC]= .nx [zf (.int n),zf (.list (rs.map pD)),YC,YC,YC,YC,YC]:=Z6 (Zvt (Jp (Zls (Za rfl) Zy (YT c1))) (Jp (Zmi (Za rfl) Zy (YT c2)))) rfl;have it:EvI (iRa Ybp) [zf (.int n),zf (.list (rs.map pD)),YC,YC,YC,YC,YC] (Zdk 0 rs.length):=Zcx (Zb ((Zhr (Za rfl)).cast (by rw[Xd])) Zh) (!0);have rd:(∀k<rs.length,OkK n rs k)↔RdZ n rs:=⟨λq=>⟨by omega,by omega,λr hr=>by
   obtain⟨k,hk,e⟩:=VM hr;have:=(q k hk).1
   rwa[Xm,Xj hk,e]at this,λi r r' h1 h2=>by
   have hi:=(Xk.mp h2).1;have:=(q (i+1) hi).2 (!0);rw[Nat.add_sub_cancel,Xm,h1,Xm,h2]at this;exact this⟩,λR k hk=>⟨R.ok _ (by rw[Xm,Xj hk];exact Bl hk),λz=>R.ris (k-1) _ _ (by rw[Xm,Xj (!0)];rfl) (by rw[show k-1+1=k by omega,Xm,Xj hk];rfl)⟩⟩
 rcases Zi4 RtF.ok (g:=gNm 2) (u:=wkB) (I:=λδ=>∃o2 o3 o4,δ=[zf (.int n),zf (.list (rs.map pD)),o2,o3,o4,YC,YC]) (P:=λd=>∀k:Nat,d=dI k->OkK n rs k) (Zdk 0 rs.length) [zf (.int n),zf (.list (rs.map pD)),YC,YC,YC,YC,YC] ⟨YC,YC,YC,rfl⟩ (λd hd δ hI=>by
  obtain⟨o2,o3,o4,rfl⟩:=hI;rw[Zvu]at hd;obtain⟨k,hk,rfl⟩:=XF.mp hd;have inj:∀{k':Nat},dI k=dI k'->k=k':=λh=>Int.ofNat.inj (PyData.int.inj h);rcases Yfl (n:=n) (rs:=rs) (o3:=o3) (o4:=o4) (Qj.mp hk)with⟨q,o3,o4,r⟩|⟨q,o,δ',r,ho⟩
  .exact⟨_,rfl,.inl ⟨λk' e=>by rw[<-inj e];exact q,_,r,_,_,_,rfl⟩⟩
  .exact⟨_,rfl,.inr ⟨λz=>q (z k rfl),o,δ',r,ho⟩⟩)with⟨q,δ',e,o2,o3,o4,rfl⟩|⟨q,o,δ',e,ho⟩
 .have R:=rd.mp λk hk=>q (dI k) (by rw[Zvu];exact XF.mpr ⟨k,Qj.mpr hk,rfl⟩) k rfl
  obtain⟨en,er,RN⟩:=R.roads hl;obtain⟨b,eb,hb⟩:=Z4r RN (o2:=o2) (o3:=o3) (o4:=o4) (o6:=YC);refine⟨b,?_,hb.trans ⟨λh=>⟨R,h⟩,λh=>h.2⟩⟩;refine Yk rfl<|Z2 f1<|Z2 (Zal it e)<|Z2 (Zey (o:=lsO [0]) rfl) ?_;have e0:dI n.toNat= .int n:=YW Xu en.symm;rw[<-er,e0]at eb;exact eb
 .refine⟨YF,Yk rfl<|Z2 f1<|Zbg ⟨o,δ',Zal it e,ho⟩,(λz=>nomatch z),λg=>YZ (λd hd=>?_) q⟩
  rw[Zvu]at hd;obtain⟨k,hk,rfl⟩:=XF.mp hd;intro k' e;have e:k=k':=Int.ofNat.inj (PyData.int.inj e);rw[<-e];exact rd.mpr g.1 k (Qj.mp hk)
def Zk5{n:Nat}{rs:List (Nat×Nat)}(R:Roads n rs)(hc:Zy9 n rs):∃o,Yg [dI n,.list (rs.map ptD)]= .ok o:=by
 have n10:=R.n10;obtain⟨F,_,T⟩:=Zhp R hc;obtain⟨δ',e,ts,z3,rfl,_⟩:=Zlk (gg:=gNm 3) (u:=Yh 2 (Wk 1 [] (Zf0 Zar) Zjj Zh5 (Zbv (Zf Wj (Zf Zfo Z5))))) (ds:=(XC n).map λs=>Zmd n (F s)) (δ:=[zf (dI n),zf (.list (rs.map ptD)),YB (.nd []),YC]) (λi δ=>∃ts z3,δ=[zf (dI n),zf (.list (rs.map ptD)),YB (.nd ts),z3]/\ts.length<=i) ⟨[],YC,rfl,XD _⟩ λi d δ hd q=>by
  obtain⟨ts,z3,rfl,hl⟩:=q;have hi:i<n:=by have:=(Xk.mp hd).1;rwa[Xd,X6]at this
  rw[Xi,Q8 hi]at hd;cases hd;refine⟨_,_,rfl,.inl (Zek (ts:=ts) (Zgb (cs:=[]) (XC n) (λp=>dI (F i p)) (λp=>.tuple [dI (F i p),.int 1]) (Jr (Za rfl)) (by rw[X6];omega) rfl λx _=>Zbb (Zb (Za rfl) (Zb Zy Zh)) (show 2<=1000 by decide)) rfl (!0)),_,_,rfl,?_⟩;rw[Xv];exact Vn hl
 obtain⟨o,h,_⟩:Told Yg [dI n,.list (rs.map ptD)] (.list (ts.map OT.data)):=Yk rfl (Z2 Zby (Z2 (Yax (Zb (Za rfl) (Zb (Za rfl) Zh)) T e) (Zyp rfl (OT.data_nd ts))));exact⟨o,h⟩
def Zlz{a b:Xa}(h:Zu [a,b]= .exn "NoWeb"):Yg [a,b]= .exn "NoWeb" :=
 Zbq rfl (Zx Zby (J6 (Z6u (Zb (Za rfl) (Zb (Za rfl) Zh)) h)))
def Zrk{a b:Xa}(h:Zu [a,b]= .exn "NoWeb"):Yb [a,b]= .exn "NoWeb" :=
 Zbq rfl (J6 (Znp (Zb (Za rfl) (Zb (Za rfl) Zh)) h))
def Zz9(b:Bool):Xa:=if b=YD then .list []else .list [.bool YD,.bool YD,.bool YF]
def Yjd(F:FD):FS:=Zt Z7t
  (Zt (Zxw xsL (wX F Znq Zkh) "CutError" 3 Ydd)
  (Zb9 2))
def Zzr{F:FD}{a b:Xa}{g:Bool}(h1:g=YD->∃o,F [a,b]= .ok o)(h2:g=YF->F [a,b]= .exn "NoWeb"):Told (Jv 2 4 (Yjd F)) [a,b] (Zz9 g):=by
 cases g with
 | true=>
  obtain⟨o,h⟩:=h1 rfl;refine Yk rfl<|Z2 Zby<|Z2 (δ':=[zf a,zf b,YB (.nd []),YC]) ?_ (Zyp (o:=.nd []) rfl (by rw[OT.data_nd];rfl));have e:wX F Znq Zkh [zf a,zf b,YB (.nd []),YC]= .nx [zf a,zf b,YB (.nd []),YC]:=Z9o (Zb (Za rfl) (Zb (Za rfl) Zh)) (.of h rfl) λ_ _=>rfl;show Zxw xsL _ "CutError" 3 _ [zf a,zf b,YB (.nd []),YC]=_;unfold Zxw;rw[e]
 | false=>
  refine Yk rfl<|Z2 Zby<|Z2 (Z8s (c :="NoWeb") (δ2:=[zf a,zf b,YB (.nd [.fz (.bool YD),.fz (.bool YD),.fz (.bool YF)]),zf (exD "NoWeb")]) (Znp (Zb (Za rfl) (Zb (Za rfl) Zh)) (h2 rfl)) (by decide +kernel) ?_) (Zyp (o:=.nd [.fz (.bool YD),.fz (.bool YD),.fz (.bool YF)]) rfl (by rw[OT.data_nd,X7,X7,X7,List.map_nil,OT.data_fz,OT.data_fz];rfl));have b1:∀{δ:Ze},δ[3]? =YB (zf (exD "NoWeb"))->EvV (Zmn xsL "NoWeb" Zar) δ (.bool YD):=λh=>Zyt (x :="NoWeb") (Za h) (by decide +kernel) (by decide +kernel);have b2:∀{δ:Ze},δ[3]? =YB (zf (exD "NoWeb"))->EvV (Zmn xsL "ValueError" Zar) δ (.bool YD):=λh=>Zyt (x :="NoWeb") (Za h) (by decide +kernel) (by decide +kernel);have bq:∀{e:FE} {δ:Ze} {b:Bool},EvV e δ (.bool b)->e δ=YB (.fz (.bool b),δ):=λh=>by
   obtain⟨t,e1,d1⟩:=h;rw[e1,Zgt d1]
  refine Zx (δ':=[zf a,zf b,YB (.nd [.fz (.bool YD),.fz (.bool YD)]),zf (exD "NoWeb")]) ((Zey (o:=.nd [.fz (.bool YD),.fz (.bool YD)]) ?_).trans rfl) ((Zek (ts:=[.fz (.bool YD),.fz (.bool YD)]) (Z3z (x :="NoWeb") (p:=YF) (Za rfl) (by decide +kernel) (by decide +kernel)) rfl (show 2<=1000000 by decide)).trans rfl);rw[Znh,Zd9,bq (b1 rfl),Xh];dsimp only;rw[Zd9,bq (b2 rfl)];rfl
def Zqt{n:Int}{rs:List (Int×Int)}(hl:rs.length<64){g:Bool}(hg:g=YD↔Good n rs):Told Yy [.int n,.list (rs.map pD)] (Zz9 g)/\Told Yv [.int n,.list (rs.map pD)] (Zz9 g):=by
 have y:g=YD->(∃o,Yg [.int n,.list (rs.map pD)]= .ok o)/\∃o,Yb [.int n,.list (rs.map pD)]= .ok o:=λh=>by
  obtain⟨R,hc⟩:=hg.mp h;obtain⟨en,er,RN⟩:=R.roads (!0);have e0:dI n.toNat= .int n:=YW Xu en.symm;obtain⟨_,⟨o,h1,_⟩,_⟩:=Zsf RN hc (by rw[Xd];exact hl);have h2:=Zk5 RN hc;rw[e0,<-er]at h1 h2;exact⟨h2,o,h1⟩
 have no:g=YF->Zu [.int n,.list (rs.map pD)]= .exn "NoWeb" := λh=>by
  by_cases R:RdZ n rs
  .obtain⟨en,er,RN⟩:=R.roads (!0)
   have e0:dI n.toNat= .int n:=YW Xu en.symm;have:=Zne RN λhc=>by rw[hg.mpr ⟨R,hc⟩]at h;cases h
   rwa[e0,<-er]at this
  .exact Zl4 R
 exact⟨Zzr (λh=>(y h).1) λh=>Zlz (no h),Zzr (λh=>(y h).2) λh=>Zrk (no h)⟩
def Z1k{e hi:FE}{rs:List (Int×Int)}{k:Nat}(he:EvV e δ (.list (rs.map pD)))(hh:EvV hi δ (.int (k:Int))):∃q:List (Int×Int),EvV (fSl e oN (oI hi)) δ (.list (q.map pD))/\q.length<=k:=by
 refine⟨rs.take (min k rs.length),(Zyf he Yei (Yav hh)).cast ?_,by rw[Bk];omega⟩;unfold cutD;rw[HT.sIx_none,HT.sIx_nat,Xd,List.drop_zero,Nat.sub_zero,List.map_take]
def Z1s{e lo:FE}{rs:List (Int×Int)}{k:Nat}(he:EvV e δ (.list (rs.map pD)))(hh:EvV lo δ (.int (k:Int))):∃q:List (Int×Int),EvV (fSl e (oI lo) oN) δ (.list (q.map pD))/\q.length<=rs.length-k:=by
 refine⟨(rs.drop (min k rs.length)).take (rs.length-min k rs.length),(Zyf he (Yav hh) Yei).cast ?_,by rw[Bk,Bb];omega⟩;unfold cutD;rw[HT.sIx_none,HT.sIx_nat,Xd,List.map_take,List.map_drop]
def Zln{a b:FE}{p q:List (Int×Int)}(ha:EvV a δ (.list (p.map pD)))(hb:EvV b δ (.list (q.map pD)))(hl:p.length+q.length<=1000):EvV (Z4 Zer a b) δ (.list ((p++q).map pD)):=by
 rw[Qx];exact Zz0 ha hb (by rw[Xd,Xd];omega)
def Zzj{e:FE}{rs:List (Int×Int)}(he:EvV e δ (.list (rs.map pD)))(hl:rs.length<64):∃q:List (Int×Int),EvV (fBl (Zfs kdP ltP) (Zf e Z5)) δ (.list (q.map pD))/\q.length=rs.length:=by
 refine⟨sLay (0,0) (lk kdP ltP (rs.map pD)) rs,Z0p (o:=.nd ((sLay .none (lk kdP ltP (rs.map pD)) (rs.map pD)).map OT.fz)) (Zb he Zh) ?_ ?_,(Zcj _ _ rs).length_eq⟩
 .show(if(decide ((rs.map pD).length<64)&&(rs.map pD).all λd=>(kdP d).isSome)=YD then YB (OT.nd ((sLay .none (lk kdP ltP (rs.map pD)) (rs.map pD)).map OT.fz))else YC)=_
  rw[YM];rw[XJ,decide_eq_true_eq,Xd,BX];refine⟨hl,λd m=>?_⟩;obtain⟨p,_,rfl⟩:=XF.mp m;rfl
 .rw[OT.data_nd,OT.map_fz,Zg1 Xa.none (pD (0,0)),Zjp]
def eS(n:Int)(rs:List (Int×Int))(vs:List Int)(far:Int)(a:Nat)(road:Int×Int)(way:Int):Ze:=[zf (.int n),zf (.list (rs.map pD)),zf (Zn vs),zf (.int far),zf (dI a),zf (pD road),zf (.int way),YC,YC]
def Z7z{n:Int}{rs:List (Int×Int)}{vs:List Int}{far:Int}{a:Nat}{road:Int×Int}{way c:Int}{e:FE}{B:Nat}(hB:rs.length<=B)(he:∃q:List (Int×Int),EvV e (eS n rs vs far a road way) (.list (q.map pD))/\q.length<=B+1):∃q:List (Int×Int),Ws (tV (Zd gEq Zb5 (fI c))) (wE e (Y8 1)) fNx (eS n rs vs far a road way)= .nx (eS n q vs far a road way)/\q.length<=B+1:=by
 by_cases z:way=c
 .obtain⟨q,e1,e2⟩:=he
  exact⟨q,Y9 (Jp (Zde (Za rfl) Zy (YS z))) (Z7 e1),e2⟩
 .exact⟨rs,Z6 (Jp (Zde (Za rfl) Zy (YT z))) rfl,by omega⟩
def c_n{n:Int}{rs:List (Int×Int)}{vs:List Int}{far:Int}{a:Nat}{road:Int×Int}{way c:Int}{e:FE}(he:∃m:Int,EvV e (eS n rs vs far a road way) (.int m)):∃m:Int,Ws (tV (Zd gEq Zb5 (fI c))) (wE e (Y8 0)) fNx (eS n rs vs far a road way)= .nx (eS m rs vs far a road way):=by
 by_cases z:way=c
 .obtain⟨m,e1⟩:=he
  exact⟨m,Y9 (Jp (Zde (Za rfl) Zy (YS z))) (Z7 e1)⟩
 .exact⟨n,Z6 (Jp (Zde (Za rfl) Zy (YT z))) rfl⟩
def Ztj{e:FE}{r:Int×Int}(h:EvV e δ (pD r)):EvV (Zc2 (Zf e Z5)) δ (.list ([r].map pD)):=Zfr (Zb h Zh) (show 1<=1000 by decide)
def Zqx{a b:FE}{x y:Int}(ha:EvV a δ (.int x))(hb:EvV b δ (.int y)):EvV (Zbv (Zf a (Zf b Z5))) δ (pD (x,y)):=Zbb (Zb ha (Zb hb Zh)) (show 2<=1000 by decide)
section
variable {n:Int}{rs:List (Int×Int)}{vs:List Int}{far:Int}{a:Nat}{road:Int×Int}{way:Int}
def Zh8:EvV J2 (eS n rs vs far a road way) (.list (rs.map pD)):=Za rfl
def Zh2:EvV Zba (eS n rs vs far a road way) (.int (a:Int)):=Za (d:=dI a) rfl
def Yb5(hv:vs.length=4){k:Nat}(hk:k<4):EvV (Z4 gIx Jh (fI k)) (eS n rs vs far a road way) (.int (vs.getD k 0)):=Ww (p:=vs) (i:=(k:Int)) (Za rfl) Zy (!0) (!0)
abbrev Yf9:=Zc2 (Zf (Z4 gIx J2 Zba) (Zf (Z4 gIx J2 (Zd gSb Zba Zfo)) Z5))
abbrev Yg0:=fSl J2 (oI (Zd Za0 Zba Zfo)) oN
def Yi2{B:Nat}(hB:rs.length<=B)(b1:B<=100)(ha:a<max 1 rs.length):∃q:List (Int×Int),Ws (tAn (tV (Zd gEq Zb5 Zfo)) (tV (Zd gGt Zba Zk8))) (wE (Z4 Zer (Z4 Zer (fSl J2 oN (oI (Zd gSb Zba Zfo))) Yf9) Yg0) (Y8 1)) fNx (eS n rs vs far a road way)= .nx (eS n q vs far a road way)/\q.length<=B+1:=by
 by_cases z:way=1
 .by_cases p:0<a
  .have hal:a<rs.length:=by omega
   have e1:EvV (Zd gSb Zba Zfo) (eS n rs vs far a road way) (.int ((a-1:Nat):Int)):=(Zfk Zh2 Zy).cast (YW Xu (!0));obtain⟨q1,h1,l1⟩:=Z1k (k:=a-1) Zh8 e1;obtain⟨q2,h2,l2⟩:=Z1s (k:=a+1) (e:=Z0 1) (δ:=eS n rs vs far a road way) (lo:=Zd Za0 Zba Zfo) Zh8 ((Jd Zh2 Zy).cast (YW Xu (!0)));have h3:EvV Yf9 (eS n rs vs far a road way) (.list ([rs.getD a (0,0),rs.getD (a-1) (0,0)].map pD)):=Zfr (Zb (Zfu Zh8 Zh2 (Z43 hal)) (Zb (Zfu Zh8 e1 (Z43 (!0))) Zh)) (show 2<=1000 by decide);refine⟨_,Y9 (Zvw (Jp (Zde (Za rfl) Zy (YS z))) (Jp (Zmi Zh2 Zy (YS (!0))))) (Z7 (Zln (Zln h1 h3 (by simp only[Qd,QH];omega)) h2 (by rw[Xv];simp only[Qd,QH];omega))),?_⟩;rw[Xv,Xv];simp only[Qd,QH];omega
  .exact⟨rs,Z6 (Zvw (Jp (Zde (Za rfl) Zy (YS z))) (Jp (Zmi Zh2 Zy (YT (!0))))) rfl,by omega⟩
 .exact⟨rs,Z6 (Zmk (Jp (Zde (Za rfl) Zy (YT z)))) rfl,by omega⟩
def Zy3{B:Nat}(hB:rs.length<=B)(b1:B<=100)(ha:a<=B){m lo:FE}{r:Int×Int}{k:Nat}(hk:a<=k)(hm:EvV m (eS n rs vs far a road way) (pD r))(hlo:EvV lo (eS n rs vs far a road way) (.int (k:Int))):∃q:List (Int×Int),EvV (Z4 Zer (Z4 Zer Z8x (Zc2 (Zf m Z5))) (fSl J2 (oI lo) oN)) (eS n rs vs far a road way) (.list (q.map pD))/\q.length<=B+1:=by
 obtain⟨q1,h1,l1⟩:=Z1k (k:=a) Zh8 (Zh2 (n:=n) (rs:=rs) (vs:=vs) (far:=far) (a:=a) (road:=road) (way:=way));obtain⟨q2,h2,l2⟩:=Z1s (k:=k) Zh8 hlo;refine⟨_,Zln (Zln h1 (Ztj hm) (by simp only[Qd,QH];omega)) h2 (by rw[Xv];simp only[Qd,QH];omega),?_⟩;rw[Xv,Xv];simp only[Qd,QH];omega
def Yj1{B:Nat}(hB:rs.length<=B)(b1:B<=100)(ha:a<=B):∃q:List (Int×Int),EvV (Z4 Zer Z8x Yg0) (eS n rs vs far a road way) (.list (q.map pD))/\q.length<=B+1:=by
 obtain⟨q1,h1,l1⟩:=Z1k (k:=a) Zh8 (Zh2 (n:=n) (rs:=rs) (vs:=vs) (far:=far) (a:=a) (road:=road) (way:=way));obtain⟨q2,h2,l2⟩:=Z1s (k:=a+1) (e:=Z0 1) (δ:=eS n rs vs far a road way) (lo:=Zd Za0 Zba Zfo) Zh8 ((Jd Zh2 Zy).cast (YW Xu (!0)));refine⟨_,Zln h1 h2 (!0),?_⟩;rw[Xv];omega
def ix3{x z:Xa}{v:Int}(h0:0<=v)(h1:v<3):∃d,gIx (.list [x,y,z]) (.int v)=zf d/\(d=x\/d=y\/d=z):=by
 obtain⟨v,rfl⟩:=Int.eq_ofNat_of_zero_le h0;have f:∀k:Fin 3,k.val=0\/k.val=1\/k.val=2:=by decide +kernel
 have f:v=0\/v=1\/v=2:=f ⟨v,Uq.mp h1⟩;obtain rfl|rfl|rfl:=f
 .exact⟨_,rfl,.inl rfl⟩
 .exact⟨_,rfl,.inr (.inl rfl)⟩
 .exact⟨_,rfl,.inr (.inr rfl)⟩
abbrev Ybj:=Zd Js (Z4 gIx Jh (fI 2)) Wj
abbrev Yg2:=Zd Js (Z4 gIx Jh (fI 3)) (fI 3)
def Yjz{B:Nat}(hB:rs.length<=B)(b1:B<=60)(hv:vs.length=4)(hn:n≠0):∃q:List (Int×Int),EvV (fBl (Zfs kdP ltP) (Zf (Z4 Zer J2 (Z4 gIx (Zc2 (Zf (Zc2 (Zf (Zbv (Zf Ybj (Zf Ybj Z5))) Z5)) (Zf (Zc2 (Zf (Zbv (Zf Ybj (Zf (Zd Za0 Wj Zar) Z5))) Z5)) (Zf (Zc2 (Zf (Zbv (Zf (Zd gSb (fUn Zq7 Zfo) Zar) (Zf Zk8 Z5))) Z5)) Z5)))) Yg2)) Z5)) (eS n rs vs far a road way) (.list (q.map pD))/\q.length<=B+1:=by
 have m2:EvV Ybj (eS n rs vs far a road way) (.int ((vs.getD 2 0).fmod n)):=Wb (Yb5 hv (k:=2) (!1)) (Za rfl) hn;have m3:EvV Yg2 (eS n rs vs far a road way) (.int ((vs.getD 3 0).fmod 3)):=Wb (Yb5 hv (k:=3) (!1)) Zy (!1);obtain⟨d,ed,hd⟩:=ix3 (x:=.list ([((vs.getD 2 0).fmod n,(vs.getD 2 0).fmod n)].map pD)) (y:=.list ([((vs.getD 2 0).fmod n,n+far)].map pD)) (z:=.list ([(-1-far,(0:Int))].map pD)) (Zi8 (i:=vs.getD 3 0) (j:=3) (!1)) (Zjg (!1));have one:∃r:Int×Int,d= .list ([r].map pD):=by
  rcases hd with h|h|h
  .exact⟨_,h⟩
  .exact⟨_,h⟩
  .exact⟨_,h⟩
 obtain⟨r,rfl⟩:=one;obtain⟨q,h1,h2⟩:=Zzj (Zln (q:=[r]) Zh8 (Zfu (Zfr (Zb (Ztj (Zqx m2 m2)) (Zb (Ztj (Zqx m2 (Jd (Za (i:=0) (d:=.int n) rfl) (Za (i:=3) (d:=.int far) rfl)))) (Zb (Ztj (Zqx (Zfk (Zo8 Zy) (Za (i:=3) (d:=.int far) rfl)) Zy)) Zh))) (show 3<=1000 by decide)) m3 ed) (by simp only[Qd,QH];omega)) (by rw[Xv];simp only[Qd,QH];omega);refine⟨q,h1,?_⟩;rw[h2,Xv];simp only[Qd,QH];omega
def Yi7(x:Int)(r:Int×Int):∃b,Zjw YD (.int x) (pD r)=YB (.bool b):=⟨_,rfl⟩
def Yj3{B:Nat}(hB:rs.length<=B)(b1:B<=100)(hv:vs.length=4)(hn:n≠0):∃q:List (Int×Int),EvV (Wk 1 [2,0] Ztc Zjj (tV (Zd (Zjw YD) (Zd Js (Z4 gIx J2 (fI 2)) Jh) Wj)) Wj) (eS n rs vs far a road way) (.list (q.map pD))/\q.length<=B+1:=by
 obtain⟨f,hf⟩:=Vz (Yi7 ((vs.getD 2 0).fmod n));refine⟨rs.filter f,Zpe (cs:=[zf (Zn vs),zf (.int n)]) rs pD f (Jr Zh8) (!0) rfl (λr _=>Jp (Zo (Wb (Ww (p:=vs) (i:=2) (Za rfl) Zy (!1) (!0)) (Za rfl) hn) (Za rfl) (hf r))) λr _ _=>rfl,?_⟩;have:=List.length_filter_le f rs;omega
def ix5{x z w u:Xa}{v:Int}(h0:0<=v)(h1:v<5):∃d,gIx (.list [x,y,z,w,u]) (.int v)=zf d/\(d=x\/d=y\/d=z\/d=w\/d=u):=by
 obtain⟨v,rfl⟩:=Int.eq_ofNat_of_zero_le h0;have f:∀k:Fin 5,k.val=0\/k.val=1\/k.val=2\/k.val=3\/k.val=4:=by decide +kernel
 have f:v=0\/v=1\/v=2\/v=3\/v=4:=f ⟨v,Uq.mp h1⟩;obtain rfl|rfl|rfl|rfl|rfl:=f
 .exact⟨_,rfl,.inl rfl⟩
 .exact⟨_,rfl,.inr (.inl rfl)⟩
 .exact⟨_,rfl,.inr (.inr (.inl rfl))⟩
 .exact⟨_,rfl,.inr (.inr (.inr (.inl rfl)))⟩
 .exact⟨_,rfl,.inr (.inr (.inr (.inr rfl)))⟩
def Yjv(hv:vs.length=4):∃m:Int,EvV (Z4 gIx (Zc2 (Zf Zk8 (Zf (Zd gSb (fUn Zq7 Zfo) Zar) (Zf (fI 11) (Zf (Zd Za0 (fI 11) Zar) (Zf (fUn Zq7 Wj) Z5)))))) (Zd Js (Z4 gIx Jh (fI 3)) (fI 5))) (eS n rs vs far a road way) (.int m):=by
 obtain⟨d,ed,hd⟩:=ix5 (x:=.int 0) (y:=.int (-1-far)) (z:=.int 11) (w:=.int (11+far)) (u:=.int (-n)) (Zi8 (i:=vs.getD 3 0) (j:=5) (!1)) (Zjg (!1));have one:∃m:Int,d= .int m:=by
  rcases hd with h|h|h|h|h
  .exact⟨_,h⟩
  .exact⟨_,h⟩
  .exact⟨_,h⟩
  .exact⟨_,h⟩
  .exact⟨_,h⟩
 obtain⟨m,rfl⟩:=one;exact⟨m,Zfu (Zfr (Zb Zy (Zb (Zfk (Zo8 Zy) (Za rfl)) (Zb Zy (Zb (Jd Zy (Za rfl)) (Zb (Zo8 (Za rfl)) Zh))))) (show 5<=1000 by decide)) (Wb (Yb5 hv (k:=3) (!1)) Zy (!1)) ed⟩
end
abbrev Yiv:=Zd Za0 (fI 10) (Zd Js (Z4 gIx Jh (fI 2)) (fI 31))
abbrev Yiu:=Wk 1 [2] (iRb (Zf Wj (Zf (Z0 7) Z5))) Zjj Zh5 (Zbv (Zf (Zd gSb (Zd gSb Wj Zfo) (Zd Js (Z4 gIx J2 (fI 3)) (Zem Z2e (Zf Wj (Zf (fI 3) Z5))))) Zvs))
def Yjc{n:Nat}{rs:List (Int×Int)}{vs:List Int}{far:Int}{a:Nat}{road:Int×Int}{way:Int}(n1:1<=n)(n10:n<=10)(hr:rs.length<=22)(hv:vs.length=4):∃(m:Int) (q:List (Int×Int)),Zmf (Zt (wE Yiv (Y8 7))
  (Zt (wE Yiu (Y8 8))
  Yhd)) (eS (n:Int) rs vs far a road way) (.tuple [.int m,.list (q.map pD)])/\q.length<64:=by
 obtain⟨t,ht,t31⟩:=Jo (vs.getD 2 0) (n:=31) (!1);have ht:(vs.getD 2 0).fmod 31=(t:Int):=ht;have e1:EvV Yiv (eS (n:Int) rs vs far a road way) (dI (10+t)):=(Jd Zy (Wb (Yb5 hv (k:=2) (!1)) Zy (!1))).cast (by rw[ht];rfl);obtain⟨mo,hmo⟩:∃mo:List (Int×Int),mo=(XC (10+t-n)).map λi:Nat=>((n:Int)+(i:Int)-1-(vs.getD 3 0).fmod (if 3<(n:Int)+(i:Int)then 3 else(n:Int)+(i:Int)),(n:Int)+(i:Int)):=⟨_,rfl⟩;have ml:mo.length<=39:=by rw[hmo,Xd,X6];omega
 have e2:EvV Yiu ((eS (n:Int) rs vs far a road way).set 7 (zf (dI (10+t)))) (.list (mo.map pD)):=by
  refine EvV.cast (Zgb (cs:=[zf (Zn vs)]) (XC (10+t-n)) (λi:Nat=>.int ((n:Int)+(i:Int))) (λi:Nat=>pD ((n:Int)+(i:Int)-1-(vs.getD 3 0).fmod (if 3<(n:Int)+(i:Int)then 3 else(n:Int)+(i:Int)),(n:Int)+(i:Int))) (Z21 (m:=n) (n:=10+t) (Zb (Za (d:=dI n) rfl) (Zb (Za rfl) Zh)) (!0) (!0)) (by rw[X6];omega) rfl λi _=>Zqx (Zfk (Zfk (Za rfl) Zy) (Wb (Ww (p:=vs) (i:=3) (Za rfl) Zy (!1) (!0)) (Zhg (Zb (Za rfl) (Zb Zy Zh)) (Ybd _ _)) ?_)) (Za rfl)) ?_
  .split<;>omega
  .rw[hmo,Qq];rfl
 obtain⟨q,h1,h2⟩:=Zzj (e:=Z4 Zer J2 (Z0 8)) (δ:=[zf (.int n),zf (.list (rs.map pD)),zf (Zn vs),zf (.int far),zf (dI a),zf (pD road),zf (.int way),zf (dI (10+t)),zf (.list (mo.map pD))]) (Zln (p:=rs) (q:=mo) (Za rfl) (Za rfl) (!0)) (by rw[Xv];omega);refine⟨((10+t:Nat):Int),q,Z2 (Z7 e1) (Z2 (Z7 e2) (Za5 (Zbb (Zb (Za (d:=dI (10+t)) rfl) (Zb h1 Zh)) (show 2<=1000 by decide)))),?_⟩;rw[h2,Xv];omega
def Zty{n:Nat}{rs:List (Int×Int)}{vs:List Int}(far:Int)(n1:1<=n)(n10:n<=10)(hr:rs.length<=22)(hv:vs.length=4):∃(m:Int) (q:List (Int×Int)),Told Ji [dI n,.list (rs.map pD),Zn vs,.int far] (.tuple [.int m,.list (q.map pD)])/\q.length<64:=by
 obtain⟨a,ha,la⟩:=Jo (vs.getD 1 0) (n:=max 1 rs.length) (!0);have nz:(n:Int)≠0:=by omega
 have a22:a<=22:=by omega
 have st:Zck 9 [dI n,.list (rs.map pD),Zn vs,.int far]=[zf (dI n),zf (.list (rs.map pD)),zf (Zn vs),zf (.int far),YC,YC,YC,YC,YC]:=rfl;have s1:wE (Zd Js (Z4 gIx Jh Zfo) (Zem Z2a (Zf Zfo Ybp))) (Y8 4) [zf (dI n),zf (.list (rs.map pD)),zf (Zn vs),zf (.int far),YC,YC,YC,YC,YC]= .nx [zf (dI n),zf (.list (rs.map pD)),zf (Zn vs),zf (.int far),zf (dI a),YC,YC,YC,YC]:=by
  refine(Z7 (d:=dI a) ((Wb (j:=((max 1 rs.length:Nat):Int)) (Ww (p:=vs) (i:=1) (Za rfl) Zy (!1) (!0)) ((Zhg (Zb Zy (Zb (Zhr (Za rfl)) Zh)) (Z8t _ _)).cast (YW Xu ?_)) (!0)).cast ?_)).trans rfl
  .rw[Xd]
   split<;>omega
  .exact YW Xu ha
 obtain⟨road,hroad⟩:∃r,r=(rs++[(0,0)]).getD a (0,0):=⟨_,rfl⟩;have s2:wE (Z4 gIx (Z4 Zer J2 (Zc2 (Zf (Zbv (Zf Zk8 (Zf Zk8 Z5))) Z5))) Zba) (Y8 5) [zf (dI n),zf (.list (rs.map pD)),zf (Zn vs),zf (.int far),zf (dI a),YC,YC,YC,YC]= .nx [zf (dI n),zf (.list (rs.map pD)),zf (Zn vs),zf (.int far),zf (dI a),zf (pD road),YC,YC,YC]:=(Z7 (d:=pD road) (by rw[hroad];exact Zfu (Zln (q:=[(0,0)]) (Za rfl) (Ztj (Zqx Zy Zy)) (by simp only[Qd,QH];omega)) (Za rfl) (Z43 (by rw[Xv];simp only[Qd,QH];omega)))).trans rfl;obtain⟨w,hw⟩:∃w,w=(vs.getD 0 0).fmod 10:=⟨_,rfl⟩;have s3:wE (Zd Js (Z4 gIx Jh Zk8) (fI 10)) (Y8 6) [zf (dI n),zf (.list (rs.map pD)),zf (Zn vs),zf (.int far),zf (dI a),zf (pD road),YC,YC,YC]= .nx (eS (n:Int) rs vs far a road w):=(Z7 (d:=.int w) (by rw[hw];exact Wb (Ww (p:=vs) (i:=0) (Za rfl) Zy (!1) (!0)) Zy (!1))).trans rfl
 by_cases c9:w=9
 .obtain⟨m,q,h1,h2⟩:=Yjc (far:=far) (a:=a) (road:=road) (way:=w) n1 n10 hr hv
  exact⟨m,q,Yk rfl (Z2 s1 (Z2 s2 (Z2 s3 (Zbg (Zgh (Jp (Zde (Za rfl) Zy (YS c9))) h1))))),h2⟩
 obtain⟨q1,h1,l1⟩:=Yi2 (n:=(n:Int)) (rs:=rs) (vs:=vs) (far:=far) (a:=a) (road:=road) (way:=w) hr (!1) la;obtain⟨q2,h2,l2⟩:=Z7z (n:=(n:Int)) (vs:=vs) (far:=far) (a:=a) (road:=road) (way:=w) (c:=2) l1 (Zy3 (m:=Z0 5) (lo:=Z0 4) (r:=road) l1 (!1) (!0) (XD a) (Za rfl) Zh2);obtain⟨q3,h3,l3⟩:=Z7z (n:=(n:Int)) (vs:=vs) (far:=far) (a:=a) (road:=road) (way:=w) (c:=3) l2 (Zy3 (k:=a+1) (lo:=Zd Za0 Zba Zfo) (m:=Zbv (Zf (Z4 gIx Zjv Zfo) (Zf (Z4 gIx Zjv Zk8) Z5))) (r:=(road.2,road.1)) l2 (!1) (!0) (!0) (Zqx (Zfu (d:=.int road.2) (Za rfl) Zy rfl) (Zfu (d:=.int road.1) (Za rfl) Zy rfl)) ((Jd Zh2 Zy).cast (YW Xu (!0))));obtain⟨q4,h4,l4⟩:=Z7z (n:=(n:Int)) (vs:=vs) (far:=far) (a:=a) (road:=road) (way:=w) (c:=4) l3 (Yjz l3 (!1) hv nz);obtain⟨q5,h5,l5⟩:=Z7z (n:=(n:Int)) (vs:=vs) (far:=far) (a:=a) (road:=road) (way:=w) (c:=5) l4 (Yj1 l4 (!1) (!0));obtain⟨q6,h6,l6⟩:=Z7z (n:=(n:Int)) (vs:=vs) (far:=far) (a:=a) (road:=road) (way:=w) (c:=6) l5 (Yj3 l5 (!1) hv nz);obtain⟨m7,h7⟩:=c_n (n:=(n:Int)) (rs:=q6) (vs:=vs) (far:=far) (a:=a) (road:=road) (way:=w) (c:=7) (Yjv hv);obtain⟨m8,h8⟩:=c_n (n:=m7) (rs:=q6) (vs:=vs) (far:=far) (a:=a) (road:=road) (way:=w) (c:=8) (e:=Zd Za0 Wj Zfo) ⟨_,Jd (Za rfl) Zy⟩;exact⟨m8,q6,Yk rfl (Z2 s1 (Z2 s2 (Z2 s3 (Z2 (Z6 (Jp (Zde (Za rfl) Zy (YT c9))) rfl) (Z2 h1 (Z2 h2 (Z2 h3 (Z2 h4 (Z2 h5 (Z2 h6 (Z2 h7 (Z2 h8 (Za5 (Zbb (Zb (Za rfl) (Zb (Za rfl) Zh)) (show 2<=1000 by decide))))))))))))))),by omega⟩
def Zsp(l:List Int)(lo hi:Option Int):∃l':List Int,cutD (l.map Xu) lo hi=l'.map Xu/\l'.length<=l.length:=by
 refine⟨(l.drop (HT.sIx l.length 0 lo)).take (HT.sIx l.length l.length hi-HT.sIx l.length 0 lo),?_,?_⟩
 .unfold cutD
  rw[Xd,List.map_take,List.map_drop]
 .rw[Bk,Bb];omega
def Z6p(h:∀d∈ds,Wm d=YD):Zce ds=YD:=by
 induction ds with
 | nil=>rfl
 | cons d ds ih=>rw[Zce,h d (.head _),ih λe he=>h e (.tail _ he)];rfl
def Zzs(b:Bool):gNe (Zz9 b) (Zz9 b)=YB (.bool YF):=by
 have sb:∀b:Bool,Sh 0 (.bool b):=λb=>⟨rfl,Nat.le_of_eq rfl⟩;have h:Sh 1 (Zz9 b):=by
  cases b with
  | true=>exact Zhq (n:=0) λd hd=>nomatch hd
  | false=>
   refine Zhq (n:=0) λd hd=>?_;rcases Xn.mp hd with rfl|hd
   .exact sb _
   .rcases Xn.mp hd with rfl|hd
    .exact sb _
    .rw[Xp.mp hd];exact sb _
 unfold gNe;rw[YM (by rw[(h.shp (!1)).ok];rfl)];exact YW (λb=>YB (Uv (!b))) (PySem.SeqAt.eqv_refl _ h.1)
def Ycw(rs:List (Int×Int)):gNe (.list (rs.map pD)) (.list (rs.map pD))=YB (.bool YF):=by
 refine Zwt (n:=2) (Zhq λd m=>?_) ?_ (!1)
 .obtain⟨r,_,rfl⟩:=XF.mp m
  exact Zl9 [r.1,r.2]
 .rw[Wm]
  refine Z6p λd m=>?_;obtain⟨r,_,rfl⟩:=XF.mp m;rfl
def Yki:Zrl (.int 10) (.int 39)=YB (.int 1000000000000000000000000000000000000000):=rfl
def lw(ns:List Int)(z1 z2 z3 z4 z5 z6:Option OT):Ze:=[zf (Zn ns),z1,z2,z3,z4,z5,z6]
def Zxx(ns:List Int)(hl:ns.length<=63):Ze3 [.list (ns.map Xu)]= .ok (.fz (.bool YD)):=by
 show Ze3 [Zn ns]=_;obtain⟨c0,e0⟩:=Zp1 ns (k:=0) (!1);obtain⟨cs,ecs,lcs⟩:=Zsp ns (YB 1) (YB 8);have hi:EvI (Zf0 (Z4 Zer (fSl Wj (oI Zfo) (oI (fI 8))) (Zc2 (Zf (Yo We (Zf Wj (Zf Zk8 Z5))) Z5)))) (lw ns YC YC YC YC YC YC) ((cs++[c0]).map Xu):=by
  refine Jr ((Zz0 (ds:=cs.map Xu) (es:=[.int c0]) ((Zyf (ds:=ns.map Xu) (Za rfl) (Yav Zy) (Yav Zy)).cast (by rw[ecs])) (Zfr (Zb (Ye (Zb (Za rfl) (Zb Zy Zh)) (Told.of e0 (OT.data_fz _))) Zh) (show 1<=1000 by decide)) ?_).cast (by rw[Qx];rfl));rw[Xd];show cs.length+1<=_;omega
 refine Told.ok (Yk rfl ?_);show Zmf Ze2 (lw ns YC YC YC YC YC YC) _;refine Zpg (ds:=(cs++[c0]).map Xu) (λ_ δ=>∃z1 z2 z3 z4 z5 z6,δ=lw ns z1 z2 z3 z4 z5 z6) hi ⟨_,_,_,_,_,_,rfl⟩ (λi d δ hd q=>?_) λδ' q=>?_
 .obtain⟨z1,z2,z3,z4,z5,z6,rfl⟩:=q
  obtain⟨c,_,rfl⟩:=XF.mp (Qg hd);obtain⟨n,rs,T1,n1,n10,wl⟩:=Z66 c;obtain⟨vs,T2,hv⟩:=Zop (c.fdiv 3) 4 2520 (!1) (!1);obtain⟨m,q,T3,ql⟩:=Zty (rs:=rs) (c.fmod 1000000000000000000000000000000000000000) n1 n10 (!0) hv;obtain⟨g,T4,hg⟩:=Zu3 (n:=m) (rs:=q) (!0);obtain⟨T5,T6⟩:=Zqt ql hg;refine⟨_,lw ns (zf (.int c)) (zf (.int m)) (zf (.list (q.map pD))) (zf (Zn vs)) (zf (Zz9 g)) (zf (.list (q.map pD))),rfl,.inl ?_,_,_,_,_,_,_,rfl⟩;refine Zx (δ':=lw ns (zf (.int c)) (zf (dI n)) (zf (.list (rs.map pD))) z4 z5 z6) (Zri (Ye (Zb (Za rfl) (Zb Zy Zh)) T1) rfl) ?_;refine Zx (Z7 (Ye (Zb (Zet (Za rfl) Zy) (Zb Zy (Zb Zy Zh))) T2)) ?_;refine Zx (δ':=lw ns (zf (.int c)) (zf (.int m)) (zf (.list (q.map pD))) (zf (Zn vs)) z5 z6) (Zri (Ye (Zb (Za rfl) (Zb (Za rfl) (Zb (Za rfl) (Zb (Wb (Za rfl) (Zo Zy Zy Yki) (!1)) Zh)))) T3) rfl) ?_;refine Zx (Z7 (Zfr Zh (show 0<=1000 by decide))) ?_;have s5:Ws Yg1 Yho fNx (lw ns (zf (.int c)) (zf (.int m)) (zf (.list (q.map pD))) (zf (Zn vs)) (zf (.list [])) z6)= .nx (lw ns (zf (.int c)) (zf (.int m)) (zf (.list (q.map pD))) (zf (Zn vs)) (zf (Zz9 g)) z6):=by
   cases g with
   | true=>exact Z6 (Zej (p:=YD) (Zla (Ye (Zb (Za rfl) (Zb (Za rfl) Zh)) T4))) rfl
   | false=>exact Y9 (Zej (p:=YF) (Zla (Ye (Zb (Za rfl) (Zb (Za rfl) Zh)) T4))) (Z7 (Zfr (Zb Zy (Zb Zy (Zb Zy Zh))) (show 3<=1000 by decide)))
  refine Zx s5 ?_;refine Zx (Z7 (d:=.list (q.map pD)) (Z0p (Zb (Za (d:=.list (q.map pD)) rfl) Zh) (Z2x _) (by rw[OT.data_nd,OT.map_fz]))) ?_;exact Z6 (Zvt (Jp (Zo (Ye (Zb (Za rfl) (Zb (Za rfl) Zh)) T5) (Za rfl) (Zzs g))) (Zvt (Jp (Zo (Ye (Zb (Za rfl) (Zb (Za rfl) Zh)) T6) (Za rfl) (Zzs g))) (Jp (Zo (Za rfl) (Za rfl) (Ycw q))))) rfl
 .obtain⟨z1,z2,z3,z4,z5,z6,rfl⟩:=q
  exact Za5 Zy
end My
namespace L2
open PySem PySem.Spec PyProof.Rows
structure Ei(K:Xc)(x:Str)(st:YK)(f:YG)(fd:Ql):Prop where
 a:Qv K Qa x=YB (YB (.ref f))
 F:Fun K x x st f fd
structure En(K:Xc)(mg:Str->Option Xe)(x:Str)(st:YK)(ps:List Str)(f:YG)(fd:Ql):Prop where
 F:Fun K x x st f fd
 b:Binds K fd ps []
 m:mg x=YB (.ref f)
structure Ec(K:Xc)(mg:Str->Option Xe)(x:Str)(f:YG):Prop where
 m:mg x=YB (.ref f)
 a:ClsAt K x f
end L2
variable {far:Int}{road:Int×Int}{rs:List (Nat×Nat)}{ks ed:List Nat}{B:Nat}{o6 o4 o5 o9 oa:Option OT}{p0 p1:Str}
namespace L2
open PySem PySem.Spec PyProof.Rows
section
variable {f:YG}{fd:Ql}
def en0(X:K.In h)(G:h.Ns Qa mg)(q:Ei K x st f fd)(hb:∀(kV doc pm:Xe) (an:Option YG) (cdv ct:Xe) (us:List Xe),us.length=ps.length->bindArgs (Ud x x (Zfe st) (Ju st) (Zi st) .none kV doc pm an cdv ct) ⟨us,[]⟩=pure (ps.zip us)):En K mg x st ps f fd:=⟨q.F,q.F.binds hb,PySem.W.mg_of X G q.a⟩
abbrev Bd(x:Str)(st:YK)(ps:List Str)(us:List Xe):Prop:=∀(kV doc pm:Xe) (an:Option YG) (cdv ct:Xe),bindArgs (Ud x x (Zfe st) (Ju st) (Zi st) .none kV doc pm an cdv ct) ⟨us,[]⟩=pure (ps.zip us)
def l_c{n:Nat}(h:us.length=n+1):∃u vs,us=u::vs/\vs.length=n:=by
 cases us with
 | nil=>cases h
 | cons u vs=>exact⟨u,vs,rfl,Nat.succ.inj h⟩
def en1(X:K.In h)(G:h.Ns Qa mg)(q:Ei K x st f fd)(hb:∀v0,Bd x st [p0] [v0]:=by exact λ_ _ _ _ _ _ _=>rfl):En K mg x st [p0] f fd:=en0 X G q λa b c d e g us hl=>by
 have h0:us.length=1:=hl;obtain⟨u0,us0,e0,h1⟩:=l_c h0;cases Bg h1;subst e0;exact hb u0 a b c d e g
def en2(X:K.In h)(G:h.Ns Qa mg)(q:Ei K x st f fd)(hb:∀v0 v1,Bd x st [p0,p1] [v0,v1]:=by exact λ_ _ _ _ _ _ _ _=>rfl):En K mg x st [p0,p1] f fd:=en0 X G q λa b c d e g us hl=>by
 have h0:us.length=2:=hl;obtain⟨u0,us0,e0,h1⟩:=l_c h0;obtain⟨u1,us1,e1,h2⟩:=l_c h1;cases Bg h2;subst e1;subst e0;exact hb u0 u1 a b c d e g
def en3(X:K.In h)(G:h.Ns Qa mg)(q:Ei K x st f fd){p2:Str}(hb:∀v0 v1 v2,Bd x st [p0,p1,p2] [v0,v1,v2]:=by exact λ_ _ _ _ _ _ _ _ _=>rfl):En K mg x st [p0,p1,p2] f fd:=en0 X G q λa b c d e g us hl=>by
 have h0:us.length=3:=hl;obtain⟨u0,us0,e0,h1⟩:=l_c h0;obtain⟨u1,us1,e1,h2⟩:=l_c h1;obtain⟨u2,us2,e2,h3⟩:=l_c h2;cases Bg h3;subst e2;subst e1;subst e0;exact hb u0 u1 u2 a b c d e g
def en4(X:K.In h)(G:h.Ns Qa mg)(q:Ei K x st f fd){p2 p3:Str}(hb:∀v0 v1 v2 v3,Bd x st [p0,p1,p2,p3] [v0,v1,v2,v3]:=by exact λ_ _ _ _ _ _ _ _ _ _=>rfl):En K mg x st [p0,p1,p2,p3] f fd:=en0 X G q λa b c d e g us hl=>by
 have h0:us.length=4:=hl;obtain⟨u0,us0,e0,h1⟩:=l_c h0;obtain⟨u1,us1,e1,h2⟩:=l_c h1;obtain⟨u2,us2,e2,h3⟩:=l_c h2;obtain⟨u3,us3,e3,h4⟩:=l_c h3;cases Bg h4;subst e3;subst e2;subst e1;subst e0;exact hb u0 u1 u2 u3 a b c d e g
def ec(X:K.In h)(G:h.Ns Qa mg)(a:Qv K Qa x=YB (YB (.ref f))):Ec K mg x f:=⟨PySem.W.mg_of X G a,a⟩
end
def fsc{P:List Str}{sc:YL}(h1:sc.kind= .function:=by rfl)(h2:sc.isCoroutine=YF:=by rfl)(h3:sc.isGenerator=YF:=by rfl)(h4:N.Nodup:=by decide +kernel)(h5:N.take P.length=P:=by rfl)(h6:∀x∈P,sc.names.lookup x=YB .local\/sc.names.lookup x=YB .cell:=by decide +kernel)(h7:∀y∈sc.names,y.2≠ .free:=by decide +kernel):Zv N P sc:=⟨h1,h2,h3,h4,h5,h6,h7⟩
section
variable {f g:FS}{ta:FT}
abbrev BS(X:Cx)(io:List Nat)(st:YK)(f:FS):Prop:=MS X io st (oS f)/\XS X io st (xS X.K f)
abbrev BSs(X:Cx)(io:List Nat)(sts:List YK)(f:FS):Prop:=MSs X io sts (oS f)/\XSs X io sts (xS X.K f)
def Zvr(m:MS X io st (oS f))[NoEx f]:BS X io st f:=⟨m,Yfh f⟩
def Ze1(m:MSs X io sts (oS f))[NoEx f]:BSs X io sts f:=⟨m,Ybi f⟩
def Zai(a:BS X io st f)(b:BSs X io sts g)(hx:X.xe= λ_ _=>False:=by rfl):BSs X io (st::sts) (Zt f g):=⟨xsq a.1 b.1,Z84 a.2 a.1 b.2 hx⟩
def Zf2(a:BS X io st f):BSs X io [st] f:=⟨Zg a.1,Z1j a.2⟩
def Z5g(h:MT X io p e (o2 ta))(a:BSs X io ss f)(b:BSs X io ss' g)(hx:X.xe= λ_ _=>False:=by rfl):BS X io (.If e ss ss' pos) (Ws ta f g):=⟨xif h a.1 b.1,Ycs (Yc5 h a.2 b.2 hx)⟩
def Zwd{it:FI}(hc:X.calm=YD)(hi:MI X io p YD tg e (o2 it))(hg:MG X io YD tg (oG gg))(hb:BSs X io ss f)(hx:X.xe= λ_ _=>False:=by rfl)(hex:X.ex=[]:=by rfl)(hst:X.stack=X.env::X.outer:=by rfl)(hf:X.env.frame=YB X.env.locals:=by rfl)(hs:∀x,JX e X.env x=pure x:=by intro _;rfl):BS X io (.For tg e ss [] pos) (Jx it gg f):=⟨xfr (hx▸Qu) hc hi hg hb.1 hs,Z9l (Z9f hc hi hg hb.1 hb.2 hx hex hst hf hs)⟩
def b_x(m:MA X io p c es (o2 ra)->MS X io st (oS f))(x:MA X io p c es (o2 ra)->XS X io st (xS X.K f))(a:MA X io p c es (o2 ra)):BS X io st f:=⟨m a,x a⟩
def Yic(h:BSs X io sts f):XSs X io sts (xS X.K f):=h.2
end
section
variable {k k':Nat}{f:YG}{fd:Ql}
def xce(G:FnOk X.prog X.w X.K X.mg X.base CX0 k f fd ps (spD X.K (sD F)))(hr:Room k' X.A)(E:En X.K X.mg x st ps f fd)(ha:MA X io p c (e::es) (o2 ra))(hle:k<=k':=by decide)(hg:Gl X x:=by rfl)(h1:(x==("__debug__" : Str))=YF:=by decide)(h2:Xo (e::es) X.env=(YF,eval e X.env)::Xo es X.env:=by rfl)(h3:((Q3 pos (Xo es X.env)).any λx=>x.fst)=YF:=by rfl):ME X io p c (.Call (.Name x pp) (e::es) [] pos) (o2 (Yo F ra)):=xcl G (hr.mono hle) E.m E.F.kp E.b ha hg h1 h2 h3
def xee{S}(G:FnOk X.prog X.w X.K X.mg X.base (CX1 X.prog X.w) k f fd ps (spX X.K S))(hr:Room k' X.A)(E:En X.K X.mg x st ps f fd)(ha:MA X io p c (e::es) mr)(hle:k<=k':=by decide)(hg:Gl X x:=by rfl)(hex:X.ex=[]:=by rfl)(hx:X.xe= λ_ _=>False:=by rfl)(h1:(x==("__debug__" : Str))=YF:=by decide)(h2:Xo (e::es) X.env=(YF,eval e X.env)::Xo es X.env:=by rfl)(h3:(Q3 pos (Xo es X.env)).any (·.1)=YF:=by rfl):XE X io (.Call (.Name x pp) (e::es) [] pos) (Zoc S mr):=Z14 G (hr.mono hle) hg E.m E.F.kp E.b ha hex hx h1 h2 h3
end
section
variable {pt:Bool}{sc:YL}{g:MGt}{mt:MTt}{me:MEt}
theorem Zlj(own:List Str)(caps:List Nat)(N':List Str)(hi:MI X io p ci tg iter mi)
  (hg:∀C cells s₂ H₂ fp,MG (Y6 X N' sc C cells s₂ H₂ fp) (Za6 own.length caps) ci tg g) (ht:∀C cells s₂ H₂ fp,MIfs (Y6 X N' sc C cells s₂ H₂ fp) (Za6 own.length caps) pt ifs mt) (he:∀C cells s₂ H₂ fp,ME (Y6 X N' sc C cells s₂ H₂ fp) (Za6 own.length caps) pe YD elt me)
  (S:CompScope X own caps N' sc:=by exact⟨rfl,by decide +kernel,rfl,by decide +kernel,rfl,rfl⟩) (hc:X.calm=YD:=by rfl) (nd:caps.Nodup:=by decide) (hp:(pt&&pe)=YD:=by rfl) (hs:∀x,JX iter X.env x=pure x:=by intro _;rfl):ME X io p YD (.ListComp elt [⟨tg,iter,ifs,0⟩] sc pos) (Zhn own.length caps mi g mt me):=Z8z S hc nd hi hg ht he hp hs
end
def Zhm{base:YH}{f:YG}{fd:Ql}{n nn:Nat}{S:FS}(F:Fun K x qual st f fd)(Sc:Zv N ps (Zi st))(hN:N.length=nn)(hp:np=ps.length)
  (hb:∀(CX:CXT) (cdv:Xe) (A:Qn) (outer:List Env) (s:Xf) (H:Hp) (E:XK),Room n (A.deeper (envOfC qual (Zi st) s.heap.objs.size f cdv))->BSs (Zvd CX P w K mg base N qual (Zi st) f cdv A outer s H E).nox [] (Ju st) S) :
  FnOk P w K mg base CX0 (n+1) f fd ps (spD K (sD (Jv np nn S)))/\FnOk P w K mg base (CX1 P w) (n+1) f fd ps (spX K (sX K (Jv np nn S))) :=
 ⟨W3 F Sc hN hp λcdv A outer s H E hr=>(hb CX0 cdv A outer s H E hr).1,Yac F Sc hN hp λcdv A outer s H E hr=>(hb (CX1 P w) cdv A outer s H E hr).2⟩
end L2
namespace My
open PySem L2 PySem.Spec
def top(i:Nat):YK:=PySem.Challenge.pw_farcuts_k60_no_web.main.body.getD i (.Pass ⟨0,0,0,0⟩)
abbrev Zbo:YK:=top 36
abbrev Zb8:YK:=top 28
abbrev Zdf:YK:=top 29
abbrev Zfb:YK:=top 17
abbrev Zab:YK:=top 30
abbrev Jg:YK:=top 31
abbrev Ze4:YK:=top 13
abbrev Zau:YK:=top 20
abbrev Zka:YK:=top 21
abbrev Zav:YK:=top 32
abbrev Zbn:YK:=top 24
abbrev Jt:YK:=top 16
abbrev Zdm:YK:=top 19
abbrev Zbe:YK:=top 23
abbrev Zb7:YK:=top 25
abbrev Zfd:YK:=top 26
abbrev Zgw:YK:=top 33
abbrev Zbd:YK:=top 34
abbrev Wo:YK:=top 40
abbrev Zcm:YK:=top 41
abbrev Zbm:YK:=top 37
abbrev Zcf:YK:=top 42
abbrev Zdq:YK:=top 27
abbrev W0:YK:=top 39
abbrev Zgf:YK:=top 38
abbrev Z0v:YK:=top 43
set_option genInjectivity false in
set_option genSizeOfSpec false in
structure Txt(K:Xc)(mg:Str->Option Xe)(f:Nat->YG)(fd:Nat->Ql)(cls:Nat->YG):Prop where
 e_law_cell_at:En K mg "_law_cell_at" Zbo ["script","k"] (f 0) (fd 0)
 e_first_even:En K mg "first_even" Zb8 ["rows","roads"] (f 1) (fd 1)
 e_far_sides:En K mg "far_sides" Zdf ["rows","a","b"] (f 2) (fd 2)
 e_pairs_of:En K mg "pairs_of" Zfb ["n"] (f 3) (fd 3)
 e_first_leaving:En K mg "first_leaving" Zab ["rows","sides"] (f 4) (fd 4)
 e_first_not_whole:En K mg "first_not_whole" Jg ["rows","roads"] (f 5) (fd 5)
 e_is_whole:En K mg "is_whole" Ze4 ["thing"] (f 6) (fd 6)
 e_check_points:En K mg "check_points" Zau ["n","points"] (f 7) (fd 7)
 e_cut_of:En K mg "cut_of" Zka ["n","points"] (f 8) (fd 8)
 e_halving_cuts:En K mg "halving_cuts" Zav ["rows","roads"] (f 9) (fd 9)
 e_beside_each:En K mg "beside_each" Zbn ["n","roads"] (f 10) (fd 10)
 e_is_point_count:En K mg "is_point_count" Jt ["n"] (f 11) (fd 11)
 e_is_rising:En K mg "is_rising" Zdm ["things"] (f 12) (fd 12)
 e_check_roads:En K mg "check_roads" Zbe ["n","roads"] (f 13) (fd 13)
 e_steps_from:En K mg "steps_from" Zb7 ["beside","start"] (f 14) (fd 14)
 e_web_rows:En K mg "web_rows" Zfd ["n","roads"] (f 15) (fd 15)
 e_word_of:En K mg "word_of" Zgw ["point","cuts"] (f 16) (fd 16)
 e_halved_told:En K mg "halved_told" Zbd ["n","roads"] (f 17) (fd 17)
 e_law_halves_refused:En K mg "_law_halves_refused" Wo ["n","roads"] (f 18) (fd 18)
 e_law_is_web:En K mg "_law_is_web" Zcm ["n","roads"] (f 19) (fd 19)
 e_law_numbers:En K mg "_law_numbers" Zbm ["cell","many","base"] (f 20) (fd 20)
 e_law_spoilt:En K mg "_law_spoilt" Zcf ["n","roads","row","far"] (f 21) (fd 21)
 e_web_table:En K mg "web_table" Zdq ["n","roads"] (f 22) (fd 22)
 e_law_table_refused:En K mg "_law_table_refused" W0 ["n","roads"] (f 23) (fd 23)
 e_law_web:En K mg "_law_web" Zgf ["cell","most"] (f 24) (fd 24)
 e_law:En K mg "law" Z0v ["script"] (f 25) (fd 25)
 g_MOST_POINTS:∃t,mg "MOST_POINTS"=YB (.int 10 t)
 z_ValueError:mg "ValueError"=YC
 z_bool:mg "bool"=YC
 z_enumerate:mg "enumerate"=YC
 z_int:mg "int"=YC
 z_isinstance:mg "isinstance"=YC
 z_len:mg "len"=YC
 z_list:mg "list"=YC
 z_max:mg "max"=YC
 z_min:mg "min"=YC
 z_range:mg "range"=YC
 z_set:mg "set"=YC
 z_sorted:mg "sorted"=YC
 z_zip:mg "zip"=YC
 c_CutError:Ec K mg "CutError" (cls 0)
 c_NoCut:Ec K mg "NoCut" (cls 1)
 c_NoName:Ec K mg "NoName" (cls 2)
 c_NoNumber:Ec K mg "NoNumber" (cls 3)
 c_NoOrder:Ec K mg "NoOrder" (cls 4)
 c_NoPoint:Ec K mg "NoPoint" (cls 5)
 c_NoRow:Ec K mg "NoRow" (cls 6)
 c_NoTable:Ec K mg "NoTable" (cls 7)
 c_NoText:Ec K mg "NoText" (cls 8)
 c_NoWeb:Ec K mg "NoWeb" (cls 9)
 c_TooMany:Ec K mg "TooMany" (cls 10)
 x_NoCut:Zbl K (cls 1)
 x_NoWeb:Zbl K (cls 9)
 r_CutError:Zj5 K (cls 0)
 r_NoCut:Zj5 K (cls 1)
 r_NoWeb:Zj5 K (cls 9)
 u_NoCut_CutError:Vh K (.ref (cls 1)) (.ref (cls 0))=YB YD
 kt_NoCut_NoWeb:QC K (.ref (cls 1)) (.ref (cls 9))=YB YF
 kt_NoCut_ValueError:QC K (.ref (cls 1)) (.type "ValueError")=YB YD
 ka_NoCut_0:VF K (.ref (cls 1)) [.ref (cls 1),.ref (cls 2),.ref (cls 3),.ref (cls 4),.ref (cls 5),.ref (cls 6),.ref (cls 7),.ref (cls 8),.ref (cls 10)]=YB YD
 u_NoWeb_CutError:Vh K (.ref (cls 9)) (.ref (cls 0))=YB YD
 kt_NoWeb_NoWeb:QC K (.ref (cls 9)) (.ref (cls 9))=YB YD
 kt_NoWeb_ValueError:QC K (.ref (cls 9)) (.type "ValueError")=YB YD
 ka_NoWeb_0:VF K (.ref (cls 9)) [.ref (cls 1),.ref (cls 2),.ref (cls 3),.ref (cls 4),.ref (cls 5),.ref (cls 6),.ref (cls 7),.ref (cls 8),.ref (cls 10)]=YB YF
end My
variable {f cls:Nat->YG}{fd:Nat->Ql}
namespace My
open PySem L2 PySem.Spec
def Txt.kx_NoWeb(T:Txt K mg f fd cls):∀x∈xsL,∃C,ClsAt K x C/\QC K (.ref C) (.ref (cls 9))=YB (Zqy x "NoWeb"):=λx hx=>by
 simp only[xsL,Xn,BW,or_false]at hx;rcases hx with rfl|rfl
 .exact⟨_,T.c_NoCut.a,T.kt_NoCut_NoWeb.trans (YW YB (by decide +kernel))⟩
 .exact⟨_,T.c_NoWeb.a,T.kt_NoWeb_NoWeb.trans (YW YB (by decide +kernel))⟩
def Txt.kx_ValueError(T:Txt K mg f fd cls):∀x∈xsL,∃C,ClsAt K x C/\QC K (.ref C) (.type "ValueError")=YB (Zqy x "ValueError"):=λx hx=>by
 simp only[xsL,Xn,BW,or_false]at hx;rcases hx with rfl|rfl
 .exact⟨_,T.c_NoCut.a,T.kt_NoCut_ValueError.trans (YW YB (by decide +kernel))⟩
 .exact⟨_,T.c_NoWeb.a,T.kt_NoWeb_ValueError.trans (YW YB (by decide +kernel))⟩
def Txt.kxt_0(T:Txt K mg f fd cls):∀x∈xsL,∃C,ClsAt K x C/\VF K (.ref C) [.ref (cls 1),.ref (cls 2),.ref (cls 3),.ref (cls 4),.ref (cls 5),.ref (cls 6),.ref (cls 7),.ref (cls 8),.ref (cls 10)]=YB ((["NoCut","NoName","NoNumber","NoOrder","NoPoint","NoRow","NoTable","NoText","TooMany"]:List Str).any (Zqy x)):=λx hx=>by
 simp only[xsL,Xn,BW,or_false]at hx;rcases hx with rfl|rfl
 .exact⟨_,T.c_NoCut.a,T.ka_NoCut_0.trans (YW YB (by decide +kernel))⟩
 .exact⟨_,T.c_NoWeb.a,T.ka_NoWeb_0.trans (YW YB (by decide +kernel))⟩
def Txt.ku_CutError(T:Txt K mg f fd cls):∀x∈xsL,Zqy x "CutError"=YD->∃C,ClsAt K x C/\Zbl K C/\Vh K (.ref C) (.ref (cls 0))=YB YD:=λx hx=>by
 simp only[xsL,Xn,BW,or_false]at hx;rcases hx with rfl|rfl
 .exact λ_=>⟨_,T.c_NoCut.a,T.x_NoCut,T.u_NoCut_CutError⟩
 .exact λ_=>⟨_,T.c_NoWeb.a,T.x_NoWeb,T.u_NoWeb_CutError⟩
section
variable {base:YH}
def Zh4:Zv ["script","k"] ["script","k"] (Zi Zbo):=fsc
def Zh0(T:Txt K mg f fd cls):FnOk P w K mg base CX0 1 (f 0) (fd 0) ["script","k"] (spD K (sD We)):=by
 refine W3 T.e_law_cell_at.F Zh4 (S:=Zak) rfl rfl (λcdv A outer s H E hr=>?_);exact(xsq (xif (xlt (xv 1) (xln T.z_len (xa1 (xv 0)))) (Zg (xrt (xix (xv 0) (xv 1)))) xnl) (Zg (xrt xci)))
def J1:Zv ["rows","roads","a","b","x"] ["rows","roads"] (Zi Zb8):=fsc
def Zjo(T:Txt K mg f fd cls):FnOk P w K mg base CX0 1 (f 1) (fd 1) ["rows","roads"] (spD K (sD Je)):=by
 refine W3 T.e_first_even.F J1 (S:=Za9) rfl rfl (λcdv A outer s H E hr=>?_);have hu:=hr.units;exact(xsq (xfr Qu rfl (xil (xv 1)) (xg2 rfl (xg 2 J1.nd) (xg 3 J1.nd)) (Zg (xfr Qu rfl (Zdi (Yj (by rfl) T.z_range (xa1 (xln T.z_len (xa1 (xv 0)))))) (xg 4 J1.nd) (Zg (xif (xeq hu (xix (xix (xv 0) (xv 2)) (xv 4)) (xix (xix (xv 0) (xv 3)) (xv 4))) (Zg (xrt (xtp (Zc (xv 2) (Zc (xv 3) (xa1 (xv 4))))))) xnl))))) (Zg (xrt (Zeb Zip))))
def Zlq:Zv ["rows","a","b"] ["rows","a","b"] (Zi Zdf):=fsc
def Zfn(T:Txt K mg f fd cls):FnOk P w K mg base CX0 1 (f 2) (fd 2) ["rows","a","b"] (spD K (sD Wy)):=by
 refine W3 T.e_far_sides.F Zlq (S:=Zbw) rfl rfl (λcdv A outer s H E hr=>?_);exact(Zg (xrt (Zb1 (Zlj ["x"] [0,2,1] ["x","rows","b","a"] (Zdi (Yj (by rfl) T.z_range (xa1 (xln T.z_len (xa1 (xv 0)))))) (λ_ _ _ _ _=>(xg 0 (by show BZ (["x","rows","b","a"]:List Str);decide +kernel))) (λ_ _ _ _ _=>(Zbk Zbf)) (λ_ _ _ _ _=>(Zay Ycu (Zxk Zlr Zlw (xix (xix (xv 1) (xv 2)) (xv 0)) (xix (xix (xv 1) (xv 3)) (xv 0)) (hm:=(J4 _)))))))))
def Zbi:Zv ["n","pairs","i","j"] ["n"] (Zi Zfb):=fsc
def Zm8(T:Txt K mg f fd cls):FnOk P w K mg base CX0 1 (f 3) (fd 3) ["n"] (spD K (sD J5)):=by
 refine W3 T.e_pairs_of.F Zbi (S:=Zca) rfl rfl (λcdv A outer s H E hr=>?_);exact(xsq (xso 1 Zbi.nd (xls xa0)) (xsq (xfr Qu rfl (Zdi (Yj (by rfl) T.z_range (xa1 (xv 0)))) (xg 2 Zbi.nd) (Zg (xfr Qu rfl (Z2y (Zgx (by rfl) T.z_range (Zc (Zjh (xv 2) xci) (xa1 (xv 0))))) (xg 3 Zbi.nd) (Zg (Wi (Wh 1 (xtp (Zc (xv 2) (xa1 (xv 3)))))))))) (Zg (Zci (Zb3 1)))))
def Y7:Zv ["rows","sides","n","x","y","z"] ["rows","sides"] (Zi Zab):=fsc
def Zfx(T:Txt K mg f fd cls):FnOk P w K mg base CX0 2 (f 4) (fd 4) ["rows","sides"] (spD K (sD Wt)):=by
 have G_pairs_of:=Zm8 (P:=P) (w:=w) (base:=base) T;refine W3 T.e_first_leaving.F Y7 (S:=J0) rfl rfl (λcdv A outer s H E hr=>?_);have hu:=hr.units;exact(xsq (xst 2 Y7.nd (xln T.z_len (xa1 (xv 0)))) (xsq (xfr Qu rfl (xil (xce G_pairs_of hr T.e_pairs_of (xa1 (xv 2)))) (xg2 rfl (xg 3 Y7.nd) (xg 4 Y7.nd)) (Zg (xif (xeq hu (xix (xv 1) (xv 3)) (xix (xv 1) (xv 4))) (Zg (xfr Qu rfl (Zdi (Yj (by rfl) T.z_range (xa1 (xv 2)))) (xg 5 Y7.nd) (Zg (xif (MW.mt (Znu (Zo4 (xne hu (xix (xv 1) (xv 5)) (xix (xv 1) (xv 3))) (Zjr (xeq hu (Zjh (xix (xix (xv 0) (xv 3)) (xv 5)) (xix (xix (xv 0) (xv 5)) (xv 4))) (xix (xix (xv 0) (xv 3)) (xv 4))))))) (Zg (xrt (xtp (Zc (xv 3) (Zc (xv 4) (xa1 (xv 5))))))) xnl)))) xnl))) (Zg (xrt (Zeb Zip)))))
def Wd:Zv ["rows","roads","a","b","leaving"] ["rows","roads"] (Zi Jg):=fsc
def Zd0(T:Txt K mg f fd cls):FnOk P w K mg base CX0 3 (f 5) (fd 5) ["rows","roads"] (spD K (sD Wa)):=by
 have G_far_sides:=Zfn (P:=P) (w:=w) (base:=base) T;have G_first_leaving:=Zfx (P:=P) (w:=w) (base:=base) T;refine W3 T.e_first_not_whole.F Wd (S:=Jc) rfl rfl (λcdv A outer s H E hr=>?_);exact(xsq (xfr Qu rfl (xil (xv 1)) (xg2 rfl (xg 2 Wd.nd) (xg 3 Wd.nd)) (xsq (xst 4 Wd.nd (xce G_first_leaving hr T.e_first_leaving (Zc (xv 0) (xa1 (xce G_far_sides hr T.e_far_sides (Zc (xv 0) (Zc (xv 2) (xa1 (xv 3))))))))) (Zg (xif (W2 Znj (W5 Zmq Zm3 (xv 4) (Zeb Zip) (hm:=(J4 _)))) (Zg (xrt (Zdh (J9 Z77 (Zq6 Z3j Z3h (xtp (Zc (xv 2) (xa1 (xv 3)))) (xv 4)))))) xnl)))) (Zg (xrt (Zeb Zip))))
def Zm5:Zv ["thing"] ["thing"] (Zi Ze4):=fsc
def Zmj(T:Txt K mg f fd cls):FnOk P w K mg base CX0 1 (f 6) (fd 6) ["thing"] (spD K (sD Yz)):=by
 refine W3 T.e_is_whole.F Zm5 (S:=Zbz) rfl rfl (λcdv A outer s H E hr=>?_);exact(Zg (xrt (Z26 (Yfp (Zz3 (Yad (!1) (by rfl) T.z_isinstance L2.B.boot_isinstance (by rfl) T.z_int L2.B.boot_int (xv 0))) (Yfr (Z2p (Ydn (Zz3 (Yad (!1) (by rfl) T.z_isinstance L2.B.boot_isinstance (by rfl) T.z_bool L2.B.boot_bool (xv 0))))))))))
def Zb4:Zv ["n","points","point"] ["n","points"] (Zi Zau):=fsc
def Zfw(T:Txt K mg f fd cls):FnOk P w K mg base CX0 2 (f 7) (fd 7) ["n","points"] (spD K (sD Yi))/\FnOk P w K mg base (CX1 P w) 2 (f 7) (fd 7) ["n","points"] (spX K (sX K Yi)):=by
 have G_is_whole:=Zmj (P:=P) (w:=w) (base:=base) T;refine Zhm T.e_check_points.F Zb4 (S:=Wz) rfl rfl (λCX cdv A outer s H E hr=>?_);exact(Zf2 (Zwd rfl (Zff (Zep (Zj (mv 1)))) (W7 (W6 (i:=2) Zb4.nd))
   (Zf2 (Z5g (MW.mt (Zna (Zng (Zil (Zin (Zma (Zl6 (Wq (Jz G_is_whole (hr.mono (!1)) (by rfl) T.e_is_whole.m T.e_is_whole.F.kp T.e_is_whole.b Zc1 (Zc (Zj (mv 2)) (Z8 Z9)))) (λ_=>rfl))))) (Zij (Zil (Zin (Zv5 (Zwm Zs4 Zlr (Zeb Zgq) (Zj (mv 2)) (Zj (mv 0)))))))))) (Zf2 ⟨Zct,Zcr T.c_NoCut.a (Zcw rfl hr.hd (by rfl) T.c_NoCut.m T.r_NoCut)⟩) (Ze1 (Zaf Zac))))))
def Zkq:Zv ["n","points","others"] ["n","points"] (Zi Zka):=fsc
def Zp8(T:Txt K mg f fd cls):FnOk P w K mg base CX0 3 (f 8) (fd 8) ["n","points"] (spD K (sD Ja))/\FnOk P w K mg base (CX1 P w) 3 (f 8) (fd 8) ["n","points"] (spX K (sX K Ja)):=by
 obtain⟨G_check_points,GX_check_points⟩:=Zfw (P:=P) (w:=w) (base:=base) T;refine Zhm T.e_cut_of.F Zkq (S:=Zeg) rfl rfl (λCX cdv A outer s H E hr=>?_);have hu:=hr.units;exact(Zai (b_x (λq=>(Zwj (Zex (Zeu (Wq (Jz G_check_points (hr.mono (!1)) (by rfl) T.e_check_points.m T.e_check_points.F.kp T.e_check_points.b Zc1 q)))))) (λq=>Zju (Zdl (xee GX_check_points hr T.e_check_points q))) (Zc (Zj (mv 0)) (Zc (Zj (mv 1)) (Z8 Z9))))
   (Zai (Zvr (Zmv (Za2 (i:=2) (own:=["point"]) (caps:=[1]) (N':=["point","points"]) YF Zkq.nd rfl (QG rfl) (by exact⟨rfl,by decide +kernel,rfl,by decide +kernel,rfl,rfl⟩) (by rfl) (!1) (Zdi (Yj (by rfl) T.z_range (Zc (Zj (mv 0)) (Z8 Z9)))) (λ_ _ _ _ _=>(W7 (W6 (i:=0) (by show BZ (["point","points"]:List Str);decide +kernel)))) (λ_ _ _ _ _=>(Zj2 (W2 Zm6 (W5 (Zg8 rfl) Zmz (Zj (mv 0)) (Zj (mv 1)) (hm:=(by with_unfolding_all rfl)))))) (λ_ _ _ _ _=>(Zj (mv 0))))))
   (Zai (Z5g (MW.mt (Zna (Zng (W2 Yb2 (W5 (Zpc hu) Zx4 (Zel Zv3 (Zki Zn8 (Zdx rfl) (by rfl) T.z_len L2.B.boot_len (Zc (Zj (mv 1)) (Z8 Z9)))) (Zeb Zgq) (hm:=(J4 _)))) (Zij (W2 Yb2 (W5 (Zpc hu) Zx4 (Zel Zv3 (Zki Zn8 (Zdx rfl) (by rfl) T.z_len L2.B.boot_len (Zc (Zj (mv 2)) (Z8 Z9)))) (Zeb Zgq) (hm:=(J4 _)))))))) (Zf2 ⟨Zct,Zcr T.c_NoCut.a (Zcw rfl hr.hd (by rfl) T.c_NoCut.m T.r_NoCut)⟩) (Ze1 (Zaf Zac)))
   (Ze1 (Zy1 (Zo6 (Ztx (Zsk (W2 Zm6 (W5 (Zox rfl) Zmz (Zeb Zgq) (Zj (mv 1)) (hm:=(by with_unfolding_all rfl)))) (Zg (Zhf (Zgr (Zj (mv 2))))) (Zaf Zac)))
   (Zg (Zhf (Zgr (Zpp (Zu0 (by rfl) (by rfl) T.z_sorted L2.B.boot_sorted (by rfl) T.z_set L2.B.boot_set (Zc (Zj (mv 1)) (Z8 Z9)))))))))))))
def Wg:Zv ["rows","roads","cuts","a","b","cut"] ["rows","roads"] (Zi Zav):=fsc
def Zfv(T:Txt K mg f fd cls):FnOk P w K mg base CX0 4 (f 9) (fd 9) ["rows","roads"] (spD K (sD Y0))/\FnOk P w K mg base (CX1 P w) 4 (f 9) (fd 9) ["rows","roads"] (spX K (sX K Y0)):=by
 obtain⟨G_cut_of,GX_cut_of⟩:=Zp8 (P:=P) (w:=w) (base:=base) T;have G_far_sides:=Zfn (P:=P) (w:=w) (base:=base) T;refine Zhm T.e_halving_cuts.F Wg (S:=Zag) rfl rfl (λCX cdv A outer s H E hr=>?_);have hu:=hr.units;exact(Zai (Zvr (Zgn (Zhi (i:=2) Wg.nd rfl (QG rfl) (Zo2 (Zw6 (Z8 Z9))))))
   (Zai (Zwd rfl (Zff (Zep (Zj (mv 1)))) (Zl8 (Zk6 (n:=2) (by rfl) (Jl (Zas (W7 (W6 (i:=3) Wg.nd)) (Jl (Zas (W7 (W6 (i:=4) Wg.nd)) (Zg0 Zgi)))))))
   (Zai (b_x (λq=>(Zwj (Zc8 (Zdd (i:=5) Wg.nd rfl (QG rfl) (Wq (Jz G_cut_of (hr.mono (!1)) (by rfl) T.e_cut_of.m T.e_cut_of.F.kp T.e_cut_of.b Zc1 q)))))) (λq=>Zt9 (Zdl (xee GX_cut_of hr T.e_cut_of q))) (Zc (Zel Zv3 (Zki Zn8 (Zdx rfl) (by rfl) T.z_len L2.B.boot_len (Zc (Zj (mv 0)) (Z8 Z9)))) (Zc (Zb1 (Zlj ["x","is_far"] [] ["x","is_far"] (Z20 (Z0i (by rfl) T.z_enumerate L2.B.boot_enumerate (Zc (Wq (Jz G_far_sides (hr.mono (!1)) (by rfl) T.e_far_sides.m T.e_far_sides.F.kp T.e_far_sides.b Zc1 (Zc (Zj (mv 0)) (Zc (Zj (mv 3)) (Zc (Zj (mv 4)) (Z8 Z9)))))) (Z8 Z9)))) (λ_ _ _ _ _=>(Zl8 (Zk6 (n:=2) (by rfl) (Jl (Zas (W7 (W6 (i:=0) (by show BZ (["x","is_far"]:List Str);decide +kernel))) (Jl (Zas (W7 (W6 (i:=1) (by show BZ (["x","is_far"]:List Str);decide +kernel))) (Zg0 Zgi)))))))) (λ_ _ _ _ _=>(Zj2 (Zma (Zl6 (Zj (mv 1)) (λ_=>rfl))))) (λ_ _ _ _ _=>(Zj (mv 0))))) (Z8 Z9))))
   (Ze1 (Zg (Ztx (Zsk (W2 Z8f (W5 (Zsx hu) Z9e (Zj (mv 5)) (Zyz (mo 2)) (hm:=(by with_unfolding_all rfl)))) (Zg (Wi (Wh 2 (Zj (mv 5))))) (Zaf Zac)))))))
   (Ze1 (Zg (Zks (Zlc 2 (Zhf (Zgr (Zxi Zmr (Yfz Zjf (Zfa Z92 rfl hu) (by rfl) T.z_sorted L2.B.boot_sorted (Zc (Zj (mv 2)) (Z8 Z9))))))))))))
def Jk:Zv ["n","roads","beside","a","b"] ["n","roads"] (Zi Zbn):=fsc
def Zh3(T:Txt K mg f fd cls):FnOk P w K mg base CX0 1 (f 10) (fd 10) ["n","roads"] (spD K (sD W9)):=by
 refine W3 T.e_beside_each.F Jk (S:=Zao) rfl rfl (λcdv A outer s H E hr=>?_);exact(xsq (Zpb (Za2 (i:=2) (own:=["point"]) (caps:=[]) (N':=["point"]) YD Jk.nd rfl (QG rfl) (by exact⟨rfl,by decide +kernel,rfl,by decide +kernel,rfl,rfl⟩) (by rfl) (!1) (Zdi (Yj (by rfl) T.z_range (xa1 (xv 0)))) (λ_ _ _ _ _=>(xg 0 (by show BZ (["point"]:List Str);decide +kernel))) (λ_ _ _ _ _=>(Zbk Zbf)) (λ_ _ _ _ _=>(xls xa0)))) (xsq (xfr Qu rfl (xil (xv 1)) (xg2 rfl (xg 3 Jk.nd) (xg 4 Jk.nd)) (xsq (Zny (Zo9 2 (xv 3) (xv 4))) (Zg (Zny (Zo9 2 (xv 4) (xv 3)))))) (Zg (Zci (Zb3 2)))))
def Zeq:Zv ["n"] ["n"] (Zi Jt):=fsc
def Zfg(T:Txt K mg f fd cls):FnOk P w K mg base CX0 1 (f 11) (fd 11) ["n"] (spD K (sD Yp)):=by
 refine W3 T.e_is_point_count.F Zeq (S:=Jq) rfl rfl (λcdv A outer s H E hr=>?_);exact(Zg (xrt (Zxf (Z4c Zs4 Zs4 xci (xv 0) (Zeb (Z1a (by rfl) T.g_MOST_POINTS))))))
def Zcn:Zv ["things","one","behind"] ["things"] (Zi Zdm):=fsc
def Zl0(T:Txt K mg f fd cls):FnOk P w K mg base CX0 1 (f 12) (fd 12) ["things"] (spD K (sD Jw)):=by
 refine W3 T.e_is_rising.F Zcn (S:=Zbu) rfl rfl (λcdv A outer s H E hr=>?_);have hu:=hr.units;exact(xsq (xfr Qu rfl (Z3f (Z4f (by rfl) T.z_zip L2.B.boot_zip (Zc (xv 0) (xa1 (Zh6 (Zh7 (xv 0) (Zad (Zaa xci)) (Zbr Zbs))))))) (xg2 rfl (xg 1 Zcn.nd) (xg 2 Zcn.nd)) (Zg (xif (xno (W2 Yf5 (W5 (Yak hu) Z8k (xv 1) (xv 2) (hm:=(J4 _))))) (Zg (xrt (Zeb Zkl))) xnl))) (Zg (xrt (Zeb Zkl))))
def Zax:Zv ["n","roads","a","b"] ["n","roads"] (Zi Zbe):=fsc
def Zg7(T:Txt K mg f fd cls):FnOk P w K mg base CX0 2 (f 13) (fd 13) ["n","roads"] (spD K (sD Yc))/\FnOk P w K mg base (CX1 P w) 2 (f 13) (fd 13) ["n","roads"] (spX K (sX K Yc)):=by
 have G_is_point_count:=Zfg (P:=P) (w:=w) (base:=base) T;have G_is_rising:=Zl0 (P:=P) (w:=w) (base:=base) T;refine Zhm T.e_check_roads.F Zax (S:=Zat) rfl rfl (λCX cdv A outer s H E hr=>?_);exact(Zai (Z5g (Zil (Zin (Zma (Zl6 (Wq (Jz G_is_point_count (hr.mono (!1)) (by rfl) T.e_is_point_count.m T.e_is_point_count.F.kp T.e_is_point_count.b Zc1 (Zc (Zj (mv 0)) (Z8 Z9)))) (λ_=>rfl))))) (Zf2 ⟨Zct,Zcr T.c_NoWeb.a (Zcw rfl hr.hd (by rfl) T.c_NoWeb.m T.r_NoWeb)⟩) (Ze1 (Zaf Zac)))
   (Zai (Zwd rfl (Zff (Zep (Zj (mv 1)))) (Zl8 (Zk6 (n:=2) (by rfl) (Jl (Zas (W7 (W6 (i:=2) Zax.nd)) (Jl (Zas (W7 (W6 (i:=3) Zax.nd)) (Zg0 Zgi)))))))
   (Zf2 (Z5g (Zil (Zin (Zly (Zl2 Zs4 Zlr Zlr (Zeb Zgq) (Zj (mv 2)) (Zj (mv 3)) (Zj (mv 0)))))) (Zf2 ⟨Zct,Zcr T.c_NoWeb.a (Zcw rfl hr.hd (by rfl) T.c_NoWeb.m T.r_NoWeb)⟩) (Ze1 (Zaf Zac)))))
   (Zf2 (Z5g (Zil (Zin (Zma (Zl6 (Wq (Jz G_is_rising (hr.mono (!1)) (by rfl) T.e_is_rising.m T.e_is_rising.F.kp T.e_is_rising.b Zc1 (Zc (Zj (mv 1)) (Z8 Z9)))) (λ_=>rfl))))) (Zf2 ⟨Zct,Zcr T.c_NoWeb.a (Zcw rfl hr.hd (by rfl) T.c_NoWeb.m T.r_NoWeb)⟩) (Ze1 (Zaf Zac))))))
def Y4:Zv ["beside","start","steps","edge","beyond","point","other"] ["beside","start"] (Zi Zb7):=fsc
def Zkb(T:Txt K mg f fd cls):FnOk P w K mg base CX0 1 (f 14) (fd 14) ["beside","start"] (spD K (sD Yx)):=by
 refine W3 T.e_steps_from.F Y4 (S:=Za7) rfl rfl (λcdv A outer s H E hr=>?_);have hu:=hr.units;exact(xsq (xso 2 Y4.nd (Zyk (Z1p (xv 1) xci))) (xsq (xst 3 Y4.nd (xls (xa1 (xv 1)))) (xsq (Zx8 (Zx3 Qu (xgt (xln T.z_len (xa1 (xv 3))) xci) (xsq (xso 4 Y4.nd (xls xa0)) (xsq (xfr Qu rfl (xil (xv 3)) (xg 5 Y4.nd) (Zg (xfr Qu rfl (xil (xix (xv 0) (xv 5))) (xg 6 Y4.nd) (Zg (xif (W2 Yd8 (W5 (Zr5 hu) Z8y (xv 6) (xo 2) (hm:=(by with_unfolding_all rfl)))) (xsq (Z0s (Z38 2 hu (Zjh (Zdh (J9 Yag (Z9w hu (xo 2) (xv 5) (hs:=λ_ _=>rfl)))) xci) (xv 6))) (Zg (Wi (Wh 4 (xv 6))))) xnl))))) (Zg (Zks (Zlc 4 (xst 3 Y4.nd (xv 4))))))))) (Zg (Zci (Zb3 2))))))
def Zah:Zv ["n","roads","beside","rows","start","steps"] ["n","roads"] (Zi Zfd):=fsc
def Zfq(T:Txt K mg f fd cls):FnOk P w K mg base CX0 3 (f 15) (fd 15) ["n","roads"] (spD K (sD Zu))/\FnOk P w K mg base (CX1 P w) 3 (f 15) (fd 15) ["n","roads"] (spX K (sX K Zu)):=by
 have G_beside_each:=Zh3 (P:=P) (w:=w) (base:=base) T;obtain⟨G_check_roads,GX_check_roads⟩:=Zg7 (P:=P) (w:=w) (base:=base) T;have G_steps_from:=Zkb (P:=P) (w:=w) (base:=base) T;refine Zhm T.e_web_rows.F Zah (S:=Zb2) rfl rfl (λCX cdv A outer s H E hr=>?_);have hu:=hr.units;exact(Zai (b_x (λq=>(Zwj (Zex (Zeu (Wq (Jz G_check_roads (hr.mono (!1)) (by rfl) T.e_check_roads.m T.e_check_roads.F.kp T.e_check_roads.b Zc1 q)))))) (λq=>Zju (Zdl (xee GX_check_roads hr T.e_check_roads q))) (Zc (Zj (mv 0)) (Zc (Zj (mv 1)) (Z8 Z9))))
   (Zai (Zvr (Zc8 (Zdd (i:=2) Zah.nd rfl (QG rfl) (Wq (Jz G_beside_each (hr.mono (!1)) (by rfl) T.e_beside_each.m T.e_beside_each.F.kp T.e_beside_each.b Zc1 (Zc (Zj (mv 0)) (Zc (Zj (mv 1)) (Z8 Z9))))))))
   (Zai (Zvr (Zgn (Zhi (i:=3) Zah.nd rfl (QG rfl) (Zo2 (Zw6 (Z8 Z9))))))
   (Zai (Zwd rfl (Zdi (Yj (by rfl) T.z_range (Zc (Zj (mv 0)) (Z8 Z9)))) (W7 (W6 (i:=4) Zah.nd))
   (Zai (Zvr (Zc8 (Zdd (i:=5) Zah.nd rfl (Qz rfl) (Wq (Jz G_steps_from (hr.mono (!1)) (by rfl) T.e_steps_from.m T.e_steps_from.F.kp T.e_steps_from.b Zc1 (Zc (Zj (mv 2)) (Zc (Zj (mv 4)) (Z8 Z9))))))))
   (Zai (Z5g (W2 Ycu (W5 Zlr Zlw (Zel Yat (Zki Z31 Zrg (by rfl) T.z_len L2.B.boot_len (Zc (Zj (mv 5)) (Z8 Z9)))) (Zj (mv 0)) (hm:=(J4 _)))) (Zf2 ⟨Zct,Zcr T.c_NoWeb.a (Zcw rfl hr.hd (by rfl) T.c_NoWeb.m T.r_NoWeb)⟩) (Ze1 (Zaf Zac)))
   (Ze1 (Zg (Wi (Wh 3 (Zb1 (Zlj ["point"] [5] ["point","steps"] (Zdi (Yj (by rfl) T.z_range (Zc (Zj (mv 0)) (Z8 Z9)))) (λ_ _ _ _ _=>(W7 (W6 (i:=0) (by show BZ (["point","steps"]:List Str);decide +kernel)))) (λ_ _ _ _ _=>(Zbk Zbf)) (λ_ _ _ _ _=>(Zdh (J9 Yag (Z9w hu (Zj (mv 1)) (Zj (mv 0)) (hs:=λ_ _=>rfl))))))))))))))
   (Ze1 (Zg (Zci (Zb3 3))))))))
theorem Zqg:Zv ["point","cuts"] ["point","cuts"] (Zi Zgw):=fsc
theorem Zps(T:Txt K mg f fd cls):FnOk P w K mg base CX0 1 (f 16) (fd 16) ["point","cuts"] (spD K (sD Wv)):=by
 refine W3 T.e_word_of.F Zqg (S:=Zdc) rfl rfl (λcdv A outer s H E hr=>?_);exact(Zg (xrt (Z90 (Ye0 Z1u F.slot_str_join F.type_str_join (Z11 rfl) (Zeb Ziy) (xa1 (Zb1 (Zlj ["cut"] [0] ["cut","point"] (xil (xv 1)) (λ_ _ _ _ _=>(xg 0 (by show BZ (["cut","point"]:List Str);decide +kernel))) (λ_ _ _ _ _=>(Zbk Zbf)) (λ_ _ _ _ _=>(Zdh (Yea (Yi5 (W2 Zm6 (W5 (Zox rfl) Zmz (xv 1) (xv 0) (hm:=(by with_unfolding_all rfl)))) (Zeb Ziy) (Zeb Ziy))))))))))))
def Wu:Zv ["n","roads","rows","even","not_whole","cuts"] ["n","roads"] (Zi Zbd):=fsc
def Zha(T:Txt K mg f fd cls):FnOk P w K mg base CX0 5 (f 17) (fd 17) ["n","roads"] (spD K (sD Yb))/\FnOk P w K mg base (CX1 P w) 5 (f 17) (fd 17) ["n","roads"] (spX K (sX K Yb)):=by
 have G_first_even:=Zjo (P:=P) (w:=w) (base:=base) T;have G_first_not_whole:=Zd0 (P:=P) (w:=w) (base:=base) T;obtain⟨G_halving_cuts,GX_halving_cuts⟩:=Zfv (P:=P) (w:=w) (base:=base) T;obtain⟨G_web_rows,GX_web_rows⟩:=Zfq (P:=P) (w:=w) (base:=base) T;have G_word_of:=Zps (P:=P) (w:=w) (base:=base) T;refine Zhm T.e_halved_told.F Wu (S:=Zaq) rfl rfl (λCX cdv A outer s H E hr=>?_);exact(Zai (b_x (λq=>(Zwj (Zc8 (Zdd (i:=2) Wu.nd rfl (QG rfl) (Wq (Jz G_web_rows (hr.mono (!1)) (by rfl) T.e_web_rows.m T.e_web_rows.F.kp T.e_web_rows.b Zc1 q)))))) (λq=>Zt9 (Zdl (xee GX_web_rows hr T.e_web_rows q))) (Zc (Zj (mv 0)) (Zc (Zj (mv 1)) (Z8 Z9))))
   (Zai (Zvr (Zc8 (Zdd (i:=3) Wu.nd rfl (QG rfl) (Wq (Jz G_first_even (hr.mono (!1)) (by rfl) T.e_first_even.m T.e_first_even.F.kp T.e_first_even.b Zc1 (Zc (Zj (mv 2)) (Zc (Zj (mv 1)) (Z8 Z9))))))))
   (Zai (Zvr (Ztx (Zsk (W2 Znj (W5 Zmq Zm3 (Zj (mv 3)) (Zeb Zip) (hm:=(J4 _)))) (Zg (Zhf (Zgr (Zpd (Zvy (Zc (Zeb Ziy) (Zc (Zj (mv 3)) (Z8 Z9)))))))) (Zaf Zac))))
   (Zai (Zvr (Zc8 (Zdd (i:=4) Wu.nd rfl (QG rfl) (Wq (Jz G_first_not_whole (hr.mono (!1)) (by rfl) T.e_first_not_whole.m T.e_first_not_whole.F.kp T.e_first_not_whole.b Zc1 (Zc (Zj (mv 2)) (Zc (Zj (mv 1)) (Z8 Z9))))))))
   (Zai (Zvr (Ztx (Zsk (W2 Znj (W5 Zmq Zm3 (Zj (mv 4)) (Zeb Zip) (hm:=(J4 _)))) (Zg (Zhf (Zgr (Zpd (Zvy (Zc (Zeb Ziy) (Zc (Zj (mv 4)) (Z8 Z9)))))))) (Zaf Zac))))
   (Zai (b_x (λq=>(Zwj (Zc8 (Zdd (i:=5) Wu.nd rfl (Qz rfl) (Wq (Jz G_halving_cuts (hr.mono (!1)) (by rfl) T.e_halving_cuts.m T.e_halving_cuts.F.kp T.e_halving_cuts.b Zc1 q)))))) (λq=>Zt9 (Zdl (xee GX_halving_cuts hr T.e_halving_cuts q))) (Zc (Zj (mv 2)) (Zc (Zj (mv 1)) (Z8 Z9))))
   (Ze1 (Zg (Zhf (Zgr (Z1n (Z6l (Zc (Zeb Ziy) (Zc (Zb1 (Zlj ["point"] [5] ["point","cuts"] (Zdi (Yj (by rfl) T.z_range (Zc (Zj (mv 0)) (Z8 Z9)))) (λ_ _ _ _ _=>(W7 (W6 (i:=0) (by show BZ (["point","cuts"]:List Str);decide +kernel)))) (λ_ _ _ _ _=>(Zbk Zbf)) (λ_ _ _ _ _=>(Wq (Jz G_word_of (hr.mono (!1)) (by rfl) T.e_word_of.m T.e_word_of.F.kp T.e_word_of.b Zc1 (Zc (Zj (mv 0)) (Zc (Zj (mv 1)) (Z8 Z9)))))))) (Z8 Z9)))))))))))))))
def Yr:Zv ["n","roads","told","e"] ["n","roads"] (Zi Wo):=fsc
def Zb0(T:Txt K mg f fd cls):FnOk P w K mg base CX0 6 (f 18) (fd 18) ["n","roads"] (spD K (sD Yv)):=by
 obtain⟨G_halved_told,GX_halved_told⟩:=Zha (P:=P) (w:=w) (base:=base) T;refine W3 T.e_law_halves_refused.F Yr (S:=Wx) rfl rfl (λcdv A outer s H E hr=>?_);exact(xsq (xso 2 Yr.nd (xls xa0)) (xsq (Zzb T.ku_CutError (Zyv (i:=3) Yr.nd rfl rfl (by rfl) T.c_CutError.m T.r_CutError (Zg (Zwj (Zex (Zeu (xce G_halved_told hr T.e_halved_told (Zc (xv 0) (xa1 (xv 1)))))))) (Yic (Zf2 (b_x (λq=>(Zwj (Zex (Zeu (xce G_halved_told hr T.e_halved_told q))))) (λq=>Zju (Zdl (xee GX_halved_told hr T.e_halved_told q))) (Zc (xv 0) (xa1 (xv 1)))))) (λ_=>(xsq (xso 2 Yr.nd (xls (Zc (Zkd T.kx_NoWeb (Zoa (Yu (v:=.ref (cls 9)) (by rfl) T.c_NoWeb.m rfl) (.own _) (by rfl) T.z_isinstance L2.B.boot_isinstance (xv 3))) (xa1 (Zkd T.kx_ValueError (Zoa (Zmy (v:=.ty "ValueError") (by rfl) T.z_ValueError PyProof.Rows.Boot.«ValueError» rfl) (.ty _) (by rfl) T.z_isinstance L2.B.boot_isinstance (xv 3))))))) (Zg (Wi (Wh 2 (Zoq T.kxt_0 (Zrn (Zz (Yu (v:=.ref (cls 1)) (by rfl) T.c_NoCut.m rfl) (Zz (Yu (v:=.ref (cls 2)) (by rfl) T.c_NoName.m rfl) (Zz (Yu (v:=.ref (cls 3)) (by rfl) T.c_NoNumber.m rfl) (Zz (Yu (v:=.ref (cls 4)) (by rfl) T.c_NoOrder.m rfl) (Zz (Yu (v:=.ref (cls 5)) (by rfl) T.c_NoPoint.m rfl) (Zz (Yu (v:=.ref (cls 6)) (by rfl) T.c_NoRow.m rfl) (Zz (Yu (v:=.ref (cls 7)) (by rfl) T.c_NoTable.m rfl) (Zz (Yu (v:=.ref (cls 8)) (by rfl) T.c_NoText.m rfl) (Zz (Yu (v:=.ref (cls 10)) (by rfl) T.c_TooMany.m rfl) Zcl))))))))) (λ_ _ _ h=>h) (.cons (.own _) (.cons (.own _) (.cons (.own _) (.cons (.own _) (.cons (.own _) (.cons (.own _) (.cons (.own _) (.cons (.own _) (.cons (.own _) .nil))))))))) (by show 9<=Xw;decide) (by rfl) T.z_isinstance L2.B.boot_isinstance (xv 3)))))))))) (Zg (Zci (Zb3 2)))))
def Yq:Zv ["n","roads","k","a","b","come","turn"] ["n","roads"] (Zi Zcm):=fsc
def Zkm(T:Txt K mg f fd cls):FnOk P w K mg base CX0 1 (f 19) (fd 19) ["n","roads"] (spD K (sD Jj)):=by
 refine W3 T.e_law_is_web.F Yq (S:=Za4) rfl rfl (λcdv A outer s H E hr=>?_);have hu:=hr.units;exact(xsq (xif (MW.mt (Zna (Zng (xlt (xv 0) xci) (Zij (xgt (xv 0) xci))))) (Zg (xrt (Zeb Zkl))) xnl) (xsq (xfr Qu rfl (Zdi (Yj (by rfl) T.z_range (xa1 (xln T.z_len (xa1 (xv 1)))))) (xg 2 Yq.nd) (xsq (Zvi (Zsn (xix (xv 1) (xv 2)) (xg2 rfl (xg 3 Yq.nd) (xg 4 Yq.nd)))) (Zg (xif (MW.mt (Zna (Zng (xno (Zly (Zl2 Zs4 Zlr Zlr xci (xv 3) (xv 4) (xv 0)))) (Zij (MW.mt (Znu (Zo4 (xgt (xv 2) xci) (Zjr (W2 Yej (W5 (Z82 hu) Ybg (xix (xv 1) (Zvx (xv 2) xci)) (xix (xv 1) (xv 2)) (hm:=(J4 _)))))))))))) (Zg (xrt (Zeb Zkl))) xnl)))) (xsq (Zgn (Zhi (i:=5) Yq.nd rfl (Qz rfl) (xls (xa1 xci)))) (xsq (xfr Qu rfl (Zdi (Yj (by rfl) T.z_range (xa1 (xv 0)))) (xg 6 Yq.nd) (Zg (xfr Qu rfl (xil (xv 1)) (xg2 rfl (xg 3 Yq.nd) (xg 4 Yq.nd)) (Zg (xif (xne hu (Zay Zm6 (Zxk (Zox rfl) Zmz (xv 3) (xo 5) (hm:=(by with_unfolding_all rfl)))) (Zay Zm6 (Zxk (Zox rfl) Zmz (xv 4) (xo 5) (hm:=(by with_unfolding_all rfl))))) (Zg (Zrw (Zrm 5 (Zb1 (Zlj ["one"] [5] ["one","come"] (Yao (Z61 (xtp (Zc (xv 3) (xa1 (xv 4)))))) (λ_ _ _ _ _=>(xg 0 (by show BZ (["one","come"]:List Str);decide +kernel))) (λ_ _ _ _ _=>(Zj2 (W2 Zm6 (W5 (Zg8 rfl) Zmz (xv 0) (xo 1) (hm:=(by with_unfolding_all rfl)))))) (λ_ _ _ _ _=>(xv 0))))))) xnl))))) (Zg (xrt (Zay Yb2 (Zxk (Zpc hu) Zx4 (xln T.z_len (xa1 (xo 5))) (xv 0) (hm:=(J4 _))))))))))
def Z1:Zv ["cell","many","base","row","rest","k","stir"] ["cell","many","base"] (Zi Zbm):=fsc
def Zc9(T:Txt K mg f fd cls):FnOk P w K mg base CX0 1 (f 20) (fd 20) ["cell","many","base"] (spD K (sD Yt)):=by
 refine W3 T.e_law_numbers.F Z1 (S:=Zaj) rfl rfl (λcdv A outer s H E hr=>?_);exact(xsq (xst 0 Z1.nd (Zg4 (xv 0) (Z44 (Z6z xci xci) (Z6z xci xci)))) (xsq (xso 3 Z1.nd (xls xa0)) (xsq (xst 4 Z1.nd (Zvx (xv 0) (Z6z xci xci))) (xsq (xfr Qu rfl (Zdi (Yj (by rfl) T.z_range (xa1 (xv 1)))) (xg 5 Z1.nd) (xsq (xst 6 Z1.nd (Zg4 (Z44 (Zjh (Zjh (xv 0) (Z44 xci (xv 5))) xci) xci) xci)) (xsq (xst 6 Z1.nd (Zg4 (Z44 (xv 6) (xv 6)) xci)) (xsq (xst 6 Z1.nd (Z9b (Zg4 (Z44 (Zjh (xv 6) (Z44 xci (Zjh (xv 5) xci))) xci) xci) xci)) (xsq (xif (xge (xv 0) (Z6z xci xci)) (xsq (xst 6 Z1.nd (xv 4)) (Zg (xst 4 Z1.nd (Z9b (xv 4) (xv 2))))) xnl) (Zg (Wi (Wh 3 (Zg4 (xv 6) (xv 2)))))))))) (Zg (Zci (Zb3 3)))))))
def Zr:Zv ["n","roads","row","far","at","road","way","many","more"] ["n","roads","row","far"] (Zi Zcf):=fsc
def Zkk(T:Txt K mg f fd cls):FnOk P w K mg base CX0 1 (f 21) (fd 21) ["n","roads","row","far"] (spD K (sD Ji)):=by
 refine W3 T.e_law_spoilt.F Zr (S:=Za8) rfl rfl (λcdv A outer s H E hr=>?_);have hu:=hr.units;exact(xsq (xst 4 Zr.nd (Zg4 (xix (xv 2) xci) (Zel Z65 (Zki Zu5 (Zl3 (by rfl)) (by rfl) T.z_max L2.B.boot_max (Zc xci (xa1 (xln T.z_len (xa1 (xv 1))))))))) (xsq (xst 5 Zr.nd (xix (Zdh (J9 Zg3 (Zq6 (J8 rfl) Zco (xv 1) (xls (xa1 (xtp (Zc xci (xa1 xci)))))))) (xv 4))) (xsq (xst 6 Zr.nd (Zg4 (xix (xv 2) xci) xci)) (xsq (xif (xeq hu (xv 6) xci) (xsq (xst 7 Zr.nd (Zjh xci (Zg4 (xix (xv 2) xci) xci))) (xsq (Zmv (Za2 (i:=8) (own:=["point"]) (caps:=[2]) (N':=["point","row"]) YF Zr.nd rfl (QG rfl) (by exact⟨rfl,by decide +kernel,rfl,by decide +kernel,rfl,rfl⟩) (by rfl) (!1) (Z2y (Zgx (by rfl) T.z_range (Zc (xv 0) (xa1 (xv 7))))) (λ_ _ _ _ _=>(xg 0 (by show BZ (["point","row"]:List Str);decide +kernel))) (λ_ _ _ _ _=>(Zbk Zbf)) (λ_ _ _ _ _=>(xtp (Zc (Zvx (Zvx (xv 0) xci) (Zg4 (xix (xv 1) xci) (Zel Z5v (Zki Zra (Zk2 (by rfl)) (by rfl) T.z_min L2.B.boot_min (Zc (xv 0) (xa1 xci)))))) (xa1 (xv 0))))))) (Zg (xrt (xtp (Zc (xv 7) (xa1 (Zxi Zmr (Yfz Zjf (Zfa Zrp rfl hu) (by rfl) T.z_sorted L2.B.boot_sorted (xa1 (Zdh (J9 Zg3 (Zq6 (J8 rfl) Zco (xv 1) (xv 8)))))))))))))) xnl) (xsq (xif (MW.mt (Znu (Zo4 (xeq hu (xv 6) xci) (Zjr (xgt (xv 4) xci))))) (Zg (xst 1 Zr.nd (Zdh (J9 Zg3 (Zq6 (J8 rfl) Zco (Zdh (J9 Zg3 (Zq6 (J8 rfl) Zco (Zh6 (Zh7 (xv 1) (Zbr Zbs) (Zad (Zaa (Zvx (xv 4) xci))))) (xls (Zc (xix (xv 1) (xv 4)) (xa1 (xix (xv 1) (Zvx (xv 4) xci)))))))) (Zh6 (Zh7 (xv 1) (Zad (Zaa (Zjh (xv 4) xci))) (Zbr Zbs)))))))) xnl) (xsq (xif (xeq hu (xv 6) xci) (Zg (xst 1 Zr.nd (Zdh (J9 Zg3 (Zq6 (J8 rfl) Zco (Zdh (J9 Zg3 (Zq6 (J8 rfl) Zco (Zh6 (Zh7 (xv 1) (Zbr Zbs) (Zad (Zaa (xv 4))))) (xls (xa1 (xv 5)))))) (Zh6 (Zh7 (xv 1) (Zad (Zaa (xv 4))) (Zbr Zbs)))))))) xnl) (xsq (xif (xeq hu (xv 6) xci) (Zg (xst 1 Zr.nd (Zdh (J9 Zg3 (Zq6 (J8 rfl) Zco (Zdh (J9 Zg3 (Zq6 (J8 rfl) Zco (Zh6 (Zh7 (xv 1) (Zbr Zbs) (Zad (Zaa (xv 4))))) (xls (xa1 (xtp (Zc (xix (xv 5) xci) (xa1 (xix (xv 5) xci))))))))) (Zh6 (Zh7 (xv 1) (Zad (Zaa (Zjh (xv 4) xci))) (Zbr Zbs)))))))) xnl) (xsq (xif (xeq hu (xv 6) xci) (Zg (xst 1 Zr.nd (Zxi Zmr (Yfz Zjf (Zfa Zrp rfl hu) (by rfl) T.z_sorted L2.B.boot_sorted (xa1 (Zdh (J9 Zg3 (Zq6 (J8 rfl) Zco (xv 1) (xix (xls (Zc (xls (xa1 (xtp (Zc (Zg4 (xix (xv 2) xci) (xv 0)) (xa1 (Zg4 (xix (xv 2) xci) (xv 0))))))) (Zc (xls (xa1 (xtp (Zc (Zg4 (xix (xv 2) xci) (xv 0)) (xa1 (Zjh (xv 0) (xv 3))))))) (xa1 (xls (xa1 (xtp (Zc (Zvx (Zoe (Zww xci)) (xv 3)) (xa1 xci))))))))) (Zg4 (xix (xv 2) xci) xci)))))))))) xnl) (xsq (xif (xeq hu (xv 6) xci) (Zg (xst 1 Zr.nd (Zdh (J9 Zg3 (Zq6 (J8 rfl) Zco (Zh6 (Zh7 (xv 1) (Zbr Zbs) (Zad (Zaa (xv 4))))) (Zh6 (Zh7 (xv 1) (Zad (Zaa (Zjh (xv 4) xci))) (Zbr Zbs)))))))) xnl) (xsq (xif (xeq hu (xv 6) xci) (Zg (Zmv (Za2 (i:=1) (own:=["one"]) (caps:=[2,0]) (N':=["one","row","n"]) YF Zr.nd rfl (QG rfl) (by exact⟨rfl,by decide +kernel,rfl,by decide +kernel,rfl,rfl⟩) (by rfl) (!1) (xil (xv 1)) (λ_ _ _ _ _=>(xg 0 (by show BZ (["one","row","n"]:List Str);decide +kernel))) (λ_ _ _ _ _=>(Zj2 (W2 Zm6 (W5 (Zg8 rfl) Zmz (Zg4 (xix (xv 1) xci) (xv 2)) (xv 0) (hm:=(by with_unfolding_all rfl)))))) (λ_ _ _ _ _=>(xv 0))))) xnl) (xsq (xif (xeq hu (xv 6) xci) (Zg (Zc8 (Zdd (i:=0) Zr.nd rfl (Qz rfl) (xix (xls (Zc xci (Zc (Zvx (Zoe (Zww xci)) (xv 3)) (Zc xci (Zc (Zjh xci (xv 3)) (xa1 (Zoe (Zww (xv 0))))))))) (Zg4 (xix (xv 2) xci) xci))))) xnl) (xsq (xif (xeq hu (xv 6) xci) (Zg (Zc8 (Zdd (i:=0) Zr.nd rfl (Qz rfl) (Zjh (xv 0) xci)))) xnl) (Zg (xrt (xtp (Zc (xv 0) (xa1 (xv 1))))))))))))))))))
def Zb6:Zv ["n","roads","table","row"] ["n","roads"] (Zi Zdq):=fsc
def Zj4(T:Txt K mg f fd cls):FnOk P w K mg base CX0 4 (f 22) (fd 22) ["n","roads"] (spD K (sD Yg))/\FnOk P w K mg base (CX1 P w) 4 (f 22) (fd 22) ["n","roads"] (spX K (sX K Yg)):=by
 obtain⟨G_web_rows,GX_web_rows⟩:=Zfq (P:=P) (w:=w) (base:=base) T;refine Zhm T.e_web_table.F Zb6 (S:=Zbx) rfl rfl (λCX cdv A outer s H E hr=>?_);exact(Zai (Zvr (Zgn (Zhi (i:=2) Zb6.nd rfl (QG rfl) (Zo2 (Zw6 (Z8 Z9))))))
   (Zai ⟨(Yeh (Zyy (Zz7 Qu rfl (Zff (Zep (Wq (Jz G_web_rows (hr.mono (!1)) (by rfl) T.e_web_rows.m T.e_web_rows.F.kp T.e_web_rows.b Zc1 (Zc (Zj (mv 0)) (Zc (Zj (mv 1)) (Z8 Z9))))))) (W7 (W6 (i:=3) Zb6.nd))
   (Zg (Wi (Wh 2 (Zb1 (Zlj ["far"] [] ["far"] (Zff (Zep (Zj (mv 3)))) (λ_ _ _ _ _=>(W7 (W6 (i:=0) (by show BZ (["far"]:List Str);decide +kernel)))) (λ_ _ _ _ _=>(Zbk Zbf)) (λ_ _ _ _ _=>(Zpd (Zvy (Zc (Zj (mv 0)) (Zc (Zeb Zgq) (Z8 Z9)))))))))))))),Zwp (Ycq (xee GX_web_rows hr T.e_web_rows (Zc (Zj (mv 0)) (Zc (Zj (mv 1)) (Z8 Z9)))))⟩
   (Ze1 (Zg (Zci (Zb3 2))))))
def Yw:Zv ["n","roads","told","e"] ["n","roads"] (Zi W0):=fsc
def Zcy(T:Txt K mg f fd cls):FnOk P w K mg base CX0 5 (f 23) (fd 23) ["n","roads"] (spD K (sD Yy)):=by
 obtain⟨G_web_table,GX_web_table⟩:=Zj4 (P:=P) (w:=w) (base:=base) T;refine W3 T.e_law_table_refused.F Yw (S:=W4) rfl rfl (λcdv A outer s H E hr=>?_);exact(xsq (xso 2 Yw.nd (xls xa0)) (xsq (Zzb T.ku_CutError (Zyv (i:=3) Yw.nd rfl rfl (by rfl) T.c_CutError.m T.r_CutError (Zg (Zwj (Zex (Zeu (xce G_web_table hr T.e_web_table (Zc (xv 0) (xa1 (xv 1)))))))) (Yic (Zf2 (b_x (λq=>(Zwj (Zex (Zeu (xce G_web_table hr T.e_web_table q))))) (λq=>Zju (Zdl (xee GX_web_table hr T.e_web_table q))) (Zc (xv 0) (xa1 (xv 1)))))) (λ_=>(xsq (xso 2 Yw.nd (xls (Zc (Zkd T.kx_NoWeb (Zoa (Yu (v:=.ref (cls 9)) (by rfl) T.c_NoWeb.m rfl) (.own _) (by rfl) T.z_isinstance L2.B.boot_isinstance (xv 3))) (xa1 (Zkd T.kx_ValueError (Zoa (Zmy (v:=.ty "ValueError") (by rfl) T.z_ValueError PyProof.Rows.Boot.«ValueError» rfl) (.ty _) (by rfl) T.z_isinstance L2.B.boot_isinstance (xv 3))))))) (Zg (Wi (Wh 2 (Zoq T.kxt_0 (Zrn (Zz (Yu (v:=.ref (cls 1)) (by rfl) T.c_NoCut.m rfl) (Zz (Yu (v:=.ref (cls 2)) (by rfl) T.c_NoName.m rfl) (Zz (Yu (v:=.ref (cls 3)) (by rfl) T.c_NoNumber.m rfl) (Zz (Yu (v:=.ref (cls 4)) (by rfl) T.c_NoOrder.m rfl) (Zz (Yu (v:=.ref (cls 5)) (by rfl) T.c_NoPoint.m rfl) (Zz (Yu (v:=.ref (cls 6)) (by rfl) T.c_NoRow.m rfl) (Zz (Yu (v:=.ref (cls 7)) (by rfl) T.c_NoTable.m rfl) (Zz (Yu (v:=.ref (cls 8)) (by rfl) T.c_NoText.m rfl) (Zz (Yu (v:=.ref (cls 10)) (by rfl) T.c_TooMany.m rfl) Zcl))))))))) (λ_ _ _ h=>h) (.cons (.own _) (.cons (.own _) (.cons (.own _) (.cons (.own _) (.cons (.own _) (.cons (.own _) (.cons (.own _) (.cons (.own _) (.cons (.own _) .nil))))))))) (by show 9<=Xw;decide) (by rfl) T.z_isinstance L2.B.boot_isinstance (xv 3)))))))))) (Zg (Zci (Zb3 2)))))
def Yl:Zv ["cell","most","row","n","left","names","k","roads","side","one","other"] ["cell","most"] (Zi Zgf):=fsc
def Zqq(T:Txt K mg f fd cls):FnOk P w K mg base CX0 2 (f 24) (fd 24) ["cell","most"] (spD K (sD Jm)):=by
 have G_law_numbers:=Zc9 (P:=P) (w:=w) (base:=base) T;refine W3 T.e_law_web.F Yl (S:=Zc6) rfl rfl (λcdv A outer s H E hr=>?_);have hu:=hr.units;exact(xsq (xst 2 Yl.nd (xce G_law_numbers hr T.e_law_numbers (Zc (xv 0) (Zc xci (xa1 xci))))) (xsq (xst 3 Yl.nd (Zjh xci (Zg4 (xix (xv 2) xci) (xv 1)))) (xsq (Zpb (Za2 (i:=4) (own:=["point"]) (caps:=[]) (N':=["point"]) YD Yl.nd rfl (QG rfl) (by exact⟨rfl,by decide +kernel,rfl,by decide +kernel,rfl,rfl⟩) (by rfl) (!1) (Zdi (Yj (by rfl) T.z_range (xa1 (xv 3)))) (λ_ _ _ _ _=>(xg 0 (by show BZ (["point"]:List Str);decide +kernel))) (λ_ _ _ _ _=>(Zbk Zbf)) (λ_ _ _ _ _=>(xv 0)))) (xsq (xso 5 Yl.nd (xls xa0)) (xsq (xfr Qu rfl (Zdi (Yj (by rfl) T.z_range (xa1 (xv 3)))) (xg 6 Yl.nd) (Zg (Wi (Wh 5 (Z9z (Yf1 4 (Zg4 (xix (xv 2) (Zjh xci (xv 6))) (xln T.z_len (xa1 (xo 4)))))))))) (xsq (xso 7 Yl.nd (xls xa0)) (xsq (xso 8 Yl.nd (Z9c (Ye3 xci (xv 3)))) (xsq (xfr Qu rfl (Z2y (Zgx (by rfl) T.z_range (Zc xci (xa1 (xv 3))))) (xg 6 Yl.nd) (xsq (Wi (Wh 7 (Z1e (Z5x (xtp (Zc (xix (xo 5) (Zg4 (xix (xv 2) (Zjh xci (xv 6))) (xv 6))) (xa1 (xix (xo 5) (xv 6))))))))) (Zg (Z93 (Z7b 8 (Zvx xci (xix (xo 8) (xix (xix (xo 7) (Zoe (Zww xci))) xci))) (xix (xo 5) (xv 6))))))) (xsq (xfr Qu rfl (Zdi (Yj (by rfl) T.z_range (xa1 (Zg4 (xix (xv 2) xci) xci)))) (xg 6 Yl.nd) (xsq (xst 9 Yl.nd (Zg4 (Z9b (xix (xv 2) (Zjh xci (xv 6))) xci) (xv 3))) (xsq (xst 10 Yl.nd (Zg4 (xix (xv 2) (Zjh xci (xv 6))) (xv 3))) (Zg (xif (MW.mt (Znu (Zo4 (xne hu (xv 9) (xv 10)) (Zjr (MW.mt (Zna (Zng (xeq hu (Zg4 (Z9b (xix (xv 2) xci) xci) xci) xci) (Zij (xne hu (xix (xo 8) (xv 9)) (xix (xo 8) (xv 10))))))))))) (Zg (Wi (Wh 7 (xtp (Zc (xv 9) (xa1 (xv 10))))))) xnl))))) (Zg (xrt (xtp (Zc (xv 3) (xa1 (Zm4 (Zqc (by rfl) hu (by rfl) T.z_sorted L2.B.boot_sorted (by rfl) T.z_set L2.B.boot_set (xa1 (Zb1 (Zlj ["a","b"] [] ["a","b"] (xil (xo 7)) (λ_ _ _ _ _=>(Zl8 (Zk6 (n:=2) (by rfl) (Jl (Zmc (Znr (Zok (i:=0) (by show BZ (["a","b"]:List Str);decide +kernel))) (Jl (Zmc (Znr (Zok (i:=1) (by show BZ (["a","b"]:List Str);decide +kernel))) (Zg0 Zgi)))))))) (λ_ _ _ _ _=>(Zbk Zbf)) (λ_ _ _ _ _=>(xtp (Zc (Zel Z5v (Zki Zra (Zk2 (by rfl)) (by rfl) T.z_min L2.B.boot_min (Zc (xv 0) (xa1 (xv 1))))) (xa1 (Zel Z65 (Zki Zu5 (Zl3 (by rfl)) (by rfl) T.z_max L2.B.boot_max (Zc (xv 0) (xa1 (xv 1))))))))))))))))))))))))))))
def Zc4:Zv ["script","cell","n","roads","row","due","handed"] ["script"] (Zi Z0v):=fsc
def Z87(T:Txt K mg f fd cls):FnOk P w K mg base CX0 7 (f 25) (fd 25) ["script"] (spD K (sD Ze3)):=by
 have G_law_cell_at:=Zh0 (P:=P) (w:=w) (base:=base) T;have G_law_halves_refused:=Zb0 (P:=P) (w:=w) (base:=base) T;have G_law_is_web:=Zkm (P:=P) (w:=w) (base:=base) T;have G_law_numbers:=Zc9 (P:=P) (w:=w) (base:=base) T;have G_law_spoilt:=Zkk (P:=P) (w:=w) (base:=base) T;have G_law_table_refused:=Zcy (P:=P) (w:=w) (base:=base) T;have G_law_web:=Zqq (P:=P) (w:=w) (base:=base) T;refine W3 T.e_law.F Zc4 (S:=Ze2) rfl rfl (λcdv A outer s H E hr=>?_);have hu:=hr.units;exact(xsq (xfr Qu rfl (xil (Zdh (J9 Zg3 (Zq6 (J8 rfl) Zco (Zh6 (Zh7 (xv 0) (Zad (Zaa xci)) (Zad (Zaa xci)))) (xls (xa1 (xce G_law_cell_at hr T.e_law_cell_at (Zc (xv 0) (xa1 xci))))))))) (xg 1 Zc4.nd) (xsq (Zvi (Zsn (xce G_law_web hr T.e_law_web (Zc (xv 1) (xa1 xci))) (xg2 rfl (xg 2 Zc4.nd) (xg 3 Zc4.nd)))) (xsq (xst 4 Zc4.nd (xce G_law_numbers hr T.e_law_numbers (Zc (Z9b (xv 1) xci) (Zc xci (xa1 xci))))) (xsq (Zvi (Zsn (xce G_law_spoilt hr T.e_law_spoilt (Zc (xv 2) (Zc (xv 3) (Zc (xv 4) (xa1 (Zg4 (xv 1) (Z6z xci xci))))))) (xg2 rfl (xg 2 Zc4.nd) (xg 3 Zc4.nd)))) (xsq (xst 5 Zc4.nd (xls xa0)) (xsq (xif (xno (Zma (Zl6 (xce G_law_is_web hr T.e_law_is_web (Zc (xv 2) (xa1 (xv 3)))) (λ_=>rfl)))) (Zg (xst 5 Zc4.nd (xls (Zc (Zeb Zkl) (Zc (Zeb Zkl) (xa1 (Zeb Zkl))))))) xnl) (xsq (xst 6 Zc4.nd (Zxi Ya8 (Yjm Z2f (Zqo rfl) (by rfl) T.z_list L2.B.boot_list (xa1 (xv 3))))) (Zg (xif (MW.mt (Zna (Zng (xne hu (xce G_law_table_refused hr T.e_law_table_refused (Zc (xv 2) (xa1 (xv 6)))) (xv 5)) (Zna (Zng (xne hu (xce G_law_halves_refused hr T.e_law_halves_refused (Zc (xv 2) (xa1 (xv 6)))) (xv 5)) (Zij (xne hu (xv 6) (xv 3)))))))) (Zg (xrt (Zeb Zkl))) xnl))))))))) (Zg (xrt (Zeb Zkl))))
def Z2l(T:Txt K mg f fd cls):FnOk P w K mg base CX0 7 (f 25) (fd 25) ["script"] (spD K Yaw):=(Z87 T).imp λvs H Q E q=>by
 obtain⟨L,ds,k,h1,⟨ns,e,hl,hk⟩,h3⟩:=q;exact⟨L,ds,k,h1,⟨_,by rw[e];exact Zxx ns hl,hk⟩,h3⟩
end
def Z7c{l:PySem.W.OpenLaw}{fa:YG}(X:K.In h)(G:h.Ns Qa mg)(hfa:mg "law"=YB (.ref fa))
  (q1:Ei K "_law_cell_at" Zbo f1 d1)
  (q2:Ei K "first_even" Zb8 f2 d2)
  (q3:Ei K "far_sides" Zdf f3 d3)
  (q4:Ei K "pairs_of" Zfb f4 d4)
  (q5:Ei K "first_leaving" Zab f5 d5)
  (q6:Ei K "first_not_whole" Jg f6 d6)
  (q7:Ei K "is_whole" Ze4 f7 d7)
  (q8:Ei K "check_points" Zau f8 d8)
  (q9:Ei K "cut_of" Zka f9 d9)
  (q10:Ei K "halving_cuts" Zav f10 d10)
  (q11:Ei K "beside_each" Zbn f11 d11)
  (q12:Ei K "is_point_count" Jt f12 d12)
  (q13:Ei K "is_rising" Zdm f13 d13)
  (q14:Ei K "check_roads" Zbe f14 d14)
  (q15:Ei K "steps_from" Zb7 f15 d15)
  (q16:Ei K "web_rows" Zfd f16 d16)
  (q17:Ei K "word_of" Zgw f17 d17)
  (q18:Ei K "halved_told" Zbd f18 d18)
  (q19:Ei K "_law_halves_refused" Wo f19 d19)
  (q20:Ei K "_law_is_web" Zcm f20 d20)
  (q21:Ei K "_law_numbers" Zbm f21 d21)
  (q22:Ei K "_law_spoilt" Zcf f22 d22)
  (q23:Ei K "web_table" Zdq f23 d23)
  (q24:Ei K "_law_table_refused" W0 f24 d24)
  (q25:Ei K "_law_web" Zgf f25 d25)
  (q26:Ei K "law" Z0v f26 d26)
  (z0:Qv K Qa "ValueError"=YB YC)
  (z1:Qv K Qa "bool"=YB YC)
  (z2:Qv K Qa "enumerate"=YB YC)
  (z3:Qv K Qa "int"=YB YC)
  (z4:Qv K Qa "isinstance"=YB YC)
  (z5:Qv K Qa "len"=YB YC)
  (z6:Qv K Qa "list"=YB YC)
  (z7:Qv K Qa "max"=YB YC)
  (z8:Qv K Qa "min"=YB YC)
  (z9:Qv K Qa "range"=YB YC)
  (z10:Qv K Qa "set"=YB YC)
  (z11:Qv K Qa "sorted"=YB YC)
  (z12:Qv K Qa "zip"=YB YC)
  (gc_MOST_POINTS:Qv K Qa "MOST_POINTS"=YB (YB (.int 10 t_MOST_POINTS)))
  (cc_CutError:Qv K Qa "CutError"=YB (YB (.ref C_CutError)))
  (cc_NoCut:Qv K Qa "NoCut"=YB (YB (.ref C_NoCut)))
  (cc_NoName:Qv K Qa "NoName"=YB (YB (.ref C_NoName)))
  (cc_NoNumber:Qv K Qa "NoNumber"=YB (YB (.ref C_NoNumber)))
  (cc_NoOrder:Qv K Qa "NoOrder"=YB (YB (.ref C_NoOrder)))
  (cc_NoPoint:Qv K Qa "NoPoint"=YB (YB (.ref C_NoPoint)))
  (cc_NoRow:Qv K Qa "NoRow"=YB (YB (.ref C_NoRow)))
  (cc_NoTable:Qv K Qa "NoTable"=YB (YB (.ref C_NoTable)))
  (cc_NoText:Qv K Qa "NoText"=YB (YB (.ref C_NoText)))
  (cc_NoWeb:Qv K Qa "NoWeb"=YB (YB (.ref C_NoWeb)))
  (cc_TooMany:Qv K Qa "TooMany"=YB (YB (.ref C_TooMany)))
  (x_NoCut:Zbl K C_NoCut)
  (x_NoWeb:Zbl K C_NoWeb)
  (r_CutError:Zj5 K C_CutError)
  (r_NoCut:Zj5 K C_NoCut)
  (r_NoWeb:Zj5 K C_NoWeb)
  (u_NoCut_CutError:Vh K (.ref C_NoCut) (.ref C_CutError)=YB YD)
  (kt_NoCut_NoWeb:QC K (.ref C_NoCut) (.ref C_NoWeb)=YB YF)
  (kt_NoCut_ValueError:QC K (.ref C_NoCut) (.type "ValueError")=YB YD)
  (ka_NoCut_0:VF K (.ref C_NoCut) [.ref C_NoCut,.ref C_NoName,.ref C_NoNumber,.ref C_NoOrder,.ref C_NoPoint,.ref C_NoRow,.ref C_NoTable,.ref C_NoText,.ref C_TooMany]=YB YD)
  (u_NoWeb_CutError:Vh K (.ref C_NoWeb) (.ref C_CutError)=YB YD)
  (kt_NoWeb_NoWeb:QC K (.ref C_NoWeb) (.ref C_NoWeb)=YB YD)
  (kt_NoWeb_ValueError:QC K (.ref C_NoWeb) (.type "ValueError")=YB YD)
  (ka_NoWeb_0:VF K (.ref C_NoWeb) [.ref C_NoCut,.ref C_NoName,.ref C_NoNumber,.ref C_NoOrder,.ref C_NoPoint,.ref C_NoRow,.ref C_NoTable,.ref C_NoText,.ref C_TooMany]=YB YF)
  :∃fd:Ql,(∀(s:Xf) (v:Xe),BindsTo s fd ⟨[v],[]⟩ [("script",v)])/\∀base:YH,K.In base->base.Ns Qa mg->FnOk l.prog w K mg base CX0 7 fa fd ["script"] (spD K Yaw):=by
 have e:=hfa.symm.trans (PySem.W.mg_of X G q26.a);cases e;have T:Txt K mg (λk=>[f1,f2,f3,f4,f5,f6,f7,f8,f9,f10,f11,f12,f13,f14,f15,f16,f17,f18,f19,f20,f21,f22,f23,f24,f25,f26].getD k 0) (λk=>[d1,d2,d3,d4,d5,d6,d7,d8,d9,d10,d11,d12,d13,d14,d15,d16,d17,d18,d19,d20,d21,d22,d23,d24,d25,d26].getD k d26) (λk=>[C_CutError,C_NoCut,C_NoName,C_NoNumber,C_NoOrder,C_NoPoint,C_NoRow,C_NoTable,C_NoText,C_NoWeb,C_TooMany].getD k 0):=⟨en2 X G q1,en2 X G q2,en3 X G q3,en1 X G q4,en2 X G q5,en2 X G q6,en1 X G q7,en2 X G q8,en2 X G q9,en2 X G q10,en2 X G q11,en1 X G q12,en1 X G q13,en2 X G q14,en2 X G q15,en2 X G q16,en2 X G q17,en2 X G q18,en2 X G q19,en2 X G q20,en3 X G q21,en4 X G q22,en2 X G q23,en2 X G q24,en2 X G q25,en1 X G q26,⟨_,PySem.W.mg_of X G gc_MOST_POINTS⟩,QV X G z0,QV X G z1,QV X G z2,QV X G z3,QV X G z4,QV X G z5,QV X G z6,QV X G z7,QV X G z8,QV X G z9,QV X G z10,QV X G z11,QV X G z12,ec X G cc_CutError,ec X G cc_NoCut,ec X G cc_NoName,ec X G cc_NoNumber,ec X G cc_NoOrder,ec X G cc_NoPoint,ec X G cc_NoRow,ec X G cc_NoTable,ec X G cc_NoText,ec X G cc_NoWeb,ec X G cc_TooMany,x_NoCut,x_NoWeb,r_CutError,r_NoCut,r_NoWeb,u_NoCut_CutError,kt_NoCut_NoWeb,kt_NoCut_ValueError,ka_NoCut_0,u_NoWeb_CutError,kt_NoWeb_NoWeb,kt_NoWeb_ValueError,ka_NoWeb_0⟩;refine⟨d26,λs v=>?_,λbase _ _=>Z2l (P:=l.prog) (w:=w) (base:=base) T⟩;obtain⟨_,_,_,_,_,_,_,_,_,rfl,_,_⟩:=q26.F.ex;exact .of_eq rfl
def walk{l:PySem.W.OpenLaw}{q:X3}{d:DefRec}{K:Params->Xc}(hn:l.most=YB 63)(hdf:d.params.defaults=[])
  (hY:∀(w:Qo) (h:YH),YP w h->(K w.params).In h)
  (F:∀(w:Qo) (mg:Str->Option Xe) (fa:YG) (h:YH),(K w.params).In h->h.Ns Qa mg->mg d.name=YB (.ref fa) ->
   ∃fd:Ql,(∀(s:Xf) (u:Xe),BindsTo s fd ⟨[u],[]⟩ [("script",u)])/\∀base:YH,(K w.params).In base->base.Ns Qa mg->FnOk l.prog w (K w.params) mg base CX0 7 fa fd ["script"] (spD (K w.params) Yaw)) :
  PySem.W.WalkO q loose XP YP l.row.toRowW d [] (λf vs=>PySem.call f vs) :=
 L2.Z3b (n:=63) (k:=7) (x :="script") (CX:=λ_=>CX0) (sp:=λw=>spD (K w.params) Yaw) hn (!1) hdf ⟨rfl,by decide,by decide⟩ hY F (λ_ _ a ns hl _ hS=>Z59 hl hS) λ_ _ _ _ _ z=>z
end My
open PySem PySem.W PyProof.Rows
theorem PySem.W.Fast.tw15993233378733917367:True:=trivial
theorem PySem.W.Fast.tw12642577261116302260:True:=trivial
theorem PySem.W.Fast.tw3782135150432530037:True:=trivial
theorem PySem.W.Fast.tw3242117361958046656:True:=trivial
theorem PySem.W.Fast.tw6204148533795191061:True:=trivial
theorem PySem.W.Fast.tw1850127865047859449:True:=trivial
theorem PySem.W.Fast.tw16147016085978853699:True:=trivial
theorem PySem.W.Fast.tw1317809880905853197:True:=trivial
theorem PySem.W.Fast.tw15201491180154404142:True:=trivial
theorem PySem.W.Fast.tw14860838997291078042:True:=trivial
theorem PySem.W.Fast.tw2357678431771370663:True:=trivial
theorem PySem.W.Fast.tw17181277556237391198:True:=trivial
theorem PySem.W.Fast.tw10579226423637734058:True:=trivial
theorem PySem.W.Fast.tw452761713890377466:True:=trivial
theorem PySem.W.Fast.tw6137349128257805024:True:=trivial
theorem PySem.W.Fast.tw5725855609802518328:True:=trivial
set_option maxRecDepth 100000 in
set_option maxHeartbeats 0 in
theorem PySem.Challenge.cw_farcuts_k60_no_web_holds : PySem.Challenge.rw_farcuts_k60_no_web.Holds := by
 w_on;o_law;k_head;(case hw=>w_witness2)
 k_fill
 refine My.walk (l:=PySem.Challenge.rw_farcuts_k60_no_web) rfl rfl (λw h Y_a=>PySem.W.kIn_of Y_a) ?F
 case F=>
  intro w mg fa h KX G hmg;refine' My.Z7c KX G hmg ?_ ?_ ?_ ?_ ?_ ?_ ?_ ?_ ?_ ?_ ?_ ?_ ?_ ?_ ?_ ?_ ?_ ?_ ?_ ?_ ?_ ?_ ?_ ?_ ?_ ?_ ?_ ?_ ?_ ?_ ?_ ?_ ?_ ?_ ?_ ?_ ?_ ?_ ?_ ?_ ?_ ?_ ?_ ?_ ?_ ?_ ?_ ?_ ?_ ?_ ?_ ?_ ?_ ?_ ?_ ?_ ?_ ?_ ?_ ?_ ?_ ?_ ?_ ?_
  all_goals try (first|(refine' ⟨?a,L2.Z7m ?l ?c ?k⟩;(case a=>k_is);(case l=>k_is);(case c=>k_is);(case k=>k_is))|k_is|kit_is|(show PySem.W.excIn _ _ _ _=YD;k_exc)|(refine' ⟨?_,?_,?_,?_,?_,?_,?_,?_,?_,?_,?_⟩<;>first|k_is|kit_is|(show PySem.W.isClsIn _ _=YD;k_is)))
#print axioms PySem.Challenge.cw_farcuts_k60_no_web_holds
