import PyProof.Rows.All
import Wide.All
import OpenK.AllK
import Wide.FinOn
import PyProof.EqAt
import PyProof.EqKinds
import PyProof.TupleCall
import PyProof.P3In
import PyProof.ZipIter
import PyProof.ListRange
import PyProof.SetRoads
import PyProof.Rows.SetFrom
import PyProof.Rows.SeqMore2
import KE.RegKIsAll
import PyProof.StrWalks
import PyProof.EnumMake
import PyProof.Conv_int
import PyProof.Conv_int_bool
import PyProof.StrBlockI
import PyProof.Draws
import PyProof.ConsumeWalk
import PySem.Challenge.RW_farcuts_k61_halved_or_not
set_option Elab.async false
set_option linter.all false
set_option maxRecDepth 100000
set_option genSizeOfSpec false
set_option genInjectivity false
open Array renaming length_toList->Xv,getElem?_toList->Qd,getElem?_eq_getElem->Q0,getD_eq_getD_getElem?->V7
open Bool renaming false_ne_true->Xx,false_eq_true->XR,and_eq_true->X3,eq_false_iff->Vf,not_true->Vo
open Classical renaming byContradiction->Vq,axiomOfChoice->VB
open False renaming elim->Ug
open ForInStep renaming yield->Bs
open Int renaming toNat_natCast->Bg,ofNat_lt->Vz
open Int.ofNat renaming inj->VP
open List renaming length_map->Xc,getElem?_map->Xi,range->Xj,getElem?_eq_some_iff->Xk,getD_eq_getElem?_getD->Xm,getElem?_eq_getElem->Xn,mem_cons->Xo,mem_singleton->Xq,length_range->Xr,mem_range->XH,mem_map->XM,size_toArray->XQ,map_congr_left->XS,length_append->XX,map_cons->X4,mem_of_getElem?->X5,mem_append_right->Qg,map_append->Qh,replicate->Qi,mem_append_left->Qj,map_map->Qk,mem_append->Qn,nodup_cons->Qq,append_nil->Qs,getElem?_range->Qu,length_cons->QC,getElem?_eq_none_iff->QD,filterMap_cons->QQ,getElem?_set_ne->QT,append_assoc->QV,getElem?_eq_none->QZ,findSome?_cons->Q7,lookup_cons->JB,getElem?_set_self->JL,Nodup->JM,mem_filter->JQ,getElem?_append_right->JX,length_take->Ba,eq_nil_of_length_eq_zero->Bf,getElem_mem->Bl,take_of_length_le->Bw,exists_of_findSome?_eq_some->Bx,pairwise_iff_getElem->BR,pairwise_cons->Vb,all_eq_true->Vc,length_nil->Vg,length_drop->Vp,getElem?_append_left->Vv,nodup_append->Vx,getElem?_of_mem->Vy,replicate_succ->VL,length_set->V3,length_replicate->V5,getElem?_toArray->V6,ext_getElem?->V9,perm_ext_iff_of_nodup->Uk,toArray->Ur,drop_eq_getElem_cons->Ut,getElem_of_mem->Uu,any_cons->Ux,find?_cons->Uy,pairwise_singleton->UJ,getElem?_nil->UV,flatten_cons->UW,drop_eq_nil_of_le->U0
open Nat renaming ne_of_lt->Xp,le_refl->Xy,ne_of_gt->X6,lt_of_lt_of_le->Qm,zero_le->Qw,lt_succ_self->QB,le_trans->QM,lt_succ_of_lt->QW,lt_irrefl->Q3,not_lt_zero->Q9,lt_or_ge->Bh,le_add_right->Vd,lt_trans->Vm,le_of_lt->Vn,succ_le_succ->VM,zero_add->V1,lt_of_succ_lt_succ->V2,lt_succ_iff->V4,le_succ->UL,succ_pos->U6,lt_trichotomy->U7
open Ne renaming symm->Vu
open Option renaming bind_some->Xh,map_eq_some_iff->XD,some->Ve
open Option.some renaming inj->Qy
open Or renaming inr->Qt,inl->QL
open PyProof.Rows renaming callWith_type1->JP,seqObj->BJ,IntsAre->Vk,get?_update_seq->Uc,callWith_builtin1->Uz
open PyProof.Rows.F renaming plain_set_update_loop->Vj,entry_set_update_loop->U3
open PySem renaming PyData->Xa,wpAny_bind->Xb,Value->Xe,Shared->Xg,wpAny_pure->Xl,starEach->Xu,sizeLine->XC,wpAny->XJ,sizeLine_eq->X7,model->X8,Program->Qa,bootBuiltins->Qe,mainGlobals->Ql,World->Qo,FuncData->Qp,Around->Qv,compareOp->QH,SetTable->QK,wpAny_setField_rec->Q6,wpAny_loadPart'->JC,wpAny_call_entry->JD,backTo->JF,wpAny_truthy_bool->JG,wpAny_setState_of->JH,wpAny_holding->JK,assignEach->JR,wpAny_newObj_type->JW,wpAny_callSpecial?_slot->JZ,codeAny_builtin->Bc,wpAny_seqItems->Bk,wpAny_mono->Bo,wpAny_Call_Name_kw->Bp,mem_of_lookup->Bv,Builtin->By,rawInt->BP,cellsFrom->BV,sliceBounds->BZ,cLine->Vh,NameKind->Vi,IsPair->Vr,wpAny_field->Vs,pushCells->Vt,intKind->Vw,swapsWith->VH,foldedSetIterable->VJ,binaryOp->V0,Keyword->Ua,wpAny_passesOwn->Ub,plainId_quiet->Uh,attributeBase->Ui,pyNext->Ul,sysModules->Uv,wpAny_setEntries_of->UG,wpAny_rule->U4,assign->U5,scanBound->U8,keywordEach->U9
open PySem.Around renaming under_plainId->JV
open PySem.Builtin.SmallTypes renaming nextOf->Q4,ownedTupleIsFree->BX
open PySem.F renaming called_set->JT,plainAttrs_list->Uw
open PySem.Heap renaming get?_push_of_some->Xf,get?_push_size->XF,lt_size->XN,size_push->Qz,SameBut->Bb
open PySem.Heap.SameBut renaming update->QF
open PySem.NameKind renaming free->Q8,cell->BW
open PySem.Obj renaming mapSeq->BL
open PySem.PassesOwn renaming never->Qc
open PySem.PyData renaming int->Xw,eqv->QS,strOk->QX,list->Bj,canLayAll0->Bq,canLay0->Br,bool->BK,tuple->VN
open PySem.PyData.list renaming inj->Uj
open PySem.SeqAt renaming EqAt->Bu,shaped->Um,canLay_of_shaped->UT
open PySem.SetTable renaming below->Qx,runEnd->Q5,insertAt->JS,bits->Bm,Probe->Va,grown->VD,leap->Uq
open PySem.SetTable.layClean renaming free->Ud
open PySem.SetTable.probe renaming go->Uo
open PySem.Str renaming ofString->Us
open PySem.Value renaming ref->Xz,none->QJ,int->Vl
open PySem.W renaming Frag->Xd,mg_none_of->QG,nsIn->QR,kia_one->JN,Looks->Be,kitOne->VF,findIn->VG,keepIn->V8,fnOf->Ue
open True renaming intro->VR
noncomputable section
open PySem renaming Addr->YG,Heap->YH,Expr->YJ,Stmt->YK,Scope->YL
open Bool renaming true->YD,false->YF
open Option renaming some->YB,none->YC
abbrev YM:=@if_pos
abbrev YQ:=@if_neg
abbrev YS:=@decide_eq_true
abbrev YT:=@decide_eq_false
abbrev YW:=@congrArg
abbrev YX:=@of_decide_eq_true
abbrev YZ:=@absurd
abbrev ZC:=@beq_iff_eq
namespace L2
open PySem PySem.Spec PyProof.Rows
abbrev Key:=Sum Int Str
def Zoy:Key->Xe->Bool
 | .inl k,v=>Value.isInt k v
 | .inr x,v=>Value.isStrOf x v
def Yih(w:Qo):Key->Int
 | .inl k=>hashInt k
 | .inr x=>hashStr w x
theorem Yq:∀{k:Key} {v:Xe},Zoy k v=YD->(∃i t,k=Sum.inl i/\v=Vl i t)\/(∃x t,k=Sum.inr x/\v=Value.str x t)
 | .inl i,v,h=>by
  obtain⟨t,e⟩:=Value.isInt_shape (k:=i) (v:=v) h;exact .inl ⟨i,t,rfl,e⟩
 | .inr x,v,h=>by
  obtain⟨t,e⟩:=Xe.isStrOf_shape (x:=x) (v:=v) h;exact .inr ⟨x,t,rfl,e⟩
theorem Zs8(i:Int)(t:Tok):Zoy (.inl i) (.int i t)=YD:=by simp[Zoy,Value.isInt]
theorem Zrb(x:Str)(t:Tok):Zoy (.inr x) (.str x t)=YD:=by simp[Zoy,Value.isStrOf]
theorem Z7q(a b:Int):decide ((Sum.inl a:Key)=Sum.inl b)=(a==b):=by
 by_cases e:a=b
 .subst e;simp
 .have h:¬(Sum.inl a:Key)=Sum.inl b:=λq=>e (Sum.inl.inj q)
  rw[YT h];exact(beq_eq_false_iff_ne.mpr e).symm
theorem Z8p(a b:Str):decide ((Sum.inr a:Key)=Sum.inr b)=decide (a=b):=by
 by_cases e:a=b
 .subst e;simp
 .have h:¬(Sum.inr a:Key)=Sum.inr b:=λq=>e (Sum.inr.inj q)
  rw[YT h,YT e]
theorem Z58(a:Int)(b:Str):decide ((Sum.inl a:Key)=Sum.inr b)=YF:=YT (λq=>nomatch q)
theorem Z9o(a:Str)(b:Int):decide ((Sum.inr a:Key)=Sum.inl b)=YF:=YT (λq=>nomatch q)
def Wf(prog:Qa)(w:Qo):PySem.KeyKind prog w Key where
 is:=Zoy
 hash:=Yih w
 inj:=λv a b ha hb=>by
  rcases Yq ha with⟨i,t,rfl,rfl⟩|⟨x,t,rfl,rfl⟩
  .rcases Yq hb with⟨j,u,rfl,e⟩|⟨y,u,rfl,e⟩
   .injection e with e1 _;rw[e1]
   .exact nomatch e
  .rcases Yq hb with⟨j,u,rfl,e⟩|⟨y,u,rfl,e⟩
   .exact nomatch e
   .injection e with e1 _;rw[e1]
 byValue:=λk v h=>by
  rcases Yq h with⟨i,t,rfl,rfl⟩|⟨x,t,rfl,rfl⟩<;>rfl
 pyHash:=λhv h=>by
  rcases Yq hv with⟨i,t,rfl,rfl⟩|⟨x,t,rfl,rfl⟩
  .exact wpAny_pyHash_int h
  .exact wpAny_pyHash_str h
 eqBool:=λhu hv h=>by
  rcases Yq hu with⟨i,t,rfl,rfl⟩|⟨x,t,rfl,rfl⟩
  .rcases Yq hv with⟨j,u,rfl,rfl⟩|⟨y,u,rfl,rfl⟩
   .rw[Z7q]at h;exact wpAny_eqBool_int h
   .rw[Z58]at h;exact SeqAt.EqAt.int_str i t y u _ _ _ _ h
  .rcases Yq hv with⟨j,u,rfl,rfl⟩|⟨y,u,rfl,rfl⟩
   .rw[Z9o]at h;exact SeqAt.EqAt.str_int x t j u _ _ _ _ h
   .rw[Z8p]at h;exact wpAny_eqBool_str h
 «strs»:=λk x t v h=>by
  rcases Yq h with⟨i,u,rfl,e⟩|⟨y,u,rfl,e⟩
  .exact nomatch e
  .injection e with e1 _
   subst e1;cases v<;>rfl
theorem Zld(prog:Qa)(w:Qo)(i:Int)(t:Tok):(Wf prog w).is (.inl i) (.int i t)=YD:=Zs8 i t
theorem Zlk(prog:Qa)(w:Qo)(x:Str)(t:Tok):(Wf prog w).is (.inr x) (.str x t)=YD:=Zrb x t
inductive V where
 | non|bl (b:Bool)|int (i:Int)|str (x:Str)|byt (b:Array UInt8)|flt (b:UInt64)|ref (a:YG)|ty (n:String)
 deriving DecidableEq
def RelV:V->Xe->Prop
 | .non,u=>u=QJ
 | .bl b,u=>u=Value.bool b
 | .int i,u=>∃t,u=Vl i t
 | .str x,u=>∃t,u=Value.str x t
 | .byt b,u=>∃t,u=Xe.bytes b t
 | .flt b,u=>∃t,u=Xe.float b t
 | .ref a,u=>u=Xz a
 | .ty n,u=>u=Value.type n
abbrev Vals:List V->List Xe->Prop:=Paired RelV
theorem Vals.length{xs:List V}{us:List Xe}(r:Vals xs us):xs.length=us.length:=Paired.length r
theorem Vals.get{xs:List V}{us:List Xe}{i:Nat}{x:V}(h:Vals xs us)(e:xs[i]? =YB x):∃u,us[i]? =YB u/\RelV x u:=by
 induction h generalizing i with
 | nil=>exact(Option.some_ne_none _ (e.symm.trans UV)).elim
 | cons r t ih=>
  cases i with
  | zero=>exact⟨_,rfl,Qy e▸r⟩
  | succ i=>exact ih e
theorem Vals.set{x:V}{u:Xe}(r:RelV x u){xs:List V}{us:List Xe}(i:Nat)(h:Vals xs us):Vals (xs.set i x) (us.set i u):=by
 induction h generalizing i with
 | nil=>exact .nil
 | cons q t ih=>
  cases i with
  | zero=>exact .cons r t
  | succ i=>exact .cons q (ih i)
theorem Vals.append{xs ys:List V}{us ws:List Xe}(h:Vals xs us)(s:Vals ys ws):Vals (xs++ys) (us++ws):=by
 induction h with
 | nil=>exact s
 | cons r t ih=>exact .cons r ih
theorem Vals.take{xs:List V}{us:List Xe}(n:Nat)(h:Vals xs us):Vals (xs.take n) (us.take n):=by
 induction h generalizing n with
 | nil=>rw[List.take_nil,List.take_nil];exact .nil
 | cons r t ih=>
  cases n with
  | zero=>exact .nil
  | succ n=>exact .cons r (ih n)
theorem Vals.drop{xs:List V}{us:List Xe}(n:Nat)(h:Vals xs us):Vals (xs.drop n) (us.drop n):=by
 induction h generalizing n with
 | nil=>rw[List.drop_nil,List.drop_nil];exact .nil
 | cons r t ih=>
  cases n with
  | zero=>exact .cons r t
  | succ n=>exact ih n
def RelO:Option V->Option Xe->Prop
 | some v,YB u=>RelV v u
 | none,YC=>True
 | _,_=>False
def KV{κ:Type}:List (κ×V)->List (κ×Xe)->Prop:=Paired λ(p:κ×V) (q:κ×Xe)=>p.1=q.1/\RelV p.2 q.2
def kV:Key->V
 | .inl i=>.int i
 | .inr x=>.str x
inductive HO where
  | lst (xs:List V)
  | tup (xs:List V)
  | dK (kvs:List (Key×V))|dT (kvs:List (List Key×V))
  | set (S:Int->Bool) (n:Nat)
  | ins (C dx:YG) (fs:List (Str×V))
  | own (x:YG)
  | xd (fs:List (Str×V))
  | met (f x:YG)
  | rng (lo hi:Int)
  | frz (o:Obj) (u:HO)
  | tbl (ps:Array Xe)
  | ext (φ:YH->Prop)
abbrev Hp:=YG->Option HO
def upd(H:Hp)(a:YG)(o:HO):Hp:=λb=>if b=a then YB o else H b
theorem Zu{H:Hp}{a:YG}{o:HO}:upd H a o a=YB o:=by unfold upd;rw[YM rfl]
theorem Zq{H:Hp}{a b:YG}{o:HO}(h:b≠a):upd H a o b=H b:=by unfold upd;rw[YQ h]
theorem Yb7{H:Hp}{a b:YG}{o u:HO}(h:H a=YB o)(h':H b=YB u)(d:o≠u):a≠b:=by
 intro e;subst e;rw[h]at h';exact d (Qy h')
theorem Yn{H:Hp}{a b:YG}{o:HO}(h:H a=YB o)(h':H b=YC):a≠b:=by
 intro e;subst e;rw[h]at h';cases h'
section
variable (P:Qa)(w:Qo)
def ObjOk(H:Hp)(h:YH)(a:YG):HO->Prop
 | .lst xs=>xs.length<=XC/\∃(its:List Xe) (n:Nat),Vals xs its/\h.get? a=YB { cls:=.type "list",data:=.seq its.toArray n }
 | .tup xs=>xs.length<=XC/\∃its:List Xe,Vals xs its/\IsTup h a its.toArray
 | .dK kvs=>kvs.length<=XC/\(a==Uv)=YF/\∃vs,KV kvs vs/\h.DictOf (Wf P w) a vs
 | .dT kvs=>kvs.length<=XC/\(a==Uv)=YF/\∃xs:List (List Key×YG×Xe),
   Paired (λ(p:List Key×V) (q:List Key×YG×Xe)=>p.1=q.1/\H q.2.1=YB (.tup (p.1.map kV))/\RelV p.2 q.2.2) kvs xs/\
   ∃o es ep,h.get? a=YB o/\o.ExactDict/\o.data= .dict es ep/\es.toList=xs.map (entryOfKey (tupleKind (Wf P w)))/\(xs.map (·.1)).Nodup
 | .set S n=>h.SetOf (Vw P w) a S n
 | .ins C dx fs=>H dx=YB (.own a)/\fs.length<=1000/\dx≠a/\h.get? a=YB (PySem.W.instObj C dx)/\
   ∃mA,h.Ns1 dx mA/\(∀f,RelO (fs.lookup f) (mA f))/\PySem.Within mA (fs.map (·.1))
 | .own _=>∃o,h.get? a=YB o
 | .xd fs=>∃mA,h.Ns1 a mA/\∀f,RelO (fs.lookup f) (mA f)
 | .rng lo hi=>∃t u v,h.get? a=YB { cls:=.type "range",data:=.fields #[.int lo t,.int hi u,.int 1 v] }
 | .frz o u=>h.get? a=YB o/\ObjOk H h a u
 | .tbl ps=>h.get? a=YB { cls:=.none,data:=.fields ps }
 | .met f x=>h.get? a=YB (PySem.W.methodObj (.ref f) (.ref x))
 | .ext φ=>φ h/\(∃o,h.get? a=YB o)/\∀h1 h2:YH,φ h1->(∀o,h1.get? a=YB o->h2.get? a=YB o)->φ h2
def HOk(H:Hp)(h:YH):Prop:=∀a o,H a=YB o->ObjOk P w H h a o
end
section
variable {P:Qa}{w:Qo}{H H':Hp}{h h':YH}{a:YG}{o:HO}
theorem ObjOk.lt(x:ObjOk P w H h a o):a<h.objs.size:=by
 cases o with
 | lst xs=>obtain⟨_,_,_,_,e⟩:=x;exact XN e
 | tup xs=>obtain⟨_,_,_,p⟩:=x;exact p.lt
 | dK kvs=>obtain⟨_,_,_,_,o,_,_,e,_⟩:=x;exact XN e
 | dT kvs=>obtain⟨_,_,_,_,o,_,_,e,_⟩:=x;exact XN e
 | set S n=>obtain⟨o,_,_,_,e,_⟩:=x;exact XN e
 | ins C dx fs=>obtain⟨_,_,_,e,_⟩:=x;exact XN e
 | own y=>obtain⟨_,e⟩:=x;exact XN e
 | xd fs=>obtain⟨_,⟨_,_,_,e,_⟩,_⟩:=x;exact XN e
 | rng lo hi=>obtain⟨_,_,_,e⟩:=x;exact XN e
 | frz ob u=>obtain⟨e,_⟩:=x;exact XN e
 | tbl ps=>exact XN (show h.get? a=YB _ from x)
 | met f y=>exact XN (show h.get? a=YB _ from x)
 | ext φ=>obtain⟨_,⟨_,e⟩,_⟩:=x;exact XN e
theorem Paired.mapP{α β:Type}{F G:α->β->Prop}{l₁:List α}{l₂:List β}(h:Paired F l₁ l₂)(f:∀a b,F a b->G a b):Paired G l₁ l₂:=by
 induction h with
 | nil=>exact .nil
 | cons r t ih=>exact .cons (f _ _ r) ih
theorem ObjOk.stay(x:ObjOk P w H h a o)(k:∀b u,(b=a\/H b=YB (.own a))->h.get? b=YB u->h'.get? b=YB u)
  (ho:∀b,H b=YB (.own a)->H' b=YB (.own a)) (ht:∀b xs,H b=YB (.tup xs)->H' b=YB (.tup xs)):ObjOk P w H' h' a o:=by
 induction o with
 | lst xs=>obtain⟨z,its,n,r,e⟩:=x;exact⟨z,its,n,r,k _ _ (.inl rfl) e⟩
 | tup xs=>obtain⟨z,its,r,ob,e,c⟩:=x;exact⟨z,its,r,ob,k _ _ (.inl rfl) e,c⟩
 | dK kvs=>obtain⟨z,y,vs,r,ob,es,ep,e,c⟩:=x;exact⟨z,y,vs,r,ob,es,ep,k _ _ (.inl rfl) e,c⟩
 | dT kvs=>
  obtain⟨z,y,xs,r,ob,es,ep,e,c⟩:=x;exact⟨z,y,xs,Paired.mapP r λp q z=>⟨z.1,ht _ _ z.2.1,z.2.2⟩,ob,es,ep,k _ _ (.inl rfl) e,c⟩
 | set S n=>obtain⟨ob,es,ep,t,e,c⟩:=x;exact⟨ob,es,ep,t,k _ _ (.inl rfl) e,c⟩
 | ins C dx fs=>
  obtain⟨d,z,ne,e,mA,⟨od,es,ep,e2,c⟩,r⟩:=x;exact⟨ho _ d,z,ne,k _ _ (.inl rfl) e,mA,⟨od,es,ep,k _ _ (.inr d) e2,c⟩,r⟩
 | own y=>obtain⟨ob,e⟩:=x;exact⟨ob,k _ _ (.inl rfl) e⟩
 | xd fs=>obtain⟨mA,⟨od,es,ep,e,c⟩,r⟩:=x;exact⟨mA,⟨od,es,ep,k _ _ (.inl rfl) e,c⟩,r⟩
 | rng lo hi=>obtain⟨t,u,v,e⟩:=x;exact⟨t,u,v,k _ _ (.inl rfl) e⟩
 | frz ob u ih=>obtain⟨e,q⟩:=x;exact⟨k _ _ (.inl rfl) e,ih q⟩
 | tbl ps=>
  have e:h.get? a=YB { cls:=.none,data:=.fields ps }:=x;show h'.get? a=YB { cls:=.none,data:=.fields ps };exact k a _ (.inl rfl) e
 | met f y=>
  have e:h.get? a=YB (PySem.W.methodObj (.ref f) (.ref y)):=x;show h'.get? a=YB (PySem.W.methodObj (.ref f) (.ref y));exact k a _ (.inl rfl) e
 | ext φ=>obtain⟨p,⟨o,e⟩,st⟩:=x;exact⟨st _ _ p λo q=>k _ _ (.inl rfl) q,⟨o,k _ _ (.inl rfl) e⟩,st⟩
theorem HOk.lt(x:HOk P w H h)(e:H a=YB o):a<h.objs.size:=(x a o e).lt
theorem HOk.fresh(x:HOk P w H h)(e:h.objs.size<=a):H a=YC:=by
 cases q:H a with
 | none=>rfl
 | some u=>exact YZ (Qm (x.lt q) e) (Q3 _)
theorem HOk.kept(x:HOk P w H h)(k:∀b u,h.get? b=YB u->h'.get? b=YB u):HOk P w H h':=λa o e=>
 (x a o e).stay (λb u _ q=>k b u q) (λ_ q=>q) λ_ _ q=>q
theorem HOk.laid(x:HOk P w H h)(k:∀b u,h.get? b=YB u->h'.get? b=YB u)(hp:h.objs.size<=a)(new:ObjOk P w (upd H a o) h' a o):HOk P w (upd H a o) h':=λb u e=>by
 have hn:=x.fresh hp
 by_cases hb:b=a
 .subst hb;rw[Zu]at e;cases e;exact new
 .rw[Zq hb]at e
  exact(x b u e).stay (λc v _ q=>k c v q) (λc q=>by rw[Zq (Yn q hn)];exact q) λc xs q=>by rw[Zq (Yn q hn)];exact q
end
def Rd(H:Hp)(a:YG)(u:HO):Prop:=H a=YB u\/∃o,H a=YB (.frz o u)
theorem Rd.ok{P:Qa}{w:Qo}{H:Hp}{h:YH}{a:YG}{u:HO}(r:Rd H a u)(x:HOk P w H h):ObjOk P w H h a u:=by
 rcases r with r|⟨o,r⟩
 .exact x a u r
 .obtain⟨_,q⟩:=x a _ r
  exact q
def Mut:Option HO->Prop
 | some (.lst _)=>True
 | some (.dK _)=>True
 | some (.dT _)=>True
 | some (.set _ _)=>True
 | some (.ins _ _ _)=>True
 | some (.ext _)=>True
 | _=>False
section
variable {P:Qa}{w:Qo}{H:Hp}{h h':YH}{x e:YG}{o':HO}
theorem HOk.write(ok:HOk P w H h)(mu:Mut (H x))(he:e=x\/H e=YB (.own x))(k:∀b u,b≠e->h.get? b=YB u->h'.get? b=YB u)(heo:∃u,h'.get? e=YB u)
  (new:ObjOk P w (upd H x o') h' x o'):HOk P w (upd H x o') h':=λb u q=>by
 have nown:∀c y,H c=YB (.own y)->c≠x:=λc y r z=>by subst z;rw[r]at mu;exact mu
 have ntup:∀c xs,H c=YB (.tup xs)->c≠x:=λc xs r z=>by subst z;rw[r]at mu;exact mu
 by_cases hb:b=x
 .subst hb;rw[Zu]at q;cases q;exact new
 .rw[Zq hb]at q
  by_cases hbe:b=e
  .have q':H b=YB (.own x):=by
    rcases he with z|z
    .exact YZ (hbe.trans z) hb
    .rw[hbe];exact z
   rw[q]at q';cases q';obtain⟨v,hv⟩:=heo;exact⟨v,by rw[hbe];exact hv⟩
  .refine(ok b u q).stay (λc v hc r=>k c v ?_ r) (λc r=>by rw[Zq (nown c b r)];exact r) λc xs r=>by rw[Zq (ntup c xs r)];exact r
   rcases hc with rfl|hc
   .exact hbe
   .rintro rfl
    rcases he with z|z
    .exact nown c b hc z
    .rw[hc]at z;cases z;exact hb rfl
end
structure Un(fs ex:List YG)(H H':Hp)(h h':YH):Prop where
 keep:∀b o,h.get? b=YB o->H b=YC->b∉fs->b∉ex->h'.get? b=YB o
 slot:∀b o,h.get? b=YB o->H b=YC->b∈fs->b∉ex->∃sl,h'.get? b=YB { o with slots:=sl }
 free:∀b o,h.get? b=YB o->H b=YC->b∉ex->H' b=YC
 there:∀b o,h.get? b=YB o->b∉ex->∃o',h'.get? b=YB o'
 tups:∀b xs,H b=YB (.tup xs)->H' b=YB (.tup xs)
 frzs:∀b o u,H b=YB (.frz o u)->H' b=YB (.frz o u)
 tbls:∀b ps,H b=YB (.tbl ps)->∃more,H' b=YB (.tbl (ps++more))
section
variable {fs fs' ex ex':List YG}{H H1 H2:Hp}{h h1 h2 h':YH}{a x e:YG}{o:HO}
theorem Un.any(u:Un fs ex H H1 h h1){b:YG}{ob:Obj}(q:h.get? b=YB ob)(n:H b=YC)(hx:b∉ex):∃sl,h1.get? b=YB { ob with slots:=sl }:=by
 by_cases hb:b∈fs
 .exact u.slot b ob q n hb hx
 .exact⟨ob.slots,u.keep b ob q n hb hx⟩
theorem Un.kept(k:∀b u,h.get? b=YB u->h'.get? b=YB u):Un fs ex H H h h' :=
 ⟨λb ob q _ _ _=>k b ob q,λb ob q _ _ _=>⟨ob.slots,k b ob q⟩,λ_ _ _ n _=>n,λb ob q _=>⟨ob,k b ob q⟩,λ_ _ q=>q,λ_ _ _ q=>q,λ_ ps q=>⟨#[],by rw[q];simp⟩⟩
theorem Un.refl:Un fs ex H H h h:=Un.kept λ_ _ q=>q
theorem Un.laid(k:∀b u,h.get? b=YB u->h'.get? b=YB u)(hp:h.objs.size<=a)(hn:H a=YC):Un fs ex H (upd H a o) h h' where
 keep:=λb u q _ _ _=>k b u q
 slot:=λb u q _ _ _=>⟨u.slots,k b u q⟩
 free:=λb u q n _=>by rw[Zq (Xp (Qm (XN q) hp))];exact n
 there:=λb u q _=>⟨u,k b u q⟩
 tups:=λb xs q=>by rw[Zq (Yn q hn)];exact q
 frzs:=λb u xs q=>by rw[Zq (Yn q hn)];exact q
 tbls:=λb ps q=>⟨#[],by rw[Zq (Yn q hn),q];simp⟩
theorem Un.write(mu:Mut (H x))(he:e=x\/H e=YB (.own x))(k:∀b u,b≠e->h.get? b=YB u->h'.get? b=YB u)(heo:∃u,h'.get? e=YB u):Un fs ex H (upd H x o) h h':=by
 have hx:∀b,H b=YC->b≠x:=λb n z=>by subst z;rw[n]at mu;exact mu
 have hb:∀b,H b=YC->b≠e:=λb n z=>by
  subst z;rcases he with r|r
  .exact hx b n r
  .rw[n]at r;cases r
 have hm:∀b u,H b=YB u->¬Mut (YB u)->b≠x:=λb u q nm z=>by subst z;rw[q]at mu;exact nm mu
 refine⟨λb u q n _ _=>k b u (hb b n) q,λb u q n _ _=>⟨u.slots,k b u (hb b n) q⟩,λb u q n _=>by rw[Zq (hx b n)];exact n,λb u q _=>?_,
  λb xs q=>by rw[Zq (hm b _ q λz=>z)];exact q,λb u xs q=>by rw[Zq (hm b _ q λz=>z)];exact q,λb ps q=>⟨#[],by rw[Zq (hm b _ q λz=>z),q];simp⟩⟩
 by_cases hbe:b=e
 .subst hbe;exact heo
 .exact⟨u,k b u hbe q⟩
end
def trk(h:YH)(H:Hp):List YG:=(Xj h.objs.size).filter λa=>(H a).isSome
def Zwv(h:YH)(H:Hp):YH:=PySem.W.hideAll h (trk h H)
theorem Ztb(h:YH)(H:Hp):(Zwv h H).objs.size=h.objs.size:=PySem.W.hideAll_size _ _
theorem Zv1{h:YH}{H:Hp}{b:YG}{o:Obj}(e:h.get? b=YB o)(n:H b=YC):(Zwv h H).get? b=YB o :=
 PySem.W.hideAll_get _ e λhm=>by
  have q:(H b).isSome=YD:=(JQ.mp hm).2;rw[n]at q;simp at q
theorem Z3n{h:YH}{H:Hp}{b:YG}{o:Obj}(e:(Zwv h H).get? b=YB o):h.get? b=YB o/\H b=YC:=by
 have e':h.get? b=YB o:=PySem.W.of_hideAll (trk h H) e;refine⟨e',?_⟩;cases q:H b with
 | none=>rfl
 | some x=>
  have hm:b∈trk h H:=JQ.mpr ⟨XH.mpr (XN e'),by simp[q]⟩;have z:(Zwv h H).get? b=YC:=PySem.W.hideAll_none (trk h H) hm;rw[z]at e;cases e
def Z00(g h:YH)(L:YG):List (YG×Obj):=(Xj h.objs.size).filterMap λa=>if a=L\/(g.get? a).isSome=YD then YC else(h.get? a).map λo=>(a,o)
def rest(g h:YH)(L d:YG):List (YG×Obj):=(Z00 g h L).filter λp=>decide (p.1≠d)
structure Mod(K:Xd)(mg:Str->Option Xe)(base:YH):Prop where
 kin:K.In base
 glob:base.Ns Ql mg
 blt:∃mb,base.Ns builtinsNs mb/\∀x:Str,x≠"__name__" ->mb x=Qe x
 nolimit:base.NoLimit
set_option genInjectivity false in
structure Cx where
 prog:Qa
 w:Qo
 K:Xd
 mg:Str->Option Xe
 base:YH
 A:Qv
 N:List Str
 s₀:Xg
 H₀:Hp
 env:Env
 outer:List Env
 stack:List Env
 ex:List YG
 fn:Str->Bool
 calm:Bool
 pn:List (YG×Obj)
 xe:Xe->Xg->Prop
def frs(l:List Env):List YG:=l.filterMap (·.frame)
abbrev Cx.fs(X:Cx):List YG:=frs X.outer
def Vis(sc:YL)(x:Str):Prop:=sc.names.lookup x=YB .local\/sc.names.lookup x=YB .cell\/sc.names.lookup x=YB .free
def Loc(sc:YL)(x:Str):Prop:=sc.names.lookup x=YB .local\/sc.names.lookup x=YB .cell
def Look(env:Env)(h:YH)(m:Str->Option Xe)(x:Str)(u:Xe):Prop :=
 (env.kindOf x=YB .local/\m x=YB u)\/((env.kindOf x=YB .cell\/env.kindOf x=YB .free)/\∃c,env.cells.lookup x=YB c/\h.IsCell c (YB u))
structure Cx.Ok(X:Cx):Prop where
 mod:Mod X.K X.mg X.base
 kind:X.env.scope.kind= .function
 glob:X.env.globals=Ql
 blt:X.env.builtins=builtinsNs
 above:X.s₀.heap.objs.size<=X.env.locals
 inj:∀x y c,X.env.cells.lookup x=YB c->X.env.cells.lookup y=YB c->x=y
 has:∀x,(X.env.kindOf x=YB .cell\/X.env.kindOf x=YB .free)->∃c,X.env.cells.lookup x=YB c
 cab:∀x c,X.fn x=YD->X.env.cells.lookup x=YB c->X.s₀.heap.objs.size<=c
 hd:X.calm=YD->X.A.handled=YC
 frames:X.A.frames=YB X.stack
 stk:X.stack=X.outer\/(X.stack=X.env::X.outer/\X.env.frame=YB X.env.locals)
 exf:∀b∈X.ex,b≠X.env.locals/\∀x c,X.env.cells.lookup x=YB c->c≠b
 bs:∀b o,X.base.get? b=YB o->X.s₀.heap.get? b=YB o/\X.H₀ b=YC
 bsz:X.base.objs.size<=X.s₀.heap.objs.size
 noex:∀b o,X.base.get? b=YB o->b∉X.ex
 exfs:∀b∈X.ex,b∉X.fs
 funs:X.s₀.heap.FunFrames X.base X.outer
 frf:∀b∈X.fs,X.H₀ b=YC
structure Inv(X:Cx)(pins:List (YG×Obj))(O:List (Option V))(H:Hp)(s:Xg):Prop where
 ok:X.Ok
 os:s.os=X.s₀.os
 bare:AllBare s.gens
 base:Un X.fs X.ex X.H₀ H X.s₀.heap s.heap
 loc:∃m,s.heap.Ns X.env.locals m/\∀(i:Nat) (x:Str) (v:V),X.N[i]? =YB x->O[i]? =YB (YB v)->Vis X.env.scope x->∃u,RelV v u/\Look X.env s.heap m x u
 cell:∀x c,X.env.cells.lookup x=YB c->∃v,s.heap.IsCell c v
 free:H X.env.locals=YC
 freeC:∀x c,X.env.cells.lookup x=YB c->H c=YC
 pin:∀p∈X.pn++pins,s.heap.get? p.1=YB p.2/\H p.1=YC/\p.1≠X.env.locals/\p.1∉X.fs/\∀v,p.2.data≠ .cell v
 hok:HOk X.prog X.w H s.heap
 len:O.length=X.N.length
section
variable {X:Cx}{pins:List (YG×Obj)}{O:List (Option V)}{H H':Hp}{s:Xg}{h':YH}
theorem Cx.Ok.nofr(ok:X.Ok){b:YG}{o:Obj}(e:X.base.get? b=YB o):b∉X.fs:=λhb=>by
 have:=(ok.funs.mem hb).1;rw[e]at this;cases this
theorem Inv.bs(I:Inv X pins O H s):∀b o,X.base.get? b=YB o->s.heap.get? b=YB o/\H b=YC:=λb o e=>
 ⟨I.base.keep b o (I.ok.bs b o e).1 (I.ok.bs b o e).2 (I.ok.nofr e) (I.ok.noex b o e),I.base.free b o (I.ok.bs b o e).1 (I.ok.bs b o e).2 (I.ok.noex b o e)⟩
theorem Inv.bk(I:Inv X pins O H s):∀b o,X.base.get? b=YB o->s.heap.get? b=YB o:=λb o e=>(I.bs b o e).1
theorem Inv.mod(I:Inv X pins O H s):Mod X.K X.mg X.base:=I.ok.mod
theorem Inv.kIn(I:Inv X pins O H s):X.K.In s.heap:=I.ok.mod.kin.keeps I.bk
theorem Inv.lt(I:Inv X pins O H s):X.env.locals<s.heap.objs.size:=let⟨_,hn,_⟩:=I.loc;hn.lt
theorem Inv.sz(I:Inv X pins O H s):X.s₀.heap.objs.size<=s.heap.objs.size:=QM I.ok.above (Vn I.lt)
theorem Inv.nofs(I:Inv X pins O H s){a:YG}(h:s.heap.objs.size<=a):a∉X.fs:=λhb=>by
 obtain⟨_,o,ho,_⟩:=I.ok.funs.mem hb;exact YZ (Qm (XN ho) (QM I.sz h)) (Q3 _)
theorem Inv.cne(I:Inv X pins O H s):∀x c,X.env.cells.lookup x=YB c->c≠X.env.locals:=λx c e z=>by
 obtain⟨v,o,ho,hd⟩:=I.cell x c e;obtain⟨m,⟨o',es,ep,ho',hd',_⟩,_⟩:=I.loc;rw[z,ho']at ho;cases ho;rw[hd']at hd;cases hd
theorem Inv.funs(I:Inv X pins O H s):s.heap.FunFrames X.base X.outer:=by
 have all:∀(l:List Env),(∀b∈frs l,b∈X.fs)->X.s₀.heap.FunFrames X.base l->s.heap.FunFrames X.base l:=by
  intro l
  induction l with
  | nil=>intro _ _;trivial
  | cons env r ih=>
   intro hs hl;obtain⟨hk,⟨L,o,hf,hn,ho,hd⟩,hr⟩:=hl;have hL:L∈X.fs:=hs L (by unfold frs;rw[QQ,hf];exact List.mem_cons_self);obtain⟨sl,e⟩:=I.base.slot L o ho (I.ok.frf L hL) hL λz=>I.ok.exfs L z hL;exact⟨hk,⟨L,_,hf,hn,e,hd⟩,ih (λb hb=>hs b (by unfold frs;rw[QQ,hf];exact List.mem_cons_of_mem _ hb)) hr⟩
 exact all X.outer (λ_ hb=>hb) I.ok.funs
theorem Inv.stack(I:Inv X pins O H s):s.heap.FunFrames X.base X.stack:=by
 rcases I.ok.stk with e|⟨e,hf⟩
 .rw[e];exact I.funs
 .rw[e]
  obtain⟨m,hn,_⟩:=I.loc;refine .cons (by rw[I.ok.kind];decide) hf hn ?_ I.funs;exact Heap.get?_none_of_le (QM I.ok.bsz I.ok.above)
theorem Inv.stkSub(I:Inv X pins O H s):∀b∈frs X.stack,b∈X.env.locals::X.fs:=λb hb=>by
 rcases I.ok.stk with e|⟨e,hf⟩
 .rw[e]at hb;exact List.mem_cons_of_mem _ hb
 .rw[e]at hb
  unfold frs at hb;rw[QQ,hf]at hb;exact hb
theorem Inv.stkFree(I:Inv X pins O H s):∀b∈frs X.stack,H b=YC:=λb hb=>by
 rcases Xo.mp (I.stkSub b hb)with e|hb
 .rw[e];exact I.free
 .obtain⟨_,o,ho,_⟩:=I.ok.funs.mem hb
  exact I.base.free b o ho (I.ok.frf b hb) λz=>I.ok.exfs b z hb
theorem Inv.step{g':Array GenState}{t':Nat}{d':Drawn}{ch:List YG}(I:Inv X pins O H s)
  (hch:∀b∈ch,(b∈X.ex\/X.s₀.heap.objs.size<=b)/\b≠X.env.locals/\(∀x c,X.env.cells.lookup x=YB c->c≠b)/\∀p∈X.pn++pins,p.1≠b)
  (keep:∀b o,b≠X.env.locals->b∉X.fs->b∉ch->s.heap.get? b=YB o->H b=YC->h'.get? b=YB o)
  (slot:∀b o,b≠X.env.locals->b∈X.fs->b∉ch->s.heap.get? b=YB o->H b=YC->∃sl,h'.get? b=YB { o with slots:=sl }) (free:∀b o,b∉ch->s.heap.get? b=YB o->H b=YC->H' b=YC)
  (there:∀b o,b∉ch->s.heap.get? b=YB o->∃o',h'.get? b=YB o')
  (tups:∀b xs,H b=YB (.tup xs)->H' b=YB (.tup xs)) (frzs:∀b o u,H b=YB (.frz o u)->H' b=YB (.frz o u)) (tbls:∀b ps,H b=YB (.tbl ps)->∃more,H' b=YB (.tbl (ps++more)))
  (ns:∀m,s.heap.Ns X.env.locals m->h'.Ns X.env.locals m) (hok:HOk X.prog X.w H' h') (hg:AllBare g') :
  Inv X pins O H' { s with heap:=h',gens:=g',drawn:=d',toks:=t' }:=by
 have neL:∀b o,X.s₀.heap.get? b=YB o->b≠X.env.locals:=λb o e=>Xp (Qm (XN e) I.ok.above);have neC:∀b o,X.s₀.heap.get? b=YB o->b∉X.ex->b∉ch:=λb o e hx hb=>by
  rcases(hch b hb).1 with z|z
  .exact hx z
  .exact YZ (Qm (XN e) z) (Q3 _)
 have cellK:∀x c,X.env.cells.lookup x=YB c->∀v,s.heap.IsCell c v->h'.IsCell c v:=λx c e v ⟨o,ho,hd⟩=>by
  have nch:c∉ch:=λz=>(hch c z).2.2.1 x c e rfl
  by_cases hc:c∈X.fs
  .obtain⟨sl,q⟩:=slot c o (I.cne x c e) hc nch ho (I.freeC x c e)
   exact⟨_,q,hd⟩
  .exact⟨o,keep c o (I.cne x c e) hc nch ho (I.freeC x c e),hd⟩
 refine⟨I.ok,I.os,hg,⟨λb o e n hb hx=>?_,λb o e n hb hx=>?_,λb o e n hx=>?_,λb o e hx=>?_,λb xs e=>tups b xs (I.base.tups b xs e),λb o xs e=>frzs b o xs (I.base.frzs b o xs e),λb ps e=>?_⟩,?_,λx c e=>?_,?_,λx c e=>?_,λp hp=>?_,hok,I.len⟩
 .exact keep b o (neL b o e) hb (neC b o e hx) (I.base.keep b o e n hb hx) (I.base.free b o e n hx)
 .obtain⟨sl,e1⟩:=I.base.slot b o e n hb hx
  obtain⟨sl',e2⟩:=slot b _ (neL b o e) hb (neC b o e hx) e1 (I.base.free b o e n hx);exact⟨sl',e2⟩
 .obtain⟨o',e1⟩:=I.base.there b o e hx
  exact free b o' (neC b o e hx) e1 (I.base.free b o e n hx)
 .obtain⟨o',e1⟩:=I.base.there b o e hx
  exact there b o' (neC b o e hx) e1
 .obtain⟨m1,e1⟩:=I.base.tbls b ps e
  obtain⟨m2,e2⟩:=tbls b _ e1;exact⟨m1++m2,by rw[e2,Array.append_assoc]⟩
 .obtain⟨m,hn,hl⟩:=I.loc
  refine⟨m,ns m hn,λi x v e1 e2 e3=>?_⟩;obtain⟨u,r,l⟩:=hl i x v e1 e2 e3;refine⟨u,r,?_⟩;rcases l with l|⟨k,c,e,z⟩
  .exact .inl l
  .exact .inr ⟨k,c,e,cellK x c e _ z⟩
 .obtain⟨v,z⟩:=I.cell x c e
  exact⟨v,cellK x c e v z⟩
 .obtain⟨m,⟨o,_,_,ho,_⟩,_⟩:=I.loc
  exact free _ o (λz=>(hch _ z).2.1 rfl) ho I.free
 .obtain⟨v,o,ho,hd⟩:=I.cell x c e
  exact free c o (λz=>(hch c z).2.2.1 x c e rfl) ho (I.freeC x c e)
 .obtain⟨e,n,ne,nf,d⟩:=I.pin p hp
  have nch:p.1∉ch:=λz=>(hch p.1 z).2.2.2 p hp rfl;exact⟨keep p.1 p.2 ne nf nch e n,free p.1 p.2 nch e n,ne,nf,d⟩
theorem Inv.un{t':Nat}(I:Inv X pins O H s)(u:Un X.fs [] H H' s.heap h')(hok:HOk X.prog X.w H' h'):Inv X pins O H' { s with heap:=h',toks:=t' }:=by
 obtain⟨m,⟨o,es,ep,ho,r⟩,_⟩:=id I.loc;obtain⟨sl,hL⟩:=u.any ho I.free (by simp);exact I.step (g':=s.gens) (d':=s.drawn) (ch:=[]) (λ_ z=>nomatch z) (λb o _ hb _ e n=>u.keep b o e n hb (by simp)) (λb o _ hb _ e n=>u.slot b o e n hb (by simp)) (λb o _ e n=>u.free b o e n (by simp)) (λb o _ e=>u.there b o e (by simp)) u.tups u.frzs u.tbls (λm' hm=>by
  obtain⟨o',es',ep',ho',r'⟩:=hm;rw[ho]at ho';cases ho';exact⟨_,es',ep',hL,r'⟩) hok I.bare
theorem Inv.call{g':Array GenState}{t':Nat}{d':Drawn}{ch:List YG}(I:Inv X pins O H s)(u:Un (frs X.stack) ch H H' s.heap h')(hok:HOk X.prog X.w H' h')(hg:AllBare g')
  (hch:∀b∈ch,(b∈X.ex\/X.s₀.heap.objs.size<=b)/\b≠X.env.locals/\(∀x c,X.env.cells.lookup x=YB c->c≠b)/\∀p∈X.pn++pins,p.1≠b) :
  Inv X pins O H' { s with heap:=h',gens:=g',drawn:=d',toks:=t' }:=by
 obtain⟨m,⟨o,es,ep,ho,r⟩,_⟩:=id I.loc;obtain⟨sl,hL⟩:=u.any ho I.free λz=>(hch _ z).2.1 rfl;exact I.step (ch:=ch) hch (λb o hL hb hc e n=>u.keep b o e n (λz=>(Xo.mp (I.stkSub b z)).elim hL hb) hc) (λb o _ _ hc e n=>u.any e n hc) (λb o hc e n=>u.free b o e n hc) (λb o hc e=>u.there b o e hc) u.tups u.frzs u.tbls (λm' hm=>by
  obtain⟨o',es',ep',ho',r'⟩:=hm;rw[ho]at ho';cases ho';exact⟨_,es',ep',hL,r'⟩) hok hg
theorem Inv.turned{t':Nat}{it:YG}(I:Inv X pins O H s)(k:∀b o,b≠it->s.heap.get? b=YB o->h'.get? b=YB o)(hn:H it=YC)(hL:it≠X.env.locals)
  (h1:it∈X.ex\/X.s₀.heap.objs.size<=it) (h2:∀x c,X.env.cells.lookup x=YB c->c≠it) (h3:∀p∈X.pn++pins,p.1≠it):Inv X pins O H { s with heap:=h',toks:=t' }:=by
 have nit:∀b u,H b=YB u->b≠it:=λb u e z=>by rw[z,hn]at e;cases e
 refine I.step (g':=s.gens) (d':=s.drawn) (ch:=[it]) (λb hb=>?_) (λb o _ _ hc e _=>k b o (λz=>hc (by simp[z])) e) (λb o _ _ hc e _=>⟨o.slots,k b o (λz=>hc (by simp[z])) e⟩) (λ_ _ _ _ n=>n)
  (λb o hc e=>⟨o,k b o (λz=>hc (by simp[z])) e⟩) (λ_ _ e=>e) (λ_ _ _ e=>e) (λb ps e=>⟨#[],by rw[e];simp⟩) (λm hm=>?_) (λb u e=>?_) I.bare
 .have e:b=it:=by simpa using hb
  subst e;exact⟨h1,hL,h2,h3⟩
 .obtain⟨o,es,ep,ho,r⟩:=hm
  exact⟨o,es,ep,k _ o (Vu hL) ho,r⟩
 .refine(I.hok b u e).stay (λc v hc q=>k c v ?_ q) (λ_ q=>q) λ_ _ q=>q
  rcases hc with z|z
  .rw[z];exact nit b u e
  .exact nit c _ z
theorem Inv.tok(I:Inv X pins O H s)(t:Nat):Inv X pins O H { s with toks:=t }:=I.un (h':=s.heap) (t':=t) Un.refl I.hok
theorem Inv.kept{t':Nat}(I:Inv X pins O H s)(k:∀b u,s.heap.get? b=YB u->h'.get? b=YB u):Inv X pins O H { s with heap:=h',toks:=t' }:=I.un (Un.kept k) (I.hok.kept k)
theorem Inv.laid{a:YG}{o:HO}{t':Nat}(I:Inv X pins O H s)(k:∀b u,s.heap.get? b=YB u->h'.get? b=YB u)(hp:s.heap.objs.size<=a)(new:ObjOk X.prog X.w (upd H a o) h' a o) :
  Inv X pins O (upd H a o) { s with heap:=h',toks:=t' }:=I.un (Un.laid k hp (I.hok.fresh hp)) (I.hok.laid k hp new)
theorem Inv.write{x e:YG}{o:HO}{t':Nat}(I:Inv X pins O H s)(mu:Mut (H x))(he:e=x\/H e=YB (.own x))(k:∀b u,b≠e->s.heap.get? b=YB u->h'.get? b=YB u)(heo:∃u,h'.get? e=YB u)
  (new:ObjOk X.prog X.w (upd H x o) h' x o):Inv X pins O (upd H x o) { s with heap:=h',toks:=t' }:=I.un (Un.write mu he k heo) (I.hok.write mu he k heo new)
theorem Inv.pins_of{pins':List (YG×Obj)}(I:Inv X pins O H s)(h:∀p∈pins',s.heap.get? p.1=YB p.2/\H p.1=YC/\p.1≠X.env.locals/\p.1∉X.fs/\∀v,p.2.data≠ .cell v):Inv X pins' O H s :=
 ⟨I.ok,I.os,I.bare,I.base,I.loc,I.cell,I.free,I.freeC,λp hp=>(Qn.mp hp).elim (λz=>I.pin p (Qj _ z)) (h p),I.hok,I.len⟩
theorem Zml{N:List Str}(hN:N.Nodup){i j:Nat}{x:Str}(a:N[i]? =YB x)(b:N[j]? =YB x):i=j:=by
 obtain⟨h1,e1⟩:=Xk.mp a;obtain⟨h2,e2⟩:=Xk.mp b;exact(List.getElem_inj hN).mp (e1.trans e2.symm)
theorem Zj1{M:Model}{A:Qv}{E:Xe->Xg->Prop}{i:Nat}{x:Str}{v:V}{u:Xe}{Q:Unit->Xg->Prop}(I:Inv X pins O H s)(hN:X.N.Nodup)(hi:X.N[i]? =YB x)(hx:Loc X.env.scope x)(r:RelV v u)
  (h:∀s',Inv X pins (O.set i (YB v)) H s'->(∃a,Bb a s.heap s'.heap/\(a=X.env.locals\/X.env.cells.lookup x=YB a))->Q () s') (hf:X.fn x=YD\/X.env.scope.names.lookup x=YB .local:=by first|exact .inl rfl|exact .inr rfl|assumption):XJ M A (storeName X.env x u) Q E s:=by
 obtain⟨m,hn,hl⟩:=id I.loc;have hcls:(X.env.scope.kind== .class||(X.env.scope.kind== .module&&X.env.locals !=X.env.globals))=YF:=by rw[I.ok.kind];rfl
 have hiσ:i<O.length:=by rw[I.len];exact(Xk.mp hi).1
 have cne:=I.cne;have tracked:∀{a:YG} {h':YH},(∃o,s.heap.get? a=YB o/\H a=YC)->Bb a s.heap h'->HOk X.prog X.w H h':=fun{a h'} ha hs b ob e=>by
  obtain⟨_,_,hfree⟩:=ha;refine(I.hok b ob e).stay (λc w' hc q=>(hs.2 c ?_).trans q) (λ_ q=>q) λ_ _ q=>q;rintro rfl;rcases hc with rfl|hc
  .rw[hfree]at e;cases e
  .rw[hfree]at hc;cases hc
 rcases hx with hk|hk
 .refine wpAny_storeName_local hk hn (λh' hn' hs=>?_) hcls
  obtain⟨oL,_,_,hoL,_⟩:=id hn;refine h _ ⟨I.ok,I.os,I.bare,⟨λb o e n hb hx=>?_,λb o e n hb hx=>?_,I.base.free,λb o e hx=>?_,I.base.tups,I.base.frzs,I.base.tbls⟩,⟨_,hn',λj y v' e1 e2 e3=>?_⟩,λy c e=>?_,I.free,I.freeC,λp hp=>?_,tracked ⟨oL,hoL,I.free⟩ hs,by simpa using I.len⟩ ⟨_,hs,.inl rfl⟩
  .exact(hs.2 b (Xp (Qm (XN e) I.ok.above))).trans (I.base.keep b o e n hb hx)
  .obtain⟨sl,e1⟩:=I.base.slot b o e n hb hx
   exact⟨sl,(hs.2 b (Xp (Qm (XN e) I.ok.above))).trans e1⟩
  .obtain⟨o',e1⟩:=I.base.there b o e hx
   exact⟨o',(hs.2 b (Xp (Qm (XN e) I.ok.above))).trans e1⟩
  .by_cases hj:j=i
   .subst hj
    rw[hi]at e1;cases e1;rw[JL hiσ]at e2;cases e2;exact⟨u,r,.inl ⟨hk,by simp⟩⟩
   .rw[QT (Vu hj)]at e2
    obtain⟨u',r',q⟩:=hl j y v' e1 e2 e3;refine⟨u',r',?_⟩;rcases q with⟨k,e⟩|⟨k,c,e,z⟩
    .refine .inl ⟨k,?_⟩
     have:y≠x:=λe=>hj (Zml hN e1 (e▸hi));simp[this,e]
    .exact .inr ⟨k,c,e,z.sameBut hs (cne y c e)⟩
  .obtain⟨w',z⟩:=I.cell y c e
   exact⟨w',z.sameBut hs (cne y c e)⟩
  .obtain⟨e,n,ne,nf,d⟩:=I.pin p hp
   exact⟨(hs.2 p.1 ne).trans e,n,ne,nf,d⟩
 .have hfn:X.fn x=YD:=by
   rcases hf with z|z
   .exact z
   .rw[z]at hk;cases hk
  obtain⟨c,hc⟩:=I.ok.has x (.inl hk);obtain⟨w',z⟩:=I.cell x c hc;refine wpAny_storeName_cell I.ok.kind hk hc z (λh' hc' hs=>?_);obtain⟨oc,hoc,hocd⟩:=id z;refine h { s with heap:=h' } ⟨I.ok,I.os,I.bare,⟨λb o e n hb hx=>?_,λb o e n hb hx=>?_,I.base.free,λb o e hx=>?_,I.base.tups,I.base.frzs,I.base.tbls⟩,⟨m,hn.sameBut hs (Vu (cne x c hc)),λj y v' e1 e2 e3=>?_⟩,λy c' e=>?_,I.free,I.freeC,λp hp=>?_,tracked ⟨oc,hoc,I.freeC x c hc⟩ hs,by simpa using I.len⟩ ⟨c,hs,.inr hc⟩
  .exact(hs.2 b (Xp (Qm (XN e) (I.ok.cab x c hfn hc)))).trans (I.base.keep b o e n hb hx)
  .obtain⟨sl,e1⟩:=I.base.slot b o e n hb hx
   exact⟨sl,(hs.2 b (Xp (Qm (XN e) (I.ok.cab x c hfn hc)))).trans e1⟩
  .obtain⟨o',e1⟩:=I.base.there b o e hx
   exact⟨o',(hs.2 b (Xp (Qm (XN e) (I.ok.cab x c hfn hc)))).trans e1⟩
  .by_cases hj:j=i
   .subst hj
    rw[hi]at e1;cases e1;rw[JL hiσ]at e2;cases e2;exact⟨u,r,.inr ⟨.inl hk,c,hc,hc'⟩⟩
   .rw[QT (Vu hj)]at e2
    obtain⟨u',r',q⟩:=hl j y v' e1 e2 e3;refine⟨u',r',?_⟩;rcases q with q|⟨k,c',e,z'⟩
    .exact .inl q
    .refine .inr ⟨k,c',e,z'.sameBut hs ?_⟩
     rintro rfl;exact hj (Zml hN e1 (I.ok.inj _ _ _ e hc▸hi))
  .by_cases hcc:c'=c
   .subst hcc;exact⟨_,hc'⟩
   .obtain⟨w2,z2⟩:=I.cell y c' e
    exact⟨w2,z2.sameBut hs hcc⟩
  .obtain⟨e,n,ne,nf,d⟩:=I.pin p hp
   refine⟨(hs.2 p.1 ?_).trans e,n,ne,nf,d⟩;intro q;rw[q,hoc]at e;have q':oc=p.2:=Qy e;exact d w' (by rw[<-q'];exact hocd)
theorem Zns{M:Model}{A:Qv}{E:Xe->Xg->Prop}{i:Nat}{x:Str}{v:V}{u:Xe}{Q:Unit->Xg->Prop}(I:Inv X pins O H s)(hN:X.N.Nodup)(hi:X.N[i]? =YB x)(hx:Loc X.env.scope x)(r:RelV v u)
  (h:∀s',Inv X pins (O.set i (YB v)) H s'->Q () s') (hf:X.fn x=YD\/X.env.scope.names.lookup x=YB .local:=by first|exact .inl rfl|exact .inr rfl|assumption):XJ M A (storeName X.env x u) Q E s :=
 Zj1 I hN hi hx r (λs' I' _=>h s' I') hf
theorem Inv.call'{s':Xg}{ch:List YG}(I:Inv X pins O H s)(ho:s'.os=s.os)(u:Un (frs X.stack) ch H H' s.heap s'.heap)(hok:HOk X.prog X.w H' s'.heap)(hg:AllBare s'.gens)
  (hch:∀b∈ch,(b∈X.ex\/X.s₀.heap.objs.size<=b)/\b≠X.env.locals/\(∀x c,X.env.cells.lookup x=YB c->c≠b)/\∀p∈X.pn++pins,p.1≠b):Inv X pins O H' s':=by
 obtain⟨h',g',d',t',o'⟩:=s';have e:o'=s.os:=ho;subst e;exact I.call (g':=g') (t':=t') (d':=d') u hok hg hch
end
abbrev XK:=Xe->Option YG->Hp->Prop
abbrev St:=List (Option V)
abbrev VK:=V->Hp->Prop
abbrev TE:=St->Hp->VK->Prop
abbrev TT:=St->Hp->(Bool->Hp->Prop)->Prop
abbrev TA:=St->Hp->(List V->Hp->Prop)->Prop
set_option genInjectivity false in
structure Ends where
 nx:St->Hp->Prop
 rt:VK
 bk:St->Hp->Prop:=λ_ _=>False
 ct:St->Hp->Prop:=λ_ _=>False
abbrev TS:=Ends->St->Hp->Prop
def EP(X:Cx)(pins:List (YG×Obj))(O:St)(Q:VK)(u:Xe)(s':Xg):Prop:=∃v H',Inv X pins O H' s'/\RelV v u/\Q v H'
def TP(X:Cx)(pins:List (YG×Obj))(O:St)(Q:Bool->Hp->Prop)(b:Bool)(s':Xg):Prop:=∃H',Inv X pins O H' s'/\Q b H'
def AP(X:Cx)(pins:List (YG×Obj))(O:St)(Q:List V->Hp->Prop)(us:List Xe)(s':Xg):Prop:=∃vs H',Inv X pins O H' s'/\Vals vs us/\Q vs H'
def SP(X:Cx)(pins:List (YG×Obj))(D:Ends)(f:Flow)(s':Xg):Prop :=
 match f with
 | .next=>∃O' H',Inv X pins O' H' s'/\D.nx O' H'
 | .brk=>∃O' H',Inv X pins O' H' s'/\D.bk O' H'
 | .cont=>∃O' H',Inv X pins O' H' s'/\D.ct O' H'
 | .ret u=>∃v O' H',Inv X pins O' H' s'/\RelV v u/\D.rt v H'
def PE(X:Cx)(e:YJ)(t:TE):Prop :=
 ∀(pins:List (YG×Obj)) (s:Xg) (O:St) (H:Hp) (Q:VK),Inv X pins O H s->t O H Q->XJ (X8 X.prog X.w) X.A (eval e X.env) (EP X pins O Q) X.xe s
def PT(X:Cx)(e:YJ)(t:TT):Prop :=
 ∀(pins:List (YG×Obj)) (s:Xg) (O:St) (H:Hp) (Q:Bool->Hp->Prop),Inv X pins O H s->t O H Q->XJ (X8 X.prog X.w) X.A (isTrue e X.env (eval e X.env)) (TP X pins O Q) X.xe s
def PW(X:Cx)(e:YJ)(t:TT):Prop :=
 ∀(whole:Sem Xe) (pins:List (YG×Obj)) (s:Xg) (O:St) (H:Hp) (Q:Bool->Hp->Prop),Inv X pins O H s->t O H Q->XJ (X8 X.prog X.w) X.A (isTrue e X.env whole) (TP X pins O Q) X.xe s
theorem PW.pt{X:Cx}{e:YJ}{t:TT}(h:PW X e t):PT X e t:=h _
def PA(X:Cx)(es:List YJ)(t:TA):Prop :=
 ∀(pos:Pos) (pins:List (YG×Obj)) (s:Xg) (O:St) (H:Hp) (Q:List V->Hp->Prop),Inv X pins O H s->t O H Q->XJ (X8 X.prog X.w) X.A (spliced (JF pos (Xu es X.env))) (AP X pins O Q) X.xe s
def PS(X:Cx)(st:YK)(t:TS):Prop :=
 ∀(pins:List (YG×Obj)) (s:Xg) (O:St) (H:Hp) (D:Ends),Inv X pins O H s->t D O H->XJ (X8 X.prog X.w) X.A (exec st X.env) (SP X pins D) X.xe s
def PSs(X:Cx)(st:List YK)(t:TS):Prop :=
 ∀(pins:List (YG×Obj)) (s:Xg) (O:St) (H:Hp) (D:Ends),Inv X pins O H s->t D O H->XJ (X8 X.prog X.w) X.A (execs st X.env) (SP X pins D) X.xe s
theorem thn{α:Type}{t:Sem α}{Q Q':α->Xg->Prop}{M:Model}{A:Qv}{E:Xe->Xg->Prop}{s:Xg}(h:XJ M A t Q E s)(hQ:∀a s,Q a s->Q' a s):XJ M A t Q' E s:=Bo h hQ λ_ _ x=>x
section
variable {X:Cx}
def Ygs(i:Nat):TE:=λO H Q=>∃v,O[i]? =YB (YB v)/\Q v H
def tC(v:V):TE:=λ_ H Q=>Q v H
theorem Yal{i:Nat}{x:Str}{pos:Pos}(hN:X.N[i]? =YB x)(hv:Vis X.env.scope x)(hd:(x==("__debug__" : Str))=YF:=by decide)(hcd:(x==("__classdict__" : Str))=YF:=by decide):PE X (.Name x pos) (Ygs i):=by
 intro pins s O H Q I h;obtain⟨v,e,h⟩:=h;obtain⟨m,hn,hl⟩:=I.loc;obtain⟨u,r,l⟩:=hl i x v hN e hv;have fin:EP X pins O Q u s:=⟨v,H,I,r,h⟩;rcases l with⟨hk,hm⟩|⟨hk,c,hc,hcell⟩
 .exact wpAny_Name (wpAny_loadName_local I.ok.kind hk hn hm fin) hd
 .rcases hk with hk|hk
  .exact wpAny_Name (wpAny_loadName_cell I.ok.kind hk hc hcell fin) hd
  .exact wpAny_Name (wpAny_loadName_free I.ok.kind hk hc hcell fin hcd) hd
theorem Zyk{i j pos}:PE X (.Constant (.int i) j pos) (tC (.int i)):=λ_ _ _ H _ I h=>wpAny_Constant_int ⟨.int i,H,I.tok _,⟨_,rfl⟩,h⟩
theorem Yc0{b j pos}:PE X (.Constant (.bool b) j pos) (tC (.bl b)):=λ_ _ _ H _ I h=>Constant_bool ⟨.bl b,H,I,rfl,h⟩
theorem Z7d{j pos}:PE X (.Constant .none j pos) (tC .non):=λ_ _ _ H _ I h=>Constant_none ⟨.non,H,I,rfl,h⟩
theorem Z66{x j pos}:PE X (.Constant (.str x) j pos) (tC (.str x)):=λ_ _ _ H _ I h=>Calls.Constant_str ⟨.str x,H,I.tok _,⟨_,rfl⟩,h⟩
def Gl(X:Cx)(x:Str):Prop:=X.env.kindOf x=YB .globalImplicit
theorem Zue{E:Xe->Xg->Prop}{pins:List (YG×Obj)}{s:Xg}{O:St}{H:Hp}{x:Str}{u:Xe}{pos:Pos}{Q:Xe->Xg->Prop}(I:Inv X pins O H s)(hg:Gl X x)(hm:X.mg x=YB u)(h:Q u s)
  (hd:(x==("__debug__" : Str))=YF:=by decide):XJ (X8 X.prog X.w) X.A (eval (.Name x pos) X.env) Q E s :=
 Calls.Name_function_global I.ok.kind hg (Calls.loadGlobal_global (by rw[I.ok.glob];exact I.mod.glob.keeps I.bk) hm h) hd
theorem Zbz{E:Xe->Xg->Prop}{pins:List (YG×Obj)}{s:Xg}{O:St}{H:Hp}{x:Str}{u:Xe}{pos:Pos}{Q:Xe->Xg->Prop}(I:Inv X pins O H s)(hg:Gl X x)(hm:X.mg x=YC)(hv:Qe x=YB u)(h:Q u s)
  (hn:x≠"__name__" :=by decide) (hd:(x==("__debug__" : Str))=YF:=by decide):XJ (X8 X.prog X.w) X.A (eval (.Name x pos) X.env) Q E s:=by
 obtain⟨mb,h1,h2⟩:=I.mod.blt;exact Calls.Name_function_global I.ok.kind hg (Calls.loadGlobal_builtin (by rw[I.ok.glob];exact I.mod.glob.keeps I.bk) hm (by rw[I.ok.blt];exact h1.keeps I.bk) ((h2 x hn).trans hv) h) hd
theorem Z2b{x:Str}{v:V}{u:Xe}{pos:Pos}(hg:Gl X x)(hm:X.mg x=YB u)(r:RelV v u)(hd:(x==("__debug__" : Str))=YF:=by decide):PE X (.Name x pos) (tC v) :=
 λ_ _ _ H _ I h=>Zue I hg hm ⟨v,H,I,r,h⟩ hd
theorem Zzq{x:Str}{v:V}{u:Xe}{pos:Pos}(hg:Gl X x)(hm:X.mg x=YC)(hv:Qe x=YB u)(r:RelV v u)(hn:x≠"__name__" :=by decide)(hd:(x==("__debug__" : Str))=YF:=by decide):PE X (.Name x pos) (tC v) :=
 λ_ _ _ H _ I h=>Zbz I hg hm hv ⟨v,H,I,r,h⟩ hn hd
def t2I(ta tb:TE)(k:Int->Int->Hp->Prop):St->Hp->Prop:=λO H=>ta O H λx H1=>tb O H1 λy H2=>∃i j,x= .int i/\y= .int j/\k i j H2
variable {a b:YJ}{ta tb:TE}{pos:Pos}
def Z4z(p:Int->Int->Bool)(ta tb:TE):TE:=λO H Q=>t2I ta tb (λi j H2=>Q (.bl (p i j)) H2) O H
abbrev tLt:TE->TE->TE:=Z4z λi j=>decide (i<j)
abbrev tLe:TE->TE->TE:=Z4z λi j=>decide (i<=j)
abbrev tGt:TE->TE->TE:=Z4z λi j=>decide (j<i)
abbrev tGe:TE->TE->TE:=Z4z λi j=>decide (j<=i)
abbrev Yi0:TE->TE->TE:=Z4z λi j=>decide (i=j)
abbrev Yiz:TE->TE->TE:=Z4z λi j=>!decide (i=j)
def tB(t:TE):TT:=λO H Q=>t O H λx H1=>∃c,x= .bl c/\Q c H1
variable {tA tB':TT}{rest:List YJ}
def Yhq(t u:TT):TT:=λO H Q=>t O H λc H1=>if c=YD then u O H1 Q else Q YF H1
def tOr(t u:TT):TT:=λO H Q=>t O H λc H1=>if c=YD then Q YD H1 else u O H1 Q
def Yhu(t:TT):TT:=λO H Q=>t O H λc H1=>Q (!c) H1
theorem Z1s(ha:PT X a tA):PW X (.BoolOp .And [a] pos) tA:=by
 intro wh pins s O H Q I h;refine isTrue_and (thn (ha pins s O H Q I h) λc s1 e=>?_);cases c with
 | true=>exact isTrue_and_nil e
 | false=>exact e
theorem Z6w(ha:PT X a tA):PW X (.BoolOp .Or [a] pos) tA:=by
 intro wh pins s O H Q I h;refine isTrue_or (thn (ha pins s O H Q I h) λc s1 e=>?_);cases c with
 | false=>exact isTrue_or_nil e
 | true=>exact e
theorem Z70(ha:PT X a tA)(hb:PW X (.BoolOp .And (b::rest) pos) tB'):PW X (.BoolOp .And (a::b::rest) pos) (Yhq tA tB'):=by
 intro wh pins s O H Q I h;refine isTrue_and (thn (ha pins s O H _ I h) λc s1 qz9=>?_);obtain⟨H1,I1,q1⟩:=qz9;cases c with
 | true=>exact hb wh pins s1 O H1 Q I1 q1
 | false=>exact⟨H1,I1,q1⟩
theorem Ycr(ha:PT X a tA)(hb:PW X (.BoolOp .Or (b::rest) pos) tB'):PW X (.BoolOp .Or (a::b::rest) pos) (tOr tA tB'):=by
 intro wh pins s O H Q I h;refine isTrue_or (thn (ha pins s O H _ I h) λc s1 qz9=>?_);obtain⟨H1,I1,q1⟩:=qz9;cases c with
 | true=>exact⟨H1,I1,q1⟩
 | false=>exact hb wh pins s1 O H1 Q I1 q1
theorem Z9z(ha:PT X a tA):PT X (.UnaryOp .Not a pos) (Yhu tA):=by
 intro pins s O H Q I h;exact isTrue_not (ha pins s O H (λc H1=>Q (!c) H1) I h)
def Ydw(ta tb:TE):TE:=λO H Q=>ta O H λx H1=>∃c,x= .bl c/\if c=YD then tb O H1 Q else Q (.bl YF) H1
def Yb3(ta:TE):TE:=λO H Q=>ta O H λx H1=>∃c,x= .bl c/\Q (.bl (!c)) H1
theorem Z40{op}{t:TE}(h:PE X a t):PE X (.BoolOp op [a] pos) t:=λpins s O H Q I hw=>BoolOp_one (h pins s O H Q I hw)
theorem Z50(ha:PE X a ta)(hb:PE X (.BoolOp .And (b::rest) pos) tb):PE X (.BoolOp .And (a::b::rest) pos) (Ydw ta tb):=by
 intro pins s O H Q I h;refine BoolOp_and (thn (ha pins s O H _ I h) λv s1 qz9=>?_);obtain⟨x,H1,I1,r1,q1⟩:=qz9;obtain⟨c,rfl,q1⟩:=q1;cases r1;refine JG ?_;cases c with
 | true=>exact hb pins s1 O H1 Q I1 q1
 | false=>exact⟨.bl YF,H1,I1,rfl,q1⟩
theorem Z77(ha:PE X a ta):PE X (.UnaryOp .Not a pos) (Yb3 ta):=by
 intro pins s O H Q I h;refine UnaryOp_ (thn (ha pins s O H _ I h) λv s1 qz9=>?_);obtain⟨x,H1,I1,r1,q1⟩:=qz9;obtain⟨c,rfl,q1⟩:=q1;cases r1;exact not_of (JG ⟨.bl (!c),H1,I1,rfl,q1⟩)
def tIf(t:TT)(ta tb:TE):TE:=λO H Q=>t O H λc H1=>if c=YD then ta O H1 Q else tb O H1 Q
theorem Zwz{c:YJ}(hc:PT X c tA)(ha:PE X a ta)(hb:PE X b tb):PE X (.IfExp c a b pos) (tIf tA ta tb):=by
 intro pins s O H Q I h;refine wpAny_IfExp (thn (hc pins s O H _ I h) λd s1 qz9=>?_);obtain⟨H1,I1,q1⟩:=qz9;cases d with
 | true=>exact ha pins s1 O H1 Q I1 q1
 | false=>exact hb pins s1 O H1 Q I1 q1
end
def SqL(K:Xd)(H:Hp)(a:YG)(xs:List V):Prop :=
 Rd H a (.lst xs)\/
  ∃(o:Obj) (its:Array Xe) (n:Nat),K.lookup a=YB o/\o.cls= .type "list"/\o.dict=YC/\o.data= .seq its n/\its.size<=XC/\Vals xs its.toList
def SqT(K:Xd)(H:Hp)(a:YG)(xs:List V):Prop :=
 Rd H a (.tup xs)\/
  ∃(o:Obj) (its:Array Xe) (n:Nat),K.lookup a=YB o/\o.cls= .type "tuple"/\o.data= .seq its n/\its.size<=XC/\Vals xs its.toList
def Yhl:Xe->Option V
 | .none=>YB .non
 | .bool b=>YB (.bl b)
 | .int i _=>YB (.int i)
 | .str x _=>YB (.str x)
 | .bytes b _=>YB (.byt b)
 | .float b _=>YB (.flt b)
 | .ref a=>YB (.ref a)
 | .type n=>YB (.ty n)
 | _=>YC
theorem RelV.abs{x:V}{u:Xe}(r:RelV x u):Yhl u=YB x:=by
 cases x with
 | non=>cases r;rfl
 | bl _=>cases r;rfl
 | int _=>obtain⟨t,rfl⟩:=r;rfl
 | str _=>obtain⟨t,rfl⟩:=r;rfl
 | byt _=>obtain⟨t,rfl⟩:=r;rfl
 | flt _=>obtain⟨t,rfl⟩:=r;rfl
 | ref _=>cases r;rfl
 | ty _=>cases r;rfl
theorem RelV.inj{x y:V}{u:Xe}(r:RelV x u)(q:RelV y u):x=y:=Qy (r.abs.symm.trans q.abs)
theorem Vals.inj{xs ys:List V}{us:List Xe}(h:Vals xs us)(k:Vals ys us):xs=ys:=by
 induction h generalizing ys with
 | nil=>cases k;rfl
 | cons r t ih=>
  cases k with
  | cons r' t'=>rw[r.inj r',ih t']
section
variable {X:Cx}{pins:List (YG×Obj)}{O:St}{H:Hp}{s:Xg}{a:YG}{xs ys:List V}
theorem Inv.list(I:Inv X pins O H s)(h:SqL X.K H a xs):∃its:List Xe,Vals xs its/\PlainL s.heap a its.toArray/\xs.length<=XC:=by
 rcases h with h|⟨o,its,n,hk,hc,hd,hs,hz,r⟩
 .obtain⟨z,its,n,r,e⟩:=h.ok I.hok
  exact⟨its,r,⟨_,n,e,rfl,rfl,rfl⟩,z⟩
 .refine⟨its.toList,r,⟨o,n,I.kIn a o hk,hc,hd,by simpa using hs⟩,?_⟩
  have e:=r.length;simp only[Xv]at e;omega
theorem Inv.tuple(I:Inv X pins O H s)(h:SqT X.K H a xs):∃its:List Xe,Vals xs its/\IsTup s.heap a its.toArray/\xs.length<=XC:=by
 rcases h with h|⟨o,its,n,hk,hc,hs,hz,r⟩
 .obtain⟨z,its,r,p⟩:=h.ok I.hok
  exact⟨its,r,p,z⟩
 .refine⟨its.toList,r,⟨o,I.kIn a o hk,hc,n,by simpa using hs⟩,?_⟩
  have e:=r.length;simp only[Xv]at e;omega
theorem Inv.list_inj(I:Inv X pins O H s)(h:SqL X.K H a xs)(h':SqL X.K H a ys):xs=ys:=by
 obtain⟨its,r,⟨o,n,e,_,_,d⟩,_⟩:=I.list h;obtain⟨its',r',⟨o',n',e',_,_,d'⟩,_⟩:=I.list h';rw[e]at e';cases e';rw[d]at d';injection d' with d1 _;have:its=its':=by simpa using YW Array.toList d1
 subst this;exact r.inj r'
theorem Inv.tuple_inj(I:Inv X pins O H s)(h:SqT X.K H a xs)(h':SqT X.K H a ys):xs=ys:=by
 obtain⟨its,r,⟨o,e,_,n,d⟩,_⟩:=I.tuple h;obtain⟨its',r',⟨o',e',_,n',d'⟩,_⟩:=I.tuple h';rw[e]at e';cases e';rw[d]at d';injection d' with d1 _;have:its=its':=by simpa using YW Array.toList d1
 subst this;exact r.inj r'
end
abbrev Cx.wish(X:Cx)(E:Xe->Xg->Prop):Cx:={ X with xe:=E }
abbrev Cx.nox(X:Cx):Cx:=X.wish λ_ _=>False
theorem Cx.Ok.wish{X:Cx}(ok:X.Ok)(E:Xe->Xg->Prop):(X.wish E).Ok :=
 ⟨ok.mod,ok.kind,ok.glob,ok.blt,ok.above,ok.inj,ok.has,ok.cab,ok.hd,ok.frames,ok.stk,ok.exf,ok.bs,ok.bsz,ok.noex,ok.exfs,ok.funs,ok.frf⟩
theorem Cx.Ok.unwish{X:Cx}{E:Xe->Xg->Prop}(ok:(X.wish E).Ok):X.Ok :=
 ⟨ok.mod,ok.kind,ok.glob,ok.blt,ok.above,ok.inj,ok.has,ok.cab,ok.hd,ok.frames,ok.stk,ok.exf,ok.bs,ok.bsz,ok.noex,ok.exfs,ok.funs,ok.frf⟩
section
variable {X:Cx}{pins:List (YG×Obj)}{O:St}{H:Hp}{s:Xg}{E:Xe->Xg->Prop}
theorem Inv.wish(I:Inv X pins O H s)(E:Xe->Xg->Prop):Inv (X.wish E) pins O H s:=⟨I.ok.wish E,I.os,I.bare,I.base,I.loc,I.cell,I.free,I.freeC,I.pin,I.hok,I.len⟩
theorem Inv.unwish(I:Inv (X.wish E) pins O H s):Inv X pins O H s:=⟨I.ok.unwish,I.os,I.bare,I.base,I.loc,I.cell,I.free,I.freeC,I.pin,I.hok,I.len⟩
theorem SP.unwish{D:Ends}{f:Flow}{s':Xg}(h:SP (X.wish E) pins D f s'):SP X pins D f s':=by
 cases f with
 | next=>obtain⟨O',H',I,q⟩:=h;exact⟨O',H',I.unwish,q⟩
 | brk=>obtain⟨O',H',I,q⟩:=h;exact⟨O',H',I.unwish,q⟩
 | cont=>obtain⟨O',H',I,q⟩:=h;exact⟨O',H',I.unwish,q⟩
 | ret u=>obtain⟨v,O',H',I,r,q⟩:=h;exact⟨v,O',H',I.unwish,r,q⟩
theorem PSs.nox{st:List YK}{t:TS}(h:PSs X.nox st t):PSs X st t:=λpins s O H D I hw=>
 Bo (h pins s O H D (I.wish _) hw) (λ_ _ q=>q.unwish) λ_ _ z=>Ug z
end
section
variable {X:Cx}{st:YK}{rest:List YK}{t u:TS}{e:YJ}{te:TE}{pos:Pos}
def Ycj:TS:=λD O H=>D.nx O H
def Yim(t u:TS):TS:=λD O H=>t { D with nx:=u D } O H
theorem Zz9:PSs X [] Ycj:=λ_ _ O H _ I h=>wpAny_execs_nil ⟨O,H,I,h⟩
theorem Zxf(h1:PS X st t)(h2:PSs X rest u):PSs X (st::rest) (Yim t u):=by
 intro pins s O H D I h;refine wpAny_execs_cons (thn (h1 pins s O H { D with nx:=u D } I h) λf s1 q=>?_);cases f with
 | next=>
  obtain⟨O',H',I',q⟩:=q;exact h2 pins s1 O' H' D I' q
 | ret v=>exact q
 | brk=>exact q
 | cont=>exact q
theorem Z2t(h1:PS X st t):PSs X [st] t:=by
 intro pins s O H D I h;refine wpAny_execs_cons (thn (h1 pins s O H D I h) λf s1 q=>?_);cases f with
 | next=>exact wpAny_execs_nil q
 | ret v=>exact q
 | brk=>exact q
 | cont=>exact q
theorem Inv.quiet{pins:List (YG×Obj)}{O:St}{H:Hp}{s:Xg}(I:Inv X pins O H s):interactive X.env=YF:=by simp[interactive,I.ok.kind]
def Ycq(te:TE):TS:=λD O H=>te O H λ_ H1=>D.nx O H1
theorem Zin(he:PE X e te)(hs:VH e YC pos.line X.env=pure YF:=by rfl):PS X (.Expr e pos) (Ycq te):=by
 intro pins s O H D I h;refine wpAny_Expr_any (thn (he pins s O H _ I h) λv s1 qz9=>?_) I.quiet hs;obtain⟨x,H1,I1,r1,q1⟩:=qz9;exact⟨O,H1,I1,q1⟩
def Yiq(te:TE):TS:=λD O H=>te O H D.rt
theorem Zp8(he:PE X e te):PS X (.Return (YB e) pos) (Yiq te):=by
 intro pins s O H D I h;refine wpAny_Return_some (thn (he pins s O H _ I h) λv s1 qz9=>?_);obtain⟨x,H1,I1,r1,q1⟩:=qz9;exact⟨x,O,H1,I1,r1,q1⟩
def Yhn(c:TT)(t u:TS):TS:=λD O H=>c O H λb H1=>if b=YD then t D O H1 else u D O H1
theorem Yd5{c:YJ}{a b:List YK}{tc:TT}(hc:PT X c tc)(ha:PSs X a t)(hb:PSs X b u):PS X (.If c a b pos) (Yhn tc t u):=by
 intro pins s O H D I h;refine wpAny_If (thn (hc pins s O H _ I h) λd s1 qz9=>?_);obtain⟨H1,I1,q1⟩:=qz9;cases d with
 | true=>exact ha pins s1 O H1 D I1 q1
 | false=>exact hb pins s1 O H1 D I1 q1
def Z83:TS:=λ_ _ _=>False
theorem Zxb:PS X st Z83:=λ_ _ _ _ _ _ h=>h.elim
end
abbrev TG:=V->St->Hp->(St->Hp->Prop)->Prop
abbrev TGs:=List V->St->Hp->(St->Hp->Prop)->Prop
def PG(X:Cx)(target:YJ)(t:TG):Prop :=
 ∀(pins:List (YG×Obj)) (s:Xg) (O:St) (H:Hp) (v:V) (u:Xe) (Q:St->Hp->Prop),Inv X pins O H s->RelV v u->t v O H Q ->
  XJ (X8 X.prog X.w) X.A (U5 target X.env u) (λ_ s'=>∃O' H',Inv X pins O' H' s'/\Q O' H') X.xe s
def PGs(X:Cx)(ts:List YJ)(t:TGs):Prop :=
 ∀(pins:List (YG×Obj)) (s:Xg) (O:St) (H:Hp) (vs:List V) (us:List Xe) (Q:St->Hp->Prop),Inv X pins O H s->Vals vs us->t vs O H Q ->
  XJ (X8 X.prog X.w) X.A (assignInOrder ((JR ts X.env).map (·.2)) us) (λ_ s'=>∃O' H',Inv X pins O' H' s'/\Q O' H') X.xe s
abbrev Ydq:=V->V->V->Hp->(Hp->Prop)->Prop
def Yha(X:Cx)(t:Ydq):Prop :=
 ∀(pins:List (YG×Obj)) (s:Xg) (O:St) (H:Hp) (o i v:V) (ov iv u:Xe) (Q:Hp->Prop),Inv X pins O H s->RelV o ov->RelV i iv->RelV v u->t o i v H Q ->
  XJ (X8 X.prog X.w) X.A (setItem ov iv u) (λ_ s'=>∃H',Inv X pins O H' s'/\Q H') X.xe s
abbrev TIp:=V->V->Hp->VK->Prop
section
variable {X:Cx}{pos:Pos}
def Zrt(i:Nat):TG:=λv O H Q=>Q (O.set i (YB v)) H
theorem Zqp{i:Nat}{x:Str}(hN:X.N.Nodup)(hi:X.N[i]? =YB x)(hx:Loc X.env.scope x)(hf:X.fn x=YD\/X.env.scope.names.lookup x=YB .local:=by first|exact .inl rfl|exact .inr rfl|assumption):PG X (.Name x pos) (Zrt i):=by
 intro pins s O H v u Q I r h;exact wpAny_assign_Name (Zns I hN hi hx r (λs' I'=>⟨_,H,I',h⟩) hf)
def Yhk:TGs:=λvs O H Q=>vs=[]/\Q O H
def Ydf(t:TG)(u:TGs):TGs:=λvs O H Q=>∃v r,vs=v::r/\t v O H λO' H'=>u r O' H' Q
theorem Z0z:PGs X [] Yhk:=by
 intro pins s O H vs us Q I r h;obtain⟨e,h⟩:=h;subst e;cases r;exact assignInOrder_nil ⟨O,H,I,h⟩
theorem Zmu{e:YJ}{es:List YJ}{t:TG}{u:TGs}(h1:PG X e t)(h2:PGs X es u)
  (hs:(JR (e::es) X.env).map (·.2)=U5 e X.env::(JR es X.env).map (·.2):=by rfl):PGs X (e::es) (Ydf t u):=by
 intro pins s O H vs us Q I r h;obtain⟨v,vr,e1,h⟩:=h;subst e1;cases r with
 | cons r rr=>
  rw[hs];refine assignInOrder_cons (thn (h1 pins s O H _ _ _ I r h) λ_ s1 qz9=>?_);obtain⟨O1,H1,I1,q1⟩:=qz9;exact h2 pins s1 O1 H1 _ _ Q I1 rr q1
def Yht(K:Xd)(n:Nat)(t:TGs):TG:=λv O H Q=>∃a xs,v= .ref a/\SqT K H a xs/\xs.length=n/\t xs O H Q
theorem Z6i{es:List YJ}{k:Nat}{t:TGs}{n:Nat}(hc:X.calm=YD)(h:PGs X es t)
  (hn:(JR es X.env).length=n:=by rfl) (hst:(JR es X.env).findIdx? (·.1)=YC:=by rfl):PG X (.Tuple es k pos) (Yht X.K n t):=by
 intro pins s O H v u Q I r hw;obtain⟨a,xs,e1,hq,hl,hw⟩:=hw;subst e1;cases r;obtain⟨its,rv,ht,hz⟩:=I.tuple hq;refine assign_Tuple_tuple (I.ok.hd hc) ht (by simp[hn,<-hl,rv.length]) hst λh' hx=>?_;have I1:Inv X pins O H { s with heap:=h' }:=I.kept (t':=s.toks) λb o e=>hx b o (Xp (XN e)) e;exact h pins _ O H xs _ Q I1 (by simpa using rv) hw
def Yd8(to ti:TE)(t:Ydq):TG:=λv O H Q=>to O H λo H1=>ti O H1 λi H2=>t o i v H2 λH3=>Q O H3
theorem Zx9{o i:YJ}{to ti:TE}{t:Ydq}(ho:PE X o to)(hi:PE X i ti)(hs:Yha X t)
  (ha:∀v,U5 (.Subscript o i pos) X.env v=(do
   let ov<-holding [v] (eval o X.env);let iv<-holding [v,ov] (eval i X.env)
   standAt pos
   holding [v,ov,iv] (setItem ov iv v)
   release [v,ov,iv] []):=by intro _;rfl):PG X (.Subscript o i pos) (Yd8 to ti t):=by
 intro pins s O H v u Q I r h;rw[ha];refine Xb (JK (thn (ho pins s O H _ I h) λov s1 qz9=>?_));obtain⟨x,H1,I1,r1,q1⟩:=qz9;refine Xb (JK (thn (hi pins s1 O H1 _ I1 q1) λiv s2 qz9=>?_));obtain⟨y,H2,I2,r2,q2⟩:=qz9;refine Xb (wpAny_standAt (Xb (JK (thn (hs pins s2 O H2 x y v ov iv u _ I2 r1 r2 r q2) λ_ s3 qz9=>?_))));obtain⟨H3,I3,q3⟩:=qz9;exact wpAny_release ⟨O,H3,I3,q3⟩
def Z81(te:TE)(g:TG):TS:=λD O H=>te O H λx H1=>g x O H1 D.nx
theorem Zqr{tg e:YJ}{te:TE}{g:TG}(he:PE X e te)(hg:PG X tg g)(hs:swapsWithSole [tg] e pos.line X.env=pure YF:=by rfl)(hw:swappedStores [tg] e X.env=pure YC:=by rfl)
  (h1:(JR [tg] X.env).map (·.2)=[U5 tg X.env]:=by rfl):PS X (.Assign [tg] e pos) (Z81 te g):=by
 intro pins s O H D I h;refine wpAny_Assign_stores (thn (he pins s O H _ I h) λv s1 qz9=>?_) hs hw;obtain⟨x,H1,I1,r1,q1⟩:=qz9;rw[h1];exact thn (hg pins s1 O H1 x v _ I1 r1 q1) λ_ s2 q=>q
theorem Zx8{i:Nat}{x:Str}{e:YJ}{te:TE}{pos':Pos}(hN:X.N.Nodup)(hi:X.N[i]? =YB x)(hx:Loc X.env.scope x)(he:PE X e te)(hs:VH e (YB (.Name x pos')) pos.line X.env=pure YF:=by rfl)(hf:X.fn x=YD\/X.env.scope.names.lookup x=YB .local:=by first|exact .inl rfl|exact .inr rfl|assumption) :
  PS X (.Assign [.Name x pos'] e pos) (Z81 te (Zrt i)):=by
 intro pins s O H D I h;refine wpAny_Assign_Name (thn (he pins s O H _ I h) λv s1 qz9=>?_) hs;obtain⟨y,H1,I1,r1,q1⟩:=qz9;exact Zns I1 hN hi hx r1 (λs2 I2=>⟨_,H1,I2,q1⟩) hf
end
section
variable {X:Cx}{pos:Pos}
def Z7t(c:TT)(tb:TS):TS:=λD O H=>∃W:Nat->St->Hp->Prop,(∃m,W m O H)/\∀m O H,W m O H ->
 c O H λb H1=>if b=YD then∃N:St->Hp->Prop,(∀O' H',N O' H'->∃m',m'<m/\W m' O' H')/\tb { D with nx:=N,ct:=N,bk:=D.nx } O H1 else D.nx O H1
theorem Zxo{c:YJ}{body:List YK}{tc:TT}{tb:TS}(hp:PassesOwn (X8 X.prog X.w) X.A X.env X.xe)(hc:PT X c tc)(hb:PSs X body tb):PS X (.While c body [] pos) (Z7t tc tb):=by
 intro pins s O H D I h;obtain⟨W,⟨m0,w0⟩,turn⟩:=h;refine wpAny_While (codeAny_whileLoop (λn s'=>∃O' H',Inv X pins O' H' s'/\W n O' H') ?_ m0 ⟨O,H,I,w0⟩);rintro n s1 ⟨O1,H1,I1,w1⟩;refine Ub hp (thn (hc pins s1 O1 H1 _ I1 (turn n O1 H1 w1)) λb s2 qz9=>?_);obtain⟨H2,I2,q2⟩:=qz9;cases b with
 | true=>
  obtain⟨N,hN,q2⟩:=q2;rw[YM rfl];refine Ub hp (thn (hb pins s2 O1 H2 _ I2 q2) λf s3 q3=>?_);cases f with
  | next=>
   obtain⟨O3,H3,I3,n3⟩:=q3;obtain⟨m',hm,w3⟩:=hN O3 H3 n3;exact⟨m',hm,O3,H3,I3,w3⟩
  | cont=>
   obtain⟨O3,H3,I3,n3⟩:=q3;obtain⟨m',hm,w3⟩:=hN O3 H3 n3;exact⟨m',hm,O3,H3,I3,w3⟩
  | brk=>exact q3
  | ret v=>exact q3
 | false=>
  rw[YQ Xx];exact wpAny_execs_nil ⟨O1,H2,I2,q2⟩
end
set_option genInjectivity false in
structure It where
 go:Nat->Hp->Prop
 yld:Nat->Hp->V->Hp->Prop
 stop:Nat->Hp->Prop
def Zii(X:Cx)(pins:List (YG×Obj))(H:Hp)(b:YG):Prop :=
 H b=YC/\b≠X.env.locals/\b∉X.fs/\(b∈X.ex\/X.s₀.heap.objs.size<=b)/\(∀x c,X.env.cells.lookup x=YB c->c≠b)/\∀p∈X.pn++pins,p.1≠b
theorem Inv.fpOk{X:Cx}{pins:List (YG×Obj)}{O:St}{H H':Hp}{s:Xg}{b:YG}(I:Inv X pins O H s)(hb:s.heap.objs.size<=b)(hn:H' b=YC):Zii X pins H' b:=by
 refine⟨hn,X6 (Qm I.lt hb),I.nofs hb,.inr (QM I.sz hb),λx c e z=>?_,λp hp z=>?_⟩
 .obtain⟨v,q⟩:=I.cell x c e
  exact YZ (Qm q.lt (by rw[z];exact hb)) (Q3 _)
 .exact YZ (Qm (XN (I.pin p hp).1) (by rw[z];exact hb)) (Q3 _)
structure Turn(P:Qa)(w:Qo)(K:Xd)(tg:YJ)(J:It)(fp:List YG)(it:YG)(tn:Nat->YH->Prop):Prop where
 mem:it∈fp
 obj:∀i h,tn i h->∀b∈fp,∃o,h.get? b=YB o/\∀v,o.data≠ .cell v
 keep:∀i h h',tn i h->(∀b∈fp,∀o,h.get? b=YB o->h'.get? b=YB o)->tn i h'
 item:∀(X:Cx),X.prog=P->X.w=w->X.K=K->X.calm=YD->∀(i:Nat) (pins:List (YG×Obj)) (s:Xg) (O:St) (H:Hp) (E:Xe->Xg->Prop),Inv X pins O H s->(∀b∈fp,Zii X pins H b)->tn i s.heap->J.go i H ->
  XJ (X8 P w) X.A (Ul (.ref it)) (λr s1=>∃u,r=YB u/\
   XJ (X8 P w) X.A (letOwnedTupleGo tg (.ref it) u) (λ_ s2=>∃x H',Inv X pins O H' s2/\RelV x u/\J.yld i H x H'/\tn (i+1) s2.heap/\∀b∈fp,H' b=YC) E s1) E s
 done:∀(X:Cx),X.prog=P->X.w=w->X.K=K->X.calm=YD->∀(i:Nat) (pins:List (YG×Obj)) (s:Xg) (O:St) (H:Hp) (E:Xe->Xg->Prop),Inv X pins O H s->(∀b∈fp,Zii X pins H b)->tn i s.heap->J.stop i H ->
  XJ (X8 P w) X.A (Ul (.ref it)) (λr s1=>r=YC/\Inv X pins O H s1) E s
 self:∀(A:Qv) (i:Nat) (s:Xg) (Q:Xe->Xg->Prop) (E:Xe->Xg->Prop),tn i s.heap->Q (.ref it) s->XJ (X8 P w) A (pyIter (.ref it)) Q E s
abbrev TI:=St->Hp->(It->Hp->Prop)->Prop
def PIE(X:Cx)(pins:List (YG×Obj))(O:St)(tg:YJ)(R:It->Hp->Prop)(itv:Xe)(s2:Xg):Prop :=
 ∃(it:YG) (fp:List YG) (tn:Nat->YH->Prop) (J:It) (H':Hp),itv= .ref it/\Inv X pins O H' s2/\Turn X.prog X.w X.K tg J fp it tn/\tn 0 s2.heap/\(∀b∈fp,Zii X pins H' b)/\R J H'
def PI(X:Cx)(tg iter:YJ)(wi:TI):Prop :=
 ∀(pins:List (YG×Obj)) (s:Xg) (O:St) (H:Hp) (R:It->Hp->Prop),Inv X pins O H s->wi O H R ->
  XJ (X8 X.prog X.w) X.A (eval iter X.env) (λv s1=>XJ (X8 X.prog X.w) X.A (pyIter v) (PIE X pins O tg R) X.xe s1) X.xe s
theorem Z26{M:Model}{A:Qv}{E:Xe->Xg->Prop}{s:Xg}{tg:YJ}{it:YG}{u:Xe}{o:Obj}{n:String}{vs:Array Xe}{Q:Unit->Xg->Prop}(ho:s.heap.get? it=YB o)(hc:o.cls= .type n)(hd:o.data= .fields vs)
  (hn:["enumerate","zip","dict_itemiterator","dict_reverseitemiterator","odict_iterator","itertools.zip_longest","itertools.pairwise"].contains n=YF) (hQ:Q () s):XJ M A (letOwnedTupleGo tg (.ref it) u) Q E s:=by
 unfold letOwnedTupleGo;cases tg<;>first
  | exact Xl hQ
  | (cases u<;>first
    | exact Xl hQ
    | (refine Xb (wpAny_load ho ?_)
       rw[hc,hd];show XJ M A (if(["enumerate","zip","dict_itemiterator","dict_reverseitemiterator","odict_iterator","itertools.zip_longest","itertools.pairwise"].contains n&&vs[0]? ==YB (BP _))=YD then _ else _) Q E s;rw[YQ (by intro h;rw[hn,Bool.false_and]at h;cases h)];exact Xl hQ))
def Itl(K:Xd)(a:YG):It :=
 ⟨λi H=>∃xs x,SqL K H a xs/\xs[i]? =YB x,λi H x H'=>H'=H/\∀xs,SqL K H a xs->xs[i]? =YB x,λi H=>∃xs,SqL K H a xs/\xs.length<=i⟩
def Itt(K:Xd)(a:YG):It :=
 ⟨λi H=>∃xs x,SqT K H a xs/\xs[i]? =YB x,λi H x H'=>H'=H/\∀xs,SqT K H a xs->xs[i]? =YB x,λi H=>∃xs,SqT K H a xs/\xs.length<=i⟩
def Itr(lo:Int)(n:Nat):It:=⟨λi _=>i<n,λi H x H'=>H'=H/\x= .int (lo+i),λi _=>n<=i⟩
end L2
open PySem PySem.Spec L2
variable {a:YG}{X:Cx}{e b tg:YJ}{h h':YH}{H H' H1 H2:Hp}{pins:List (YG×Obj)}{ch:List YG}{es:List YJ}{body:List YK}{N:List Str}{xs ys:List V}{us:List Xe}{M:Model}{i t' j:Nat}{o:Obj}{pos pos':Pos}{P:Qa}{w:Qo}{A:Qv}{st:YK}{x:Str}{ta tb te to:TE}{α β:Type}{v y:V}{K:Xd}{u:Xe}{E Q:Xe->Xg->Prop}{s s':Xg}
namespace L2
open PySem PySem.Spec PyProof.Rows
theorem Ztx(a it:YG):Turn P w K tg (Itl K a) [it] it (λi h=>h.IsListIter it a i) where
 mem:=by simp
 obj:=λi h st b hb=>by
  have e:b=it:=by simpa using hb
  subst e;obtain⟨o,e,c,d⟩:=st;exact⟨o,e,λv z=>by rw[d]at z;cases z⟩
 keep:=λi h h' st k=>st.at λo e=>k it (by simp) o e
 item:=by
  intro X hP hw hK hc i pins s O H E I hf st hg;subst hP hw hK;obtain⟨xs,x,hq,hx⟩:=hg;obtain⟨its,rv,p,hz⟩:=I.list hq;obtain⟨u,hu,ru⟩:=rv.get hx;obtain⟨f0,f1,f2,f3,f4,f5⟩:=hf it (by simp);refine wpAny_pyNext_list_item st p.isList (x:=u) (by simpa using hu) λh' st' sb=>?_;have I1:Inv X pins O H { s with heap:=h' }:=I.turned (t':=s.toks) (λb o hb e=>(sb.2 b hb).trans e) f0 f1 f3 f4 f5;obtain⟨o,e,c,d⟩:=id st';exact⟨u,rfl,Z26 (s:={ s with heap:=h' }) e c d (by decide) ⟨x,H,I1,ru,⟨rfl,λys hy=>by rw[I.list_inj hy hq];exact hx⟩,st',λb hb=>(hf b hb).1⟩⟩
 done:=by
  intro X hP hw hK hc i pins s O H E I hf st hg;subst hP hw hK;obtain⟨xs,hq,hx⟩:=hg;obtain⟨its,rv,p,hz⟩:=I.list hq;obtain⟨f0,f1,f2,f3,f4,f5⟩:=hf it (by simp);have hl:=rv.length;exact wpAny_pyNext_list_end (I.ok.hd hc) st p.isList (by simp;omega) λh' eb=>⟨rfl,I.turned (t':=s.toks) (λb o hb e=>eb b o hb e) f0 f1 f3 f4 f5⟩
 self:=λ_ _ _ _ _ st h=>wpAny_pyIter_listiter st h
theorem Zoo(a it:YG):Turn P w K tg (Itt K a) [it] it (λi h=>h.IsTupleIter it a i) where
 mem:=by simp
 obj:=λi h st b hb=>by
  have e:b=it:=by simpa using hb
  subst e;obtain⟨o,e,c,d⟩:=st;exact⟨o,e,λv z=>by rw[d]at z;cases z⟩
 keep:=λi h h' st k=>st.at λo e=>k it (by simp) o e
 item:=by
  intro X hP hw hK hc i pins s O H E I hf st hg;subst hP hw hK;obtain⟨xs,x,hq,hx⟩:=hg;obtain⟨its,rv,p,hz⟩:=I.tuple hq;obtain⟨u,hu,ru⟩:=rv.get hx;obtain⟨f0,f1,f2,f3,f4,f5⟩:=hf it (by simp);refine wpAny_pyNext_tuple_item st (show s.heap.IsTuple a its.toArray from p) (x:=u) (by simpa using hu) λh' st' sb=>?_;have I1:Inv X pins O H { s with heap:=h' }:=I.turned (t':=s.toks) (λb o hb e=>(sb.2 b hb).trans e) f0 f1 f3 f4 f5;obtain⟨o,e,c,d⟩:=id st';exact⟨u,rfl,Z26 (s:={ s with heap:=h' }) e c d (by decide) ⟨x,H,I1,ru,⟨rfl,λys hy=>by rw[I.tuple_inj hy hq];exact hx⟩,st',λb hb=>(hf b hb).1⟩⟩
 done:=by
  intro X hP hw hK hc i pins s O H E I hf st hg;subst hP hw hK;obtain⟨xs,hq,hx⟩:=hg;obtain⟨its,rv,p,hz⟩:=I.tuple hq;obtain⟨f0,f1,f2,f3,f4,f5⟩:=hf it (by simp);have hl:=rv.length;exact wpAny_pyNext_tuple_end (I.ok.hd hc) st (show s.heap.IsTuple a its.toArray from p) (by simp;omega) λh' eb=>⟨rfl,I.turned (t':=s.toks) (λb o hb e=>eb b o hb e) f0 f1 f3 f4 f5⟩
 self:=λ_ _ _ _ _ st h=>wpAny_pyIter_tupleiter st h
theorem Zpr(it:YG)(lo:Int)(n:Nat):Turn P w K tg (Itr lo n) [it] it (λi h=>IsRangeIter h it (lo+(i:Nat)*1) ((n:Int)-(i:Nat)) 1) where
 mem:=by simp
 obj:=λi h st b hb=>by
  have e:b=it:=by simpa using hb
  subst e;exact⟨_,st,λv z=>by
   have z':Data.fields _=Data.cell v:=z;cases z'⟩
 keep:=λi h h' st k=>k it (by simp) _ st
 item:=by
  intro X hP hw hK hc i pins s O H E I hf st hg;subst hP hw hK;obtain⟨f0,f1,f2,f3,f4,f5⟩:=hf it (by simp);have W:=Walks.range (prog:=X.prog) (w:=X.w) (I.ok.hd hc) it lo 1 n;refine W.item i s _ _ hg st λv h' tk hv st' kk=>?_;obtain⟨t,rfl⟩:=hv;have I1:Inv X pins O H { s with heap:=h',toks:=tk }:=I.turned (λb o hb e=>kk b o (by simpa using hb) e) f0 f1 f3 f4 f5;refine⟨_,rfl,Z26 (s:={ s with heap:=h',toks:=tk }) (n :="range_iterator") st' rfl rfl (by decide) ⟨.int (lo+i),H,I1,⟨t,?_⟩,⟨rfl,rfl⟩,st',λb hb=>(hf b hb).1⟩⟩;rw[Int.mul_one]
 done:=by
  intro X hP hw hK hc i pins s O H E I hf st hg;subst hP hw hK;obtain⟨f0,f1,f2,f3,f4,f5⟩:=hf it (by simp);exact wpAny_pyNext_range_end (I.ok.hd hc) st (by have:n<=i:=hg;omega) λh' eb=>⟨rfl,I.turned (t':=s.toks) (λb o hb e=>eb b o hb e) f0 f1 f3 f4 f5⟩
 self:=λ_ _ _ _ _ st h=>wpAny_pyIter_rangeiter st h
def Z98(K:Xd)(tl:TE):TI:=λO H R=>tl O H λx H1=>∃a,x= .ref a/\(∃xs,SqL K H1 a xs)/\R (Itl K a) H1
def Yff(K:Xd)(tl:TE):TI:=λO H R=>tl O H λx H1=>∃a,x= .ref a/\(∃xs,SqT K H1 a xs)/\R (Itt K a) H1
theorem Z19{l:YJ}{tl:TE}(hl:PE X l tl):PI X tg l (Z98 X.K tl):=by
 intro pins s O H R I h;refine thn (hl pins s O H _ I h) λv s1 qz9=>?_;obtain⟨x,H1,I1,r1,q1⟩:=qz9;obtain⟨a,e,⟨xs,hq⟩,q⟩:=q1;subst e;cases r1;obtain⟨its,rv,p,hz⟩:=I1.list hq;refine wpAny_pyIter_list p.isList ?_;refine⟨s1.heap.objs.size,[s1.heap.objs.size],_,_,H1,rfl,I1.kept (t':=s1.toks) λb o e=>Xf _ e,Ztx a _,⟨_,XF _ rfl,rfl,rfl⟩,λb hb=>?_,q⟩;have e:b=s1.heap.objs.size:=by simpa using hb
 subst e;exact I1.fpOk (Xy _) (I1.hok.fresh (Xy _))
theorem Z5q{l:YJ}{tl:TE}(hl:PE X l tl):PI X tg l (Yff X.K tl):=by
 intro pins s O H R I h;refine thn (hl pins s O H _ I h) λv s1 qz9=>?_;obtain⟨x,H1,I1,r1,q1⟩:=qz9;obtain⟨a,e,⟨xs,hq⟩,q⟩:=q1;subst e;cases r1;obtain⟨its,rv,p,hz⟩:=I1.tuple hq;refine wpAny_pyIter_tuple (show s1.heap.IsTuple a its.toArray from p) ?_;refine⟨s1.heap.objs.size,[s1.heap.objs.size],_,_,H1,rfl,I1.kept (t':=s1.toks) λb o e=>Xf _ e,Zoo a _,⟨_,XF _ rfl,rfl,rfl⟩,λb hb=>?_,q⟩;have e:b=s1.heap.objs.size:=by simpa using hb
 subst e;exact I1.fpOk (Xy _) (I1.hok.fresh (Xy _))
theorem Zna{O:St}{R:It->Hp->Prop}{lo hi:Int}{t u v:Tok}{tk:Nat}(I:Inv X pins O H s)(h1:-(2^62)<=lo)(h2:lo<2^62)(h3:-(2^62)<=hi)(h4:hi<2^62)
  (q:R (Itr lo (hi-lo).toNat) H):XJ (X8 X.prog X.w) X.A (pyIter (.ref s.heap.objs.size)) (PIE X pins O tg R) E { s with heap:=s.heap.push { cls:=.type "range",data:=.fields #[.int lo t,.int hi u,.int 1 v] },toks:=tk }:=by
 refine wpAny_pyIter_range (IsRange.new ..) (small_one h1 h2 h3 h4) ?_;have I1:Inv X pins O H { s with heap:=s.heap.push { cls:=.type "range",data:=.fields #[.int lo t,.int hi u,.int 1 v] },toks:=tk }:=I.kept λb o e=>Xf _ e;refine⟨(s.heap.push { cls:=.type "range",data:=.fields #[.int lo t,.int hi u,.int 1 v] }).objs.size,[(s.heap.push { cls:=.type "range",data:=.fields #[.int lo t,.int hi u,.int 1 v] }).objs.size],_,_,H,rfl,
  I1.kept (t':=tk) λb o e=>Xf _ e,Zpr _ lo (hi-lo).toNat,?_,λb hb=>?_,q⟩
 .have e1:lo+((0:Nat):Int)*1=lo:=by simp
  have e2:(((hi-lo).toNat:Nat):Int)-((0:Nat):Int)=Builtin.Range.rangeSize lo hi 1:=by rw[rangeSize_one];split<;>omega
  show IsRangeIter _ _ (lo+((0:Nat):Int)*1) ((((hi-lo).toNat:Nat):Int)-((0:Nat):Int)) 1;rw[e1,e2];exact XF _ rfl
 .have e:b=(s.heap.push { cls:=.type "range",data:=.fields #[.int lo t,.int hi u,.int 1 v] }).objs.size:=by simpa using hb
  subst e;exact I1.fpOk (Xy _) (I1.hok.fresh (Xy _))
def Ye0(ta:TA):TI:=λO H R=>ta O H λvs H1=>∃j:Int,vs=[.int j]/\-(2^62)<=j/\j<2^62/\R (Itr 0 j.toNat) H1
def Ycg(ta:TA):TI:=λO H R=>ta O H λvs H1=>∃i j:Int,vs=[.int i,.int j]/\(-(2^62)<=i/\i<2^62/\-(2^62)<=j/\j<2^62)/\R (Itr i (j-i).toNat) H1
theorem Zsj{a:YJ}{ta:TA}{p:Pos}(hg:Gl X "range")(hm:X.mg "range"=YC)(ha:PA X [a] ta)(hs:Xu [a] X.env=[(YF,eval a X.env)]:=by rfl):PI X tg (.Call (.Name "range" p) [a] [] pos) (Ye0 ta):=by
 intro pins s O H R I h;refine Call_ (Zbz I hg hm boot_range (JP (thn (ha pos pins s O H _ I h) λus s1 qz9=>?_) hs rfl));obtain⟨vs,H1,I1,r1,q1⟩:=qz9;obtain⟨j,e,q1,q2,q⟩:=q1;subst e;cases r1 with
 | cons r rr=>
  cases rr;obtain⟨t,rfl⟩:=r;exact call_range_1 (Zna I1 (by omega) (by omega) q1 q2 (by simpa using q))
theorem Zub{a:YJ}{ta:TA}{p:Pos}(hg:Gl X "range")(hm:X.mg "range"=YC)(ha:PA X [a,b] ta)(hs:Xu [a,b] X.env=[(YF,eval a X.env),(YF,eval b X.env)]:=by rfl)(hs2:Xu [b] X.env=[(YF,eval b X.env)]:=by rfl) :
  PI X tg (.Call (.Name "range" p) [a,b] [] pos) (Ycg ta):=by
 intro pins s O H R I h;refine Call_ (Zbz I hg hm boot_range (JP (thn (ha pos pins s O H _ I h) λus s1 ⟨vs,H1,I1,r1,q1⟩=>?_) (by rw[hs,hs2]) (by rw[hs2];rfl)));obtain⟨i,j,e,⟨q1,q2,q3,q4⟩,q⟩:=q1;subst e;cases r1 with
 | cons r rr=>
  cases rr with
  | cons r' rr=>
   cases rr;obtain⟨t,rfl⟩:=r;obtain⟨t',rfl⟩:=r';exact call_range_2 (Zna I1 q1 q2 q3 q4 q)
def Yia(wi:TI)(g:TG)(tb:TS):TS:=λD O H=>wi O H λJ H1=>∃W:Nat->Nat->St->Hp->Prop,(∃m,W 0 m O H1)/\∀i m O H,W i m O H ->
 (J.stop i H/\D.nx O H)\/(J.go i H/\∃N:St->Hp->Prop,(∀O' H',N O' H'->∃m',m'<m/\W (i+1) m' O' H')/\∀x H',J.yld i H x H'->g x O H' λO2 H2=>tb { D with nx:=N,ct:=N,bk:=D.nx } O2 H2)
def Zjl(fp:List YG)(h:YH):List (YG×Obj):=fp.filterMap λb=>(h.get? b).map λo=>(b,o)
theorem Zca{fp:List YG}{b:YG}(hb:b∈fp)(e:h.get? b=YB o):(b,o)∈Zjl fp h:=List.mem_filterMap.mpr ⟨b,hb,by rw[e];rfl⟩
theorem Zrz{fp:List YG}{p:YG×Obj}(hp:p∈Zjl fp h):p.1∈fp/\h.get? p.1=YB p.2:=by
 obtain⟨b,hb,e⟩:=List.mem_filterMap.mp hp;cases q:h.get? b with
 | none=>rw[q]at e;cases e
 | some o=>
  rw[q]at e;have e':(b,o)=p:=Qy e;subst e';exact⟨hb,q⟩
theorem Inv.pinned{O:St}{fp:List YG}(I:Inv X pins O H s)(hf:∀b∈fp,Zii X pins H b)(ho:∀b∈fp,∃o,s.heap.get? b=YB o/\∀v,o.data≠ .cell v):Inv X (pins++Zjl fp s.heap) O H s :=
 I.pins_of λp hp=>(Qn.mp hp).elim (λz=>I.pin p (Qg _ z)) λz=>by
  obtain⟨hb,e⟩:=Zrz z;obtain⟨f0,f1,f2,_⟩:=hf p.1 hb;obtain⟨o,e',d⟩:=ho p.1 hb;rw[e]at e';cases e';exact⟨e,f0,f1,f2,d⟩
theorem Inv.unpinned{pl:List (YG×Obj)}{O:St}(I:Inv X (pins++pl) O H s):Inv X pins O H s:=I.pins_of λp hp=>I.pin p (Qg _ (Qj _ hp))
theorem Z9p{iter:YJ}{wi:TI}{g:TG}{tb:TS}(hp:PassesOwn (X8 X.prog X.w) X.A X.env X.xe)(hc:X.calm=YD)(hi:PI X tg iter wi)(hg:PG X tg g)(hb:PSs X body tb)
  (hs:∀x,VJ iter X.env x=pure x:=by intro _;rfl):PS X (.For tg iter body [] pos) (Yia wi g tb):=by
 intro pins s O H D I h;refine wpAny_For (thn (hi pins s O H _ I h) λv s1 h1=>thn h1 λitv s2 h2=>?_) hs;obtain⟨it,fp,tn,J,H2,e,I2,T,st2,f2,W,⟨m0,w0⟩,turn⟩:=h2;subst e
 -- what stays YD of the iterator's objects through the loop
 have stat:∀{H':Hp},(∀b∈fp,H' b=YC)->∀b∈fp,Zii X pins H' b:=λhn b hb=>⟨hn b hb,(f2 b hb).2⟩;refine codeAny_forLoop_any (λn s'=>∃i O' H',Inv X pins O' H' s'/\tn i s'.heap/\(∀b∈fp,H' b=YC)/\W i n O' H') ?_ m0 ⟨0,O,H2,I2,st2,λb hb=>(f2 b hb).1,w0⟩;rintro n s3 ⟨i,O3,H3,I3,st3,fr3,w3⟩;rcases turn i n O3 H3 w3 with⟨stop,qn⟩|⟨go,N,hN,step⟩
 .refine Ub hp (thn (T.done X rfl rfl rfl hc i pins s3 O3 H3 X.xe I3 (stat fr3) st3 stop) λr s4 qz9=>?_)
  obtain⟨hr,I4⟩:=qz9;subst hr;exact wpAny_execs_nil ⟨O3,H3,I4,qn⟩
 .refine Ub hp (thn (T.item X rfl rfl rfl hc i pins s3 O3 H3 X.xe I3 (stat fr3) st3 go) λr s4 qz9=>?_)
  obtain⟨u,hr,h4⟩:=qz9;subst hr;refine Ub hp (thn h4 λ_ s5 qz9=>?_);obtain⟨x,H5,I5,r5,y5,st5,fr5⟩:=qz9;have I5':=I5.pinned (stat fr5) (T.obj _ _ st5);refine Ub hp (thn (hg _ s5 O3 H5 x u _ I5' r5 (step x H5 y5)) λ_ s6 qz9=>?_);obtain⟨O6,H6,I6,q6⟩:=qz9;refine Ub hp (thn (hb _ s6 O6 H6 _ I6 q6) λf s7 q7=>?_);have again:∀{O7:St} {H7:Hp},Inv X (pins++Zjl fp s5.heap) O7 H7 s7->N O7 H7->∃m,m<n/\∃i O' H',Inv X pins O' H' s7/\tn i s7.heap/\(∀b∈fp,H' b=YC)/\W i m O' H':=fun{O7 H7} I7 n7=>by
   obtain⟨m',hm,w7⟩:=hN O7 H7 n7;refine⟨m',hm,i+1,O7,H7,I7.unpinned,T.keep _ _ _ st5 λb hb o e=>(I7.pin (b,o) (Qg _ (Qg _ (Zca hb e)))).1,λb hb=>?_,w7⟩;obtain⟨o,e,d⟩:=T.obj _ _ st5 b hb;exact(I7.pin (b,o) (Qg _ (Qg _ (Zca hb e)))).2.1
  cases f with
  | next=>obtain⟨O7,H7,I7,n7⟩:=q7;exact again I7 n7
  | cont=>obtain⟨O7,H7,I7,n7⟩:=q7;exact again I7 n7
  | brk=>obtain⟨O7,H7,I7,q7⟩:=q7;exact⟨O7,H7,I7.unpinned,q7⟩
  | ret v=>obtain⟨x7,O7,H7,I7,r7,q7⟩:=q7;exact⟨x7,O7,H7,I7.unpinned,r7,q7⟩
abbrev R2:=V->V->Hp->VK->Prop
def OpR(X:Cx)(f:Xe->Xe->Sem Xe)(r:R2):Prop :=
 ∀(pins:List (YG×Obj)) (s:Xg) (O:St) (H:Hp) (x y:V) (v u:Xe) (Q:VK),Inv X pins O H s->RelV x v->RelV y u->r x y H Q ->
  XJ (X8 X.prog X.w) X.A (f v u) (EP X pins O Q) X.xe s
def UnR(X:Cx)(f:Xe->Sem Xe)(r:V->Hp->VK->Prop):Prop :=
 ∀(pins:List (YG×Obj)) (s:Xg) (O:St) (H:Hp) (x:V) (v:Xe) (Q:VK),Inv X pins O H s->RelV x v->r x H Q ->
  XJ (X8 X.prog X.w) X.A (f v) (EP X pins O Q) X.xe s
def Zbm(X:Cx)(f:Xe)(r:List V->Hp->VK->Prop):Prop :=
 ∀(pins:List (YG×Obj)) (s:Xg) (O:St) (H:Hp) (xs:List V) (us:List Xe) (Q:VK),Inv X pins O H s->Vals xs us->r xs H Q ->
  XJ (X8 X.prog X.w) X.A (call f us) (EP X pins O Q) X.xe s
def Yh7(X:Cx)(r:V->Hp->(Bool->Hp->Prop)->Prop):Prop :=
 ∀(pins:List (YG×Obj)) (s:Xg) (O:St) (H:Hp) (x:V) (v:Xe) (Q:Bool->Hp->Prop),Inv X pins O H s->RelV x v->r x H Q ->
  XJ (X8 X.prog X.w) X.A (truthy v) (TP X pins O Q) X.xe s
def tOp(r:R2)(ta tb:TE):TE:=λO H Q=>ta O H λx H1=>tb O H1 λy H2=>r x y H2 Q
def tUn(r:V->Hp->VK->Prop)(ta:TE):TE:=λO H Q=>ta O H λx H1=>r x H1 Q
def rI(C:Int->Int->Prop)(g:Int->Int->V):R2:=λx y H Q=>∃i j,x= .int i/\y= .int j/\C i j/\Q (g i j) H
def rI0(g:Int->Int->V):R2:=λx y H Q=>∃i j,x= .int i/\y= .int j/\Q (g i j) H
def rU(g:Int->V):V->Hp->VK->Prop:=λx H Q=>∃i,x= .int i/\Q (g i) H
section
variable {a c:YJ}{tc:TE}
theorem Ydv(ha:PE X a ta)(hb:PE X b tb){O:St}{R:V->V->Hp->Prop}(I:Inv X pins O H s)
  (h:ta O H λx H1=>tb O H1 λy H2=>R x y H2)  {f:Xe->Xe->Sem Xe}
  (hf:∀v u s2 x y H2,Inv X pins O H2 s2->RelV x v->RelV y u->R x y H2->XJ (X8 X.prog X.w) X.A (f v u) Q X.xe s2) :
  XJ (X8 X.prog X.w) X.A (eval a X.env) (λv s₁=>XJ (X8 X.prog X.w) X.A (eval b X.env) (λu s₂=>XJ (X8 X.prog X.w) X.A (f v u) Q X.xe s₂) X.xe s₁) X.xe s:=by
 refine thn (ha pins s O H _ I h) λv s1 qz9=>?_;obtain⟨x,H1,I1,r1,q1⟩:=qz9;refine thn (hb pins s1 O H1 _ I1 q1) λu s2 qz9=>?_;obtain⟨y,H2,I2,r2,q2⟩:=qz9;exact hf v u s2 x y H2 I2 r1 r2 q2
theorem Z1j{op:Operator}{r:R2}(ho:OpR X (V0 op) r)(ha:PE X a ta)(hb:PE X b tb):PE X (.BinOp a op b pos) (tOp r ta tb):=by
 intro pins s O H Q I h;exact wpAny_BinOp (Ydv ha hb I h λv u s2 x y H2 I2 rx ry q=>ho pins s2 O H2 x y v u Q I2 rx ry q)
theorem Yc2{op:UnaryOp}{r:V->Hp->VK->Prop}(ho:UnR X (unaryOp op) r)(ha:PE X a ta):PE X (.UnaryOp op a pos) (tUn r ta):=by
 intro pins s O H Q I h;refine UnaryOp_ (thn (ha pins s O H _ I h) λv s1 qz9=>?_);obtain⟨x,H1,I1,r1,q1⟩:=qz9;exact ho pins s1 O H1 x v Q I1 r1 q1
theorem opI{f:Xe->Xe->Sem Xe}{C:Int->Int->Prop}{g:Int->Int->Int}
  (rule:∀(i j:Int) (t u:Tok) (s:Xg) (Q:Xe->Xg->Prop) (E:Xe->Xg->Prop),C i j->Q (.int (g i j) s.toks) { s with toks:=s.toks+1 }->XJ (X8 X.prog X.w) X.A (f (.int i t) (.int j u)) Q E s) :
  OpR X f (rI C λi j=>.int (g i j)):=by
 intro pins s O H x y v u Q I rx ry h;obtain⟨i,j,rfl,rfl,hc,q⟩:=h;obtain⟨t,rfl⟩:=rx;obtain⟨t',rfl⟩:=ry;exact rule i j t t' s _ _ hc ⟨.int (g i j),H,I.tok _,⟨_,rfl⟩,q⟩
theorem Yg9{f:Xe->Xe->Sem Xe}{g:Int->Int->Int}
  (rule:∀(i j:Int) (t u:Tok) (s:Xg) (Q:Xe->Xg->Prop) (E:Xe->Xg->Prop),Q (.int (g i j) s.toks) { s with toks:=s.toks+1 }->XJ (X8 X.prog X.w) X.A (f (.int i t) (.int j u)) Q E s) :
  OpR X f (rI0 λi j=>.int (g i j)):=by
 intro pins s O H x y v u Q I rx ry h;obtain⟨i,j,rfl,rfl,q⟩:=h;obtain⟨t,rfl⟩:=rx;obtain⟨t',rfl⟩:=ry;exact rule i j t t' s _ _ ⟨.int (g i j),H,I.tok _,⟨_,rfl⟩,q⟩
theorem Ya3{f:Xe->Xe->Sem Xe}{g:Int->Int->Bool}
  (rule:∀(i j:Int) (t u:Tok) (s:Xg) (Q:Xe->Xg->Prop) (E:Xe->Xg->Prop),Q (.bool (g i j)) s->XJ (X8 X.prog X.w) X.A (f (.int i t) (.int j u)) Q E s) :
  OpR X f (rI0 λi j=>.bl (g i j)):=by
 intro pins s O H x y v u Q I rx ry h;obtain⟨i,j,rfl,rfl,q⟩:=h;obtain⟨t,rfl⟩:=rx;obtain⟨t',rfl⟩:=ry;exact rule i j t t' s _ _ ⟨.bl (g i j),H,I,rfl,q⟩
def Ya2(i j:Int):Prop:=0<=j/\j<=1000000/\i.natAbs<2^64
def CMul(i j:Int):Prop:=(-(2^64)<i/\i<2^64)\/(-(2^64)<j/\j<2^64)
theorem CMul.ok{i j:Int}(h:CMul i j):IntMulOk i j:=by
 rcases h with⟨h1,h2⟩|⟨h1,h2⟩
 .exact .of_left (intBits_le_64 h1 h2)
 .exact .of_right (intBits_le_64 h1 h2)
theorem Z5b:OpR X (V0 .Add) (rI0 λi j=>.int (i+j)):=Yg9 λ_ _ _ _ _ _ _ q=>add_int q
theorem Yah:OpR X (V0 .Sub) (rI0 λi j=>.int (i-j)):=Yg9 λ_ _ _ _ _ _ _ q=>sub_int q
theorem Z2f:OpR X (V0 .Mod) (rI (λ_ j=>j≠0) λi j=>.int (i.fmod j)):=opI λ_ _ _ _ _ _ _ hc q=>mod_int' hc q
theorem Z9q:OpR X (V0 .Pow) (rI Ya2 λi j=>.int (i^j.toNat)):=opI λ_ _ _ _ _ _ _ hc q=>pow_int_small hc.1 hc.2.1 hc.2.2 q
theorem unI{f:Xe->Sem Xe}{g:Int->Int}
  (rule:∀(i:Int) (t:Tok) (s:Xg) (Q:Xe->Xg->Prop) (E:Xe->Xg->Prop),Q (.int (g i) s.toks) { s with toks:=s.toks+1 }->XJ (X8 X.prog X.w) X.A (f (.int i t)) Q E s) :
  UnR X f (rU λi=>.int (g i)):=by
 intro pins s O H x v Q I rx h;obtain⟨i,rfl,q⟩:=h;obtain⟨t,rfl⟩:=rx;exact rule i t s _ _ ⟨.int (g i),H,I.tok _,⟨_,rfl⟩,q⟩
theorem Z95:UnR X (unaryOp .USub) (rU λi=>.int (-i)):=unI λ_ _ _ _ _ q=>neg_int q
end
section
variable {a c:YJ}{tc:TE}
theorem Z6d{O:St}{Q:VK}{k k':Bool}(I:Inv X pins O H s)(q:Q (.bl k) H)(e:k=k'):EP X pins O Q (.bool k') s:=by
 subst e;exact⟨.bl k,H,I,rfl,q⟩
theorem Zpi:OpR X (QH .Lt) (rI0 λi j=>.bl (decide (i<j))):=Ya3 λ_ _ _ _ _ _ _ q=>lt_int q
theorem Zvq:OpR X (QH .LtE) (rI0 λi j=>.bl (decide (i<=j))):=Ya3 λ_ _ _ _ _ _ _ q=>le_int q
theorem Ycu:OpR X (QH .Gt) (rI0 λi j=>.bl (decide (j<i))):=Ya3 λ_ _ _ _ _ _ _ q=>gt_int q
theorem Yc8:OpR X (QH .GtE) (rI0 λi j=>.bl (decide (j<=i))):=Ya3 λ_ _ _ _ _ _ _ q=>ge_int q
theorem Zlh:OpR X (QH .IsNot) (λx y H Q=>y= .non/\Q (.bl (!decide (x= .non))) H):=by
 intro pins s O H x y v u Q I rx ry h;obtain⟨rfl,q⟩:=h;cases ry;refine isnot_none_gen (Z6d I q ?_);cases x<;>first
  | (cases rx;rfl)
  | (obtain⟨t,rfl⟩:=rx;rfl)
theorem J9(b:YJ){op:CmpOp}(h:op≠ .In:=by decide)(h2:op≠ .NotIn:=by decide):behindInMarks op b=YF:=by
 have e1:(op==CmpOp.In)=YF:=by cases op<;>first|rfl|exact YZ rfl h
 have e2:(op==CmpOp.NotIn)=YF:=by cases op<;>first|rfl|exact YZ rfl h2
 cases b<;>simp[behindInMarks,e1,e2]
theorem Z1r{op:CmpOp}{r:R2}(ho:OpR X (QH op) r)(ha:PE X a ta)(hb:PE X b tb)(hm:behindInMarks op b=YF):PE X (.Compare a [op] [b] pos) (tOp r ta tb):=by
 intro pins s O H Q I h;exact wpAny_Compare1 (Ydv ha hb I h λv u s2 x y H2 I2 rx ry q=>ho pins s2 O H2 x y v u Q I2 rx ry q) hm
def Zvd(t:TE):TT:=λO H Q=>t O H λx H'=>∃k,x= .bl k/\Q k H'
theorem Z1z{op:CmpOp}{r:R2}(ho:OpR X (QH op) r)(ha:PE X a ta)(hb:PE X b tb)(hm:behindInMarks op b=YF):PT X (.Compare a [op] [b] pos) (Zvd (tOp r ta tb)):=by
 intro pins s O H Q I h;refine wpAny_isTrue_Compare1 (thn (ha pins s O H _ I h) λv s1 ⟨x,H1,I1,r1,q1⟩=>thn (hb pins s1 O H1 _ I1 q1) λu s2 ⟨y,H2,I2,r2,q2⟩=>
  thn (ho pins s2 O H2 x y v u _ I2 r1 r2 q2) λc s3 ⟨z,H3,I3,r3,k,e,q3⟩=>?_) hm
 subst e;cases r3;exact JG ⟨H3,I3,q3⟩
def Zqe(r r':R2)(ta tb tc:TE):TE:=λO H Q=>ta O H λx H1=>tb O H1 λy H2=>r x y H2 λz H3=>∃k,z= .bl k/\
 (if k=YD then tc O H3 λw' H4=>r' y w' H4 Q else Q (.bl YF) H3)
theorem Zw2{op op':CmpOp}{r r':R2}(ho:OpR X (QH op) r)(ho':OpR X (QH op') r')(ha:PE X a ta)(hb:PE X b tb)(hc:PE X c tc)
  (hm:lastMarks [op,op'] [b,c]=YF:=by with_unfolding_all rfl):PE X (.Compare a [op,op'] [b,c] pos) (Zqe r r' ta tb tc):=by
 intro pins s O H Q I h;refine Compare_chain (thn (ha pins s O H _ I h) λv s1 ⟨x,H1,I1,r1,q1⟩=>chain_link (thn (hb pins s1 O H1 _ I1 q1) λu s2 ⟨y,H2,I2,r2,q2⟩=>
  thn (ho pins s2 O H2 x y v u _ I2 r1 r2 q2) λd s3 ⟨z,H3,I3,r3,k,e,q3⟩=>?_)) hm
 subst e;cases r3;refine JG ?_;cases k with
 | false=>exact ite_ff ⟨.bl YF,H3,I3,rfl,q3⟩
 | true=>exact ite_tt (chain_last (thn (hc pins s3 O H3 _ I3 q3) λw' s4 ⟨z',H4,I4,r4,q4⟩=>ho' pins s4 O H4 y z' u w' Q I4 r2 r4 q4))
theorem Zv6{op op':CmpOp}{r r':R2}(ho:OpR X (QH op) r)(ho':OpR X (QH op') r')(ha:PE X a ta)(hb:PE X b tb)(hc:PE X c tc)
  (hm:lastMarks [op,op'] [b,c]=YF:=by with_unfolding_all rfl):PT X (.Compare a [op,op'] [b,c] pos) (Zvd (Zqe r r' ta tb tc)):=by
 intro pins s O H Q I h;refine isTrue_chain (thn (ha pins s O H _ I h) λv s1 ⟨x,H1,I1,r1,q1⟩=>test_link (thn (hb pins s1 O H1 _ I1 q1) λu s2 ⟨y,H2,I2,r2,q2⟩=>
  thn (ho pins s2 O H2 x y v u _ I2 r1 r2 q2) λd s3 ⟨z,H3,I3,r3,k,e,q3⟩=>?_)) hm
 subst e;cases r3;refine JG ?_;cases k with
 | false=>
  obtain⟨k',e',q'⟩:=q3;cases e';exact ite_ff ⟨H3,I3,q'⟩
 | true=>
  refine ite_tt (test_last (thn (hc pins s3 O H3 _ I3 q3) λw' s4 qz9=>?_));obtain⟨z',H4,I4,r4,q4⟩:=qz9;refine thn (ho' pins s4 O H4 y z' u w' _ I4 r2 r4 q4) λd' s5 qz9=>?_;obtain⟨z2,H5,I5,r5,k2,e2,q5⟩:=qz9;subst e2;cases r5;exact JG ⟨H5,I5,q5⟩
def Yds(K:Xd)(x:V)(H:Hp)(k:Bool):Prop :=
 match x with
 | .non=>k=YF
 | .bl b=>k=b
 | .int i=>k=(i !=0)
 | .str y=>y.length<=XC/\k=((y.length:Int) !=0)
 | .byt y=>y.size<=XC/\k=((y.size:Int) !=0)
 | .ref p=>(∃xs,SqL K H p xs/\k= !xs.isEmpty)\/(∃xs,SqT K H p xs/\k= !xs.isEmpty)\/∃kvs,H p=YB (.dK kvs)/\k= !kvs.isEmpty
 | _=>False
theorem Zop{κ:Type}{kvs:List (κ×V)}{vs:List (κ×Xe)}(r:KV kvs vs):(!vs.isEmpty)= !kvs.isEmpty:=by
 cases r<;>rfl
theorem Zhh{its:List Xe}(r:Vals xs its):(!its.toArray.isEmpty)= !xs.isEmpty:=by
 cases r<;>simp
theorem Zhz:(XC:Nat)<2^63:=by rw[X7];decide
theorem Z9c:Yh7 X (λx H Q=>∃k,Yds X.K x H k/\Q k H):=by
 intro pins s O H x v Q I rx h;obtain⟨k,e,q⟩:=h;have hl:=Zhz;have hs:XC=16777216:=X7;cases x with
 | non=>
  cases rx;have e':k=YF:=e;subst e';exact truthy_none ⟨H,I,q⟩
 | bl b=>
  cases rx;have e':k=b:=e;subst e';exact JG ⟨H,I,q⟩
 | int i=>
  obtain⟨t,rfl⟩:=rx;have e':k=(i !=0):=e;subst e';exact PySem.P.truthy_int ⟨H,I,q⟩
 | str y=>
  obtain⟨t,rfl⟩:=rx;obtain⟨hy,e'⟩:y.length<=XC/\k=((y.length:Int) !=0):=e;subst e';exact PySem.P.truthy_str (by omega) ⟨H,I.tok _,q⟩
 | byt y=>
  obtain⟨t,rfl⟩:=rx;obtain⟨hy,e'⟩:y.size<=XC/\k=((y.size:Int) !=0):=e;subst e';exact PySem.W.truthy_bytes (by omega) ⟨H,I.tok _,q⟩
 | ref p=>
  cases rx;have e':(∃xs,SqL X.K H p xs/\k= !xs.isEmpty)\/(∃xs,SqT X.K H p xs/\k= !xs.isEmpty)\/∃kvs,H p=YB (.dK kvs)/\k= !kvs.isEmpty:=e;rcases e' with⟨xs,hx,e'⟩|⟨xs,hx,e'⟩|⟨kvs,hx,e'⟩
  .subst e'
   obtain⟨its,r,pl,hz⟩:=I.list hx;have hlen:=r.length;exact wpAny_truthy_list pl.isList (by simp only[XQ];omega) ⟨H,I.tok _,by rw[Zhh r];exact q⟩
  .subst e'
   obtain⟨its,r,pl,hz⟩:=I.tuple hx;have hlen:=r.length;exact truthy_tuple pl (by simp only[XQ];omega) ⟨H,I.tok _,by rw[Zhh r];exact q⟩
  .subst e'
   obtain⟨hz,hS,vs,r,m⟩:kvs.length<=XC/\(p==Uv)=YF/\∃vs,KV kvs vs/\s.heap.DictOf (Wf X.prog X.w) p vs:=I.hok p _ hx;have hlen:kvs.length=vs.length:=Paired.length r;exact wpAny_truthy_dict hS m (by omega) ⟨H,I.tok _,by rw[Zop r];exact q⟩
 | _=>exact(show False from e).elim
theorem Zwl(ha:PE X a ta)(he:∀whole,isTrue a X.env whole=(do let v<-whole;standAt a.pos;holding [v] (truthy v))) :
  PT X a (λO H Q=>ta O H λx H'=>∃k,Yds X.K x H' k/\Q k H'):=by
 intro pins s O H Q I h;refine isTrue_plain (thn (ha pins s O H _ I h) λv s1 qz9=>?_) (he _);obtain⟨x,H1,I1,r1,q1⟩:=qz9;exact Z9c pins s1 O H1 x v Q I1 r1 q1
theorem vals1{x:V}(r:Vals [x] us):∃u,us=[u]/\RelV x u:=by
 cases r with
 | cons r1 r2=>cases r2;exact⟨_,rfl,r1⟩
theorem vals2{x:V}(r:Vals [x,y] us):∃u w',us=[u,w']/\RelV x u/\RelV y w':=by
 cases r with
 | cons r1 r2=>
  cases r2 with
  | cons r3 r4=>cases r4;exact⟨_,_,rfl,r1,r3⟩
theorem Zuc(hc:X.calm=YD):Zbm X (.builtin "max") (λxs H Q=>∃i j,xs=[.int i,.int j]/\Q (.int (if j>i then j else i)) H):=by
 intro pins s O H xs us Q I r h;obtain⟨i,j,rfl,q⟩:=h;obtain⟨u,w',rfl,⟨t,rfl⟩,⟨t',rfl⟩⟩:=vals2 r;refine max_two_ints (I.ok.hd hc) λh' tk k=>⟨_,H,I.kept k,?_,q⟩
 by_cases hj:j>i
 .rw[YM hj,YM hj];exact⟨_,rfl⟩
 .rw[YQ hj,YQ hj];exact⟨_,rfl⟩
theorem Zjh(hc:X.calm=YD):Zbm X (.builtin "min") (λxs H Q=>∃i j,xs=[.int i,.int j]/\Q (.int (if j<i then j else i)) H):=by
 intro pins s O H xs us Q I r h;obtain⟨i,j,rfl,q⟩:=h;obtain⟨u,w',rfl,⟨t,rfl⟩,⟨t',rfl⟩⟩:=vals2 r;refine min_two_ints (I.ok.hd hc) λh' tk k=>⟨_,H,I.kept k,?_,q⟩
 by_cases hj:j<i
 .rw[YM hj,YM hj];exact⟨_,rfl⟩
 .rw[YQ hj,YQ hj];exact⟨_,rfl⟩
theorem Zj3:Zbm X (.type "int") (λxs H Q=>(∃i,xs=[.int i]/\Q (.int i) H)\/∃k,xs=[.bl k]/\Q (.int (if k then 1 else 0)) H):=by
 intro pins s O H xs us Q I r h;rcases h with⟨i,rfl,q⟩|⟨k,rfl,q⟩
 .obtain⟨u,rfl,t,rfl⟩:=vals1 r
  exact call_int_int ⟨.int i,H,I,⟨_,rfl⟩,q⟩
 .obtain⟨u,rfl,r1⟩:=vals1 r
  cases r1;exact call_int_bool ⟨.int (if k then 1 else 0),H,I.tok _,⟨_,rfl⟩,q⟩
end
structure ObjM(h:YH)(x dx C:YG)(mA:Str->Option Xe):Prop where
 obj:h.get? x=YB (PySem.W.instObj C dx)
 ns:h.Ns1 dx mA
 ne:dx≠x
theorem Zui{dx:YG}{mA:Str->Option Xe}(n:h.Ns1 dx mA):∃od,h.get? dx=YB od/\∀name,PySem.W.lookIn name od=YB (mA name):=by
 obtain⟨o,es,ep,ho,hd,hk,_,hm⟩:=n;refine⟨o,ho,λname=>?_⟩;have e:=hm name;unfold nsFind findBy at e;rw[<-Array.find?_toList]at e;unfold PySem.W.lookIn;rw[hd];dsimp only;split
 .rename_i y q
  rw[q]at e;exact YW YB e
 .rename_i q
  rw[q]at e;have a:es.toList.any (·.refKey)=YF:=by
   rw[List.any_eq_false];intro y hy;obtain⟨z,t,hkey⟩:=hk y (Array.mem_toList_iff.mp hy);simp[DictEntry.refKey,hkey]
  have a':¬es.toList.any (·.refKey)=YD:=by rw[a];exact Xx
  rw[YQ a'];exact YW YB e
theorem ObjM.look{x dx C:YG}{mA:Str->Option Xe}(I:ObjM h x dx C mA):∃od,PySem.W.InstAt h x (PySem.W.instObj C dx) C (YB od)/\∀name,PySem.W.lookIn name od=YB (mA name) :=
 let⟨od,ho,hl⟩:=Zui I.ns
 ⟨od,⟨I.obj,rfl,rfl,ho⟩,hl⟩
section
variable {prog:Qa}{x dx C f:YG}{mA:Str->Option Xe}{name:Str}{v:Xe}
end
theorem RelO.some_of{o:Option Xe}(r:RelO (YB v) o):∃u,o=YB u/\RelV v u:=by
 cases o with
 | none=>exact(show False from r).elim
 | some u=>exact⟨u,rfl,r⟩
section
variable {C dx:YG}{fs fs':List (Str×V)}
theorem Z3e(hok:HOk P w H h)(e:H a=YB (.ins C dx fs)):∃mA,ObjM h a dx C mA/\(∀f,RelO (fs.lookup f) (mA f))/\PySem.Within mA (fs.map (·.1))/\fs.length<=1000/\H dx=YB (.own a):=by
 obtain⟨d,z,ne,ob,mA,n,r,q⟩:=(show ObjOk P w H h a (.ins C dx fs)from hok a _ e);exact⟨mA,⟨ob,n,ne⟩,r,q,z,d⟩
end
structure Cls(K:Xd)(C:YG):Prop where
 pg:PySem.W.plainGet K C Str.empty=YD
 hd:PySem.W.hasDictIn K C=YD
 po:PySem.W.plainOver K C=YD
 sa:VG K (.ref C) "__setattr__"=YB (YB (.builtin "object.__setattr__"))
theorem Cls.get{C:YG}(c:Cls K C)(f:Str):PySem.W.plainGet K C f=YD:=c.pg
structure Con(K:Xd)(C:YG)(f:Str)(v:V)(u:Xe):Prop where
 at_:VG K (.ref C) f=YB (YB u)
 rel:RelV v u
 get:PySem.W.specialIn K u "__get__"=YB YC
 cp:PySem.W.copiedNames.contains f=YF
structure Meth(K:Xd)(C:YG)(m:Str)(f:YG):Prop where
 at_:VG K (.ref C) m=YB (YB (.ref f))
 fn:PySem.W.isFn K (.ref f)=YD
 kp:V8 K (.ref f)=YD
section
variable {O:St}{C dx:YG}{fs:List (Str×V)}{f:Str}
end
section
variable {o value:YJ}{f:Str}{tpos:Pos}{tv:TE}
end
section
variable {O:St}{c:Xe}{b:Bool}
inductive Zpu(K:Xd)(H:Hp):V->Xe->Prop where
 | non:Zpu K H .non (.type "NoneType")
 | bl (x:Bool):Zpu K H (.bl x) (.type "bool")
 | int (i:Int):Zpu K H (.int i) (.type "int")
 | str (x:Str):Zpu K H (.str x) (.type "str")
 | flt (x:UInt64):Zpu K H (.flt x) (.type "float")
 | lst {a:YG} {xs:List V} (e:H a=YB (.lst xs)):Zpu K H (.ref a) (.type "list")
 | frz {a:YG} {o:Obj} {xs:List V} (e:H a=YB (.frz o (.lst xs))):Zpu K H (.ref a) (.type "list")
 | tup {a:YG} {xs:List V} (e:H a=YB (.tup xs)):Zpu K H (.ref a) (.type "tuple")
 | dK {a:YG} {kvs:List (Key×V)} (e:H a=YB (.dK kvs)):Zpu K H (.ref a) (.type "dict")
 | dT {a:YG} {kvs:List (List Key×V)} (e:H a=YB (.dT kvs)):Zpu K H (.ref a) (.type "dict")
 | ins {a C dx:YG} {fs:List (Str×V)} (e:H a=YB (.ins C dx fs)) (cl:Cls K C) (ha:VG K (.ref C) "__class__"=YB (YB (.builtin "object.__class__")))
   (hn:PySem.W.specialIn K (.builtin "object.__class__") "__get__"=YB (YB (.builtin "getset_descriptor.__get__"))) (htk:PySem.W.takesIn K (.builtin "object.__class__")=YB YD)
   (hm:PySem.W.mroIn K C (.type "object")=YB YD):Zpu K H (.ref a) (.ref C)
theorem Jx{x:V}{t:Xe}(I:Inv X pins O H s)(rx:RelV x u)(ty:Zpu X.K H x t)(e:VF X.K t c=YB b)(h:∀tk,Q (.bool b) { s with toks:=tk }) :
  XJ (X8 X.prog X.w) A (call (.builtin "isinstance") [u,c]) Q E s:=by
 cases ty with
 | non=>cases(show u=QJ from rx);exact JN PySem.W.kitx_none I.kIn VR e (λz=>nomatch z) h
 | bl y=>cases(show u=Value.bool y from rx);exact JN PySem.W.kitx_bool I.kIn VR e (λz=>nomatch z) h
 | int i=>obtain⟨t,q⟩:=(show∃t,u=Vl i t from rx);cases q;exact JN PySem.W.kitx_int I.kIn VR e (λz=>nomatch z) h
 | str y=>obtain⟨t,q⟩:=(show∃t,u=Value.str y t from rx);cases q;exact JN PySem.W.kitx_str I.kIn VR e (λz=>nomatch z) h
 | flt y=>obtain⟨t,q⟩:=(show∃t,u=Xe.float y t from rx);cases q;exact JN PySem.W.kitx_float I.kIn VR e (λz=>nomatch z) h
 | @lst a xs ea=>
  cases(show u=Xz a from rx);obtain⟨_,_,n,_,h1⟩:=(show ObjOk X.prog X.w H s.heap a (.lst xs)from I.hok a _ ea);exact JN PySem.W.kitx_list I.kIn ⟨_,h1,rfl⟩ e (λz=>nomatch z) h
 | @frz a ob xs ea=>
  cases(show u=Xz a from rx);obtain⟨_,_,_,n,_,h1⟩:=(show ObjOk X.prog X.w H s.heap a (.frz ob (.lst xs))from I.hok a _ ea);exact JN PySem.W.kitx_list I.kIn ⟨_,h1,rfl⟩ e (λz=>nomatch z) h
 | @tup a xs ea=>
  cases(show u=Xz a from rx);obtain⟨_,_,_,p⟩:=(show ObjOk X.prog X.w H s.heap a (.tup xs)from I.hok a _ ea);obtain⟨o,h1,h2,_⟩:=p;exact JN PySem.W.kitx_tuple I.kIn ⟨o,h1,h2⟩ e (λz=>nomatch z) h
 | @dK a kvs ea=>
  cases(show u=Xz a from rx);obtain⟨_,_,vs,_,p⟩:=(show ObjOk X.prog X.w H s.heap a (.dK kvs)from I.hok a _ ea);obtain⟨o,es,ep,h1,h2,_⟩:=p;exact JN PySem.W.kitx_dict I.kIn ⟨o,h1,h2.1⟩ e (λz=>nomatch z) h
 | @dT a kvs ea=>
  cases(show u=Xz a from rx);obtain⟨_,_,xs,_,o,es,ep,h1,h2,_⟩:=(show ObjOk X.prog X.w H s.heap a (.dT kvs)from I.hok a _ ea);exact JN PySem.W.kitx_dict I.kIn ⟨o,h1,h2.1⟩ e (λz=>nomatch z) h
 | @ins a C dx fs ea cl ha hn htk hm=>
  cases(show u=Xz a from rx);obtain⟨mA,Oa,_⟩:=Z3e I.hok ea;obtain⟨od,J,_⟩:=Oa.look;exact JN (PySem.W.kitx_own (cl.get _) cl.hd ha hn htk hm) I.kIn J e (λz=>nomatch z) h
end
structure Room(k:Nat)(A:Qv):Prop where
 hd:A.handled=YC
 dp:A.depth+3*k+5<recursionLimit
 un:A.units+16*k+200<Vh
theorem Room.mono{k:Nat}(r:Room k A)(h:j<=k):Room j A:=⟨r.hd,by have:=r.dp;omega,by have:=r.un;omega⟩
theorem Room.deeper{k:Nat}(r:Room (k+1) A)(env:Env):Room k (A.deeper env) :=
 ⟨r.hd,by have:=r.dp;show A.depth+1+3*k+5<_;omega,by have:=r.un;show A.units+3+16*k+200<_;omega⟩
theorem Room.depth{k:Nat}(r:Room k A):A.depth<recursionLimit:=by have:=r.dp;omega
theorem Room.units{k:Nat}(r:Room k A):A.units+64<Vh:=by have:=r.un;omega
def Yit:TA:=λ_ H Q=>Q [] H
def Yby(ta:TE)(tr:TA):TA:=λO H Q=>ta O H λx H1=>tr O H1 λxs H2=>Q (x::xs) H2
section
variable {t:TA}
theorem Zen:PA X [] Yit:=λ_ _ _ _ H Q I h=>Calls.spliced_nil ⟨[],H,I,.nil,h⟩
theorem Zam(ha:PE X e te)(hr:PA X es t)(hs:Xu (e::es) X.env=(YF,eval e X.env)::Xu es X.env:=by rfl):PA X (e::es) (Yby te t):=by
 intro pos pins s O H Q I h;rw[hs];show XJ _ _ (spliced ((YF,eval e X.env)::JF pos (Xu es X.env))) _ _ s;refine Calls.spliced_cons (thn (ha pins s O H _ I h) λu s1 qz9=>?_);obtain⟨x,H1,I1,r1,q1⟩:=qz9;refine thn (hr pos pins s1 O H1 _ I1 q1) λus s2 qz9=>?_;obtain⟨xs,H2,I2,r2,q2⟩:=qz9;exact⟨x::xs,H2,I2,.cons r1 r2,q2⟩
def Yhe(t:TA):TE:=λO H Q=>t O H λxs H1=>xs.length<=XC/\∀p,H1 p=YC->Q (.ref p) (upd H1 p (.tup xs))
def Yip(t:TA):TE:=λO H Q=>t O H λxs H1=>xs.length<=XC/\∀p,H1 p=YC->Q (.ref p) (upd H1 p (.lst xs))
theorem Zua{x1}(h:PA X es t):PE X (.Tuple es x1 pos) (Yhe t):=by
 intro pins s O H Q I hq;refine wpAny_Tuple_spliced (thn (h pos pins s O H _ I hq) λus s1 ⟨xs,H1,I1,r,z,q⟩=>⟨by rw[<-r.length];exact z,?_⟩);have hf:H1 s1.heap.objs.size=YC:=I1.hok.fresh (Xy _);refine⟨.ref s1.heap.objs.size,upd H1 s1.heap.objs.size (.tup xs),I1.laid (t':=s1.toks) (λb u e=>Xf _ e) (Xy _) ?_,rfl,q _ hf⟩;exact⟨z,us,r,⟨_,XF _ rfl,rfl,_,rfl⟩⟩
theorem Zx4(h:PA X es t):PE X (.List es pos) (Yip t):=by
 intro pins s O H Q I hq;refine wpAny_List_spliced (thn (h pos pins s O H _ I hq) λus s1 ⟨xs,H1,I1,r,z,q⟩=>⟨by rw[<-r.length];exact z,?_⟩);have hf:H1 s1.heap.objs.size=YC:=I1.hok.fresh (Xy _);refine⟨.ref s1.heap.objs.size,upd H1 s1.heap.objs.size (.lst xs),I1.laid (t':=s1.toks) (λb u e=>Xf _ e) (Xy _) ?_,rfl,q _ hf⟩;exact⟨z,us,0,r,XF _ rfl⟩
end
abbrev Sp:=List V->Hp->VK->XK->Prop
abbrev CXT:=List Env->Hp->Xg->XK->Xe->Xg->Prop
structure Ybg(P:Qa)(w:Qo)(K:Xd)(mg:Str->Option Xe)(base:YH)(A:Qv)(outer:List Env)(s:Xg)(H:Hp):Prop where
 frames:A.frames=YB outer
 mod:Mod K mg base
 bs:∀b o,base.get? b=YB o->s.heap.get? b=YB o/\H b=YC
 bsz:base.objs.size<=s.heap.objs.size
 funs:s.heap.FunFrames base outer
 frf:∀b∈frs outer,H b=YC
 hok:HOk P w H s.heap
 bare:AllBare s.gens
def CE(outer:List Env)(P:Qa)(w:Qo)(H:Hp)(s:Xg)(Q:VK)(u:Xe)(s':Xg):Prop :=
 ∃v H',s'.os=s.os/\AllBare s'.gens/\Un (frs outer) [] H H' s.heap s'.heap/\HOk P w H' s'.heap/\RelV v u/\Q v H'
def CR(CX:CXT)(outer:List Env)(P:Qa)(w:Qo)(H:Hp)(s:Xg)(Q:VK)(E:XK)(r:Result)(s':Xg):Prop :=
 match r with
 | .ok (.ret u)=>CE outer P w H s Q u s'
 | .ok _=>False
 | .error e=>CX outer H s E e s'
structure FnOk(P:Qa)(w:Qo)(K:Xd)(mg:Str->Option Xe)(base:YH)(CX:CXT)(k:Nat)(f:YG)(fd:Qp)(ps:List Str)(sp:Sp):Prop where
 len:∀vs H Q E,sp vs H Q E->vs.length=ps.length
 run:∀(A:Qv) (outer:List Env) (s:Xg) (H:Hp) (args:Args) (us:List Xe) (vs:List V) (Q:VK) (E:XK),Room k A->Ybg P w K mg base A outer s H->BindsTo s fd args (ps.zip us)->Vals vs us->sp vs H Q E ->
  codeAny (X8 P w) A (.call (.ref f) args) (CR CX outer P w H s Q E) s
theorem FnOk.imp{P:Qa}{w:Qo}{K:Xd}{mg:Str->Option Xe}{base:YH}{CX:CXT}{k:Nat}{f:YG}{fd:Qp}{ps:List Str}{sp sp':Sp}(F:FnOk P w K mg base CX k f fd ps sp)
  (h:∀vs H Q E,sp' vs H Q E->sp vs H Q E):FnOk P w K mg base CX k f fd ps sp' :=
 ⟨λvs H Q E q=>F.len vs H Q E (h _ _ _ _ q),λA outer s H args us vs Q E hr he hb hv hs=>F.run A outer s H args us vs Q E hr he hb hv (h _ _ _ _ hs)⟩
section
variable {O:St}
theorem Inv.env0(I:Inv X pins O H s):Ybg X.prog X.w X.K X.mg X.base X.A X.stack s H :=
 ⟨I.ok.frames,I.ok.mod,I.bs,QM I.ok.bsz I.sz,I.stack,I.stkFree,I.hok,I.bare⟩
theorem Inv.after{Q:VK}(I:Inv X pins O H s)(h:CE X.stack X.prog X.w H s Q u s'):EP X pins O Q u s':=by
 obtain⟨v,H',os,bare,un,hok,r,q⟩:=h;obtain⟨hh,g,d,t,os'⟩:=s';obtain rfl:os'=s.os:=os;exact⟨v,H',I.call (h':=hh) (g':=g) (d':=d) (t':=t) (ch:=[]) un hok bare (λb z=>YZ z (by simp)),r,q⟩
end
def Z57(sp:Sp)(dvs:List V)(E:XK)(t:TA):TE:=λO H Q=>t O H λvs H1=>sp (vs++dvs) H1 Q E
def Binds(K:Xd)(fd:Qp)(ps:List Str)(ds:List Xe):Prop :=
 ∀(s:Xg) (us:List Xe),K.In s.heap->(us++ds).length=ps.length->BindsTo s fd ⟨us,[]⟩ (ps.zip (us++ds))
theorem Binds.all{K:Xd}{fd:Qp}{ps:List Str}(h:∀us:List Xe,us.length=ps.length->bindArgs fd ⟨us,[]⟩=pure (ps.zip us)):Binds K fd ps []:=λs us _ hl=>by
 rw[Qs]at hl|-
 exact .of_eq (h us hl)
def Zme(CX:CXT)(X:Cx)(E:XK):Prop:=∀(pins:List (YG×Obj)) (O:St) (H:Hp) (s:Xg) (e:Xe) (s':Xg),Inv X pins O H s->CX X.stack H s E e s'->X.xe e s'
section
variable {CX:CXT}{k:Nat}{f C:YG}{fd:Qp}{ps:List Str}{sp:Sp}{dvs:List V}{ds:List Xe}{E:XK}{m:Str}{p apos:Pos}{o:YJ}{t:TA}
theorem Z7k{O:St}{Q:VK}{vs:List V}(F:FnOk X.prog X.w X.K X.mg X.base CX k f fd ps sp)(hr:Room k X.A)(hb:Binds X.K fd ps ds)(hd:Vals dvs ds)(hx:Zme CX X E)
  (I:Inv X pins O H s) (r:Vals vs us) (h:sp (vs++dvs) H Q E):XJ (X8 X.prog X.w) X.A (call (.ref f) us) (EP X pins O Q) X.xe s:=by
 have r2:Vals (vs++dvs) (us++ds):=r.append hd;have hl:(us++ds).length=ps.length:=by rw[<-r2.length];exact F.len _ _ _ _ h
 refine wpAny_call (codeAny_mono (F.run X.A X.stack s H ⟨us,[]⟩ (us++ds) (vs++dvs) Q E hr I.env0 (hb s us I.kIn hl) r2 h) λr s' hq=>?_);cases r with
 | error e=>exact hx pins O H s e s' I hq
 | ok fl=>
  cases fl with
  | ret u=>exact I.after hq
  | next=>exact Ug hq
  | brk=>exact Ug hq
  | cont=>exact Ug hq
theorem Z2m(F:FnOk X.prog X.w X.K X.mg X.base CX k f fd ps sp)(hr:Room k X.A)(hg:Gl X x)(hm:X.mg x=YB (.ref f))(hk:V8 X.K (.ref f)=YD)(hb:Binds X.K fd ps ds)(hd:Vals dvs ds)(hx:Zme CX X E)
  (ha:PA X (e::es) t) (hdb:(x==("__debug__" : Str))=YF:=by decide) (he:Xu (e::es) X.env=(YF,eval e X.env)::Xu es X.env:=by rfl) (hpl:(JF pos (Xu es X.env)).any (·.1)=YF:=by rfl) :
  PE X (.Call (.Name x p) (e::es) [] pos) (Z57 sp dvs E t):=by
 intro pins s O H Q I h;refine Bp (Zue I hg hm ?_ hdb);refine PySem.W.callWith_K (h₀:=X.base) I.ok.mod.kin hk (thn (ha pos pins s O H _ I h) λus s1 qz9=>?_) he hpl;obtain⟨vs,H1,I1,r,q⟩:=qz9;refine⟨I1.kIn,?_⟩;exact Z7k F hr hb hd hx I1 r q
structure Mk(K:Xd)(C f:YG):Prop where
 makes:PySem.W.makesIn K C=YD
 init:VG K (.ref C) "__init__"=YB (YB (.ref f))
 fn:PySem.W.isFn K (.ref f)=YD
 kp:V8 K (.ref C)=YD
end
section
variable {CX:CXT}{k:Nat}{f C:YG}{fd:Qp}{ps ks:List Str}{sp:Sp}{E:XK}{m:Str}{p apos kpos:Pos}{o:YJ}{kws:List Ua}{t tk:TA}{nm:Option Str}
structure Ygh(K:Xd)(fd:Qp)(ps ks:List Str)(g:List Xe->List Xe->List Xe)(gV:List V->List V->List V):Prop where
 to:∀(s:Xg) (us ws:List Xe),K.In s.heap->(g us ws).length=ps.length->BindsTo s fd ⟨us,ks.zip ws⟩ (ps.zip (g us ws))
 rel:∀{vs:List V} {us:List Xe} {zs:List V} {ws:List Xe},Vals vs us->Vals zs ws->Vals (gV vs zs) (g us ws)
variable {g:List Xe->List Xe->List Xe}{gV:List V->List V->List V}
end
structure Zy(N P:List Str)(sc:YL):Prop where
 kind:sc.kind= .function
 co:sc.isCoroutine=YF
 gen:sc.isGenerator=YF
 nd:N.Nodup
 pre:N.take P.length=P
 par:∀x∈P,sc.names.lookup x=YB .local\/sc.names.lookup x=YB .cell
 nofree:∀y∈sc.names,y.2≠ .free
theorem Zko{kindOf:Str->Option Vi}:∀{binds:List (Str×Xe)} {m:Str->Option Xe},(∀v,(x,v)∉binds)->bindL kindOf binds m x=m x
 | [],_,_=>rfl
 | (n,v)::r,m,h=>by
  unfold bindL;rw[Zko λw hw=>h w (List.mem_cons_of_mem _ hw)];split
  .have:x≠n:=by rintro rfl;exact h v List.mem_cons_self
   simp[this]
  .rfl
theorem Zj0{kindOf:Str->Option Vi}:∀{binds:List (Str×Xe)} {m:Str->Option Xe},(∀v,(x,v)∉binds)->bindC kindOf binds m x=m x
 | [],_,_=>rfl
 | (n,v)::r,m,h=>by
  unfold bindC;rw[Zj0 λw hw=>h w (List.mem_cons_of_mem _ hw)];split
  .rfl
  .have:x≠n:=by rintro rfl;exact h v List.mem_cons_self
   simp[this]
theorem Zkn{kindOf:Str->Option Vi}{v:Xe}:∀{P:List Str} {vs:List Xe} {i:Nat} {m:Str->Option Xe},P.Nodup->P[i]? =YB x->vs[i]? =YB v->kindOf x=YB .local ->
  bindL kindOf (P.zip vs) m x=YB v
 | [],_,_,_,_,h,_,_=>by simp at h
 | _::_,[],_,_,_,_,h,_=>by simp at h
 | p::P,w::vs,0,m,nd,h1,h2,hk=>by
  simp at h1 h2;subst h1;subst h2;show bindL kindOf ((p,w)::P.zip vs) m p=_;unfold bindL;rw[Zko λv hv=>(Qq.mp nd).1 (List.of_mem_zip hv).1,YM hk];simp
 | p::P,w::vs,i+1,m,nd,h1,h2,hk=>by
  show bindL kindOf ((p,w)::P.zip vs) m x=_;unfold bindL;exact Zkn (i:=i) (Qq.mp nd).2 (by simpa using h1) (by simpa using h2) hk
theorem Zkj{kindOf:Str->Option Vi}{v:Xe}:∀{P:List Str} {vs:List Xe} {i:Nat} {m:Str->Option Xe},P.Nodup->P[i]? =YB x->vs[i]? =YB v->kindOf x≠YB .local ->
  bindC kindOf (P.zip vs) m x=YB v
 | [],_,_,_,_,h,_,_=>by simp at h
 | _::_,[],_,_,_,_,h,_=>by simp at h
 | p::P,w::vs,0,m,nd,h1,h2,hk=>by
  simp at h1 h2;subst h1;subst h2;show bindC kindOf ((p,w)::P.zip vs) m p=_;unfold bindC;rw[Zj0 λv hv=>(Qq.mp nd).1 (List.of_mem_zip hv).1,YQ hk];simp
 | p::P,w::vs,i+1,m,nd,h1,h2,hk=>by
  show bindC kindOf ((p,w)::P.zip vs) m x=_;unfold bindC;exact Zkj (i:=i) (Qq.mp nd).2 (by simpa using h1) (by simpa using h2) hk
def start(N:List Str)(vs:List V):St:=vs.map YB++Qi (N.length-vs.length) YC
def Zx5(CX:CXT)(P:Qa)(w:Qo)(K:Xd)(mg:Str->Option Xe)(base:YH)(N:List Str)(qual:Str)(scope:YL)(f:YG)(cd:Xe)(A:Qv)(outer:List Env)(s:Xg)(H:Hp)(E:XK):Cx where
 prog:=P
 w:=w
 K:=K
 mg:=mg
 base:=base
 A:=A.deeper (envOfC qual scope s.heap.objs.size f cd)
 N:=N
 s₀:=s
 H₀:=H
 env:=envOfC qual scope s.heap.objs.size f cd
 outer:=outer
 stack:=envOfC qual scope s.heap.objs.size f cd::outer
 ex:=[]
 calm:=YD
 fn:=λ_=>YD
 pn:=[]
 xe:=λe s'=>XJ (X8 P w) (A.deeper (envOfC qual scope s.heap.objs.size f cd)) (leaving (envOfC qual scope s.heap.objs.size f cd) e) (λ_ s''=>CX outer H s E e s'') (λe' s''=>CX outer H s E e' s'') s'
theorem Znv{sc:YL}{n:Nat}(h:sc.names.lookup x=YB .cell):∃c,(BV n sc.names []).lookup x=YB c:=by
 have q:=PySem.W.cellsFrom_some sc.names n [] (.inl h);exact Option.isSome_iff_exists.mp q
theorem Zus{CX:CXT}{mg:Str->Option Xe}{base:YH}{ps:List Str}{qual:Str}{scope:YL}{f:YG}{cd:Xe}{outer:List Env}{s1:Xg}{E:XK}{vs:List V}
  (S:Zy N ps scope) (hd:A.handled=YC) (e0:Ybg P w K mg base A outer s H) (hl:vs.length=ps.length) (r:Vals vs us)
  (x:InCallC s s.heap.objs.size (bindL (envOfC qual scope s.heap.objs.size f cd).kindOf (ps.zip us) λ_=>YC) (BV (s.heap.objs.size+1) scope.names []) (bindC (envOfC qual scope s.heap.objs.size f cd).kindOf (ps.zip us) λ_=>YC) s1) :
  Inv (Zx5 CX P w K mg base N qual scope f cd A outer s H E) [] (start N vs) H s1:=by
 have hpl:ps.length<=N.length:=by have:=YW List.length S.pre;rw[Ba]at this;omega
 obtain⟨h1,tk,rfl,hk⟩:=x.done;have noA:∀b:YG,b∉(Zx5 CX P w K mg base N qual scope f cd A outer s H E).ex:=λb z=>YZ (show b∈([]:List YG)from z) (by simp);refine⟨⟨e0.mod,S.kind,rfl,rfl,Xy _,λy z c h1 h2=>?_,λy hy=>?_,λy c _ h=>?_,λ_=>hd,Qv.frames_deeper e0.frames,.inr ⟨rfl,rfl⟩,λb z=>YZ z (noA b),e0.bs,e0.bsz,λb _ _=>noA b,λb z=>YZ z (noA b),e0.funs,e0.frf⟩,
  rfl,e0.bare,Un.kept hk,⟨_,x.toInCall.ns,λi y v h1 h2 h3=>?_⟩,λy c h=>⟨_,x.cell y c h⟩,e0.hok.fresh (Xy _),λy c h=>?_,λp hp=>YZ (show p∈([]:List (YG×Obj))from hp) (by simp),e0.hok.kept hk,?_⟩
 .exact name_of_addr x.apart (Bv h1) (Bv h2)
 .have hy:scope.names.lookup y=YB .cell\/scope.names.lookup y=YB .free:=hy
  rcases hy with hy|hy
  .exact Znv hy
  .exact YZ rfl (S.nofree _ (Bv hy))
 .exact Vn (x.above y c (Bv h))
 .have hi:i<vs.length:=by
   unfold start at h2
   by_cases hi:i<vs.length
   .exact hi
   .rw[JX (by simpa using hi)]at h2
    rw[List.getElem?_replicate]at h2;split at h2<;>cases h2
  have ha:vs[i]? =YB v:=by
   unfold start at h2;rw[Vv (by simpa using hi),Xi]at h2;cases e:vs[i]? with
   | none=>rw[e]at h2;cases h2
   | some a=>rw[e]at h2;cases h2;rfl
  obtain⟨u,hu,rv⟩:=r.get ha;have hp:ps[i]? =YB y:=by
   rw[<-S.pre,List.getElem?_take_of_lt (by omega)];exact h1
  have ndP:ps.Nodup:=by rw[<-S.pre];exact S.nd.sublist (List.take_sublist _ _)
  refine⟨u,rv,?_⟩;rcases S.par y (X5 hp)with k|k
  .exact .inl ⟨k,Zkn ndP hp hu k⟩
  .obtain⟨c,e⟩:=Znv (n:=s.heap.objs.size+1) k
   refine .inr ⟨.inl k,c,e,?_⟩;have q:=x.cell y c e;rw[Zkj ndP hp hu (by show scope.names.lookup y≠_;rw[k];decide)]at q;exact q
 .exact e0.hok.fresh (Vn (x.above y c (Bv h)))
 .unfold start
  show _=N.length;rw[XX,Xc,V5];omega
theorem Yb1{CX:CXT}{mg:Str->Option Xe}{base:YH}{k:Nat}{f:YG}{name qual:Str}{params:Arguments}{scope:YL}{dV kV doc pm cdv ct oc:Xe}{an od:Option YG}
  {osl:Array (Option Xe)} {ps:List Str} {sp:Sp} (lk:K.lookup f=YB ⟨oc,od,.func (Ue name qual params body scope dV kV doc pm an cdv ct),osl⟩) (hcd:PySem.W.codeIn K cdv qual=YD) (S:Zy N ps scope)
  (len:∀vs H Q E,sp vs H Q E->vs.length=ps.length)
  (hbody:∀(A:Qv) (outer:List Env) (s:Xg) (H:Hp) (vs:List V) (Q:VK) (E:XK),Room k (A.deeper (envOfC qual scope s.heap.objs.size f cdv))->sp vs H Q E ->
   ∃t,PSs (Zx5 CX P w K mg base N qual scope f cdv A outer s H E) body t/\t { nx:=λ_ H'=>Q .non H',rt:=Q } (start N vs) H) :
  FnOk P w K mg base CX (k+1) f (Ue name qual params body scope dV kV doc pm an cdv ct) ps sp:=by
 refine⟨len,λA outer s H args us vs Q E hr e0 hb r hsp=>?_⟩;have hl:=len _ _ _ _ hsp;have KX:K.In s.heap:=e0.mod.kin.keeps λb o e=>(e0.bs b o e).1;have lim:s.heap.NoLimit:=e0.mod.nolimit.keeps λb o e=>(e0.bs b o e).1;have hkind:∀y∈ps.zip us,scope.names.lookup y.1=YB .local\/(scope.names.lookup y.1=YB .cell/\((BV (s.heap.objs.size+1) scope.names []).lookup y.1).isSome=YD):=λ⟨n,v⟩ hy=>by
  rcases S.par n (List.of_mem_zip hy).1 with q|q
  .exact .inl q
  .exact .inr ⟨q,PySem.W.cellsFrom_some _ _ _ (.inl q)⟩
 refine codeAny_call_function hr.depth (KX _ _ lk) rfl S.co S.gen rfl (PySem.W.codeRec_of KX hcd) (hb _ _ _ _ ?_);refine wpAny_newFunctionEnv_cells S.kind hkind λenv he s1 x=>?_;subst he;refine⟨lim.keeps x.toInCall.keep,codeAny_func ?_⟩;obtain⟨t,ht,hq⟩:=hbody A outer s H vs Q E (hr.deeper _) hsp;have I:Inv (Zx5 CX P w K mg base N qual scope f cdv A outer s H E) [] (start N vs) H s1:=Zus S hr.hd e0 hl r x;refine Bo (ht [] s1 (start N vs) H _ I hq) (λfl s' hs=>?_) λe s' hs=>hs;have fin:∀{O':St} {H':Hp} {v:V} {u:Xe},Inv (Zx5 CX P w K mg base N qual scope f cdv A outer s H E) [] O' H' s'->RelV v u->Q v H'->CE outer P w H s Q u s' :=
  fun{O' H' v u} J rv q=>⟨v,H',J.os,J.bare,J.base,J.hok,rv,q⟩
 cases fl with
 | ret u=>
  obtain⟨v,O',H',J,rv,q⟩:=hs;exact fin J rv q
 | next=>
  obtain⟨O',H',J,q⟩:=hs;exact fin (v:=V.non) (u:=QJ) J rfl q
 | brk=>
  obtain⟨_,_,_,q⟩:=hs;exact Ug q
 | cont=>
  obtain⟨_,_,_,q⟩:=hs;exact Ug q
section
variable {p:Pos}{t:TA}{id T:String}{r:List V->Hp->VK->Prop}
def tCB(r:List V->Hp->VK->Prop)(t:TA):TE:=λO H Q=>t O H λvs H1=>r vs H1 Q
theorem Zib(hc:Zbm X (.builtin id) r)(hg:Gl X x)(hm:X.mg x=YC)(hv:Qe x=YB (.builtin id))(ha:PA X (e::es) t)(hn:x≠"__name__" :=by decide)(hdb:(x==("__debug__" : Str))=YF:=by decide)
  (he:Xu (e::es) X.env=(YF,eval e X.env)::Xu es X.env:=by rfl) (hpl:(JF pos (Xu es X.env)).any (·.1)=YF:=by rfl):PE X (.Call (.Name x p) (e::es) [] pos) (tCB r t):=by
 intro pins s O H Q I h;refine Bp (Zbz I hg hm hv ?_ hn hdb);refine Uz (thn (ha pos pins s O H _ I h) λus s1 qz9=>?_) he hpl;obtain⟨vs,H1,I1,r1,q1⟩:=qz9;exact hc pins s1 O H1 vs us Q I1 r1 q1
theorem Zjo(hc:Zbm X (.type T) r)(hg:Gl X x)(hm:X.mg x=YC)(hv:Qe x=YB (.type T))(ha:PA X (e::es) t)(hn:x≠"__name__" :=by decide)(hdb:(x==("__debug__" : Str))=YF:=by decide)
  (he:Xu (e::es) X.env=(YF,eval e X.env)::Xu es X.env:=by rfl) (hpl:(JF pos (Xu es X.env)).any (·.1)=YF:=by rfl):PE X (.Call (.Name x p) (e::es) [] pos) (tCB r t):=by
 intro pins s O H Q I h;refine Bp (Zbz I hg hm hv ?_ hn hdb);refine JP (thn (ha pos pins s O H _ I h) λus s1 qz9=>?_) he hpl;obtain⟨vs,H1,I1,r1,q1⟩:=qz9;exact hc pins s1 O H1 vs us Q I1 r1 q1
end
end L2
namespace HT
open PySem PyProof.Rows
section
open PySem.SeqAt
open PySem.AutoSeq1 (wpAny_loadPart')
open PySem.MeetsSeq PySem.MeetsSeq2 PySem.MeetsSeq3
end
section
variable {prog:Qa}
theorem cat_tup{t b:YG}{vs ws:List Xe}(ht:IsTup s.heap t vs.toArray)(hb:IsTup s.heap b ws.toArray)(hv:vs≠[])
  (h1:ws=[]->Q (.ref t) s) (h2:ws≠[]->Q (.ref s.heap.objs.size) { s with heap:=s.heap.push { cls:=.type "tuple",data:=.seq (vs++ws).toArray } })
  (hsz:vs.length+ws.length<=XC):XJ (X8 prog w) A (V0 .Add (.ref t) (.ref b)) Q E s:=by
 obtain⟨⟨cls,dd,data,sl⟩,ho,hc,n,hd⟩:=id ht;obtain⟨⟨cls2,dd2,data2,sl2⟩,ho2,hc2,n2,hd2⟩:=id hb;simp only at hc hd hc2 hd2;subst hc hd hc2 hd2;have e:vs.toArray++ws.toArray=(vs++ws).toArray:=by simp
 by_cases hw:ws=[]
 .exact concat_meets ⟨_,ho,rfl⟩ ⟨_,ho2,rfl⟩ noFill_tuple_add seq_tuple_add PySem.F.slot_tuple_add PySem.F.entry_tuple_add (PySem.F.args_tuple_add_2 _ _)
   (tuple_addW1 t b vs.toArray ws.toArray n n2 dd dd2 sl sl2 (by simpa using hv) (by simp[hw])) ⟨ho,ho2,h1 hw⟩
 .refine concat_meets ⟨_,ho,rfl⟩ ⟨_,ho2,rfl⟩ noFill_tuple_add seq_tuple_add PySem.F.slot_tuple_add PySem.F.entry_tuple_add (PySem.F.args_tuple_add_2 _ _)
   (tuple_addW2 t b vs.toArray ws.toArray n n2 dd dd2 sl sl2 (by simpa using hv) (by simpa using hw) (by rw[XQ,XQ];exact hsz)) ⟨ho,ho2,?_⟩
  rw[e];exact h2 hw
def sIx(n d:Nat):Option Int->Nat
 | none=>d
 | some v=>if v<0 then(v+(n:Int)).toNat else min v.toNat n
theorem sIx_none(n d:Nat):sIx n d YC=d:=rfl
theorem sIx_nat(n d k:Nat):sIx n d (YB (k:Int))=min k n:=by
 show(if(k:Int)<0 then((k:Int)+(n:Int)).toNat else min (k:Int).toNat n)=min k n;rw[YQ (by omega),Bg]
end
end HT
namespace L2
open PySem PySem.Spec PyProof.Rows
abbrev TO:=St->Hp->(Option Int->Hp->Prop)->Prop
def PO(X:Cx)(e:Option YJ)(t:TO):Prop :=
 ∀(pins:List (YG×Obj)) (s:Xg) (O:St) (H:Hp) (Q:Option Int->Hp->Prop),Inv X pins O H s->t O H Q ->
  XJ (X8 X.prog X.w) X.A (evalPart e X.env) (λu s'=>∃o H',Inv X pins O H' s'/\IsPart u o/\Q o H') X.xe s
def Z4m:TO:=λ_ H Q=>Q YC H
def Yce(t:TE):TO:=λO H Q=>t O H λx H1=>∃i,x= .int i/\Q (YB i) H1
section
variable {lo hi:Option YJ}{tl th:TO}{p2:Pos}
theorem Z15:PO X YC Z4m:=by
 intro pins s O H Q I h;rw[evalPart_none];exact Xl ⟨YC,H,I,.none,h⟩
theorem Z0d(h:PE X e te):PO X (YB e) (Yce te):=by
 intro pins s O H Q I hw;rw[evalPart_some];refine thn (h pins s O H _ I hw) λu s1 qz9=>?_;obtain⟨x,H1,I1,r1,q1⟩:=qz9;obtain⟨i,rfl,q⟩:=q1;obtain⟨t,rfl⟩:=r1;exact⟨YB i,H1,I1,.int i t,q⟩
def SlR(X:Cx)(r:V->Option Int->Option Int->Hp->VK->Prop):Prop :=
 ∀(pins:List (YG×Obj)) (s:Xg) (O:St) (H:Hp) (x:V) (v vl vu:Xe) (lo hi:Option Int) (sl:YG) (Q:VK),Inv X pins O H s->RelV x v->s.heap.IsSliceOf sl vl vu .none->IsPart vl lo->IsPart vu hi->r x lo hi H Q ->
  ∃T id,typeLookup (.type T) "__getitem__"=pure (YB (.builtin id))/\s.TypeIs v T/\XJ (X8 X.prog X.w) X.A (getItem v (.ref sl)) (EP X pins O Q) X.xe s
def tSl(r:V->Option Int->Option Int->Hp->VK->Prop)(te:TE)(tl th:TO):TE:=λO H Q=>te O H λx H1=>tl O H1 λl H2=>th O H2 λu H3=>r x l u H3 Q
theorem Zw5{r:V->Option Int->Option Int->Hp->VK->Prop}(hr:SlR X r)(he:PE X e te)(hl:PO X lo tl)(hu:PO X hi th):PE X (.Subscript e (.Slice lo hi YC p2) pos) (tSl r te tl th):=by
 intro pins s O H Q I h;refine Subscript_ (thn (he pins s O H _ I h) λv s1 qz9=>?_);obtain⟨x,H1,I1,r1,q1⟩:=qz9;refine wpAny_Slice (thn (hl pins s1 O H1 _ I1 q1) λvl s2 qz9=>?_);obtain⟨l,H2,I2,pl,q2⟩:=qz9;refine thn (hu pins s2 O H2 _ I2 q2) λvu s3 qz9=>?_;obtain⟨u,H3,I3,pu,q3⟩:=qz9;rw[evalPart_none];refine Xl ?_;have I4:Inv X pins O H3 { s3 with heap:=s3.heap.push { cls:=.type "slice",data:=.fields #[vl,vu,.none] } }:=I3.kept (t':=s3.toks) λb ob q=>Xf _ q;obtain⟨T,id,hT,ht,hg⟩:=hr pins { s3 with heap:=s3.heap.push { cls:=.type "slice",data:=.fields #[vl,vu,.none] } } O H3 x v vl vu l u s3.heap.objs.size Q I4 r1 (Heap.IsSliceOf.new ..) pl pu q3;show XJ (X8 X.prog X.w) X.A (subscriptTail e (.Slice lo hi YC p2) v (.ref s3.heap.objs.size)) (EP X pins O Q) X.xe { s3 with heap:=s3.heap.push { cls:=.type "slice",data:=.fields #[vl,vu,.none] } };exact tail_any (ops:=[.ref s3.heap.objs.size,v]) ht hT hg (by with_unfolding_all rfl)
def Z4t(xs:List V)(lo hi:Option Int):List V:=(xs.drop (HT.sIx xs.length 0 lo)).take (HT.sIx xs.length xs.length hi-HT.sIx xs.length 0 lo)
theorem Zmc(xs:List V)(lo hi:Option Int):(Z4t xs lo hi).length<=xs.length:=by
 unfold Z4t;rw[Ba,Vp];omega
def Z8a(K:Xd):R2:=λx y H Q=>∃a b xs ys,x= .ref a/\y= .ref b/\SqT K H a xs/\SqT K H b ys/\xs≠[]/\xs.length+ys.length<=XC/\
 (ys=[]->Q (.ref a) H)/\(ys≠[]->∀p,H p=YC->Q (.ref p) (upd H p (.tup (xs++ys))))
theorem Vals.nil_iff(r:Vals xs us):us=[]↔xs=[]:=by
 cases r with
 | nil=>simp
 | cons _ _=>simp
theorem Z3h:OpR X (V0 .Add) (Z8a X.K):=by
 intro pins s O H x y v u Q I rx ry h;obtain⟨a,b,xs,ys,rfl,rfl,ha,hb,hx,hz,q1,q2⟩:=h;cases rx;cases ry;obtain⟨its,r1,p1,_⟩:=I.tuple ha;obtain⟨its2,r2,p2,_⟩:=I.tuple hb;refine HT.cat_tup p1 p2 (λz=>hx (r1.nil_iff.mp z)) (λz=>⟨.ref a,H,I,rfl,q1 (r2.nil_iff.mp z)⟩) (λz=>?_) (by rw[<-r1.length,<-r2.length];exact hz);refine⟨.ref s.heap.objs.size,_,I.laid (t':=s.toks) (o:=.tup (xs++ys)) (λb ob q=>Xf _ q) (Xy _) ?_,rfl,q2 (λw=>z (r2.nil_iff.mpr w)) _ (I.hok.fresh (Xy _))⟩;exact⟨by rw[XX];exact hz,_,r1.append r2,IsTup.new _ _⟩
end
def ixN(n:Nat)(i:Int):Option Nat:=if 0<=i then(if i<n then YB i.toNat else YC)else if -(n:Int)<=i then YB (i+n).toNat else YC
def atI(xs:List α)(i:Int):Option α:=(ixN xs.length i).bind λj=>xs[j]?
theorem Zk1{n:Nat}{i:Int}(h:ixN n i=YB j):seqIndex? i n=YB j/\j<n/\-(n:Int)<=i/\i<n:=by
 unfold ixN at h
 by_cases h0:0<=i
 .rw[YM h0]at h
  by_cases h1:i<n
  .rw[YM h1]at h
   have e:i.toNat=j:=Qy h;exact⟨by rw[seqIndex_of h0 h1,e],by omega,by omega,h1⟩
  .rw[YQ h1]at h;cases h
 .rw[YQ h0]at h
  by_cases h1:-(n:Int)<=i
  .rw[YM h1]at h
   have e:(i+n).toNat=j:=Qy h;exact⟨by rw[seqIndex_neg (by omega) h1,e],by omega,h1,by omega⟩
  .rw[YQ h1]at h;cases h
theorem Zl6{xs:List α}{i:Int}{v:α}(h:atI xs i=YB v):∃j,seqIndex? i xs.length=YB j/\xs[j]? =YB v/\j<xs.length/\-(xs.length:Int)<=i/\i<xs.length:=by
 unfold atI at h;cases e:ixN xs.length i with
 | none=>rw[e]at h;cases h
 | some j=>
  rw[e]at h;obtain⟨h1,h2,h3,h4⟩:=Zk1 e;exact⟨j,h1,h,h2,h3,h4⟩
theorem Zbq{xs:List α}{v:α}(h:xs[j]? =YB v):atI xs (j:Int)=YB v:=by
 have hj:j<xs.length:=(Xk.mp h).1;have e:ixN xs.length (j:Int)=YB j:=by
  unfold ixN;rw[YM (by omega),YM (by omega)];simp
 unfold atI;rw[e];exact h
theorem Zw6(xs:List α)(v:α):atI (xs++[v]) (-1)=YB v:=by
 have hl:(xs++[v]).length=xs.length+1:=by simp
 have e:ixN (xs++[v]).length (-1)=YB xs.length:=by
  unfold ixN;rw[hl,YQ (by decide),YM (by omega)];congr 1;omega
 unfold atI;rw[e];show(xs++[v])[xs.length]? =YB v;simp
def Zgg(b:YJ):Prop:=∀o i,subscripted b YF o i=operate [o,i] (getItem o i)
def IxR(X:Cx)(r:R2):Prop :=
 ∀(value slice:YJ) (pins:List (YG×Obj)) (s:Xg) (O:St) (H:Hp) (x y:V) (v u:Xe) (Q:VK),Inv X pins O H s->RelV x v->RelV y u->r x y H Q ->
  subscripted slice YF v u=operate [v,u] (getItem v u)->XJ (X8 X.prog X.w) X.A (subscriptTail value slice v u) (EP X pins O Q) X.xe s
def MtR(X:Cx)(id:String)(r:V->List V->Hp->VK->Prop):Prop :=
 ∀(pins:List (YG×Obj)) (s:Xg) (O:St) (H:Hp) (x:V) (xs:List V) (v:Xe) (us:List Xe) (Q:VK),Inv X pins O H s->RelV x v->Vals xs us->r x xs H Q ->
  XJ (X8 X.prog X.w) X.A (call (.builtin id) (v::us)) (EP X pins O Q) X.xe s
end L2
variable {dx C:YG}{CX:CXT}{op op':CmpOp}{iter value:YJ}{g:Int->Int->Bool}{ps:List Str}{vs:List Xe}{lo hi:Option YJ}{apos p2 cpos:Pos}{prog:Qa}{r':R2}{scope:YL}{sp:Sp}{name qual:Str}{kindOf:Str->Option Vi}{mA mg:Str->Option Xe}{id:String}{tl tc tv:TE}
namespace L2
open PySem PySem.Spec PyProof.Rows
section
variable {a:YJ}
theorem IxR.or{r:R2}(h:IxR X r)(h':IxR X r'):IxR X (λx y H Q=>r x y H Q\/r' x y H Q):=by
 intro value slice pins s O H x y v u Q I rx ry q hs;rcases q with q|q
 .exact h value slice pins s O H x y v u Q I rx ry q hs
 .exact h' value slice pins s O H x y v u Q I rx ry q hs
theorem Zu3{r:R2}(hr:IxR X r)(ha:PE X a ta)(hb:PE X b tb)(hs:Zgg b):PE X (.Subscript a b pos) (tOp r ta tb):=by
 intro pins s O H Q I h;exact Subscript_ (Ydv ha hb I h λv u s2 x y H2 I2 rx ry q=>hr a b pins s2 O H2 x y v u Q I2 rx ry q (hs _ _))
def Ybs(K:Xd):R2:=λx y H Q=>∃p xs i v,x= .ref p/\y= .int i/\SqL K H p xs/\atI xs i=YB v/\Q v H
def Yfm(K:Xd):R2:=λx y H Q=>∃p xs i v,x= .ref p/\y= .int i/\SqT K H p xs/\atI xs i=YB v/\Q v H
def Yfu:R2:=λx y H Q=>∃z i c,x= .str z/\y= .int i/\z.length<=XC/\atI z.cps.toList i=YB c/\Q (.str ⟨#[c]⟩) H
theorem Zur:IxR X (Ybs X.K):=by
 intro value slice pins s O H x y v u Q I rx ry h hs;obtain⟨p,xs,i,z,rfl,rfl,hq,he,q⟩:=h;cases rx;obtain⟨t,rfl⟩:=ry;obtain⟨its,r,pl,hz⟩:=I.list hq;obtain⟨j,h1,h2,h3,h4,h5⟩:=Zl6 he;obtain⟨w,ew,rw'⟩:=r.get h2;have hl:=r.length;have hn:=Zhz;have fin:EP X pins O Q w s:=⟨z,H,I,rw',q⟩
 by_cases h0:0<=i
 .have hj:i.toNat=j:=by
   rw[seqIndex_of h0 h5]at h1;exact Qy h1
  exact item_listR pl.isList h0 (by omega) (by rw[hj];simpa using ew) fin hs
 .have hj:(i+(its.toArray.size:Int)).toNat=j:=by
   rw[seqIndex_neg (by omega) h4]at h1;rw[XQ,<-hl];exact Qy h1
  exact subscriptTail_builtinR (x:=w) pl.isList.typeIs slot_list_getitem.lookup
   (wpAny_getItem_list_neg (Q:=λr s'=>r=w/\EP X pins O Q r s') pl.isList (by omega) (by rw[XQ]<;>omega) (by omega) (by rw[hj];simpa using ew) ⟨rfl,fin⟩) hs
theorem Z7c:IxR X (Yfm X.K):=by
 intro value slice pins s O H x y v u Q I rx ry h hs;obtain⟨p,xs,i,z,rfl,rfl,hq,he,q⟩:=h;cases rx;obtain⟨t,rfl⟩:=ry;obtain⟨its,r,pl,hz⟩:=I.tuple hq;obtain⟨j,h1,h2,h3,h4,h5⟩:=Zl6 he;obtain⟨w,ew,rw'⟩:=r.get h2;have hl:=r.length;have hn:=Zhz;have fin:EP X pins O Q w s:=⟨z,H,I,rw',q⟩;exact subscriptTail_builtinR (x:=w) pl.typeIs slot_tuple_getitem.lookup
  (getItem_tuple (j:=j) (Q:=λr s'=>r=w/\EP X pins O Q r s') pl (by omega) (by omega) (by rw[XQ,<-hl];exact h1) (by simpa using ew) ⟨rfl,fin⟩) hs
theorem Z7i:IxR X Yfu:=by
 intro value slice pins s O H x y v u Q I rx ry h hs;obtain⟨z,i,c,rfl,rfl,hz,he,q⟩:=h;obtain⟨t,rfl⟩:=rx;obtain⟨t',rfl⟩:=ry;obtain⟨j,h1,h2,h3,h4,h5⟩:=Zl6 he;have hl:z.cps.toList.length=z.length:=by simp[Str.length]
 rw[hl]at h1 h4 h5;have hn:=Zhz;exact tail_any (typeIs_str s z t) slot_str_getitem.lookup (getItem_str (c:=c) (by
  have e1:decide (i< -(2^63:Int))=YF:=YT (by omega);have e2:decide (i>=2^63)=YF:=YT (by omega);rw[e1,e2,Bool.or_false]) (by rw[h1];simpa using h2) ⟨.str ⟨#[c]⟩,H,I.tok _,⟨_,rfl⟩,q⟩) hs
def rIx(K:Xd):R2:=λx y H Q=>Ybs K x y H Q\/Yfm K x y H Q\/Yfu x y H Q
theorem Z7p:IxR X (rIx X.K):=Zur.or (Z7c.or Z7i)
theorem Zn2(its:List Xe)(n j:Nat)(u:Xe):BL (·.setIfInBounds j u) { cls:=.type "list",data:=.seq its.toArray n }={ cls:=.type "list",data:=.seq (its.set j u).toArray n }:=by
 simp[BL]
theorem Inv.lst{O:St}{p:YG}(I:Inv X pins O H s)(h:H p=YB (.lst xs)) :
  ∃(its:List Xe) (n:Nat),Vals xs its/\s.heap.get? p=YB { cls:=.type "list",data:=.seq its.toArray n }/\xs.length<=XC:=by
 obtain⟨z,its,n,r,e⟩:=I.hok p _ h;exact⟨its,n,r,e,z⟩
theorem Inv.lstUpd{O:St}{p:YG}{its its':List Xe}{n n':Nat}{f:Obj->Obj}(I:Inv X pins O H s)(h:H p=YB (.lst xs))
  (ho:s.heap.get? p=YB { cls:=.type "list",data:=.seq its.toArray n }) (hf:f { cls:=.type "list",data:=.seq its.toArray n }={ cls:=.type "list",data:=.seq its'.toArray n' }) (r:Vals ys its') (hz:ys.length<=XC) (t:Nat) :
  Inv X pins O (upd H p (.lst ys)) { s with heap:=s.heap.update p f,toks:=t }:=by
 have e:(s.heap.update p f).get? p=YB { cls:=.type "list",data:=.seq its'.toArray n' }:=by
  rw[Heap.get?_update_self f ho (by rw[hf]<;>rfl),hf]
 refine I.write (x:=p) (e:=p) (by rw[h];trivial) (.inl rfl) (λb u hb q=>(Heap.get?_update_other _ _ (Vu hb)).trans q) ⟨_,e⟩ ?_;exact⟨hz,its',n',r,e⟩
def Z1h:V->V->V->Hp->(Hp->Prop)->Prop:=λo i v H Q=>∃p xs k j,o= .ref p/\i= .int k/\H p=YB (.lst xs)/\ixN xs.length k=YB j/\Q (upd H p (.lst (xs.set j v)))
theorem set_list:Yha X Z1h:=by
 intro pins s O H o i v ov iv u Q I ro ri rv h;obtain⟨p,xs,k,j,rfl,rfl,hp,hj,q⟩:=h;cases ro;obtain⟨t,rfl⟩:=ri;obtain⟨its,n,r,ho,hz⟩:=I.lst hp;obtain⟨h1,h2,h3,h4⟩:=Zk1 hj;have hl:=r.length;have hn:=Zhz;have I':Inv X pins O (upd H p (.lst (xs.set j v))) { s with heap:=s.heap.update p (BL (·.setIfInBounds j u)) } :=
  I.lstUpd hp ho (Zn2 its n j u) (r.set rv j) (by rw[V3];exact hz) s.toks
 by_cases h0:0<=k
 .have hk:k.toNat=j:=by
   rw[seqIndex_of h0 h4]at h1;exact Qy h1
  exact PySem.W.ki_setAt ho h0 (by omega) (by rw[XQ,<-hl];exact h4) (by rw[hk];exact⟨_,I',q⟩)
 .have hk:(k+(its.toArray.size:Int)).toNat=j:=by
   rw[seqIndex_neg (by omega) h3]at h1;rw[XQ,<-hl];exact Qy h1
  exact PySem.W.ki_setBack ho (by omega) (by rw[XQ,<-hl];exact h3) (by omega) (by rw[hk];exact⟨_,I',q⟩)
theorem Zka(lo hi:Option Int)(n:Nat):(BZ lo hi YC n).1=((HT.sIx n 0 lo:Nat):Int)/\(BZ lo hi YC n).2.1=((HT.sIx n n hi:Nat):Int)/\(BZ lo hi YC n).2.2=1:=by
 refine⟨?_,?_,rfl⟩
 .cases lo with
  | none=>simp[BZ,HT.sIx]
  | some i=>
   simp only[BZ,HT.sIx,Option.getD_none,show(1:Int)>0 by decide,if_true]
   by_cases h:i<0
   .simp only[h,if_true]<;>omega
   .simp only[h,if_false]<;>omega
 .cases hi with
  | none=>simp[BZ,HT.sIx]
  | some i=>
   simp only[BZ,HT.sIx,Option.getD_none,show(1:Int)>0 by decide,if_true]
   by_cases h:i<0
   .simp only[h,if_true]<;>omega
   .simp only[h,if_false]<;>omega
theorem Zi5(its:List Xe)(lo hi:Option Int):slicePick its.toArray lo hi YC=((its.drop (HT.sIx its.length 0 lo)).take (HT.sIx its.length its.length hi-HT.sIx its.length 0 lo)).toArray:=by
 obtain⟨h1,h2,h3⟩:=Zka lo hi its.toArray.size;unfold slicePick;rw[h1,h2,h3];simp only[sliceRange_one,pick_run,XQ]<;>rfl
def Ygo(K:Xd):V->Option Int->Option Int->Hp->VK->Prop:=λx lo hi H Q=>∃a xs,x= .ref a/\SqL K H a xs/\∀p,H p=YC->Q (.ref p) (upd H p (.lst (Z4t xs lo hi)))
theorem Z13:SlR X (Ygo X.K):=by
 intro pins s O H x v vl vu lo hi sl Q I rx hs pl pu h;obtain⟨a,xs,rfl,hx,q⟩:=h;cases rx;obtain⟨its,r,ht,hz⟩:=I.list hx;have hlen:=r.length;refine⟨"list",_,slot_list_getitem.lookup,ht.isList.typeIs,?_⟩;refine wpAny_getItem_list_slice ht.isList hs pl pu .none (by simp) ?_ (by rw[XQ]<;>omega);rw[Zi5,<-hlen];refine⟨.ref s.heap.objs.size,_,I.laid (t':=s.toks) (o:=.lst (Z4t xs lo hi)) (λb ob q=>Xf _ q) (Xy _) ?_,rfl,q _ (I.hok.fresh (Xy _))⟩;exact⟨QM (Zmc xs lo hi) hz,_,0,(r.drop (HT.sIx xs.length 0 lo)).take (HT.sIx xs.length xs.length hi-HT.sIx xs.length 0 lo),XF _ rfl⟩
def Zgm:V->Bool
 | .non=>YD
 | .bl _=>YD
 | .int _=>YD
 | .str _=>YD
 | _=>YF
def eqV:V->V->Bool
 | .non,.non=>YD
 | .bl a,.bl b=>a==b
 | .bl a,.int b=>(if a then 1 else 0)==b
 | .int a,.bl b=>a==(if b then 1 else 0)
 | .int a,.int b=>a==b
 | .str a,.str b=>a==b
 | _,_=>YF
theorem Z5h{x:V}{v:Xe}(ry:RelV y u)(rx:RelV x v)(fy:Zgm y=YD)(fx:Zgm x=YD):Bu A s u v (eqV y x):=by
 cases y with
 | non=>
  cases ry;cases x with
  | non=>cases rx;exact Bu.same _
  | bl b=>cases rx;exact Bu.none_bool b
  | int b=>obtain⟨t,rfl⟩:=rx;exact Bu.none_int b t
  | str b=>obtain⟨t,rfl⟩:=rx;exact Bu.none_str b t
  | _=>exact YZ (show YF=YD from fx) Xx
 | bl a=>
  cases ry;cases x with
  | non=>cases rx;exact Bu.bool_none a
  | bl b=>cases rx;exact Bu.bool_bool a b
  | int b=>obtain⟨t,rfl⟩:=rx;exact Bu.bool_int a b t
  | str b=>obtain⟨t,rfl⟩:=rx;exact Bu.bool_str a b t
  | _=>exact YZ (show YF=YD from fx) Xx
 | int a=>
  obtain⟨t',rfl⟩:=ry;cases x with
  | non=>cases rx;exact Bu.int_none a t'
  | bl b=>cases rx;exact Bu.int_bool a t' b
  | int b=>obtain⟨t,rfl⟩:=rx;exact Bu.int_int a t' b t
  | str b=>obtain⟨t,rfl⟩:=rx;exact SeqAt.EqAt.int_str a t' b t
  | _=>exact YZ (show YF=YD from fx) Xx
 | str a=>
  obtain⟨t',rfl⟩:=ry;cases x with
  | non=>cases rx;exact Bu.str_none a t'
  | bl b=>cases rx;exact Bu.str_bool a t' b
  | int b=>obtain⟨t,rfl⟩:=rx;exact SeqAt.EqAt.str_int a t' b t
  | str b=>obtain⟨t,rfl⟩:=rx;exact Bu.str_str a t' b t
  | _=>exact YZ (show YF=YD from fx) Xx
 | _=>exact YZ (show YF=YD from fy) Xx
def eqU(x:V)(u:Xe):Bool:=match u with
 | .none=>eqV .non x
 | .bool b=>eqV (.bl b) x
 | .int i _=>eqV (.int i) x
 | .str z _=>eqV (.str z) x
 | _=>YF
theorem Zyy{x:V}(r:RelV y u)(f:Zgm y=YD):eqU x u=eqV y x:=by
 cases y with
 | non=>cases r;rfl
 | bl b=>cases r;rfl
 | int i=>obtain⟨t,rfl⟩:=r;rfl
 | str z=>obtain⟨t,rfl⟩:=r;rfl
 | _=>exact YZ (show YF=YD from f) Xx
theorem Ziq{x:V}(h:Vals xs us)(f:xs.all Zgm=YD):us.any (eqU x)=xs.any λy=>eqV y x:=by
 induction h with
 | nil=>rfl
 | cons r t ih=>
  rw[List.all_cons,X3]at f;rw[Ux,Ux,Zyy r f.1,ih f.2]
theorem Zfi{x:V}{v:Xe}(rx:RelV x v)(fx:Zgm x=YD)(h:Vals xs us)(f:xs.all Zgm=YD):∀u∈us,Bu A s u v (eqU x u):=by
 induction h with
 | nil=>intro u hu;cases hu
 | cons r t ih=>
  intro u' hu;rw[List.all_cons,X3]at f;rcases Xo.mp hu with rfl|hu
  .rw[Zyy r f.1];exact Z5h r rx f.1 fx
  .exact ih f.2 u' hu
def inV(x:V)(xs:List V):Bool:=xs.any λy=>eqV y x
def rIn(K:Xd)(neg:Bool):R2:=λx y H Q=>∃p xs,y= .ref p/\(SqL K H p xs\/SqT K H p xs)/\Zgm x=YD/\xs.all Zgm=YD/\Q (.bl (if neg then !inV x xs else inV x xs)) H
theorem Zru:OpR X (QH .In) (rIn X.K YF):=by
 intro pins s O H x y v u Q I rx ry h;obtain⟨p,xs,rfl,hq,fx,fs,q⟩:=h;cases ry;rcases hq with hq|hq
 .obtain⟨its,r,pl,hz⟩:=I.list hq
  refine SeqAt.in_listAt (eqU x) pl.isList (λw hw=>Zfi rx fx r fs w (by simpa using hw)) ⟨.bl _,H,I,rfl,?_⟩;rw[show its.toArray.any (eqU x)=its.any (eqU x) by simp,Ziq r fs];exact q
 .obtain⟨its,r,pl,hz⟩:=I.tuple hq
  refine SeqAt.in_tupleAt (eqU x) pl (λw hw=>Zfi rx fx r fs w (by simpa using hw)) ⟨.bl _,H,I,rfl,?_⟩;rw[show its.toArray.any (eqU x)=its.any (eqU x) by simp,Ziq r fs];exact q
theorem Zkv:OpR X (QH .NotIn) (rIn X.K YD):=by
 intro pins s O H x y v u Q I rx ry h;obtain⟨p,xs,rfl,hq,fx,fs,q⟩:=h;cases ry;rcases hq with hq|hq
 .obtain⟨its,r,pl,hz⟩:=I.list hq
  refine SeqAt.notIn_listAt (eqU x) pl.isList (λw hw=>Zfi rx fx r fs w (by simpa using hw)) ⟨.bl _,H,I,rfl,?_⟩;rw[show its.toArray.any (eqU x)=its.any (eqU x) by simp,Ziq r fs];exact q
 .obtain⟨its,r,pl,hz⟩:=I.tuple hq
  refine SeqAt.notIn_tupleAt (eqU x) pl (λw hw=>Zfi rx fx r fs w (by simpa using hw)) ⟨.bl _,H,I,rfl,?_⟩;rw[show its.toArray.any (eqU x)=its.any (eqU x) by simp,Ziq r fs];exact q
theorem Zkx:Zbm X (.builtin "len") (λxs H Q=>∃p ys,xs=[.ref p]/\(SqL X.K H p ys\/SqT X.K H p ys)/\Q (.int ys.length) H):=by
 intro pins s O H xs us Q I r h;obtain⟨p,ys,rfl,hq,q⟩:=h;obtain⟨u,rfl,rx⟩:=vals1 r;cases rx;have hn:=Zhz;rcases hq with hq|hq
 .obtain⟨its,r',pl,hz⟩:=I.list hq
  have hlen:=r'.length;exact Calls.call_len_list pl.isList (by simp only[XQ]<;>omega) ⟨.int ys.length,H,I.tok _,⟨s.toks+1,by rw[XQ,hlen]⟩,q⟩
 .obtain⟨its,r',pl,hz⟩:=I.tuple hq
  have hlen:=r'.length;exact len_tuple pl (by simp only[XQ]<;>omega) ⟨.int ys.length,H,I.tok _,⟨s.toks+1,by rw[XQ,hlen]⟩,q⟩
theorem Zjf:Zbm X (.type "list") (λxs H Q=>∃p ys,xs=[.ref p]/\(SqL X.K H p ys\/SqT X.K H p ys)/\∀l,H l=YC->Q (.ref l) (upd H l (.lst ys))):=by
 intro pins s O H xs us Q I r h;obtain⟨p,ys,rfl,hq,q⟩:=h;obtain⟨u,rfl,rx⟩:=vals1 r;cases rx;have fin:∀(its:List Xe),Vals ys its->ys.length<=XC->∀(h':YH) (c':Nat),(∀b o',s.heap.get? b=YB o'->h'.get? b=YB o') ->
   h'.get? s.heap.objs.size=YB { cls:=.type "list",dict:=YC,data:=.seq its.toArray c',slots:=#[] }->EP X pins O Q (.ref s.heap.objs.size) { s with heap:=h' }:=λits r' hz h' c' kp e=>
  ⟨.ref s.heap.objs.size,_,I.laid (t':=s.toks) kp (Xy _) (show ObjOk X.prog X.w _ h' _ (.lst ys)from⟨hz,its,c',r',e⟩),rfl,q _ (I.hok.fresh (Xy _))⟩
 rcases hq with hq|hq
 .obtain⟨its,r',pl,hz⟩:=I.list hq
  have hlen:=r'.length;obtain⟨o,ho,hc,n,hd⟩:=pl.isList;exact call_list_seq p (.inl rfl) ho hc hd (λh' c' kp e=>fin its r' hz h' c' kp e) (by simp only[XQ]<;>omega)
 .obtain⟨its,r',pl,hz⟩:=I.tuple hq
  have hlen:=r'.length;obtain⟨o,ho,hc,n,hd⟩:=pl;exact call_list_seq p (.inr rfl) ho hc hd (λh' c' kp e=>fin its r' hz h' c' kp e) (by simp only[XQ]<;>omega)
def tyV(K:Xd)(T:String)(x:V)(H:Hp):Prop:=match x with
 | .str _=>T="str"
 | .int _=>T="int"
 | .ref p=>(T="list"/\∃xs,SqL K H p xs)\/(T="tuple"/\∃o,K.lookup p=YB o/\o.cls= .type "tuple"/\o.dict=YC)\/
   (T="dict"/\((∃kvs,H p=YB (.dK kvs))\/∃kvs,H p=YB (.dT kvs)))\/(T="set"/\∃S n,H p=YB (.set S n))
 | _=>False
theorem Z5i{O:St}{T:String}{x:V}{v:Xe}(I:Inv X pins O H s)(r:RelV x v)(ty:tyV X.K T x H) :
  s.TypeIs v T/\∀a,v= .ref a->∃ob,s.heap.get? a=YB ob/\ob.dict=YC:=by
 cases x with
 | str z=>
  obtain⟨t,rfl⟩:=r;cases(show T="str"from ty);exact⟨typeIs_str s z t,λ_ e=>nomatch e⟩
 | int i=>
  obtain⟨t,rfl⟩:=r;cases(show T="int"from ty);exact⟨typeIs_int s i t,λ_ e=>nomatch e⟩
 | ref p=>
  cases r;rcases ty with⟨rfl,xs,hq⟩|⟨rfl,o,hk,hc,hd⟩|⟨rfl,hk⟩|⟨rfl,S,n,hk⟩
  .obtain⟨its,_,pl,_⟩:=I.list hq
   refine⟨pl.isList.typeIs,λa e=>?_⟩;cases e;obtain⟨o,n,e,c,hd,_⟩:=pl;exact⟨o,e,hd⟩
  .refine⟨⟨o,I.kIn p o hk,hc⟩,λa e=>?_⟩
   cases e;exact⟨o,I.kIn _ o hk,hd⟩
  .have z:∃o,s.heap.get? p=YB o/\o.ExactDict:=by
    rcases hk with⟨kvs,hk⟩|⟨kvs,hk⟩
    .obtain⟨_,_,_,_,o,_,_,e,ex,_⟩:=I.hok p _ hk
     exact⟨o,e,ex⟩
    .obtain⟨_,_,_,_,o,_,_,e,ex,_⟩:=I.hok p _ hk
     exact⟨o,e,ex⟩
   obtain⟨o,e,ex⟩:=z;refine⟨⟨o,e,ex.1⟩,λa e2=>?_⟩;cases e2;exact⟨o,e,ex.2.1⟩
  .obtain⟨o,_,_,_,e,ex,_⟩:=I.hok p _ hk
   refine⟨⟨o,e,ex.1⟩,λa e2=>?_⟩;cases e2;exact⟨o,e,ex.2.1⟩
 | _=>exact Ug ty
def tBM(K:Xd)(T:String)(r:V->List V->Hp->VK->Prop)(to:TE)(t:TA):TE:=λO H Q=>to O H λx H1=>tyV K T x H1/\t O H1 λxs H2=>r x xs H2 Q
variable {o:YJ}{t:TA}{T:String}{r:V->List V->Hp->VK->Prop}
theorem Zt0(pa:PlainAttrs T)(slot:Slot T name id)(hty:typeOf (.builtin id)=pure (.type "method_descriptor"))(hm:MtR X id r)(ho:PE X o to)(ha:PA X (e::es) t)
  (hbase:Ui o name X.env (eval o X.env)=eval o X.env:=by rfl)
  (hfew:((JF cpos (Xu (e::es) X.env)).all (λx=>!x.1)&&(backToKw cpos (U9 [] X.env)).all (λx=>x.1.isSome)
   &&decide ((e::es).length+([]:List Ua).length+(if([]:List Ua).isEmpty then 0 else 1)<30))=YD:=by rfl)
  (hline:(apos.endLine==cpos.line)=YD:=by rfl) (hs:Xu (e::es) X.env=(YF,eval e X.env)::Xu es X.env:=by rfl) (hplain:(JF cpos (Xu es X.env)).any (·.1)=YF:=by rfl) :
  PE X (.Call (.Attribute o name apos) (e::es) [] cpos) (tBM X.K T r to t):=by
 intro pins s O H Q I h;refine wpAny_Call_method_late hbase hfew hline rfl (thn (ho pins s O H _ I h) λv s1 qz9=>?_);obtain⟨x,H1,I1,r1,ty,q1⟩:=qz9;obtain⟨h1,h2⟩:=Z5i I1 r1 ty;refine⟨T,id,pa,slot,hty,h1,h2,?_⟩;have hA:=ha cpos pins s1 O H1 _ I1 q1;rw[hs]at hA|-
 refine Calls.callWith_builtin (by show(YF||(JF cpos (Xu es X.env)).any (·.1))=YF;rw[hplain]<;>rfl) (Calls.evalArgs_plain ?_);refine thn hA λus s2 qz9=>?_;obtain⟨vs,H2,I2,r2,q2⟩:=qz9;exact hm pins s2 O H2 x vs v us Q I2 r1 r2 q2
end
def MtM(X:Cx)(id:String)(r:V->List V->Hp->VK->Prop):Prop :=
 ∀(pins:List (YG×Obj)) (s:Xg) (O:St) (H:Hp) (x:V) (xs:List V) (v:Xe) (us:List Xe) (Q:VK),Inv X pins O H s->RelV x v->Vals xs us->r x xs H Q ->
  XJ (X8 X.prog X.w) X.A (call (.builtin id) (v::us)) (EP X pins O Q) X.xe s
theorem Vals.one{x:V}(h:Vals [x] us):∃u,us=[u]/\RelV x u:=by
 cases h with
 | cons r t=>cases t;exact⟨_,rfl,r⟩
theorem Vals.zero:∀{us:List Xe},Vals [] us->us=[]
 | _,.nil=>rfl
theorem Vals.eraseIdx:∀{xs:List V} {us:List Xe} (i:Nat),Vals xs us->Vals (xs.eraseIdx i) (us.eraseIdx i)
 | _,_,_,.nil=>.nil
 | _,_,0,.cons _ t=>t
 | _,_,i+1,.cons r t=>.cons r (Vals.eraseIdx i t)
theorem Vals.rep(h:Vals xs us):∀k:Nat,Vals (Qi k xs).flatten (Qi k us).flatten
 | 0=>.nil
 | k+1=>by
  rw[VL,VL,UW,UW];exact Vals.append h (Vals.rep h k)
theorem Zjp:∀(l:List α) (i:Nat),(l.eraseIdx i).length<=l.length
 | [],_=>Xy _
 | _::_,0=>UL _
 | _::r,i+1=>VM (Zjp r i)
theorem foldl_rep(its:List Xe):∀(k:Nat) (acc:List Xe),
  List.foldl (λx1 x2=>x1++x2) acc.toArray (Qi k its.toArray)=(acc++(Qi k its).flatten).toArray
 | 0,acc=>by simp
 | k+1,acc=>by
  have e:acc.toArray++its.toArray=(acc++its).toArray:=by simp
  have e2:(acc++its)++(Qi k its).flatten=acc++(Qi (k+1) its).flatten:=by
   rw[VL,UW,QV]
  rw[<-e2,<-foldl_rep its k (acc++its),<-e,VL,List.foldl_cons]
section
variable {O:St}{l b:YG}{zs:List V}
theorem Inv.lset{its its':List Xe}{n:Nat}{f:Array Xe->Array Xe}(I:Inv X pins O H s)(hH:H l=YB (.lst xs))
  (e:s.heap.get? l=YB { cls:=.type "list",data:=.seq its.toArray n }) (hf:f its.toArray=its'.toArray) (hv:Vals ys its') (hz:ys.length<=XC) :
  Inv X pins O (upd H l (.lst ys)) { s with heap:=s.heap.update l (BL f),toks:=t' }:=by
 have q:=PySem.IsL.update e f;rw[hf]at q;refine I.write (x:=l) (e:=l) (by rw[hH];exact trivial) (.inl rfl) (λb' u hb hu=>(Heap.get?_update_other s.heap (BL f) (Vu hb)).trans hu) ⟨_,q⟩ ?_;exact⟨hz,its',_,hv,q⟩
theorem Inv.lnew{its:List Xe}(I:Inv X pins O H s)(hv:Vals ys its)(hz:ys.length<=XC) :
  Inv X pins O (upd H s.heap.objs.size (.lst ys)) { s with heap:=s.heap.push { cls:=.type "list",data:=.seq its.toArray },toks:=t' } :=
 I.laid (λ_ _ q=>Xf _ q) (Xy _) ⟨hz,its,0,hv,XF _ rfl⟩
theorem Inv.fresh(I:Inv X pins O H s):H s.heap.objs.size=YC:=I.hok.fresh (Xy _)
theorem Inv.lstM(I:Inv X pins O H s)(hH:H l=YB (.lst xs)):xs.length<=XC/\∃(its:List Xe) (n:Nat),Vals xs its/\xs.length=its.length/\s.heap.get? l=YB { cls:=.type "list",data:=.seq its.toArray n }:=by
 obtain⟨z,its,n,r,e⟩:=I.hok l _ hH;exact⟨z,its,n,r,r.length,e⟩
theorem Zv2{n:Nat}(h:n<=XC):Builtin.List.listTooLong n=YF:=by
 unfold Builtin.List.listTooLong;exact YT (by omega)
end
def Z3o:V->List V->Hp->VK->Prop:=λx vs H Q=>∃l xs y,x= .ref l/\vs=[y]/\H l=YB (.lst xs)/\xs.length<XC/\Q .non (upd H l (.lst (xs++[y])))
theorem Zc8:MtM X "list.append" Z3o:=by
 intro pins s O H x vs v us Q I rx rv h;obtain⟨l,xs,y,rfl,rfl,hH,hz,q⟩:=h;cases rx;obtain⟨u,rfl,ru⟩:=rv.one;obtain⟨z,its,n,r,hl,e⟩:=I.lstM hH;refine call_meets F.slot_list_append ⟨_,e,rfl⟩ F.entry_list_append (F.args_list_append_2 _ _) (PySem.list_append l its.toArray n u (by rw[XQ];omega)) ⟨e,?_⟩;refine⟨.non,_,I.lset (its':=its++[u]) hH e (by simp) (r.append (.cons ru .nil)) ?_,rfl,q⟩;rw[XX,List.length_singleton];omega
def Z41:V->List V->Hp->VK->Prop:=λx vs H Q=>∃l xs i k y,x= .ref l/\vs=[.int i]/\H l=YB (.lst xs)/\-(2^63)<=i/\i<2^63/\seqIndex? i xs.length=YB k/\xs[k]? =YB y/\Q y (upd H l (.lst (xs.eraseIdx k)))
theorem Zwf:MtM X "list.pop" Z41:=by
 intro pins s O H x vs v us Q I rx rv h;obtain⟨l,xs,i,k,y,rfl,rfl,hH,h1,h2,hk,hy,q⟩:=h;cases rx;obtain⟨u,rfl,ru⟩:=rv.one;obtain⟨t,rfl⟩:=ru;obtain⟨z,its,n,r,hl,e⟩:=I.lstM hH;obtain⟨w,hw,rw'⟩:=r.get hy;refine call_meets F.slot_list_pop ⟨_,e,rfl⟩ F.entry_list_pop (F.args_list_pop_2 _ _)
  (MeetsSeq.list_pop_at l its.toArray n i t k w (fitsIndex_both h1 h2) (by rw[XQ,<-hl];exact hk) (by rw[<-Qd];exact hw) (by rw[XQ];omega)) ⟨e,?_⟩
 refine⟨y,_,I.lset (its':=its.eraseIdx k) hH e ?_ (r.eraseIdx k) ?_,rw',q⟩
 .show its.toArray.eraseIdxIfInBounds k=(its.eraseIdx k).toArray
  rw[List.eraseIdxIfInBounds_toArray]
 .have:=Zjp xs k
  omega
def Yhc:R2:=λx y H Q=>∃l k xs,x= .ref l/\y= .int k/\H l=YB (.lst xs)/\-(2^63)<=k/\k<2^63/\xs.length*k.toNat<=XC/\
 ∀p,H p=YC->Q (.ref p) (upd H p (.lst (Qi k.toNat xs).flatten))
theorem len_rep(xs:List α)(k:Nat):(Qi k xs).flatten.length=k*xs.length:=by
 induction k with
 | zero=>simp
 | succ k ih=>rw[VL,UW,XX,ih,Nat.succ_mul,Nat.add_comm]
theorem Z8y:OpR X (V0 .Mult) Yhc:=by
 intro pins s O H x y v u Q I rx ry h;obtain⟨l,k,xs,rfl,rfl,hH,h1,h2,hz,q⟩:=h;cases rx;obtain⟨t,rfl⟩:=ry;obtain⟨z,its,n,r,hl,e⟩:=I.lstM hH;have hlen:its.toArray.size*k.toNat<=XC:=by rw[XQ,<-hl];exact hz
 have hcap:¬its.toArray.size*k.toNat>(2^63-1)/8:=by
  have:(XC:Nat)<=(2^63-1)/8:=by decide
  omega
 have hfit:¬(!By.List.listFitsIndex k)=YD:=by
  rw[fitsIndex_both h1 h2];exact Xx
 have hlong:¬Builtin.List.listTooLong (its.toArray.size*k.toNat)=YD:=by
  rw[Zv2 hlen];exact Xx
 have hnew:List.foldl (λx1 x2=>x1++x2) #[] (Qi (if its.toArray.isEmpty=YD then 0 else k.toNat) its.toArray)=(Qi k.toNat its).flatten.toArray:=by
  have f0:∀m:Nat,List.foldl (λx1 x2=>x1++x2) #[] (Qi m its.toArray)=(Qi m its).flatten.toArray:=λm=>by
   have:=foldl_rep its m [];rw[List.nil_append]at this;exact this
  rw[f0];cases its with
  | nil=>simp
  | cons a r'=>rw[YQ (by simp)]
 refine wpAny_binaryOp_repeat_ref (T :="list") (U :="int") (by decide) ⟨_,e,rfl⟩ (λs'=>typeIs_int s' k t) noFill_list_mul F.fills_int_mul F.slot_int_rmul repeat_list F.slot_int_index.lookup
  (call_meets F.slot_int_rmul (typeIs_int s k t) F.entry_int_rmul (F.args_int_rmul_2 _ _) (int___rmul___int_list k t l its.toArray n)
   ⟨e,rfl,⟨_,e,rfl⟩,call_meets F.slot_list_mul ⟨_,e,rfl⟩ F.entry_list_mul (F.args_list_mul_2 _ _) (AutoListH.list___mul___list_int_3 l its.toArray n k t hfit hcap hlong) ⟨e,?_⟩⟩)
 rw[hnew];exact⟨.ref _,_,I.lnew (t':=s.toks) (r.rep k.toNat) (by rw[len_rep,Nat.mul_comm];exact hz),rfl,q _ I.fresh⟩
end L2
namespace Att
open PySem PySem.W PySem.Calls PyProof.Rows
theorem Zga{P:Params}:∀(ns:List Int) (vs:List Xe),WellAll P h vs (ns.map WData.int)->Vk vs ns:=by
 intro ns
 induction ns with
 | nil=>
  intro vs w;rw[List.map_nil]at w;cases w;exact .nil
 | cons n ns ih=>
  intro vs w;rw[X4]at w;cases w with
  | cons a b=>
   cases a;exact .cons _ _ (ih _ b)
theorem Zsh{l:OpenLaw}{n:Nat}(hn:l.most=YB n){P:Params}{args:List WData}{vals:List Xe}
  (hpre:l.row.toRowW.claim.pre args=YD) (hwl:WellAll P h vals args) :
  ∃a vs ns,vals=[Xz a]/\args=[WData.list (ns.map WData.int)]/\h.get? a=YB { cls:=.type "list",data:=.seq vs.toArray }/\Vk vs ns/\ns.length<=n:=by
 have hsh:WShape.hasAll [] args [.list .int]=YD:=(pre_splitW hpre).1;have hc:l.pre.holds [] { args:=args }=YD:=(pre_splitW hpre).2;obtain⟨d,r,rfl,h1,h2⟩:=hasAllW_cons hsh;obtain rfl:=hasAllW_nil h2;obtain⟨xs,rfl,h3⟩:=hasW_list h1;obtain⟨ns,rfl⟩:=items_int h3;have hlen:ns.length<=n:=by
  unfold OpenLaw.pre at hc;have h4:(WTm.not (.lt (.lit (.int (n:Int))) (.len (.arg 0)))).holds [] { args:=[.list (ns.map .int)] }=YD:=by
   have h4:=(holds_andW hc).1;rw[hn]at h4;exact h4
  have h5:=condW_of h4 (w_not (w_lt w_lit (w_len_list (w_arg rfl))));rw[Xc]at h5;refine Nat.le_of_not_lt λq=>?_;have q':(n:Int)<((ns.length:Nat):Int):=by omega
  first
   | (rw[YS q']at h5;exact YZ h5 (by decide))
   | (simp at h5;omega)
 cases hwl with
 | cons w1 w2=>
  cases w2;cases w1 with
  | list ho hall=>exact⟨_,_,ns,rfl,rfl,ho,Zga ns _ hall,hlen⟩
theorem Zsm(l:OpenLaw)(args:List WData):l.row.toRowW.claim.post args (.bool YD) args=YD :=
 postW_of (r:=l.row.toRowW) (X:=(YD==YD))
  (show WShape.has [] (.bool YD) .bool=YD by first|rfl|decide|simp[WShape.has,WShape.arms,WShape.armsAll])
  (show(WTm.eq .res (.lit (.bool YD))).value [] { args:=args,res:=YB (.bool YD),after:=args }=YB (.bool (YD==YD))from w_eq_bool (w_res rfl) w_lit) rfl
theorem attach_call{l:OpenLaw}{n:Nat}{q:Qa}{loose:List Str}{XP:(Str->Option Xe)->YH->Prop}{YP:Qo->YH->Prop}{d:DefRec}
  (hn:l.most=YB n) (hdf:d.params.defaults=[])
  (call:∀(w:Qo) (s₀ s₁:Xg) (mg mb:Str->Option Xe) (fa:YG) (o:Obj) (pm cd doc:Xe) (a:YG) (vs:List Xe) (ns:List Int),
   Ground q loose [] XP w s₀ mg mb s₁.heap->YP w s₁.heap ->
   s₁.heap.get? fa=YB o->o.data= .func (docDef d.name d.params d.body d.scope pm cd doc)->s₁.heap.CodeRec cd d.name->mg d.name=YB (.ref fa) ->
   s₁.heap.get? a=YB { cls:=.type "list",data:=.seq vs.toArray }->Vk vs ns->ns.length<=n->s₁.gens=#[] ->
   codeAny (X8 l.prog w) callerA (.call (.ref fa) ⟨[.ref a],[]⟩) (λr s'=>r= .ok (.ret (.bool YD))/\OldK s₁.heap s'.heap/\s'.os=s₁.os/\AllBare s'.gens) s₁) :
  WalkO q loose XP YP l.row.toRowW d [] (λf vs=>PySem.call f vs):=by
 intro w s₀ s₁ mg mb G Y fa o pm cd doc dV kV ho hd hcd hD hmg hg args vals as hpre hlay hrd hwl hlo;obtain rfl:dV= .none:=Dflts.none hD hdf;obtain rfl:kV= .none:=Dflts.noKw hD;obtain⟨a,vs,ns,rfl,rfl,hobj,hints,hlen⟩:=Zsh hn hpre hwl;refine enter_call (codeAny_mono (call w s₀ s₁ mg mb fa o pm cd doc a vs ns G Y ho (fd_plain hd) hcd hmg hobj hints hlen hg) λr s' hq=>?_);obtain⟨rfl,h2,h3,h4⟩:=hq;exact⟨.inl ⟨.bool YD,.bool YD,[],rfl,λ_=>rfl,.bool YD,Zsm l _,λ_=>⟨List.Pairwise.nil,λ_ hm=>(nomatch hm)⟩⟩,h2,h3,h4⟩
section
variable {K:Frag}
end
end Att
namespace L2
open PySem PySem.Spec PyProof.Rows
theorem Zq7{ns:List Int}(h:Vk vs ns):Vals (ns.map V.int) vs:=by
 induction h with
 | nil=>exact .nil
 | cons n t h ih=>exact .cons ⟨t,rfl⟩ ih
def Only(H:Hp):Prop:=∀b,H b=YC\/∃o xs,H b=YB (.frz o (.lst xs))
theorem Zu2{mb:Str->Option Xe}{k:Nat}{fa:YG}{fd:Qp}{s₁:Xg}{ns:List Int}
  (KX:K.In s₁.heap) (hns:s₁.heap.Ns Ql mg) (hb:s₁.heap.Ns builtinsNs mb) (hbb:∀x:Str,x≠"__name__" ->mb x=Qe x) (hlim:s₁.heap.NoLimit) (hg:s₁.gens=#[])
  (ha:s₁.heap.get? a=YB { cls:=.type "list",data:=.seq vs.toArray }) (hi:Vk vs ns) (hl:ns.length<=XC) (hr:Room k callerA)
  (F:∀base:YH,K.In base->base.Ns Ql mg->FnOk P w K mg base CX k fa fd [x] sp) (hbind:∀(s:Xg) (u:Xe),BindsTo s fd ⟨[u],[]⟩ [(x,u)])
  (hsp:∀H:Hp,Only H->SqL K H a (ns.map V.int)->sp [.ref a] H (λv _=>v= .bl YD) λ_ _ _=>False)
  (hCX:∀H e s',CX [] H s₁ (λ_ _ _=>False) e s'->False) :
  codeAny (X8 P w) callerA (.call (.ref fa) ⟨[.ref a],[]⟩) (λr s'=>r= .ok (.ret (.bool YD))/\OldK s₁.heap s'.heap/\s'.os=s₁.os/\AllBare s'.gens) s₁:=by
 have rv:=Zq7 hi;have lenV:=hi.length
 -- from an abstract heap in which nothing but the script may be tracked
 have core:∀H:Hp,Only H->SqL K H a (ns.map V.int)->HOk P w H s₁.heap->(∀b,H b≠YC->b=a)->(H a≠YC->K.lookup a=YC) ->
   codeAny (X8 P w) callerA (.call (.ref fa) ⟨[.ref a],[]⟩) (λr s'=>r= .ok (.ret (.bool YD))/\OldK s₁.heap s'.heap/\s'.os=s₁.os/\AllBare s'.gens) s₁:=by
  intro H hO hS hok hA hK;have base_of:∀{b:YG} {o:Obj},s₁.heap.get? b=YB o->H b=YC->(Zwv s₁.heap H).get? b=YB o:=λe n=>Zv1 e n;have noA:∀{b:YG} {o:Obj} {es:Array DictEntry} {ep:Nat},s₁.heap.get? b=YB o->o.data= .dict es ep->H b=YC:=fun{b o es ep} e d=>by
   cases q:H b with
   | none=>rfl
   | some u=>
    have e':b=a:=hA b (by rw[q];simp);subst e';rw[ha]at e;cases e;have d':Data.seq vs.toArray _=Data.dict es ep:=d;cases d'
  have nsK:∀{b:YG} {m:Str->Option Xe},s₁.heap.Ns b m->(Zwv s₁.heap H).Ns b m:=fun{b m} ⟨o,es,ep,e,d,r⟩=>⟨o,es,ep,base_of e (noA e d),d,r⟩;have hKb:K.In (Zwv s₁.heap H):=λb o e=>base_of (KX b o e) (by
   cases q:H b with
   | none=>rfl
   | some u=>
    have e':b=a:=hA b (by rw[q];simp);subst e';rw[hK (by rw[q];simp)]at e;cases e)
  have hM:Mod K mg (Zwv s₁.heap H):=⟨hKb,nsK hns,⟨mb,nsK hb,hbb⟩,let⟨mc,h1,h2⟩:=hlim;⟨mc,nsK h1,h2⟩⟩;have e0:Ybg P w K mg (Zwv s₁.heap H) callerA [] s₁ H:=⟨rfl,hM,λb o e=>Z3n e,Nat.le_of_eq (Ztb _ _),trivial,λb hb=>YZ (show b∈([]:List YG)from hb) (by simp),hok,.of_eq hg⟩;refine codeAny_mono ((F _ hKb (nsK hns)).run callerA [] s₁ H ⟨[.ref a],[]⟩ [.ref a] [.ref a] _ _ hr e0 (hbind s₁ (.ref a)) (.cons rfl .nil) (hsp H hO hS)) λr s' h=>?_;cases r with
  | error e=>exact(hCX H e s' h).elim
  | ok fl=>
   cases fl with
   | next=>exact Ug h
   | brk=>exact Ug h
   | cont=>exact Ug h
   | ret u=>
    obtain⟨v,H',os,bare,un,hok',r',q⟩:=h;have q':v= .bl YD:=q;subst q';obtain rfl:u=Value.bool YD:=r';refine⟨rfl,OldK.of_keep λb o e=>?_,os,bare⟩;cases q:H b with
    | none=>exact un.keep b o e q (by intro z;exact YZ (show b∈([]:List YG)from z) (by simp)) (by simp)
    | some u=>
     rcases hO b with z|⟨ob,xs,z⟩
     .rw[q]at z;cases z
     .have z2:=un.frzs b ob _ z
      obtain⟨e1,_⟩:=hok b _ z;obtain⟨e2,_⟩:=hok' b _ z2;rw[e]at e1;cases e1;exact e2
 cases hk:K.lookup a with
 | some o=>
  -- the script is one of the module's own objects
  have e:=KX a o hk;rw[ha]at e;cases e;refine core (λ_=>YC) (λ_=>.inl rfl) (.inr ⟨_,vs.toArray,_,hk,rfl,rfl,rfl,by rw[XQ,lenV];exact hl,by simpa using rv⟩) (λb u z=>by have z':(YC:Option HO)=YB u:=z;cases z') (λb z=>YZ rfl z) λz=>YZ rfl z
 | none=>
  refine core (λb=>if b=a then YB (.frz { cls:=.type "list",data:=.seq vs.toArray } (.lst (ns.map V.int)))else YC) (λb=>?_) (.inl (.inr ⟨{ cls:=.type "list",data:=.seq vs.toArray },YM rfl⟩)) (λb u z=>?_) (λb z=>?_) λ_=>hk
  .by_cases hb:b=a
   .exact .inr ⟨_,_,YM hb⟩
   .exact .inl (YQ hb)
  .by_cases hb:b=a
   .have z':=(YM hb).symm.trans z
    cases z';subst hb;exact⟨ha,by rw[Xc];exact hl,vs,_,rv,ha⟩
   .have z':=(YQ hb).symm.trans z
    cases z'
  .by_cases hb:b=a
   .exact hb
   .exact YZ (YQ hb) z
abbrev KOf(_:K.In h):Xd:=K
theorem Z4g{l:PySem.W.OpenLaw}{n k:Nat}{q:Qa}{loose:List Str}{XP:(Str->Option Xe)->YH->Prop}{YP:Qo->YH->Prop}{d:DefRec}{K:Params->Xd}{CX:Qo->CXT}{sp:Qo->Sp}
  (hn:l.most=YB n) (hn2:n<=XC) (hdf:d.params.defaults=[]) (hr:Room k callerA)
  (hY:∀(w:Qo) (h:YH),YP w h->(K w.params).In h)
  (F:∀(w:Qo) (mg:Str->Option Xe) (fa:YG) (h:YH),(K w.params).In h->h.Ns Ql mg->mg d.name=YB (.ref fa) ->
   ∃fd:Qp,(∀(s:Xg) (u:Xe),BindsTo s fd ⟨[u],[]⟩ [(x,u)])/\
    ∀base:YH,(K w.params).In base->base.Ns Ql mg->FnOk l.prog w (K w.params) mg base (CX w) k fa fd [x] (sp w))
  (hsp:∀(w:Qo) (H:Hp) (a:YG) (ns:List Int),ns.length<=n->Only H->SqL (K w.params) H a (ns.map V.int)->sp w [.ref a] H (λv _=>v= .bl YD) λ_ _ _=>False)
  (hCX:∀(w:Qo) (H:Hp) (s:Xg) (e:Xe) (s':Xg),CX w [] H s (λ_ _ _=>False) e s'->False) :
  PySem.W.WalkO q loose XP YP l.row.toRowW d [] (λf vs=>PySem.call f vs):=by
 refine Att.attach_call hn hdf λw s₀ s₁ mg mb fa o pm cd doc a vs ns G Y ho hd hcd hmg hobj hints hlen hg=>?_;have KX:=hY w _ Y;obtain⟨fd,hb,hF⟩:=F w mg fa _ KX G.T.g hmg;exact Zu2 KX G.T.g G.T.b G.T.builtins G.T.nolimit hg hobj hints (QM hlen hn2) hr hF hb (λH hO hS=>hsp w H a ns hlen hO hS) λH e s'=>hCX w H s₁ e s'
def Zdx(s:YK):Arguments:=match s with
 | .FunctionDef _ a _ _ _ _ _ _ _ _=>a
 | _=>{ posonlyargs:=[],args:=[],vararg:=YC,kwonlyargs:=[],kw_defaults:=[],kwarg:=YC,defaults:=[] }
def Za3(s:YK):List YK:=match s with
 | .FunctionDef _ _ b _ _ _ _ _ _ _=>b
 | _=>[]
def Zk(s:YK):YL:=match s with
 | .FunctionDef _ _ _ _ _ _ sc _ _ _=>sc
 | _=>{ kind:=.function,names:=[],isGenerator:=YF,isCoroutine:=YF }
abbrev CX0:CXT:=λ_ _ _ _ _ _=>False
abbrev E0:XK:=λ_ _ _=>False
theorem Ydz:Zme CX0 X E0:=λ_ _ _ _ _ _ _ h=>h.elim
structure Fun(K:Xd)(x qual:Str)(st:YK)(f:YG)(fd:Qp):Prop where
 ex:∃(oc:Xe) (od:Option YG) (kV doc pm:Xe) (an:Option YG) (cdv ct:Xe) (osl:Array (Option Xe)),
  fd=Ue x qual (Zdx st) (Za3 st) (Zk st) .none kV doc pm an cdv ct/\K.lookup f=YB ⟨oc,od,.func fd,osl⟩/\PySem.W.codeIn K cdv qual=YD
 kp:V8 K (.ref f)=YD
section
variable {base:YH}
theorem Fun.ok{f:YG}{fd:Qp}{k:Nat}(F:Fun K x qual st f fd)(S:Zy N ps (Zk st))(len:∀vs H Q E,sp vs H Q E->vs.length=ps.length)
  (hbody:∀(cdv:Xe) (A:Qv) (outer:List Env) (s:Xg) (H:Hp) (vs:List V) (Q:VK) (E:XK),Room k (A.deeper (envOfC qual (Zk st) s.heap.objs.size f cdv))->sp vs H Q E ->
   ∃t,PSs (Zx5 CX0 P w K mg base N qual (Zk st) f cdv A outer s H E).nox (Za3 st) t/\t { nx:=λ_ H'=>Q .non H',rt:=Q } (start N vs) H):FnOk P w K mg base CX0 (k+1) f fd ps sp:=by
 obtain⟨oc,od,kV,doc,pm,an,cdv,ct,osl,rfl,lk,hcd⟩:=F.ex;refine Yb1 lk hcd S len λA outer s H vs Q E hr hsp=>?_;obtain⟨t,h,q⟩:=hbody cdv A outer s H vs Q E hr hsp;exact⟨t,h.nox,q⟩
theorem Fun.binds{f:YG}{fd:Qp}(F:Fun K x qual st f fd)
  (h:∀(kV doc pm:Xe) (an:Option YG) (cdv ct:Xe) (us:List Xe),us.length=ps.length->bindArgs (Ue x qual (Zdx st) (Za3 st) (Zk st) .none kV doc pm an cdv ct) ⟨us,[]⟩=pure (ps.zip us)):Binds K fd ps []:=by
 obtain⟨oc,od,kV,doc,pm,an,cdv,ct,osl,rfl,lk,hcd⟩:=F.ex;exact .all (h kV doc pm an cdv ct)
theorem Z55{f:YG}{oc:Xe}{od an:Option YG}{osl:Array (Option Xe)}{kV doc pm cdv ct:Xe}(l:K.lookup f=YB ⟨oc,od,.func (Ue x qual (Zdx st) (Za3 st) (Zk st) .none kV doc pm an cdv ct),osl⟩)
  (c:PySem.W.codeIn K cdv qual=YD) (k:V8 K (.ref f)=YD):Fun K x qual st f (Ue x qual (Zdx st) (Za3 st) (Zk st) .none kV doc pm an cdv ct):=⟨⟨oc,od,kV,doc,pm,an,cdv,ct,osl,rfl,l,c⟩,k⟩
end
theorem pv(i:Nat)(hN:X.N[i]? =YB x:=by rfl)(hv:Vis X.env.scope x:=by first|exact QL rfl|exact Qt (QL rfl)|exact Qt (Qt rfl))(hd:(x==("__debug__" : Str))=YF:=by decide)
  (hcd:(x==("__classdict__" : Str))=YF:=by decide):PE X (.Name x pos) (Ygs i):=Yal hN hv hd hcd
def Same(H H':Hp):Prop:=∀b o,H b=YB o->H' b=YB o
theorem Same.refl(H:Hp):Same H H:=λ_ _ h=>h
theorem Same.trans{H H1 H2:Hp}(a:Same H H1)(b:Same H1 H2):Same H H2:=λc o h=>b c o (a c o h)
theorem Same.free(e:Same H H'){l:YG}(h:H' l=Option.none):H l=Option.none:=by
 cases q:H l with
 | none=>rfl
 | some o=>
  rw[e l o q]at h;cases h
end L2
set_option maxHeartbeats 4000000
namespace L2
open PySem PySem.Spec PyProof.Rows
def Bt(n:Nat)(x:Int):Prop:=x.natAbs<2^n
theorem Bt.of_lt{m:Nat}{x:Int}(h1:-(2^m)<x)(h2:x<2^m):Bt m x:=by
 unfold Bt;have e:((2^m:Nat):Int)=2^m:=by simp
 omega
def DivOk(_ j:Int):Prop:=j≠0/\j.natAbs.log2<9000
theorem DivOk.of{i j:Int}{n:Nat}(h0:j≠0)(h:Bt n j)(hn:n<=9000:=by decide):DivOk i j:=by
 refine⟨h0,?_⟩;have hp:j.natAbs≠0:=by omega
 have:=(Nat.log2_lt hp).mpr h;omega
theorem Z0u:OpR X (V0 .Mult) (rI IntMulOk λi j=>.int (i*j)):=opI λ_ _ _ _ _ _ _ hc q=>mul_int q hc
theorem Zvh:OpR X (V0 .FloorDiv) (rI DivOk λi j=>.int (i.fdiv j)):=opI λ_ _ _ _ _ _ _ hc q=>floordiv_int hc.1 q (.inl (PyProof.noPylong_of_log2 hc.2))
theorem Z3i:OpR X (V0 .Pow) (rI Ya2 λi j=>.int (i^j.toNat)):=Z9q
theorem Zha(elt target iter:YJ)(ifs:List YJ)(scope:YL)(pos:Pos)(it acc:Xe)(env:Env) :
  compTurn (.ListComp elt [⟨target,iter,ifs,0⟩] scope pos) 0 it acc env=(standAt iter.pos>>= λ_=>Ul it>>= λr=>match r with
   | none=>pure (.done .next)
   | some v=>letOwnedTupleGo target it v>>= λ_=>U5 target env v>>= λ_=>
    (forIn ifs YD λc r=>if r=YD then do let ok<-isTrue c env (eval c env);pure (Bs ok)else pure (Bs r))>>= λok=>
     if ok=YD then((eval elt env>>= λx=>call (.builtin "list.append") [acc,x]>>= λ_=>pure ())>>= λ_=>
      again (.compLoop (.ListComp elt [⟨target,iter,ifs,0⟩] scope pos) 0 it acc env))
     else again (.compLoop (.ListComp elt [⟨target,iter,ifs,0⟩] scope pos) 0 it acc env)):=by rfl
theorem Zjr{R:Result->Xg->Prop}{elt target:YJ}{ifs:List YJ}{it acc:Xe}{env:Env}(I:Nat->Xg->Prop)
  (turn:∀n s,I n s->XJ (X8 prog w) A (Ul it) (λr s₁=>match r with
   | none=>R (.ok .next) s₁
   | some v=>XJ (X8 prog w) A (letOwnedTupleGo target it v) (λ_ s₁=>XJ (X8 prog w) A (U5 target env v) (λ_ s₂=>
     XJ (X8 prog w) A (forIn ifs YD λc r=>if r=YD then do let ok<-isTrue c env (eval c env);pure (Bs ok)else pure (Bs r)) (λok s₃=>
      if ok=YD then XJ (X8 prog w) A (eval elt env) (λx s₄=>
       XJ (X8 prog w) A (call (.builtin "list.append") [acc,x]) (λ_ s₅=>∃m,m<n/\I m s₅) (notedBy (X8 prog w) A env λe s'=>R (.error e) s') s₄) (notedBy (X8 prog w) A env λe s'=>R (.error e) s') s₃
      else∃m,m<n/\I m s₃) (notedBy (X8 prog w) A env λe s'=>R (.error e) s') s₂) (notedBy (X8 prog w) A env λe s'=>R (.error e) s') s₁) (notedBy (X8 prog w) A env λe s'=>R (.error e) s') s₁) (notedBy (X8 prog w) A env λe s'=>R (.error e) s') s)
  (n:Nat) (h:I n s) :
  codeAny (X8 prog w) A (.compLoop (.ListComp elt [⟨target,iter,ifs,0⟩] scope pos) 0 it acc env) R s:=by
 refine codeAny_loop rfl I (λn s hI=>?_) n h;show XJ _ A ((compTurn (.ListComp elt [⟨target,iter,ifs,0⟩] scope pos) 0 it acc env).onRaise (λx=>do noteFrame x env;theTreesLotGoes x)) _ _ s;refine wpAny_noted ?_;rw[Zha];refine Xb (wpAny_standAt (Xb (Bo (turn n s hI) (λr s₁ h₁=>?_) λ_ _ h'=>h')));cases r with
 | none=>exact Xl h₁
 | some v=>
  refine Xb (Bo h₁ (λ_ s₂ h₂=>?_) λ_ _ h'=>h');refine Xb (Bo h₂ (λ_ s₂ h₂=>Xb (Bo h₂ (λok s₃ h₃=>?_) λ_ _ h'=>h')) λ_ _ h'=>h');cases ok with
  | false=>exact Xl ⟨rfl,h₃⟩
  | true=>
   exact Xb (Xb (Bo h₃ (λx s₄ h₄=>Xb (Bo h₄ (λ_ s₅ h₅=>Xl (Xl ⟨rfl,h₅⟩)) λ_ _ h'=>h')) λ_ _ h'=>h'))
def Zgt(env:Env):List (Str×Vi)->List (Str×YG)->List (Str×YG)
 | [],acc=>acc
 | (n,k)::r,acc=>if k== .free then Zgt env r ((n,(env.cells.lookup n).getD 0)::acc)else Zgt env r acc
theorem Zi1{env:Env}:∀(names:List (Str×Vi)) (acc:List (Str×YG)),(∀y∈names,y.2= .free->∃c,env.cells.lookup y.1=YB c) ->
  (forIn names acc (λ(y:Str×Vi) cs=>(if y.2== .free then(cellOf env y.1>>= λc=>pure (Bs ((y.1,c)::cs)))else pure (Bs cs):Sem (ForInStep (List (Str×YG))))))=pure (Zgt env names acc)
 | [],acc,_=>by rw[List.forIn_nil];rfl
 | (n,k)::r,acc,h=>by
  by_cases hk:k= .free
  .subst hk
   obtain⟨c,hc⟩:=h (n,.free) (.head _) rfl;have hc':env.cells.lookup n=YB c:=hc;have e:=Zi1 (env:=env) r ((n,c)::acc) λy hy=>h y (.tail _ hy);have ec:cellOf env n=pure c:=by
    unfold cellOf;rw[hc']
   rw[List.forIn_cons];simp only[beq_self_eq_true,if_true];rw[ec];simp only[Zgt,beq_self_eq_true,if_true,hc',Option.getD_some];exact e
  .have e:=Zi1 (env:=env) r acc λy hy=>h y (.tail _ hy)
   have hb:(k==Q8)=YF:=by simpa using hk
   rw[List.forIn_cons];simp only[Zgt,hb,XR,if_false];exact e
theorem Zcd{env:Env}(h:∀y∈scope.names,y.2= .free->∃c,env.cells.lookup y.1=YB c):closureFor scope env=pure (Zgt env scope.names []):=by
 have e:=Zi1 scope.names [] h;have e':(forIn scope.names ([]:List (Str×YG)) (λ(y:Str×Vi) cs=>(match y with|(name,kind)=>do
   if kind== .free then do let a<-cellOf env name;pure (Bs ((name,a)::cs))else pure (Bs cs):Sem (ForInStep (List (Str×YG))))))=pure (Zgt env scope.names []):=e
 exact YW (λ(m:Sem (List (Str×YG)))=>m>>= λx=>pure x) e'
theorem Zia{env:Env}:∀(names:List (Str×Vi)) (acc:List (Str×YG)),(∀y∈names,y.2= .free->∃c,env.cells.lookup y.1=YB c) ->
  ∀n c,(n,c)∈Zgt env names acc->(n,c)∈acc\/((n,Q8)∈names/\env.cells.lookup n=YB c)
 | [],acc,_,n,c,h=>.inl h
 | (m,k)::r,acc,h,n,c,hm=>by
  by_cases hk:k= .free
  .subst hk
   obtain⟨d,hd⟩:=h (m,.free) (.head _) rfl;have hd':env.cells.lookup m=YB d:=hd;simp only[Zgt,beq_self_eq_true,if_true,hd',Option.getD_some]at hm;rcases Zia r _ (λy hy=>h y (.tail _ hy)) n c hm with z|⟨z1,z2⟩
   .rcases Xo.mp z with z|z
    .cases z;exact .inr ⟨.head _,hd'⟩
    .exact .inl z
   .exact .inr ⟨.tail _ z1,z2⟩
  .have hb:(k==Q8)=YF:=by simpa using hk
   simp only[Zgt,hb,XR,if_false]at hm;refine(Zia r _ (λy hy=>h y (.tail _ hy)) n c hm).imp id λqz9=>?_;obtain⟨z1,z2⟩:=qz9;exact⟨.tail _ z1,z2⟩
theorem Zil{env:Env}:∀(names:List (Str×Vi)) (acc:List (Str×YG)),∀p∈acc,p∈Zgt env names acc
 | [],_,_,h=>h
 | (m,k)::r,acc,p,h=>by
  unfold Zgt;split
  .exact Zil r _ p (.tail _ h)
  .exact Zil r _ p h
theorem Ziu{env:Env}:∀(names:List (Str×Vi)) (acc:List (Str×YG)) (n:Str),(n,Q8)∈names->∃c,(n,c)∈Zgt env names acc
 | [],_,_,h=>nomatch h
 | (m,k)::r,acc,n,h=>by
  rcases Xo.mp h with z|z
  .cases z
   exact⟨_,by
    simp only[Zgt,beq_self_eq_true,if_true];exact Zil _ _ _ (.head _)⟩
  .unfold Zgt
   split
   .exact Ziu r _ n z
   .exact Ziu r _ n z
theorem Zdy{env:Env}(inj:∀x y c,env.cells.lookup x=YB c->env.cells.lookup y=YB c->x=y):∀(names:List (Str×Vi)) (acc:List (Str×YG)),
  (∀ y∈names,y.2= .free->∃c,env.cells.lookup y.1=YB c)->(names.map (·.1)).Nodup->(∀p∈acc,env.cells.lookup p.1=YB p.2)->(∀p∈acc,p.1∉names.map (·.1))->(acc.Pairwise λx y=>x.2≠y.2) ->
  (Zgt env names acc).Pairwise λx y=>x.2≠y.2
 | [],_,_,_,_,_,h=>h
 | (m,k)::r,acc,hf,hn,ha,hd,hp=>by
  rw[X4,Qq]at hn;have hf':∀y∈r,y.2= .free->∃c,env.cells.lookup y.1=YB c:=λy hy=>hf y (.tail _ hy);have hd':∀p∈acc,p.1∉r.map (·.1):=λp hp z=>hd p hp (by rw[X4];exact .tail _ z)
  by_cases hk:k= .free
  .subst hk
   obtain⟨d,hd0⟩:=hf (m,.free) (.head _) rfl;have hd1:env.cells.lookup m=YB d:=hd0;simp only[Zgt,beq_self_eq_true,if_true,hd1,Option.getD_some];refine Zdy inj r _ hf' hn.2 (λp hp'=>?_) (λp hp'=>?_) (Vb.mpr ⟨λp hp' z=>?_,hp⟩)
   .rcases Xo.mp hp' with rfl|hp'
    .exact hd1
    .exact ha p hp'
   .rcases Xo.mp hp' with rfl|hp'
    .exact hn.1
    .exact hd' p hp'
   .have e:m=p.1:=inj m p.1 d hd1 (by rw[ha p hp',<-z])
    exact hd p hp' (by rw[X4,<-e];exact .head _)
  .have hb:(k==Q8)=YF:=by simpa using hk
   simp only[Zgt,hb,XR,if_false];exact Zdy inj r _ hf' hn.2 ha hd' hp
structure Zps(h:YH)(lo:Nat)(names:List (Str×Vi))(acc cs:List (Str×YG)):Prop where
 mem:∀n c,(n,c)∈cs->(n,c)∈acc\/(h.IsCell c YC/\lo<=c/\(n,BW)∈names)
 has:∀n,(n,BW)∈names->∃c,(n,c)∈cs
 old:∀p∈acc,p∈cs
theorem Zef:∀(names:List (Str×Vi)) (h:YH) (lo:Nat) (acc:List (Str×YG)),lo<=h.objs.size->Zps (Vt h names) lo names acc (BV h.objs.size names acc)
 | [],_,_,_,_=>⟨λ_ _ m=>.inl m,(λ_ m=>nomatch m),λ_ m=>m⟩
 | (name,kind)::r,h,lo,acc,hlo=>by
  by_cases hk:(kind==BW)=YD
  .have ek:kind= .cell:=by simpa using hk
   subst ek;have ih:=Zef r (h.push { cls:=.type "cell",data:=.cell YC }) lo ((name,h.objs.size)::acc) (by rw[Qz];omega);rw[Qz]at ih;have e1:BV h.objs.size ((name,.cell)::r) acc=BV (h.objs.size+1) r ((name,h.objs.size)::acc):=by
    rw[BV,YM hk]
   have e2:Vt h ((name,.cell)::r)=Vt (h.push { cls:=.type "cell",data:=.cell YC }) r:=by
    rw[Vt,YM hk]
   rw[e1,e2];refine⟨λn c m=>?_,λn m=>?_,λp m=>ih.old p (.tail _ m)⟩
   .rcases ih.mem n c m with z|⟨z1,z2,z3⟩
    .rcases Xo.mp z with z|z
     .cases z
      exact .inr ⟨⟨_,pushCells_keeps _ _ _ _ (XF _ rfl),rfl⟩,hlo,.head _⟩
     .exact .inl z
    .exact .inr ⟨z1,z2,.tail _ z3⟩
   .rcases Xo.mp m with z|z
    .cases z
     exact⟨_,ih.old _ (.head _)⟩
    .exact ih.has n z
  .have ih:=Zef r h lo acc hlo
   have e1:BV h.objs.size ((name,kind)::r) acc=BV h.objs.size r acc:=by
    rw[BV,YQ hk]
   have e2:Vt h ((name,kind)::r)=Vt h r:=by
    rw[Vt,YQ hk]
   rw[e1,e2];refine⟨λn c m=>(ih.mem n c m).imp id λ⟨z1,z2,z3⟩=>⟨z1,z2,.tail _ z3⟩,λn m=>?_,ih.old⟩;rcases Xo.mp m with z|z
   .cases z
    exact YZ rfl hk
   .exact ih.has n z
theorem Zfw(names:List (Str×Vi)):∀(h:YH) (acc:List (Str×YG)),(acc.Pairwise λx y=>x.2≠y.2)->(∀p∈acc,p.2<h.objs.size)->(BV h.objs.size names acc).Pairwise λx y=>x.2≠y.2:=by
 induction names with
 | nil=>intro h acc ha _;exact ha
 | cons y r ih=>
  intro h acc ha hb;obtain⟨name,kind⟩:=y;unfold BV;split
  .have:=ih (h.push { cls:=.type "cell",data:=.cell YC }) ((name,h.objs.size)::acc) (Vb.mpr ⟨λp hp=>X6 (hb p hp),ha⟩) (λp hp=>by
    rw[Qz];rcases Xo.mp hp with rfl|hp
    .exact QB _
    .exact QW (hb p hp))
   rwa[Qz]at this
  .exact ih h acc ha hb
theorem Zgw{globals:YG}{cl:List (Str×YG)}{env:Env}{Q:Env->Xg->Prop}
  (hQ:Q (newEnv scope s.heap.objs.size globals (BV (s.heap.objs.size+1) scope.names cl) qual YC .none (YB env) builtinsNs)
   { s with heap:=Vt (s.heap.push { cls:=.type "dict",data:=.dict #[] }) scope.names }) :
  XJ M A (newFunctionEnv scope globals cl [] qual YC .none (YB env)) Q E s:=by
 simp only[newFunctionEnv,Option.isSome_some,if_true];refine Xb (wpAny_alloc ?_);refine Xb (wpAny_layCells _ (λname kind cells=>by cases hkc:kind==BW<;>simp[hkc]) _ _ _ _ ?_);rw[show({ s with heap:=s.heap.push { cls:=.type "dict",data:=.dict #[] } }:Xg).heap.objs.size=s.heap.objs.size+1 from Qz ..];rw[List.forIn_nil];exact Xb (Xl (Xl hQ))
def Wd(X:Cx)(N':List Str)(sc:YL)(C:YG)(cells:List (Str×YG))(s₂:Xg)(H₂:Hp)(fp:List YG):Cx :=
 { X with N:=N',s₀:=s₂,H₀:=H₂,env:=compEnvC sc cells C X.env,outer:=X.stack,stack:=X.stack,ex:=fp,fn:=λx=>sc.names.lookup x==YB .cell,pn:=[],xe:=λ_ _=>False }
theorem Zcq{env:Env}:∀{names:List (Str×Vi)} {x:Str} {k:Vi},names.lookup x=YB k ->
  (names.map λ(n,k)=>if(k==Q8&&env.scope.kind== .function&&env.kindOf n==YB .cell)then(n,BW)else(n,k)).lookup x=
   YB (if(k==Q8&&env.scope.kind== .function&&env.kindOf x==YB .cell)then BW else k)
 | [],_,_,h=>by simp at h
 | (n,k')::r,x,k,h=>by
  have ih:=@Zcq env r x k;show List.lookup x ((if(k'==Q8&&env.scope.kind== .function&&env.kindOf n==YB .cell)=YD then(n,BW)else(n,k'))::_)=_;cases hx:x==n with
  | true=>
   simp only[JB,hx]at h;cases h;have e:=ZC.mp hx;subst e;split<;>simp[JB]
  | false=>
   simp only[JB,hx]at h;split
   .simp only[JB,hx];exact ih h
   .simp only[JB,hx];exact ih h
theorem Zel{env:Env}:∀{names:List (Str×Vi)} {x:Str},names.lookup x=YC ->
  (names.map λ(n,k)=>if(k==Q8&&env.scope.kind== .function&&env.kindOf n==YB .cell)then(n,BW)else(n,k)).lookup x=YC
 | [],_,_=>rfl
 | (n,k')::r,x,h=>by
  have ih:=@Zel env r x;show List.lookup x ((if(k'==Q8&&env.scope.kind== .function&&env.kindOf n==YB .cell)=YD then(n,BW)else(n,k'))::_)=_;cases hx:x==n with
  | true=>
   simp only[JB,hx]at h;cases h
  | false=>
   simp only[JB,hx]at h;split
   .simp only[JB,hx];exact ih h
   .simp only[JB,hx];exact ih h
theorem Zc4:∀{l:List (Str×α)} {n:Str} {c:α},(l.map (·.1)).Nodup->(n,c)∈l->l.lookup n=YB c
 | (k,v)::r,n,c,hd,h=>by
  rw[X4,Qq]at hd;rcases Xo.mp h with e|hr
  .cases e
   simp[JB]
  .have hne:(n==k)=YF:=by
    refine Vf.mpr λz=>hd.1 ?_;have e:n=k:=ZC.mp z;rw[<-e];exact XM.mpr ⟨(n,c),hr,rfl⟩
   rw[JB,hne];exact Zc4 hd.2 hr
theorem Yi:∀{l:List (Str×α)} {n:Str} {c:α},(n,c)∈l->∃d,l.lookup n=YB d/\(n,d)∈l
 | (k,v)::r,n,c,h=>by
  by_cases e:n=k
  .subst e
   exact⟨v,by simp[JB],List.mem_cons_self⟩
  .have hne:(n==k)=YF:=by simpa using e
   rcases Xo.mp h with z|z
   .cases z;exact YZ rfl e
   .obtain⟨d,h1,h2⟩:=Yi z
    exact⟨d,by rw[JB,hne];exact h1,.tail _ h2⟩
structure CompScope(X:Cx)(own:List Str)(caps:List Nat)(N':List Str)(sc:YL):Prop where
 kind:sc.kind= .function
 nd:N'.Nodup
 names:N'=own++caps.map λi=>X.N.getD i Str.empty
 nn:(sc.names.map (·.1)).Nodup
 free:(sc.names.all λy=>y.2 != .free||(X.env.kindOf y.1==YB .cell||X.env.kindOf y.1==YB .free))=YD
 caps:(caps.all λi=>sc.names.lookup (X.N.getD i Str.empty)==YB .free)=YD
def Jm(own:List Str)(caps:List Nat)(O:St):St:=own.map (λ_=>YC)++caps.map λi=>(O[i]?).getD YC
section
variable {own:List Str}{caps:List Nat}{N':List Str}{sc:YL}
theorem CompScope.lk(S:CompScope X own caps N' sc){n:Str}{k:Vi}(h:(n,k)∈sc.names):sc.names.lookup n=YB k:=Zc4 S.nn h
theorem CompScope.fr(S:CompScope X own caps N' sc){n:Str}(h:(n,Q8)∈sc.names):X.env.kindOf n=YB .cell\/X.env.kindOf n=YB .free:=by
 have:=Vc.mp S.free _ h;simpa using this
theorem Zn6{O:St}{fp:List YG}{cl:List (Str×YG)}(S:CompScope X own caps N' sc)(I:Inv X pins O H s)
  (f:∀b∈fp,Zii X pins H b) (fo:∀b∈fp,∃o,s.heap.get? b=YB o)
  (hcl:∀n c,(n,c)∈cl->(n,Q8)∈sc.names/\X.env.cells.lookup n=YB c) (hcl2:∀n,(n,Q8)∈sc.names->∃c,(n,c)∈cl) (hapart:cl.Pairwise λx y=>x.2≠y.2) :
  Inv (Wd X N' sc (s.heap.objs.size+1) (BV (s.heap.objs.size+2) sc.names cl) s H fp) [] (Jm own caps O) (upd H s.heap.objs.size (.lst []))
   { s with heap:=Vt ((s.heap.push { cls:=.type "list",data:=.seq #[] }).push { cls:=.type "dict",data:=.dict #[] }) sc.names }:=by
 generalize hh1:s.heap.push { cls:=.type "list",data:=.seq #[] }=h1;have z1:h1.objs.size=s.heap.objs.size+1:=by rw[<-hh1,Qz]
 generalize hh2:h1.push { cls:=.type "dict",data:=.dict #[] }=h2;have z2:h2.objs.size=s.heap.objs.size+2:=by rw[<-hh2,Qz,z1]
 have BC:=Zef sc.names h2 (s.heap.objs.size+2) cl (by omega);have AP:=Zfw sc.names h2 cl hapart (λp hp=>by
  obtain⟨v,hv⟩:=I.cell p.1 p.2 (hcl p.1 p.2 hp).2;exact Qm hv.lt (by omega))
 rw[z2]at BC AP;have keep:∀b o,s.heap.get? b=YB o->(Vt h2 sc.names).get? b=YB o:=λb o e=>pushCells_keeps _ _ _ _ (by
  rw[<-hh2];refine Xf _ ?_;rw[<-hh1];exact Xf _ e)
 have hD:(Vt h2 sc.names).get? s.heap.objs.size=YB { cls:=.type "list",data:=.seq #[] }:=pushCells_keeps _ _ _ _ (by
  rw[<-hh2];refine Xf _ ?_;rw[<-hh1];exact XF _ rfl)
 have hC:(Vt h2 sc.names).Ns (s.heap.objs.size+1) (λ_=>YC):=by
  refine Heap.Ns.keeps ?_ (pushCells_keeps _ _);have:=Heap.Ns.new h1 (.type "dict");rw[hh2,z1]at this;exact this
 have cellOld:∀n c,X.env.cells.lookup n=YB c->c<s.heap.objs.size:=λn c e=>by
  obtain⟨v,hv⟩:=I.cell n c e;exact hv.lt
 have lk':∀n c,(BV (s.heap.objs.size+2) sc.names cl).lookup n=YB c->(n,c)∈BV (s.heap.objs.size+2) sc.names cl:=λn c e=>Bv e;have hnD:H s.heap.objs.size=YC:=I.fresh;have fresh:∀c,s.heap.objs.size<c->upd H s.heap.objs.size (.lst []) c=YC:=λc hc=>by
  rw[Zq (X6 hc)];exact I.hok.fresh (Vn hc)
 have isc:∀n c,(n,c)∈BV (s.heap.objs.size+2) sc.names cl->∃v,(Vt h2 sc.names).IsCell c v:=λn c m=>by
  rcases BC.mem n c m with z|⟨z,_⟩
  .obtain⟨v,hv⟩:=I.cell n c (hcl n c z).2
   exact⟨v,hv.keeps keep⟩
  .exact⟨YC,z⟩
 have okH:HOk X.prog X.w (upd H s.heap.objs.size (.lst [])) (Vt h2 sc.names):=by
  refine I.hok.laid keep (Xy _) ?_;exact⟨Qw _,[],0,.nil,hD⟩
 have kinds:∀x k,sc.names.lookup x=YB k->(relabel sc X.env).names.lookup x=YB (if(k==Q8&&X.env.scope.kind== .function&&X.env.kindOf x==YB .cell)then BW else k):=λx k e=>Zcq e;have kindsR:∀x k,(relabel sc X.env).names.lookup x=YB k->∃k',(x,k')∈sc.names/\k=(if(k'==Q8&&X.env.scope.kind== .function&&X.env.kindOf x==YB .cell)then BW else k'):=λx k e=>by
  cases q:sc.names.lookup x with
  | none=>
   have:=Zel (env:=X.env) q;rw[show(relabel sc X.env).names.lookup x=_ from this]at e;cases e
  | some k'=>
   refine⟨k',Bv q,?_⟩;rw[kinds x k' q]at e;exact(Qy e).symm
 refine⟨⟨I.ok.mod,S.kind,I.ok.glob,I.ok.blt,?_,?_,?_,?_,I.ok.hd,I.ok.frames,.inl rfl,?_,?_,?_,?_,?_,?_,?_⟩,rfl,I.bare,?_,?_,?_,?_,?_,(λp hp=>nomatch hp),okH,?_⟩
 .show s.heap.objs.size<=s.heap.objs.size+1;omega
 .intro x y c e1 e2
  exact name_of_addr AP (lk' x c e1) (lk' y c e2)
 .intro x hx
  rcases hx with hx|hx
  .obtain⟨k',hm,hk'⟩:=kindsR x _ hx
   cases k' with
   | cell=>
    obtain⟨c,hc⟩:=BC.has x hm;obtain⟨d,h1,_⟩:=Yi hc;exact⟨d,h1⟩
   | free=>
    obtain⟨c,hc⟩:=hcl2 _ hm;obtain⟨d,h1,_⟩:=Yi (BC.old _ hc);exact⟨d,h1⟩
   | _=>simp at hk'
  .obtain⟨k',hm,hk'⟩:=kindsR x _ hx
   cases k' with
   | free=>
    obtain⟨c,hc⟩:=hcl2 _ hm;obtain⟨d,h1,_⟩:=Yi (BC.old _ hc);exact⟨d,h1⟩
   | _=>simp at hk'
 .intro x c hf e
  have hf':sc.names.lookup x=YB .cell:=by simpa [Wd]using hf
  rcases BC.mem x c (lk' x c e)with z|⟨_,z,_⟩
  .-- a free one and a cell at once: the name stands once
   exfalso;have q:=S.lk (hcl x c z).1;rw[hf']at q;cases q
  .show s.heap.objs.size<=c;omega
 .intro b hb
  obtain⟨o,ho⟩:=fo b hb;have hlt:=XN ho;refine⟨Xp (Vm hlt (QB _)),λx c e z=>?_⟩;rcases BC.mem x c (lk' x c e)with q|⟨_,q,_⟩
  .exact(f b hb).2.2.2.2.1 x c (hcl x c q).2 z
  .subst z
   exact YZ hlt (Nat.not_lt.mpr (QM (Vd _ 2) q))
 .exact I.bs
 .exact QM I.ok.bsz I.sz
 .intro b o e hb
  rcases(f b hb).2.2.2.1 with z|z
  .exact I.ok.noex b o e z
  .exact YZ (Qm (XN e) I.ok.bsz) (Nat.not_lt.mpr z)
 .intro b hb z
  rcases Xo.mp (I.stkSub b z)with q|q
  .exact(f b hb).2.1 q
  .exact(f b hb).2.2.1 q
 .exact I.stack
 .exact I.stkFree
 .exact Un.laid keep (Xy _) hnD
 .refine⟨_,hC,λi x v e1 e2 e3=>?_⟩
  have e1':(own++caps.map λi=>X.N.getD i Str.empty)[i]? =YB x:=by rw[<-S.names];exact e1
  have e2':(own.map (λ_=>(YC:Option V))++caps.map λi=>(O[i]?).getD YC)[i]? =YB (YB v):=e2
  by_cases hi:i<own.length
  .rw[Vv (by simpa using hi),Xi]at e2'
   cases q:own[i]? with
   | none=>rw[q]at e2';cases e2'
   | some y=>rw[q]at e2';cases e2'
  .rw[JX (by simpa using hi),Xi]at e2'
   rw[JX (by omega),Xi]at e1';rw[Xc]at e2';cases q:caps[i-own.length]? with
   | none=>rw[q]at e2';cases e2'
   | some j=>
    rw[q]at e1' e2';have e1:X.N.getD j Str.empty=x:=Qy e1';have e2:(O[j]?).getD YC=YB v:=Qy e2';have e4:O[j]? =YB (YB v):=by
     cases r:O[j]? with
     | none=>rw[r]at e2;cases e2
     | some o=>rw[r]at e2;exact YW YB e2
    have hj:j<X.N.length:=by rw[<-I.len];exact(Xk.mp e4).1
    have e5:X.N[j]? =YB x:=by rw[<-e1];simp[Xm,hj]
    have hc:=Vc.mp S.caps j (X5 q);have e6:sc.names.lookup x=YB .free:=by rw[<-e1];simpa using hc
    have hm:=Bv e6;have kx:=S.fr hm;obtain⟨m,hn,hl⟩:=I.loc;obtain⟨u,ru,lo⟩:=hl j x v e5 e4 (by rcases kx with z|z;exact .inr (.inl z);exact .inr (.inr z));refine⟨u,ru,.inr ⟨?_,?_⟩⟩
    .have:=kinds x _ e6
     show(relabel sc X.env).names.lookup x=_\/(relabel sc X.env).names.lookup x=_;rw[this];split
     .exact .inl rfl
     .exact .inr rfl
    .rcases lo with⟨z,_⟩|⟨_,c,hc1,hc2⟩
     .rcases kx with w|w<;>(rw[w]at z;cases z)
     .obtain⟨d,hd⟩:=hcl2 x hm
      obtain⟨d',h1,h2⟩:=Yi (BC.old _ hd);refine⟨d',h1,?_⟩;rcases BC.mem x d' h2 with w|⟨_,_,w⟩
      .have w':=(hcl x d' w).2
       rw[hc1]at w';cases w';exact hc2.keeps keep
      .have:=S.lk w
       rw[e6]at this;cases this
 .intro x c e
  exact isc x c (lk' x c e)
 .exact fresh _ (QB _)
 .intro x c e
  rcases BC.mem x c (lk' x c e)with z|⟨_,z,_⟩
  .have e':=(hcl x c z).2
   have hlt:=cellOld x c e';rw[Zq (Xp hlt)];exact I.freeC x c e'
  .exact fresh c (by omega)
 .show(Jm own caps O).length=N'.length
  rw[S.names];unfold Jm;simp
end
def Z18(J:It)(g:TG)(tt:TT)(te:TE)(O0:St)(D:YG)(Q:Hp->Prop)(H1:Hp):Prop :=
 ∃W:Nat->Nat->St->Hp->Prop,(∃m,W 0 m O0 (upd H1 D (.lst [])))/\∀i m O' H',W i m O' H' ->
  (J.stop i H'/\Q H')\/(J.go i H'/\∀x H2,J.yld i H' x H2->g x O' H2 λO2 H3=>tt O2 H3 λb H4=>
   if b=YD then te O2 H4 λy H5=>∃ys,H5 D=YB (.lst ys)/\ys.length<XC/\∃m',m'<m/\W (i+1) m' O2 (upd H5 D (.lst (ys++[y])))
   else∃m',m'<m/\W (i+1) m' O2 H4)
def Z09(own:List Str)(caps:List Nat)(wi:TI)(g:TG)(tt:TT)(te:TE):TE:=λO H Q=>wi O H λJ H1=>∀D,H1 D=YC->Z18 J g tt te (Jm own caps O) D (Q (.ref D)) H1
def Ycs:TT:=λ_ H Q=>Q YD H
def Z2s(X:Cx)(ifs:List YJ)(t:TT):Prop :=
 ∀(pins:List (YG×Obj)) (s:Xg) (O:St) (H:Hp) (Q:Bool->Hp->Prop),Inv X pins O H s->t O H Q ->
  XJ (X8 X.prog X.w) X.A (forIn ifs YD λc r=>if r=YD then do let ok<-isTrue c X.env (eval c X.env);pure (Bs ok)else pure (Bs r)) (TP X pins O Q) X.xe s
theorem Z2v:Z2s X [] Ycs:=λpins s O H Q I h=>by
 rw[List.forIn_nil];exact Xl ⟨H,I,h⟩
theorem Z3l{c:YJ}{t:TT}(h:PT X c t):Z2s X [c] t:=λpins s O H Q I q=>wpAny_tests_one (h pins s O H Q I q)
theorem Z0k{t:Sem α}{Q Q':α->Xg->Prop}(h:XJ M A t Q (λ_ _=>False) s)(hQ:∀a s,Q a s->Q' a s):XJ M A t Q' E s :=
 Bo h hQ λ_ _ z=>z.elim
section
variable {own:List Str}{caps:List Nat}{N':List Str}{sc:YL}{elt:YJ}{ifs:List YJ}{wi:TI}{g:TG}{tt:TT}
theorem Zmk{p':List (YG×Obj)}{O O':St}{fp:List YG}{cells:List (Str×YG)}(I:Inv X pins O H s)(f:∀b∈fp,Zii X pins H b)
  (I':Inv (Wd X N' sc C cells s H fp) p' O' H' s') (hs:Bb C s'.heap h'):Inv X pins O H' { s' with heap:=h' }:=by
 have hC:s.heap.objs.size<=C:=I'.ok.above;have B:=I'.base;have ne:∀b o,s.heap.get? b=YB o->b≠C:=λb o e=>Xp (Qm (XN e) hC);obtain⟨m,⟨oC,_,_,hoC,_⟩,_⟩:=I'.loc;refine I.call' (ch:=fp) (s':={ s' with heap:=h' }) I'.os ⟨λb o e n hb hx=>?_,λb o e n hb hx=>?_,B.free,λb o e hx=>?_,B.tups,B.frzs,B.tbls⟩ (λb ob e=>?_) I'.bare λb hb=>?_
 .exact(hs.2 b (ne b o e)).trans (B.keep b o e n hb hx)
 .obtain⟨sl,q⟩:=B.slot b o e n hb hx
  exact⟨sl,(hs.2 b (ne b o e)).trans q⟩
 .obtain⟨o',q⟩:=B.there b o e hx
  exact⟨o',(hs.2 b (ne b o e)).trans q⟩
 .have hfree:H' C=YC:=I'.free
  refine(I'.hok b ob e).stay (λc w' hc q=>(hs.2 c ?_).trans q) (λ_ q=>q) λ_ _ q=>q;rintro rfl;rcases hc with rfl|hc
  .rw[hfree]at e;cases e
  .rw[hfree]at hc;cases hc
 .obtain⟨_,f1,_,f3,f4,f5⟩:=f b hb
  exact⟨f3,f1,f4,f5⟩
theorem Zhy{Qf:Result->Xg->Prop}(S:CompScope X own caps N' sc)(hc:X.calm=YD)
  (hg:∀C cells s₂ H₂ fp,PG (Wd X N' sc C cells s₂ H₂ fp) tg g) (ht:∀C cells s₂ H₂ fp,Z2s (Wd X N' sc C cells s₂ H₂ fp) ifs tt) (he:∀C cells s₂ H₂ fp,PE (Wd X N' sc C cells s₂ H₂ fp) elt te)
   {O:St}   {fp:List YG} {it:YG} {tn:Nat->YH->Prop} {J:It} {Q:Hp->Prop} (I:Inv X pins O H s) (T:Turn X.prog X.w X.K tg J fp it tn) (st:tn 0 s.heap) (f:∀b∈fp,Zii X pins H b)
  (h:Z18 J g tt te (Jm own caps O) s.heap.objs.size Q H)
  (fin:∀s' O' H' p' C cells,Inv (Wd X N' sc C cells s H fp) p' O' H' s'->C=s.heap.objs.size+1->Q H'->Qf (.ok .next) s') :
  XJ (X8 X.prog X.w) X.A (newFunctionEnv sc X.env.globals (Zgt X.env sc.names []) [] X.env.qual YC .none (YB X.env)) (λcenv s₄=>
   cenv.locals=s.heap.objs.size+1/\codeAny (X8 X.prog X.w) X.A (.compStart (.ListComp elt [⟨tg,iter,ifs,0⟩] sc pos) 0 (.ref it) (.ref s.heap.objs.size) { cenv with scope:=relabel sc X.env }) Qf s₄) X.xe
    { s with heap:=s.heap.push { cls:=.type "list",data:=.seq #[] } }:=by
 have hf:∀y∈sc.names,y.2= .free->∃c,X.env.cells.lookup y.1=YB c:=λy hy e=>by
  obtain⟨n,k⟩:=y;have e':k= .free:=e;subst e';exact I.ok.has n (S.fr hy)
 have hcl:∀n c,(n,c)∈Zgt X.env sc.names []->(n,Q8)∈sc.names/\X.env.cells.lookup n=YB c:=λn c m=>(Zia sc.names [] hf n c m).elim (λz=>nomatch z) id;have hap:=Zdy I.ok.inj sc.names [] hf S.nn (λ_ z=>nomatch z) (λ_ z=>nomatch z) .nil;have I0:=Zn6 (cl:=Zgt X.env sc.names []) S I f (λb hb=>let⟨o,e,_⟩:=T.obj _ _ st b hb;⟨o,e⟩) hcl (λn m=>Ziu sc.names [] n m) hap;refine Zgw ?_;rw[show({ s with heap:=s.heap.push { cls:=.type "list",data:=.seq #[] } }:Xg).heap.objs.size=s.heap.objs.size+1 from Qz ..];refine⟨rfl,?_⟩;dsimp only;generalize hs0:({ s with heap:=Vt ((s.heap.push { cls:=.type "list",data:=.seq #[] }).push { cls:=.type "dict",data:=.dict #[] }) sc.names }:Xg)=s0 at I0|-
 have st0:tn 0 s0.heap:=T.keep _ _ _ st λb hb o e=>by
  rw[<-hs0];exact pushCells_keeps _ _ _ _ (Xf _ (Xf _ e))
 generalize hcells:BV (s.heap.objs.size+1+1) sc.names (Zgt X.env sc.names [])=cells at I0|-
 -- the loop
 obtain⟨W,⟨m0,w0⟩,turn⟩:=h;have loop:codeAny (X8 X.prog X.w) X.A (.compLoop (.ListComp elt [⟨tg,iter,ifs,0⟩] sc pos) 0 (.ref it) (.ref s.heap.objs.size) (Wd X N' sc (s.heap.objs.size+1) cells s H fp).env) Qf s0:=by
  generalize hX':Wd X N' sc (s.heap.objs.size+1) cells s H fp=X' at I0|-
  have hg':=hg (s.heap.objs.size+1) cells s H fp;have ht':=ht (s.heap.objs.size+1) cells s H fp;have he':=he (s.heap.objs.size+1) cells s H fp;have fin':=λs' O' H' p' (z:Inv (Wd X N' sc (s.heap.objs.size+1) cells s H fp) p' O' H' s')=>fin s' O' H' p' _ _ z rfl;rw[hX']at hg' ht' he' fin';have hxe:X'.xe= λ_ _=>False:=by rw[<-hX'];rfl
  have hpr:X'.prog=X.prog:=by rw[<-hX'];rfl
  have hw:X'.w=X.w:=by rw[<-hX'];rfl
  have hK:X'.K=X.K:=by rw[<-hX'];rfl
  have hA:X'.A=X.A:=by rw[<-hX'];rfl
  have hcm:X'.calm=YD:=by rw[<-hX'];exact hc
  have hex:X'.ex=fp:=by rw[<-hX'];rfl
  have hpn:X'.pn=[]:=by rw[<-hX'];rfl
  have stat:∀{H':Hp},(∀b∈fp,H' b=YC)->∀b∈fp,Zii X' [] H' b:=λhn b hb=>by
   have e1:=I0.ok.exf b (by rw[hex];exact hb);have e2:=I0.ok.exfs b (by rw[hex];exact hb);exact⟨hn b hb,e1.1,e2,.inl (by rw[hex];exact hb),e1.2,λp hp=>by rw[hpn]at hp;exact nomatch hp⟩
  have frD:∀b∈fp,(upd H s.heap.objs.size (.lst [])) b=YC:=λb hb=>by
   obtain⟨o,e,_⟩:=T.obj _ _ st b hb;rw[Zq (Xp (XN e))];exact(f b hb).1
  have T':Turn X'.prog X'.w X'.K tg J fp it tn:=by rw[hpr,hw,hK];exact T
  rw[<-hpr,<-hw,<-hA];refine Zjr (λn s'=>∃i O' H',Inv X' [] O' H' s'/\tn i s'.heap/\(∀b∈fp,H' b=YC)/\W i n O' H') ?_ m0 ⟨0,_,_,I0,st0,frD,w0⟩;rintro n s3 ⟨i,O3,H3,I3,st3,fr3,w3⟩;rcases turn i n O3 H3 w3 with⟨stop,qn⟩|⟨go,step⟩
  .refine Z0k (T'.done X' rfl rfl rfl hcm i [] s3 O3 H3 _ I3 (stat fr3) st3 stop) λr s4 qz9=>?_
   obtain⟨hr,I4⟩:=qz9;subst hr;exact fin' s4 O3 H3 [] I4 qn
  .refine Z0k (T'.item X' rfl rfl rfl hcm i [] s3 O3 H3 _ I3 (stat fr3) st3 go) λr s4 qz9=>?_
   obtain⟨u,hr,h4⟩:=qz9;subst hr;refine Z0k h4 λ_ s5 qz9=>?_;obtain⟨x,H5,I5,r5,y5,st5,fr5⟩:=qz9;have I5':=I5.pinned (stat fr5) (T.obj _ _ st5);have hgg:=hg' _ s5 O3 H5 x u _ I5' r5 (step x H5 y5);rw[hxe]at hgg;refine Z0k hgg λ_ s6 qz9=>?_;obtain⟨O6,H6,I6,q6⟩:=qz9;have htt:=ht' _ s6 O6 H6 _ I6 q6;rw[hxe]at htt;refine Z0k htt λok s7 qz9=>?_;obtain⟨H7,I7,q7⟩:=qz9;have again:∀{O7:St} {H7:Hp} {s7:Xg} {m:Nat},Inv X' ([]++Zjl fp s5.heap) O7 H7 s7->W (i+1) m O7 H7->m<n->∃m,m<n/\∃i O' H',Inv X' [] O' H' s7/\tn i s7.heap/\(∀b∈fp,H' b=YC)/\W i m O' H':=fun{O7 H7 s7 m} I7 w7 hm=>by
    refine⟨m,hm,i+1,O7,H7,I7.unpinned,T.keep _ _ _ st5 λb hb o e=>(I7.pin (b,o) (Qg _ (Qg _ (Zca hb e)))).1,λb hb=>?_,w7⟩;obtain⟨o,e,d⟩:=T.obj _ _ st5 b hb;exact(I7.pin (b,o) (Qg _ (Qg _ (Zca hb e)))).2.1
   cases ok with
   | false=>
    obtain⟨m',hm,w7⟩:=q7;rw[YQ Xx];exact again I7 w7 hm
   | true=>
    rw[YM rfl];have hee:=he' _ s7 O6 H7 _ I7 q7;rw[hxe]at hee;refine Z0k hee λy s8 qz9=>?_;obtain⟨vy,H8,I8,r8,ys,hD,hlen,m',hm,w8⟩:=qz9;have hap:=Zc8 (X:=X') _ s8 O6 H8 (.ref s.heap.objs.size) [vy] (.ref s.heap.objs.size) [y] (λ_ H'=>W (i+1) m' O6 H') I8 rfl (.cons r8 .nil) ⟨_,ys,vy,rfl,rfl,hD,hlen,w8⟩;rw[hxe]at hap;refine Z0k hap λz s9 qz9=>?_;obtain⟨_,H9,I9,_,w9⟩:=qz9;exact again I9 w9 hm
 exact codeAny_compStart_list loop (T.self _ 0 _ _ _ st0 loop)
theorem Z4p(S:CompScope X own caps N' sc)(hc:X.calm=YD)(hi:PI X tg iter wi)
  (hg:∀C cells s₂ H₂ fp,PG (Wd X N' sc C cells s₂ H₂ fp) tg g) (ht:∀C cells s₂ H₂ fp,Z2s (Wd X N' sc C cells s₂ H₂ fp) ifs tt) (he:∀C cells s₂ H₂ fp,PE (Wd X N' sc C cells s₂ H₂ fp) elt te)
  (hs:∀x,VJ iter X.env x=pure x:=by intro _;rfl):PE X (.ListComp elt [⟨tg,iter,ifs,0⟩] sc pos) (Z09 own caps wi g tt te):=by
 intro pins s O H Q I h;rw[eval_ListComp];have hf:∀y∈sc.names,y.2= .free->∃c,X.env.cells.lookup y.1=YB c:=λy hy e=>by
  obtain⟨n,k⟩:=y;have e':k= .free:=e;subst e';exact I.ok.has n (S.fr hy)
 refine wpAny_comprehension_free (use:=YC) rfl hs (Zcd hf) S.kind (λy hy e=>by obtain⟨n,k⟩:=y;have e':k= .local:=e;subst e';exact S.lk hy) ?_;refine thn (hi pins s O H _ I h) λv s1 h1=>thn h1 λitv s2 h2=>?_;obtain⟨it,fp,tn,J,H2,e,I2,T,st2,f2,q⟩:=h2;subst e;refine JW ?_;refine thn (Zhy (iter:=iter) (pos:=pos) (Qf:=compPost (X8 X.prog X.w) X.A X.xe YC (EP X pins O Q) (.ref s2.heap.objs.size) (s2.heap.objs.size+1)) S hc hg ht he I2 T st2 f2 (q s2.heap.objs.size I2.fresh) ?_) λcenv s4 ⟨hl,hr⟩=>?_
 .intro s' O' H' p' C cells I' eC q'
  subst eC;obtain⟨m,hn,_⟩:=id I'.loc;exact⟨m,hn,λh' hs'=>⟨.ref s2.heap.objs.size,H',Zmk I2 f2 I' hs',rfl,q'⟩⟩
 .rw[<-hl]at hr
  exact hr
end
section
variable {own:List Str}{caps:List Nat}{N':List Str}{sc:YL}{elt:YJ}{ifs:List YJ}{wi:TI}{g:TG}{tt:TT}
theorem Zoz{y:Str}{py spos:Pos}(hN:X.N.Nodup)(hy:X.N[i]? =YB y)(hx:Loc X.env.scope y)(S:CompScope X own caps N' sc)(hc:X.calm=YD)(hi:PI X tg iter wi)
  (hg:∀C cells s₂ H₂ fp,PG (Wd X N' sc C cells s₂ H₂ fp) tg g) (ht:∀C cells s₂ H₂ fp,Z2s (Wd X N' sc C cells s₂ H₂ fp) ifs tt) (he:∀C cells s₂ H₂ fp,PE (Wd X N' sc C cells s₂ H₂ fp) elt te)
  (hsw:VH (.ListComp elt [⟨tg,iter,ifs,0⟩] sc pos) (YB (.Name y py)) spos.line X.env=pure YD:=by rfl)
  (hs:∀x,VJ iter X.env x=pure x:=by intro _;rfl) (hf:X.fn y=YD\/X.env.scope.names.lookup y=YB .local:=by first|exact .inl rfl|exact .inr rfl|assumption) :
  PS X (.Assign [.Name y py] (.ListComp elt [⟨tg,iter,ifs,0⟩] sc pos) spos) (Z81 (Z09 own caps wi g tt te) (Zrt i)):=by
 intro pins s O H D I h;have hfr:∀y∈sc.names,y.2= .free->∃c,X.env.cells.lookup y.1=YB c:=λy hy e=>by
  obtain⟨n,k⟩:=y;have e':k= .free:=e;subst e';exact I.ok.has n (S.fr hy)
 rw[exec_Assign_Name_used _ _ _ _ hsw];refine Xb (wpAny_standAt (Xb ?_));show XJ _ X.A (do let _<-comprehension (.ListComp elt [⟨tg,iter,ifs,0⟩] sc pos) sc X.env _ (newList []) YF (eval iter X.env) (YB (U5 (.Name y py) X.env))) _ _ s;refine Xb (Bo (wpAny_comprehension_free (use:=YB (U5 (.Name y py) X.env)) (Q:=λ_ s'=>SP X pins D .next s') rfl hs (Zcd hfr) S.kind (λy hy e=>by obtain⟨n,k⟩:=y;have e':k= .local:=e;subst e';exact S.lk hy) ?_) (λ_ s' hq=>Xl (Xl hq)) λ_ _ e=>e);refine thn (hi pins s O H _ I h) λv s1 h1=>thn h1 λitv s2 h2=>?_;obtain⟨it,fp,tn,J,H2,e,I2,T,st2,f2,q⟩:=h2;subst e;refine JW ?_;refine thn (Zhy (iter:=iter) (pos:=pos) (Qf:=compPost (X8 X.prog X.w) X.A X.xe (YB (U5 (.Name y py) X.env)) (λ_ s'=>SP X pins D .next s') (.ref s2.heap.objs.size) (s2.heap.objs.size+1)) S hc hg ht he I2 T st2 f2 (q s2.heap.objs.size I2.fresh) ?_) λcenv s4 ⟨hl,hr⟩=>?_
 .intro s' O' H' p' C cells I' eC q'
  subst eC;obtain⟨m,hn,_⟩:=id I'.loc;have I3:Inv X pins O H' s':=Zmk I2 f2 I' (.refl ..);show XJ _ X.A (U5 (.Name y py) X.env (.ref s2.heap.objs.size)) _ _ s';refine wpAny_assign_Name (Zj1 (v:=.ref s2.heap.objs.size) I3 hN hy hx rfl (λs5 I5 hsb=>?_) hf);have hC:s2.heap.objs.size<s2.heap.objs.size+1:=QB _;have ltL:X.env.locals<s2.heap.objs.size:=I2.lt;have ltC:∀x c,X.env.cells.lookup x=YB c->c<s2.heap.objs.size:=λx c e=>by
   obtain⟨w',z⟩:=I2.cell x c e;exact z.lt
  refine⟨m,?_,λh' hs'=>⟨O.set i (YB (.ref s2.heap.objs.size)),H',?_,q'⟩⟩
  .obtain⟨a,hsa,ha⟩:=hsb
   refine hn.sameBut hsa ?_;rcases ha with ha|ha
   .rw[ha];exact X6 (Vm ltL hC)
   .exact X6 (Vm (ltC _ _ ha) hC)
  .refine I5.turned (t':=s5.toks) (it:=s2.heap.objs.size+1) (λb o hb e=>(hs'.2 b hb).trans e) I'.free (X6 (Vm ltL hC)) (.inr (QM I2.sz (Vn hC))) (λx c e=>Xp (Vm (ltC x c e) hC)) λp hp=>?_
   obtain⟨e,_⟩:=I2.pin p hp;exact Xp (Vm (XN e) hC)
 .rw[<-hl]at hr
  exact hr
end
section
variable (n:Nat)(D:YG)(Pv:Nat->List V->St->Hp->Prop)
variable {n D Pv}
end
mutual
inductive Is(H:Hp)(L:YG->Prop):V->Xa->Prop where
 | non:Is H L .non .none
 | bl (b:Bool):Is H L (.bl b) (.bool b)
 | int (i:Int):Is H L (.int i) (.int i)
 | str (x:Str):Is H L (.str x) (.str x)
 | lst {a:YG} {xs:List V} {ds:List Xa}:L a->H a=YB (.lst xs)->IsAll H L xs ds->Is H L (.ref a) (.list ds)
 | tup {a:YG} {xs:List V} {ds:List Xa}:H a=YB (.tup xs)->IsAll H L xs ds->Is H L (.ref a) (.tuple ds)
inductive IsAll(H:Hp)(L:YG->Prop):List V->List Xa->Prop where
 | nil:IsAll H L [] []
 | cons {x:V} {xs:List V} {d:Xa} {ds:List Xa}:Is H L x d->IsAll H L xs ds->IsAll H L (x::xs) (d::ds)
end
section
variable {L L':YG->Prop}
theorem IsAll.ind{Q:List V->List Xa->Prop}(n:Q [] [])(c:∀{x:V} {xs:List V} {d:Xa} {ds:List Xa},Is H L x d->IsAll H L xs ds->Q xs ds->Q (x::xs) (d::ds)):∀{xs ds},IsAll H L xs ds->Q xs ds:=λh=>
 IsAll.rec (motive_1:=λ_ _ _=>True) (motive_2:=λxs ds _=>Q xs ds) trivial (λ_=>trivial) (λ_=>trivial) (λ_=>trivial) (λ_ _ _ _=>trivial) (λ_ _ _=>trivial) n (λp q _ r=>c p q r) h
theorem IsAll.length{xs:List V}{ds:List Xa}(h:IsAll H L xs ds):xs.length=ds.length:=IsAll.ind (Q:=λxs ds=>xs.length=ds.length) rfl (λ_ _ r=>YW (·+1) r) h
theorem IsAll.set{xs:List V}{ds:List Xa}{x:V}{d:Xa}(i:Nat)(h:IsAll H L xs ds)(k:Is H L x d):IsAll H L (xs.set i x) (ds.set i d) :=
 IsAll.ind (Q:=λxs ds=>∀i,IsAll H L (xs.set i x) (ds.set i d)) (λ_=>.nil) (λh q r i=>Nat.casesOn i (.cons k q) λi=>.cons h (r i)) h i
end
section
variable {O:St}{L L':YG->Prop}
end
abbrev Shp(d:Xa):Prop:=Um d=YD
mutual
def Z7:Xa->Bool
 | .none=>YD
 | .int _=>YD
 | .str _=>YD
 | .list ds=>J3 ds
 | .tuple ds=>J3 ds
 | _=>YF
def J3:List Xa->Bool
 | []=>YD
 | d::ds=>Z7 d&&J3 ds
end
mutual
theorem Zlr:∀(d e:Xa),Z7 d=YD->Z7 e=YD->(QS d e=YD↔d=e)
 | .none,e,_,he=>by cases e<;>simp_all [QS,Z7]
 | .int i,e,_,he=>by cases e<;>simp_all [QS,Z7]
 | .str i,e,_,he=>by cases e<;>simp_all [QS,Z7]
 | .list ds,e,hd,he=>by
  cases e with
  | list es=>
   rw[Z7]at hd he;rw[QS,Bj.injEq];exact Zdu ds es hd he
  | _=>simp_all [QS,Z7]
 | .tuple ds,e,hd,he=>by
  cases e with
  | tuple es=>
   rw[Z7]at hd he;rw[QS,VN.injEq];exact Zdu ds es hd he
  | _=>simp_all [QS,Z7]
 | .bool b,e,hd,_=>by simp[Z7]at hd
 | .dict b,e,hd,_=>by simp[Z7]at hd
theorem Zdu:∀(ds es:List Xa),J3 ds=YD->J3 es=YD->(PyData.eqvAll ds es=YD↔ds=es)
 | [],[],_,_=>by simp[PyData.eqvAll]
 | [],_::_,_,_=>by simp[PyData.eqvAll]
 | _::_,[],_,_=>by simp[PyData.eqvAll]
 | d::ds,e::es,hd,he=>by
  rw[J3,X3]at hd he;rw[PyData.eqvAll,X3,Zlr d e hd.1 he.1,Zdu ds es hd.2 he.2,List.cons.injEq]
end
theorem Zzi{d e:Xa}(h:Z7 d=YD)(k:Z7 e=YD)(q:d=e):QS d e=YD:=(Zlr d e h k).mpr q
theorem Zy5{d e:Xa}(h:Z7 d=YD)(k:Z7 e=YD)(q:d≠e):QS d e=YF:=Vf.mpr λz=>q ((Zlr d e h k).mp z)
def fr(a b:Int):Xa:=.tuple [.int a,.int b]
def frD(q:Rat):Xa:=fr q.num (q.den:Int)
def BQ(n:Nat)(q:Rat):Prop:=Bt n q.num/\Bt n (q.den:Int)
theorem BQ.zero:BQ 1 0:=⟨by unfold Bt;decide,by unfold Bt;decide⟩
section
variable {a o:YJ}
theorem Zm6(hK:X.K=K):IxR X (Ybs K):=hK▸Zur
theorem Zln(hK:X.K=K):IxR X (rIx K):=hK▸Z7p
theorem Zwj(hK:X.K=K):SlR X (Ygo K):=hK▸Z13
def Ye1(K:Xd):List V->Hp->VK->Prop:=λxs H Q=>∃p ys,xs=[.ref p]/\(SqL K H p ys\/SqT K H p ys)/\Q (.int ys.length) H
theorem Zp1(hK:X.K=K):Zbm X (.builtin "len") (Ye1 K):=by subst hK;exact Zkx
def Zr5(K:Xd):List V->Hp->VK->Prop:=λxs H Q=>∃p ys,xs=[.ref p]/\(SqL K H p ys\/SqT K H p ys)/\∀l,H l=YC->Q (.ref l) (upd H l (.lst ys))
theorem Zof(hK:X.K=K):Zbm X (.type "list") (Zr5 K):=by subst hK;exact Zjf
def Yhg(K:Xd)(ta:TE):TT:=λO H Q=>ta O H λx H'=>∃k,Yds K x H' k/\Q k H'
theorem Z32(hK:X.K=K)(ha:PE X a ta)(he:∀whole,isTrue a X.env whole=(do let v<-whole;standAt a.pos;holding [v] (truthy v))):PT X a (Yhg K ta):=by subst hK;exact Zwl ha he
theorem Zvv{l:YJ}(hK:X.K=K)(hl:PE X l tl):PI X tg l (Z98 K tl):=by subst hK;exact Z19 hl
theorem Z3f{l:YJ}(hK:X.K=K)(hl:PE X l tl):PI X tg l (Yff K tl):=by subst hK;exact Z5q hl
theorem Zy4(hK:X.K=K):OpR X (QH .In) (rIn K YF):=by subst hK;exact Zru
theorem Zrl(hK:X.K=K):OpR X (QH .NotIn) (rIn K YD):=by subst hK;exact Zkv
end
theorem Zv{p:YG}(h:H p=YC)(o:HO):Same H (upd H p o):=λb u q=>by rw[Zq (Yn q h)];exact q
def But(p:YG)(H H':Hp):Prop:=∀b o,b≠p->H b=YB o->H' b=YB o
theorem But.upd(p:YG)(H:Hp)(o:HO):But p H (upd H p o):=λb u n e=>by rw[Zq n];exact e
def Pl(H:Hp)(p:YG)(n:Nat):Prop:=∃a b c:Int,H p=YB (.lst [.int a,.int b,.int c])/\0<=c/\c<=n
theorem Pl.at{H:Hp}{p:YG}{n:Nat}(h:Pl H p n):∃xs,H p=YB (.lst xs):=by
 obtain⟨a,b,c,e,h1,h2⟩:=h;exact⟨_,e⟩
namespace B
theorem boot_len:Qe "len"=YB (.builtin "len"):=by decide +kernel
theorem boot_max:Qe "max"=YB (.builtin "max"):=by decide +kernel
theorem boot_min:Qe "min"=YB (.builtin "min"):=by decide +kernel
theorem boot_isinstance:Qe "isinstance"=YB (.builtin "isinstance"):=by decide +kernel
theorem boot_sorted:Qe "sorted"=YB (.builtin "sorted"):=by decide +kernel
theorem boot_all:Qe "all"=YB (.builtin "all"):=by decide +kernel
theorem boot_int:Qe "int"=YB (.type "int"):=by decide +kernel
theorem boot_bool:Qe "bool"=YB (.type "bool"):=by decide +kernel
theorem boot_str:Qe "str"=YB (.type "str"):=by decide +kernel
theorem boot_list:Qe "list"=YB (.type "list"):=by decide +kernel
theorem boot_tuple:Qe "tuple"=YB (.type "tuple"):=by decide +kernel
theorem boot_range:Qe "range"=YB (.type "range"):=by decide +kernel
theorem boot_zip:Qe "zip"=YB (.type "zip"):=by decide +kernel
theorem boot_enumerate:Qe "enumerate"=YB (.type "enumerate"):=by decide +kernel
theorem boot_set:Qe "set"=YB (.type "set"):=by decide +kernel
end B
theorem Zm0{a b:Int}(hb:0<b):a.fmod b=a%b:=Int.fmod_eq_emod_of_nonneg a (by omega)
theorem Zzg:(2:Nat)<=XC:=by decide
theorem BQ.n{n:Nat}{q:Rat}(h:BQ n q):Bt n q.num:=h.1
theorem BQ.d{n:Nat}{q:Rat}(h:BQ n q):Bt n (q.den:Int):=h.2
variable {XP:(Str->Option Xe)->YH->Prop}{l:YG}{L L':YG->Prop}{env:Env}{elt:YJ}{J:It}{ifs:List YJ}{ns:List Int}{caps:List Nat}{loose own N':List Str}{ds:List Xa}{m:Nat}{py:Pos}{YP:Qo->YH->Prop}{R:Result->Xg->Prop}{G:Xd}
def KS(G:Xd)(a:YG)(ns:List Int):Prop:=∃(o:Obj) (its:Array Xe) (n:Nat),G.lookup a=YB o/\o.cls= .type "list"/\o.dict=YC/\o.data= .seq its n/\its.size<=XC/\Vals (ns.map V.int) its.toList
theorem KS.sq(h:KS G a ns):SqL G H a (ns.map V.int):=.inr h
def exD(x:Str):Xa:=.dict [(.str x,.none)]
def fnD(x:Str):Xa:=.dict [(.str x,.bool YD)]
def Zg8:Xa->Bool| .dict ((_,.bool _)::_)=>YD|_=>YF
def ClsAt(G:Xd)(x:Str)(C:YG):Prop:=QR G Ql x=YB (YB (.ref C))
structure Zd0(G:Xd)(C:YG):Prop where
 ga:VG G (.ref C) "__getattribute__"=YB (YB (.builtin "BaseException.__getattribute__"))
 gt:VG G (.ref C) "__getattr__"=YB YC
 cl:VG G (.ref C) "__class__"=YB (YB (.builtin "object.__class__"))
 isB:PySem.W.subIn G (.ref C) (.type "BaseException")=YB YD
 isO:PySem.W.subIn G (.ref C) (.type "object")=YB YD
 isC:(PySem.W.clsIn G C).isSome=YD
 k1:VF G (.ref C) (.type "int")=YB YF
 k2:VF G (.ref C) (.type "bool")=YB YF
 k3:VF G (.ref C) (.type "str")=YB YF
 k4:VF G (.ref C) (.type "list")=YB YF
 k5:VF G (.ref C) (.type "tuple")=YB YF
def ExO(C a:YG)(h:YH):Prop:=∃o vs,h.get? a=YB o/\o.cls= .ref C/\o.data= .fields vs
inductive ImO where
 | tup (xs:List V)
 | ext (φ:YH->Prop)
def ImO.ho:ImO->HO
 | .tup xs=>.tup xs
 | .ext φ=>.ext φ
inductive MuO where
 | lst (xs:List V)
 | dK (kvs:List (Key×V))
 | dT (kvs:List (List Key×V))
def MuO.ho:MuO->HO
 | .lst xs=>.lst xs
 | .dK kvs=>.dK kvs
 | .dT kvs=>.dT kvs
def Z6p:Key->Xa
 | .inl i=>.int i
 | .inr x=>.str x
def keyT(ks:List Key):Xa:=.tuple (ks.map Z6p)
abbrev KY:=Sum Key (List Key)
def kyD:KY->Xa
 | .inl k=>Z6p k
 | .inr ks=>keyT ks
def MuO.dic(t:Bool)(ks:List KY)(xs:List V):MuO->Prop
 | .lst _=>False
 | .dK kvs=>t=YF/\ks=kvs.map (λp=>.inl p.1)/\xs=kvs.map (·.2)
 | .dT kvs=>t=YD/\ks=kvs.map (λp=>.inr p.1)/\xs=kvs.map (·.2)
def dcD(t:Bool)(ks:List KY)(ds:List Xa):Xa:=.dict ((.none,.bool t)::(ks.map kyD).zip ds)
theorem ImO.nm{H:Hp}{a:YG}{x:ImO}{y:MuO}(h:H a=YB x.ho)(h':H a=YB y.ho):False:=by
 rw[h]at h';cases x<;>cases y<;>cases h'
theorem ImO.nl{x:ImO}(h:H a=YB x.ho)(h':H a=YB (.lst ys)):False:=by
 rw[h]at h';cases x<;>cases h'
mutual
inductive Da(G:Xd)(H:Hp)(L:YG->Prop):V->Xa->Prop where
 | non:Da G H L .non .none
 | bl (b:Bool):Da G H L (.bl b) (.bool b)
 | int (i:Int):Da G H L (.int i) (.int i)
 | str (x:Str):Da G H L (.str x) (.str x)
 | lst {a:YG} {xs:List V} {ds:List Xa}:L a->Rd H a (.lst xs)->Das G H L xs ds->Da G H L (.ref a) (.list ds)
 | tup {a:YG} {xs:List V} {ds:List Xa}:H a=YB (.tup xs)->Das G H L xs ds->Da G H L (.ref a) (.tuple ds)
 | scr {a:YG} {ns:List Int}:KS G a ns->Da G H L (.ref a) (.list (ns.map Xw))
 | exc {a C:YG} {x:Str}:Zd0 G C->ClsAt G x C->H a=YB (.ext (ExO C a))->Da G H L (.ref a) (exD x)
 | fn {a:YG} {x:Str}:ClsAt G x a->Da G H L (.ref a) (fnD x)
 | dic {a:YG} {o:MuO} {t:Bool} {ks:List KY} {xs:List V} {ds:List Xa}:L a->Rd H a o.ho->o.dic t ks xs->Das G H L xs ds->Da G H L (.ref a) (dcD t ks ds)
inductive Das(G:Xd)(H:Hp)(L:YG->Prop):List V->List Xa->Prop where
 | nil:Das G H L [] []
 | cons {x:V} {xs:List V} {d:Xa} {ds:List Xa}:Da G H L x d->Das G H L xs ds->Das G H L (x::xs) (d::ds)
end
theorem Da.both{P:V->Xa->Prop}{Q:List V->List Xa->Prop}(c1:P .non .none)(c2:∀b,P (.bl b) (.bool b))(c3:∀i,P (.int i) (.int i))(c4:∀x,P (.str x) (.str x))
  (c5:∀{a:YG} {xs:List V} {ds:List Xa},L a->Rd H a (.lst xs)->Q xs ds->P (.ref a) (.list ds)) (c6:∀{a:YG} {xs:List V} {ds:List Xa},H a=YB (.tup xs)->Q xs ds->P (.ref a) (.tuple ds))
  (c7:∀{a:YG} {ns:List Int},KS G a ns->P (.ref a) (.list (ns.map Xw))) (c8:∀{a C:YG} {x:Str},Zd0 G C->ClsAt G x C->H a=YB (.ext (ExO C a))->P (.ref a) (exD x)) (c9:∀{a:YG} {x:Str},ClsAt G x a->P (.ref a) (fnD x))
  (c10:∀{a:YG} {o:MuO} {t:Bool} {ks:List KY} {xs:List V} {ds:List Xa},L a->Rd H a o.ho->o.dic t ks xs->Q xs ds->P (.ref a) (dcD t ks ds)) (n:Q [] []) (c:∀{x:V} {xs:List V} {d:Xa} {ds:List Xa},P x d->Q xs ds->Q (x::xs) (d::ds)):(∀{v d},Da G H L v d->P v d)/\∀{xs ds},Das G H L xs ds->Q xs ds :=
 ⟨λh=>Da.rec (motive_1:=λv d _=>P v d) (motive_2:=λxs ds _=>Q xs ds) c1 c2 c3 c4 (λp e _ r=>c5 p e r) (λe _ r=>c6 e r) (λk=>c7 k) (λk l m=>c8 k l m) (λk=>c9 k) (λp e k _ r=>c10 p e k r) n (λ_ _ p q=>c p q) h,
   λh=>Das.rec (motive_1:=λv d _=>P v d) (motive_2:=λxs ds _=>Q xs ds) c1 c2 c3 c4 (λp e _ r=>c5 p e r) (λe _ r=>c6 e r) (λk=>c7 k) (λk l m=>c8 k l m) (λk=>c9 k) (λp e k _ r=>c10 p e k r) n (λ_ _ p q=>c p q) h⟩
theorem Das.ind{Q:List V->List Xa->Prop}(n:Q [] [])(c:∀{x:V} {xs:List V} {d:Xa} {ds:List Xa},Da G H L x d->Das G H L xs ds->Q xs ds->Q (x::xs) (d::ds)):∀{xs ds},Das G H L xs ds->Q xs ds:=λh=>
 Das.rec (motive_1:=λ_ _ _=>True) (motive_2:=λxs ds _=>Q xs ds) trivial (λ_=>trivial) (λ_=>trivial) (λ_=>trivial) (λ_ _ _ _=>trivial) (λ_ _ _=>trivial) (λ_=>trivial) (λ_ _ _=>trivial) (λ_=>trivial) (λ_ _ _ _ _=>trivial) n (λp q _ r=>c p q r) h
theorem Da.frame2(hl:∀a (xs:MuO),L a->Rd H a xs.ho->L' a/\Rd H' a xs.ho)(ht:∀a (xs:ImO),H a=YB xs.ho->H' a=YB xs.ho):(∀{v:V} {d:Xa},Da G H L v d->Da G H' L' v d)/\∀{xs:List V} {ds:List Xa},Das G H L xs ds->Das G H' L' xs ds :=
 Da.both .non .bl .int .str (fun{_ xs _} p e r=>.lst (hl _ (.lst xs) p e).1 (hl _ (.lst xs) p e).2 r) (fun{_ xs _} e r=>.tup (ht _ (.tup xs) e) r) .scr (λc n e=>.exc c n (ht _ (.ext _) e)) .fn (λp e k r=>.dic (hl _ _ p e).1 (hl _ _ p e).2 k r) .nil .cons
theorem Da.frame(hl:∀a (xs:MuO),L a->Rd H a xs.ho->L' a/\Rd H' a xs.ho)(ht:∀a (xs:ImO),H a=YB xs.ho->H' a=YB xs.ho){v:V}{d:Xa}(h:Da G H L v d):Da G H' L' v d:=(Da.frame2 hl ht).1 h
theorem Das.frame(hl:∀a (xs:MuO),L a->Rd H a xs.ho->L' a/\Rd H' a xs.ho)(ht:∀a (xs:ImO),H a=YB xs.ho->H' a=YB xs.ho){xs:List V}{ds:List Xa}(h:Das G H L xs ds):Das G H' L' xs ds:=(Da.frame2 hl ht).2 h
theorem Rd.same{u:HO}(s:Same H H')(h:Rd H a u):Rd H' a u:=h.imp (s _ _) λ⟨o,h⟩=>⟨o,s _ _ h⟩
theorem Rd.some{a:YG}{u:HO}(h:Rd H a u):H a≠Option.none:=by
 rcases h with h|⟨o,h⟩<;>rw[h]<;>intro z<;>cases z
theorem Da.same(h:Same H H'){d:Xa}(x:Da G H L v d):Da G H' L v d:=x.frame (λa xs p e=>⟨p,e.same h⟩) λa xs e=>h _ _ e
theorem Das.same(h:Same H H'){v:List V}{d:List Xa}(x:Das G H L v d):Das G H' L v d:=x.frame (λa xs p e=>⟨p,e.same h⟩) λa xs e=>h _ _ e
theorem Da.wide(h:∀a,L a->H a≠YC->L' a){d:Xa}(x:Da G H L v d):Da G H L' v d:=x.frame (λa xs p e=>⟨h a p e.some,e⟩) λa xs e=>e
theorem Das.wide(h:∀a,L a->H a≠YC->L' a){v:List V}{d:List Xa}(x:Das G H L v d):Das G H L' v d:=x.frame (λa xs p e=>⟨h a p e.some,e⟩) λa xs e=>e
theorem Das.length{xs:List V}{ds:List Xa}(h:Das G H L xs ds):xs.length=ds.length:=Das.ind (Q:=λxs ds=>xs.length=ds.length) rfl (λ_ _ r=>YW (·+1) r) h
theorem Das.append{es:List Xa}(h:Das G H L xs ds)(k:Das G H L ys es):Das G H L (xs++ys) (ds++es):=Das.ind (Q:=λxs ds=>Das G H L (xs++ys) (ds++es)) k (λh _ r=>.cons h r) h
theorem Das.snoc{x:V}{d:Xa}(h:Das G H L xs ds)(k:Da G H L x d):Das G H L (xs++[x]) (ds++[d]):=h.append (.cons k .nil)
theorem Das.get{d:Xa}(h:Das G H L xs ds):ds[i]? =YB d->∃x,xs[i]? =YB x/\Da G H L x d :=
 Das.ind (Q:=λxs ds=>∀i,ds[i]? =YB d->∃x,xs[i]? =YB x/\Da G H L x d) (λ_ e=>(Option.some_ne_none _ (e.symm.trans UV)).elim) (fun{x _ _ _} h _ r i=>Nat.casesOn i (λe=>⟨x,rfl,Qy e▸h⟩) λi e=>r i e) h i
theorem Das.get'{x:V}(h:Das G H L xs ds):xs[i]? =YB x->∃d,ds[i]? =YB d/\Da G H L x d :=
 Das.ind (Q:=λxs ds=>∀i,xs[i]? =YB x->∃d,ds[i]? =YB d/\Da G H L x d) (λ_ e=>(Option.some_ne_none _ (e.symm.trans UV)).elim) (fun{_ _ d _} h _ r i=>Nat.casesOn i (λe=>⟨d,rfl,Qy e▸h⟩) λi e=>r i e) h i
theorem Das.take(n:Nat)(h:Das G H L xs ds):Das G H L (xs.take n) (ds.take n) :=
 Das.ind (Q:=λxs ds=>∀n,Das G H L (xs.take n) (ds.take n)) (λn=>by rw[List.take_nil,List.take_nil];exact .nil) (λh _ r n=>Nat.casesOn n .nil λn=>.cons h (r n)) h n
theorem Das.drop{xs:List V}{ds:List Xa}(n:Nat)(h:Das G H L xs ds):Das G H L (xs.drop n) (ds.drop n) :=
 Das.ind (Q:=λxs ds=>∀n,Das G H L (xs.drop n) (ds.drop n)) (λn=>by rw[List.drop_nil,List.drop_nil];exact .nil) (λh q r n=>Nat.casesOn n (.cons h q) λn=>r n) h n
theorem Das.ints(ns:List Int):Das G H L (ns.map V.int) (ns.map Xw):=by
 induction ns with
 | nil=>exact .nil
 | cons n ns ih=>exact .cons (.int n) ih
theorem Das.int_inv(h:Das G H L xs (ns.map Xw)):xs=ns.map V.int:=by
 induction ns generalizing xs with
 | nil=>cases h;rfl
 | cons n ns ih=>
  rw[X4]at h;cases h with
  | cons h r=>cases h;rw[ih r];rfl
theorem Zog(ns:List Int)(v:Vals (ns.map V.int) us):∃as,ReadsAll h us (ns.map Xw) as:=by
 induction ns generalizing us with
 | nil=>cases v;exact⟨_,.nil⟩
 | cons n ns ih=>
  rw[X4]at v;cases v with
  | cons r rs=>
   obtain⟨t,e⟩:=(show∃t,_=Vl n t from r);subst e;obtain⟨bs,k'⟩:=ih rs;exact⟨_,.cons (.int n t) k'⟩
section
variable {O:St}
theorem Da.reads2(hG:X.K=G)(I:Inv X pins O H s):(∀{v:V} {d:Xa},Da G H L v d->∀u,RelV v u->d.canLay0=YD->∃as,Reads s.heap u d as)/\∀{xs:List V} {ds:List Xa},Das G H L xs ds->∀us,Vals xs us->Bq ds=YD->∃as,ReadsAll s.heap us ds as:=by
 refine Da.both ?_ ?_ ?_ ?_ ?_ ?_ ?_ ?_ ?_ ?_ ?_ ?_
 .intro u r _
  cases(show _=QJ from r);exact⟨_,.none⟩
 .intro b u r _
  cases(show _=Value.bool b from r);exact⟨_,.bool b⟩
 .intro i u r _
  obtain⟨t,e⟩:=(show∃t,_=Vl i t from r);subst e;exact⟨_,.int i t⟩
 .intro x u r _
  obtain⟨t,e⟩:=(show∃t,_=Value.str x t from r);subst e;exact⟨_,.str x t⟩
 .intro a xs ds _ e q u r hcl
  cases(show _=Xz a from r);obtain⟨_,its,n,vs,h1⟩:=(show ObjOk X.prog X.w H s.heap a (.lst xs)from e.ok I.hok);rw[Br]at hcl;obtain⟨as,k⟩:=q _ vs hcl;exact⟨_,Reads.list h1 rfl rfl k⟩
 .intro a xs ds e q u r hcl
  cases(show _=Xz a from r);obtain⟨_,its,vs,o,ho,hc,n,hd⟩:=(show ObjOk X.prog X.w H s.heap a (.tup xs)from I.hok a _ e);rw[Br]at hcl;obtain⟨as,k⟩:=q _ vs hcl;exact⟨_,Reads.tuple ho hc hd k⟩
 .intro a ns k u r _
  cases(show _=Xz a from r);subst hG;obtain⟨its,vs,⟨o,n,ho,hc,hd,hs⟩,_⟩:=I.list (k.sq (H:=H));obtain⟨as,q⟩:=Zog ns vs;exact⟨_,Reads.list ho hc hs q⟩
 .intro a C x _ _ e u r hc
  rw[exD,Br]at hc;cases hc
 .intro a x _ u r hc
  rw[fnD,Br]at hc;cases hc
 .intro a o t ks xs ds _ _ _ _ u r hc
  rw[dcD,Br]at hc;cases hc
 .intro us v _
  cases v;exact⟨_,.nil⟩
 .intro x xs d ds h q us v hc
  cases v with
  | cons r rs=>
   rw[Bq,X3]at hc;obtain⟨as,k⟩:=h _ r hc.1;obtain⟨bs,k'⟩:=q _ rs hc.2;exact⟨_,.cons k k'⟩
theorem Da.reads(hG:X.K=G)(I:Inv X pins O H s){d:Xa}(h:Da G H L v d)(r:RelV v u)(c:d.canLay0=YD):∃as,Reads s.heap u d as:=(Da.reads2 hG I).1 h u r c
theorem Das.reads(hG:X.K=G)(I:Inv X pins O H s)(h:Das G H L xs ds)(r:Vals xs us)(c:Bq ds=YD):∃as,ReadsAll s.heap us ds as:=(Da.reads2 hG I).2 h us r c
end
inductive OT where
 | fz (d:Xa)
 | nd (ts:List OT)
 | tp (ts:List OT)
 | dc (t:Bool) (ks:List KY) (ds:List Xa)
mutual
def OT.data:OT->Xa
 | .fz d=>d
 | .nd ts=>.list (OT.datas ts)
 | .tp ts=>.tuple (OT.datas ts)
 | .dc t ks ds=>dcD t ks ds
def OT.datas:List OT->List Xa
 | []=>[]
 | t::ts=>t.data::OT.datas ts
end
theorem OT.datas_map:∀(ts:List OT),OT.datas ts=ts.map OT.data
 | []=>rfl
 | t::ts=>by rw[OT.datas,OT.datas_map ts];rfl
@[simp] theorem OT.data_fz(d:Xa):(OT.fz d).data=d:=by rw[OT.data]
@[simp] theorem OT.data_nd(ts:List OT):(OT.nd ts).data= .list (ts.map OT.data):=by rw[OT.data,OT.datas_map]
@[simp] theorem OT.data_tp(ts:List OT):(OT.tp ts).data= .tuple (ts.map OT.data):=by rw[OT.data,OT.datas_map]
theorem OT.data_dc(t:Bool)(ks:List KY)(ds:List Xa):(OT.dc t ks ds).data=dcD t ks ds:=by rw[OT.data]
@[simp] theorem OT.map_fz(ds:List Xa):(ds.map OT.fz).map OT.data=ds:=by
 rw[Qk];exact(XS λd _=>OT.data_fz d).trans (List.map_id _)
mutual
inductive Own(G:Xd)(H:Hp)(L:YG->Prop):V->OT->List YG->Prop where
 | fz {v:V} {d:Xa}:Da G H L v d->Own G H L v (.fz d) []
 | nd {a:YG} {xs:List V} {ts:List OT} {bs:List YG}:H a=YB (.lst xs)->Owns G H L xs ts bs->Own G H L (.ref a) (.nd ts) (a::bs)
 | tp {a:YG} {xs:List V} {ts:List OT} {bs:List YG}:H a=YB (.tup xs)->Owns G H L xs ts bs->Own G H L (.ref a) (.tp ts) bs
 | dc {a:YG} {o:MuO} {t:Bool} {ks:List KY} {xs:List V} {ds:List Xa}:H a=YB o.ho->o.dic t ks xs->Das G H L xs ds->Own G H L (.ref a) (.dc t ks ds) [a]
inductive Owns(G:Xd)(H:Hp)(L:YG->Prop):List V->List OT->List YG->Prop where
 | nil:Owns G H L [] [] []
 | cons {x:V} {xs:List V} {t:OT} {ts:List OT} {as bs:List YG}:Own G H L x t as->Owns G H L xs ts bs->Owns G H L (x::xs) (t::ts) (as++bs)
end
theorem Own.both{P:V->OT->List YG->Prop}{Q:List V->List OT->List YG->Prop}(c1:∀{v:V} {d:Xa},Da G H L v d->P v (.fz d) [])(c2:∀{a:YG} {xs:List V} {ts:List OT} {bs:List YG},H a=YB (.lst xs)->Q xs ts bs->P (.ref a) (.nd ts) (a::bs))
  (c3:∀{a:YG} {xs:List V} {ts:List OT} {bs:List YG},H a=YB (.tup xs)->Q xs ts bs->P (.ref a) (.tp ts) bs) (c4:∀{a:YG} {o:MuO} {t:Bool} {ks:List KY} {xs:List V} {ds:List Xa},H a=YB o.ho->o.dic t ks xs->Das G H L xs ds->P (.ref a) (.dc t ks ds) [a]) (n:Q [] [] []) (c:∀{x:V} {xs:List V} {t:OT} {ts:List OT} {as bs:List YG},P x t as->Q xs ts bs->Q (x::xs) (t::ts) (as++bs)) :
  (∀ {v t as},Own G H L v t as->P v t as)/\∀{xs ts as},Owns G H L xs ts as->Q xs ts as :=
 ⟨λh=>Own.rec (motive_1:=λv t as _=>P v t as) (motive_2:=λxs ts as _=>Q xs ts as) c1 (λe _ r=>c2 e r) (λe _ r=>c3 e r) (λe k r=>c4 e k r) n (λ_ _ p q=>c p q) h,
   λh=>Owns.rec (motive_1:=λv t as _=>P v t as) (motive_2:=λxs ts as _=>Q xs ts as) c1 (λe _ r=>c2 e r) (λe _ r=>c3 e r) (λe k r=>c4 e k r) n (λ_ _ p q=>c p q) h⟩
theorem Own.frame2(hl:∀a (xs:MuO),L a->Rd H a xs.ho->L' a/\Rd H' a xs.ho)(ht:∀a (xs:ImO),H a=YB xs.ho->H' a=YB xs.ho) :
  (∀ {v:V} {t:OT} {as:List YG},Own G H L v t as->(∀a∈as,∀xs:MuO,H a=YB xs.ho->H' a=YB xs.ho)->Own G H' L' v t as)/\∀{xs:List V} {ts:List OT} {as:List YG},Owns G H L xs ts as->(∀a∈as,∀xs:MuO,H a=YB xs.ho->H' a=YB xs.ho)->Owns G H' L' xs ts as :=
 Own.both (λh _=>.fz (h.frame hl ht)) (fun{_ xs _ _} e r ha=>.nd (ha _ (.head _) (.lst xs) e) (r λa m=>ha a (.tail _ m))) (fun{_ xs _ _} e r ha=>.tp (ht _ (.tup xs) e) (r ha)) (λe k r ha=>.dc (ha _ (.head _) _ e) k (r.frame hl ht)) (λ_=>.nil) (λh r ha=>.cons (h λa m=>ha a (Qj _ m)) (r λa m=>ha a (Qg _ m)))
theorem Own.frame(hl:∀a (xs:MuO),L a->Rd H a xs.ho->L' a/\Rd H' a xs.ho)(ht:∀a (xs:ImO),H a=YB xs.ho->H' a=YB xs.ho){v:V}{t:OT}{as:List YG}(ha:∀a∈as,∀xs:MuO,H a=YB xs.ho->H' a=YB xs.ho)(h:Own G H L v t as):Own G H' L' v t as:=(Own.frame2 hl ht).1 h ha
theorem Owns.frame(hl:∀a (xs:MuO),L a->Rd H a xs.ho->L' a/\Rd H' a xs.ho)(ht:∀a (xs:ImO),H a=YB xs.ho->H' a=YB xs.ho){xs:List V}{ts:List OT}{as:List YG}(ha:∀a∈as,∀xs:MuO,H a=YB xs.ho->H' a=YB xs.ho)(h:Owns G H L xs ts as):Owns G H' L' xs ts as:=(Own.frame2 hl ht).2 h ha
theorem Own.same(h:Same H H'){t:OT}{as:List YG}(x:Own G H L v t as):Own G H' L v t as:=x.frame (λa xs p e=>⟨p,e.same h⟩) (λa xs e=>h _ _ e) λa _ xs e=>h _ _ e
theorem Own.wide(h:∀a,L a->H a≠YC->L' a){t:OT}{as:List YG}(x:Own G H L v t as):Own G H L' v t as:=x.frame (λa xs p e=>⟨h a p e.some,e⟩) (λa xs e=>e) λa _ xs e=>e
theorem Owns.wide(h:∀a,L a->H a≠YC->L' a){v:List V}{t:List OT}{as:List YG}(x:Owns G H L v t as):Owns G H L' v t as:=x.frame (λa xs p e=>⟨h a p e.some,e⟩) (λa xs e=>e) λa _ xs e=>e
theorem Owns.same(h:Same H H'){v:List V}{t:List OT}{as:List YG}(x:Owns G H L v t as):Owns G H' L v t as:=x.frame (λa xs p e=>⟨p,e.same h⟩) (λa xs e=>h _ _ e) λa _ xs e=>h _ _ e
theorem Own.da2(h:∀a,L a->H a≠YC->L' a):(∀{v:V} {t:OT} {as:List YG},Own G H L v t as->(∀a∈as,L' a)->Da G H L' v t.data)/\∀{v:List V} {t:List OT} {as:List YG},Owns G H L v t as->(∀a∈as,L' a)->Das G H L' v (OT.datas t) :=
 Own.both (λk _=>by rw[OT.data_fz];exact k.wide h) (λe r ha=>by rw[OT.data];exact .lst (ha _ (.head _)) (.inl e) (r λa m=>ha a (.tail _ m))) (λe r ha=>by rw[OT.data];exact .tup e (r ha)) (λe k r ha=>by rw[OT.data];exact .dic (ha _ (.head _)) (.inl e) k (r.wide h)) (λ_=>.nil) (λk r ha=>.cons (k λa m=>ha a (Qj _ m)) (r λa m=>ha a (Qg _ m)))
theorem Own.da(h:∀a,L a->H a≠YC->L' a){t:OT}{as:List YG}(ha:∀a∈as,L' a)(k:Own G H L v t as):Da G H L' v t.data:=(Own.da2 h).1 k ha
theorem Owns.das(h:∀a,L a->H a≠YC->L' a){v:List V}{t:List OT}{as:List YG}(ha:∀a∈as,L' a)(k:Owns G H L v t as):Das G H L' v (OT.datas t):=(Own.da2 h).2 k ha
theorem Own.some2:(∀{v:V} {t:OT} {as:List YG},Own G H L v t as->∀a∈as,∃xs:MuO,H a=YB xs.ho)/\∀{v:List V} {t:List OT} {as:List YG},Owns G H L v t as->∀a∈as,∃xs:MuO,H a=YB xs.ho :=
 Own.both (λ_ _ m=>nomatch m) (fun{_ xs _ _} e r a m=>(Xo.mp m).elim (λq=>⟨.lst xs,q▸e⟩) (r a)) (λ_ r=>r) (fun{_ o _ _ _ _} e _ _ a m=>⟨o,Xq.mp m▸e⟩) (λ_ m=>nomatch m) (λk r a m=>(Qn.mp m).elim (k a) (r a))
theorem Own.some{v:V}{t:OT}{as:List YG}(h:Own G H L v t as):∀a∈as,∃xs:MuO,H a=YB xs.ho:=Own.some2.1 h
theorem Owns.some{v:List V}{t:List OT}{as:List YG}(h:Owns G H L v t as):∀a∈as,∃xs:MuO,H a=YB xs.ho:=Own.some2.2 h
theorem Owns.length{xs:List V}{ts:List OT}{as:List YG}(h:Owns G H L xs ts as):xs.length=ts.length:=(Own.both (P:=λ_ _ _=>True) (Q:=λxs ts _=>xs.length=ts.length) (λ_=>trivial) (λ_ _=>trivial) (λ_ _=>trivial) (λ_ _ _=>trivial) rfl (λ_ r=>YW (·+1) r)).2 h
theorem Das.owns(h:Das G H L xs ds):Owns G H L xs (ds.map OT.fz) []:=Das.ind (Q:=λxs ds=>Owns G H L xs (ds.map OT.fz) []) .nil (λh _ r=>.cons (.fz h) r) h
abbrev Zf:=List (Option OT)
abbrev Fp:=Nat->List YG
set_option genInjectivity false in
structure MC(G:Xd) where
 H₀:Hp
 as₀:YG->Prop
 L:YG->Prop
 O₀:St
def Foot(fp:Fp)(a:YG):Prop:=∃i,a∈fp i
def Lf(C:MC G)(fp:Fp)(ex:YG->Prop)(a:YG):Prop:=¬Foot fp a/\¬ex a/\(C.L a\/C.H₀ a=YC)
structure Rel(C:MC G)(io:List Nat)(H:Hp)(O:St)(δ:Zf)(fp:Fp)(ex:YG->Prop):Prop where
 len:O.length=δ.length
 own:∀(i:Nat) (t:OT),δ[i]? =YB (YB t)->∃v,O[i]? =YB (YB v)/\Own G H (Lf C fp ex) v t (fp i)
 emp:∀i:Nat,(∀t,δ[i]? ≠YB (YB t))->fp i=[]
 nd:∀i,(fp i).Nodup
 dj:∀i j a,a∈fp i->a∈fp j->i=j
 dx:∀i a,a∈fp i->¬ex a
 xa:∀a,ex a->H a≠YC
 fr:∀b o,C.H₀ b=YB o->¬C.as₀ b->H b=YB o
 al:∀b,H b=YC->C.H₀ b=YC
 new:∀i a,a∈fp i->(i∈io/\C.as₀ a)\/C.H₀ a=YC
 io:∀i∈io,O[i]? =C.O₀[i]?
structure Stp(p:Bool)(H:Hp)(δ:Zf)(fp:Fp)(H':Hp)(δ':Zf)(fp':Fp):Prop where
 keep:∀b o,H b=YB o->(p=YD\/¬Foot fp b)->H' b=YB o
 env:p=YD->δ'=δ/\fp'=fp
 grow:∀a,Foot fp' a->Foot fp a\/H a=YC
 al:∀b,H' b=YC->H b=YC
section
variable {C:MC G}{io:List Nat}{H'':Hp}{O:St}{δ δ' δ'':Zf}{fp fp' fp'':Fp}{ex ex':YG->Prop}{p p' c:Bool}{d:Xa}{r:OT}{new:List YG}
theorem Rel.foot(R:Rel C io H O δ fp ex)(h:Foot fp a):∃xs:MuO,H a=YB xs.ho:=by
 obtain⟨i,h⟩:=h
 by_cases q:∃t,δ[i]? =YB (YB t)
 .obtain⟨t,q⟩:=q
  obtain⟨v,_,o⟩:=R.own i t q;exact o.some a h
 .rw[R.emp i (λt z=>q ⟨t,z⟩)]at h
  exact nomatch h
theorem Rel.footSome(R:Rel C io H O δ fp ex)(h:H a=YC):¬Foot fp a:=λz=>by
 obtain⟨xs,e⟩:=R.foot z;rw[h]at e;cases e
theorem Stp.refl(p:Bool)(H:Hp)(δ:Zf)(fp:Fp):Stp p H δ fp H δ fp:=⟨λ_ _ h _=>h,λ_=>⟨rfl,rfl⟩,λ_ h=>.inl h,λ_ h=>h⟩
theorem Stp.same(h:Same H H')(hn:∀b,H' b=YC->H b=YC):Stp p H δ fp H' δ fp:=⟨λ_ _ q _=>h _ _ q,λ_=>⟨rfl,rfl⟩,λ_ h=>.inl h,hn⟩
theorem Same.al(h:Same H H'):∀b,H' b=YC->H b=YC:=λ_ q=>h.free q
theorem Stp.trans(a:Stp p H δ fp H' δ' fp')(b:Stp p' H' δ' fp' H'' δ'' fp''):Stp (p&&p') H δ fp H'' δ'' fp'' where
 keep:=λx o e h=>by
  rcases h with h|h
  .rw[X3]at h
   exact b.keep x o (a.keep x o e (.inl h.1)) (.inl h.2)
  .refine b.keep x o (a.keep x o e (.inr h)) (.inr λz=>?_)
   rcases a.grow x z with z|z
   .exact h z
   .rw[e]at z;cases z
 env:=λh=>by
  rw[X3]at h;obtain⟨e1,e2⟩:=a.env h.1;obtain⟨e3,e4⟩:=b.env h.2;exact⟨e3.trans e1,e4.trans e2⟩
 grow:=λx h=>by
  rcases b.grow x h with h|h
  .exact a.grow x h
  .exact .inr (a.al x h)
 al:=λx h=>a.al x (b.al x h)
theorem Rel.frameL(R:Rel C io H O δ fp ex)(S:Stp p H δ fp H' δ' fp')(hc:p=YD\/c=YD)(hx:∀a,ex' a->ex a\/H a=YC) :
  (∀ a (xs:MuO),(c=YD->Lf C fp ex a)->Rd H a xs.ho->(c=YD->Lf C fp' ex' a)/\Rd H' a xs.ho)/\(∀a (xs:ImO),H a=YB xs.ho->H' a=YB xs.ho):=by
 have nf:∀a,Foot fp a->∃xs:MuO,H a=YB xs.ho:=λa h=>R.foot h;refine⟨λa xs l q=>⟨λhc'=>?_,?_⟩,λa xs q=>S.keep a _ q (.inr λz=>?_)⟩
 .obtain⟨l1,l2,l3⟩:=l hc'
  refine⟨λz=>?_,λz=>?_,l3⟩
  .rcases S.grow a z with z|z
   .exact l1 z
   .exact q.some z
  .rcases hx a z with z|z
   .exact l2 z
   .exact q.some z
 .have hk:p=YD\/¬Foot fp a:=by
   rcases hc with h|h
   .exact .inl h
   .exact .inr (l h).1
  rcases q with q|⟨o,q⟩
  .exact .inl (S.keep a _ q hk)
  .exact .inr ⟨o,S.keep a _ q hk⟩
 .obtain⟨ys,e⟩:=nf a z
  exact ImO.nm q e
theorem Rel.own_step(R:Rel C io H O δ fp ex)(S:Stp p H δ fp H' δ' fp')(hc:p=YD\/c=YD)(hx:∀a,ex' a->ex a\/H a=YC)(hn:∀a∈new,ex a)
  (x:Own G H (λa=>c=YD->Lf C fp ex a) v r new):Own G H' (λa=>c=YD->Lf C fp' ex' a) v r new :=
 x.frame (R.frameL S hc hx).1 (R.frameL S hc hx).2 λa m xs e=>S.keep a _ e (.inr λ⟨i,z⟩=>R.dx i a z (hn a m))
theorem Rel.owns_step(R:Rel C io H O δ fp ex)(S:Stp p H δ fp H' δ' fp')(hc:p=YD\/c=YD)(hx:∀a,ex' a->ex a\/H a=YC)(hn:∀a∈new,ex a){vs:List V}{rs:List OT}
  (x:Owns G H (λa=>c=YD->Lf C fp ex a) vs rs new):Owns G H' (λa=>c=YD->Lf C fp' ex' a) vs rs new :=
 x.frame (R.frameL S hc hx).1 (R.frameL S hc hx).2 λa m xs e=>S.keep a _ e (.inr λ⟨i,z⟩=>R.dx i a z (hn a m))
theorem Rel.drop(R:Rel C io H O δ fp ex)(h:∀a,ex' a->ex a):Rel C io H O δ fp ex' :=
 ⟨R.len,λi t e=>by
  obtain⟨v,e1,o⟩:=R.own i t e;exact⟨v,e1,o.wide λa l _=>⟨l.1,λz=>l.2.1 (h a z),l.2.2⟩⟩,R.emp,R.nd,R.dj,λi a m z=>R.dx i a m (h a z),λa z=>R.xa a (h a z),R.fr,R.al,R.new,R.io⟩
theorem Rel.made(R:Rel C io H O δ fp ex)(s:Same H H')(hn:∀a∈new,H a=YC/\H' a≠YC):Rel C io H' O δ fp (λa=>ex a\/a∈new) :=
 ⟨R.len,λi t e=>by
  obtain⟨v,e1,o⟩:=R.own i t e;refine⟨v,e1,(o.wide λa l q=>⟨l.1,λz=>?_,l.2.2⟩).same s⟩;rcases z with z|z
  .exact l.2.1 z
  .exact q (hn a z).1,R.emp,R.nd,R.dj,λi a m z=>by
   rcases z with z|z
   .exact R.dx i a m z
   .exact R.footSome (hn a z).1 ⟨i,m⟩,λa z=>by
   rcases z with z|z
   .intro q;exact R.xa a z (s.free q)
   .exact(hn a z).2,λb o e n=>s _ _ (R.fr b o e n),λb q=>R.al b (s.free q),R.new,R.io⟩
end
abbrev MEt:=Zf->(OT->Zf->Prop)->Prop
abbrev MAt:=Zf->(List OT->Zf->Prop)->Prop
abbrev MTt:=Zf->(Bool->Zf->Prop)->Prop
abbrev exu(ex:YG->Prop)(new:List YG):YG->Prop:=λa=>ex a\/a∈new
structure RE(C:MC G)(io:List Nat)(p c:Bool)(H:Hp)(O:St)(δ:Zf)(fp:Fp)(ex:YG->Prop)(H':Hp)(v:V)(r:OT)(δ':Zf)(fp':Fp)(new:List YG):Prop where
 rel:Rel C io H' O δ' fp' (exu ex new)
 stp:Stp p H δ fp H' δ' fp'
 own:Own G H' (λa=>c=YD->Lf C fp' (exu ex new) a) v r new
 nd:new.Nodup
 fresh:∀a∈new,H a=YC
structure RA(C:MC G)(io:List Nat)(p c:Bool)(H:Hp)(O:St)(δ:Zf)(fp:Fp)(ex:YG->Prop)(H':Hp)(v:List V)(r:List OT)(δ':Zf)(fp':Fp)(new:List YG):Prop where
 rel:Rel C io H' O δ' fp' (exu ex new)
 stp:Stp p H δ fp H' δ' fp'
 own:Owns G H' (λa=>c=YD->Lf C fp' (exu ex new) a) v r new
 nd:new.Nodup
 fresh:∀a∈new,H a=YC
def SE(G:Xd)(io:List Nat)(p c:Bool)(t:TE)(m:MEt):Prop:=∀(C:MC G) (H:Hp) (O:St) (δ:Zf) (fp:Fp) (ex:YG->Prop) (K:OT->Zf->Prop) (Q:VK),Rel C io H O δ fp ex->m δ K ->
 (∀ H' v r δ' fp' new,RE C io p c H O δ fp ex H' v r δ' fp' new->K r δ'->Q v H')->t O H Q
def SA(G:Xd)(io:List Nat)(p c:Bool)(t:TA)(m:MAt):Prop:=∀(C:MC G) (H:Hp) (O:St) (δ:Zf) (fp:Fp) (ex:YG->Prop) (K:List OT->Zf->Prop) (Q:List V->Hp->Prop),Rel C io H O δ fp ex->m δ K ->
 (∀ H' v r δ' fp' new,RA C io p c H O δ fp ex H' v r δ' fp' new->K r δ'->Q v H')->t O H Q
def STt(G:Xd)(io:List Nat)(p:Bool)(t:TT)(m:MTt):Prop:=∀(C:MC G) (H:Hp) (O:St) (δ:Zf) (fp:Fp) (ex:YG->Prop) (K:Bool->Zf->Prop) (Q:Bool->Hp->Prop),Rel C io H O δ fp ex->m δ K ->
 (∀ H' b δ' fp',Rel C io H' O δ' fp' ex->Stp p H δ fp H' δ' fp'->K b δ'->Q b H')->t O H Q
def ME(X:Cx)(io:List Nat)(p c:Bool)(e:YJ)(m:MEt):Prop:=∃t,PE X e t/\SE X.K io p c t m
def MA(X:Cx)(io:List Nat)(p c:Bool)(e:List YJ)(m:MAt):Prop:=∃t,PA X e t/\SA X.K io p c t m
def MT(X:Cx)(io:List Nat)(p:Bool)(e:YJ)(m:MTt):Prop:=∃t,PT X e t/\STt X.K io p t m
def MW(X:Cx)(io:List Nat)(p:Bool)(e:YJ)(m:MTt):Prop:=∃t,PW X e t/\STt X.K io p t m
section
variable {C:MC G}{io:List Nat}{H'':Hp}{O:St}{δ δ' δ'':Zf}{fp fp' fp'':Fp}{ex ex':YG->Prop}{p p' c:Bool}{d:Xa}{r:OT}{vs:List V}{rs:List OT}{new:List YG}
theorem Rel.newOk(R:Rel C io H O δ fp ex)(h:H a=YC):¬Foot fp a/\¬ex a/\C.H₀ a=YC:=⟨R.footSome h,λz=>R.xa a z h,R.al a h⟩
theorem RE.da(R:RE C io p c H O δ fp ex H' v r δ' fp' new)(R0:Rel C io H O δ fp ex):Da G H' (λa=>c=YD->Lf C fp' ex a) v r.data:=by
 refine R.own.da (λa l _ h=>?_) (λa m _=>?_)
 .exact⟨(l h).1,λz=>(l h).2.1 (.inl z),(l h).2.2⟩
 .refine⟨λqz9=>?_,(R0.newOk (R.fresh a m)).2.1,.inr (R0.newOk (R.fresh a m)).2.2⟩
  obtain⟨i,z⟩:=qz9;exact R.rel.dx i a z (.inr m)
theorem RA.das(R:RA C io p c H O δ fp ex H' vs rs δ' fp' new)(R0:Rel C io H O δ fp ex):Das G H' (λa=>c=YD->Lf C fp' ex a) vs (OT.datas rs):=by
 refine R.own.das (λa l _ h=>?_) (λa m _=>?_)
 .exact⟨(l h).1,λz=>(l h).2.1 (.inl z),(l h).2.2⟩
 .refine⟨λqz9=>?_,(R0.newOk (R.fresh a m)).2.1,.inr (R0.newOk (R.fresh a m)).2.2⟩
  obtain⟨i,z⟩:=qz9;exact R.rel.dx i a z (.inr m)
theorem RE.base(R:RE C io p c H O δ fp ex H' v r δ' fp' new):Rel C io H' O δ' fp' ex:=R.rel.drop λa z=>.inl z
theorem RA.base(R:RA C io p c H O δ fp ex H' vs rs δ' fp' new):Rel C io H' O δ' fp' ex:=R.rel.drop λa z=>.inl z
theorem Ju{a:YG}:exu ex [] a↔ex a:=by simp[exu]
theorem RE.fz(R:Rel C io H' O δ' fp' ex)(S:Stp p H δ fp H' δ' fp')(h:Da G H' (λa=>c=YD->Lf C fp' ex a) v d):RE C io p c H O δ fp ex H' v (.fz d) δ' fp' [] :=
 ⟨R.drop λa z=>Ju.mp z,S,.fz (h.wide λa l _ hc=>⟨(l hc).1,λz=>(l hc).2.1 (Ju.mp z),(l hc).2.2⟩),.nil,λa m=>nomatch m⟩
theorem RE.tree(R0:Rel C io H O δ fp ex)(R:Rel C io H1 O δ' fp' ex)(S:Stp p H δ fp H1 δ' fp')(s:Same H1 H')(hn:∀a∈new,H1 a=YC)(nd:new.Nodup)
  (o:Own G H' (λa=>((c=YD->Lf C fp' ex a)\/H1 a=YC)/\a∉new) v r new):RE C io p c H O δ fp ex H' v r δ' fp' new:=by
 refine⟨R.made s λa m=>⟨hn a m,λz=>?_⟩,?_,o.wide λa l q hc=>?_,nd,λa m=>S.al a (hn a m)⟩
 .obtain⟨xs,e⟩:=o.some a m
  rw[z]at e;cases e
 .have:=S.trans (p':=YD) (Stp.same (p:=YD) (δ:=δ') (fp:=fp') s s.al)
  rwa[Bool.and_true]at this
 .rcases l.1 with l1|l1
  .exact⟨(l1 hc).1,λz=>z.elim (l1 hc).2.1 l.2,(l1 hc).2.2⟩
  .exact⟨R.footSome l1,λz=>z.elim (λz=>R.xa a z l1) l.2,.inr (R.al a l1)⟩
end
inductive ScD:V->Xa->Prop where
 | non:ScD .non .none
 | bl (b:Bool):ScD (.bl b) (.bool b)
 | int (i:Int):ScD (.int i) (.int i)
 | str (x:Str):ScD (.str x) (.str x)
theorem ScD.da{d:Xa}(h:ScD v d):Da G H L v d:=by
 cases h
 .exact .non
 .exact .bl _
 .exact .int _
 .exact .str _
section
variable {io:List Nat}{p p' c c':Bool}{a:YJ}{m ma mb:MEt}
def Ybf(i:Nat):MEt:=λδ K=>match δ[i]? with|some (YB (.fz d))=>K (.fz d) δ|_=>False
def Ybo(i:Nat):MEt:=λδ K=>match δ[i]? with|some (YB t)=>K (.fz t.data) δ|_=>False
def mC(d:Xa):MEt:=λδ K=>K (.fz d) δ
theorem mv(i:Nat)(hN:X.N[i]? =YB x:=by rfl)(hv:Vis X.env.scope x:=by first|exact QL rfl|exact Qt (QL rfl)|exact Qt (Qt rfl))(hd:(x==("__debug__" : Str))=YF:=by decide)
  (hcd:(x==("__classdict__" : Str))=YF:=by decide):ME X io YD YD (.Name x pos) (Ybf i):=by
 refine⟨_,pv i hN hv hd hcd,λC H O δ fp ex K Q R h k=>?_⟩;unfold Ybf at h;split at h
 .rename_i d hd
  obtain⟨v,e,o⟩:=R.own i _ hd;refine⟨v,e,k H v _ δ fp [] (.fz R (.refl _ _ _ _) ?_) h⟩;generalize fp i=as at o;cases o with
  | fz q=>exact q.wide λa l _ _=>l
 .exact h.elim
theorem mo(i:Nat)(hN:X.N[i]? =YB x:=by rfl)(hv:Vis X.env.scope x:=by first|exact QL rfl|exact Qt (QL rfl)|exact Qt (Qt rfl))(hd:(x==("__debug__" : Str))=YF:=by decide)
  (hcd:(x==("__classdict__" : Str))=YF:=by decide):ME X io YD YF (.Name x pos) (Ybo i):=by
 refine⟨_,pv i hN hv hd hcd,λC H O δ fp ex K Q R h k=>?_⟩;unfold Ybo at h;split at h
 .rename_i d hd
  obtain⟨v,e,o⟩:=R.own i _ hd;exact⟨v,e,k H v _ δ fp [] (.fz R (.refl _ _ _ _) (o.da (λa _ _ z=>(nomatch z)) λa _ z=>(nomatch z))) h⟩
 .exact h.elim
theorem Ziv{t:V}{d:Xa}(h:PE X e (tC t))(s:ScD t d):ME X io YD YD e (mC d) :=
 ⟨_,h,λC H O δ fp ex K Q R h k=>k H t _ δ fp [] (.fz R (.refl _ _ _ _) s.da) h⟩
theorem Z7x{i j pos}:ME X io YD YD (.Constant (.int i) j pos) (mC (.int i)):=Ziv Zyk (.int i)
theorem Zj2{b j pos}:ME X io YD YD (.Constant (.bool b) j pos) (mC (.bool b)):=Ziv Yc0 (.bl b)
theorem Zhu{j pos}:ME X io YD YD (.Constant .none j pos) (mC .none):=Ziv Z7d .non
theorem Zab{x j pos}:ME X io YD YD (.Constant (.str x) j pos) (mC (.str x)):=Ziv Z66 (.str x)
theorem SE.two(ha:SE G io p c ta ma)(hb:SE G io p' c' tb mb)(hc:p'=YD\/c=YD){C:MC G}{O:St}{δ:Zf}{fp:Fp}{ex:YG->Prop}{K:OT->OT->Zf->Prop}{Q:V->V->Hp->Prop}
  (R:Rel C io H O δ fp ex) (h:ma δ λx δ1=>mb δ1 λy δ2=>K x y δ2)
  (k:∀H' x y u v δ' fp',Rel C io H' O δ' fp' ex->Stp (p&&p') H δ fp H' δ' fp'->Da G H' (λa=>(c&&c')=YD->Lf C fp' ex a) x u.data->Da G H' (λa=>(c&&c')=YD->Lf C fp' ex a) y v.data->K u v δ'->Q x y H') :
  ta O H λx H1=>tb O H1 λy H2=>Q x y H2:=by
 refine ha C H O δ fp ex _ _ R h λH1 x u δ1 fp1 new1 r1 h1=>?_;refine hb C H1 O δ1 fp1 (exu ex new1) _ _ r1.rel h1 λH2 y v δ2 fp2 new2 r2 h2=>?_;have o1:=r1.rel.own_step (ex':=exu (exu ex new1) new2) r2.stp (c:=c) hc (λa z=>z.imp id λz=>r2.fresh a z) (λa m=>.inr m) r1.own;have R2:Rel C io H2 O δ2 fp2 ex:=r2.rel.drop λa z=>.inl (.inl z);have q1:Da G H2 (λa=>c=YD->Lf C fp2 ex a) x u.data:=by
  refine o1.da (λa l _ z=>?_) (λa m z=>?_)
  .exact⟨(l z).1,λw=>(l z).2.1 (.inl (.inl w)),(l z).2.2⟩
  .have:=R.newOk (r1.fresh a m)
   refine⟨λqz9=>?_,this.2.1,.inr this.2.2⟩;obtain⟨i,w⟩:=qz9;exact r2.rel.dx i a w (.inl (.inr m))
 have q2:=r2.da r1.rel;refine k H2 x y u v δ2 fp2 R2 (r1.stp.trans r2.stp) (q1.wide λa l _ z=>l (by rw[X3]at z;exact z.1)) (q2.wide λa l _ z=>?_) h2;have l:=l (by rw[X3]at z;exact z.2);exact⟨l.1,λw=>l.2.1 (.inl w),l.2.2⟩
def P2s(G:Xd)(r:R2)(rp:Xa->Xa->(Xa->Prop)->Prop):Prop:=∀(H:Hp) (L:YG->Prop) (x y:V) (d e:Xa) (k:Xa->Prop) (Q:VK),Da G H L x d->Da G H L y e->rp d e k->(∀v d',ScD v d'->k d'->Q v H)->r x y H Q
def P2(G:Xd)(r:R2)(rp:Xa->Xa->(OT->Prop)->Prop):Prop:=∀(H:Hp) (L:YG->Prop) (x y:V) (d e:Xa) (k:OT->Prop) (Q:VK),Da G H L x d->Da G H L y e->rp d e k ->
 (∀ H' v o new,Same H H'->Own G H' (λa=>(L a\/H a=YC)/\a∉new) v o new->new.Nodup->(∀a∈new,H a=YC)->k o->Q v H')->r x y H Q
def Zlw(rp:Xa->Xa->(Xa->Prop)->Prop)(ma mb:MEt):MEt:=λδ K=>ma δ λx δ1=>mb δ1 λy δ2=>rp x.data y.data λd=>K (.fz d) δ2
def Z9a(rp:Xa->Xa->(OT->Prop)->Prop)(ma mb:MEt):MEt:=λδ K=>ma δ λx δ1=>mb δ1 λy δ2=>rp x.data y.data λd=>K d δ2
theorem Zzu{r:R2}{rp}(P:P2s G r rp)(ha:SE G io p c ta ma)(hb:SE G io p' c' tb mb)(hc:p'=YD\/c=YD):SE G io (p&&p') YD (tOp r ta tb) (Zlw rp ma mb):=by
 intro C H O δ fp ex K Q R h k;refine SE.two (K:=λx y δ2=>rp x.data y.data λd=>K (.fz d) δ2) (Q:=λx y H2=>r x y H2 Q) ha hb hc R h λH' x y u v δ' fp' R' S q1 q2 h'=>?_;exact P H' _ x y _ _ _ _ q1 q2 h' λw d' sc h''=>k H' w _ δ' fp' [] (.fz R' S sc.da) h''
theorem Yeh{r:R2}{rp}(P:P2 G r rp)(ha:SE G io p c ta ma)(hb:SE G io p' c' tb mb)(hc:p'=YD\/c=YD):SE G io (p&&p') (c&&c') (tOp r ta tb) (Z9a rp ma mb):=by
 intro C H O δ fp ex K Q R h k;refine SE.two (K:=λx y δ2=>rp x.data y.data λd=>K d δ2) (Q:=λx y H2=>r x y H2 Q) ha hb hc R h λH' x y u v δ' fp' R' S q1 q2 h'=>?_;exact P H' _ x y _ _ _ _ q1 q2 h' λH2 w o new s ow nd hn h''=>k H2 w o δ' fp' new (RE.tree R R' S s hn nd ow) h''
theorem Zoc{op:Operator}{r:R2}{rp}(ho:OpR X (V0 op) r)(P:P2s X.K r rp)(ha:ME X io p c a ma)(hb:ME X io p' c' b mb)(hc:p'=YD\/c=YD:=by first|exact QL rfl|exact Qt rfl):ME X io (p&&p') YD (.BinOp a op b pos) (Zlw rp ma mb):=by
 obtain⟨_,A,sa⟩:=ha;obtain⟨_,B,sb⟩:=hb;exact⟨_,Z1j ho A B,Zzu P sa sb hc⟩
theorem Ybi{op:Operator}{r:R2}{rp}(ho:OpR X (V0 op) r)(P:P2 X.K r rp)(ha:ME X io p c a ma)(hb:ME X io p' c' b mb)(hc:p'=YD\/c=YD:=by first|exact QL rfl|exact Qt rfl):ME X io (p&&p') (c&&c') (.BinOp a op b pos) (Z9a rp ma mb):=by
 obtain⟨_,A,sa⟩:=ha;obtain⟨_,B,sb⟩:=hb;exact⟨_,Z1j ho A B,Yeh P sa sb hc⟩
theorem Zpa{r:R2}{rp}(ho:OpR X (QH op) r)(P:P2s X.K r rp)(ha:ME X io p c a ma)(hb:ME X io p' c' b mb)(hc:p'=YD\/c=YD:=by first|exact QL rfl|exact Qt rfl)(hm:behindInMarks op b=YF):ME X io (p&&p') YD (.Compare a [op] [b] pos) (Zlw rp ma mb):=by
 obtain⟨_,A,sa⟩:=ha;obtain⟨_,B,sb⟩:=hb;exact⟨_,Z1r ho A B hm,Zzu P sa sb hc⟩
theorem Yfg{r:R2}{rp}(ho:IxR X r)(P:P2 X.K r rp)(ha:ME X io p c a ma)(hb:ME X io p' c' b mb)(hc:p'=YD\/c=YD:=by first|exact QL rfl|exact Qt rfl)(hs:Zgg b):ME X io (p&&p') (c&&c') (.Subscript a b pos) (Z9a rp ma mb):=by
 obtain⟨_,A,sa⟩:=ha;obtain⟨_,B,sb⟩:=hb;exact⟨_,Zu3 ho A B hs,Yeh P sa sb hc⟩
def kB(K:Bool->Zf->Prop):OT->Zf->Prop:=λo δ=>match o with| .fz (.bool b)=>K b δ|_=>False
theorem Z14{t:TE}(h:SE G io p c t m):STt G io p (Zvd t) (λδ K=>m δ (kB K)):=by
 intro C H O δ fp ex K Q R h' k;refine h C H O δ fp ex _ _ R h' λH' v r δ' fp' new r1 h1=>?_;cases r with
 | nd ts=>exact h1.elim
 | tp ts=>exact h1.elim
 | dc _ _ _=>exact h1.elim
 | fz d=>
  cases d with
  | bool b=>
   cases r1.own with
   | fz q=>
    cases q;exact⟨b,rfl,k H' b δ' fp' r1.base r1.stp h1⟩
  | _=>exact h1.elim
theorem Jc{r:R2}{rp}(ho:OpR X (QH op) r)(P:P2s X.K r rp)(ha:ME X io p c a ma)(hb:ME X io p' c' b mb)(hc:p'=YD\/c=YD:=by first|exact QL rfl|exact Qt rfl)(hm:behindInMarks op b=YF) :
  MT X io (p&&p') (.Compare a [op] [b] pos) (λδ K=>Zlw rp ma mb δ (kB K)):=by
 obtain⟨_,A,sa⟩:=ha;obtain⟨_,B,sb⟩:=hb;exact⟨_,Z1z ho A B hm,Z14 (Zzu P sa sb hc)⟩
end
section
variable {io:List Nat}{p p' p'' c c':Bool}{a:YJ}{m ma mb:MEt}{rest:List YJ}{ta tb:MTt}
def Ye4(t:MTt):MTt:=λδ K=>t δ λb δ'=>K (!b) δ'
def Yg4(t u:MTt):MTt:=λδ K=>t δ λb δ'=>if b=YD then u δ' K else K YF δ'
def mOr(t u:MTt):MTt:=λδ K=>t δ λb δ'=>if b=YD then K YD δ' else u δ' K
theorem Z7m(h:MT X io p a ta):MT X io p (.UnaryOp .Not a pos) (Ye4 ta):=by
 obtain⟨_,A,sa⟩:=h;exact⟨_,Z9z A,λC H O δ fp ex K Q R h k=>sa C H O δ fp ex _ _ R h λH' b δ' fp' R' S h'=>k H' (!b) δ' fp' R' S h'⟩
theorem Ztt(h:MT X io p a ta):MW X io p (.BoolOp .And [a] pos) ta:=by
 obtain⟨_,A,sa⟩:=h;exact⟨_,Z1s A,sa⟩
theorem Zhf(h:MT X io p a ta):MW X io p (.BoolOp .Or [a] pos) ta:=by
 obtain⟨_,A,sa⟩:=h;exact⟨_,Z6w A,sa⟩
theorem Stp.andL{δ δ':Zf}{fp fp':Fp}(S:Stp p H δ fp H' δ' fp'):Stp (p&&p') H δ fp H' δ' fp':=by
 have:=S.trans (Stp.refl p' H' δ' fp');exact this
theorem Zyj(h:MT X io p a ta)(g:MW X io p' (.BoolOp .And (b::rest) pos) tb):MW X io (p&&p') (.BoolOp .And (a::b::rest) pos) (Yg4 ta tb):=by
 obtain⟨_,A,sa⟩:=h;obtain⟨_,B,sb⟩:=g;exact⟨_,Z70 A B,λC H O δ fp ex K Q R h k=>sa C H O δ fp ex _ _ R h λH' b δ' fp' R' S h'=>by
  cases b with
  | true=>
   rw[YM rfl]at h'|-
   exact sb C H' O δ' fp' ex _ _ R' h' λH2 b2 δ2 fp2 R2 S2 h2=>k H2 b2 δ2 fp2 R2 (S.trans S2) h2
  | false=>
   rw[YQ Xx]at h'|-
   exact k H' YF δ' fp' R' S.andL h'⟩
theorem Zjy(h:MT X io p a ta)(g:MW X io p' (.BoolOp .Or (b::rest) pos) tb):MW X io (p&&p') (.BoolOp .Or (a::b::rest) pos) (mOr ta tb):=by
 obtain⟨_,A,sa⟩:=h;obtain⟨_,B,sb⟩:=g;exact⟨_,Ycr A B,λC H O δ fp ex K Q R h k=>sa C H O δ fp ex _ _ R h λH' b δ' fp' R' S h'=>by
  cases b with
  | true=>
   rw[YM rfl]at h'|-
   exact k H' YD δ' fp' R' S.andL h'
  | false=>
   rw[YQ Xx]at h'|-
   exact sb C H' O δ' fp' ex _ _ R' h' λH2 b2 δ2 fp2 R2 S2 h2=>k H2 b2 δ2 fp2 R2 (S.trans S2) h2⟩
theorem MW.mt(h:MW X io p e ta):MT X io p e ta:=by
 obtain⟨_,A,sa⟩:=h;exact⟨_,A.pt,sa⟩
def Zwi:Xa->Option Bool
 | .none=>YB YF
 | .bool b=>YB b
 | .int i=>YB (i !=0)
 | .list ds=>YB (!ds.isEmpty)
 | .tuple ds=>YB (!ds.isEmpty)
 | _=>YC
def Yg6(m:MEt):MTt:=λδ K=>m δ λr δ'=>match Zwi r.data with|some b=>K b δ'|none=>False
theorem Das.isEmpty(h:Das G H L xs ds):xs.isEmpty=ds.isEmpty:=by cases h<;>rfl
theorem Zer(ha:ME X io p c a ma)(he:∀whole,isTrue a X.env whole=(do let v<-whole;standAt a.pos;holding [v] (truthy v))):MT X io p a (Yg6 ma):=by
 obtain⟨_,A,sa⟩:=ha;exact⟨_,Z32 rfl A he,λC H O δ fp ex K' Q R h k=>sa C H O δ fp ex _ _ R h λH' v r δ' fp' new r1 h1=>by
  have q:=r1.da R;generalize r.data=d at q h1;cases q with
  | non=>exact⟨_,rfl,k H' _ δ' fp' r1.base r1.stp h1⟩
  | bl b=>exact⟨_,rfl,k H' _ δ' fp' r1.base r1.stp h1⟩
  | int b=>exact⟨_,rfl,k H' _ δ' fp' r1.base r1.stp h1⟩
  | str x=>exact h1.elim
  | lst _ e q=>exact⟨_,.inl ⟨_,.inl e,rfl⟩,k H' _ δ' fp' r1.base r1.stp (by rw[q.isEmpty];exact h1)⟩
  | tup e q=>exact⟨_,.inr (.inl ⟨_,.inl (.inl e),rfl⟩),k H' _ δ' fp' r1.base r1.stp (by rw[q.isEmpty];exact h1)⟩
  | scr q=>exact⟨_,.inl ⟨_,q.sq,rfl⟩,k H' _ δ' fp' r1.base r1.stp (by simpa [Zwi]using h1)⟩
  | exc _ _ _=>exact h1.elim
  | fn _=>exact h1.elim
  | dic _ _ _ _=>exact h1.elim⟩
def asB(d:Xa)(k:Bool->Prop):Prop:=match d with| .bool b=>k b|_=>False
def Z9j(a b:MEt):MEt:=λδ K=>a δ λx δ1=>asB x.data λc=>if c=YD then b δ1 K else K (.fz (.bool YF)) δ1
def Z7e(a:MEt):MEt:=λδ K=>a δ λx δ1=>asB x.data λc=>K (.fz (.bool (!c))) δ1
def mIf(t:MTt)(a b:MEt):MEt:=λδ K=>t δ λc δ1=>if c=YD then a δ1 K else b δ1 K
theorem Da.boolInv{d:Xa}{k:Bool->Prop}(q:Da G H L v d)(h:asB d k):∃b,v= .bl b/\k b:=by
 cases q with
 | bl b=>exact⟨b,rfl,h⟩
 | _=>exact h.elim
theorem RE.step{C:MC G}{O:St}{δ δ1 δ2:Zf}{fp fp1 fp2:Fp}{ex:YG->Prop}{r:OT}{new:List YG}(S:Stp p H δ fp H1 δ1 fp1)(R:RE C io p' c H1 O δ1 fp1 ex H2 v r δ2 fp2 new) :
  RE C io (p&&p') c H O δ fp ex H2 v r δ2 fp2 new:=⟨R.rel,S.trans R.stp,R.own,R.nd,λa m=>S.al a (R.fresh a m)⟩
theorem Z2n{op}(h:ME X io p c a ma):ME X io p c (.BoolOp op [a] pos) ma:=by
 obtain⟨_,A,sa⟩:=h;exact⟨_,Z40 A,sa⟩
theorem Zvg(ha:ME X io p c a ma)(hb:ME X io p' c' (.BoolOp .And (b::rest) pos) mb):ME X io (p&&p') c' (.BoolOp .And (a::b::rest) pos) (Z9j ma mb):=by
 obtain⟨_,A,sa⟩:=ha;obtain⟨_,B,sb⟩:=hb;exact⟨_,Z50 A B,λC H O δ fp ex K Q R h k=>sa C H O δ fp ex _ _ R h λH' v r δ' fp' new r1 h1=>by
  obtain⟨b,rfl,h1⟩:=(r1.da R).boolInv h1;refine⟨b,rfl,?_⟩;cases b with
  | true=>
   rw[YM rfl]at h1|-
   exact sb C H' O δ' fp' ex _ _ r1.base h1 λH2 w r2 δ2 fp2 new2 R2 h2=>k H2 w r2 δ2 fp2 new2 (R2.step r1.stp) h2
  | false=>
   rw[YQ Xx]at h1|-
   exact k H' _ _ δ' fp' [] (RE.fz r1.base r1.stp.andL (.bl YF)) h1⟩
theorem Z5s(ha:ME X io p c a ma):ME X io p YD (.UnaryOp .Not a pos) (Z7e ma):=by
 obtain⟨_,A,sa⟩:=ha;exact⟨_,Z77 A,λC H O δ fp ex K Q R h k=>sa C H O δ fp ex _ _ R h λH' v r δ' fp' new r1 h1=>by
  obtain⟨b,rfl,h1⟩:=(r1.da R).boolInv h1;exact⟨b,rfl,k H' _ _ δ' fp' [] (RE.fz r1.base r1.stp (.bl _)) h1⟩⟩
theorem Stp.cast{p p':Bool}{H H':Hp}{δ δ':Zf}{fp fp':Fp}(h:p'=YD->p=YD)(S:Stp p H δ fp H' δ' fp'):Stp p' H δ fp H' δ' fp' :=
 ⟨λb o e q=>S.keep b o e (q.imp h id),λq=>S.env (h q),S.grow,S.al⟩
theorem RE.cast{C:MC G}{H H1:Hp}{O:St}{δ δ1:Zf}{fp fp1:Fp}{ex:YG->Prop}{v:V}{r:OT}{new:List YG}(hp:p'=YD->p=YD)(hc:c'=YD->c=YD)(R:RE C io p c H O δ fp ex H1 v r δ1 fp1 new) :
  RE C io p' c' H O δ fp ex H1 v r δ1 fp1 new:=⟨R.rel,R.stp.cast hp,R.own.wide λa l _ z=>l (hc z),R.nd,R.fresh⟩
theorem Yhh{t:YJ}(ht:MT X io p t ta)(ha:ME X io p' c a ma)(hb:ME X io p'' c' b mb):ME X io (p&&(p'&&p'')) (c&&c') (.IfExp t a b pos) (mIf ta ma mb):=by
 obtain⟨_,T,st⟩:=ht;obtain⟨_,A,sa⟩:=ha;obtain⟨_,B,sb⟩:=hb;exact⟨_,Zwz T A B,λC H O δ fp ex K Q R h k=>st C H O δ fp ex _ _ R h λH' b δ' fp' R' S h'=>by
  cases b with
  | true=>
   rw[YM rfl]at h'|-
   exact sa C H' O δ' fp' ex _ _ R' h' λH2 w r2 δ2 fp2 new2 R2 h2=>k H2 w r2 δ2 fp2 new2 ((R2.step S).cast (λz=>by simp at z;simp[z]) (λz=>by simp at z;exact z.1)) h2
  | false=>
   rw[YQ Xx]at h'|-
   exact sb C H' O δ' fp' ex _ _ R' h' λH2 w r2 δ2 fp2 new2 R2 h2=>k H2 w r2 δ2 fp2 new2 ((R2.step S).cast (λz=>by simp at z;simp[z]) (λz=>by simp at z;exact z.2)) h2⟩
end
section
variable {io:List Nat}{p p' p'' c c':Bool}{a:YJ}{m ma mb:MEt}{rest:List YJ}{mr:MAt}
def Ygn:MAt:=λδ K=>K [] δ
def Z56(m:MEt)(mr:MAt):MAt:=λδ K=>m δ λr δ1=>mr δ1 λrs δ2=>K (r::rs) δ2
theorem Z5x:MA X io YD YD [] Ygn:=⟨_,Zen,λC H O δ fp ex K Q R h k=>k H [] [] δ fp [] ⟨R.drop λa z=>Ju.mp z,.refl _ _ _ _,.nil,.nil,λa m=>nomatch m⟩ h⟩
theorem Z4l(ha:ME X io p c e m)(hr:MA X io p' c' es mr)(hc:p'=YD\/c=YD)(hs:Xu (e::es) X.env=(YF,eval e X.env)::Xu es X.env:=by rfl):MA X io (p&&p') (c&&c') (e::es) (Z56 m mr):=by
 obtain⟨tA,A,sa⟩:=ha;obtain⟨tB,B,sb⟩:=hr;refine⟨_,Zam A B hs,λC H O δ fp ex K Q R h k=>?_⟩;refine sa C H O δ fp ex _ _ R h λH1 x u δ1 fp1 new1 r1 h1=>?_;refine sb C H1 O δ1 fp1 (exu ex new1) _ _ r1.rel h1 λH2 ys us δ2 fp2 new2 r2 h2=>?_;have o1:=r1.rel.own_step (ex':=exu (exu ex new1) new2) r2.stp (c:=c) hc (λa z=>z.imp id λz=>r2.fresh a z) (λa m=>.inr m) r1.own;have eqx:∀a,exu ex (new1++new2) a->exu (exu ex new1) new2 a:=λa z=>by
  rcases z with z|z
  .exact .inl (.inl z)
  .rcases Qn.mp z with z|z
   .exact .inl (.inr z)
   .exact .inr z
 refine k H2 (x::ys) (u::us) δ2 fp2 (new1++new2) ⟨r2.rel.drop eqx,r1.stp.trans r2.stp,.cons (o1.wide λa l _ z=>?_) (r2.own.wide λa l _ z=>?_),?_,?_⟩ h2
 .have l:=l (by rw[X3]at z;exact z.1)
  exact⟨l.1,λw=>l.2.1 (eqx a w),l.2.2⟩
 .have l:=l (by rw[X3]at z;exact z.2)
  exact⟨l.1,λw=>l.2.1 (eqx a w),l.2.2⟩
 .refine Vx.mpr ⟨r1.nd,r2.nd,λa m b m' z=>?_⟩
  subst z;obtain⟨xs,e⟩:=r1.own.some a m;rw[r2.fresh a m']at e;cases e
 .intro a m
  rcases Qn.mp m with m|m
  .exact r1.fresh a m
  .exact r1.stp.al a (r2.fresh a m)
def Ye6(m:MAt):MEt:=λδ K=>m δ λrs δ'=>rs.length<=XC/\K (.fz (.tuple (OT.datas rs))) δ'
def Yft(m:MAt):MEt:=λδ K=>m δ λrs δ'=>rs.length<=XC/\K (.nd rs) δ'
theorem Yc3{x1}(h:MA X io p c es mr):ME X io p c (.Tuple es x1 pos) (Ye6 mr):=by
 obtain⟨tA,A,sa⟩:=h;refine⟨_,Zua A,λC H O δ fp ex K Q R h k=>?_⟩;refine sa C H O δ fp ex _ _ R h λH1 vs rs δ1 fp1 new1 r1 h1=>⟨by rw[r1.own.length];exact h1.1,λq hq=>?_⟩;have s:=Zv hq (.tup vs);have R1:=r1.base;have S:=r1.stp.trans (p':=YD) (Stp.same (p:=YD) (δ:=δ1) (fp:=fp1) s s.al);rw[Bool.and_true]at S;refine k _ _ _ δ1 fp1 [] (.fz ?_ S (.tup Zu ((r1.das R).same s))) h1.2;exact(R1.made (new:=[]) s λa m=>nomatch m).drop λa z=>.inl z
theorem Yeb(h:MA X io p c es mr):ME X io p c (.List es pos) (Yft mr):=by
 obtain⟨tA,A,sa⟩:=h;refine⟨_,Zx4 A,λC H O δ fp ex K Q R h k=>?_⟩;refine sa C H O δ fp ex _ _ R h λH1 vs rs δ1 fp1 new1 r1 h1=>⟨by rw[r1.own.length];exact h1.1,λq hq=>?_⟩;have s:=Zv hq (.lst vs);have S:=r1.stp.trans (p':=YD) (Stp.same (p:=YD) (δ:=δ1) (fp:=fp1) s s.al);rw[Bool.and_true]at S;have hqn:q∉new1:=λm=>by
  obtain⟨xs,e⟩:=r1.own.some q m;rw[hq]at e;cases e
 have R2:=(r1.rel.made (new:=[q]) s λa m=>by
  rcases Xq.mp m with rfl;exact⟨hq,by rw[Zu];intro z;cases z⟩)
 have eqx:∀a,exu ex (q::new1) a->exu (exu ex new1) [q] a:=λa z=>by
  rcases z with z|z
  .exact .inl (.inl z)
  .rcases Xo.mp z with z|z
   .exact .inr (Xq.mpr z)
   .exact .inl (.inr z)
 refine k _ _ _ δ1 fp1 (q::new1) ⟨R2.drop eqx,S,.nd Zu ((r1.own.wide λa l w z=>?_).same s),Qq.mpr ⟨hqn,r1.nd⟩,λa m=>?_⟩ h1.2
 .have l:=l z
  refine⟨l.1,λy=>?_,l.2.2⟩;rcases eqx a y with y|y
  .exact l.2.1 y
  .rcases Xq.mp y with rfl
   exact w hq
 .rcases Xo.mp m with rfl|m
  .exact r1.stp.al _ hq
  .exact r1.fresh a m
end
def spD(G:Xd)(S:List Xa->(OT->Prop)->Prop):Sp:=λvs H Q _=>∃L ds k,Das G H L vs ds/\S ds k/\
 ∀r v H' new,k r->Same H H'->Own G H' (λa=>(L a\/H a=YC)/\a∉new) v r new->new.Nodup->(∀a∈new,H a=YC)->Q v H'
section
variable {io:List Nat}{p p' p'' c c':Bool}{a:YJ}{m ma mb:MEt}{rest:List YJ}{mr:MAt}
variable {k:Nat}{f:YG}{fd:Qp}{E:XK}{pp:Pos}
def Z2y(S:List Xa->(OT->Prop)->Prop)(mr:MAt):MEt:=λδ K=>mr δ λrs δ1=>S (OT.datas rs) λr=>K r δ1
theorem Yb4{S}{t:TA}(sa:SA G io p c t mr):SE G io p c (Z57 (spD G S) [] E t) (Z2y S mr):=by
 intro C H O δ fp ex K Q R h kk;refine sa C H O δ fp ex _ _ R h λH1 vs rs δ1 fp1 new1 r1 h1=>?_;rw[Qs];refine⟨_,_,_,r1.das R,h1,λr v H' new kr s o nd hn=>?_⟩;exact kk H' v r δ1 fp1 new (RE.tree R r1.base r1.stp s hn nd o) kr
theorem Z9x{S}(F:FnOk X.prog X.w X.K X.mg X.base CX k f fd ps (spD X.K S))(hr:Room k X.A)(hg:Gl X x)(hm:X.mg x=YB (.ref f))(hk:V8 X.K (.ref f)=YD)(hb:Binds X.K fd ps [])(hx:Zme CX X E)
  (ha:MA X io p c (e::es) mr) (hdb:(x==("__debug__" : Str))=YF:=by decide) (he:Xu (e::es) X.env=(YF,eval e X.env)::Xu es X.env:=by rfl) (hpl:(JF pos (Xu es X.env)).any (·.1)=YF:=by rfl) :
  ME X io p c (.Call (.Name x pp) (e::es) [] pos) (Z2y S mr):=by
 obtain⟨_,A,sa⟩:=ha;exact⟨_,Z2m F hr hg hm hk hb .nil hx A hdb he hpl,Yb4 sa⟩
def fpu(fp:Fp)(i:Nat)(as:List YG):Fp:=λj=>if j=i then as else fp j
theorem Z4{fp:Fp}{as:List YG}:fpu fp i as i=as:=YM rfl
theorem Yt{fp:Fp}{as:List YG}(h:j≠i):fpu fp i as j=fp j:=YQ h
theorem Foot.of_u{fp:Fp}{i:Nat}{as:List YG}{a:YG}(h:Foot (fpu fp i as) a):a∈as\/∃j,j≠i/\a∈fp j:=by
 obtain⟨j,h⟩:=h
 by_cases e:j=i
 .subst e;rw[Z4]at h;exact .inl h
 .rw[Yt e]at h;exact .inr ⟨j,e,h⟩
theorem Rel.change{C:MC G}{H H':Hp}{O:St}{δ:Zf}{fp:Fp}{ex:YG->Prop}{i:Nat}{t t':OT}{v:V}{as' new:List YG}(R:Rel C io H O δ fp ex)(hi:δ[i]? =YB (YB t))(hv:O[i]? =YB (YB v))
  (keep:∀b o,H b=YB o->b∉fp i->H' b=YB o) (al:∀b,H' b=YC->H b=YC) (o:Own G H' (Lf C (fpu fp i as') (exu ex new)) v t' as') (nd:as'.Nodup) (new':∀a∈as',a∈fp i\/H a=YC)
  (hn:∀a∈new,H a=YC/\H' a≠YC/\a∉as') :
  Rel C io H' O (δ.set i (YB t')) (fpu fp i as') (exu ex new)/\Stp YF H δ fp H' (δ.set i (YB t')) (fpu fp i as'):=by
 have hil:i<δ.length:=(Xk.mp hi).1;have apart:∀j a,j≠i->a∈fp j->a∉as':=λj a e m z=>by
  rcases new' a z with z|z
  .exact e (R.dj j i a m z)
  .exact R.footSome z ⟨j,m⟩
 constructor
 .refine⟨by rw[V3];exact R.len,λj t'' e=>?_,λj h=>?_,λj=>?_,λj k a h1 h2=>?_,λj a h z=>?_,λa z w=>z.elim (λz=>R.xa a z (al a w)) (λz=>(hn a z).2.1 w),λb ob e n=>?_,λb z=>R.al b (al b z),λj a h=>?_,R.io⟩
  .by_cases ej:j=i
   .subst ej
    rw[JL hil]at e;cases e;exact⟨v,hv,by rw[Z4];exact o⟩
   .rw[QT (Vu ej)]at e
    obtain⟨w,e1,o1⟩:=R.own j t'' e;refine⟨w,e1,?_⟩;rw[Yt ej];refine o1.frame (λa xs l q=>?_) (λa xs q=>keep a _ q λz=>?_) λa m xs q=>keep a _ q λz=>ej (R.dj j i a m z)
    .have na:a∉fp i:=λz=>l.1 ⟨i,z⟩
     refine⟨⟨λz=>?_,λz=>z.elim l.2.1 λz=>q.some (hn a z).1,l.2.2⟩,?_⟩
     .rcases z.of_u with z|⟨k,_,z⟩
      .rcases new' a z with z|z
       .exact na z
       .exact q.some z
      .exact l.1 ⟨k,z⟩
     .rcases q with q|⟨u,q⟩
      .exact .inl (keep a _ q na)
      .exact .inr ⟨u,keep a _ q na⟩
    .obtain⟨ys,e⟩:=R.foot ⟨i,z⟩
     exact ImO.nm q e
  .by_cases ej:j=i
   .subst ej
    exact YZ (JL hil) (h t')
   .rw[Yt ej]
    refine R.emp j λt'' z=>h t'' ?_;rw[QT (Vu ej)];exact z
  .by_cases ej:j=i
   .subst ej;rw[Z4];exact nd
   .rw[Yt ej];exact R.nd j
  .by_cases ej:j=i
   .subst ej
    rw[Z4]at h1
    by_cases ek:k=j
    .exact ek.symm
    .rw[Yt ek]at h2
     exact YZ h1 (apart k a ek h2)
   .rw[Yt ej]at h1
    by_cases ek:k=i
    .subst ek
     rw[Z4]at h2;exact YZ h2 (apart j a ej h1)
    .rw[Yt ek]at h2
     exact R.dj j k a h1 h2
  .by_cases ej:j=i
   .subst ej
    rw[Z4]at h;rcases z with z|z
    .rcases new' a h with w|w
     .exact R.dx _ a w z
     .exact R.xa a z w
    .exact(hn a z).2.2 h
   .rw[Yt ej]at h
    rcases z with z|z
    .exact R.dx j a h z
    .exact R.footSome (hn a z).1 ⟨j,h⟩
  .refine keep b ob (R.fr b ob e n) λz=>?_
   rcases R.new i b z with w|w
   .exact n w.2
   .rw[e]at w;cases w
  .by_cases ej:j=i
   .subst ej
    rw[Z4]at h;rcases new' a h with w|w
    .exact R.new _ a w
    .exact .inr (R.al a w)
   .rw[Yt ej]at h
    exact R.new j a h
 .refine⟨λb ob e q=>keep b ob e λz=>(q.resolve_left (by decide)) ⟨i,z⟩,λz=>(nomatch z),λa z=>?_,al⟩
  rcases z.of_u with z|⟨j,_,z⟩
  .exact(new' a z).imp (λw=>⟨i,w⟩) id
  .exact .inl ⟨j,z⟩
def PNs(G:Xd)(r:List V->Hp->VK->Prop)(rp:List Xa->(Xa->Prop)->Prop):Prop:=∀(H:Hp) (L:YG->Prop) (xs:List V) (ds:List Xa) (k:Xa->Prop) (Q:VK),Das G H L xs ds->rp ds k->(∀v d',ScD v d'->k d'->Q v H)->r xs H Q
def PN(G:Xd)(r:List V->Hp->VK->Prop)(rp:List Xa->(OT->Prop)->Prop):Prop:=∀(H:Hp) (L:YG->Prop) (xs:List V) (ds:List Xa) (k:OT->Prop) (Q:VK),Das G H L xs ds->rp ds k ->
 (∀ H' v o new,Same H H'->Own G H' (λa=>(L a\/H a=YC)/\a∉new) v o new->new.Nodup->(∀a∈new,H a=YC)->k o->Q v H')->r xs H Q
def Ybl(rp:List Xa->(Xa->Prop)->Prop)(mr:MAt):MEt:=λδ K=>mr δ λrs δ1=>rp (OT.datas rs) λd=>K (.fz d) δ1
def mBl(rp:List Xa->(OT->Prop)->Prop)(mr:MAt):MEt:=λδ K=>mr δ λrs δ1=>rp (OT.datas rs) λo=>K o δ1
theorem Ygb{r rp}{t:TA}(P:PNs G r rp)(sa:SA G io p c t mr):SE G io p YD (tCB r t) (Ybl rp mr):=λC H O δ fp ex K Q R h kk=>
 sa C H O δ fp ex _ _ R h λH1 vs rs δ1 fp1 new1 r1 h1=>P H1 _ vs _ _ _ (r1.das R) h1 λv d' sc h2=>kk H1 v _ δ1 fp1 [] (.fz r1.base r1.stp sc.da) h2
theorem sBl{r rp}{t:TA}(P:PN G r rp)(sa:SA G io p c t mr):SE G io p c (tCB r t) (mBl rp mr):=λC H O δ fp ex K Q R h kk=>
 sa C H O δ fp ex _ _ R h λH1 vs rs δ1 fp1 new1 r1 h1=>P H1 _ vs _ _ _ (r1.das R) h1 λH' v o new s ow nd hn h2=>kk H' v o δ1 fp1 new (RE.tree R r1.base r1.stp s hn nd ow) h2
variable {T:String}{r:List V->Hp->VK->Prop}
theorem Zli{rp}(P:PNs X.K r rp)(hc:Zbm X (.builtin id) r)(hg:Gl X x)(hm:X.mg x=YC)(hv:Qe x=YB (.builtin id))(ha:MA X io p c (e::es) mr)(hn:x≠"__name__" :=by decide)(hdb:(x==("__debug__" : Str))=YF:=by decide)
  (he:Xu (e::es) X.env=(YF,eval e X.env)::Xu es X.env:=by rfl) (hpl:(JF pos (Xu es X.env)).any (·.1)=YF:=by rfl):ME X io p YD (.Call (.Name x pp) (e::es) [] pos) (Ybl rp mr):=by
 obtain⟨_,A,sa⟩:=ha;exact⟨_,Zib hc hg hm hv A hn hdb he hpl,Ygb P sa⟩
theorem Ygi{rp}(P:PN X.K r rp)(hc:Zbm X (.builtin id) r)(hg:Gl X x)(hm:X.mg x=YC)(hv:Qe x=YB (.builtin id))(ha:MA X io p c (e::es) mr)(hn:x≠"__name__" :=by decide)(hdb:(x==("__debug__" : Str))=YF:=by decide)
  (he:Xu (e::es) X.env=(YF,eval e X.env)::Xu es X.env:=by rfl) (hpl:(JF pos (Xu es X.env)).any (·.1)=YF:=by rfl):ME X io p c (.Call (.Name x pp) (e::es) [] pos) (mBl rp mr):=by
 obtain⟨_,A,sa⟩:=ha;exact⟨_,Zib hc hg hm hv A hn hdb he hpl,sBl P sa⟩
theorem Yay{rp}(P:PNs X.K r rp)(hc:Zbm X (.type T) r)(hg:Gl X x)(hm:X.mg x=YC)(hv:Qe x=YB (.type T))(ha:MA X io p c (e::es) mr)(hn:x≠"__name__" :=by decide)(hdb:(x==("__debug__" : Str))=YF:=by decide)
  (he:Xu (e::es) X.env=(YF,eval e X.env)::Xu es X.env:=by rfl) (hpl:(JF pos (Xu es X.env)).any (·.1)=YF:=by rfl):ME X io p YD (.Call (.Name x pp) (e::es) [] pos) (Ybl rp mr):=by
 obtain⟨_,A,sa⟩:=ha;exact⟨_,Zjo hc hg hm hv A hn hdb he hpl,Ygb P sa⟩
theorem Yhw{rp}(P:PN X.K r rp)(hc:Zbm X (.type T) r)(hg:Gl X x)(hm:X.mg x=YC)(hv:Qe x=YB (.type T))(ha:MA X io p c (e::es) mr)(hn:x≠"__name__" :=by decide)(hdb:(x==("__debug__" : Str))=YF:=by decide)
  (he:Xu (e::es) X.env=(YF,eval e X.env)::Xu es X.env:=by rfl) (hpl:(JF pos (Xu es X.env)).any (·.1)=YF:=by rfl):ME X io p c (.Call (.Name x pp) (e::es) [] pos) (mBl rp mr):=by
 obtain⟨_,A,sa⟩:=ha;exact⟨_,Zjo hc hg hm hv A hn hdb he hpl,sBl P sa⟩
end
mutual
def Wl:Xa->Bool
 | .none=>YD
 | .bool _=>YD
 | .int _=>YD
 | .str _=>YD
 | .tuple ds=>Zeq ds
 | .list _=>YF
 | .dict _=>YF
def Zeq:List Xa->Bool
 | []=>YD
 | d::ds=>Wl d&&Zeq ds
end
theorem Da.flat2:(∀{v:V} {d:Xa},Da G H L v d->Wl d=YD->Da G H L' v d)/\∀{v:List V} {d:List Xa},Das G H L v d->Zeq d=YD->Das G H L' v d :=
 Da.both (λ_=>.non) (λb _=>.bl b) (λi _=>.int i) (λx _=>.str x) (λ_ _ _ h=>by rw[Wl]at h;cases h) (λe r h=>.tup e (r (by rw[Wl]at h;exact h))) (λk _=>.scr k) (λc n e _=>.exc c n e) (λk _=>.fn k) (λ_ _ _ _ h=>by rw[dcD,Wl]at h;cases h) (λ_=>.nil)
  (λk r h=>by rw[Zeq,X3]at h;exact .cons (k h.1) (r h.2))
theorem Da.flat{d:Xa}(h:Da G H L v d)(f:Wl d=YD):Da G H L' v d:=Da.flat2.1 h f
set_option genInjectivity false in
structure Zg4 where
 nx:Zf->Prop
 rt:OT->Zf->Prop
 bk:Zf->Prop:=λ_=>False
 ct:Zf->Prop:=λ_=>False
abbrev MSt:=Zg4->Zf->Prop
abbrev Kp(H:Hp)(fp:Fp)(H':Hp)(fp':Fp):Prop:=Stp YF H [] fp H' [] fp'
theorem Stp.kp{p:Bool}{H H':Hp}{δ δ':Zf}{fp fp':Fp}(S:Stp p H δ fp H' δ' fp'):Kp H fp H' fp':=⟨λb o e q=>S.keep b o e (.inr (q.resolve_left (by decide))),λz=>(nomatch z),S.grow,S.al⟩
theorem Kp.trans{H H1 H2:Hp}{fp fp1 fp2:Fp}(a:Kp H fp H1 fp1)(b:Kp H1 fp1 H2 fp2):Kp H fp H2 fp2:=Stp.trans a b
theorem Kp.refl(H:Hp)(fp:Fp):Kp H fp H fp:=Stp.refl _ _ _ _
structure RelEnds(C:MC G)(io:List Nat)(ex:YG->Prop)(H:Hp)(fp:Fp)(D:Zg4)(D':Ends):Prop where
 nx:∀H' O' δ' fp',Rel C io H' O' δ' fp' ex->Kp H fp H' fp'->D.nx δ'->D'.nx O' H'
 bk:∀H' O' δ' fp',Rel C io H' O' δ' fp' ex->Kp H fp H' fp'->D.bk δ'->D'.bk O' H'
 ct:∀H' O' δ' fp',Rel C io H' O' δ' fp' ex->Kp H fp H' fp'->D.ct δ'->D'.ct O' H'
 rt:∀H' O' v r δ' fp' new,Rel C io H' O' δ' fp' (exu ex new)->Own G H' (Lf C fp' (exu ex new)) v r new->new.Nodup->(∀a∈new,C.H₀ a=YC)->D.rt r δ'->D'.rt v H'
theorem RelEnds.shift{C:MC G}{io:List Nat}{ex:YG->Prop}{fp fp1:Fp}{D:Zg4}{D':Ends}(E:RelEnds C io ex H fp D D')(k:Kp H fp H1 fp1):RelEnds C io ex H1 fp1 D D' :=
 ⟨λH' O' δ' fp' R q=>E.nx H' O' δ' fp' R (k.trans q),λH' O' δ' fp' R q=>E.bk H' O' δ' fp' R (k.trans q),λH' O' δ' fp' R q=>E.ct H' O' δ' fp' R (k.trans q),E.rt⟩
def SS(G:Xd)(io:List Nat)(t:TS)(m:MSt):Prop:=∀(C:MC G) (H:Hp) (O:St) (δ:Zf) (fp:Fp) (ex:YG->Prop) (D:Zg4) (D':Ends),Rel C io H O δ fp ex->m D δ->RelEnds C io ex H fp D D'->t D' O H
def MS(X:Cx)(io:List Nat)(st:YK)(m:MSt):Prop:=∃t,PS X st t/\SS X.K io t m
def MSs(X:Cx)(io:List Nat)(st:List YK)(m:MSt):Prop:=∃t,PSs X st t/\SS X.K io t m
section
variable {io:List Nat}{p p' p'' c c':Bool}{a:YJ}{m ma mb:MEt}{rest:List YJ}{mr:MAt}{sts:List YK}{u w:MSt}{mt:MTt}
def Z5m:MSt:=λD δ=>D.nx δ
def Yin(w:MSt)(D:Zg4)(δ:Zf):Prop:=w D δ
def Ydn(u w:MSt):MSt:=λD δ=>u { D with nx:=Yin w D } δ
theorem Zz6:MSs X io [] Z5m:=⟨_,Zz9,λC H O δ fp ex D D' R h E=>E.nx H O δ fp R (.refl _ _) h⟩
theorem Zg(h:MS X io st u):MSs X io [st] u:=by
 obtain⟨_,A,s⟩:=h;exact⟨_,Z2t A,s⟩
theorem Zxn(h:MS X io st u)(g:MSs X io sts w):MSs X io (st::sts) (Ydn u w):=by
 obtain⟨_,A,s⟩:=h;obtain⟨tb,B,s'⟩:=g;exact⟨_,Zxf A B,λC H O δ fp ex D D' R h E=>s C H O δ fp ex _ _ R h ⟨λH1 O1 δ1 fp1 R1 k1 h1=>s' C H1 O1 δ1 fp1 ex D D' R1 h1 (E.shift k1),E.bk,E.ct,E.rt⟩⟩
def Z8m:MSt:=λ_ _=>False
theorem Zv5:MS X io st Z8m:=⟨_,Zxb,λC H O δ fp ex D D' R h E=>h.elim⟩
def Z5y(m:MEt):MSt:=λD δ=>m δ λ_ δ'=>D.nx δ'
theorem Zsg(he:ME X io p c e m)(hs:VH e YC pos.line X.env=pure YF:=by rfl):MS X io (.Expr e pos) (Z5y m):=by
 obtain⟨_,A,s⟩:=he;exact⟨_,Zin A hs,λC H O δ fp ex D D' R h E=>s C H O δ fp ex _ _ R h λH' v r δ' fp' new r1 h1=>E.nx H' O δ' fp' r1.base r1.stp.kp h1⟩
def Yf2(m:MEt):MSt:=λD δ=>m δ λr δ'=>D.rt r δ'
theorem Z5p(he:ME X io p YD e m):MS X io (.Return (YB e) pos) (Yf2 m):=by
 obtain⟨_,A,s⟩:=he;exact⟨_,Zp8 A,λC H O δ fp ex D D' R h E=>s C H O δ fp ex _ _ R h λH' v r δ' fp' new r1 h1=>E.rt H' O v r δ' fp' new r1.rel (r1.own.wide λa l _=>l rfl) r1.nd (λa m=>(R.newOk (r1.fresh a m)).2.2) h1⟩
def Zwg(i:Nat):MSt:=λD δ=>match δ[i]? with|some (YB t)=>D.rt t (δ.set i YC)|_=>False
theorem Rel.take{C:MC G}{O:St}{δ:Zf}{fp:Fp}{ex:YG->Prop}{t:OT}(R:Rel C io H O δ fp ex)(hi:δ[i]? =YB (YB t)):Rel C io H O (δ.set i YC) (fpu fp i []) (exu ex (fp i)):=by
 have hil:i<δ.length:=(Xk.mp hi).1;have get:∀j (t':OT),(δ.set i YC)[j]? =YB (YB t')->j≠i/\δ[j]? =YB (YB t'):=λj t' e=>by
  by_cases ej:j=i
  .subst ej;rw[JL hil]at e;cases e
  .rw[QT (Vu ej)]at e;exact⟨ej,e⟩
 have sub:∀j a,a∈fpu fp i [] j->j≠i/\a∈fp j:=λj a m=>by
  by_cases ej:j=i
  .subst ej;rw[Z4]at m;exact nomatch m
  .rw[Yt ej]at m;exact⟨ej,m⟩
 have lw:∀a,Lf C fp ex a->Lf C (fpu fp i []) (exu ex (fp i)) a:=λa l=>⟨λ⟨j,z⟩=>l.1 ⟨j,(sub j a z).2⟩,λz=>z.elim l.2.1 λz=>l.1 ⟨i,z⟩,l.2.2⟩;refine⟨by rw[V3];exact R.len,λj t' e=>?_,λj h=>?_,λj=>?_,λj k a h1 h2=>R.dj j k a (sub j a h1).2 (sub k a h2).2,λj a h z=>?_,λa z w=>?_,R.fr,R.al,λj a h=>R.new j a (sub j a h).2,R.io⟩
 .obtain⟨ej,e⟩:=get j t' e
  obtain⟨w,e1,o⟩:=R.own j t' e;exact⟨w,e1,by rw[Yt ej];exact o.wide λa l _=>lw a l⟩
 .by_cases ej:j=i
  .subst ej;rw[Z4]
  .rw[Yt ej]
   exact R.emp j λt' z=>h t' (by rw[QT (Vu ej)];exact z)
 .by_cases ej:j=i
  .subst ej;rw[Z4];exact .nil
  .rw[Yt ej];exact R.nd j
 .obtain⟨ej,h⟩:=sub j a h
  rcases z with z|z
  .exact R.dx j a h z
  .exact ej (R.dj j i a h z)
 .rcases z with z|z
  .exact R.xa a z w
  .exact R.footSome w ⟨i,z⟩
theorem Zeh(i:Nat){px:Pos}(hio:i∉io:=by decide)(hN:X.N[i]? =YB x:=by rfl)(hv:Vis X.env.scope x:=by first|exact QL rfl|exact Qt (QL rfl)|exact Qt (Qt rfl))(hd:(x==("__debug__" : Str))=YF:=by decide)
  (hcd:(x==("__classdict__" : Str))=YF:=by decide):MS X io (.Return (YB (.Name x px)) pos) (Zwg i):=by
 refine⟨_,Zp8 (pv i hN hv hd hcd),λC H O δ fp ex D D' R h E=>?_⟩;unfold Zwg at h;split at h
 case h_2=>exact h.elim
 rename_i t hi;obtain⟨v,e,o⟩:=R.own i t hi;have lw:∀a,Lf C fp ex a->H a≠YC->Lf C (fpu fp i []) (exu ex (fp i)) a:=λa l _=>⟨λz=>by
  rcases z.of_u with z|⟨j,_,z⟩
  .exact nomatch z
  .exact l.1 ⟨j,z⟩,λz=>z.elim l.2.1 λz=>l.1 ⟨i,z⟩,l.2.2⟩
 have hn:∀a∈fp i,C.H₀ a=YC:=λa m=>by
  rcases R.new i a m with z|z
  .exact YZ z.1 hio
  .exact z
 exact⟨v,e,E.rt H O v t _ _ (fp i) (R.take hi) (o.wide lw) (R.nd i) hn h⟩
def Ye5(t:MTt)(u w:MSt):MSt:=λD δ=>t δ λb δ'=>if b=YD then u D δ' else w D δ'
theorem Ycc{cnd:YJ}{ss ss':List YK}(hc:MT X io p cnd mt)(ha:MSs X io ss u)(hb:MSs X io ss' w):MS X io (.If cnd ss ss' pos) (Ye5 mt u w):=by
 obtain⟨_,T,s⟩:=hc;obtain⟨_,A,sa⟩:=ha;obtain⟨_,B,sb⟩:=hb;exact⟨_,Yd5 T A B,λC H O δ fp ex D D' R h E=>s C H O δ fp ex _ _ R h λH' b δ' fp' R' S h'=>by
  cases b with
  | true=>
   rw[YM rfl]at h'|-
   exact sa C H' O δ' fp' ex D D' R' h' (E.shift S.kp)
  | false=>
   rw[YQ Xx]at h'|-
   exact sb C H' O δ' fp' ex D D' R' h' (E.shift S.kp)⟩
theorem Rel.put{C:MC G}{O:St}{δ:Zf}{fp:Fp}{ex:YG->Prop}{r:OT}{new:List YG}(R:Rel C io H O δ fp (exu ex new))(hio:i∉io)(o:Own G H (Lf C fp (exu ex new)) v r new)(nd:new.Nodup)
  (hn:∀a∈new,C.H₀ a=YC/\¬ex a):∃fp',Rel C io H (O.set i (YB v)) (δ.set i (YB r)) fp' ex/\∀a,Foot fp' a->Foot fp a\/a∈new:=by
 by_cases hil:i<δ.length
 case neg=>
  refine⟨fp,?_,λa h=>.inl h⟩;have hl:=R.len;rw[List.set_eq_of_length_le (show δ.length<=i by omega),List.set_eq_of_length_le (show O.length<=i by omega)];exact R.drop λa z=>.inl z
 have hsl:i<O.length:=by rw[R.len];exact hil
 have sub:∀a,Foot (fpu fp i new) a->Foot fp a\/a∈new:=λa z=>by
  rcases z.of_u with z|⟨j,_,z⟩
  .exact .inr z
  .exact .inl ⟨j,z⟩
 have lw:∀a,Lf C fp (exu ex new) a->Lf C (fpu fp i new) ex a:=λa l=>⟨λz=>(sub a z).elim l.1 λz=>l.2.1 (.inr z),λz=>l.2.1 (.inl z),l.2.2⟩;refine⟨fpu fp i new,⟨by rw[V3,V3];exact R.len,λj t' e=>?_,λj h=>?_,λj=>?_,λj k a h1 h2=>?_,λj a h z=>?_,λa z=>R.xa a (.inl z),R.fr,R.al,λj a h=>?_,λj hj=>?_⟩,sub⟩
 .by_cases ej:j=i
  .subst ej
   rw[JL hil]at e;cases e;exact⟨v,JL hsl,by rw[Z4];exact o.wide λa l _=>lw a l⟩
  .rw[QT (Vu ej)]at e
   obtain⟨w,e1,o1⟩:=R.own j t' e;exact⟨w,by rw[QT (Vu ej)];exact e1,by rw[Yt ej];exact o1.wide λa l _=>lw a l⟩
 .by_cases ej:j=i
  .subst ej;exact YZ (JL hil) (h r)
  .rw[Yt ej]
   exact R.emp j λt' z=>h t' (by rw[QT (Vu ej)];exact z)
 .by_cases ej:j=i
  .subst ej;rw[Z4];exact nd
  .rw[Yt ej];exact R.nd j
 .by_cases ej:j=i
  .subst ej
   rw[Z4]at h1
   by_cases ek:k=j
   .exact ek.symm
   .rw[Yt ek]at h2
    exact YZ (.inr h1) (R.dx k a h2)
  .rw[Yt ej]at h1
   by_cases ek:k=i
   .subst ek
    rw[Z4]at h2;exact YZ (.inr h2) (R.dx j a h1)
   .rw[Yt ek]at h2
    exact R.dj j k a h1 h2
 .by_cases ej:j=i
  .subst ej
   rw[Z4]at h;exact(hn a h).2 z
  .rw[Yt ej]at h
   exact R.dx j a h (.inl z)
 .by_cases ej:j=i
  .subst ej
   rw[Z4]at h;exact .inr (hn a h).1
  .rw[Yt ej]at h
   exact R.new j a h
 .have ej:j≠i:=λz=>hio (z▸hj)
  rw[QT (Vu ej)];exact R.io j hj
theorem RE.put{C:MC G}{O:St}{δ δ':Zf}{fp fp':Fp}{ex:YG->Prop}{r:OT}{new:List YG}(R:RE C io p YD H O δ fp ex H' v r δ' fp' new)(R0:Rel C io H O δ fp ex)(hio:i∉io) :
  ∃fp2,Rel C io H' (O.set i (YB v)) (δ'.set i (YB r)) fp2 ex/\Kp H fp H' fp2:=by
 obtain⟨fp2,R2,g⟩:=R.rel.put hio (R.own.wide λa l _=>l rfl) R.nd λa m=>⟨(R0.newOk (R.fresh a m)).2.2,(R0.newOk (R.fresh a m)).2.1⟩;refine⟨fp2,R2,λb o e q=>R.stp.keep b o e (.inr (q.resolve_left (by decide))),λz=>(nomatch z),λa z=>?_,R.stp.al⟩;rcases g a z with z|z
 .exact R.stp.grow a z
 .exact .inr (R.fresh a z)
theorem RE.fzc{C:MC G}{O:St}{δ δ':Zf}{fp fp':Fp}{ex:YG->Prop}{r:OT}{new:List YG}(R:RE C io p c H O δ fp ex H' v r δ' fp' new)(R0:Rel C io H O δ fp ex) :
  RE C io p c H O δ fp ex H' v (.fz r.data) δ' fp' []:=.fz R.base R.stp (R.da R0)
theorem RE.fzs{C:MC G}{O:St}{δ δ':Zf}{fp fp':Fp}{ex:YG->Prop}{r:OT}{new:List YG}(R:RE C io p c H O δ fp ex H' v r δ' fp' new)(R0:Rel C io H O δ fp ex)(h:Wl r.data=YD) :
  RE C io p YD H O δ fp ex H' v (.fz r.data) δ' fp' []:=.fz R.base R.stp ((R.da R0).flat h)
def Z4x(i:Nat)(m:MEt):MSt:=λD δ=>m δ λr δ'=>D.nx (δ'.set i (YB (.fz r.data)))
def Zo1(i:Nat)(m:MEt):MSt:=λD δ=>m δ λr δ'=>D.nx (δ'.set i (YB r))
section
variable {px:Pos}
theorem Yfv{t:TE}(s:SE G io p YD t m)(hio:i∉io):SS G io (Z81 t (Zrt i)) (Z4x i m):=λC H O δ fp ex D D' R h E=>s C H O δ fp ex _ _ R h λH' v r δ' fp' new r1 h1=>by
 obtain⟨fp2,R2,k2⟩:=(r1.fzc R).put R hio;exact E.nx H' _ _ fp2 R2 k2 h1
theorem Z9l{t:TE}(s:SE G io p YD t m)(hio:i∉io):SS G io (Z81 t (Zrt i)) (Zo1 i m):=λC H O δ fp ex D D' R h E=>s C H O δ fp ex _ _ R h λH' v r δ' fp' new r1 h1=>by
 obtain⟨fp2,R2,k2⟩:=r1.put R hio;exact E.nx H' _ _ fp2 R2 k2 h1
theorem Zhr(hN:X.N.Nodup)(hi:X.N[i]? =YB x)(hx:Loc X.env.scope x)(he:ME X io p YD e m)(hio:i∉io:=by decide)(hs:VH e (YB (.Name x px)) pos.line X.env=pure YF:=by rfl)(hf:X.fn x=YD\/X.env.scope.names.lookup x=YB .local:=by first|exact .inl rfl|exact .inr rfl|assumption) :
  MS X io (.Assign [.Name x px] e pos) (Z4x i m):=by
 obtain⟨_,A,s⟩:=he;exact⟨_,Zx8 hN hi hx A hs hf,Yfv s hio⟩
theorem Zqi(hN:X.N.Nodup)(hi:X.N[i]? =YB x)(hx:Loc X.env.scope x)(he:ME X io p YD e m)(hio:i∉io:=by decide)(hs:VH e (YB (.Name x px)) pos.line X.env=pure YF:=by rfl)(hf:X.fn x=YD\/X.env.scope.names.lookup x=YB .local:=by first|exact .inl rfl|exact .inr rfl|assumption) :
  MS X io (.Assign [.Name x px] e pos) (Zo1 i m):=by
 obtain⟨_,A,s⟩:=he;exact⟨_,Zx8 hN hi hx A hs hf,Z9l s hio⟩
end
def Zyf(t:MTt)(u:MSt):MSt:=λD δ=>∃W:Nat->Zf->Prop,(∃n,W n δ)/\∀n δ,W n δ->t δ λb δ'=>if b=YD then∃N:Zf->Prop,(∀δ',N δ'->∃n',n'<n/\W n' δ')/\u { D with nx:=N,ct:=N,bk:=D.nx } δ' else D.nx δ'
theorem Zw0{cnd:YJ}{ss:List YK}(hp:PassesOwn (X8 X.prog X.w) X.A X.env X.xe)(hc:MT X io p cnd mt)(ha:MSs X io ss u):MS X io (.While cnd ss [] pos) (Zyf mt u):=by
 obtain⟨_,T,s⟩:=hc;obtain⟨_,A,sa⟩:=ha;refine⟨_,Zxo hp T A,λC H O δ fp ex D D' R h E=>?_⟩;obtain⟨W,⟨n0,w0⟩,turn⟩:=h;refine⟨λn O' H'=>∃δ' fp',Rel C io H' O' δ' fp' ex/\Kp H fp H' fp'/\W n δ',⟨n0,δ,fp,R,.refl _ _,w0⟩,?_⟩;rintro n O1 H1 ⟨δ1,fp1,R1,k1,w1⟩;refine s C H1 O1 δ1 fp1 ex _ _ R1 (turn n δ1 w1) λH2 b δ2 fp2 R2 S2 h2=>?_;have k2:=k1.trans S2.kp;cases b with
 | true=>
  rw[YM rfl]at h2|-
  obtain⟨N,hN,h2⟩:=h2;refine⟨λO' H'=>∃δ' fp',Rel C io H' O' δ' fp' ex/\Kp H fp H' fp'/\N δ',λO' H' ⟨δ',fp',R',k',n'⟩=>?_,?_⟩
  .obtain⟨n1,hn1,w1⟩:=hN δ' n'
   exact⟨n1,hn1,δ',fp',R',k',w1⟩
  .refine sa C H2 O1 δ2 fp2 ex _ _ R2 h2 ⟨λH' O' δ' fp' R' k' n'=>⟨δ',fp',R',k2.trans k',n'⟩,λH' O' δ' fp' R' k' n'=>E.nx H' O' δ' fp' R' (k2.trans k') n',λH' O' δ' fp' R' k' n'=>⟨δ',fp',R',k2.trans k',n'⟩,E.rt⟩
 | false=>
  rw[YQ Xx]at h2|-
  exact E.nx H2 O1 δ2 fp2 R2 k2 h2
end
def Zpz(N:List Str)(ds:List Xa):Zf:=ds.map (λd=>YB (.fz d))++Qi (N.length-ds.length) YC
section
variable {vs:List V}
theorem Zuu{t:OT}{n:Nat}(h:(ds.map (λd=>YB (.fz d))++Qi n YC:Zf)[i]? =YB (YB t)):∃d,ds[i]? =YB d/\t= .fz d:=by
 rw[List.getElem?_append]at h;split at h
 .rw[Xi]at h
  cases e:ds[i]? with
  | none=>rw[e]at h;cases h
  | some d=>rw[e]at h;cases h;exact⟨d,rfl,rfl⟩
 .rw[List.getElem?_replicate]at h
  split at h
  .cases h
  .cases h
theorem Rel.entry(h:Das G H L vs ds):Rel (G:=G) ⟨H,λ_=>False,L,start N vs⟩ [] H (start N vs) (Zpz N ds) (λ_=>[]) (λ_=>False):=by
 refine⟨?_,λi t e=>?_,λ_ _=>rfl,λ_=>.nil,λi j a m=>(nomatch m),λi a m=>(nomatch m),λa z=>z.elim,λb o e _=>e,λb e=>e,λi a m=>(nomatch m),λi m=>nomatch m⟩
 .unfold start Zpz
  simp[h.length]
 .obtain⟨d,e',rfl⟩:=Zuu e
  obtain⟨x,e1,q⟩:=h.get e';refine⟨x,?_,.fz (q.wide λa l _=>⟨λ⟨j,z⟩=>(nomatch z),λz=>z,.inl l⟩)⟩;unfold L2.start;rw[Vv (by rw[Xc];exact(Xk.mp e1).1),Xi,e1];rfl
variable {base:YH}
def Z2j(k:OT->Prop):Zg4:={ nx:=λ_=>k (.fz .none),rt:=λr _=>k r }
theorem Fun.okD{f:YG}{fd:Qp}{n:Nat}{S:List Xa->(OT->Prop)->Prop}(F:Fun K x qual st f fd)(Sc:Zy N ps (Zk st))(len:∀ds k,S ds k->ds.length=ps.length)
  (hbody:∀(cdv:Xe) (A:Qv) (outer:List Env) (s:Xg) (H:Hp) (E:XK),Room n (A.deeper (envOfC qual (Zk st) s.heap.objs.size f cdv)) ->
   ∃m,MSs (Zx5 CX0 P w K mg base N qual (Zk st) f cdv A outer s H E).nox [] (Za3 st) m/\∀ds k,S ds k->m (Z2j k) (Zpz N ds)):FnOk P w K mg base CX0 (n+1) f fd ps (spD K S):=by
 refine F.ok Sc (λvs H Q E h=>?_) (λcdv A outer s H vs Q E hr h=>?_)
 .obtain⟨L,ds,k,h1,h2,_⟩:=h
  rw[h1.length];exact len ds k h2
 .obtain⟨L,ds,k,h1,h2,h3⟩:=h
  obtain⟨m,⟨t,A1,s1⟩,q⟩:=hbody cdv A outer s H E hr;refine⟨t,A1,s1 ⟨H,λ_=>False,L,start N vs⟩ H _ _ _ _ (Z2j k) _ (Rel.entry h1) (q ds k h2) ⟨λH' O' δ' fp' R _ hk=>?_,λ_ _ _ _ _ _ z=>z.elim,λ_ _ _ _ _ _ z=>z.elim,λH' O' v r δ' fp' new R o nd hn hk=>?_⟩⟩
  .exact h3 _ .non H' [] hk (λb o e=>R.fr b o e id) (.fz .non) .nil λa m=>nomatch m
  .refine h3 r v H' new hk (λb o e=>R.fr b o e id) (o.wide λa l _=>⟨?_,λz=>l.2.1 (.inr z)⟩) nd hn
   exact l.2.2
end
abbrev MGt:=Xa->Zf->(Zf->Prop)->Prop
abbrev Zq0:=List Xa->Zf->(Zf->Prop)->Prop
def SG(G:Xd)(io:List Nat)(c:Bool)(t:TG)(g:MGt):Prop:=∀(C:MC G) (H:Hp) (O:St) (δ:Zf) (fp:Fp) (ex:YG->Prop) (v:V) (d:Xa) (k:Zf->Prop) (Q:St->Hp->Prop),Rel C io H O δ fp ex->Da G H (λa=>c=YD->Lf C fp ex a) v d->g d δ k ->
 (∀ O' δ' fp',Rel C io H O' δ' fp' ex->Kp H fp H fp'->k δ'->Q O' H)->t v O H Q
def SGs(G:Xd)(io:List Nat)(c:Bool)(t:TGs)(g:Zq0):Prop:=∀(C:MC G) (H:Hp) (O:St) (δ:Zf) (fp:Fp) (ex:YG->Prop) (v:List V) (d:List Xa) (k:Zf->Prop) (Q:St->Hp->Prop),Rel C io H O δ fp ex->Das G H (λa=>c=YD->Lf C fp ex a) v d->g d δ k ->
 (∀ O' δ' fp',Rel C io H O' δ' fp' ex->Kp H fp H fp'->k δ'->Q O' H)->t v O H Q
def MG(X:Cx)(io:List Nat)(c:Bool)(tg:YJ)(g:MGt):Prop:=∃t,PG X tg t/\SG X.K io c t g
def MGs(X:Cx)(io:List Nat)(c:Bool)(tg:List YJ)(g:Zq0):Prop:=∃t,PGs X tg t/\SGs X.K io c t g
variable {ex ex':YG->Prop}{c p p' c' p'':Bool}{cnd:YJ}{fp fp' fp1:Fp}{H'':Hp}{as:List YG}{io:List Nat}{ts:List OT}{sts ss:List YK}{mr:MAt}{ma mb:MEt}{pp px:Pos}{δ δ' δ1:Zf}{gs:Zq0}
def dName(i:Nat):MGt:=λd δ k=>k (δ.set i (YB (.fz d)))
def Zye(i:Nat):MGt:=λd δ k=>Wl d=YD/\k (δ.set i (YB (.fz d)))
theorem Rel.putD{C:MC G}{O:St}{d:Xa}(R:Rel C io H O δ fp ex)(hio:i∉io)(q:Da G H (Lf C fp ex) v d) :
  ∃fp',Rel C io H (O.set i (YB v)) (δ.set i (YB (.fz d))) fp' ex/\Kp H fp H fp':=by
 obtain⟨fp',R',g⟩:=(R.drop λa z=>Ju.mp z).put (new:=[]) hio (.fz (q.wide λa l _=>⟨l.1,λz=>l.2.1 (Ju.mp z),l.2.2⟩)) .nil (λa m=>nomatch m);exact⟨fp',R',λb o e _=>e,λz=>(nomatch z),λa z=>(g a z).imp id λz=>(nomatch z),λb e=>e⟩
theorem Z4i(hN:X.N.Nodup)(hi:X.N[i]? =YB x:=by rfl)(hx:Loc X.env.scope x:=by first|exact QL rfl|exact Qt rfl)(hio:i∉io:=by decide)(hf:X.fn x=YD\/X.env.scope.names.lookup x=YB .local:=by first|exact .inl rfl|exact .inr rfl|assumption):MG X io YD (.Name x pos) (dName i) :=
 ⟨_,Zqp hN hi hx hf,λC H O δ fp ex v d k Q R q h kk=>by
  obtain⟨fp',R',k'⟩:=R.putD hio (q.wide λa l _=>l rfl);exact kk _ _ fp' R' k' h⟩
theorem Zff(hN:X.N.Nodup)(hi:X.N[i]? =YB x:=by rfl)(hx:Loc X.env.scope x:=by first|exact QL rfl|exact Qt rfl)(hio:i∉io:=by decide)(hf:X.fn x=YD\/X.env.scope.names.lookup x=YB .local:=by first|exact .inl rfl|exact .inr rfl|assumption):MG X io c (.Name x pos) (Zye i) :=
 ⟨_,Zqp hN hi hx hf,λC H O δ fp ex v d k Q R q h kk=>by
  obtain⟨fp',R',k'⟩:=R.putD hio (q.flat h.1);exact kk _ _ fp' R' k' h.2⟩
def Yfx:Zq0:=λds δ k=>ds=[]/\k δ
def Z1m(g:MGt)(gs:Zq0):Zq0:=λds δ k=>match ds with|d::r=>g d δ λδ'=>gs r δ' k|[]=>False
theorem Zl2:MGs X io c [] Yfx:=⟨_,Z0z,λC H O δ fp ex v d k Q R q h kk=>by
 obtain⟨rfl,h⟩:=h;cases q;exact⟨rfl,kk O δ fp R (.refl _ _) h⟩⟩
theorem Rel.kp_das{C:MC G}{O:St}{vs:List V}(R:Rel C io H O δ fp ex)(S:Kp H fp H' fp')(h:Das G H (Lf C fp ex) vs ds):Das G H' (Lf C fp' ex) vs ds:=by
 have S':Stp YF H δ fp H' δ fp':=⟨S.keep,λz=>(nomatch z),S.grow,S.al⟩;obtain⟨f1,f2⟩:=R.frameL (c:=YD) (ex':=ex) S' (.inr rfl) λa z=>.inl z;exact h.frame (λa xs l q=>⟨(f1 a xs (λ_=>l) q).1 rfl,(f1 a xs (λ_=>l) q).2⟩) f2
theorem Zds{g:MGt}(h1:MG X io YD e g)(h2:MGs X io YD es gs)
  (hs:(JR (e::es) X.env).map (·.2)=U5 e X.env::(JR es X.env).map (·.2):=by rfl):MGs X io YD (e::es) (Z1m g gs):=by
 obtain⟨_,A,s⟩:=h1;obtain⟨_,B,s'⟩:=h2;exact⟨_,Zmu A B hs,λC H O δ fp ex v d k Q R q h kk=>by
  cases q with
  | nil=>exact h.elim
  | cons q qs=>
   refine⟨_,_,rfl,s C H O δ fp ex _ _ _ _ R q h λO1 δ1 fp1 R1 k1 h1=>?_⟩;exact s' C H O1 δ1 fp1 ex _ _ _ _ R1 ((R.kp_das k1 (qs.wide λa l _=>l rfl)).wide λa l _ _=>l) h1 λO2 δ2 fp2 R2 k2 h2=>kk O2 δ2 fp2 R2 (k1.trans k2) h2⟩
theorem Zks{g:MGt}(h1:MG X io YF e g)(h2:MGs X io YF es gs)
  (hs:(JR (e::es) X.env).map (·.2)=U5 e X.env::(JR es X.env).map (·.2):=by rfl):MGs X io YF (e::es) (Z1m g gs):=by
 obtain⟨_,A,s⟩:=h1;obtain⟨_,B,s'⟩:=h2;exact⟨_,Zmu A B hs,λC H O δ fp ex v d k Q R q h kk=>by
  cases q with
  | nil=>exact h.elim
  | cons q qs=>
   refine⟨_,_,rfl,s C H O δ fp ex _ _ _ _ R (q.wide λa _ _ z=>nomatch z) h λO1 δ1 fp1 R1 k1 h1=>?_⟩;exact s' C H O1 δ1 fp1 ex _ _ _ _ R1 (qs.wide λa _ _ z=>nomatch z) h1 λO2 δ2 fp2 R2 k2 h2=>kk O2 δ2 fp2 R2 (k1.trans k2) h2⟩
def dTup(n:Nat)(gs:Zq0):MGt:=λd δ k=>match d with| .tuple ds=>ds.length=n/\gs ds δ k|_=>False
theorem Zts{k:Nat}{n:Nat}(hc:X.calm=YD)(h:MGs X io c es gs)
  (hn:(JR es X.env).length=n:=by rfl) (hst:(JR es X.env).findIdx? (·.1)=YC:=by rfl):MG X io c (.Tuple es k pos) (dTup n gs):=by
 obtain⟨_,A,s⟩:=h;exact⟨_,Z6i hc A hn hst,λC H O δ fp ex v d k Q R q h kk=>by
  cases q with
  | tup e qs=>exact⟨_,_,rfl,.inl (.inl e),by rw[qs.length];exact h.1,s C H O δ fp ex _ _ _ _ R qs h.2 kk⟩
  | _=>exact h.elim⟩
def Yfw(m:MEt)(g:MGt):MSt:=λD δ=>m δ λr δ'=>g r.data δ' D.nx
theorem Z74{m:MEt}{g:MGt}(he:ME X io p c e m)(hg:MG X io c tg g)(hs:swapsWithSole [tg] e pos.line X.env=pure YF:=by rfl)(hw:swappedStores [tg] e X.env=pure YC:=by rfl)
  (h1:(JR [tg] X.env).map (·.2)=[U5 tg X.env]:=by rfl):MS X io (.Assign [tg] e pos) (Yfw m g):=by
 obtain⟨_,A,s⟩:=he;obtain⟨_,B,s'⟩:=hg;exact⟨_,Zqr A B hs hw h1,λC H O δ fp ex D D' R h E=>s C H O δ fp ex _ _ R h λH' v r δ' fp' new r1 h1=>
  s' C H' O δ' fp' ex v _ _ _ r1.base (r1.da R) h1 λO2 δ2 fp2 R2 k2 h2=>E.nx H' O2 δ2 fp2 R2 (r1.stp.kp.trans k2) h2⟩
def IterOk(C:MC G)(fp:Fp)(ex:YG->Prop)(H1:Hp)(c:Bool)(J:It)(ds:List Xa):Prop:=∀H':Hp,(∀b o,H1 b=YB o->(c=YF\/¬Foot fp b)->H' b=YB o)->∀i:Nat,
 (∀ d,ds[i]? =YB d->J.go i H'/\∀x H'',J.yld i H' x H''->Same H' H''/\Da G H'' (λa=>c=YD->(Lf C fp ex a/\H1 a≠YC)) x d)/\(ds[i]? =YC->J.stop i H')
abbrev MIt:=Zf->(List Xa->Zf->Prop)->Prop
def SI(G:Xd)(io:List Nat)(p c:Bool)(t:TI)(m:MIt):Prop:=∀(C:MC G) (H:Hp) (O:St) (δ:Zf) (fp:Fp) (ex:YG->Prop) (K:List Xa->Zf->Prop) (Q:It->Hp->Prop),Rel C io H O δ fp ex->m δ K ->
 (∀ J H1 ds δ1 fp1,Rel C io H1 O δ1 fp1 ex->Stp p H δ fp H1 δ1 fp1->IterOk C fp1 ex H1 c J ds->K ds δ1->Q J H1)->t O H Q
def MI(X:Cx)(io:List Nat)(p c:Bool)(tg iter:YJ)(m:MIt):Prop:=∃t,PI X tg iter t/\SI X.K io p c t m
section
variable {a:YJ}{m:MEt}
def iL(m:MEt):MIt:=λδ K=>m δ λr δ'=>match r.data with| .list ds=>K ds δ'|_=>False
def iT(m:MEt):MIt:=λδ K=>m δ λr δ'=>match r.data with| .tuple ds=>K ds δ'|_=>False
theorem Rel.kept{C:MC G}{H H':Hp}{O:St}{δ:Zf}{fp:Fp}{ex:YG->Prop}(R:Rel C io H O δ fp ex)(kp:∀b o,H b=YB o->(c=YF\/¬Foot fp b)->H' b=YB o) :
  (∀ a (xs:MuO),(c=YD->Lf C fp ex a)->Rd H a xs.ho->(c=YD->(Lf C fp ex a/\H a≠YC))/\Rd H' a xs.ho)/\(∀a (xs:ImO),H a=YB xs.ho->H' a=YB xs.ho):=by
 refine⟨λa xs l q=>⟨λhc=>⟨l hc,q.some⟩,?_⟩,λa xs q=>kp a _ q (.inr λz=>?_)⟩
 .have hk:c=YF\/¬Foot fp a:=by
   cases c with
   | false=>exact .inl rfl
   | true=>exact .inr (l rfl).1
  rcases q with q|⟨o,q⟩
  .exact .inl (kp a _ q hk)
  .exact .inr ⟨o,kp a _ q hk⟩
 .obtain⟨ys,e⟩:=R.foot z
  exact ImO.nm q e
theorem Z2r(h:ME X io p c e m):MI X io p c tg e (iL m):=by
 obtain⟨_,A,s⟩:=h;exact⟨_,Zvv rfl A,λC H O δ fp ex K' Q R h kk=>s C H O δ fp ex _ _ R h λH1 v r δ1 fp1 new r1 h1=>by
  have q:=r1.da R;generalize r.data=d at q h1;cases q with
  | lst l e qs=>
   refine⟨_,rfl,⟨_,.inl e⟩,kk _ H1 _ δ1 fp1 r1.base r1.stp (λH' kp i=>?_) h1⟩;obtain⟨f1,f2⟩:=r1.base.kept kp;have e':=(f1 _ (.lst _) l e).2;have qs':=qs.frame f1 f2;refine⟨λd hd=>?_,λhd=>?_⟩
   .obtain⟨x,hx,qx⟩:=qs'.get hd
    refine⟨⟨_,x,.inl e',hx⟩,λy H'' hy=>?_⟩;obtain⟨rfl,hy⟩:=hy;have:=hy _ (.inl e');rw[hx]at this;cases this;exact⟨Same.refl _,qx⟩
   .exact⟨_,.inl e',by rw[qs'.length];exact QD.mp hd⟩
  | scr ks=>
   refine⟨_,rfl,⟨_,ks.sq⟩,kk _ H1 _ δ1 fp1 r1.base r1.stp (λH' kp i=>?_) h1⟩;refine⟨λd hd=>?_,λhd=>?_⟩
   .obtain⟨x,hx,qx⟩:=(Das.ints (G:=X.K) (H:=H') (L:=λa=>c=YD->(Lf C fp1 ex a/\H1 a≠YC)) _).get hd
    refine⟨⟨_,x,ks.sq,hx⟩,λy H'' hy=>?_⟩;obtain⟨rfl,hy⟩:=hy;have:=hy _ ks.sq;rw[hx]at this;cases this;exact⟨Same.refl _,qx⟩
   .refine⟨_,ks.sq,?_⟩
    have:=QD.mp hd;simpa using this
  | _=>exact h1.elim⟩
theorem Z7v(h:ME X io p c e m):MI X io p c tg e (iT m):=by
 obtain⟨_,A,s⟩:=h;exact⟨_,Z3f rfl A,λC H O δ fp ex K' Q R h kk=>s C H O δ fp ex _ _ R h λH1 v r δ1 fp1 new r1 h1=>by
  have q:=r1.da R;generalize r.data=d at q h1;cases q with
  | tup e qs=>
   refine⟨_,rfl,⟨_,.inl (.inl e)⟩,kk _ H1 _ δ1 fp1 r1.base r1.stp (λH' kp i=>?_) h1⟩;obtain⟨f1,f2⟩:=r1.base.kept kp;have e':=f2 _ (.tup _) e;have qs':=qs.frame f1 f2;refine⟨λd hd=>?_,λhd=>?_⟩
   .obtain⟨x,hx,qx⟩:=qs'.get hd
    refine⟨⟨_,x,.inl (.inl e'),hx⟩,λy H'' hy=>?_⟩;obtain⟨rfl,hy⟩:=hy;have:=hy _ (.inl (.inl e'));rw[hx]at this;cases this;exact⟨Same.refl _,qx⟩
   .exact⟨_,.inl (.inl e'),by rw[qs'.length];exact QD.mp hd⟩
  | _=>exact h1.elim⟩
def Ze5(lo:Int)(n:Nat):List Xa:=(Xj n).map λ(i:Nat)=>Xw (lo+(i:Int))
@[simp] theorem Wm(lo:Int)(n:Nat):(Ze5 lo n).length=n:=by simp[Ze5]
theorem Zaf{lo:Int}{n i:Nat}{d:Xa}(h:(Ze5 lo n)[i]? =YB d):i<n/\d= .int (lo+i):=by
 have hi:i<n:=by
  have:=(Xk.mp h).1;simpa using this
 unfold Ze5 at h;rw[Xi,Qu hi]at h;cases h;exact⟨hi,rfl⟩
theorem Zny{C:MC G}{lo:Int}{n:Nat}:IterOk C fp ex H1 YD (Itr lo n) (Ze5 lo n):=λH' _ i=>by
 refine⟨λd hd=>?_,λhd=>?_⟩
 .obtain⟨hi,rfl⟩:=Zaf hd
  refine⟨hi,λx H'' hy=>?_⟩;obtain⟨rfl,rfl⟩:=hy;exact⟨Same.refl _,.int _⟩
 .have:=QD.mp hd
  show n<=i;simpa using this
def iR1(mr:MAt):MIt:=λδ K=>mr δ λrs δ'=>match OT.datas rs with|[.int j]=>(-(2^62)<=j/\j<2^62)/\K (Ze5 0 j.toNat) δ'|_=>False
def iR2(mr:MAt):MIt:=λδ K=>mr δ λrs δ'=>match OT.datas rs with|[.int i,.int j]=>(-(2^62)<=i/\i<2^62/\-(2^62)<=j/\j<2^62)/\K (Ze5 i (j-i).toNat) δ'|_=>False
theorem Zt{p':Pos}(hg:Gl X "range")(hm:X.mg "range"=YC)(ha:MA X io p c [a] mr)(hs:Xu [a] X.env=[(YF,eval a X.env)]:=by rfl):MI X io p YD tg (.Call (.Name "range" p') [a] [] pos) (iR1 mr):=by
 obtain⟨_,A,s⟩:=ha;exact⟨_,Zsj hg hm A hs,λC H O δ fp ex K' Q R h kk=>s C H O δ fp ex _ _ R h λH1 vs rs δ1 fp1 new r1 h1=>by
  have q:=r1.das R;generalize OT.datas rs=d at q h1;split at h1
  case h_2=>exact h1.elim
  cases q with
  | cons q1 q2=>
   cases q1;cases q2;exact⟨_,rfl,h1.1.1,h1.1.2,kk _ H1 _ δ1 fp1 r1.base r1.stp Zny h1.2⟩⟩
theorem Zfn{p':Pos}(hg:Gl X "range")(hm:X.mg "range"=YC)(ha:MA X io p c [a,b] mr)(hs:Xu [a,b] X.env=[(YF,eval a X.env),(YF,eval b X.env)]:=by rfl)(hs2:Xu [b] X.env=[(YF,eval b X.env)]:=by rfl):MI X io p YD tg (.Call (.Name "range" p') [a,b] [] pos) (iR2 mr):=by
 obtain⟨_,A,s⟩:=ha;exact⟨_,Zub hg hm A hs hs2,λC H O δ fp ex K' Q R h kk=>s C H O δ fp ex _ _ R h λH1 vs rs δ1 fp1 new r1 h1=>by
  have q:=r1.das R;generalize OT.datas rs=d at q h1;split at h1
  case h_2=>exact h1.elim
  cases q with
  | cons q1 q2=>
   cases q1;cases q2 with
   | cons q2 q3=>
    cases q2;cases q3;exact⟨_,_,rfl,h1.1,kk _ H1 _ δ1 fp1 r1.base r1.stp Zny h1.2⟩⟩
theorem IterOk.at{C:MC G}{fp fp':Fp}{ex:YG->Prop}{H1 H' H'':Hp}{J:It}{ds:List Xa}{x:V}{d:Xa}(g:∀a,Foot fp' a->Foot fp a\/H1 a=YC)(h:Da G H'' (λa=>YD=YD->(Lf C fp ex a/\H1 a≠YC)) x d):Da G H'' (λa=>YD=YD->Lf C fp' ex a) x d :=
 h.wide λa l _ z=>⟨λw=>(g a w).elim (l z).1.1 (l z).2,(l z).1.2.1,(l z).1.2.2⟩
def Yck(ds:List Xa)(g:MGt)(u:MSt)(D:Zg4)(δ1:Zf):Prop:=∃I:Nat->Zf->Prop,I 0 δ1/\(∀(i:Nat) (d:Xa) (δ':Zf),ds[i]? =YB d->I i δ'->g d δ' λδ2=>u { D with nx:=I (i+1),ct:=I (i+1),bk:=D.nx } δ2)/\∀δ',I ds.length δ'->D.nx δ'
def Ygp(mi:MIt)(g:MGt)(u:MSt):MSt:=λD δ=>mi δ λds δ1=>Yck ds g u D δ1
theorem Rel.mk0{C:MC G}{O:St}(R:Rel C io H O δ fp ex)(s:Same H H'):Rel C io H' O δ fp ex:=(R.made (new:=[]) s λa m=>nomatch m).drop λa z=>.inl z
theorem Z8i{mi:MIt}{g:MGt}{u:MSt}(hp:PassesOwn (X8 X.prog X.w) X.A X.env X.xe)(hc:X.calm=YD)(hi:MI X io p YD tg iter mi)(hg:MG X io YD tg g)(hb:MSs X io body u)
  (hs:∀x,VJ iter X.env x=pure x:=by intro _;rfl):MS X io (.For tg iter body [] pos) (Ygp mi g u):=by
 obtain⟨_,A,s⟩:=hi;obtain⟨_,G,sg⟩:=hg;obtain⟨_,B,sb⟩:=hb;refine⟨_,Z9p hp hc A G B hs,λC H O δ fp ex D D' R h E=>s C H O δ fp ex _ _ R h λJ H1 ds δ1 fp1 R1 S1 it h1=>?_⟩;obtain⟨I,h0,turn,fin⟩:=h1;refine⟨λi n O' H'=>n=ds.length-i/\i<=ds.length/\∃δ' fp',Rel C io H' O' δ' fp' ex/\Kp H1 fp1 H' fp'/\I i δ',⟨ds.length,rfl,Qw _,δ1,fp1,R1,.refl _ _,h0⟩,?_⟩;rintro i n O2 H2 ⟨rfl,hle,δ2,fp2,R2,k2,i2⟩;have itk:=it H2 (λb o e q=>k2.keep b o e (.inr (q.resolve_left (by decide)))) i
 by_cases hlt:i<ds.length
 .have hd:ds[i]? =YB ds[i]:=Xn hlt
  obtain⟨go,yl⟩:=itk.1 _ hd;refine .inr ⟨go,λO' H'=>∃δ' fp',Rel C io H' O' δ' fp' ex/\Kp H1 fp1 H' fp'/\I (i+1) δ',λO' H' ⟨δ',fp',R',k',i'⟩=>⟨ds.length-(i+1),by omega,rfl,hlt,δ',fp',R',k',i'⟩,λx H3 hy=>?_⟩;obtain⟨s3,q3⟩:=yl x H3 hy;have R3:=R2.mk0 s3;have k3:Kp H1 fp1 H3 fp2:=k2.trans ⟨λb o e _=>s3 _ _ e,λz=>(nomatch z),λa z=>.inl z,s3.al⟩;refine sg C H3 O2 δ2 fp2 ex x _ _ _ R3 (IterOk.at (H':=H2) (J:=J) (ds:=ds) k2.grow q3) (turn i _ δ2 hd i2) λO4 δ4 fp4 R4 k4 h4=>?_;have k5:=k3.trans k4;refine sb C H3 O4 δ4 fp4 ex _ _ R4 h4 ⟨λH' O' δ' fp' R' k' n'=>⟨δ',fp',R',k5.trans k',n'⟩,λH' O' δ' fp' R' k' n'=>E.nx H' O' δ' fp' R' (S1.kp.trans (k5.trans k')) n',λH' O' δ' fp' R' k' n'=>⟨δ',fp',R',k5.trans k',n'⟩,E.rt⟩
 .have e:i=ds.length:=by omega
  subst e;exact .inl ⟨itk.2 (by simp),E.nx H2 O2 δ2 fp2 R2 (S1.kp.trans k2) (fin δ2 i2)⟩
end
def gM(G:Xd)(io:List Nat)(c:Bool)(g:MGt):TG:=λv O H Q=>∃(C:MC G) (δ:Zf) (fp:Fp) (ex:YG->Prop) (d:Xa) (k:Zf->Prop),Rel C io H O δ fp ex/\Da G H (λa=>c=YD->Lf C fp ex a) v d/\g d δ k/\
 ∀O' δ' fp',Rel C io H O' δ' fp' ex->Kp H fp H fp'->k δ'->Q O' H
def tM(G:Xd)(io:List Nat)(p c:Bool)(m:MEt):TE:=λO H Q=>∃(C:MC G) (δ:Zf) (fp:Fp) (ex:YG->Prop) (K:OT->Zf->Prop),Rel C io H O δ fp ex/\m δ K/\∀H' v r δ' fp' new,RE C io p c H O δ fp ex H' v r δ' fp' new->K r δ'->Q v H'
def ttM(G:Xd)(io:List Nat)(p:Bool)(m:MTt):TT:=λO H Q=>∃(C:MC G) (δ:Zf) (fp:Fp) (ex:YG->Prop) (K:Bool->Zf->Prop),Rel C io H O δ fp ex/\m δ K/\∀H' b δ' fp',Rel C io H' O δ' fp' ex->Stp p H δ fp H' δ' fp'->K b δ'->Q b H'
def MIfs(X:Cx)(io:List Nat)(p:Bool)(ifs:List YJ)(m:MTt):Prop:=∃t,Z2s X ifs t/\STt X.K io p t m
section
variable {m:MEt}{mt:MTt}{g:MGt}
theorem MG.canon(h:MG X io c tg g):PG X tg (gM X.K io c g):=by
 obtain⟨t,A,s⟩:=h;rintro pins sh O H v u Q I r ⟨C,δ,fp,ex,d,k,R,q,h,kk⟩;exact A pins sh O H v u Q I r (s C H O δ fp ex v d k Q R q h kk)
theorem ME.canon(h:ME X io p c e m):PE X e (tM X.K io p c m):=by
 obtain⟨t,A,s⟩:=h;rintro pins sh O H Q I ⟨C,δ,fp,ex,K,R,h,kk⟩;exact A pins sh O H Q I (s C H O δ fp ex K Q R h kk)
theorem MIfs.canon(h:MIfs X io p ifs mt):Z2s X ifs (ttM X.K io p mt):=by
 obtain⟨t,A,s⟩:=h;rintro pins sh O H Q I ⟨C,δ,fp,ex,K,R,h,kk⟩;exact A pins sh O H Q I (s C H O δ fp ex K Q R h kk)
def Z49:MTt:=λδ K=>K YD δ
theorem Wx:MIfs X io YD [] Z49:=⟨_,Z2v,λC H O δ fp ex K Q R h kk=>kk H YD δ fp R (.refl _ _ _ _) h⟩
theorem Zfv(h:MT X io p cnd mt):MIfs X io p [cnd] mt:=by
 obtain⟨_,A,s⟩:=h;exact⟨_,Z3l A,s⟩
end
def blk(n:Nat)(caps:List Nat)(δ:Zf):Zf:=Qi n YC++caps.map λi=>(δ[i]?).getD YC
def W3(n:Nat)(caps:List Nat)(fp:Fp):Fp:=λk=>if k<n then[]else match caps[k-n]? with|some i=>fp i|none=>[]
def Zb0(n:Nat)(caps:List Nat):List Nat:=(Xj caps.length).map (·+n)
def Zyd(C:MC G)(H1:Hp)(fp:Fp)(O0:St):MC G:=⟨H1,Foot fp,λa=>(C.L a\/C.H₀ a=YC)/\¬Foot fp a,O0⟩
def Zey(ex:YG->Prop)(D:YG)(fp fpb:Fp)(a:YG):Prop:=ex a\/a=D\/(Foot fp a/\¬Foot fpb a)
section
variable {C:MC G}{O:St}{D:YG}{n:Nat}
theorem Zb7{k:Nat}(h:a∈W3 n caps fp k):∃i,n<=k/\caps[k-n]? =YB i/\a∈fp i:=by
 unfold W3 at h;split at h
 .exact nomatch h
 .split at h
  .rename_i i e
   exact⟨i,by omega,e,h⟩
  .exact nomatch h
theorem Zvz(h:caps[j]? =YB i):W3 n caps fp (n+j)=fp i:=by
 unfold W3;rw[YQ (by omega),show n+j-n=j by omega,h]
theorem Z62{k:Nat}{t:OT}(h:(blk n caps δ)[k]? =YB (YB t)):∃i,n<=k/\caps[k-n]? =YB i/\δ[i]? =YB (YB t):=by
 unfold blk at h;rw[List.getElem?_append]at h;split at h
 .rw[List.getElem?_replicate]at h
  split at h<;>cases h
 .rename_i hk
  rw[V5]at hk h;rw[Xi]at h;cases e:caps[k-n]? with
  | none=>rw[e]at h;cases h
  | some i=>
   rw[e]at h;refine⟨i,by omega,rfl,?_⟩;simp only[Option.map_some]at h;cases e2:δ[i]? with
   | none=>rw[e2]at h;cases h
   | some o=>
    rw[e2]at h;simpa using h
theorem Rel.block(R:Rel C io H1 O δ fp ex)(nd:caps.Nodup)(hD:H1 D=YC) :
  Rel (Zyd C H1 fp (Jm own caps O)) (Zb0 own.length caps) (upd H1 D (.lst [])) (Jm own caps O) (blk own.length caps δ) (W3 own.length caps fp) (Zey ex D fp (W3 own.length caps fp)):=by
 have s:=Zv hD (.lst []);have sub:∀a,Foot (W3 own.length caps fp) a->Foot fp a:=λa q91=>by
  obtain⟨k,z⟩:=q91;obtain⟨i,_,_,z⟩:=Zb7 z;exact⟨i,z⟩
 have neD:∀a,H1 a≠YC->a≠D:=λa h z=>h (z▸hD);refine⟨by unfold Jm blk;simp,λk t e=>?_,λk h=>?_,λk=>?_,λk l a h1 h2=>?_,λk a h z=>?_,λa z=>?_,λb o e _=>s _ _ e,λb e=>s.free e,λk a h=>?_,λk _=>rfl⟩
 .obtain⟨i,hk,e1,e2⟩:=Z62 e
  obtain⟨v,e3,o⟩:=R.own i t e2;refine⟨v,?_,?_⟩
  .unfold Jm
   rw[JX (by simpa using hk),Xc,Xi,e1];simp[e3]
  .have ef:W3 own.length caps fp k=fp i:=by
    have:=Zvz (n:=own.length) (fp:=fp) e1
    rwa[show own.length+(k-own.length)=k by omega]at this
   rw[ef];refine(o.wide λa l q=>⟨λz=>l.1 (sub a z),λz=>?_,.inl ⟨l.2.2,l.1⟩⟩).same s;rcases z with z|z|z
   .exact l.2.1 z
   .exact neD a q z
   .exact l.1 z.1
 .unfold W3
  split
  .rfl
  .split
   .rename_i i e1
    refine R.emp i λt z=>h t ?_;unfold blk;rw[JX (by rw[V5];omega),V5,Xi,e1];simp[z]
   .rfl
 .unfold W3
  split
  .exact .nil
  .split
   .exact R.nd _
   .exact .nil
 .obtain⟨i,hk,e1,m1⟩:=Zb7 h1
  obtain⟨j,hl,e2,m2⟩:=Zb7 h2;have:=R.dj i j a m1 m2;subst this;have hlt:=(Xk.mp e1).1;have:=(List.getElem?_inj hlt nd).mp (e1.trans e2.symm);omega
 .obtain⟨i,hk,e1,m⟩:=Zb7 h
  rcases z with z|z|z
  .exact R.dx i a m z
  .exact R.footSome (z▸hD) ⟨i,m⟩
  .exact z.2 ⟨k,h⟩
 .rcases z with z|z|z
  .intro q;exact R.xa a z (s.free q)
  .subst z;rw[Zu];intro q;cases q
  .obtain⟨xs,e⟩:=R.foot z.1
   rw[s _ _ e];intro q;cases q
 .obtain⟨i,hk,e1,m⟩:=Zb7 h
  refine .inl ⟨?_,⟨i,m⟩⟩;have:=(Xk.mp e1).1;exact XM.mpr ⟨k-own.length,by simpa using this,by omega⟩
theorem Z6h{O0:St}(hx:∀a,ex a->ex' a)(l:Lf (Zyd C H1 fp O0) fp' ex' a):Lf C fp ex a\/H1 a=YC:=by
 obtain⟨l1,l2,l3⟩:=l;rcases l3 with l3|l3
 .exact .inl ⟨l3.2,λz=>l2 (hx a z),l3.1⟩
 .exact .inr l3
theorem Rel.poke(R:Rel C io H' O δ fp ex)(hx:ex D)(hD:H' D=YB (.lst xs))(h0:C.H₀ D=YC):Rel C io (upd H' D (.lst ys)) O δ fp ex:=by
 have nf:¬Foot fp D:=λ⟨i,z⟩=>R.dx i D z hx;have kp:∀b o,b≠D->H' b=YB o->upd H' D (.lst ys) b=YB o:=λb o n e=>by rw[Zq n];exact e
 refine⟨R.len,λi t e=>?_,R.emp,R.nd,R.dj,R.dx,λa z=>?_,λb o e n=>?_,λb e=>?_,R.new,R.io⟩
 .obtain⟨v,e1,o⟩:=R.own i t e
  refine⟨v,e1,o.frame (λa zs l q=>⟨l,?_⟩) (λa zs q=>kp a _ (λz=>?_) q) λa m zs q=>kp a _ (λz=>nf ⟨i,z▸m⟩) q⟩
  .have na:a≠D:=λz=>l.2.1 (z▸hx)
   rcases q with q|⟨u,q⟩
   .exact .inl (kp a _ na q)
   .exact .inr ⟨u,kp a _ na q⟩
  .exact ImO.nl q (z▸hD)
 .by_cases e:a=D
  .subst e;rw[Zu];intro q;cases q
  .rw[Zq e];exact R.xa a z
 .refine kp b o (λz=>?_) (R.fr b o e n)
  rw[z,h0]at e;cases e
 .refine R.al b ?_
  by_cases q:b=D
  .subst q;rw[Zu]at e;cases e
  .rwa[Zq q]at e
theorem Owns.poke{zs:List V}{rs:List OT}(o:Owns G H' L zs rs as)(hD:H' D=Ve (HO.lst xs))(hL:¬L D)(hn:D∉as):Owns G (upd H' D (.lst ys)) L zs rs as:=by
 refine o.frame (λa zs l q=>⟨l,?_⟩) (λa zs q=>?_) λa m zs q=>?_
 .have na:a≠D:=λz=>hL (z▸l)
  rcases q with q|⟨u,q⟩
  .exact .inl (by rw[Zq na];exact q)
  .exact .inr ⟨u,by rw[Zq na];exact q⟩
 .rw[Zq (λz=>ImO.nl q (z▸hD))];exact q
 .have na:a≠D:=λz=>hn (by rw[<-z];exact m)
  rw[Zq na];exact q
theorem Owns.snoc{rs:List OT}{bs:List YG}{x:V}{r:OT}(h:Owns G H' L xs rs as)(k:Own G H' L x r bs):Owns G H' L (xs++[x]) (rs++[r]) (as++bs) :=
 Owns.rec (motive_1:=λ_ _ _ _=>True) (motive_2:=λxs rs as _=>Owns G H' L (xs++[x]) (rs++[r]) (as++bs)) (λ_=>trivial) (λ_ _ _=>trivial) (λ_ _ _=>trivial) (λ_ _ _=>trivial) (by have:=Owns.cons k .nil;rwa[Qs]at this) (λk _ _ ih=>by rw[QV];exact .cons k ih) h
end
structure Zy1(C:MC G)(H1:Hp)(fp1:Fp)(ex:YG->Prop)(n:Nat)(caps:List Nat)(O0:St)(D:YG)(pb:Bool)(H':Hp)(O':St)(δ':Zf)(fp':Fp)(ys:List V)(rs:List OT)(new:List YG):Prop where
 keep:∀b o,H1 b=YB o->(pb=YD\/¬Foot (W3 n caps fp1) b)->H' b=YB o
 al:∀b,H' b=YC->H1 b=YC
 dat:H' D=YB (.lst ys)
 rel:Rel (Zyd C H1 fp1 O0) (Zb0 n caps) H' O' δ' fp' (exu (Zey ex D fp1 (W3 n caps fp1)) new)
 grow:∀a,Foot fp' a->Foot (W3 n caps fp1) a\/H1 a=YC
 own:Owns G H' (λa=>YD=YD->Lf (Zyd C H1 fp1 O0) fp' (exu (Zey ex D fp1 (W3 n caps fp1)) new) a) ys rs new
 nd:new.Nodup
 fresh:∀a∈new,H1 a=YC/\a≠D
section
variable {pt pe ci:Bool}{g:MGt}{mt:MTt}{me:MEt}
theorem Zqv{C:MC G}{O:St}{D:YG}{Qf:Hp->Prop}(I:Nat->List OT->Zf->Prop)(R1:Rel C io H1 O δ1 fp1 ex)
  (it:∀H':Hp,(∀b o,H1 b=YB o->((pt&&pe)=YD\/¬Foot (W3 own.length caps fp1) b)->H' b=YB o)->∀i:Nat,(∀d,ds[i]? =YB d->J.go i H'/\∀x H'',J.yld i H' x H''->Same H' H''/\Da G H'' (λa=>ci=YD->(Lf C fp1 ex a/\H1 a≠YC)) x d)/\(ds[i]? =YC->J.stop i H'))
  (nd:caps.Nodup) (hD:H1 D=YC) (hz:ds.length<=XC) (h0:I 0 [] (blk own.length caps δ1))
  (turn:∀(i:Nat) (d:Xa) (rs:List OT) (δ':Zf),ds[i]? =YB d->I i rs δ'->g d δ' λδ2=>mt δ2 λb δ3=>if b=YD then me δ3 λr δ4=>I (i+1) (rs++[r]) δ4 else I (i+1) rs δ3)
  (fin:∀H' O' δ' fp' ys rs new,Zy1 C H1 fp1 ex own.length caps (Jm own caps O) D (pt&&pe) H' O' δ' fp' ys rs new->I ds.length rs δ'->Qf H') :
  Z18 J (gM G (Zb0 own.length caps) ci g) (ttM G (Zb0 own.length caps) pt mt) (tM G (Zb0 own.length caps) pe YD me) (Jm own caps O) D Qf H1:=by
 have hx:Zey ex D fp1 (W3 own.length caps fp1) D:=.inr (.inl rfl);refine⟨λi n O' H'=>n=ds.length-i/\i<=ds.length/\∃rs ys new δ' fp',Zy1 C H1 fp1 ex own.length caps (Jm own caps O) D (pt&&pe) H' O' δ' fp' ys rs new/\ys.length<=i/\I i rs δ',⟨ds.length,rfl,Qw _,[],[],[],_,_,⟨λb o e _=>Zv hD _ _ _ e,(Zv hD _).al,Zu,?_,λa z=>.inl z,.nil,.nil,λa m=>(nomatch m)⟩,Xy _,h0⟩,?_⟩
 .exact(R1.block nd hD).drop λa z=>Ju.mp z
 rintro i n O2 H2 ⟨rfl,hle,rs,ys,new,δ2,fp2,B,hl,i2⟩;have subB:∀b,Foot (W3 own.length caps fp1) b->Foot fp1 b:=λb q92=>by
  obtain⟨k,z⟩:=q92;obtain⟨i,_,_,z⟩:=Zb7 z;exact⟨i,z⟩
 have itk:=it H2 B.keep i
 by_cases hlt:i<ds.length
 case neg=>
  have e:i=ds.length:=by omega
  subst e;exact .inl ⟨itk.2 (by simp),fin H2 O2 δ2 fp2 ys rs new B i2⟩
 have hd:ds[i]? =YB ds[i]:=Xn hlt;obtain⟨go,yl⟩:=itk.1 _ hd;refine .inr ⟨go,λx H3 hy=>?_⟩;obtain⟨s3,q3⟩:=yl x H3 hy;have R3:=B.rel.mk0 s3;have D3:H3 D=YB (.lst ys):=s3 _ _ B.dat
 -- the item,clean in the block
 have q3':Da G H3 (λa=>ci=YD->Lf (Zyd C H1 fp1 (Jm own caps O)) fp2 (exu (Zey ex D fp1 (W3 own.length caps fp1)) new) a) x ds[i]:=by
  refine q3.wide λa l _ z=>?_;obtain⟨⟨l1,l2,l3⟩,l4⟩:=l z;refine⟨λw=>?_,λw=>?_,.inl ⟨l3,l1⟩⟩
  .rcases B.grow a w with w|w
   .exact l1 (subB a w)
   .exact l4 w
  .rcases w with(w|w|w)|w
   .exact l2 w
   .subst w;exact l4 hD
   .exact l1 w.1
   .exact l4 (B.fresh a w).1
 refine⟨_,δ2,fp2,_,_,_,R3,q3',turn i _ rs δ2 hd i2,λO4 δ4 fp4 R4 k4 h4=>?_⟩;refine⟨_,δ4,fp4,_,_,R4,h4,λH5 b δ5 fp5 R5 S5 h5=>?_⟩
 -- the state behind the test
 have keep5:∀b o,H1 b=YB o->((pt&&pe)=YD\/¬Foot (W3 own.length caps fp1) b)->H5 b=YB o:=λb o e q=>by
  refine S5.keep b o (s3 _ _ (B.keep b o e q)) ?_;rcases q with q|q
  .rw[X3]at q;exact .inl q.1
  .refine .inr λz=>?_
   rcases k4.grow b z with z|z
   .rcases B.grow b z with z|z
    .exact q z
    .rw[e]at z;cases z
   .rw[s3 _ _ (B.keep b o e (.inr q))]at z;cases z
 have al5:∀b,H5 b=YC->H1 b=YC:=λb e=>B.al b (s3.al b (S5.al b e));have grow4:∀a,Foot fp4 a->Foot (W3 own.length caps fp1) a\/H1 a=YC:=λa z=>by
  rcases k4.grow a z with z|z
  .exact B.grow a z
  .exact .inr (B.al a (s3.al a z))
 have grow5:∀a,Foot fp5 a->Foot (W3 own.length caps fp1) a\/H1 a=YC:=λa z=>by
  rcases S5.grow a z with z|z
  .exact grow4 a z
  .exact .inr (B.al a (s3.al a z))
 have D5:H5 D=YB (.lst ys):=S5.keep D _ D3 (.inr λ⟨k,z⟩=>R4.dx k D z (.inl hx));have own3:=B.own.same s3
 -- the items so far behind the target and the test
 have own4:Owns G H3 (λa=>YD=YD->Lf (Zyd C H1 fp1 (Jm own caps O)) fp4 (exu (Zey ex D fp1 (W3 own.length caps fp1)) new) a) ys rs new:=by
  refine own3.wide λa l q z=>?_;obtain⟨l1,l2,l3⟩:=l z;exact⟨λw=>(k4.grow a w).elim l1 q,l2,l3⟩
 have own5:=R4.owns_step (ex':=exu (Zey ex D fp1 (W3 own.length caps fp1)) new) S5 (c:=YD) (.inr rfl) (λa z=>.inl z) (λa m=>.inr m) own4;dsimp only at h5|-
 cases b with
 | false=>
  rw[YQ Xx]at h5|-
  exact⟨ds.length-(i+1),by omega,rfl,hlt,rs,ys,new,δ5,fp5,⟨keep5,al5,D5,R5,grow5,own5,B.nd,B.fresh⟩,by omega,h5⟩
 | true=>
  rw[YM rfl]at h5|-
  refine⟨_,δ5,fp5,_,_,R5,h5,λH6 v r δ6 fp6 nr r6 h6=>?_⟩;have D6:H6 D=YB (.lst ys):=r6.stp.keep D _ D5 (.inr λ⟨k,z⟩=>R5.dx k D z (.inl hx));have hDnr:D∉nr:=λz=>by
   have:=r6.fresh D z;rw[D5]at this;cases this
  have own6:=R5.owns_step (ex':=exu (exu (Zey ex D fp1 (W3 own.length caps fp1)) new) nr) r6.stp (c:=YD) (.inr rfl) (λa z=>z.imp id λz=>r6.fresh a z) (λa m=>.inr m) own5;have eqx:∀a,exu (Zey ex D fp1 (W3 own.length caps fp1)) (new++nr) a->exu (exu (Zey ex D fp1 (W3 own.length caps fp1)) new) nr a:=λa z=>by
   rcases z with z|z
   .exact .inl (.inl z)
   .rcases Qn.mp z with z|z
    .exact .inl (.inr z)
    .exact .inr z
  have lw:∀a,(YD=YD->Lf (Zyd C H1 fp1 (Jm own caps O)) fp6 (exu (exu (Zey ex D fp1 (W3 own.length caps fp1)) new) nr) a)->H6 a≠YC->(YD=YD->Lf (Zyd C H1 fp1 (Jm own caps O)) fp6 (exu (Zey ex D fp1 (W3 own.length caps fp1)) (new++nr)) a) :=
   λa l _ z=>⟨(l z).1,λw=>(l z).2.1 (eqx a w),(l z).2.2⟩
  have ownA:=(own6.snoc r6.own).wide lw;refine⟨ys,D6,by omega,ds.length-(i+1),by omega,rfl,hlt,rs++[r],ys++[v],new++nr,δ6,fp6,⟨λb o e q=>?_,λb e=>?_,Zu,?_,λa z=>?_,?_,?_,λa m=>?_⟩,by rw[XX];show ys.length+1<=i+1;omega,h6⟩
  .have nD:b≠D:=λz=>by rw[z,hD]at e;cases e
   rw[Zq nD];refine r6.stp.keep b o (keep5 b o e q) ?_;rcases q with q|q
   .rw[X3]at q;exact .inl q.2
   .refine .inr λz=>?_
    rcases grow5 b z with z|z
    .exact q z
    .rw[e]at z;cases z
  .by_cases q:b=D
   .subst q;rw[Zu]at e;cases e
   .rw[Zq q]at e
    exact al5 b (r6.stp.al b e)
  .exact(r6.rel.drop eqx).poke (.inl hx) D6 hD
  .rcases r6.stp.grow a z with z|z
   .exact grow5 a z
   .exact .inr (al5 a z)
  .exact ownA.poke D6 (λz=>(z rfl).2.1 (.inl hx)) (λm=>by
    rcases Qn.mp m with m|m
    .exact(B.fresh D m).2 rfl
    .exact hDnr m)
  .refine Vx.mpr ⟨B.nd,r6.nd,λa m b m' z=>?_⟩
   subst z;obtain⟨xs,e⟩:=own5.some a m;rw[r6.fresh a m']at e;cases e
  .rcases Qn.mp m with m|m
   .exact B.fresh a m
   .exact⟨al5 a (r6.fresh a m),λz=>hDnr (z▸m)⟩
end
section
variable {pt pe ci:Bool}{g:MGt}{mt:MTt}{me m:MEt}{mi:MIt}
def Z43(m:MEt):MEt:=λδ K=>m δ λr δ'=>Wl r.data=YD/\K (.fz r.data) δ'
theorem Z5a(h:ME X io p c e m):ME X io p YD e (Z43 m):=by
 obtain⟨_,A,s⟩:=h;exact⟨_,A,λC H O δ fp ex K Q R h k=>s C H O δ fp ex _ _ R h λH' v r δ' fp' new r1 h1=>k H' v _ δ' fp' [] (r1.fzs R h1.1) h1.2⟩
def Z7z(n:Nat)(caps:List Nat)(ds:List Xa)(g:MGt)(mt:MTt)(me:MEt)(δ1:Zf)(K:OT->Zf->Prop):Prop:=ds.length<=XC/\∃I:Nat->List OT->Zf->Prop,I 0 [] (blk n caps δ1)/\
 (∀ (i:Nat) (d:Xa) (rs:List OT) (δ':Zf),ds[i]? =YB d->I i rs δ'->g d δ' λδ2=>mt δ2 λb δ3=>if b=YD then me δ3 λr δ4=>I (i+1) (rs++[r]) δ4 else I (i+1) rs δ3)/\
 ∀rs δ',I ds.length rs δ'->K (.nd rs) δ1
def Zgz(n:Nat)(caps:List Nat)(mi:MIt)(g:MGt)(mt:MTt)(me:MEt):MEt:=λδ K=>mi δ λds δ1=>Z7z n caps ds g mt me δ1 K
theorem Z3s{wi:TI}(si:SI G io p ci wi mi)(nd:caps.Nodup)(hp:(pt&&pe)=YD) :
  SE G io p YD (Z09 own caps wi (gM G (Zb0 own.length caps) ci g) (ttM G (Zb0 own.length caps) pt mt) (tM G (Zb0 own.length caps) pe YD me)) (Zgz own.length caps mi g mt me):=by
 intro C H O δ fp ex K Q R h k;refine si C H O δ fp ex _ _ R h λJ H1 ds δ1 fp1 R1 S1 it h1 D hD=>?_;obtain⟨hz,I,h0,turn,fin⟩:=h1;refine Zqv I R1 (λH' kp=>it H' λb o e _=>kp b o e (.inl hp)) nd hD hz h0 turn λH' O' δ' fp' ys rs new B i'=>?_;have s:Same H1 H':=λb o e=>B.keep b o e (.inl hp);refine k H' (.ref D) (.nd rs) δ1 fp1 (D::new) (RE.tree R R1 S1 s (λa m=>?_) (Qq.mpr ⟨λm=>(B.fresh D m).2 rfl,B.nd⟩) (.nd B.dat (B.own.wide λa l _=>?_))) (fin rs δ' i')
 .rcases Xo.mp m with rfl|m
  .exact hD
  .exact(B.fresh a m).1
 .refine⟨?_,λm=>?_⟩
  .rcases Z6h (λa z=>.inl (.inl z)) (l rfl)with z|z
   .exact .inl λ_=>z
   .exact .inr z
  .rcases Xo.mp m with z|z
   .exact(l rfl).2.1 (.inl (.inr (.inl z)))
   .exact(l rfl).2.1 (.inr z)
variable {sc:YL}
theorem J4(S:CompScope X own caps N' sc)(hc:X.calm=YD)(nd:caps.Nodup)(hi:MI X io p ci tg iter mi)
  (hg:∀C cells s₂ H₂ fp,MG (Wd X N' sc C cells s₂ H₂ fp) (Zb0 own.length caps) ci tg g) (ht:∀C cells s₂ H₂ fp,MIfs (Wd X N' sc C cells s₂ H₂ fp) (Zb0 own.length caps) pt ifs mt) (he:∀C cells s₂ H₂ fp,ME (Wd X N' sc C cells s₂ H₂ fp) (Zb0 own.length caps) pe YD elt me)
  (hp:(pt&&pe)=YD:=by rfl) (hs:∀x,VJ iter X.env x=pure x:=by intro _;rfl):ME X io p YD (.ListComp elt [⟨tg,iter,ifs,0⟩] sc pos) (Zgz own.length caps mi g mt me):=by
 obtain⟨_,A,si⟩:=hi;exact⟨_,Z4p S hc A (λC cells s₂ H₂ fp=>(hg C cells s₂ H₂ fp).canon) (λC cells s₂ H₂ fp=>(ht C cells s₂ H₂ fp).canon) (λC cells s₂ H₂ fp=>(he C cells s₂ H₂ fp).canon) hs,Z3s si nd hp⟩
section
variable {y:Str}{spos:Pos}
theorem Zb4(own':Bool)(hN:X.N.Nodup)(hy:X.N[i]? =YB y)(hx:Loc X.env.scope y)(S:CompScope X own caps N' sc)(hc:X.calm=YD)(nd:caps.Nodup)(hi:MI X io p ci tg iter mi)
  (hg:∀C cells s₂ H₂ fp,MG (Wd X N' sc C cells s₂ H₂ fp) (Zb0 own.length caps) ci tg g) (ht:∀C cells s₂ H₂ fp,MIfs (Wd X N' sc C cells s₂ H₂ fp) (Zb0 own.length caps) pt ifs mt) (he:∀C cells s₂ H₂ fp,ME (Wd X N' sc C cells s₂ H₂ fp) (Zb0 own.length caps) pe YD elt me)
  (hp:(pt&&pe)=YD:=by rfl) (hio:i∉io:=by decide)
  (hsw:VH (.ListComp elt [⟨tg,iter,ifs,0⟩] sc pos) (YB (.Name y py)) spos.line X.env=pure YD:=by rfl)
  (hs:∀x,VJ iter X.env x=pure x:=by intro _;rfl) (hf:X.fn y=YD\/X.env.scope.names.lookup y=YB .local:=by first|exact .inl rfl|exact .inr rfl|assumption) :
  MS X io (.Assign [.Name y py] (.ListComp elt [⟨tg,iter,ifs,0⟩] sc pos) spos) (if own'=YD then Zo1 i (Zgz own.length caps mi g mt me)else Z4x i (Zgz own.length caps mi g mt me)):=by
 obtain⟨_,A,si⟩:=hi;refine⟨_,Zoz (g:=gM X.K (Zb0 own.length caps) ci g) (tt:=ttM X.K (Zb0 own.length caps) pt mt) (te:=tM X.K (Zb0 own.length caps) pe YD me) hN hy hx S hc A (λC cells s₂ H₂ fp=>(hg C cells s₂ H₂ fp).canon) (λC cells s₂ H₂ fp=>(ht C cells s₂ H₂ fp).canon) (λC cells s₂ H₂ fp=>(he C cells s₂ H₂ fp).canon) hsw hs hf,?_⟩;cases own'
 .exact Yfv (Z3s si nd hp) hio
 .exact Z9l (Z3s si nd hp) hio
end
end
section
variable {O:St}
def Z5c(K:Xd):R2:=λx y H Q=>∃l b xs zs,x= .ref l/\y= .ref b/\SqL K H l xs/\SqL K H b zs/\xs.length+zs.length<=XC/\∀p,H p=YC->Q (.ref p) (upd H p (.lst (xs++zs)))
theorem Inv.lstQ(hK:X.K=K)(I:Inv X pins O H s)(hH:SqL K H l xs):∃(its:List Xe) (n:Nat),Vals xs its/\xs.length=its.length/\∃o,s.heap.get? l=YB o/\o.cls= .type "list"/\o.dict=YC/\o.data= .seq its.toArray n:=by
 subst hK;obtain⟨its,r,⟨o,n,e,h1,h2,h3⟩,_⟩:=I.list hH;exact⟨its,n,r,r.length,o,e,h1,h2,h3⟩
theorem Zql(hK:X.K=K):OpR X (V0 .Add) (Z5c K):=by
 intro pins s O H x y v u Q I rx ry h;obtain⟨l,b,xs,zs,rfl,rfl,hH,hB,hz,q⟩:=h;cases rx;cases ry;obtain⟨its,n,r,hl,⟨cls,dd,data,sl⟩,ho,hc,_,hd⟩:=I.lstQ hK hH;obtain⟨its2,n2,r2,hl2,⟨cls2,dd2,data2,sl2⟩,ho2,hc2,_,hd2⟩:=I.lstQ hK hB;simp only at hc hd hc2 hd2;subst hc hd hc2 hd2;have ea:its.toArray++its2.toArray=(its++its2).toArray:=by simp
 refine concat_meets ⟨_,ho,rfl⟩ ⟨_,ho2,rfl⟩ noFill_list_add seq_list_add PySem.F.slot_list_add PySem.F.entry_list_add (PySem.F.args_list_add_2 _ _) (list_addW l b its.toArray its2.toArray n n2 dd dd2 sl sl2 (by simp only[XQ];omega)) ⟨ho,ho2,?_⟩;rw[ea];exact⟨.ref _,_,I.lnew (t':=s.toks) (r.append r2) (by rw[XX];omega),rfl,q _ I.fresh⟩
end
def asI(d:Xa)(k:Int->Prop):Prop:=match d with| .int i=>k i|_=>False
def asL(d:Xa)(k:List Xa->Prop):Prop:=match d with| .list ds=>k ds|_=>False
section
variable {d:Xa}
theorem Da.intInv{k:Int->Prop}(q:Da G H L v d)(h:asI d k):∃i,v= .int i/\k i:=by
 cases q with
 | int b=>exact⟨b,rfl,h⟩
 | _=>exact h.elim
theorem Da.lstInv{k:List Xa->Prop}(q:Da G H L v d)(h:asL d k):∃a xs ds,v= .ref a/\SqL G H a xs/\Das G H L xs ds/\k ds:=by
 cases q with
 | lst l e r=>exact⟨_,_,_,rfl,.inl e,r,h⟩
 | scr s=>exact⟨_,_,_,rfl,s.sq,.ints _,h⟩
 | _=>exact h.elim
end
def d2I(C:Int->Int->Prop)(g:Int->Int->Xa):Xa->Xa->(Xa->Prop)->Prop:=λd e k=>asI d λi=>asI e λj=>C i j/\k (g i j)
def Zx3(g:Int->Int->Xa):Xa->Xa->(Xa->Prop)->Prop:=λd e k=>asI d λi=>asI e λj=>k (g i j)
theorem Z78{C:Int->Int->Prop}{f:Int->Int->Int}:P2s G (rI C λi j=>.int (f i j)) (d2I C λi j=>.int (f i j)):=λH L x y d e k Q hx hy h kk=>by
 obtain⟨i,rfl,h⟩:=hx.intInv h;obtain⟨j,rfl,h⟩:=hy.intInv h;exact⟨i,j,rfl,rfl,h.1,kk _ _ (.int _) h.2⟩
structure MulOk(i j:Int):Prop where
 ok:IntMulOk i j
structure Yfh(i j:Int):Prop where
 ok:DivOk i j
structure Yfs(i j:Int):Prop where
 ok:Ya2 i j
theorem Z96{f:Int->Int->Int}:P2s G (rI IntMulOk λi j=>.int (f i j)) (d2I MulOk λi j=>.int (f i j)):=λH L x y d e k Q hx hy h kk=>by
 obtain⟨i,rfl,h⟩:=hx.intInv h;obtain⟨j,rfl,h⟩:=hy.intInv h;exact⟨i,j,rfl,rfl,h.1.ok,kk _ _ (.int _) h.2⟩
theorem Z6s{f:Int->Int->Int}:P2s G (rI DivOk λi j=>.int (f i j)) (d2I Yfh λi j=>.int (f i j)):=λH L x y d e k Q hx hy h kk=>by
 obtain⟨i,rfl,h⟩:=hx.intInv h;obtain⟨j,rfl,h⟩:=hy.intInv h;exact⟨i,j,rfl,rfl,h.1.ok,kk _ _ (.int _) h.2⟩
theorem Z8s{f:Int->Int->Int}:P2s G (rI Ya2 λi j=>.int (f i j)) (d2I Yfs λi j=>.int (f i j)):=λH L x y d e k Q hx hy h kk=>by
 obtain⟨i,rfl,h⟩:=hx.intInv h;obtain⟨j,rfl,h⟩:=hy.intInv h;exact⟨i,j,rfl,rfl,h.1.ok,kk _ _ (.int _) h.2⟩
theorem Zs6{f:Int->Int->Int}:P2s G (rI0 λi j=>.int (f i j)) (Zx3 λi j=>.int (f i j)):=λH L x y d e k Q hx hy h kk=>by
 obtain⟨i,rfl,h⟩:=hx.intInv h;obtain⟨j,rfl,h⟩:=hy.intInv h;exact⟨i,j,rfl,rfl,kk _ _ (.int _) h⟩
theorem Zkb{f:Int->Int->Bool}:P2s G (rI0 λi j=>.bl (f i j)) (Zx3 λi j=>.bool (f i j)):=λH L x y d e k Q hx hy h kk=>by
 obtain⟨i,rfl,h⟩:=hx.intInv h;obtain⟨j,rfl,h⟩:=hy.intInv h;exact⟨i,j,rfl,rfl,kk _ _ (.bl _) h⟩
def Yfq(K:Xd):R2:=λx y H Q=>∃(L L':YG->Prop) (d e:Xa),Da K H L x d/\Da K H L' y e/\Shp d/\Shp e/\Q (.bl (QS d e)) H
def Ygd(K:Xd):R2:=λx y H Q=>∃(L L':YG->Prop) (d e:Xa),Da K H L x d/\Da K H L' y e/\Shp d/\Shp e/\Q (.bl (!QS d e)) H
theorem Ztp(hu:X.A.units+64<Vh):OpR X (QH .Eq) (Yfq X.K):=by
 intro pins s O H x y v u Q I rx ry h;obtain⟨L,L',d,e,h1,h2,s1,s2,q⟩:=h;obtain⟨as,k1⟩:=h1.reads rfl I rx (UT s1);obtain⟨bs,k2⟩:=h2.reads rfl I ry (UT s2);exact eq_dataH k1 k2 s1 s2 hu ⟨.bl _,H,I,rfl,q⟩
theorem Zzl(hu:X.A.units+64<Vh):OpR X (QH .NotEq) (Ygd X.K):=by
 intro pins s O H x y v u Q I rx ry h;obtain⟨L,L',d,e,h1,h2,s1,s2,q⟩:=h;obtain⟨as,k1⟩:=h1.reads rfl I rx (UT s1);obtain⟨bs,k2⟩:=h2.reads rfl I ry (UT s2);exact ne_dataH k1 k2 s1 s2 hu ⟨.bl _,H,I,rfl,q⟩
structure Z59(d:Xa):Prop where
 ok:Shp d
def dEq:Xa->Xa->(Xa->Prop)->Prop:=λd e k=>Z59 d/\Z59 e/\k (.bool (QS d e))
def dNe:Xa->Xa->(Xa->Prop)->Prop:=λd e k=>Z59 d/\Z59 e/\k (.bool (!QS d e))
theorem Z3y:P2s G (Yfq G) dEq:=λH L x y d e k Q hx hy h kk=>⟨L,L,d,e,hx,hy,h.1.ok,h.2.1.ok,kk _ _ (.bl _) h.2.2⟩
theorem Yaw:P2s G (Ygd G) dNe:=λH L x y d e k Q hx hy h kk=>⟨L,L,d,e,hx,hy,h.1.ok,h.2.1.ok,kk _ _ (.bl _) h.2.2⟩
def Zdw:Xa->Bool
 | .none=>YD
 | _=>YF
theorem Da.isNone{d:Xa}(h:Da G H L v d):decide (v= .non)=Zdw d:=by
 cases h<;>rfl
def Z9d:Xa->Xa->(Xa->Prop)->Prop:=λd e k=>e= .none/\k (.bool (!Zdw d))
theorem Zlm:P2s G (λx y H Q=>y= .non/\Q (.bl (!decide (x= .non))) H) Z9d:=λH L x y d e k Q hx hy h kk=>by
 obtain⟨rfl,h⟩:=h;cases hy;exact⟨rfl,by rw[hx.isNone];exact kk _ _ (.bl _) h⟩
def scD:Xa->Bool
 | .none=>YD
 | .bool _=>YD
 | .int _=>YD
 | .str _=>YD
 | _=>YF
def eqS:Xa->Xa->Bool
 | .none,.none=>YD
 | .bool a,.bool b=>a==b
 | .bool a,.int b=>(if a then 1 else 0)==b
 | .int a,.bool b=>a==(if b then 1 else 0)
 | .int a,.int b=>a==b
 | .str a,.str b=>a==b
 | _,_=>YF
def memS(d:Xa)(ds:List Xa):Bool:=ds.any λe=>eqS e d
theorem Da.toSc{d:Xa}(h:Da G H L v d)(s:scD d=YD):ScD v d:=by
 cases h with
 | non=>exact .non
 | bl b=>exact .bl b
 | int i=>exact .int i
 | str x=>exact .str x
 | _=>cases s
theorem Da.sc{d:Xa}(h:Da G H L v d)(s:scD d=YD):Zgm v=YD:=by
 cases h.toSc s<;>rfl
theorem Das.sc{vs:List V}(h:Das G H L vs ds):ds.all scD=YD->vs.all Zgm=YD :=
 Das.ind (Q:=λvs ds=>ds.all scD=YD->vs.all Zgm=YD) (λ_=>rfl) (λh _ r s=>by
  rw[List.all_cons,X3]at s;rw[List.all_cons,h.sc s.1,r s.2];rfl) h
theorem Da.eqS{u:V}{d e:Xa}(h:Da G H L v d)(g:Da G H L u e)(s:scD d=YD)(t:scD e=YD):eqV v u=L2.eqS d e:=by
 cases h.toSc s<;>cases g.toSc t<;>rfl
theorem Das.memS{d:Xa}(h:Da G H L v d)(s:scD d=YD){vs:List V}(g:Das G H L vs ds):ds.all scD=YD->inV v vs=L2.memS d ds :=
 Das.ind (Q:=λvs ds=>ds.all scD=YD->inV v vs=L2.memS d ds) (λ_=>rfl) (λg _ r t=>by
  rw[List.all_cons,X3]at t;have:=r t.2;unfold inV L2.memS at*
  rw[Ux,Ux,this,g.eqS h t.1 s]) g
def dIn(neg:Bool):Xa->Xa->(Xa->Prop)->Prop:=λd e k=>scD d=YD/\match e with
 | .list ds=>ds.all scD=YD/\k (.bool (if neg then !memS d ds else memS d ds))
 | .tuple ds=>ds.all scD=YD/\k (.bool (if neg then !memS d ds else memS d ds))
 | _=>False
theorem Z3c{neg:Bool}:P2s G (rIn G neg) (dIn neg):=λH L x y d e k Q hx hy h kk=>by
 obtain⟨s,h⟩:=h;cases hy with
 | lst l e r=>exact⟨_,_,rfl,.inl (.inl e),hx.sc s,r.sc h.1,by rw[Das.memS hx s r h.1];exact kk _ _ (.bl _) h.2⟩
 | tup e r=>exact⟨_,_,rfl,.inr (.inl (.inl e)),hx.sc s,r.sc h.1,by rw[Das.memS hx s r h.1];exact kk _ _ (.bl _) h.2⟩
 | scr ks=>exact⟨_,_,rfl,.inl ks.sq,hx.sc s,(Das.ints (G:=G) (H:=H) (L:=L) _).sc h.1,by rw[Das.memS hx s (Das.ints (G:=G) (H:=H) (L:=L) _) h.1];exact kk _ _ (.bl _) h.2⟩
 | _=>exact h.elim
def ixD(d e:Xa):Option Xa:=match d,e with
 | .list ds,.int i=>atI ds i
 | .tuple ds,.int i=>atI ds i
 | _,_=>YC
def dIx:Xa->Xa->(OT->Prop)->Prop:=λd e k=>match ixD d e with|some x=>k (.fz x)|none=>False
theorem Das.atI{i:Int}{d:Xa}(h:Das G H L xs ds)(e:L2.atI ds i=YB d):∃x,L2.atI xs i=YB x/\Da G H L x d:=by
 unfold L2.atI at*
 rw[h.length];cases q:ixN ds.length i with
 | none=>rw[q]at e;cases e
 | some j=>
  rw[q]at e;exact h.get e
theorem Yd0:P2 G (rIx G) dIx:=λH L x y d e k Q hx hy h kk=>by
 unfold dIx at h;split at h
 case h_2=>exact h.elim
 rename_i z ez;have fin:∀v,Da G H L v z->Q v H:=λv q=>kk H v (.fz z) [] (Same.refl _) (.fz (q.wide λa l _=>⟨.inl l,λm=>nomatch m⟩)) .nil (λa m=>nomatch m) h;cases hx with
 | lst l e1 r=>
  cases hy with
  | int i=>
   obtain⟨v,e2,q⟩:=r.atI (show L2.atI _ i=YB z from ez);exact .inl ⟨_,_,i,v,rfl,rfl,.inl e1,e2,fin v q⟩
  | _=>cases ez
 | tup e1 r=>
  cases hy with
  | int i=>
   obtain⟨v,e2,q⟩:=r.atI (show L2.atI _ i=YB z from ez);exact .inr (.inl ⟨_,_,i,v,rfl,rfl,.inl (.inl e1),e2,fin v q⟩)
  | _=>cases ez
 | scr ks=>
  cases hy with
  | int i=>
   obtain⟨v,e2,q⟩:=(Das.ints (G:=G) (H:=H) (L:=L) _).atI (show L2.atI _ i=YB z from ez);exact .inl ⟨_,_,i,v,rfl,rfl,ks.sq,e2,fin v q⟩
  | _=>cases ez
 | _=>cases ez
theorem Own.list{H:Hp}{L:YG->Prop}{p:YG}{xs:List V}{ds:List Xa}(hp:H p=YC)(h:Das G H L xs ds):Own G (upd H p (.lst xs)) (λa=>(L a\/H a=YC)/\a∉[p]) (.ref p) (.nd (ds.map OT.fz)) [p] :=
 .nd Zu (((h.wide λa l q=>⟨.inl l,λm=>q (by rw[Xq.mp m];exact hp)⟩).same (Zv hp _)).owns)
theorem J1{p:YG}(hp:H p=YC):∀a∈[p],H a=YC:=λa m=>by rw[Xq.mp m];exact hp
theorem Zbc(p:YG):[p].Nodup:=Qq.mpr ⟨λm=>(nomatch m),.nil⟩
def dCat:Xa->Xa->(OT->Prop)->Prop:=λd e k=>asL d λds=>asL e λes=>ds.length+es.length<=XC/\k (.nd ((ds++es).map OT.fz))
theorem Zyp:P2 G (Z5c G) dCat:=λH L x y d e k Q hx hy h kk=>by
 obtain⟨a,xs,ds,rfl,e1,r1,h⟩:=hx.lstInv h;obtain⟨b,ys,es,rfl,e2,r2,h⟩:=hy.lstInv h;exact⟨a,b,xs,ys,rfl,rfl,e1,e2,by rw[r1.length,r2.length];exact h.1,λp hp=>kk _ _ _ [p] (Zv hp _) (Own.list hp (r1.append r2)) (Zbc p) (J1 hp) h.2⟩
def n1(k:Xa->Prop)(ds:List Xa):Prop:=match ds with|[d]=>k d|_=>False
def n2(k:Xa->Xa->Prop)(ds:List Xa):Prop:=match ds with|[d,e]=>k d e|_=>False
theorem Das.one{vs:List V}{k:Xa->Prop}(q:Das G H L vs ds)(h:n1 k ds):∃v d,vs=[v]/\ds=[d]/\Da G H L v d/\k d:=by
 cases q with
 | nil=>exact h.elim
 | cons q r=>
  cases r with
  | nil=>exact⟨_,_,rfl,rfl,q,h⟩
  | cons _ _=>exact h.elim
theorem Das.two{vs:List V}{k:Xa->Xa->Prop}(q:Das G H L vs ds)(h:n2 k ds):∃v u d e,vs=[v,u]/\ds=[d,e]/\Da G H L v d/\Da G H L u e/\k d e:=by
 cases q with
 | nil=>exact h.elim
 | cons q r=>
  cases r with
  | nil=>exact h.elim
  | cons q' r'=>
   cases r' with
   | nil=>exact⟨_,_,_,_,rfl,rfl,q,q',h⟩
   | cons _ _=>exact h.elim
def Zw4:Xa->Option Nat
 | .list ds=>YB ds.length
 | .tuple ds=>YB ds.length
 | _=>YC
def Yf1:List Xa->(Xa->Prop)->Prop:=λds k=>n1 (λd=>match Zw4 d with|some n=>k (.int n)|none=>False) ds
theorem Z8n:PNs G (Ye1 G) Yf1:=λH L xs ds k Q hx h kk=>by
 obtain⟨v,d,rfl,rfl,q,h⟩:=hx.one h;cases q with
 | lst l e r=>exact⟨_,_,rfl,.inl (.inl e),by rw[r.length];exact kk _ _ (.int _) h⟩
 | tup e r=>exact⟨_,_,rfl,.inr (.inl (.inl e)),by rw[r.length];exact kk _ _ (.int _) h⟩
 | scr ks=>exact⟨_,_,rfl,.inl ks.sq,by rw[(Das.ints (G:=G) (H:=H) (L:=L) _).length];exact kk _ _ (.int _) h⟩
 | _=>exact h.elim
def Yfe:List Xa->(Xa->Prop)->Prop:=λds k=>n2 (λd e=>asI d λi=>asI e λj=>k (.int (if j>i then j else i))) ds
theorem Z1d:PNs G (λxs H Q=>∃i j,xs=[.int i,.int j]/\Q (.int (if j>i then j else i)) H) Yfe:=λH L xs ds k Q hx h kk=>by
 obtain⟨v,u,d,e,rfl,rfl,q,q',h⟩:=hx.two h;obtain⟨i,rfl,h⟩:=q.intInv h;obtain⟨j,rfl,h⟩:=q'.intInv h;exact⟨i,j,rfl,kk _ _ (.int _) h⟩
def Yfl:List Xa->(Xa->Prop)->Prop:=λds k=>n2 (λd e=>asI d λi=>asI e λj=>k (.int (if j<i then j else i))) ds
theorem Zup:PNs G (λxs H Q=>∃i j,xs=[.int i,.int j]/\Q (.int (if j<i then j else i)) H) Yfl:=λH L xs ds k Q hx h kk=>by
 obtain⟨v,u,d,e,rfl,rfl,q,q',h⟩:=hx.two h;obtain⟨i,rfl,h⟩:=q.intInv h;obtain⟨j,rfl,h⟩:=q'.intInv h;exact⟨i,j,rfl,kk _ _ (.int _) h⟩
def Yfc:List Xa->(Xa->Prop)->Prop:=λds k=>n1 (λd=>match d with| .int i=>k (.int i)| .bool b=>k (.int (if b then 1 else 0))|_=>False) ds
theorem Zy9:PNs G (λxs H Q=>(∃i,xs=[.int i]/\Q (.int i) H)\/∃k,xs=[.bl k]/\Q (.int (if k then 1 else 0)) H) Yfc:=λH L xs ds k Q hx h kk=>by
 obtain⟨v,d,rfl,rfl,q,h⟩:=hx.one h;cases q with
 | int i=>exact .inl ⟨i,rfl,kk _ _ (.int _) h⟩
 | bl b=>exact .inr ⟨b,rfl,kk _ _ (.int _) h⟩
 | _=>exact h.elim
def Zh3:Xa->Option (List Xa)
 | .list ds=>YB ds
 | .tuple ds=>YB ds
 | _=>YC
def Z42:List Xa->(OT->Prop)->Prop:=λds k=>n1 (λd=>match Zh3 d with|some es=>k (.nd (es.map OT.fz))|none=>False) ds
theorem Z30:PN G (Zr5 G) Z42:=λH L xs ds k Q hx h kk=>by
 obtain⟨v,d,rfl,rfl,q,h⟩:=hx.one h;cases q with
 | lst l e r=>exact⟨_,_,rfl,.inl (.inl e),λp hp=>kk _ _ _ [p] (Zv hp _) (Own.list hp r) (Zbc p) (J1 hp) h⟩
 | tup e r=>exact⟨_,_,rfl,.inr (.inl (.inl e)),λp hp=>kk _ _ _ [p] (Zv hp _) (Own.list hp r) (Zbc p) (J1 hp) h⟩
 | scr ks=>exact⟨_,_,rfl,.inl ks.sq,λp hp=>kk _ _ _ [p] (Zv hp _) (Own.list hp (Das.ints _)) (Zbc p) (J1 hp) h⟩
 | _=>exact h.elim
section
variable {a:YJ}
def Ygz(m:MEt):MEt:=λδ K=>m δ λr δ'=>asI r.data λi=>K (.fz (.int (-i))) δ'
theorem Z8o(ha:ME X io p c a ma):ME X io p YD (.UnaryOp .USub a pos) (Ygz ma):=by
 obtain⟨_,A,s⟩:=ha;exact⟨_,Yc2 Z95 A,λC H O δ fp ex K Q R h k=>s C H O δ fp ex _ _ R h λH' v r δ' fp' new r1 h1=>by
  obtain⟨i,rfl,h1⟩:=(r1.da R).intInv h1;exact⟨i,rfl,k H' _ _ δ' fp' [] (.fz r1.base r1.stp (.int _)) h1⟩⟩
def Zpv(T:String):Xa->Bool
 | .none=>YF
 | .bool _=>T=="bool"||T=="int"
 | .int _=>T=="int"
 | .str _=>T=="str"
 | .list _=>T=="list"
 | .tuple _=>T=="tuple"
 | .dict _=>YF
def Ygw(T:String)(m:MEt):MEt:=λδ K=>m δ λr δ'=>Zg8 r.data=YF/\K (.fz (.bool (Zpv T r.data))) δ'
end
section
variable {g:Array GenState}{d:Drawn}{t:Nat}{os:OsState}
theorem Z1e(M:Model)(hx:h.get? a=YB o)(hc:o.cls= .ref C):Be M h (typeOf (.ref a)) (.ref C):=hc▸(Be.ld hx).andThen .now
theorem Zwd(X:K.In h)(Z:Zd0 K C)(hx:h.get? a=YB o)(hc:o.cls= .ref C)(hq:R (.ok (.ret (.ref C))) ⟨h,g,d,t,os⟩) :
  codeAny (X8 prog w) A (.call (.builtin "getset_descriptor.__get__") ⟨[.builtin "object.__class__",.ref a,.ref C],[]⟩) R ⟨h,g,d,t,os⟩:=by
 have L1:Be (X8 prog w) h (isSubtype (.ref C) (.type (".".intercalate ("object.__class__".cutAt '.').dropLast))) YD:=by
  rw[F.owner_object_class];exact PySem.W.looks_subIn X Z.isO
 have T5:(⟨h,g,d,t,os⟩:Xg).TypeIs (.builtin "object.__class__") "getset_descriptor" :=F.typeOf_object_class;refine codeAny_call_builtin F.slot_gs_get.plain F.entry_gs_get (F.slot_gs_get.check _ _ _ _ _ _ _ _ T5 (F.args_gs_get _ _ _) ?_)
 repeat (any_goals (first|assumption|(with_reducible refine wpAny_loadPart_at hx ?_;rw[hc])|(with_reducible refine Xb (Be.at L1 ?_))|(with_reducible refine Be.at L1 ?_)|wp_step))
 refine⟨Code.quiet_builtin _ (by decide +kernel),Bc F.entry_object_class ?_⟩
 repeat (any_goals (first|assumption|(with_reducible refine wpAny_loadPart_at hx ?_;rw[hc])|wp_step))
theorem Zo6{tk:Tok}{Q:Fin->Xg->Prop}(X:K.In h)(Z:Zd0 K C)(hx:h.get? a=YB o)(hc:o.cls= .ref C)(hq:Q (.done (.ret (.ref C))) ⟨h,g,d,t,os⟩) :
  XJ (X8 prog w) A (By.«object.__getattribute__» ⟨[.ref a,.str "__class__" tk],[]⟩) Q E ⟨h,g,d,t,os⟩:=by
 have T5:(⟨h,g,d,t,os⟩:Xg).TypeIs (.builtin "object.__class__") "getset_descriptor" :=F.typeOf_object_class;have g5:=F.typeOf_object_class;have g6:=F.slot_gs_get.lookup;have g7:=F.slot_gs_set.lookup;have L4:=PySem.W.looks_findIn (M:=X8 prog w) X Z.cl
 repeat (any_goals (first|assumption|(with_reducible refine wpAny_loadPart_at hx ?_;rw[hc])|(with_reducible refine Xb (Be.at L4 ?_))|(with_reducible refine Be.at L4 ?_)|wp_step))
 refine Zwd X Z hx hc ?_
 repeat (any_goals (first|assumption|wp_step))
theorem Zoe{nameV:Xe}{Q:Unit->Xg->Prop}(X:K.In h)(Z:Zd0 K C)(hx:h.get? a=YB o)(hc:o.cls= .ref C)(hq:Q () ⟨h,g,d,t,os⟩) :
  XJ M A (checkBuiltinCall "BaseException.__getattribute__" ⟨[.ref a,nameV],[]⟩) Q E ⟨h,g,d,t,os⟩:=by
 have e1:builtinKind "BaseException.__getattribute__"=YB .slot:=by decide +kernel
 have e2:splitId "BaseException.__getattribute__"=YB ("BaseException","__getattribute__"):=by decide +kernel
 have L1:=PySem.W.looks_subIn (M:=M) X Z.isB;have e3:=F.args_bexc_ga (.ref a) nameV;simp only[checkBuiltinCall,e1,e2];refine Xb ?_;unfold isInstance
 repeat (first|(with_reducible refine wpAny_loadPart_at hx ?_;rw[hc])|(with_reducible refine Xb (Be.at L1 ?_))|(with_reducible refine Be.at L1 ?_)|wp_step)
 exact hq
theorem Zqx{tk:Tok}(X:K.In h)(Z:Zd0 K C)(hx:h.get? a=YB o)(hc:o.cls= .ref C)(hq:R (.ok (.ret (.ref C))) ⟨h,g,d,t,os⟩) :
  codeAny (X8 prog w) A (.call (.builtin "BaseException.__getattribute__") ⟨[.ref a,.str "__class__" tk],[]⟩) R ⟨h,g,d,t,os⟩ :=
 codeAny_call_builtin F.excAttr_ValueError.ga.plain F.entry_bexc_ga (Zoe X Z hx hc (Zo6 X Z hx hc hq))
theorem Z2d{tk:Tok}{fill expr:Bool}(X:K.In h)(Z:Zd0 K C)(hx:h.get? a=YB o)(hc:o.cls= .ref C)(hq:Q (.ref C) ⟨h,g,d,t,os⟩) :
  XJ (X8 prog w) A (getAttrBy (.ref a) (.str "__class__" tk) fill expr) Q E ⟨h,g,d,t,os⟩:=by
 have f3:=F.excAttr_ValueError.ga.bind (.ref a);have y0:(expr&&onTheHeap (Value.builtin "BaseException.__getattribute__"))=YF:=by cases expr<;>rfl
 have y2:(Value.builtin "BaseException.__getattribute__"==Value.builtin "object.__getattribute__")=YF:=by decide +kernel
 have y1:(onTheHeap (Xz C)&&Value.builtin "BaseException.__getattribute__"==Value.builtin "object.__getattribute__")=YF:=by rw[y2];rfl
 have L2:=PySem.W.looks_findIn (M:=X8 prog w) X Z.ga;have L3:=PySem.W.looks_findIn (M:=X8 prog w) X Z.gt
 repeat (any_goals (first|assumption|(with_reducible refine wpAny_loadPart_at hx ?_;rw[hc])|(with_reducible refine Be.at L2 ?_)|(with_reducible refine Be.at L3 ?_)|(with_reducible refine Xb (Be.at L2 ?_))|(with_reducible refine Xb (Be.at L3 ?_))|wp_step))
 refine Zqx X Z hx hc ?_
 repeat (any_goals (first|assumption|wp_step))
theorem Ztg{Q:Option Xe->Xg->Prop}(X:K.In h)(Z:Zd0 K C)(hx:h.get? a=YB o)(hc:o.cls= .ref C)(hq:Q (YB (.ref C)) ⟨h,g,d,t+1,os⟩) :
  XJ (X8 prog w) A (getAttr? (.ref a) "__class__") Q E ⟨h,g,d,t,os⟩:=by
 unfold getAttr? getAttrBy?
 repeat (any_goals (first|assumption|with_reducible apply Z2d X Z hx hc|wp_step))
end
theorem Zvm(Z:Zd0 K C):PySem.W.KitX K (.ref a) (.ref C) (λh=>∃o,h.get? a=YB o/\o.cls= .ref C) where
 ty:=λM h _ p=>let⟨_,hx,hc⟩:=p;Z1e M hx hc
 it:=λM h X _=>by
  have z:=Z.isC;unfold PySem.W.clsIn at z;split at z
  .rename_i ho
   intro A' Q' E' s' k q;unfold isType loadHead;exact Xb (wpAny_loadPart (k _ _ (X _ _ ho)) (Xl q))
  .cases z
 ne:=λh tp dd its n sl X htp=>by
  have z:=Z.isC;refine Vf.mpr λq=>?_;have e:C=tp:=Xz.inj (ZC.mp q);subst e;unfold PySem.W.clsIn at z;split at z
  .rename_i ho
   have z:=(X _ _ ho).symm.trans htp;cases z
  .cases z
 ca:=fun{_ _ _ _ _ s} X p k=>by
  obtain⟨h,g,d,t,os⟩:=s;obtain⟨_,hx,hc⟩:=p;exact Ztg X Z hx hc k
def tyD:Xa->String
 | .none=>"NoneType"
 | .bool _=>"bool"
 | .int _=>"int"
 | .str _=>"str"
 | .list _=>"list"
 | .tuple _=>"tuple"
 | .dict _=>"dict"
theorem Zxw{T:String}{d:Xa}(h:T="int"\/T="bool"\/T="str"\/T="list"\/T="tuple")(hd:∀kvs,d≠ .dict kvs):VF K (.type (tyD d)) (.type T)=YB (Zpv T d):=by
 rcases h with rfl|rfl|rfl|rfl|rfl<;>cases d<;>first|rfl|(exact YZ rfl (hd _))|(unfold VF PySem.W.kitCls;rfl)|(simp only[tyD,Zpv];decide +kernel)
def Yet(G:Xd):List V->Hp->VK->Prop:=λxs H Q=>∃(x:V) (T:String) (L:YG->Prop) (d:Xa),xs=[x,.ty T]/\Da G H L x d/\Zg8 d=YF/\(T="int"\/T="bool"\/T="str"\/T="list"\/T="tuple")/\Q (.bl (Zpv T d)) H
theorem Zqq(hK:X.K=G):Zbm X (.builtin "isinstance") (Yet G):=by
 subst hK;intro pins s O H xs us Q I r h;obtain⟨x,T,L,d,rfl,q,hf,hT,h⟩:=h;obtain⟨u,w',rfl,r1,r2⟩:=vals2 r;cases(show w'=Value.type T from r2);have fin:∀tk:Nat,EP X pins O Q (.bool (Zpv T d)) { s with toks:=tk }:=λtk=>⟨.bl _,H,I.tok tk,rfl,h⟩;cases q with
 | non=>exact Jx I r1 .non (Zxw (d:=.none) hT λ_ z=>by cases z) fin
 | bl b=>exact Jx I r1 (.bl b) (Zxw (d:=.bool b) hT λ_ z=>by cases z) fin
 | int b=>exact Jx I r1 (.int b) (Zxw (d:=.int b) hT λ_ z=>by cases z) fin
 | str b=>exact Jx I r1 (.str b) (Zxw (d:=.str b) hT λ_ z=>by cases z) fin
 | lst l e qs=>
  rename_i ds;rcases e with e|⟨o,e⟩
  .exact Jx I r1 (.lst e) (Zxw (d:=.list ds) hT λ_ z=>by cases z) fin
  .exact Jx I r1 (.frz e) (Zxw (d:=.list ds) hT λ_ z=>by cases z) fin
 | tup e qs=>
  rename_i ds;exact Jx I r1 (.tup e) (Zxw (d:=.tuple ds) hT λ_ z=>by cases z) fin
 | scr ks=>
  rename_i a ns;cases(show u=Xz a from r1);obtain⟨its,vs,⟨o,n,ho,hc,hd,hs⟩,_⟩:=I.list (ks.sq (H:=H));exact JN PySem.W.kitx_list I.kIn ⟨o,ho,hc⟩ (Zxw (d:=.list (ns.map Xw)) hT λ_ z=>by cases z) (λz=>nomatch z) fin
 | exc Z hn e=>
  rename_i a C x;cases(show u=Xz a from r1);obtain⟨⟨o,vs,ho,hc,_⟩,_,_⟩:=(show ObjOk X.prog X.w H s.heap a (.ext (ExO C a))from I.hok a _ e);refine JN (Zvm Z) I.kIn ⟨o,ho,hc⟩ (b:=Zpv T (exD x)) ?_ (λz=>nomatch z) fin;rcases hT with rfl|rfl|rfl|rfl|rfl
  .exact Z.k1
  .exact Z.k2
  .exact Z.k3
  .exact Z.k4
  .exact Z.k5
 | fn _=>cases hf
 | dic _ _ _ _=>unfold dcD Zg8 at hf;cases hf
variable {a':YG}{neg:Bool}{mi:MIt}{tk:Tok}
section
variable {a:YJ}{m:MEt}
theorem Zi7{T:Str}{T':String}(hT:T'="int"\/T'="bool"\/T'="str"\/T'="list"\/T'="tuple")(hg:Gl X "isinstance")(hm:X.mg "isinstance"=YC)(hv:Qe "isinstance"=YB (.builtin "isinstance"))
  (hg2:Gl X T) (hm2:X.mg T=YC) (hv2:Qe T=YB (.type T')) (ha:ME X io p c a ma) (hn:T≠"__name__" :=by decide) (hd:(T==("__debug__" : Str))=YF:=by decide)
  (he:Xu [a,.Name T p2] X.env=(YF,eval a X.env)::Xu [.Name T p2] X.env:=by rfl) (he2:Xu [.Name T p2] X.env=(YF,eval (.Name T p2) X.env)::Xu [] X.env:=by rfl) (hpl:(JF pos (Xu [.Name T p2] X.env)).any (·.1)=YF:=by rfl) :
  ME X io p YD (.Call (.Name "isinstance" pp) [a,.Name T p2] [] pos) (Ygw T' ma):=by
 obtain⟨_,A,s⟩:=ha;refine⟨_,Zib (Zqq rfl) hg hm hv (Zam A (Zam (Zzq (v:=.ty T') hg2 hm2 hv2 rfl hn hd) Zen he2) he) (by decide) (by decide) he hpl,?_⟩;intro C H O δ fp ex K' Q R h k;refine s C H O δ fp ex _ _ R h λH' v r δ' fp' new r1 h1=>?_;exact⟨v,T',_,_,rfl,r1.da R,h1.1,hT,k H' _ _ δ' fp' [] (.fz r1.base r1.stp (.bl _)) h1.2⟩
abbrev MOt:=Zf->(Option Int->Zf->Prop)->Prop
def MO(X:Cx)(io:List Nat)(p:Bool)(e:Option YJ)(m:MOt):Prop:=∃t,PO X e t/\∀(C:MC X.K) (H:Hp) (O:St) (δ:Zf) (fp:Fp) (ex:YG->Prop) (K:Option Int->Zf->Prop) (Q:Option Int->Hp->Prop),Rel C io H O δ fp ex->m δ K ->
 (∀ H' b δ' fp',Rel C io H' O δ' fp' ex->Stp p H δ fp H' δ' fp'->K b δ'->Q b H')->t O H Q
def Zp2:MOt:=λδ K=>K YC δ
def Z67(m:MEt):MOt:=λδ K=>m δ λr δ'=>asI r.data λi=>K (YB i) δ'
theorem Zk9:MO X io YD YC Zp2:=⟨_,Z15,λC H O δ fp ex K Q R h k=>k H YC δ fp R (.refl _ _ _ _) h⟩
theorem Zis(h:ME X io p c e m):MO X io p (YB e) (Z67 m):=by
 obtain⟨_,A,s⟩:=h;exact⟨_,Z0d A,λC H O δ fp ex K Q R h k=>s C H O δ fp ex _ _ R h λH' v r δ' fp' new r1 h1=>by
  obtain⟨i,rfl,h1⟩:=(r1.da R).intInv h1;exact⟨i,rfl,k H' _ δ' fp' r1.base r1.stp h1⟩⟩
def cutD(ds:List Xa)(lo hi:Option Int):List Xa:=(ds.drop (HT.sIx ds.length 0 lo)).take (HT.sIx ds.length ds.length hi-HT.sIx ds.length 0 lo)
theorem Das.cut(h:Das G H L xs ds)(lo hi:Option Int):Das G H L (Z4t xs lo hi) (cutD ds lo hi):=by
 unfold Z4t cutD;rw[h.length];exact(h.drop _).take _
def mSl(m:MEt)(ml mh:MOt):MEt:=λδ K=>m δ λr δ1=>ml δ1 λlo δ2=>mh δ2 λhi δ3=>asL r.data λds=>K (.nd ((cutD ds lo hi).map OT.fz)) δ3
theorem Yaq{ml mh:MOt}(ha:ME X io YD c a ma)(hl:MO X io YD lo ml)(hh:MO X io YD hi mh):ME X io YD c (.Subscript a (.Slice lo hi YC p2) pos) (mSl ma ml mh):=by
 obtain⟨_,A,s⟩:=ha;obtain⟨_,B,sl⟩:=hl;obtain⟨_,D,sh⟩:=hh;refine⟨_,Zw5 (Zwj rfl) A B D,?_⟩;intro C H O δ fp ex K' Q R h k;refine s C H O δ fp ex _ _ R h λH1 v r δ1 fp1 new r1 h1=>?_;refine sl C H1 O δ1 fp1 ex _ _ r1.base h1 λH2 l δ2 fp2 R2 S2 h2=>?_;refine sh C H2 O δ2 fp2 ex _ _ R2 h2 λH3 u δ3 fp3 R3 S3 h3=>?_;have s2:Same H1 H2:=λb o e=>S2.keep b o e (.inl rfl);have s3:Same H2 H3:=λb o e=>S3.keep b o e (.inl rfl);obtain⟨e1,e2⟩:=r1.stp.env rfl;obtain⟨e3,e4⟩:=S2.env rfl;obtain⟨e5,e6⟩:=S3.env rfl;have q:=((r1.da R).same s2).same s3;obtain⟨a',xs,ds,rfl,e,qs,h3⟩:=q.lstInv h3;refine⟨a',xs,rfl,e,λp hp=>?_⟩;have S:=(r1.stp.trans S2).trans S3;refine k _ _ _ δ3 fp3 [p] (RE.tree R R3 S (Zv hp _) (J1 hp) (Zbc p) (Own.list hp ((qs.cut l u).wide λa l _=>?_))) h3;rw[e6,e4];exact l
theorem Owns.set{H:Hp}{L:YG->Prop}{x:V}{r:OT}(hr:Own G H L x r []):∀{xs:List V} {ts:List OT} {as:List YG} (j:Nat),Owns G H L xs ts as->∃bs,Owns G H L (xs.set j x) (ts.set j r) bs/\bs.Sublist as
 | _,_,_,_,.nil=>⟨[],.nil,.refl _⟩
 | _,_,_,0,.cons k t=>⟨_,.cons hr t,by simp⟩
 | _,_,_,j+1,.cons (as:=as) k t=>by
  obtain⟨bs,o,s⟩:=Owns.set hr j t;exact⟨as++bs,.cons k o,List.Sublist.append_left s as⟩
theorem Owns.get:∀{xs:List V} {ts:List OT} {as:List YG} {j:Nat} {t:OT},Owns G H L xs ts as->ts[j]? =Ve t->∃x bs,xs[j]? =Ve x/\Own G H L x t bs/\bs.Sublist as
 | _,_,_,_,_,.nil,e=>by simp at e
 | _,_,_,0,_,.cons k _,e=>by simp at e;subst e;exact⟨_,_,rfl,k,List.sublist_append_left _ _⟩
 | _,_,_,j+1,t,.cons _ r,e=>by
  obtain⟨x,bs,h1,h2,h3⟩:=Owns.get (j:=j) (t:=t) r (by simpa using e);exact⟨x,bs,by simpa using h1,h2,h3.trans (List.sublist_append_right _ _)⟩
theorem Rel.top{C:MC G}{O:St}{ts':List OT}{bs bs':List YG}(R:Rel C io H O δ fp ex)(hi:δ[i]? =YB (YB (.nd ts)))(hv:O[i]? =YB (YB (.ref a')))
  (hf:fp i=a'::bs) (hx:H a'=YB (.lst xs)) (o:Owns G H (Lf C fp ex) ys ts' bs') (hs:bs'.Sublist bs) :
  Rel C io (upd H a' (.lst ys)) O (δ.set i (YB (.nd ts'))) (fpu fp i (a'::bs')) ex/\Stp YF H δ fp (upd H a' (.lst ys)) (δ.set i (YB (.nd ts'))) (fpu fp i (a'::bs')):=by
 have nd:=R.nd i;rw[hf]at nd;have hn:=Qq.mp nd;have hm:a'∈fp i:=by rw[hf];exact .head _
 have ne':∀a,¬Foot fp a->a≠a':=λa h z=>h ⟨i,by rw[z];exact hm⟩;have kp:∀b o,H b=YB o->b≠a'->upd H a' (.lst ys) b=YB o:=λb o e n=>by rw[Zq n];exact e
 have sub:∀a,a∈a'::bs'->a∈fp i:=λa m=>by
  rw[hf];rcases Xo.mp m with rfl|m
  .exact .head _
  .exact .tail _ (hs.subset m)
 have o':Owns G (upd H a' (.lst ys)) (Lf C (fpu fp i (a'::bs')) (exu ex [])) ys ts' bs':=by
  have f0:∀a,¬Foot fp a->¬Foot (fpu fp i (a'::bs')) a:=λa h z=>by
   rcases z.of_u with z|⟨j,_,z⟩
   .exact h ⟨i,sub a z⟩
   .exact h ⟨j,z⟩
  have f1:∀a (zs:MuO),Lf C fp ex a->Rd H a zs.ho->Lf C (fpu fp i (a'::bs')) (exu ex []) a/\Rd (upd H a' (.lst ys)) a zs.ho:=λa zs l q=>by
   refine⟨⟨f0 a l.1,λz=>l.2.1 (Ju.mp z),l.2.2⟩,?_⟩;rcases q with q|⟨u,q⟩
   .exact .inl (kp a _ q (ne' a l.1))
   .exact .inr ⟨u,kp a _ q (ne' a l.1)⟩
  have f2:∀a (zs:ImO),H a=YB zs.ho->upd H a' (.lst ys) a=YB zs.ho:=λa zs q=>kp a _ q λz=>ImO.nl q (z▸hx);exact o.frame f1 f2 λa m zs q=>kp a _ q λz=>hn.1 (hs.subset (z▸m))
 have key:=R.change (new:=[]) (as':=a'::bs') (t':=.nd ts') (H':=upd H a' (.lst ys)) hi hv (λb o e nb=>kp b o e λz=>nb (by rw[z];exact hm)) (λb e=>by
   by_cases q:b=a'
   .subst q;rw[Zu]at e;cases e
   .rwa[Zq q]at e) (.nd Zu o') (Qq.mpr ⟨λm=>hn.1 (hs.subset m),hn.2.sublist hs⟩) (λa m=>.inl (sub a m)) (λa m=>nomatch m)
 exact⟨key.1.drop λa z=>.inl z,key.2⟩
end
section
variable {a:YJ}{m mi mj:MEt}
theorem Rel.ownNd{C:MC G}{O:St}(R:Rel C io H O δ fp ex)(hi:δ[i]? =YB (YB (.nd ts))) :
  ∃a' xs bs,O[i]? =YB (YB (.ref a'))/\H a'=YB (.lst xs)/\Owns G H (Lf C fp ex) xs ts bs/\fp i=a'::bs:=by
 obtain⟨v,e,o⟩:=R.own i _ hi;generalize hf:fp i=as at o;cases o with
 | nd h r=>exact⟨_,_,_,e,h,r,rfl⟩
def Zix(i:Nat)(m:MEt):MSt:=λD δ=>match δ[i]? with
 | some (YB (.nd _))=>m δ λr δ1=>match δ1[i]? with
  | some (YB (.nd ts))=>ts.length<XC/\D.nx (δ1.set i (YB (.nd (ts++[.fz r.data]))))
  | _=>False
 | _=>False
theorem Y9(i:Nat)(he:ME X io p YD e m)(hN:X.N[i]? =YB x:=by rfl)(hv:Vis X.env.scope x:=by first|exact QL rfl|exact Qt (QL rfl)|exact Qt (Qt rfl))(hd:(x==("__debug__" : Str))=YF:=by decide)
  (hcd:(x==("__classdict__" : Str))=YF:=by decide)
  (hbase:Ui (.Name x px) "append" X.env (eval (.Name x px) X.env)=eval (.Name x px) X.env:=by rfl)
  (hfew:((JF cpos (Xu [e] X.env)).all (λx=>!x.1)&&(backToKw cpos (U9 [] X.env)).all (λx=>x.1.isSome)
   &&decide ([e].length+([]:List Ua).length+(if([]:List Ua).isEmpty then 0 else 1)<30))=YD:=by rfl)
  (hline:(apos.endLine==cpos.line)=YD:=by rfl) (hs:Xu [e] X.env=(YF,eval e X.env)::Xu [] X.env:=by rfl) (hplain:(JF cpos (Xu [] X.env)).any (·.1)=YF:=by rfl)
  (hsw:VH (.Call (.Attribute (.Name x px) "append" apos) [e] [] cpos) YC pos.line X.env=pure YF:=by rfl) :
  MS X io (.Expr (.Call (.Attribute (.Name x px) "append" apos) [e] [] cpos) pos) (Zix i m):=by
 obtain⟨_,A,s⟩:=he;refine⟨_,Zin (Zt0 Uw PySem.F.slot_list_append PySem.F.type_list_append Zc8 (pv i hN hv hd hcd) (Zam A Zen hs) hbase hfew hline hs hplain) hsw,λC H O δ fp ex D D' R h E=>?_⟩;unfold Zix at h;split at h
 case h_2=>exact h.elim
 rename_i ts0 hi0;obtain⟨a',xs0,bs0,hv0,hx0,_,_⟩:=R.ownNd hi0;refine⟨_,hv0,.inl ⟨rfl,xs0,.inl (.inl hx0)⟩,?_⟩;refine s C H O δ fp ex _ _ R h λH1 v r δ1 fp1 new r1 h1=>?_;split at h1
 case h_2=>exact h1.elim
 rename_i ts1 hi1;have R1:=r1.base;obtain⟨a1,xs1,bs1,hv1,hx1,o1,hf1⟩:=R1.ownNd hi1;rw[hv0]at hv1;cases hv1;have q:=(r1.da R).wide (L':=Lf C fp1 ex) λa l _=>l rfl;refine⟨a',xs1,v,rfl,rfl,hx1,by rw[o1.length];exact h1.1,?_⟩;have o2:=o1.snoc (.fz q);obtain⟨R2,S2⟩:=R1.top hi1 hv0 hf1 hx1 o2 (by simp);exact E.nx _ O _ _ R2 (r1.stp.kp.trans S2.kp) h1.2
def Ygq(i:Nat)(m mi:MEt):MSt:=λD δ=>m δ λr δ1=>match δ1[i]? with
 | some (YB (.nd ts))=>mi δ1 λn _=>asI n.data λk=>match ixN ts.length k with
  | some j=>D.nx (δ1.set i (YB (.nd (ts.set j (.fz r.data)))))
  | none=>False
 | _=>False
def Z7n(i:Nat)(m mi mj:MEt):MSt:=λD δ=>m δ λr δ1=>match δ1[i]? with
 | some (YB (.nd ts))=>mi δ1 λn _=>asI n.data λk=>match ixN ts.length k with
  | some j=>match ts[j]? with
   | some (.nd us)=>mj δ1 λn' _=>asI n'.data λk'=>match ixN us.length k' with
    | some j'=>D.nx (δ1.set i (YB (.nd (ts.set j (.nd (us.set j' (.fz r.data)))))))
    | none=>False
   | _=>False
  | none=>False
 | _=>False
theorem SE.pureAfter{t:TE}{C:MC G}{O:St}{K':OT->Zf->Prop}{Q:VK}(s:SE G io YD c t m)(R:Rel C io H O δ fp ex)(h:m δ K')(k:∀H' v r,Rel C io H' O δ fp ex->Same H H'->Da G H' (λa=>c=YD->Lf C fp ex a) v r.data->K' r δ->Q v H'):t O H Q :=
 s C H O δ fp ex _ _ R h λH1 v r δ1 fp1 new r1 h1=>by
  obtain⟨e1,e2⟩:=r1.stp.env rfl;have q:=r1.da R;have R1:=r1.base;rw[e1]at R1 h1;rw[e2]at R1 q;exact k H1 v r R1 (λb o e=>r1.stp.keep b o e (.inl rfl)) q h1
theorem Zyg(i:Nat)(he:ME X io p YD e m)(hj:ME X io YD c a mi)(hN:X.N[i]? =YB x:=by rfl)(hv:Vis X.env.scope x:=by first|exact QL rfl|exact Qt (QL rfl)|exact Qt (Qt rfl))(hd:(x==("__debug__" : Str))=YF:=by decide)
  (hcd:(x==("__classdict__" : Str))=YF:=by decide)
  (hpg:∀{to ti:TE},PE X (.Name x px) to->PE X a ti->PG X (.Subscript (.Name x px) a pp) (Yd8 to ti Z1h):=by intro _ _ A B;exact Zx9 A B set_list)
  (hs:swapsWithSole [.Subscript (.Name x px) a pp] e pos.line X.env=pure YF:=by rfl) (hw:swappedStores [.Subscript (.Name x px) a pp] e X.env=pure YC:=by rfl)
  (h1:(JR [.Subscript (.Name x px) a pp] X.env).map (·.2)=[U5 (.Subscript (.Name x px) a pp) X.env]:=by rfl):MS X io (.Assign [.Subscript (.Name x px) a pp] e pos) (Ygq i m mi):=by
 obtain⟨_,A,s⟩:=he;obtain⟨_,B,sj⟩:=hj;refine⟨_,Zqr A (hpg (pv i hN hv hd hcd) B) hs hw h1,λC H O δ fp ex D D' R h E=>?_⟩;refine s C H O δ fp ex _ _ R h λH1 v r δ1 fp1 new r1 h1=>?_;have R1:=r1.base;have q:=(r1.da R).wide (L':=Lf C fp1 ex) λa l _=>l rfl;split at h1
 case h_2=>exact h1.elim
 rename_i ts hi;obtain⟨a',_,_,hv0,_⟩:=R1.ownNd hi;refine⟨_,hv0,?_⟩;refine sj.pureAfter R1 h1 λH2 w n R2 s2 q2 h2=>?_;obtain⟨k,rfl,h2⟩:=q2.intInv h2;split at h2
 case h_2=>exact h2.elim
 rename_i j hj;obtain⟨a2,xs,bs,hv2,hx,o,hf⟩:=R2.ownNd hi;rw[hv0]at hv2;cases hv2;obtain⟨bs',o',hs'⟩:=Owns.set (.fz (q.same s2)) j o;refine⟨a',xs,k,j,rfl,rfl,hx,by rw[o.length];exact hj,?_⟩;obtain⟨R3,S3⟩:=R2.top hi hv0 hf hx o' hs';exact E.nx _ O _ _ R3 (r1.stp.kp.trans (Kp.trans ⟨λb o e _=>s2 _ _ e,λz=>(nomatch z),λa z=>.inl z,s2.al⟩ S3.kp)) h2
theorem Owns.deep{b':YG}{ws ws':List V}{us us':List OT}(hb:H b'=Ve (HO.lst ws))(hL:¬L b')(hc:∀cs,Owns G H L ws us cs->∃cs',Owns G H L ws' us' cs'/\cs'.Sublist cs) :
  ∀{xs:List V} {ts:List OT} {as:List YG} {j:Nat},Owns G H L xs ts as->as.Nodup->xs[j]? =Ve (.ref b')->ts[j]? =Ve (.nd us)->∃as',Owns G (upd H b' (.lst ws')) L xs (ts.set j (.nd us')) as'/\as'.Sublist as/\b'∈as
 | _,_,_,_,.nil,_,e,_=>by simp at e
 | _,_,_,0,.cons (as:=as) (bs:=bs) k t,nd,e,e'=>by
  simp at e e';subst e e';have nd':=Vx.mp nd;have kp:∀a o,a≠b'->H a=Ve o->upd H b' (.lst ws') a=Ve o:=λa o n q=>by rw[Zq n];exact q
  have f1:∀a (zs:MuO),L a->Rd H a zs.ho->L a/\Rd (upd H b' (.lst ws')) a zs.ho:=λa zs l q=>⟨l,by
   have na:a≠b':=λz=>hL (z▸l);rcases q with q|⟨u,q⟩
   .exact .inl (kp a _ na q)
   .exact .inr ⟨u,kp a _ na q⟩⟩
  have f2:∀a (zs:ImO),H a=Ve zs.ho->upd H b' (.lst ws') a=Ve zs.ho:=λa zs q=>kp a _ (λz=>ImO.nl q (z▸hb)) q;cases k with
  | nd h r=>
   rename_i xs0 as0;rw[hb]at h;cases h;have nd2:=Qq.mp nd'.1;obtain⟨cs',o',s'⟩:=hc _ r;refine⟨b'::cs'++bs,.cons (.nd Zu (o'.frame f1 f2 λa m zs q=>kp a _ (λz=>nd2.1 (s'.subset (z▸m))) q)) (t.frame f1 f2 λa m zs q=>kp a _ (λz=>nd'.2.2 b' (.head _) a m z.symm) q),List.Sublist.append_right (List.Sublist.cons₂ _ s') bs,Qj _ (.head _)⟩
 | _,_,_,j+1,.cons (as:=as) (bs:=bs) k t,nd,e,e'=>by
  have nd':=Vx.mp nd;obtain⟨as',o,s,m⟩:=Owns.deep hb hL hc (j:=j) t nd'.2.1 (by simpa using e) (by simpa using e');have nb:b'∉as:=λz=>nd'.2.2 b' z b' m rfl;refine⟨as++as',.cons ?_ o,List.Sublist.append_left s as,Qg _ m⟩;have kp:∀a o,a≠b'->H a=Ve o->upd H b' (.lst ws') a=Ve o:=λa o n q=>by rw[Zq n];exact q
  refine k.frame (λa zs l q=>⟨l,?_⟩) (λa zs q=>kp a _ (λz=>ImO.nl q (z▸hb)) q) λa m' zs q=>kp a _ (λz=>nb (z▸m')) q;have na:a≠b':=λz=>hL (z▸l);rcases q with q|⟨u,q⟩
  .exact .inl (kp a _ na q)
  .exact .inr ⟨u,kp a _ na q⟩
theorem Zsw(i:Nat)(he:ME X io p YD e m)(hj:ME X io YD c a mi)(hk:ME X io YD c' b mj)(hPa:Zgg a)(hN:X.N[i]? =YB x:=by rfl)(hv:Vis X.env.scope x:=by first|exact QL rfl|exact Qt (QL rfl)|exact Qt (Qt rfl))(hd:(x==("__debug__" : Str))=YF:=by decide)
  (hcd:(x==("__classdict__" : Str))=YF:=by decide)
  (hpg:∀{to ti:TE},PE X (.Subscript (.Name x px) a pp) to->PE X b ti->PG X (.Subscript (.Subscript (.Name x px) a pp) b p2) (Yd8 to ti Z1h):=by intro _ _ A B;exact Zx9 A B set_list)
  (hs:swapsWithSole [.Subscript (.Subscript (.Name x px) a pp) b p2] e pos.line X.env=pure YF:=by rfl) (hw:swappedStores [.Subscript (.Subscript (.Name x px) a pp) b p2] e X.env=pure YC:=by rfl)
  (h1:(JR [.Subscript (.Subscript (.Name x px) a pp) b p2] X.env).map (·.2)=[U5 (.Subscript (.Subscript (.Name x px) a pp) b p2) X.env]:=by rfl) :
  MS X io (.Assign [.Subscript (.Subscript (.Name x px) a pp) b p2] e pos) (Z7n i m mi mj):=by
 obtain⟨_,A,s⟩:=he;obtain⟨_,B,sj⟩:=hj;obtain⟨_,B2,sk⟩:=hk;refine⟨_,Zqr A (hpg (Zu3 (Zm6 rfl) (pv i hN hv hd hcd) B hPa) B2) hs hw h1,λC H O δ fp ex D D' R h E=>?_⟩;refine s C H O δ fp ex _ _ R h λH1 v r δ1 fp1 new r1 h1=>?_;have R1:=r1.base;have q:=(r1.da R).wide (L':=Lf C fp1 ex) λa l _=>l rfl;split at h1
 case h_2=>exact h1.elim
 rename_i ts hi;obtain⟨a',_,_,hv0,_⟩:=R1.ownNd hi;refine⟨_,hv0,?_⟩;refine sj.pureAfter R1 h1 λH2 w n R2 s2 q2 h2=>?_;obtain⟨k,rfl,h2⟩:=q2.intInv h2;split at h2
 case h_2=>exact h2.elim
 rename_i j hj;split at h2
 case h_2=>exact h2.elim
 rename_i us hus
 -- the row
 obtain⟨a2,xs2,bs2,hv2,hx2,o2,hf2⟩:=R2.ownNd hi;rw[hv0]at hv2;cases hv2;obtain⟨xr,cr,hxr,orow,_⟩:=o2.get hus;obtain⟨b',rfl⟩:∃b',xr=V.ref b':=by
  cases orow with
  | nd h r=>exact⟨_,rfl⟩
 refine⟨a',xs2,k,V.ref b',rfl,rfl,.inl (.inl hx2),?_,?_⟩
 .unfold atI
  rw[o2.length,hj];exact hxr
 refine sk.pureAfter R2 h2 λH3 w' n' R3 s3 q3 h3=>?_;obtain⟨k',rfl,h3⟩:=q3.intInv h3;split at h3
 case h_2=>exact h3.elim
 rename_i j' hj';obtain⟨a3,xs3,bs3,hv3,hx3,o3,hf3⟩:=R3.ownNd hi;rw[hv0]at hv3;cases hv3;have exs:xs3=xs2:=by
  have:=s3 _ _ hx2;rw[hx3]at this;cases this;rfl
 subst exs;obtain⟨xr3,cr3,hxr3,orow3,hsub3⟩:=o3.get hus;rw[hxr]at hxr3;cases hxr3;have nd3:=R3.nd i;rw[hf3]at nd3;have hn3:=Qq.mp nd3;cases orow3 with
 | nd hb r3=>
  rename_i ws3 bs4;have hbm:b'∈bs3:=hsub3.subset (.head _);have hbf:b'∈fp1 i:=by rw[hf3];exact .tail _ hbm
  have hLb:¬Lf C fp1 ex b':=λl=>l.1 ⟨i,hbf⟩;obtain⟨as',oo,ss,_⟩:=Owns.deep (ws':=ws3.set j' v) (us':=us.set j' (.fz r.data)) hb hLb (λcs hcs=>Owns.set (.fz ((q.same s2).same s3)) j' hcs) o3 hn3.2 hxr hus;refine⟨b',ws3,k',j',rfl,rfl,hb,by rw[r3.length];exact hj',?_⟩;have hba:a'≠b':=λz=>hn3.1 (z▸hbm)
  -- the change
  have sub:∀a,a∈a'::as'->a∈fp1 i:=λa m=>by
   rw[hf3];rcases Xo.mp m with rfl|m
   .exact .head _
   .exact .tail _ (ss.subset m)
  have kp:∀b o,H3 b=YB o->b≠b'->upd H3 b' (.lst (ws3.set j' v)) b=YB o:=λb o e n=>by rw[Zq n];exact e
  have lw:∀a,Lf C fp1 ex a->upd H3 b' (.lst (ws3.set j' v)) a≠YC->Lf C (fpu fp1 i (a'::as')) (exu ex []) a:=λa l _=>⟨λz=>by
   rcases z.of_u with z|⟨j,_,z⟩
   .exact l.1 ⟨i,sub a z⟩
   .exact l.1 ⟨j,z⟩,λz=>l.2.1 (Ju.mp z),l.2.2⟩
  obtain⟨R4,S4⟩:=R3.change (new:=[]) (as':=a'::as') (t':=.nd (ts.set j (.nd (us.set j' (.fz r.data))))) (H':=upd H3 b' (.lst (ws3.set j' v))) hi hv0 (λb o e nb=>kp b o e λz=>nb (by rw[z];exact hbf)) (λb e=>by
    by_cases q:b=b'
    .subst q;rw[Zu]at e;cases e
    .rwa[Zq q]at e) (.nd (by rw[Zq hba];exact hx3) (oo.wide lw)) (Qq.mpr ⟨λm=>hn3.1 (ss.subset m),hn3.2.sublist ss⟩) (λa m=>.inl (sub a m)) (λa m=>nomatch m)
  have k23:Kp H1 fp1 H3 fp1:=⟨λb o e _=>s3 _ _ (s2 _ _ e),λz=>(nomatch z),λa z=>.inl z,λb e=>s2.al b (s3.al b e)⟩;exact E.nx _ O _ _ (R4.drop λa z=>.inl z) (r1.stp.kp.trans (k23.trans S4.kp)) h3
end
mutual
def Z31:OT->Bool
 | .fz d=>Wl d
 | .nd ts=>Zun ts
 | .tp ts=>Zun ts
 | .dc _ _ _=>YF
def Zun:List OT->Bool
 | []=>YD
 | t::ts=>Z31 t&&Zun ts
end
section
variable {m:MEt}
theorem Rel.freeze{C:MC G}{O:St}{t:OT}(R:Rel C io H O δ fp ex)(hio:i∉io)(hi:δ[i]? =YB (YB t)):Rel C io H O (δ.set i (YB (.fz t.data))) (fpu fp i []) ex:=by
 have hil:i<δ.length:=(Xk.mp hi).1;have sub:∀j a,a∈fpu fp i [] j->j≠i/\a∈fp j:=λj a m=>by
  by_cases ej:j=i
  .subst ej;rw[Z4]at m;exact nomatch m
  .rw[Yt ej]at m;exact⟨ej,m⟩
 have lw:∀a,Lf C fp ex a->Lf C (fpu fp i []) ex a:=λa l=>⟨λ⟨j,z⟩=>l.1 ⟨j,(sub j a z).2⟩,l.2.1,l.2.2⟩;have ln:∀a∈fp i,Lf C (fpu fp i []) ex a:=λa m=>⟨λ⟨j,z⟩=>(sub j a z).1 (R.dj j i a (sub j a z).2 m),R.dx i a m,.inr (by
  rcases R.new i a m with z|z
  .exact YZ z.1 hio
  .exact z)⟩
 refine⟨by rw[V3];exact R.len,λj t' e=>?_,λj h=>?_,λj=>?_,λj k a h1 h2=>R.dj j k a (sub j a h1).2 (sub k a h2).2,λj a h z=>R.dx j a (sub j a h).2 z,R.xa,R.fr,R.al,λj a h=>R.new j a (sub j a h).2,R.io⟩
 .by_cases ej:j=i
  .subst ej
   rw[JL hil]at e;cases e;obtain⟨v,e1,o⟩:=R.own j t hi;exact⟨v,e1,by rw[Z4];exact .fz (o.da (λa l _=>lw a l) ln)⟩
  .rw[QT (Vu ej)]at e
   obtain⟨w,e1,o⟩:=R.own j t' e;exact⟨w,e1,by rw[Yt ej];exact o.wide λa l _=>lw a l⟩
 .by_cases ej:j=i
  .subst ej;rw[Z4]
  .rw[Yt ej]
   exact R.emp j λt' z=>h t' (by rw[QT (Vu ej)];exact z)
 .by_cases ej:j=i
  .subst ej;rw[Z4];exact .nil
  .rw[Yt ej];exact R.nd j
def Zh9(i:Nat)(u:MSt):MSt:=λD δ=>match δ[i]? with|some (YB t)=>u D (δ.set i (YB (.fz t.data)))|_=>False
theorem Zdm{u:MSt}(i:Nat)(h:MS X io st u)(hio:i∉io:=by decide):MS X io st (Zh9 i u):=by
 obtain⟨_,A,s⟩:=h;exact⟨_,A,λC H O δ fp ex D D' R h E=>by
  unfold Zh9 at h;split at h
  case h_2=>exact h.elim
  rename_i t hi;refine s C H O _ _ ex D D' (R.freeze hio hi) h (E.shift ⟨λb o e _=>e,λz=>(nomatch z),λa z=>?_,λb e=>e⟩);rcases z.of_u with z|⟨j,_,z⟩
  .exact nomatch z
  .exact .inl ⟨j,z⟩⟩
end
def Z7r(ds:List Xa)(k:OT->Prop):Prop:=∃ns:List Int,ds=[.list (ns.map Xw)]/\ns.length<=63/\k (.fz (.bool YD))
theorem Z7b{E:XK}(hl:ns.length<=63)(h:SqL G H a (ns.map V.int)):spD G Z7r [.ref a] H (λv _=>v= .bl YD) E:=by
 refine⟨λ_=>True,[.list (ns.map Xw)],λr=>r= .fz (.bool YD),.cons ?_ .nil,⟨ns,rfl,hl,rfl⟩,λr v H' new kr s o _ _=>?_⟩
 .rcases h with h|h
  .exact .lst trivial h (.ints ns)
  .exact .scr h
 .subst kr
  cases o with
  | fz q=>cases q;rfl
section
variable {base:YH}{n:Nat}{f:YG}{fd:Qp}
theorem Da.ints_sq(h:Da G H L v (.list (ns.map Xw))):∃a,v= .ref a/\SqL G H a (ns.map V.int):=by
 generalize e:Bj (ns.map Xw)=d at h;cases h with
 | lst l e1 r=>
  cases e;rw[r.int_inv]at e1;exact⟨_,rfl,.inl e1⟩
 | scr k=>
  rename_i a ms;have e':=Uj e;have:ns=ms:=(List.map_inj_right (λ_ _ h=>by cases h;rfl)).mp e';subst this;exact⟨_,rfl,k.sq⟩
 | _=>cases e
end
@[simp] theorem Zf2:OT.datas []=[]:=rfl
@[simp] theorem Zd9(t:OT)(ts:List OT):OT.datas (t::ts)=t.data::OT.datas ts:=rfl
theorem Zmw{xs:List α}{i:Int}(h0:0<=i):atI xs i=xs[i.toNat]?:=by
 unfold atI ixN;rw[YM h0];split
 .rfl
 .rename_i h
  symm;exact QD.mpr (by omega)
@[simp] theorem Yir{α:Type}(x:α)(xs:List α):atI (x::xs) 0=YB x:=by
 rw[Zmw (by decide)];rfl
@[simp] theorem Yhp{α:Type}(x y:α)(xs:List α):atI (x::y::xs) 1=YB y:=by
 rw[Zmw (by decide)];rfl
@[simp] theorem Yh0{α:Type}(x y z:α)(xs:List α):atI (x::y::z::xs) 2=YB z:=by
 rw[Zmw (by decide)];rfl
@[simp] theorem Ya1(ds:List Xa)(i:Int):ixD (.list ds) (.int i)=atI ds i:=rfl
@[simp] theorem Yde(ds:List Xa)(i:Int):ixD (.tuple ds) (.int i)=atI ds i:=rfl
@[simp] theorem Z8w(ds:List Xa):Zw4 (.list ds)=YB ds.length:=rfl
@[simp] theorem Ybb(ds:List Xa):Zw4 (.tuple ds)=YB ds.length:=rfl
def Zfb(r:List Rat):Xa:=.list (r.map frD)
def tbD(T:List (List Rat)):Xa:=.list (T.map Zfb)
def Yb6(r:List Rat):OT:=.nd (r.map λq=>.fz (frD q))
def tbT(T:List (List Rat)):OT:=.nd (T.map Yb6)
@[simp] theorem Zst(r:List Rat):(Yb6 r).data=Zfb r:=by
 unfold Yb6 Zfb;rw[OT.data_nd,Qk];rfl
@[simp] theorem Ya6(T:List (List Rat)):(tbT T).data=tbD T:=by
 unfold tbT tbD;rw[OT.data_nd,Qk];exact YW Bj (XS λr _=>Zst r)
def dd(T:List (List Rat))(i j:Nat):Rat:=(T.getD i []).getD j 0
@[simp] theorem Ydu(T:List (List Rat)):Zw4 (tbD T)=YB T.length:=by unfold tbD Zw4;simp
@[simp] theorem Ybe(r:List Rat):Zw4 (Zfb r)=YB r.length:=by unfold Zfb Zw4;simp
@[simp] theorem Ycl(q:Rat):Wl (frD q)=YD:=by unfold frD fr;simp[Wl,Zeq]
theorem Zhi{n a:Nat}(h:a<n):ixN n (a:Int)=YB a:=by
 unfold ixN;rw[YM (by omega),YM (by omega)];simp
theorem Zu7{d:Xa}(h:Z7 d=YD):QS d d=YD:=Zzi h h rfl
structure Sh(n:Nat)(d:Xa):Prop where
 lay:Br d=YD
 dep:PyData.depth d<=n
theorem Sh.shp{n:Nat}{d:Xa}(h:Sh n d)(hn:n<=64:=by decide):Z59 d:=⟨by
 show(Br d&&decide (PyData.depth d<=64))=YD;rw[h.lay,YS (QM h.dep hn)];rfl⟩
theorem Sh.mono{n:Nat}{d:Xa}(h:Sh m d)(k:m<=n):Sh n d:=⟨h.lay,QM h.dep k⟩
theorem Zkm{n:Nat}:∀{ds:List Xa},(∀d∈ds,Sh n d)->Bq ds=YD/\PyData.depthAll ds<=n
 | [],_=>⟨by rw[Bq],by rw[PyData.depthAll];exact Qw _⟩
 | d::ds,h=>by
  obtain⟨h1,h2⟩:=Zkm λe m=>h e (.tail _ m);have h3:=h d (.head _);refine⟨by rw[Bq,h3.lay,h1];rfl,?_⟩;rw[PyData.depthAll];exact Nat.max_le.mpr ⟨h3.dep,h2⟩
theorem Zi4{n:Nat}(h:∀d∈ds,Sh n d):Sh (n+1) (.list ds) :=
 ⟨by rw[Br];exact(Zkm h).1,by rw[PyData.depth];exact VM (Zkm h).2⟩
theorem Zrk{n:Nat}(h:∀d∈ds,Sh n d):Sh (n+1) (.tuple ds) :=
 ⟨by rw[Br];exact(Zkm h).1,by rw[PyData.depth];exact VM (Zkm h).2⟩
theorem Zss(i:Int):Sh 0 (.int i):=⟨rfl,Nat.le_of_eq rfl⟩
section
variable {O:St}
theorem Inv.turnTup{T:YG}{its:List Xe}(I:Inv X pins O H s)(f:∀b∈ch,Zii X pins H b)(k:∀b o,b∉ch->s.heap.get? b=YB o->h'.get? b=YB o)
  (th:∀b∈ch,∃o,h'.get? b=YB o) (hT:s.heap.objs.size<=T) (hz:xs.length<=XC) (r:Vals xs its) (ht:IsTup h' T its.toArray):Inv X pins O (upd H T (.tup xs)) { s with heap:=h' }:=by
 have hn:H T=YC:=I.hok.fresh hT;have nch:∀b u,H b=YB u->b∉ch:=λb u e z=>by rw[(f b z).1]at e;cases e
 have new:ObjOk X.prog X.w (upd H T (.tup xs)) h' T (.tup xs):=⟨hz,its,r,ht⟩;refine I.call (ch:=ch) (g':=s.gens) (d':=s.drawn) (t':=s.toks) ⟨λb o e _ _ hc=>k b o hc e,λb o e _ _ hc=>⟨o.slots,k b o hc e⟩,λb o e n _=>?_,λb o e hc=>?_,λb ys e=>?_,λb o u e=>?_,λb ps e=>?_⟩ (λb u e=>?_) I.bare (λb hb=>?_)
 .rw[Zq (λz=>by rw[z]at e;exact YZ (XN e) (Nat.not_lt.mpr hT))];exact n
 .exact⟨o,k b o hc e⟩
 .rw[Zq (Yn e hn)];exact e
 .rw[Zq (Yn e hn)];exact e
 .exact⟨#[],by rw[Zq (Yn e hn),e];simp⟩
 .by_cases hb:b=T
  .subst hb;rw[Zu]at e;cases e;exact new
  .rw[Zq hb]at e
   refine(I.hok b u e).stay (λc v hc q=>k c v ?_ q) (λc q=>by rw[Zq (Yn q hn)];exact q) λc ys q=>by rw[Zq (Yn q hn)];exact q
   rcases hc with rfl|hc
   .exact nch _ _ e
   .exact nch _ _ hc
 .obtain⟨f0,f1,f2,f3,f4,f5⟩:=f b hb
  exact⟨f3,f1,f4,f5⟩
theorem Inv.turnAll(I:Inv X pins O H s)(f:∀b∈ch,Zii X pins H b)(k:∀b o,b∉ch->s.heap.get? b=YB o->h'.get? b=YB o):Inv X pins O H { s with heap:=h' }:=by
 have nch:∀b u,H b=YB u->b∉ch:=λb u e z=>by rw[(f b z).1]at e;cases e
 refine I.call (ch:=ch) (g':=s.gens) (d':=s.drawn) (t':=s.toks) ⟨λb o e _ _ hc=>k b o hc e,λb o e _ _ hc=>⟨o.slots,k b o hc e⟩,λb o e n _=>n,λb o e hc=>⟨o,k b o hc e⟩,λb ys e=>e,λb o u e=>e,λb ps e=>⟨#[],by rw[e];simp⟩⟩ (λb u e=>?_) I.bare (λb hb=>?_)
 .refine(I.hok b u e).stay (λc v hc q=>k c v ?_ q) (λc q=>q) λc ys q=>q
  rcases hc with rfl|hc
  .exact nch _ _ e
  .exact nch _ _ hc
 .obtain⟨f0,f1,f2,f3,f4,f5⟩:=f b hb
  exact⟨f3,f1,f4,f5⟩
end
section
variable {a:YJ}{m:MEt}
theorem Rel.keptList{C:MC G}{H:Hp}{O:St}{δ:Zf}{fp:Fp}{ex:YG->Prop}{v:V}{ds:List Xa}(R:Rel C io H O δ fp ex)(q:Da G H (λa=>c=YD->Lf C fp ex a) v (.list ds)) :
  ∃a xs,v= .ref a/\∀H':Hp,(∀b o,H b=YB o->(c=YF\/¬Foot fp b)->H' b=YB o)->SqL G H' a xs/\Das G H' (λa=>c=YD->(Lf C fp ex a/\H a≠YC)) xs ds:=by
 generalize hd:Bj ds=d at q;cases q with
 | lst l e r=>
  cases hd;rename_i a0 xs0;refine⟨a0,xs0,rfl,λH' kp=>?_⟩;obtain⟨f1,f2⟩:=R.kept kp;exact⟨.inl (f1 _ (.lst _) l e).2,r.frame f1 f2⟩
 | scr k=>
  rename_i a ns;have:=Uj hd;subst this;exact⟨a,_,rfl,λH' _=>⟨k.sq,.ints ns⟩⟩
 | _=>cases hd
def Zot(as bs:List Xa):List Xa:=(as.zip bs).map λx=>.tuple [x.1,x.2]
theorem Zno{as bs:List Xa}{d:Xa}(h:(Zot as bs)[i]? =YB d):∃x y,as[i]? =YB x/\bs[i]? =YB y/\d= .tuple [x,y]:=by
 unfold Zot at h;rw[Xi]at h;cases e:(as.zip bs)[i]? with
 | none=>rw[e]at h;cases h
 | some z=>
  rw[e]at h;cases h;obtain⟨h1,h2⟩:=List.getElem?_zip_eq_some.mp e;exact⟨z.1,z.2,h1,h2,rfl⟩
theorem Zq4{as bs:List Xa}(h:(Zot as bs)[i]? =YC):as.length<=i\/bs.length<=i:=by
 unfold Zot at h;have:=QD.mp h;simp at this;omega
@[simp] theorem Z1f(as bs:List Xa):(Zot as bs).length=min as.length bs.length:=by simp[Zot]
end
section
variable {c1 c2 c3:Bool}{a:YJ}{mc:MEt}{f:Int->Int->Bool}
def Zho(f g:Int->Int->Bool)(ma mb mc:MEt):MEt:=λδ K=>ma δ λx δ1=>mb δ1 λy δ2=>asI x.data λi=>asI y.data λj=>if f i j=YD then mc δ2 λz δ3=>asI z.data λk=>K (.fz (.bool (g j k))) δ3 else K (.fz (.bool YF)) δ2
theorem Zxs(ha:SE G io YD c1 ta ma)(hb:SE G io YD c2 tb mb)(hc:SE G io YD c3 tc mc):SE G io YD YD (Zqe (rI0 λi j=>.bl (f i j)) (rI0 λi j=>.bl (g i j)) ta tb tc) (Zho f g ma mb mc):=by
 intro C H O δ fp ex K Q R h k;refine ha.pureAfter R h λH1 x u R1 s1 q1 h1=>?_;refine hb.pureAfter R1 h1 λH2 y v R2 s2 q2 h2=>?_;obtain⟨i,rfl,h2⟩:=q1.intInv h2;obtain⟨j,rfl,h2⟩:=q2.intInv h2;refine⟨i,j,rfl,rfl,f i j,rfl,?_⟩
 by_cases hf:f i j=YD
 .rw[YM hf]at h2|-
  refine hc.pureAfter R2 h2 λH3 z w R3 s3 q3 h3=>?_;obtain⟨l,rfl,h3⟩:=q3.intInv h3;have s13:Same H H3:=(s1.trans s2).trans s3;exact⟨j,l,rfl,rfl,k H3 _ _ δ fp [] (.fz R3 (.same s13 s13.al) (.bl _)) h3⟩
 .rw[YQ hf]at h2|-
  have s12:Same H H2:=s1.trans s2;exact k H2 _ _ δ fp [] (.fz R2 (.same s12 s12.al) (.bl _)) h2
theorem Z24(ho:OpR X (QH op) (rI0 λi j=>.bl (f i j)))(ho':OpR X (QH op') (rI0 λi j=>.bl (g i j)))(ha:ME X io YD c1 a ma)(hb:ME X io YD c2 b mb)(hc:ME X io YD c3 e mc)
  (hm:lastMarks [op,op'] [b,e]=YF:=by with_unfolding_all rfl):ME X io YD YD (.Compare a [op,op'] [b,e] pos) (Zho f g ma mb mc):=by
 obtain⟨_,A,sa⟩:=ha;obtain⟨_,B,sb⟩:=hb;obtain⟨_,D,sc⟩:=hc;exact⟨_,Zw2 ho ho' A B D hm,Zxs sa sb sc⟩
theorem Zu1(ho:OpR X (QH op) (rI0 λi j=>.bl (f i j)))(ho':OpR X (QH op') (rI0 λi j=>.bl (g i j)))(ha:ME X io YD c1 a ma)(hb:ME X io YD c2 b mb)(hc:ME X io YD c3 e mc)
  (hm:lastMarks [op,op'] [b,e]=YF:=by with_unfolding_all rfl):MT X io YD (.Compare a [op,op'] [b,e] pos) (λδ K=>Zho f g ma mb mc δ (kB K)):=by
 obtain⟨_,A,sa⟩:=ha;obtain⟨_,B,sb⟩:=hb;obtain⟨_,D,sc⟩:=hc;exact⟨_,Zv6 ho ho' A B D hm,Z14 (Zxs sa sb sc)⟩
end
theorem Zhw:∀{ns:List Int} {its:List Xe},Vals (ns.map V.int) its->∃xs:List (Int×Tok),its=xs.map (λp=>Vl p.1 p.2)/\xs.map (·.1)=ns
 | [],_,.nil=>⟨[],rfl,rfl⟩
 | n::ns,_,.cons r rs=>by
  obtain⟨t,e⟩:=(show∃t,_=Vl n t from r);obtain⟨xs,h1,h2⟩:=Zhw rs;exact⟨(n,t)::xs,by rw[e,h1];rfl,by rw[X4,h2]⟩
section
variable {a:YJ}{m:MEt}{pl:Pos}
def Ygu(m mb:MEt):MEt:=λδ K=>m δ λr δ1=>mb δ1 λn _=>asI n.data λk=>(-(2^63)<=k/\k<2^63/\k.toNat<=XC)/\K (.nd (Qi k.toNat (.fz r.data))) δ1
theorem Znd(x:α):∀n:Nat,(Qi n [x]).flatten=Qi n x
 | 0=>rfl
 | n+1=>by rw[VL,UW,Znd x n];rfl
theorem Das.rep{d:Xa}(h:Da G H L v d):∀n:Nat,Das G H L (Qi n v) (Qi n d)
 | 0=>.nil
 | n+1=>.cons h (Das.rep h n)
theorem Yes(ha:ME X io p YD a m)(hb:ME X io YD c b mb)(hs:Xu [a] X.env=(YF,eval a X.env)::Xu [] X.env:=by rfl):ME X io p YD (.BinOp (.List [a] pl) .Mult b pos) (Ygu m mb):=by
 obtain⟨_,A,sa⟩:=ha;obtain⟨_,B,sb⟩:=hb;refine⟨_,Z1j Z8y (Zx4 (Zam A Zen hs)) B,λC H O δ fp ex K Q R h k=>?_⟩;refine sa C H O δ fp ex _ _ R h λH1 v r δ1 fp1 new r1 h1=>⟨(by show 1<=XC;decide),λl hl=>?_⟩;have R1:=r1.base;have s1:=Zv hl (.lst [v]);refine sb.pureAfter (R1.mk0 s1) h1 λH2 w n R2 s2 q2 h2=>?_;obtain⟨i,rfl,h2⟩:=q2.intInv h2;have q:=(((r1.da R).wide (L':=Lf C fp1 ex) λa l _=>l rfl).same s1).same s2;refine⟨l,i,[v],rfl,rfl,s2 _ _ Zu,h2.1.1,h2.1.2.1,by show 1*i.toNat<=XC;rw[Nat.one_mul];exact h2.1.2.2,λt ht=>?_⟩;rw[Znd];have S:Stp p H δ fp H2 δ1 fp1:=by
  have:=r1.stp.trans (p':=YD) (Stp.same (p:=YD) (δ:=δ1) (fp:=fp1) (s1.trans s2) (s1.trans s2).al)
  rwa[Bool.and_true]at this
 refine k _ _ _ δ1 fp1 [t] (RE.tree R R2 S (Zv ht _) (J1 ht) (Zbc t) ?_) h2.2;have:=Own.list ht ((Das.rep q i.toNat).wide (L':=λa=>YD=YD->Lf C fp1 ex a) λa l _ _=>l)
 rwa[List.map_replicate]at this
end
end L2
namespace L2
open PySem PySem.Spec PyProof.Rows PySem.SeqAt
section
variable {a:YJ}{m:MEt}{pl pr:Pos}
end
theorem Zif:∀{ns:List Int} {its:List Xe},Vals (ns.map V.int) its->Vk its ns
 | [],_,.nil=>.nil
 | n::ns,_,.cons r rs=>by
  obtain⟨t,e⟩:=(show∃t,_=Vl n t from r);rw[e];exact .cons n t (Zif rs)
section
variable {a:YJ}{m:MEt}{pl pr:Pos}
def Ybm(i:Nat)(m:MEt):MEt:=λδ K=>match δ[i]? with
 | some (YB (.nd _))=>m δ λn δ1=>match δ1[i]? with
  | some (YB (.nd ts))=>asI n.data λj=>match ixN ts.length j with
   | some k=>match ts[k]? with
    | some (.fz d)=>ts.length<=XC/\K (.fz d) (δ1.set i (YB (.nd (ts.eraseIdx k))))
    | _=>False
   | none=>False
  | _=>False
 | _=>False
theorem Owns.erase:∀{xs:List V} {ts:List OT} {as:List YG} {k:Nat} {d:Xa},Owns G H L xs ts as->ts[k]? =Ve (.fz d)->Owns G H L (xs.eraseIdx k) (ts.eraseIdx k) as
 | _,_,_,_,_,.nil,e=>by simp at e
 | _,_,_,0,d,.cons q r,e=>by
  simp at e;subst e;cases q;exact r
 | _,_,_,k+1,d,.cons q r,e=>.cons q (Owns.erase (k:=k) r (by simpa using e))
theorem Yd6(i:Nat)(he:ME X io p c e m)(hN:X.N[i]? =YB x:=by rfl)(hv:Vis X.env.scope x:=by first|exact QL rfl|exact Qt (QL rfl)|exact Qt (Qt rfl))(hd:(x==("__debug__" : Str))=YF:=by decide)
  (hcd:(x==("__classdict__" : Str))=YF:=by decide)
  (hbase:Ui (.Name x px) "pop" X.env (eval (.Name x px) X.env)=eval (.Name x px) X.env:=by rfl)
  (hfew:((JF cpos (Xu [e] X.env)).all (λx=>!x.1)&&(backToKw cpos (U9 [] X.env)).all (λx=>x.1.isSome)
   &&decide ([e].length+([]:List Ua).length+(if([]:List Ua).isEmpty then 0 else 1)<30))=YD:=by rfl)
  (hline:(apos.endLine==cpos.line)=YD:=by rfl) (hs:Xu [e] X.env=(YF,eval e X.env)::Xu [] X.env:=by rfl) (hplain:(JF cpos (Xu [] X.env)).any (·.1)=YF:=by rfl) :
  ME X io YF YD (.Call (.Attribute (.Name x px) "pop" apos) [e] [] cpos) (Ybm i m):=by
 obtain⟨_,A,s⟩:=he;refine⟨_,Zt0 Uw PySem.F.slot_list_pop PySem.F.type_list_pop Zwf (pv i hN hv hd hcd) (Zam A Zen hs) hbase hfew hline hs hplain,λC H O δ fp ex K Q R h kk=>?_⟩;unfold Ybm at h;split at h
 case h_2=>exact h.elim
 rename_i ts0 hi0;obtain⟨a',xs0,bs0,hv0,hx0,_,_⟩:=R.ownNd hi0;refine⟨_,hv0,.inl ⟨rfl,xs0,.inl (.inl hx0)⟩,?_⟩;refine s C H O δ fp ex _ _ R h λH1 v r δ1 fp1 new r1 h1=>?_;split at h1
 case h_2=>exact h1.elim
 rename_i ts1 hi1;obtain⟨j,rfl,h1⟩:=(r1.da R).intInv h1;split at h1
 case h_2=>exact h1.elim
 rename_i k hk;split at h1
 case h_2=>exact h1.elim
 rename_i d hd1;have R1:=r1.base;obtain⟨a1,xs1,bs1,hv1,hx1,o1,hf1⟩:=R1.ownNd hi1;rw[hv0]at hv1;cases hv1;obtain⟨y,cs,hy,oy,_⟩:=o1.get hd1;have qy:Da X.K H1 (Lf C fp1 ex) y d:=by cases oy;assumption
 obtain⟨z1,z2,z3,z4⟩:=Zk1 hk;have hz:=h1.1;have hsz:XC=16777216:=X7;refine⟨a',xs1,j,k,y,rfl,rfl,hx1,by omega,by omega,by rw[o1.length];exact z1,hy,?_⟩;obtain⟨R2,S2⟩:=R1.top hi1 hv0 hf1 hx1 (o1.erase hd1) (List.Sublist.refl _);have S:=(r1.stp.trans S2).cast (p':=YF) λz=>nomatch z;refine kk _ _ _ _ _ [] (.fz R2 S ?_) h1.2;have ne':∀a,¬Foot fp1 a->a≠a':=λa h z=>h ⟨i,by rw[z,hf1];exact .head _⟩;have f0:∀a,¬Foot fp1 a->¬Foot (fpu fp1 i (a'::bs1)) a:=λa h z=>by
  rcases z.of_u with z|⟨j,_,z⟩
  .exact h ⟨i,by rw[hf1];exact z⟩
  .exact h ⟨j,z⟩
 refine qy.frame (λa zs l q=>⟨λ_=>⟨f0 a l.1,l.2.1,l.2.2⟩,?_⟩) λa zs q=>?_
 .rcases q with q|⟨u,q⟩
  .exact .inl (by rw[Zq (ne' a l.1)];exact q)
  .exact .inr ⟨u,by rw[Zq (ne' a l.1)];exact q⟩
 .rw[Zq]
  .exact q
  .intro z
   exact ImO.nl q (z▸hx1)
end
end L2
namespace L2
open PySem PySem.Spec PyProof.Rows
structure Apart(X:Cx)(pins:List (YG×Obj))(H:Hp)(b:YG):Prop where
 fr:H b=YC
 new:X.s₀.heap.get? b=YC
 loc:b≠X.env.locals
 cel:∀x c,X.env.cells.lookup x=YB c->c≠b
 pin:∀p∈X.pn++pins,p.1≠b
section
variable {O:St}{b:YG}
section
variable {Q:Unit->Xg->Prop}
end
end
def Zw9(K:Xd)(C:YG):Prop:=PySem.W.excIn K C [.type "ValueError",.type "Exception",.type "BaseException",.type "object"] "ValueError.__new__"=YD
abbrev MXt:=Zf->(YG->Zf->Prop)->Prop
section
variable {m:MXt}{a b:List YK}{u:MSt}{w v:MXt}{mt:MTt}
end
section
variable {base:YH}
end
section
variable {k:Nat}{f:YG}{fd:Qp}
end
section
variable {O:St}
abbrev Cx.suite(X:Cx)(a:YG):Cx:={ X with A:=X.A.mark (YB (.ref a)),calm:=YF }
end
theorem Zze(b:Bool)(k:Bool->Prop):asB (.bool b) k=k b:=rfl
inductive Ycz:V->Xe->Prop where
 | own (D:YG):Ycz (.ref D) (.ref D)
 | ty (T:String):Ycz (.ty T) (.type T)
inductive ClsVs:List V->List Xe->Prop where
 | nil:ClsVs [] []
 | cons {v:V} {c:Xe} {vs:List V} {cs:List Xe}:Ycz v c->ClsVs vs cs->ClsVs (v::vs) (c::cs)
theorem ClsVs.length:∀{vs:List V} {cs:List Xe},ClsVs vs cs->vs.length=cs.length
 | _,_,.nil=>rfl
 | _,_,.cons _ t=>by simp[t.length]
section
variable {a:YJ}
end
end L2
namespace L2
open PySem PySem.Spec PyProof.Rows PySem.P
section
variable {e t0:YG}{vs:Array Xe}{m:Str}
structure Yh5(s:Xg)(e C t0:YG)(m:Str)(tk:Tok):Prop where
 ob:∃o vs,s.heap.get? e=YB o/\o.cls= .ref C/\o.data= .fields vs/\vs[0]? =YB (.ref t0)
 tx:s.heap.TupAt t0 [.str m tk]
end
section
variable {j:Str}{jk:Nat}{np kp p1:Pos}
end
end L2
namespace L2
open PySem PySem.Spec PyProof.Rows
abbrev FE:=Zf->Option (OT×Zf)
abbrev FA:=Zf->Option (List OT×Zf)
abbrev FT:=Zf->Option (Bool×Zf)
abbrev FI:=Zf->Option (List Xa×Zf)
abbrev FO:=Zf->Option (Option Int×Zf)
abbrev FG:=Xa->Zf->Option Zf
abbrev FGs:=List Xa->Zf->Option Zf
def o2(f:Zf->Option (α×Zf)):Zf->(α->Zf->Prop)->Prop:=λδ K=>∃r δ',f δ=YB (r,δ')/\K r δ'
def oG(g:FG):MGt:=λd δ k=>∃δ',g d δ=YB δ'/\k δ'
def oGs(g:FGs):Zq0:=λd δ k=>∃δ',g d δ=YB δ'/\k δ'
section
variable {X:Cx}{io:List Nat}{p c:Bool}{e tg:YJ}{es:List YJ}{m m':MEt}{mr mr':MAt}{mt mt':MTt}{mi mi':MIt}{g g':MGt}{gs gs':Zq0}{mo mo':MOt}{st:YK}{sts:List YK}{u u':MSt}{eo:Option YJ}
theorem ME.weak(h:ME X io p c e m)(w:∀δ K,m' δ K->m δ K):ME X io p c e m':=let⟨t,A,s⟩:=h;⟨t,A,λC H O δ fp ex K Q R h k=>s C H O δ fp ex K Q R (w δ K h) k⟩
theorem MA.weak(h:MA X io p c es mr)(w:∀δ K,mr' δ K->mr δ K):MA X io p c es mr':=let⟨t,A,s⟩:=h;⟨t,A,λC H O δ fp ex K Q R h k=>s C H O δ fp ex K Q R (w δ K h) k⟩
theorem MT.weak(h:MT X io p e mt)(w:∀δ K,mt' δ K->mt δ K):MT X io p e mt':=let⟨t,A,s⟩:=h;⟨t,A,λC H O δ fp ex K Q R h k=>s C H O δ fp ex K Q R (w δ K h) k⟩
theorem MW.weak(h:MW X io p e mt)(w:∀δ K,mt' δ K->mt δ K):MW X io p e mt':=let⟨t,A,s⟩:=h;⟨t,A,λC H O δ fp ex K Q R h k=>s C H O δ fp ex K Q R (w δ K h) k⟩
theorem MIfs.weak(h:MIfs X io p es mt)(w:∀δ K,mt' δ K->mt δ K):MIfs X io p es mt':=let⟨t,A,s⟩:=h;⟨t,A,λC H O δ fp ex K Q R h k=>s C H O δ fp ex K Q R (w δ K h) k⟩
theorem MI.weak(h:MI X io p c tg e mi)(w:∀δ K,mi' δ K->mi δ K):MI X io p c tg e mi':=let⟨t,A,s⟩:=h;⟨t,A,λC H O δ fp ex K Q R h k=>s C H O δ fp ex K Q R (w δ K h) k⟩
theorem MO.weak(h:MO X io p eo mo)(w:∀δ K,mo' δ K->mo δ K):MO X io p eo mo':=let⟨t,A,s⟩:=h;⟨t,A,λC H O δ fp ex K Q R h k=>s C H O δ fp ex K Q R (w δ K h) k⟩
theorem MG.weak(h:MG X io c tg g)(w:∀d δ K,g' d δ K->g d δ K):MG X io c tg g':=let⟨t,A,s⟩:=h;⟨t,A,λC H O δ fp ex v d k Q R q h kk=>s C H O δ fp ex v d k Q R q (w d δ k h) kk⟩
theorem MGs.weak(h:MGs X io c es gs)(w:∀d δ K,gs' d δ K->gs d δ K):MGs X io c es gs':=let⟨t,A,s⟩:=h;⟨t,A,λC H O δ fp ex v d k Q R q h kk=>s C H O δ fp ex v d k Q R q (w d δ k h) kk⟩
theorem MS.weak(h:MS X io st u)(w:∀D δ,u' D δ->u D δ):MS X io st u':=let⟨t,A,s⟩:=h;⟨t,A,λC H O δ fp ex D D' R h E=>s C H O δ fp ex D D' R (w D δ h) E⟩
theorem MSs.weak(h:MSs X io sts u)(w:∀D δ,u' D δ->u D δ):MSs X io sts u':=let⟨t,A,s⟩:=h;⟨t,A,λC H O δ fp ex D D' R h E=>s C H O δ fp ex D D' R (w D δ h) E⟩
end
def Zb(i:Nat):FE:=λδ=>match δ[i]? with|some (YB (.fz d))=>YB (.fz d,δ)|_=>YC
def Wc(i:Nat):FE:=λδ=>match δ[i]? with|some (YB t)=>YB (.fz t.data,δ)|_=>YC
def fC(d:Xa):FE:=λδ=>YB (.fz d,δ)
def Ze(g:Xa->Xa->Option Xa)(a b:FE):FE:=λδ=>(a δ).bind λp=>(b p.2).bind λq=>(g p.1.data q.1.data).bind λd=>YB (.fz d,q.2)
def Zn(g:Xa->Xa->Option OT)(a b:FE):FE:=λδ=>(a δ).bind λp=>(b p.2).bind λq=>(g p.1.data q.1.data).bind λd=>YB (d,q.2)
def fUn(g:Xa->Option Xa)(a:FE):FE:=λδ=>(a δ).bind λp=>(g p.1.data).bind λd=>YB (.fz d,p.2)
def Zza(a b:FE):FE:=λδ=>(a δ).bind λp=>match p.1.data with| .bool YD=>b p.2| .bool YF=>YB (.fz (.bool YF),p.2)|_=>YC
def fOr(a b:FE):FE:=λδ=>(a δ).bind λp=>match p.1.data with| .bool YD=>YB (.fz (.bool YD),p.2)| .bool YF=>b p.2|_=>YC
def fIf(t:FT)(a b:FE):FE:=λδ=>(t δ).bind λp=>if p.1=YD then a p.2 else b p.2
def tV(e:FE):FT:=λδ=>(e δ).bind λp=>match p.1 with| .fz (.bool b)=>YB (b,p.2)|_=>YC
def tNo(t:FT):FT:=λδ=>(t δ).bind λp=>YB (!p.1,p.2)
def tAn(t u:FT):FT:=λδ=>(t δ).bind λp=>if p.1=YD then u p.2 else YB (YF,p.2)
def tO(t u:FT):FT:=λδ=>(t δ).bind λp=>if p.1=YD then YB (YD,p.2)else u p.2
def tD(e:FE):FT:=λδ=>(e δ).bind λp=>(Zwi p.1.data).bind λb=>YB (b,p.2)
def Zm:FA:=λδ=>YB ([],δ)
def Zd(e:FE)(a:FA):FA:=λδ=>(e δ).bind λp=>(a p.2).bind λq=>YB (p.1::q.1,q.2)
def Zbd(a:FA):FE:=λδ=>(a δ).bind λp=>if p.1.length<=XC then YB (.fz (.tuple (OT.datas p.1)),p.2)else YC
def Zfe(a:FA):FE:=λδ=>(a δ).bind λp=>if p.1.length<=XC then YB (.nd p.1,p.2)else YC
def Zrh(e:FE):FE:=λδ=>(e δ).bind λp=>if Wl p.1.data=YD then YB (.fz p.1.data,p.2)else YC
def Z69(e:FE):FE:=λδ=>(e δ).bind λp=>if Z31 p.1=YD then YB (p.1,p.2)else YC
inductive RF where
 | ok (r:OT)
 | exn (c:Str)
 | bad
abbrev FD:=List Xa->RF
abbrev FIO:=OT->List Xa->Option (OT×OT)
def Z8(F:FD)(a:FA):FE:=λδ=>(a δ).bind λp=>match F (OT.datas p.1)with| .ok r=>YB (r,p.2)|_=>YC
def Zzc(i:Nat)(F:FIO)(a:FA):FE:=λδ=>match δ[i]? with
 | some (YB _)=>(a δ).bind λp=>match p.2[i]? with
  | some (YB t)=>(F t (OT.datas p.1)).bind λq=>YB (q.1,p.2.set i (YB q.2))
  | _=>YC
 | _=>YC
def Zbb(g:List Xa->Option Xa)(a:FA):FE:=λδ=>(a δ).bind λp=>(g (OT.datas p.1)).bind λd=>YB (.fz d,p.2)
def fBl(g:List Xa->Option OT)(a:FA):FE:=λδ=>(a δ).bind λp=>(g (OT.datas p.1)).bind λd=>YB (d,p.2)
def Zn1(T:String)(e:FE):FE:=λδ=>(e δ).bind λp=>if Zg8 p.1.data=YD then YC else YB (.fz (.bool (Zpv T p.1.data)),p.2)
def oN:FO:=λδ=>YB (YC,δ)
def oI(e:FE):FO:=λδ=>(e δ).bind λp=>match p.1.data with| .int i=>YB (YB i,p.2)|_=>YC
def fSl(e:FE)(lo hi:FO):FE:=λδ=>(e δ).bind λp=>(lo p.2).bind λq=>(hi q.2).bind λr=>match p.1.data with| .list ds=>YB (.nd ((cutD ds q.1 r.1).map OT.fz),r.2)|_=>YC
def Zci(f g:Int->Int->Bool)(a b c:FE):FE:=λδ=>(a δ).bind λp=>(b p.2).bind λq=>match p.1.data,q.1.data with
 | .int i,.int j=>if f i j=YD then(c q.2).bind λr=>match r.1.data with| .int k=>YB (.fz (.bool (g j k)),r.2)|_=>YC else YB (.fz (.bool YF),q.2)
 | _,_=>YC
def Zbf(e:FE):FI:=λδ=>(e δ).bind λp=>match p.1.data with| .list ds=>YB (ds,p.2)|_=>YC
def iTp(e:FE):FI:=λδ=>(e δ).bind λp=>match p.1.data with| .tuple ds=>YB (ds,p.2)|_=>YC
def rOk(j:Int):Bool:=decide (-(2^62)<=j)&&decide (j<2^62)
theorem Zd1{j:Int}(h:rOk j=YD):-(2^62)<=j/\j<2^62:=by
 unfold rOk at h;rw[X3]at h;exact⟨YX h.1,YX h.2⟩
theorem Zni{j:Int}(h0:-1000000<=j)(h1:j<=1000000):rOk j=YD:=by
 unfold rOk;rw[YS (show -(2^62)<=j by omega),YS (show j<2^62 by omega)];rfl
def iRa(a:FA):FI:=λδ=>(a δ).bind λp=>match OT.datas p.1 with|[.int j]=>if rOk j=YD then YB (Ze5 0 j.toNat,p.2)else YC|_=>YC
def iRb(a:FA):FI:=λδ=>(a δ).bind λp=>match OT.datas p.1 with|[.int i,.int j]=>if(rOk i&&rOk j)=YD then YB (Ze5 i (j-i).toNat,p.2)else YC|_=>YC
def Z9b(a:FA):FI:=λδ=>(a δ).bind λp=>match OT.datas p.1 with|[.list as,.list bs]=>YB (Zot as bs,p.2)|_=>YC
def gNm(i:Nat):FG:=λd δ=>YB (δ.set i (YB (.fz d)))
def Zqh(i:Nat):FG:=λd δ=>if Wl d=YD then YB (δ.set i (YB (.fz d)))else YC
def gNl:FGs:=λds δ=>match ds with|[]=>YB δ|_=>YC
def gCn(g:FG)(gs:FGs):FGs:=λds δ=>match ds with|d::r=>(g d δ).bind (gs r)|[]=>YC
def gTp(n:Nat)(gs:FGs):FG:=λd δ=>match d with| .tuple ds=>if ds.length=n then gs ds δ else YC|_=>YC
def gLs(n:Nat)(gs:FGs):FG:=λd δ=>match d with| .list ds=>if ds.length=n then gs ds δ else YC|_=>YC
def compLoop(g:FG)(t:FT)(e:FE):List Xa->Zf->Option (List OT×Zf)
 | [],δ=>YB ([],δ)
 | d::ds,δ=>(g d δ).bind λδ1=>(t δ1).bind λp=>if p.1=YD then(e p.2).bind λq=>(compLoop g t e ds q.2).bind λz=>YB (q.1::z.1,z.2)else compLoop g t e ds p.2
def Z5(n:Nat)(caps:List Nat)(it:FI)(g:FG)(t:FT)(e:FE):FE:=λδ=>(it δ).bind λp=>if p.1.length<=XC then(compLoop g t e p.1 (blk n caps p.2)).bind λz=>YB (.nd z.1,p.2)else YC
def Zcj:FT:=λδ=>YB (YD,δ)
inductive RS where
 | nx (δ:Zf)
 | rt (r:OT) (δ:Zf)
 | bk (δ:Zf)
 | ct (δ:Zf)
 | ex (c:Str) (δ:Zf)
 | bad
abbrev FS:=Zf->RS
def RS.fits(D:Zg4):RS->Prop
 | .nx δ=>D.nx δ
 | .rt r δ=>D.rt r δ
 | .bk δ=>D.bk δ
 | .ct δ=>D.ct δ
 | _=>False
def oS(f:FS):MSt:=λD δ=>(f δ).fits D
def Zw(f g:FS):FS:=λδ=>match f δ with| .nx δ'=>g δ'|r=>r
def fNx:FS:=λδ=>.nx δ
def Yil:FS:=λδ=>.bk δ
def Yhv:FS:=λδ=>.ct δ
def wE(e:FE)(k:OT->Zf->RS):FS:=λδ=>match e δ with|some (r,δ')=>k r δ'|none=>.bad
def wX(F:FD)(a:FA)(k:OT->Zf->RS):FS:=λδ=>match a δ with
 | some (rs,δ1)=>match F (OT.datas rs)with
  | .ok r=>k r δ1
  | .exn c=>.ex c δ1
  | .bad=>.bad
 | none=>.bad
def Zr2:OT->Zf->RS:=λ_ δ=>.nx δ
def W2:OT->Zf->RS:=λr δ=>.rt r δ
def Ydg:OT->Zf->RS:=λr δ=>if Wl r.data=YD then .rt (.fz r.data) δ else .bad
def Wi(i:Nat):OT->Zf->RS:=λr δ=>.nx (δ.set i (YB (.fz r.data)))
def Yb0(i:Nat):OT->Zf->RS:=λr δ=>if Wl r.data=YD then .nx (δ.set i (YB (.fz r.data)))else .bad
def Ja(i:Nat):OT->Zf->RS:=λr δ=>.nx (δ.set i (YB r))
def Z4s(g:FG):OT->Zf->RS:=λr δ=>match g r.data δ with|some δ'=>.nx δ'|none=>.bad
def Yej:FS:=λδ=>.rt (.fz .none) δ
def Zez(i:Nat):FS:=λδ=>match δ[i]? with|some (YB t)=>.rt t (δ.set i YC)|_=>.bad
def Wr(t:FT)(u w:FS):FS:=λδ=>match t δ with|some (b,δ')=>if b=YD then u δ' else w δ'|none=>.bad
def Zcp(c:Str):FS:=λδ=>.ex c δ
def Z0(i:Nat)(e:FE):FS:=λδ=>match δ[i]? with
 | some (YB (.nd _))=>wE e (λr δ1=>match δ1[i]? with
  | some (YB (.nd ts))=>if ts.length<XC then .nx (δ1.set i (YB (.nd (ts++[.fz r.data]))))else .bad
  | _=>.bad) δ
 | _=>.bad
def Zm9(i:Nat)(e:FE):FS:=λδ=>match δ[i]? with
 | some (YB (.nd _))=>wE e (λr δ1=>match δ1[i]? with
  | some (YB (.nd ts))=>if ts.length<XC then .nx (δ1.set i (YB (.nd (ts++[r]))))else .bad
  | _=>.bad) δ
 | _=>.bad
def Z2p(i:Nat)(e j:FE):FS:=wE e λr δ1=>match δ1[i]? with
 | some (YB (.nd ts))=>wE j (λn _=>match n.data with
  | .int k=>match ixN ts.length k with
   | some j=>.nx (δ1.set i (YB (.nd (ts.set j (.fz r.data)))))
   | none=>.bad
  | _=>.bad) δ1
 | _=>.bad
def Zrf(i:Nat)(e j j2:FE):FS:=wE e λr δ1=>match δ1[i]? with
 | some (YB (.nd ts))=>wE j (λn _=>match n.data with
  | .int k=>match ixN ts.length k with
   | some j=>match ts[j]? with
    | some (.nd us)=>wE j2 (λn' _=>match n'.data with
     | .int k'=>match ixN us.length k' with
      | some j'=>.nx (δ1.set i (YB (.nd (ts.set j (.nd (us.set j' (.fz r.data)))))))
      | none=>.bad
     | _=>.bad) δ1
    | _=>.bad
   | none=>.bad
  | _=>.bad) δ1
 | _=>.bad
def Za8(i:Nat)(u:FS):FS:=λδ=>match δ[i]? with|some (YB t)=>u (δ.set i (YB (.fz t.data)))|_=>.bad
def forLoop(g:FG)(u:FS):List Xa->Zf->RS
 | [],δ=>.nx δ
 | d::ds,δ=>match g d δ with
  | none=>.bad
  | some δ1=>match u δ1 with
   | .nx δ2=>forLoop g u ds δ2
   | .ct δ2=>forLoop g u ds δ2
   | .bk δ2=>.nx δ2
   | r=>r
def W5(it:FI)(g:FG)(u:FS):FS:=λδ=>match it δ with|some (ds,δ1)=>forLoop g u ds δ1|none=>.bad
def whileLoop(t:FT)(u:FS):Nat->Zf->RS
 | 0,_=>.bad
 | n+1,δ=>match t δ with
  | none=>.bad
  | some (b,δ1)=>if b=YD then match u δ1 with
   | .nx δ2=>whileLoop t u n δ2
   | .ct δ2=>whileLoop t u n δ2
   | .bk δ2=>.nx δ2
   | .rt r δ2=>.rt r δ2
   | _=>.bad
   else .nx δ1
open Classical in
def Zhm(t:FT)(u:FS):FS:=λδ=>if h:∃n,whileLoop t u n δ≠ .bad then whileLoop t u (Classical.choose h) δ else .bad
def Zav(n:Nat)(ds:List Xa):Zf:=ds.map (λd=>YB (.fz d))++Qi (n-ds.length) YC
def Yc7(n:Nat)(t:OT)(ds:List Xa):Zf:=YB t::(ds.map (λd=>YB (.fz d))++Qi (n-(ds.length+1)) YC)
def RS.told:RS->RF
 | .nx _=>.ok (.fz .none)
 | .rt r _=>.ok r
 | .ex c _=>.exn c
 | _=>.bad
def J8(np n:Nat)(S:FS):FD:=λds=>if ds.length=np then(S (Zav n ds)).told else .bad
def sD(F:FD):List Xa->(OT->Prop)->Prop:=λds k=>∃r,F ds= .ok r/\k r
theorem bs{α β:Type}{x:Option α}{f:α->Option β}{b:β}(h:x.bind f=YB b):∃a,x=YB a/\f a=YB b:=Option.bind_eq_some_iff.mp h
section
variable {X:Cx}{io:List Nat}{p c:Bool}{e tg:YJ}{es:List YJ}{st:YK}{sts:List YK}{eo:Option YJ}{fa fb fc:FE}{ra:FA}{ta tb:FT}{i:Nat}
theorem Z61(h:ME X io p c e (Ybf i)):ME X io p c e (o2 (Zb i)):=h.weak λδ K q91=>by
 obtain⟨r,δ',h,k⟩:=q91;unfold Zb at h;unfold Ybf;split at h
 .rename_i d hd;(try rw[hd]);cases h;exact k
 .cases h
theorem Z75(h:ME X io p c e (Ybo i)):ME X io p c e (o2 (Wc i)):=h.weak λδ K q92=>by
 obtain⟨r,δ',h,k⟩:=q92;unfold Wc at h;unfold Ybo;split at h
 .rename_i d hd;(try rw[hd]);cases h;exact k
 .cases h
theorem Zc1{d:Xa}(h:ME X io p c e (mC d)):ME X io p c e (o2 (fC d)):=h.weak λδ K ⟨r,δ',h,k⟩=>by cases h;exact k
def ByS(g:Xa->Xa->Option Xa)(rp:Xa->Xa->(Xa->Prop)->Prop):Prop:=∀d e r k,g d e=YB r->k r->rp d e k
def ByO(g:Xa->Xa->Option OT)(rp:Xa->Xa->(OT->Prop)->Prop):Prop:=∀d e r k,g d e=YB r->k r->rp d e k
theorem Zy2{g rp}(G:ByS g rp){K:OT->Zf->Prop}(h:o2 (Ze g fa fb) δ K):Zlw rp (o2 fa) (o2 fb) δ K:=by
 obtain⟨r,δ',h,k⟩:=h;obtain⟨⟨x,δ1⟩,h1,h⟩:=bs h;obtain⟨⟨y,δ2⟩,h2,h⟩:=bs h;obtain⟨d,h3,h⟩:=bs h;cases h;exact⟨x,δ1,h1,y,δ2,h2,G _ _ _ _ h3 k⟩
theorem Jf{g rp}(G:ByS g rp)(h:ME X io p c e (Zlw rp (o2 fa) (o2 fb))):ME X io p c e (o2 (Ze g fa fb)):=h.weak λδ K z=>Zy2 G z
theorem Ydh{f:FE}{K:Bool->Zf->Prop}(h:o2 (tV f) δ K):o2 f δ (kB K):=by
 obtain⟨b,δ',h,k⟩:=h;obtain⟨⟨x,δ1⟩,h1,h⟩:=bs h;refine⟨x,δ1,h1,?_⟩;unfold kB
 try dsimp only at h|-
 split at h
 .cases h;exact k
 .cases h
theorem Jd{g rp}(G:ByS g rp)(h:MT X io p e (λδ K=>Zlw rp (o2 fa) (o2 fb) δ (kB K))):MT X io p e (o2 (tV (Ze g fa fb))):=h.weak λδ K z=>Zy2 G (Ydh z)
theorem Zev{g rp}(G:ByO g rp)(h:ME X io p c e (Z9a rp (o2 fa) (o2 fb))):ME X io p c e (o2 (Zn g fa fb)):=h.weak λδ K h=>by
 obtain⟨r,δ',h,k⟩:=h;obtain⟨⟨x,δ1⟩,h1,h⟩:=bs h;obtain⟨⟨y,δ2⟩,h2,h⟩:=bs h;obtain⟨d,h3,h⟩:=bs h;cases h;exact⟨x,δ1,h1,y,δ2,h2,G _ _ _ _ h3 k⟩
def Zv3:Xa->Option Xa| .int i=>YB (.int (-i))|_=>YC
def Ybc:Xa->Option Xa| .bool b=>YB (.bool (!b))|_=>YC
theorem Zyr(h:ME X io p c e (Ygz (o2 fa))):ME X io p c e (o2 (fUn Zv3 fa)):=h.weak λδ K h=>by
 obtain⟨r,δ',h,k⟩:=h;obtain⟨⟨x,δ1⟩,h1,h⟩:=bs h;obtain⟨d,h3,h⟩:=bs h;cases h;refine⟨x,δ1,h1,?_⟩;dsimp only at h3|-
 cases q:x.data<;>rw[q]at h3<;>cases h3
 exact k
theorem Zsk(h:ME X io p c e (Z7e (o2 fa))):ME X io p c e (o2 (fUn Ybc fa)):=h.weak λδ K h=>by
 obtain⟨r,δ',h,k⟩:=h;obtain⟨⟨x,δ1⟩,h1,h⟩:=bs h;obtain⟨d,h3,h⟩:=bs h;cases h;refine⟨x,δ1,h1,?_⟩;dsimp only at h3|-
 cases q:x.data<;>rw[q]at h3<;>cases h3
 exact k
theorem Zit(h:ME X io p c e (Z9j (o2 fa) (o2 fb))):ME X io p c e (o2 (Zza fa fb)):=h.weak λδ K h=>by
 obtain⟨r,δ',h,k⟩:=h;obtain⟨⟨x,δ1⟩,h1,h⟩:=bs h;refine⟨x,δ1,h1,?_⟩
 try dsimp only at h|-
 split at h
 .rename_i q;(try rw[q]);rw[Zze,YM rfl];exact⟨r,δ',h,k⟩
 .rename_i q;(try rw[q]);cases h;rw[Zze,YQ Xx];exact k
 .cases h
theorem Yex(h:ME X io p c e (mIf (o2 ta) (o2 fa) (o2 fb))):ME X io p c e (o2 (fIf ta fa fb)):=h.weak λδ K h=>by
 obtain⟨r,δ',h,k⟩:=h;obtain⟨⟨x,δ1⟩,h1,h⟩:=bs h;refine⟨x,δ1,h1,?_⟩
 try dsimp only at h|-
 split at h
 .rename_i q;rw[YM q];exact⟨r,δ',h,k⟩
 .rename_i q;rw[YQ q];exact⟨r,δ',h,k⟩
theorem Z99(h:MT X io p e (Ye4 (o2 ta))):MT X io p e (o2 (tNo ta)):=h.weak λδ K h=>by
 obtain⟨r,δ',h,k⟩:=h;obtain⟨⟨x,δ1⟩,h1,h⟩:=bs h;cases h;exact⟨x,δ1,h1,k⟩
theorem Zx6(h:MW X io p e (Yg4 (o2 ta) (o2 tb))):MW X io p e (o2 (tAn ta tb)):=h.weak λδ K h=>by
 obtain⟨r,δ',h,k⟩:=h;obtain⟨⟨x,δ1⟩,h1,h⟩:=bs h;refine⟨x,δ1,h1,?_⟩
 try dsimp only at h|-
 split at h
 .rename_i q;rw[YM q];exact⟨r,δ',h,k⟩
 .rename_i q;rw[YQ q];cases h;exact k
theorem Zj9(h:MW X io p e (mOr (o2 ta) (o2 tb))):MW X io p e (o2 (tO ta tb)):=h.weak λδ K h=>by
 obtain⟨r,δ',h,k⟩:=h;obtain⟨⟨x,δ1⟩,h1,h⟩:=bs h;refine⟨x,δ1,h1,?_⟩
 try dsimp only at h|-
 split at h
 .rename_i q;rw[YM q];cases h;exact k
 .rename_i q;rw[YQ q];exact⟨r,δ',h,k⟩
theorem Zem(h:MT X io p e (Yg6 (o2 fa))):MT X io p e (o2 (tD fa)):=h.weak λδ K h=>by
 obtain⟨r,δ',h,k⟩:=h;obtain⟨⟨x,δ1⟩,h1,h⟩:=bs h;obtain⟨d,h3,h⟩:=bs h;cases h;refine⟨x,δ1,h1,?_⟩;dsimp only at h3|-
 rw[h3];exact k
theorem Z87(h:MA X io p c es Ygn):MA X io p c es (o2 Zm):=h.weak λδ K ⟨r,δ',h,k⟩=>by cases h;exact k
theorem Z1p(h:MA X io p c es (Z56 (o2 fa) (o2 ra))):MA X io p c es (o2 (Zd fa ra)):=h.weak λδ K h=>by
 obtain⟨r,δ',h,k⟩:=h;obtain⟨⟨x,δ1⟩,h1,h⟩:=bs h;obtain⟨⟨y,δ2⟩,h2,h⟩:=bs h;cases h;exact⟨x,δ1,h1,y,δ2,h2,k⟩
theorem Z76(h:ME X io p c e (Ye6 (o2 ra))):ME X io p c e (o2 (Zbd ra)):=h.weak λδ K h=>by
 obtain⟨r,δ',h,k⟩:=h;obtain⟨⟨x,δ1⟩,h1,h⟩:=bs h;refine⟨x,δ1,h1,?_⟩;dsimp only at h;split at h
 .rename_i q;cases h;exact⟨q,k⟩
 .cases h
theorem Yaj(h:ME X io p c e (Yft (o2 ra))):ME X io p c e (o2 (Zfe ra)):=h.weak λδ K h=>by
 obtain⟨r,δ',h,k⟩:=h;obtain⟨⟨x,δ1⟩,h1,h⟩:=bs h;refine⟨x,δ1,h1,?_⟩;dsimp only at h;split at h
 .rename_i q;cases h;exact⟨q,k⟩
 .cases h
theorem Zz1(h:ME X io p c e (Z43 (o2 fa))):ME X io p c e (o2 (Zrh fa)):=h.weak λδ K h=>by
 obtain⟨r,δ',h,k⟩:=h;obtain⟨⟨x,δ1⟩,h1,h⟩:=bs h;refine⟨x,δ1,h1,?_⟩;dsimp only at h;split at h
 .rename_i q;cases h;exact⟨q,k⟩
 .cases h
theorem Z2u{F:FD}(h:ME X io p c e (Z2y (sD F) (o2 ra))):ME X io p c e (o2 (Z8 F ra)):=h.weak λδ K h=>by
 obtain⟨r,δ',h,k⟩:=h;obtain⟨⟨x,δ1⟩,h1,h⟩:=bs h;refine⟨x,δ1,h1,?_⟩;dsimp only at h;split at h
 .rename_i q;cases h;exact⟨_,q,k⟩
 .cases h
theorem Zc9{g rp}(G:∀ds r k,g ds=YB r->k r->rp ds k)(h:ME X io p c e (Ybl rp (o2 ra))):ME X io p c e (o2 (Zbb g ra)):=h.weak λδ K h=>by
 obtain⟨r,δ',h,k⟩:=h;obtain⟨⟨x,δ1⟩,h1,h⟩:=bs h;obtain⟨d,h3,h⟩:=bs h;cases h;exact⟨x,δ1,h1,G _ _ _ h3 k⟩
theorem Z0h{g rp}(G:∀ds r k,g ds=YB r->k r->rp ds k)(h:ME X io p c e (mBl rp (o2 ra))):ME X io p c e (o2 (fBl g ra)):=h.weak λδ K h=>by
 obtain⟨r,δ',h,k⟩:=h;obtain⟨⟨x,δ1⟩,h1,h⟩:=bs h;obtain⟨d,h3,h⟩:=bs h;cases h;exact⟨x,δ1,h1,G _ _ _ h3 k⟩
theorem Zc7{T:String}(h:ME X io p c e (Ygw T (o2 fa))):ME X io p c e (o2 (Zn1 T fa)):=h.weak λδ K h=>by
 obtain⟨r,δ',h,k⟩:=h;obtain⟨⟨x,δ1⟩,h1,h⟩:=bs h
 by_cases hf:Zg8 x.data=YD
 .have h':(if Zg8 x.data=YD then YC else YB (OT.fz (.bool (Zpv T x.data)),δ1))=YB (r,δ'):=h
  rw[YM hf]at h';cases h'
 .have h':(if Zg8 x.data=YD then YC else YB (OT.fz (.bool (Zpv T x.data)),δ1))=YB (r,δ'):=h
  rw[YQ hf]at h';injection h' with h';injection h' with e1 e2;subst e1 e2;exact⟨x,_,h1,Vf.mpr hf,k⟩
theorem Zl7(h:MO X io p eo Zp2):MO X io p eo (o2 oN):=h.weak λδ K ⟨r,δ',h,k⟩=>by cases h;exact k
theorem Ziw(h:MO X io p eo (Z67 (o2 fa))):MO X io p eo (o2 (oI fa)):=h.weak λδ K h=>by
 obtain⟨r,δ',h,k⟩:=h;obtain⟨⟨x,δ1⟩,h1,h⟩:=bs h;refine⟨x,δ1,h1,?_⟩
 try dsimp only at h|-
 split at h
 .rename_i q;(try rw[q]);cases h;exact k
 .cases h
theorem Z6r{lo hi:FO}(h:ME X io p c e (mSl (o2 fa) (o2 lo) (o2 hi))):ME X io p c e (o2 (fSl fa lo hi)):=h.weak λδ K h=>by
 obtain⟨r,δ',h,k⟩:=h;obtain⟨⟨x,δ1⟩,h1,h⟩:=bs h;obtain⟨⟨y,δ2⟩,h2,h⟩:=bs h;obtain⟨⟨z,δ3⟩,h3,h⟩:=bs h;refine⟨x,δ1,h1,y,δ2,h2,z,δ3,h3,?_⟩
 try dsimp only at h|-
 split at h
 .rename_i q;(try rw[q]);cases h;exact k
 .cases h
theorem Zqf{f:Int->Int->Bool}{K:OT->Zf->Prop}(h:o2 (Zci f g fa fb fc) δ K):Zho f g (o2 fa) (o2 fb) (o2 fc) δ K:=by
 obtain⟨r,δ',h,k⟩:=h;obtain⟨⟨x,δ1⟩,h1,h⟩:=bs h;obtain⟨⟨y,δ2⟩,h2,h⟩:=bs h;refine⟨x,δ1,h1,y,δ2,h2,?_⟩
 try dsimp only at h|-
 split at h
 case h_2=>cases h
 rename_i i j q1 q2
 (try rw[q1,q2])
 show(if f i j=YD then _ else _);split at h
 .rename_i hf
  rw[YM hf];obtain⟨⟨z,δ3⟩,h3,h⟩:=bs h;refine⟨z,δ3,h3,?_⟩
  try dsimp only at h|-
  split at h
  .rename_i q;(try rw[q]);cases h;exact k
  .cases h
 .rename_i hf
  rw[YQ hf];cases h;exact k
theorem Zu4{f:Int->Int->Bool}(h:ME X io p c e (Zho f g (o2 fa) (o2 fb) (o2 fc))):ME X io p c e (o2 (Zci f g fa fb fc)):=h.weak λδ K z=>Zqf z
theorem Zvj{f:Int->Int->Bool}(h:MT X io p e (λδ K=>Zho f g (o2 fa) (o2 fb) (o2 fc) δ (kB K))):MT X io p e (o2 (tV (Zci f g fa fb fc))):=h.weak λδ K z=>Zqf (Ydh z)
theorem Z1y(h:MI X io p c tg e (iL (o2 fa))):MI X io p c tg e (o2 (Zbf fa)):=h.weak λδ K h=>by
 obtain⟨r,δ',h,k⟩:=h;obtain⟨⟨x,δ1⟩,h1,h⟩:=bs h;refine⟨x,δ1,h1,?_⟩
 try dsimp only at h|-
 split at h
 .rename_i q;(try rw[q]);cases h;exact k
 .cases h
theorem Z5t(h:MI X io p c tg e (iT (o2 fa))):MI X io p c tg e (o2 (iTp fa)):=h.weak λδ K h=>by
 obtain⟨r,δ',h,k⟩:=h;obtain⟨⟨x,δ1⟩,h1,h⟩:=bs h;refine⟨x,δ1,h1,?_⟩
 try dsimp only at h|-
 split at h
 .rename_i q;(try rw[q]);cases h;exact k
 .cases h
theorem Jh(h:MI X io p c tg e (iR1 (o2 ra))):MI X io p c tg e (o2 (iRa ra)):=h.weak λδ K h=>by
 obtain⟨r,δ',h,k⟩:=h;obtain⟨⟨x,δ1⟩,h1,h⟩:=bs h;refine⟨x,δ1,h1,?_⟩
 try dsimp only at h|-
 split at h
 case h_2=>cases h
 rename_i q
 (try rw[q])
 try dsimp only
 split at h
 .rename_i b;cases h;exact⟨Zd1 b,k⟩
 .cases h
theorem Zz0(h:MI X io p c tg e (iR2 (o2 ra))):MI X io p c tg e (o2 (iRb ra)):=h.weak λδ K h=>by
 obtain⟨r,δ',h,k⟩:=h;obtain⟨⟨x,δ1⟩,h1,h⟩:=bs h;refine⟨x,δ1,h1,?_⟩
 try dsimp only at h|-
 split at h
 case h_2=>cases h
 rename_i q
 (try rw[q])
 try dsimp only
 split at h
 .rename_i b
  cases h;rw[X3]at b;exact⟨⟨(Zd1 b.1).1,(Zd1 b.1).2,(Zd1 b.2).1,(Zd1 b.2).2⟩,k⟩
 .cases h
theorem Z21(h:MG X io c tg (dName i)):MG X io c tg (oG (gNm i)):=h.weak λd δ K ⟨δ',h,k⟩=>by cases h;exact k
theorem Ze7(h:MG X io c tg (Zye i)):MG X io c tg (oG (Zqh i)):=h.weak λd δ K q93=>by
 obtain⟨δ',h,k⟩:=q93;unfold Zqh at h;split at h
 .rename_i q;cases h;exact⟨q,k⟩
 .cases h
theorem Zlu(h:MGs X io c es Yfx):MGs X io c es (oGs gNl):=h.weak λd δ K q94=>by
 obtain⟨δ',h,k⟩:=q94;unfold gNl at h;split at h
 .cases h;exact⟨rfl,k⟩
 .cases h
theorem Za5{g:FG}{gs:FGs}(h:MGs X io c es (Z1m (oG g) (oGs gs))):MGs X io c es (oGs (gCn g gs)):=h.weak λd δ K q95=>by
 obtain⟨δ',h,k⟩:=q95;unfold gCn at h;split at h
 .obtain⟨δ1,h1,h⟩:=bs h
  exact⟨δ1,h1,δ',h,k⟩
 .cases h
theorem Zpy{n:Nat}{gs:FGs}(h:MG X io c tg (dTup n (oGs gs))):MG X io c tg (oG (gTp n gs)):=h.weak λd δ K q96=>by
 obtain⟨δ',h,k⟩:=q96;unfold gTp at h;split at h
 case h_2=>cases h
 split at h
 .rename_i q;exact⟨q,δ',h,k⟩
 .cases h
theorem Wt(h:MIfs X io p es Z49):MIfs X io p es (o2 Zcj):=h.weak λδ K ⟨r,δ',h,k⟩=>by cases h;exact k
theorem Z25{g:FG}{t:FT}{me:FE}{δ0:Zf}{zs:List OT}{δe:Zf}(h:compLoop g t me ds δ0=YB (zs,δe)) :
  ∃I:Nat->List OT->Zf->Prop,I 0 [] δ0/\
 (∀ (i:Nat) (d:Xa) (rs:List OT) (δ':Zf),ds[i]? =YB d->I i rs δ'->oG g d δ' λδ2=>o2 t δ2 λb δ3=>if b=YD then o2 me δ3 λr δ4=>I (i+1) (rs++[r]) δ4 else I (i+1) rs δ3)/\
 ∀rs δ',I ds.length rs δ'->rs=zs/\δ'=δe:=by
 refine⟨λi rs δ'=>∃ys,rs++ys=zs/\compLoop g t me (ds.drop i) δ'=YB (ys,δe),⟨zs,rfl,by rw[List.drop_zero];exact h⟩,?_,?_⟩
 .rintro i d rs δ' hd ⟨ys,e,hl⟩
  obtain⟨hi,hdi⟩:=Xk.mp hd;rw[Ut hi,hdi]at hl;unfold compLoop at hl;obtain⟨δ1,h1,hl⟩:=bs hl;obtain⟨⟨b,δ2⟩,h2,hl⟩:=bs hl;refine⟨δ1,h1,b,δ2,h2,?_⟩;dsimp only at hl;split at hl
  .rename_i hb
   rw[YM hb];obtain⟨⟨r,δ3⟩,h3,hl⟩:=bs hl;obtain⟨⟨ws,δ4⟩,h4,hl⟩:=bs hl;cases hl;exact⟨r,δ3,h3,ws,by rw[QV];exact e,h4⟩
  .rename_i hb
   rw[YQ hb];exact⟨ys,e,hl⟩
 .rintro rs δ' ⟨ys,e,hl⟩
  rw[List.drop_length]at hl;unfold compLoop at hl;cases hl;exact⟨by rw[<-e,Qs],rfl⟩
theorem Zry{n:Nat}{it:FI}{g:FG}{t:FT}{me:FE}{K:OT->Zf->Prop}(h:o2 (Z5 n caps it g t me) δ K):Zgz n caps (o2 it) (oG g) (o2 t) (o2 me) δ K:=by
 obtain⟨r,δ',h,k⟩:=h;obtain⟨⟨ds,δ1⟩,h1,h⟩:=bs h;refine⟨ds,δ1,h1,?_⟩;dsimp only at h;split at h
 case isFalse=>cases h
 rename_i hz;obtain⟨⟨zs,δe⟩,h2,h⟩:=bs h;cases h;obtain⟨I,i0,st,en⟩:=Z25 h2;refine⟨hz,I,i0,st,λrs δ'' q=>?_⟩;obtain⟨rfl,rfl⟩:=en rs δ'' q;exact k
theorem Wn{n:Nat}{it:FI}{g:FG}{t:FT}{me:FE}(h:ME X io p c e (Zgz n caps (o2 it) (oG g) (o2 t) (o2 me))):ME X io p c e (o2 (Z5 n caps it g t me)):=h.weak λδ K z=>Zry z
end
end L2
variable {c2:Bool}{ra:FA}{me fa fb fc:FE}{gg:FG}{pl pr:Pos}
namespace L2
open PySem PySem.Spec PyProof.Rows
section
variable {X:Cx}{io:List Nat}{p c:Bool}{e tg iter:YJ}{es:List YJ}{st:YK}{sts:List YK}{fa fb fc:FE}{ra:FA}{ta tb:FT}{i:Nat}{f g u w:FS}
theorem Yau(h:MSs X io sts (Ydn (oS f) (oS g))):MSs X io sts (oS (Zw f g)):=h.weak λD δ h=>by
 unfold oS Zw at h;unfold Ydn oS;cases q:f δ<;>rw[q]at h<;>exact h
theorem Zz7(h:MSs X io sts Z5m):MSs X io sts (oS fNx):=h.weak λD δ h=>h
theorem Zjb{k:OT->Zf->RS}{D:Zg4}(h:oS (wE fa k) D δ):o2 fa δ λr δ'=>(k r δ').fits D:=by
 unfold oS wE at h;split at h
 .rename_i q;exact⟨_,_,q,h⟩
 .exact h.elim
theorem o2.imp{α:Type}{f:Zf->Option (α×Zf)}{δ:Zf}{K K':α->Zf->Prop}(h:o2 f δ K)(k:∀r δ',K r δ'->K' r δ'):o2 f δ K':=let⟨r,δ',e,q⟩:=h;⟨r,δ',e,k r δ' q⟩
theorem Zfj{P:Prop}[Decidable P]{a:RS}{D:Zg4}(h:(if P then a else .bad:RS).fits D):P/\a.fits D:=by
 split at h
 .exact⟨‹_›,h⟩
 .exact h.elim
theorem Zrr(h:MS X io st (Z5y (o2 fa))):MS X io st (oS (wE fa Zr2)):=h.weak λD δ h=>Zjb h
theorem Z9r(h:MS X io st (Yf2 (o2 fa))):MS X io st (oS (wE fa W2)):=h.weak λD δ h=>Zjb h
theorem Zdv(h:MS X io st (Zwg i)):MS X io st (oS (Zez i)):=h.weak λD δ h=>by
 unfold oS Zez at h;unfold Zwg;split at h
 .rename_i q;(try rw[q]);exact h
 .exact h.elim
theorem Ydc(h:MS X io st (Ye5 (o2 ta) (oS u) (oS w))):MS X io st (oS (Wr ta u w)):=h.weak λD δ h=>by
 unfold oS Wr at h;split at h
 .rename_i b δ' q
  refine⟨b,δ',q,?_⟩;split at h
  .rename_i hb;rw[YM hb];exact h
  .rename_i hb;rw[YQ hb];exact h
 .exact h.elim
theorem Zhx(h:MS X io st (Z4x i (o2 fa))):MS X io st (oS (wE fa (Wi i))):=h.weak λD δ h=>Zjb h
theorem Zt9(h:MS X io st (Zo1 i (o2 fa))):MS X io st (oS (wE fa (Ja i))):=h.weak λD δ h=>Zjb h
section
variable {n:Nat}{o q:Nat}{it:FI}{t:FT}
theorem Zne(h:MS X io st (if YD=YD then Zo1 i (Zgz n caps (o2 it) (oG gg) (o2 t) (o2 me))else Z4x i (Zgz n caps (o2 it) (oG gg) (o2 t) (o2 me)))):MS X io st (oS (wE (Z5 n caps it gg t me) (Ja i))) :=
 h.weak λD δ h=>by rw[YM rfl];exact Zry (Zjb h)
theorem Zqc(h:MS X io st (if YF=YD then Zo1 i (Zgz n caps (o2 it) (oG gg) (o2 t) (o2 me))else Z4x i (Zgz n caps (o2 it) (oG gg) (o2 t) (o2 me)))):MS X io st (oS (wE (Z5 n caps it gg t me) (Wi i))) :=
 h.weak λD δ h=>by rw[YQ Xx];exact Zry (Zjb h)
end
theorem Z6c(h:MS X io st (Yfw (o2 fa) (oG gg))):MS X io st (oS (wE fa (Z4s gg))):=h.weak λD δ h=>(Zjb h).imp λr δ' q=>by
 unfold Z4s at q;split at q
 .rename_i z;exact⟨_,z,q⟩
 .exact q.elim
theorem Y5(h:MS X io st (Zix i (o2 fa))):MS X io st (oS (Z0 i fa)):=h.weak λD δ h=>by
 unfold oS Z0 at h;unfold Zix;split at h
 case h_2=>exact h.elim
 rename_i q;(try rw[q]);refine(Zjb h).imp λr δ' z=>?_;split at z
 .rename_i q2;(try rw[q2]);exact Zfj z
 .exact z.elim
theorem Zzk(h:MS X io st (Ygq i (o2 fa) (o2 fb))):MS X io st (oS (Z2p i fa fb)):=h.weak λD δ h=>by
 refine(Zjb h).imp λr δ' z=>?_;split at z
 case h_2=>exact z.elim
 rename_i q;(try rw[q]);refine(Zjb z).imp λn δ2 z=>?_;split at z
 case h_2=>exact z.elim
 rename_i k q2;(try rw[q2]);show match ixN _ k with|some j=>_|none=>_
 split at z
 .rename_i q3;(try rw[q3]);exact z
 .exact z.elim
theorem Zrp(h:MS X io st (Z7n i (o2 fa) (o2 fb) (o2 fc))):MS X io st (oS (Zrf i fa fb fc)):=h.weak λD δ h=>by
 refine(Zjb h).imp λr δ' z=>?_;split at z
 case h_2=>exact z.elim
 rename_i q;(try rw[q]);refine(Zjb z).imp λn δ2 z=>?_;split at z
 case h_2=>exact z.elim
 rename_i k q2;(try rw[q2]);show match ixN _ k with|some j=>_|none=>_
 split at z
 case h_2=>exact z.elim
 rename_i q3;(try rw[q3])
 try dsimp only
 split at z
 case h_2=>exact z.elim
 rename_i q4;(try rw[q4]);refine(Zjb z).imp λn' δ3 z=>?_;split at z
 case h_2=>exact z.elim
 rename_i k' q5;(try rw[q5]);show match ixN _ k' with|some j=>_|none=>_
 split at z
 .rename_i q6;(try rw[q6]);exact z
 .exact z.elim
theorem Zdo(h:MS X io st (Zh9 i (oS u))):MS X io st (oS (Za8 i u)):=h.weak λD δ h=>by
 unfold oS Za8 at h;unfold Zh9;split at h
 .rename_i q;(try rw[q]);exact h
 .exact h.elim
theorem Zes{d:Xa}:forLoop gg u (d::ds) δ=match gg d δ with
  | none=>.bad
  | some δ1=>match u δ1 with
   | .nx δ2=>forLoop gg u ds δ2
   | .ct δ2=>forLoop gg u ds δ2
   | .bk δ2=>.nx δ2
   | r=>r:=rfl
theorem Z53{it:FI}(h:MS X io st (Ygp (o2 it) (oG gg) (oS u))):MS X io st (oS (W5 it gg u)):=h.weak λD δ h=>by
 unfold oS W5 at h;split at h
 case h_2=>exact h.elim
 rename_i ds δ1 q;refine⟨ds,δ1,q,λi δ'=>(forLoop gg u (ds.drop i) δ').fits D,by show RS.fits D (forLoop gg u (ds.drop 0) δ1);rw[List.drop_zero];exact h,λi d δ' hd z=>?_,λδ' z=>?_⟩
 .obtain⟨hi,hdi⟩:=Xk.mp hd
  replace z:RS.fits D (forLoop gg u (ds.drop i) δ'):=z;rw[Ut hi,hdi,Zes]at z;split at z
  case h_1=>exact z.elim
  rename_i δ2 q2;refine⟨δ2,q2,?_⟩;unfold oS;cases q3:u δ2<;>rw[q3]at z<;>(try rw[q3])<;>exact z
 .replace z:RS.fits D (forLoop gg u (ds.drop ds.length) δ'):=z
  rw[List.drop_length]at z;exact z
theorem Zvw(h:MS X io st (Zyf (o2 ta) (oS u))):MS X io st (oS (Zhm ta u)):=h.weak λD δ h=>by
 unfold oS Zhm at h;split at h
 case isFalse=>exact h.elim
 rename_i hn;refine⟨λn δ'=>(whileLoop ta u n δ').fits D,⟨_,h⟩,λn δ' z=>?_⟩;cases n with
 | zero=>exact z.elim
 | succ n=>
  unfold whileLoop at z;split at z
  case h_1=>exact z.elim
  rename_i b δ1 q;refine⟨b,δ1,q,?_⟩;split at z
  .rename_i hb
   rw[YM hb];refine⟨λδ''=>(whileLoop ta u n δ'').fits D,λδ'' y=>⟨n,QB n,y⟩,?_⟩;unfold oS;cases q3:u δ1<;>rw[q3]at z<;>exact z
  .rename_i hb
   rw[YQ hb];exact z
theorem Zcn{n:Nat}:∀{δ:Zf},whileLoop ta u n δ≠ .bad->whileLoop ta u (n+m) δ=whileLoop ta u n δ:=by
 induction n with
 | zero=>intro δ h;exact YZ rfl h
 | succ n ih=>
  intro δ h;rw[Nat.succ_add];unfold whileLoop at h|-
  cases q:ta δ with
  | none=>rfl
  | some x=>
   obtain⟨b,δ1⟩:=x;rw[q]at h
   try dsimp only at h|-
   split
   .rename_i hb
    rw[YM hb]at h;cases q3:u δ1<;>rw[q3]at h<;>first|exact ih h|rfl
   .rfl
theorem Zsi{r:RS}(n:Nat)(h:whileLoop ta u n δ=r)(hr:r≠ .bad):Zhm ta u δ=r:=by
 have hn:∃n,whileLoop ta u n δ≠ .bad:=⟨n,by rw[h];exact hr⟩;unfold Zhm;rw[dif_pos hn];have h1:=Classical.choose_spec hn;have e1:=Zcn (m:=n) h1;have e2:=Zcn (m:=Classical.choose hn) (show whileLoop ta u n δ≠ .bad by rw[h];exact hr);rw[Nat.add_comm]at e2;rw[<-e1,e2,h]
theorem Zb3{cn:Str}:MS X io st (oS (Zcp cn)):=Zv5.weak λD δ h=>h
class NoEx (f:FS):Prop where
 no:∀δ cn δ',f δ≠ .ex cn δ'
class NoExK (k:OT->Zf->RS):Prop where
 no:∀r δ cn δ',k r δ≠ .ex cn δ'
end
section
variable {P:Qa}{w:Qo}{K:Xd}{mg:Str->Option Xe}{base:YH}{x qual:Str}{st:YK}{f:YG}{fd:Qp}{N ps:List Str}{n np nn:Nat}{S:FS}
theorem RS.told_fits{r:RS}{o:OT}{k:OT->Prop}(h:r.told= .ok o)(hk:k o):r.fits (Z2j k):=by
 cases r<;>unfold RS.told at h<;>first|(cases h;exact hk)|cases h
theorem Yo(F:Fun K x qual st f fd)(Sc:Zy N ps (Zk st))(hN:N.length=nn)(hp:np=ps.length)
  (hb:∀(cdv:Xe) (A:Qv) (outer:List Env) (s:Xg) (H:Hp) (E:XK),Room n (A.deeper (envOfC qual (Zk st) s.heap.objs.size f cdv))->MSs (Zx5 CX0 P w K mg base N qual (Zk st) f cdv A outer s H E).nox [] (Za3 st) (oS S)) :
  FnOk P w K mg base CX0 (n+1) f fd ps (spD K (sD (J8 np nn S))):=by
 subst hN hp;refine F.okD Sc (λds k h=>?_) λcdv A outer s H E hr=>⟨_,hb cdv A outer s H E hr,λds k h=>?_⟩
 .obtain⟨r,h,_⟩:=h
  unfold J8 at h;split at h
  .assumption
  .cases h
 .obtain⟨r,h,hk⟩:=h
  unfold J8 at h;split at h
  .exact RS.told_fits h hk
  .cases h
end
def i2(g:Int->Int->Xa):Xa->Xa->Option Xa:=λd e=>match d,e with| .int i,.int j=>YB (g i j)|_,_=>YC
def i2c(c:Int->Int->Bool)(g:Int->Int->Xa):Xa->Xa->Option Xa:=λd e=>match d,e with| .int i,.int j=>if c i j=YD then YB (g i j)else YC|_,_=>YC
theorem Zsq{g:Int->Int->Xa}:ByS (i2 g) (Zx3 g):=λd e r k h hk=>by
 unfold i2 at h;split at h
 .cases h;exact hk
 .cases h
theorem Zmq{c:Int->Int->Bool}{C:Int->Int->Prop}{g:Int->Int->Xa}(hc:∀i j,c i j=YD->C i j):ByS (i2c c g) (d2I C g):=λd e r k h hk=>by
 unfold i2c at h;split at h
 .split at h
  .cases h;exact⟨hc _ _ ‹_›,hk⟩
  .cases h
 .cases h
def Z4w(a b:Int):Bool:=!(decide (Builtin.Int.intBits a>shortFactorBits)&&decide (Builtin.Int.intBits b>shortFactorBits)&&By.Int.intTooBig (Builtin.Int.intBits a+Builtin.Int.intBits b))
def Z92(_ j:Int):Bool:=decide (j≠0)&&decide (j.natAbs.log2<9000)
def Yf0(_ j:Int):Bool:=decide (j≠0)
def Yhb(i j:Int):Bool:=decide (0<=j/\j<=1000000/\i.natAbs<2^64)
theorem Zi0{a b:Int}:Z4w a b=YD↔IntMulOk a b:=by
 unfold Z4w IntMulOk;rw[Bool.not_eq_true',Bool.not_eq_true]
def J6:=i2 λi j=>.int (i+j)
def gSb:=i2 λi j=>.int (i-j)
def Ze2:=i2c Z4w λi j=>.int (i*j)
def J7:=i2c Z92 λi j=>.int (i.fdiv j)
def Zbl:=i2c Yf0 λi j=>.int (i.fmod j)
def Zu8:=i2c Yhb λi j=>.int (i^j.toNat)
def gLt:=i2 λi j=>.bool (decide (i<j))
def gLe:=i2 λi j=>.bool (decide (i<=j))
def gGt:=i2 λi j=>.bool (decide (j<i))
def gGe:=i2 λi j=>.bool (decide (j<=i))
theorem Yd2:ByS J6 (Zx3 λi j=>.int (i+j)):=Zsq
theorem Yca:ByS gSb (Zx3 λi j=>.int (i-j)):=Zsq
theorem Ydl:ByS Ze2 (d2I MulOk λi j=>.int (i*j)):=Zmq λi j h=>⟨Zi0.mp h⟩
theorem Z5z:ByS J7 (d2I Yfh λi j=>.int (i.fdiv j)):=Zmq λi j h=>⟨by
 unfold Z92 at h;rw[X3]at h;exact⟨YX h.1,YX h.2⟩⟩
theorem Yc9:ByS Zbl (d2I (λ_ j=>j≠0) λi j=>.int (i.fmod j)):=Zmq λi j h=>YX h
theorem Ycd:ByS Zu8 (d2I Yfs λi j=>.int (i^j.toNat)):=Zmq λi j h=>⟨(YX h:0<=j/\j<=1000000/\i.natAbs<2^64)⟩
theorem Yb5:ByS gLt (Zx3 λi j=>.bool (decide (i<j))):=Zsq
theorem Yhj:ByS gGt (Zx3 λi j=>.bool (decide (j<i))):=Zsq
theorem Yhd:ByS gGe (Zx3 λi j=>.bool (decide (j<=i))):=Zsq
def gEq:Xa->Xa->Option Xa:=λd e=>if(Um d&&Um e)=YD then YB (.bool (QS d e))else YC
def gNe:Xa->Xa->Option Xa:=λd e=>if(Um d&&Um e)=YD then YB (.bool (!QS d e))else YC
theorem Ybv:ByS gEq dEq:=λd e r k h hk=>by
 unfold gEq at h;split at h
 .rename_i q
  rw[X3]at q;cases h;exact⟨⟨q.1⟩,⟨q.2⟩,hk⟩
 .cases h
theorem Yfb:ByS gNe dNe:=λd e r k h hk=>by
 unfold gNe at h;split at h
 .rename_i q
  rw[X3]at q;cases h;exact⟨⟨q.1⟩,⟨q.2⟩,hk⟩
 .cases h
def gIs:Xa->Xa->Option Xa:=λd e=>match e with| .none=>YB (.bool (Zdw d))|_=>YC
def Zh5:Xa->Xa->Option Xa:=λd e=>match e with| .none=>YB (.bool (!Zdw d))|_=>YC
theorem Zl0:ByS Zh5 Z9d:=λd e r k h hk=>by
 unfold Zh5 at h;split at h
 .cases h;exact⟨rfl,hk⟩
 .cases h
def Zuv(neg:Bool):Xa->Xa->Option Xa:=λd e=>match Zh3 e with
 | some ds=>if(scD d&&ds.all scD)=YD then YB (.bool (if neg then !memS d ds else memS d ds))else YC
 | none=>YC
theorem Z3d:ByS (Zuv neg) (dIn neg):=λd e r k h hk=>by
 unfold Zuv at h;split at h
 case h_2=>cases h
 rename_i ds q;split at h
 case isFalse=>cases h
 rename_i q2;rw[X3]at q2;cases h;refine⟨q2.1,?_⟩;cases e<;>cases q
 .exact⟨q2.2,hk⟩
 .exact⟨q2.2,hk⟩
def gIx:Xa->Xa->Option OT:=λd e=>(ixD d e).bind λx=>YB (.fz x)
theorem Yh6:ByO gIx dIx:=λd e r k h hk=>by
 obtain⟨x,h1,h2⟩:=bs h;cases h2;unfold dIx;rw[h1];exact hk
def Zuw:Xa->Xa->Option OT:=λd e=>match d,e with| .list ds,.list es=>if ds.length+es.length<=XC then YB (.nd ((ds++es).map OT.fz))else YC|_,_=>YC
theorem Z9t:ByO Zuw dCat:=λd e r k h hk=>by
 unfold Zuw at h;split at h
 .split at h
  .cases h;exact⟨‹_›,hk⟩
  .cases h
 .cases h
def Zgu:List Xa->Option Xa:=λds=>match ds with|[d]=>(Zw4 d).bind λn=>YB (.int n)|_=>YC
theorem Ydk:∀ds r k,Zgu ds=YB r->k r->Yf1 ds k:=λds r k h hk=>by
 unfold Zgu at h;split at h
 .obtain⟨n,h1,h2⟩:=bs h
  cases h2;show match Zw4 _ with|some n=>_|none=>_
  rw[h1];exact hk
 .cases h
def Ycn:List Xa->Option Xa:=λds=>match ds with|[.int i]=>YB (.int (if i<0 then -i else i))|_=>YC
def Z2i:List Xa->Option Xa:=λds=>match ds with|[.int i,.int j]=>YB (.int (if j>i then j else i))|_=>YC
theorem Yep:∀ds r k,Z2i ds=YB r->k r->Yfe ds k:=λds r k h hk=>by
 unfold Z2i at h;split at h
 .cases h;exact hk
 .cases h
def Zxq:List Xa->Option Xa:=λds=>match ds with|[.int i,.int j]=>YB (.int (if j<i then j else i))|_=>YC
theorem Z9k:∀ds r k,Zxq ds=YB r->k r->Yfl ds k:=λds r k h hk=>by
 unfold Zxq at h;split at h
 .cases h;exact hk
 .cases h
def Zzb:List Xa->Option Xa:=λds=>match ds with|[.int i]=>YB (.int i)|[.bool b]=>YB (.int (if b then 1 else 0))|_=>YC
theorem Z68:∀ds r k,Zzb ds=YB r->k r->Yfc ds k:=λds r k h hk=>by
 unfold Zzb at h;split at h
 .cases h;exact hk
 .cases h;exact hk
 .cases h
def Zr9:List Xa->Option OT:=λds=>match ds with|[d]=>(Zh3 d).bind λes=>YB (.nd (es.map OT.fz))|_=>YC
theorem Z93:∀ds r k,Zr9 ds=YB r->k r->Z42 ds k:=λds r k h hk=>by
 unfold Zr9 at h;split at h
 .obtain⟨n,h1,h2⟩:=bs h
  cases h2;show match Zh3 _ with|some n=>_|none=>_
  rw[h1];exact hk
 .cases h
def Zgq:List Xa->Option (List Int)
 | []=>YB []
 | .int i::r=>(Zgq r).bind λl=>YB (i::l)
 | _::_=>YC
theorem Zdp:∀{ds:List Xa} {ns:List Int},Zgq ds=YB ns->ds=ns.map Xw
 | [],_,h=>by cases h;rfl
 | .int i::r,_,h=>by
  obtain⟨l,h1,h2⟩:=bs h;cases h2;rw[Zdp h1];rfl
 | .none::_,_,h=>by cases h
 | .bool _::_,_,h=>by cases h
 | .str _::_,_,h=>by cases h
 | .list _::_,_,h=>by cases h
 | .tuple _::_,_,h=>by cases h
 | .dict _::_,_,h=>by cases h
@[simp] theorem Zgk:∀ns:List Int,Zgq (ns.map Xw)=YB ns
 | []=>rfl
 | n::ns=>by rw[X4,Zgq,Zgk ns];rfl
section
variable {X:Cx}{io:List Nat}{p c:Bool}{e tg:YJ}{es:List YJ}{st:YK}{fa fb fc:FE}{ra:FA}{i:Nat}
def Ygx(a:FA):FE:=λδ=>(a δ).bind λp=>match OT.datas p.1 with|[.int j]=>if rOk j=YD/\j.toNat<=XC then YB (.nd ((Ze5 0 j.toNat).map OT.fz),p.2)else YC|_=>YC
def Z46(a b:FE):FE:=λδ=>(a δ).bind λp=>(b p.2).bind λq=>match q.1.data with| .int k=>if rOk k=YD/\k.toNat<=XC then YB (.nd (Qi k.toNat (.fz p.1.data)),p.2)else YC|_=>YC
theorem Yak(h:ME X io p c e (Ygu (o2 fa) (o2 fb))):ME X io p c e (o2 (Z46 fa fb)):=h.weak λδ K h=>by
 obtain⟨r,δ',h,k⟩:=h;obtain⟨⟨x,δ1⟩,h1,h⟩:=bs h;obtain⟨⟨y,δ2⟩,h2,h⟩:=bs h;refine⟨x,δ1,h1,y,δ2,h2,?_⟩
 try dsimp only at h|-
 split at h
 case h_2=>cases h
 rename_i q
 (try rw[q])
 split at h
 case isFalse=>cases h
 rename_i b;cases h;have z:=Zd1 b.1;exact⟨⟨by omega,by omega,b.2⟩,k⟩
def Z4y(i:Nat)(a:FE):FE:=λδ=>match δ[i]? with
 | some (YB (.nd _))=>(a δ).bind λp=>match p.2[i]? with
  | some (YB (.nd ts))=>match p.1.data with
   | .int j=>match ixN ts.length j with
    | some k=>match ts[k]? with
     | some (.fz d)=>if ts.length<=XC then YB (.fz d,p.2.set i (YB (.nd (ts.eraseIdx k))))else YC
     | _=>YC
    | none=>YC
   | _=>YC
  | _=>YC
 | _=>YC
theorem Z9g(h:ME X io p c e (Ybm i (o2 fa))):ME X io p c e (o2 (Z4y i fa)):=h.weak λδ K h=>by
 obtain⟨r,δ',h,k⟩:=h;unfold Z4y at h;unfold Ybm;split at h
 case h_2=>cases h
 rename_i q;(try rw[q]);obtain⟨⟨x,δ1⟩,h1,h⟩:=bs h;refine⟨x,δ1,h1,?_⟩
 try dsimp only at h|-
 split at h
 case h_2=>cases h
 rename_i q2;(try rw[q2])
 try dsimp only
 split at h
 case h_2=>cases h
 rename_i j q3;(try rw[q3]);show match ixN _ j with|some k=>_|none=>_
 split at h
 case h_2=>cases h
 rename_i q4;(try rw[q4]);(try dsimp only);split at h
 case h_2=>cases h
 rename_i q5;(try rw[q5]);split at h
 case isFalse=>cases h
 cases h;exact⟨‹_›,k⟩
end
variable {G:Xd}
section
variable {X:Cx}{io:List Nat}{p c:Bool}{e a b:YJ}{es:List YJ}{m ma mb:MEt}{mr:MAt}{pos apos cpos px py pt sp kp:Pos}{i j:Nat}{x y:Str}{fa fb:FE}{ra:FA}{st:YK}
def Z48(m:MAt):MEt:=λδ K=>m δ λrs δ'=>rs.length<=XC/\K (.tp rs) δ'
theorem Z6q{x1}(h:MA X io p c es mr):ME X io p c (.Tuple es x1 pos) (Z48 mr):=by
 obtain⟨tA,A,sa⟩:=h;refine⟨_,Zua A,λC H O δ fp ex K Q R h k=>?_⟩;refine sa C H O δ fp ex _ _ R h λH1 vs rs δ1 fp1 new1 r1 h1=>⟨by rw[r1.own.length];exact h1.1,λq hq=>?_⟩;have s:=Zv hq (.tup vs);have S:=r1.stp.trans (p':=YD) (Stp.same (p:=YD) (δ:=δ1) (fp:=fp1) s s.al);rw[Bool.and_true]at S;exact k _ _ _ δ1 fp1 new1 ⟨(r1.rel.made (new:=[]) s λa m=>nomatch m).drop λa z=>.inl z,S,.tp Zu (r1.own.same s),r1.nd,r1.fresh⟩ h1.2
def Zwc(a:FA):FE:=λδ=>(a δ).bind λp=>if p.1.length<=XC then YB (.tp p.1,p.2)else YC
theorem Z0r(h:ME X io p c e (Z48 (o2 ra))):ME X io p c e (o2 (Zwc ra)):=h.weak λδ K h=>by
 obtain⟨r,δ',h,k⟩:=h;obtain⟨⟨x,δ1⟩,h1,h⟩:=bs h;refine⟨x,δ1,h1,?_⟩;dsimp only at h;split at h
 .rename_i q;cases h;exact⟨q,k⟩
 .cases h
def Znu(i c:Nat)(m:MEt):MSt:=λD δ=>match δ[i]? with
 | some (YB (.tp ts))=>match ts[c]? with
  | some (.nd us)=>m δ λr _=>us.length<XC/\D.nx (δ.set i (YB (.tp (ts.set c (.nd (us++[.fz r.data]))))))
  | _=>False
 | _=>False
theorem Zxm(i c:Nat){kk:Nat}(he:ME X io YD YD e m)(hN:X.N[i]? =YB x:=by rfl)(hv:Vis X.env.scope x:=by first|exact QL rfl|exact Qt (QL rfl)|exact Qt (Qt rfl))(hd:(x==("__debug__" : Str))=YF:=by decide)
  (hcd:(x==("__classdict__" : Str))=YF:=by decide)
  (hbase:Ui (.Subscript (.Name x px) (.Constant (.int c) kk kp) sp) "append" X.env (eval (.Subscript (.Name x px) (.Constant (.int c) kk kp) sp) X.env)=eval (.Subscript (.Name x px) (.Constant (.int c) kk kp) sp) X.env:=by rfl)
  (hfew:((JF cpos (Xu [e] X.env)).all (λx=>!x.1)&&(backToKw cpos (U9 [] X.env)).all (λx=>x.1.isSome)
   &&decide ([e].length+([]:List Ua).length+(if([]:List Ua).isEmpty then 0 else 1)<30))=YD:=by rfl)
  (hline:(apos.endLine==cpos.line)=YD:=by rfl) (hs:Xu [e] X.env=(YF,eval e X.env)::Xu [] X.env:=by rfl) (hplain:(JF cpos (Xu [] X.env)).any (·.1)=YF:=by rfl)
  (hsw:VH (.Call (.Attribute (.Subscript (.Name x px) (.Constant (.int c) kk kp) sp) "append" apos) [e] [] cpos) YC pos.line X.env=pure YF:=by rfl) :
  MS X io (.Expr (.Call (.Attribute (.Subscript (.Name x px) (.Constant (.int c) kk kp) sp) "append" apos) [e] [] cpos) pos) (Znu i c m):=by
 obtain⟨_,A,s⟩:=he;refine⟨_,Zin (Zt0 Uw PySem.F.slot_list_append PySem.F.type_list_append Zc8 (Zu3 (Zln rfl) (pv i hN hv hd hcd) Zyk (λ_ _=>rfl)) (Zam A Zen hs) hbase hfew hline hs hplain) hsw,λC H O δ fp ex D D' R h E=>?_⟩;unfold Znu at h;split at h
 case h_2=>exact h.elim
 rename_i ts hi;split at h
 case h_2=>exact h.elim
 rename_i us hus;obtain⟨v0,hv0,ow⟩:=R.own i _ hi;generalize hfi:fp i=as at ow;cases ow with
 | tp hx o=>
  rename_i a' xs;obtain⟨xr,cr,hxr,orow,hsub⟩:=o.get hus;cases orow with
  | nd hb r0=>
   rename_i b' ws bs4;refine⟨_,hv0,.inr (.inl ⟨a',xs,c,V.ref b',rfl,rfl,.inl (.inl hx),?_,?_⟩)⟩
   .unfold atI ixN
    have hc:c<xs.length:=(Xk.mp hxr).1;rw[YM (by omega),YM (by omega)];simpa using hxr
   refine⟨.inl ⟨rfl,ws,.inl (.inl hb)⟩,?_⟩;refine s.pureAfter R h λH1 v r R1 s1 q h1=>?_;have hbm:b'∈fp i:=by rw[hfi];exact hsub.subset (.head _)
   have hLb:¬Lf C fp ex b':=λl=>l.1 ⟨i,hbm⟩;have q':=q.wide (L':=Lf C fp ex) λa l _=>l rfl;have o1:Owns X.K H1 (Lf C fp ex) xs ts as:=o.same s1;have nd1:as.Nodup:=hfi▸R.nd i;obtain⟨as',oo,ss,_⟩:=Owns.deep (ws':=ws++[v]) (us':=us++[.fz r.data]) (s1 _ _ hb) hLb (λcs hcs=>⟨cs,by have:=hcs.snoc (.fz q');simpa using this,List.Sublist.refl _⟩) o1 nd1 hxr hus;refine⟨b',ws,v,rfl,rfl,s1 _ _ hb,by rw[r0.length];exact h1.1,?_⟩;have sub:∀a,a∈as'->a∈fp i:=λa m=>by rw[hfi];exact ss.subset m
   have kpp:∀b o,H1 b=YB o->b≠b'->upd H1 b' (.lst (ws++[v])) b=YB o:=λb o e n=>by rw[Zq n];exact e
   have lw:∀a,Lf C fp ex a->upd H1 b' (.lst (ws++[v])) a≠YC->Lf C (fpu fp i as') (exu ex []) a:=λa l _=>⟨λz=>by
    rcases z.of_u with z|⟨j,_,z⟩
    .exact l.1 ⟨i,sub a z⟩
    .exact l.1 ⟨j,z⟩,λz=>l.2.1 (Ju.mp z),l.2.2⟩
   have hab:a'≠b':=λz=>by rw[z,hb]at hx;cases hx
   obtain⟨R4,S4⟩:=R1.change (new:=[]) (as':=as') (t':=.tp (ts.set c (.nd (us++[.fz r.data])))) (H':=upd H1 b' (.lst (ws++[v]))) hi hv0 (λb o e nb=>kpp b o e λz=>nb (by rw[z];exact hbm)) (λb e=>by
    by_cases q:b=b'
    .subst q;rw[Zu]at e;cases e
    .rwa[Zq q]at e) (.tp (by rw[Zq hab];exact s1 _ _ hx) (oo.wide lw)) (nd1.sublist ss) (λa m=>.inl (sub a m)) (λa m=>nomatch m)
   have k1:Kp H fp H1 fp:=⟨λb o e _=>s1 _ _ e,λz=>(nomatch z),λa z=>.inl z,s1.al⟩;exact E.nx _ O _ _ (R4.drop λa z=>.inl z) (k1.trans S4.kp) h1.2
def Zhd(i c:Nat)(e:FE):FS:=λδ=>match δ[i]? with
 | some (YB (.tp ts))=>match ts[c]? with
  | some (.nd us)=>wE e (λr _=>if us.length<XC then .nx (δ.set i (YB (.tp (ts.set c (.nd (us++[.fz r.data]))))))else .bad) δ
  | _=>.bad
 | _=>.bad
theorem Zvf{c:Nat}(h:MS X io st (Znu i c (o2 fa))):MS X io st (oS (Zhd i c fa)):=h.weak λD δ h=>by
 unfold oS Zhd at h;unfold Znu;split at h
 case h_2=>exact h.elim
 rename_i q;(try rw[q]);(try dsimp only);split at h
 case h_2=>exact h.elim
 rename_i q2;(try rw[q2]);(try dsimp only);exact(Zjb h).imp λr δ' z=>Zfj z
def Ygf(i j:Nat)(a:FA):FS:=λδ=>match a δ with
 | some (rs,δ1)=>match OT.datas rs with
  | [d,e]=>.nx ((δ1.set i (YB (.fz d))).set j (YB (.fz e)))
  | _=>.bad
 | none=>.bad
end
class NoStar (e:YJ):Prop where
 h:∀es env,Xu (e::es) env=(YF,eval e env)::Xu es env
instance nx_Name{p:Pos}:NoStar (.Name x p):=⟨λ_ _=>rfl⟩
instance nx_Constant{x k}{p:Pos}:NoStar (.Constant x k p):=⟨λ_ _=>rfl⟩
instance nx_BinOp{a o b}{p:Pos}:NoStar (.BinOp a o b p):=⟨λ_ _=>rfl⟩
instance nx_Compare{a o b}{p:Pos}:NoStar (.Compare a o b p):=⟨λ_ _=>rfl⟩
instance nx_Call{f a k}{p:Pos}:NoStar (.Call f a k p):=⟨λ_ _=>rfl⟩
instance nx_Tuple{a k}{p:Pos}:NoStar (.Tuple a k p):=⟨λ_ _=>rfl⟩
instance nx_Subscript{a b}{p:Pos}:NoStar (.Subscript a b p):=⟨λ_ _=>rfl⟩
instance nx_ListComp{a b s}{p:Pos}:NoStar (.ListComp a b s p):=⟨λ_ _=>rfl⟩
theorem Zh{p2:Bool}[NoStar e](ha:ME X io p c e (o2 fa))(hr:MA X io p' c' es (o2 ra))(hc:p'=YD\/c=YD:=by first|exact QL rfl|exact Qt rfl)(h2:(p&&p')=p2:=by rfl)(h3:(c&&c')=c2:=by rfl):MA X io p2 c2 (e::es) (o2 (Zd fa ra)) :=
 h2▸h3▸Z1p (Z4l ha hr hc (NoStar.h es X.env))
theorem Zkc{m:MEt}(h:ME X io p c e m)(h2:p=p':=by rfl)(h3:c=c':=by rfl):ME X io p' c' e m:=h2▸h3▸h
variable {G:Xd}
section
variable {X:Cx}{io:List Nat}{p c:Bool}{e a b:YJ}{es:List YJ}{m ma mb:MEt}{mr:MAt}{pos apos cpos px py pt sp kp:Pos}{i j:Nat}{x y:Str}{fa fb:FE}{ra:FA}{st:YK}{u:FS}
def insI(x:Int):List Int->List Int
 | []=>[x]
 | y::ys=>if x<=y then x::y::ys else y::insI x ys
def Zbk:List Int->List Int
 | []=>[]
 | x::xs=>insI x (Zbk xs)
theorem insI_perm(x:Int):∀l,(insI x l).Perm (x::l)
 | []=>.refl _
 | y::ys=>by
  unfold insI;split
  .exact .refl _
  .exact((insI_perm x ys).cons y).trans (.swap x y ys)
theorem Js:∀l,(Zbk l).Perm l
 | []=>.refl _
 | x::xs=>(insI_perm x _).trans ((Js xs).cons x)
theorem Zgf(x:Int):∀{l},l.Pairwise (·<=·)->(insI x l).Pairwise (·<=·)
 | [],_=>.cons (λ_ m=>nomatch m) .nil
 | y::ys,h=>by
  unfold insI;cases h with
  | cons h1 h2=>
   split
   .rename_i c
    refine .cons (λz m=>?_) (.cons h1 h2);rcases Xo.mp m with rfl|m
    .exact c
    .exact Int.le_trans c (h1 z m)
   .rename_i c
    refine .cons (λz m=>?_) (Zgf x h2);rcases Xo.mp ((insI_perm x ys).mem_iff.mp m)with rfl|m
    .omega
    .exact h1 z m
theorem W9:∀l,(Zbk l).Pairwise (·<=·)
 | []=>.nil
 | x::xs=>Zgf x (W9 xs)
theorem Jr:∀{l₁ l₂:List Int},l₁.Perm l₂->l₁.Pairwise (·<=·)->l₂.Pairwise (·<=·)->l₁=l₂
 | [],l₂,h,_,_=>h.nil_eq
 | a::l₁,[],h,_,_=>h.eq_nil
 | a::l₁,b::l₂,h,h1,h2=>by
  cases h1 with
  | cons p1 q1=>
   cases h2 with
   | cons p2 q2=>
    have e:a=b:=by
     have m1:a∈b::l₂:=h.mem_iff.mp (.head _);have m2:b∈a::l₁:=h.mem_iff.mpr (.head _);rcases Xo.mp m1 with e|m1
     .exact e
     .rcases Xo.mp m2 with e|m2
      .exact e.symm
      .have:=p2 a m1
       have:=p1 b m2;omega
    subst e;rw[Jr h.cons_inv q1 q2]
theorem Z45:∀{its:List Xe} {ns:List Int},Vk its ns->Vals (ns.map V.int) its
 | [],_,h=>by cases h;exact .nil
 | v::its,_,h=>by
  cases h with
  | cons n t h=>exact .cons ⟨_,rfl⟩ (Z45 h)
end
structure Gives(P:Qa)(w:Qo)(it:YG)(f:List YG)(St:YH->Prop)(x:Xe)(St':YH->Prop):Prop where
 mem:it∈f
 run:∀{A:Qv} {E:Xe->Xg->Prop} {s:Xg} {Q:Xe->Xg->Prop},St s.heap->(∀h',St' h'->Bb it s.heap h'->Q x { s with heap:=h' })->XJ (X8 P w) A (Q4 (.ref it)) Q E s
 keep:∀h h',(∀c∈f,∀o,h.get? c=YB o->h'.get? c=YB o)->St h->St h'
 keep':∀h h',(∀c∈f,∀o,h.get? c=YB o->h'.get? c=YB o)->St' h->St' h'
structure Zh1(P:Qa)(w:Qo)(it:YG)(f:List YG)(St:YH->Prop):Prop where
 mem:it∈f
 run:∀{A:Qv} {E:Xe->Xg->Prop} {s:Xg} {Q:Xe->Xg->Prop},A.handled=YC->St s.heap->(∀h' e,Heap.ExtBut it s.heap h'->(∃o,h'.get? e=YB o/\o.cls= .type "StopIteration")->E (.ref e) { s with heap:=h' })->XJ (X8 P w) A (Q4 (.ref it)) Q E s
 keep:∀h h',(∀c∈f,∀o,h.get? c=YB o->h'.get? c=YB o)->St h->St h'
structure ZA(z TI TO i1 i2:YG)(f1 f2:List YG):Prop where
 TIz:TI≠z
 TOz:TO≠z
 a1:∀c∈f1,c≠z/\c≠TO/\c≠i2
 a2:∀c∈f2,c≠z/\c≠TO/\c≠i1
section
variable {P:Qa}{w:Qo}{A:Qv}{E:Xe->Xg->Prop}{s:Xg}
theorem Zih{T:YG}{a b x:Xe}{k:Nat}{Q:Unit->Xg->Prop}(hT:Vr s.heap T a b)(h:∀h',h'.get? T=YB { cls:=.type "tuple",data:=.seq ((#[a,b]:Array Xe).setIfInBounds k x) }->Bb T s.heap h'->Q () { s with heap:=h' }) :
  XJ (X8 P w) A (updateSeq T (·.setIfInBounds k x)) Q E s:=wpAny_updateSeq_pair hT h
theorem Zro{z TI TO i1 i2:YG}{f1 f2:List YG}{S1 T1 S2 T2:YH->Prop}{x y a b:Xe}(D:ZA z TI TO i1 i2 f1 f2)(G1:Gives P w i1 f1 S1 x T1)(G2:Gives P w i2 f2 S2 y T2)
  (hz:IsZip s.heap z TI TO .none) (hTI:Vr s.heap TI (.ref i1) (.ref i2)) (hTO:Vr s.heap TO a b) (h1:S1 s.heap) (h2:S2 s.heap)
  (hQ:∀h',IsZip h' z TI TO (BP s.heap.objs.size)->Vr h' TO x y->T1 h'->T2 h'->Vr h' s.heap.objs.size x y ->
   (∀ c o,c∉[z,TO,i1,i2]->s.heap.get? c=YB o->h'.get? c=YB o)->Q (.ref s.heap.objs.size) { s with heap:=h' }) :
  XJ (X8 P w) A (By.«zip.__next__» ⟨[.ref z],[]⟩) (λfin s'=>∃v,fin= .done (.ret v)/\Q v s') E s:=by
 obtain⟨i1z,i1O,i12⟩:=D.a1 i1 G1.mem;obtain⟨i2z,i2O,i21⟩:=D.a2 i2 G2.mem;have r1:z∉f1/\TO∉f1/\i2∉f1:=⟨λm=>(D.a1 z m).1 rfl,λm=>(D.a1 TO m).2.1 rfl,λm=>(D.a1 i2 m).2.2 rfl⟩;have r2:z∉f2/\TO∉f2/\i1∉f2:=⟨λm=>(D.a2 z m).1 rfl,λm=>(D.a2 TO m).2.1 rfl,λm=>(D.a2 i1 m).2.2 rfl⟩;have st:∀{b:YG} {h h':YH} {f:List YG},Bb b h h'->b∉f->∀c∈f,∀o,h.get? c=YB o->h'.get? c=YB o:=λsb hb c hc o e=>sb.extBut _ _ (λq=>hb (q▸hc)) e;show XJ _ _ (field (.ref z) 2>>=_) _ _ _;refine Xb (Vs hz rfl (x:=.bool YF) rfl ?_);show XJ _ _ (field (.ref z) 3>>=_) _ _ _;refine Xb (Vs hz rfl (x:=.ref TI) rfl (Xb (Bk hTI rfl ?_)));show XJ _ _ (BX (.ref z)>>=_) _ _ _;refine Xb ?_;unfold BX;refine Xb (Vs hz rfl (x:=.none) rfl (Xl ?_));simp only[if_true];refine Xb (U4 (Xb (Vs hz rfl (x:=.ref TO) rfl (Xb (Q6 hz (by simp) λh3 z3 b3=>?_)))));replace z3:IsZip h3 z TI TO .ellipsis:=z3;refine Xb ?_;simp only[List.zipIdx_cons,List.zipIdx_nil,List.forIn_cons,List.forIn_nil];refine Xb (Xb (wpAny_onRaise ?_));show XJ _ _ (Q4 (.ref i1)>>=_) _ _ _;refine Xb (G1.run (s:={ s with heap:=h3 }) (G1.keep _ _ (st b3 r1.1) h1) λh4 k4 b4=>Xl ?_);have o4:Vr h4 TO a b:=b4.extBut _ _ i1O.symm (b3.extBut _ _ D.TOz hTO);refine Xb (Bk o4 rfl (Xb (Zih (s:={ s with heap:=h4 }) o4 λh5 o5 b5=>Xb (wpAny_letGo (Xl ?_)))));replace o5:Vr h5 TO x b:=o5;refine Xb (Xb (wpAny_onRaise ?_));show XJ _ _ (Q4 (.ref i2)>>=_) _ _ _;refine Xb (G2.run (s:={ s with heap:=h5 }) (G2.keep _ _ (st b5 r2.2.1) (G2.keep _ _ (st b4 r2.2.2) (G2.keep _ _ (st b3 r2.1) h2))) λh6 k6 b6=>Xl ?_);have o6:Vr h6 TO x b:=b6.extBut _ _ i2O.symm o5;refine Xb (Bk o6 rfl (Xb (Zih (s:={ s with heap:=h6 }) o6 λh7 o7 b7=>Xb (wpAny_letGo (Xl (Xl ?_))))));replace o7:Vr h7 TO x y:=o7;refine Xb (Bk o7 rfl (Xb (wpAny_newTuple ?_)));have sz:h7.objs.size=s.heap.objs.size:=by rw[b7.1,b6.1,b5.1,b4.1,b3.1]
 have z7:IsZip h7 z TI TO .ellipsis:=b7.extBut _ _ D.TOz.symm (b6.extBut _ _ i2z.symm (b5.extBut _ _ D.TOz.symm (b4.extBut _ _ i1z.symm z3)));have t1:T1 h7:=G1.keep' _ _ (st b7 r1.2.1) (G1.keep' _ _ (st b6 r1.2.2) (G1.keep' _ _ (st b5 r1.2.1) k4));have t2:T2 h7:=G2.keep' _ _ (st b7 r2.2.1) k6;have old:∀c o,c∉[z,TO,i1,i2]->s.heap.get? c=YB o->h7.get? c=YB o:=λc o n e=>by
  simp only[Xo,List.not_mem_nil,or_false,not_or]at n;exact b7.extBut _ _ n.2.1 (b6.extBut _ _ n.2.2.2 (b5.extBut _ _ n.2.1 (b4.extBut _ _ n.2.2.1 (b3.extBut _ _ n.1 e))))
 show XJ _ _ (Builtin.SmallTypes.ownedTupleHandOut (.ref z) (.ref h7.objs.size)>>=_) _ _ _;refine Xb ?_;unfold Builtin.SmallTypes.ownedTupleHandOut;have zp:IsZip (h7.push { cls:=.type "tuple",data:=.seq #[x,y] }) z TI TO .ellipsis:=Xf _ z7;refine Xb (Q6 zp (by simp) λh8 z8 b8=>?_);replace z8:IsZip h8 z TI TO (BP h7.objs.size):=z8;refine Q6 z8 (by simp) λh9 z9 b9=>?_;replace z9:IsZip h9 z TI TO (BP h7.objs.size):=z9;have up:∀c o,c≠z->h7.get? c=YB o->h9.get? c=YB o:=λc o n e=>b9.extBut _ _ n (b8.extBut _ _ n (Xf _ e));have nz:h7.objs.size≠z:=X6 (XN z7);have p9:Vr h9 h7.objs.size x y:=b9.extBut _ _ nz (b8.extBut _ _ nz (XF _ rfl));refine Xl ⟨_,rfl,?_⟩;show Q (.ref h7.objs.size) _;rw[sz]at z9 p9|-
 exact hQ h9 z9 (up _ _ D.TOz o7) (G1.keep' _ _ (λc hc o e=>up c o (λq=>r1.1 (q▸hc)) e) t1) (G2.keep' _ _ (λc hc o e=>up c o (λq=>r2.1 (q▸hc)) e) t2) p9 λc o n e=>up c o (λq=>n (by simp[q])) (old c o n e)
theorem Zw1{z TI TO i1 i2:YG}{f1 f2:List YG}{S1 T1 S2:YH->Prop}{a b:Xe}{Q:Fin->Xg->Prop}(hh:A.handled=YC)(D:ZA z TI TO i1 i2 f1 f2)(g1:Zh1 P w i1 f1 S1\/(∃x,Gives P w i1 f1 S1 x T1)/\Zh1 P w i2 f2 S2)
  (hz:IsZip s.heap z TI TO .none) (hTI:Vr s.heap TI (.ref i1) (.ref i2)) (hTO:Vr s.heap TO a b) (h1:S1 s.heap) (h2:S2 s.heap)
  (hE:∀h' e,(∀c o,c∉[z,TO,i1,i2]->s.heap.get? c=YB o->h'.get? c=YB o)->(∃o,h'.get? e=YB o/\o.cls= .type "StopIteration")->E (.ref e) { s with heap:=h' }) :
  XJ (X8 P w) A (By.«zip.__next__» ⟨[.ref z],[]⟩) Q E s:=by
 have r1:z∉f1/\TO∉f1/\i2∉f1:=⟨λm=>(D.a1 z m).1 rfl,λm=>(D.a1 TO m).2.1 rfl,λm=>(D.a1 i2 m).2.2 rfl⟩;have r2:z∉f2/\TO∉f2/\i1∉f2:=⟨λm=>(D.a2 z m).1 rfl,λm=>(D.a2 TO m).2.1 rfl,λm=>(D.a2 i1 m).2.2 rfl⟩;have st:∀{b:YG} {h h':YH} {f:List YG},Bb b h h'->b∉f->∀c∈f,∀o,h.get? c=YB o->h'.get? c=YB o:=λsb hb c hc o e=>sb.extBut _ _ (λq=>hb (q▸hc)) e;show XJ _ _ (field (.ref z) 2>>=_) _ _ _;refine Xb (Vs hz rfl (x:=.bool YF) rfl ?_);show XJ _ _ (field (.ref z) 3>>=_) _ _ _;refine Xb (Vs hz rfl (x:=.ref TI) rfl (Xb (Bk hTI rfl ?_)));show XJ _ _ (BX (.ref z)>>=_) _ _ _;refine Xb ?_;unfold BX;refine Xb (Vs hz rfl (x:=.none) rfl (Xl ?_));simp only[if_true];refine Xb (U4 (Xb (Vs hz rfl (x:=.ref TO) rfl (Xb (Q6 hz (by simp) λh3 z3 b3=>?_)))));replace z3:IsZip h3 z TI TO .ellipsis:=z3;refine Xb ?_;simp only[List.zipIdx_cons,List.zipIdx_nil,List.forIn_cons,List.forIn_nil];refine Xb (Xb (wpAny_onRaise ?_));show XJ _ _ (Q4 (.ref i1)>>=_) _ _ _;rcases g1 with G1|⟨⟨x,G1⟩,G2⟩
 .obtain⟨i1z,i1O,i12⟩:=D.a1 i1 G1.mem
  refine Xb (G1.run (s:={ s with heap:=h3 }) hh (G1.keep _ _ (st b3 r1.1) h1) λh4 e b4 he=>?_);obtain⟨oe,hoe,hce⟩:=he;have z4:IsZip h4 z TI TO .ellipsis:=b4 _ _ i1z.symm z3;have ez:e≠z:=λq=>by subst q;rw[z4]at hoe;cases hoe;simp at hce
  refine Q6 z4 (by simp) λh5 _ b5=>hE h5 e (λc o n q=>?_) ⟨oe,b5.extBut _ _ ez hoe,hce⟩;simp only[Xo,List.not_mem_nil,or_false,not_or]at n;exact b5.extBut _ _ n.1 (b4 _ _ n.2.2.1 (b3.extBut _ _ n.1 q))
 .obtain⟨i1z,i1O,i12⟩:=D.a1 i1 G1.mem
  obtain⟨i2z,i2O,i21⟩:=D.a2 i2 G2.mem;refine Xb (G1.run (s:={ s with heap:=h3 }) (G1.keep _ _ (st b3 r1.1) h1) λh4 k4 b4=>Xl ?_);have o4:Vr h4 TO a b:=b4.extBut _ _ i1O.symm (b3.extBut _ _ D.TOz hTO);refine Xb (Bk o4 rfl (Xb (Zih (s:={ s with heap:=h4 }) o4 λh5 o5 b5=>Xb (wpAny_letGo (Xl ?_)))));refine Xb (Xb (wpAny_onRaise ?_));show XJ _ _ (Q4 (.ref i2)>>=_) _ _ _;refine Xb (G2.run (s:={ s with heap:=h5 }) hh (G2.keep _ _ (st b5 r2.2.1) (G2.keep _ _ (st b4 r2.2.2) (G2.keep _ _ (st b3 r2.1) h2))) λh6 e b6 he=>?_);obtain⟨oe,hoe,hce⟩:=he;have z6:IsZip h6 z TI TO .ellipsis:=b6 _ _ i2z.symm (b5.extBut _ _ D.TOz.symm (b4.extBut _ _ i1z.symm z3));have ez:e≠z:=λq=>by subst q;rw[z6]at hoe;cases hoe;simp at hce
  refine Q6 z6 (by simp) λh7 _ b7=>hE h7 e (λc o n q=>?_) ⟨oe,b7.extBut _ _ ez hoe,hce⟩;simp only[Xo,List.not_mem_nil,or_false,not_or]at n;exact b7.extBut _ _ n.1 (b6 _ _ n.2.2.2 (b5.extBut _ _ n.2.1 (b4.extBut _ _ n.2.2.1 (b3.extBut _ _ n.1 q))))
theorem Zn7{z TI TO i1 i2:YG}{f1 f2:List YG}{S1 T1 S2 T2:YH->Prop}{x y a b:Xe}{Q:Option Xe->Xg->Prop}(D:ZA z TI TO i1 i2 f1 f2)(G1:Gives P w i1 f1 S1 x T1)(G2:Gives P w i2 f2 S2 y T2)
  (hz:IsZip s.heap z TI TO .none) (hTI:Vr s.heap TI (.ref i1) (.ref i2)) (hTO:Vr s.heap TO a b) (h1:S1 s.heap) (h2:S2 s.heap)
  (hQ:∀h',IsZip h' z TI TO (BP s.heap.objs.size)->Vr h' TO x y->T1 h'->T2 h'->Vr h' s.heap.objs.size x y ->
   (∀ c o,c∉[z,TO,i1,i2]->s.heap.get? c=YB o->h'.get? c=YB o)->Q (YB (.ref s.heap.objs.size)) { s with heap:=h' }):XJ (X8 P w) A (Ul (.ref z)) Q E s:=by
 have hT:s.TypeIs (.ref z) "zip" :=⟨_,hz,rfl⟩;unfold Ul;exact Xb (wpAny_attempt (JZ (name:=Us "__next__") hT F.slot_zip_next (JD F.slot_zip_next hT F.entry_zip_next (Zro D G1 G2 hz hTI hTO h1 h2 λh' a1 a2 a3 a4 a5 a6=>Xl (hQ h' a1 a2 a3 a4 a5 a6)) (F.args_zip_next_1 _))))
theorem Zra{z TI TO i1 i2:YG}{f1 f2:List YG}{S1 T1 S2:YH->Prop}{a b:Xe}{Q:Option Xe->Xg->Prop}(hh:A.handled=YC)(D:ZA z TI TO i1 i2 f1 f2)(g1:Zh1 P w i1 f1 S1\/(∃x,Gives P w i1 f1 S1 x T1)/\Zh1 P w i2 f2 S2)
  (hz:IsZip s.heap z TI TO .none) (hTI:Vr s.heap TI (.ref i1) (.ref i2)) (hTO:Vr s.heap TO a b) (h1:S1 s.heap) (h2:S2 s.heap)
  (hQ:∀h',(∀c o,c∉[z,TO,i1,i2]->s.heap.get? c=YB o->h'.get? c=YB o)->Q YC { s with heap:=h' }):XJ (X8 P w) A (Ul (.ref z)) Q E s:=by
 have hT:s.TypeIs (.ref z) "zip" :=⟨_,hz,rfl⟩;unfold Ul;refine Xb (wpAny_attempt (JZ (name:=Us "__next__") hT F.slot_zip_next (JD F.slot_zip_next hT F.entry_zip_next (Zw1 hh D g1 hz hTI hTO h1 h2 λh' e hk he=>?_) (F.args_zip_next_1 _))));obtain⟨o,ho,hc⟩:=he;exact Xb (wpAny_isInstance (T :="StopIteration") (b:=YD) ⟨o,ho,hc⟩ isSubtype_stop (Xl (hQ _ hk)))
theorem Zsv{it t:YG}{items:Array Xe}{x:Xe}(hx:items[i]? =YB x):Gives P w it [it,t] (λh=>IsTupIter h it t i/\IsTup h t items) x (λh=>IsTupIter h it t (i+1)) where
 mem:=by simp
 run:=fun{A E s Q} ⟨hit,ht⟩ hQ=>by
  obtain⟨o,ho,hc,hd⟩:=id hit;obtain⟨ol,hol,_,nl,hdl⟩:=ht;unfold Q4;refine Xb (JZ (name:=Us "__next__") hit.typeIs slot_tupleiter_next (JD slot_tupleiter_next hit.typeIs entry_tupleiter_next ?_ (args_tupleiter_next _)));show XJ _ _ (field (.ref it) 0>>=_) _ _ s;refine Xb (Vs ho hd (x:=.ref t) rfl ?_);show XJ _ _ (if(Xz t==QJ)=YD then _ else _) _ _ s;rw[YQ (show¬((Xz t==QJ)=YD)from Xx)];show XJ _ _ (field (.ref it) 1>>=_) _ _ s;refine Xb (Vs ho hd (x:=.int i 0) rfl ?_);show XJ _ _ (seqItems? (.ref t)>>=_) _ _ s;refine Xb (Bk hol hdl ?_);simp only[Bg,hx];refine Xb (wpAny_setField ho hd (by simp) (Xl ⟨x,rfl,Xl (hQ _ ?_ (QF ..))⟩));exact⟨_,Heap.get?_update_self _ ho (Obj.isFreed_of_fields (Obj.data_mapFields hd _)),(Obj.cls_mapFields ..).trans hc,by rw[Obj.data_mapFields hd];simp[BP]⟩
 keep:=λh h' k ⟨⟨o,a1,a2⟩,⟨o',b1,b2⟩⟩=>⟨⟨o,k it (by simp) o a1,a2⟩,⟨o',k t (by simp) o' b1,b2⟩⟩
 keep':=λh h' k ⟨o,a1,a2⟩=>⟨o,k it (by simp) o a1,a2⟩
theorem Zw3{it t:YG}{items:Array Xe}(hx:items[i]? =YC):Zh1 P w it [it,t] (λh=>IsTupIter h it t i/\IsTup h t items) where
 mem:=by simp
 run:=fun{A E s Q} hh ⟨hit,ht⟩ hE=>by
  obtain⟨o,ho,hc,hd⟩:=id hit;obtain⟨ol,hol,_,nl,hdl⟩:=ht;unfold Q4;refine Xb (JZ (name:=Us "__next__") hit.typeIs slot_tupleiter_next (JD slot_tupleiter_next hit.typeIs entry_tupleiter_next ?_ (args_tupleiter_next _)));show XJ _ _ (field (.ref it) 0>>=_) _ _ s;refine Xb (Vs ho hd (x:=.ref t) rfl ?_);show XJ _ _ (if(Xz t==QJ)=YD then _ else _) _ _ s;rw[YQ (show¬((Xz t==QJ)=YD)from Xx)];show XJ _ _ (field (.ref it) 1>>=_) _ _ s;refine Xb (Vs ho hd (x:=.int i 0) rfl ?_);show XJ _ _ (seqItems? (.ref t)>>=_) _ _ s;refine Xb (Bk hol hdl ?_);simp only[Bg,hx];refine Xb (U4 (Xb (wpAny_setField ho hd (by simp) ?_)));show XJ _ _ (newExc (.type "StopIteration") []>>=_) _ _ _;refine Xb ?_;simp only[newExc,newTuple];refine Xb (JW ?_ (by size_fits));refine Xb (m:=firstArgMember _ _) (wpAny_of_eq (a:=QJ) (by first|rfl|(simp only[firstArgMember];rfl)) ?_);refine JW ?_ (by size_fits);simp only[raiseNew];refine Xb (wpAny_handled ?_)
  first|rw[show A.in1.handled=YC from hh]|rw[hh]
  exact Xb (Xl (wpAny_throw (hE _ _ (((QF ..).extBut.push _).push _) ⟨_,XF _ rfl,rfl⟩)))
 keep:=λh h' k ⟨⟨o,a1,a2⟩,⟨o',b1,b2⟩⟩=>⟨⟨o,k it (by simp) o a1,a2⟩,⟨o',k t (by simp) o' b1,b2⟩⟩
end
abbrev zT1(h:YH)(a:YG):YH:=h.push { cls:=.type "tuple_iterator",data:=.fields #[.ref a,.int 0 0] }
abbrev zT2(h:YH)(a b:YG):YH:=(zT1 h a).push { cls:=.type "tuple_iterator",data:=.fields #[.ref b,.int 0 0] }
abbrev zT3(h:YH)(a b:YG):YH:=(zT2 h a b).push { cls:=.type "tuple",data:=.seq #[.ref h.objs.size,.ref (zT1 h a).objs.size] }
abbrev zT4(h:YH)(a b:YG):YH:=(zT3 h a b).push { cls:=.type "tuple",data:=.seq #[.none,.none] }
abbrev zT5(h:YH)(a b:YG):YH:=(zT4 h a b).push { cls:=.type "zip",data:=.fields #[.none,.bool YF,.bool YF,.ref (zT2 h a b).objs.size,.ref (zT3 h a b).objs.size] }
theorem Zwo(a b:YG)(xs ys:Array Xe) :
  Meets (By.«zip.__new__» ⟨[.type "zip",.ref a,.ref b],[]⟩) (λ_ R s=>IsTup s.heap a xs/\IsTup s.heap b ys/\R (.ok (.ret (.ref (zT4 s.heap a b).objs.size))) { s with heap:=zT5 s.heap a b }) :=
 .of_wp λprog w A R s h=>by
  obtain⟨hp,g,d,tk,os⟩:=s;obtain⟨h1,h2,h⟩:=h;have hsub:=sub_zip;have hL1:IsTup (Xg.heap ⟨hp,g,d,tk,os⟩) a xs:=h1;have hL2:IsTup (Xg.heap ⟨hp.push { cls:=.type "tuple_iterator",data:=.fields #[.ref a,.int 0 0] },g,d,tk,os⟩) b ys:=h2.push _
  wp_walk using iter_tuple hL1,iter_tuple hL2
  exact⟨_,rfl,h⟩
section
variable {P:Qa}{w:Qo}{A:Qv}{E:Xe->Xg->Prop}{s:Xg}
theorem Zuo{b:YG}{xs ys:Array Xe}(h1:IsTup s.heap a xs)(h2:IsTup s.heap b ys)
  (h:∀h' n,n=s.heap.objs.size->IsZip h' (n+4) (n+2) (n+3) .none->Vr h' (n+2) (.ref n) (.ref (n+1))->Vr h' (n+3) .none .none->IsTupIter h' n a 0->IsTupIter h' (n+1) b 0 ->
   (∀ c o,s.heap.get? c=YB o->h'.get? c=YB o)->Q (.ref (n+4)) { s with heap:=h' }):XJ (X8 P w) A (call (.type "zip") [.ref a,.ref b]) Q E s:=by
 refine callType_new F.called_zip (by decide) (F.typeCall_zip_2 _ _) (F.newCall_zip_2 _ _) (λobj=>F.args_object_init_3 obj _ _) F.entry_zip_new (Zwo a b xs ys) ⟨h1,h2,?_⟩;have e1:(zT1 s.heap a).objs.size=s.heap.objs.size+1:=Qz ..;have e2:(zT2 s.heap a b).objs.size=s.heap.objs.size+2:=by rw[Qz,e1]
 have e3:(zT3 s.heap a b).objs.size=s.heap.objs.size+3:=by rw[Qz,e2]
 have e4:(zT4 s.heap a b).objs.size=s.heap.objs.size+4:=by rw[Qz,e3]
 have up:∀{c o},(zT1 s.heap a).get? c=YB o->(zT5 s.heap a b).get? c=YB o:=λx=>Xf _ (Xf _ (Xf _ (Xf _ x)));have p5:(zT5 s.heap a b).get? (zT4 s.heap a b).objs.size=YB _:=XF _ rfl;have p4:(zT5 s.heap a b).get? (zT3 s.heap a b).objs.size=YB _:=Xf _ (XF _ rfl);have p3:(zT5 s.heap a b).get? (zT2 s.heap a b).objs.size=YB _:=Xf _ (Xf _ (XF _ rfl));have p2:(zT5 s.heap a b).get? (zT1 s.heap a).objs.size=YB _:=Xf _ (Xf _ (Xf _ (XF _ rfl)));have p1:(zT5 s.heap a b).get? s.heap.objs.size=YB _:=up (XF _ rfl);show _/\_;rw[e2,e3,e4]at p5;rw[e1,e2]at p3;rw[e3]at p4;rw[e1]at p2;rw[e4];exact⟨⟨_,p5,rfl⟩,h _ _ rfl p5 p3 p4 ⟨_,p1,rfl,rfl⟩ ⟨_,p2,rfl,rfl⟩ λc o x=>up (Xf _ x)⟩
end
theorem nn{n a b:Nat}(h:a≠b):n+a≠n+b:=λe=>h (Nat.add_left_cancel e)
theorem n0{n b:Nat}(h:0≠b):n≠n+b:=λe=>h (Nat.add_left_cancel (n:=n) e)
theorem nlt{n a c:Nat}(h:a<n):a≠n+c:=Xp (Qm h (Vd ..))
theorem ZA.new{n a b:Nat}(h1:a<n)(h2:b<n):ZA (n+4) (n+2) (n+3) n (n+1) [n,a] [n+1,b] where
 TIz:=(by first|exact nn (by decide)|exact n0 (by decide)|exact(n0 (by decide)).symm|exact nlt h1|exact nlt h2|exact(nlt h1).symm|exact(nlt h2).symm|exact Xp h1|exact Xp h2|exact X6 h1|exact X6 h2|omega)
 TOz:=(by first|exact nn (by decide)|exact n0 (by decide)|exact(n0 (by decide)).symm|exact nlt h1|exact nlt h2|exact(nlt h1).symm|exact(nlt h2).symm|exact Xp h1|exact Xp h2|exact X6 h1|exact X6 h2|omega)
 a1:=λc hc=>by
  simp only[Xo,List.not_mem_nil,or_false]at hc;rcases hc with rfl|rfl
  .exact⟨(by first|exact nn (by decide)|exact n0 (by decide)|exact(n0 (by decide)).symm|exact nlt h1|exact nlt h2|exact(nlt h1).symm|exact(nlt h2).symm|exact Xp h1|exact Xp h2|exact X6 h1|exact X6 h2|omega),(by first|exact nn (by decide)|exact n0 (by decide)|exact(n0 (by decide)).symm|exact nlt h1|exact nlt h2|exact(nlt h1).symm|exact(nlt h2).symm|exact Xp h1|exact Xp h2|exact X6 h1|exact X6 h2|omega),(by first|exact nn (by decide)|exact n0 (by decide)|exact(n0 (by decide)).symm|exact nlt h1|exact nlt h2|exact(nlt h1).symm|exact(nlt h2).symm|exact Xp h1|exact Xp h2|exact X6 h1|exact X6 h2|omega)⟩
  .exact⟨(by first|exact nn (by decide)|exact n0 (by decide)|exact(n0 (by decide)).symm|exact nlt h1|exact nlt h2|exact(nlt h1).symm|exact(nlt h2).symm|exact Xp h1|exact Xp h2|exact X6 h1|exact X6 h2|omega),(by first|exact nn (by decide)|exact n0 (by decide)|exact(n0 (by decide)).symm|exact nlt h1|exact nlt h2|exact(nlt h1).symm|exact(nlt h2).symm|exact Xp h1|exact Xp h2|exact X6 h1|exact X6 h2|omega),(by first|exact nn (by decide)|exact n0 (by decide)|exact(n0 (by decide)).symm|exact nlt h1|exact nlt h2|exact(nlt h1).symm|exact(nlt h2).symm|exact Xp h1|exact Xp h2|exact X6 h1|exact X6 h2|omega)⟩
 a2:=λc hc=>by
  simp only[Xo,List.not_mem_nil,or_false]at hc;rcases hc with rfl|rfl
  .exact⟨(by first|exact nn (by decide)|exact n0 (by decide)|exact(n0 (by decide)).symm|exact nlt h1|exact nlt h2|exact(nlt h1).symm|exact(nlt h2).symm|exact Xp h1|exact Xp h2|exact X6 h1|exact X6 h2|omega),(by first|exact nn (by decide)|exact n0 (by decide)|exact(n0 (by decide)).symm|exact nlt h1|exact nlt h2|exact(nlt h1).symm|exact(nlt h2).symm|exact Xp h1|exact Xp h2|exact X6 h1|exact X6 h2|omega),(by first|exact nn (by decide)|exact n0 (by decide)|exact(n0 (by decide)).symm|exact nlt h1|exact nlt h2|exact(nlt h1).symm|exact(nlt h2).symm|exact Xp h1|exact Xp h2|exact X6 h1|exact X6 h2|omega)⟩
  .exact⟨(by first|exact nn (by decide)|exact n0 (by decide)|exact(n0 (by decide)).symm|exact nlt h1|exact nlt h2|exact(nlt h1).symm|exact(nlt h2).symm|exact Xp h1|exact Xp h2|exact X6 h1|exact X6 h2|omega),(by first|exact nn (by decide)|exact n0 (by decide)|exact(n0 (by decide)).symm|exact nlt h1|exact nlt h2|exact(nlt h1).symm|exact(nlt h2).symm|exact Xp h1|exact Xp h2|exact X6 h1|exact X6 h2|omega),(by first|exact nn (by decide)|exact n0 (by decide)|exact(n0 (by decide)).symm|exact nlt h1|exact nlt h2|exact(nlt h1).symm|exact(nlt h2).symm|exact Xp h1|exact Xp h2|exact X6 h1|exact X6 h2|omega)⟩
theorem ZA.new2(n:Nat):(n+2:Nat)≠n+3/\(n+2:Nat)≠n/\(n+2:Nat)≠n+1:=⟨nn (by decide),(n0 (by decide)).symm,nn (by decide)⟩
section
variable {X:Cx}{io:List Nat}{p c:Bool}{a b:YJ}{mr:MAt}
def Z7s(ds:List Xa):Option (List Xa):=match ds with|[.list as,.list bs]=>YB (Zot as bs)|[.tuple as,.tuple bs]=>YB (Zot as bs)|_=>YC
def Zsf(a:FA):FI:=λδ=>(a δ).bind λp=>(Z7s (OT.datas p.1)).bind λds=>YB (ds,p.2)
end
def Zej(xs:List α)(lo hi st:Option Int):List α :=
 (sliceRange (BZ lo hi st xs.length).1 (BZ lo hi st xs.length).2.1 (BZ lo hi st xs.length).2.2).filterMap (xs[·]?)
theorem Vals.places:∀{xs:List V} {its:List Xe},Vals xs its->∀js:List Nat,Vals (js.filterMap (xs[·]?)) (js.filterMap (its[·]?))
 | _,_,_,[]=>.nil
 | xs,its,h,j::js=>by
  have ih:=Vals.places h js;cases hn:xs[j]? with
  | some x=>
   obtain⟨u,hu,ru⟩:=h.get hn;simp only[QQ,hn,hu];exact .cons ru ih
  | none=>
   have hv:its[j]? =YC:=by
    rw[QD]at hn|-
    rw[<-h.length];exact hn
   simp only[QQ,hn,hv];exact ih
theorem Das.places(h:Das G H L xs ds):∀js:List Nat,Das G H L (js.filterMap (xs[·]?)) (js.filterMap (ds[·]?))
 | []=>.nil
 | j::js=>by
  have ih:=Das.places h js;cases hn:ds[j]? with
  | some x=>
   obtain⟨u,hu,ru⟩:=h.get hn;simp only[QQ,hn,hu];exact .cons ru ih
  | none=>
   have hv:xs[j]? =YC:=by
    rw[QD]at hn|-
    rw[h.length];exact hn
   simp only[QQ,hn,hv];exact ih
theorem Das.pick(h:Das G H L xs ds)(lo hi st:Option Int):Das G H L (Zej xs lo hi st) (Zej ds lo hi st):=by
 unfold Zej;rw[h.length];exact h.places _
theorem Vals.pick{its:List Xe}(h:Vals xs its)(lo hi st:Option Int):Vals (Zej xs lo hi st) (slicePick its.toArray lo hi st).toList:=by
 have e:(slicePick its.toArray lo hi st).toList=(sliceRange (BZ lo hi st xs.length).1 (BZ lo hi st xs.length).2.1 (BZ lo hi st xs.length).2.2).filterMap (its[·]?):=by
  simp[slicePick,h.length]
 rw[e];exact h.places _
theorem Zf8{its:List Xe}(h:Vals xs its)(lo hi st:Option Int):(Zej xs lo hi st).length<=xs.length:=by
 have e:=(h.pick lo hi st).length;have s:=slicePick_size_le its.toArray lo hi st;have l:=h.length;simp only[Xv,XQ]at e s;omega
section
variable {X:Cx}{e:YJ}{te:TE}{lo hi:Option YJ}{se:YJ}{tl th ts:TO}{pos p2:Pos}
def tSt(K:Xd)(te:TE)(tl th ts:TO):TE:=λO H Q=>te O H λx H1=>tl O H1 λl H2=>th O H2 λu H3=>ts O H3 λk H4=>∃a xs,x= .ref a/\SqL K H4 a xs/\k≠YB 0/\∀p,H4 p=YC->Q (.ref p) (upd H4 p (.lst (Zej xs l u k)))
theorem Z3q(he:PE X e te)(hl:PO X lo tl)(hu:PO X hi th)(hst:PO X (YB se) ts):PE X (.Subscript e (.Slice lo hi (YB se) p2) pos) (tSt X.K te tl th ts):=by
 intro pins s O H Q I h;refine Subscript_ (thn (he pins s O H _ I h) λv s1 qz9=>?_);obtain⟨x,H1,I1,r1,q1⟩:=qz9;refine wpAny_Slice (thn (hl pins s1 O H1 _ I1 q1) λvl s2 qz9=>?_);obtain⟨l,H2,I2,pl,q2⟩:=qz9;refine thn (hu pins s2 O H2 _ I2 q2) λvu s3 qz9=>?_;obtain⟨u,H3,I3,pu,q3⟩:=qz9;refine thn (hst pins s3 O H3 _ I3 q3) λvs s4 qz9=>?_;obtain⟨k,H4,I4,ps,q4⟩:=qz9;obtain⟨a,xs,rfl,hx,hk,q⟩:=q4;cases r1;have I5:Inv X pins O H4 { s4 with heap:=s4.heap.push { cls:=.type "slice",data:=.fields #[vl,vu,vs] } }:=I4.kept (t':=s4.toks) λb ob q=>Xf _ q;obtain⟨its,r,ht,hz⟩:=I5.list hx;have hlen:=r.length;show XJ (X8 X.prog X.w) X.A (subscriptTail e (.Slice lo hi (YB se) p2) (.ref a) (.ref s4.heap.objs.size)) (EP X pins O Q) X.xe { s4 with heap:=s4.heap.push { cls:=.type "slice",data:=.fields #[vl,vu,vs] } };refine tail_any (ops:=[.ref a,.ref s4.heap.objs.size]) ht.isList.typeIs slot_list_getitem.lookup ?_ (by with_unfolding_all rfl);refine wpAny_getItem_list_slice ht.isList (Heap.IsSliceOf.new ..) pl pu ps hk ?_ (by rw[XQ]<;>omega);refine⟨.ref _,_,I5.laid (t':=s4.toks) (o:=.lst (Zej xs l u k)) (λb ob q=>Xf _ q) (Xy _) ?_,rfl,q _ (I5.hok.fresh (Xy _))⟩;exact⟨QM (Zf8 r l u k) hz,_,0,r.pick l u k,XF _ rfl⟩
end
section
variable {X:Cx}{io:List Nat}{p c:Bool}{a e:YJ}{ma:MEt}{lo hi:Option YJ}{se:YJ}{ml mh ms:MOt}{pos p2:Pos}{fa:FE}
def Z8l(m:MEt)(ml mh ms:MOt):MEt:=λδ K=>m δ λr δ1=>ml δ1 λlo δ2=>mh δ2 λhi δ3=>ms δ3 λst δ4=>st≠YB 0/\asL r.data λds=>K (.nd ((Zej ds lo hi st).map OT.fz)) δ4
theorem Yar(ha:ME X io YD c a ma)(hl:MO X io YD lo ml)(hh:MO X io YD hi mh)(hs:MO X io YD (YB se) ms):ME X io YD c (.Subscript a (.Slice lo hi (YB se) p2) pos) (Z8l ma ml mh ms):=by
 obtain⟨_,A,s⟩:=ha;obtain⟨_,B,sl⟩:=hl;obtain⟨_,D,sh⟩:=hh;obtain⟨_,F,ss⟩:=hs;refine⟨_,Z3q A B D F,?_⟩;intro C H O δ fp ex K' Q R h k;refine s C H O δ fp ex _ _ R h λH1 v r δ1 fp1 new r1 h1=>?_;refine sl C H1 O δ1 fp1 ex _ _ r1.base h1 λH2 l δ2 fp2 R2 S2 h2=>?_;refine sh C H2 O δ2 fp2 ex _ _ R2 h2 λH3 u δ3 fp3 R3 S3 h3=>?_;refine ss C H3 O δ3 fp3 ex _ _ R3 h3 λH4 w δ4 fp4 R4 S4 h4=>?_;obtain⟨hw,h4⟩:=h4;have s2:Same H1 H2:=λb o e=>S2.keep b o e (.inl rfl);have s3:Same H2 H3:=λb o e=>S3.keep b o e (.inl rfl);have s4:Same H3 H4:=λb o e=>S4.keep b o e (.inl rfl);obtain⟨e3,e4⟩:=S2.env rfl;obtain⟨e5,e6⟩:=S3.env rfl;obtain⟨e7,e8⟩:=S4.env rfl;have q:=(((r1.da R).same s2).same s3).same s4;obtain⟨a',xs,ds,rfl,e,qs,h4⟩:=q.lstInv h4;refine⟨a',xs,rfl,e,hw,λp hp=>?_⟩;have S:=((r1.stp.trans S2).trans S3).trans S4;refine k _ _ _ δ4 fp4 [p] (RE.tree R R4 S (Zv hp _) (J1 hp) (Zbc p) (Own.list hp ((qs.pick l u w).wide λa l _=>?_))) h4;rw[e8,e6,e4];exact l
def stepOf(d:Xa)(lo hi st:Option Int):Option OT:=match d with| .list ds=>if st=YB 0 then YC else YB (.nd ((Zej ds lo hi st).map OT.fz))|_=>YC
def Ztm(e:FE)(lo hi st:FO):FE:=λδ=>(e δ).bind λp=>(lo p.2).bind λq=>(hi q.2).bind λr=>(st r.2).bind λt=>(stepOf p.1.data q.1 r.1 t.1).bind λo=>YB (o,t.2)
theorem Zzs{lo hi st:FO}(h:ME X io p c e (Z8l (o2 fa) (o2 lo) (o2 hi) (o2 st))):ME X io p c e (o2 (Ztm fa lo hi st)):=h.weak λδ K h=>by
 obtain⟨r,δ',h,k⟩:=h;obtain⟨⟨x,δ1⟩,h1,h⟩:=bs h;obtain⟨⟨y,δ2⟩,h2,h⟩:=bs h;obtain⟨⟨z,δ3⟩,h3,h⟩:=bs h;obtain⟨⟨t,δ4⟩,h4,h⟩:=bs h;obtain⟨o,h5,h⟩:=bs h;cases h;refine⟨x,δ1,h1,y,δ2,h2,z,δ3,h3,t,δ4,h4,?_⟩;unfold stepOf at h5;dsimp only at h5|-
 split at h5
 .rename_i q
  split at h5
  .cases h5
  .rename_i n
   cases h5;refine⟨n,?_⟩;rw[show x.data=_ from q];exact k
 .cases h5
end
theorem Zmx{f g:α->Option β}:∀{l:List α},(∀k∈l,f k=g k)->l.filterMap f=l.filterMap g
 | [],_=>rfl
 | a::l,h=>by
  rw[QQ,QQ,h a (by simp),Zmx λk hk=>h k (by simp[hk])]
theorem Zt7(xs:List α):Zej xs YC YC (YB (-1))=xs.reverse:=by
 unfold Zej sliceRange BZ;simp only[Option.getD_some];have d0:¬((-1:Int)>0):=by decide
 simp only[YQ d0];have hc:(if(xs.length:Int)-1> -1 then((xs.length:Int)-1- -1- -1-1)/(- -1)else 0)=(xs.length:Int):=by
  split
  .simp
  .omega
 rw[hc,List.filterMap_map,Bg];apply V9;intro i;have hf:List.filterMap ((λx=>xs[x]?)∘ λk:Nat=>((xs.length:Int)-1+ -1*(k:Int)).toNat) (Xj xs.length)=xs.reverse:=by
  have:∀k∈Xj xs.length,((λx=>xs[x]?)∘ λk:Nat=>((xs.length:Int)-1+ -1*(k:Int)).toNat) k=xs.reverse[k]?:=λk hk=>by
   have hk:=XH.mp hk;show xs[((xs.length:Int)-1+ -1*(k:Int)).toNat]? =_;rw[List.getElem?_reverse hk];congr 1;omega
  rw[Zmx this];have gen:∀(ys:List α) (m:Nat),m=ys.length->List.filterMap (λk=>ys[k]?) (Xj m)=ys:=by
   intro ys
   induction ys with
   | nil=>intro m hm;subst hm;rfl
   | cons y ys ih=>
    intro m hm;subst hm;rw[QC,List.range_succ_eq_map,QQ];simp only[List.getElem?_cons_zero,List.filterMap_map];exact YW _ (ih _ rfl)
  exact gen _ _ (by simp)
 rw[hf]
end L2
variable {z i1:YG}{items:Array Xe}{S1 T1:YH->Prop}{np kk:Nat}{td:TE}
namespace L2
open PySem PySem.Spec PyProof.Rows
section
variable {X:Cx}{io:List Nat}{c1 c2 c3 c4 p:Bool}{a b e d:YJ}{ma mb mc md:MEt}{pos:Pos}{f g h:Int->Int->Bool}{ta tb tc td:TE}{fa fb fc fd:FE}{G:Xd}
def Zrc(r r' r'':R2)(ta tb tc td:TE):TE:=λO H Q=>ta O H λx H1=>tb O H1 λy H2=>r x y H2 λz H3=>∃k,z= .bl k/\
 (if k=YD then tc O H3 λw H4=>r' y w H4 λz' H5=>∃k',z'= .bl k'/\(if k'=YD then td O H5 λu H6=>r'' w u H6 Q else Q (.bl YF) H5)else Q (.bl YF) H3)
theorem Zse{op'':CmpOp}{r r'':R2}(ho:OpR X (QH op) r)(ho':OpR X (QH op') r')(ho'':OpR X (QH op'') r'')(ha:PE X a ta)(hb:PE X b tb)(hc:PE X e tc)(hd:PE X d td)
  (hm:lastMarks [op,op',op''] [b,e,d]=YF:=by with_unfolding_all rfl):PT X (.Compare a [op,op',op''] [b,e,d] pos) (Zvd (Zrc r r' r'' ta tb tc td)):=by
 intro pins s O H Q I h;refine isTrue_chain (thn (ha pins s O H _ I h) λv s1 ⟨x,H1,I1,r1,q1⟩=>test_link (thn (hb pins s1 O H1 _ I1 q1) λu s2 ⟨y,H2,I2,r2,q2⟩=>
  thn (ho pins s2 O H2 x y v u _ I2 r1 r2 q2) λd s3 ⟨z,H3,I3,r3,k,e,q3⟩=>?_)) hm
 subst e;cases r3;refine JG ?_;cases k with
 | false=>
  obtain⟨k',e',q'⟩:=q3;cases e';exact ite_ff ⟨H3,I3,q'⟩
 | true=>
  refine ite_tt (test_link (thn (hc pins s3 O H3 _ I3 q3) λw' s4 qz9=>?_));obtain⟨z',H4,I4,r4,q4⟩:=qz9;refine thn (ho' pins s4 O H4 y z' u w' _ I4 r2 r4 q4) λd' s5 qz9=>?_;obtain⟨z2,H5,I5,r5,k2,e2,q5⟩:=qz9;subst e2;cases r5;refine JG ?_;cases k2 with
  | false=>
   obtain⟨k',e',q'⟩:=q5;cases e';exact ite_ff ⟨H5,I5,q'⟩
  | true=>
   refine ite_tt (test_last (thn (hd pins s5 O H5 _ I5 q5) λw2 s6 qz9=>?_));obtain⟨z6,H6,I6,r6,q6⟩:=qz9;refine thn (ho'' pins s6 O H6 z' z6 w' w2 _ I6 r4 r6 q6) λd3 s7 qz9=>?_;obtain⟨z7,H7,I7,r7,k7,e7,q7⟩:=qz9;subst e7;cases r7;exact JG ⟨H7,I7,q7⟩
def Zlb(f g h:Int->Int->Bool)(ma mb mc md:MEt):MEt:=λδ K=>ma δ λx δ1=>mb δ1 λy δ2=>asI x.data λi=>asI y.data λj=>if f i j=YD then mc δ2 λz δ3=>asI z.data λk=>(if g j k=YD then md δ3 λw δ4=>asI w.data λl=>K (.fz (.bool (h k l))) δ4 else K (.fz (.bool YF)) δ3)else K (.fz (.bool YF)) δ2
theorem Z3k(ha:SE G io YD c1 ta ma)(hb:SE G io YD c2 tb mb)(hc:SE G io YD c3 tc mc)(hd:SE G io YD c4 td md):SE G io YD YD (Zrc (rI0 λi j=>.bl (f i j)) (rI0 λi j=>.bl (g i j)) (rI0 λi j=>.bl (h i j)) ta tb tc td) (Zlb f g h ma mb mc md):=by
 intro C H O δ fp ex K Q R h k;refine ha.pureAfter R h λH1 x u R1 s1 q1 h1=>?_;refine hb.pureAfter R1 h1 λH2 y v R2 s2 q2 h2=>?_;obtain⟨i,rfl,h2⟩:=q1.intInv h2;obtain⟨j,rfl,h2⟩:=q2.intInv h2;refine⟨i,j,rfl,rfl,f i j,rfl,?_⟩
 by_cases hf:f i j=YD
 .rw[YM hf]at h2|-
  refine hc.pureAfter R2 h2 λH3 z w R3 s3 q3 h3=>?_;obtain⟨l,rfl,h3⟩:=q3.intInv h3;have s13:Same H H3:=(s1.trans s2).trans s3;refine⟨j,l,rfl,rfl,g j l,rfl,?_⟩
  by_cases hg:g j l=YD
  .rw[YM hg]at h3|-
   refine hd.pureAfter R3 h3 λH4 z4 w4 R4 s4 q4 h4=>?_;obtain⟨n,rfl,h4⟩:=q4.intInv h4;have s14:Same H H4:=s13.trans s4;exact⟨l,n,rfl,rfl,k H4 _ _ δ fp [] (.fz R4 (.same s14 s14.al) (.bl _)) h4⟩
  .rw[YQ hg]at h3|-
   exact k H3 _ _ δ fp [] (.fz R3 (.same s13 s13.al) (.bl _)) h3
 .rw[YQ hf]at h2|-
  have s12:Same H H2:=s1.trans s2;exact k H2 _ _ δ fp [] (.fz R2 (.same s12 s12.al) (.bl _)) h2
theorem Zuj{op'':CmpOp}(ho:OpR X (QH op) (rI0 λi j=>.bl (f i j)))(ho':OpR X (QH op') (rI0 λi j=>.bl (g i j)))(ho'':OpR X (QH op'') (rI0 λi j=>.bl (h i j)))(ha:ME X io YD c1 a ma)(hb:ME X io YD c2 b mb)(hc:ME X io YD c3 e mc)(hd:ME X io YD c4 d md)
  (hm:lastMarks [op,op',op''] [b,e,d]=YF:=by with_unfolding_all rfl):MT X io YD (.Compare a [op,op',op''] [b,e,d] pos) (λδ K=>Zlb f g h ma mb mc md δ (kB K)):=by
 obtain⟨_,A,sa⟩:=ha;obtain⟨_,B,sb⟩:=hb;obtain⟨_,D,sc⟩:=hc;obtain⟨_,F,sd⟩:=hd;exact⟨_,Zse ho ho' ho'' A B D F hm,Z14 (Z3k sa sb sc sd)⟩
def intOf(d:Xa):Option Int:=match d with| .int i=>YB i|_=>YC
theorem Zdh{d:Xa}{i:Int}(h:intOf d=YB i):d= .int i:=by
 unfold intOf at h;split at h
 .cases h;rfl
 .cases h
def Zgd(f g h:Int->Int->Bool)(a b c d:FE):FE:=λδ=>(a δ).bind λx=>(b x.2).bind λy=>(intOf x.1.data).bind λi=>(intOf y.1.data).bind λj=>
 if f i j=YD then(c y.2).bind λz=>(intOf z.1.data).bind λk=>if g j k=YD then(d z.2).bind λw=>(intOf w.1.data).bind λl=>YB (.fz (.bool (h k l)),w.2)else YB (.fz (.bool YF),z.2)else YB (.fz (.bool YF),y.2)
theorem Zp7{ee:YJ}(hh:MT X io p ee (λδ K=>Zlb f g h (o2 fa) (o2 fb) (o2 fc) (o2 fd) δ (kB K))):MT X io p ee (o2 (tV (Zgd f g h fa fb fc fd))):=hh.weak λδ K z=>by
 obtain⟨r,δ',h,k⟩:=Ydh z;obtain⟨⟨x,δ1⟩,h1,h⟩:=bs h;obtain⟨⟨y,δ2⟩,h2,h⟩:=bs h;obtain⟨i,hi,h⟩:=bs h;obtain⟨j,hj,h⟩:=bs h;refine⟨x,δ1,h1,y,δ2,h2,?_⟩;dsimp only at h hi hj|-
 rw[Zdh hi,Zdh hj];show(if f i j=YD then _ else _)
 by_cases hf:f i j=YD
 .rw[YM hf]at h|-
  obtain⟨⟨z,δ3⟩,h3,h⟩:=bs h;obtain⟨l,hl,h⟩:=bs h;refine⟨z,δ3,h3,?_⟩;dsimp only at h hl|-
  rw[Zdh hl];show(if g j l=YD then _ else _)
  by_cases hg:g j l=YD
  .rw[YM hg]at h|-
   obtain⟨⟨w,δ4⟩,h4,h⟩:=bs h;obtain⟨n,hn,h⟩:=bs h;cases h;refine⟨w,δ4,h4,?_⟩;dsimp only at hn|-
   rw[Zdh hn];exact k
  .rw[YQ hg]at h|-
   cases h;exact k
 .rw[YQ hf]at h|-
  cases h;exact k
end
variable {G:Xd}
section
variable {X:Cx}{io:List Nat}{p c:Bool}{a b e:YJ}{mr:MAt}{ra:FA}{i:Nat}
def isFn(y:Str)(d:Xa):Bool:=match d with| .dict [(.str x,.bool YD)]=>decide (x=y)|_=>YF
end
def Ygg(K:Xd)(l:YG):It :=
 ⟨λi H=>∃xs x,SqL K H l xs/\xs[i]? =YB x,
   λi H v H'=>∃p x,H p=YC/\v= .ref p/\H'=upd H p (.tup [.int i,x])/\∀xs,SqL K H l xs->xs[i]? =YB x,
   λi H=>∃xs,SqL K H l xs/\xs.length<=i⟩
def StE(z it l:YG)(i:Nat)(h:YH):Prop:=(∃old,IsEnum h z it (i:Int) old)/\h.IsListIter it l i
theorem Zre{it:YG}(hne:z≠it):Turn P w K (.Tuple es kk pos) (Ygg K l) [z,it] z (StE z it l) where
 mem:=.head _
 obj:=λi h st b hb=>by
  obtain⟨⟨old,s1⟩,o4,e4,_,d4⟩:=st;rcases Xo.mp hb with rfl|hb
  .exact⟨_,s1,λv q=>by cases q⟩
  .rcases Xq.mp hb with rfl
   exact⟨_,e4,λv q=>by rw[d4]at q;cases q⟩
 keep:=λi h h' st k=>by
  obtain⟨⟨old,s1⟩,s4⟩:=st;exact⟨⟨old,k z (.head _) _ s1⟩,s4.at λo e=>k it (.tail _ (.head _)) o e⟩
 item:=by
  intro X hP hw hK hc i pins s O H E I hf st hg;subst hP hw hK;obtain⟨⟨old,s1⟩,s4⟩:=st;obtain⟨xs,x,hx,ex⟩:=hg;obtain⟨its,rx,px,hzx⟩:=I.list hx;obtain⟨u,hu,ru⟩:=rx.get ex;refine wpAny_pyNext_enum_item s1 s4 px.isList (by simpa using hu) hne λh' g1 g2 g3 g4 g5=>?_;refine⟨_,rfl,wpAny_letOwnedTupleGo_enum (s:={ s with heap:=h',toks:=s.toks+1 }) g1 λh2 z2 sb=>?_⟩;have hTz:s.heap.objs.size≠z:=X6 (XN s1);have up:∀c o,c≠z->h'.get? c=YB o->h2.get? c=YB o:=λc o n e=>(sb.2 c n).trans e;have kp:∀b o,b∉[z,it]->s.heap.get? b=YB o->h2.get? b=YB o:=λb o n e=>by
   have n1:b≠z:=λq=>n (q▸ .head _);exact up b o n1 (g5 b o n1 (λq=>n (q▸ .tail _ (.head _))) e)
  have t5:=up _ _ hTz g3;have g2':h2.IsListIter it l (i+1):=g2.at λo e=>up _ o (Vu hne) e;have I2:Inv X pins O (upd H s.heap.objs.size (.tup [.int i,x])) { s with heap:=h2,toks:=s.toks+1 }:=by
   refine(I.tok (s.toks+1)).turnTup (ch:=[z,it]) (its:=[.int i s.toks,u]) (λb hb=>hf b hb) kp (λb hb=>?_) (Xy _) Zzg (.cons ⟨_,rfl⟩ (.cons ru .nil)) ⟨_,t5,rfl,0,rfl⟩;rcases Xo.mp hb with rfl|hb
   .exact⟨_,z2⟩
   .rcases Xq.mp hb with rfl
    obtain⟨o4,e4,_⟩:=g2';exact⟨_,e4⟩
  refine⟨.ref s.heap.objs.size,_,I2,rfl,⟨_,x,I.fresh,rfl,rfl,λys hy=>by rw[I.list_inj hy hx];exact ex⟩,⟨⟨_,z2⟩,g2'⟩,λb hb=>?_⟩;have:b≠s.heap.objs.size:=by
   rcases Xo.mp hb with rfl|hb
   .exact Xp (XN s1)
   .rcases Xq.mp hb with rfl
    obtain⟨o4,e4,_⟩:=s4;exact Xp (XN e4)
  rw[Zq this];exact(hf b hb).1
 done:=by
  intro X hP hw hK hc i pins s O H E I hf st hg;subst hP hw hK;obtain⟨⟨old,s1⟩,s4⟩:=st;obtain⟨xs,hx,he⟩:=hg;obtain⟨its,rx,px,hzx⟩:=I.list hx;have l1:=rx.length;refine wpAny_pyNext_enum_end (I.ok.hd hc) s1 s4 px.isList (by simp;omega) λh' k=>⟨rfl,I.turnAll (ch:=[it]) (λb hb=>hf b (.tail _ hb)) λb o n e=>k b o (λq=>n (q▸ .head _)) e⟩
 self:=λ_ _ _ _ _ st h=>by
  obtain⟨⟨old,s1⟩,_⟩:=st;exact wpAny_pyIter_enum s1 h
def Yho(K:Xd)(ta:TA):TI:=λO H R=>ta O H λvs H1=>∃l,vs=[.ref l]/\(∃xs,SqL K H1 l xs)/\R (Ygg K l) H1
theorem Z4n{a:YJ}{ta:TA}{p pt:Pos}(hK:X.K=K)(hg:Gl X "enumerate")(hm:X.mg "enumerate"=YC)(hv:Qe "enumerate"=YB (.type "enumerate"))(ha:PA X [a] ta)
  (he:Xu [a] X.env=(YF,eval a X.env)::Xu [] X.env:=by rfl) (hpl:(JF pos (Xu [] X.env)).any (·.1)=YF:=by rfl) :
  PI X (.Tuple es kk pt) (.Call (.Name "enumerate" p) [a] [] pos) (Yho K ta):=by
 subst hK;intro pins s O H R I h;refine Bp (Zbz I hg hm hv ?_ (by decide) (by decide));refine JP (thn (ha pos pins s O H _ I h) λus s1 q=>?_) he hpl;obtain⟨vs,H1,I1,r1,l,e1,⟨xs,hx⟩,q⟩:=q;subst e1;obtain⟨u,rfl,ru⟩:=vals1 r1;cases(show u=Xz l from ru);obtain⟨its,rx,px,hzx⟩:=I1.list hx;refine call_enumerate_list px.isList λh' g1 g2 g3 g4=>?_;have I2:Inv X pins O H1 { s1 with heap:=h' }:=I1.kept (t':=s1.toks) g4;refine wpAny_pyIter_enum (s:={ s1 with heap:=h' }) g1 ?_;refine⟨_,[_,_],StE _ _ _,_,H1,rfl,I2,Zre (X6 (QB _)),⟨⟨_,g1⟩,g2⟩,λb hb=>?_,q⟩;have hb':s1.heap.objs.size<=b:=by
  rcases Xo.mp hb with rfl|hb
  .exact UL _
  .rcases Xq.mp hb with rfl
   exact Xy _
 exact I1.fpOk hb' (I1.hok.fresh hb')
def Zi6(as:List Xa):List Xa:=as.zipIdx.map λp=>.tuple [.int p.2,p.1]
theorem Ztd{as:List Xa}{d:Xa}(h:(Zi6 as)[i]? =YB d):∃x,as[i]? =YB x/\d= .tuple [.int i,x]:=by
 unfold Zi6 at h;rw[Xi,List.getElem?_zipIdx]at h;cases e:as[i]? with
 | none=>rw[e]at h;cases h
 | some x=>
  rw[e]at h;cases h;exact⟨x,rfl,by rw[V1]⟩
theorem Zpn{as:List Xa}(h:(Zi6 as)[i]? =YC):as.length<=i:=by
 have:=QD.mp h;unfold Zi6 at this;simpa using this
section
variable {X:Cx}{io:List Nat}{p c:Bool}{a:YJ}{mr:MAt}{ra:FA}
def iEn(mr:MAt):MIt:=λδ K=>mr δ λrs δ'=>match OT.datas rs with|[.list as]=>K (Zi6 as) δ'|_=>False
theorem Z1x{p' pt:Pos}(hg:Gl X "enumerate")(hm:X.mg "enumerate"=YC)(hv:Qe "enumerate"=YB (.type "enumerate"))(ha:MA X io p c [a] mr)
  (he:Xu [a] X.env=(YF,eval a X.env)::Xu [] X.env:=by rfl) (hpl:(JF pos (Xu [] X.env)).any (·.1)=YF:=by rfl):MI X io p c (.Tuple es kk pt) (.Call (.Name "enumerate" p') [a] [] pos) (iEn mr):=by
 obtain⟨_,A,s⟩:=ha;refine⟨_,Z4n rfl hg hm hv A he hpl,λC H O δ fp ex K' Q R h kk=>s C H O δ fp ex _ _ R h λH1 vs rs δ1 fp1 new r1 h1=>?_⟩;have q:=r1.das R;generalize OT.datas rs=ds at q h1;split at h1
 case h_2=>exact h1.elim
 rename_i as;cases q with
 | cons q1 q2=>
  cases q2;have R1:=r1.base;obtain⟨l1,xs,rfl,k1⟩:=R1.keptList q1;have e1:=k1 H1 λ_ _ e _=>e;refine⟨l1,rfl,⟨_,e1.1⟩,kk _ H1 _ δ1 fp1 R1 r1.stp (λH' kp i=>?_) h1⟩;obtain⟨s1,d1⟩:=k1 H' kp;refine⟨λd hd=>?_,λhd=>?_⟩
  .obtain⟨x,hx,rfl⟩:=Ztd hd
   obtain⟨u,hu,qu⟩:=d1.get hx;refine⟨⟨_,u,s1,hu⟩,λv H'' hyl=>?_⟩;obtain⟨t,u',ht,rfl,rfl,hu'⟩:=hyl;have eu:=hu' _ s1;rw[hu]at eu;cases eu;exact⟨Zv ht _,.tup Zu (.cons (.int _) (.cons (qu.same (Zv ht _)) .nil))⟩
  .exact⟨_,s1,by rw[d1.length];exact Zpn hd⟩
def Ztu(a:FA):FI:=λδ=>(a δ).bind λp=>match OT.datas p.1 with|[.list as]=>YB (Zi6 as,p.2)|_=>YC
theorem Z0l(h:MI X io p c tg e (iEn (o2 ra))):MI X io p c tg e (o2 (Ztu ra)):=h.weak λδ K h=>by
 obtain⟨r,δ',h,k⟩:=h;obtain⟨⟨x,δ1⟩,h1,h⟩:=bs h;dsimp only at h;split at h
 .rename_i q
  injection h with h;injection h with e1 e2;subst e1 e2;refine⟨x,_,h1,?_⟩;dsimp only;rw[q];exact k
 .cases h
end
variable {G:Xd}
theorem Z6u{p:α->Prop}{a b c d:α}(h1:p a)(h2:p b)(h3:p c)(h4:p d):∀x∈[a,b,c,d],p x:=by
 intro x hx;rcases Xo.mp hx with rfl|hx
 .exact h1
 rcases Xo.mp hx with rfl|hx
 .exact h2
 rcases Xo.mp hx with rfl|hx
 .exact h3
 rcases Xq.mp hx with rfl;exact h4
theorem Yd3{p:α->Prop}{a b c d e:α}(h1:p a)(h2:p b)(h3:p c)(h4:p d)(h5:p e):∀x∈[a,b,c,d,e],p x:=λx hx=>(Xo.mp hx).elim (λq=>q▸h1) (Z6u h2 h3 h4 h5 x)
theorem no4{a b c d x:α}(h1:x≠a)(h2:x≠b)(h3:x≠c)(h4:x≠d):x∉[a,b,c,d]:=λhx=>Z6u (p:=λy=>x≠y) h1 h2 h3 h4 x hx rfl
def SqB(K:Xd)(t:Bool)(H:Hp)(a:YG)(xs:List V):Prop:=match t with|true=>H a=YB (.tup xs)|false=>SqL K H a xs
def IsB(t:Bool)(h:YH)(a:YG)(its:Array Xe):Prop:=match t with|true=>IsTup h a its|false=>h.IsList a its
def ItB(t:Bool)(h:YH)(it a:YG)(i:Nat):Prop:=match t with|true=>IsTupIter h it a i|false=>h.IsListIter it a i
theorem ItB.at{t:Bool}{h h':YH}{it a:YG}{i:Nat}(x:ItB t h it a i)(k:∀o,h.get? it=YB o->h'.get? it=YB o):ItB t h' it a i:=by
 cases t with
 | false=>exact Heap.IsListIter.at x k
 | true=>
  obtain⟨o,ho,r⟩:=x;exact⟨o,k o ho,r⟩
theorem ItB.obj{t:Bool}{it:YG}(x:ItB t h it a i):∃o,h.get? it=YB o/\∀v,o.data≠ .cell v:=by
 cases t with
 | false=>
  obtain⟨o,ho,_,d⟩:=x;exact⟨o,ho,λv q=>by rw[d]at q;cases q⟩
 | true=>
  obtain⟨o,ho,_,d⟩:=x;exact⟨o,ho,λv q=>by rw[d]at q;cases q⟩
theorem IsB.lt{t:Bool}{its:Array Xe}(x:IsB t h a its):a<h.objs.size:=by
 cases t with
 | false=>
  obtain⟨o,ho,_⟩:=x;exact XN ho
 | true=>
  obtain⟨o,ho,_⟩:=x;exact XN ho
theorem SqB.its{O:St}{t:Bool}(I:Inv X pins O H s)(h:SqB X.K t H a xs):∃its:List Xe,Vals xs its/\IsB t s.heap a its.toArray:=by
 cases t with
 | false=>
  obtain⟨its,r,p,_⟩:=I.list h;exact⟨its,r,p.isList⟩
 | true=>
  obtain⟨_,its,r,p⟩:=(show ObjOk X.prog X.w H s.heap a (.tup xs)from I.hok a _ h);exact⟨its,r,p⟩
theorem SqB.inj{O:St}{t:Bool}(I:Inv X pins O H s)(h:SqB X.K t H a xs)(k:SqB X.K t H a ys):xs=ys:=by
 cases t with
 | false=>exact I.list_inj h k
 | true=>
  have:=(show H a=YB (.tup xs)from h).symm.trans k;cases this;rfl
section
variable {P:Qa}{w:Qo}
theorem Zt4{t:Bool}{it:YG}{x:Xe}(hx:items[i]? =YB x):Gives P w it [it,a] (λh=>ItB t h it a i/\IsB t h a items) x (λh=>ItB t h it a (i+1)):=by
 cases t with
 | true=>exact Zsv hx
 | false=>
  exact⟨.head _,λst hQ=>wpAny_nextOf_list_item st.1 st.2 hx hQ,λh h' k st=>⟨Heap.IsListIter.at st.1 λo e=>k it (.head _) o e,by
   obtain⟨o,ho,r⟩:=st.2;exact⟨o,k a (.tail _ (.head _)) o ho,r⟩⟩,λh h' k st=>Heap.IsListIter.at st λo e=>k it (.head _) o e⟩
theorem Yam{t:Bool}{it:YG}(hx:items[i]? =YC):Zh1 P w it [it,a] (λh=>ItB t h it a i/\IsB t h a items):=by
 cases t with
 | true=>exact Zw3 hx
 | false=>
  exact⟨.head _,λhh st hE=>wpAny_nextOf_list_end hh st.1 st.2 hx hE,λh h' k st=>⟨Heap.IsListIter.at st.1 λo e=>k it (.head _) o e,by
   obtain⟨o,ho,r⟩:=st.2;exact⟨o,k a (.tail _ (.head _)) o ho,r⟩⟩⟩
end
def Ye8(K:Xd)(t:Bool)(a b:YG):It :=
 ⟨λi H=>∃xs ys x y,SqB K t H a xs/\SqB K t H b ys/\xs[i]? =YB x/\ys[i]? =YB y,
   λi H v H'=>∃p x y,H p=YC/\v= .ref p/\H'=upd H p (.tup [x,y])/\(∀xs,SqB K t H a xs->xs[i]? =YB x)/\∀ys,SqB K t H b ys->ys[i]? =YB y,
   λi H=>∃xs ys,SqB K t H a xs/\SqB K t H b ys/\(xs.length<=i\/ys.length<=i)⟩
def Yf9(t:Bool)(z TI TO i1 i2 a b:YG)(i:Nat)(h:YH):Prop:=IsZip h z TI TO .none/\Vr h TI (.ref i1) (.ref i2)/\(∃x y,Vr h TO x y)/\ItB t h i1 a i/\ItB t h i2 b i
theorem Zp6{t:Bool}{TI TO i2 b:YG}(D:ZA z TI TO i1 i2 [i1,a] [i2,b])(D2:TI≠TO/\TI≠i1/\TI≠i2):Turn P w K (.Tuple es kk pos) (Ye8 K t a b) [z,TI,TO,i1,i2] z (Yf9 t z TI TO i1 i2 a b) where
 mem:=.head _
 obj:=λi h st=>by
  obtain⟨s1,s2,⟨x,y,s3⟩,s4,s5⟩:=st;exact Yd3 ⟨_,s1,λv q=>by cases q⟩ ⟨_,s2,λv q=>by cases q⟩ ⟨_,s3,λv q=>by cases q⟩ s4.obj s5.obj
 keep:=λi h h' st k=>by
  obtain⟨s1,s2,⟨x,y,s3⟩,s4,s5⟩:=st;have m2:TI∈[z,TI,TO,i1,i2]:=.tail _ (.head _);have m3:TO∈[z,TI,TO,i1,i2]:=.tail _ (.tail _ (.head _));have m4:i1∈[z,TI,TO,i1,i2]:=.tail _ (.tail _ (.tail _ (.head _)));have m5:i2∈[z,TI,TO,i1,i2]:=.tail _ (.tail _ (.tail _ (.tail _ (.head _))));exact⟨k z (.head _) _ s1,k TI m2 _ s2,⟨x,y,k TO m3 _ s3⟩,s4.at (k i1 m4),s5.at (k i2 m5)⟩
 item:=by
  intro X hP hw hK hc i pins s O H E I hf st hg;subst hP hw hK;obtain⟨s1,s2,⟨x0,y0,s3⟩,s4,s5⟩:=st;obtain⟨xs,ys,x,y,hx,hy,ex,ey⟩:=hg;obtain⟨its,rx,px⟩:=hx.its I;obtain⟨its',ry,py⟩:=hy.its I;obtain⟨u,hu,ru⟩:=rx.get ex;obtain⟨u',hu',ru'⟩:=ry.get ey;rw[<-V6]at hu hu';refine Zn7 D (Zt4 hu) (Zt4 hu') s1 s2 s3 ⟨s4,px⟩ ⟨s5,py⟩ λh' g1 g2 g3 g4 g5 g6=>?_;refine⟨_,rfl,wpAny_letOwnedTupleGo_zip (s:={ s with heap:=h' }) g1 λh2 z2 sb=>?_⟩;have up:∀c o,c≠z->h'.get? c=YB o->h2.get? c=YB o:=λc o n e=>(sb.2 c n).trans e;have kp:∀c o,c∉[z,TO,i1,i2]->s.heap.get? c=YB o->h2.get? c=YB o:=λc o n e=>up c o (λq=>n (q▸ .head _)) (g6 c o n e);have t5:Vr h2 s.heap.objs.size u u':=up _ _ (X6 (XN s1)) g5;have i1z:=(D.a1 i1 (.head _)).1;have i2z:=(D.a2 i2 (.head _)).1;have n3:=g3.at (up i1 · i1z);have n4:=g4.at (up i2 · i2z);obtain⟨f1,f2,f3,f4,f5⟩:(Zii X pins H z/\Zii X pins H TI/\Zii X pins H TO/\Zii X pins H i1/\Zii X pins H i2):=⟨hf _ (.head _),hf _ (.tail _ (.head _)),hf _ (.tail _ (.tail _ (.head _))),hf _ (.tail _ (.tail _ (.tail _ (.head _)))),hf _ (.tail _ (.tail _ (.tail _ (.tail _ (.head _)))))⟩;have I2:Inv X pins O (upd H s.heap.objs.size (.tup [x,y])) { s with heap:=h2 } :=
   I.turnTup (ch:=[z,TO,i1,i2]) (its:=[u,u']) (Z6u f1 f3 f4 f5) kp (Z6u ⟨_,z2⟩ ⟨_,up _ _ D.TOz g2⟩ (n3.obj.imp λ_ q=>q.1) (n4.obj.imp λ_ q=>q.1)) (Xy _) Zzg (.cons ru (.cons ru' .nil)) ⟨_,t5,rfl,0,rfl⟩
  have lt:∀{c:YG} {o:Obj},s.heap.get? c=YB o->Zii X pins H c->upd H s.heap.objs.size (.tup [x,y]) c=YC:=λe f=>by rw[Zq (Xp (XN e))];exact f.1
  refine⟨.ref s.heap.objs.size,_,I2,rfl,⟨_,x,y,I.fresh,rfl,rfl,λzs hz=>by rw[hz.inj I hx];exact ex,λzs hz=>by rw[hz.inj I hy];exact ey⟩,⟨z2,kp TI _ (no4 D.TIz D2.1 D2.2.1 D2.2.2) s2,⟨_,_,up _ _ D.TOz g2⟩,n3,n4⟩,?_⟩;obtain⟨o4,e4,_⟩:=s4.obj;obtain⟨o5,e5,_⟩:=s5.obj;exact Yd3 (lt s1 f1) (lt s2 f2) (lt s3 f3) (lt e4 f4) (lt e5 f5)
 done:=by
  intro X hP hw hK hc i pins s O H E I hf st hg;subst hP hw hK;obtain⟨s1,s2,⟨x0,y0,s3⟩,s4,s5⟩:=st;obtain⟨xs,ys,hx,hy,he⟩:=hg;obtain⟨its,rx,px⟩:=hx.its I;obtain⟨its',ry,py⟩:=hy.its I;have l1:=rx.length;have l2:=ry.length;refine Zra (I.ok.hd hc) D (S1:=λh=>ItB t h i1 a i/\IsB t h a its.toArray) (T1:=λh=>ItB t h i1 a (i+1)) (S2:=λh=>ItB t h i2 b i/\IsB t h b its'.toArray) ?_ s1 s2 s3 ⟨s4,px⟩ ⟨s5,py⟩ λh' k=>⟨rfl,I.turnAll (ch:=[z,TO,i1,i2]) (Z6u (hf _ (.head _)) (hf _ (.tail _ (.tail _ (.head _)))) (hf _ (.tail _ (.tail _ (.tail _ (.head _))))) (hf _ (.tail _ (.tail _ (.tail _ (.tail _ (.head _))))))) k⟩;cases q:its.toArray[i]? with
  | none=>exact .inl (Yam q)
  | some v=>
   refine .inr ⟨⟨v,Zt4 q⟩,Yam ?_⟩;have:=(Array.getElem?_eq_some_iff.mp q).1;rw[XQ]at this;rw[Array.getElem?_eq_none_iff,XQ];omega
 self:=λ_ _ _ _ _ st h=>wpAny_pyIter_zip st.1 h
theorem Zti{t:Bool}{b:YG}{xs ys:Array Xe}(h1:IsB t s.heap a xs)(h2:IsB t s.heap b ys)
  (h:∀h' n,n=s.heap.objs.size->IsZip h' (n+4) (n+2) (n+3) .none->Vr h' (n+2) (.ref n) (.ref (n+1))->Vr h' (n+3) .none .none->ItB t h' n a 0->ItB t h' (n+1) b 0 ->
   (∀ c o,s.heap.get? c=YB o->h'.get? c=YB o)->Q (.ref (n+4)) { s with heap:=h' }):XJ (X8 P w) A (call (.type "zip") [.ref a,.ref b]) Q E s:=by
 cases t with
 | true=>exact Zuo h1 h2 h
 | false=>exact call_zip_2 h1 h2 λh' g1 g2 g3 g4 g5 _ g7=>h h' _ rfl g1 g2 g3 g4 g5 g7
def Yda(K:Xd)(ta:TA):TI:=λO H R=>ta O H λvs H1=>∃t a b,vs=[.ref a,.ref b]/\(∃xs,SqB K t H1 a xs)/\(∃ys,SqB K t H1 b ys)/\R (Ye8 K t a b) H1
theorem Z1q{a:YJ}{ta:TA}{p pt:Pos}(hK:X.K=K)(hg:Gl X "zip")(hm:X.mg "zip"=YC)(hv:Qe "zip"=YB (.type "zip"))(ha:PA X [a,b] ta)
  (he:Xu [a,b] X.env=(YF,eval a X.env)::Xu [b] X.env:=by rfl) (hpl:(JF pos (Xu [b] X.env)).any (·.1)=YF:=by rfl) :
  PI X (.Tuple es kk pt) (.Call (.Name "zip" p) [a,b] [] pos) (Yda K ta):=by
 subst hK;intro pins s O H R I h;refine Bp (Zbz I hg hm hv ?_ (by decide) (by decide));refine JP (thn (ha pos pins s O H _ I h) λus s1 q=>?_) he hpl;obtain⟨vs,H1,I1,r1,t,l1,l2,e1,⟨xs,hx⟩,⟨ys,hy⟩,q⟩:=q;subst e1;obtain⟨u,u',rfl,ru,ru'⟩:=vals2 r1;cases(show u=Xz l1 from ru);cases(show u'=Xz l2 from ru');obtain⟨its,rx,px⟩:=hx.its I1;obtain⟨its',ry,py⟩:=hy.its I1;refine Zti px py λh' n en g1 g2 g3 g4 g5 g7=>?_;have I2:Inv X pins O H1 { s1 with heap:=h' }:=I1.kept (t':=s1.toks) g7;refine wpAny_pyIter_zip (s:={ s1 with heap:=h' }) g1 ?_;refine⟨_,[_,_,_,_,_],Yf9 _ _ _ _ _ _ _ _,_,H1,rfl,I2,Zp6 (ZA.new (en▸px.lt) (en▸py.lt)) (ZA.new2 n),⟨g1,g2,⟨_,_,g3⟩,g4,g5⟩,?_,q⟩;subst en;have ok:∀k:Nat,Zii X pins H1 (s1.heap.objs.size+k):=λk=>I1.fpOk (Vd _ _) (I1.hok.fresh (Vd _ _));exact Yd3 (ok 4) (ok 2) (ok 3) (ok 0) (ok 1)
section
variable {X:Cx}{io:List Nat}{p c:Bool}{a b:YJ}{mr:MAt}{ra:FA}
def Ybn(t:Bool)(as:List Xa):Xa:=match t with|true=>.tuple as|false=>.list as
theorem Rel.keptSq{C:MC G}{H:Hp}{O:St}{δ:Zf}{fp:Fp}{ex:YG->Prop}{v:V}{t:Bool}{ds:List Xa}(R:Rel C io H O δ fp ex)(q:Da G H (λa=>c=YD->Lf C fp ex a) v (Ybn t ds)) :
  ∃a xs,v= .ref a/\∀H':Hp,(∀b o,H b=YB o->(c=YF\/¬Foot fp b)->H' b=YB o)->SqB G t H' a xs/\Das G H' (λa=>c=YD->(Lf C fp ex a/\H a≠YC)) xs ds:=by
 cases t with
 | false=>exact R.keptList q
 | true=>
  generalize hd:Ybn YD ds=d at q;cases q with
  | tup e r=>
   cases hd;rename_i a0 xs0;refine⟨a0,xs0,rfl,λH' kp=>?_⟩;obtain⟨f1,f2⟩:=R.kept kp;exact⟨f2 _ (.tup _) e,r.frame f1 f2⟩
  | _=>cases hd
theorem Zxk{es:List Xa}(h:Z7s ds=YB es):∃t as bs,ds=[Ybn t as,Ybn t bs]/\es=Zot as bs:=by
 unfold Z7s at h;split at h
 .cases h;exact⟨YF,_,_,rfl,rfl⟩
 .cases h;exact⟨YD,_,_,rfl,rfl⟩
 .cases h
def iZB(mr:MAt):MIt:=λδ K=>mr δ λrs δ'=>∃es,Z7s (OT.datas rs)=YB es/\K es δ'
theorem Z3w{p' pt:Pos}(hg:Gl X "zip")(hm:X.mg "zip"=YC)(hv:Qe "zip"=YB (.type "zip"))(ha:MA X io p c [a,b] mr)
  (he:Xu [a,b] X.env=(YF,eval a X.env)::Xu [b] X.env:=by rfl) (hpl:(JF pos (Xu [b] X.env)).any (·.1)=YF:=by rfl):MI X io p c (.Tuple es kk pt) (.Call (.Name "zip" p') [a,b] [] pos) (iZB mr):=by
 obtain⟨_,A,s⟩:=ha;refine⟨_,Z1q rfl hg hm hv A he hpl,λC H O δ fp ex K' Q R h kk=>s C H O δ fp ex _ _ R h λH1 vs rs δ1 fp1 new r1 h1=>?_⟩;have q:=r1.das R;obtain⟨es,hz,h1⟩:=h1;obtain⟨t,as,bs,e,rfl⟩:=Zxk hz;rw[e]at q;cases q with
 | cons q1 q2=>
  cases q2 with
  | cons q2 q3=>
   cases q3;have R1:=r1.base;obtain⟨l1,xs,rfl,k1⟩:=R1.keptSq q1;obtain⟨l2,ys,rfl,k2⟩:=R1.keptSq q2;refine⟨t,l1,l2,rfl,⟨_,(k1 H1 λ_ _ e _=>e).1⟩,⟨_,(k2 H1 λ_ _ e _=>e).1⟩,kk _ H1 _ δ1 fp1 R1 r1.stp (λH' kp i=>?_) h1⟩;obtain⟨s1,d1⟩:=k1 H' kp;obtain⟨s2,d2⟩:=k2 H' kp;refine⟨λd hd=>?_,λhd=>⟨_,_,s1,s2,by rw[d1.length,d2.length];exact Zq4 hd⟩⟩;obtain⟨x,y,hx,hy,rfl⟩:=Zno hd;obtain⟨u,hu,qu⟩:=d1.get hx;obtain⟨w,hw,qw⟩:=d2.get hy;refine⟨⟨_,_,u,w,s1,s2,hu,hw⟩,λv H'' hyl=>?_⟩;obtain⟨t',u',w',ht,rfl,rfl,hu',hw'⟩:=hyl;cases hu.symm.trans (hu' _ s1);cases hw.symm.trans (hw' _ s2);exact⟨Zv ht _,.tup Zu (.cons (qu.same (Zv ht _)) (.cons (qw.same (Zv ht _)) .nil))⟩
theorem Z4j(g:MI X io p c tg e (iZB (o2 ra))):MI X io p c tg e (o2 (Zsf ra)):=g.weak λδ K h=>by
 obtain⟨r,δ',h,k⟩:=h;obtain⟨⟨x,δ1⟩,h1,h⟩:=bs h;obtain⟨ds,h2,h⟩:=bs h;cases h;exact⟨x,_,h1,_,h2,k⟩
end
end L2
namespace L2
open PySem PySem.Spec PyProof.Rows PySem.W
def kEv(lt:Nat->Nat->Bool):KasT α->α
 | .ret a=>a
 | .ask i j k=>kEv lt (k (lt i j))
def kGood(n:Nat)(P:α->Prop):KasT α->Prop
 | .ret a=>P a
 | .ask i j k=>i<n/\j<n/\∀b,kGood n P (k b)
theorem kGood.bind{α β:Type}{n:Nat}{P:α->Prop}{R:β->Prop}{f:α->KasT β}(hf:∀a,P a->kGood n R (f a)){t:KasT α}(h:kGood n P t):kGood n R (t.bind f):=by
 induction t with
 | ret a=>exact hf a h
 | ask i j k ih=>exact⟨h.1,h.2.1,λb=>ih b (h.2.2 b)⟩
theorem kGood.ev{n:Nat}{P:α->Prop}{lt:Nat->Nat->Bool}{t:KasT α}(h:kGood n P t):P (kEv lt t):=by
 induction t with
 | ret a=>exact h
 | ask i j k ih=>exact ih _ (h.2.2 _)
theorem kGood.wp{n:Nat}{P:α->Prop}{lt:Nat->Nat->Bool}{cmp:Nat->Nat->(Bool->Xg->Prop)->Xg->Prop}{Q:α->Xg->Prop}(hc:∀i j C,i<n->j<n->C (lt i j) s->cmp i j C s){t:KasT α}(h:kGood n P t)(q:Q (kEv lt t) s):t.kasWp cmp Q s:=by
 induction t with
 | ret a=>exact q
 | ask i j k ih=>exact hc i j _ h.1 h.2.1 (ih _ (h.2.2 _) q)
def kP(n:Nat)(p:Array Nat):Prop:=p.toList.Perm (Xj n)
theorem kP.at{n:Nat}{p:Array Nat}(h:kP n p)(h0:0<n)(i:Nat):p.getD i 0<n:=by
 by_cases c:i<p.size
 .have e:p.getD i 0=p[i]:=by simp[Array.getD,c]
  rw[e];exact XH.mp (h.mem_iff.mp (Array.getElem_mem_toList c))
 .have e:p.getD i 0=0:=by simp[Array.getD,c]
  rw[e];exact h0
theorem kP.rev{n:Nat}{p:Array Nat}(h:kP n p)(i j:Nat):kP n (kas_rev p i j):=(Array.perm_iff_toList_perm.mp (mirror_perm p i j _)).trans h
theorem kP.bub{n:Nat}{p:Array Nat}(h:kP n p)(i j:Nat):kP n (bubble p i j):=(Array.perm_iff_toList_perm.mp (bubble_perm p i j)).trans h
theorem Znb{n:Nat}{p:Array Nat}(h:kP n p)(h0:0<n)(f m:Nat):kGood n (λ_=>True) (kas_asc p f m):=by
 induction f generalizing m with
 | zero=>exact trivial
 | succ f ih=>
  refine⟨h.at h0 _,h.at h0 _,λb=>?_⟩;cases b
  .exact ih _
  .exact trivial
theorem Ztz{n:Nat}(h0:0<n)(f:Nat){p:Array Nat}(h:kP n p)(m q:Nat):kGood n (λr:Array Nat×Nat×Nat=>kP n r.1) (kas_desc f p m q):=by
 induction f generalizing p m q with
 | zero=>exact h
 | succ f ih=>
  refine⟨h.at h0 _,h.at h0 _,λb=>?_⟩;cases b
  .refine⟨h.at h0 _,h.at h0 _,λb=>?_⟩
   cases b
   .exact ih h _ _
   .exact h
  .show kGood n _ (if q>0 then _ else _)
   split
   .exact ih (h.rev _ _) _ _
   .exact ih h _ _
theorem Zjq{n:Nat}{p:Array Nat}(h:kP n p)(h0:0<n)(m r:Nat):kGood n (λr:Nat×Array Nat=>kP n r.2) (kas_tail3 m r p):=by
 refine kGood.bind (P:=λ_=>True) (λa _=>?_) (Znb (h.rev _ _) h0 _ _);exact h.rev _ _
theorem Zdd{n:Nat}{p:Array Nat}(h:kP n p)(h0:0<n)(m r:Nat):kGood n (λr:Nat×Array Nat=>kP n r.2) (kas_descPart m r p) :=
 (Ztz h0 _ h _ _).bind λx hx=>by
  show kGood n _ (if x.2.2>0 then _ else _);split
  .exact Zjq (hx.rev _ _) h0 _ _
  .exact Zjq hx h0 _ _
theorem Zoh{n:Nat}{p:Array Nat}(h:kP n p)(h0:0<n)(r:Nat):kGood n (λr:Nat×Array Nat=>kP n r.2) (kas_count r p) :=
 (Znb h h0 _ _).bind λm _=>by
  show kGood n _ (if(m==r)=YD then _ else if m>1 then _ else _);split
  .exact h
  .split
   .refine⟨h.at h0 _,h.at h0 _,λb=>?_⟩
    cases b
    .exact Zdd (h.rev _ _) h0 _ _
    .exact h
   .exact Zdd h h0 _ _
theorem Zou{n:Nat}{p:Array Nat}(h:kP n p)(h0:0<n)(k f l r:Nat):kGood n (λ_=>True) (kas_place p k f l r):=by
 induction f generalizing l r with
 | zero=>exact trivial
 | succ f ih=>
  show kGood n _ (if l>=r then _ else _);split
  .exact trivial
  .refine⟨h.at h0 _,h.at h0 _,λb=>?_⟩
   cases b
   .exact ih _ _
   .exact ih _ _
theorem Zvp{n:Nat}(h0:0<n)(f:Nat){p:Array Nat}(h:kP n p)(k:Nat):kGood n (kP n) (kas_bin f p k):=by
 induction f generalizing p k with
 | zero=>exact h
 | succ f ih=>exact(Zou h h0 _ _ _ _).bind λl _=>ih (h.bub _ _) _
theorem Zgl{n:Nat}(h0:0<n):kGood n (kP n) (kas_sort n) :=
 (Zoh (p:=Ur (Xj n)) (.refl _) h0 n).bind λr hr=>by
  show kGood n _ (if r.1<n then _ else _);split
  .exact Zvp h0 _ hr _
  .exact hr
def Zux(lt:Nat->Nat->Bool)(n:Nat):List Nat:=(kEv lt (kas_sort n)).toList
theorem Zdn{lt:Nat->Nat->Bool}{n:Nat}(h0:0<n):(Zux lt n).Perm (Xj n):=(Zgl h0).ev (P:=kP n)
end L2
namespace L2
open PySem PySem.Spec PyProof.Rows PySem.W PySem.SeqAt
open PySem.AutoSeq1 (wpAny_loadPart')
open MeetsSeq MeetsSeq2 MeetsSeq3 SeqRoads2
def ltI:List Int->List Int->Bool
 | [],[]=>YF
 | [],_::_=>YD
 | _::_,[]=>YF
 | x::xs,y::ys=>if x=y then ltI xs ys else decide (x<y)
theorem Znx(h:Vk vs ns)(i:Nat)(hi:i<vs.length):∃x t,vs[i]? =YB (.int x t)/\ns.drop i=x::ns.drop (i+1):=by
 induction h generalizing i with
 | nil=>exact YZ hi (Q9 i)
 | cons n t h ih=>
  cases i with
  | zero=>exact⟨n,t,rfl,rfl⟩
  | succ i=>exact ih i (V2 hi)
theorem Ze4(h:Vk vs ns):vs.length=ns.length:=by
 induction h with
 | nil=>rfl
 | cons n t h ih=>exact YW Nat.succ ih
theorem Zjm{xs ys:List Int}(h:xs=[]\/ys=[]):ltI xs ys=decide (xs.length<ys.length):=by
 cases xs<;>cases ys<;>first|rfl|(rcases h with h|h<;>cases h)|exact(YS (U6 _)).symm
theorem Zut(l b:YG)(items items2:Array Xe)(n n2:Nat)(dd dd2:Option YG)(sl sl2:Array (Option Xe)){xs ys:List Int}(h1:Vk items.toList xs)(h2:Vk items2.toList ys)(k:Nat) :
  ∀i:Nat,items.size-i=k->i<=items.size->i<=items2.size->Meets (By.«list.__eq__.loop» ⟨[.ref l,.ref b,BP i,BP 0],[]⟩)
   (λA R s=>s.heap.get? l=YB { cls:=.type "list",dict:=dd,data:=.seq items n,slots:=sl }/\s.heap.get? b=YB { cls:=.type "list",dict:=dd2,data:=.seq items2 n2,slots:=sl2 }/\
    R (.ok (.ret (.bool (ltI (xs.drop i) (ys.drop i))))) s):=by
 have e1:items.size=xs.length:=Ze4 h1;have e2:items2.size=ys.length:=Ze4 h2;have fin:∀i,i<=items.size->i<=items2.size->(i=items.size\/i=items2.size)->ltI (xs.drop i) (ys.drop i)=decide (items.size<items2.size):=λi u1 u2 c=>by
  rw[Zjm (c.imp (λc=>U0 (by omega)) λc=>U0 (by omega)),Vp,Vp];exact decide_eq_decide.mpr (by omega)
 induction k with
 | zero=>
  intro i hk u1 u2 prog w A R s h;obtain⟨hp,g,d,tk,os⟩:=s;obtain⟨hl,hb,h⟩:=h
  wp_walk using JC hl,JC hb
  have hi1:items[((i:Nat):Int).toNat]? =YC:=by simp;omega
  rw[fin i u1 u2 (.inl (by omega))]at h;rw[hi1]
  wp_walk using JC hl,JC hb
  exact h
 | succ k ih=>
  intro i hk u1 u2 prog w A R s h;obtain⟨hp,g,d,tk,os⟩:=s;obtain⟨hl,hb,h⟩:=h;have hlt:i<items.size:=by omega
  obtain⟨x,t,q1,q2⟩:=Znx h1 i hlt;have hi1:items[((i:Nat):Int).toNat]? =YB (.int x t):=by rw[Bg,<-q1,Qd]
  wp_walk using JC hl,JC hb
  by_cases c:i<items2.size
  .obtain⟨y,u,q3,q4⟩:=Znx h2 i c
   have hi2:items2[((i:Nat):Int).toNat]? =YB (.int y u):=by rw[Bg,<-q3,Qd]
   have hc:((i:Int)+1)=((i+1:Nat):Int):=by push_cast;rfl
   rw[q2,q4]at h;unfold ltI at h;rw[hi1,hi2];refine Xb (EqAt.int_int x t y u prog w _ _ ?_)
   by_cases cx:x=y
   .rw[YM cx]at h
    rw[ZC.mpr cx]
    wp_walk
    rw[hc];exact⟨Uh plain_eq_loop _,Bc entry_eq_loop (by
     rw[JV plain_eq_loop _];exact ih (i+1) (by omega) (by omega) (by omega) prog w A R _ ⟨hl,hb,h⟩)⟩
   .rw[YQ cx]at h
    rw[beq_eq_false_iff_ne.mpr cx]
    wp_walk using JC hl,JC hb
    rw[hi1,hi2];refine Xb (lt_int ?_)
    wp_walk
    exact h
  .have hi2:items2[((i:Nat):Int).toNat]? =YC:=by simp;omega
   rw[fin i u1 u2 (.inr (by omega))]at h;rw[hi1,hi2]
   wp_walk using JC hl,JC hb
   exact h
theorem Zr8(l b:YG)(items items2:Array Xe)(n n2:Nat)(dd dd2:Option YG)(sl sl2:Array (Option Xe)){xs ys:List Int}(h1:Vk items.toList xs)(h2:Vk items2.toList ys) :
  Meets (By.«list.__lt__» ⟨[.ref l,.ref b],[]⟩)
   (λA R s=>s.heap.get? l=YB { cls:=.type "list",dict:=dd,data:=.seq items n,slots:=sl }/\s.heap.get? b=YB { cls:=.type "list",dict:=dd2,data:=.seq items2 n2,slots:=sl2 }/\
    R (.ok (.ret (.bool (ltI xs ys)))) s):=by
 intro prog w A R s h;obtain⟨hp,g,d,tk,os⟩:=s;obtain⟨hl,hb,h⟩:=h;have f3:=AutoSeq1.sub_list_list
 wp_walk using JC hl,JC hb
 exact⟨Uh plain_eq_loop _,Bc entry_eq_loop (by
  rw[JV plain_eq_loop _];exact Zut l b items items2 n n2 dd dd2 sl sl2 h1 h2 _ 0 rfl (Qw _) (Qw _) prog w A R _ ⟨hl,hb,h⟩)⟩
theorem Zox{b:YG}{items2:Array Xe}{xs ys:List Int}{Q:Bool->Xg->Prop}(hu:A.units<Vh)(hl:s.heap.IsList l items)(hb:s.heap.IsList b items2)(h1:Vk items.toList xs)(h2:Vk items2.toList ys)(h:Q (ltI xs ys) s) :
  XJ (X8 prog w) A (oneLt' YD (.ref l) (.ref b)) Q E s:=by
 obtain⟨⟨cls,dd,data,sl⟩,hl,hc,n,hd⟩:=hl;obtain⟨⟨cls2,dd2,data2,sl2⟩,hb,hc2,n2,hd2⟩:=hb;simp only at hc hd hc2 hd2;subst hc hd hc2 hd2;rw[oneLt'_eq];simp only[if_true];refine Xb (wpAny_cRoomFor hu ?_);refine Xb (wpAny_callSpecialIfBound?_slot ⟨_,hl,rfl⟩ F.slot_list_lt (call_meets F.slot_list_lt ⟨_,hl,rfl⟩ F.entry_list_lt (F.args_list_lt_2 _ _) (Zr8 l b items items2 n n2 dd dd2 sl sl2 h1 h2) ⟨hl,hb,?_⟩));exact JG h
theorem Zyu{a b:Int}{t u:Tok}(h:Q (.bool (decide (a<b))) s):XJ (X8 prog w) A (richCompare .Lt (.int a t) (.int b u)) Q E s:=lt_int h
theorem Zpj(l b:YG)(items items2:Array Xe)(n n2:Nat)(dd dd2:Option YG)(sl sl2:Array (Option Xe)){xs ys:List Int}(h1:Vk items.toList xs)(h2:Vk items2.toList ys) :
  Meets (By.«tuple.__lt__» ⟨[.ref l,.ref b],[]⟩)
   (λA R s=>s.heap.get? l=YB { cls:=.type "tuple",dict:=dd,data:=.seq items n,slots:=sl }/\s.heap.get? b=YB { cls:=.type "tuple",dict:=dd2,data:=.seq items2 n2,slots:=sl2 }/\
    R (.ok (.ret (.bool (ltI xs ys)))) s) :=
 .of_wp λprog w A R s h=>by
  obtain⟨hp,g,d,tk,os⟩:=s;obtain⟨hl,hb,h⟩:=h;have f2:=AutoSeq1.sub_tuple_tuple;have e1:items.toList.length=xs.length:=Ze4 h1;have e2:items2.toList.length=ys.length:=Ze4 h2
  wp_walk using JC hl,JC hb,wpAny_forIn_list _ (λrest b s'=>b.1=YC/\s'=⟨hp,g,d,tk,os⟩/\∃i,rest=(items.toList.zip items2.toList).drop i/\i<=items.toList.length/\i<=items2.toList.length/\
   R (.ok (.ret (.bool (ltI (xs.drop i) (ys.drop i))))) ⟨hp,g,d,tk,os⟩) _
  case turn=>
   rintro⟨v,u⟩ rest b s' ⟨hb',rfl,i,hz,u1,u2,hR⟩;have hlt:i<(items.toList.zip items2.toList).length:=by
    rcases Bh i (items.toList.zip items2.toList).length with h'|h'
    .exact h'
    .rw[List.drop_of_length_le h']at hz;cases hz
   have hm:=hlt;rw[List.length_zip]at hm;obtain⟨x,t,q1,q2⟩:=Znx h1 i (by omega);obtain⟨y,r,q3,q4⟩:=Znx h2 i (by omega);rw[Ut hlt]at hz;injection hz with hyx hrest;have hz0:(items.toList.zip items2.toList)[i]? =YB (.int x t,.int y r):=by rw[List.getElem?_zip_eq_some];exact⟨q1,q3⟩
   rw[Xn hlt]at hz0;injection hz0 with hz0;rw[hz0]at hyx;cases hyx;rw[q2,q4]at hR;unfold ltI at hR;refine Xb (EqAt.int_int x t y r prog w _ _ ?_)
   by_cases cx:x=y
   .rw[YM cx]at hR
    rw[ZC.mpr cx]
    wp_walk
    exact⟨rfl,rfl,i+1,hrest,by omega,by omega,hR⟩
   .rw[YQ cx]at hR
    rw[beq_eq_false_iff_ne.mpr cx]
    wp_walk using Zyu
    exact⟨_,rfl,hR⟩
  case fin=>
   rintro⟨b1,b2⟩ s' ⟨hb',rfl,i,hz,u1,u2,hR⟩;simp only at hb';subst hb';have hge:min items.toList.length items2.toList.length<=i:=by
    rcases Bh i (items.toList.zip items2.toList).length with h'|h'
    .rw[Ut h']at hz;cases hz
    .rw[List.length_zip]at h';exact h'
   have hv:ltI (xs.drop i) (ys.drop i)=decide (items.size<items2.size):=by
    rw[Zjm ((show i=items.toList.length\/i=items2.toList.length by omega).imp (λc=>U0 (by omega)) λc=>U0 (by omega)),Vp,Vp];rw[Xv]at e1 e2 u1 u2;exact decide_eq_decide.mpr (by omega)
   rw[hv]at hR
   wp_walk
   exact⟨_,rfl,hR⟩
  case h=>
   exact⟨rfl,rfl,0,rfl,Qw _,Qw _,h⟩
end L2
namespace L2
open PySem PySem.Spec PyProof.Rows PySem.W
def sLay(d:α)(lt:Nat->Nat->Bool)(vs:List α):List α:=if vs.length<2 then vs else(Zux lt vs.length).map λi=>vs.getD i d
theorem Zht{α:Type}(d:α)(vs:List α):((Xj vs.length).map λi=>vs.getD i d)=vs:=by
 refine V9 λi=>?_;rw[Xi]
 by_cases c:i<vs.length
 .rw[Qu c,Xn c]
  show YB (vs.getD i d)=_;rw[Xm,Xn c];rfl
 .rw[QZ (by rw[Xr];omega),QZ (by omega)];rfl
theorem Zdq(d:α)(lt:Nat->Nat->Bool)(vs:List α):(sLay d lt vs).Perm vs:=by
 unfold sLay;split
 .exact .refl _
 .have:=(Zdn (lt:=lt) (n:=vs.length) (by omega)).map λi=>vs.getD i d
  rwa[Zht]at this
theorem Znz(f:α->β)(d:α)(lt:Nat->Nat->Bool)(vs:List α):sLay (f d) lt (vs.map f)=(sLay d lt vs).map f:=by
 unfold sLay;rw[Xc];split
 .rfl
 .rw[Qk]
  refine XS λi _=>?_;show(vs.map f).getD i (f d)=f (vs.getD i d);rw[Xm,Xm,Xi];cases vs[i]? <;>rfl
theorem Ztn{lt:Nat->Nat->Bool}(h:Vals xs us):Vals (sLay .non lt xs) (sLay .none lt us):=by
 unfold sLay;rw[h.length];split
 .exact h
 .generalize Zux lt _=l
  induction l with
  | nil=>exact .nil
  | cons i l ih=>
   refine .cons ?_ ih;show RelV (xs.getD i V.non) (us.getD i QJ);rw[Xm,Xm];cases e:xs[i]? with
   | some x=>
    obtain⟨u,e',r⟩:=h.get e;rw[e'];exact r
   | none=>
    have:us[i]? =YC:=QZ (by rw[<-h.length];exact QD.mp e);rw[this];exact rfl
theorem Zhl{κ:SortKind}{lt:Nat->Nat->Bool}{h0:YH}{n:Nat}{P:PySem.Fin->Xg->Prop}(ho:s.heap.get? a=YB (BJ "list" vs.toArray n))
  (k0:∀b o,h0.get? b=YB o->s.heap.get? b=YB o) (ha0:h0.get? a=YC) (h64:vs.length<64)
  (hk:2<=vs.length->∀s':Xg,(∀b o,h0.get? b=YB o->s'.heap.get? b=YB o)->∀Q:SortKind->Xg->Prop,Q κ s'->XJ (X8 prog w) A (keyKind' vs.toArray) Q E s')
  (hc:2<=vs.length->∀s':Xg,(∀b o,h0.get? b=YB o->s'.heap.get? b=YB o)->∀i j C,i<vs.length->j<vs.length->C (lt i j) s'->kas_ask prog w A κ vs i j C s')
  (h:P (.done (.ret .none)) { s with heap:=sortedHeap s.heap a vs (Ur (sLay QJ lt vs)) }):XJ (X8 prog w) A (By.«list.sort» ⟨[.ref a],[]⟩) P E s:=by
 have ha:a<s.heap.objs.size:=XN ho;obtain⟨e1,ho1⟩:∃e1,(s.heap.update a (BL λ_=>(#[]:Array Xe))).get? a=YB (BJ "list" #[] e1):=⟨_,Uc ho λ_=>#[]⟩;have ho6:(((s.heap.update a (BL λ_=>(#[]:Array Xe))).push (BJ "tuple" vs.toArray 0)).push (BJ "list" #[] 0)).get? a=YB (BJ "list" #[] e1):=Xf _ (Xf _ ho1);have k6:∀b o,h0.get? b=YB o->(((s.heap.update a (BL λ_=>(#[]:Array Xe))).push (BJ "tuple" vs.toArray 0)).push (BJ "list" #[] 0)).get? b=YB o:=λb o e=>by
  refine Xf _ (Xf _ ?_);rw[Heap.get?_update_ne _ _ _ _ (λq=>by rw[q,ha0]at e;cases e)];exact k0 b o e
 rw[list_sort_plain];refine Xb (listItems_at ho rfl ?_);refine Xb (listUpdate_at ho rfl ?_ (by rw[XQ,X7];omega) (Qw _));refine Xb (seqEpoch_at ho1 rfl ?_);refine Xb (wpAny_newTuple ?_ (by show vs.length<=_;rw[X7];omega));refine Xb (wpAny_newList ?_ (Qw _));refine JK ?_;show XJ (X8 prog w) A _ P E { s with heap:=((s.heap.update a (BL λ_=>(#[]:Array Xe))).push (BJ "tuple" vs.toArray 0)).push (BJ "list" #[] 0) };dsimp only;have hs:vs.toArray.size=vs.length:=XQ ..
 by_cases h2:vs.toArray.size<2
 .have el:sLay QJ lt vs=vs:=YM (hs▸h2)
  rw[el]at h;rw[YM h2,YM h2];refine Xb (Xl ?_);rw[StateT.run_pure];refine Xb (Xl ?_);dsimp only;refine Xb (seqEpoch_at ho6 rfl ?_);have ez:((vs.toArray.zip vs.toArray).map (·.2))=vs.toArray:=by
   apply Array.toList_inj.mp;rw[Array.toList_map,Array.toList_zip,List.map_snd_zip (Xy _)]
  show XJ _ _ (Builtin.List.listUpdate _ (λ_=>(vs.toArray.zip vs.toArray).map (·.2))>>=_) _ _ _;rw[ez];refine Xb (listUpdate_at ho6 rfl ?_ (Qw _) (by rw[hs,X7];omega));simp only[bne_self_eq_false,XR,if_false];exact Xl h
 .rw[YQ h2,YQ h2]
  have h2':2<=vs.length:=by omega
  have el:sLay QJ lt vs=(Zux lt vs.length).map λi=>vs.getD i QJ:=YQ (by omega);rw[el]at h;refine Xb (hk h2' _ k6 _ ?_);have est:SortSt.mk' κ (vs.toArray.zip vs.toArray) #[] 7 YC=kas_st κ (pairsOf vs) (Ur (Xj vs.length)):=by
   have e:=kas_range (pairsOf vs);rw[pairsOf_size]at e;show SortSt.mk' κ (pairsOf vs) #[] 7 YC=SortSt.mk' κ ((Ur (Xj vs.length)).map (kas_item (pairsOf vs))) #[] 7 YC;rw[e]
  have run:=kas_runs (prog:=prog) (w:=w) (A:=A) (κ:=κ) (it:=pairsOf vs) (E:=E) (s:={ s with heap:=((s.heap.update a (BL λ_=>(#[]:Array Xe))).push (BJ "tuple" vs.toArray 0)).push (BJ "list" #[] 0) })
   (Q:=λ_ st' s'=>arrOf st'=(kEv lt (kas_sort vs.length)).map (kas_item (pairsOf vs))/\failedOf st'=YC/\s'={ s with heap:=((s.heap.update a (BL λ_=>(#[]:Array Xe))).push (BJ "tuple" vs.toArray 0)).push (BJ "list" #[] 0) })
   (G:=λp s'=>p=kEv lt (kas_sort vs.length)/\s'={ s with heap:=((s.heap.update a (BL λ_=>(#[]:Array Xe))).push (BJ "tuple" vs.toArray 0)).push (BJ "list" #[] 0) })
   h2' h64 (λp' st' s' _ a2 a3 a4=>⟨a4.1▸a2,a3,a4.2⟩) (by
    rw[<-kas_ask_eq];exact(Zgl (n:=vs.length) (by omega)).wp (hc h2' _ k6) ⟨rfl,rfl⟩)
  rw[<-est]at run;refine Xb (Bo run ?_ λ_ _ e=>e);intro r s' z;obtain⟨har,hf,rfl⟩:=z;have hout:(arrOf r.2).map (·.2)=Ur ((Zux lt vs.length).map λi=>vs.getD i QJ):=by
   apply Array.toList_inj.mp;rw[har,Array.map_map,Array.toList_map];exact XS λi _=>by show(kas_item (pairsOf vs) i).2=_;rw[kas_item_eq]
  rw[hout];refine Xb (seqEpoch_at ho6 rfl ?_);refine Xb (listUpdate_at ho6 rfl ?_ (Qw _) (by rw[XQ,Xc,(Zdn (by omega)).length_eq,Xr,X7];omega));rw[hf];simp only[bne_self_eq_false,XR,if_false];exact Xl h
theorem Z3m{κ:SortKind}{lt:Nat->Nat->Bool}(hl:s.heap.IsList l vs.toArray)(h64:vs.length<64)
  (hk:2<=vs.length->∀s':Xg,(∀b o,s.heap.get? b=YB o->s'.heap.get? b=YB o)->∀Q:SortKind->Xg->Prop,Q κ s'->XJ (X8 prog w) A.in1.in1 (keyKind' vs.toArray) Q E s')
  (hc:2<=vs.length->∀s':Xg,(∀b o,s.heap.get? b=YB o->s'.heap.get? b=YB o)->∀i j C,i<vs.length->j<vs.length->C (lt i j) s'->kas_ask prog w A.in1.in1 κ vs i j C s')
  (h:Q (.ref (s.heap.objs.size+1)) { s with heap:=sortedAll s.heap vs (Ur (sLay QJ lt vs)) }):XJ (X8 prog w) A (call (.builtin "sorted") [.ref l]) Q E s:=by
 refine Calls.call_function_entry kind_sorted plain_sorted entry_sorted (args_sorted1 _) ?_;unfold By.«sorted»;refine Xb (m:=checkCount "sorted" 1 1 _) (Xl ?_);refine Xb (collect_list hl ?_ (by rw[X7];omega));refine Xb (wpAny_newList ?_ (by rw[X7];omega));have hsz:((s.heap.push (BJ "list" #[] 0)).update s.heap.objs.size (BL (·++vs.toArray))).objs.size=s.heap.objs.size+1:=by
  rw[Heap.size_update,size_push']
 have hoL:(((s.heap.push (BJ "list" #[] 0)).update s.heap.objs.size (BL (·++vs.toArray))).push (BJ "list" vs.toArray 0)).get? (s.heap.objs.size+1)=YB (BJ "list" vs.toArray 0):=by
  rw[<-hsz];exact XF _ rfl
 have keep:∀b o,s.heap.get? b=YB o->(((s.heap.push (BJ "list" #[] 0)).update s.heap.objs.size (BL (·++vs.toArray))).push (BJ "list" vs.toArray 0)).get? b=YB o:=λb o q=>by
  have hlt:b<s.heap.objs.size:=XN q;rw[Heap.get?_push_ne _ _ _ (by rw[hsz];exact Xp (QW hlt)),Heap.get?_update_ne _ _ _ _ (Xp hlt),Heap.get?_push_ne _ _ _ (Xp hlt)];exact q
 show XJ _ _ _ _ _ { s with heap:=((s.heap.push (BJ "list" #[] 0)).update s.heap.objs.size (BL (·++vs.toArray))).push (BJ "list" vs.toArray 0) };rw[hsz];refine Xb (JK (JD slot_list_sort ⟨_,hoL,rfl⟩ entry_list_sort (Zhl (h0:=s.heap) hoL keep (Heap.get?_none_of_le (UL _)) h64 hk hc ⟨_,rfl,?_⟩) (args_list_sort _)));exact Xl ⟨_,rfl,h⟩
end L2
namespace L2
open PySem PySem.Spec PyProof.Rows PySem.W
structure Yb8{α:Type}(kd:Xa->Option α)(lt:α->α->Bool):Prop where
 lay:∀d k,kd d=YB k->d.canLay0=YD
 run:∃κ:SortKind,(∀(prog:Qa) (w:Qo) (A:Qv) (E:Xe->Xg->Prop) (s:Xg) (vs:List Xe) (ds:List Xa) (as:List YG) (Q:SortKind->Xg->Prop),2<=vs.length->ReadsAll s.heap vs ds as->(∀d∈ds,∃k,kd d=YB k)->Q κ s->XJ (X8 prog w) A (keyKind' vs.toArray) Q E s)/\
  ∀(prog:Qa) (w:Qo) (A:Qv) (E:Xe->Xg->Prop) (s:Xg) (u v:Xe) (d e:Xa) (as bs:List YG) (k m:α) (C:Bool->Xg->Prop),A.units+32<Vh->Reads s.heap u d as->Reads s.heap v e bs->kd d=YB k->kd e=YB m->C (lt k m) s->XJ (X8 prog w) A (keyLt' κ u v) C E s
theorem readsAll_ints(ns:List Int)(r:ReadsAll h vs (ns.map Xw) as):Vk vs ns:=by
 induction ns generalizing vs as with
 | nil=>cases r;exact .nil
 | cons n ns ih=>
  cases r with
  | cons r q=>
   cases r;exact .cons _ _ (ih q)
theorem Zdt(r:Reads h u (.list (ns.map Xw)) as):∃a items,u= .ref a/\h.IsList a items/\Vk items.toList ns:=by
 cases r with
 | list e c d q=>exact⟨_,_,rfl,⟨_,e,c,_,d⟩,readsAll_ints ns q⟩
theorem readsAll_get(r:ReadsAll h vs ds as):vs.length=ds.length/\∀(i:Nat) d,ds[i]? =YB d->∃v bs,vs[i]? =YB v/\Reads h v d bs:=by
 induction ds generalizing vs as with
 | nil=>cases r;exact⟨rfl,λi d e=>by rw[UV]at e;cases e⟩
 | cons d ds ih=>
  cases r with
  | cons r q=>
   obtain⟨z1,z2⟩:=ih q;refine⟨YW Nat.succ z1,λi e he=>?_⟩;cases i with
   | zero=>cases he;exact⟨_,_,rfl,r⟩
   | succ i=>exact z2 i e he
theorem lay_ints(ns:List Int):Sh 1 (.list (ns.map Xw)):=Zi4 λd m=>by
 obtain⟨x,_,rfl⟩:=XM.mp m;exact Zss x
theorem Zb2(ns:List Int):Sh 1 (.tuple (ns.map Xw)):=Zrk λd m=>by
 obtain⟨x,_,rfl⟩:=XM.mp m;exact Zss x
theorem Zn9(e:h.IsList a items):Looks M h (typeOf (.ref a)) (.type "list"):=by
 obtain⟨o,e,c,_⟩:=e;have:Looks M h (typeOf (.ref a)) o.cls:=(Looks.ld e).andThen .now
 rwa[c]at this
def kdL:Xa->Option (List Int):=λd=>match d with| .list es=>Zgq es|_=>YC
theorem Zfc{d:Xa}{k:List Int}(h:kdL d=YB k):d= .list (k.map Xw):=by
 cases d with
 | list es=>exact YW Bj (Zdp h)
 | _=>cases h
theorem Zqa(r:ReadsAll h vs ds as){v:Xe}(hv:v∈vs):∃d∈ds,∃bs,Reads h v d bs:=by
 obtain⟨i,hi⟩:=Vy hv;obtain⟨z1,z2⟩:=readsAll_get r;have c:i<ds.length:=z1▸(Xk.mp hi).1;obtain⟨v',bs,e,q⟩:=z2 i _ (Xn c);rw[hi]at e;cases e;exact⟨_,Bl c,bs,q⟩
theorem Zx1:Yb8 kdL ltI:=by
 refine⟨λd k h=>by rw[Zfc h];exact(lay_ints k).1,oneType',λprog w A E s vs ds as Q h2 r hk q=>kas_kind (T:=.type "list") h2 (λv hv=>?_) rfl rfl q,λprog w A E s u v d e as bs k m C hu r1 r2 h1 h2 h=>?_⟩
 .obtain⟨d,hd,bs,z⟩:=Zqa r hv
  obtain⟨k,hk⟩:=hk d hd;rw[Zfc hk]at z;obtain⟨a,items,rfl,e,_⟩:=Zdt z;exact Zn9 e
 .rw[Zfc h1]at r1
  rw[Zfc h2]at r2;obtain⟨a,i1,rfl,e1,z1⟩:=Zdt r1;obtain⟨b,i2,rfl,e2,z2⟩:=Zdt r2;rw[keyLt'_oneType];exact Zox (by omega) e1 e2 z1 z2 h
theorem Zf9(a b:List Int):QS (.list (a.map Xw)) (.list (b.map Xw))=decide (a=b):=by
 have p:∀l:List Int,Z7 (.list (l.map Xw))=YD:=λl=>by rw[Z7];induction l with|nil=>rfl|cons x l ih=>exact ih
 have inj:∀{l m:List Int},Bj (l.map Xw)= .list (m.map Xw)->l=m:=λh=>by
  injection h with h;exact(List.map_inj_right λx y z=>by injection z).mp h
 by_cases c:a=b
 .rw[Zzi (p a) (p b) (by rw[c]),YS c]
 .rw[Zy5 (p a) (p b) λz=>c (inj z),YT c]
theorem Zj5(a b:List Int):QS (.tuple (a.map Xw)) (.tuple (b.map Xw))=decide (a=b):=by
 have e:∀xs ys:List Xa,QS (.tuple xs) (.tuple ys)=QS (.list xs) (.list ys):=λxs ys=>by
  rw[QS,QS]
 rw[e,Zf9]
end L2
namespace L2
open PySem PySem.Spec PyProof.Rows PySem.W
def lk(kd:Xa->Option α)(lt:α->α->Bool)(es:List Xa):Nat->Nat->Bool:=λi j=>((kd (es.getD i .none)).bind λa=>(kd (es.getD j .none)).map λb=>lt a b).getD YF
def keyed(kd:Xa->Option α)(es:List Xa):Prop:=∀d∈es,∃k,kd d=YB k
theorem Zpo{es:List Xa}(h:∀d∈es,d.canLay0=YD):Bq es=YD:=by
 induction es with
 | nil=>rw[Bq]
 | cons d es ih=>rw[Bq,h d (.head _),ih λd m=>h d (.tail _ m)];rfl
theorem Das.sLay{lt:Nat->Nat->Bool}(h:Das G H L xs ds):Das G H L (L2.sLay .non lt xs) (L2.sLay .none lt ds):=by
 unfold L2.sLay;rw[h.length];split
 .exact h
 .generalize Zux lt _=l
  induction l with
  | nil=>exact .nil
  | cons i l ih=>
   refine .cons ?_ ih;show Da G H L (xs.getD i .non) (ds.getD i .none);rw[Xm,Xm];cases e:xs[i]? with
   | some x=>
    obtain⟨u,e',r⟩:=h.get' e;rw[e'];exact r
   | none=>
    have:ds[i]? =YC:=QZ (by rw[<-h.length];exact QD.mp e);rw[this];exact .non
def Zy3(kd:Xa->Option α)(lt:α->α->Bool)(K:Xd):List V->Hp->VK->Prop:=λxs H Q=>∃(a:YG) (vs:List V) (L:YG->Prop) (es:List Xa),xs=[.ref a]/\SqL K H a vs/\Das K H L vs es/\vs.length<64/\keyed kd es/\∀l,H l=YC->Q (.ref l) (upd H l (.lst (sLay .non (lk kd lt es) vs)))
section
variable {kd:Xa->Option α}{lt:α->α->Bool}
theorem Zh0(S:Yb8 kd lt)(hK:X.K=K)(hu:X.A.units+64<Vh):Zbm X (.builtin "sorted") (Zy3 kd lt K):=by
 subst hK;intro pins s O H xs us Q I r h;obtain⟨l,vs,L,es,rfl,hs,hd,h64,hk,q⟩:=h;obtain⟨u,rfl,ru⟩:=vals1 r;cases(show u=Xz l from ru);obtain⟨its,rv,pl,hz⟩:=I.list hs;have hl:=rv.length;obtain⟨as,ra⟩:=hd.reads rfl I rv (Zpo λd m=>by obtain⟨k,e⟩:=hk d m;exact S.lay d k e);obtain⟨κ,S1,S2⟩:=S.run;obtain⟨z1,z2⟩:=readsAll_get ra;refine Z3m (κ:=κ) (lt:=lk kd lt es) pl.isList (by omega) (λh2 s' k Q q=>S1 _ _ _ _ s' _ es as Q h2 (ReadsAll.keeps k ra) hk q) (λh2 s' k i j C hi hj hc=>?_) ?_
 .rw[z1]at hi hj
  obtain⟨v,b1,e1,r1⟩:=z2 i _ (Xn hi);obtain⟨w,b2,e2,r2⟩:=z2 j _ (Xn hj);obtain⟨k1,q1⟩:=hk _ (Bl hi);obtain⟨k2,q2⟩:=hk _ (Bl hj);have ek:lk kd lt es i j=lt k1 k2:=by
   unfold lk;rw[Xm,Xm,Xn hi,Xn hj];show((kd es[i]).bind λa=>(kd es[j]).map λb=>lt a b).getD YF=_;rw[q1,q2];rfl
  rw[ek]at hc;unfold kas_ask;rw[Xm,Xm,e1,e2];exact S2 _ _ _ _ s' v w _ _ _ _ k1 k2 C (show X.A.units+1+1+32<Vh by omega) (Reads.keeps k r1) (Reads.keeps k r2) q1 q2 hc
 .obtain⟨e,he⟩:=sortedAll_at s.heap its (Ur (sLay QJ (lk kd lt es) its))
  refine⟨.ref (s.heap.objs.size+1),_,I.laid (t':=s.toks) (o:=.lst (sLay .non (lk kd lt es) vs)) (λb ob q=>sortedAll_old q) (by omega) ⟨?_,sLay QJ (lk kd lt es) its,e,Ztn rv,he⟩,rfl,q _ (I.hok.fresh (by omega))⟩;rw[(Zdq _ _ _).length_eq,X7];omega
def Zyv(kd:Xa->Option α)(lt:α->α->Bool):List Xa->(OT->Prop)->Prop:=λds k=>n1 (λd=>∃es:List Xa,d= .list es/\es.length<64/\keyed kd es/\k (.nd ((sLay .none (lk kd lt es) es).map OT.fz))) ds
theorem Zm2:PN G (Zy3 kd lt G) (Zyv kd lt):=λH L xs ds k Q hx h kk=>by
 obtain⟨v,d,rfl,rfl,q,es,e,h64,hk,h⟩:=hx.one h;have fin:∀(vs:List V) (p:YG),Das G H L vs es->H p=YC->Q (.ref p) (upd H p (.lst (sLay .non (lk kd lt es) vs))):=λvs p hv hp=>kk _ _ _ [p] (Zv hp _) (Own.list hp hv.sLay) (Zbc p) (J1 hp) h;subst e;generalize ed:Bj es=d at q;cases q with
 | lst l e r=>
  cases ed;exact⟨_,_,L,es,rfl,.inl e,r,by rw[r.length];exact h64,hk,λp hp=>fin _ p r hp⟩
 | scr ks=>
  cases ed;exact⟨_,_,L,_,rfl,ks.sq,Das.ints _,by rw[(Das.ints (G:=G) (H:=H) (L:=L) _).length];exact h64,hk,λp hp=>fin _ p (Das.ints _) hp⟩
 | _=>cases ed
def Zjs(kd:Xa->Option α)(lt:α->α->Bool):List Xa->Option OT:=λds=>match ds with|[.list es]=>if(decide (es.length<64)&&es.all λd=>(kd d).isSome)=YD then YB (.nd ((sLay .none (lk kd lt es) es).map OT.fz))else YC|_=>YC
theorem Zr3:∀ds r k,Zjs kd lt ds=YB r->k r->Zyv kd lt ds k:=λds r k h hk=>by
 unfold Zjs at h;split at h
 case h_2=>cases h
 split at h
 case isFalse=>cases h
 rename_i h2;rw[X3]at h2;cases h;exact⟨_,rfl,YX h2.1,λd m=>Option.isSome_iff_exists.mp (Vc.mp h2.2 d m),hk⟩
end
end L2
namespace L2
open PySem PySem.Spec PyProof.Rows
section
variable {X:Cx}{io:List Nat}{p p' c c' q r:Bool}{a b e:YJ}{fa fb:FE}{es:List YJ}{ra:FA}{st:YK}{sts ss ss':List YK}{f g:FS}{ta:FT}
theorem xv(i:Nat)(hN:X.N[i]? =YB x:=by rfl)(hv:Vis X.env.scope x:=by first|exact QL rfl|exact Qt (QL rfl)|exact Qt (Qt rfl))(hd:(x==("__debug__" : Str))=YF:=by decide)(he:(x==("__classdict__" : Str))=YF:=by decide):ME X io YD YD (.Name x pos) (o2 (Zb i)):=Z61 (mv i hN hv hd he)
theorem xo(i:Nat)(hN:X.N[i]? =YB x:=by rfl)(hv:Vis X.env.scope x:=by first|exact QL rfl|exact Qt (QL rfl)|exact Qt (Qt rfl))(hd:(x==("__debug__" : Str))=YF:=by decide)(he:(x==("__classdict__" : Str))=YF:=by decide):ME X io YD YF (.Name x pos) (o2 (Wc i)):=Z75 (mo i hN hv hd he)
theorem xci{i:Int}:ME X io YD YD (.Constant (.int i) j pos) (o2 (fC (.int i))):=Zc1 Z7x
theorem xix(ha:ME X io p c a (o2 fa))(hb:ME X io p' c' b (o2 fb))(hc:p'=YD\/c=YD:=by first|exact QL rfl|exact Qt rfl)(hs:Zgg b:=by exact λ_ _=>rfl)(h2:(p&&p')=q:=by rfl)(h3:(c&&c')=r:=by rfl):ME X io q r (.Subscript a b pos) (o2 (Zn gIx fa fb)):=h2▸h3▸Zev Yh6 (Yfg (Zln rfl) Yd0 ha hb hc (hs:=hs))
theorem xa0:MA X io YD YD [] (o2 Zm):=Z87 Z5x
theorem xa1[NoStar e](ha:ME X io p c e (o2 fa))(h2:(p&&YD)=q:=by rfl)(h3:(c&&YD)=r:=by rfl):MA X io q r [e] (o2 (Zd fa Zm)):=Zh ha xa0 (.inl rfl) h2 h3
theorem xsq(h:MS X io st (oS f))(k:MSs X io sts (oS g)):MSs X io (st::sts) (oS (Zw f g)):=Yau (Zxn h k)
theorem xst(i:Nat)(hN:X.N.Nodup)(he:ME X io p YD e (o2 fa))(hi:X.N[i]? =YB x:=by rfl)(hx:Loc X.env.scope x:=by first|exact QL rfl|exact Qt rfl)(hio:i∉io:=by decide)(hs:VH e (YB (.Name x px)) pos.line X.env=pure YF:=by rfl)(hf:X.fn x=YD\/X.env.scope.names.lookup x=YB .local:=by first|exact .inl rfl|exact .inr rfl|assumption):MS X io (.Assign [.Name x px] e pos) (oS (wE fa (Wi i))):=Zhx (Zhr hN hi hx he hio hs hf)
theorem xrt(h:ME X io p YD e (o2 fa)):MS X io (.Return (YB e) pos) (oS (wE fa W2)):=Z9r (Z5p h)
theorem xg(i:Nat)(hN:X.N.Nodup)(hi:X.N[i]? =YB x:=by rfl)(hx:Loc X.env.scope x:=by first|exact QL rfl|exact Qt rfl)(hio:i∉io:=by decide)(hf:X.fn x=YD\/X.env.scope.names.lookup x=YB .local:=by first|exact .inl rfl|exact .inr rfl|assumption):MG X io YD (.Name x pos) (oG (gNm i)):=Z21 (Z4i hN hi hx hio hf)
theorem xif(h:MT X io p e (o2 ta))(k:MSs X io ss (oS f))(l:MSs X io ss' (oS g)):MS X io (.If e ss ss' pos) (oS (Wr ta f g)):=Ydc (Ycc h k l)
theorem xnl:MSs X io [] (oS fNx):=Zz7 Zz6
theorem xtp{n:Nat}(h:MA X io p c es (o2 ra)):ME X io p c (.Tuple es n pos) (o2 (Zbd ra)):=Z76 (Yc3 h)
theorem xls(h:MA X io p c es (o2 ra)):ME X io p c (.List es pos) (o2 (Zfe ra)):=Yaj (Yeb h)
theorem xil(h:ME X io p c e (o2 fa)):MI X io p c tg e (o2 (Zbf fa)):=Z1y (Z2r h)
theorem xno(h:MT X io p e (o2 ta)):MT X io p (.UnaryOp .Not e pos) (o2 (tNo ta)):=Z99 (Z7m h)
theorem Zle(ha:ME X io p c a (o2 fa))(hb:ME X io p' c' b (o2 fb))(hc:p'=YD\/c=YD:=by first|exact QL rfl|exact Qt rfl)(h2:(p&&p')=q:=by rfl):ME X io q YD (.BinOp a .Add b pos) (o2 (Ze J6 fa fb)):=h2▸Jf Yd2 (Zoc Z5b Zs6 ha hb hc)
theorem Ygm(ha:ME X io p c a (o2 fa))(hb:ME X io p' c' b (o2 fb))(hc:p'=YD\/c=YD:=by first|exact QL rfl|exact Qt rfl)(h2:(p&&p')=q:=by rfl):ME X io q YD (.BinOp a .Sub b pos) (o2 (Ze gSb fa fb)):=h2▸Jf Yca (Zoc Yah Zs6 ha hb hc)
theorem Z33(ha:ME X io p c a (o2 fa))(hb:ME X io p' c' b (o2 fb))(hc:p'=YD\/c=YD:=by first|exact QL rfl|exact Qt rfl)(h2:(p&&p')=q:=by rfl):ME X io q YD (.BinOp a .Mult b pos) (o2 (Ze Ze2 fa fb)):=h2▸Jf Ydl (Zoc Z0u Z96 ha hb hc)
theorem Zpw(ha:ME X io p c a (o2 fa))(hb:ME X io p' c' b (o2 fb))(hc:p'=YD\/c=YD:=by first|exact QL rfl|exact Qt rfl)(h2:(p&&p')=q:=by rfl):ME X io q YD (.BinOp a .Mod b pos) (o2 (Ze Zbl fa fb)):=h2▸Jf Yc9 (Zoc Z2f Z78 ha hb hc)
theorem Ya9(ha:ME X io p c a (o2 fa))(hb:ME X io p' c' b (o2 fb))(hc:p'=YD\/c=YD:=by first|exact QL rfl|exact Qt rfl)(h2:(p&&p')=q:=by rfl):ME X io q YD (.BinOp a .FloorDiv b pos) (o2 (Ze J7 fa fb)):=h2▸Jf Z5z (Zoc Zvh Z6s ha hb hc)
theorem Ybd(ha:ME X io p c a (o2 fa))(hb:ME X io p' c' b (o2 fb))(hc:p'=YD\/c=YD:=by first|exact QL rfl|exact Qt rfl)(h2:(p&&p')=q:=by rfl):ME X io q YD (.BinOp a .Pow b pos) (o2 (Ze Zu8 fa fb)):=h2▸Jf Ycd (Zoc Z3i Z8s ha hb hc)
theorem xeq(hu:X.A.units+64<Vh)(ha:ME X io p c a (o2 fa))(hb:ME X io p' c' b (o2 fb))(hc:p'=YD\/c=YD:=by first|exact QL rfl|exact Qt rfl)(h2:(p&&p')=q:=by rfl):MT X io q (.Compare a [.Eq] [b] pos) (o2 (tV (Ze gEq fa fb))):=h2▸Jd Ybv (Jc (Ztp hu) Z3y ha hb hc (hm:=J9 _))
theorem xne(hu:X.A.units+64<Vh)(ha:ME X io p c a (o2 fa))(hb:ME X io p' c' b (o2 fb))(hc:p'=YD\/c=YD:=by first|exact QL rfl|exact Qt rfl)(h2:(p&&p')=q:=by rfl):MT X io q (.Compare a [.NotEq] [b] pos) (o2 (tV (Ze gNe fa fb))):=h2▸Jd Yfb (Jc (Zzl hu) Yaw ha hb hc (hm:=J9 _))
theorem xlt(ha:ME X io p c a (o2 fa))(hb:ME X io p' c' b (o2 fb))(hc:p'=YD\/c=YD:=by first|exact QL rfl|exact Qt rfl)(h2:(p&&p')=q:=by rfl):MT X io q (.Compare a [.Lt] [b] pos) (o2 (tV (Ze gLt fa fb))):=h2▸Jd Yb5 (Jc Zpi Zkb ha hb hc (hm:=J9 _))
theorem xgt(ha:ME X io p c a (o2 fa))(hb:ME X io p' c' b (o2 fb))(hc:p'=YD\/c=YD:=by first|exact QL rfl|exact Qt rfl)(h2:(p&&p')=q:=by rfl):MT X io q (.Compare a [.Gt] [b] pos) (o2 (tV (Ze gGt fa fb))):=h2▸Jd Yhj (Jc Ycu Zkb ha hb hc (hm:=J9 _))
theorem xge(ha:ME X io p c a (o2 fa))(hb:ME X io p' c' b (o2 fb))(hc:p'=YD\/c=YD:=by first|exact QL rfl|exact Qt rfl)(h2:(p&&p')=q:=by rfl):MT X io q (.Compare a [.GtE] [b] pos) (o2 (tV (Ze gGe fa fb))):=h2▸Jd Yhd (Jc Yc8 Zkb ha hb hc (hm:=J9 _))
theorem xfr{it:FI}(hp:PassesOwn (X8 X.prog X.w) X.A X.env X.xe)(hc:X.calm=YD)(hi:MI X io p YD tg e (o2 it))(hg:MG X io YD tg (oG gg))(hb:MSs X io ss (oS f))(hs:∀x,VJ e X.env x=pure x:=by intro _;rfl):MS X io (.For tg e ss [] pos) (oS (W5 it gg f)):=Z53 (Z8i hp hc hi hg hb hs)
theorem xg2{n:Nat}{g1 g2:FG}(hc:X.calm=YD)(ha:MG X io YD a (oG g1))(hb:MG X io YD b (oG g2))(h1:List.map (λx=>x.snd) (JR [a,b] X.env)=U5 a X.env::List.map (λx=>x.snd) (JR [b] X.env):=by rfl)(h2:List.map (λx=>x.snd) (JR [b] X.env)=U5 b X.env::List.map (λx=>x.snd) (JR [] X.env):=by rfl)(h3:(JR [a,b] X.env).length=2:=by rfl)(h4:List.findIdx? (λx=>x.fst) (JR [a,b] X.env)=YC:=by rfl):MG X io YD (.Tuple [a,b] n pos) (oG (gTp 2 (gCn g1 (gCn g2 gNl)))):=Zpy (Zts (n:=2) hc (Za5 (Zds ha (Za5 (Zds hb (Zlu Zl2) h2)) h1)) h3 h4)
theorem xso(i:Nat)(hN:X.N.Nodup)(he:ME X io p YD e (o2 fa))(hi:X.N[i]? =YB x:=by rfl)(hx:Loc X.env.scope x:=by first|exact QL rfl|exact Qt rfl)(hio:i∉io:=by decide)(hs:VH e (YB (.Name x px)) pos.line X.env=pure YF:=by rfl)(hf:X.fn x=YD\/X.env.scope.names.lookup x=YB .local:=by first|exact .inl rfl|exact .inr rfl|assumption):MS X io (.Assign [.Name x px] e pos) (oS (wE fa (Ja i))):=Zt9 (Zqi hN hi hx he hio hs hf)
theorem xcl{k:Nat}{f:YG}{fd:Qp}{F:FD}(G:FnOk X.prog X.w X.K X.mg X.base CX0 k f fd ps (spD X.K (sD F)))(hr:Room k X.A)(hm:X.mg x=YB (.ref f))(hk:V8 X.K (.ref f)=YD)(hb:Binds X.K fd ps [])(ha:MA X io p c (e::es) (o2 ra))(hg:Gl X x:=by rfl)(h1:(x==("__debug__" : Str))=YF:=by decide)(h2:Xu (e::es) X.env=(YF,eval e X.env)::Xu es X.env:=by rfl)(h3:((JF pos (Xu es X.env)).any λx=>x.fst)=YF:=by rfl):ME X io p c (.Call (.Name x pp) (e::es) [] pos) (o2 (Z8 F ra)):=Z2u (Z9x G hr hg hm hk hb Ydz ha h1 h2 h3)
theorem xln(hm:X.mg "len"=YC)(ha:MA X io p c [e] (o2 ra))(hg:Gl X "len" :=by rfl)(h2:Xu [e] X.env=(YF,eval e X.env)::Xu [] X.env:=by rfl):ME X io p YD (.Call (.Name "len" pp) [e] [] pos) (o2 (Zbb Zgu ra)):=Zc9 Ydk (Zli Z8n (Zp1 rfl) hg hm L2.B.boot_len ha (by decide) (by decide) h2 (by rfl))
end
def tbl(P:List Nat)(led:Bool):QK:={ mask:=7,place:=P.toArray,dummies:=#[],finger:=0,led,moves:=0,plain:=YD }
def hT(k:List Int):Int:=reduceHash (Builtin.Tuple.tupleHashOf (k.map hashInt))
def hAt(ks:List (List Int))(i:Nat):Int:=(ks[i]?.map hT).getD 0
def Yev(P:List Nat)(j:Nat):List Nat:=((tbl P YF).put j).1.place.toList
def Yf7(P:List Nat)(j:Nat):Nat:=((tbl P YF).put j).2
def Yh2(ks:List (List Int))(p:Nat)(k:List Int):List (List Int):=ks.take p++k::ks.drop p
def Yix(P:List Nat)(ks:List (List Int))(k:List Int):Option (List Nat×List (List Int)) :=
 match(tbl P YF).probe (hAt ks) (hT k) ((tbl P YF).probeStart (hT k))with
 | some (.empty j YC)=>if(tbl (Yev P j) YF).tooFull=YF/\(Yev P j).length=ks.length+1/\ks.length<=6/\Yf7 P j<=ks.length then YB (Yev P j,Yh2 ks (Yf7 P j) k)else YC
 | some (.candidate _ i _)=>if ks[i]? =YB k then YB (P,ks)else YC
 | _=>YC
def grow(K:List (List Int)):Nat->List (List Nat×List (List Int))->List (List Nat×List (List Int))
 | 0,S=>S
 | n+1,S=>grow K n (S++(S.flatMap λs=>K.filterMap λk=>Yix s.1 s.2 k).filter λs=>!S.contains s)
def K2:List (List Int):=[[0,0],[0,1],[1,0],[1,1]]
def S2:List (List Nat×List (List Int)):=(grow K2 4 [([],[])]).eraseDups
section
variable {prog:Qa}{w:Qo}{A:Qv}{E:Xe->Xg->Prop}{s:Xg}
inductive KeysIn(U:YG->List Int->Prop):List (List Int)->List (Int×Xe)->Prop
 | nil:KeysIn U [] []
 | cons {k:List Int} {a:YG} {ks:List (List Int)} {l:List (Int×Xe)} (h:U a k) (t:KeysIn U ks l):KeysIn U (k::ks) ((hT k,.ref a)::l)
theorem KeysIn.hash{U:YG->List Int->Prop}{ks:List (List Int)}{l:List (Int×Xe)}(h:KeysIn U ks l):l.map (·.1)=ks.map hT:=by
 induction h with
 | nil=>rfl
 | cons _ _ ih=>rw[X4,X4,ih]
theorem Zoi(xs:Array α)(p:Nat)(x:α)(h:p<=xs.size):(JS xs p x).toList=xs.toList.take p++x::xs.toList.drop p:=by
 unfold JS;rw[Array.toList_append,Array.toList_push,Array.toList_extract,Array.toList_extract];simp;rw[Bw (by simp)]
abbrev IK(prog:Qa)(w:Qo)(h:YH)(k:List Int)(a:YG):Prop:=IsTupleKey (Vw prog w) h k a
theorem items_int{ks:List Int}(h:ItemsAre (Vw prog w) ks vs):∀v∈vs,∃i t,v= .int i t:=by
 induction h with
 | nil=>exact λ_ m=>nomatch m
 | cons h _ ih=>
  intro v hv;rcases Xo.mp hv with rfl|hv
  .obtain⟨t,e⟩:=Value.isInt_shape h
   exact⟨_,t,e⟩
  .exact ih v hv
theorem Zrm{k:List Int}{Q:Bool->Xg->Prop}(hk:IK prog w s.heap k a)(h:Q YD s):XJ (X8 prog w) A (hashByValue 8 (.ref a)) Q E s:=by
 have hT:=hk.typeIs;obtain⟨o,its,n,ho,_,hd,hi⟩:=hk;unfold hashByValue;refine Xb (wpAny_specialOf hT F.slot_tuple_hash.lookup ?_);dsimp only;refine Xb (Bk ho hd ?_);show XJ _ _ (forIn its _ _>>=_) _ _ s;rw[<-Array.forIn_toList];refine Xb (wpAny_forIn_list _ (λrest r s'=>r.1=YC/\s'=s/\∀v∈rest,∃i t,v=Vl i t) _ ?_ ?_ _ _ ⟨rfl,rfl,items_int hi⟩)
 .rintro v rest r s' ⟨hr,rfl,hall⟩
  obtain⟨i,t,rfl⟩:=hall v (.head _);refine Xb (wpAny_of_eq (show hashByValue 7 (.int i t)=pure YD from rfl) ?_);simp only[Vo,XR,if_false];exact Xl ⟨rfl,rfl,λu hu=>hall u (.tail _ hu)⟩
 .rintro⟨r1,r2⟩ s' ⟨hr,rfl,_⟩
  simp only at hr;subst hr;exact Xl h
theorem Zj6{k:List Int}{Q:Bool->Xg->Prop}(hk:IK prog w s.heap k a)(h:Q YF s):XJ (X8 prog w) A (ofAClassStatement 8 (.ref a)) Q E s:=by
 have hT:=hk.typeIs;obtain⟨o,its,n,ho,hc,hd,hi⟩:=hk;unfold ofAClassStatement;refine Xb (wpAny_typeOf hT ?_);dsimp only;refine Xb (Xl ?_);refine Xb (Bk ho hd ?_);show XJ _ _ (forIn its _ _>>=_) _ _ s;rw[<-Array.forIn_toList];refine Xb (wpAny_forIn_list _ (λrest r s'=>r.1=YC/\s'=s/\∀v∈rest,∃i t,v=Vl i t) _ ?_ ?_ _ _ ⟨rfl,rfl,items_int hi⟩)
 .rintro v rest r s' ⟨hr,rfl,hall⟩
  obtain⟨i,t,rfl⟩:=hall v (.head _);refine Xb (wpAny_of_eq (show ofAClassStatement 7 (.int i t)=pure YF from rfl) ?_);simp only[XR,if_false];exact Xl ⟨rfl,rfl,λu hu=>hall u (.tail _ hu)⟩
 .rintro⟨r1,r2⟩ s' ⟨hr,rfl,_⟩
  simp only at hr;subst hr;exact Xl h
theorem Zxh{k:List Int}{ys:List Xe}{Q:Bool->Xg->Prop}(hk:IK prog w s.heap k a)(hy:∀y∈ys,∃b k',y= .ref b/\IK prog w s.heap k' b)(h:Q YF s):XJ (X8 prog w) A (searchCouldBeSeen (.ref a) ys) Q E s:=by
 unfold searchCouldBeSeen;refine Xb (wpAny_forIn_list _ (λrest r s'=>r.1=YC/\s'=s/\∀y∈rest,∃b k',y=Xz b/\IK prog w s.heap k' b) _ ?_ ?_ _ _ ⟨rfl,rfl,hy⟩)
 .rintro y rest r s' ⟨hr,rfl,hall⟩
  obtain⟨b,k',rfl,hb⟩:=hall y (.head _);dsimp only;split
  .exact Xl ⟨rfl,rfl,λu hu=>hall u (.tail _ hu)⟩
  .refine Xb (wpAny_eqIsQuiet_tuple hk ?_)
   simp only[Vo,XR,if_false];refine Xb (wpAny_eqIsQuiet_tuple hb ?_);simp only[Vo,XR,if_false];refine Xb (Zj6 hk ?_);simp only[XR,if_false];refine Xb (Zj6 hb ?_);simp only[XR,if_false];exact Xl ⟨rfl,rfl,λu hu=>hall u (.tail _ hu)⟩
 .rintro⟨r1,r2⟩ s' ⟨hr,rfl,_⟩
  simp only at hr;subst hr;exact Xl h
theorem KeysIn.at{U:YG->List Int->Prop}{ks:List (List Int)}{es:Array (Int×Xe)}(h:KeysIn U ks es.toList)(i:Nat):(es[i]?.map (·.1)).getD 0=hAt ks i:=by
 unfold hAt;rw[<-Xi,<-h.hash,Xi,Qd]
end
section
variable {prog:Qa}{w:Qo}{A:Qv}{R:Result->Xg->Prop}{I:YG}{fp wr:List YG}{n:Nat}{Pv:Nat->Xe->Prop}{St:Nat->YH->Prop}
end
def tupI(k:List Int):Xa:=.tuple (k.map Xw)
inductive Zxx(H:Hp):List V->List (List Int)->Prop
 | nil:Zxx H [] []
 | cons {a:YG} {k:List Int} {xs:List V} {ks:List (List Int)} (h:H a=YB (.tup (k.map V.int))) (t:Zxx H xs ks):Zxx H (.ref a::xs) (k::ks)
theorem Zu6{kss:List (List Int)}:∀{xs:List V},Das G H L xs (kss.map tupI)->Zxx H xs kss:=by
 induction kss with
 | nil=>
  intro xs h;cases h;exact .nil
 | cons k kss ih=>
  intro xs h;cases h with
  | cons h t=>
   generalize e:tupI k=d at h;cases h with
   | tup e1 r=>
    cases e;rw[r.int_inv]at e1;exact .cons e1 (ih t)
   | _=>cases e
theorem Zo0:∀{k:List Int} {its:List Xe},Vals (k.map V.int) its->ItemsAre (Vw prog w) k its:=fun{k}=>by
 induction k with
 | nil=>
  intro its h;cases h;exact .nil
 | cons i k ih=>
  intro its h;cases h with
  | cons h t=>
   obtain⟨t0,rfl⟩:=h;exact .cons (intKind_is prog w i t0) (ih t)
section
variable {X:Cx}{p c:Bool}{io:List Nat}{a e:YJ}{pos pos' pl pr:Pos}{t:TA}{mr:MAt}{ra:FA}
theorem Z1v{O:St}(I:Inv X pins O H s){kss:List (List Int)}(h:Zxx H xs kss):∀{its:List Xe},Vals xs its->its.length=kss.length/\∀(i:Nat) (v:Xe),its[i]? =YB v->∃a k,v=Xz a/\kss[i]? =YB k/\IK X.prog X.w s.heap k a:=by
 induction h with
 | nil=>
  intro its r;cases r;exact⟨rfl,λi v e=>by simp at e⟩
 | cons h t ih=>
  intro its r;cases r with
  | cons r rr=>
   cases r;obtain⟨l,g⟩:=ih rr;refine⟨by rw[QC,QC,l],λi v e=>?_⟩;cases i with
   | zero=>
    cases e;obtain⟨its',rv,pl,_⟩:=I.tuple (.inl (.inl h));obtain⟨o,ho,hc,n,hd⟩:=(show s.heap.IsTuple _ its'.toArray from pl);exact⟨_,_,rfl,rfl,o,its'.toArray,n,ho,hc,hd,Zo0 rv⟩
   | succ i=>exact g i v e
def Ycx(ds:List Xa):Option (List Xa):=match ds with|[.list es]=>YB es|_=>YC
theorem Z1u{es:List Xa}(h:Ycx ds=YB es):ds=[.list es]:=by
 unfold Ycx at h;split at h
 .cases h;rfl
 .cases h
end
section
variable {X:Cx}{G:Xd}
def Zt3(d:Xa)(ds:List Xa):Bool:=ds.any λy=>QS y d
def Ydi(neg:Bool)(K:Xd):R2:=λx y H Q=>∃(L L':YG->Prop) (d e:Xa) (ds:List Xa),Da K H L x d/\Da K H L' y e/\Zh3 e=YB ds/\d.canLay0=YD/\e.canLay0=YD/\d.depth<=32/\Q (.bl (if neg then !Zt3 d ds else Zt3 d ds)) H
theorem Zv9{d:Xa}(hd:d.depth<=32)(hu:A.units+64<Vh):A.units+1+min (PyData.depthAll ds) d.depth<Vh:=by
 have:=Nat.min_le_right (PyData.depthAll ds) d.depth;omega
theorem Zyi(hu:X.A.units+64<Vh):OpR X (QH .In) (Ydi YF X.K):=by
 intro pins s O H x y v u Q I rx ry h;obtain⟨L,L',d,e,ds,h1,h2,h3,s1,s2,hd,q⟩:=h;obtain⟨as,k1⟩:=h1.reads rfl I rx s1;obtain⟨bs,k2⟩:=h2.reads rfl I ry s2;cases e<;>cases h3
 .exact SeqAt.in_list_reads k2 k1 s2 s1 (Zv9 hd hu) ⟨.bl _,H,I,rfl,q⟩
 .exact SeqAt.in_tuple_reads k2 k1 s2 s1 (Zv9 hd hu) ⟨.bl _,H,I,rfl,q⟩
theorem Zgh(hu:X.A.units+64<Vh):OpR X (QH .NotIn) (Ydi YD X.K):=by
 intro pins s O H x y v u Q I rx ry h;obtain⟨L,L',d,e,ds,h1,h2,h3,s1,s2,hd,q⟩:=h;obtain⟨as,k1⟩:=h1.reads rfl I rx s1;obtain⟨bs,k2⟩:=h2.reads rfl I ry s2;cases e<;>cases h3
 .exact SeqAt.notIn_list_reads k2 k1 s2 s1 (Zv9 hd hu) ⟨.bl _,H,I,rfl,q⟩
 .exact SeqAt.notIn_tuple_reads k2 k1 s2 s1 (Zv9 hd hu) ⟨.bl _,H,I,rfl,q⟩
def Za7(neg:Bool):Xa->Xa->Option Xa:=λd e=>match Zh3 e with
 | some ds=>if(d.canLay0&&(e.canLay0&&decide (d.depth<=32)))=YD then YB (.bool (if neg then !Zt3 d ds else Zt3 d ds))else YC
 | none=>YC
def Yf6(neg:Bool):Xa->Xa->(Xa->Prop)->Prop:=λd e k=>∃r,Za7 neg d e=YB r/\k r
theorem Zkr:P2s G (Ydi neg G) (Yf6 neg):=λH L x y d e k Q hx hy h kk=>by
 obtain⟨r,h,hk⟩:=h;unfold Za7 at h;split at h
 case h_2=>cases h
 rename_i ds q;split at h
 case isFalse=>cases h
 rename_i q2;rw[X3,X3,decide_eq_true_eq]at q2;cases h;exact⟨L,L,d,e,ds,hx,hy,q,q2.1,q2.2.1,q2.2.2,kk _ _ (.bl _) hk⟩
theorem Zjz:ByS (Za7 neg) (Yf6 neg):=λd e r k h hk=>⟨r,h,hk⟩
end
abbrev Yio(h:YH)(T:YG)(a b c:Xe):Prop:=h.get? T=YB { cls:=.type "tuple",data:=.seq #[a,b,c] }
structure Z3A(z TI TO i1 i2 i3:YG)(f1 f2 f3:List YG):Prop where
 TIz:TI≠z
 TOz:TO≠z
 a1:∀c∈f1,c≠z/\c≠TO/\c≠i2/\c≠i3
 a2:∀c∈f2,c≠z/\c≠TO/\c≠i1/\c≠i3
 a3:∀c∈f3,c≠z/\c≠TO/\c≠i1/\c≠i2
section
variable {P:Qa}{w:Qo}{A:Qv}{E:Xe->Xg->Prop}{s:Xg}
end
abbrev z3A(h:YH)(a:YG):YH:=h.push { cls:=.type "list_iterator",data:=.fields #[.ref a,.int 0 0] }
abbrev z3B(h:YH)(a b:YG):YH:=z3A (z3A h a) b
abbrev z3C(h:YH)(a b c:YG):YH:=z3A (z3B h a b) c
abbrev z3D(h:YH)(a b c:YG):YH:=(z3C h a b c).push { cls:=.type "tuple",data:=.seq #[.ref h.objs.size,.ref (z3A h a).objs.size,.ref (z3B h a b).objs.size] }
abbrev z3E(h:YH)(a b c:YG):YH:=(z3D h a b c).push { cls:=.type "tuple",data:=.seq #[.none,.none,.none] }
abbrev z3F(h:YH)(a b c:YG):YH:=(z3E h a b c).push { cls:=.type "zip",data:=.fields #[.none,.bool YF,.bool YF,.ref (z3C h a b c).objs.size,.ref (z3D h a b c).objs.size] }
section
variable {P:Qa}{w:Qo}{A:Qv}{E:Xe->Xg->Prop}{s:Xg}
end
section
variable {X:Cx}{io:List Nat}{p c:Bool}{a b e:YJ}{mr:MAt}{ra:FA}
end
def Up(xs:List Nat):Prop:=xs.Pairwise (·<·)
theorem Zk3{xs:List Nat}(h:Up xs){a b:Nat}(ha:xs[i]? =YB a)(hb:xs[j]? =YB b)(l:i<j):a<b:=by
 obtain⟨hi,rfl⟩:=Xk.mp ha;obtain⟨hj,rfl⟩:=Xk.mp hb;exact BR.mp h i j hi hj l
theorem getD_at{xs:Array Nat}{d:Nat}(h:i<xs.size):xs.toList[i]? =YB (xs.getD i d):=by
 rw[Qd,Q0 h,Array.getD,dif_pos h];rfl
theorem Zxl{xs:Array Nat}(up:Up xs.toList):∀(fuel lo hi:Nat),hi-lo<=fuel->lo<=hi->hi<=xs.size->(∀i a,i<lo->xs.toList[i]? =YB a->a<j)->(∀i a,hi<=i->xs.toList[i]? =YB a->j<=a) ->
  ∃p,SetTable.below.go xs j fuel lo hi=p/\p<=xs.size/\(∀i a,i<p->xs.toList[i]? =YB a->a<j)/\∀i a,p<=i->xs.toList[i]? =YB a->j<=a:=by
 intro fuel
 induction fuel with
 | zero=>
  intro lo hi f l z h1 h2;have e:lo=hi:=by omega
  exact⟨lo,rfl,by omega,h1,λi a q=>h2 i a (by omega)⟩
 | succ fuel ih=>
  intro lo hi f l z h1 h2;rw[SetTable.below.go]
  by_cases c:lo<hi
  .rw[YM c]
   have hm:(lo+hi)/2<xs.size:=by omega
   have em:=getD_at (xs:=xs) (d:=j) hm
   by_cases q:xs.getD ((lo+hi)/2) j<j
   .simp only[YM q]
    refine ih _ _ (by omega) (by omega) z (λi a li ea=>?_) h2
    by_cases e:i=(lo+hi)/2
    .subst e
     rw[em]at ea;cases ea;exact q
    .exact Vm (Zk3 up ea em (by omega)) q
   .simp only[YQ q]
    refine ih _ _ (by omega) (by omega) (by omega) h1 λi a li ea=>?_
    by_cases e:i=(lo+hi)/2
    .subst e
     rw[em]at ea;cases ea;omega
    .have:=Zk3 up em ea (by omega)
     omega
  .rw[YQ c]
   have e:lo=hi:=by omega
   exact⟨lo,rfl,by omega,h1,λi a q=>h2 i a (by omega)⟩
theorem Zda{xs:Array Nat}(up:Up xs.toList)(j:Nat):Qx xs j<=xs.size/\(∀i a,i<Qx xs j->xs.toList[i]? =YB a->a<j)/\∀i a,Qx xs j<=i->xs.toList[i]? =YB a->j<=a:=by
 obtain⟨p,e,h⟩:=Zxl (j:=j) up xs.size 0 xs.size (by omega) (Qw _) (Xy _) (λi a q=>YZ q (Q9 _)) λi a q ea=>by
  have:=(Xk.mp ea).1;rw[Xv]at this;omega
 unfold Qx;rw[e];exact h
theorem Zpp{xs:Array Nat}(up:Up xs.toList){a:Nat}(h:xs.toList[i]? =YB a):Qx xs (a+1)=i+1:=by
 obtain⟨b0,b1,b2⟩:=Zda up (a+1);have hi:=(Xk.mp h).1;rw[Xv]at hi;rcases U7 (Qx xs (a+1)) (i+1)with c|c|c
 .have:=b2 i a (by omega) h
  omega
 .exact c
 .have hs:i+1<xs.toList.length:=by rw[Xv];omega
  have e1:=Xn hs;have:=b1 (i+1) _ c e1;have:=Zk3 up h e1 (QB _);omega
theorem Zpe{xs:Array Nat}(up:Up xs.toList):Qx xs 0=0:=by
 obtain⟨b0,b1,_⟩:=Zda up 0;cases e:Qx xs 0 with
 | zero=>rfl
 | succ k=>
  rw[e]at b0 b1;have hs:0<xs.toList.length:=by rw[Xv];omega
  exact YZ (b1 0 _ (Nat.zero_lt_succ _) (Xn hs)) (Q9 _)
theorem Z8c{xs:List Nat}(up:Up xs){p:Nat}(h1:∀i a,i<p->xs[i]? =YB a->a<j)(h2:∀i a,p<=i->xs[i]? =YB a->j<a):Up (xs.take p++j::xs.drop p):=by
 refine List.pairwise_append.mpr ⟨up.sublist (List.take_sublist ..),Vb.mpr ⟨λa ha=>?_,up.sublist (List.drop_sublist ..)⟩,λa ha b hb=>?_⟩
 .obtain⟨i,hi⟩:=Vy ha
  rw[List.getElem?_drop]at hi;exact h2 _ a (Vd _ _) hi
 .obtain⟨i,hi⟩:=Vy ha
  have ip:i<p:=by
   have:=(Xk.mp hi).1;rw[Ba]at this;omega
  rw[List.getElem?_take_of_lt ip]at hi;have aj:=h1 i a ip hi;rcases Xo.mp hb with rfl|hb
  .exact aj
  .obtain⟨k,hk⟩:=Vy hb
   rw[List.getElem?_drop]at hk;exact Vm aj (h2 _ b (Vd _ _) hk)
def Zcw(t:QK)(j:Nat):Prop:=t.place[Qx t.place j]? ≠YB j
structure Tb(b:Bool)(t:QK):Prop where
 led:t.led=b
 up:t.plain=YD->Up t.place.toList
theorem Zmv{t:QK}(h:t.slot j= .empty\/t.slot j= .dummy):Zcw t j:=λz=>by
 have:t.slot j= .live (Qx t.place j):=by
  unfold SetTable.slot;rw[YM (ZC.mpr z)]
 rcases h with h|h<;>rw[this]at h<;>cases h
theorem Zsb{t:QK}{f:Nat->Int}{h:Int}:∀(fuel:Nat) (p:Va),(∀d,p.dummy=YB d->Zcw t d)->∀j dm,Uo t f h fuel p=YB (.empty j dm)->Zcw t j/\∀d,dm=YB d->Zcw t d:=by
 intro fuel
 induction fuel with
 | zero=>intro p _ j dm e;cases e
 | succ fuel ih=>
  have adv:∀q:Va,(t.advance q).dummy=q.dummy:=λq=>by
   unfold SetTable.advance;split<;>rfl
  intro p hp j dm e;rw[Uo]at e;split at e
  .rename_i c
   cases e;exact⟨Zmv (.inl c),hp⟩
  .rename_i c
   refine ih _ (λd hd=>?_) j dm e;rw[adv]at hd;cases hd;exact Zmv (.inr c)
  .split at e
   .cases e
   .exact ih _ (λd hd=>hp d (by rw[adv]at hd;exact hd)) j dm e
theorem Zwr{t:QK}{h:Int}{d:Bool}(e:t.freeSlot h=YB (j,d)):Zcw t j:=by
 unfold QK.freeSlot at e;split at e
 .rename_i j' dm q
  cases e;obtain⟨h1,h2⟩:=Zsb _ _ (λd hd=>by cases hd) _ _ q;cases dm with
  | none=>exact h1
  | some d=>exact h2 d rfl
 .cases e
theorem Zyb{t:QK}(up:Up t.place.toList)(n:Zcw t j):Up (t.put j).1.place.toList:=by
 show Up (JS t.place (Qx t.place j) j).toList;obtain⟨b0,b1,b2⟩:=Zda up j;rw[SetTable.toList_insertAt];refine Z8c up b1 λi a l ea=>?_;have ja:=b2 i a l ea;rcases Bh j a with c|c
 .exact c
 .have e:a=j:=by omega
  subst e;exfalso;rcases Bh (Qx t.place a) i with c2|c2
  .have hs:Qx t.place a<t.place.toList.length:=Vm c2 (Xk.mp ea).1
   have e1:=Xn hs;have:=Zk3 up e1 ea c2;have:=b2 _ _ (Xy _) e1;omega
  .have e:i=Qx t.place a:=by omega
   subst e;exact n (by rw[<-Qd];exact ea)
theorem Tb.stand{b:Bool}{t:QK}(h:Tb b t)(n:Nat):Tb b (t.standIn n):=⟨h.led,λz=>nomatch z⟩
theorem Tb.lay{b:Bool}{t:QK}(h:Tb b t)(es:Array (Int×Xe))(k:Int)(x:Xe):Tb b (layNew t es k x).2.1:=by
 unfold layNew;split
 .rename_i j d e
  dsimp only;unfold QK.orStandIn;split
  .exact⟨h.led,λz=>Zyb (h.up z) (Zwr e)⟩
  .exact⟨h.led,λz=>nomatch z⟩
 .exact h.stand _
theorem Zk6(f:Nat->Option Nat)(n:Nat):Up (((Xj n).filterMap λj=>(f j).map (j,·)).map (·.1)):=by
 have e:∀l:List Nat,((l.filterMap λj=>(f j).map (j,·)).map (·.1)).Sublist l:=λl=>by
  induction l with
  | nil=>exact .slnil
  | cons a l ih=>
   rw[QQ];cases f a with
   | none=>exact ih.cons a
   | some v=>exact ih.cons_cons a
 exact List.Pairwise.sublist (e _) List.pairwise_lt_range
theorem Tb.relay{b:Bool}{t:QK}(h:Tb b t)(es:Array (Int×Xe))(n:Nat):Tb b (relayAll t es n).2.1:=by
 unfold relayAll;split
 .rename_i t' order e
  dsimp only;split
  .unfold SetTable.relaid SetTable.laid at e
   obtain⟨ow,_,e⟩:=Option.bind_eq_some_iff.mp e;cases e;exact⟨h.led,λ_=>Zk6 _ _⟩
  .exact h.stand _
 .exact h.stand _
def vI:Xe->Int
 | .int k _=>k
 | _=>0
def SetI(prog:Qa)(w:Qo)(b:Bool)(h:YH)(S:YG)(ks:List Int):Prop :=
 ∃o es ep t,h.get? S=YB o/\o.ExactSet/\o.data= .set es ep t/\ElemsOf (Vw prog w) es.toList/\es.size<U8/\t.fits es.size=YD/\Tb b t/\es.toList.map (λe=>vI e.2)=ks
section
variable {prog:Qa}{w:Qo}{A:Qv}{E:Xe->Xg->Prop}{s:Xg}{b:Bool}
theorem Zqd{k:Int}{v:Xe}(h:(Vw prog w).is k v=YD):∃t,v= .int k t:=by
 cases v<;>simp_all [Vw,Value.isInt]
theorem SetI.stay{S:YG}{ks:List Int}(hS:SetI prog w b h S ks)(k:∀o,h.get? S=YB o->h'.get? S=YB o):SetI prog w b h' S ks:=by
 obtain⟨o,es,ep,t,ho,r⟩:=hS;exact⟨o,es,ep,t,k o ho,r⟩
theorem SetI.put{S:YG}{es es':Array (Int×Xe)}{ep:Nat}{t t':QK}(ho:h.get? S=YB o)(hex:o.ExactSet)(hd:o.data= .set es ep t)(he:ElemsOf (Vw prog w) es'.toList)(hb:es'.size<U8)(hf:t'.fits es'.size=YD)(ht:Tb b t') :
  (h.update S (Obj.putSet es' t')).get? S=YB { o with data:=.set es' (ep+1) t' }/\SetI prog w b (h.update S (Obj.putSet es' t')) S (es'.toList.map λe=>vI e.2):=by
 have g:=Heap.get?_update_self (Obj.putSet es' t') ho (by rw[putSet_of es' t' hd];rfl);rw[putSet_of es' t' hd]at g;exact⟨g,_,es',ep+1,t',g,hex,rfl,he,hb,hf,ht,rfl⟩
theorem Zzp{g:Bool->Sem Unit}(hg:∀(c:Bool) (s₁:Xg) (Q':Unit->Xg->Prop),Q' () s₁->XJ (X8 prog w) A (g c) Q' E s₁){S:YG}{es es1:Array (Int×Xe)}{ep:Nat}{t t1:QK}{wasDummy:Bool}{R:Option Bool->Xg->Prop}
  (ho:s.heap.get? S=YB o) (hex:o.ExactSet) (hd:o.data= .set es ep t) (he:ElemsOf (Vw prog w) es1.toList) (hb:es1.size<U8) (hf:t1.fits es1.size=YD) (ht:Tb b t1)
  (q:∀h' ks',Bb S s.heap h'->SetI prog w b h' S ks'->ks'.Perm (es1.toList.map λe=>vI e.2)->R (YB YD) { s with heap:=h' }) :
  XJ (X8 prog w) A (do
    storeSet S es1 t1
    if(!wasDummy&&t1.tooFull)=YD then do
      g (relayAll t1 es1 (VD es1.size)).2.2
      storeSet S (relayAll t1 es1 (VD es1.size)).1 (relayAll t1 es1 (VD es1.size)).2.1
      pure (YB YD)
     else pure (YB YD)) R E s:=by
 refine Xb (wpAny_storeSet_of ho hd ?_ (fits_of_scanBound hb));obtain⟨g1,S1⟩:=SetI.put (b:=b) ho hex hd he hb hf ht;split
 .have pm:=relayAll_perm t1 es1 (VD es1.size)
  have ff:=relayAll_fits t1 es1 (VD es1.size);have tt:=ht.relay es1 (VD es1.size);generalize relayAll t1 es1 (VD es1.size)=Rl at pm ff tt|-
  obtain⟨es2,t3,gv⟩:=Rl;have sz:es2.size=es1.size:=by rw[<-Xv,pm.length_eq,Xv]
  have b2:es2.size<U8:=by rw[sz];exact hb
  refine Xb (hg _ _ _ (Xb (wpAny_storeSet_of g1 rfl ?_ (fits_of_scanBound b2))));obtain⟨_,S2⟩:=SetI.put (b:=b) g1 hex rfl (he.perm pm) b2 ff tt;exact Xl (q _ _ ((QF s.heap S _).trans (QF _ S _)) S2 (pm.map _))
 .exact Xl (q _ _ (QF s.heap S _) S1 (.refl _))
theorem Yd4{S:YG}{ks:List Int}{k:Int}{u:Tok}{Q:Bool->Xg->Prop}(hS:SetI prog w b s.heap S ks)(hr:ks.length+1<U8)
  (q:∀v h' tk ks',Bb S s.heap h'->SetI prog w b h' S ks'->(k∈ks->ks'=ks)->(k∉ks->ks'.Perm (ks++[k]))->Q v { s with heap:=h',toks:=tk }):XJ (X8 prog w) A (setAdd S (.int k u)) Q E s:=by
 have hS0:=hS;obtain⟨o,es,ep,t,ho,hex,hd,he,hb,hf,ht,rfl⟩:=hS;unfold setAdd;refine JK (Xb ((Vw prog w).pyHash (k:=k) (intKind_is _ _ _ _) ?_));show XJ _ _ (setAddHashed S (.int k u) ((Vw prog w).hash k)) Q E { s with toks:=s.toks+1 };unfold setAddHashed setAddHashedIn;refine JK (Xb (JH (s:={ s with toks:=s.toks+1 }) ho hd hf ?_));dsimp only;rw[byScan_of (x:=.int k u) rfl hb he,YM rfl];unfold setAddByScan;refine Xb (Xb (U4 (Xb (wpAny_setScan_of (s:={ s with toks:=s.toks+1 }) (intKind_is prog w k u) ho hd hf he ?_))));cases hx:List.findIdx? (λe=>(Vw prog w).is k e.2) es.toList with
 | some j=>
  dsimp only;obtain⟨hj,pj,_⟩:=List.findIdx?_eq_some_iff_getElem.mp hx;obtain⟨tj,ej⟩:=Zqd pj;have hk:k∈es.toList.map λe=>vI e.2:=XM.mpr ⟨_,Bl hj,by rw[ej];rfl⟩;exact Xl (Xl (q _ s.heap _ _ (Heap.SameBut.refl ..) hS0 (λ_=>rfl) λz=>YZ hk z))
 | none=>
  dsimp only;have hk:k∉es.toList.map λe=>vI e.2:=λz=>by
   obtain⟨e,m,ev⟩:=XM.mp z;obtain⟨⟨k',i1,_⟩,_⟩:=he e m;obtain⟨t',e2⟩:=Zqd i1;have:=List.findIdx?_eq_none_iff.mp hx e m;rw[e2]at this ev;cases ev;have z2:(Vw prog w).is k' (.int k' t')=YF:=this;rw[intKind_is]at z2;cases z2
  have gw:∀(c:Bool) {s₁:Xg} {Q':Unit->Xg->Prop},Q' () s₁->XJ (X8 prog w) A (match c with|true=>rule "set.scan.the-table-gave-way"|false=>pure ()) Q' E s₁:=λc s₁ Q' z=>by
   cases c<;>first|exact Xl z|exact U4 z
  have pm:=layNew_perm t es ((Vw prog w).hash k) (.int k u);have ff:=layNew_fits t es ((Vw prog w).hash k) (.int k u);have tt:=ht.lay es ((Vw prog w).hash k) (.int k u);generalize layNew t es ((Vw prog w).hash k) (.int k u)=Ln at pm ff tt|-
  obtain⟨es1,t1,wd,gv⟩:=Ln;dsimp only at pm ff tt|-
  rw[Array.toList_push]at pm;have he1:ElemsOf (Vw prog w) es1.toList:=(he.push (intKind_is prog w k u) rfl).perm pm;have hb1:es1.size<U8:=by
   rw[<-Xv,pm.length_eq,XX];rw[Xc]at hr;exact hr
  refine Xb (gw _ ?_);have fin:∀h' ks',Bb S s.heap h'->SetI prog w b h' S ks'->ks'.Perm (es1.toList.map λe=>vI e.2)->XJ (X8 prog w) A (pure YD) Q E { s with heap:=h',toks:=s.toks+1 }:=λh' ks' sb S' p'=>Xl (q _ h' _ ks' sb S' (λz=>YZ z hk) λ_=>p'.trans (by
   have:=pm.map (λe:Int×Xe=>vI e.2);rw[Qh]at this;exact this))
  have hv:hashByValue 8 (.int k u)=pure YD:=hashByValue_scannable 8 (x:=.int k u) rfl;split
  .refine Xb ?_
   rw[hv];refine Xl ?_;simp only[if_true];exact Zzp (s:={ s with toks:=s.toks+1 }) (by intro c s₁ Q' z;cases c<;>first|exact Xl z|exact U4 z) ho hex hd he1 hb1 ff tt λh' ks' sb S' p'=>fin h' ks' sb S' p'
  .refine Xb (Xl ?_)
   simp only[if_true];exact Zzp (s:={ s with toks:=s.toks+1 }) (by intro c s₁ Q' z;cases c<;>first|exact Xl z|exact U4 z) ho hex hd he1 hb1 ff tt λh' ks' sb S' p'=>fin h' ks' sb S' p'
end
def byT(w:Qo):Bool:=w.params.followText "set-order"
def Of(ks ns:List Int):Prop:=ks.Nodup/\∀x,x∈ks↔x∈ns
section
variable {prog:Qa}{w:Qo}{A:Qv}{R:Result->Xg->Prop}{I:YG}{fp wr:List YG}{n:Nat}{Pv:Nat->Xe->Prop}{St:Nat->YH->Prop}{b:Bool}
theorem Z8t(W:Walks prog w A.in1 I fp wr n Pv St)(S:YG)(sf:S∉fp)(ns:List Int)(ln:ns.length=n)(lb:n+1<U8)(hv:∀i v,Pv i v->∃k t,v= .int k t/\ns[i]? =YB k) :
  ∀(m i:Nat) (s:Xg) (ks:List Int),n-i=m->i<=n->St i s.heap->SetI prog w b s.heap S ks->Of ks (ns.take i)->ks.length<=i ->
  (∀ h' tk ks',SetI prog w b h' S ks'->Of ks' ns->(∀b o,b∉wr->b≠S->s.heap.get? b=YB o->h'.get? b=YB o)->R (.ok (.ret .none)) { s with heap:=h',toks:=tk }) ->
  codeAny (X8 prog w) A (.builtin "set.update.loop" ⟨[.ref S,.ref I],[]⟩) R s:=by
 have sw:S∉wr:=λh=>sf (W.sub _ h);intro m
 induction m with
 | zero=>
  intro i s ks em ei st hS hO lk r;have en:i=n:=by omega
  refine Bc U3 ?_;rw[JV Vj _];show XJ _ A.in1 (Ul (.ref I)>>=_) _ _ _;refine Xb (W.done s _ _ (en▸st) λh' tk kp=>?_);show XJ _ A.in1 (ret QJ) _ _ { s with heap:=h',toks:=tk };rw[Bw (by omega)]at hO;exact Xl (r h' tk ks (hS.stay λo e=>kp S o sw e) hO λb o nb _ e=>kp b o nb e)
 | succ m ih=>
  intro i s ks em ei st hS hO lk r;have lt:i<n:=by omega
  refine Bc U3 ?_;rw[JV Vj _];show XJ _ A.in1 (Ul (.ref I)>>=_) _ _ _;refine Xb (W.item i s _ _ lt st λv h' tk pv st' kp=>?_);obtain⟨k,t,rfl,ek⟩:=hv i v pv;show XJ _ A.in1 (holding [Vl k t] (setAdd S (.int k t))>>=_) _ _ { s with heap:=h',toks:=tk };refine Xb (JK (Yd4 (s:={ s with heap:=h',toks:=tk }) (hS.stay λo e=>kp S o sw e) (by omega) λv h2 tk2 ks2 sb hS2 c1 c2=>?_));have k2:∀b o,b≠S->h'.get? b=YB o->h2.get? b=YB o:=λb o nS e=>by rw[sb.2 b nS];exact e
  have et:ns.take (i+1)=ns.take i++[k]:=by rw[List.take_succ,ek];rfl
  have hO2:Of ks2 (ns.take (i+1))/\ks2.length<=i+1:=by
   by_cases c:k∈ks
   .rw[c1 c]
    refine⟨⟨hO.1,λx=>?_⟩,Nat.le_succ_of_le lk⟩;rw[et,Qn,<-hO.2,Xq];exact⟨.inl,λm=>m.elim id λe=>e▸c⟩
   .have pm:=c2 c
    refine⟨⟨pm.nodup_iff.mpr (Vx.mpr ⟨hO.1,Qq.mpr ⟨(λz=>nomatch z),.nil⟩,λa ha y hy e=>c (by rw[<-Xq.mp hy,<-e];exact ha)⟩),λx=>?_⟩,by rw[pm.length_eq,XX];exact VM lk⟩;rw[pm.mem_iff,et,Qn,Qn,hO.2]
  refine Xl ⟨Uh Vj _,ih (i+1) _ ks2 (by omega) lt (W.frame _ _ _ st' λb bf o e=>k2 b o (λh:b=S=>sf (by rw[<-h];exact bf)) e) hS2 hO2.1 hO2.2 λh3 tk3 ks3 hS3 hO3 kp3=>?_⟩;exact r h3 tk3 ks3 hS3 hO3 λb o nb nS e=>kp3 b o nb nS (k2 b o nS (kp b o nb e))
end
section
variable {prog:Qa}{w:Qo}{A:Qv}{E:Xe->Xg->Prop}{s:Xg}
theorem Yap(a:Xe){Q₁:Xe->Xg->Prop}(h:Q₁ (.ref s.heap.objs.size) { s with heap:=s.heap.push { cls:=.type "set",dict:=YC,data:=.set #[] 0 (.fresh 0 0 (!byT w)) } }) :
  codeAny (X8 prog w) A (.call (.builtin "set.__new__") ⟨[.type "set",a],[]⟩) (wants Q₁ E) s:=by
 refine codeAny_of_tree ?_;show XJ _ A.in1 (do checkBuiltinCall "set.__new__" ⟨[.type "set",a],[]⟩;again (.builtin "set.__new__" ⟨[.type "set",a],[]⟩)) _ _ s;refine Xb (wpAny_of_eq (F.newCall_set_1 a) (Xl ⟨Uh F.plain_set_new _,Bc F.entry_set_new ?_⟩));rw[JV F.plain_set_new _];unfold By.«set.__new__» Builtin.Frozenset.newClass;have hsub:=sub_set_self;obtain⟨hp,g,d,tk,os⟩:=s;dsimp only
 wp_walk
 refine wpAny_askSetting (Xl ?_);dsimp only;simp only[newObj];exact Xb (wpAny_alloc (Xl (Xl h)))
theorem Z44{its:Array Xe}{b:Bool}(hh:A.handled=YC)(hl:s.heap.IsList l its)(ln:ns.length=its.size)(lb:its.size+1<U8)(hv:∀(i:Nat) (v:Xe),its[i]? =YB v->∃k t,v=Vl k t/\ns[i]? =YB k)
  (q:∀h' tk ks,SetI prog w b h' s.heap.objs.size ks->Of ks ns->(∀b o,b<s.heap.objs.size->s.heap.get? b=YB o->h'.get? b=YB o)->Q .none { s with heap:=h',toks:=tk }) :
  XJ (X8 prog w) A (By.«set.__init__» ⟨[Xz s.heap.objs.size,Xz l],[]⟩) (λfin s'=>∃v,fin= .done (.ret v)/\Q v s') E { s with heap:=s.heap.push { cls:=.type "set",dict:=YC,data:=.set #[] 0 (.fresh 0 0 b) } }:=by
 obtain⟨ol,hol,hcl,nl,hdl⟩:=id hl;obtain⟨ocls,odict,odata,oslots⟩:=ol;simp only at hcl hdl;subst hcl hdl;have ho':(s.heap.push { cls:=.type "set",dict:=YC,data:=.set #[] 0 (.fresh 0 0 b) }).get? l=YB { cls:=.type "list",dict:=odict,data:=.seq its nl,slots:=oslots }:=Xf _ hol;have gS:(s.heap.push { cls:=.type "set",dict:=YC,data:=.set #[] 0 (.fresh 0 0 b) }).get? s.heap.objs.size=YB { cls:=.type "set",dict:=YC,data:=.set #[] 0 (.fresh 0 0 b) }:=XF _ rfl;have hT:Shared.TypeIs { s with heap:=s.heap.push { cls:=.type "set",dict:=YC,data:=.set #[] 0 (.fresh 0 0 b) } } (.ref s.heap.objs.size) "set" :=⟨_,gS,rfl⟩;have h1:=F.sub_list_set;have h2:=F.sub_list_frozenset;have h3:(Value.type "list"==Value.type "dict")=YF:=by decide
 have hl1:(s.heap.push { cls:=.type "set",dict:=YC,data:=.set #[] 0 (.fresh 0 0 b) }).IsList l its:=⟨_,ho',rfl,nl,rfl⟩;unfold By.«set.__init__» noKeywords Builtin.Frozenset.updateFrom;generalize hPI:pyIter=PI
 wp_walk
 subst hPI;refine wpAny_pyIter_list hl1 (Xb (wpAny_runValue ?_));have lS:l<s.heap.objs.size:=XN hol;refine Z8t (b:=b) (Walks.list (by simpa using hh) _ l ?hne its) s.heap.objs.size ?sf ns ln lb (λi v hiv=>hv i v hiv) its.size 0 _ [] (by omega) (Qw _) ⟨⟨_,XF _ rfl,rfl,rfl⟩,hl1.push _⟩ ⟨_,#[],0,_,Xf _ gS,⟨rfl,rfl,rfl⟩,rfl,(λe m=>nomatch m),(by decide),rfl,⟨rfl,λ_=>.nil⟩,rfl⟩ ⟨.nil,λx=>by rw[List.take_zero]⟩ (Xy _) ?hR
 case hne=>rw[Qz];exact Xp (QW lS)
 case sf=>
  rw[Qz];intro m;rcases Xo.mp m with e|m
  .exact Xp (QB _) e
  .exact X6 lS (Xq.mp m)
 case hR=>
  intro h' tk ks hS hO kp;refine Xl ?_;show XJ _ _ (ret QJ) _ _ { s with heap:=h',toks:=tk };refine Xl ⟨_,rfl,q h' tk ks hS hO λb o lb e=>?_⟩;refine kp b o (λm=>?_) (Xp lb) (Xf _ (Xf _ e));rw[Qz]at m;exact Xp (QW lb) (Xq.mp m)
theorem Zrn{its:Array Xe}(hh:A.handled=YC)(hl:s.heap.IsList l its)(ln:ns.length=its.size)(lb:its.size+1<U8)(hv:∀(i:Nat) (v:Xe),its[i]? =YB v->∃k t,v=Vl k t/\ns[i]? =YB k)
  (q:∀h' tk ks,SetI prog w (!byT w) h' s.heap.objs.size ks->Of ks ns->(∀b o,b<s.heap.objs.size->s.heap.get? b=YB o->h'.get? b=YB o)->Q (Xz s.heap.objs.size) { s with heap:=h',toks:=tk }) :
  XJ (X8 prog w) A (call (.type "set") [Xz l]) Q E s:=by
 obtain⟨c,tl,e0⟩:=JT.mro;have e1:=JT.made;have e2:=JT.sub;refine wpAny_call (codeAny_of_tree ?_);show XJ _ _ (callAny (.type "set") _) _ _ _;refine Xl ⟨Code.quiet_builtin _ (by decide +kernel),Bc F.entry_type_call ?_⟩;rw[Around.under_plain (weight_type_call_type "set" [Xz l] []) rfl];have e3:=JT.notType;have e4:=JT.canCreate;have e5:=F.typeCall_set_1 (Xz l)
 repeat any_goals first|assumption|wp_step
 refine codeAny_mono (Yap (Xz l) (E:=E) (Q₁:=λobj s1=>obj=Xz s.heap.objs.size/\s1={ s with heap:=s.heap.push { cls:=.type "set",dict:=YC,data:=.set #[] 0 (.fresh 0 0 (!byT w)) } }) ⟨rfl,rfl⟩) λr s1 r1=>?_;cases r with
 | error e=>exact r1
 | ok fl=>
  cases fl with
  | ret obj=>
   obtain⟨rfl,rfl⟩:=r1;have gS:(s.heap.push { cls:=.type "set",dict:=YC,data:=.set #[] 0 (.fresh 0 0 (!byT w)) }).get? s.heap.objs.size=YB { cls:=.type "set",dict:=YC,data:=.set #[] 0 (.fresh 0 0 (!byT w)) }:=XF _ rfl;have hT:Shared.TypeIs { s with heap:=s.heap.push { cls:=.type "set",dict:=YC,data:=.set #[] 0 (.fresh 0 0 (!byT w)) } } (Xz s.heap.objs.size) "set" :=⟨_,gS,rfl⟩;have e6:=JT.init.lookup;have e7:=JT.init.bind (Xz s.heap.objs.size)
   repeat any_goals first|assumption|wp_step
   refine codeAny_mono (codeAny_call_builtin (R:=wants (λr s2=>r= .none/\∃h' tk ks,s2={ s with heap:=h',toks:=tk }/\SetI prog w (!byT w) h' s.heap.objs.size ks/\Of ks ns/\∀b o,b<s.heap.objs.size->s.heap.get? b=YB o->h'.get? b=YB o) E) JT.init.plain F.entry_set_init (check_set_init_1 hT ?_)) λr2 s2 hr2=>?_
   .refine Bo (Z44 (b:=!byT w) (by simpa using hh) hl ln lb hv (Q:=λr s2=>r= .none/\∃h' tk ks,s2={ s with heap:=h',toks:=tk }/\SetI prog w (!byT w) h' s.heap.objs.size ks/\Of ks ns/\∀b o,b<s.heap.objs.size->s.heap.get? b=YB o->h'.get? b=YB o) λh' tk ks a1 a2 a3=>⟨rfl,h',tk,ks,rfl,a1,a2,a3⟩) (λfin s' hf=>?_) λ_ _ x=>x
    obtain⟨v,rfl,hq⟩:=hf;exact hq
   .cases r2 with
    | error e=>exact hr2
    | ok fl2=>
     cases fl2 with
     | ret r=>
      obtain⟨rfl,h',tk,ks,rfl,a1,a2,a3⟩:=hr2
      repeat any_goals first|assumption|wp_step
      exact q h' tk ks a1 a2 a3
     | _=>exact hr2.elim
  | _=>exact r1.elim
end
theorem Zr:Slot "set_iterator" "__next__" "set_iterator.__next__" :=
 .of (owner :="set_iterator") (n :="__next__") (by rw[typeLookup_type,builtinLookup_eq_fast];kernel_rfl) (by decide +kernel) (by decide +kernel) (by decide +kernel) (by first|exact .inl (by decide +kernel)|exact .inr (by decide +kernel)) (by rw[isSubtype_type];kernel_rfl)
theorem Y4:entryFor table "set_iterator.__next__"=YB By.«set_iterator.__next__»:=entryFor_of_fast (by kernel_rfl)
theorem Wa(a:Xe):argsOk "set_iterator.__next__" ⟨[a],[]⟩:=by unfold argsOk;kernel_rfl
def Ybh(h:YH)(I S:YG)(slot i n ep:Nat):Prop:=h.get? I=YB { cls:=.type "set_iterator",data:=.fields #[BP slot,BP i,.ref S,BP n,BP ep] }
theorem Zq3:∀{l:List α} {i:Nat} (h:i<l.length),(l[i]::l.eraseIdx i).Perm l:=fun{l}=>by
 induction l with
 | nil=>intro i h;cases h
 | cons a l ih=>
  intro i h;cases i with
  | zero=>exact .refl _
  | succ i=>exact(List.Perm.swap ..).trans ((ih (V2 h)).cons a)
theorem Z11(f:Nat->Nat):∀(fuel k:Nat) (left:List α) (out:Array α),left.length=fuel->(pickOrder.go f fuel k left out).toList.Perm (out.toList++left):=by
 intro fuel
 induction fuel with
 | zero=>
  intro k left out l;rw[List.length_eq_zero_iff.mp l,Qs,pickOrder.go]
 | succ fuel ih=>
  intro k left out l;rw[pickOrder.go];have hlt:f k%left.length<left.length:=Nat.mod_lt _ (by omega);rw[Xn hlt];dsimp only;refine(ih (k+1) _ _ (by rw[List.length_eraseIdx_of_lt hlt];omega)).trans ?_;rw[Array.toList_push,QV];exact List.Perm.append_left _ (Zq3 hlt)
theorem Zs7(f:Nat->Nat)(xs:Array α):(pickOrder f xs).toList.Perm xs.toList:=by
 unfold pickOrder;have:=Z11 f xs.size 0 xs.toList #[] (by rw[Xv])
 rwa[List.nil_append]at this
section
variable {prog:Qa}{w:Qo}{A:Qv}{E:Xe->Xg->Prop}{s:Xg}
theorem Zt1{src:Source}{n:Nat}{Q:Nat->Xg->Prop}(hn:n≠0)(h:∀i,i<n->Q i { s with drawn:=s.drawn.bump src }):XJ (X8 prog w) A (choose src n) Q E s:=fun Γ p _=>by
 show Sem.wp _ _ (.choose src n .pure) _ _ _ _;rw[Sem.wp_choose];exact⟨hn,h _ (Nat.mod_lt _ (Nat.pos_of_ne_zero hn))⟩
theorem Z34:∀(n:Nat) (xs:List α) (s:Xg) (Q:List α->Xg->Prop),xs.length=n->(∀ys d,ys.Perm xs->Q ys { s with drawn:=d })->XJ (X8 prog w) A (drawOrder n xs) Q E s:=by
 intro n
 induction n with
 | zero=>
  intro xs s Q l q;rw[List.length_eq_zero_iff.mp l]at q|-
  exact Xl (q [] s.drawn (.refl _))
 | succ n ih=>
  intro xs s Q l q;cases xs with
  | nil=>cases l
  | cons a xs=>
   rw[drawOrder];refine Xb (Zt1 (by rw[l];exact Nat.succ_ne_zero _) λi hi=>?_);rw[Xn hi];dsimp only;refine Xb (ih _ _ _ (by rw[List.length_eraseIdx_of_lt hi];omega) λys d pm=>Xl (q _ d ?_))
   .exact(pm.cons _).trans (Zq3 hi)
   .intro z;cases z
def Zd7(w:Qo)(S:YG)(ep:Nat)(es:Array (Int×Xe)):List Xe:=(if byT w then(pickOrder (w.params.setOrder S ep) es).toList else es.toList).map (·.2)
theorem Zc6{S:YG}{ep:Nat}{es:Array (Int×Xe)}:(Zd7 w S ep es).Perm (es.toList.map (·.2)):=by
 unfold Zd7;split
 .exact(Zs7 _ es).map _
 .exact .refl _
def Zh7(w:Qo)(t:QK)(slot i:Nat):Prop:=byT w=YF->Qx t.place slot=i
theorem Zf4{Q:Bool->Xg->Prop}(h:Q (byT w) s):XJ (X8 prog w) A setsByText Q E s:=by
 unfold setsByText;exact Xb (wpAny_askSetting (Xl h))
theorem Zh4{S:YG}{es:Array (Int×Xe)}{ep slot:Nat}{t:QK}{Q:Option (Xe×Nat)->Xg->Prop}(ho:s.heap.get? S=YB o)(hd:o.data= .set es ep t)(hf:t.fits es.size=YD)(tb:Tb (!byT w) t)(hdr:byT w=YF->t.plain=YD\/es.size<=1)(hs:Zh7 w t slot i)
  (q:∀r,(∀x,(Zd7 w S ep es)[i]? =YB x->∃nx,r=YB (x,nx)/\Zh7 w t nx (i+1))->((Zd7 w S ep es)[i]? =YC->r=YC)->Q r s):XJ (X8 prog w) A (setNext S slot i ep) Q E s:=by
 unfold setNext;refine Xb (JH ho hd hf (Xb (Zf4 ?_)));cases hb:byT w with
 | true=>
  have ew:Zd7 w S ep es=(pickOrder (w.params.setOrder S ep) es).toList.map (·.2):=by unfold Zd7;rw[hb,YM rfl]
  simp only[if_true,bne_self_eq_false,XR,if_false];unfold setWalk;refine Xb (Xb (JH ho hd hf (Xb (Zf4 ?_))));rw[hb];simp only[if_true];refine Xb (wpAny_askSetting (Xl (Xl (q _ (λx hx=>?_) λhx=>?_))))
  .rw[ew,Xi,Qd]at hx
   show∃nx,Option.map _ (pickOrder (w.params.setOrder S ep) es)[i]? =_/\_;cases e:(pickOrder (w.params.setOrder S ep) es)[i]? with
   | none=>rw[e]at hx;cases hx
   | some y=>
    rw[e]at hx;cases hx;exact⟨slot,rfl,λz=>by rw[hb]at z;cases z⟩
  .rw[ew,Xi,Qd]at hx
   show Option.map _ (pickOrder (w.params.setOrder S ep) es)[i]? =_;cases e:(pickOrder (w.params.setOrder S ep) es)[i]? with
   | none=>rfl
   | some y=>rw[e]at hx;cases hx
 | false=>
  have ew:Zd7 w S ep es=es.toList.map (·.2):=by unfold Zd7;rw[hb];rfl
  have pl:=hdr hb;have le:=tb.led;rw[hb]at le;have bl:=hs hb;obtain⟨mask,place,dummies,finger,led,moves,plain⟩:=t;dsimp only at pl le bl;subst le;have sz0:place.size=es.size:=by
   unfold SetTable.fits at hf;rw[X3,ZC]at hf;exact hf.1
  have up:Up place.toList:=by
   rcases pl with pl|pl
   .exact tb.up pl
   .have l1:place.toList.length<=1:=by rw[Xv,sz0];exact pl
    generalize place.toList=l at l1
    match l,l1 with
    | [],_=>exact .nil
    | [a],_=>exact UJ _ _
  have dr:(!plain&&decide (es.size>1))=YF:=by
   rcases pl with pl|pl
   .rw[pl];rfl
   .rw[YT (by omega),Bool.and_false]
  simp only[XR,if_false];show XJ _ _ (if(!plain&&decide (es.size>1))=YD then _ else _) _ _ _;rw[dr];simp only[XR,if_false];refine Xb (Xl ?_);have sz:place.size=es.size:=by
   unfold SetTable.fits at hf;rw[X3,ZC]at hf;exact hf.1
  rw[bl];refine Xl (q _ (λx hx=>?_) λhx=>?_)
  .rw[ew,Xi,Qd]at hx
   cases e:es[i]? with
   | none=>rw[e]at hx;cases hx
   | some y=>
    rw[e]at hx;cases hx;have hi:i<place.size:=by rw[sz];exact(Array.getElem?_eq_some_iff.mp e).1
    have ep:place[i]? =YB place[i]:=Q0 hi;rw[ep];exact⟨place[i]+1,rfl,λ_=>Zpp up (by rw[Qd];exact ep)⟩
  .rw[ew,Xi,Qd]at hx
   cases e:es[i]? with
   | none=>rfl
   | some y=>rw[e]at hx;cases hx
end
section
variable {prog:Qa}{w:Qo}{A:Qv}{E:Xe->Xg->Prop}{s:Xg}
theorem Zok{I S:YG}{es:Array (Int×Xe)}{ep slot:Nat}{t:QK}{x:Xe}{Q:Option Xe->Xg->Prop}(hI:Ybh s.heap I S slot i es.size ep)(ho:s.heap.get? S=YB o)(hd:o.data= .set es ep t)(hf:t.fits es.size=YD)(tb:Tb (!byT w) t)(hdr:byT w=YF->t.plain=YD\/es.size<=1)(hs:Zh7 w t slot i)(hx:(Zd7 w S ep es)[i]? =YB x)
  (q:∀h' nx,Ybh h' I S nx (i+1) es.size ep->Zh7 w t nx (i+1)->Bb I s.heap h'->Q (YB x) { s with heap:=h' }):XJ (X8 prog w) A (Ul (.ref I)) Q E s:=by
 have hT:s.TypeIs (.ref I) "set_iterator" :=⟨_,hI,rfl⟩;unfold Ul;refine Xb (wpAny_attempt (JZ (name:=Us "__next__") hT Zr (JD Zr hT Y4 ?_ (Wa _))));unfold By.«set_iterator.__next__» slotArgs fieldsOf;simp only[List.isEmpty_nil,Vo,XR,if_false,Vg,bne_self_eq_false,pure_bind,bind_assoc];refine Xb (wpAny_load hI ?_);dsimp only;refine Xb (Xl ?_);show XJ _ _ (setEntries S>>=_) _ _ _;refine Xb (UG ho hd hf ?_);rw[show(((es.size:Nat):Int) !=((es.size:Nat):Int))=YF from bne_self_eq_false _];simp only[XR,if_false];show XJ _ _ (setNext S slot i ep>>=_) _ _ _;refine Xb (Zh4 ho hd hf tb hdr hs λr h1 _=>?_);obtain⟨nx,rfl,sk⟩:=h1 x hx;dsimp only;refine Xb (Q6 hI (by simp) λh2 g2 b2=>?_);refine Xb (Q6 g2 (by simp) λh3 g3 b3=>?_);exact Xl ⟨_,rfl,Xl (q h3 nx g3 sk (b2.trans b3))⟩
theorem Zp3{I S:YG}{es:Array (Int×Xe)}{ep slot:Nat}{t:QK}{Q:Option Xe->Xg->Prop}(hh:A.handled=YC)(hI:Ybh s.heap I S slot i es.size ep)(ho:s.heap.get? S=YB o)(hd:o.data= .set es ep t)(hf:t.fits es.size=YD)(tb:Tb (!byT w) t)(hdr:byT w=YF->t.plain=YD\/es.size<=1)(hs:Zh7 w t slot i)(hx:(Zd7 w S ep es)[i]? =YC)
  (q:∀h',Heap.ExtBut I s.heap h'->Q YC { s with heap:=h' }):XJ (X8 prog w) A (Ul (.ref I)) Q E s:=by
 have hT:s.TypeIs (.ref I) "set_iterator" :=⟨_,hI,rfl⟩;unfold Ul;refine Xb (wpAny_attempt (JZ (name:=Us "__next__") hT Zr (JD Zr hT Y4 ?_ (Wa _))));unfold By.«set_iterator.__next__» slotArgs fieldsOf;simp only[List.isEmpty_nil,Vo,XR,if_false,Vg,bne_self_eq_false,pure_bind,bind_assoc];refine Xb (wpAny_load hI ?_);dsimp only;refine Xb (Xl ?_);show XJ _ _ (setEntries S>>=_) _ _ _;refine Xb (UG ho hd hf ?_);rw[show(((es.size:Nat):Int) !=((es.size:Nat):Int))=YF from bne_self_eq_false _];simp only[XR,if_false];show XJ _ _ (setNext S slot i ep>>=_) _ _ _;refine Xb (Zh4 ho hd hf tb hdr hs λr _ h2=>?_);rw[h2 hx];dsimp only;refine Xb (Q6 hI (by simp) λh3 g3 b3=>?_);show XJ _ _ (newExc (.type "StopIteration") []>>=_) _ _ _;refine Xb ?_;simp only[newExc,newTuple];refine Xb (JW ?_ (by size_fits));refine Xb (m:=firstArgMember _ _) (wpAny_of_eq (a:=QJ) (by first|rfl|(simp only[firstArgMember];rfl)) ?_);refine JW ?_ (by size_fits);simp only[raiseNew];refine Xb (wpAny_handled ?_);rw[show A.in1.handled=YC from hh];refine Xb (Xl (wpAny_throw ?_));exact Xb (wpAny_isInstance (T :="StopIteration") (b:=YD) ⟨_,XF _ rfl,rfl⟩ isSubtype_stop (Xl (q _ ((b3.extBut.push _).push _))))
end
def Ya4(h:YH)(I S T:YG)(i n ep:Nat):Prop:=h.get? I=YB { cls:=.type "set_iterator",data:=.fields #[.ref T,BP i,.ref S,BP n,BP ep] }
def Zt8(ps:List Nat):Array Xe:=(ps.map λ(i:Nat)=>BP i).toArray
theorem Z2h{ps:List Nat}{p:Nat}(h:ps[i]? =YB p):(Zt8 ps)[i]? =YB (BP p):=by
 unfold Zt8;rw[V6,Xi,h];rfl
theorem Zug{ps:List Nat}(h:ps[i]? =YC):(Zt8 ps)[i]? =YC:=by
 unfold Zt8;rw[V6,Xi,h];rfl
section
variable {prog:Qa}{w:Qo}{A:Qv}{E:Xe->Xg->Prop}{s:Xg}
theorem Zo3{I S T:YG}{es:Array (Int×Xe)}{ep p:Nat}{t:QK}{ps:List Nat}{x:Int×Xe}{Q:Option Xe->Xg->Prop}(hI:Ya4 s.heap I S T i es.size ep)(hT2:s.heap.get? T=YB { cls:=.type "tuple",data:=.seq (Zt8 ps) })(ho:s.heap.get? S=YB o)(hd:o.data= .set es ep t)(hf:t.fits es.size=YD)(hp:ps[i]? =YB p)(hx:es[p]? =YB x)
  (q:∀h',Ya4 h' I S T (i+1) es.size ep->Bb I s.heap h'->Q (YB x.2) { s with heap:=h' }):XJ (X8 prog w) A (Ul (.ref I)) Q E s:=by
 have hT:s.TypeIs (.ref I) "set_iterator" :=⟨_,hI,rfl⟩;unfold Ul;refine Xb (wpAny_attempt (JZ (name:=Us "__next__") hT Zr (JD Zr hT Y4 ?_ (Wa _))));unfold By.«set_iterator.__next__» slotArgs fieldsOf;simp only[List.isEmpty_nil,Vo,XR,if_false,Vg,bne_self_eq_false,pure_bind,bind_assoc];refine Xb (wpAny_load hI ?_);dsimp only;refine Xb (Xl ?_);show XJ _ _ (setEntries S>>=_) _ _ _;refine Xb (UG ho hd hf ?_);rw[show(((es.size:Nat):Int) !=((es.size:Nat):Int))=YF from bne_self_eq_false _];simp only[XR,if_false];show XJ _ _ (seqItems? (.ref T)>>=_) _ _ _;refine Xb (Bk hT2 rfl ?_);dsimp only;rw[Bg,Z2h hp];show XJ _ _ (setNextDrawn S p ep>>=_) _ _ _;unfold setNextDrawn;refine Xb (Xb (JH ho hd hf ?_));dsimp only;rw[bne_self_eq_false];simp only[XR,if_false];rw[hx];refine Xl ?_;refine Xb (Q6 hI (by simp) λh2 g2 b2=>?_);exact Xl ⟨_,rfl,Xl (q h2 g2 b2)⟩
theorem Zsz{I S T:YG}{es:Array (Int×Xe)}{ep:Nat}{t:QK}{ps:List Nat}{Q:Option Xe->Xg->Prop}(hh:A.handled=YC)(hI:Ya4 s.heap I S T i es.size ep)(hT2:s.heap.get? T=YB { cls:=.type "tuple",data:=.seq (Zt8 ps) })(ho:s.heap.get? S=YB o)(hd:o.data= .set es ep t)(hf:t.fits es.size=YD)(hp:ps[i]? =YC)
  (q:∀h',Heap.ExtBut I s.heap h'->Q YC { s with heap:=h' }):XJ (X8 prog w) A (Ul (.ref I)) Q E s:=by
 have hT:s.TypeIs (.ref I) "set_iterator" :=⟨_,hI,rfl⟩;unfold Ul;refine Xb (wpAny_attempt (JZ (name:=Us "__next__") hT Zr (JD Zr hT Y4 ?_ (Wa _))));unfold By.«set_iterator.__next__» slotArgs fieldsOf;simp only[List.isEmpty_nil,Vo,XR,if_false,Vg,bne_self_eq_false,pure_bind,bind_assoc];refine Xb (wpAny_load hI ?_);dsimp only;refine Xb (Xl ?_);show XJ _ _ (setEntries S>>=_) _ _ _;refine Xb (UG ho hd hf ?_);rw[show(((es.size:Nat):Int) !=((es.size:Nat):Int))=YF from bne_self_eq_false _];simp only[XR,if_false];show XJ _ _ (seqItems? (.ref T)>>=_) _ _ _;refine Xb (Bk hT2 rfl ?_);dsimp only;rw[Bg,Zug hp];dsimp only;refine Xb (Q6 hI (by simp) λh2 g2 b2=>?_);refine Xb (Q6 g2 (by simp) λh3 g3 b3=>?_);show XJ _ _ (newExc (.type "StopIteration") []>>=_) _ _ _;refine Xb ?_;simp only[newExc,newTuple];refine Xb (JW ?_ (by size_fits));refine Xb (m:=firstArgMember _ _) (wpAny_of_eq (a:=QJ) (by first|rfl|(simp only[firstArgMember];rfl)) ?_);refine JW ?_ (by size_fits);simp only[raiseNew];refine Xb (wpAny_handled ?_);rw[show A.in1.handled=YC from hh];refine Xb (Xl (wpAny_throw ?_));exact Xb (wpAny_isInstance (T :="StopIteration") (b:=YD) ⟨_,XF _ rfl,rfl⟩ isSubtype_stop (Xl (q _ (((b2.trans b3).extBut.push _).push _))))
end
theorem Zg3:entryFor table "set.__iter__"=YB By.«frozenset.__iter__»:=entryFor_alias (id' :="frozenset.__iter__") (by kernel_rfl) rfl (by decide +kernel) (by kernel_rfl)
theorem Zas:Slot "set_iterator" "__iter__" "set_iterator.__iter__" :=
 .of (owner :="set_iterator") (n :="__iter__") (by rw[typeLookup_type,builtinLookup_eq_fast];kernel_rfl) (by decide +kernel) (by decide +kernel) (by decide +kernel) (by first|exact .inl (by decide +kernel)|exact .inr (by decide +kernel)) (by rw[isSubtype_type];kernel_rfl)
theorem Zdb:entryFor table "set_iterator.__iter__"=YB By.«dict_keyiterator.__iter__»:=entryFor_alias (id' :="dict_keyiterator.__iter__") (by kernel_rfl) (by first|rfl|decide +kernel|(unfold String.splitOn;simp +decide [String.splitOnAux])) (by decide +kernel) (by kernel_rfl)
theorem Zeg(a:Xe):argsOk "set_iterator.__iter__" ⟨[a],[]⟩:=by unfold argsOk;kernel_rfl
section
variable {prog:Qa}{w:Qo}{A:Qv}{E:Xe->Xg->Prop}{s:Xg}
theorem Zhk{I:YG}{vs:Array Xe}(hI:s.heap.get? I=YB { cls:=.type "set_iterator",data:=.fields vs })(h:Q (.ref I) s):XJ (X8 prog w) A (pyIter (.ref I)) Q E s:=by
 have hT:s.TypeIs (.ref I) "set_iterator" :=⟨_,hI,rfl⟩;refine wpAny_pyIter_slot hT Zas (JD Zas hT Zdb ?_ (Zeg _));show XJ _ _ (ret (.ref I)) _ _ s;exact Xl ⟨_,rfl,"set_iterator",_,hT,Zr.lookup,h⟩
theorem Z85{S:YG}{es:Array (Int×Xe)}{ep:Nat}{t:QK}(ho:s.heap.get? S=YB o)(hex:o.ExactSet)(hd:o.data= .set es ep t)(hf:t.fits es.size=YD)(hz:es.size<=1000)
  (q1:(byT w=YF->t.plain=YD\/es.size<=1)->Q (.ref s.heap.objs.size) { s with heap:=s.heap.push { cls:=.type "set_iterator",data:=.fields #[BP 0,BP 0,.ref S,BP es.size,BP ep] } })
  (q2:∀ps d,ps.Perm (Xj es.size)->Q (.ref (s.heap.objs.size+1)) { s with heap:=(s.heap.push { cls:=.type "tuple",data:=.seq (Zt8 ps) }).push { cls:=.type "set_iterator",data:=.fields #[.ref s.heap.objs.size,BP 0,.ref S,BP es.size,BP ep] },drawn:=d }):XJ (X8 prog w) A (pyIter (.ref S)) Q E s:=by
 have hT:s.TypeIs (.ref S) "set" :=⟨o,ho,hex.1⟩;refine wpAny_pyIter_slot hT F.slot_set_iter (JD F.slot_set_iter hT Zg3 ?_ (F.args_set_iter_1 _));unfold By.«frozenset.__iter__» Builtin.Frozenset.slot0 slotArgs;simp only[List.isEmpty_nil,Vo,XR,if_false,Vg,bne_self_eq_false,pure_bind,bind_assoc];unfold Builtin.Frozenset.addrOf Builtin.Frozenset.sizeOf setDrawn;refine Xb (Xl ?_);refine Xb (Xb (UG ho hd hf (Xl ?_)));refine Xb (Xb (JH ho hd hf (Xb (Zf4 (Xl ?_)))));show XJ _ _ (if(!byT w&&(!t.plain&&decide (es.size>1)))=YD then _ else _) _ _ _
 by_cases c:(!byT w&&(!t.plain&&decide (es.size>1)))=YD
 .rw[YM c]
  refine Xb (Z34 _ _ _ _ Xr λps d pm=>?_);refine Xb (wpAny_newTuple ?_ (by rw[Xc,pm.length_eq,Xr,X7];omega));refine Xb (wpAny_setEpoch_of (Xf _ ho) hd hf ?_);have e:(s.heap.push { cls:=.type "tuple",data:=.seq (Zt8 ps) }).objs.size=s.heap.objs.size+1:=Qz ..;refine Xb (JW (Xl ⟨_,rfl,"set_iterator",_,⟨_,XF _ rfl,rfl⟩,Zr.lookup,?_⟩));have:=q2 ps d pm;rw[<-e]at this;exact this
 .rw[YQ c]
  refine Xb (wpAny_setEpoch_of ho hd hf ?_);refine Xb (JW (Xl ⟨_,rfl,"set_iterator",_,⟨_,XF _ rfl,rfl⟩,Zr.lookup,q1 λhb=>?_⟩));rw[hb]at c;cases hp:t.plain with
  | true=>exact .inl rfl
  | false=>
   rw[hp]at c;exact .inr (Nat.le_of_not_lt λz=>c (by rw[YS z];rfl))
theorem Z73(hh:A.handled=YC){I S:YG}(ne:S≠I){es:Array (Int×Xe)}{ep:Nat}{t:QK}(hd:o.data= .set es ep t)(hf:t.fits es.size=YD)(tb:Tb (!byT w) t)(hdr:byT w=YF->t.plain=YD\/es.size<=1) :
  Walks prog w A I [I,S] [I] es.size (λi v=>(Zd7 w S ep es)[i]? =YB v) (λi h=>(∃slot,Ybh h I S slot i es.size ep/\Zh7 w t slot i)/\h.get? S=YB o) where
 sub:=λb hb=>by rw[Xq.mp hb];exact .head _
 frame:=λi h h' st k=>by
  obtain⟨⟨slot,h1,h2⟩,h3⟩:=st;exact⟨⟨slot,k I (.head _) _ h1,h2⟩,k S (.tail _ (.head _)) _ h3⟩
 item:=λi s Q E hi st q=>by
  obtain⟨⟨slot,h1,h2⟩,h3⟩:=st;have hl:i<(Zd7 w S ep es).length:=by rw[Zc6.length_eq,Xc,Xv];exact hi
  have hx:=Xn hl;refine Zok h1 h3 hd hf tb hdr h2 hx λh' nx g1 g2 g3=>?_;exact q _ h' s.toks hx ⟨⟨nx,g1,g2⟩,g3.extBut _ _ ne h3⟩ λb o nb e=>g3.extBut _ _ (λz=>nb (Xq.mpr z)) e
 done:=λs Q E st q=>by
  obtain⟨⟨slot,h1,h2⟩,h3⟩:=st;refine Zp3 hh h1 h3 hd hf tb hdr h2 (QZ (by rw[Zc6.length_eq,Xc,Xv];exact Xy _)) λh' g=>?_;exact q h' s.toks λb o nb e=>g _ _ (λz=>nb (Xq.mpr z)) e
 self:=λi s Q E st q=>by
  obtain⟨⟨slot,h1,h2⟩,h3⟩:=st;exact Zhk h1 q
def Zi3(ps:List Nat)(es:Array (Int×Xe)):List Xe:=ps.filterMap λp=>es[p]?.map (·.2)
theorem Zjj{ps:List Nat}{es:Array (Int×Xe)}(pm:ps.Perm (Xj es.size)):(Zi3 ps es).Perm (es.toList.map (·.2)):=by
 have e:Zi3 (Xj es.size) es=es.toList.map (·.2):=by
  have h:=filterMap_getElem?_range es;unfold Zi3;rw[<-List.map_filterMap,h]
 rw[<-e];exact pm.filterMap _
theorem Z03{ps:List Nat}{es:Array (Int×Xe)}(h:∀p∈ps,p<es.size):∀{i p:Nat},ps[i]? =YB p->∃x,es[p]? =YB x/\(Zi3 ps es)[i]? =YB x.2:=by
 induction ps with
 | nil=>intro i p e;cases e
 | cons a ps ih=>
  intro i p e;have ha:=h a (.head _);have ea:es[a]? =YB es[a]:=Q0 ha;have ed:Zi3 (a::ps) es=es[a].2::Zi3 ps es:=by
   unfold Zi3;rw[QQ,ea];rfl
  rw[ed];cases i with
  | zero=>
   cases e;exact⟨_,ea,rfl⟩
  | succ i=>exact ih (λp m=>h p (.tail _ m)) e
theorem Yav(hh:A.handled=YC){I S T:YG}(n1:S≠I)(n2:T≠I){es:Array (Int×Xe)}{ep:Nat}{t:QK}{ps:List Nat}(hd:o.data= .set es ep t)(hf:t.fits es.size=YD)(pm:ps.Perm (Xj es.size)) :
  Walks prog w A I [I,S,T] [I] es.size (λi v=>(Zi3 ps es)[i]? =YB v) (λi h=>Ya4 h I S T i es.size ep/\h.get? S=YB o/\h.get? T=YB { cls:=.type "tuple",data:=.seq (Zt8 ps) }) where
 sub:=λb hb=>by rw[Xq.mp hb];exact .head _
 frame:=λi h h' st k=>⟨k I (.head _) _ st.1,k S (.tail _ (.head _)) _ st.2.1,k T (.tail _ (.tail _ (.head _))) _ st.2.2⟩
 item:=λi s Q E hi st q=>by
  have hl:i<ps.length:=by rw[pm.length_eq,Xr];exact hi
  have hp:=Xn hl;obtain⟨x,h1,h2⟩:=Z03 (es:=es) (λp m=>XH.mp (pm.mem_iff.mp m)) hp;refine Zo3 st.1 st.2.2 st.2.1 hd hf hp h1 λh' g1 g3=>?_;exact q _ h' s.toks h2 ⟨g1,g3.extBut _ _ n1 st.2.1,g3.extBut _ _ n2 st.2.2⟩ λb o nb e=>g3.extBut _ _ (λz=>nb (Xq.mpr z)) e
 done:=λs Q E st q=>by
  refine Zsz hh st.1 st.2.2 st.2.1 hd hf (QZ (by rw[pm.length_eq,Xr];exact Xy _)) λh' g=>?_;exact q h' s.toks λb o nb e=>g _ _ (λz=>nb (Xq.mpr z)) e
 self:=λi s Q E st q=>Zhk st.1 q
end
theorem Zz4:typeLookup (.type "set") "__len__"=pure (YB (.builtin "set.__len__")):=F.slot_set_len.lookup
section
variable {prog:Qa}{w:Qo}{A:Qv}{E:Xe->Xg->Prop}{s:Xg}
theorem Zzd{S:YG}{Q:Bool->Xg->Prop}(ho:s.heap.get? S=YB o)(hex:o.ExactSet)(h:Q YF s):XJ (X8 prog w) A (Builtin.List.listLengthHint (.ref S)) Q E s:=by
 have hT:s.TypeIs (.ref S) "set" :=⟨o,ho,hex.1⟩;unfold Builtin.List.listLengthHint;refine Xb (wpAny_specialOf hT Zz4 ?_);generalize hid:("set.__len__" : String)=id0
 (fail_if_success (clear hid id0))
 wp_delta
 rw[show splitId id0=YB ("set","__len__")from by subst hid;decide +kernel];subst hid;refine Xb (wpAny_isInstance (b:=YD) hT (by rw[isSubtype_type];kernel_rfl) ?_);simp only[Vo,XR,if_false];rw[YM (by decide +kernel)];refine Xb (wpAny_typeOf hT ?_);exact Xl h
theorem Zkd{I N:YG}{fp wr:List YG}{n:Nat}{P:Nat->Xe->Prop}{St:Nat->YH->Prop}(W:Walks prog w A.in1 I fp wr n P St)(hn:n<=1000)(hN:N∉fp)(st:St 0 s.heap)(gN:s.heap.get? N=YB { cls:=.type "list",data:=.seq #[] 2 })
  (q:∀h' tk (acc:Array Xe) c,acc.size=n->(∀(j:Nat) v,acc[j]? =YB v->P j v)->h'.get? N=YB { cls:=.type "list",data:=.seq acc c }->(∀b o,b∉N::wr->s.heap.get? b=YB o->h'.get? b=YB o)->R (.ok (.ret (.ref N))) { s with heap:=h',toks:=tk }) :
  codeAny (X8 prog w) A (.builtin "list.extend.loop" ⟨[.ref N,.ref I,.ref N],[]⟩) R s:=by
 refine codeAny_extend_loopS W.toS (by rw[X7];omega) N hN (.ref N) n 0 s #[] 2 rfl (Qw _) st gN (ItemsOf.nil P) λs' acc c hm g it=>?_;obtain⟨h',g',d',tk',os'⟩:=s';have eg:g'=s.gens:=hm.gens;have ed:d'=s.drawn:=hm.drawn;have eo:os'=s.os:=hm.os;subst eg ed eo;exact q h' tk' acc c it.1 it.2 g hm.heap
theorem Zp0{N:YG}{Q:Unit->Xg->Prop}(gN:s.heap.get? N=YB { cls:=.type "list",data:=.seq #[] 0 })(q:∀h',h'.get? N=YB { cls:=.type "list",data:=.seq #[] 2 }->Bb N s.heap h'->Q () { s with heap:=h' }):XJ (X8 prog w) A (Builtin.List.listTouch (.ref N)) Q E s:=by
 unfold Builtin.List.listTouch;refine Xb (listUpdate_at gN rfl ?_ (by rw[X7];exact Qw _) (by rw[X7];exact Nat.le_of_ble_eq_true rfl));have g1:=Uc (c :="list") (n:=0) gN (·.push .none);refine listUpdate_at g1 rfl (q _ ?_ ((QF ..).trans (QF ..))) (by rw[X7];exact Nat.le_of_ble_eq_true rfl) (by rw[X7];exact Qw _);exact Uc (c :="list") g1 (·.pop)
end
section
variable {prog:Qa}{w:Qo}{A:Qv}{E:Xe->Xg->Prop}{s:Xg}
theorem Zh2{l:List α}{acc:Array α}(h:acc.size=l.length)(k:∀(j:Nat) v,acc[j]? =YB v->l[j]? =YB v):acc.toList=l:=by
 refine V9 λj=>?_;rw[Qd];cases e:acc[j]? with
 | some v=>exact(k j v e).symm
 | none=>
  have:=Array.getElem?_eq_none_iff.mp e;exact(QZ (by omega)).symm
theorem Zjn{S:YG}{es:Array (Int×Xe)}{ep:Nat}{t:QK}{Q:List Xe->Xg->Prop}(hh:A.handled=YC)(ho:s.heap.get? S=YB o)(hex:o.ExactSet)(hd:o.data= .set es ep t)(hf:t.fits es.size=YD)(tb:Tb (!byT w) t)(hz:es.size<=1000)
  (q:∀h' tk d acc,acc.Perm (es.toList.map (·.2))->s.heap.objs.size<=h'.objs.size->(∀b o,b<s.heap.objs.size->s.heap.get? b=YB o->h'.get? b=YB o)->Q acc { s with heap:=h',toks:=tk,drawn:=d }):XJ (X8 prog w) A (collect (.ref S)) Q E s:=by
 have lS:S<s.heap.objs.size:=XN ho;unfold collect;refine Xb (wpAny_runValue (Bc F.entry_proto_collect ?_));rw[JV F.plain_proto_collect _];show XJ _ A.in1 (newList []>>= λl=>again (.builtin "list.__iadd__" ⟨[l,.ref S],[]⟩)) _ _ s;refine Xb (JW (Xl ⟨Uh F.plain_list_iadd _,Bc F.entry_list_iadd ?_⟩));rw[JV F.plain_list_iadd _];have g0:(s.heap.push { cls:=.type "list",data:=.seq ([]:List Xe).toArray }).get? s.heap.objs.size=YB { cls:=.type "list",data:=.seq #[] 0 }:=XF _ rfl;have s0:(s.heap.push { cls:=.type "list",data:=.seq ([]:List Xe).toArray }).objs.size=s.heap.objs.size+1:=Qz ..;have ho1:(s.heap.push { cls:=.type "list",data:=.seq ([]:List Xe).toArray }).get? S=YB o:=Xf _ ho;generalize hH:s.heap.push { cls:=.type "list",data:=.seq ([]:List Xe).toArray }=H1 at g0 s0 ho1|-
 have old:∀b o,s.heap.get? b=YB o->H1.get? b=YB o:=λb o e=>by rw[<-hH];exact Xf _ e
 show XJ _ A.in1 (Builtin.List.listExtendWith (.ref s.heap.objs.size) (.ref S) (.ref s.heap.objs.size)) _ _ { s with heap:=H1 };have hT1:Shared.TypeIs { s with heap:=H1 } (.ref S) "set" :=⟨o,ho1,hex.1⟩;have ns:Builtin.List.listSameRef (.ref s.heap.objs.size) (.ref S)=YF:=by simp[Builtin.List.listSameRef,X6 lS]
 unfold Builtin.List.listExtendWith;refine Xb (wpAny_typeOf hT1 ?_);rw[YQ (by rw[ns];decide)];refine Xb (Z85 (s:={ s with heap:=H1 }) ho1 hex hd hf hz (λhdr=>?_) λps d pm=>?_)
 .refine Xb (JK (Zzd (Xf _ ho1) hex ?_))
  rw[YM (by decide +kernel)];refine Xb (U4 (Xb (Zp0 (Xf _ g0) λh2 g2 b2=>Xl ⟨Uh F.plain_extend_loop _,?_⟩)));have gI:h2.get? H1.objs.size=YB { cls:=.type "set_iterator",data:=.fields #[BP 0,BP 0,.ref S,BP es.size,BP ep] }:=b2.extBut _ _ (by rw[s0];exact X6 (QB _)) (XF _ rfl);have gS:h2.get? S=YB o:=b2.extBut _ _ (Xp lS) (Xf _ ho1);refine Zkd (I:=H1.objs.size) (s:={ s with heap:=h2 }) (Z73 (S:=S) (by simpa using hh) (by rw[s0];exact Xp (QW lS)) hd hf tb hdr) hz (λm=>?_) ⟨⟨0,gI,λhb=>?_⟩,gS⟩ g2 λh' tk acc c l1 l2 g k=>?_
  .rw[s0]at m
   rcases Xo.mp m with e|m
   .exact Xp (QB _) e
   .exact X6 lS (Xq.mp m)
  .refine Zpe ?_
   rcases hdr hb with z|z
   .exact tb.up z
   .have sz:t.place.size=es.size:=by
     unfold SetTable.fits at hf;rw[X3,ZC]at hf;exact hf.1
    have l1:t.place.toList.length<=1:=by rw[Xv,sz];exact z
    generalize t.place.toList=l at l1
    match l,l1 with
    | [],_=>exact .nil
    | [a],_=>exact UJ _ _
  .have ea:acc.toList=Zd7 w S ep es:=Zh2 (by rw[l1,Zc6.length_eq,Xc,Xv]) l2
   show XJ _ A (load s.heap.objs.size>>=_) _ _ { s with heap:=h',toks:=tk };refine Xb (wpAny_load g (Xl (q h' tk s.drawn acc.toList (ea▸Zc6) (Vn (XN g)) λb o lb e=>k b o (λm=>?_) (b2.extBut _ _ (Xp lb) (Xf _ (old b o e))))));rcases Xo.mp m with z|m
   .exact Xp lb z
   .rw[Xq.mp m,s0]at lb
    exact Q3 _ (Nat.lt_of_succ_lt lb)
 .refine Xb (JK (Zzd (Xf _ (Xf _ ho1)) hex ?_))
  rw[YM (by decide +kernel)];refine Xb (U4 (Xb (Zp0 (Xf _ (Xf _ g0)) λh2 g2 b2=>Xl ⟨Uh F.plain_extend_loop _,?_⟩)));have s1:(H1.push { cls:=.type "tuple",data:=.seq (Zt8 ps) }).objs.size=s.heap.objs.size+1+1:=by rw[Qz,s0]
  have gI:h2.get? (s.heap.objs.size+1+1)=YB { cls:=.type "set_iterator",data:=.fields #[.ref H1.objs.size,BP 0,.ref S,BP es.size,BP ep] }:=b2.extBut _ _ (X6 (QW (QB _))) (by rw[<-s1];exact XF _ rfl);have gS:h2.get? S=YB o:=b2.extBut _ _ (Xp lS) (Xf _ (Xf _ ho1));have gT:h2.get? H1.objs.size=YB { cls:=.type "tuple",data:=.seq (Zt8 ps) }:=b2.extBut _ _ (by rw[s0];exact X6 (QB _)) (Xf _ (XF _ rfl));rw[show H1.objs.size+1=s.heap.objs.size+1+1 by rw[s0]];refine Zkd (I:=s.heap.objs.size+1+1) (s:={ s with heap:=h2,drawn:=d }) (Yav (S:=S) (T:=H1.objs.size) (by simpa using hh) (Xp (QW (QW lS))) (by rw[s0];exact Xp (QB _)) hd hf pm) hz (λm=>?_) ⟨gI,gS,gT⟩ g2 λh' tk acc c l1 l2 g k=>?_
  .rcases Xo.mp m with e|m
   .exact Xp (QW (QB _)) e
   rcases Xo.mp m with e|m
   .exact X6 lS e
   .have:=Xq.mp m
    rw[s0]at this;exact Xp (QB _) this
  .have ea:acc.toList=Zi3 ps es:=Zh2 (by rw[l1,(Zjj pm).length_eq,Xc,Xv]) l2
   show XJ _ A (load s.heap.objs.size>>=_) _ _ { s with heap:=h',toks:=tk,drawn:=d };refine Xb (wpAny_load g (Xl (q h' tk d acc.toList (ea▸Zjj pm) (Vn (XN g)) λb o lb e=>k b o (λm=>?_) (b2.extBut _ _ (Xp lb) (Xf _ (Xf _ (old b o e)))))));rcases Xo.mp m with z|m
   .exact Xp lb z
   .rw[Xq.mp m]at lb
    exact Q3 _ (Nat.lt_of_succ_lt (Nat.lt_of_succ_lt lb))
end
theorem ints_of(h:∀v∈vs,∃k t,v= .int k t):Vk vs (vs.map vI):=by
 induction vs with
 | nil=>exact .nil
 | cons v vs ih=>
  obtain⟨k,t,rfl⟩:=h v (.head _);exact .cons k t (ih λu m=>h u (.tail _ m))
section
variable {prog:Qa}{w:Qo}{A:Qv}{E:Xe->Xg->Prop}{s:Xg}
theorem Zvk{S:YG}{ks:List Int}(hh:A.handled=YC)(hS:SetI prog w (!byT w) s.heap S ks)(h64:ks.length<64)
  (q:∀h' tk d L (out:List Xe) c,s.heap.objs.size<=L->h'.get? L=YB { cls:=.type "list",data:=.seq out.toArray c }->Vk out (Zbk ks)->(∀b o,b<s.heap.objs.size->s.heap.get? b=YB o->h'.get? b=YB o)->Q (.ref L) { s with heap:=h',toks:=tk,drawn:=d }):XJ (X8 prog w) A (call (.builtin "sorted") [.ref S]) Q E s:=by
 obtain⟨o,es,ep,t,ho,hex,hd,he,hb,hf,tb,rfl⟩:=hS;rw[Xc,Xv]at h64;refine Calls.call_function_entry kind_sorted plain_sorted entry_sorted (args_sorted1 _) ?_;unfold By.«sorted»;refine Xb (m:=checkCount "sorted" 1 1 _) (Xl ?_);refine Xb (Zjn (by simpa using hh) ho hex hd hf tb (by omega) λh1 tk d acc pm lN k1=>?_);have la:acc.length=es.size:=by rw[pm.length_eq,Xc,Xv]
 refine Xb (wpAny_newList ?_ (by rw[X7];omega));have ga:(h1.push (BJ "list" acc.toArray 0)).get? h1.objs.size=YB (BJ "list" acc.toArray 0):=XF _ rfl;have ia:Vk acc (acc.map vI):=ints_of λv m=>by
  obtain⟨e,me,rfl⟩:=XM.mp (pm.mem_iff.mp m);obtain⟨⟨k,i1,_⟩,_⟩:=he e me;obtain⟨t',e2⟩:=Zqd i1;exact⟨k,t',e2⟩
 refine Xb (JK (JD slot_list_sort ⟨_,ga,rfl⟩ entry_list_sort (list_sort_tree ga ia (by omega) λout ns' a1 a2 a3=>⟨_,rfl,?_⟩) (args_list_sort _)));have en:ns'=Zbk (es.toList.map λe=>vI e.2):=Jr (a2.trans (((pm.map vI).trans (by rw[Qk];exact .refl _)).trans (Js _).symm)) a3 (W9 _);subst en;have g1:=Uc (c :="list") ga (λ_=>(#[]:Array Xe));have g3:=Uc (c :="list") (Xf (BJ "list" #[] 0) (Xf (BJ "tuple" acc.toArray 0) g1)) (λ_=>out);refine Xl ⟨_,rfl,q _ tk d _ out.toList _ lN (by rw[Array.toArray_toList];exact g3) a1 λb o lb e=>?_⟩;have nb:b≠h1.objs.size:=Xp (Qm lb lN);exact(QF ..).extBut _ _ nb (Xf _ (Xf _ ((QF ..).extBut _ _ nb (Xf _ (k1 b o lb e)))))
end
theorem Inv.drawn{O:St}(I:Inv X pins O H s)(d:Drawn):Inv X pins O H { s with drawn:=d }:=by
 refine I.call (ch:=[]) (g':=s.gens) (d':=d) (t':=s.toks) ⟨λb o e _ _ _=>e,λb o e _ _ _=>⟨o.slots,e⟩,λb o e n _=>n,λb o e _=>⟨o,e⟩,λb ys e=>e,λb o u e=>e,λb ps e=>⟨#[],by rw[e];simp⟩⟩ (λb u e=>I.hok b u e) I.bare (λb hb=>nomatch hb)
def dnc:List Int->List Int
 | []=>[]
 | x::xs=>if x∈xs then dnc xs else x::dnc xs
theorem Zky(ns:List Int):Of (dnc ns) ns:=by
 induction ns with
 | nil=>exact⟨.nil,λx=>.rfl⟩
 | cons a ns ih=>
  rw[dnc];split
  .rename_i c
   exact⟨ih.1,λx=>by rw[ih.2,Xo];exact⟨.inr,λm=>m.elim (λe=>e▸c) id⟩⟩
  .rename_i c
   exact⟨Qq.mpr ⟨λm=>c ((ih.2 a).mp m),ih.1⟩,λx=>by rw[Xo,Xo,ih.2]⟩
theorem Z2o(ns:List Int):(dnc ns).length<=ns.length:=by
 induction ns with
 | nil=>exact Xy _
 | cons a ns ih=>
  rw[dnc];split
  .exact Nat.le_succ_of_le ih
  .exact VM ih
theorem Z5w{ks:List Int}(h:Of ks ns):ks.length<=ns.length:=by
 have pm:ks.Perm (dnc ns):=(Uk h.1 (Zky ns).1).mpr λx=>by rw[h.2,(Zky ns).2]
 rw[pm.length_eq];exact Z2o ns
theorem Zsr{ks:List Int}(h:Of ks ns):Zbk ks=Zbk (dnc ns):=by
 have pm:ks.Perm (dnc ns):=(Uk h.1 (Zky ns).1).mpr λx=>by rw[h.2,(Zky ns).2]
 exact Jr ((Js ks).trans (pm.trans (Js _).symm)) (W9 _) (W9 _)
section
variable {X:Cx}{p c:Bool}{io:List Nat}{a e:YJ}{pos pos' pl pr:Pos}{t:TA}{mr:MAt}{ra:FA}
def tSS(K:Xd)(t:TA):TE:=λO H Q=>t O H λvs H1=>∃(l:YG) (ns:List Int),vs=[.ref l]/\SqL K H1 l (ns.map V.int)/\ns.length<64/\∀p,H1 p=YC->Q (.ref p) (upd H1 p (.lst ((Zbk (dnc ns)).map V.int)))
theorem Zpb(hc:X.calm=YD)(hgl:Gl X "sorted")(hml:X.mg "sorted"=YC)(hvl:Qe "sorted"=YB (.builtin "sorted"))(hg:Gl X "set")(hm:X.mg "set"=YC)(hv:Qe "set"=YB (.type "set"))(ha:PA X [a] t)
  (he:Xu [a] X.env=(YF,eval a X.env)::Xu [] X.env:=by rfl) (hpl:(JF pos' (Xu [] X.env)).any (·.1)=YF:=by rfl)
  (he':Xu [.Call (.Name "set" pr) [a] [] pos'] X.env=(YF,eval (.Call (.Name "set" pr) [a] [] pos') X.env)::Xu [] X.env:=by rfl) (hpl':(JF pos (Xu [] X.env)).any (·.1)=YF:=by rfl) :
  PE X (.Call (.Name "sorted" pl) [.Call (.Name "set" pr) [a] [] pos'] [] pos) (tSS X.K t):=by
 intro pins s O H Q I h;refine Bp (Zbz I hgl hml hvl ?_ (by decide) (by decide));refine Uz ?_ he' hpl';rw[he'];show XJ _ _ (spliced ((YF,eval (.Call (.Name "set" pr) [a] [] pos') X.env)::JF pos (Xu [] X.env))) _ _ s;have inner:XJ (X8 X.prog X.w) X.A (eval (.Call (.Name "set" pr) [a] [] pos') X.env) (λu s2=>∃(S:YG) (ks ns:List Int) (H1:Hp),u=Xz S/\SetI X.prog X.w (!byT X.w) s2.heap S ks/\Of ks ns/\ns.length<64/\Inv X pins O H1 s2/\∀p,H1 p=YC->Q (.ref p) (upd H1 p (.lst ((Zbk (dnc ns)).map V.int)))) X.xe s:=by
  refine Bp (Zbz I hg hm hv ?_ (by decide) (by decide));refine JP (thn (ha pos' pins s O H _ I h) λus s1 qz=>?_) he hpl;obtain⟨vs,H1,I1,r1,l,ns,rfl,hs,h64,q⟩:=qz;obtain⟨u,rfl,ru⟩:=vals1 r1;cases(show u=Xz l from ru);obtain⟨its,rv,pl,hz⟩:=I1.list hs;obtain⟨ps,rfl,e2⟩:=Zhw rv;have lp:ps.length=ns.length:=by rw[<-e2,Xc]
  refine Zrn (its:=(ps.map λp=>Vl p.1 p.2).toArray) (ns:=ns) (I1.ok.hd hc) pl.isList (by simp[lp]) (by rw[XQ,Xc];unfold U8;omega) (λi v ev=>?_) λh' tk ks a1 a2 a3=>?_
  .rw[V6,Xi]at ev
   cases ep:ps[i]? with
   | none=>rw[ep]at ev;cases ev
   | some p=>
    rw[ep]at ev;cases ev;exact⟨p.1,p.2,rfl,by rw[<-e2,Xi,ep];rfl⟩
  .exact⟨_,ks,ns,H1,rfl,a1,a2,h64,I1.kept (t':=tk) (λb u e=>a3 b u (XN e) e),q⟩
 refine Calls.spliced_cons (thn inner λu s2 qz=>?_);obtain⟨S,ks,ns,H1,rfl,hS,hO,h64,I2,q⟩:=qz;refine Calls.spliced_nil ?_;have lk:ks.length<=ns.length:=Z5w hO;refine Zvk (I2.ok.hd hc) hS (by omega) λh' tk d L out cc lN g io k=>?_;rw[Zsr hO]at io;have ld:((Zbk (dnc ns)).map V.int).length<=XC:=by
  rw[Xc,<-Zsr hO,(Js ks).length_eq,X7];omega
 refine⟨.ref L,_,(I2.laid (t':=tk) (o:=.lst ((Zbk (dnc ns)).map V.int)) (λb ob e=>k b ob (XN e) e) lN ⟨ld,out,cc,Z45 io,g⟩).drawn d,rfl,q _ (I2.hok.fresh lN)⟩
def Zmh(mr:MAt):MEt:=λδ K=>mr δ λrs δ'=>n1 (λd=>∃ns:List Int,d= .list (ns.map Xw)/\ns.length<64/\K (.nd (((Zbk (dnc ns)).map Xw).map OT.fz)) δ') (OT.datas rs)
theorem Zsu(hc:X.calm=YD)(hgl:Gl X "sorted")(hml:X.mg "sorted"=YC)(hvl:Qe "sorted"=YB (.builtin "sorted"))(hg:Gl X "set")(hm:X.mg "set"=YC)(hv:Qe "set"=YB (.type "set"))(ha:MA X io p c [a] mr)
  (he:Xu [a] X.env=(YF,eval a X.env)::Xu [] X.env:=by rfl) (hpl:(JF pos' (Xu [] X.env)).any (·.1)=YF:=by rfl)
  (he':Xu [.Call (.Name "set" pr) [a] [] pos'] X.env=(YF,eval (.Call (.Name "set" pr) [a] [] pos') X.env)::Xu [] X.env:=by rfl) (hpl':(JF pos (Xu [] X.env)).any (·.1)=YF:=by rfl) :
  ME X io p YD (.Call (.Name "sorted" pl) [.Call (.Name "set" pr) [a] [] pos'] [] pos) (Zmh mr):=by
 obtain⟨_,A,s⟩:=ha;refine⟨_,Zpb hc hgl hml hvl hg hm hv A he hpl he' hpl',λC H O δ fp ex K Q R h kk=>s C H O δ fp ex _ _ R h λH1 vs rs δ1 fp1 new r1 h1=>?_⟩;obtain⟨v,d,rfl,e2,q,ns,e,h64,h2⟩:=(r1.das R).one h1;subst e;obtain⟨l,rfl,hs⟩:=q.ints_sq;refine⟨l,ns,rfl,hs,h64,λp hp=>?_⟩;have sm:=Zv hp (.lst ((Zbk (dnc ns)).map V.int));exact kk _ _ _ δ1 fp1 [p] (RE.tree R r1.base r1.stp sm (J1 hp) (Zbc p) (Own.list hp (Das.ints _))) h2
def Zfa(a:FA):FE:=λδ=>(a δ).bind λq=>match OT.datas q.1 with|[.list es]=>(Zgq es).bind λns=>if ns.length<64 then YB (.nd (((Zbk (dnc ns)).map Xw).map OT.fz),q.2)else YC|_=>YC
theorem Zpq(h:ME X io p c e (Zmh (o2 ra))):ME X io p c e (o2 (Zfa ra)):=h.weak λδ K h=>by
 obtain⟨r,δ',h,k⟩:=h;obtain⟨⟨x,δ1⟩,h1,h⟩:=bs h;refine⟨x,δ1,h1,?_⟩;dsimp only at h|-
 split at h
 case h_2=>cases h
 rename_i es q;rw[q];obtain⟨ns,h2,h⟩:=bs h;split at h
 case isFalse=>cases h
 rename_i l64;cases h;exact⟨ns,by rw[Zdp h2],l64,k⟩
end
section
variable {κ:Type}[DecidableEq κ]
def Zpd(kvs:List (κ×V))(k:κ):Option V:=(kvs.find? λkv=>decide (kv.1=k)).map (·.2)
def putK(kvs:List (κ×V))(k:κ)(v:V):List (κ×V) :=
 if(kvs.any λkv=>decide (kv.1=k))=YD then kvs.map (λkv=>if kv.1=k then(kv.1,v)else kv)else kvs++[(k,v)]
theorem Ze6{p:κ×V}{r:List (κ×V)}{k:κ}(e:p.1=k):Zpd (p::r) k=YB p.2:=by simp[Zpd,Uy,e]
theorem Ze9{p:κ×V}{r:List (κ×V)}{k:κ}(e:¬p.1=k):Zpd (p::r) k=Zpd r k:=by simp[Zpd,Uy,e]
theorem Zmp(k:κ):∀kvs:List (κ×V),(kvs.any λkv=>decide (kv.1=k))=(Zpd kvs k).isSome
 | []=>rfl
 | p::r=>by
  rw[Ux]
  by_cases e:p.1=k
  .simp only[Ze6 e,YS e,Bool.true_or,Option.isSome_some]
  .rw[Ze9 e,YT e,Bool.false_or];exact Zmp k r
theorem Zcz(kvs:List (κ×V))(k:κ)(v:V):(putK kvs k v).length<=kvs.length+1:=by
 unfold putK;split
 .rw[Xc];omega
 .rw[XX,QC,Vg];omega
theorem RelO.isSome_eq{o:Option V}{u:Option Xe}(r:RelO o u):o.isSome=u.isSome:=by
 cases o with
 | none=>cases u with
  | none=>rfl
  | some _=>exact(show False from r).elim
 | some _=>cases u with
  | none=>exact(show False from r).elim
  | some _=>rfl
theorem RelO.getD{o:Option V}{u:Option Xe}{d:V}{d':Xe}(r:RelO o u)(rd:RelV d d'):RelV (o.getD d) (u.getD d'):=by
 cases o with
 | none=>cases u with
  | none=>exact rd
  | some _=>exact(show False from r).elim
 | some _=>cases u with
  | none=>exact(show False from r).elim
  | some _=>exact r
theorem KV.val{kvs:List (κ×V)}{vs:List (κ×Xe)}(r:KV kvs vs)(k:κ):RelO (Zpd kvs k) (valueAt vs k):=by
 unfold KV at r
 induction r with
 | nil=>exact VR
 | @cons p q ps qs h t ih=>
  obtain⟨h1,h2⟩:=h
  by_cases e:p.1=k
  .have e':q.1=k:=h1.symm.trans e
   have b:valueAt (q::qs) k=YB q.2:=by simp[valueAt,Uy,e']
   rw[Ze6 e,b];exact h2
  .have e':¬q.1=k:=λz=>e (h1.trans z)
   have b:valueAt (q::qs) k=valueAt qs k:=by simp[valueAt,Uy,e']
   rw[Ze9 e,b];exact ih
theorem KV.any{kvs:List (κ×V)}{vs:List (κ×Xe)}(r:KV kvs vs)(k:κ):(kvs.any λkv=>decide (kv.1=k))=vs.any λkv=>decide (kv.1=k):=by
 unfold KV at r
 induction r with
 | nil=>rfl
 | cons h t ih=>rw[Ux,Ux,ih,h.1]
theorem KV.repl{kvs:List (κ×V)}{vs:List (κ×Xe)}(r:KV kvs vs)(k:κ)(ry:RelV y u) :
  KV (kvs.map λkv=>if kv.1=k then(kv.1,y)else kv) (vs.map λkv=>if kv.1=k then(kv.1,u)else kv):=by
 unfold KV at r|-
 induction r with
 | nil=>exact .nil
 | @cons p q ps qs h t ih=>
  rw[X4,X4];refine .cons ?_ ih;obtain⟨h1,h2⟩:=h
  by_cases e:p.1=k
  .rw[YM e,YM (h1.symm.trans e)];exact⟨h1,ry⟩
  .rw[YQ e,YQ (λz=>e (h1.trans z))];exact⟨h1,h2⟩
theorem KV.put{kvs:List (κ×V)}{vs:List (κ×Xe)}(r:KV kvs vs)(k:κ)(ry:RelV y u):KV (putK kvs k y) (stored vs k u):=by
 unfold putK stored;rw[r.any k]
 by_cases e:(vs.any λkv=>decide (kv.1=k))=YD
 .rw[YM e,YM e];exact r.repl k ry
 .rw[YQ e,YQ e];exact Paired.snoc r ⟨rfl,ry⟩
theorem KV.length{kvs:List (κ×V)}{vs:List (κ×Xe)}(r:KV kvs vs):kvs.length=vs.length:=Paired.length r
end
theorem Zrg{P:Qa}{w:Qo}{k:Key}{u:Xe}(r:RelV (kV k) u):(Wf P w).is k u=YD:=by
 cases k with
 | inl i=>obtain⟨t,e⟩:=(show∃t,u=Vl i t from r);subst e;exact Zld P w i t
 | inr x=>obtain⟨t,e⟩:=(show∃t,u=Value.str x t from r);subst e;exact Zlk P w x t
theorem Zjx:∀{ks:List Key} {us:List Xe},Vals (ks.map kV) us->ItemsAre (Wf P w) ks us
 | [],_,r=>by rw[List.map_nil]at r;cases r;exact .nil
 | k::ks,_,r=>by
  rw[X4]at r;cases r with
  | cons h t=>exact .cons (Zrg h) (Zjx t)
abbrev KT(H:Hp):List (List Key×V)->List (List Key×YG×Xe)->Prop:=Paired λp q=>p.1=q.1/\H q.2.1=YB (.tup (p.1.map kV))/\RelV p.2 q.2.2
end L2
variable {I S:YG}{q:Bool}{kss:List (List Int)}{kvs:List (List Key×V)}{wr:List YG}{ep slot:Nat}{Pv:Nat->Xe->Prop}
namespace L2
open PySem PySem.Spec PyProof.Rows
theorem KT.val{xs:List (List Key×YG×Xe)}(r:KT H kvs xs)(k:List Key):RelO (Zpd kvs k) ((atKey xs k).map (·.2)):=by
 induction r with
 | nil=>exact VR
 | @cons p q ps qs h t ih=>
  obtain⟨h1,_,h2⟩:=h
  by_cases e:p.1=k
  .have e':q.1=k:=h1.symm.trans e
   have b:atKey (q::qs) k=YB q.2:=by simp[atKey,Uy,e']
   rw[Ze6 e,b];exact h2
  .have e':¬q.1=k:=λz=>e (h1.trans z)
   have b:atKey (q::qs) k=atKey qs k:=by simp[atKey,Uy,e']
   rw[Ze9 e,b];exact ih
theorem KT.repl{xs:List (List Key×YG×Xe)}(r:KT H kvs xs)(k:List Key)(ry:RelV y u) :
  KT H (kvs.map λkv=>if kv.1=k then(kv.1,y)else kv) (xs.map (putAt k u)):=by
 induction r with
 | nil=>exact .nil
 | @cons p q ps qs h t ih=>
  rw[X4,X4];refine .cons ?_ ih;obtain⟨h1,h2,h3⟩:=h;unfold putAt
  by_cases e:p.1=k
  .rw[YM e,YM (h1.symm.trans e)];exact⟨h1,h2,ry⟩
  .rw[YQ e,YQ (λz=>e (h1.trans z))];exact⟨h1,h2,h3⟩
theorem KT.put{xs:List (List Key×YG×Xe)}(r:KT H kvs xs)(k:List Key){b:YG}(hb:H b=YB (.tup (k.map kV)))(ry:RelV y u) :
  KT H (putK kvs k y) (storedH xs k b u):=by
 have e:(kvs.any λkv=>decide (kv.1=k))=(atKey xs k).isSome:=by
  rw[Zmp,(r.val k).isSome_eq,Option.isSome_map]
 unfold putK storedH;rw[e]
 by_cases q:(atKey xs k).isSome=YD
 .rw[YM q,YM q];exact r.repl k ry
 .rw[YQ q,YQ q];exact Paired.snoc r ⟨rfl,hb,ry⟩
theorem KT.keeps{xs:List (List Key×YG×Xe)}(r:KT H kvs xs)(ht:∀b ys,H b=YB (.tup ys)->H' b=YB (.tup ys)):KT H' kvs xs :=
 Paired.mapP r λ_ _ z=>⟨z.1,ht _ _ z.2.1,z.2.2⟩
section
variable {P:Qa}{w:Qo}{H:Hp}{h:YH}{a:YG}
theorem Yax{u:HO}(ok:HOk P w H h)(e:Rd H a u):ObjOk P w H h a u:=e.ok ok
theorem Zsl{kvs:List (Key×V)}(ok:HOk P w H h)(e:Rd H a (.dK kvs)):kvs.length<=XC/\(a==Uv)=YF/\∃vs,KV kvs vs/\h.DictOf (Wf P w) a vs :=
 show ObjOk P w H h a (.dK kvs)from Yax ok e
theorem Z8h{kvs:List (Key×V)}(ok:HOk P w H h)(e:H a=YB (.dK kvs)):kvs.length<=XC/\(a==Uv)=YF/\∃vs,KV kvs vs/\h.DictOf (Wf P w) a vs:=Zsl ok (.inl e)
theorem Zmy{ks:List Key}(ok:HOk P w H h)(e:H a=YB (.tup (ks.map kV))):(tupleKind (Wf P w)).is h ks a:=by
 obtain⟨_,its,r,o,h1,h2,n,h3⟩:=(show ObjOk P w H h a (.tup (ks.map kV))from ok a _ e);exact⟨o,its.toArray,n,h1,h2,h3,by simpa using Zjx r⟩
theorem Zu5(ok:HOk P w H h)(e:Rd H a (.dT kvs)):kvs.length<=XC/\(a==Uv)=YF/\
  ∃xs,KT H kvs xs/\h.DictOfH (tupleKind (Wf P w)) a xs:=by
 obtain⟨z,y,xs,r,o,es,ep,h1,h2,h3,h4,h5⟩:=(show ObjOk P w H h a (.dT kvs)from Yax ok e);refine⟨z,y,xs,r,o,es,ep,h1,h2,h3,h4,λx hx=>?_,h5⟩;have all:∀{l:List (List Key×V)} {m:List (List Key×YG×Xe)},KT H l m->∀x∈m,(tupleKind (Wf P w)).is h x.1 x.2.1:=by
  intro l m q
  induction q with
  | nil=>intro x hx;exact nomatch hx
  | @cons p q ps qs hq t ih=>
   intro x hx;rcases Xo.mp hx with e|hx
   .subst e
    exact Zmy ok (by rw[<-hq.1];exact hq.2.1)
   .exact ih x hx
 exact all r x hx
theorem Ybz(ok:HOk P w H h)(e:H a=YB (.dT kvs)):kvs.length<=XC/\(a==Uv)=YF/\
  ∃xs,KT H kvs xs/\h.DictOfH (tupleKind (Wf P w)) a xs:=Zu5 ok (.inl e)
end
def DGet(H:Hp)(a:YG)(y:V)(r:Option V):Prop :=
 (∃ kvs k,Rd H a (.dK kvs)/\y=kV k/\r=Zpd kvs k)\/∃kvs k b,Rd H a (.dT kvs)/\y= .ref b/\H b=YB (.tup (k.map kV))/\r=Zpd kvs k
def DPut(H:Hp)(a:YG)(y v:V)(H':Hp):Prop :=
 (∃ kvs k,H a=YB (.dK kvs)/\y=kV k/\kvs.length<XC/\H'=upd H a (.dK (putK kvs k v)))\/
 ∃kvs k b,H a=YB (.dT kvs)/\y= .ref b/\H b=YB (.tup (k.map kV))/\kvs.length<XC/\H'=upd H a (.dT (putK kvs k v))
theorem DGet.k{H:Hp}{a:YG}{kvs:List (Key×V)}{k:Key}(e:H a=YB (.dK kvs)):DGet H a (kV k) (Zpd kvs k):=.inl ⟨kvs,k,.inl e,rfl,rfl⟩
theorem DGet.t{H:Hp}{a b:YG}{kvs:List (List Key×V)}{k:List Key}(e:H a=YB (.dT kvs))(eb:H b=YB (.tup (k.map kV))):DGet H a (.ref b) (Zpd kvs k):=.inr ⟨kvs,k,b,.inl e,rfl,eb,rfl⟩
theorem DPut.k{H:Hp}{a:YG}{kvs:List (Key×V)}{k:Key}{v:V}(e:H a=YB (.dK kvs))(hl:kvs.length<XC):DPut H a (kV k) v (upd H a (.dK (putK kvs k v))):=.inl ⟨kvs,k,e,rfl,hl,rfl⟩
theorem DPut.t{H:Hp}{a b:YG}{kvs:List (List Key×V)}{k:List Key}{v:V}(e:H a=YB (.dT kvs))(eb:H b=YB (.tup (k.map kV)))(hl:kvs.length<XC) :
  DPut H a (.ref b) v (upd H a (.dT (putK kvs k v))):=.inr ⟨kvs,k,b,e,rfl,eb,hl,rfl⟩
section
variable {X:Cx}{pins:List (YG×Obj)}{O:St}{H:Hp}{s:Xg}{a:YG}{y v:V}{u r:Xe}{o:Option V}{A:Qv}{E:Xe->Xg->Prop}
theorem Inv.big(I:Inv X pins O H s):Uv<s.heap.objs.size:=by
 have h:Ql<s.heap.objs.size:=(I.mod.glob.keeps I.bk).lt;exact Vm (by decide) h
theorem Zq5(hu:A.units+1<Vh)(I:Inv X pins O H s)(g:DGet H a y (YB v))(ry:RelV y u)(h:∀w' s',Inv X pins O H s'->RelV v w'->Q w' s') :
  XJ (X8 X.prog X.w) A (getItem (.ref a) u) Q E s:=by
 rcases g with⟨kvs,k,e,ey,l⟩|⟨kvs,k,b,e,ey,eb,l⟩
 .subst ey
  obtain⟨z,hd,vs,rel,dd⟩:=Zsl I.hok e;obtain⟨w',hw,rw'⟩:=RelO.some_of (v:=v) (o:=valueAt vs k) (by rw[l];exact rel.val k);exact wpAny_getItem_of (Zrg ry) dd.mapOf hw (h w' _ (I.tok _) rw')
 .subst ey
  cases(show u=Xz b from ry);obtain⟨z,hd,xs,rel,dd⟩:=Zu5 I.hok e;obtain⟨w',hw,rw'⟩:=RelO.some_of (v:=v) (o:=(atKey xs k).map (·.2)) (by rw[l];exact rel.val k);obtain⟨p,hp,hp2⟩:=XD.mp hw;refine wpAny_getItem_heap (tupleKind_room_in1 hu) (Zmy I.hok eb) dd hp ?_;rw[hp2];exact h w' _ (I.tok _) rw'
theorem Z0j(hu:A.units+1<Vh)(I:Inv X pins O H s)(g:DGet H a y o)(ry:RelV y u)(h:∀s',Inv X pins O H s'->Q (.bool (!o.isSome)) s') :
  XJ (X8 X.prog X.w) A (QH .NotIn u (.ref a)) Q E s:=by
 rcases g with⟨kvs,k,e,ey,l⟩|⟨kvs,k,b,e,ey,eb,l⟩
 .subst ey
  obtain⟨z,hd,vs,rel,dd⟩:=Zsl I.hok e;refine wpAny_notIn_of (Zrg ry) hd dd.mapOf ?_;rw[<-(rel.val k).isSome_eq,<-l];exact h _ (I.tok _)
 .subst ey
  cases(show u=Xz b from ry);obtain⟨z,hd,xs,rel,dd⟩:=Zu5 I.hok e;refine wpAny_notIn_heap (tupleKind_room_in1 hu) (Zmy I.hok eb) hd dd ?_;have q:=(rel.val k).isSome_eq;rw[Option.isSome_map]at q;rw[<-q,<-l];exact h _ (I.tok _)
theorem Zlz{ob:HO}(I:Inv X pins O H s)(mu:Mut (H a))(hs:Bb a s.heap h')(he:∃q,h'.get? a=YB q)(new:ObjOk X.prog X.w (upd H a ob) h' a ob) :
  Inv X pins O (upd H a ob) { s with heap:=h',toks:=t' } :=
 I.write (x:=a) (e:=a) mu (.inl rfl) (λb q hb z=>(hs.2 b hb).trans z) he new
theorem Zxr{kvs:List (Key×V)}{vs:List (Key×Xe)}(z:kvs.length<=XC)(hd:(a==Uv)=YF)(rel:KV kvs vs)(dd:h'.DictOf (Wf P w) a vs) :
  ObjOk P w H' h' a (.dK kvs):=⟨z,hd,vs,rel,dd⟩
theorem Zqj{Q:Unit->Xg->Prop}(hu:A.units+1<Vh)(I:Inv X pins O H s)(g:DPut H a y v H')(ry:RelV y u)(rv:RelV v r)(h:∀s',Inv X pins O H' s'->Q () s') :
  XJ (X8 X.prog X.w) A (setItem (.ref a) u r) Q E s:=by
 rcases g with⟨kvs,k,e,ey,l,eH⟩|⟨kvs,k,b,e,ey,eb,l,eH⟩
 .subst ey eH
  obtain⟨z,hd,vs,rel,dd⟩:=Z8h I.hok e;have hz:vs.length<=XC:=by rw[<-rel.length];exact z
  have hl:(putK kvs k v).length<=XC:=by have:=Zcz kvs k v;omega
  refine wpAny_setItem_pairs (hsz:=hz) (Zrg ry) dd λh' dd' hs=>h _ ?_;have he:∃q,h'.get? a=YB q:=let⟨q,_,_,hq,_⟩:=dd';⟨q,hq⟩;exact Zlz I (by rw[e];exact VR) hs he (Zxr hl hd (rel.put k rv) dd')
 .subst ey eH
  cases(show u=Xz b from ry);obtain⟨z,hd,xs,rel,dd⟩:=Ybz I.hok e;have hz:xs.length<=XC:=by rw[<-Paired.length rel];exact z
  have hl:(putK kvs k v).length<=XC:=by have:=Zcz kvs k v;omega
  refine wpAny_setItem_heap (hsz:=hz) (tupleKind_room_in1 hu) (Zmy I.hok eb) dd λh' dd' hs=>h _ ?_;obtain⟨q,es,ep,hq,h2,h3,h4,_,h5⟩:=dd';refine Zlz I (by rw[e];exact VR) hs ⟨q,hq⟩ ⟨hl,hd,_,(rel.put k eb rv).keeps λc ys ec=>?_,q,es,ep,hq,h2,h3,h4,h5⟩;rw[Zq (Yb7 ec e (λz=>nomatch z))];exact ec
end
section
variable {X:Cx}{pins:List (YG×Obj)}{O:St}{H:Hp}{s:Xg}{a:YG}{kvs:List (Key×V)}{k:Key}{u:Xe}{A:Qv}{E:Xe->Xg->Prop}
end
def Ycy(i:YJ):Prop:=∀ov iv,subscripted i YF ov iv=operate [ov,iv] (getItem ov iv)
theorem Z0f{slice:YJ}{T:String}
  (hl:typeLookup (.type T) "__getitem__"=pure (YB (.builtin id))) (hs:Ycy slice)
  (h:XJ (X8 prog w) A (eval value env) (λo s₁=>XJ (X8 prog w) A (eval slice env) (λi s₂=>s₂.TypeIs o T/\XJ (X8 prog w) A (getItem o i) Q E s₂) E s₁) E s) :
  XJ (X8 prog w) A (eval (.Subscript value slice pos) env) Q E s:=by
 refine Subscript_ (Bo h (λo s₁ h₁=>Bo h₁ (λi s₂ h₂=>?_) λ_ _ x=>x) λ_ _ x=>x);obtain⟨hT,h₂⟩:=h₂;unfold subscriptTail;refine Xb ?_;rw[getitemInPython_of_ne hT.not_modules];refine Xb (wpAny_specialOf hT hl ?_);have fin:XJ (X8 prog w) A (subscripted slice YF o i) (λr s₃=>XJ (X8 prog w) A (letTemporaryGo value o r>>= λ_=>pure r) Q E s₃) E s₂:=by
  rw[hs o i];exact wpAny_operating (Bo h₂ (λr s₃ h₃=>Xb (wpAny_letTemporaryGo (Xl h₃))) λ_ _ x=>x)
 first
  | exact Xl (Xb fin)
  | exact Xb (Xl (Xb fin))
  | exact Xb fin
theorem Zmb{O:St}{o:Option V}(I:Inv X pins O H s)(g:DGet H a y o):s.TypeIs (.ref a) "dict" :=by
 rcases g with⟨kvs,k,e,_,_⟩|⟨kvs,k,b,e,_,_,_⟩
 .obtain⟨_,_,vs,_,dd⟩:=Zsl I.hok e
  exact dd.typeIs
 .obtain⟨_,_,xs,_,dd⟩:=Zu5 I.hok e
  exact dd.typeIs
def Yd1(td ty:TE):TE:=λO H Q=>td O H λx H1=>ty O H1 λy H2=>∃a v,x= .ref a/\DGet H2 a y (YB v)/\Q v H2
def Ybt(td ty tv:TE):TS:=λD O H=>tv O H λv H1=>td O H1 λx H2=>ty O H2 λy H3=>∃a H4,x= .ref a/\DPut H3 a y v H4/\D.nx O H4
section
variable {X:Cx}{o i e value:YJ}{pos pos' tpos:Pos}{td ty tv:TE}
theorem Z0t(hu:X.A.units+1<Vh)(ho:PE X o td)(hi:PE X i ty)(hs:Ycy i):PE X (.Subscript o i pos) (Yd1 td ty):=by
 intro pins s O H Q I h;refine Z0f PySem.F.slot_dict_getitem.lookup hs (thn (ho pins s O H _ I h) λu s1 ⟨x,H1,I1,rx,q1⟩=>thn (hi pins s1 O H1 _ I1 q1) λiv s2 ⟨y,H2,I2,ry,a,v,ex,g,q2⟩=>?_);subst ex;obtain rfl:u=Xz a:=rx;exact⟨Zmb I2 g,Zq5 hu I2 g ry λw' s3 I3 rw'=>⟨v,H2,I3,rw',q2⟩⟩
theorem Z0s(hu:X.A.units+1<Vh)(ho:PE X o td)(hi:PE X i ty)(hv:PE X value tv)(hs:VH value (YB (.Subscript o i pos')) pos.line X.env=pure YF) :
  PS X (.Assign [.Subscript o i pos'] value pos) (Ybt td ty tv):=by
 intro pins s O H D I h;refine wpAny_Assign_Subscript (thn (hv pins s O H _ I h) λr s1 ⟨v,H1,I1,rv,q1⟩=>thn (ho pins s1 O H1 _ I1 q1) λu s2 ⟨x,H2,I2,rx,q2⟩=>thn (hi pins s2 O H2 _ I2 q2) λiv s3 ⟨y,H3,I3,ry,a,H4,ex,g,q3⟩=>?_) hs;subst ex;obtain rfl:u=Xz a:=rx;exact Zqj hu I3 g ry rv λs4 I4=>⟨O,H4,I4,q3⟩
end
theorem Zxj(h:YH)(hb:Uv<h.objs.size):ObjOk P w H (h.push { cls:=.type "dict",data:=.dict #[] }) h.objs.size (.dK []) :=
 ⟨Qw _,beq_eq_false_iff_ne.mpr (Vu (Xp hb)),[],.nil,Heap.DictOf.new h⟩
section
variable {X:Cx}{pos:Pos}
end
def Zum:List (TE×TE)->St->Hp->(List (V×V)->Hp->Prop)->Prop
 | [],_,H,Q=>Q [] H
 | (tk,tv)::r,O,H,Q=>tk O H λx H1=>tv O H1 λy H2=>Zum r O H2 λps H3=>Q ((x,y)::ps) H3
abbrev VV:List (V×V)->List (Xe×Xe)->Prop:=Paired λp q=>RelV p.1 q.1/\RelV p.2 q.2
def PPs(X:Cx)(pos:Pos)(keys:List (Option YJ))(values:List YJ)(trs:List (TE×TE)):Prop :=
 ∀(pins:List (YG×Obj)) (s:Xg) (O:St) (H:Hp) (Q:List (V×V)->Hp->Prop),Inv X pins O H s->Zum trs O H Q ->
  XJ (X8 X.prog X.w) X.A (evalPairs (pairTrees keys values X.env pos)) (λvs s'=>∃ps H',Inv X pins O H' s'/\VV ps vs/\Q ps H') X.xe s
theorem Z27:PPs X pos [] [] []:=λpins s O H Q I h=>pairTrees_nil_walk ⟨[],H,I,.nil,h⟩
theorem Zw8{k v:YJ}{ks:List (Option YJ)}{vs:List YJ}{tk:TE}{trs:List (TE×TE)}(hk:PE X k tk)(hv:PE X v tv)(hr:PPs X pos ks vs trs) :
  PPs X pos (YB k::ks) (v::vs) ((tk,tv)::trs):=λpins s O H Q I h=>
 pairTrees_cons_walk (thn (hk pins s O H _ I h) λu s1 ⟨x,H1,I1,rx,q1⟩=>thn (hv pins s1 O H1 _ I1 q1) λw2 s2 ⟨y,H2,I2,ry,q2⟩=>
  thn (hr pins s2 O H2 _ I2 q2) λws s3 ⟨ps,H3,I3,rel,q3⟩=>⟨(x,y)::ps,H3,I3,.cons ⟨rx,ry⟩ rel,q3⟩)
def Zet(kvs more:List (Key×V)):List (Key×V):=more.foldl (λacc kv=>putK acc kv.1 kv.2) kvs
theorem KV.merge:∀{more:List (Key×V)} {rs:List (Key×Xe)} {kvs:List (Key×V)} {vs:List (Key×Xe)},KV more rs->KV kvs vs->KV (Zet kvs more) (merged vs rs):=by
 intro more rs kvs vs r;unfold KV at r
 induction r generalizing kvs vs with
 | nil=>intro q;exact q
 | @cons p q ps qs h t ih=>
  intro r0;have e:KV (putK kvs p.1 p.2) (stored vs q.1 q.2):=by
   have:=r0.put p.1 h.2;rw[<-h.1];exact this
  exact ih e
theorem Zc2:∀(more kvs:List (Key×V)),(Zet kvs more).length<=kvs.length+more.length
 | [],kvs=>by show kvs.length<=kvs.length+0;omega
 | p::r,kvs=>by
  have h1:=Zc2 r (putK kvs p.1 p.2);have h2:=Zcz kvs p.1 p.2;show(Zet (putK kvs p.1 p.2) r).length<=_;rw[QC];omega
theorem Zhe{P:Qa}{w:Qo}:∀{kvs:List (Key×V)} {ws:List (Xe×Xe)},VV (kvs.map λkv=>(kV kv.1,kv.2)) ws->∃rs,Carries (Wf P w) ws rs/\KV kvs rs
 | [],_,r=>by rw[List.map_nil]at r;cases r;exact⟨[],VR,.nil⟩
 | p::kvs,_,r=>by
  rw[X4]at r;cases r with
  | @cons a b as bs h t=>
   obtain⟨rs,c,q⟩:=Zhe (P:=P) (w:=w) t;obtain⟨b1,b2⟩:=b;exact⟨(p.1,b2)::rs,⟨Zrg h.1,rfl,c⟩,.cons ⟨rfl,h.2⟩ q⟩
def Ydy(trs:List (TE×TE)):TE:=λO H Q=>∀p,H p=YC->Zum trs O (upd H p (.dK [])) λps H2=>H2 p=YB (.dK [])/\∃kvs:List (Key×V),ps=kvs.map (λkv=>(kV kv.1,kv.2))/\kvs.length<=15/\Q (.ref p) (upd H2 p (.dK (Zet [] kvs)))
theorem Z0v{keys:List (Option YJ)}{values:List YJ}{trs:List (TE×TE)}(h:PPs X pos keys values trs)(hall:keys.all (·.isSome)=YD)(hl:keys.length=values.length)(h0:keys≠[])
  (h15:keys.length<=15):PE X (.Dict keys values pos) (Ydy trs):=by
 intro pins s O H Q I q;have hn:=I.hok.fresh (Xy s.heap.objs.size);have I1:=I.laid (a:=s.heap.objs.size) (o:=.dK []) (h':=s.heap.push { cls:=.type "dict",data:=.dict #[] }) (t':=s.toks) (λ_ _ q=>Xf _ q) (Xy _) (Zxj s.heap I.big);refine wpAny_Dict_walk (knd:=Wf X.prog X.w) hall hl h0 h15 (thn (h pins _ O _ _ I1 (q _ hn)) λws s2 ⟨ps,H2,I2,rel,e,kvs,ep,lk,q2⟩=>?_);subst ep;obtain⟨rs,c,rk⟩:=Zhe (P:=X.prog) (w:=X.w) rel;obtain⟨z,hd,vs0,r0,dd⟩:=Z8h I2.hok e;cases r0;refine⟨rs,c,dd,λh' dd' hs=>⟨.ref s.heap.objs.size,_,?_,rfl,q2⟩⟩;have hz:(Zet [] kvs).length<=XC:=by
  have h1:=Zc2 kvs [];rw[Vg]at h1;rw[X7];omega
 have he:∃q,h'.get? s.heap.objs.size=YB q:=let⟨q,_,_,hq,_⟩:=dd';⟨q,hq⟩;exact Zlz I2 (by rw[e];exact VR) hs he (Zxr hz hd (rk.merge .nil) dd')
structure M1(X:Cx)(o:YJ)(m:Str)(apos:Pos)(e:YJ)(cpos:Pos):Prop where
 base:Ui o m X.env (eval o X.env)=eval o X.env
 few:((JF cpos (Xu [e] X.env)).all (λx=>!x.1)&&(backToKw cpos (U9 [] X.env)).all (λx=>x.1.isSome)
  &&decide (([e]:List YJ).length+([]:List Ua).length+(if([]:List Ua).isEmpty then 0 else 1)<30))=YD
 line:(apos.endLine==cpos.line)=YD
 trees:JF cpos (Xu [e] X.env)=[(YF,eval e X.env)]
structure M2(X:Cx)(o:YJ)(m:Str)(apos:Pos)(e f:YJ)(cpos:Pos):Prop where
 base:Ui o m X.env (eval o X.env)=eval o X.env
 few:((JF cpos (Xu [e,f] X.env)).all (λx=>!x.1)&&(backToKw cpos (U9 [] X.env)).all (λx=>x.1.isSome)
  &&decide (([e,f]:List YJ).length+([]:List Ua).length+(if([]:List Ua).isEmpty then 0 else 1)<30))=YD
 line:(apos.endLine==cpos.line)=YD
 trees:JF cpos (Xu [e,f] X.env)=[(YF,eval e X.env),(YF,eval f X.env)]
def IsD(H:Hp)(a:YG):Prop:=(∃kvs,Rd H a (.dK kvs))\/∃kvs,Rd H a (.dT kvs)
section
variable {X:Cx}{pins:List (YG×Obj)}{O:St}{H:Hp}{s:Xg}{a:YG}{y d:V}{u r:Xe}{o:Option V}{A:Qv}{E:Xe->Xg->Prop}
end
section
variable {X:Cx}{o e f:YJ}{apos cpos:Pos}{td ty tx:TE}
end
variable {G:Xd}
def Zgx:Xa->Option Key
 | .int i=>YB (.inl i)
 | .str x=>YB (.inr x)
 | _=>YC
def Zkt:List Xa->Option (List Key)
 | []=>YB []
 | d::ds=>(Zgx d).bind λk=>(Zkt ds).bind λks=>YB (k::ks)
def Zjc:Xa->Option KY
 | .tuple ds=>(Zkt ds).map .inr
 | d=>(Zgx d).map .inl
def Zrj:KY->Bool
 | .inl _=>YF
 | .inr _=>YD
theorem Z1k(k:Key):Zgx (Z6p k)=YB k:=by cases k<;>rfl
theorem Z2e(ks:List Key):Zkt (ks.map Z6p)=YB ks:=by
 induction ks with
 | nil=>rfl
 | cons k ks ih=>rw[X4,Zkt,Z1k,ih];rfl
theorem Z6f(k:KY):Zjc (kyD k)=YB k:=by
 cases k with
 | inl k=>cases k<;>rfl
 | inr ks=>show(Zkt (ks.map Z6p)).map (Sum.inr:List Key->KY)=_;rw[Z2e];rfl
def Zuy(k:KY):List KY->List Xa->Option Xa
 | [],_=>YC
 | _::_,[]=>YC
 | j::ks,d::ds=>if j=k then YB d else Zuy k ks ds
def Ycv(k:KY)(x:Xa):List KY->List Xa->List Xa
 | [],ds=>ds
 | _::_,[]=>[]
 | j::ks,d::ds=>(if j=k then x else d)::Ycv k x ks ds
def Zzn(k:KY)(ks:List KY):Bool:=ks.any λj=>decide (j=k)
def Zsa(k:KY)(ks:List KY):List KY:=if Zzn k ks=YD then ks else ks++[k]
def Zq2(k:KY)(x:Xa)(ks:List KY)(ds:List Xa):List Xa:=if Zzn k ks=YD then Ycv k x ks ds else ds++[x]
section
variable {H:Hp}{L:YG->Prop}{κ:Type}[DecidableEq κ]{f:κ->KY}
def Ycw(G:Xd)(H:Hp)(L:YG->Prop)(a:Option V)(b:Option Xa):Prop:=(∃v d,a=YB v/\b=YB d/\Da G H L v d)\/(a=YC/\b=YC)
theorem look(hf:∀a b,f a=f b->a=b)(k:κ)(kvs:List (κ×V)):∀ds,Das G H L (kvs.map (·.2)) ds->Ycw G H L (Zpd kvs k) (Zuy (f k) (kvs.map λp=>f p.1) ds):=by
 induction kvs with
 | nil=>exact λds _=>.inr ⟨rfl,rfl⟩
 | cons p kvs ih=>
  intro ds h;cases h with
  | cons h r=>
   rename_i d ds;show Ycw G H L _ (if f p.1=f k then YB d else Zuy (f k) (kvs.map λp=>f p.1) ds)
   by_cases e:p.1=k
   .rw[Ze6 e,YM (YW f e)]
    exact .inl ⟨_,_,rfl,rfl,h⟩
   .rw[Ze9 e,YQ λz=>e (hf _ _ z)]
    exact ih _ r
theorem Yfy(hf:∀a b,f a=f b->a=b)(k:κ)(kvs:List (κ×V)):(kvs.any λkv=>decide (kv.1=k))=Zzn (f k) (kvs.map λp=>f p.1):=by
 unfold Zzn;rw[List.any_map];refine YW (List.any kvs) (funext λp=>?_);exact decide_eq_decide.mpr ⟨YW f,hf _ _⟩
theorem Yhm(k:κ)(v:V)(kvs:List (κ×V)):(kvs.map (λkv=>if kv.1=k then(kv.1,v)else kv)).map (λp=>f p.1)=kvs.map λp=>f p.1:=by
 rw[Qk];refine XS λp _=>?_;show f (if p.1=k then(p.1,v)else p).1=f p.1
 by_cases c:p.1=k
 .rw[YM c]
 .rw[YQ c]
theorem Yhx(hf:∀a b,f a=f b->a=b)(k:κ){x:Xa}(hv:Da G H L v x)(kvs:List (κ×V)):∀ds,Das G H L (kvs.map (·.2)) ds->Das G H L ((kvs.map (λkv=>if kv.1=k then(kv.1,v)else kv)).map (·.2)) (Ycv (f k) x (kvs.map λp=>f p.1) ds):=by
 induction kvs with
 | nil=>intro ds h;cases h;exact .nil
 | cons p kvs ih=>
  intro ds h;cases h with
  | cons h r=>
   rename_i d ds;refine .cons ?_ (ih _ r);show Da G H L (if p.1=k then(p.1,v)else p).2 (if f p.1=f k then x else d)
   by_cases e:p.1=k
   .rw[YM e,YM (YW f e)];exact hv
   .rw[YQ e,YQ λz=>e (hf _ _ z)];exact h
theorem Znt(hf:∀a b,f a=f b->a=b)(k:κ)(v:V)(kvs:List (κ×V)):(putK kvs k v).map (λp=>f p.1)=Zsa (f k) (kvs.map λp=>f p.1):=by
 unfold putK Zsa;rw[Yfy hf];cases c:Zzn (f k) (kvs.map λp=>f p.1)with
 | true=>rw[YM rfl,YM rfl,Yhm]
 | false=>rw[YQ Xx,YQ Xx,Qh];rfl
theorem Zm3(hf:∀a b,f a=f b->a=b)(k:κ){x:Xa}(hv:Da G H L v x)(kvs:List (κ×V))(h:Das G H L (kvs.map (·.2)) ds):Das G H L ((putK kvs k v).map (·.2)) (Zq2 (f k) x (kvs.map λp=>f p.1) ds):=by
 unfold putK Zq2;rw[Yfy hf];cases c:Zzn (f k) (kvs.map λp=>f p.1)with
 | true=>rw[YM rfl,YM rfl];exact Yhx hf k hv kvs _ h
 | false=>rw[YQ Xx,YQ Xx,Qh];exact h.snoc hv
end
theorem Zl9:∀a b:Key,(Sum.inl a:KY)=Sum.inl b->a=b:=λ_ _ h=>Sum.inl.inj h
theorem Zl4:∀a b:List Key,(Sum.inr a:KY)=Sum.inr b->a=b:=λ_ _ h=>Sum.inr.inj h
section
variable {H:Hp}{L:YG->Prop}{y:V}{e:Xa}
theorem Da.key1{k:Key}(h:Da G H L y e)(hk:Zgx e=YB k):y=kV k:=by
 cases h with
 | int i=>cases hk;rfl
 | str x=>cases hk;rfl
 | exc _ _ _=>unfold exD Zgx at hk;cases hk
 | fn _=>unfold fnD Zgx at hk;cases hk
 | dic _ _ _ _=>unfold dcD Zgx at hk;cases hk
 | _=>cases hk
theorem Das.keys(h:Das G H L xs ds):∀ks,Zkt ds=YB ks->xs=ks.map kV :=
 Das.ind (Q:=λxs ds=>∀ks,Zkt ds=YB ks->xs=ks.map kV) (λks h=>by cases h;rfl) (fun{x xs d ds} h _ ih ks hk=>by
  rw[Zkt]at hk;obtain⟨k,h1,hk⟩:=bs hk;obtain⟨ks',h2,hk⟩:=bs hk;cases hk;rw[h.key1 h1,ih _ h2];rfl) h
theorem Da.keyT{ks:List Key}(h:Da G H L y e)(hk:Zjc e=YB (.inr ks)):∃b,y= .ref b/\H b=YB (.tup (ks.map kV)):=by
 cases h with
 | tup e1 r=>
  rw[Zjc]at hk;obtain⟨ks',h1,h2⟩:=XD.mp hk;cases h2;exact⟨_,rfl,by rw[<-r.keys _ h1];exact e1⟩
 | exc _ _ _=>unfold exD Zjc Zgx at hk;cases hk
 | fn _=>unfold fnD Zjc Zgx at hk;cases hk
 | dic _ _ _ _=>unfold dcD Zjc Zgx at hk;cases hk
 | _=>cases hk
theorem Da.keyS{k:Key}(h:Da G H L y e)(hk:Zjc e=YB (.inl k)):y=kV k:=by
 refine h.key1 ?_;unfold Zjc at hk;split at hk
 .obtain⟨_,_,z⟩:=XD.mp hk;cases z
 .obtain⟨_,h1,z⟩:=XD.mp hk;cases z;exact h1
def Zg7(k:KY):List (Xa×Xa)->Option Xa
 | []=>YC
 | p::r=>if Zjc p.1=YB k then YB p.2 else Zg7 k r
theorem Zfp(k:KY)(ks:List KY):∀ds,Zg7 k ((ks.map kyD).zip ds)=Zuy k ks ds:=by
 induction ks with
 | nil=>intro ds;rfl
 | cons j ks ih=>
  intro ds;cases ds with
  | nil=>rfl
  | cons d ds=>
   show(if Zjc (kyD j)=YB k then YB d else Zg7 k ((ks.map kyD).zip ds))=if j=k then YB d else Zuy k ks ds
   rw[Z6f,ih]
   by_cases c:j=k
   .rw[YM c,YM (YW YB c)]
   .rw[YQ c,YQ λz=>c (Qy z)]
theorem Da.dget{x:V}{t:Bool}{kvs:List (Xa×Xa)}{k:KY}(h:Da G H L x (.dict ((.none,.bool t)::kvs)))(hy:Da G H L y e)(hk:Zjc e=YB k)(ht:Zrj k=t):∃a o,x= .ref a/\IsD H a/\DGet H a y o/\Ycw G H L o (Zg7 k kvs):=by
 generalize ed:Xa.dict ((.none,.bool t)::kvs)=d at h;cases h with
 | dic l r dk q=>
  rename_i a o t' ks xs ds;unfold dcD at ed;injection ed with ed;injection ed with e1 e2;injection e1 with _ e1;injection e1 with e1;subst e1 e2;rw[Zfp];cases o with
  | lst _=>exact dk.elim
  | dK kv=>
   obtain⟨rfl,rfl,rfl⟩:=dk;cases k with
   | inr _=>cases ht
   | inl k=>exact⟨a,_,rfl,.inl ⟨kv,r⟩,.inl ⟨kv,k,r,hy.keyS hk,rfl⟩,look Zl9 k kv _ q⟩
  | dT kv=>
   obtain⟨rfl,rfl,rfl⟩:=dk;cases k with
   | inl _=>cases ht
   | inr k=>
    obtain⟨b,hb,eb⟩:=hy.keyT hk;exact⟨a,_,rfl,.inr ⟨kv,r⟩,.inr ⟨kv,k,b,r,hb,eb,rfl⟩,look Zl4 k kv _ q⟩
 | exc _ _ _=>unfold exD at ed;cases ed
 | fn _=>unfold fnD at ed;cases ed
 | _=>cases ed
end
variable {G:Xd}
section
variable {X:Cx}{io:List Nat}{p c p' c':Bool}{a b e f o:YJ}{ma mb m mi mo me mf:MEt}{pos pp apos cpos px:Pos}{i:Nat}{x:Str}
theorem hu1{n:Nat}(h:n+64<Vh):n+1<Vh:=Nat.lt_of_le_of_lt (Nat.add_le_add_left (by decide:1<=64) _) h
def Zpt:Xa->Xa->Option OT:=λd e=>match d with
 | .dict ((.none,.bool t)::kvs)=>(Zjc e).bind λk=>if Zrj k=t then(Zg7 k kvs).map OT.fz else YC
 | _=>YC
def Ydp:Xa->Xa->(OT->Prop)->Prop:=λd e k=>∃r,Zpt d e=YB r/\k r
def Yga:R2:=λx y H Q=>∃a v,x= .ref a/\DGet H a y (YB v)/\Q v H
theorem Yac:ByO Zpt Ydp:=λ_ _ r _ h hk=>⟨r,h,hk⟩
theorem Z6g:P2 G Yga Ydp:=λH L x y d e k Q hx hy h kk=>by
 obtain⟨r,h,hk⟩:=h;unfold Zpt at h;split at h
 case h_2=>cases h
 rename_i t kvs;obtain⟨ky,h1,h⟩:=bs h
 by_cases ht:Zrj ky=t
 .rw[YM ht]at h
  obtain⟨a,o,rfl,_,g,R⟩:=hx.dget hy h1 ht;obtain⟨z,hz,rfl⟩:=XD.mp h;rcases R with⟨v,d,rfl,hd,q⟩|⟨_,hd⟩
  .rw[hz]at hd
   cases hd;exact⟨a,v,rfl,g,kk H v (.fz z) [] (Same.refl _) (.fz (q.wide λa l _=>⟨.inl l,λm=>nomatch m⟩)) .nil (λa m=>nomatch m) hk⟩
  .rw[hz]at hd;cases hd
 .rw[YQ ht]at h;cases h
theorem Z7l(hu:X.A.units+64<Vh)(ha:ME X io p c a ma)(hb:ME X io p' c' b mb)(hc:p'=YD\/c=YD:=by first|exact QL rfl|exact Qt rfl)(hs:Ycy b):ME X io (p&&p') (c&&c') (.Subscript a b pos) (Z9a Ydp ma mb):=by
 obtain⟨_,A,sa⟩:=ha;obtain⟨_,B,sb⟩:=hb;exact⟨_,Z0t (hu1 hu) A B hs,Yeh (r:=Yga) Z6g sa sb hc⟩
theorem Rel.ownDc{C:MC G}{H:Hp}{O:St}{δ:Zf}{fp:Fp}{ex:YG->Prop}{t:Bool}{ks:List KY}{ds:List Xa}(R:Rel C io H O δ fp ex)(hi:δ[i]? =YB (YB (.dc t ks ds))) :
  ∃a' ob xs,O[i]? =YB (YB (.ref a'))/\H a'=YB (MuO.ho ob)/\ob.dic t ks xs/\Das G H (Lf C fp ex) xs ds/\fp i=[a']:=by
 obtain⟨v,e,o⟩:=R.own i _ hi;generalize hf:fp i=as at o;cases o with
 | dc h k r=>exact⟨_,_,_,e,h,k,r,rfl⟩
theorem Rel.topD{C:MC G}{H:Hp}{O:St}{δ:Zf}{fp:Fp}{ex:YG->Prop}{t:Bool}{ks ks':List KY}{ds ds':List Xa}{a':YG}{ob ob':MuO}{ys:List V}(R:Rel C io H O δ fp ex)(hi:δ[i]? =YB (YB (.dc t ks ds)))(hv:O[i]? =YB (YB (.ref a')))
  (hf:fp i=[a']) (hx:H a'=YB ob.ho) (dk:ob'.dic t ks' ys) (o:Das G H (Lf C fp ex) ys ds') :
  Rel C io (upd H a' ob'.ho) O (δ.set i (YB (.dc t ks' ds'))) (fpu fp i [a']) ex/\Stp YF H δ fp (upd H a' ob'.ho) (δ.set i (YB (.dc t ks' ds'))) (fpu fp i [a']):=by
 have hm:a'∈fp i:=by rw[hf];exact .head _
 have ne':∀a,¬Foot fp a->a≠a':=λa h z=>h ⟨i,by rw[z];exact hm⟩;have kp:∀b o,H b=YB o->b≠a'->upd H a' ob'.ho b=YB o:=λb o e n=>by rw[Zq n];exact e
 have sub:∀a,a∈[a']->a∈fp i:=λa m=>by rw[hf];exact m
 have o':Das G (upd H a' ob'.ho) (Lf C (fpu fp i [a']) (exu ex [])) ys ds':=by
  have f0:∀a,¬Foot fp a->¬Foot (fpu fp i [a']) a:=λa h z=>by
   rcases z.of_u with z|⟨j,_,z⟩
   .exact h ⟨i,sub a z⟩
   .exact h ⟨j,z⟩
  refine o.frame (λa zs l q=>⟨⟨f0 a l.1,λz=>l.2.1 (Ju.mp z),l.2.2⟩,?_⟩) λa zs q=>kp a _ q λz=>ImO.nm q (z▸hx);rcases q with q|⟨u,q⟩
  .exact .inl (kp a _ q (ne' a l.1))
  .exact .inr ⟨u,kp a _ q (ne' a l.1)⟩
 have key:=R.change (new:=[]) (as':=[a']) (t':=.dc t ks' ds') (H':=upd H a' ob'.ho) hi hv (λb o e nb=>kp b o e λz=>nb (by rw[z];exact hm)) (λb e=>by
   by_cases q:b=a'
   .subst q;rw[Zu]at e;cases e
   .rwa[Zq q]at e) (.dc Zu dk o') (Zbc a') (λa m=>.inl (sub a m)) (λa m=>nomatch m)
 exact⟨key.1.drop λa z=>.inl z,key.2⟩
def Z7y(i:Nat)(m mi:MEt):MSt:=λD δ=>m δ λr δ1=>match δ1[i]? with
 | some (YB (.dc t ks ds))=>mi δ1 λn _=>match Zjc n.data with
  | some k=>(Zrj k=t/\ks.length<XC)/\D.nx (δ1.set i (YB (.dc t (Zsa k ks) (Zq2 k r.data ks ds))))
  | none=>False
 | _=>False
theorem Z0m(i:Nat)(hu:X.A.units+64<Vh)(he:ME X io p YD e m)(hj:ME X io YD c a mi)(hN:X.N[i]? =YB x:=by rfl)(hv:Vis X.env.scope x:=by first|exact QL rfl|exact Qt (QL rfl)|exact Qt (Qt rfl))(hd:(x==("__debug__" : Str))=YF:=by decide)
  (hcd:(x==("__classdict__" : Str))=YF:=by decide)
  (hs:VH e (YB (.Subscript (.Name x px) a pp)) pos.line X.env=pure YF:=by rfl):MS X io (.Assign [.Subscript (.Name x px) a pp] e pos) (Z7y i m mi):=by
 obtain⟨_,A,s⟩:=he;obtain⟨_,B,sj⟩:=hj;refine⟨_,Z0s (hu1 hu) (pv i hN hv hd hcd) B A hs,λC H O δ fp ex D D' R h E=>?_⟩;refine s C H O δ fp ex _ _ R h λH1 v r δ1 fp1 new r1 h1=>?_;have R1:=r1.base;have q:=(r1.da R).wide (L':=Lf C fp1 ex) λa l _=>l rfl;split at h1
 case h_2=>exact h1.elim
 rename_i t ks ds hi;obtain⟨a',_,_,hv0,_⟩:=R1.ownDc hi;refine⟨_,hv0,?_⟩;refine sj.pureAfter R1 h1 λH2 w n R2 s2 q2 h2=>?_;split at h2
 case h_2=>exact h2.elim
 rename_i k hk;obtain⟨⟨ht,hl⟩,h2⟩:=h2;obtain⟨a2,ob,xs,hv2,hx,dk,o,hf⟩:=R2.ownDc hi;rw[hv0]at hv2;cases hv2;have q':=q.same s2;have kpp:Kp H1 fp1 H2 fp1:=⟨λb o e _=>s2 _ _ e,λz=>(nomatch z),λa z=>.inl z,s2.al⟩;cases ob with
 | lst _=>exact dk.elim
 | dK kv=>
  obtain⟨rfl,rfl,rfl⟩:=dk;rw[Xc]at hl;cases k with
  | inr _=>cases ht
  | inl k=>
   obtain⟨R3,S3⟩:=R2.topD (ob':=.dK (putK kv k v)) hi hv0 hf hx ⟨rfl,(Znt Zl9 k v kv).symm,rfl⟩ (Zm3 Zl9 k q' kv o);exact⟨a',_,rfl,.inl ⟨kv,k,hx,q2.keyS hk,hl,rfl⟩,E.nx _ O _ _ R3 (r1.stp.kp.trans (Kp.trans kpp S3.kp)) h2⟩
 | dT kv=>
  obtain⟨rfl,rfl,rfl⟩:=dk;rw[Xc]at hl;cases k with
  | inl _=>cases ht
  | inr k=>
   obtain⟨b',hb,eb⟩:=q2.keyT hk;obtain⟨R3,S3⟩:=R2.topD (ob':=.dT (putK kv k v)) hi hv0 hf hx ⟨rfl,(Znt Zl4 k v kv).symm,rfl⟩ (Zm3 Zl4 k q' kv o);exact⟨a',_,rfl,.inr ⟨kv,k,b',hx,hb,eb,hl,rfl⟩,E.nx _ O _ _ R3 (r1.stp.kp.trans (Kp.trans kpp S3.kp)) h2⟩
def Zjk(i:Nat)(e j:FE):FS:=wE e λr δ1=>match δ1[i]? with
 | some (YB (.dc t ks ds))=>wE j (λn _=>match Zjc n.data with
  | some k=>if Zrj k=t/\ks.length<XC then .nx (δ1.set i (YB (.dc t (Zsa k ks) (Zq2 k r.data ks ds))))else .bad
  | none=>.bad) δ1
 | _=>.bad
theorem Z08(h:MS X io st (Z7y i (o2 fa) (o2 fb))):MS X io st (oS (Zjk i fa fb)):=h.weak λD δ h=>by
 refine(Zjb h).imp λr δ' z=>?_;split at z
 case h_2=>exact z.elim
 rename_i q;(try rw[q]);refine(Zjb z).imp λn δ2 z=>?_;split at z
 case h_2=>exact z.elim
 rename_i k q2;(try rw[q2]);exact Zfj z
end
def Yaz:Xa->Xa->Option OT:=λd e=>match d,e with| .str x,.int i=>if x.length<=XC then(atI x.cps.toList i).map λc=>.fz (.str ⟨#[c]⟩)else YC|_,_=>YC
def Yg2:Xa->Xa->(OT->Prop)->Prop:=λd e k=>∃r,Yaz d e=YB r/\k r
theorem Yew:ByO Yaz Yg2:=λ_ _ r _ h hk=>⟨r,h,hk⟩
theorem Z9s:P2 G (rIx G) Yg2:=λH L x y d e k Q hx hy h kk=>by
 obtain⟨r,h,hk⟩:=h;unfold Yaz at h;split at h
 case h_2=>cases h
 rename_i z i;cases hx;cases hy
 by_cases c:z.length<=XC
 .rw[YM c]at h
  obtain⟨ch,h1,rfl⟩:=XD.mp h;exact .inr (.inr ⟨z,i,ch,rfl,rfl,c,h1,kk H _ (.fz (.str ⟨#[ch]⟩)) [] (Same.refl _) (.fz (.str _)) .nil (λa m=>nomatch m) hk⟩)
 .rw[YQ c]at h;cases h
end L2
namespace L2
open PySem PySem.Spec PyProof.Rows PySem.W PySem.SeqAt
theorem Paired.at{α β:Type}{R:α->β->Prop}{as:List α}{bs:List β}(h:PySem.Paired R as bs):∀{i:Nat} {y:β},bs[i]? =YB y->∃x,as[i]? =YB x/\R x y:=by
 induction h with
 | nil=>intro i y z;cases z
 | cons h t ih=>
  intro i y z;cases i with
  | zero=>cases z;exact⟨_,rfl,h⟩
  | succ i=>exact ih z
end L2
namespace L2
open PySem PySem.Spec PyProof.Rows PySem.W PySem.SeqAt
def kdP:Xa->Option (Int×Int):=λd=>match d with| .tuple [.int a,.int b]=>YB (a,b)|_=>YC
def ltP:Int×Int->Int×Int->Bool:=λa b=>if a.1=b.1 then(if a.2=b.2 then YF else decide (a.2<b.2))else decide (a.1<b.1)
theorem Zdj{d:Xa}{k:Int×Int}(h:kdP d=YB k):d= .tuple [.int k.1,.int k.2]:=by
 unfold kdP at h;split at h
 case h_2=>cases h
 cases h;rfl
theorem Zly{k:Int×Int}(r:Reads h u (.tuple [.int k.1,.int k.2]) as):∃(t:YG) (o:Obj) (n:Nat) (t1 t2:Tok),u= .ref t/\h.get? t=YB o/\o.cls= .type "tuple"/\o.data= .seq #[.int k.1 t1,.int k.2 t2] n:=by
 cases r with
 | @tuple t o vs n xs as e c d q=>
  obtain⟨l,hl⟩:∃l,l=vs.toList:=⟨_,rfl⟩;rw[<-hl]at q;cases q with
  | cons r1 q=>
   cases q with
   | cons r2 q=>
    cases q;cases r1;cases r2;rename_i t1 t2;have:vs=#[.int k.1 t1,.int k.2 t2]:=Array.toList_inj.mp hl.symm;subst this;exact⟨t,o,n,t1,t2,rfl,e,c,d⟩
theorem Z5n:Yb8 kdP ltP:=by
 refine⟨λd k h=>by rw[Zdj h];exact(Zb2 [k.1,k.2]).1,tuples' YD,λprog w A E s vs ds as Q h2 r hk q=>?_,λprog w A E s u v d e as bs k m C hu r1 r2 h1 h2 h=>?_⟩
 .have key:∃fs:List Xe,KatTups s.heap vs fs/\fs.length=vs.length/\∀v∈fs,∃i t,v= .int i t:=by
   clear h2 q
   induction ds generalizing vs as with
   | nil=>cases r;exact⟨[],trivial,rfl,λ_ m=>nomatch m⟩
   | cons d ds ih=>
    cases r with
    | cons r q=>
     obtain⟨fs,t,l,z⟩:=ih _ _ q λd m=>hk d (.tail _ m);obtain⟨k,hk⟩:=hk d (.head _);rw[Zdj hk]at r;obtain⟨t',o,n,t1,t2,rfl,e,c,hd⟩:=Zly r;refine⟨.int k.1 t1::fs,KatTups.cons e c hd rfl t,YW Nat.succ l,λv hv=>?_⟩;rcases Xo.mp hv with rfl|hv
     .exact⟨_,_,rfl⟩
     .exact z v hv
  obtain⟨fs,t,l,z⟩:=key;exact kat_kind (T:=.type "int") t (by omega) (λv hv=>by obtain⟨i,t,rfl⟩:=z v hv;exact(show Looks _ _ (pure (Value.type "int")) _ from .now)) rfl q
 .rw[Zdj h1]at r1
  rw[Zdj h2]at r2;obtain⟨t1,o1,n1,x1,y1,rfl,g1,c1,d1⟩:=Zly r1;obtain⟨t2,o2,n2,x2,y2,rfl,g2,c2,d2⟩:=Zly r2;refine kat_lt g1 d1 g2 d2 (kat_cons ?_);refine EqAt.int_int _ _ _ _ prog w _ _ ?_;unfold ltP at h
  by_cases c:k.1=m.1
  .rw[YM c]at h
   rw[ZC.mpr c];refine kat_yes (kat_cons ?_);refine EqAt.int_int _ _ _ _ prog w _ _ ?_
   by_cases c':k.2=m.2
   .rw[YM c']at h
    rw[ZC.mpr c'];exact kat_yes (kat_nil h)
   .rw[YQ c']at h
    rw[beq_eq_false_iff_ne.mpr c'];exact kat_no (kat_one _ _ (Zyu h))
  .rw[YQ c]at h
   rw[beq_eq_false_iff_ne.mpr c];exact kat_no (oneLt_int h)
end L2
namespace L2
open PySem PySem.Spec PyProof.Rows
variable {G:Xd}
def Z5f(K:Xd):R2:=λx y H Q=>Z8a K x y H Q\/∃a b ys,x= .ref a/\y= .ref b/\SqT K H a []/\SqT K H b ys/\Q (.ref b) H
theorem Zpx:OpR X (V0 .Add) (Z5f X.K):=by
 intro pins s O H x y v u Q I rx ry h;rcases h with h|h
 .exact Z3h pins s O H x y v u Q I rx ry h
 .obtain⟨a,b,ys,rfl,rfl,ha,hb,q⟩:=h
  cases rx;cases ry;obtain⟨its,r1,p1,_⟩:=I.tuple ha;obtain⟨its2,r2,p2,_⟩:=I.tuple hb;cases r1;obtain⟨⟨cls,dd,data,sl⟩,ho,hc,n,hd⟩:=id p1;obtain⟨⟨cls2,dd2,data2,sl2⟩,ho2,hc2,n2,hd2⟩:=id p2;simp only at hc hd hc2 hd2;subst hc hd hc2 hd2;exact concat_meets ⟨_,ho,rfl⟩ ⟨_,ho2,rfl⟩ noFill_tuple_add seq_tuple_add PySem.F.slot_tuple_add PySem.F.entry_tuple_add (PySem.F.args_tuple_add_2 _ _)
   (tuple_addW0 a b _ its2.toArray n n2 dd dd2 sl sl2 rfl) ⟨ho,ho2,.ref b,H,I,rfl,q⟩
def Ziz:Xa->Xa->Option OT:=λd e=>match d,e with| .tuple ds,.tuple es=>if ds.length+es.length<=XC then YB (.fz (.tuple (ds++es)))else YC|_,_=>YC
def Z7j:Xa->Xa->(OT->Prop)->Prop:=λd e k=>∃r,Ziz d e=YB r/\k r
theorem Zx2:ByO Ziz Z7j:=λ_ _ r _ h hk=>⟨r,h,hk⟩
theorem Zte:P2 G (Z5f G) Z7j:=λH L x y d e k Q hx hy h kk=>by
 obtain⟨r,h,hk⟩:=h;unfold Ziz at h;split at h
 case h_2=>cases h
 rename_i ds es
 by_cases c:ds.length+es.length<=XC
 .rw[YM c]at h
  cases h;have same:∀v,Da G H L v (.tuple (ds++es))->Q v H:=λv q=>kk H v _ [] (Same.refl _) (.fz (q.wide λa l _=>⟨.inl l,λm=>nomatch m⟩)) .nil (λa m=>nomatch m) hk;cases hx with
  | tup e1 r1=>
   cases hy with
   | tup e2 r2=>
    rename_i a1 xs1 a2 xs2
    by_cases z:xs1=[]
    .subst z
     cases r1;exact .inr ⟨_,_,_,rfl,rfl,.inl (.inl e1),.inl (.inl e2),same _ (.tup e2 r2)⟩
    .refine .inl ⟨_,_,_,_,rfl,rfl,.inl (.inl e1),.inl (.inl e2),z,by rw[r1.length,r2.length];exact c,λw=>?_,λw p hp=>?_⟩
     .subst w
      cases r2;rw[Qs]at same;exact same _ (.tup e1 r1)
     .exact kk _ _ _ [] (Zv hp _) (.fz (.tup Zu (((r1.append r2).wide λa l _=>⟨.inl l,λm=>nomatch m⟩).same (Zv hp _)))) .nil (λa m=>nomatch m) hk
 .rw[YQ c]at h;cases h
def Ygv(o:Option (Option OT))(δ:Zf):Option (OT×Zf):=match o with|some (YB (.fz d))=>YB (.fz d,δ)|_=>YC
theorem Z1l(d:Xa)(δ:Zf):Ygv (YB (YB (.fz d))) δ=YB (.fz d,δ):=rfl
def Z8k(o:Option (Option OT))(δ:Zf):Option (OT×Zf):=match o with|some (YB t)=>YB (.fz t.data,δ)|_=>YC
theorem Z39(t:OT)(δ:Zf):Z8k (YB (YB t)) δ=YB (.fz t.data,δ):=rfl
theorem Zlv(i:Nat)(δ:Zf):Zb i δ=Ygv δ[i]? δ:=rfl
theorem Z1n(i:Nat)(δ:Zf):Wc i δ=Z8k δ[i]? δ:=rfl
theorem Z4f(d:Xa)(δ:Zf):fC d δ=YB (.fz d,δ):=rfl
theorem Zu9(g:Xa->Xa->Option Xa)(a b:FE)(δ:Zf):Ze g a b δ=(a δ).bind λp=>(b p.2).bind λq=>(g p.1.data q.1.data).bind λd=>YB (.fz d,q.2):=rfl
theorem Z4d(g:Xa->Xa->Option OT)(a b:FE)(δ:Zf):Zn g a b δ=(a δ).bind λp=>(b p.2).bind λq=>(g p.1.data q.1.data).bind λd=>YB (d,q.2):=rfl
theorem Z5u(g:Xa->Option Xa)(a:FE)(δ:Zf):fUn g a δ=(a δ).bind λp=>(g p.1.data).bind λd=>YB (.fz d,p.2):=rfl
def onB(d:Xa)(x y:Option α):Option α:=match d with| .bool YD=>x| .bool YF=>y|_=>YC
theorem Yek(x y:Option α):onB (.bool YD) x y=x:=rfl
theorem Yiv(x y:Option α):onB (.bool YF) x y=y:=rfl
theorem Zzw(a b:FE)(δ:Zf):Zza a b δ=(a δ).bind λp=>onB p.1.data (b p.2) (YB (.fz (.bool YF),p.2)):=by
 unfold Zza onB;cases a δ with
 | none=>rfl
 | some p=>first|rfl|(simp only[Xh];done)|(simp only[Xh];generalize p.1.data=d;cases d<;>first|rfl|(rename_i b;cases b<;>rfl))
theorem Yfp(a b:FE)(δ:Zf):fOr a b δ=(a δ).bind λp=>onB p.1.data (YB (.fz (.bool YD),p.2)) (b p.2):=by
 unfold fOr onB;cases a δ with
 | none=>rfl
 | some p=>first|rfl|(simp only[Xh];done)|(simp only[Xh];generalize p.1.data=d;cases d<;>first|rfl|(rename_i b;cases b<;>rfl))
theorem Zxz(t:FT)(a b:FE)(δ:Zf):fIf t a b δ=(t δ).bind λp=>if p.1=YD then a p.2 else b p.2:=rfl
def Yel(t:OT)(δ:Zf):Option (Bool×Zf):=match t with| .fz (.bool b)=>YB (b,δ)|_=>YC
theorem Yas(b:Bool)(δ:Zf):Yel (.fz (.bool b)) δ=YB (b,δ):=rfl
theorem Ydd(e:FE)(δ:Zf):tV e δ=(e δ).bind λp=>Yel p.1 p.2:=by
 unfold tV Yel;cases e δ with
 | none=>rfl
 | some p=>rfl
theorem Z5k(t:FT)(δ:Zf):tNo t δ=(t δ).bind λp=>YB (!p.1,p.2):=rfl
theorem Zym(t u:FT)(δ:Zf):tAn t u δ=(t δ).bind λp=>if p.1=YD then u p.2 else YB (YF,p.2):=rfl
theorem Z8j(t u:FT)(δ:Zf):tO t u δ=(t δ).bind λp=>if p.1=YD then YB (YD,p.2)else u p.2:=rfl
theorem Ybw(e:FE)(δ:Zf):tD e δ=(e δ).bind λp=>(Zwi p.1.data).bind λb=>YB (b,p.2):=rfl
theorem Yeg(δ:Zf):Zcj δ=YB (YD,δ):=rfl
theorem Yeo(δ:Zf):Zm δ=YB ([],δ):=rfl
theorem Zi9(e:FE)(a:FA)(δ:Zf):Zd e a δ=(e δ).bind λp=>(a p.2).bind λq=>YB (p.1::q.1,q.2):=rfl
theorem Zzx(a:FA)(δ:Zf):Zbd a δ=(a δ).bind λp=>if p.1.length<=XC then YB (.fz (.tuple (OT.datas p.1)),p.2)else YC:=rfl
theorem Zto(a:FA)(δ:Zf):Zfe a δ=(a δ).bind λp=>if p.1.length<=XC then YB (.nd p.1,p.2)else YC:=rfl
theorem Zwm(a:FA)(δ:Zf):Zwc a δ=(a δ).bind λp=>if p.1.length<=XC then YB (.tp p.1,p.2)else YC:=rfl
theorem Zwb(e:FE)(δ:Zf):Zrh e δ=(e δ).bind λp=>if Wl p.1.data=YD then YB (.fz p.1.data,p.2)else YC:=rfl
theorem Z82(e:FE)(δ:Zf):Z69 e δ=(e δ).bind λp=>if Z31 p.1=YD then YB (p.1,p.2)else YC:=rfl
def okO(x:RF)(δ:Zf):Option (OT×Zf):=match x with| .ok r=>YB (r,δ)|_=>YC
theorem Z5r(r:OT)(δ:Zf):okO (.ok r) δ=YB (r,δ):=rfl
theorem Zng(F:FD)(a:FA)(δ:Zf):Z8 F a δ=(a δ).bind λp=>okO (F (OT.datas p.1)) p.2:=by
 unfold Z8 okO;cases a δ with
 | none=>rfl
 | some p=>rfl
def atO(o:Option (Option OT))(k:OT->Option α):Option α:=match o with|some (YB t)=>k t|_=>YC
theorem Yh1(t:OT)(k:OT->Option α):atO (YB (YB t)) k=k t:=rfl
theorem Z9y(i:Nat)(F:FIO)(a:FA)(δ:Zf):Zzc i F a δ=atO δ[i]? λ_=>(a δ).bind λp=>atO p.2[i]? λt=>(F t (OT.datas p.1)).bind λq=>YB (q.1,p.2.set i (YB q.2)):=by
 unfold Zzc;generalize δ[i]? =o;rcases o with _|_|t
 .rfl
 .rfl
 .show(a δ).bind _=(a δ).bind _
  cases a δ with
  | none=>rfl
  | some p=>
   show(λo:Option (Option OT)=>(match o with|some (YB t)=>(F t (OT.datas p.1)).bind λq=>YB (q.1,p.2.set i (YB q.2))|_=>YC)) p.2[i]? =atO p.2[i]? _;generalize p.2[i]? =o;rcases o with _|_|t<;>rfl
theorem Z35(g:List Xa->Option Xa)(a:FA)(δ:Zf):Zbb g a δ=(a δ).bind λp=>(g (OT.datas p.1)).bind λd=>YB (.fz d,p.2):=rfl
theorem Z7a(g:List Xa->Option OT)(a:FA)(δ:Zf):fBl g a δ=(a δ).bind λp=>(g (OT.datas p.1)).bind λd=>YB (d,p.2):=rfl
theorem Z2w(T:String)(e:FE)(δ:Zf):Zn1 T e δ=(e δ).bind λp=>if Zg8 p.1.data=YD then YC else YB (.fz (.bool (Zpv T p.1.data)),p.2):=rfl
theorem Yh3(δ:Zf):oN δ=YB (YC,δ):=rfl
def asInt(d:Xa)(k:Int->Option α):Option α:=match d with| .int i=>k i|_=>YC
theorem Zr6(i:Int)(k:Int->Option α):asInt (.int i) k=k i:=rfl
def Zqg(d:Xa)(k:List Xa->Option α):Option α:=match d with| .list i=>k i|_=>YC
theorem Zt2(i:List Xa)(k:List Xa->Option α):Zqg (.list i) k=k i:=rfl
def Z3v(d:Xa)(k:List Xa->Option α):Option α:=match d with| .tuple i=>k i|_=>YC
theorem Z0w(i:List Xa)(k:List Xa->Option α):Z3v (.tuple i) k=k i:=rfl
theorem Yeu(e:FE)(δ:Zf):oI e δ=(e δ).bind λp=>asInt p.1.data λi=>YB (YB i,p.2):=by
 unfold oI asInt;cases e δ with
 | none=>rfl
 | some p=>rfl
theorem Z84(e:FE)(lo hi:FO)(δ:Zf):fSl e lo hi δ=(e δ).bind λp=>(lo p.2).bind λq=>(hi q.2).bind λr=>Zqg p.1.data λds=>YB (.nd ((cutD ds q.1 r.1).map OT.fz),r.2):=by
 unfold fSl Zqg;rfl
theorem Z3a(e:FE)(δ:Zf):Zbf e δ=(e δ).bind λp=>Zqg p.1.data λds=>YB (ds,p.2):=by
 unfold Zbf Zqg;rfl
theorem Z91(e:FE)(δ:Zf):iTp e δ=(e δ).bind λp=>Z3v p.1.data λds=>YB (ds,p.2):=by
 unfold iTp Z3v;rfl
def as1(ds:List Xa)(k:Int->Option α):Option α:=match ds with|[.int i]=>k i|_=>YC
theorem Yb9(i:Int)(k:Int->Option α):as1 [.int i] k=k i:=rfl
def as2(ds:List Xa)(k:Int->Int->Option α):Option α:=match ds with|[.int i,.int j]=>k i j|_=>YC
theorem Ydr{α:Type}(i j:Int)(k:Int->Int->Option α):as2 [.int i,.int j] k=k i j:=rfl
theorem Z8z(a:FA)(δ:Zf):iRa a δ=(a δ).bind λp=>as1 (OT.datas p.1) λj=>if rOk j=YD then YB (Ze5 0 j.toNat,p.2)else YC:=by
 unfold iRa as1;rfl
theorem Z7o(a:FA)(δ:Zf):iRb a δ=(a δ).bind λp=>as2 (OT.datas p.1) λi j=>if(rOk i&&rOk j)=YD then YB (Ze5 i (j-i).toNat,p.2)else YC:=by
 unfold iRb as2;rfl
theorem Ydx(a:FA)(δ:Zf):Ygx a δ=(a δ).bind λp=>as1 (OT.datas p.1) λj=>if rOk j=YD/\j.toNat<=XC then YB (.nd ((Ze5 0 j.toNat).map OT.fz),p.2)else YC:=by
 unfold Ygx as1;rfl
theorem Z07(a b:FE)(δ:Zf):Z46 a b δ=(a δ).bind λp=>(b p.2).bind λq=>asInt q.1.data λk=>if rOk k=YD/\k.toNat<=XC then YB (.nd (Qi k.toNat (.fz p.1.data)),p.2)else YC:=by
 unfold Z46 asInt;rfl
def Yc1(ds:List Xa)(k:List Xa->List Xa->Option α):Option α:=match ds with|[.list i,.list j]=>k i j|_=>YC
theorem Yfz(i j:List Xa)(k:List Xa->List Xa->Option α):Yc1 [.list i,.list j] k=k i j:=rfl
theorem Ya8(a:FA)(δ:Zf):Z9b a δ=(a δ).bind λp=>Yc1 (OT.datas p.1) λas bs=>YB (Zot as bs,p.2):=by
 unfold Z9b Yc1;rfl
theorem Ye9(i:Nat)(d:Xa)(δ:Zf):gNm i d δ=YB (δ.set i (YB (.fz d))):=rfl
theorem Zl8(i:Nat)(d:Xa)(δ:Zf):Zqh i d δ=if Wl d=YD then YB (δ.set i (YB (.fz d)))else YC:=rfl
theorem Ygt(δ:Zf):gNl [] δ=YB δ:=rfl
theorem Zxv(g:FG)(gs:FGs)(d:Xa)(r:List Xa)(δ:Zf):gCn g gs (d::r) δ=(g d δ).bind (gs r):=rfl
theorem Z51(n:Nat)(gs:FGs)(ds:List Xa)(δ:Zf):gTp n gs (.tuple ds) δ=if ds.length=n then gs ds δ else YC:=rfl
theorem Ygl(n:Nat)(gs:FGs)(ds:List Xa)(δ:Zf):gLs n gs (.list ds) δ=if ds.length=n then gs ds δ else YC:=rfl
def RS.thn(r:RS)(g:FS):RS:=match r with| .nx δ=>g δ|r=>r
theorem Z94(δ:Zf)(g:FS):(RS.nx δ).thn g=g δ:=rfl
theorem Z71(r:OT)(δ:Zf)(g:FS):(RS.rt r δ).thn g= .rt r δ:=rfl
theorem Ye3(δ:Zf)(g:FS):(RS.bk δ).thn g= .bk δ:=rfl
theorem Yfi(δ:Zf)(g:FS):(RS.ct δ).thn g= .ct δ:=rfl
theorem Yfr(c:Str)(δ:Zf)(g:FS):(RS.ex c δ).thn g= .ex c δ:=rfl
theorem Zr0(f g:FS)(δ:Zf):Zw f g δ=(f δ).thn g:=rfl
theorem Ygy(δ:Zf):fNx δ= .nx δ:=rfl
theorem Ybx(δ:Zf):Yil δ= .bk δ:=rfl
theorem Yci(δ:Zf):Yhv δ= .ct δ:=rfl
theorem Z89(c:Str)(δ:Zf):Zcp c δ= .ex c δ:=rfl
theorem Ya7(δ:Zf):Yej δ= .rt (.fz .none) δ:=rfl
def onO(o:Option (α×Zf))(k:α->Zf->RS):RS:=match o with|some (r,δ')=>k r δ'|none=>.bad
theorem Z3(r:α)(δ:Zf)(k:α->Zf->RS):onO (YB (r,δ)) k=k r δ:=rfl
theorem Za9(e:FE)(k:OT->Zf->RS)(δ:Zf):wE e k δ=onO (e δ) k:=by
 unfold wE onO;cases e δ<;>rfl
def onF(x:RF)(δ:Zf)(k:OT->Zf->RS):RS:=match x with| .ok r=>k r δ| .exn c=>.ex c δ| .bad=>.bad
theorem Ygr(r:OT)(δ:Zf)(k:OT->Zf->RS):onF (.ok r) δ k=k r δ:=rfl
theorem Yg1(c:Str)(δ:Zf)(k:OT->Zf->RS):onF (.exn c) δ k= .ex c δ:=rfl
theorem Yig(F:FD)(a:FA)(k:OT->Zf->RS)(δ:Zf):wX F a k δ=onO (a δ) λrs δ1=>onF (F (OT.datas rs)) δ1 k:=by
 unfold wX onO onF;cases a δ with
 | none=>rfl
 | some p=>rfl
theorem Zs4(t:FT)(u w:FS)(δ:Zf):Wr t u w δ=onO (t δ) λb δ'=>if b=YD then u δ' else w δ':=by
 unfold Wr onO;cases t δ<;>rfl
theorem Z0o(it:FI)(g:FG)(u:FS)(δ:Zf):W5 it g u δ=onO (it δ) λds δ1=>forLoop g u ds δ1:=by
 unfold W5 onO;cases it δ<;>rfl
theorem Zwy(r:OT)(δ:Zf):Zr2 r δ= .nx δ:=rfl
theorem Z12(r:OT)(δ:Zf):W2 r δ= .rt r δ:=rfl
theorem Ya0(r:OT)(δ:Zf):Ydg r δ=if Wl r.data=YD then .rt (.fz r.data) δ else .bad:=rfl
theorem Z36(i:Nat)(r:OT)(δ:Zf):Wi i r δ= .nx (δ.set i (YB (.fz r.data))):=rfl
theorem Ybk(i:Nat)(r:OT)(δ:Zf):Yb0 i r δ=if Wl r.data=YD then .nx (δ.set i (YB (.fz r.data)))else .bad:=rfl
theorem Zwe(i:Nat)(r:OT)(δ:Zf):Ja i r δ= .nx (δ.set i (YB r)):=rfl
def onD(o:Option Zf):RS:=match o with|some δ=>.nx δ|none=>.bad
theorem Ybj(δ:Zf):onD (YB δ)= .nx δ:=rfl
theorem Ydb(g:FG)(r:OT)(δ:Zf):Z4s g r δ=onD (g r.data δ):=rfl
def onT(o:Option (Option OT))(k:OT->RS):RS:=match o with|some (YB t)=>k t|_=>.bad
theorem Yan(t:OT)(k:OT->RS):onT (YB (YB t)) k=k t:=rfl
theorem Zxe(i:Nat)(δ:Zf):Zez i δ=onT δ[i]? λt=>.rt t (δ.set i YC):=rfl
theorem Zph(i:Nat)(u:FS)(δ:Zf):Za8 i u δ=onT δ[i]? λt=>u (δ.set i (YB (.fz t.data))):=rfl
def onN(o:Option (Option OT))(k:List OT->RS):RS:=match o with|some (YB (.nd ts))=>k ts|_=>.bad
theorem Zul(t:List OT)(k:List OT->RS):onN (YB (YB (.nd t))) k=k t:=rfl
theorem Zhp(i:Nat)(e:FE)(δ:Zf):Z0 i e δ=onN δ[i]? λ_=>onO (e δ) λr δ1=>onN δ1[i]? λts=>if ts.length<XC then .nx (δ1.set i (YB (.nd (ts++[.fz r.data]))))else .bad:=by
 unfold Z0;generalize δ[i]? =o;rcases o with _|_|(_|_|_|_)
 .rfl
 .rfl
 .rfl
 .show wE e _ δ=onO (e δ) _
  rw[Za9];congr 1
 .rfl
 .rfl
theorem Z1g(i:Nat)(e:FE)(δ:Zf):Zm9 i e δ=onN δ[i]? λ_=>onO (e δ) λr δ1=>onN δ1[i]? λts=>if ts.length<XC then .nx (δ1.set i (YB (.nd (ts++[r]))))else .bad:=by
 unfold Zm9;generalize δ[i]? =o;rcases o with _|_|(_|_|_|_)
 .rfl
 .rfl
 .rfl
 .show wE e _ δ=onO (e δ) _
  rw[Za9];congr 1
 .rfl
 .rfl
def onI(d:Xa)(k:Int->RS):RS:=match d with| .int i=>k i|_=>.bad
theorem Yif(i:Int)(k:Int->RS):onI (.int i) k=k i:=rfl
def onX(o:Option Nat)(k:Nat->RS):RS:=match o with|some i=>k i|_=>.bad
theorem Yiu(i:Nat)(k:Nat->RS):onX (YB i) k=k i:=rfl
theorem Z3r(i:Nat)(e j:FE)(δ:Zf):Z2p i e j δ=onO (e δ) λr δ1=>onN δ1[i]? λts=>onO (j δ1) λn _=>onI n.data λk=>onX (ixN ts.length k) λj=>.nx (δ1.set i (YB (.nd (ts.set j (.fz r.data))))):=by
 unfold Z2p;rw[Za9];congr 1;funext r δ1;generalize δ1[i]? =o;rcases o with _|_|(_|_|_|_)
 .rfl
 .rfl
 .rfl
 .show wE j _ δ1=onO (j δ1) _
  rw[Za9];congr 1;funext n δ2;generalize n.data=d;cases d<;>try rfl
  show(match ixN _ _ with|some j=>_|none=>_)=onX (ixN _ _) _;generalize ixN _ _=x;cases x<;>rfl
 .rfl
 .rfl
def onU(o:Option OT)(k:List OT->RS):RS:=match o with|some (.nd ts)=>k ts|_=>.bad
theorem Yez(t:List OT)(k:List OT->RS):onU (YB (.nd t)) k=k t:=rfl
def onP(o:Option (Option OT))(k:List OT->RS):RS:=match o with|some (YB (.tp ts))=>k ts|_=>.bad
theorem Yec(t:List OT)(k:List OT->RS):onP (YB (YB (.tp t))) k=k t:=rfl
theorem Zsy(i c:Nat)(e:FE)(δ:Zf):Zhd i c e δ=onP δ[i]? λts=>onU ts[c]? λus=>onO (e δ) λr _=>if us.length<XC then .nx (δ.set i (YB (.tp (ts.set c (.nd (us++[.fz r.data]))))))else .bad:=by
 unfold Zhd;generalize δ[i]? =o;rcases o with _|_|(_|_|ts|_)
 .rfl
 .rfl
 .rfl
 .rfl
 .show(match ts[c]? with|some (.nd us)=>wE e _ δ|_=>_)=onU ts[c]? _
  generalize ts[c]? =o;rcases o with _|(_|_|_|_)
  .rfl
  .rfl
  .show wE e _ δ=onO (e δ) _
   rw[Za9]
  .rfl
  .rfl
 .rfl
def on2(ds:List Xa)(k:Xa->Xa->RS):RS:=match ds with|[d,e]=>k d e|_=>.bad
theorem Yic(d e:Xa)(k:Xa->Xa->RS):on2 [d,e] k=k d e:=rfl
theorem Yd9(i j:Nat)(a:FA)(δ:Zf):Ygf i j a δ=onO (a δ) λrs δ1=>on2 (OT.datas rs) λd e=>.nx ((δ1.set i (YB (.fz d))).set j (YB (.fz e))):=by
 unfold Ygf onO on2;cases a δ<;>rfl
theorem Zig{n:Nat}{S:FS}(h:ds.length=np):J8 np n S ds=(S (Zav n ds)).told:=by
 unfold J8;rw[YM h]
theorem Z0q(δ:Zf):(RS.nx δ).told= .ok (.fz .none):=rfl
theorem Zp9(r:OT)(δ:Zf):(RS.rt r δ).told= .ok r:=rfl
theorem Ybp(c:Str)(δ:Zf):(RS.ex c δ).told= .exn c:=rfl
theorem Ye2(i j:Int):J6 (.int i) (.int j)=YB (.int (i+j)):=rfl
theorem Yie(i j:Int):gSb (.int i) (.int j)=YB (.int (i-j)):=rfl
theorem Yib(i j:Int):gLt (.int i) (.int j)=YB (.bool (decide (i<j))):=rfl
theorem Yik(i j:Int):gLe (.int i) (.int j)=YB (.bool (decide (i<=j))):=rfl
theorem Yen(i j:Int):gGt (.int i) (.int j)=YB (.bool (decide (j<i))):=rfl
theorem Yd7(i j:Int):gGe (.int i) (.int j)=YB (.bool (decide (j<=i))):=rfl
theorem Zy0{i j:Int}(h:Z4w i j=YD):Ze2 (.int i) (.int j)=YB (.int (i*j)):=by
 unfold Ze2 i2c;dsimp only;rw[YM h]
theorem Z05{i j:Int}(h:Z92 i j=YD):J7 (.int i) (.int j)=YB (.int (i.fdiv j)):=by
 unfold J7 i2c;dsimp only;rw[YM h]
theorem Yab{i j:Int}(h:j≠0):Zbl (.int i) (.int j)=YB (.int (i.fmod j)):=by
 unfold Zbl i2c Yf0;dsimp only;rw[YM (YS h)]
theorem Z86{x y:Int}(h:x.natAbs<2^64):Z4w x y=YD:=Zi0.mpr (.of_left (intBits_le_64 (by omega) (by omega)))
theorem Z90{x y:Int}(h:y.natAbs<2^64):Z4w x y=YD:=Zi0.mpr (.of_right (intBits_le_64 (by omega) (by omega)))
theorem Z2a{n:Nat}{i j:Int}(h0:j≠0)(h:Bt n j)(hn:n<=9000:=by decide):Z92 i j=YD:=by
 obtain⟨h1,h2⟩:=DivOk.of (i:=i) h0 h hn;unfold Z92;rw[YS h1,YS h2];rfl
theorem Yee(i j:Int):gEq (.int i) (.int j)=YB (.bool (decide (i=j))):=by
 show YB (BK (i==j))=_;rw[show(i==j)=decide (i=j)from rfl]
theorem Yc4(i j:Int):gNe (.int i) (.int j)=YB (.bool (!decide (i=j))):=by
 show YB (BK (!(i==j)))=_;rw[show(i==j)=decide (i=j)from rfl]
theorem Yii(d:Xa):gIs d .none=YB (.bool (Zdw d)):=rfl
theorem Yba(d:Xa):Zh5 d .none=YB (.bool (!Zdw d)):=rfl
theorem Yea(ds:List Xa)(i:Int):gIx (.list ds) (.int i)=(atI ds i).bind λx=>YB (.fz x):=rfl
theorem Yh8(ds:List Xa)(i:Int):gIx (.tuple ds) (.int i)=(atI ds i).bind λx=>YB (.fz x):=rfl
theorem Z47(ds:List Xa):Zgu [.list ds]=YB (.int ds.length):=rfl
theorem Ygc(ds:List Xa):Zgu [.tuple ds]=YB (.int ds.length):=rfl
theorem Yfj(i:Int):Ycn [.int i]=YB (.int (i.natAbs:Int)):=by
 show YB (Xw (if i<0 then -i else i))=_;congr 2;split<;>omega
theorem Yg7(i j:Int):Z2i [.int i,.int j]=YB (.int (if j>i then j else i)):=rfl
theorem Yfo(i j:Int):Zxq [.int i,.int j]=YB (.int (if j<i then j else i)):=rfl
theorem Yfk(i:Int):Zzb [.int i]=YB (.int i):=rfl
theorem Zyz(b:Bool):Zzb [.bool b]=YB (.int (if b then 1 else 0)):=rfl
theorem Zrd(ds:List Xa):Zr9 [.list ds]=YB (.nd (ds.map OT.fz)):=rfl
theorem Yef(ds:List Xa):Zr9 [.tuple ds]=YB (.nd (ds.map OT.fz)):=rfl
theorem Z5d{es:List Xa}(h:ds.length+es.length<=XC):Zuw (.list ds) (.list es)=YB (.nd ((ds++es).map OT.fz)):=by
 unfold Zuw;dsimp only;rw[YM h]
theorem Z7w(i:Int):Zv3 (.int i)=YB (.int (-i)):=rfl
theorem Yf4(b:Bool):Ybc (.bool b)=YB (.bool (!b)):=rfl
theorem Yg8(b:Bool):Zwi (.bool b)=YB b:=rfl
theorem Yg5(i:Int):Zwi (.int i)=YB (i !=0):=rfl
theorem Yfd:Zwi .none=YB YF:=rfl
theorem Yg0(ds:List Xa):Zwi (.list ds)=YB (!ds.isEmpty):=rfl
theorem Znj{u:FS}(I:Nat->Zf->Prop)(h0:I 0 δ)
  (turn:∀(i:Nat) (d:Xa) (δ:Zf),ds[i]? =YB d->I i δ->∃δ1 δ2,gg d δ=YB δ1/\(u δ1= .nx δ2\/u δ1= .ct δ2)/\I (i+1) δ2):∃δ',forLoop gg u ds δ= .nx δ'/\I ds.length δ':=by
 induction ds generalizing δ I with
 | nil=>exact⟨δ,rfl,h0⟩
 | cons d ds ih=>
  obtain⟨δ1,δ2,e1,e2,h1⟩:=turn 0 d δ rfl h0;obtain⟨δ',e3,h3⟩:=ih (δ:=δ2) (λi δ=>I (i+1) δ) h1 λi d' δ hd hi=>turn (i+1) d' δ (by simpa using hd) hi;refine⟨δ',?_,h3⟩;rw[Zes,e1];dsimp only;rcases e2 with e2|e2<;>rw[e2]<;>exact e3
def Goes(r:RS)(Q:Zf->Prop):Prop:=∃δ,(r= .nx δ\/r= .ct δ)/\Q δ
theorem Goes.nx{Q:Zf->Prop}(h:Q δ):Goes (.nx δ) Q:=⟨δ,.inl rfl,h⟩
theorem Goes.ct{Q:Zf->Prop}(h:Q δ):Goes (.ct δ) Q:=⟨δ,.inr rfl,h⟩
theorem Zqn{cs:Zf}(mk:α->Xa)(f:α->OT):∀(xs:List α) (z:Option OT),(∀x∈xs,me (YB (.fz (mk x))::cs)=YB (f x,YB (.fz (mk x))::cs)) ->
  ∃z',compLoop (gNm 0) Zcj me (xs.map mk) (z::cs)=YB (xs.map f,z'::cs)
 | [],z,_=>⟨z,rfl⟩
 | x::xs,z,h=>by
  obtain⟨z',e⟩:=Zqn mk f xs (YB (.fz (mk x))) λy hy=>h y (.tail _ hy);refine⟨z',?_⟩;rw[X4,compLoop];show(YB (YB (OT.fz (mk x))::cs)).bind _=_;rw[Xh];show(YB (YD,YB (OT.fz (mk x))::cs)).bind _=_;rw[Xh,YM rfl,h x (.head _),Xh,e];rfl
theorem Zmt{t:FT}{cs:Zf}(mk:α->Xa)(p:α->Bool)(f:α->OT):∀(xs:List α) (z:Option OT),(∀x∈xs,t (YB (.fz (mk x))::cs)=YB (p x,YB (.fz (mk x))::cs))->(∀x∈xs,p x=YD->me (YB (.fz (mk x))::cs)=YB (f x,YB (.fz (mk x))::cs)) ->
  ∃z',compLoop (gNm 0) t me (xs.map mk) (z::cs)=YB ((xs.filter p).map f,z'::cs)
 | [],z,_,_=>⟨z,rfl⟩
 | x::xs,z,ht,h=>by
  obtain⟨z',e⟩:=Zmt mk p f xs (YB (.fz (mk x))) (λy hy=>ht y (.tail _ hy)) λy hy=>h y (.tail _ hy);refine⟨z',?_⟩;rw[X4,compLoop];show(YB (YB (OT.fz (mk x))::cs)).bind _=_;rw[Xh,ht x (.head _),Xh];dsimp only
  by_cases hp:p x=YD
  .rw[YM hp,h x (.head _) hp,Xh,e,List.filter_cons_of_pos hp];rfl
  .rw[YQ hp,e,List.filter_cons_of_neg hp]
theorem Zb8{it:FI}{cs:Zf}(xs:List α)(mk:α->Xa)(f:α->OT)(hi:it δ=YB (xs.map mk,δ1))(hz:xs.length<=XC)(hb:blk 1 caps δ1=YC::cs)
  (h:∀x∈xs,me (YB (.fz (mk x))::cs)=YB (f x,YB (.fz (mk x))::cs)):Z5 1 caps it (gNm 0) Zcj me δ=YB (.nd (xs.map f),δ1):=by
 unfold Z5;rw[hi,Xh];dsimp only;rw[YM (by rw[Xc];exact hz),hb];obtain⟨z',e⟩:=Zqn (me:=me) (cs:=cs) mk f xs YC h;rw[e];rfl
theorem Ztq{it:FI}{t:FT}{cs:Zf}(xs:List α)(mk:α->Xa)(p:α->Bool)(f:α->OT)(hi:it δ=YB (xs.map mk,δ1))(hz:xs.length<=XC)(hb:blk 1 caps δ1=YC::cs)
  (ht:∀x∈xs,t (YB (.fz (mk x))::cs)=YB (p x,YB (.fz (mk x))::cs)) (h:∀x∈xs,p x=YD->me (YB (.fz (mk x))::cs)=YB (f x,YB (.fz (mk x))::cs)):Z5 1 caps it (gNm 0) t me δ=YB (.nd ((xs.filter p).map f),δ1):=by
 unfold Z5;rw[hi,Xh];dsimp only;rw[YM (by rw[Xc];exact hz),hb];obtain⟨z',e⟩:=Zmt (t:=t) (me:=me) (cs:=cs) mk p f xs YC ht h;rw[e];rfl
theorem Yhz:(2<=XC)=True:=by simp[X7]
theorem Yij:(1<=XC)=True:=by simp[X7]
theorem Yhf:(0<=XC)=True:=by simp
theorem Ydj:(3<=XC)=True:=by simp[X7]
theorem Zpf(f:α->Xa)(xs:List α):(xs.map λx=>OT.fz (f x)).map OT.data=xs.map f:=by
 rw[Qk];exact XS λx _=>OT.data_fz _
theorem Z3p{j:Int}{x:α}(h0:0<=j)(h1:j<=1000000):(if rOk j=YD then YB x else YC)=YB x:=YM (Zni (by omega) h1)
theorem Z0b{α:Type}{i j:Int}{x:α}(h0:0<=i)(h1:i<=1000000)(h2:0<=j)(h3:j<=1000000):(if(rOk i&&rOk j)=YD then YB x else YC)=YB x:=YM (by rw[Zni (by omega) h1,Zni (by omega) h3];rfl)
theorem Zyx{r:RS}{k:Nat}(h:k<=1000000):(if k<XC then r else .bad)=r:=YM (by rw[X7];omega)
def EvV(e:FE)(δ:Zf)(d:Xa):Prop:=∃t,e δ=YB (t,δ)/\t.data=d
def EvA(a:FA)(δ:Zf)(ds:List Xa):Prop:=∃ts,a δ=YB (ts,δ)/\OT.datas ts=ds
def EvT(t:FT)(δ:Zf)(b:Bool):Prop:=t δ=YB (b,δ)
def Told(F:FD)(ds:List Xa)(d:Xa):Prop:=∃t,F ds= .ok t/\t.data=d
end L2
variable {S':FS}{cs:Zf}
namespace L2
open PySem PySem.Spec PyProof.Rows
section
variable {e a b:FE}{as:FA}{δ δ':Zf}{x y d:Xa}{xs ds:List Xa}{i j:Nat}{p q:Bool}{t u:FT}{S S':FS}{r:RS}
theorem EvV.cast{e:FE}{δ:Zf}{x y:Xa}(h:EvV e δ x)(k:x=y):EvV e δ y:=k▸h
theorem Za(h:δ[i]? =YB (YB (.fz d)):=by rfl):EvV (Zb i) δ d:=⟨_,by rw[Zlv,h,Z1l],OT.data_fz _⟩
theorem Zbe{t:OT}(h:δ[i]? =YB (YB t))(hd:t.data=d):EvV (Wc i) δ d:=⟨_,by rw[Z1n,h,Z39],by rw[OT.data_fz,hd]⟩
theorem Yc:EvV (fC d) δ d:=⟨_,rfl,OT.data_fz _⟩
theorem Zj{g:Xa->Xa->Option Xa}(ha:EvV a δ x)(hb:EvV b δ y)(h:g x y=YB d):EvV (Ze g a b) δ d:=by
 obtain⟨_,e1,d1⟩:=ha;obtain⟨_,e2,d2⟩:=hb;exact⟨_,by rw[Zu9,e1,Xh,e2,Xh,d1,d2,h,Xh],OT.data_fz _⟩
theorem Zhj{g:Xa->Xa->Option OT}{o:OT}(ha:EvV a δ x)(hb:EvV b δ y)(h:g x y=YB o)(hd:o.data=d):EvV (Zn g a b) δ d:=by
 obtain⟨_,e1,d1⟩:=ha;obtain⟨_,e2,d2⟩:=hb;exact⟨_,by rw[Z4d,e1,Xh,e2,Xh,d1,d2,h,Xh],hd⟩
theorem Zj7(ha:EvV a δ x)(hb:EvV b δ y)(h:gIx x y=YB (.fz d)):EvV (Zn gIx a b) δ d:=Zhj ha hb h (OT.data_fz _)
theorem Zaj{i j:Int}(ha:EvV a δ (.int i))(hb:EvV b δ (.int j)):EvV (Ze J6 a b) δ (.int (i+j)):=Zj ha hb rfl
theorem Zy8{i j:Int}(ha:EvV a δ (.int i))(hb:EvV b δ (.int j)):EvV (Ze gSb a b) δ (.int (i-j)):=Zj ha hb rfl
theorem Z8g{g:Xa->Option Xa}(ha:EvV a δ x)(h:g x=YB d):EvV (fUn g a) δ d:=by
 obtain⟨_,e1,d1⟩:=ha;exact⟨_,by rw[Z5u,e1,Xh,d1,h,Xh],OT.data_fz _⟩
theorem Zi8(ha:EvV a δ (.bool YD))(hb:EvV b δ d):EvV (Zza a b) δ d:=by
 obtain⟨_,e1,d1⟩:=ha;obtain⟨_,e2,d2⟩:=hb;exact⟨_,by rw[Zzw,e1,Xh,d1,Yek,e2],d2⟩
theorem Z6n{T:String}(ha:EvV a δ x)(hf:Zg8 x=YF:=by rfl):EvV (Zn1 T a) δ (.bool (Zpv T x)):=by
 obtain⟨_,e1,d1⟩:=ha;exact⟨_,by rw[Z2w,e1,Xh,d1,YQ (by rw[hf];decide)],OT.data_fz _⟩
theorem Zi:EvA Zm δ []:=⟨_,rfl,Zf2⟩
theorem Zc(h:EvV e δ d)(k:EvA as δ ds):EvA (Zd e as) δ (d::ds):=by
 obtain⟨_,e1,d1⟩:=h;obtain⟨_,e2,d2⟩:=k;exact⟨_,by rw[Zi9,e1,Xh,e2,Xh],by rw[Zd9,d1,d2]⟩
theorem Yd{F:FD}(h:EvA as δ ds)(k:Told F ds d):EvV (Z8 F as) δ d:=by
 obtain⟨_,e1,d1⟩:=h;obtain⟨_,e2,d2⟩:=k;exact⟨_,by rw[Zng,e1,Xh,d1,e2,Z5r],d2⟩
theorem Zbx{g:List Xa->Option Xa}(h:EvA as δ ds)(k:g ds=YB d):EvV (Zbb g as) δ d:=by
 obtain⟨_,e1,d1⟩:=h;exact⟨_,by rw[Z35,e1,Xh,d1,k,Xh],OT.data_fz _⟩
theorem Z4e{g:List Xa->Option OT}{o:OT}(h:EvA as δ ds)(k:g ds=YB o)(hd:o.data=d):EvV (fBl g as) δ d:=by
 obtain⟨_,e1,d1⟩:=h;exact⟨_,by rw[Z7a,e1,Xh,d1,k,Xh],hd⟩
theorem Zfo:∀ts:List OT,(OT.datas ts).length=ts.length
 | []=>by rw[Zf2];rfl
 | t::ts=>by rw[Zd9,QC,QC,Zfo ts]
theorem datas_map:∀ts:List OT,OT.datas ts=ts.map OT.data
 | []=>Zf2
 | t::ts=>by rw[Zd9,X4,datas_map ts]
theorem Wu(h:EvA as δ ds)(hl:ds.length<=1000):EvV (Zbd as) δ (.tuple ds):=by
 obtain⟨ts,e1,d1⟩:=h;have:=Zfo ts;rw[d1]at this;exact⟨_,by rw[Zzx,e1,Xh,YM (by rw[X7];show ts.length<=_;omega)],by rw[OT.data_fz];exact YW _ d1⟩
theorem Zud(h:EvA as δ ds)(hl:ds.length<=1000):EvV (Zfe as) δ (.list ds):=by
 obtain⟨ts,e1,d1⟩:=h;have:=Zfo ts;rw[d1]at this;exact⟨_,by rw[Zto,e1,Xh,YM (by rw[X7];show ts.length<=_;omega)],by rw[OT.data_nd,<-datas_map,d1]⟩
theorem Zj4{o:OT}{b:Bool}(h:o.data= .bool b):o= .fz (.bool b):=by
 cases o with
 | fz d=>rw[OT.data_fz]at h;rw[h]
 | nd ts=>rw[OT.data_nd]at h;cases h
 | tp ts=>rw[OT.data_tp]at h;cases h
 | dc _ _ _=>rw[OT.data_dc]at h;cases h
theorem W8(h:EvV e δ (.bool p)):EvT (tV e) δ p:=by
 obtain⟨_,e1,d1⟩:=h;unfold EvT;rw[Ydd,e1,Xh,Zj4 d1,Yas]
theorem Yhr(h:EvV e δ d)(k:Zwi d=YB p):EvT (tD e) δ p:=by
 obtain⟨_,e1,d1⟩:=h;unfold EvT;rw[Ybw,e1,Xh,d1,k,Xh]
theorem Zg5(h:EvV e δ (.bool p)):EvT (tD e) δ p:=Yhr h rfl
theorem Ze3(h:EvT t δ p):EvT (tNo t) δ (!p):=by
 unfold EvT at h|-
 rw[Z5k,h,Xh]
theorem Ztk(h:EvT t δ YD)(k:EvT u δ p):EvT (tAn t u) δ p:=by
 unfold EvT at h k|-
 rw[Zym,h,Xh,YM rfl,k]
theorem Zs3(h:EvT t δ YF):EvT (tAn t u) δ YF:=by
 unfold EvT at h|-
 rw[Zym,h,Xh,YQ Xx]
theorem Zpg(h:EvT t δ YF)(k:EvT u δ p):EvT (tO t u) δ p:=by
 unfold EvT at h k|-
 rw[Z8j,h,Xh,YQ Xx,k]
theorem Z6x(h:EvT t δ YD):EvT (tO t u) δ YD:=by
 unfold EvT at h|-
 rw[Z8j,h,Xh,YM rfl]
theorem Z1(h:S δ= .nx δ')(k:S' δ'=r):Zw S S' δ=r:=by rw[Zr0,h,Z94,k]
theorem Zkq{o:OT}(h:S δ= .rt o δ'):Zw S S' δ= .rt o δ':=by rw[Zr0,h,Z71]
theorem Z9(h:EvV e δ d):wE e (Wi i) δ= .nx (δ.set i (YB (.fz d))):=by
 obtain⟨_,e1,d1⟩:=h;rw[Za9,e1,Z3,Z36,d1]
theorem Znw(h:EvV e δ d):∃o,wE e W2 δ= .rt o δ/\o.data=d:=by
 obtain⟨_,e1,d1⟩:=h;exact⟨_,by rw[Za9,e1,Z3,Z12],d1⟩
theorem Jy(h:EvT t δ YD)(k:S δ=r):Wr t S S' δ=r:=by
 unfold EvT at h;rw[Zs4,h,Z3,YM rfl,k]
theorem Z2(h:EvT t δ YF)(k:S' δ=r):Wr t S S' δ=r:=by
 unfold EvT at h;rw[Zs4,h,Z3,YQ (by decide),k]
def Zkz(S:FS)(δ:Zf)(d:Xa):Prop:=∃o δ',S δ= .rt o δ'/\o.data=d
theorem Zx(h:S δ= .nx δ')(k:Zkz S' δ' d):Zkz (Zw S S') δ d:=by
 obtain⟨o,δ2,e,hd⟩:=k;exact⟨o,δ2,Z1 h e,hd⟩
theorem Zac(k:Zkz S δ d):Zkz (Zw S S') δ d:=by
 obtain⟨o,δ2,e,hd⟩:=k;exact⟨o,δ2,Zkq e,hd⟩
theorem Wy(h:EvV e δ d):Zkz (wE e W2) δ d:=by
 obtain⟨o,e1,hd⟩:=Znw h;exact⟨o,δ,e1,hd⟩
theorem Zf5(h:EvT t δ YD)(k:Zkz S δ d):Zkz (Wr t S S') δ d:=by
 obtain⟨o,δ2,e,hd⟩:=k;exact⟨o,δ2,Jy h e,hd⟩
theorem Ye{np n:Nat}(hl:xs.length=np)(k:Zkz S (Zav n xs) d):Told (J8 np n S) xs d:=by
 obtain⟨o,δ2,e,hd⟩:=k;exact⟨o,by rw[Zig hl,e,Zp9],hd⟩
def EvO(o:FO)(δ:Zf)(l:Option Int):Prop:=o δ=YB (l,δ)
theorem Yh9:EvO oN δ YC:=rfl
theorem Ya5{i:Int}(h:EvV e δ (.int i)):EvO (oI e) δ (YB i):=by
 obtain⟨_,e1,d1⟩:=h;unfold EvO;rw[Yeu,e1,Xh,d1,Zr6]
theorem Z6k{lo hi:FO}{l h:Option Int}(he:EvV e δ (.list ds))(hl:EvO lo δ l)(hh:EvO hi δ h):EvV (fSl e lo hi) δ (.list (cutD ds l h)):=by
 obtain⟨_,e1,d1⟩:=he;unfold EvO at hl hh;exact⟨_,by rw[Z84,e1,Xh,hl,Xh,hh,Xh,d1,Zt2],by rw[OT.data_nd,OT.map_fz]⟩
theorem Zyw{es:List Xa}(ha:EvV a δ (.list ds))(hb:EvV b δ (.list es))(h:ds.length+es.length<=1000000):EvV (Zn Zuw a b) δ (.list (ds++es)) :=
 Zhj ha hb (Z5d (by rw[X7];omega)) (by rw[OT.data_nd,OT.map_fz])
def EvI(it:FI)(δ:Zf)(ds:List Xa):Prop:=it δ=YB (ds,δ)
theorem Wq(h:EvV e δ (.list ds)):EvI (Zbf e) δ ds:=by
 obtain⟨_,e1,d1⟩:=h;unfold EvI;rw[Z3a,e1,Xh,d1,Zt2]
theorem Zaz{n:Nat}(h:EvA as δ [.int n])(hn:n<=1000000):EvI (iRa as) δ (Ze5 0 n):=by
 obtain⟨_,e1,d1⟩:=h;unfold EvI;rw[Z8z,e1,Xh,d1,Yb9,Z3p (by omega) (by omega),Bg]
theorem Zfu{it:FI}{g:FG}(h:EvI it δ ds)(k:forLoop g S ds δ=r):W5 it g S δ=r:=by
 unfold EvI at h;rw[Z0o,h,Z3,k]
theorem Zdz{it:FI}(xs:List α)(mk f:α->Xa)(hi:EvI it δ (xs.map mk))(hz:xs.length<=1000000)(hb:blk 1 caps δ=YC::cs)(h:∀x∈xs,EvV me (YB (.fz (mk x))::cs) (f x)):EvV (Z5 1 caps it (gNm 0) Zcj me) δ (.list (xs.map f)):=by
 have g:∀x,∃o:OT,x∈xs->me (YB (.fz (mk x))::cs)=YB (o,YB (.fz (mk x))::cs)/\o.data=f x:=λx=>by
  by_cases c:x∈xs
  .obtain⟨o,h1,h2⟩:=h x c
   exact⟨o,λ_=>⟨h1,h2⟩⟩
  .exact⟨.fz .none,λz=>YZ z c⟩
 obtain⟨o,ho⟩:=VB g;unfold EvI at hi;refine⟨_,Zb8 (cs:=cs) xs mk o hi (by rw[X7];omega) hb (λx hx=>(ho x hx).1),?_⟩;rw[OT.data_nd,Qk];exact YW _ (XS λx hx=>(ho x hx).2)
theorem Zcg{ts:List OT}(h:EvV e δ d)(hi:δ[i]? =YB (YB (.nd ts)))(hl:ts.length<=1000000):Z0 i e δ= .nx (δ.set i (YB (.nd (ts++[.fz d])))):=by
 obtain⟨_,e1,d1⟩:=h;rw[Zhp,hi,Zul,e1,Z3,hi,Zul,Zyx hl,d1]
theorem Zd6{o:OT}(h:e δ=YB (o,δ)):wE e (Ja i) δ= .nx (δ.set i (YB o)):=by rw[Za9,h,Z3,Zwe]
theorem Z4r{o:OT}(h:δ[i]? =YB (YB o))(hd:o.data=d):Zkz (Zez i) δ d:=⟨o,_,by rw[Zxe,h,Yan],hd⟩
theorem Zdl{o:OT}(h:δ[i]? =YB (YB o))(k:S (δ.set i (YB (.fz o.data)))=r):Za8 i S δ=r:=by rw[Zph,h,Yan,k]
theorem Zt6(h:EvV e δ d):wE e Zr2 δ= .nx δ:=by
 obtain⟨_,e1,d1⟩:=h;rw[Za9,e1,Z3,Zwy]
theorem Zt5{n:Nat}(hl:xs.length=np)(k:S (Zav n xs)= .nx δ'):Told (J8 np n S) xs .none:=⟨_,by rw[Zig hl,k,Z0q],OT.data_fz _⟩
theorem Told.ok{F:FD}{b:Bool}(h:Told F ds (.bool b)):F ds= .ok (.fz (.bool b)):=by
 obtain⟨o,e1,d1⟩:=h;rw[e1,Zj4 d1]
theorem Zmz{o:OT}{i:Int}(h:o.data= .int i):o= .fz (.int i):=by
 cases o with
 | fz d=>rw[OT.data_fz]at h;rw[h]
 | nd ts=>rw[OT.data_nd]at h;cases h
 | tp ts=>rw[OT.data_tp]at h;cases h
 | dc _ _ _=>rw[OT.data_dc]at h;cases h
theorem Told.int{F:FD}{i:Int}(h:Told F ds (.int i)):F ds= .ok (.fz (.int i)):=by
 obtain⟨o,e1,d1⟩:=h;rw[e1,Zmz d1]
theorem Zsc{o:OT}(h:o.data= .none):o= .fz .none:=by
 cases o with
 | fz d=>rw[OT.data_fz]at h;rw[h]
 | nd ts=>rw[OT.data_nd]at h;cases h
 | tp ts=>rw[OT.data_tp]at h;cases h
 | dc _ _ _=>rw[OT.data_dc]at h;cases h
theorem Told.of{F:FD}{o:OT}(h:F ds= .ok o)(hd:o.data=d):Told F ds d:=⟨o,h,hd⟩
end
section
variable {e a b:FE}{as:FA}{δ δ':Zf}{x y d:Xa}{xs ds:List Xa}{i j:Int}{k:Nat}{p q:Bool}{t u:FT}{S S':FS}{r:RS}{Q:Xa->Prop}
theorem Jv(ha:EvV a δ (.int i))(hb:EvV b δ (.int j))(h:j≠0):EvV (Ze Zbl a b) δ (.int (i.fmod j)):=Zj ha hb (Yab h)
theorem Yad{i j:Int}(h:(decide (0<j)&&decide (j<18446744073709551616))=YD):J7 (.int i) (.int j)=YB (.int (i.fdiv j)):=by
 rw[X3,decide_eq_true_eq,decide_eq_true_eq]at h;exact Z05 (Z2a (n:=64) (by omega) (Bt.of_lt (by omega) (by omega)))
theorem Zgn(ha:EvV a δ (.int i))(hb:EvV b δ (.int j))(h:(decide (0<j)&&decide (j<18446744073709551616))=YD:=by decide):EvV (Ze J7 a b) δ (.int (i.fdiv j)):=Zj ha hb (Yad h)
theorem Zek(ha:EvV a δ (.int i))(hb:EvV b δ (.int j))(h:i.natAbs<2^64:=by decide):EvV (Ze Ze2 a b) δ (.int (i*j)):=Zj ha hb (Zy0 (Z86 h))
theorem Zlp(ha:EvV a δ (.int i))(hb:EvV b δ (.int j))(h:j.natAbs<2^64:=by decide):EvV (Ze Ze2 a b) δ (.int (i*j)):=Zj ha hb (Zy0 (Z90 h))
theorem Zoj(ha:EvV a δ (.int i))(hb:EvV b δ (.int j))(h:decide (i<j)=p):EvV (Ze gLt a b) δ (.bool p):=h▸Zj ha hb rfl
theorem Yb2(ha:EvV a δ (.int i))(hb:EvV b δ (.int j))(h:decide (j<i)=p):EvV (Ze gGt a b) δ (.bool p):=h▸Zj ha hb (Yen _ _)
theorem Z6b(ha:EvV a δ (.int i))(hb:EvV b δ (.int j))(h:decide (j<=i)=p):EvV (Ze gGe a b) δ (.bool p):=h▸Zj ha hb (Yd7 _ _)
theorem Zkg(ha:EvV a δ (.int i))(hb:EvV b δ (.int j))(h:decide (i=j)=p):EvV (Ze gEq a b) δ (.bool p):=h▸Zj ha hb (Yee _ _)
theorem Zlq(ha:EvV a δ (.int i))(hb:EvV b δ (.int j))(h:(!decide (i=j))=p):EvV (Ze gNe a b) δ (.bool p):=h▸Zj ha hb (Yc4 _ _)
theorem Zyh(ha:EvV a δ (.int i)):EvV (fUn Zv3 a) δ (.int (-i)):=Z8g ha (Z7w _)
theorem Zm7(h:EvV e δ (.list ds)):EvV (Zbb Zgu (Zd e Zm)) δ (.int ds.length):=Zbx (Zc h Zi) (Z47 ds)
theorem Zcs(ha:EvV a δ (.list ds))(hb:EvV b δ (.int i))(h:atI ds i=YB d):EvV (Zn gIx a b) δ d:=Zj7 ha hb (by rw[Yea,h];rfl)
def Z0y(S:FS)(δ:Zf)(Q:Xa->Prop):Prop:=∃d,Zkz S δ d/\Q d
theorem Zch(h:S δ= .nx δ')(k:Z0y S' δ' Q):Z0y (Zw S S') δ Q:=k.imp λ_ k=>⟨Zx h k.1,k.2⟩
theorem Z6t(h:EvV e δ d)(k:Q d):Z0y (wE e W2) δ Q:=⟨d,Wy h,k⟩
theorem Yiy{o:OT}(h:δ[k]? =YB (YB o))(hd:Q o.data):Z0y (Zez k) δ Q:=⟨_,Z4r h rfl,hd⟩
theorem Z9h{n:Nat}(hl:xs.length=np)(h:Z0y S (Zav n xs) Q):∃d,Told (J8 np n S) xs d/\Q d:=h.imp λ_ k=>⟨Ye hl k.1,k.2⟩
theorem Zmf{it:FI}{g:FG}(I:Nat->Zf->Prop)(hi:EvI it δ ds)(h0:I 0 δ)(turn:∀(i:Nat) (d:Xa) (δ:Zf),ds[i]? =YB d->I i δ->∃δ1 δ2,g d δ=YB δ1/\(S δ1= .nx δ2\/S δ1= .ct δ2)/\I (i+1) δ2)(k:∀δ',I ds.length δ'->Z0y S' δ' Q):Z0y (Zw (W5 it g S) S') δ Q:=by
 obtain⟨δ',e,h⟩:=Znj I h0 turn;exact Zch (Zfu hi e) (k δ' h)
theorem Zcr{it:FI}{g:FG}(I:Nat->Zf->Prop)(hi:EvI it δ ds)(h0:I 0 δ)(turn:∀(i:Nat) (d:Xa) (δ:Zf),ds[i]? =YB d->I i δ->∃δ1 δ2,g d δ=YB δ1/\(S δ1= .nx δ2\/S δ1= .ct δ2)/\I (i+1) δ2)(k:∀δ',I ds.length δ'->Zkz S' δ' d):Zkz (Zw (W5 it g S) S') δ d:=by
 obtain⟨δ',e,h⟩:=Znj I h0 turn;exact Zx (Zfu hi e) (k δ' h)
theorem Zir{it:FI}{g:FG}(I:Nat->Zf->Prop)(hi:EvI it δ ds)(h0:I 0 δ)(turn:∀(i:Nat) (d:Xa) (δ:Zf),ds[i]? =YB d->I i δ->∃δ1 δ2,g d δ=YB δ1/\(S δ1= .nx δ2\/S δ1= .ct δ2)/\I (i+1) δ2):∃δ',W5 it g S δ= .nx δ'/\I ds.length δ':=by
 obtain⟨δ',e,h⟩:=Znj I h0 turn;exact⟨δ',Zfu hi e,h⟩
theorem Z2q{m n:Nat}(h:EvA as δ [.int m,.int n])(hm:m<=1000000)(hn:n<=1000000):EvI (iRb as) δ (Ze5 m (n-m)):=by
 obtain⟨_,e1,d1⟩:=h;unfold EvI;rw[Z7o,e1,Xh,d1,Ydr,Z0b (by omega) (by omega) (by omega) (by omega),show((n:Int)-(m:Int)).toNat=n-m by omega]
theorem Zcl:wE (Zfe Zm) (Ja k) δ= .nx (δ.set k (YB (.nd []))):=Zd6 (by rw[Zto];rfl)
theorem Zsn{i:Int}(h:0<j):0<=i.fmod j:=by rw[Zm0 h];exact Int.emod_nonneg _ (by omega)
theorem Zqu{i:Int}(h:0<j):i.fmod j<j:=by rw[Zm0 h];exact Int.emod_lt_of_pos _ h
theorem Zau(i:Int){n:Nat}(h:0<n):∃m:Nat,i.fmod (n:Int)=m/\m<n:=by
 have h0:=Zsn (i:=i) (j:=n) (by omega);have h1:=Zqu (i:=i) (j:=n) (by omega);exact⟨(i.fmod n).toNat,by omega,by omega⟩
theorem Z4a{o:OT}{ts0:List OT}(h:e δ=YB (o,δ'))(h0:δ[k]? =YB (YB (.nd ts0)))(h1:δ'[k]? =YB (YB (.nd ts)))(hl:ts.length<=1000000):Z0 k e δ= .nx (δ'.set k (YB (.nd (ts++[.fz o.data])))):=by
 rw[Zhp,h0,Zul,h,Z3,h1,Zul,Zyx hl]
theorem Z1w{es:List Xa}(h:EvA as δ ds)(hz:Z7s ds=YB es):EvI (Zsf as) δ es:=by
 obtain⟨_,e1,d1⟩:=h;unfold EvI Zsf;rw[e1,Xh,d1,hz,Xh]
theorem Zmj{it:FI}{g gg:FG}{δ1:Zf}(I:Nat->Zf->Prop){J:Zf->Prop}(hg:gg d δ=YB δ1)(hi:EvI it δ1 ds)(h0:I 0 δ1)(turn:∀(i:Nat) (d:Xa) (δ:Zf),ds[i]? =YB d->I i δ->∃δ1 δ2,g d δ=YB δ1/\(S δ1= .nx δ2\/S δ1= .ct δ2)/\I (i+1) δ2)(hJ:∀δ',I ds.length δ'->J δ'):∃δ1 δ2,gg d δ=YB δ1/\(W5 it g S δ1= .nx δ2\/W5 it g S δ1= .ct δ2)/\J δ2:=by
 obtain⟨δ',e,h⟩:=Znj I h0 turn;exact⟨δ1,δ',hg,.inl (Zfu hi e),hJ δ' h⟩
theorem Zco{T:String}(ha:EvV a δ x)(h:Zpv T x=p)(hf:Zg8 x=YF:=by rfl):EvV (Zn1 T a) δ (.bool p):=(Z6n ha hf).cast (by rw[h])
theorem Zth{f h:Int->Int->Bool}{c d:FE}{m n:Int}(ha:EvV a δ (.int i))(hb:EvV b δ (.int j))(hc:EvV c δ (.int m))(hd:EvV d δ (.int n)):EvV (Zgd f g h a b c d) δ (.bool (f i j&&(g j m&&h m n))):=by
 obtain⟨_,e1,d1⟩:=ha;obtain⟨_,e2,d2⟩:=hb;obtain⟨_,e3,d3⟩:=hc;obtain⟨_,e4,d4⟩:=hd;have io:∀i,intOf (.int i)=YB i:=λ_=>rfl;unfold EvV Zgd;rw[e1,Xh,e2,Xh,d1,io,Xh,d2,io,Xh];cases f i j with
 | false=>exact⟨_,rfl,OT.data_fz _⟩
 | true=>
  rw[YM rfl,e3,Xh,d3,io,Xh];cases g j m with
  | false=>exact⟨_,rfl,OT.data_fz _⟩
  | true=>exact⟨_,by rw[YM rfl,e4,Xh,d4,io,Xh];rfl,OT.data_fz _⟩
theorem Z1i{a b:FE}{bs es:List Xa}{as:List Xa}(ha:EvV a δ (.list as))(hb:EvV b δ (.list bs))(hz:Zot as bs=es):EvI (Zsf (Zd a (Zd b Zm))) δ es:=Z1w (Zc ha (Zc hb Zi)) (YW YB hz)
theorem Z37(ha:EvV a δ (.list ds)):EvI (Ztu (Zd a Zm)) δ (Zi6 ds):=by
 obtain⟨_,e1,d1⟩:=Zc ha Zi;unfold EvI Ztu;rw[e1,Xh];dsimp only;rw[d1]
theorem Zfh{it:FI}{t:FT}(xs:List α)(mk:α->Xa)(pr:α->Bool)(hi:EvI it δ (xs.map mk))(hz:xs.length<=1000000)(hb:blk 1 caps δ=YC::cs)(ht:∀x∈xs,EvT t (YB (.fz (mk x))::cs) (pr x))(h:∀x∈xs,pr x=YD->me (YB (.fz (mk x))::cs)=YB (.fz (mk x),YB (.fz (mk x))::cs)):EvV (Z5 1 caps it (gNm 0) t me) δ (.list ((xs.filter pr).map mk)):=by
 unfold EvI at hi;refine⟨_,Ztq (cs:=cs) xs mk pr (λx=>.fz (mk x)) hi (by rw[X7];omega) hb (λx hx=>ht x hx) h,?_⟩;rw[OT.data_nd,Qk];exact YW _ (XS λx _=>OT.data_fz _)
theorem Told.none{F:FD}(h:Told F ds .none):F ds= .ok (.fz .none):=by
 obtain⟨o,e1,d1⟩:=h;rw[e1,Zsc d1]
end
end L2
namespace My
open PySem L2 PySem.Spec
def Zax:FS :=
 (Zw (wE (Zbb Ycn (Zd (Zb 0) Zm)) (Wi 0))
  (Zw (wE (Zbb Ycn (Zd (Zb 1) Zm)) (Wi 1))
  (Zw (Zhm (tV (Ze gNe (Zb 1) (fC (.int 0)))) (Zw (wE (Ze Zbl (Zb 0) (Zb 1)) (Wi 2))
  (Zw (wE (Zb 1) (Wi 0))
  (wE (Zb 2) (Wi 1)))))
  (wE (Zb 0) W2))))
def Ws:FD:=J8 2 3 Zax
def Zf6:FS :=
 (Zw (wE (Z8 Ws (Zd (Zb 0) (Zd (Zb 1) Zm))) (Wi 2))
  (Zw (Wr (tV (Ze gLt (Zb 1) (fC (.int 0))))
  (wE (fUn Zv3 (Zb 2)) (Wi 2))
  fNx)
  (wE (Zbd (Zd (Ze J7 (Zb 0) (Zb 2)) (Zd (Ze J7 (Zb 1) (Zb 2)) Zm))) W2)))
def Zfy:FD:=J8 2 3 Zf6
def Zbw:FS :=
 (wE (Zza (Zn1 "int" (Zb 0)) (fUn Ybc (Zn1 "bool" (Zb 0)))) W2)
def Ym:FD:=J8 1 1 Zbw
theorem Zke(i:Int):Ym [.int i]= .ok (.fz (.bool YD)):=rfl
def Zge:FS :=
 (Zw (Wr (tO (tNo (tD (Z8 Ym (Zd (Zb 0) Zm)))) (tO (tNo (tD (Z8 Ym (Zd (Zb 1) Zm)))) (tV (Ze gEq (Zb 1) (fC (.int 0))))))
  (Zcp "NoNumber")
  fNx)
  (wE (Z8 Zfy (Zd (Zb 0) (Zd (Zb 1) Zm))) W2))
def Zqo:FD:=J8 2 2 Zge
def Zcb:FS :=
 (Zw (wE (fC (.int 1)) (Wi 1))
  (Zw (W5 (Zbf (Zb 0)) (gNm 2)
  (wE (Ze Ze2 (Ze J7 (Zb 1) (Z8 Ws (Zd (Zb 1) (Zd (Zn gIx (Zb 2) (fC (.int 1))) Zm)))) (Zn gIx (Zb 2) (fC (.int 1)))) (Wi 1)))
  (wE (Zb 1) W2)))
def Zcc:FD:=J8 1 3 Zcb
def Zcy:FS :=
 (Zw (wE (fC (.int 1)) (Wi 1))
  (Zw (W5 (Zbf (Zb 0)) (gNm 2)
  (wE (Z8 Zcc (Zd (Zn Zuw (Zfe (Zd (Zbd (Zd (fC (.int 1)) (Zd (Zb 1) Zm))) Zm)) (Zb 2)) Zm)) (Wi 1)))
  (wE (Zb 1) W2)))
def Zma:FD:=J8 1 3 Zcy
def Ze0:FS :=
 (wE (Z5 1 [0] (Zbf (Zb 1)) (gNm 0) Zcj (Ze Ze2 (Zn gIx (Zb 0) (fC (.int 0))) (Ze J7 (Zb 1) (Zn gIx (Zb 0) (fC (.int 1)))))) W2)
def Ze1:FD:=J8 2 2 Ze0
def Zd4:FS :=
 (wE (Z5 1 [0] (Zbf (Zb 1)) (gNm 0) Zcj (Z8 Ze1 (Zd (Zb 1) (Zd (Zb 0) Zm)))) W2)
def Zov:FD:=J8 2 2 Zd4
def Zbr:FS :=
 (Zw (wE (Zfe Zm) (Ja 1))
  (Zw (W5 (iRa (Zd (Zb 0) Zm)) (gNm 2)
  (W5 (iRb (Zd (Ze J6 (Zb 2) (fC (.int 1))) (Zd (Zb 0) Zm))) (gNm 3)
  (Z0 1 (Zbd (Zd (Zb 2) (Zd (Zb 3) Zm))))))
  (Zez 1)))
def J0:FD:=J8 1 4 Zbr
def Zag(n:Nat):List (Nat×Nat):=(Xj n).flatMap λi=>(Xj (n-(i+1))).map λj=>(i,i+1+j)
def ptD(p:Nat×Nat):Xa:=.tuple [.int p.1,.int p.2]
theorem Zhv{n:Nat}{p:Nat×Nat}(h:p∈Zag n):p.1<p.2/\p.2<n:=by
 unfold Zag at h;obtain⟨i,hi,hp⟩:=List.mem_flatMap.mp h;obtain⟨j,hj,rfl⟩:=XM.mp hp;have:=XH.mp hi;have:=XH.mp hj;dsimp only;omega
def Zj8(n i:Nat):List (Nat×Nat):=(Xj i).flatMap λi=>(Xj (n-(i+1))).map λj=>(i,i+1+j)
theorem Zju(n:Nat):∀i,(Zj8 n i).length<=i*n
 | 0=>by simp[Zj8]
 | i+1=>by
  have:=Zju n i;unfold Zj8 at this|-
  rw[List.range_succ,List.flatMap_append,XX];simp only[List.flatMap_cons,List.flatMap_nil,Qs,Xc,Xr];have e:(i+1)*n=i*n+n:=by rw[Nat.succ_mul]
  omega
theorem Zow(n i:Nat):Zj8 n (i+1)=Zj8 n i++(Xj (n-(i+1))).map λj=>(i,i+1+j):=by
 unfold Zj8;rw[List.range_succ,List.flatMap_append];simp
theorem Zlf(n:Nat)(hn:n<=1000):Told J0 [.int n] (.list ((Zag n).map ptD)):=by
 refine Ye rfl<|Zx Zcl<|Zcr (ds:=Ze5 0 n) (λi δ=>∃z1 z2,δ=[YB (.fz (.int n)),YB (.nd (((Zj8 n i).map ptD).map OT.fz)),z1,z2]) (Zaz (Zc Za Zi) (by omega)) ⟨_,_,rfl⟩ (λi d δ hd h=>?_) λδ' h=>?_
 .obtain⟨z1,z2,rfl⟩:=h
  obtain⟨hi,rfl⟩:=Zaf hd;rw[Int.zero_add];have ln:=Zju n i;have l2:i*n<=999*1000:=Nat.mul_le_mul (by omega) hn;refine Zmj (ds:=Ze5 ((i+1:Nat):Int) (n-(i+1))) (λj δ=>∃z,δ=[YB (.fz (.int n)),YB (.nd (((Zj8 n i++(Xj j).map λj=>(i,i+1+j)).map ptD).map OT.fz)),YB (.fz (.int i)),z]) rfl (Z2q (m:=i+1) (Zc (EvV.cast (Zaj Za Yc) rfl) (Zc Za Zi)) (by omega) (by omega)) ⟨z2,by rw[List.range_zero,List.map_nil,Qs];rfl⟩ (λj d δ hd h=>?_) λδ' h=>?_
  .obtain⟨z,rfl⟩:=h
   obtain⟨hj,rfl⟩:=Zaf hd;refine⟨_,_,rfl,.inl (Zcg (Wu (Zc Za (Zc Za Zi)) (show 2<=1000 by decide)) rfl (by rw[Xc,Xc,XX,Xc,Xr];omega)),YB (.fz (.int (((i+1:Nat):Int)+j))),?_⟩;rw[List.range_succ];simp only[Qh,QV];rfl
  .obtain⟨z,rfl⟩:=h
   rw[Wm,<-Zow];exact⟨_,_,rfl⟩
 .obtain⟨z1,z2,rfl⟩:=h
  rw[Wm];exact Z4r rfl (by rw[OT.data_nd,OT.map_fz];rfl)
end My
namespace My
open PySem L2 PySem.Spec
def Zae:FS :=
 (Zw (Wr (tV (Ze gLt (Zb 1) (Zbb Zgu (Zd (Zb 0) Zm))))
  (wE (Zn gIx (Zb 0) (Zb 1)) W2)
  fNx)
  (wE (fC (.int 0)) W2))
def Yw:FD:=J8 2 2 Zae
def Zfs:FS :=
 (Zw (Wr (tV (Ze gEq (Ze Zbl (Ze J7 (Zb 0) (fC (.int 7))) (fC (.int 8))) (fC (.int 3))))
  (wE (Ze J6 (Ze J6 (Zb 2) (fC (.int 1))) (Ze Zbl (Ze J7 (Zb 0) (fC (.int 56))) (Ze gSb (Zb 3) (Zb 2)))) W2)
  fNx)
  (wE (Ze J6 (Zb 1) (Ze Zbl (Zb 0) (Ze gSb (Ze J6 (Zb 2) (fC (.int 1))) (Zb 1)))) W2))
def Zr1:FD:=J8 4 4 Zfs
def Zf7:FS :=
 (Zw (wE (Ze Zbl (Ze Ze2 (Ze J6 (Ze J6 (Ze Zbl (Zb 0) (fC (.int 2147483629))) (Ze Ze2 (fC (.int 9973)) (Zb 1))) (fC (.int 5))) (fC (.int 48271))) (fC (.int 2147483647))) (Wi 2))
  (Zw (wE (Ze Zbl (Ze Ze2 (Zb 2) (Zb 2)) (fC (.int 2147483587))) (Wi 2))
  (wE (Ze J7 (Ze Zbl (Ze Ze2 (Ze J6 (Zb 2) (Ze Ze2 (fC (.int 7919)) (Zb 1))) (fC (.int 16807))) (fC (.int 2147483563))) (fC (.int 8))) W2)))
def Zfl:FD:=J8 2 3 Zf7
def Zde:FS :=
 (Zw (wE (Zfe Zm) (Ja 2))
  (Zw (wE (Zb 0) (Wi 3))
  (Zw (W5 (iRa (Zd (Zb 1) Zm)) (gNm 4)
  (Zw (wE (Z8 Zfl (Zd (Zb 0) (Zd (Zb 4) Zm))) (Wi 5))
  (Zw (Wr (tV (Ze gGe (Zb 0) (Ze Zu8 (fC (.int 10)) (fC (.int 18)))))
  (wE (Ze Zbl (Zb 3) (fC (.int 720720))) (Wi 5))
  fNx)
  (Zw (wE (Ze J7 (Zb 3) (fC (.int 720720))) (Wi 3))
  (Z0 2 (Zb 5))))))
  (Zez 2))))
def Zmi:FD:=J8 2 6 Zde
def Zo(p:List Int):Xa:=.list (p.map Xw)
theorem Zve{p:List Int}{i:Int}(h0:0<=i)(h1:i<p.length):atI (p.map Xw) i=YB (.int (p.getD i.toNat 0)):=by
 rw[Zmw h0,Xi,Xn (by omega)];simp[Xm,Xn (show i.toNat<p.length by omega)]
theorem Zdg{a b:FE}{δ:Zf}{p:List Int}{i:Int}(ha:EvV a δ (Zo p))(hb:EvV b δ (.int i))(h0:0<=i)(h1:i<p.length):EvV (Zn gIx a b) δ (.int (p.getD i.toNat 0)):=Zcs ha hb (Zve h0 h1)
theorem Zb5{a:FE}{δ:Zf}{p:List Int}(ha:EvV a δ (Zo p)):EvV (Zbb Zgu (Zd a Zm)) δ (.int p.length):=by
 have:=Zm7 (ds:=p.map Xw) ha
 rwa[Xc]at this
theorem Ycb:Zu8 (.int 10) (.int 18)=YB (.int 1000000000000000000):=rfl
theorem Zod(ns:List Int){k:Int}(h0:0<=k):∃c,Yw [Zo ns,.int k]= .ok (.fz (.int c)):=by
 by_cases c:k<ns.length
 .exact⟨_,Told.int<|Ye rfl<|Zac (Zf5 (W8 (Zoj Za (Zb5 Za) (YS c))) (Wy (Zdg Za Za h0 c)))⟩
 .exact⟨_,Told.int<|Ye rfl<|Zx (Z2 (W8 (Zoj Za (Zb5 Za) (YT c))) rfl) (Wy Yc)⟩
theorem Zmr{e:FE}{vs:List Int}{v:Int}(h:EvV e δ (.int v))(hi:δ[i]? =YB (YB (.nd (vs.map λv=>.fz (.int v)))))(hl:vs.length<=1000000):Z0 i e δ= .nx (δ.set i (YB (.nd ((vs++[v]).map λv=>.fz (.int v))))):=by
 rw[Zcg h hi (by rw[Xc];exact hl),Qh];rfl
theorem Z0e(p:List Int):(OT.nd ((p.map Xw).map OT.fz)).data=Zo p:=by
 rw[OT.data_nd,OT.map_fz];rfl
theorem Zw7(vs:List Int):(OT.nd (vs.map λv=>OT.fz (.int v))).data=Zo vs:=by rw[OT.data_nd,Zpf];rfl
end My
namespace L2
open PySem PySem.Spec PyProof.Rows
variable {G:Xd}
section
variable {X:Cx}{io:List Nat}{p c:Bool}{e a b:YJ}{es:List YJ}{m mj:MEt}{pos apos cpos px sp kp:Pos}{i:Nat}{x:Str}{fa fb:FE}{st:YK}
def Zm1(i:Nat)(mj m:MEt):MSt:=λD δ=>match δ[i]? with
 | some (YB (.nd ts))=>mj δ λn _=>match n.data with
  | .int k=>match ixN ts.length k with
   | some j=>match ts[j]? with
    | some (.nd us)=>m δ λr _=>us.length<XC/\D.nx (δ.set i (YB (.nd (ts.set j (.nd (us++[.fz r.data]))))))
    | _=>False
   | none=>False
  | _=>False
 | _=>False
theorem Znk(i:Nat)(hj:ME X io YD c a mj)(he:ME X io YD YD e m)(hPa:Zgg a:=by exact λ_ _=>rfl)(hN:X.N[i]? =YB x:=by rfl)(hv:Vis X.env.scope x:=by first|exact QL rfl|exact Qt (QL rfl)|exact Qt (Qt rfl))(hd:(x==("__debug__" : Str))=YF:=by decide)
  (hcd:(x==("__classdict__" : Str))=YF:=by decide)
  (hbase:Ui (.Subscript (.Name x px) a sp) "append" X.env (eval (.Subscript (.Name x px) a sp) X.env)=eval (.Subscript (.Name x px) a sp) X.env:=by rfl)
  (hfew:((JF cpos (Xu [e] X.env)).all (λx=>!x.1)&&(backToKw cpos (U9 [] X.env)).all (λx=>x.1.isSome)
   &&decide ([e].length+([]:List Ua).length+(if([]:List Ua).isEmpty then 0 else 1)<30))=YD:=by rfl)
  (hline:(apos.endLine==cpos.line)=YD:=by rfl) (hs:Xu [e] X.env=(YF,eval e X.env)::Xu [] X.env:=by rfl) (hplain:(JF cpos (Xu [] X.env)).any (·.1)=YF:=by rfl)
  (hsw:VH (.Call (.Attribute (.Subscript (.Name x px) a sp) "append" apos) [e] [] cpos) YC pos.line X.env=pure YF:=by rfl) :
  MS X io (.Expr (.Call (.Attribute (.Subscript (.Name x px) a sp) "append" apos) [e] [] cpos) pos) (Zm1 i mj m):=by
 obtain⟨_,A,s⟩:=he;obtain⟨_,B,sj⟩:=hj;refine⟨_,Zin (Zt0 Uw PySem.F.slot_list_append PySem.F.type_list_append Zc8 (Zu3 (Zm6 rfl) (pv i hN hv hd hcd) B hPa) (Zam A Zen hs) hbase hfew hline hs hplain) hsw,λC H O δ fp ex D D' R h E=>?_⟩;unfold Zm1 at h;split at h
 case h_2=>exact h.elim
 rename_i ts hi;obtain⟨a',_,_,hv0,_⟩:=R.ownNd hi;refine⟨_,hv0,?_⟩;refine sj.pureAfter R h λH2 w n R2 s2 q2 h2=>?_;obtain⟨k,rfl,h2⟩:=q2.intInv h2;split at h2
 case h_2=>exact h2.elim
 rename_i j hj;split at h2
 case h_2=>exact h2.elim
 rename_i us hus;obtain⟨a2,xs2,bs2,hv2,hx2,o2,hf2⟩:=R2.ownNd hi;rw[hv0]at hv2;cases hv2;obtain⟨xr,cr,hxr,orow,_⟩:=o2.get hus;obtain⟨b',ws0,rfl,hb0⟩:∃b' ws0,xr=V.ref b'/\H2 b'=YB (.lst ws0):=by
  cases orow with
  | nd h r=>exact⟨_,_,rfl,h⟩
 refine⟨a',xs2,k,V.ref b',rfl,rfl,.inl (.inl hx2),?_,?_⟩
 .unfold atI
  rw[o2.length,hj];exact hxr
 refine⟨.inl ⟨rfl,ws0,.inl (.inl hb0)⟩,?_⟩;refine s.pureAfter R2 h2 λH3 v r R3 s3 q h3=>?_;obtain⟨a3,xs3,bs3,hv3,hx3,o3,hf3⟩:=R3.ownNd hi;rw[hv0]at hv3;cases hv3;have exs:xs3=xs2:=by
  have:=s3 _ _ hx2;rw[hx3]at this;cases this;rfl
 subst exs;obtain⟨xr3,cr3,hxr3,orow3,hsub3⟩:=o3.get hus;rw[hxr]at hxr3;cases hxr3;have nd3:=R3.nd i;rw[hf3]at nd3;have hn3:=Qq.mp nd3;cases orow3 with
 | nd hb r3=>
  rename_i ws3 bs4;have hbm:b'∈bs3:=hsub3.subset (.head _);have hbf:b'∈fp i:=by rw[hf3];exact .tail _ hbm
  have hLb:¬Lf C fp ex b':=λl=>l.1 ⟨i,hbf⟩;have q':=q.wide (L':=Lf C fp ex) λa l _=>l rfl;obtain⟨as',oo,ss,_⟩:=Owns.deep (ws':=ws3++[v]) (us':=us++[.fz r.data]) hb hLb (λcs hcs=>⟨cs,by have:=hcs.snoc (.fz q');simpa using this,List.Sublist.refl _⟩) o3 hn3.2 hxr hus;refine⟨b',ws3,v,rfl,rfl,hb,by rw[r3.length];exact h3.1,?_⟩;have hba:a'≠b':=λz=>hn3.1 (z▸hbm);have sub:∀a,a∈a'::as'->a∈fp i:=λa m=>by
   rw[hf3];rcases Xo.mp m with rfl|m
   .exact .head _
   .exact .tail _ (ss.subset m)
  have kp:∀b o,H3 b=YB o->b≠b'->upd H3 b' (.lst (ws3++[v])) b=YB o:=λb o e n=>by rw[Zq n];exact e
  have lw:∀a,Lf C fp ex a->upd H3 b' (.lst (ws3++[v])) a≠YC->Lf C (fpu fp i (a'::as')) (exu ex []) a:=λa l _=>⟨λz=>by
   rcases z.of_u with z|⟨j,_,z⟩
   .exact l.1 ⟨i,sub a z⟩
   .exact l.1 ⟨j,z⟩,λz=>l.2.1 (Ju.mp z),l.2.2⟩
  obtain⟨R4,S4⟩:=R3.change (new:=[]) (as':=a'::as') (t':=.nd (ts.set j (.nd (us++[.fz r.data])))) (H':=upd H3 b' (.lst (ws3++[v]))) hi hv0 (λb o e nb=>kp b o e λz=>nb (by rw[z];exact hbf)) (λb e=>by
   by_cases q:b=b'
   .subst q;rw[Zu]at e;cases e
   .rwa[Zq q]at e) (.nd (by rw[Zq hba];exact hx3) (oo.wide lw)) (Qq.mpr ⟨λm=>hn3.1 (ss.subset m),hn3.2.sublist ss⟩) (λa m=>.inl (sub a m)) (λa m=>nomatch m)
  have k1:Kp H fp H3 fp:=⟨λb o e _=>s3 _ _ (s2 _ _ e),λz=>(nomatch z),λa z=>.inl z,λb e=>s2.al b (s3.al b e)⟩;exact E.nx _ O _ _ (R4.drop λa z=>.inl z) (k1.trans S4.kp) h3.2
def Zhn(i:Nat)(j e:FE):FS:=λδ=>match δ[i]? with
 | some (YB (.nd ts))=>wE j (λn _=>match n.data with
  | .int k=>match ixN ts.length k with
   | some j=>match ts[j]? with
    | some (.nd us)=>wE e (λr _=>if us.length<XC then .nx (δ.set i (YB (.nd (ts.set j (.nd (us++[.fz r.data]))))))else .bad) δ
    | _=>.bad
   | none=>.bad
  | _=>.bad) δ
 | _=>.bad
theorem Znq(h:MS X io st (Zm1 i (o2 fb) (o2 fa))):MS X io st (oS (Zhn i fb fa)):=h.weak λD δ h=>by
 unfold oS Zhn at h;unfold Zm1;split at h
 case h_2=>exact h.elim
 rename_i q;(try rw[q]);(try dsimp only);refine(Zjb h).imp λn δ' z=>?_;split at z
 case h_2=>exact z.elim
 rename_i k q1;(try rw[q1]);(try dsimp only);split at z
 case h_2=>exact z.elim
 rename_i j q2;(try rw[q2]);(try dsimp only);split at z
 case h_2=>exact z.elim
 rename_i us q3;(try rw[q3]);(try dsimp only);exact(Zjb z).imp λr δ' z=>Zfj z
end
variable {G:Xd}
section
variable {X:Cx}{io:List Nat}{p c p' c':Bool}{a b e:YJ}{ma mb m:MEt}{pos pp:Pos}{x:Str}
theorem Z6z{n:Int}{t:Tok}(hg:Gl X x)(hm:X.mg x=YB (.int n t))(hdb:(x==("__debug__" : Str))=YF:=by decide):ME X io YD YD (.Name x pos) (mC (.int n)) :=
 ⟨_,Z2b (v:=.int n) hg hm ⟨t,rfl⟩ hdb,λC H O δ fp ex K Q R h k=>k H (.int n) _ δ fp [] (.fz R (.refl _ _ _ _) (.int n)) h⟩
def Zxy(ma mb:MEt):MEt:=λδ K=>ma δ λrk _=>∃k:Int,rk.data= .int k/\mb δ λrv _=>K (.dc YF [.inl (.inl k)] [rv.data]) δ
theorem Z1o(ha:ME X io YD c a ma)(hb:ME X io YD YD b mb):ME X io YD YD (.Dict [YB a] [b] pos) (Zxy ma mb):=by
 obtain⟨_,A,sa⟩:=ha;obtain⟨_,B,sb⟩:=hb;refine⟨_,Z0v (Zw8 A B Z27) rfl rfl (λz=>nomatch z) (show 1<=15 by decide),λC H O δ fp ex K Q R h kk q hq=>?_⟩;have s0:Same H (upd H q (.dK [])):=Zv hq _;have R0:Rel C io (upd H q (.dK [])) O δ fp (exu ex [q]):=R.made s0 λa m=>by
  rw[Xq.mp m];exact⟨hq,by rw[Zu];exact Option.some_ne_none _⟩
 refine sa.pureAfter R0 h λH1 v r R1 s1 q1 h1=>?_;obtain⟨k,hk,h1⟩:=h1;rw[hk]at q1;have hv:v= .int k:=by cases q1;rfl
 refine sb.pureAfter R1 h1 λH2 v2 r2 R2 s2 q2 h2=>?_;have e2:H2 q=YB (.dK []):=s2 _ _ (s1 _ _ Zu);refine⟨e2,[(.inl k,v2)],by rw[hv];rfl,show 1<=15 by decide,?_⟩;have keep:∀b o,H2 b=YB o->b≠q->upd H2 q (.dK (Zet [] [(.inl k,v2)])) b=YB o:=λb o e n=>by rw[Zq n];exact e
 have sm:Same H (upd H2 q (.dK (Zet [] [(.inl k,v2)]))):=λb o e=>keep b o (s2 _ _ (s1 _ _ (s0 _ _ e))) λz=>by rw[z,hq]at e;cases e
 have d3:Da X.K (upd H2 q (.dK (Zet [] [(.inl k,v2)]))) (λa=>((YD=YD->Lf C fp ex a)\/H a=YC)/\a∉[q]) v2 r2.data:=q2.frame (λa xs l e=>by
  have l:=l rfl;have n:a≠q:=λz=>l.2.1 (.inr (Xq.mpr z));exact⟨⟨.inl λ_=>⟨l.1,λz=>l.2.1 (.inl z),l.2.2⟩,λm=>n (Xq.mp m)⟩,e.imp (λe=>keep a _ e n) λz=>z.imp λo e=>keep a _ e n⟩) λa xs e=>keep a _ e λz=>by
   rw[z,e2]at e;cases xs<;>cases e
 exact kk _ _ _ δ fp [q] (RE.tree (H1:=H) R R (Stp.same (Same.refl H) λ_ z=>z) sm (J1 hq) (Zbc q) (.dc (o:=.dK [(.inl k,v2)]) Zu ⟨rfl,rfl,rfl⟩ (.cons d3 .nil))) h2
def Zzj(a b:FE):FE:=λδ=>(a δ).bind λp=>match p.1.data with
 | .int k=>(b δ).bind λq=>YB (.dc YF [.inl (.inl k)] [q.1.data],δ)
 | _=>YC
theorem Zxa(h:ME X io p c e (Zxy (o2 fa) (o2 fb))):ME X io p c e (o2 (Zzj fa fb)):=h.weak λδ K z=>by
 obtain⟨r,δ',h,k⟩:=z;obtain⟨⟨x,δ1⟩,h1,h⟩:=bs h;dsimp only at h;split at h
 case h_2=>cases h
 rename_i n hn;obtain⟨⟨y,δ2⟩,h2,h⟩:=bs h;cases h;exact⟨x,δ1,h1,n,hn,y,δ2,h2,k⟩
end
variable {G:Xd}
def Zjw:List Xa->Option (List Str)
 | []=>YB []
 | .str x::ds=>(Zjw ds).map (x::·)
 | _::_=>YC
theorem Das.strs:∀{xs:List V} {ds:List Xa} {ts:List Str},Das G H L xs ds->Zjw ds=YB ts->xs=ts.map V.str
 | _,[],_,.nil,h=>by cases h;rfl
 | _,d::ds,_,.cons h r,e=>by
  cases d with
  | str x=>
   rw[Zjw]at e;obtain⟨ts,e1,rfl⟩:=XD.mp e;cases h;rw[r.strs e1];rfl
  | _=>cases e
theorem Zji:∀{ts:List Str} {us:List Xe},Vals (ts.map V.str) us->∃l:List (Str×Tok),us=strValues l/\l.map (·.1)=ts
 | [],_,r=>by cases r;exact⟨[],rfl,rfl⟩
 | t::ts,_,r=>by
  rw[X4]at r;cases r with
  | cons h r=>
   obtain⟨k,rfl⟩:=h;obtain⟨l,rfl,rfl⟩:=Zji r;exact⟨(t,k)::l,rfl,rfl⟩
section
variable {X:Cx}{K:Xd}
def rJoin(K:Xd):V->List V->Hp->VK->Prop:=λx vs H Q=>∃sep b ts,x= .str sep/\vs=[.ref b]/\SqL K H b (ts.map V.str)/\JoinOk sep ts=YD/\Q (.str (PySem.Txt.join sep ts)) H
theorem Zrs(hK:X.K=K):MtR X "str.join" (rJoin K):=by
 intro pins s O H x vs v us Q I rx rv h;obtain⟨sep,b,ts,rfl,rfl,hb,ok,q⟩:=h;obtain⟨t,rfl⟩:=rx;obtain⟨u,rfl,ru⟩:=rv.one;cases ru;obtain⟨its,n,r,hl,o,e1,e2,e3,e4⟩:=I.lstQ hK hb;obtain⟨l,rfl,hl2⟩:=Zji r;exact SC.join (l:=l) (texts:=ts) ⟨o,e1,e2,n,e4⟩ hl2 ok λt' k=>⟨.str _,H,I.tok k,⟨t',rfl⟩,q⟩
end
section
variable {X:Cx}{io:List Nat}{p c p' c':Bool}{o e:YJ}{es:List YJ}{mo:MEt}{mr:MAt}{apos cpos:Pos}{r:V->List V->Hp->VK->Prop}{name:Str}{id:String}
def PMs(G:Xd)(r:V->List V->Hp->VK->Prop)(g:Str->List Xa->Option Xa):Prop:=∀(H:Hp) (L:YG->Prop) (z:Str) (xs:List V) (ds:List Xa) (d:Xa) (Q:VK),Das G H L xs ds->g z ds=YB d->(∀v,ScD v d->Q v H)->r (.str z) xs H Q
def Ydm(g:Str->List Xa->Option Xa)(mo:MEt)(mr:MAt):MEt:=λδ K=>mo δ λro δ1=>∃z,ro.data= .str z/\mr δ1 λrs δ2=>∃d,g z (OT.datas rs)=YB d/\K (.fz d) δ2
theorem Da.strInv{z:Str}(h:Da G H L v (.str z)):v= .str z:=by cases h;rfl
theorem Yhy{g:Str->List Xa->Option Xa}{t:TA}(P:PMs G r g)(so:SE G io p c to mo)(sa:SA G io p' c' t mr):SE G io (p&&p') YD (tBM G "str" r to t) (Ydm g mo mr):=λC H O δ fp ex K Q R h kk=>
 so C H O δ fp ex _ _ R h λH1 v ro δ1 fp1 new1 r1 h1=>by
  obtain⟨z,hz,h1⟩:=h1;have q:=r1.da R;rw[hz]at q;cases q.strInv;exact⟨rfl,sa C H1 O δ1 fp1 ex _ _ r1.base h1 λH2 vs rs δ2 fp2 new2 r2 h2=>by
   obtain⟨d,e,h2⟩:=h2;exact P H2 _ z vs _ d _ (r2.das r1.base) e λv sc=>kk H2 v _ δ2 fp2 [] (.fz r2.base (r1.stp.trans r2.stp) sc.da) h2⟩
theorem Yag{g:Str->List Xa->Option Xa}(P:PMs X.K r g)(slot:Slot "str" name id)(hty:typeOf (.builtin id)=pure (.type "method_descriptor"))(hm:MtR X id r)(ho:ME X io p c o mo)(ha:MA X io p' c' (e::es) mr)
  (hbase:Ui o name X.env (eval o X.env)=eval o X.env:=by rfl)
  (hfew:((JF cpos (Xu (e::es) X.env)).all (λx=>!x.1)&&(backToKw cpos (U9 [] X.env)).all (λx=>x.1.isSome)
   &&decide ((e::es).length+([]:List Ua).length+(if([]:List Ua).isEmpty then 0 else 1)<30))=YD:=by rfl)
  (hline:(apos.endLine==cpos.line)=YD:=by rfl) (hs:Xu (e::es) X.env=(YF,eval e X.env)::Xu es X.env:=by rfl) (hplain:(JF cpos (Xu es X.env)).any (·.1)=YF:=by rfl) :
  ME X io (p&&p') YD (.Call (.Attribute o name apos) (e::es) [] cpos) (Ydm g mo mr):=by
 obtain⟨_,Oa,so⟩:=ho;obtain⟨_,A,sa⟩:=ha;exact⟨_,Zt0 PySem.F.plainAttrs_str slot hty hm Oa A hbase hfew hline hs hplain,Yhy P so sa⟩
def Zta:Str->List Xa->Option Xa:=λz ds=>match ds with
 | [.list es]=>(Zjw es).bind λts=>if JoinOk z ts=YD then YB (.str (PySem.Txt.join z ts))else YC
 | _=>YC
theorem Zrq:PMs G (rJoin G) Zta:=λH L z xs ds d Q hx h kk=>by
 unfold Zta at h;split at h
 case h_2=>cases h
 rename_i es;obtain⟨ts,h1,h⟩:=bs h;split at h
 case isFalse=>cases h
 rename_i ok;cases h;cases hx with
 | cons q r0=>
  cases r0;cases q with
  | lst l e r=>exact⟨z,_,ts,rfl,rfl,.inl (r.strs h1▸e),ok,kk _ (.str _)⟩
  | scr ks=>
   rename_i a ns;cases ns with
   | nil=>cases h1;exact⟨z,_,[],rfl,rfl,ks.sq,ok,kk _ (.str _)⟩
   | cons n ns=>cases h1
def Z5o(g:Str->List Xa->Option Xa)(o:FE)(a:FA):FE:=λδ=>(o δ).bind λp=>match p.1.data with
 | .str z=>(a p.2).bind λq=>(g z (OT.datas q.1)).bind λd=>YB (.fz d,q.2)
 | _=>YC
variable {fo:FE}{ra:FA}
theorem Zzo{g:Str->List Xa->Option Xa}(h:ME X io p c e (Ydm g (o2 fo) (o2 ra))):ME X io p c e (o2 (Z5o g fo ra)):=h.weak λδ K z=>by
 obtain⟨r,δ',h,k⟩:=z;obtain⟨⟨x,δ1⟩,h1,h⟩:=bs h;dsimp only at h;split at h
 case h_2=>cases h
 rename_i z hz;obtain⟨⟨y,δ2⟩,h2,h⟩:=bs h;obtain⟨d,h3,h⟩:=bs h;cases h;exact⟨x,δ1,h1,z,hz,y,δ2,h2,_,h3,k⟩
end
variable {G:Xd}
section
variable {X:Cx}
def Yf8(neg:Bool):R2:=λy x H Q=>∃a o,x= .ref a/\DGet H a y o/\Q (.bl (if neg then !o.isSome else o.isSome)) H
theorem Zs1(hu:X.A.units+64<Vh):OpR X (QH .NotIn) (Yf8 YD):=by
 intro pins s O H y x iv u Q I ry rx h;obtain⟨a,o,rfl,g,q⟩:=h;cases rx;exact Z0j (hu1 hu) I g ry λs3 I3=>⟨.bl (!o.isSome),H,I3,rfl,q⟩
def Zuz(neg:Bool):Xa->Xa->Option Xa:=λe d=>match d with
 | .dict ((.none,.bool t)::kvs)=>(Zjc e).bind λk=>if Zrj k=t then YB (.bool (if neg then !(Zg7 k kvs).isSome else(Zg7 k kvs).isSome))else YC
 | _=>YC
def Ygj(neg:Bool):Xa->Xa->(Xa->Prop)->Prop:=λe d k=>∃r,Zuz neg e d=YB r/\k r
theorem Yc6:ByS (Zuz neg) (Ygj neg):=λ_ _ r _ h hk=>⟨r,h,hk⟩
theorem Z8e:P2s G (Yf8 neg) (Ygj neg):=λH L y x e d k Q hy hx h kk=>by
 obtain⟨r,h,hk⟩:=h;unfold Zuz at h;split at h
 case h_2=>cases h
 rename_i t kvs;obtain⟨ky,h1,h⟩:=bs h
 by_cases ht:Zrj ky=t
 .rw[YM ht]at h
  cases h;obtain⟨a,o,rfl,_,g,R⟩:=hx.dget hy h1 ht;have eo:o.isSome=(Zg7 ky kvs).isSome:=by
   rcases R with⟨v,d,rfl,hd,_⟩|⟨rfl,hd⟩<;>rw[hd]<;>rfl
  exact⟨a,o,rfl,g,by rw[eo];exact kk _ _ (.bl _) hk⟩
 .rw[YQ ht]at h;cases h
def Zq8:List Xa->Option Xa:=λds=>match ds with|[.dict ((.none,.bool YF)::kvs)]=>YB (.int kvs.length)|_=>YC
def Z54:List Xa->(Xa->Prop)->Prop:=λds k=>∃d,Zq8 ds=YB d/\k d
theorem Z60:∀ds r k,Zq8 ds=YB r->k r->Z54 ds k:=λds r k h hk=>⟨r,h,hk⟩
def Z7u:List V->Hp->VK->Prop:=λxs H Q=>∃a kvs,xs=[.ref a]/\Rd H a (.dK kvs)/\Q (.int kvs.length) H
theorem Zuk:Zbm X (.builtin "len") Z7u:=by
 intro pins s O H xs us Q I rv h;obtain⟨a,kvs,rfl,e,q⟩:=h;obtain⟨u,rfl,ru⟩:=rv.one;cases ru;obtain⟨z,hd,vs,rel,dd⟩:=Zsl I.hok e;refine call_len_dict hd dd (by rw[<-rel.length];rw[X7]at z;omega) ?_;exact⟨.int kvs.length,H,I.tok _,⟨_,by rw[rel.length]⟩,q⟩
theorem Z3t:PNs G Z7u Z54:=λH L xs ds k Q hx h kk=>by
 obtain⟨d,h,hk⟩:=h;unfold Zq8 at h;split at h
 case h_2=>cases h
 rename_i kvs;cases h;cases hx with
 | cons q r0=>
  cases r0;generalize ed:Xa.dict ((.none,.bool YF)::kvs)=d at q;cases q with
  | dic l r dk qs=>
   rename_i a o t' ks xs ds;unfold dcD at ed;injection ed with ed;injection ed with e1 e2;injection e1 with _ e1;injection e1 with e1;subst e1 e2;cases o with
   | lst _=>exact dk.elim
   | dT _=>exact nomatch dk.1
   | dK kv=>
    obtain⟨_,e1,e2⟩:=dk;subst e1 e2;refine⟨a,kv,rfl,r,?_⟩;have hl:kv.length=(((kv.map λp=>(Sum.inl p.1:KY)).map kyD).zip ds).length:=by
     have:=qs.length;rw[Xc]at this;rw[List.length_zip,Xc,Xc,<-this,Nat.min_self]
    rw[hl];exact kk _ _ (.int _) hk
  | exc _ _ _=>unfold exD at ed;cases ed
  | fn _=>unfold fnD at ed;cases ed
  | _=>cases ed
end
variable {G:Xd}
def Sg(z:Str)(t:Tok)(it:YG)(i:Nat)(h:YH):Prop:=h.IsStrIter it "str_ascii_iterator" z t i\/h.IsStrIter it "str_iterator" z t i
section
variable {P:Qa}{w:Qo}{A:Qv}{E:Xe->Xg->Prop}{s:Xg}
structure Ap(z TI TO i1 i2:YG):Prop where
 a1:TI≠z
 a2:TO≠z
 a3:i1≠z
 a4:i2≠z
 a5:i1≠TO
 a6:i2≠TO
 a7:i1≠i2
 a8:TI≠TO
 a9:TI≠i1
 a10:TI≠i2
abbrev yT1(h:YH)(x:Str)(t:Tok):YH:=h.push { cls:=.type (strIterType x),data:=.fields #[.str x t,.int 0 0] }
abbrev yT2(h:YH)(x y:Str)(t u:Tok):YH:=yT1 (yT1 h x t) y u
abbrev yT3(h:YH)(x y:Str)(t u:Tok):YH:=(yT2 h x y t u).push { cls:=.type "tuple",data:=.seq #[.ref h.objs.size,.ref (yT1 h x t).objs.size] }
abbrev yT4(h:YH)(x y:Str)(t u:Tok):YH:=(yT3 h x y t u).push { cls:=.type "tuple",data:=.seq #[.none,.none] }
abbrev yT5(h:YH)(x y:Str)(t u:Tok):YH:=(yT4 h x y t u).push { cls:=.type "zip",data:=.fields #[.none,.bool YF,.bool YF,.ref (yT2 h x y t u).objs.size,.ref (yT3 h x y t u).objs.size] }
theorem Sg.at{h:YH}{x:Str}{t:Tok}{it:YG}(e:h.get? it=YB { cls:=.type (strIterType x),data:=.fields #[.str x t,.int 0 0] }):Sg x t it 0 h:=by
 unfold strIterType at e;split at e
 .exact .inl ⟨_,e,rfl,rfl⟩
 .exact .inr ⟨_,e,rfl,rfl⟩
end
section
variable {X:Cx}{io:List Nat}{p c:Bool}{a b:YJ}{mr:MAt}{ra:FA}
end
section
variable {X:Cx}{io:List Nat}{tg iter test:YJ}{rs:List YK}{mi:MIt}{g:MGt}{mt:MTt}{ur:MSt}{pos pi:Pos}{st:YK}{it:FI}{gg:FG}{t:FT}{r:FS}
end
section
variable {X:Cx}{io:List Nat}{e:YJ}{m:MEt}{fa:FE}{i:Nat}{pos pt:Pos}{st:YK}
def Z9i(i:Nat)(m:MEt):MSt:=λD δ=>m δ λr _=>match δ[i]? with|some (YB t)=>D.rt (.tp [.fz r.data,t]) (δ.set i YC)|_=>False
theorem Z17(i:Nat)(he:ME X io YD YD e m)(hio:i∉io:=by decide)(hN:X.N[i]? =YB x:=by rfl)(hv:Vis X.env.scope x:=by first|exact QL rfl|exact Qt (QL rfl)|exact Qt (Qt rfl))(hd:(x==("__debug__" : Str))=YF:=by decide)
  (hcd:(x==("__classdict__" : Str))=YF:=by decide) (hs:Xu [e,.Name x px] X.env=(YF,eval e X.env)::Xu [.Name x px] X.env:=by rfl) (hs2:Xu [.Name x px] X.env=(YF,eval (.Name x px) X.env)::Xu [] X.env:=by rfl):MS X io (.Return (YB (.Tuple [e,.Name x px] kk pt)) pos) (Z9i i m):=by
 obtain⟨_,A,s⟩:=he;refine⟨_,Zp8 (Zua (Zam A (Zam (pv i hN hv hd hcd) Zen hs2) hs)),λC H O δ fp ex D D' R h E=>?_⟩;refine s.pureAfter R h λH1 v r R1 s1 q h1=>?_;split at h1
 case h_2=>exact h1.elim
 rename_i t hi;obtain⟨v',e',o⟩:=R1.own i t hi;refine⟨v',e',by show 2<=XC;rw[X7];decide,λa ha=>?_⟩;have s2:=Zv ha (.tup [v,v']);have R2:=R1.mk0 s2;have lw:∀b,Lf C fp ex b->H1 b≠YC->Lf C (fpu fp i []) (exu ex (fp i)) b:=λb l _=>⟨λz=>by
  rcases z.of_u with z|⟨j,_,z⟩
  .exact nomatch z
  .exact l.1 ⟨j,z⟩,λz=>z.elim l.2.1 λz=>l.1 ⟨i,z⟩,l.2.2⟩
 have hn:∀b∈fp i,C.H₀ b=YC:=λb m=>by
  rcases R1.new i b m with z|z
  .exact YZ z.1 hio
  .exact z
 have ow:Own X.K (upd H1 a (.tup [v,v'])) (Lf C (fpu fp i []) (exu ex (fp i))) (.ref a) (.tp [.fz r.data,t]) ([]++(fp i++[])) :=
  .tp Zu (.cons (.fz ((q.wide λb l n=>lw b (l rfl) n).same s2)) (.cons ((o.wide lw).same s2) .nil))
 rw[List.nil_append,Qs]at ow;exact E.rt _ O _ _ _ _ (fp i) (R2.take hi) ow (R1.nd i) hn h1
def Zwq(i:Nat)(e:FE):FS:=wE e λr δ=>match δ[i]? with|some (YB t)=>.rt (.tp [.fz r.data,t]) (δ.set i YC)|_=>.bad
theorem Z0c(hp:∀δ r δ',fa δ=YB (r,δ')->δ'=δ)(h:MS X io st (Z9i i (o2 fa))):MS X io st (oS (Zwq i fa)):=h.weak λD δ h=>by
 unfold oS Zwq wE at h;split at h
 case h_2=>exact h.elim
 rename_i r δ' q;have ed:=hp _ _ _ q;subst ed;refine⟨r,_,q,?_⟩;dsimp only at h|-
 split at h
 .exact h
 .exact h.elim
end
section
variable {X:Cx}{io:List Nat}{x:Str}{pos:Pos}
theorem Z28{n:Int}(hg:Gl X x)(hm:∃t,X.mg x=YB (.int n t))(hdb:(x==("__debug__" : Str))=YF:=by decide):ME X io YD YD (.Name x pos) (mC (.int n)):=by
 obtain⟨t,h⟩:=hm;exact Z6z hg h hdb
end
variable {G:Xd}
section
variable {X:Cx}
def Yfa:R2:=λx y H Q=>∃a b ns ms,x= .ref a/\y= .ref b/\H a=YB (.tup (ns.map V.int))/\H b=YB (.tup (ms.map V.int))/\Q (.bl (ltI ns ms)) H
theorem Z63(hu:X.A.units+64<Vh):OpR X (QH .Lt) Yfa:=by
 intro pins s O H x y v u Q I rx ry h;obtain⟨a,b,ns,ms,rfl,rfl,ha,hb,q⟩:=h;cases rx;cases ry;obtain⟨its,r1,p1,_⟩:=I.tuple (.inl (.inl ha));obtain⟨its',r2,p2,_⟩:=I.tuple (.inl (.inl hb));obtain⟨⟨cls,dd,data,sl⟩,hl,hc,n,hd⟩:=p1;obtain⟨⟨cls2,dd2,data2,sl2⟩,hl2,hc2,n2,hd2⟩:=p2;simp only at hc hd hc2 hd2;subst hc hd hc2 hd2;exact richCompare_meets_room (op:=.Lt) ⟨_,hl,rfl⟩ ⟨_,hl2,rfl⟩ F.slot_tuple_lt F.entry_tuple_lt (F.args_tuple_lt_2 _ _) (Zpj a b its.toArray its'.toArray n n2 dd dd2 sl sl2 (Zif r1) (Zif r2))
  ⟨hl,hl2,show Value.bool (ltI ns ms)≠Xe.notImplemented/\_ from⟨(λx=>nomatch x),⟨.bl (ltI ns ms),H,I,rfl,q⟩⟩⟩ (by omega)
def Z7f:Xa->Xa->Option Xa:=λd e=>match d,e with
 | .tuple ds,.tuple es=>(Zgq ds).bind λns=>(Zgq es).bind λms=>YB (.bool (ltI ns ms))
 | _,_=>YC
def Yg3:Xa->Xa->(Xa->Prop)->Prop:=λd e k=>∃r,Z7f d e=YB r/\k r
theorem Ybu:ByS Z7f Yg3:=λ_ _ r _ h hk=>⟨r,h,hk⟩
theorem Zrv{H:Hp}{L:YG->Prop}{v:V}{ns:List Int}(h:Da G H L v (.tuple (ns.map Xw))):∃a,v= .ref a/\H a=YB (.tup (ns.map V.int)):=by
 generalize e:VN (ns.map Xw)=d at h;cases h with
 | tup e1 r=>
  cases e;exact⟨_,rfl,r.int_inv▸e1⟩
 | _=>cases e
theorem Z6m:P2s G Yfa Yg3:=λH L x y d e k Q hx hy h kk=>by
 obtain⟨r,h,hk⟩:=h;unfold Z7f at h;split at h
 case h_2=>cases h
 obtain⟨ns,h1,h⟩:=bs h;obtain⟨ms,h2,h⟩:=bs h;cases h;rw[Zdp h1]at hx;rw[Zdp h2]at hy;obtain⟨a,rfl,ha⟩:=Zrv hx;obtain⟨b,rfl,hb⟩:=Zrv hy;exact⟨a,b,ns,ms,rfl,rfl,ha,hb,kk _ _ (.bl _) hk⟩
end
end L2
namespace L2
open PySem PySem.Spec PyProof.Rows PySem.W
theorem Zc5{lt:Nat->Nat->Bool}{f:α->KasT β}(t:KasT α):kEv lt (t.bind f)=kEv lt (f (kEv lt t)):=by
 induction t with
 | ret a=>rfl
 | ask i j k ih=>exact ih _
structure Tot(lt:Nat->Nat->Bool)(n:Nat):Prop where
 tr:∀i j k,i<n->j<n->k<n->lt i j=YD->lt j k=YD->lt i k=YD
 tot:∀i j,i<n->j<n->i≠j->lt i j=YF->lt j i=YD
 asy:∀i j,i<n->j<n->lt i j=YD->lt j i=YF
section
variable {lt:Nat->Nat->Bool}{n:Nat}
abbrev gD(p:Array Nat)(i:Nat):Nat:=p.getD i 0
theorem kP.size{p:Array Nat}(h:kP n p):p.size=n:=by rw[<-Xv,List.Perm.length_eq h,Xr]
theorem Zls{p:Array Nat}(h:i<p.size):p[i]? =YB (gD p i):=by rw[Q0 h];simp[gD,Array.getD,h]
theorem Zxi{p q:Array Nat}(h:p[i]? =q[j]?):gD p i=gD q j:=by
 show p.getD i 0=q.getD j 0;rw[V7,V7,h]
theorem kP.blw{p:Array Nat}(h:kP n p)(hi:i<n):gD p i<n:=h.at (Nat.lt_of_le_of_lt (Qw _) hi) i
theorem kP.ne{p:Array Nat}(h:kP n p)(hi:i<j)(hj:j<n):gD p i≠gD p j:=λe=>by
 have nd:p.toList.Nodup:=(List.Perm.nodup_iff h).mpr List.nodup_range;have sz:=h.size;have a:=Zls (p:=p) (i:=i) (by omega);have b:=Zls (p:=p) (i:=j) (by omega);rw[<-Qd]at a b;obtain⟨a1,a2⟩:=Xk.mp a;obtain⟨b1,b2⟩:=Xk.mp b;exact BR.mp nd i j a1 b1 hi (by rw[a2,b2,e])
def Ri(lt:Nat->Nat->Bool)(p:Array Nat)(m:Nat):Prop:=∀i j,i<j->j<m->lt (gD p i) (gD p j)=YD
def Fa(lt:Nat->Nat->Bool)(p:Array Nat)(m:Nat):Prop:=∀i j,i<j->j<m->lt (gD p j) (gD p i)=YD
variable (T:Tot lt n)
include T
theorem Zys{p:Array Nat}(h:kP n p)(f:Nat):∀m,1<=m->m+f<=n->Ri lt p m->Ri lt p (kEv lt (kas_asc p f m))/\m<=kEv lt (kas_asc p f m)/\kEv lt (kas_asc p f m)<=m+f/\(kEv lt (kas_asc p f m)<m+f->lt (gD p (kEv lt (kas_asc p f m))) (gD p (kEv lt (kas_asc p f m)-1))=YD):=by
 induction f with
 | zero=>exact λm _ _ r=>⟨r,Xy _,Xy _,λz=>YZ z (Q3 _)⟩
 | succ f ih=>
  intro m h1 hn r;show _/\_;rw[kas_asc,kEv];cases c:lt (p.getD m 0) (p.getD (m-1) 0)with
  | true=>
   rw[YM rfl,kEv];exact⟨r,Xy _,Vd _ _,λ_=>c⟩
  | false=>
   rw[YQ Xx];have up:lt (gD p (m-1)) (gD p m)=YD:=T.tot _ _ (h.blw (by omega)) (h.blw (by omega)) (h.ne (by omega) (by omega)).symm c;have r2:Ri lt p (m+1):=λi j hij hj=>by
    rcases Bh j m with q|q
    .exact r i j hij q
    .have:j=m:=by omega
     subst this;rcases Bh i (j-1)with q2|q2
     .exact T.tr _ _ _ (h.blw (by omega)) (h.blw (by omega)) (h.blw (by omega)) (r i (j-1) q2 (by omega)) up
     .have:i=j-1:=by omega
      subst this;exact up
   obtain⟨a,b,c,d⟩:=ih (m+1) (by omega) (by omega) r2;exact⟨a,by omega,by omega,λz=>d (by omega)⟩
theorem Z4k{p:Array Nat}(h:kP n p)(f:Nat):∀m,1<=m->m+f<=n->Fa lt p m->∃m',kEv lt (kas_desc f p m 0)=(p,m',0)/\Fa lt p m'/\m<=m'/\m'<=m+f:=by
 induction f with
 | zero=>exact λm _ _ r=>⟨m,rfl,r,Xy _,Xy _⟩
 | succ f ih=>
  intro m h1 hn r;rw[kas_desc,kEv];cases c:lt (p.getD m 0) (p.getD (m-1) 0)with
  | true=>
   rw[YM rfl,YQ (Q3 _)];have r2:Fa lt p (m+1):=λi j hij hj=>by
    rcases Bh j m with q|q
    .exact r i j hij q
    .have:j=m:=by omega
     subst this;rcases Bh i (j-1)with q2|q2
     .exact T.tr _ _ _ (h.blw (by omega)) (h.blw (by omega)) (h.blw (by omega)) c (r i (j-1) q2 (by omega))
     .have:i=j-1:=by omega
      subst this;exact c
   obtain⟨m',e,a,b,d⟩:=ih (m+1) (by omega) (by omega) r2;exact⟨m',e,a,by omega,by omega⟩
  | false=>
   rw[YQ Xx,kEv];have up:lt (p.getD (m-1) 0) (p.getD m 0)=YD:=T.tot _ _ (h.blw (by omega)) (h.blw (by omega)) (h.ne (by omega) (by omega)).symm c;rw[up,YM rfl,kEv];exact⟨m,rfl,r,Xy _,Vd _ _⟩
theorem Zwp{p:Array Nat}(h:kP n p)(h0:0<n):∃m p',kEv lt (kas_count n p)=(m,p')/\kP n p'/\Ri lt p' m/\1<=m/\m<=n:=by
 rw[kas_count,Zc5];obtain⟨a,b,c,d⟩:=Zys T h (n-1) 1 (Xy _) (by omega) λi j _ _=>by omega
 generalize kEv lt (kas_asc p (n-1) 1)=m at a b c d
 by_cases e:m=n
 .rw[YM (by rw[e];exact beq_self_eq_true _),kEv]
  exact⟨m,p,rfl,h,a,b,by omega⟩
 rw[YQ (λz=>e (ZC.mp z))]
 by_cases m1:m>1
 .rw[YM m1,kEv,a 0 (m-1) (by omega) (by omega),YM rfl,kEv]
  exact⟨m,p,rfl,h,a,b,by omega⟩
 rw[YQ m1];have em:m=1:=by omega
 subst em;have lt1:=d (by omega);rw[kas_descPart,Zc5];obtain⟨m',e2,f2,b2,d2⟩:=Z4k T h (n-(1+1)) (1+1) (by omega) (by omega) λi j hij hj=>by
  have:i=0:=by omega
  have:j=1:=by omega
  subst i j;exact lt1
 rw[e2,YQ (Q3 _),kas_tail3,Zc5,kEv];have kr:kP n (kas_rev p 0 m'):=h.rev _ _;have rr:Ri lt (kas_rev p 0 m') m':=λi j hij hj=>by
  have ge:∀k,k<m'->gD (kas_rev p 0 m') k=gD p (m'-1-k):=λk hk=>Zxi (by
   have:=getElem?_mirror_all (xs:=p) (i:=0) (j:=m') (by rw[h.size];omega) k;rw[YM ⟨Qw _,hk⟩,V1]at this;exact this)
  rw[ge i (by omega),ge j hj];exact f2 _ _ (by omega) (by omega)
 obtain⟨a,b,c,_⟩:=Zys T kr (n-m') m' (by omega) (by omega) rr;have n2:2<=n:=by omega
 have:m'<=n:=by omega
 refine⟨_,_,rfl,kr,a,?_,?_⟩
 .exact QM (by omega) b
 .exact QM c (by omega)
theorem Zwx{p:Array Nat}(h:kP n p){k:Nat}(hk:k<n)(f:Nat):∀l r,l<=r->r<=k->r-l<=f->(∀i,i<l->lt (gD p i) (gD p k)=YD)->(∀i,r<=i->i<k->lt (gD p k) (gD p i)=YD)->Ri lt p k ->
  kEv lt (kas_place p k f l r)<=k/\(∀i,i<kEv lt (kas_place p k f l r)->lt (gD p i) (gD p k)=YD)/\∀i,kEv lt (kas_place p k f l r)<=i->i<k->lt (gD p k) (gD p i)=YD:=by
 induction f with
 | zero=>
  intro l r lr rk z a b R;have:l=r:=by omega
  subst this;exact⟨rk,a,b⟩
 | succ f ih=>
  intro l r lr rk z a b R;rw[kas_place]
  by_cases c:l>=r
  .rw[YM c,kEv]
   exact⟨by omega,a,λi x y=>b i (by omega) y⟩
  rw[YQ c,kEv];have hm:(l+r)/2<k:=by omega
  cases q:lt (p.getD k 0) (p.getD ((l+r)/2) 0)with
  | true=>
   rw[YM rfl];refine ih _ _ (by omega) (by omega) (by omega) a (λi x y=>?_) R
   by_cases e:i=(l+r)/2
   .subst e;exact q
   .exact T.tr _ _ _ (h.blw hk) (h.blw (by omega)) (h.blw (by omega)) q (R _ _ (by omega) y)
  | false=>
   rw[YQ Xx];have up:lt (gD p ((l+r)/2)) (gD p k)=YD:=T.tot _ _ (h.blw hk) (h.blw (by omega)) (h.ne hm hk).symm q;refine ih _ _ (by omega) (by omega) (by omega) (λi x=>?_) b R
   by_cases e:i=(l+r)/2
   .subst e;exact up
   .exact T.tr _ _ _ (h.blw (by omega)) (h.blw (by omega)) (h.blw hk) (R _ _ (by omega) hm) up
theorem Z5l(f:Nat):∀{p:Array Nat} (h:kP n p) (k:Nat),k+f<=n->Ri lt p k->Ri lt (kEv lt (kas_bin f p k)) (k+f):=by
 induction f with
 | zero=>exact λh k _ r=>r
 | succ f ih=>
  intro p h k hn r;rw[kas_bin,Zc5];obtain⟨a,b,c⟩:=Zwx T h (k:=k) (by omega) k 0 k (Qw _) (Xy _) (by omega) (λi z=>YZ z (Q9 _)) (λi x y=>YZ y (by omega)) r;generalize kEv lt (kas_place p k k 0 k)=l at a b c;have ge:∀j,gD (bubble p k (k-l)) j=if j=l then gD p k else if l<j/\j<=k then gD p (j-1)else gD p j:=λj=>by
   have e:=getElem?_bubble (xs:=p) (src:=k) (by rw[h.size];omega) (k-l) (by omega) j;have e0:k-(k-l)=l:=by omega
   rw[e0]at e
   by_cases c1:j=l
   .rw[YM c1]at e|-
    exact Zxi e
   .rw[YQ c1]at e|-
    by_cases c2:l<j/\j<=k
    .rw[YM c2]at e|-
     exact Zxi e
    .rw[YQ c2]at e|-
     exact Zxi e
  have:=ih (h.bub k (k-l)) (k+1) (by omega) λi j hij hj=>?_
  .rw[show k+1+f=k+(f+1) by omega]at this
   exact this
  rw[ge,ge];rcases U7 j l with q|q|q
  .rw[YQ (by omega),YQ (by omega),YQ (by omega),YQ (by omega)]
   exact r i j hij (by omega)
  .rw[YQ (by omega),YQ (by omega),YM q]
   exact b i (by omega)
  .rw[YQ (show¬j=l by omega),YM (show l<j/\j<=k by omega)]
   rcases U7 i l with q2|q2|q2
   .rw[YQ (by omega),YQ (by omega)]
    exact r i (j-1) (by omega) (by omega)
   .rw[YM q2]
    exact c (j-1) (by omega) (by omega)
   .rw[YQ (by omega),YM (by omega)]
    exact r (i-1) (j-1) (by omega) (by omega)
theorem Z3x(h0:0<n):Ri lt (kEv lt (kas_sort n)) n:=by
 rw[kas_sort,Zc5];obtain⟨m,p,e,kp,r,l1,l2⟩:=Zwp T (p:=Ur (Xj n)) (List.Perm.refl _) h0;rw[e]
 by_cases c:m<n
 .rw[YM c]
  have em:max m 1=m:=by omega
  rw[em];have:=Z5l T (n-m) kp m (by omega) r;rw[show m+(n-m)=n by omega]at this;exact this
 .rw[YQ c,kEv]
  have:m=n:=by omega
  rw[this]at r;exact r
theorem Zzy(h0:0<n):(Zux lt n).Pairwise λi j=>lt i j=YD:=by
 have h:kP n (kEv lt (kas_sort n)):=(Zgl h0).ev (P:=kP n);have r:=Z3x T h0;refine BR.mpr λi j hi hj hij=>?_;have sz:=h.size;rw[<-Xv]at sz;have l2:(Zux lt n).length=n:=sz;have ge:∀k (hk:k<(Zux lt n).length),(Zux lt n)[k]=gD (kEv lt (kas_sort n)) k:=λk hk=>by
  have:=Zls (p:=kEv lt (kas_sort n)) (i:=k) (by rw[h.size];omega);rw[<-Qd]at this;exact(Xk.mp this).2
 rw[ge,ge];exact r i j hij (by omega)
end
theorem Z0n{β:Type}{d:α}{lt:Nat->Nat->Bool}{vs:List α}{R:α->α->Prop}(T:Tot lt vs.length)(hR:∀i j,i<vs.length->j<vs.length->lt i j=YD->R (vs.getD i d) (vs.getD j d)):(sLay d lt vs).Pairwise R:=by
 unfold sLay;split
 .rename_i c
  match vs,c with
  | [],_=>exact .nil
  | [a],_=>exact UJ _ _
 .rename_i c
  have pm:=Zdn (lt:=lt) (n:=vs.length) (by omega);have up:=Zzy T (by omega);have h:=List.Pairwise.imp_of_mem (fun{i j} hi hj e=>hR i j (XH.mp (pm.mem_iff.mp hi)) (XH.mp (pm.mem_iff.mp hj)) e) up;exact List.pairwise_map.mpr h
end L2
namespace L2
open PySem PySem.Spec PyProof.Rows
def mt(m:Nat):QK:={ mask:=m,place:=#[],dummies:=#[],finger:=0,led:=YF,moves:=0,plain:=YD }
def adv(m:Nat):Nat->Va->Va
 | 0,p=>p
 | k+1,p=>adv m k ((mt m).advance p)
theorem Zio(m a b:Nat)(p:Va):adv m (a+b) p=adv m b (adv m a p):=by
 induction a generalizing p with
 | zero=>rw[V1];rfl
 | succ a ih=>rw[Nat.succ_add];exact ih _
def pt(m i pb:Nat):Va:=⟨i,Q5 m i-i,i,pb,YC⟩
def stP(m:Nat)(h:Int):Va:=pt m (Bm h%(m+1)) (Bm h)
theorem Zqz(h:Int):Bm h<2^64:=by
 unfold Bm;have:=Int.emod_nonneg h (show(2^64:Int)≠0 by decide);have:=Int.emod_lt_of_pos h (show(0:Int)<2^64 by decide);omega
theorem chunk(m:Nat):∀k j more i pb,k<=more->adv m k ⟨j,more,i,pb,YC⟩=⟨j+k,more-k,i,pb,YC⟩:=by
 intro k
 induction k with
 | zero=>exact λj more i pb _=>rfl
 | succ k ih=>
  intro j more i pb hk;show adv m k (if more>0 then _ else _)=_;rw[YM (by omega)];show adv m k ⟨j+1,more-1,i,pb,YC⟩=_;rw[ih _ _ _ _ (by omega),Nat.sub_sub,Nat.add_comm 1 k,Nat.add_assoc,Nat.add_comm 1 k]
theorem Zik(m i pb:Nat):adv m (Q5 m i-i+1) (pt m i pb)=pt m (Uq m i pb).1 (Uq m i pb).2:=by
 rw[Zio,pt,chunk m _ _ _ _ _ (Xy _),Nat.sub_self];rfl
theorem Zyn(m i:Nat):Q5 m i-i+1<=10/\i<=Q5 m i/\(i<=m->Q5 m i<=m):=by
 unfold Q5;split<;>omega
def lp(m:Nat):Nat->Nat×Nat->Nat×Nat
 | 0,x=>x
 | n+1,x=>lp m n (Uq m x.1 x.2)
theorem Z6y(m a b:Nat)(x:Nat×Nat):lp m (a+b) x=lp m b (lp m a x):=by
 induction a generalizing x with
 | zero=>rw[V1];rfl
 | succ a ih=>rw[Nat.succ_add];exact ih _
theorem Zv7(m:Nat):∀n i pb,∃K,K<=10*n/\adv m K (pt m i pb)=pt m (lp m n (i,pb)).1 (lp m n (i,pb)).2:=by
 intro n
 induction n with
 | zero=>exact λi pb=>⟨0,Xy _,rfl⟩
 | succ n ih=>
  intro i pb;obtain⟨K,hK,e⟩:=ih (Uq m i pb).1 (Uq m i pb).2;have:=(Zyn m i).1;exact⟨Q5 m i-i+1+K,by omega,by rw[Zio,Zik,e];rfl⟩
theorem Yer(m:Nat):∀n i pb,(lp m n (i,pb)).2=pb/32^n:=by
 intro n
 induction n with
 | zero=>exact λi pb=>(Nat.div_one _).symm
 | succ n ih=>
  intro i pb;show(lp m n (_,pb/32)).2=_;rw[ih,Nat.div_div_eq_div_mul,Nat.pow_succ,Nat.mul_comm 32]
theorem Ycf(m n i pb:Nat)(h:i<=m):(lp m n (i,pb)).1<=m:=by
 induction n generalizing i pb with
 | zero=>exact h
 | succ n ih=>exact ih _ _ (V4.mp (Nat.mod_lt _ (U6 _)))
def it(m:Nat):Nat->Nat->Nat
 | 0,x=>x
 | n+1,x=>it m n ((x*5+1)%(m+1))
theorem Zxt(m a b x:Nat):it m (a+b) x=it m b (it m a x):=by
 induction a generalizing x with
 | zero=>rw[V1];rfl
 | succ a ih=>rw[Nat.succ_add];exact ih _
theorem Ycp(m n x:Nat):lp m n (x,0)=(it m n x,0):=by
 induction n generalizing x with
 | zero=>rfl
 | succ n ih=>
  show lp m n ((x*5+1+0/32)%(m+1),0/32)=_;rw[Nat.zero_div,Nat.add_zero];exact ih _
def orb(m:Nat):Nat->Nat->List Nat
 | 0,_=>[]
 | n+1,x=>x::orb m n ((x*5+1)%(m+1))
theorem Z4h{e:Nat}:∀{n x},e∈orb m n x->∃k,k<n/\it m k x=e:=by
 intro n
 induction n with
 | zero=>exact λh=>nomatch h
 | succ n ih=>
  intro x h;rcases Xo.mp h with rfl|h
  .exact⟨0,U6 _,rfl⟩
  .obtain⟨k,hk,e⟩:=ih h
   exact⟨k+1,Nat.succ_lt_succ hk,e⟩
def cyc(m:Nat):Bool:=((Xj (m+1)).all λe=>(orb m (m+1) 0).contains e)&&it m (m+1) 0==0
def Msk(m:Nat):Prop:=m=7\/m=31\/m=127
theorem Z97(h:Msk m):cyc m=YD:=by
 rcases h with rfl|rfl|rfl<;>decide +kernel
theorem cov(h:Msk m){pb e:Nat}(hi:i<=m)(hp:pb<2^64)(he:e<=m):∃n,n<=m+13/\(lp m n (i,pb)).1=e:=by
 have c:=Z97 h;unfold cyc at c;rw[X3,ZC]at c;have f:∀x,x<=m->∃k,k<m+1/\it m k 0=x:=λx hx=>Z4h (List.elem_iff.mp (Vc.mp c.1 x (XH.mpr (Nat.lt_succ_of_le hx))));have e13:lp m 13 (i,pb)=((lp m 13 (i,pb)).1,0):=by
  have:(lp m 13 (i,pb)).2=0:=by
   rw[Yer];exact Nat.div_eq_of_lt (Qm hp (by decide))
  exact Prod.ext rfl this
 obtain⟨a,ha,ea⟩:=f _ (Ycf m 13 i pb hi);obtain⟨b,hb,eb⟩:=f e he;have go:∀n,(lp m (13+n) (i,pb)).1=it m (a+n) 0:=λn=>by rw[Z6y,e13,Ycp,Zxt,ea]
 rcases Bh b a with q|q
 .refine⟨13+(b+(m+1)-a),by omega,?_⟩
  rw[go,show a+(b+(m+1)-a)=m+1+b by omega,Zxt,c.2,eb]
 .refine⟨13+(b-a),by omega,?_⟩
  rw[go,show a+(b-a)=b by omega,eb]
theorem missing:∀(n:Nat) (l:List Nat),l.length<n->∃e,e<n/\e∉l:=by
 intro n
 induction n with
 | zero=>exact λl h=>YZ h (Q9 _)
 | succ n ih=>
  intro l h
  by_cases c:n∈l
  .obtain⟨e,he,m⟩:=ih (l.erase n) (by rw[List.length_erase_of_mem c];have:=List.length_pos_of_mem c;omega)
   exact⟨e,QW he,λz=>m ((List.mem_erase_of_ne (Xp he)).mpr z)⟩
  .exact⟨n,QB _,c⟩
def Rch'(m:Nat)(P:Nat->Prop)(h:Int)(j:Nat):Prop:=∃k,(adv m k (stP m h)).j=j/\∀k',k'<k->P (adv m k' (stP m h)).j
theorem Rch'.mono{P P':Nat->Prop}{h:Int}(hp:∀x,P x->P' x)(r:Rch' m P h j):Rch' m P' h j:=by
 obtain⟨k,a,b⟩:=r;exact⟨k,a,λk' l=>hp _ (b k' l)⟩
theorem Zol{t:QK}(up:Up t.place.toList)(hd:t.dummies=#[])(j:Nat):(∃i,t.slot j= .live i/\t.place.toList[i]? =YB j)\/(t.slot j= .empty/\j∉t.place.toList):=by
 unfold SetTable.slot
 by_cases c:t.place[Qx t.place j]? =YB j
 .refine .inl ⟨_,YM (ZC.mpr c),?_⟩
  rw[Qd];exact c
 .refine .inr ⟨?_,λm=>?_⟩
  .dsimp only
   rw[YQ (λz=>c (ZC.mp z)),hd];rfl
  .obtain⟨i,hi⟩:=Vy m
   obtain⟨_,b1,b2⟩:=Zda up j;rcases U7 i (Qx t.place j)with q|q|q
   .exact Q3 _ (b1 i j q hi)
   .rw[<-q,<-Qd]at c
    exact c hi
   .have hs:=Vm q (Xk.mp hi).1
    have e1:=Xn hs;have:=Zk3 up e1 hi q;have:=b2 _ _ (Xy _) e1;omega
theorem Zmo{t:QK}(up:Up t.place.toList)(hd:t.dummies=#[]){f:Nat->Int}{h:Int}:∀(fuel:Nat) (p:Va),p.dummy=YC->(∃k,k<fuel/\(adv t.mask k p).j∉t.place.toList) ->
  (∃ k,Uo t f h fuel p=YB (.empty (adv t.mask k p).j YC)/\(adv t.mask k p).j∉t.place.toList/\∀k',k'<k->∃i,t.place.toList[i]? =YB (adv t.mask k' p).j/\f i≠h)
  \/∃j i nx,Uo t f h fuel p=YB (.candidate j i nx)/\t.place.toList[i]? =YB j/\f i=h:=by
 intro fuel
 induction fuel with
 | zero=>exact λp _ h=>by obtain⟨k,hk,_⟩:=h;exact YZ hk (Q9 _)
 | succ fuel ih=>
  intro p hp hx;rw[Uo];rcases Zol up hd p.j with⟨i,e,g⟩|⟨e,g⟩
  .rw[e]
   dsimp only
   by_cases c:f i=h
   .rw[YM (ZC.mpr c)]
    exact .inr ⟨_,i,_,rfl,g,c⟩
   .rw[YQ (λz=>c (ZC.mp z))]
    have ad:(t.advance p).dummy=YC:=by
     unfold SetTable.advance;split<;>exact hp
    obtain⟨k,hk,hm⟩:=hx;cases k with
    | zero=>exact YZ (X5 g) hm
    | succ k=>
     rcases ih (t.advance p) ad ⟨k,V2 hk,hm⟩with⟨k2,a1,a2,a3⟩|z
     .refine .inl ⟨k2+1,a1,a2,λk' hk'=>?_⟩
      cases k' with
      | zero=>exact⟨i,g,c⟩
      | succ k'=>exact a3 k' (V2 hk')
     .exact .inr z
  .rw[e]
   dsimp only;rw[hp];exact .inl ⟨0,rfl,g,λk' z=>YZ z (Q9 _)⟩
structure GT(b:Bool)(t:QK)(hs:List Int):Prop where
 led:t.led=b
 pl:t.plain=YD
 du:t.dummies=#[]
 mm:Msk t.mask
 sz:t.place.toList.length=hs.length
 up:Up t.place.toList
 fu:hs.length*5<t.mask*3
 re:∀(i:Nat) h j,hs[i]? =YB h->t.place.toList[i]? =YB j->Rch' t.mask (·∈t.place.toList) h j
section
variable {b:Bool}{t:QK}{hs:List Int}
theorem GT.fits(g:GT b t hs):t.fits hs.length=YD:=by
 unfold SetTable.fits SetTable.fill;have:=g.sz;rw[Xv]at this;have f:=g.fu;rw[g.du,this,beq_self_eq_true,YS (show hs.length+(#[]:Array Nat).size<=t.mask by show hs.length+0<=_;omega)];rfl
theorem GT.way(g:GT b t hs):t.gaveWay=YF:=by
 unfold QK.gaveWay;rcases g.mm with e|e|e<;>rw[e]<;>rfl
theorem GT.ends(g:GT b t hs)(h:Int):∃k,k<10*SetTable.turns t.mask/\(adv t.mask k (stP t.mask h)).j∉t.place.toList:=by
 have f:=g.fu;obtain⟨e,he,hm⟩:=missing (t.mask+1) t.place.toList (by rw[g.sz];omega);obtain⟨n,hn,en⟩:=cov g.mm (i:=Bm h%(t.mask+1)) (V4.mp (Nat.mod_lt _ (U6 _))) (Zqz h) (V4.mp he);obtain⟨K,hK,eK⟩:=Zv7 t.mask n (Bm h%(t.mask+1)) (Bm h);refine⟨K,by unfold SetTable.turns;omega,?_⟩;show(adv t.mask K (pt t.mask _ _)).j∉_;rw[eK];show(lp t.mask n _).1∉_;rw[en];exact hm
theorem GT.new(g:GT b t hs){f:Nat->Int}{h:Int}(hf:∀(i:Nat) x,hs[i]? =YB x->f i=x)(hn:h∉hs):∃j,t.probe f h (t.probeStart h)=YB (.empty j YC)/\j∉t.place.toList/\Rch' t.mask (·∈t.place.toList) h j:=by
 rcases Zmo g.up g.du (f:=f) (h:=h) _ (stP t.mask h) rfl (g.ends h)with⟨k,e,m,p⟩|⟨j,i,nx,e,m,q⟩
 .exact⟨_,e,m,k,rfl,λk' hk=>by obtain⟨i,e,_⟩:=p k' hk;exact X5 e⟩
 .have hi:i<hs.length:=g.sz▸(Xk.mp m).1
  have:=hf i _ (Xn hi);exact YZ (by rw[<-q,this];exact Bl hi) hn
theorem GT.old(g:GT b t hs){f:Nat->Int}{h:Int}(hf:∀(i:Nat) x,hs[i]? =YB x->f i=x)(hn:h∈hs):∃j i nx,t.probe f h (t.probeStart h)=YB (.candidate j i nx)/\hs[i]? =YB h:=by
 rcases Zmo g.up g.du (f:=f) (h:=h) _ (stP t.mask h) rfl (g.ends h)with⟨k,e,m,p⟩|⟨j,i,nx,e,m,q⟩
 .obtain⟨i,hi⟩:=Vy hn
  have hi':i<t.place.toList.length:=g.sz.symm▸(Xk.mp hi).1;have ei:=Xn hi';obtain⟨k0,a0,b0⟩:=g.re i h _ hi ei;exfalso;rcases Bh k k0 with q|q
  .exact m (b0 k q)
  .rcases Bh k0 k with q2|q2
   .obtain⟨i2,e2,n2⟩:=p k0 q2
    rw[a0]at e2;have:i2=i:=by
     rcases U7 i2 i with z|z|z
     .exact YZ (Zk3 g.up e2 ei z) (Q3 _)
     .exact z
     .exact YZ (Zk3 g.up ei e2 z) (Q3 _)
    rw[this]at n2;exact n2 (hf i h hi)
   .have:k=k0:=by omega
    rw[this,a0]at m;exact m (Bl hi')
 .have hi:i<hs.length:=g.sz▸(Xk.mp m).1
  have ei:=Xn hi;exact⟨j,i,nx,e,by rw[ei,<-q,hf i _ ei]⟩
end
theorem Yfn{l:List α}{p:Nat}{x:α}(hp:p<=l.length)(i:Nat):(l.take p++x::l.drop p)[i]? =if i<p then l[i]? else if i=p then YB x else l[i-1]?:=by
 have lt:(l.take p).length=p:=by rw[Ba];omega
 by_cases c:i<p
 .rw[YM c,Vv (by omega),List.getElem?_take_of_lt c]
 .rw[YQ c,JX (by omega),lt]
  by_cases e:i=p
  .rw[YM e,e,Nat.sub_self];rfl
  .rw[YQ e]
   obtain⟨d,rfl⟩:∃d,i=p+d+1:=⟨i-p-1,by omega⟩;rw[show p+d+1-p=d+1 by omega,List.getElem?_cons_succ,List.getElem?_drop];rfl
theorem Z1b{l:List α}{p:Nat}{x y:α}(h:y∈l):y∈l.take p++x::l.drop p:=by
 rw[<-List.take_append_drop p l]at h;rcases Qn.mp h with h|h
 .exact Qj _ h
 .exact Qg _ (.tail _ h)
theorem GT.put{b:Bool}{t:QK}{hs:List Int}(g:GT b t hs){h:Int}(hj:j∉t.place.toList)(hr:Rch' t.mask (·∈t.place.toList) h j) :
  (t.put j).1.led=b/\(t.put j).1.plain=YD/\(t.put j).1.dummies=#[]/\(t.put j).1.mask=t.mask/\(t.put j).2<=hs.length/\(t.put j).1.place.toList.length=hs.length+1/\Up (t.put j).1.place.toList/\
  ∀(i:Nat) h' j',(hs.take (t.put j).2++h::hs.drop (t.put j).2)[i]? =YB h'->(t.put j).1.place.toList[i]? =YB j'->Rch' t.mask (·∈(t.put j).1.place.toList) h' j':=by
 have bo:=(Zda g.up j).1;have sz:t.place.size=hs.length:=by rw[<-g.sz,Xv]
 have ep:(t.put j).1.place.toList=t.place.toList.take (Qx t.place j)++j::t.place.toList.drop (Qx t.place j):=SetTable.toList_insertAt ..;have e2:(t.put j).2=Qx t.place j:=rfl;have nl:Zcw t j:=λz=>hj (X5 (by rw[<-Qd]at z;exact z));refine⟨g.led,g.pl,?_,rfl,by rw[e2];omega,?_,Zyb g.up nl,λi h' j' a c=>?_⟩
 .show(if QK.has t.dummies j=YD then _ else t.dummies)=#[]
  rw[g.du];rfl
 .rw[ep,XX,QC,Ba,Vp,Xv];omega
 .rw[ep]at c|-
  rw[e2,Yfn (by omega)]at a;rw[Yfn (by rw[Xv];exact bo)]at c;have mm:∀x,x∈t.place.toList->x∈t.place.toList.take (Qx t.place j)++j::t.place.toList.drop (Qx t.place j):=λx hx=>Z1b hx;split at a
  .rename_i q
   rw[YM q]at c;exact(g.re i h' j' a c).mono mm
  .rename_i q
   rw[YQ q]at c;split at a
   .rename_i q2
    rw[YM q2]at c;cases a;cases c;exact hr.mono mm
   .rename_i q2
    rw[YQ q2]at c;exact(g.re _ h' j' a c).mono mm
def owns(o:Array (Option Nat))(j k:Nat):Prop:=o[j]? =YB (YB k)
def owned(o:Array (Option Nat))(j:Nat):Prop:=∃k,owns o j k
theorem Zf1{o:Array (Option Nat)}(h:j<o.size):(o.getD j (YB 0)).isNone=YD↔¬owned o j:=by
 have e:o[j]? =YB o[j]:=Q0 h;have d:o.getD j (YB 0)=o[j]:=by rw[Array.getD,dif_pos h];rfl
 rw[d];unfold owned owns;rw[e];cases o[j]with
 | none=>exact⟨λ_ z=>z.elim λk z=>(nomatch z),λ_=>rfl⟩
 | some k=>exact⟨λz=>(nomatch z),λz=>YZ ⟨k,rfl⟩ z⟩
theorem Zoq{f:Nat->Bool}:∀n,match(Xj n).find? f with|some k=>k<n/\f k=YD/\∀x,x<k->f x=YF|none=>∀x,x<n->f x=YF:=by
 intro n;cases e:(Xj n).find? f with
 | none=>
  intro x hx;have:=List.find?_eq_none.mp e x (XH.mpr hx);exact Vf.mpr this
 | some k=>
  have m:=XH.mp (List.mem_of_find?_eq_some e);refine⟨m,List.find?_some e,λx hx=>?_⟩;obtain⟨_,i,hi,ei,a⟩:=List.find?_eq_some_iff_getElem.mp e;rw[List.getElem_range]at ei;subst ei;have:=a x hx;rw[List.getElem_range]at this;exact Bool.not_eq_true' _▸this
theorem Z3z{o:Array (Option Nat)}(hs:o.size=m+1):∀(fuel i pb:Nat),i<=m->(∃n,n<fuel/\¬owned o (lp m n (i,pb)).1) ->
  ∃j,Ud m o fuel i pb=YB j/\j<=m/\¬owned o j/\∃k,(adv m k (pt m i pb)).j=j/\∀k',k'<k->owned o (adv m k' (pt m i pb)).j:=by
 intro fuel
 induction fuel with
 | zero=>exact λi pb _ h=>by obtain⟨n,hn,_⟩:=h;exact YZ hn (Q9 _)
 | succ fuel ih=>
  intro i pb him hx;rw[Ud];have rl:=Zyn m i;have rm:=rl.2.2 him;have at_:∀k,k<=Q5 m i-i->(adv m k (pt m i pb)).j=i+k:=λk hk=>by rw[pt,chunk m k _ _ _ _ hk]
  have ff:=Zoq (f:=λk=>(o.getD (i+k) (YB 0)).isNone) (Q5 m i+1-i);split
  .rename_i k e
   rw[e]at ff;obtain⟨h1,h2,h3⟩:=ff;refine⟨i+k,rfl,by omega,(Zf1 (by omega)).mp h2,k,at_ k (by omega),λk' hk'=>?_⟩;rw[at_ k' (by omega)];exact Vq λz=>by
    have:=(Zf1 (o:=o) (j:=i+k') (by omega)).mpr z;rw[h3 k' hk']at this;cases this
  .rename_i e
   rw[e]at ff;have all:∀k,k<=Q5 m i-i->owned o (i+k):=λk hk=>Vq λz=>by
    have:=(Zf1 (o:=o) (j:=i+k) (by omega)).mpr z;rw[ff k (by omega)]at this;cases this
   obtain⟨n,hn,hm⟩:=hx;cases n with
   | zero=>exact YZ (all 0 (Qw _)) hm
   | succ n=>
    obtain⟨j,e,a1,a2,k,a3,a4⟩:=ih (Uq m i pb).1 (Uq m i pb).2 (V4.mp (Nat.mod_lt _ (U6 _))) ⟨n,V2 hn,hm⟩;refine⟨j,e,a1,a2,Q5 m i-i+1+k,by rw[Zio,Zik,a3],λk' hk'=>?_⟩;rcases Bh k' (Q5 m i-i+1)with q|q
    .rw[at_ k' (by omega)]
     exact all k' (by omega)
    .obtain⟨d,rfl⟩:∃d,k'=Q5 m i-i+1+d:=⟨k'-(Q5 m i-i+1),by omega⟩
     rw[Zio,Zik];exact a4 d (by omega)
structure Lay(m:Nat)(o:Array (Option Nat))(hs:List Int):Prop where
 sz:o.size=m+1
 re:∀j k,owns o j k->∃h,hs[k]? =YB h/\Rch' m (owned o) h j
 ex:∀k,k<hs.length->∃j,owns o j k
 inj:∀j j' k,owns o j k->owns o j' k->j=j'
 few:∃L:List Nat,L.length=hs.length/\∀j,owned o j->j∈L
def Zgs(m:Nat)(acc:Option (Array (Option Nat)×Nat))(h:Int):Option (Array (Option Nat)×Nat):=do
 let(owner,k)<-acc;let j<-Ud m owner (SetTable.turns m) (Bm h%(m+1)) (Bm h)
 pure (owner.setIfInBounds j (YB k),k+1)
theorem Zv8(hm:Msk m){o:Array (Option Nat)}{hs:List Int}(L:Lay m o hs)(hl:hs.length<=m)(h:Int):∃o',Zgs m (YB (o,hs.length)) h=YB (o',(hs++[h]).length)/\Lay m o' (hs++[h]):=by
 obtain⟨F,f1,f2⟩:=L.few;obtain⟨e,he,hn⟩:=missing (m+1) F (by omega);obtain⟨n,n1,n2⟩:=cov hm (i:=Bm h%(m+1)) (V4.mp (Nat.mod_lt _ (U6 _))) (Zqz h) (V4.mp he);obtain⟨j,ej,jm,jo,k,k1,k2⟩:=Z3z L.sz (SetTable.turns m) (Bm h%(m+1)) (Bm h) (V4.mp (Nat.mod_lt _ (U6 _))) ⟨n,by unfold SetTable.turns;omega,by rw[n2];exact λz=>hn (f2 e z)⟩;have js:j<o.size:=by rw[L.sz];omega
 have gs:∀x y,owns (o.setIfInBounds j (YB hs.length)) x y↔(x=j/\y=hs.length)\/(x≠j/\owns o x y):=λx y=>by
  unfold owns;rw[Array.getElem?_setIfInBounds]
  by_cases c:j=x
  .subst c
   rw[YM rfl,YM js];exact⟨λz=>.inl ⟨rfl,by cases z;rfl⟩,λz=>z.elim (λq=>by rw[q.2]) λq=>YZ rfl q.1⟩
  .rw[YQ c]
   exact⟨λz=>.inr ⟨Vu c,z⟩,λz=>z.elim (λq=>YZ q.1.symm c) λq=>q.2⟩
 have ow:∀x,owned o x->owned (o.setIfInBounds j (YB hs.length)) x:=λx hx=>by
  obtain⟨y,hy⟩:=hx;exact⟨y,(gs x y).mpr (.inr ⟨λz=>jo (z▸⟨y,hy⟩),hy⟩)⟩
 refine⟨o.setIfInBounds j (YB hs.length),?_,?_,?_,?_,?_,?_⟩
 .unfold Zgs
  show(Ud m o _ _ _).bind _=_;rw[ej,XX];rfl
 .rw[Array.size_setIfInBounds];exact L.sz
 .intro x y q
  rcases(gs x y).mp q with⟨rfl,rfl⟩|⟨_,q⟩
  .exact⟨h,by rw[JX (Xy _),Nat.sub_self];rfl,k,k1,λk' hk'=>ow _ (k2 k' hk')⟩
  .obtain⟨h',e,r⟩:=L.re x y q
   exact⟨h',by rw[Vv (Xk.mp e).1];exact e,r.mono ow⟩
 .intro y hy
  rw[XX]at hy
  by_cases c:y=hs.length
  .exact⟨j,(gs j y).mpr (.inl ⟨rfl,c⟩)⟩
  .obtain⟨x,hx⟩:=L.ex y (by have:y<hs.length+1:=hy;omega)
   exact⟨x,(gs x y).mpr (.inr ⟨λz=>jo (z▸⟨y,hx⟩),hx⟩)⟩
 .intro x x' y q q'
  have lt:∀x,owns o x y->y<hs.length:=λx hx=>by
   obtain⟨h',e,_⟩:=L.re x y hx;exact(Xk.mp e).1
  rcases(gs x y).mp q with⟨e1,e2⟩|⟨_,q1⟩
  .rcases(gs x' y).mp q' with⟨e3,_⟩|⟨_,q2⟩
   .rw[e1,e3]
   .exact YZ (e2▸lt _ q2) (Q3 _)
  .rcases(gs x' y).mp q' with⟨_,e4⟩|⟨_,q2⟩
   .exact YZ (e4▸lt _ q1) (Q3 _)
   .exact L.inj x x' y q1 q2
 .refine⟨j::F,by rw[QC,XX,f1];rfl,λx hx=>?_⟩
  obtain⟨y,hy⟩:=hx;rcases(gs x y).mp hy with⟨rfl,_⟩|⟨_,q⟩
  .exact .head _
  .exact .tail _ (f2 x ⟨y,q⟩)
theorem Zwa(hm:Msk m)(l:List Int):∀(hs:List Int) (o:Array (Option Nat)),Lay m o hs->hs.length+l.length<=m->∃o',l.foldl (Zgs m) (YB (o,hs.length))=YB (o',(hs++l).length)/\Lay m o' (hs++l):=by
 induction l with
 | nil=>exact λhs o L _=>⟨o,by rw[Qs];rfl,by rw[Qs];exact L⟩
 | cons h l ih=>
  intro hs o L hl;rw[QC]at hl;obtain⟨o',e,L'⟩:=Zv8 hm L (by omega) h;obtain⟨o2,e2,L2⟩:=ih (hs++[h]) o' L' (by rw[XX];show hs.length+1+_<=m;omega);rw[QV]at e2 L2;exact⟨o2,by rw[List.foldl_cons,e];exact e2,L2⟩
theorem Zri(hm:Msk m){hs:List Int}(hl:hs.length<=m):∃o,SetTable.layClean m hs.toArray=YB o/\Lay m o hs:=by
 have no:∀j k,¬owns (Array.replicate (m+1) YC) j k:=λj k h=>by
  unfold owns at h;rw[Array.getElem?_replicate]at h;split at h<;>cases h
 obtain⟨o,e,L⟩:=Zwa hm hs [] (Array.replicate (m+1) YC) ⟨Array.size_replicate,λj k h=>YZ h (no j k),λk hk=>YZ hk (Q9 _),λj j' k h=>YZ h (no j k),[],rfl,λj h=>h.elim λk h=>YZ h (no j k)⟩ (by rw[Vg];omega);refine⟨o,?_,L⟩;unfold SetTable.layClean;rw[List.foldl_toArray];have:hs.foldl (Zgs m) (YB (Array.replicate (m+1) YC,0))=YB (o,([]++hs).length):=e;show Option.map _ (hs.foldl (Zgs m) (YB (Array.replicate (m+1) YC,0)))=_;rw[this];rfl
def Zgy(m:Nat)(o:Array (Option Nat)):List (Nat×Nat):=(Xj (m+1)).filterMap λj=>(o.getD j YC).map (j,·)
theorem Zb6{o:Array (Option Nat)}(hs:o.size=m+1){q:Nat×Nat}:q∈Zgy m o↔owns o q.1 q.2:=by
 unfold Zgy owns;rw[List.mem_filterMap];constructor
 .intro h
  obtain⟨j,hj,e⟩:=h;have hj:=XH.mp hj;obtain⟨k,e1,rfl⟩:=XD.mp e;rw[V7,Q0 (by omega)]at e1;rw[Q0 (by omega)];exact YW YB e1
 .intro h
  have hj:q.1<o.size:=(Array.getElem?_eq_some_iff.mp h).1;refine⟨q.1,XH.mpr (by omega),?_⟩;rw[V7,h];rfl
theorem Z20{o:Array (Option Nat)}{hs:List Int}(L:Lay m o hs):((Zgy m o).map (·.2)).Perm (Xj hs.length):=by
 have up:((Zgy m o).map (·.1)).Pairwise (·<·):=Zk6 _ _;have nd:((Zgy m o).map (·.2)).Nodup:=by
  refine List.pairwise_map.mpr (List.Pairwise.imp_of_mem (fun{a b} ha hb lt e=>?_) (List.pairwise_map.mp up));have h1:=(Zb6 L.sz).mp ha;have h2:=(Zb6 L.sz).mp hb;rw[e]at h1;rw[L.inj _ _ _ h1 h2]at lt;exact Q3 _ lt
 refine(Uk nd List.nodup_range).mpr λk=>?_;rw[XH,XM];constructor
 .intro h
  obtain⟨q,hq,rfl⟩:=h;obtain⟨h,e,_⟩:=L.re _ _ ((Zb6 L.sz).mp hq);exact(Xk.mp e).1
 .intro h
  obtain⟨j,hj⟩:=L.ex k h;exact⟨(j,k),(Zb6 L.sz).mpr hj,rfl⟩
theorem Z23{fi mo:Nat}{b:Bool}(hm:Msk m){hs:List Int}(hl:hs.length*5<m*3):∃t' order,SetTable.laid m fi mo b YD hs.toArray=YB (t',order)/\t'.mask=m/\order.toList.Perm (Xj hs.length)/\GT b t' (order.toList.map λk=>hs.getD k 0):=by
 obtain⟨o,e,L⟩:=Zri hm (hs:=hs) (by omega);have pm:=Z20 L;refine⟨{ mask:=m,place:=((Zgy m o).map (·.1)).toArray,dummies:=#[],finger:=fi,led:=b,moves:=mo,plain:=YD },((Zgy m o).map (·.2)).toArray,?_,rfl,pm,?_⟩
 .unfold SetTable.laid
  rw[e];rfl
 .refine⟨rfl,rfl,rfl,hm,?_,Zk6 _ _,?_,λi h j a c=>?_⟩
  .show((Zgy m o).map (·.1)).length=_
   rw[Xc,Xc,Xc]
  .rw[Xc,pm.length_eq,Xr];exact hl
  .have c:((Zgy m o).map (·.1))[i]? =YB j:=c
   have a:(((Zgy m o).map (·.2)).map λk=>hs.getD k 0)[i]? =YB h:=a;rw[Qk,Xi]at a;rw[Xi]at c;obtain⟨q,hq,rfl⟩:=XD.mp c;rw[hq]at a;obtain⟨h',e1,r⟩:=L.re _ _ ((Zb6 L.sz).mp (X5 hq));have:h=h':=by
    cases a;show hs.getD q.2 0=h';rw[Xm,e1];rfl
   rw[this];refine r.mono λx hx=>?_;obtain⟨y,hy⟩:=hx;exact XM.mpr ⟨(x,y),(Zb6 L.sz).mpr hy,rfl⟩
def Ent(U:YG->Prop)(κ:YG->List Int)(e:Int×Xe):Prop:=∃a,e=(hT (κ a),Xz a)/\U a
def kOf(κ:YG->List Int)(e:Int×Xe):List Int:=match e.2 with| .ref a=>κ a|_=>[]
def HI(D:List (List Int)):Prop:=∀k,k∈D->∀k',k'∈D->hT k=hT k'->k=k'
def TuS(U:YG->Prop)(κ:YG->List Int)(b:Bool)(h:YH)(S:YG)(ks:List (List Int)):Prop :=
 ∃o es ep t,h.get? S=YB o/\o.ExactSet/\o.data= .set es ep t/\(∀e,e∈es.toList->Ent U κ e)/\GT b t (es.toList.map (·.1))/\es.toList.map (kOf κ)=ks
theorem Z9v{f:α->β}{l:List α}(h:(l.map f).Nodup){x y:α}(hx:x∈l)(hy:y∈l)(e:f x=f y):x=y:=by
 induction l with
 | nil=>cases hx
 | cons a l ih=>
  obtain⟨h1,h2⟩:=Qq.mp h;rcases Xo.mp hx with rfl|mx
  .rcases Xo.mp hy with rfl|my
   .rfl
   .exact YZ (e▸XM.mpr ⟨y,my,rfl⟩) h1
  .rcases Xo.mp hy with rfl|my
   .exact YZ (e▸XM.mpr ⟨x,mx,rfl⟩) h1
   .exact ih h2 mx my
theorem Yco{es:Array α}(d:α)(l:List Nat)(h:∀k,k∈l->k<es.size):l.filterMap (λk=>es[k]?)=l.map λk=>es.toList.getD k d:=by
 induction l with
 | nil=>rfl
 | cons a l ih=>
  have ha:=h a (.head _);rw[QQ,Q0 ha,X4,ih λk m=>h k (.tail _ m),Xm,Qd,Q0 ha];rfl
section
variable {b:Bool}
theorem TuS.fits{U:YG->Prop}{κ:YG->List Int}{es:Array (Int×Xe)}{t:QK}(g:GT b t (es.toList.map (·.1))):t.fits es.size=YD:=by
 have:=g.fits
 rwa[Xc,Xv]at this
theorem Zms{t:QK}{es:Array (Int×Xe)}{h:Int}{m:Option QK.Met}(e:t.probe (λi=>(es[i]?.map (·.1)).getD 0) h (t.probeStart h)=m)(f:Nat->Int)(hf:∀i,f i=(es[i]?.map (·.1)).getD 0):t.probe f h ((YC:Option Va).getD (t.probeStart h))=m:=by
 rw[funext hf];exact e
theorem Zuh{es:Array (Int×Xe)}:∀(i:Nat) x,(es.toList.map (·.1))[i]? =YB x->(es[i]?.map (·.1)).getD 0=x:=λi x h=>by
 rw[Xi,Qd]at h;rw[h];rfl
theorem Z9u{es:Array (Int×Xe)}{t:QK}{x:Xe}{h:Int}{Q:SetFound->Xg->Prop}(ho:s.heap.get? S=YB o)(hd:o.data= .set es ep t)(g:GT b t (es.toList.map (·.1)))
  (hp:t.probe (λi=>(es[i]?.map (·.1)).getD 0) h (t.probeStart h)=YB (.empty j YC)) (q:Q (.free j YF) s):XJ (X8 prog w) A (setSearch S x h YD) Q E s:=by
 unfold setSearch setSearchFrom;refine Xb (JH ho hd (TuS.fits (U:=λ_=>True) (κ:=λ_=>[]) g) ?_);dsimp only;rw[g.way];simp only[XR,if_false];rw[Zms hp]
 .exact Xl q
 .exact λi=>rfl
theorem Z5g{U:YG->Prop}{κ:YG->List Int}{es:Array (Int×Xe)}{t:QK}{nx:Va}{Q:SetFound->Xg->Prop}(hu:A.units<Vh)(ho:s.heap.get? S=YB o)(hd:o.data= .set es ep t)(g:GT b t (es.toList.map (·.1)))(he:∀e,e∈es.toList->Ent U κ e)
  (hG:∀a,U a->IK prog w s.heap (κ a) a) (ha:U a)  (hi:es[i]? =YB (hT (κ a'),Xz a')) (ua:U a') (ek:κ a'=κ a) (hp:t.probe (λi=>(es[i]?.map (·.1)).getD 0) (hT (κ a)) (t.probeStart (hT (κ a)))=YB (.candidate j i nx)) (q:Q (.there YC) s):XJ (X8 prog w) A (setSearch S (.ref a) (hT (κ a)) YD) Q E s:=by
 have hf:=TuS.fits (U:=λ_=>True) (κ:=λ_=>[]) g;unfold setSearch setSearchFrom;refine Xb (JH ho hd hf ?_);dsimp only;rw[g.way];simp only[XR,if_false];rw[Zms hp]
 rotate_left
 .exact λi=>rfl
 dsimp only;have fin:XJ (X8 prog w) A (holding [Xz a'] (eqBool (.ref a') (.ref a))) (λv s'=>v=YD/\s'=s) E s:=JK (wpAny_eqBool_tuple hu (hG a' ua) (hG a ha) ⟨YS ek,rfl⟩);cases hb:t.led with
 | true=>
  simp only[Vo,XR,if_false];rw[hi];refine Xb (thn fin λv s' z=>?_);obtain⟨rfl,rfl⟩:=z;refine Xb (JH ho hd hf ?_);dsimp only;rw[YM (show(YD&&YD)=YD from rfl)];exact Xl q
 | false=>
  simp only[Bool.not_false,if_true];refine Xb (Zxh (hG a ha) (λy hy=>?_) ?_)
  .obtain⟨e,he1,rfl⟩:=XM.mp hy
   have he':e∈es.toList:=by
    rw[Array.toList_filter]at he1;exact(JQ.mp he1).1
   obtain⟨b,eb,ub⟩:=he e he';exact⟨b,κ b,by rw[eb],hG b ub⟩
  .simp only[XR,if_false]
   rw[hi];refine Xb (thn fin λv s' z=>?_);obtain⟨rfl,rfl⟩:=z;refine Xb (JH ho hd hf ?_);dsimp only;rw[YM (show(YD&&YD)=YD from rfl)];exact Xl q
theorem Zs2{es es':Array (Int×Xe)}{t t':QK}(ho:h.get? S=YB o)(hd:o.data= .set es ep t):(h.update S (Obj.putSet es' t')).get? S=YB { o with data:=.set es' (ep+1) t' }:=by
 have:=Heap.get?_update_self (Obj.putSet es' t') ho (by rw[putSet_of _ _ hd];rfl);rw[putSet_of _ _ hd]at this;exact this
theorem Z0i{es:Array (Int×Xe)}{n:Nat}{t:QK}{Q:Unit->Xg->Prop}(ho:s.heap.get? S=YB o)(hd:o.data= .set es ep t)(hf:t.fits es.size=YD)(hled:t.led=b)(hpl:t.plain=YD)(hm:Msk m)(hn:SetTable.sizeAbove n=m+1)(hl:es.size*5<m*3)
  (q:∀es' t',es'.toList.Perm es.toList->GT b t' (es'.toList.map (·.1))->Q () { s with heap:=s.heap.update S (Obj.putSet es' t') }):XJ (X8 prog w) A (setRelay S n) Q E s:=by
 have hml:m+1<=128:=by rcases hm with e|e|e<;>rw[e]<;>decide
 unfold setRelay;refine Xb (JH ho hd hf ?_);dsimp only;rw[hn,YQ (by rw[X7];omega)];have eh:es.map (·.1)=(es.toList.map (·.1)).toArray:=by
  apply Array.toList_inj.mp;rw[Array.toList_map]
 obtain⟨t',order,e,em,pm,g⟩:=Z23 (fi:=t.finger) (mo:=t.movedTo (m+1-1)) (b:=b) hm (hs:=es.toList.map (·.1)) (by rw[Xc,Xv];exact hl);have er:t.relaid (es.map (·.1)) n=YB (t',order):=by
  unfold SetTable.relaid;rw[hn,eh,hled,hpl];exact e
 rw[er];have lt:∀k,k∈order.toList->k<es.size:=λk hk=>by
  have:=XH.mp (pm.mem_iff.mp hk)
  rwa[Xc,Xv]at this
 have e2:(order.filterMap (λk=>es[k]?)).toList=order.toList.map λk=>es.toList.getD k (0,QJ):=by rw[Array.toList_filterMap];exact Yco _ _ lt
 have p2:(order.filterMap (λk=>es[k]?)).toList.Perm es.toList:=by
  rw[Array.toList_filterMap];have:=pm.filterMap (λk=>es[k]?);rw[Xc,Xv,filterMap_getElem?_range es]at this;exact this
 have sz:(order.filterMap (λk=>es[k]?)).size=es.size:=by rw[<-Xv,p2.length_eq,Xv]
 refine Xb ?_;show XJ _ _ (if((order.filterMap (λk=>es[k]?)).size !=es.size)=YD then _ else _) _ _ _;rw[sz,bne_self_eq_false];simp only[XR,if_false];refine Xl (wpAny_storeSet_of ho hd (q _ t' p2 ?_) (by rw[sz,X7];omega));rw[e2,Qk];have:(order.toList.map λk=>(es.toList.map (·.1)).getD k 0)=order.toList.map ((λe:Int×Xe=>e.1)∘ λk=>es.toList.getD k (0,QJ)):=by
  refine XS λk _=>?_;show(es.toList.map (·.1)).getD k 0=(es.toList.getD k (0,QJ)).1;rw[Xm,Xm,Xi];cases es.toList[k]? <;>rfl
 rw[<-this];exact g
theorem Ych{U:YG->Prop}{κ:YG->List Int}{D:List (List Int)}{ks:List (List Int)}{Q:Bool->Xg->Prop}(hu:A.units<Vh)(hD:HI D)(hS:TuS U κ b s.heap S ks)(hG:∀a,U a->IK prog w s.heap (κ a) a)(hUD:∀a,U a->κ a∈D)(ha:U a)(hl:ks.length<64)
  (q:∀v h' tk ks',Bb S s.heap h'->TuS U κ b h' S ks'->(κ a∈ks->ks'=ks)->(κ a∉ks->ks'.Perm (ks++[κ a]))->Q v { s with heap:=h',toks:=tk }):XJ (X8 prog w) A (setAdd S (.ref a)) Q E s:=by
 have hS0:=hS;obtain⟨o,es,ep,t,ho,hex,hd,he,g,rfl⟩:=hS;rw[Xc,Xv]at hl;have hf:=TuS.fits (U:=U) (κ:=κ) g;have iff:hT (κ a)∈es.toList.map (·.1)↔κ a∈es.toList.map (kOf κ):=by
  constructor
  .intro m
   obtain⟨e,me,ee⟩:=XM.mp m;obtain⟨b,rfl,ub⟩:=he e me;refine XM.mpr ⟨_,me,?_⟩;exact hD _ (hUD b ub) _ (hUD a ha) ee
  .intro m
   obtain⟨e,me,ee⟩:=XM.mp m;obtain⟨b,rfl,ub⟩:=he e me;have ee:κ b=κ a:=ee;exact XM.mpr ⟨_,me,by rw[ee]⟩
 unfold setAdd;refine JK (Xb (wpAny_pyHash_tuple hu (hG a ha) ?_));show XJ _ _ (setAddHashed S (.ref a) (hT (κ a))) Q E _;unfold setAddHashed setAddHashedIn;refine JK (Xb (JH ho hd hf ?_));dsimp only;rw[show byScan (.ref a) es=YF from rfl];simp only[XR,if_false]
 by_cases c:hT (κ a)∈es.toList.map (·.1)
 .obtain⟨j,i,nx,hp,hi⟩:=g.old (f:=λi=>(es[i]?.map (·.1)).getD 0) Zuh c
  rw[Xi,Qd]at hi;obtain⟨e,ei,eh⟩:=XD.mp hi;obtain⟨a',rfl,ua⟩:=he e (by rw[<-Qd]at ei;exact X5 ei);refine Xb (Z5g (s:={ s with toks:=s.toks+((κ a).length+1) }) hu ho hd g he hG ha ei ua (hD _ (hUD _ ua) _ (hUD _ ha) eh) hp ?_);exact Xl (q YF s.heap _ _ (Heap.SameBut.refl ..) hS0 (λ_=>rfl) λz=>YZ (iff.mp c) z)
 .obtain⟨j,hp,hj,hr⟩:=g.new (f:=λi=>(es[i]?.map (·.1)).getD 0) Zuh c
  refine Xb (Z9u (s:={ s with toks:=s.toks+((κ a).length+1) }) ho hd g hp ?_);dsimp only;refine Xb (JH ho hd hf ?_);dsimp only;obtain⟨b1,b2,b3,b4,b5,b6,b7,b8⟩:=g.put hj hr;obtain⟨t1,p1,hput⟩:∃t1 p1,t.put j=(t1,p1):=⟨_,_,rfl⟩;rw[hput]at b1 b2 b3 b4 b5 b6 b7 b8;dsimp only at b1 b2 b3 b4 b5 b6 b7 b8;rw[Xc]at b5 b6;rw[Xv (xs:=es)]at b5 b6;rw[hput];dsimp only;rw[b2,YM rfl];refine Xb (Zrm (s:={ s with toks:=s.toks+((κ a).length+1) }) (hG a ha) ?_);rw[YM rfl];have sz:(JS es p1 (hT (κ a),Xz a)).toList=es.toList.take p1++(hT (κ a),Xz a)::es.toList.drop p1:=Zoi es _ _ b5;have szl:(JS es p1 (hT (κ a),Xz a)).size=es.size+1:=by
   rw[<-Xv,sz,XX,QC,Ba,Vp,Xv];omega
  have hh:(JS es p1 (hT (κ a),Xz a)).toList.map (·.1)=(es.toList.map (·.1)).take p1++hT (κ a)::(es.toList.map (·.1)).drop p1:=by rw[sz,Qh,X4,List.map_take,List.map_drop]
  have he1:∀e,e∈(JS es p1 (hT (κ a),Xz a)).toList->Ent U κ e:=λe m=>by
   rw[sz]at m;rcases Qn.mp m with m|m
   .exact he e (List.mem_of_mem_take m)
   .rcases Xo.mp m with rfl|m
    .exact⟨a,rfl,ha⟩
    .exact he e (List.mem_of_mem_drop m)
  have hk1:((JS es p1 (hT (κ a),Xz a)).toList.map (kOf κ)).Perm (es.toList.map (kOf κ)++[κ a]):=by
   rw[sz,Qh,X4];refine(List.perm_middle).trans ?_;rw[<-Qh,List.take_append_drop];exact List.perm_append_comm (l₁:=[κ a])
  have nk:κ a∉es.toList.map (kOf κ):=λz=>c (iff.mpr z);have fl:t1.fill=es.size+1:=by
   unfold SetTable.fill;rw[b3,<-Xv,b6];rfl
  have fu:=g.fu;rw[Xc,Xv]at fu;have hf1:t1.fits (JS es p1 (hT (κ a),Xz a)).size=YD:=by
   unfold SetTable.fits;rw[fl,szl,<-Xv,b6,beq_self_eq_true,b4,YS (by rcases g.mm with e|e|e<;>rw[e]at fu|- <;>omega)];rfl
  refine Xb (wpAny_storeSet_of ho hd ?_ (by rw[szl,X7];omega));have hg:=Zs2 (es':=JS es p1 (hT (κ a),Xz a)) (t':=t1) ho hd
  by_cases tf:(es.size+1)*5>=t.mask*3
  .have e1:t1.tooFull=YD:=by
    unfold SetTable.tooFull;rw[fl,b4];exact YS tf
   rw[e1];simp only[Bool.not_false,Bool.and_self,if_true];obtain⟨m,hm,hn,hlm⟩:∃m,Msk m/\SetTable.sizeAbove (VD (es.size+1))=m+1/\(es.size+1)*5<m*3:=by
    rcases g.mm with e|e|e<;>rw[e]at fu tf
    .have:es.size=4:=by omega
     rw[this];exact⟨31,.inr (.inl rfl),by decide +kernel,by decide⟩
    .have:es.size=18:=by omega
     rw[this];exact⟨127,.inr (.inr rfl),by decide +kernel,by decide⟩
    .omega
   refine Xb (Z0i (b:=b) (m:=m) (s:={ s with heap:=s.heap.update S (Obj.putSet (JS es p1 (hT (κ a),Xz a)) t1),toks:=s.toks+((κ a).length+1) }) hg rfl hf1 b1 b2 hm hn (by rw[szl];exact hlm) λes2 t2 pm g2=>?_);have hg2:=Zs2 (es':=es2) (t':=t2) hg rfl;exact Xl (q YD _ _ _ ((QF s.heap S _).trans (QF _ S _)) ⟨_,es2,_,t2,hg2,hex,rfl,λe m=>he1 e (pm.mem_iff.mp m),g2,rfl⟩ (λz=>YZ z nk) λ_=>(pm.map _).trans hk1)
  .have e1:t1.tooFull=YF:=by
    unfold SetTable.tooFull;rw[fl,b4];exact YT tf
   rw[e1];simp only[Bool.and_false,XR,if_false];refine Xl (q YD _ _ _ (QF ..) ⟨_,_,_,t1,hg,hex,rfl,he1,?_,rfl⟩ (λz=>YZ z nk) λ_=>hk1);rw[hh];refine⟨b1,b2,b3,b4▸g.mm,?_,b7,?_,?_⟩
   .rw[b6,<-hh,Xc,Xv,szl]
   .rw[<-hh,Xc,Xv,szl,b4];omega
   .rw[b4];exact b8
end
end L2
namespace L2
open PySem PySem.Spec PyProof.Rows PySem.W
def OfL(ks ns:List α):Prop:=ks.Nodup/\∀x,x∈ks↔x∈ns
theorem OfL.add[DecidableEq α]{ks ks2 ns:List α}{k:α}(h:OfL ks ns)(c1:k∈ks->ks2=ks)(c2:k∉ks->ks2.Perm (ks++[k])):OfL ks2 (ns++[k])/\ks2.length<=ks.length+1:=by
 by_cases c:k∈ks
 .rw[c1 c]
  refine⟨⟨h.1,λx=>?_⟩,UL _⟩;rw[Qn,<-h.2,Xq];exact⟨.inl,λm=>m.elim id λe=>e▸c⟩
 .have pm:=c2 c
  refine⟨⟨pm.nodup_iff.mpr (Vx.mpr ⟨h.1,Qq.mpr ⟨(λz=>nomatch z),.nil⟩,λa ha y hy e=>c (by rw[<-Xq.mp hy,<-e];exact ha)⟩),λx=>?_⟩,by rw[pm.length_eq,XX];exact Xy _⟩;rw[pm.mem_iff,Qn,Qn,h.2]
section
variable {fp:List YG}{n:Nat}{St:Nat->YH->Prop}{b:Bool}
theorem TuS.stay{U:YG->Prop}{κ:YG->List Int}{ks:List (List Int)}(hS:TuS U κ b h S ks)(k:∀o,h.get? S=YB o->h'.get? S=YB o):TuS U κ b h' S ks:=by
 obtain⟨o,es,ep,t,ho,r⟩:=hS;exact⟨o,es,ep,t,k o ho,r⟩
theorem IK.stay{k:List Int}(hk:IK prog w h k a)(e:∀o,h.get? a=YB o->h'.get? a=YB o):IK prog w h' k a:=by
 obtain⟨o,its,c,ho,rest⟩:=hk;exact⟨o,its,c,e o ho,rest⟩
theorem Z5v(W:Walks prog w A.in1 I fp wr n Pv St)(S:YG)(sf:S∉fp)(hu:A.units+8<Vh){U:YG->Prop}{κ:YG->List Int}{D:List (List Int)}(hD:HI D)(hUD:∀a,U a->κ a∈D)(hU:∀a,U a->a≠S/\a∉wr)(kss:List (List Int))(ln:kss.length=n)(lb:n<64)(hv:∀i v,Pv i v->∃a,v=Xz a/\kss[i]? =YB (κ a)/\U a) :
  ∀(m i:Nat) (s:Xg) (ks:List (List Int)),n-i=m->i<=n->St i s.heap->TuS U κ b s.heap S ks->(∀a,U a->IK prog w s.heap (κ a) a)->OfL ks (kss.take i)->ks.length<=i ->
  (∀ h' tk ks',TuS U κ b h' S ks'->OfL ks' kss->(∀b o,b∉wr->b≠S->s.heap.get? b=YB o->h'.get? b=YB o)->R (.ok (.ret .none)) { s with heap:=h',toks:=tk }) ->
  codeAny (X8 prog w) A (.builtin "set.update.loop" ⟨[.ref S,.ref I],[]⟩) R s:=by
 have sw:S∉wr:=λh=>sf (W.sub _ h);intro m
 induction m with
 | zero=>
  intro i s ks em ei st hS hG hO lk r;have en:i=n:=by omega
  refine Bc U3 ?_;rw[JV Vj _];show XJ _ A.in1 (Ul (.ref I)>>=_) _ _ _;refine Xb (W.done s _ _ (en▸st) λh' tk kp=>?_);show XJ _ A.in1 (ret QJ) _ _ { s with heap:=h',toks:=tk };rw[Bw (by omega)]at hO;exact Xl (r h' tk ks (hS.stay λo e=>kp S o sw e) hO λb o nb _ e=>kp b o nb e)
 | succ m ih=>
  intro i s ks em ei st hS hG hO lk r;have lt:i<n:=by omega
  refine Bc U3 ?_;rw[JV Vj _];show XJ _ A.in1 (Ul (.ref I)>>=_) _ _ _;refine Xb (W.item i s _ _ lt st λv h' tk pv st' kp=>?_);obtain⟨a,rfl,ek,ua⟩:=hv i v pv;show XJ _ A.in1 (holding [Xz a] (setAdd S (.ref a))>>=_) _ _ { s with heap:=h',toks:=tk };have hG':∀a,U a->IK prog w h' (κ a) a:=λa u=>(hG a u).stay λo e=>kp a o (hU a u).2 e;refine Xb (JK (Ych (b:=b) (s:={ s with heap:=h',toks:=tk }) (A:=A.in1) (show A.units+1<Vh by omega) hD (hS.stay λo e=>kp S o sw e) hG' hUD ua (by omega) λv h2 tk2 ks2 sb hS2 c1 c2=>?_));have k2:∀b o,b≠S->h'.get? b=YB o->h2.get? b=YB o:=λb o nS e=>by rw[sb.2 b nS];exact e
  have et:kss.take (i+1)=kss.take i++[κ a]:=by rw[List.take_succ,ek];rfl
  obtain⟨O2,l2⟩:=hO.add c1 c2;rw[<-et]at O2;refine Xl ⟨Uh Vj _,ih (i+1) _ ks2 (by omega) lt (W.frame _ _ _ st' λb bf o e=>k2 b o (λh:b=S=>sf (by rw[<-h];exact bf)) e) hS2 (λa u=>(hG' a u).stay λo e=>k2 a o (hU a u).1 e) O2 (by omega) λh3 tk3 ks3 hS3 hO3 kp3=>?_⟩;exact r h3 tk3 ks3 hS3 hO3 λb o nb nS e=>kp3 b o nb nS (k2 b o nS (kp b o nb e))
end
theorem Z6v{its:Array Xe}{κ:YG->List Int}{D:List (List Int)}{b:Bool}(hh:A.handled=YC)(hu:A.units+24<Vh)(hD:HI D)(hl:s.heap.IsList l its)(ln:kss.length=its.size)(lb:its.size<64)
  (hv:∀(i:Nat) (v:Xe),its[i]? =YB v->∃a,v=Xz a/\kss[i]? =YB (κ a)/\κ a∈D/\IK prog w s.heap (κ a) a)
  (q:∀h' tk ks,TuS (λa=>∃i:Nat,its[i]? =YB (Xz a)) κ b h' s.heap.objs.size ks->OfL ks kss->(∀b o,b<s.heap.objs.size->s.heap.get? b=YB o->h'.get? b=YB o)->Q .none { s with heap:=h',toks:=tk }) :
  XJ (X8 prog w) A (By.«set.__init__» ⟨[Xz s.heap.objs.size,Xz l],[]⟩) (λfin s'=>∃v,fin= .done (.ret v)/\Q v s') E { s with heap:=s.heap.push { cls:=.type "set",dict:=YC,data:=.set #[] 0 (.fresh 0 0 b) } }:=by
 obtain⟨ol,hol,hcl,nl,hdl⟩:=id hl;obtain⟨ocls,odict,odata,oslots⟩:=ol;simp only at hcl hdl;subst hcl hdl;have ho':(s.heap.push { cls:=.type "set",dict:=YC,data:=.set #[] 0 (.fresh 0 0 b) }).get? l=YB { cls:=.type "list",dict:=odict,data:=.seq its nl,slots:=oslots }:=Xf _ hol;have gS:(s.heap.push { cls:=.type "set",dict:=YC,data:=.set #[] 0 (.fresh 0 0 b) }).get? s.heap.objs.size=YB { cls:=.type "set",dict:=YC,data:=.set #[] 0 (.fresh 0 0 b) }:=XF _ rfl;have hT:Shared.TypeIs { s with heap:=s.heap.push { cls:=.type "set",dict:=YC,data:=.set #[] 0 (.fresh 0 0 b) } } (.ref s.heap.objs.size) "set" :=⟨_,gS,rfl⟩;have h1:=F.sub_list_set;have h2:=F.sub_list_frozenset;have h3:(Value.type "list"==Value.type "dict")=YF:=by decide
 have hl1:(s.heap.push { cls:=.type "set",dict:=YC,data:=.set #[] 0 (.fresh 0 0 b) }).IsList l its:=⟨_,ho',rfl,nl,rfl⟩;unfold By.«set.__init__» noKeywords Builtin.Frozenset.updateFrom;generalize hPI:pyIter=PI
 wp_walk
 subst hPI;refine wpAny_pyIter_list hl1 (Xb (wpAny_runValue ?_));have lS:l<s.heap.objs.size:=XN hol;have old:∀a,(∃i:Nat,its[i]? =YB (Xz a))->κ a∈D/\IK prog w s.heap (κ a) a:=λa u=>by
  obtain⟨i,hi⟩:=u;obtain⟨a',e,_,r⟩:=hv i _ hi;cases e;exact r
 have below:∀a,(∃i:Nat,its[i]? =YB (Xz a))->a<s.heap.objs.size:=λa u=>by
  obtain⟨_,o,_,_,ho,_⟩:=old a u;exact XN ho
 have emp:GT b (.fresh 0 0 b) []:=⟨rfl,rfl,rfl,.inl rfl,rfl,.nil,(show 0<21 by decide),λi h j e=>by rw[UV]at e;cases e⟩;refine Z5v (b:=b) (U:=λa=>∃i:Nat,its[i]? =YB (Xz a)) (Walks.list (by simpa using hh) _ l ?hne its) s.heap.objs.size ?sf ?hu hD (λa u=>(old a u).1) ?hU kss ln lb (λi v hiv=>?hv) its.size 0 _ [] (by omega) (Qw _) ⟨⟨_,XF _ rfl,rfl,rfl⟩,hl1.push _⟩ ⟨_,#[],0,_,Xf _ gS,⟨rfl,rfl,rfl⟩,rfl,(λe m=>nomatch m),emp,rfl⟩ ?hG ⟨.nil,λx=>by rw[List.take_zero]⟩ (Xy _) ?hR
 case hne=>rw[Qz];exact Xp (QW lS)
 case sf=>
  rw[Qz];intro m;rcases Xo.mp m with e|m
  .exact Xp (QB _) e
  .exact X6 lS (Xq.mp m)
 case hu=>show A.units+8<Vh;omega
 case hU=>
  intro a u;have:=below a u;refine⟨Xp this,λm=>?_⟩;rw[Qz]at m;exact Xp (QW this) (Xq.mp m)
 case hv=>
  obtain⟨a,rfl,ek,_⟩:=hv i v hiv;exact⟨a,rfl,ek,i,hiv⟩
 case hG=>exact λa u=>(old a u).2.stay λo e=>Xf _ (Xf _ e)
 case hR=>
  intro h' tk ks hS hO kp;refine Xl ?_;show XJ _ _ (ret QJ) _ _ { s with heap:=h',toks:=tk };refine Xl ⟨_,rfl,q h' tk ks hS hO λb o lb e=>?_⟩;refine kp b o (λm=>?_) (Xp lb) (Xf _ (Xf _ e));rw[Qz]at m;exact Xp (QW lb) (Xq.mp m)
theorem Zq9{its:Array Xe}{κ:YG->List Int}{D:List (List Int)}(hh:A.handled=YC)(hu:A.units+32<Vh)(hD:HI D)(hl:s.heap.IsList l its)(ln:kss.length=its.size)(lb:its.size<64)
  (hv:∀(i:Nat) (v:Xe),its[i]? =YB v->∃a,v=Xz a/\kss[i]? =YB (κ a)/\κ a∈D/\IK prog w s.heap (κ a) a)
  (q:∀h' tk ks,TuS (λa=>∃i:Nat,its[i]? =YB (Xz a)) κ (!byT w) h' s.heap.objs.size ks->OfL ks kss->(∀b o,b<s.heap.objs.size->s.heap.get? b=YB o->h'.get? b=YB o)->Q (Xz s.heap.objs.size) { s with heap:=h',toks:=tk }) :
  XJ (X8 prog w) A (call (.type "set") [Xz l]) Q E s:=by
 obtain⟨c,tl,e0⟩:=JT.mro;have e1:=JT.made;have e2:=JT.sub;refine wpAny_call (codeAny_of_tree ?_);show XJ _ _ (callAny (.type "set") _) _ _ _;refine Xl ⟨Code.quiet_builtin _ (by decide +kernel),Bc F.entry_type_call ?_⟩;rw[Around.under_plain (weight_type_call_type "set" [Xz l] []) rfl];have e3:=JT.notType;have e4:=JT.canCreate;have e5:=F.typeCall_set_1 (Xz l)
 repeat any_goals first|assumption|wp_step
 refine codeAny_mono (Yap (Xz l) (E:=E) (Q₁:=λobj s1=>obj=Xz s.heap.objs.size/\s1={ s with heap:=s.heap.push { cls:=.type "set",dict:=YC,data:=.set #[] 0 (.fresh 0 0 (!byT w)) } }) ⟨rfl,rfl⟩) λr s1 r1=>?_;cases r with
 | error e=>exact r1
 | ok fl=>
  cases fl with
  | ret obj=>
   obtain⟨rfl,rfl⟩:=r1;have gS:(s.heap.push { cls:=.type "set",dict:=YC,data:=.set #[] 0 (.fresh 0 0 (!byT w)) }).get? s.heap.objs.size=YB { cls:=.type "set",dict:=YC,data:=.set #[] 0 (.fresh 0 0 (!byT w)) }:=XF _ rfl;have hT:Shared.TypeIs { s with heap:=s.heap.push { cls:=.type "set",dict:=YC,data:=.set #[] 0 (.fresh 0 0 (!byT w)) } } (Xz s.heap.objs.size) "set" :=⟨_,gS,rfl⟩;have e6:=JT.init.lookup;have e7:=JT.init.bind (Xz s.heap.objs.size)
   repeat any_goals first|assumption|wp_step
   refine codeAny_mono (codeAny_call_builtin (R:=wants (λr s2=>r= .none/\∃h' tk ks,s2={ s with heap:=h',toks:=tk }/\TuS (λa=>∃i:Nat,its[i]? =YB (Xz a)) κ (!byT w) h' s.heap.objs.size ks/\OfL ks kss/\∀b o,b<s.heap.objs.size->s.heap.get? b=YB o->h'.get? b=YB o) E) JT.init.plain F.entry_set_init (check_set_init_1 hT ?_)) λr2 s2 hr2=>?_
   .refine Bo (Z6v (b:=!byT w) (by simpa using hh) (show _+24<Vh by dsimp only;omega) hD hl ln lb hv (Q:=λr s2=>r= .none/\∃h' tk ks,s2={ s with heap:=h',toks:=tk }/\TuS (λa=>∃i:Nat,its[i]? =YB (Xz a)) κ (!byT w) h' s.heap.objs.size ks/\OfL ks kss/\∀b o,b<s.heap.objs.size->s.heap.get? b=YB o->h'.get? b=YB o) λh' tk ks a1 a2 a3=>⟨rfl,h',tk,ks,rfl,a1,a2,a3⟩) (λfin s' hf=>?_) λ_ _ x=>x
    obtain⟨v,rfl,hq⟩:=hf;exact hq
   .cases r2 with
    | error e=>exact hr2
    | ok fl2=>
     cases fl2 with
     | ret r=>
      obtain⟨rfl,h',tk,ks,rfl,a1,a2,a3⟩:=hr2
      repeat any_goals first|assumption|wp_step
      exact q h' tk ks a1 a2 a3
     | _=>exact hr2.elim
  | _=>exact r1.elim
end L2
namespace L2
open PySem PySem.Spec PyProof.Rows PySem.W
def pk:List Int->Int×Int
 | [a,b]=>(a,b)
 | _=>(0,0)
def kl(p:Int×Int):List Int:=[p.1,p.2]
theorem Zfq{a b:Int×Int}:ltP a b=YD↔a.1<b.1\/(a.1=b.1/\a.2<b.2):=by
 unfold ltP
 by_cases c:a.1=b.1
 .rw[YM c]
  by_cases c':a.2=b.2
  .rw[YM c']
   exact⟨λz=>(nomatch z),λz=>by omega⟩
  .rw[YQ c',decide_eq_true_iff]
   exact⟨λz=>.inr ⟨c,z⟩,λz=>by omega⟩
 .rw[YQ c,decide_eq_true_iff]
  exact⟨.inl,λz=>by omega⟩
theorem Zmm{a b c:Int×Int}(h1:ltP a b=YD)(h2:ltP b c=YD):ltP a c=YD:=by
 rw[Zfq]at*
 omega
theorem Zla(a:Int×Int):ltP a a=YF:=Vf.mpr λz=>by
 have:=Zfq.mp z;omega
theorem Zuq{a b:Int×Int}(h:a≠b)(c:ltP a b=YF):ltP b a=YD:=by
 rw[Zfq];have n:¬(a.1<b.1\/(a.1=b.1/\a.2<b.2)):=λz=>by rw[Zfq.mpr z]at c;cases c
 have:¬(a.1=b.1/\a.2=b.2):=λz=>h (Prod.ext z.1 z.2);omega
def Zvt(x:Int×Int):List (Int×Int)->List (Int×Int)
 | []=>[x]
 | y::l=>if x=y then y::l else if ltP x y=YD then x::y::l else y::Zvt x l
def ssP:List (Int×Int)->List (Int×Int)
 | []=>[]
 | x::l=>Zvt x (ssP l)
theorem Znn{x y:Int×Int}{l:List (Int×Int)}:y∈Zvt x l↔y=x\/y∈l:=by
 induction l with
 | nil=>rw[Zvt,Xq];exact⟨.inl,λz=>z.elim id λz=>nomatch z⟩
 | cons z l ih=>
  rw[Zvt];split
  .rename_i c
   rw[c];exact⟨.inr,λq=>q.elim (λe=>e▸ .head _) id⟩
  .split
   .exact Xo
   .rw[Xo,ih,Xo]
    exact⟨λq=>q.elim (λe=>.inr (.inl e)) λq=>q.elim .inl λq=>.inr (.inr q),λq=>q.elim (λe=>.inr (.inl e)) λq=>q.elim .inl λq=>.inr (.inr q)⟩
theorem Zeb{y:Int×Int}{l:List (Int×Int)}:y∈ssP l↔y∈l:=by
 induction l with
 | nil=>exact .rfl
 | cons x l ih=>rw[ssP,Znn,ih,Xo]
abbrev UpP(l:List (Int×Int)):Prop:=l.Pairwise λa b=>ltP a b=YD
theorem Z02{x:Int×Int}{l:List (Int×Int)}(h:UpP l):UpP (Zvt x l):=by
 induction l with
 | nil=>exact UJ _ _
 | cons z l ih=>
  obtain⟨h1,h2⟩:=Vb.mp h;rw[Zvt];split
  .exact h
  .rename_i c
   split
   .rename_i c2
    exact Vb.mpr ⟨λy hy=>by
     rcases Xo.mp hy with rfl|hy
     .exact c2
     .exact Zmm c2 (h1 y hy),h⟩
   .rename_i c2
    refine Vb.mpr ⟨λy hy=>?_,ih h2⟩;rcases Znn.mp hy with rfl|hy
    .exact Zuq c (Vf.mpr c2)
    .exact h1 y hy
theorem Zyc(l:List (Int×Int)):UpP (ssP l):=by
 induction l with
 | nil=>exact .nil
 | cons x l ih=>exact Z02 ih
theorem Zws:∀{l l':List (Int×Int)},UpP l->UpP l'->(∀x,x∈l↔x∈l')->l=l':=by
 intro l
 induction l with
 | nil=>
  intro l' _ _ h;cases l' with
  | nil=>rfl
  | cons y l'=>exact YZ ((h y).mpr (.head _)) (λz=>nomatch z)
 | cons x l ih=>
  intro l' h1 h2 h;cases l' with
  | nil=>exact YZ ((h x).mp (.head _)) (λz=>nomatch z)
  | cons y l'=>
   obtain⟨a1,a2⟩:=Vb.mp h1;obtain⟨b1,b2⟩:=Vb.mp h2;have e:x=y:=by
    rcases Xo.mp ((h x).mp (.head _))with e|m
    .exact e
    .rcases Xo.mp ((h y).mpr (.head _))with e|m2
     .exact e.symm
     .have:=Zmm (b1 x m) (a1 y m2)
      rw[Zla]at this;cases this
   subst e;have irr:∀{m:List (Int×Int)},(∀z∈m,ltP x z=YD)->x∉m:=λq m=>by
    have:=q x m;rw[Zla]at this;cases this
   rw[ih a2 b2 λz=>?_];constructor
   .intro m
    rcases Xo.mp ((h z).mp (.tail _ m))with e|m'
    .exact YZ (e▸m) (irr a1)
    .exact m'
   .intro m
    rcases Xo.mp ((h z).mpr (.tail _ m))with e|m'
    .exact YZ (e▸m) (irr b1)
    .exact m'
theorem Zxp(x:Int×Int)(l:List (Int×Int)):(Zvt x l).length<=l.length+1:=by
 induction l with
 | nil=>exact Xy _
 | cons z l ih=>
  rw[Zvt];split
  .exact UL _
  .split
   .exact Xy _
   .exact VM ih
theorem Zk4(l:List (Int×Int)):(ssP l).length<=l.length:=by
 induction l with
 | nil=>exact Xy _
 | cons x l ih=>exact QM (Zxp _ _) (VM ih)
theorem Zk8{k:List Int}(q:ItemsAre (Vw prog w) k vs):ReadsAll h vs (k.map Xw) []:=by
 induction q with
 | nil=>exact .nil
 | cons h _ ih=>
  obtain⟨t,rfl⟩:=Value.isInt_shape h;exact ReadsAll.cons (Reads.int _ t) ih
theorem Zie{k:List Int}(q:IK prog w h k a):Reads h (.ref a) (tupI k) []:=by
 obtain⟨o,its,n,ho,hc,hd,hi⟩:=q;exact .tuple ho hc hd (Zk8 hi)
def adr:Xe->YG
 | .ref a=>a
 | _=>0
theorem Zki(d d':α)(lt:Nat->Nat->Bool)(vs:List α):sLay d lt vs=sLay d' lt vs:=by
 unfold sLay;split
 .rfl
 .refine XS λi hi=>?_
  have:=XH.mp ((Zdn (by omega)).mem_iff.mp hi);rw[Xm,Xm,Xn this];rfl
theorem Zk2{U:YG->Prop}{κ:YG->List Int}(hG:∀a,U a->IK prog w h (κ a) a):∀(as:List YG),(∀a,a∈as->U a)->ReadsAll h (as.map Xz) (as.map λa=>tupI (κ a)) []:=by
 intro as
 induction as with
 | nil=>exact λ_=>.nil
 | cons a as ih=>exact λhu=>ReadsAll.cons (Zie (hG a (hu a (.head _)))) (ih λa m=>hu a (.tail _ m))
theorem Zwk{U:YG->Prop}{κ:YG->List Int}{ks:List (List Int)}(hh:A.handled=YC)(hu:A.units+64<Vh)(hS:TuS U κ (!byT w) s.heap S ks)(h64:ks.length<64)(hG:∀a,U a->IK prog w s.heap (κ a) a)(h2:∀k,k∈ks->k=kl (pk k))(nd:ks.Nodup)
  (q:∀h' tk d L (as:List YG) c,s.heap.objs.size<=L->h'.get? L=YB { cls:=.type "list",data:=.seq (as.map Xz).toArray c }->(∀a,a∈as->U a)->(as.map κ).Perm ks->UpP (as.map λa=>pk (κ a))->(∀b o,b<s.heap.objs.size->s.heap.get? b=YB o->h'.get? b=YB o)->Q (.ref L) { s with heap:=h',toks:=tk,drawn:=d }):XJ (X8 prog w) A (call (.builtin "sorted") [.ref S]) Q E s:=by
 obtain⟨o,es,ep,t,ho,hex,hd,he,g,rfl⟩:=hS;rw[Xc,Xv]at h64;have tb:Tb (!byT w) t:=⟨g.led,λ_=>g.up⟩;refine Calls.call_function_entry kind_sorted plain_sorted entry_sorted (args_sorted1 _) ?_;unfold By.«sorted»;refine Xb (m:=checkCount "sorted" 1 1 _) (Xl ?_);refine Xb (Zjn (by simpa using hh) ho hex hd (TuS.fits (U:=U) (κ:=κ) g) tb (by omega) λh1 tk d acc pm lN k1=>?_);obtain⟨as,hacc⟩:∃as,as=acc.map adr:=⟨_,rfl⟩;have ua:∀a,a∈as->U a:=λa m=>by
  rw[hacc]at m;obtain⟨v,mv,rfl⟩:=XM.mp m;obtain⟨e,me,rfl⟩:=XM.mp (pm.mem_iff.mp mv);obtain⟨b,rfl,ub⟩:=he e me;exact ub
 have ea:acc=as.map Xz:=by
  rw[hacc,Qk];refine(List.map_id acc).symm.trans (XS λv mv=>?_);obtain⟨e,me,rfl⟩:=XM.mp (pm.mem_iff.mp mv);obtain⟨b,rfl,ub⟩:=he e me;rfl
 have pk0:(as.map κ).Perm (es.toList.map (kOf κ)):=by
  have:=pm.map λv=>κ (adr v);rw[Qk]at this;rw[hacc,Qk];refine this.trans (.of_eq (XS λe me=>?_));obtain⟨b,rfl,ub⟩:=he e me;rfl
 subst ea;have la:as.length=es.size:=by rw[<-Xc,pm.length_eq,Xc,Xv]
 clear hacc;have hG1:∀a,U a->IK prog w h1 (κ a) a:=λa u=>(hG a u).stay λo e=>k1 a o (XN e) e;have nk:(as.map κ).Nodup:=pk0.nodup_iff.mpr nd;have kf:∀a,a∈as->κ a=kl (pk (κ a)):=λa m=>h2 _ (pk0.mem_iff.mp (XM.mpr ⟨a,m,rfl⟩));obtain⟨K,S1,S2⟩:=Z5n.run;obtain⟨lt,hlt⟩:∃lt,lt=lk kdP ltP (as.map λa=>tupI (κ a)):=⟨_,rfl⟩;have ra:=Zk2 hG1 as ua;have at_:∀i,i<as.length->∃a,as[i]? =YB a/\a∈as:=λi hi=>⟨_,Xn hi,Bl hi⟩;have kd:∀a,a∈as->kdP (tupI (κ a))=YB (pk (κ a)):=λa m=>by rw[kf a m];rfl
 have lte:∀i j a b,as[i]? =YB a->as[j]? =YB b->lt i j=ltP (pk (κ a)) (pk (κ b)):=λi j a b h1 h2=>by
  rw[hlt];unfold lk;rw[Xm,Xm,Xi,Xi,h1,h2];show((kdP (tupI (κ a))).bind λx=>(kdP (tupI (κ b))).map λy=>ltP x y).getD YF=_;rw[kd a (X5 h1),kd b (X5 h2)];rfl
 have nea:∀i j a b,i≠j->as[i]? =YB a->as[j]? =YB b->pk (κ a)≠pk (κ b):=λi j a b ne h1 h2 e=>by
  obtain⟨hi,e1⟩:=Xk.mp h1;obtain⟨hj,e2⟩:=Xk.mp h2;have ek:κ a=κ b:=by rw[kf a (X5 h1),kf b (X5 h2),e]
  have pw:=BR.mp nk;rcases Nat.lt_or_gt_of_ne ne with c|c
  .exact pw i j (by rw[Xc];exact hi) (by rw[Xc];exact hj) c (by rw[List.getElem_map,List.getElem_map,e1,e2,ek])
  .exact pw j i (by rw[Xc];exact hj) (by rw[Xc];exact hi) c (by rw[List.getElem_map,List.getElem_map,e1,e2,ek])
 have T:Tot lt as.length:=by
  refine⟨λi j k hi hj hk h1 h2=>?_,λi j hi hj ne c=>?_,λi j hi hj h=>?_⟩
  .obtain⟨a,ha,_⟩:=at_ i hi
   obtain⟨b,hb,_⟩:=at_ j hj;obtain⟨c,hc,_⟩:=at_ k hk;rw[lte i j a b ha hb]at h1;rw[lte j k b c hb hc]at h2;rw[lte i k a c ha hc];exact Zmm h1 h2
  .obtain⟨a,ha,_⟩:=at_ i hi
   obtain⟨b,hb,_⟩:=at_ j hj;rw[lte i j a b ha hb]at c;rw[lte j i b a hb ha];exact Zuq (nea i j a b ne ha hb) c
  .obtain⟨a,ha,_⟩:=at_ i hi
   obtain⟨b,hb,_⟩:=at_ j hj;rw[lte i j a b ha hb]at h;rw[lte j i b a hb ha];exact Vf.mpr λz=>by
    have:=Zmm h z;rw[Zla]at this;cases this
 have up:UpP ((sLay 0 lt as).map λa=>pk (κ a)):=List.pairwise_map.mpr (Z0n (β:=Nat) T λi j hi hj h=>by
  obtain⟨a,ha,_⟩:=at_ i hi;obtain⟨b,hb,_⟩:=at_ j hj;rw[lte i j a b ha hb]at h;rw[Xm,Xm,ha,hb];exact h)
 refine Xb (wpAny_newList ?_ (by rw[X7,Xc];omega));have ga:(h1.push (BJ "list" (as.map Xz).toArray 0)).get? h1.objs.size=YB (BJ "list" (as.map Xz).toArray 0):=XF _ rfl;have keep:∀b o,h1.get? b=YB o->(h1.push (BJ "list" (as.map Xz).toArray 0)).get? b=YB o:=λb o e=>Xf _ e;obtain⟨z1,z2⟩:=readsAll_get ra;have kall:∀d,d∈(as.map λa=>tupI (κ a))->∃k,kdP d=YB k:=λd m=>by
  obtain⟨a,ma,rfl⟩:=XM.mp m;exact⟨_,kd a ma⟩
 refine Xb (JK (JD slot_list_sort ⟨_,ga,rfl⟩ entry_list_sort (Zhl (κ:=K) (lt:=lt) (h0:=h1) ga keep (Heap.get?_none_of_le (Xy _)) (by rw[Xc];omega) (λh2 s' k Q q=>S1 _ _ _ _ s' _ _ _ Q h2 (ReadsAll.keeps k ra) kall q) (λh2 s' k i j C hi hj hc=>?_) ⟨_,rfl,?_⟩) (args_list_sort _)))
 .rw[Xc]at hi hj
  obtain⟨a,ha,ma⟩:=at_ i hi;obtain⟨b,hb,mb⟩:=at_ j hj;rw[lte i j a b ha hb]at hc;unfold kas_ask;rw[Xm,Xm,Xi,Xi,ha,hb];exact S2 _ _ _ _ s' _ _ _ _ _ _ _ _ C (show A.units+1+1+32<Vh by omega) (Reads.keeps k (Zie (hG1 a (ua a ma)))) (Reads.keeps k (Zie (hG1 b (ua b mb)))) (kd a ma) (kd b mb) hc
 .have eo:sLay QJ lt (as.map Xz)=(sLay 0 lt as).map Xz:=by rw[Zki QJ (Xz 0),Znz]
  rw[eo];have g1:=Uc (c :="list") ga (λ_=>(#[]:Array Xe));have g3:=Uc (c :="list") (Xf (BJ "list" #[] 0) (Xf (BJ "tuple" (as.map Xz).toArray 0) g1)) (λ_=>((sLay 0 lt as).map Xz).toArray);refine Xl ⟨_,rfl,q _ tk d _ (sLay 0 lt as) _ lN g3 (λa m=>ua a ((Zdq _ _ _).mem_iff.mp m)) (((Zdq _ _ _).map κ).trans pk0) up λb o lb e=>?_⟩;have nb:b≠h1.objs.size:=Xp (Qm lb lN);exact(QF ..).extBut _ _ nb (Xf _ (Xf _ ((QF ..).extBut _ _ nb (Xf _ (k1 b o lb e)))))
end L2
namespace L2
open PySem PySem.Spec PyProof.Rows PySem.W
def D10:List (List Int):=(Xj 10).flatMap λ(a:Nat)=>(Xj 10).map λ(b:Nat)=>[(a:Int),(b:Int)]
theorem Yiw:HI D10:=λk hk k' hk' e=>Z9v (f:=hT) (show(D10.map hT).Nodup by decide +kernel) hk hk' e
def Z4v(p:Int×Int):Bool:=decide (0<=p.1)&&decide (p.1<10)&&(decide (0<=p.2)&&decide (p.2<10))
theorem Z9e{p:Int×Int}(h:Z4v p=YD):kl p∈D10:=by
 unfold Z4v at h;rw[X3,X3,X3,decide_eq_true_iff,decide_eq_true_iff,decide_eq_true_iff,decide_eq_true_iff]at h;obtain⟨⟨a,b⟩,c,d⟩:=h;refine List.mem_flatMap.mpr ⟨p.1.toNat,XH.mpr (by omega),XM.mpr ⟨p.2.toNat,XH.mpr (by omega),?_⟩⟩;unfold kl;rw[Int.toNat_of_nonneg a,Int.toNat_of_nonneg c]
theorem Zzh[DecidableEq α]:∀{l m:List α},l.Nodup->(∀x,x∈l->x∈m)->l.length<=m.length:=by
 intro l
 induction l with
 | nil=>exact λ_ _=>Qw _
 | cons a l ih=>
  intro m nd h;obtain⟨h1,h2⟩:=Qq.mp nd;have ha:=h a (.head _);have:=ih (m:=m.erase a) h2 λx hx=>(List.mem_erase_of_ne (λ(e:x=a)=>h1 (e▸hx))).mpr (h x (.tail _ hx));rw[List.length_erase_of_mem ha]at this;have:=List.length_pos_of_mem ha;rw[QC];omega
def keyOf(h:YH)(a:YG):List Int:=match h.get? a with
 | some o=>(match o.data with| .seq its _=>its.toList.map vI|_=>[])
 | none=>[]
theorem Zwu{k:List Int}(q:ItemsAre (Vw prog w) k vs):vs.map vI=k:=by
 induction q with
 | nil=>rfl
 | cons h _ ih=>
  obtain⟨t,rfl⟩:=Value.isInt_shape h;rw[X4,ih];rfl
theorem Zxd{k:List Int}(q:IK prog w h k a):keyOf h a=k:=by
 obtain⟨o,its,n,ho,hc,hd,hi⟩:=q;unfold keyOf;rw[ho];dsimp only;rw[hd];exact Zwu hi
def pD(p:Int×Int):Xa:=.tuple [.int p.1,.int p.2]
def Zgp:List Xa->Option (List (Int×Int))
 | []=>YB []
 | d::r=>(kdP d).bind λk=>(Zgp r).bind λks=>YB (k::ks)
theorem Zrw{es:List Xa}{ps:List (Int×Int)}(h:Zgp es=YB ps):es=ps.map pD:=by
 induction es generalizing ps with
 | nil=>cases h;rfl
 | cons d r ih=>
  rw[Zgp]at h;obtain⟨k,h1,h⟩:=bs h;obtain⟨ks,h2,h⟩:=bs h;cases h;rw[X4,<-ih h2,Zdj h1];rfl
theorem Zo5(ps:List (Int×Int)):Zgp (ps.map pD)=YB ps:=by
 induction ps with
 | nil=>rfl
 | cons p ps ih=>
  rw[X4];show(Zgp (ps.map pD)).bind _=_;rw[ih];rfl
theorem Yct(ps:List (Int×Int)):ps.map pD=(ps.map kl).map tupI:=by rw[Qk];rfl
theorem Zva(h:Da G H L v (.list (kss.map tupI))):∃a xs,v= .ref a/\SqL G H a xs/\Zxx H xs kss/\Das G H L xs (kss.map tupI):=by
 generalize e:Bj (kss.map tupI)=d at h;cases h with
 | lst l e1 r=>
  cases e;exact⟨_,_,rfl,.inl e1,Zu6 r,r⟩
 | scr k=>
  rename_i a ms;have e':=Uj e;have hn:ms=[]:=by
   cases ms with
   | nil=>rfl
   | cons m ms=>
    cases kss with
    | nil=>cases e'
    | cons k kss=>cases(List.cons.inj e').1
  subst hn;have hk:kss=[]:=by
   cases kss with
   | nil=>rfl
   | cons k kss=>cases e'
  subst hk;obtain⟨a',e2,hs⟩:=Da.ints_sq (L:=λ_=>True) (Da.scr (H:=H) k);cases e2;exact⟨_,_,rfl,hs,.nil,.nil⟩
 | _=>cases e
theorem Z6e(h:Zxx H xs kss):∀{its:List Xe},Vals xs its->∀(i:Nat) (a:YG),its[i]? =YB (Xz a)->xs[i]? =YB (V.ref a):=by
 induction h with
 | nil=>
  intro its r i a e;cases r;simp at e
 | cons h t ih=>
  intro its r i a e;cases r with
  | cons r rr=>
   cases r;cases i with
   | zero=>cases e;rfl
   | succ i=>exact ih rr i a e
theorem Zzz:∀{ys:List V} {ds:List Xa},ys.length=ds.length->(∀(j:Nat) y d,ys[j]? =YB y->ds[j]? =YB d->Da G H L y d)->Das G H L ys ds:=by
 intro ys
 induction ys with
 | nil=>
  intro ds l _;cases ds with
  | nil=>exact .nil
  | cons d ds=>cases l
 | cons y ys ih=>
  intro ds l h;cases ds with
  | nil=>cases l
  | cons d ds=>exact .cons (h 0 y d rfl rfl) (ih (Nat.succ.inj l) λj y d a b=>h (j+1) y d a b)
theorem Zs5(as:List YG):Vals (as.map V.ref) (as.map Xz):=by
 induction as with
 | nil=>exact .nil
 | cons a as ih=>exact .cons rfl ih
def Yf5(xs:List V)(ps:List (Int×Int))(ys:List V)(qs:List (Int×Int)):Prop:=ys.length=qs.length/\∀(j:Nat) y k,ys[j]? =YB y->qs[j]? =YB k->∃i:Nat,xs[i]? =YB y/\ps[i]? =YB k
section
variable {a:YJ}{t:TA}
def Yhi(K:Xd)(t:TA):TE:=λO H Q=>t O H λvs H1=>∃(l:YG) (xs:List V) (ps:List (Int×Int)),vs=[.ref l]/\SqL K H1 l xs/\Zxx H1 xs (ps.map kl)/\ps.length<64/\(∀p,p∈ps->kl p∈D10)/\∀q ys,H1 q=YC->Yf5 xs ps ys (ssP ps)->Q (.ref q) (upd H1 q (.lst ys))
theorem Zk5(hc:X.calm=YD)(hu:X.A.units+64<Vh)(hgl:Gl X "sorted")(hml:X.mg "sorted"=YC)(hvl:Qe "sorted"=YB (.builtin "sorted"))(hg:Gl X "set")(hm:X.mg "set"=YC)(hv:Qe "set"=YB (.type "set"))(ha:PA X [a] t)
  (he:Xu [a] X.env=(YF,eval a X.env)::Xu [] X.env:=by rfl) (hpl:(JF pos' (Xu [] X.env)).any (·.1)=YF:=by rfl)
  (he':Xu [.Call (.Name "set" pr) [a] [] pos'] X.env=(YF,eval (.Call (.Name "set" pr) [a] [] pos') X.env)::Xu [] X.env:=by rfl) (hpl':(JF pos (Xu [] X.env)).any (·.1)=YF:=by rfl) :
  PE X (.Call (.Name "sorted" pl) [.Call (.Name "set" pr) [a] [] pos'] [] pos) (Yhi X.K t):=by
 intro pins s O H Q I h;refine Bp (Zbz I hgl hml hvl ?_ (by decide) (by decide));refine Uz ?_ he' hpl';rw[he'];show XJ _ _ (spliced ((YF,eval (.Call (.Name "set" pr) [a] [] pos') X.env)::JF pos (Xu [] X.env))) _ _ s;have inner:XJ (X8 X.prog X.w) X.A (eval (.Call (.Name "set" pr) [a] [] pos') X.env) (λu s2=>∃(S:YG) (κ:YG->List Int) (U:YG->Prop) (ks:List (List Int)) (xs:List V) (ps:List (Int×Int)) (H1:Hp),u=Xz S/\TuS U κ (!byT X.w) s2.heap S ks/\OfL ks (ps.map kl)/\ks.length<=ps.length/\ps.length<64/\(∀a,U a->IK X.prog X.w s2.heap (κ a) a/\∃i:Nat,xs[i]? =YB (V.ref a)/\(ps.map kl)[i]? =YB (κ a))/\Inv X pins O H1 s2/\∀q ys,H1 q=YC->Yf5 xs ps ys (ssP ps)->Q (.ref q) (upd H1 q (.lst ys))) X.xe s:=by
  refine Bp (Zbz I hg hm hv ?_ (by decide) (by decide));refine JP (thn (ha pos' pins s O H _ I h) λus s1 qz=>?_) he hpl;obtain⟨vs,H1,I1,r1,l,xs,ps,rfl,hs,ht,h64,hD,q⟩:=qz;obtain⟨u,rfl,ru⟩:=vals1 r1;cases(show u=Xz l from ru);obtain⟨its,rv,pl,hz⟩:=I1.list hs;obtain⟨ll,g⟩:=Z1v I1 ht rv;have g2:∀(i:Nat) (v:Xe),its.toArray[i]? =YB v->∃a,v=Xz a/\(ps.map kl)[i]? =YB (keyOf s1.heap a)/\keyOf s1.heap a∈D10/\IK X.prog X.w s1.heap (keyOf s1.heap a) a:=λi v ev=>by
   obtain⟨a,k,e1,e2,e3⟩:=g i v (by simpa using ev);refine⟨a,e1,?_⟩;rw[Zxd e3];refine⟨e2,?_,e3⟩;obtain⟨p,mp,e⟩:=XM.mp (X5 e2);rw[<-e];exact hD p mp
  rw[Xc]at ll;refine Zq9 (its:=its.toArray) (κ:=keyOf s1.heap) (D:=D10) (kss:=ps.map kl) (I1.ok.hd hc) (by omega) Yiw pl.isList (by rw[Xc,XQ,ll]) (by rw[XQ];omega) g2 λh' tk ks a1 a2 a3=>?_;have lk:ks.length<=ps.length:=by
   have:=Zzh a2.1 λx hx=>(a2.2 x).mp hx
   rwa[Xc]at this
  refine⟨_,keyOf s1.heap,_,ks,xs,ps,H1,rfl,a1,a2,lk,h64,λa u=>?_,I1.kept (t':=tk) (λb u e=>a3 b u (XN e) e),q⟩;obtain⟨i,hi⟩:=u;obtain⟨a',e1,e2,_,e4⟩:=g2 i _ hi;cases e1;exact⟨e4.stay λo e=>a3 a o (XN e) e,i,Z6e ht rv i a (by simpa using hi),e2⟩
 refine Calls.spliced_cons (thn inner λu s2 qz=>?_);obtain⟨S,κ,U,ks,xs,ps,H1,rfl,hS,hO,lk,h64,hG,I2,q⟩:=qz;refine Calls.spliced_nil ?_;have kp:∀k,k∈ks->∃p,p∈ps/\k=kl p:=λk hk=>by
  obtain⟨p,mp,e⟩:=XM.mp ((hO.2 k).mp hk);exact⟨p,mp,e.symm⟩
 refine Zwk (U:=U) (κ:=κ) (I2.ok.hd hc) (by omega) hS (by omega) (λa u=>(hG a u).1) (λk hk=>by obtain⟨p,_,e⟩:=kp k hk;rw[e];rfl) hO.1 λh' tk d L as cc lN g ua pm up k=>?_;have es:(as.map λa=>pk (κ a))=ssP ps:=Zws up (Zyc ps) λx=>by
  rw[Zeb,XM];constructor
  .intro z
   obtain⟨a,ma,rfl⟩:=z;obtain⟨p,mp,e⟩:=kp _ (pm.mem_iff.mp (XM.mpr ⟨a,ma,rfl⟩));rw[e];exact mp
  .intro z
   obtain⟨a,ma,e⟩:=XM.mp (pm.mem_iff.mpr ((hO.2 (kl x)).mpr (XM.mpr ⟨x,z,rfl⟩)));exact⟨a,ma,by rw[e];rfl⟩
 have la:as.length=(ssP ps).length:=by rw[<-es,Xc]
 have l64:as.length<64:=by have:=Zk4 ps;omega
 refine⟨.ref L,_,(I2.laid (t':=tk) (o:=.lst (as.map V.ref)) (λb ob e=>k b ob (XN e) e) lN ⟨by rw[Xc,X7];omega,as.map Xz,cc,Zs5 as,g⟩).drawn d,rfl,q _ _ (I2.hok.fresh lN) ⟨by rw[Xc,la],λj y x e1 e2=>?_⟩⟩;rw[Xi]at e1;obtain⟨a,ea,rfl⟩:=XD.mp e1;rw[<-es,Xi,ea]at e2;cases e2;obtain⟨_,i,i1,i2⟩:=hG a (ua a (X5 ea));refine⟨i,i1,?_⟩;rw[Xi]at i2;obtain⟨p,hp,e⟩:=XD.mp i2;show ps[i]? =YB (pk (κ a));rw[hp,<-e];rfl
def Zkh(mr:MAt):MEt:=λδ K=>mr δ λrs δ'=>n1 (λd=>∃ps:List (Int×Int),d= .list (ps.map pD)/\ps.length<64/\(∀p,p∈ps->kl p∈D10)/\K (.nd (((ssP ps).map pD).map OT.fz)) δ') (OT.datas rs)
theorem Zpc(hc:X.calm=YD)(hu:X.A.units+64<Vh)(hgl:Gl X "sorted")(hml:X.mg "sorted"=YC)(hvl:Qe "sorted"=YB (.builtin "sorted"))(hg:Gl X "set")(hm:X.mg "set"=YC)(hv:Qe "set"=YB (.type "set"))(ha:MA X io p c [a] mr)
  (he:Xu [a] X.env=(YF,eval a X.env)::Xu [] X.env:=by rfl) (hpl:(JF pos' (Xu [] X.env)).any (·.1)=YF:=by rfl)
  (he':Xu [.Call (.Name "set" pr) [a] [] pos'] X.env=(YF,eval (.Call (.Name "set" pr) [a] [] pos') X.env)::Xu [] X.env:=by rfl) (hpl':(JF pos (Xu [] X.env)).any (·.1)=YF:=by rfl) :
  ME X io p c (.Call (.Name "sorted" pl) [.Call (.Name "set" pr) [a] [] pos'] [] pos) (Zkh mr):=by
 obtain⟨_,A,s⟩:=ha;refine⟨_,Zk5 hc hu hgl hml hvl hg hm hv A he hpl he' hpl',λC H O δ fp ex K Q R h kk=>s C H O δ fp ex _ _ R h λH1 vs rs δ1 fp1 new r1 h1=>?_⟩;obtain⟨v,d,rfl,e2,q,ps,e,h64,hD,h2⟩:=(r1.das R).one h1;subst e;rw[Yct]at q;obtain⟨l,xs,rfl,hs,ht,hd⟩:=Zva q;refine⟨l,xs,ps,rfl,hs,ht,h64,hD,λp ys hp pick=>?_⟩;have sm:=Zv hp (.lst ys);exact kk _ _ _ δ1 fp1 [p] (RE.tree R r1.base r1.stp sm (J1 hp) (Zbc p) (Own.list hp (Zzz (by rw[pick.1,Xc]) λj y d e1 e2=>by
  rw[Xi]at e2;obtain⟨k,ek,rfl⟩:=XD.mp e2;obtain⟨i,i1,i2⟩:=pick.2 j y k e1 ek;obtain⟨d',ed,r⟩:=hd.get' i1;rw[Xi,Xi,i2]at ed;cases ed;exact r))) h2
def Zdi(a:FA):FE:=λδ=>(a δ).bind λq=>(Ycx (OT.datas q.1)).bind λes=>(Zgp es).bind λps=>if(decide (ps.length<64)&&ps.all Z4v)=YD then YB (.nd (((ssP ps).map pD).map OT.fz),q.2)else YC
theorem Zlt(h:ME X io p c e (Zkh (o2 ra))):ME X io p c e (o2 (Zdi ra)):=h.weak λδ K h=>by
 obtain⟨r,δ',h,k⟩:=h;obtain⟨⟨x,δ1⟩,h1,h⟩:=bs h;refine⟨x,δ1,h1,?_⟩;obtain⟨es,h2,h⟩:=bs h;obtain⟨ps,h3,h⟩:=bs h;split at h
 case isFalse=>cases h
 rename_i ok;rw[X3,decide_eq_true_iff]at ok;cases h;rw[show OT.datas x=[.list es]from Z1u h2];exact⟨ps,YW Bj (Zrw h3),ok.1,λp m=>Z9e (Vc.mp ok.2 p m),k⟩
end
end L2
namespace L2
open PySem PySem.Spec PyProof.Rows
variable {G:Xd}
def Zgr:List Xa->Option (List Bool)
 | []=>YB []
 | .bool b::r=>(Zgr r).bind λbs=>YB (b::bs)
 | _::_=>YC
theorem Zqs{es:List Xa}{bs:List Bool}(h:Zgr es=YB bs):es=bs.map BK:=by
 induction es generalizing bs with
 | nil=>cases h;rfl
 | cons d r ih=>
  cases d with
  | bool b=>
   rw[Zgr]at h;obtain⟨ks,h2,h⟩:=L2.bs h;cases h;rw[X4,<-ih h2]
  | _=>cases h
theorem Zo8(bs:List Bool):Zgr (bs.map BK)=YB bs:=by
 induction bs with
 | nil=>rfl
 | cons b bs ih=>rw[X4,Zgr,ih];rfl
theorem Ztw{bs:List Bool}:∀{xs:List V},Das G H L xs (bs.map BK)->xs=bs.map V.bl:=by
 induction bs with
 | nil=>
  intro xs h;cases h;rfl
 | cons b bs ih=>
  intro xs h;cases h with
  | cons h t=>
   cases h;rw[ih t];rfl
theorem Zpk:∀{bs:List Bool} {its:List Xe},Vals (bs.map V.bl) its->its=bs.map Value.bool:=fun{bs}=>by
 induction bs with
 | nil=>
  intro its h;cases h;rfl
 | cons b bs ih=>
  intro its h;cases h with
  | cons h t=>
   cases(show _=Value.bool b from h);rw[ih t];rfl
theorem range_all(bs:List Bool):((Xj bs.length).all λi=>bs.getD i YD)=bs.all _root_.id:=by
 have e:(Xj bs.length).map (λi=>bs.getD i YD)=bs:=Zht YD bs;have h:=YW (λl=>List.all l _root_.id) e;rw[List.all_map]at h;exact h
def Ye7(K:Xd):List V->Hp->VK->Prop:=λxs H Q=>∃(a:YG) (bs:List Bool),xs=[.ref a]/\SqL K H a (bs.map V.bl)/\Q (.bl (bs.all _root_.id)) H
theorem Zjg(hK:X.K=K)(hc:X.calm=YD):Zbm X (.builtin "all") (Ye7 K):=by
 subst hK;intro pins s O H xs us Q I r h;obtain⟨a,bs,rfl,hs,q⟩:=h;obtain⟨u,rfl,ru⟩:=vals1 r;cases(show u=Xz a from ru);obtain⟨its,rv,pl,hz⟩:=I.list hs;cases Zpk rv;have hl:=pl.isList;refine call_all_walk (wpAny_pyIter_list hl ?_);have la:a<s.heap.objs.size:=by obtain⟨_,e,_⟩:=hl;exact XN e
 refine⟨_,_,_,_,_,_,λi=>bs.getD i YD,rfl,Walks.list (by simpa using I.ok.hd hc) _ a (Xp la) _,⟨⟨_,XF _ rfl,rfl,rfl⟩,hl.push _⟩,λi v s Q E hP hQ=>?_,λh' tk k=>?_⟩
 .have hP:(bs.map Value.bool).toArray[i]? =YB v:=hP
  rw[V6,Xi]at hP;obtain⟨b,hb,rfl⟩:=XD.mp hP;have hQ:Q (bs.getD i YD) s:=hQ;rw[Xm,hb]at hQ;exact JG hQ
 .rw[XQ,Xc,range_all]
  exact⟨.bl (bs.all _root_.id),H,I.kept (t':=tk) (λb o e=>k b o (λm=>Xp (XN e) (Xq.mp m)) (Xf _ e)),rfl,q⟩
def Yge:List Xa->(Xa->Prop)->Prop:=λds k=>n1 (λd=>∃bs:List Bool,d= .list (bs.map BK)/\k (.bool (bs.all _root_.id))) ds
theorem Zy7:PNs G (Ye7 G) Yge:=λH L xs ds k Q hx h kk=>by
 obtain⟨v,d,rfl,rfl,q,bs,e,h'⟩:=hx.one h;subst e;generalize e:Bj (bs.map BK)=d at q;cases q with
 | lst l e1 r=>
  cases e;exact⟨_,bs,rfl,.inl (Ztw r▸e1),kk _ _ (.bl _) h'⟩
 | scr ks=>
  rename_i a ns;cases ns with
  | nil=>
   cases bs with
   | nil=>exact⟨_,[],rfl,ks.sq,kk _ _ (.bl _) h'⟩
   | cons b bs=>cases e
  | cons n ns=>
   cases bs with
   | nil=>cases e
   | cons b bs=>cases(List.cons.inj (Uj e)).1
 | _=>cases e
def Z79:List Xa->Option Xa:=λds=>match ds with|[.list es]=>(Zgr es).bind λbs=>YB (.bool (bs.all _root_.id))|_=>YC
theorem Z8r:∀ds r k,Z79 ds=YB r->k r->Yge ds k:=λds r k h hk=>by
 unfold Z79 at h;split at h
 case h_2=>cases h
 obtain⟨bs,h1,h⟩:=L2.bs h;cases h;exact⟨bs,by rw[Zqs h1],hk⟩
theorem Z80{d:Xa}{r:OT}(h:fC d δ=YB (r,δ')):δ'=δ:=by
 cases h;rfl
end L2
namespace My
open PySem L2 PySem.Spec
def Zaa:FS :=
 (Zw (wE (Zbb Zgu (Zd (Zb 0) Zm)) (Wi 2))
  (Zw (W5 (iRa (Zd (Zb 2) Zm)) (gNm 3)
  (W5 (iRb (Zd (Ze J6 (Zb 3) (fC (.int 1))) (Zd (Zb 2) Zm))) (gNm 4)
  (Zw (wE (Zfe Zm) (Wi 5))
  (Zw (Wr (tV (Ze gEq (Zn gIx (Zb 1) (Zb 3)) (Zn gIx (Zb 1) (Zb 4))))
  (wE (Z5 1 [1,3] (iRa (Zd (Zb 2) Zm)) (gNm 0) (tV (Ze gNe (Zn gIx (Zb 1) (Zb 0)) (Zn gIx (Zb 1) (Zb 2)))) (Zb 0)) (Wi 5))
  fNx)
  (W5 (Zbf (Zb 5)) (gNm 6)
  (Wr (tV (Ze gEq (Ze J6 (Zn gIx (Zn gIx (Zb 0) (Zb 3)) (Zb 6)) (Zn gIx (Zn gIx (Zb 0) (Zb 6)) (Zb 4))) (Zn gIx (Zn gIx (Zb 0) (Zb 3)) (Zb 4))))
  (wE (Zbd (Zd (Zb 3) (Zd (Zb 4) (Zd (Zb 6) Zm)))) W2)
  fNx))))))
  (wE (Zbd Zm) W2)))
def Yx:FD:=J8 2 7 Zaa
def Zck:FS :=
 (Zw (wE (Z5 1 [0] (iRa (Zd (Zb 0) Zm)) (gNm 0) Zcj (Z5 1 [1,0] (iRa (Zd (Zb 1) Zm)) (gNm 0) Zcj (Ze Ze2 (Zb 1) (Zbb Zzb (Zd (Ze gNe (Zb 2) (Zb 0)) Zm))))) (Ja 2))
  (Zw (W5 (Zbf (Zb 1)) (gTp 2 (gCn (gNm 3) (gCn (gNm 4) gNl)))
  (Zw (Zrf 2 (fC (.int 1)) (Zb 3) (Zb 4))
  (Zrf 2 (fC (.int 1)) (Zb 4) (Zb 3))))
  (Zw (W5 (iRa (Zd (Zb 0) Zm)) (gNm 5)
  (W5 (iRa (Zd (Zb 0) Zm)) (gNm 6)
  (Z2p 2 (Z5 1 [2,6,5] (iRa (Zd (Zb 0) Zm)) (gNm 0) Zcj (Zbb Zxq (Zd (Zn gIx (Zn gIx (Wc 1) (Zb 2)) (Zb 0)) (Zd (Ze J6 (Zn gIx (Zn gIx (Wc 1) (Zb 2)) (Zb 3)) (Zn gIx (Zn gIx (Wc 1) (Zb 3)) (Zb 0))) Zm)))) (Zb 6))))
  (Zez 2))))
def Zak:FD:=J8 2 7 Zck
def Zcf:FS :=
 (Zw (wE (Z8 Zak (Zd (Zb 0) (Zd (Zb 1) Zm))) (Wi 2))
  (Zw (wE (Zfe Zm) (Ja 3))
  (Zw (W5 (Zbf (Zb 1)) (gTp 2 (gCn (gNm 4) (gCn (gNm 5) gNl)))
  (W5 (iRa (Zd (Zb 0) Zm)) (gNm 6)
  (Wr (tV (Ze gEq (Zn gIx (Zn gIx (Zb 2) (Zb 4)) (Zb 6)) (Zn gIx (Zn gIx (Zb 2) (Zb 5)) (Zb 6))))
  (wE (Zbd (Zd (fC (.str "even")) (Zd (Zbd (Zd (Zb 4) (Zd (Zb 5) (Zd (Zb 6) Zm)))) Zm))) W2)
  fNx)))
  (Zw (W5 (Zbf (Zb 1)) (gTp 2 (gCn (gNm 4) (gCn (gNm 5) gNl)))
  (Zw (wE (Z8 Yx (Zd (Zb 2) (Zd (Z5 1 [2,4,5] (iRa (Zd (Zb 0) Zm)) (gNm 0) Zcj (Ze gLt (Zn gIx (Zn gIx (Zb 1) (Zb 2)) (Zb 0)) (Zn gIx (Zn gIx (Zb 1) (Zb 3)) (Zb 0)))) Zm))) (Wi 7))
  (Zw (Wr (tV (Ze gNe (Zb 7) (Zbd Zm)))
  (wE (Zbd (Zd (fC (.str "not whole")) (Zd (Zn Ziz (Zbd (Zd (Zb 4) (Zd (Zb 5) Zm))) (Zb 7)) Zm))) W2)
  fNx)
  (Zw (wE (Z5 1 [2,4,5] (iRa (Zd (Zb 0) Zm)) (gNm 0) (tV (Ze gLt (Zn gIx (Zn gIx (Zb 1) (Zb 2)) (Zb 0)) (Zn gIx (Zn gIx (Zb 1) (Zb 3)) (Zb 0)))) (Zb 0)) (Wi 8))
  (Zw (Wr (tV (Ze (Za7 YF) (fC (.int 0)) (Zb 8)))
  (wE (Z5 1 [8] (iRa (Zd (Zb 0) Zm)) (gNm 0) (tV (Ze (Za7 YD) (Zb 0) (Zb 1))) (Zb 0)) (Wi 8))
  fNx)
  (Wr (tV (Ze (Za7 YD) (Zb 8) (Wc 3)))
  (Z0 3 (Zb 8))
  fNx))))))
  (Zw (Za8 3 (wE (Zfe Zm) (Ja 9)))
  (Zw (W5 (iRa (Zd (Zb 0) Zm)) (gNm 6)
  (Z0 9 (Z5o Zta (fC (.str "")) (Zd (Z5 1 [6] (Zbf (fBl (Zjs kdL ltI) (Zd (Zb 3) Zm))) (gNm 0) Zcj (Zn Yaz (fC (.str "01")) (Zbb Zzb (Zd (Ze (Za7 YF) (Zb 1) (Zb 0)) Zm)))) Zm))))
  (Zwq 9 (fC (.str "halves")))))))))
def Wh:FD:=J8 2 10 Zcf
def Zbh:FS :=
 (wE (Zza (Zn1 "int" (Zb 0)) (fUn Ybc (Zn1 "bool" (Zb 0)))) W2)
def Jg:FD:=J8 1 1 Zbh
def Zat:FS :=
 (Zw (W5 (Zbf (Zb 1)) (gTp 2 (gCn (gNm 2) (gCn (gNm 3) gNl)))
  (W5 (iRa (Zd (Zbb Zgu (Zd (Zb 0) Zm)) Zm)) (gNm 4)
  (Wr (tV (Ze gEq (Zn gIx (Zn gIx (Zb 0) (Zb 2)) (Zb 4)) (Zn gIx (Zn gIx (Zb 0) (Zb 3)) (Zb 4))))
  (wE (Zbd (Zd (Zb 2) (Zd (Zb 3) (Zd (Zb 4) Zm)))) W2)
  fNx)))
  (wE (fC .none) W2))
def Wb:FD:=J8 2 5 Zat
def Zbi:FS :=
 (wE (Z5 1 [0,2,1] (iRa (Zd (Zbb Zgu (Zd (Zb 0) Zm)) Zm)) (gNm 0) Zcj (Ze gLt (Zn gIx (Zn gIx (Zb 1) (Zb 2)) (Zb 0)) (Zn gIx (Zn gIx (Zb 1) (Zb 3)) (Zb 0)))) W2)
def Yu:FD:=J8 3 3 Zbi
def Jk:FS :=
 (Zw (wE (Zbb Zgu (Zd (Zb 0) Zm)) (Wi 2))
  (Zw (W5 (Zbf (Z8 J0 (Zd (Zb 2) Zm))) (gTp 2 (gCn (gNm 3) (gCn (gNm 4) gNl)))
  (Wr (tV (Ze gEq (Zn gIx (Zb 1) (Zb 3)) (Zn gIx (Zb 1) (Zb 4))))
  (W5 (iRa (Zd (Zb 2) Zm)) (gNm 5)
  (Wr (tAn (tV (Ze gNe (Zn gIx (Zb 1) (Zb 5)) (Zn gIx (Zb 1) (Zb 3)))) (tV (Ze gEq (Ze J6 (Zn gIx (Zn gIx (Zb 0) (Zb 3)) (Zb 5)) (Zn gIx (Zn gIx (Zb 0) (Zb 5)) (Zb 4))) (Zn gIx (Zn gIx (Zb 0) (Zb 3)) (Zb 4)))))
  (wE (Zbd (Zd (Zb 3) (Zd (Zb 4) (Zd (Zb 5) Zm)))) W2)
  fNx))
  fNx))
  (wE (fC .none) W2)))
def We:FD:=J8 2 6 Jk
def W4:FS :=
 (Zw (W5 (Zbf (Zb 1)) (gTp 2 (gCn (gNm 2) (gCn (gNm 3) gNl)))
  (Zw (wE (Z8 We (Zd (Zb 0) (Zd (Z8 Yu (Zd (Zb 0) (Zd (Zb 2) (Zd (Zb 3) Zm)))) Zm))) (Wi 4))
  (Wr (tV (Ze Zh5 (Zb 4) (fC .none)))
  (wE (Zn Ziz (Zbd (Zd (Zb 2) (Zd (Zb 3) Zm))) (Zb 4)) W2)
  fNx)))
  (wE (fC .none) W2))
def Yg:FD:=J8 2 5 W4
def Wo:FS :=
 (W5 (Zbf (Zb 1)) (gNm 2)
  (Wr (tO (tNo (tD (Z8 Ym (Zd (Zb 2) Zm)))) (tNo (tV (Zci (λi j=>decide (i<=j)) (λi j=>decide (i<j)) (fC (.int 0)) (Zb 2) (Zb 0)))))
  (Zcp "NoCut")
  fNx))
def Yr:FD:=J8 2 3 Wo
def Zdk:FS :=
 (Zw (wE (Z8 Yr (Zd (Zb 0) (Zd (Zb 1) Zm))) Zr2)
  (Zw (wE (Z5 1 [1] (iRa (Zd (Zb 0) Zm)) (gNm 0) (tV (Ze (Zuv YD) (Zb 0) (Zb 1))) (Zb 0)) (Wi 2))
  (Zw (Wr (tO (tV (Ze gEq (Zbb Zgu (Zd (Zb 1) Zm)) (fC (.int 0)))) (tV (Ze gEq (Zbb Zgu (Zd (Zb 2) Zm)) (fC (.int 0)))))
  (Zcp "NoCut")
  fNx)
  (Zw (Wr (tV (Ze (Zuv YF) (fC (.int 0)) (Zb 1)))
  (wE (Zb 2) W2)
  fNx)
  (wE (Zfa (Zd (Zb 1) Zm)) W2)))))
def Jq:FD:=J8 2 3 Zdk
def Jz:FS :=
 (Zw (wE (Zfe Zm) (Ja 2))
  (Zw (W5 (Zbf (Zb 1)) (gTp 2 (gCn (gNm 3) (gCn (gNm 4) gNl)))
  (Zw (wE (Z8 Jq (Zd (Zbb Zgu (Zd (Zb 0) Zm)) (Zd (Z5 2 [] (Ztu (Zd (Z8 Yu (Zd (Zb 0) (Zd (Zb 3) (Zd (Zb 4) Zm)))) Zm)) (gTp 2 (gCn (gNm 0) (gCn (gNm 1) gNl))) (tD (Zb 1)) (Zb 0)) Zm))) (Wi 5))
  (Wr (tV (Ze (Za7 YD) (Zb 5) (Wc 2)))
  (Z0 2 (Zb 5))
  fNx)))
  (Za8 2 (wE (fBl (Zjs kdL ltI) (Zd (Zb 2) Zm)) W2))))
def Yp:FD:=J8 2 6 Jz
def Zah:FS :=
 (Zw (wE (Z5 1 [] (iRa (Zd (Zb 0) Zm)) (gNm 0) Zcj (Zfe Zm)) (Ja 2))
  (Zw (W5 (Zbf (Zb 1)) (gTp 2 (gCn (gNm 3) (gCn (gNm 4) gNl)))
  (Zw (Zhn 2 (Zb 3) (Zb 4))
  (Zhn 2 (Zb 4) (Zb 3))))
  (Zez 2)))
def Wv:FD:=J8 2 5 Zah
def Je:FS :=
 (wE (Zci (λi j=>decide (i<=j)) (λi j=>decide (i<=j)) (fC (.int 1)) (Zb 0) (fC (.int 10))) W2)
def Y6:FD:=J8 1 1 Je
def Zbg:FS :=
 (Zw (W5 (Zsf (Zd (Zb 0) (Zd (fSl (Zb 0) (oI (fC (.int 1))) oN) Zm))) (gTp 2 (gCn (gNm 1) (gCn (gNm 2) gNl)))
  (Wr (tNo (tV (Ze Z7f (Zb 1) (Zb 2))))
  (wE (fC (.bool YF)) W2)
  fNx))
  (wE (fC (.bool YD)) W2))
def Ji:FD:=J8 1 3 Zbg
def Zad:FS :=
 (Zw (Wr (tNo (tD (Z8 Y6 (Zd (Zb 0) Zm))))
  (Zcp "NoWeb")
  fNx)
  (Zw (W5 (Zbf (Zb 1)) (gTp 2 (gCn (gNm 2) (gCn (gNm 3) gNl)))
  (Wr (tNo (tV (Zgd (λi j=>decide (i<=j)) (λi j=>decide (i<j)) (λi j=>decide (i<j)) (fC (.int 0)) (Zb 2) (Zb 3) (Zb 0))))
  (Zcp "NoWeb")
  fNx))
  (Wr (tNo (tD (Z8 Ji (Zd (Zb 1) Zm))))
  (Zcp "NoWeb")
  fNx)))
def Ww:FD:=J8 2 4 Zad
def Zar:FS :=
 (Zw (wE (Zzj (Zb 1) (fC (.int 0))) (Ja 2))
  (Zw (wE (Zfe (Zd (Zb 1) Zm)) (Wi 3))
  (Zw (Zhm (tV (Ze gGt (Zbb Zgu (Zd (Zb 3) Zm)) (fC (.int 0)))) (Zw (wE (Zfe Zm) (Ja 4))
  (Zw (W5 (Zbf (Zb 3)) (gNm 5)
  (W5 (Zbf (Zn gIx (Zb 0) (Zb 5))) (gNm 6)
  (Wr (tV (Ze (Zuz YD) (Zb 6) (Wc 2)))
  (Zw (Zjk 2 (Ze J6 (Zn Zpt (Wc 2) (Zb 5)) (fC (.int 1))) (Zb 6))
  (Z0 4 (Zb 6)))
  fNx)))
  (Za8 4 (wE (Zb 4) (Wi 3))))))
  (Zez 2))))
def Yl:FD:=J8 2 7 Zar
def Zbp:FS :=
 (Zw (wE (Z8 Ww (Zd (Zb 0) (Zd (Zb 1) Zm))) Zr2)
  (Zw (wE (Z8 Wv (Zd (Zb 0) (Zd (Zb 1) Zm))) (Wi 2))
  (Zw (wE (Zfe Zm) (Ja 3))
  (Zw (W5 (iRa (Zd (Zb 0) Zm)) (gNm 4)
  (Zw (wE (Z8 Yl (Zd (Zb 2) (Zd (Zb 4) Zm))) (Wi 5))
  (Zw (Wr (tV (Ze gLt (Zbb Zq8 (Zd (Zb 5) Zm)) (Zb 0)))
  (Zcp "NoWeb")
  fNx)
  (Z0 3 (Z5 1 [5] (iRa (Zd (Zb 0) Zm)) (gNm 0) Zcj (Zn Zpt (Zb 1) (Zb 0)))))))
  (Zez 3)))))
def Y7:FD:=J8 2 6 Zbp
def Zce:FS :=
 (wE (Z5o Zta (fC (.str "")) (Zd (Z5 1 [0] (Zbf (Zb 1)) (gNm 0) Zcj (fIf (tV (Ze (Zuv YF) (Zb 1) (Zb 0))) (fC (.str "1")) (fC (.str "0")))) Zm)) W2)
def Wj:FD:=J8 2 2 Zce
def Y0:FS :=
 (Zw (wE (Z8 Y7 (Zd (Zb 0) (Zd (Zb 1) Zm))) (Wi 2))
  (Zw (wE (Z8 Wb (Zd (Zb 2) (Zd (Zb 1) Zm))) (Wi 3))
  (Zw (Wr (tV (Ze Zh5 (Zb 3) (fC .none)))
  (wE (Zbd (Zd (fC (.str "even")) (Zd (Zb 3) Zm))) W2)
  fNx)
  (Zw (wE (Z8 Yg (Zd (Zb 2) (Zd (Zb 1) Zm))) (Wi 4))
  (Zw (Wr (tV (Ze Zh5 (Zb 4) (fC .none)))
  (wE (Zbd (Zd (fC (.str "not whole")) (Zd (Zb 4) Zm))) W2)
  fNx)
  (Zw (wE (Z8 Yp (Zd (Zb 2) (Zd (Zb 1) Zm))) (Wi 5))
  (wE (Zwc (Zd (fC (.str "halves")) (Zd (Z5 1 [5] (iRa (Zd (Zb 0) Zm)) (gNm 0) Zcj (Z8 Wj (Zd (Zb 0) (Zd (Zb 1) Zm)))) Zm))) W2)))))))
def Yj:FD:=J8 2 6 Y0
def Zba:FS :=
 (Zw (wE (fBl Zr9 (Zd (Zb 1) Zm)) (Wi 3))
  (Zw (wE (Z8 Yj (Zd (Zb 0) (Zd (Zb 3) Zm))) (Ja 4))
  (Zw (Wr (tO (tNo (tD (Zn1 "tuple" (Wc 4)))) (tO (tV (Ze gNe (Zbb Zgu (Zd (Wc 4) Zm)) (fC (.int 2)))) (tO (tNo (tD (Zn1 "str" (Zn gIx (Wc 4) (fC (.int 0)))))) (tV (Ze gNe (Zb 3) (Zb 1))))))
  (wE (fC (.bool YF)) W2)
  fNx)
  (Zw (Wr (tO (tV (Ze gNe (Zn gIx (Wc 4) (fC (.int 0))) (Zn gIx (Zb 2) (fC (.int 0))))) (tV (Ze gNe (Zn1 "list" (Zn gIx (Wc 4) (fC (.int 1)))) (Ze gEq (Zn gIx (Zb 2) (fC (.int 0))) (fC (.str "halves"))))))
  (wE (fC (.bool YF)) W2)
  fNx)
  (Zw (Wr (tV (Ze gNe (Zn gIx (Zb 2) (fC (.int 0))) (fC (.str "halves"))))
  (wE (Zza (Zn1 "tuple" (Zn gIx (Wc 4) (fC (.int 1)))) (Zza (Zbb Z79 (Zd (Z5 1 [] (iTp (Zn gIx (Wc 4) (fC (.int 1)))) (Zqh 0) Zcj (Z8 Jg (Zd (Zb 0) Zm))) Zm)) (Ze gEq (Wc 4) (Zb 2)))) W2)
  fNx)
  (Zw (Wr (tO (tNo (tD (Zbb Z79 (Zd (Z5 1 [] (Zbf (Zn gIx (Wc 4) (fC (.int 1)))) (Zqh 0) Zcj (Zn1 "str" (Zb 0))) Zm)))) (tV (Ze gNe (Wc 4) (Zb 2))))
  (wE (fC (.bool YF)) W2)
  fNx)
  (Zw (Zhd 4 1 (fC (.str "")))
  (wE (fC (.bool YD)) W2))))))))
def Z6:FD:=J8 3 5 Zba
def Zai:FS :=
 (Zw (wE (Ze Zbl (Zb 0) (Ze Ze2 (Ze Zu8 (fC (.int 10)) (fC (.int 45))) (Ze Zu8 (fC (.int 10)) (fC (.int 45))))) (Wi 0))
  (Zw (wE (Zfe Zm) (Ja 3))
  (Zw (wE (Ze gSb (Zb 0) (Ze Zu8 (fC (.int 10)) (fC (.int 18)))) (Wi 4))
  (Zw (W5 (iRa (Zd (Zb 1) Zm)) (gNm 5)
  (Zw (wE (Ze Zbl (Ze Ze2 (Ze J6 (Ze J6 (Zb 0) (Ze Ze2 (fC (.int 977)) (Zb 5))) (fC (.int 1))) (fC (.int 48271))) (fC (.int 2147483647))) (Wi 6))
  (Zw (wE (Ze Zbl (Ze Ze2 (Zb 6) (Zb 6)) (fC (.int 2147483629))) (Wi 6))
  (Zw (wE (Ze J7 (Ze Zbl (Ze Ze2 (Ze J6 (Zb 6) (Ze Ze2 (fC (.int 40692)) (Ze J6 (Zb 5) (fC (.int 3))))) (fC (.int 69621))) (fC (.int 2147483563))) (fC (.int 8))) (Wi 6))
  (Zw (Wr (tV (Ze gGe (Zb 0) (Ze Zu8 (fC (.int 10)) (fC (.int 18)))))
  (Zw (wE (Zb 4) (Wi 6))
  (wE (Ze J7 (Zb 4) (Zb 2)) (Wi 4)))
  fNx)
  (Z0 3 (Ze Zbl (Zb 6) (Zb 2))))))))
  (Zez 3)))))
def Yz:FD:=J8 3 7 Zai
def Zcm:FS :=
 (Zw (wE (Z8 Yz (Zd (Zb 0) (Zd (fC (.int 34)) (Zd (fC (.int 100)) Zm)))) (Wi 2))
  (Zw (wE (Ze J6 (fC (.int 1)) (Ze Zbl (Zn gIx (Zb 2) (fC (.int 0))) (Zb 1))) (Wi 3))
  (Zw (wE (Z5 1 [] (iRa (Zd (Zb 3) Zm)) (gNm 0) Zcj (Zb 0)) (Ja 4))
  (Zw (wE (Zfe Zm) (Ja 5))
  (Zw (W5 (iRa (Zd (Zb 3) Zm)) (gNm 6)
  (Z0 5 (Z4y 4 (Ze Zbl (Zn gIx (Zb 2) (Ze J6 (fC (.int 1)) (Zb 6))) (Zbb Zgu (Zd (Wc 4) Zm))))))
  (Zw (wE (Zfe Zm) (Ja 7))
  (Zw (wE (Z46 (fC (.int 0)) (Zb 3)) (Ja 8))
  (Zw (W5 (iRb (Zd (fC (.int 1)) (Zd (Zb 3) Zm))) (gNm 6)
  (Zw (Z0 7 (Zrh (Zbd (Zd (Zn gIx (Wc 5) (Ze Zbl (Zn gIx (Zb 2) (Ze J6 (fC (.int 11)) (Zb 6))) (Zb 6))) (Zd (Zn gIx (Wc 5) (Zb 6)) Zm)))))
  (Z2p 8 (Ze gSb (fC (.int 1)) (Zn gIx (Wc 8) (Zn gIx (Zn gIx (Wc 7) (fUn Zv3 (fC (.int 1)))) (fC (.int 0))))) (Zn gIx (Wc 5) (Zb 6)))))
  (Zw (W5 (iRa (Zd (Ze Zbl (Zn gIx (Zb 2) (fC (.int 21))) (fC (.int 13))) Zm)) (gNm 6)
  (Zw (wE (Ze Zbl (Ze J7 (Zn gIx (Zb 2) (Ze J6 (fC (.int 22)) (Zb 6))) (fC (.int 10))) (Zb 3)) (Wi 9))
  (Zw (wE (Ze Zbl (Zn gIx (Zb 2) (Ze J6 (fC (.int 22)) (Zb 6))) (Zb 3)) (Wi 10))
  (Wr (tAn (tV (Ze gNe (Zb 9) (Zb 10))) (tO (tV (Ze gEq (Ze Zbl (Ze J7 (Zn gIx (Zb 2) (fC (.int 21))) (fC (.int 13))) (fC (.int 3))) (fC (.int 0)))) (tV (Ze gNe (Zn gIx (Wc 8) (Zb 9)) (Zn gIx (Wc 8) (Zb 10))))))
  (Z0 7 (Zbd (Zd (Zb 9) (Zd (Zb 10) Zm))))
  fNx))))
  (wE (Zbd (Zd (Zb 3) (Zd (Zdi (Zd (Z5 2 [] (Zbf (Wc 7)) (gTp 2 (gCn (Zqh 0) (gCn (Zqh 1) gNl))) Zcj (Zbd (Zd (Zbb Zxq (Zd (Zb 0) (Zd (Zb 1) Zm))) (Zd (Zbb Z2i (Zd (Zb 0) (Zd (Zb 1) Zm))) Zm)))) Zm)) Zm))) W2))))))))))
def Wk:FD:=J8 2 11 Zcm
def Zhs:FS :=
 (Zw (wE (Zfe Zm) (Ja 1))
  (Zw (W5 (Zbf (Zn Zuw (fSl (Zb 0) (oI (fC (.int 1))) (oI (fC (.int 4)))) (Zfe (Zd (Z8 Yw (Zd (Zb 0) (Zd (fC (.int 0)) Zm))) Zm)))) (gNm 2)
  (Zw (wE (Z8 Wk (Zd (Zb 2) (Zd (fC (.int 8)) Zm))) (Z4s (gTp 2 (gCn (gNm 3) (gCn (gNm 4) gNl)))))
  (Z0 1 (Zbd (Zd (Zb 3) (Zd (Zb 4) (Zd (Z8 Wh (Zd (Zb 3) (Zd (Zb 4) Zm))) Zm)))))))
  (Zw (Za8 1 (W5 (Zbf (Zn Zuw (Zb 1) (Ztm (Zb 1) oN oN (oI (fUn Zv3 (fC (.int 1))))))) (gTp 3 (gCn (gNm 3) (gCn (gNm 4) (gCn (gNm 5) gNl))))
  (Wr (tNo (tD (Z8 Z6 (Zd (Zb 3) (Zd (Zb 4) (Zd (Zb 5) Zm))))))
  (wE (fC (.bool YF)) W2)
  fNx)))
  (wE (fC (.bool YD)) W2))))
def Zhq:FD:=J8 1 6 Zhs
end My
namespace L2
open PySem PySem.Spec
def EpS(S:FS)(δ:Zf)(N:Zf->Prop)(R:Xa->Zf->Prop):Prop:=(∃δ',S δ= .nx δ'/\N δ')\/∃o δ',S δ= .rt o δ'/\R o.data δ'
section
variable {e a b:FE}{as:FA}{Q:Xa->Zf->Prop}{QA:List Xa->Zf->Prop}{T:Bool->Zf->Prop}{t u:FT}{S:FS}{N:Zf->Prop}{R:Xa->Zf->Prop}{d:Xa}
theorem Yaa(h:S δ= .nx δ')(q:N δ'):EpS S δ N R:=.inl ⟨δ',h,q⟩
theorem Zxg{g:FG}(I:Nat->Zf->Prop)(ds:List Xa)(m:Nat)(h0:I m δ)(turn:∀(k:Nat) (d:Xa) (δ:Zf),ds[k]? =YB d->I (m+k) δ->∃δ1,g d δ=YB δ1/\EpS S δ1 (I (m+k+1)) R)(fin:∀δ',I (m+ds.length) δ'->N δ') :
  (∃ δ',forLoop g S ds δ= .nx δ'/\N δ')\/∃o δ',forLoop g S ds δ= .rt o δ'/\R o.data δ':=by
 induction ds generalizing m δ with
 | nil=>exact .inl ⟨δ,rfl,fin δ h0⟩
 | cons d ds ih=>
  obtain⟨δ1,e1,h⟩:=turn 0 d δ rfl h0;rcases h with⟨δ2,e2,q⟩|⟨o,δ2,e2,q⟩
  .have e:forLoop g S (d::ds) δ=forLoop g S ds δ2:=by rw[forLoop,e1];show(match S δ1 with| .nx δ2=>_| .ct δ2=>_| .bk δ2=>_|r=>_)=_;rw[e2]
   rw[e];refine ih (m+1) q (λk d' δ' hk hI=>?_) λδ' hI=>fin δ' (by rw[QC];rw[show m+1+ds.length=m+(ds.length+1) by omega]at hI;exact hI);have:=turn (k+1) d' δ' hk (by rw[show m+(k+1)=m+1+k by omega];exact hI)
   rwa[show m+(k+1)+1=m+1+k+1 by omega]at this
  .refine .inr ⟨o,δ2,?_,q⟩
   rw[forLoop,e1];show(match S δ1 with| .nx δ2=>_| .ct δ2=>_| .bk δ2=>_|r=>_)=_;rw[e2]
theorem Zz3{it:FI}{g:FG}{δ0:Zf}(I:Nat->Zf->Prop)(hi:it δ=YB (ds,δ0))(h0:I 0 δ0)(turn:∀(k:Nat) (d:Xa) (δ:Zf),ds[k]? =YB d->I k δ->∃δ1,g d δ=YB δ1/\EpS S δ1 (I (k+1)) R)(fin:∀δ',I ds.length δ'->N δ'):EpS (W5 it g S) δ N R:=by
 have e:W5 it g S δ=forLoop g S ds δ0:=by unfold W5;rw[hi]
 have h:=Zxg (R:=R) (N:=N) (S:=S) (g:=g) (δ:=δ0) I ds 0 h0 (λk d δ hk hI=>by rw[V1]at hI|-;exact turn k d δ hk hI) (λδ' hI=>by rw[V1]at hI;exact fin δ' hI);unfold EpS;rw[e];exact h
end
end L2
namespace My
open PySem L2 PySem.Spec
inductive Rch(E:Nat->Nat->Prop)(s:Nat):Nat->Prop
 | refl:Rch E s s
 | step {k m:Nat}:Rch E s k->E k m->Rch E s m
theorem Rch.trans{E:Nat->Nat->Prop}{a b c:Nat}(h:Rch E a b)(k:Rch E b c):Rch E a c:=by
 induction k with
 | refl=>exact h
 | step _ e ih=>exact .step ih e
theorem Rch.symm{E:Nat->Nat->Prop}(hs:∀a b,E a b->E b a){a b:Nat}(h:Rch E a b):Rch E b a:=by
 induction h with
 | refl=>exact .refl
 | step _ e ih=>exact Rch.trans (.step .refl (hs _ _ e)) ih
theorem Rch.closed{E:Nat->Nat->Prop}{s:Nat}{ks:List Nat}(h0:s∈ks)(hc:∀k∈ks,∀m,E k m->m∈ks)(h:Rch E s m):m∈ks:=by
 induction h with
 | refl=>exact h0
 | step _ e ih=>exact hc _ ih _ e
theorem Zi2{ks:List Nat}{n:Nat}(hd:ks.Nodup)(hl:∀k∈ks,k<n):ks.length<=n:=by
 have:=hd.length_le_of_subset (l₂:=Xj n) λk m=>XH.mpr (hl k m)
 rwa[Xr]at this
theorem Z1t{ks:List Nat}{n:Nat}(h:∀k<n,k∈ks):n<=ks.length:=by
 have:=(List.nodup_range (n:=n)).length_le_of_subset (l₂:=ks) λk m=>h k (XH.mp m)
 rwa[Xr]at this
def kI(k:Nat):KY:=.inl (.inl (k:Int))
def dI(k:Nat):Xa:=.int (k:Int)
theorem Zqm{a b:Nat}(h:kI a=kI b):a=b:=VP (Sum.inl.inj (Sum.inl.inj h))
theorem Ztv(k:Nat):Zjc (dI k)=YB (kI k):=rfl
theorem Zyt:∀{ks:List Nat} {vs:List Xa},vs.length=ks.length->(m∈ks->∃v∈vs,Zuy (kI m) (ks.map kI) vs=YB v)/\(m∉ks->Zuy (kI m) (ks.map kI) vs=YC):=by
 intro ks
 induction ks with
 | nil=>exact λ_=>⟨(λh=>nomatch h),λ_=>rfl⟩
 | cons k ks ih=>
  intro vs hl;cases vs with
  | nil=>cases hl
  | cons v vs=>
   obtain⟨i1,i2⟩:=ih (Nat.succ.inj hl);rw[X4,Zuy]
   by_cases c:k=m
   .subst c
    rw[YM rfl];exact⟨λ_=>⟨v,.head _,rfl⟩,λh=>YZ (.head _) h⟩
   .rw[YQ λe=>c (Zqm e)]
    refine⟨λh=>?_,λh=>i2 λz=>h (.tail _ z)⟩;obtain⟨w,hw,e⟩:=i1 ((Xo.mp h).resolve_left λe=>c e.symm);exact⟨w,.tail _ hw,e⟩
theorem Z8u{ks:List Nat}(h:m∉ks):Zzn (kI m) (ks.map kI)=YF:=by
 unfold Zzn;rw[List.any_map];refine List.any_eq_false.mpr λk hk e=>?_;exact h (Zqm (YX e)▸hk)
theorem Zyo{a b:FE}{x y d:Xa}(ha:EvV a δ x)(hb:EvV b δ y)(h:Zpt x y=YB (.fz d)):EvV (Zn Zpt a b) δ d:=Zhj ha hb h (OT.data_fz _)
theorem Yaf(f:Nat->Nat):∀{ks:List Nat},m∈ks->Zuy (kI m) (ks.map kI) (ks.map λk=>dI (f k))=YB (dI (f m)):=by
 intro ks
 induction ks with
 | nil=>exact λh=>nomatch h
 | cons k ks ih=>
  intro h;rw[X4,X4,Zuy]
  by_cases c:k=m
  .rw[YM (by rw[c]),c]
  .rw[YQ λe=>c (Zqm e)]
   exact ih ((Xo.mp h).resolve_left λe=>c e.symm)
theorem Z8x{f:Nat->Nat}{ks:List Nat}(hm:m∈ks):Zpt (dcD YF (ks.map kI) (ks.map λk=>dI (f k))) (dI m)=YB (.fz (dI (f m))):=by
 show((Zjc (dI m)).bind λk=>if Zrj k=YF then(Zg7 k _).map OT.fz else YC)=_;rw[Ztv,Xh,YM (show Zrj (kI m)=YF from rfl),Zfp,Yaf f hm];rfl
theorem Ydo{ks:List Nat}{vs:List Xa}(hl:vs.length=ks.length):Zuz YD (dI m) (dcD YF (ks.map kI) vs)=YB (.bool (!decide (m∈ks))):=by
 show((Zjc (dI m)).bind λk=>if Zrj k=YF then YB (BK (!(Zg7 k _).isSome))else YC)=_;rw[Ztv,Xh,YM (show Zrj (kI m)=YF from rfl),Zfp]
 by_cases c:m∈ks
 .obtain⟨v,_,e⟩:=(Zyt hl).1 c
  rw[e,YS c];rfl
 .rw[(Zyt hl).2 c,YT c];rfl
theorem Zvn{e j:FE}{d:Xa}{ks:List Nat}{vs:List Xa}(he:EvV e δ d)(hi:δ[i]? =YB (YB (.dc YF (ks.map kI) vs)))(hj:EvV j δ (dI m))(hl:ks.length<1000000)(hm:m∉ks) :
  Zjk i e j δ= .nx (δ.set i (YB (.dc YF ((ks++[m]).map kI) (vs++[d])))):=by
 obtain⟨t1,e1,d1⟩:=he;obtain⟨t2,e2,d2⟩:=hj;unfold Zjk;rw[Za9,e1,Z3,hi];dsimp only;rw[Za9,e2,Z3,d1,d2,Ztv];dsimp only;rw[YM ⟨rfl,by rw[X7,Xc];omega⟩];unfold Zsa Zq2;rw[Z8u hm,YQ Xx,YQ Xx,Qh];rfl
def eB(bs:Xa)(s:Nat)(ks:List Nat)(vs:List Xa)(ed:List Nat)(o4 o5 o6:Option OT):Zf:=[YB (.fz bs),YB (.fz (dI s)),YB (.dc YF (ks.map kI) vs),YB (.fz (.list (ed.map dI))),o4,o5,o6]
def lsO(ns:List Nat):OT:=.nd ((ns.map dI).map OT.fz)
theorem Zfg(b:List Nat)(m:Nat):lsO (b++[m])= .nd ((b.map dI).map OT.fz++[OT.fz (dI m)]):=by
 unfold lsO;rw[Qh,Qh];rfl
structure Met(E:Nat->Nat->Prop)(n s:Nat)(f:Nat->Nat)(ks:List Nat):Prop where
 nd:ks.Nodup
 st:s∈ks
 lt:∀k∈ks,k<n
 rch:∀k∈ks,Rch E s k
 z:f s=0
 up:∀k∈ks,k≠s->∃m∈ks,E m k/\f k=f m+1
abbrev vF(f:Nat->Nat)(ks:List Nat):List Xa:=ks.map λk=>dI (f k)
section
variable {E:Nat->Nat->Prop}{n s:Nat}{nb:Nat->List Nat}{bs:Xa}
theorem Zo2{ks ks0 bey ed:List Nat}{f:Nat->Nat}{p:Nat}(hn:n<=10)(M:Met E n s f ks)(hk:ks=ks0++bey)(hp:p∈ks)(hm:m<n)(he:E p m) :
  ∃t f' o,Met E n s f' (ks++t)/\m∈ks++t/\(∀x∈ks,f' x=f x)/\(∀x∈t,f' x=f p+1)/\
   (Wr (tV (Ze (Zuz YD) (Zb 6) (Wc 2))) (Zw (Zjk 2 (Ze J6 (Zn Zpt (Wc 2) (Zb 5)) (fC (.int 1))) (Zb 6)) (Z0 4 (Zb 6))) fNx) (eB bs s ks (vF f ks) ed (YB (lsO bey)) (YB (.fz (dI p))) (YB (.fz (dI m))))= .nx (eB bs s (ks++t) (vF f' (ks++t)) ed (YB (lsO (bey++t))) (YB (.fz (dI p))) o):=by
 have e2:EvV (Wc 2) (eB bs s ks (vF f ks) ed (YB (lsO bey)) (YB (.fz (dI p))) (YB (.fz (dI m)))) (dcD YF (ks.map kI) (vF f ks)):=Zbe rfl (OT.data_dc _ _ _);have t:EvT (tV (Ze (Zuz YD) (Zb 6) (Wc 2))) (eB bs s ks (vF f ks) ed (YB (lsO bey)) (YB (.fz (dI p))) (YB (.fz (dI m)))) (!decide (m∈ks)):=W8 (Zj (Za rfl) e2 (Ydo (Xc ..)))
 by_cases c:m∈ks
 .rw[YS c]at t
  refine⟨[],f,YB (.fz (dI m)),by rw[Qs];exact M,by rw[Qs];exact c,λ_ _=>rfl,λ_ h=>(nomatch h),?_⟩;rw[Qs,Qs];exact Z2 t rfl
 .rw[YT c]at t
  have lk:=Zi2 M.nd M.lt;obtain⟨g,hg⟩:∃g:Nat->Nat,g= λx=>if x=m then f p+1 else f x:=⟨_,rfl⟩
  have gm:g m=f p+1:=by rw[hg];exact YM rfl
  have go:∀x∈ks,g x=f x:=λx hx=>by rw[hg];exact YQ (λ(e:x=m)=>c (e▸hx))
  have ev:vF g (ks++[m])=vF f ks++[.int ((f p:Int)+1)]:=by
   unfold vF;rw[Qh,XS λx hx=>YW dI (go x hx)];exact YW (λz=>_++[z]) (show dI (g m)=_ by rw[gm];rfl)
  refine⟨[m],g,YB (.fz (dI m)),⟨?_,Qj _ M.st,?_,?_,?_,?_⟩,Qg _ (.head _),go,λx hx=>by rw[Xq.mp hx,gm],Jy t (Z1 (Zvn (Zaj (Zyo e2 (Za rfl) (Z8x hp)) Yc) rfl (Za rfl) (by omega) c) ?_)⟩
  .exact Vx.mpr ⟨M.nd,Qq.mpr ⟨(λz=>nomatch z),.nil⟩,λa ha b hb e=>c (by rw[<-Xq.mp hb,<-e];exact ha)⟩
  .exact λk hk=>(Qn.mp hk).elim (M.lt k) λq=>Xq.mp q▸hm
  .exact λk hk=>(Qn.mp hk).elim (M.rch k) λq=>Xq.mp q▸ .step (M.rch p hp) he
  .rw[go s M.st];exact M.z
  .intro k hk ne
   rcases Qn.mp hk with q|q
   .obtain⟨x,hx,e1,e2⟩:=M.up k q ne
    exact⟨x,Qj _ hx,e1,by rw[go k q,go x hx];exact e2⟩
   .rw[Xq.mp q]
    exact⟨p,Qj _ hp,he,by rw[gm,go p hp]⟩
  .rw[ev]
   refine(Zcg (ts:=(bey.map dI).map OT.fz) (Za rfl) rfl (by rw[Xc,Xc];rw[hk,XX]at lk;omega)).trans ?_;rw[Zfg];rfl
theorem Zpm{ks ks0 bey ed:List Nat}{f:Nat->Nat}{p:Nat}{o6:Option OT}{bd:List Xa}(hn:n<=10)(hE:∀m∈nb p,m<n/\E p m)(hbs:bs= .list bd)(hbd:bd[p]? =YB (.list ((nb p).map dI)))(M:Met E n s f ks)(hk:ks=ks0++bey)(hp:p∈ks) :
  ∃t f' o,Met E n s f' (ks++t)/\(∀m∈nb p,m∈ks++t)/\(∀x∈ks,f' x=f x)/\(∀x∈t,f' x=f p+1)/\
   (W5 (Zbf (Zn gIx (Zb 0) (Zb 5))) (gNm 6) (Wr (tV (Ze (Zuz YD) (Zb 6) (Wc 2))) (Zw (Zjk 2 (Ze J6 (Zn Zpt (Wc 2) (Zb 5)) (fC (.int 1))) (Zb 6)) (Z0 4 (Zb 6))) fNx)) (eB bs s ks (vF f ks) ed (YB (lsO bey)) (YB (.fz (dI p))) o6)= .nx (eB bs s (ks++t) (vF f' (ks++t)) ed (YB (lsO (bey++t))) (YB (.fz (dI p))) o):=by
 refine Exists.elim (Zir (δ:=eB bs s ks (vF f ks) ed (YB (lsO bey)) (YB (.fz (dI p))) o6) (it:=Zbf (Zn gIx (Zb 0) (Zb 5))) (g:=gNm 6) (S:=Wr (tV (Ze (Zuz YD) (Zb 6) (Wc 2))) (Zw (Zjk 2 (Ze J6 (Zn Zpt (Wc 2) (Zb 5)) (fC (.int 1))) (Zb 6)) (Z0 4 (Zb 6))) fNx)
  (λi δ=>∃t f' o,δ=eB bs s (ks++t) (vF f' (ks++t)) ed (YB (lsO (bey++t))) (YB (.fz (dI p))) o/\Met E n s f' (ks++t)/\(∀x∈ks,f' x=f x)/\(∀x∈t,f' x=f p+1)/\∀j m,j<i->(nb p)[j]? =YB m->m∈ks++t)
  (Wq (ds:=(nb p).map dI) (Zcs (ds:=bd) (i:=p) (hbs▸Za rfl) (Za rfl) (Zbq hbd))) ⟨[],f,o6,by rw[Qs,Qs],by rw[Qs];exact M,λ_ _=>rfl,λ_ h=>(nomatch h),λj m z=>YZ z (Q9 _)⟩ (λi d δ hd h=>?turn)) λδ' z=>?fin
 case fin=>
  obtain⟨e,t,f',o,rfl,M',h1,h2,hc⟩:=z;rw[Xc]at hc;exact⟨t,f',o,M',λm hm=>by
   obtain⟨j,hj,e⟩:=Uu hm;exact hc j m hj (by rw[Xn hj,e]),h1,h2,e⟩
 case turn=>
  obtain⟨t,f',o,rfl,M',h1,h2,hc⟩:=h;rw[Xi]at hd;obtain⟨m,hm,rfl⟩:=XD.mp hd;obtain⟨lm,em⟩:=hE m (X5 hm);obtain⟨t2,f2,o2,M2,m2,g1,g2,run⟩:=Zo2 (bs:=bs) (ed:=ed) (bey:=bey++t) hn M' (by rw[hk,QV]) (Qj _ hp) lm em;rw[QV,QV]at run;rw[QV]at M2 m2;refine⟨_,_,rfl,.inl run,t++t2,f2,o2,rfl,M2,λx hx=>(g1 x (Qj _ hx)).trans (h1 x hx),λx hx=>?_,λj k hj hk=>?_⟩
  .rcases Qn.mp hx with q|q
   .exact(g1 x (Qg _ q)).trans (h2 x q)
   .rw[g2 x q,h1 p hp]
  .rcases Nat.lt_succ_iff_lt_or_eq.mp hj with hj|rfl
   .rw[<-QV];exact Qj _ (hc j k hj hk)
   .rw[hm]at hk;cases hk;exact m2
end
def Nb(nb:Nat->List Nat):Nat->Nat->Prop:=λp m=>m∈nb p
structure Web(n:Nat)(nb:Nat->List Nat)(bs:Xa):Prop where
 le:n<=10
 lt:∀p m,m∈nb p->m<n
 bs:∃bd,bs= .list bd/\∀p<n,bd[p]? =YB (.list ((nb p).map dI))
def inB:FS:=W5 (Zbf (Zn gIx (Zb 0) (Zb 5))) (gNm 6) (Wr (tV (Ze (Zuz YD) (Zb 6) (Wc 2))) (Zw (Zjk 2 (Ze J6 (Zn Zpt (Wc 2) (Zb 5)) (fC (.int 1))) (Zb 6)) (Z0 4 (Zb 6))) fNx)
def Yae:FS:=Zw (wE (Zfe Zm) (Ja 4)) (Zw (W5 (Zbf (Zb 3)) (gNm 5) inB) (Za8 4 (wE (Zb 4) (Wi 3))))
def Z22:FT:=tV (Ze gGt (Zbb Zgu (Zd (Zb 3) Zm)) (fC (.int 0)))
end My
variable {κ:YG->List Int}{U:YG->Prop}{D:List (List Int)}{hs:List Int}{ks ed:List Nat}{o6 o4 o5:Option OT}
namespace My
open PySem L2 PySem.Spec
section
variable {n s:Nat}{nb:Nat->List Nat}{bs:Xa}
theorem Z2c(W:Web n nb bs){f:Nat->Nat}{L:Nat}(M:Met (Nb nb) n s f ks)(hed:∀p∈ed,p∈ks/\f p=L) :
  ∃bey f' o4' o5' o6',Met (Nb nb) n s f' (ks++bey)/\(∀p∈ed,∀m∈nb p,m∈ks++bey)/\(∀x∈ks,f' x=f x)/\(∀x∈bey,f' x=L+1)/\Yae (eB bs s ks (vF f ks) ed o4 o5 o6)= .nx (eB bs s (ks++bey) (vF f' (ks++bey)) bey o4' o5' o6'):=by
 obtain⟨bd,hbs,hbd⟩:=W.bs;refine Exists.elim (Zir (δ:=eB bs s ks (vF f ks) ed (YB (.nd [])) o5 o6) (it:=Zbf (Zb 3)) (g:=gNm 5) (S:=inB)
  (λi δ=>∃bey f' o5 o6,δ=eB bs s (ks++bey) (vF f' (ks++bey)) ed (YB (lsO bey)) o5 o6/\Met (Nb nb) n s f' (ks++bey)/\(∀x∈ks,f' x=f x)/\(∀x∈bey,f' x=L+1)/\∀j p,j<i->ed[j]? =YB p->∀m∈nb p,m∈ks++bey)
  (Wq (ds:=ed.map dI) (Za rfl)) ⟨[],f,o5,o6,by rw[Qs];rfl,by rw[Qs];exact M,λ_ _=>rfl,λ_ h=>(nomatch h),λj m z=>YZ z (Q9 _)⟩ (λi d δ hd h=>?turn)) λδ' z=>?fin
 case fin=>
  obtain⟨e,bey,f',o5',o6',rfl,M',h1,h2,hc⟩:=z;rw[Xc]at hc;refine⟨bey,f',YB (.fz (.list (bey.map dI))),o5',o6',M',λp hp=>?_,h1,h2,Z1 Zcl (Z1 e (Zdl (o:=lsO bey) rfl ?_))⟩
  .obtain⟨j,hj,e⟩:=Uu hp
   exact hc j p hj (by rw[Xn hj,e])
  .have hd:(lsO bey).data= .list (bey.map dI):=by unfold lsO;rw[OT.data_nd,OT.map_fz]
   rw[hd];exact Z9 (Za rfl)
 case turn=>
  obtain⟨bey,f',o5,o6,rfl,M',h1,h2,hc⟩:=h;rw[Xi]at hd;obtain⟨p,hp,rfl⟩:=XD.mp hd;obtain⟨pks,pL⟩:=hed p (X5 hp);have pk:p∈ks++bey:=Qj _ pks;obtain⟨t,f2,o,M2,m2,g1,g2,run⟩:=Zpm (ed:=ed) (o6:=o6) W.le (λm hm=>⟨W.lt p m hm,hm⟩) hbs (hbd p (M'.lt p pk)) M' rfl pk;rw[QV]at run M2;refine⟨_,_,rfl,.inl run,bey++t,f2,_,o,rfl,M2,λx hx=>(g1 x (Qj _ hx)).trans (h1 x hx),λx hx=>?_,λj k hj hk m hm=>?_⟩
  .rcases Qn.mp hx with q|q
   .exact(g1 x (Qg _ q)).trans (h2 x q)
   .rw[g2 x q,h1 p pks,pL]
  rw[<-QV];rcases Nat.lt_succ_iff_lt_or_eq.mp hj with hj|rfl
  .exact Qj _ (hc j k hj hk m hm)
  .rw[hp]at hk;cases hk;exact m2 m hm
theorem Zlo{vs:List Xa}:Z22 (eB bs s ks vs ed o4 o5 o6)=YB (decide (0<ed.length),eB bs s ks vs ed o4 o5 o6):=by
 refine W8 (Yb2 (Zm7 (ds:=ed.map dI) (Za rfl)) Yc ?_);rw[Xc];exact decide_eq_decide.mpr ⟨λh=>by omega,λh=>by omega⟩
theorem Z3j{t:FT}{u:FS}{k:Nat}{δ2:Zf}(h:t δ=YB (YD,δ))(g:u δ= .nx δ2):whileLoop t u (k+1) δ=whileLoop t u k δ2:=by
 rw[whileLoop,h];dsimp only;rw[YM rfl,g]
theorem Zp4{t:FT}{u:FS}{k:Nat}(h:t δ=YB (YF,δ)):whileLoop t u (k+1) δ= .nx δ:=by
 rw[whileLoop,h];rfl
theorem Z0x(W:Web n nb bs)(N:Nat):∀{ks ed:List Nat} {f:Nat->Nat} {L:Nat} {o4 o5 o6:Option OT},Met (Nb nb) n s f ks->(∀p∈ed,p∈ks/\f p=L)->(∀k∈ks,f k<=L)->(∀k∈ks,k∉ed->∀m∈nb k,m∈ks/\f m<=f k+1)->2*(n-ks.length)+(if ed=[]then 0 else 1)<=N ->
  ∃g ks' f' o3 o4' o5' o6',whileLoop Z22 Yae g (eB bs s ks (vF f ks) ed o4 o5 o6)= .nx (eB bs s ks' (vF f' ks') o3 o4' o5' o6')/\Met (Nb nb) n s f' ks'/\∀k∈ks',∀m∈nb k,m∈ks'/\f' m<=f' k+1:=by
 induction N with
 | zero=>
  intro ks ed f L o4 o5 o6 M hed hle hc hN;have e:ed=[]:=Vq λc=>by rw[YQ c]at hN;omega
  subst e;exact⟨1,ks,f,_,_,_,_,Zp4 Zlo,M,λk hk=>hc k hk λz=>nomatch z⟩
 | succ N ih=>
  intro ks ed f L o4 o5 o6 M hed hle hc hN
  by_cases e:ed=[]
  .subst e
   exact⟨1,ks,f,_,_,_,_,Zp4 Zlo,M,λk hk=>hc k hk λz=>nomatch z⟩
  .rw[YQ e]at hN
   obtain⟨bey,f',p4,p5,p6,M',m',h1,h2,run⟩:=Z2c (o4:=o4) (o5:=o5) (o6:=o6) W M hed;have ll:=Zi2 M'.nd M'.lt;rw[XX]at ll;have tt:Z22 (eB bs s ks (vF f ks) ed o4 o5 o6)=YB (YD,eB bs s ks (vF f ks) ed o4 o5 o6):=by
    rw[Zlo,YS (List.length_pos_iff.mpr e)]
   have le2:∀k∈ks++bey,f' k<=L+1:=λk hk=>by
    rcases Qn.mp hk with q|q
    .rw[h1 k q];exact Nat.le_succ_of_le (hle k q)
    .rw[h2 k q];exact Xy _
   have c1:∀k∈ks++bey,k∉bey->∀m∈nb k,m∈ks++bey/\f' m<=f' k+1:=λk hk hb m hm=>by
    have k0:k∈ks:=(Qn.mp hk).resolve_right hb
    by_cases ke:k∈ed
    .have mm:=m' k ke m hm
     refine⟨mm,?_⟩;rw[h1 k k0,(hed k ke).2];exact le2 m mm
    .obtain⟨a,b⟩:=hc k k0 ke m hm
     refine⟨Qj _ a,?_⟩;rw[h1 m a,h1 k k0];exact b
   have c2:2*(n-(ks++bey).length)+(if bey=[]then 0 else 1)<=N:=by
    rw[XX]
    by_cases b:bey=[]
    .rw[YM b,b];show 2*(n-(ks.length+0))+0<=N;omega
    .rw[YQ b]
     have:=List.length_pos_iff.mpr b;omega
   obtain⟨g,ks',f2,o3,q4,q5,q6,k1,k2,k3⟩:=ih (ks:=ks++bey) (ed:=bey) (L:=L+1) (o4:=p4) (o5:=p5) (o6:=p6) M' (λp hp=>⟨Qg _ hp,h2 p hp⟩) le2 c1 c2;exact⟨g+1,ks',f2,o3,q4,q5,q6,(Z3j tt run).trans k1,k2,k3⟩
theorem Zh8(W:Web n nb bs)(hs:s<n):∃ks f,Told Yl [bs,dI s] (dcD YF (ks.map kI) (vF f ks))/\Met (Nb nb) n s f ks/\(∀m,m∈ks↔Rch (Nb nb) s m)/\∀k∈ks,∀m∈nb k,f m<=f k+1:=by
 have M0:Met (Nb nb) n s (λ_=>0) [s]:=⟨Qq.mpr ⟨(λz=>nomatch z),.nil⟩,.head _,λk hk=>Xq.mp hk▸hs,λk hk=>Xq.mp hk▸ .refl,rfl,λk hk ne=>YZ (Xq.mp hk) ne⟩;obtain⟨g,ks,f,o3,o4,o5,o6,run,M,cl⟩:=Z0x (ed:=[s]) (L:=0) (o4:=YC) (o5:=YC) (o6:=YC) W _ M0 (λp hp=>⟨hp,rfl⟩) (λ_ _=>Xy _) (λk hk hn=>YZ hk hn) (Xy _);refine⟨ks,f,Ye rfl<|Zx (δ':=[YB (.fz bs),YB (.fz (dI s)),YB (.dc YF [kI s] [.int 0]),YC,YC,YC,YC]) ?_<|Zx (Z9 (Zud (ds:=[dI s]) (Zc (Za rfl) Zi) (show 1<=1000 by decide)))<|Zx (Zsi g run (λz=>nomatch z)) (Z4r (o:=.dc YF (ks.map kI) (vF f ks)) rfl (OT.data_dc _ _ _)),M,λm=>⟨M.rch m,Rch.closed M.st λk hk m hm=>(cl k hk m hm).1⟩,λk hk m hm=>(cl k hk m hm).2⟩;rfl
end
theorem Zon{f:Int->Int->Bool}{a b c:FE}{i j k:Int}(ha:EvV a δ (.int i))(hb:EvV b δ (.int j))(hc:EvV c δ (.int k))(h:f i j=YD)(hg:g j k=YD):EvV (Zci f g a b c) δ (.bool YD):=by
 obtain⟨_,e1,d1⟩:=ha;obtain⟨_,e2,d2⟩:=hb;obtain⟨_,e3,d3⟩:=hc;refine⟨.fz (.bool YD),?_,OT.data_fz _⟩;unfold Zci;rw[e1,Xh,e2,Xh];dsimp only;rw[d1,d2];dsimp only;rw[YM h,e3,Xh,d3];dsimp only;rw[hg]
theorem Zd8{n:Nat}(h1:1<=n)(h2:n<=10):Told Y6 [dI n] (.bool YD) :=
 Ye rfl (Wy (Zon Yc (Za rfl) Yc (YS (show(1:Int)<=n by omega)) (YS (show(n:Int)<=10 by omega))))
theorem Zob(n:Nat):Ze5 0 n=(Xj n).map dI:=XS λi _=>by
 show Xw (0+(i:Int))=_;rw[Int.zero_add];rfl
def nbR(rs:List (Nat×Nat))(p:Nat):List Nat:=rs.flatMap λr=>if r.1=p then[r.2]else if r.2=p then[r.1]else[]
theorem Zvo(rs:List (Nat×Nat))(r:Nat×Nat)(p:Nat):nbR (rs++[r]) p=nbR rs p++(if r.1=p then[r.2]else if r.2=p then[r.1]else[]):=by
 unfold nbR;rw[List.flatMap_append,List.flatMap_cons,List.flatMap_nil,Qs]
theorem Zcx{rs:List (Nat×Nat)}{p:Nat}:m∈nbR rs p↔(p,m)∈rs\/(m,p)∈rs:=by
 unfold nbR;rw[List.mem_flatMap];constructor
 .intro h
  obtain⟨⟨a,b⟩,hr,hm⟩:=h;dsimp only at hm;split at hm
  .rename_i e;subst e;rw[Xq.mp hm];exact .inl hr
  .split at hm
   .rename_i e;subst e;rw[Xq.mp hm];exact .inr hr
   .cases hm
 .intro h
  rcases h with h|h
  .exact⟨_,h,by dsimp only;rw[YM rfl];exact .head _⟩
  .refine⟨_,h,?_⟩
   dsimp only;split
   .rename_i e;subst e;exact .head _
   .rw[YM rfl];exact .head _
theorem set_range{f:Nat->OT}{n a:Nat}{v:OT}:((Xj n).map f).set a v=(Xj n).map λp=>if p=a then v else f p:=by
 refine V9 λi=>?_;rw[List.getElem?_set,Xi,Xi,Xc,Xr]
 by_cases c:i<n
 .rw[Qu c]
  by_cases e:a=i
  .subst e;rw[YM rfl,YM c];show _=YB (if _ then _ else _);rw[YM rfl]
  .rw[YQ e];show _=YB (if _ then _ else _);rw[YQ λz=>e z.symm];rfl
 .rw[QZ (by rw[Xr];omega)]
  split
  .split
   .omega
   .rfl
  .rfl
theorem Zm4{j e:FE}{k:Nat}{us:List OT}{d:Xa}(hi:δ[i]? =YB (YB (.nd ts)))(hj:EvV j δ (dI k))(ht:ts[k]? =YB (.nd us))(he:EvV e δ d)(hl:us.length<=1000000):Zhn i j e δ= .nx (δ.set i (YB (.nd (ts.set k (.nd (us++[.fz d])))))):=by
 obtain⟨t1,e1,d1⟩:=hj;obtain⟨t2,e2,d2⟩:=he;have hk:k<ts.length:=(Xk.mp ht).1;have hx:ixN ts.length (k:Int)=YB k:=Zhi hk;unfold Zhn;rw[hi];dsimp only;rw[Za9,e1,Z3,d1];show(match ixN ts.length (k:Int)with|some j=>_|none=>_)=_;rw[hx];dsimp only;rw[ht];dsimp only;rw[Za9,e2,Z3,d2,YM (by rw[X7];omega)]
def bO(rs:List (Nat×Nat))(n:Nat):OT:=.nd ((Xj n).map λp=>lsO (nbR rs p))
theorem Z4q(rs:List (Nat×Nat))(p:Nat):(nbR rs p).length<=rs.length:=by
 unfold nbR
 induction rs with
 | nil=>exact Xy _
 | cons r rs ih=>
  rw[List.flatMap_cons,XX,QC];have:(if r.1=p then[r.2]else if r.2=p then[r.1]else[]).length<=1:=by
   split
   .exact Xy _
   .split
    .exact Xy _
    .exact Qw _
  omega
theorem Zp5{n:Nat}{rs:List (Nat×Nat)}(hn:n<=10)(hr:∀r∈rs,r.1<r.2/\r.2<n)(hl:rs.length<=1000):Told Wv [dI n,.list (rs.map ptD)] (.list ((Xj n).map λp=>.list ((nbR rs p).map dI))):=by
 have h0:wE (Z5 1 [] (iRa (Zd (Zb 0) Zm)) (gNm 0) Zcj (Zfe Zm)) (Ja 2) (Zav 5 [dI n,.list (rs.map ptD)])= .nx [YB (.fz (dI n)),YB (.fz (.list (rs.map ptD))),YB (bO [] n),YC,YC]:=by
  refine(Zd6 (o:=.nd ((Xj n).map λ_=>.nd [])) (Zb8 (cs:=[]) (Xj n) dI _ (hi:=?_) (by rw[Xr,X7];omega) rfl λx _=>rfl)).trans rfl;rw[<-Zob];exact Zaz (Zc (Za rfl) Zi) (by omega)
 refine Ye rfl<|Zx h0<|Zcr (ds:=rs.map ptD) (λi δ=>∃z3 z4,δ=[YB (.fz (dI n)),YB (.fz (.list (rs.map ptD))),YB (bO (rs.take i) n),z3,z4]) (Wq (Za rfl)) ⟨_,_,by rw[List.take_zero]⟩ (λi d δ hd h=>?_) λδ' h=>?_
 .obtain⟨z3,z4,rfl⟩:=h
  rw[Xi]at hd;obtain⟨⟨a,b⟩,hab,rfl⟩:=XD.mp hd;obtain⟨l1,l2⟩:=hr _ (X5 hab);have l1:a<b:=l1;have l2:b<n:=l2;have tk:rs.take (i+1)=rs.take i++[(a,b)]:=by rw[List.take_succ,hab];rfl
  have nl:∀p,(nbR (rs.take i) p).length<=1000:=λp=>by
   have h1:=Z4q (rs.take i) p;have h2:(rs.take i).length<=rs.length:=by rw[Ba];exact Nat.min_le_right _ _
   omega
  have s1:=Zm4 (i:=2) (j:=Zb 3) (e:=Zb 4) (δ:=[YB (.fz (dI n)),YB (.fz (.list (rs.map ptD))),YB (bO (rs.take i) n),YB (.fz (dI a)),YB (.fz (dI b))]) (k:=a) (us:=((nbR (rs.take i) a).map dI).map OT.fz) (d:=dI b) rfl (Za rfl) (by rw[Xi,Qu (by omega)];rfl) (Za rfl) (by rw[Xc,Xc];have:=nl a;omega);rw[set_range]at s1;have s2:=Zm4 (i:=2) (j:=Zb 4) (e:=Zb 3) (δ:=[YB (.fz (dI n)),YB (.fz (.list (rs.map ptD))),YB (.nd ((Xj n).map λp=>if p=a then OT.nd (((nbR (rs.take i) a).map dI).map OT.fz++[.fz (dI b)])else lsO (nbR (rs.take i) p))),YB (.fz (dI a)),YB (.fz (dI b))]) (k:=b) (us:=((nbR (rs.take i) b).map dI).map OT.fz) (d:=dI a) rfl (Za rfl) (by rw[Xi,Qu (by omega)];show YB (if b=a then _ else _)=_;rw[YQ (by omega)];rfl) (Za rfl) (by rw[Xc,Xc];have:=nl b;omega);rw[set_range]at s2;refine⟨_,_,rfl,.inl (Z1 s1 s2),YB (.fz (dI a)),YB (.fz (dI b)),?_⟩;have e:((Xj n).map λp=>if p=b then OT.nd (((nbR (rs.take i) b).map dI).map OT.fz++[.fz (dI a)])else if p=a then OT.nd (((nbR (rs.take i) a).map dI).map OT.fz++[.fz (dI b)])else lsO (nbR (rs.take i) p))=(Xj n).map λp=>lsO (nbR (rs.take (i+1)) p):=XS λp _=>by
   rw[tk,Zvo]
   by_cases c1:p=b
   .subst c1;rw[YM rfl];dsimp only;rw[YQ (by omega),YM rfl,Zfg]
   .rw[YQ c1]
    by_cases c2:p=a
    .subst c2;rw[YM rfl];dsimp only;rw[YM rfl,Zfg]
    .rw[YQ c2];dsimp only;rw[YQ λz=>c2 z.symm,YQ λz=>c1 z.symm,Qs]
  unfold bO;rw[<-e];rfl
 .obtain⟨z3,z4,rfl⟩:=h
  refine Z4r (o:=bO rs n) (by rw[Xc,List.take_length];rfl) ?_;unfold bO;rw[OT.data_nd,Qk];refine YW _ (XS λp _=>?_);show(lsO (nbR rs p)).data=_;unfold lsO;rw[OT.data_nd,OT.map_fz]
theorem Z88{n:Nat}{rs:List (Nat×Nat)}(hn:n<=10)(hr:∀r∈rs,r.1<r.2/\r.2<n):Web n (nbR rs) (.list ((Xj n).map λp=>.list ((nbR rs p).map dI))) :=
 ⟨hn,λp m h=>by
  rcases Zcx.mp h with h|h
  .exact(hr _ h).2
  .have:=hr _ h;dsimp only at this;omega,_,rfl,λp hp=>by rw[Xi,Qu hp];rfl⟩
def rI(r:Nat×Nat):List Int:=[(r.1:Int),(r.2:Int)]
structure Roads(n:Nat)(rs:List (Nat×Nat)):Prop where
 n1:1<=n
 n10:n<=10
 ok:∀r∈rs,r.1<r.2/\r.2<n
 ris:∀(i:Nat) (r r':Nat×Nat),rs[i]? =YB r->rs[i+1]? =YB r'->ltI (rI r) (rI r')=YD
 len:rs.length<=1000
theorem Z64(ds:List Xa):cutD ds (YB 1) YC=ds.drop 1:=by
 unfold cutD;have e:HT.sIx ds.length 0 (YB 1)=min 1 ds.length:=HT.sIx_nat _ _ 1;rw[e,HT.sIx_none];cases ds with
 | nil=>rfl
 | cons d ds=>
  rw[QC,Nat.min_eq_left (by omega),List.drop_succ_cons,List.drop_zero];exact Bw (by omega)
theorem Z5e(r r':Nat×Nat):Z7f (ptD r) (ptD r')=YB (.bool (ltI (rI r) (rI r'))):=rfl
theorem Zjv{n:Nat}{rs:List (Nat×Nat)}(R:Roads n rs):Told Ji [.list (rs.map ptD)] (.bool YD):=by
 refine Ye rfl<|Zcr (ds:=Zot (rs.map ptD) ((rs.map ptD).drop 1)) (λi δ=>∃z1 z2,δ=[YB (.fz (.list (rs.map ptD))),z1,z2]) (Z1i (Za rfl) ((Z6k (Za rfl) (Ya5 Yc) Yh9).cast (by rw[Z64])) rfl) ⟨_,_,rfl⟩ (λi d δ hd h=>?_) λδ' h=>?_
 .obtain⟨z1,z2,rfl⟩:=h
  obtain⟨x,y,hx,hy,rfl⟩:=Zno hd;rw[Xi]at hx;rw[List.getElem?_drop,Xi]at hy;obtain⟨r,hr,rfl⟩:=XD.mp hx;obtain⟨r',hr',rfl⟩:=XD.mp hy;have hl:=R.ris i r r' hr (by rw[Nat.add_comm];exact hr');exact⟨_,_,rfl,.inl (Z2 (Ze3 (p:=YD) (W8 (Zj (Za rfl) (Za rfl) (by rw[Z5e,hl])))) rfl),YB (.fz (ptD r)),YB (.fz (ptD r')),rfl⟩
 .obtain⟨z1,z2,rfl⟩:=h
  exact Wy Yc
theorem Zg0{n:Nat}{rs:List (Nat×Nat)}(R:Roads n rs):Told Ww [dI n,.list (rs.map ptD)] .none:=by
 refine Exists.elim (Zir (δ:=[YB (.fz (dI n)),YB (.fz (.list (rs.map ptD))),YC,YC]) (it:=Zbf (Zb 1)) (g:=gTp 2 (gCn (gNm 2) (gCn (gNm 3) gNl))) (S:=Wr (tNo (tV (Zgd (λi j=>decide (i<=j)) (λi j=>decide (i<j)) (λi j=>decide (i<j)) (fC (.int 0)) (Zb 2) (Zb 3) (Zb 0)))) (Zcp "NoWeb") fNx)
  (λi δ=>∃z1 z2,δ=[YB (.fz (dI n)),YB (.fz (.list (rs.map ptD))),z1,z2]) (Wq (ds:=rs.map ptD) (Za rfl)) ⟨_,_,rfl⟩ (λi d δ hd h=>?turn)) λδ' z=>?fin
 case turn=>
  obtain⟨z1,z2,rfl⟩:=h;rw[Xi]at hd;obtain⟨⟨a,b⟩,hr,rfl⟩:=XD.mp hd;obtain⟨l1,l2⟩:=R.ok _ (X5 hr);have l1:a<b:=l1;have l2:b<n:=l2;refine⟨_,_,rfl,.inl (Z2 (Ze3 (p:=YD) (W8 ((Zth Yc (Za rfl) (Za rfl) (Za rfl)).cast ?_))) rfl),YB (.fz (dI a)),YB (.fz (dI b)),rfl⟩;rw[YS (show(0:Int)<=a by omega),YS (show(a:Int)<b by omega),YS (show(b:Int)<n by omega)];rfl
 case fin=>
  obtain⟨e,z1,z2,rfl⟩:=z;exact Zt5 rfl (Z1 (Z2 (Ze3 (p:=YD) (Zg5 (Yd (Zc (Za rfl) Zi) (Zd8 R.n1 R.n10)))) rfl) (Z1 e (Z2 (Ze3 (p:=YD) (Zg5 (Yd (Zc (Za rfl) Zi) (Zjv R)))) rfl)))
def Z04(n:Nat)(rs:List (Nat×Nat)):Prop:=∀m<n,Rch (Nb (nbR rs)) 0 m
def bsD(n:Nat)(rs:List (Nat×Nat)):Xa:=.list ((Xj n).map λp=>.list ((nbR rs p).map dI))
theorem Zf0{rs:List (Nat×Nat)}(a b:Nat)(h:Nb (nbR rs) a b):Nb (nbR rs) b a:=Zcx.mpr (Zcx.mp h).symm
theorem Z4b{vs:List Xa}(h:vs.length=ks.length):Zq8 [dcD YF (ks.map kI) vs]=YB (.int ks.length):=by
 show YB (Xw (((ks.map kI).map kyD).zip vs).length)=_;rw[List.length_zip,Xc,Xc,h,Nat.min_self]
structure Dst(n:Nat)(rs:List (Nat×Nat))(s:Nat)(f:Nat->Nat):Prop where
 z:f s=0
 up:∀p<n,p≠s->∃m∈nbR rs p,m<n/\f p=f m+1
 one:∀p<n,∀m∈nbR rs p,f m<=f p+1
theorem Zzr{n:Nat}{rs:List (Nat×Nat)}(R:Roads n rs)(hc:Z04 n rs){s:Nat}(hs:s<n):∃q:List Nat×(Nat->Nat),Told Yl [bsD n rs,dI s] (dcD YF (q.1.map kI) (vF q.2 q.1))/\(∀m<n,m∈q.1)/\q.1.length=n/\Dst n rs s q.2:=by
 have W:=Z88 R.n10 R.ok;obtain⟨ks,f,T,M,hk,ho⟩:=Zh8 W hs;have full:∀m<n,m∈ks:=λm hm=>(hk m).mpr (Rch.trans (Rch.symm Zf0 (hc s hs)) (hc m hm));refine⟨(ks,f),T,full,Nat.le_antisymm (Zi2 M.nd M.lt) (Z1t full),M.z,λp hp ne=>?_,λp hp m hm=>ho p (full p hp) m hm⟩;obtain⟨m,hm,e1,e2⟩:=M.up p (full p hp) ne;exact⟨m,Zf0 _ _ e1,M.lt m hm,e2⟩
def Zfb(n:Nat)(f:Nat->Nat):Xa:=.list ((Xj n).map λp=>dI (f p))
theorem Zlc{n:Nat}{rs:List (Nat×Nat)}(R:Roads n rs)(hc:Z04 n rs):∃F:Nat->Nat->Nat,(∀s<n,Dst n rs s (F s))/\Told Y7 [dI n,.list (rs.map ptD)] (.list ((Xj n).map λs=>Zfb n (F s))):=by
 have n10:=R.n10;obtain⟨q,hq⟩:=VB (λs=>show∃q:List Nat×(Nat->Nat),s<n->Told Yl [bsD n rs,dI s] (dcD YF (q.1.map kI) (vF q.2 q.1))/\(∀m<n,m∈q.1)/\q.1.length=n/\Dst n rs s q.2 by
  by_cases c:s<n
  .obtain⟨q,h⟩:=Zzr R hc c
   exact⟨q,λ_=>h⟩
  .exact⟨([],id),λz=>YZ z c⟩)
 refine⟨λs=>(q s).2,λs hs=>(hq s hs).2.2.2,?_⟩;refine Ye rfl<|Zx (Zt6 (Yd (Zc (Za rfl) (Zc (Za rfl) Zi)) (Zg0 R)))<|Zx (Z9 (Yd (Zc (Za rfl) (Zc (Za rfl) Zi)) (Zp5 R.n10 R.ok R.len)))<|Zx Zcl<|
  Zcr (ds:=Ze5 0 n) (λi δ=>∃z4 z5,δ=[YB (.fz (dI n)),YB (.fz (.list (rs.map ptD))),YB (.fz (bsD n rs)),YB (.nd (((Xj i).map λs=>Zfb n (q s).2).map OT.fz)),z4,z5]) (Zaz (Zc (Za rfl) Zi) (QM n10 (by decide))) ⟨_,_,rfl⟩ (λi d δ hd h=>?_) λδ' h=>?_
 .obtain⟨z4,z5,rfl⟩:=h
  obtain⟨hi,e⟩:=Zaf hd;rw[Int.zero_add]at e;subst e;obtain⟨T,full,ln,_⟩:=hq i hi;refine⟨_,_,rfl,.inl (Z1 (Z9 (Yd (Zc (Za rfl) (Zc (Za rfl) Zi)) T)) (Z1 (Z2 (W8 (Zoj (Zbx (Zc (Za rfl) Zi) (Z4b (Xc ..))) (Za rfl) (YT (by rw[ln];exact Int.lt_irrefl _)))) rfl) (Zcg (ts:=((Xj i).map λs=>Zfb n (q s).2).map OT.fz) (d:=Zfb n (q i).2) (Zdz (cs:=[YB (.fz (dcD YF ((q i).1.map kI) (vF (q i).2 (q i).1)))]) (Xj n) dI (λp=>dI ((q i).2 p)) ?_ (by rw[Xr];exact QM n10 (by decide)) rfl λx hx=>Zyo (Za rfl) (Za rfl) (Z8x (full x (XH.mp hx)))) rfl (by rw[Xc,Xc,Xr];exact QM (Vn hi) (QM n10 (by decide)))))),YB (.fz (.int i)),YB (.fz (dcD YF ((q i).1.map kI) (vF (q i).2 (q i).1))),?_⟩
  .rw[<-Zob]
   exact Zaz (Zc (Za rfl) Zi) (QM n10 (by decide))
  .rw[List.range_succ,Qh,Qh];rfl
 .obtain⟨z4,z5,rfl⟩:=h
  rw[Wm];exact Z4r rfl (by rw[OT.data_nd,OT.map_fz])
def Wz(n:Nat)(F:Nat->Nat->Nat):Xa:=.list ((Xj n).map λs=>Zfb n (F s))
theorem Zkf{e:FE}{i:Int}(h:EvV e δ (.int i)):e δ=YB (.fz (.int i),δ):=by
 obtain⟨t,e1,d1⟩:=h;rw[e1,Zmz d1]
theorem Znc(ns:List Nat):(lsO ns).data= .list (ns.map dI):=by unfold lsO;rw[OT.data_nd,OT.map_fz]
theorem Jb{a b:FE}{n p:Nat}{f:Nat->Nat}(ha:EvV a δ (Zfb n f))(hb:EvV b δ (dI p))(hp:p<n):EvV (Zn gIx a b) δ (dI (f p)):=Zcs ha hb (Zbq (by rw[Xi,Qu hp];rfl))
theorem Jl{n s k:Nat}{F:Nat->Nat->Nat}(hs:s<n)(h1:δ[j]? =YB (YB (.fz (Wz n F))))(h2:δ[k]? =YB (YB (.fz (dI s)))):EvV (Zn gIx (Zb j) (Zb k)) δ (Zfb n (F s)):=Zcs (ds:=(Xj n).map λs=>Zfb n (F s)) (Za h1) (Za h2) (Zbq (by rw[Xi,Qu hs];rfl))
theorem Zgi{n:Nat}{F:Nat->Nat->Nat}(h:δ[j]? =YB (YB (.fz (Wz n F)))):EvV (Zbb Zgu (Zd (Zb j) Zm)) δ (dI n):=(Zm7 (ds:=(Xj n).map λs=>Zfb n (F s)) (Za h)).cast (by rw[Xc,Xr];rfl)
def Zbj{α:Type}(I:Zf->Prop)(u:FS)(δ1:Zf)(r:Option Xa):Prop:=match r with
 | none=>∃δ2,u δ1= .nx δ2/\I δ2
 | some v=>∃o δ2,u δ1= .rt o δ2/\o.data=v
theorem Zwt{I:Zf->Prop}{g:FG}{u:FS}(mk:α->Xa)(f:α->Option Xa):∀(xs:List α) (δ:Zf),I δ->(∀x∈xs,∀δ,I δ->∃δ1,g (mk x) δ=YB δ1/\Zbj (α:=α) I u δ1 (f x))->Zbj (α:=α) I (forLoop g u (xs.map mk)) δ (xs.findSome? f):=by
 intro xs
 induction xs with
 | nil=>exact λδ h _=>⟨δ,rfl,h⟩
 | cons x xs ih=>
  intro δ h t;obtain⟨δ1,e1,r⟩:=t x (.head _) δ h;rw[Q7];cases q:f x with
  | none=>
   rw[q]at r;obtain⟨δ2,e2,h2⟩:=r;have e:forLoop g u ((x::xs).map mk) δ=forLoop g u (xs.map mk) δ2:=by
    rw[X4,forLoop,e1];dsimp only;rw[e2]
   unfold Zbj;rw[e];exact ih δ2 h2 λy hy=>t y (.tail _ hy)
  | some v=>
   rw[q]at r;obtain⟨o,δ2,e2,d⟩:=r;refine⟨o,δ2,?_,d⟩;rw[X4,forLoop,e1];dsimp only;rw[e2]
theorem Zan{I J:Zf->Prop}{it:FI}{g:FG}{u:FS}(mk:α->Xa)(f:α->Option Xa)(xs:List α)(hi:EvI it δ (xs.map mk))(h0:J δ)(hJ:∀δ,J δ->I δ)(t:∀x∈xs,∀δ,J δ->∃δ1,g (mk x) δ=YB δ1/\Zbj (α:=α) J u δ1 (f x)):Zbj (α:=β) I (W5 it g u) δ (xs.findSome? f):=by
 have h:=Zwt (I:=J) (g:=g) (u:=u) mk f xs δ h0 t;cases q:xs.findSome? f with
 | none=>
  rw[q]at h;obtain⟨δ2,e,h2⟩:=h;exact⟨δ2,Zfu hi e,hJ δ2 h2⟩
 | some v=>
  rw[q]at h;obtain⟨o,δ2,e,d⟩:=h;exact⟨o,δ2,Zfu hi e,d⟩
theorem Zaq{I:Zf->Prop}{t:FT}{S:FS}{r:Option Xa}(h:EvT t δ YD)(k:Zbj (α:=α) I S δ r):Zbj (α:=α) I (Wr t S S') δ r:=by
 cases r with
 | none=>
  obtain⟨δ2,e,h2⟩:=k;exact⟨δ2,Jy h e,h2⟩
 | some v=>
  obtain⟨o,δ2,e,d⟩:=k;exact⟨o,δ2,Jy h e,d⟩
theorem J5{I:Zf->Prop}{t:FT}{S:FS}(h:EvT t δ YF)(k:I δ):Zbj (α:=α) I (Wr t S fNx) δ YC:=⟨δ,Z2 h rfl,k⟩
theorem Zdf{I:Zf->Prop}{e:FE}{v:Xa}(h:EvV e δ v):Zbj (α:=α) I (wE e W2) δ (YB v):=by
 obtain⟨o,h1,h2⟩:=Znw h;exact⟨o,δ,h1,h2⟩
theorem Zfk{I:Zf->Prop}{S:FS}{r:Option Xa}(h:S δ= .nx δ1)(k:Zbj (α:=α) I S' δ1 r):Zbj (α:=α) I (Zw S S') δ r:=by
 cases r with
 | none=>
  obtain⟨δ2,e,h2⟩:=k;exact⟨δ2,Z1 h e,h2⟩
 | some v=>
  obtain⟨o,δ2,e,d⟩:=k;exact⟨o,δ2,Z1 h e,d⟩
theorem Zc3{I:Zf->Prop}{S:FS}{r:Option Xa}{v0:Xa}(h:Zbj (α:=α) I S δ r)(k:∀δ,I δ->Zkz S' δ v0):Zkz (Zw S S') δ (r.getD v0):=by
 cases r with
 | none=>
  obtain⟨δ2,e,h2⟩:=h;exact Zx e (k δ2 h2)
 | some v=>
  obtain⟨o,δ2,e,d⟩:=h;exact Zac ⟨o,δ2,e,d⟩
def t3(x y z:Nat):Xa:=.tuple [dI x,dI y,dI z]
def Zd3(n:Nat)(F:Nat->Nat->Nat)(r:Nat×Nat):Option Xa:=(Xj n).findSome? λx=>if F r.1 x=F r.2 x then YB (t3 r.1 r.2 x)else YC
theorem Zij{n:Nat}{rs:List (Nat×Nat)}(R:Roads n rs)(F:Nat->Nat->Nat):Told Wb [Wz n F,.list (rs.map ptD)] ((rs.findSome? (Zd3 n F)).getD .none):=by
 have n10:=R.n10;refine Ye rfl (Zc3 (α:=Nat) (I:=λδ=>∃z2 z3 z4,δ=[YB (.fz (Wz n F)),YB (.fz (.list (rs.map ptD))),z2,z3,z4]) (Zan (J:=λδ=>∃z2 z3 z4,δ=[YB (.fz (Wz n F)),YB (.fz (.list (rs.map ptD))),z2,z3,z4]) ptD (Zd3 n F) rs (Wq (Za rfl)) ⟨_,_,_,rfl⟩ (λ_ h=>h) λr hr δ h=>?_) λδ h=>?_)
 .obtain⟨z2,z3,z4,rfl⟩:=h
  obtain⟨l1,l2⟩:=R.ok r hr;refine⟨_,rfl,Zan (J:=λδ=>∃z4,δ=[YB (.fz (Wz n F)),YB (.fz (.list (rs.map ptD))),YB (.fz (dI r.1)),YB (.fz (dI r.2)),z4]) dI _ (Xj n) (by rw[<-Zob];exact Zaz (Zc (Zgi rfl) Zi) (by omega)) ⟨_,rfl⟩ (λδ h=>by obtain⟨z,rfl⟩:=h;exact⟨_,_,_,rfl⟩) λx hx δ h=>?_⟩;obtain⟨z4,rfl⟩:=h;have hx:=XH.mp hx;refine⟨_,rfl,?_⟩;have e:∀{b:Bool},decide ((F r.1 x:Int)=(F r.2 x:Int))=b->EvT (tV (Ze gEq (Zn gIx (Zn gIx (Zb 0) (Zb 2)) (Zb 4)) (Zn gIx (Zn gIx (Zb 0) (Zb 3)) (Zb 4)))) [YB (.fz (Wz n F)),YB (.fz (.list (rs.map ptD))),YB (.fz (dI r.1)),YB (.fz (dI r.2)),YB (.fz (dI x))] b:=λh=>W8 (Zkg (Jb (p:=x) (Jl (s:=r.1) (by omega) rfl rfl) (Za rfl) hx) (Jb (p:=x) (Jl (s:=r.2) l2 rfl rfl) (Za rfl) hx) h)
  by_cases c:F r.1 x=F r.2 x
  .rw[YM c]
   exact Zaq (e (YS (YW Nat.cast c))) (Zdf (Wu (Zc (Za rfl) (Zc (Za rfl) (Zc (Za rfl) Zi))) (show 3<=1000 by decide)))
  .rw[YQ c]
   exact J5 (e (YT λz=>c (VP z))) ⟨_,rfl⟩
 .obtain⟨z2,z3,z4,rfl⟩:=h
  exact Wy Yc
def sdF(F:Nat->Nat->Nat)(a b x:Nat):Bool:=decide (F b x<F a x)
def bsL(n:Nat)(S:Nat->Bool):Xa:=.list ((Xj n).map λx=>.bool (S x))
theorem Zeo{n:Nat}(n10:n<=10)(F:Nat->Nat->Nat){a b:Nat}(ha:a<n)(hb:b<n):Told Yu [Wz n F,dI a,dI b] (bsL n (sdF F a b)):=by
 refine Ye rfl (Wy (Zdz (cs:=[YB (.fz (Wz n F)),YB (.fz (dI b)),YB (.fz (dI a))]) (Xj n) dI (λx=>.bool (sdF F a b x)) (by rw[<-Zob];exact Zaz (Zc (Zgi rfl) Zi) (by omega)) (by rw[Xr];omega) rfl λx hx=>?_));have hx:=XH.mp hx;exact Zoj (Jb (p:=x) (Jl (s:=b) hb rfl rfl) (Za rfl) hx) (Jb (p:=x) (Jl (s:=a) ha rfl rfl) (Za rfl) hx) (decide_eq_decide.mpr ⟨λh=>Vz.mp h,λh=>Vz.mpr h⟩)
theorem Zbo{n k x:Nat}{S:Nat->Bool}(hx:x<n)(h1:δ[j]? =YB (YB (.fz (bsL n S))))(h2:δ[k]? =YB (YB (.fz (dI x)))):EvV (Zn gIx (Zb j) (Zb k)) δ (.bool (S x)):=Zcs (ds:=(Xj n).map λx=>.bool (S x)) (Za h1) (Za h2) (Zbq (by rw[Xi,Qu hx];rfl))
theorem Z6j(a b:Bool):gEq (.bool a) (.bool b)=YB (.bool (a==b)):=by cases a<;>cases b<;>rfl
theorem Zu0(a b:Bool):gNe (.bool a) (.bool b)=YB (.bool (a !=b)):=by cases a<;>cases b<;>rfl
def leaveX(n:Nat)(F:Nat->Nat->Nat)(S:Nat->Bool)(x y:Nat):Option Xa:=if(S x==S y)=YD then(Xj n).findSome? (λz=>if(S z !=S x)=YD/\F x z+F z y=F x y then YB (t3 x y z)else YC)else YC
theorem Zex{n:Nat}(n10:n<=10)(F:Nat->Nat->Nat)(S:Nat->Bool):Told We [Wz n F,bsL n S] (((Zag n).findSome? λp=>leaveX n F S p.1 p.2).getD .none):=by
 refine Ye rfl (Zx (Z9 (Zgi rfl)) (Zc3 (α:=Nat) (I:=λδ=>∃z3 z4 z5,δ=[YB (.fz (Wz n F)),YB (.fz (bsL n S)),YB (.fz (dI n)),z3,z4,z5]) (Zan (J:=λδ=>∃z3 z4 z5,δ=[YB (.fz (Wz n F)),YB (.fz (bsL n S)),YB (.fz (dI n)),z3,z4,z5]) ptD _ (Zag n) (Wq (Yd (Zc (Za rfl) Zi) (Zlf n (by omega)))) ⟨_,_,_,rfl⟩ (λ_ h=>h) λr hr δ h=>?_) λδ h=>?_))
 .obtain⟨z3,z4,z5,rfl⟩:=h
  obtain⟨l1,l2⟩:=Zhv hr;refine⟨_,rfl,?_⟩;have t0:EvT (tV (Ze gEq (Zn gIx (Zb 1) (Zb 3)) (Zn gIx (Zb 1) (Zb 4)))) [YB (.fz (Wz n F)),YB (.fz (bsL n S)),YB (.fz (dI n)),YB (.fz (dI r.1)),YB (.fz (dI r.2)),z5] (S r.1==S r.2):=W8 (Zj (Zbo (x:=r.1) (by omega) rfl rfl) (Zbo (x:=r.2) l2 rfl rfl) (Z6j _ _));show Zbj _ _ _ (leaveX n F S r.1 r.2);unfold leaveX;cases c:S r.1==S r.2 with
  | false=>
   rw[YQ Xx];rw[c]at t0;exact J5 t0 ⟨_,_,_,rfl⟩
  | true=>
   rw[YM rfl];rw[c]at t0;refine Zaq t0 (Zan (J:=λδ=>∃z5,δ=[YB (.fz (Wz n F)),YB (.fz (bsL n S)),YB (.fz (dI n)),YB (.fz (dI r.1)),YB (.fz (dI r.2)),z5]) dI _ (Xj n) (by rw[<-Zob];exact Zaz (Zc (Za rfl) Zi) (by omega)) ⟨_,rfl⟩ (λδ h=>by obtain⟨z,rfl⟩:=h;exact⟨_,_,_,rfl⟩) λz hz δ h=>?_);obtain⟨z5,rfl⟩:=h;have hz:=XH.mp hz;refine⟨_,rfl,?_⟩;have s1:EvT (tV (Ze gNe (Zn gIx (Zb 1) (Zb 5)) (Zn gIx (Zb 1) (Zb 3)))) [YB (.fz (Wz n F)),YB (.fz (bsL n S)),YB (.fz (dI n)),YB (.fz (dI r.1)),YB (.fz (dI r.2)),YB (.fz (dI z))] (S z !=S r.1):=W8 (Zj (Zbo (x:=z) hz rfl rfl) (Zbo (x:=r.1) (by omega) rfl rfl) (Zu0 _ _));have s2:∀{b:Bool},decide ((F r.1 z:Int)+(F z r.2:Int)=(F r.1 r.2:Int))=b->EvT (tV (Ze gEq (Ze J6 (Zn gIx (Zn gIx (Zb 0) (Zb 3)) (Zb 5)) (Zn gIx (Zn gIx (Zb 0) (Zb 5)) (Zb 4))) (Zn gIx (Zn gIx (Zb 0) (Zb 3)) (Zb 4)))) [YB (.fz (Wz n F)),YB (.fz (bsL n S)),YB (.fz (dI n)),YB (.fz (dI r.1)),YB (.fz (dI r.2)),YB (.fz (dI z))] b:=λh=>W8 (Zkg (Zaj (Jb (p:=z) (Jl (s:=r.1) (by omega) rfl rfl) (Za rfl) hz) (Jb (p:=r.2) (Jl (s:=z) hz rfl rfl) (Za rfl) l2)) (Jb (p:=r.2) (Jl (s:=r.1) (by omega) rfl rfl) (Za rfl) l2) h);cases c2:S z !=S r.1 with
   | false=>
    rw[YQ λh=>Xx h.1];rw[c2]at s1;exact J5 (Zs3 s1) ⟨_,rfl⟩
   | true=>
    rw[c2]at s1
    by_cases c3:F r.1 z+F z r.2=F r.1 r.2
    .rw[YM ⟨rfl,c3⟩]
     exact Zaq (Ztk s1 (s2 (YS (by omega)))) (Zdf (Wu (Zc (Za rfl) (Zc (Za rfl) (Zc (Za rfl) Zi))) (show 3<=1000 by decide)))
    .rw[YQ λh=>c3 h.2]
     exact J5 (Ztk s1 (s2 (YT (by omega)))) ⟨_,rfl⟩
 .obtain⟨z3,z4,z5,rfl⟩:=h
  exact Wy Yc
theorem Z3g(p:List Int):Sh 1 (Zo p):=lay_ints p
theorem Zgb(neg:Bool)(x:Int)(p:List Int):Zuv neg (.int x) (Zo p)=YB (.bool (if neg then !decide (x∈p)else decide (x∈p))):=by
 have e:memS (.int x) (p.map Xw)=decide (x∈p):=by
  unfold memS;rw[List.any_map];rw[Bool.eq_iff_iff,List.any_eq_true,decide_eq_true_eq];constructor
  .rintro⟨y,hy,h⟩
   have:(y==x)=YD:=h;rw[<-eq_of_beq this];exact hy
  .intro h
   exact⟨x,h,(show(x==x)=YD from beq_self_eq_true x)⟩
 have s:(p.map Xw).all scD=YD:=by
  rw[Vc];intro d hd;obtain⟨y,_,rfl⟩:=XM.mp hd;rfl
 show(if(scD (.int x)&&(p.map Xw).all scD)=YD then YB (BK (if neg then !memS (.int x) (p.map Xw)else memS (.int x) (p.map Xw)))else YC)=_;rw[s,e];rfl
def sdI(n:Nat)(c:Int->Bool):List Int:=((Xj n).filter λi:Nat=>c i).map λi:Nat=>(i:Int)
theorem Z2g{n:Nat}(hn:n<=10){δ:Zf}{ns:List Int}(h0:δ[0]? =YB (YB (.fz (.int n))))(hb:blk 1 [1] δ=[YC,YB (.fz (Zo ns))]):EvV (Z5 1 [1] (iRa (Zd (Zb 0) Zm)) (gNm 0) (tV (Ze (Zuv YD) (Zb 0) (Zb 1))) (Zb 0)) δ (Zo (sdI n λx=>!decide (x∈ns))):=by
 have hi:EvI (iRa (Zd (Zb 0) Zm)) δ ((Xj n).map λi:Nat=>Xw (0+(i:Int))):=Zaz (Zc (Za h0) Zi) (by omega);have e0:(λi:Nat=>Xw (0+(i:Int)))= λi:Nat=>Xw (i:Int):=funext λi=>by rw[Int.zero_add]
 rw[e0]at hi;have:=Zfh (δ:=δ) (t:=tV (Ze (Zuv YD) (Zb 0) (Zb 1))) (me:=Zb 0) (Xj n) (λi:Nat=>Xw (i:Int)) (λi:Nat=>!decide ((i:Int)∈ns)) hi (by rw[Xr];omega) hb (λi _=>W8 (Zj Za Za (Zgb YD _ _))) λi _ _=>rfl;refine this.cast ?_;unfold Zo sdI;rw[Qk];rfl
theorem Zso{n:Nat}{c:Int->Bool}{x:Int}:x∈sdI n c↔0<=x/\x<n/\c x=YD:=by
 unfold sdI;rw[XM];constructor
 .rintro⟨i,hi,rfl⟩
  obtain⟨h1,h2⟩:=JQ.mp hi;have:=XH.mp h1;exact⟨by omega,by omega,h2⟩
 .rintro⟨h1,h2,h3⟩
  exact⟨x.toNat,JQ.mpr ⟨XH.mpr (by omega),by rw[Int.toNat_of_nonneg h1];exact h3⟩,Int.toNat_of_nonneg h1⟩
theorem Zhg(n:Nat)(c:Int->Bool):(sdI n c).Pairwise (·<·):=by
 unfold sdI;exact List.Pairwise.map _ (λa b h=>by omega) ((List.pairwise_lt_range (n:=n)).filter _)
theorem Zqy{n:Nat}{ns:List Int}(h:∀x∈ns,0<=x/\x<n):Zbk (dnc ns)=sdI n λx=>decide (x∈ns):=by
 have nd:(sdI n λx=>decide (x∈ns)).Nodup:=(Zhg n _).imp λh e=>by omega
 have o:=Zky ns;have pm:(dnc ns).Perm (sdI n λx=>decide (x∈ns)):=(Uk o.1 nd).mpr λx=>by
  rw[o.2,Zso,decide_eq_true_eq];exact⟨λm=>⟨(h x m).1,(h x m).2,m⟩,λm=>m.2.2⟩
 exact Jr ((Js _).trans pm) (W9 _) ((Zhg n _).imp λh=>Int.le_of_lt h)
def inR(n:Nat)(x:Int):Bool:=decide (0<=x)&&decide (x<n)
theorem Zvs{n:Nat}{x:Int}(h0:δ[0]? =YB (YB (.fz (.int n))))(h2:δ[2]? =YB (YB (.fz (.int x)))):EvV (Zci (λi j=>decide (i<=j)) (λi j=>decide (i<j)) (fC (.int 0)) (Zb 2) (Zb 0)) δ (.bool (inR n x)):=by
 refine⟨.fz (.bool (inR n x)),?_,OT.data_fz _⟩;have e2:Zb 2 δ=YB (.fz (.int x),δ):=by rw[Zlv,h2];rfl
 have e0:Zb 0 δ=YB (.fz (.int n),δ):=by rw[Zlv,h0];rfl
 unfold Zci;show(Zb 2 δ).bind _=_;rw[e2];show(match(Xw 0),(OT.fz (.int x)).data with| .int i,.int j=>if decide (i<=j)=YD then(Zb 0 δ).bind λr=>match r.1.data with| .int k=>YB (OT.fz (.bool (decide (j<k))),r.2)|_=>YC else YB (OT.fz (.bool YF),δ)|_,_=>YC)=_;rw[OT.data_fz];dsimp only;unfold inR
 by_cases c:0<=x
 .rw[YM (YS c),e0,YS c];rfl
 .rw[YQ (by rw[YT c];exact Xx),YT c];rfl
theorem Ybq{n:Nat}{x:Int}(h0:δ[0]? =YB (YB (.fz (.int n))))(h2:δ[2]? =YB (YB (.fz (.int x)))):EvT (tO (tNo (tD (Z8 Ym (Zd (Zb 2) Zm)))) (tNo (tV (Zci (λi j=>decide (i<=j)) (λi j=>decide (i<j)) (fC (.int 0)) (Zb 2) (Zb 0))))) δ (!inR n x) :=
 Zpg (Ze3 (p:=YD) (Zg5 (Yd (Zc (Za h2) Zi) (Told.of (Zke x) (OT.data_fz _))))) (Ze3 (W8 (Zvs h0 h2)))
theorem Z8f{n:Nat}{ns:List Int}(h:∀x∈ns,inR n x=YD):Yr [.int n,Zo ns]= .ok (.fz .none):=by
 have key:EpS Wo (Zav 3 [.int n,Zo ns]) (λ_=>True) λ_ _=>False:=by
  refine Zz3 (ds:=ns.map Xw) (λ_ δ=>∃z,δ=[YB (.fz (.int n)),YB (.fz (Zo ns)),z]) (Wq Za) ⟨YC,rfl⟩ (λk d δ hd q=>?_) λ_ _=>trivial;obtain⟨z,rfl⟩:=q;obtain⟨x,hx,rfl⟩:=XM.mp (X5 hd);exact⟨_,rfl,Yaa (Z2 (by have:=Ybq (n:=n) (x:=x) (δ:=[YB (.fz (.int n)),YB (.fz (Zo ns)),YB (.fz (.int x))]) rfl rfl;rwa[h x hx]at this) rfl) ⟨_,rfl⟩⟩
 unfold Yr;rw[Zig (np:=2) (by rfl)];rcases key with⟨δ',e,_⟩|⟨o,δ',e,z⟩
 .exact YW RS.told e
 .exact z.elim
theorem Zn5{δ:Zf}{i:Nat}{ns:List Int}(h:δ[i]? =YB (YB (.fz (Zo ns))))(l:ns.length<64):EvV (Zfa (Zd (Zb i) Zm)) δ (Zo (Zbk (dnc ns))):=by
 obtain⟨ts,e1,e2⟩:=Zc (Za h) (Zi (δ:=δ));refine⟨.nd (((Zbk (dnc ns)).map Xw).map OT.fz),?_,Z0e _⟩;unfold Zfa;rw[e1,Xh];show(match OT.datas ts with|[.list es]=>(Zgq es).bind λns=>if ns.length<64 then YB (OT.nd (((Zbk (dnc ns)).map Xw).map OT.fz),δ)else YC|_=>YC)=_;rw[e2];show(Zgq (ns.map Xw)).bind _=_;rw[Zgk,Xh,YM l]
def ctO(n:Nat)(ns:List Int):List Int:=if 0∈ns then sdI n λx=>!decide (x∈ns)else sdI n λx=>decide (x∈ns)
theorem Zqb{n:Nat}(hn:n<=10){ns:List Int}(hl:ns.length<64)(h:∀x∈ns,0<=x/\x<n)(hne:ns≠[]){x:Nat}(hx:x<n)(hx':(x:Int)∉ns):Told Jq [.int n,Zo ns] (Zo (ctO n ns)):=by
 have l1:¬((ns.length:Int)=0):=λz=>hne (Bf (by omega));have l2:¬(((sdI n λx=>!decide (x∈ns)).length:Int)=0):=λz=>by
  have e:=Bf (l:=sdI n λx=>!decide (x∈ns)) (by omega);have m:(x:Int)∈sdI n λx=>!decide (x∈ns):=Zso.mpr ⟨by omega,by omega,by rw[YT hx'];rfl⟩;rw[e]at m;cases m
 have t:∀{b:Bool},decide ((0:Int)∈ns)=b->EvT (tV (Ze (Zuv YF) (fC (.int 0)) (Zb 1))) [YB (.fz (.int n)),YB (.fz (Zo ns)),YB (.fz (Zo (sdI n λx=>!decide (x∈ns))))] b:=λhb=>hb▸W8 (Zj Yc Za (Zgb YF 0 ns));refine Ye rfl<|Zx (Zt6 (Yd (Zc Za (Zc Za Zi)) (Told.of (Z8f λx m=>by unfold inR;rw[YS (h x m).1,YS (h x m).2];rfl) (OT.data_fz _))))<|Zx (Z9 (Z2g hn rfl rfl))<|Zx (Z2 (Zpg (W8 (Zkg (Zb5 Za) Yc (YT l1))) (W8 (Zkg (Zb5 Za) Yc (YT l2)))) rfl) ?_;unfold ctO
 by_cases z:(0:Int)∈ns
 .rw[YM z]
  exact Zac (Zf5 (t (YS z)) (Wy Za))
 .rw[YQ z,<-Zqy h]
  exact Zx (Z2 (t (YT z)) rfl) (Wy (Zn5 rfl hl))
theorem Ycm{g:FG}{t:FT}(x1 x2:α->Xa)(p:α->Bool)(f:α->OT):∀(xs:List α) (z0 z1:Option OT),(∀x∈xs,∀z0 z1,g (.tuple [x1 x,x2 x]) (z0::z1::cs)=YB (YB (.fz (x1 x))::YB (.fz (x2 x))::cs))->(∀x∈xs,t (YB (.fz (x1 x))::YB (.fz (x2 x))::cs)=YB (p x,YB (.fz (x1 x))::YB (.fz (x2 x))::cs))->(∀x∈xs,p x=YD->me (YB (.fz (x1 x))::YB (.fz (x2 x))::cs)=YB (f x,YB (.fz (x1 x))::YB (.fz (x2 x))::cs)) ->
  ∃z0' z1',compLoop g t me (xs.map λx=>.tuple [x1 x,x2 x]) (z0::z1::cs)=YB ((xs.filter p).map f,z0'::z1'::cs):=by
 intro xs
 induction xs with
 | nil=>exact λz0 z1 _ _ _=>⟨z0,z1,rfl⟩
 | cons x xs ih=>
  intro z0 z1 hg ht hm;obtain⟨y0,y1,e⟩:=ih (YB (.fz (x1 x))) (YB (.fz (x2 x))) (λy hy=>hg y (.tail _ hy)) (λy hy=>ht y (.tail _ hy)) λy hy=>hm y (.tail _ hy);refine⟨y0,y1,?_⟩;rw[X4,compLoop,hg x (.head _),Xh,ht x (.head _),Xh];dsimp only;cases hp:p x with
  | true=>rw[YM rfl,hm x (.head _) hp,Xh,List.filter_cons_of_pos hp,X4];dsimp only;rw[e];rfl
  | false=>rw[YQ Xx,List.filter_cons_of_neg (by rw[hp];exact Xx)];exact e
theorem Zzm{it:FI}{g:FG}{t:FT}(xs:List α)(x1 x2:α->Xa)(p:α->Bool)(f:α->OT)(hi:EvI it δ (xs.map λx=>.tuple [x1 x,x2 x]))(hz:xs.length<=1000000)(hb:blk 2 caps δ=YC::YC::cs)
  (hg:∀x∈xs,∀z0 z1,g (.tuple [x1 x,x2 x]) (z0::z1::cs)=YB (YB (.fz (x1 x))::YB (.fz (x2 x))::cs)) (ht:∀x∈xs,t (YB (.fz (x1 x))::YB (.fz (x2 x))::cs)=YB (p x,YB (.fz (x1 x))::YB (.fz (x2 x))::cs)) (hm:∀x∈xs,p x=YD->me (YB (.fz (x1 x))::YB (.fz (x2 x))::cs)=YB (f x,YB (.fz (x1 x))::YB (.fz (x2 x))::cs)) :
  Z5 2 caps it g t me δ=YB (.nd ((xs.filter p).map f),δ):=by
 obtain⟨z0,z1,e⟩:=Ycm x1 x2 p f xs YC YC hg ht hm;unfold EvI at hi;unfold Z5;rw[hi,Xh];dsimp only;rw[YM (by rw[X7,Xc];omega),hb,e];rfl
def Yid(a b:Nat)(d:Xa):Xa:=match d with| .tuple ds=>.tuple (dI a::dI b::ds)|_=>.none
def nwX(n:Nat)(F:Nat->Nat->Nat)(r:Nat×Nat):Option Xa:=((Zag n).findSome? λp=>leaveX n F (sdF F r.1 r.2) p.1 p.2).map (Yid r.1 r.2)
theorem Zim{n:Nat}{F:Nat->Nat->Nat}{S:Nat->Bool}{l:List (Nat×Nat)}{v:Xa}(h:(l.findSome? λp=>leaveX n F S p.1 p.2)=YB v):∃x y z,v=t3 x y z:=by
 obtain⟨p,_,h⟩:=Bx h;unfold leaveX at h;split at h
 .obtain⟨z,_,h⟩:=Bx h
  split at h
  .exact⟨_,_,_,(Qy h).symm⟩
  .cases h
 .cases h
theorem Zr7(a b x y z:Nat):Ziz (.tuple [dI a,dI b]) (t3 x y z)=YB (.fz (.tuple [dI a,dI b,dI x,dI y,dI z])):=by
 show(if 2+3<=XC then YB (OT.fz (.tuple [dI a,dI b,dI x,dI y,dI z]))else YC)=_;rw[YM (by rw[X7];decide)]
theorem Zdc{n:Nat}{rs:List (Nat×Nat)}(R:Roads n rs)(F:Nat->Nat->Nat):Told Yg [Wz n F,.list (rs.map ptD)] ((rs.findSome? (nwX n F)).getD .none):=by
 have n10:=R.n10;refine Ye rfl (Zc3 (α:=Nat) (I:=λδ=>∃z2 z3 z4,δ=[YB (.fz (Wz n F)),YB (.fz (.list (rs.map ptD))),z2,z3,z4]) (Zan (J:=λδ=>∃z2 z3 z4,δ=[YB (.fz (Wz n F)),YB (.fz (.list (rs.map ptD))),z2,z3,z4]) ptD (nwX n F) rs (Wq (Za rfl)) ⟨_,_,_,rfl⟩ (λ_ h=>h) λr hr δ h=>?_) λδ h=>?_)
 .obtain⟨z2,z3,z4,rfl⟩:=h
  obtain⟨l1,l2⟩:=R.ok r hr;refine⟨_,rfl,Zfk (δ1:=[YB (.fz (Wz n F)),YB (.fz (.list (rs.map ptD))),YB (.fz (dI r.1)),YB (.fz (dI r.2)),YB (.fz (((Zag n).findSome? λp=>leaveX n F (sdF F r.1 r.2) p.1 p.2).getD .none))]) ((Z9 (Yd (Zc (Za rfl) (Zc (Yd (Zc (Za rfl) (Zc (Za rfl) (Zc (Za rfl) Zi))) (Zeo n10 F (by omega) l2)) Zi)) (Zex n10 F _))).trans rfl) ?_⟩;unfold nwX;cases q:(Zag n).findSome? λp=>leaveX n F (sdF F r.1 r.2) p.1 p.2 with
  | none=>exact J5 (W8 (Zj (Za rfl) Yc rfl)) ⟨_,_,_,rfl⟩
  | some v=>
   obtain⟨x,y,z,rfl⟩:=Zim q;exact Zaq (W8 (Zj (Za rfl) Yc rfl)) (Zdf (Zhj (Wu (Zc (Za rfl) (Zc (Za rfl) Zi)) (show 2<=1000 by decide)) (Za rfl) (Zr7 r.1 r.2 x y z) (OT.data_fz _)))
 .obtain⟨z2,z3,z4,rfl⟩:=h
  exact Wy Yc
theorem Z4o{F:FD}{as:FA}{d:Xa}(h:EvA as δ ds)(hF:Told F ds d):wE (Z8 F as) (Wi i) δ= .nx (δ.set i (YB (.fz d))):=Z9 (Yd h hF)
theorem Zr4(p:List Int):(Zo p).canLay0=YD:=(lay_ints p).1
theorem Ztr(a:List Int)(l:List (List Int)):Zt3 (Zo a) (l.map Zo)=decide (a∈l):=by
 unfold Zt3;rw[List.any_map,Bool.eq_iff_iff,List.any_eq_true,decide_eq_true_eq];constructor
 .rintro⟨y,hy,h⟩
  have h:QS (Zo y) (Zo a)=YD:=h;rw[show QS (Zo y) (Zo a)=decide (y=a)from Zf9 y a]at h;exact YX h▸hy
 .intro h
  exact⟨a,h,(Zf9 a a).trans (YS rfl)⟩
theorem Zrx(a:List Int)(l:List (List Int)):Za7 YD (Zo a) (.list (l.map Zo))=YB (.bool (!decide (a∈l))):=by
 have d32:(Zo a).depth<=32:=QM (lay_ints a).2 (by decide);have c2:(Bj (l.map Zo)).canLay0=YD:=(Zi4 (n:=1) λd m=>by
  obtain⟨x,_,rfl⟩:=XM.mp m;exact lay_ints x).1
 show(if _ then YB (BK (!Zt3 (Zo a) (l.map Zo)))else YC)=_;rw[YM (by rw[Zr4,c2,YS d32];rfl),Ztr]
theorem Zo4(n:Nat)(g:Nat->Xa):Zi6 ((Xj n).map g)=(Xj n).map λx=>.tuple [dI x,g x]:=by
 refine V9 λi=>?_;unfold Zi6;rw[Xi,List.getElem?_zipIdx,Xi,Xi]
 by_cases c:i<n
 .rw[Qu c]
  show YB (VN [.int ((0+i:Nat):Int),g i])=_;rw[V1];rfl
 .rw[QZ (by rw[Xr];omega)];rfl
def Zk0(n:Nat)(F:Nat->Nat->Nat)(r:Nat×Nat):List Int:=((Xj n).filter (sdF F r.1 r.2)).map λx:Nat=>(x:Int)
def Zgo(n:Nat)(F:Nat->Nat->Nat)(r:Nat×Nat):List Int:=ctO n (Zk0 n F r)
def Zq1(cs:List (List Int))(c:List Int):List (List Int):=if c∈cs then cs else cs++[c]
def Jo(n:Nat)(F:Nat->Nat->Nat)(rs:List (Nat×Nat)):List (List Int):=rs.foldl (λcs r=>Zq1 cs (Zgo n F r)) []
theorem Z9m{n:Nat}(n10:n<=10)(F:Nat->Nat->Nat){r:Nat×Nat}(h1:r.1<n)(h2:r.2<n)(d0:δ[0]? =YB (YB (.fz (Wz n F))))(d3:δ[3]? =YB (YB (.fz (dI r.1))))(d4:δ[4]? =YB (YB (.fz (dI r.2))))(hb:blk 2 [] δ=[YC,YC]):EvV (Z5 2 [] (Ztu (Zd (Z8 Yu (Zd (Zb 0) (Zd (Zb 3) (Zd (Zb 4) Zm)))) Zm)) (gTp 2 (gCn (gNm 0) (gCn (gNm 1) gNl))) (tD (Zb 1)) (Zb 0)) δ (Zo (Zk0 n F r)):=by
 refine⟨_,Zzm (cs:=[]) (Xj n) dI (λx=>.bool (sdF F r.1 r.2 x)) (sdF F r.1 r.2) (λx=>.fz (dI x)) (by rw[<-Zo4];exact Z37 (Yd (Zc (Za d0) (Zc (Za d3) (Zc (Za d4) Zi))) (Zeo n10 F h1 h2))) (by rw[Xr];omega) hb (λx _ z0 z1=>rfl) (λx _=>Zg5 (Za rfl)) (λx _ _=>rfl),?_⟩;rw[OT.data_nd,Qk];unfold Zk0 Zo;rw[Qk];exact YW _ (XS λx _=>OT.data_fz _)
theorem Z2x{n:Nat}(n10:n<=10){F:Nat->Nat->Nat}{r:Nat×Nat}(h1:r.1<n)(h2:r.2<n)(p1:0<F r.1 r.2)(z1:F r.1 r.1=0)(z2:F r.2 r.2=0):Told Jq [dI n,Zo (Zk0 n F r)] (Zo (Zgo n F r)):=by
 have mem:∀x:Int,x∈Zk0 n F r↔∃i:Nat,i<n/\sdF F r.1 r.2 i=YD/\(i:Int)=x:=λx=>by
  unfold Zk0;rw[XM];exact⟨λ⟨i,hi,e⟩=>⟨i,XH.mp (JQ.mp hi).1,(JQ.mp hi).2,e⟩,λ⟨i,a,b,e⟩=>⟨i,JQ.mpr ⟨XH.mpr a,b⟩,e⟩⟩
 refine Zqb n10 (ns:=Zk0 n F r) ?_ (λx hx=>?_) (λe=>?_) (x:=r.1) h1 λhx=>?_
 .unfold Zk0
  rw[Xc];have:=List.length_filter_le (sdF F r.1 r.2) (Xj n);rw[Xr]at this;omega
 .obtain⟨i,a,_,rfl⟩:=(mem x).mp hx
  omega
 .have:(r.2:Int)∈Zk0 n F r:=(mem _).mpr ⟨r.2,h2,YS (by omega),rfl⟩
  rw[e]at this;cases this
 .obtain⟨i,a,b,e⟩:=(mem _).mp hx
  have e:i=r.1:=VP e;subst e;have:=YX b;omega
theorem Znr(cs:List (List Int))(c:List Int):(Zq1 cs c).length<=cs.length+1:=by
 unfold Zq1;split
 .exact UL _
 .rw[XX];exact Xy _
def csO(cs:List (List Int)):OT:=.nd ((cs.map Zo).map OT.fz)
theorem Ze8(cs:List (List Int)):(csO cs).data= .list (cs.map Zo):=by unfold csO;rw[OT.data_nd,OT.map_fz]
def Z4u(cs:List (List Int)):List Xa:=sLay Xa.none (lk kdL ltI (cs.map Zo)) (cs.map Zo)
theorem Zxu{cs:List (List Int)}(h:δ[i]? =YB (YB (.fz (.list (cs.map Zo)))))(hl:cs.length<64):EvV (fBl (Zjs kdL ltI) (Zd (Zb i) Zm)) δ (.list (Z4u cs)):=by
 refine Z4e (Zc (Za h) Zi) (o:=.nd ((Z4u cs).map OT.fz)) ?_ (by rw[OT.data_nd,OT.map_fz]);show(if(decide ((cs.map Zo).length<64)&&(cs.map Zo).all λd=>(kdL d).isSome)=YD then YB (OT.nd ((Z4u cs).map OT.fz))else YC)=_;rw[YM];rw[X3,decide_eq_true_eq,Xc,Vc];refine⟨hl,λd m=>?_⟩;obtain⟨p,_,rfl⟩:=XM.mp m;show(Zgq (p.map Xw)).isSome=YD;rw[Zgk];rfl
theorem Zd2(n:Nat)(F:Nat->Nat->Nat)(rs:List (Nat×Nat))(i:Nat){r:Nat×Nat}(h:rs[i]? =YB r):Jo n F (rs.take (i+1))=Zq1 (Jo n F (rs.take i)) (Zgo n F r):=by
 unfold Jo;rw[List.take_succ,h,List.foldl_append];rfl
theorem Zbt(n:Nat)(F:Nat->Nat->Nat)(rs:List (Nat×Nat)):(Jo n F rs).length<=rs.length:=by
 have key:∀(rs:List (Nat×Nat)) (cs:List (List Int)),(rs.foldl (λcs r=>Zq1 cs (Zgo n F r)) cs).length<=cs.length+rs.length:=by
  intro rs
  induction rs with
  | nil=>exact λcs=>Xy _
  | cons r rs ih=>
   intro cs;have:=ih (Zq1 cs (Zgo n F r));have:=Znr cs (Zgo n F r);rw[List.foldl_cons,QC];omega
 have:=key rs [];rw[Vg,V1]at this;exact this
theorem Zo7{n:Nat}{rs:List (Nat×Nat)}(R:Roads n rs)(hl:rs.length<64){F:Nat->Nat->Nat}(D:∀s<n,Dst n rs s (F s)):Told Yp [Wz n F,.list (rs.map ptD)] (.list (Z4u (Jo n F rs))):=by
 have n10:=R.n10;refine Ye rfl<|Zx Zcl<|Zcr (ds:=rs.map ptD) (λi δ=>∃z3 z4 z5,δ=[YB (.fz (Wz n F)),YB (.fz (.list (rs.map ptD))),YB (csO (Jo n F (rs.take i))),z3,z4,z5]) (Wq (Za rfl)) ⟨_,_,_,rfl⟩ (λi d δ hd h=>?_) λδ' h=>?_
 .obtain⟨z3,z4,z5,rfl⟩:=h
  rw[Xi]at hd;obtain⟨r,hr,rfl⟩:=XD.mp hd;obtain⟨l1,l2⟩:=R.ok r (X5 hr);have r1:r.1<n:=by omega
  have p1:0<F r.1 r.2:=by
   obtain⟨m,_,_,e⟩:=(D r.1 r1).up r.2 l2 (by omega);omega
  have ll:=Zbt n F (rs.take i);rw[Ba]at ll;have st:∀{z3 z4:Option OT} {b:Bool},(!decide (Zgo n F r∈Jo n F (rs.take i)))=b->EvT (tV (Ze (Za7 YD) (Zb 5) (Wc 2))) [YB (.fz (Wz n F)),YB (.fz (.list (rs.map ptD))),YB (csO (Jo n F (rs.take i))),z3,z4,YB (.fz (Zo (Zgo n F r)))] b:=λh=>h▸W8 (Zj (Za rfl) (Zbe rfl (Ze8 _)) (Zrx _ _));have s1:=Z4o (i:=5) (δ:=[YB (.fz (Wz n F)),YB (.fz (.list (rs.map ptD))),YB (csO (Jo n F (rs.take i))),YB (.fz (dI r.1)),YB (.fz (dI r.2)),z5]) (Zc (Zgi (j:=0) (n:=n) (F:=F) rfl) (Zc (Z9m n10 F r1 l2 rfl rfl rfl rfl) Zi)) (Z2x n10 r1 l2 p1 (D r.1 r1).z (D r.2 l2).z)
  by_cases c:Zgo n F r∈Jo n F (rs.take i)
  .refine⟨_,_,rfl,.inl (Z1 s1 (Z2 (st (by rw[YS c];rfl)) rfl)),YB (.fz (dI r.1)),YB (.fz (dI r.2)),YB (.fz (Zo (Zgo n F r))),?_⟩
   rw[Zd2 n F rs i hr,Zq1,YM c];rfl
  .refine⟨_,_,rfl,.inl (Z1 s1 (Jy (st (by rw[YT c];rfl)) (Zcg (ts:=((Jo n F (rs.take i)).map Zo).map OT.fz) (Za rfl) rfl (by rw[Xc,Xc];omega)))),YB (.fz (dI r.1)),YB (.fz (dI r.2)),YB (.fz (Zo (Zgo n F r))),?_⟩
   rw[Zd2 n F rs i hr,Zq1,YQ c];unfold csO;rw[Qh,Qh];rfl
 .obtain⟨z3,z4,z5,rfl⟩:=h
  rw[Xc,Bw (Xy _)];have ll:=Zbt n F rs;obtain⟨o,h1,h2⟩:=Znw (Zxu (δ:=[YB (.fz (Wz n F)),YB (.fz (.list (rs.map ptD))),YB (.fz (.list ((Jo n F rs).map Zo))),z3,z4,z5]) (i:=2) rfl (by omega));exact⟨o,_,Zdl (o:=csO (Jo n F rs)) rfl (by rw[Ze8];exact h1),h2⟩
theorem Zy6{g:Str->List Xa->Option Xa}{o:FE}{as:FA}{z:Str}{d:Xa}(ho:EvV o δ (.str z))(ha:EvA as δ ds)(h:g z ds=YB d):Z5o g o as δ=YB (.fz d,δ):=by
 obtain⟨t,e1,d1⟩:=ho;obtain⟨ts,e2,d2⟩:=ha;unfold Z5o;rw[e1,Xh];dsimp only;rw[d1];dsimp only;rw[e2,Xh,d2,h];rfl
theorem Z01{t:FT}{a b:FE}{d:Xa}(h:EvT t δ YD)(k:EvV a δ d):EvV (fIf t a b) δ d:=by
 obtain⟨o,e,d1⟩:=k;exact⟨o,by rw[Zxz,h,Xh];exact e,d1⟩
theorem Zz5{t:FT}{a b:FE}{d:Xa}(h:EvT t δ YF)(k:EvV b δ d):EvV (fIf t a b) δ d:=by
 obtain⟨o,e,d1⟩:=k;exact⟨o,by rw[Zxz,h,Xh];exact e,d1⟩
def sgB(b:Bool):Str:=if b then"1"else"0"
theorem Z3u(bs:List Bool):Zjw (bs.map λb=>PyData.str (sgB b))=YB (bs.map sgB):=by
 induction bs with
 | nil=>rfl
 | cons b bs ih=>rw[X4,Zjw,ih];rfl
def CSl(cs:List (List Int)):List (List Int):=sLay [] (lk kdL ltI (cs.map Zo)) cs
theorem Zsd(cs:List (List Int)):Z4u cs=(CSl cs).map Zo:=by
 unfold Z4u CSl;rw[Zki Xa.none (Zo []),Znz]
theorem Znp(cs:List (List Int)):(CSl cs).Perm cs:=Zdq _ _ _
def Zja(CS:List (List Int))(p:Nat):Xa:=.str (PySem.Txt.join "" (CS.map λc=>sgB (decide ((p:Int)∈c))))
theorem Zq6{CS:List (List Int)}{p:Nat}(hl:CS.length<=1000):Zta "" [.list (CS.map λc=>PyData.str (sgB (decide ((p:Int)∈c))))]=YB (Zja CS p):=by
 have e:=Z3u (CS.map λc=>decide ((p:Int)∈c));rw[Qk,Qk]at e;show(Zjw (CS.map λc=>PyData.str (sgB (decide ((p:Int)∈c))))).bind _=_;rw[show Zjw (CS.map λc=>PyData.str (sgB (decide ((p:Int)∈c))))=YB (CS.map λc=>sgB (decide ((p:Int)∈c)))from e,Xh,YM]
 .rfl
 .have one:∀b,(sgB b).length=1:=λb=>by cases b<;>rfl
  refine PyProof.Rows.joinOk_of_weight ?_ (by decide);rw[Qk,Xc];have:(CS.map (Str.length∘ λc=>sgB (decide ((p:Int)∈c)))).sum=CS.length:=by
   clear hl e
   induction CS with
   | nil=>rfl
   | cons c CS ih=>
    rw[X4,List.sum_cons,ih,QC];show(sgB _).length+_=_;rw[one];omega
  rw[this];omega
theorem Zom{CS:List (List Int)}(hl:CS.length<=1000)(p:Nat):Told Wj [dI p,.list (CS.map Zo)] (Zja CS p):=by
 refine Ye rfl (Wy ⟨_,Zy6 Yc (Zc (Zdz (cs:=[YB (.fz (dI p))]) CS Zo (λc=>PyData.str (sgB (decide ((p:Int)∈c)))) (Wq (Za rfl)) (by omega) rfl λc _=>?_) Zi) (Zq6 hl),OT.data_fz _⟩);have t:EvT (tV (Ze (Zuv YF) (Zb 1) (Zb 0))) [YB (.fz (Zo c)),YB (.fz (dI p))] (decide ((p:Int)∈c)):=W8 (Zj (Za rfl) (Za rfl) (Zgb YF (p:Int) c));cases q:decide ((p:Int)∈c)with
 | true=>
  rw[q]at t;exact Z01 t Yc
 | false=>
  rw[q]at t;exact Zz5 t Yc
theorem Zsp{n:Nat}{F:Nat->Nat->Nat}{rs:List (Nat×Nat)}{v:Xa}(h:rs.findSome? (Zd3 n F)=YB v):∃x y z,v=t3 x y z:=by
 obtain⟨r,_,h⟩:=Bx h;obtain⟨x,_,h⟩:=Bx h;split at h
 .exact⟨_,_,_,(Qy h).symm⟩
 .cases h
theorem Z9f{n:Nat}{F:Nat->Nat->Nat}{rs:List (Nat×Nat)}{v:Xa}(h:rs.findSome? (nwX n F)=YB v):∃a b x y z,v= .tuple [dI a,dI b,dI x,dI y,dI z]:=by
 obtain⟨r,_,h⟩:=Bx h;unfold nwX at h;obtain⟨w,hw,rfl⟩:=XD.mp h;obtain⟨x,y,z,rfl⟩:=Zim hw;exact⟨_,_,_,_,_,rfl⟩
def Zyl(n:Nat)(F:Nat->Nat->Nat)(rs:List (Nat×Nat)):Xa:=match rs.findSome? (Zd3 n F)with
 | some v=>.tuple [.str "even",v]
 | none=>match rs.findSome? (nwX n F)with
  | some v=>.tuple [.str "not whole",v]
  | none=>.tuple [.str "halves",.list ((Xj n).map (Zja (CSl (Jo n F rs))))]
theorem Zzv{it:FI}(xs:List α)(mk f:α->Xa)(hi:EvI it δ (xs.map mk))(hz:xs.length<=1000000)(hb:blk 1 caps δ=YC::cs)(h:∀x∈xs,EvV me (YB (.fz (mk x))::cs) (f x)):∃rs,Z5 1 caps it (gNm 0) Zcj me δ=YB (.nd rs,δ)/\(OT.nd rs).data= .list (xs.map f):=by
 have g:∀x,∃o:OT,x∈xs->me (YB (.fz (mk x))::cs)=YB (o,YB (.fz (mk x))::cs)/\o.data=f x:=λx=>by
  by_cases c:x∈xs
  .obtain⟨o,h1,h2⟩:=h x c
   exact⟨o,λ_=>⟨h1,h2⟩⟩
  .exact⟨.fz .none,λz=>YZ z c⟩
 obtain⟨o,ho⟩:=VB g;unfold EvI at hi;refine⟨_,Zb8 (cs:=cs) xs mk o hi (by rw[X7];omega) hb (λx hx=>(ho x hx).1),?_⟩;rw[OT.data_nd,Qk];exact YW _ (XS λx hx=>(ho x hx).2)
theorem Zl5{n:Nat}{S:FS}{xs:List Xa}{o:OT}(hl:xs.length=np)(k:S (Zav n xs)= .rt o δ'):J8 np n S xs= .ok o:=by rw[Zig hl,k,Zp9]
theorem Ztj{n:Nat}{rs:List (Nat×Nat)}(R:Roads n rs)(hc:Z04 n rs)(hl:rs.length<64):∃F:Nat->Nat->Nat,(∀s<n,Dst n rs s (F s))/\∃o:OT,Yj [dI n,.list (rs.map ptD)]= .ok o/\o.data=Zyl n F rs/\(rs.findSome? (Zd3 n F)=YC->rs.findSome? (nwX n F)=YC->∃us,o= .tp [.fz (.str "halves"),.nd us]/\us.length=n):=by
 have n10:=R.n10;obtain⟨F,D,T⟩:=Zlc R hc;refine⟨F,D,?_⟩;have T:Told Y7 [dI n,.list (rs.map ptD)] (Wz n F):=T;have s1:=Z4o (F:=Y7) (i:=2) (δ:=Zav 6 [dI n,.list (rs.map ptD)]) (as:=Zd (Zb 0) (Zd (Zb 1) Zm)) (Zc (Za rfl) (Zc (Za rfl) Zi)) T;have s2:wE (Z8 Wb (Zd (Zb 2) (Zd (Zb 1) Zm))) (Wi 3) [YB (.fz (dI n)),YB (.fz (.list (rs.map ptD))),YB (.fz (Wz n F)),YC,YC,YC]= .nx [YB (.fz (dI n)),YB (.fz (.list (rs.map ptD))),YB (.fz (Wz n F)),YB (.fz ((rs.findSome? (Zd3 n F)).getD .none)),YC,YC]:=(Z9 (Yd (Zc (Za rfl) (Zc (Za rfl) Zi)) (Zij R F))).trans rfl;cases q1:rs.findSome? (Zd3 n F)with
 | some v=>
  rw[q1]at s2;obtain⟨x,y,z,rfl⟩:=Zsp q1;have k:Zkz Y0 (Zav 6 [dI n,.list (rs.map ptD)]) (.tuple [.str "even",t3 x y z]):=Zx s1<|Zx s2<|Zac (Zf5 (W8 (Zj (Za rfl) Yc rfl)) (Wy (Wu (Zc Yc (Zc (Za rfl) Zi)) (show 2<=1000 by decide))));obtain⟨o,δ',e,d⟩:=k;refine⟨o,Zl5 rfl e,?_,λz=>nomatch z⟩;unfold Zyl;rw[q1];exact d
 | none=>
  rw[q1]at s2;have s3:wE (Z8 Yg (Zd (Zb 2) (Zd (Zb 1) Zm))) (Wi 4) [YB (.fz (dI n)),YB (.fz (.list (rs.map ptD))),YB (.fz (Wz n F)),YB (.fz .none),YC,YC]= .nx [YB (.fz (dI n)),YB (.fz (.list (rs.map ptD))),YB (.fz (Wz n F)),YB (.fz .none),YB (.fz ((rs.findSome? (nwX n F)).getD .none)),YC]:=(Z9 (Yd (Zc (Za rfl) (Zc (Za rfl) Zi)) (Zdc R F))).trans rfl;cases q2:rs.findSome? (nwX n F)with
  | some v=>
   rw[q2]at s3;obtain⟨a,b,x,y,z,rfl⟩:=Z9f q2;have k:Zkz Y0 (Zav 6 [dI n,.list (rs.map ptD)]) (.tuple [.str "not whole",.tuple [dI a,dI b,dI x,dI y,dI z]]):=Zx s1<|Zx s2<|Zx (Z2 (W8 (Zj (Za rfl) Yc rfl)) rfl)<|Zx s3<|Zac (Zf5 (W8 (Zj (Za rfl) Yc rfl)) (Wy (Wu (Zc Yc (Zc (Za rfl) Zi)) (show 2<=1000 by decide))));obtain⟨o,δ',e,d⟩:=k;refine⟨o,Zl5 rfl e,?_,λ_ z=>nomatch z⟩;unfold Zyl;rw[q1,q2];exact d
  | none=>
   rw[q2]at s3;have ll:=Zbt n F rs;have cl:(CSl (Jo n F rs)).length<=1000:=by rw[(Znp _).length_eq];omega
   have s4:=Z4o (F:=Yp) (i:=5) (δ:=[YB (.fz (dI n)),YB (.fz (.list (rs.map ptD))),YB (.fz (Wz n F)),YB (.fz .none),YB (.fz .none),YC]) (as:=Zd (Zb 2) (Zd (Zb 1) Zm)) (Zc (Za rfl) (Zc (Za rfl) Zi)) (Zo7 R hl D);rw[Zsd]at s4;obtain⟨us,e1,e2⟩:=Zzv (caps:=[5]) (it:=iRa (Zd (Zb 0) Zm)) (me:=Z8 Wj (Zd (Zb 0) (Zd (Zb 1) Zm))) (cs:=[YB (.fz (.list ((CSl (Jo n F rs)).map Zo)))]) (δ:=[YB (.fz (dI n)),YB (.fz (.list (rs.map ptD))),YB (.fz (Wz n F)),YB (.fz .none),YB (.fz .none),YB (.fz (.list ((CSl (Jo n F rs)).map Zo)))]) (Xj n) dI (Zja (CSl (Jo n F rs))) (by rw[<-Zob];exact Zaz (Zc (Za rfl) Zi) (by omega)) (by rw[Xr];omega) rfl λp _=>Yd (Zc (Za rfl) (Zc (Za rfl) Zi)) (Zom cl p);have ul:us.length=n:=by
    rw[OT.data_nd]at e2;have:=YW List.length (Uj e2)
    rwa[Xc,Xc,Xr]at this
   refine⟨.tp [.fz (.str "halves"),.nd us],Zl5 (δ':=[YB (.fz (dI n)),YB (.fz (.list (rs.map ptD))),YB (.fz (Wz n F)),YB (.fz .none),YB (.fz .none),YB (.fz (.list ((CSl (Jo n F rs)).map Zo)))]) rfl (Z1 s1<|Z1 s2<|Z1 (Z2 (W8 (Zj (Za rfl) Yc rfl)) rfl)<|Z1 s3<|Z1 (Z2 (W8 (Zj (Za rfl) Yc rfl)) rfl)<|Z1 s4 ?_),?_,λ_ _=>⟨us,rfl,ul⟩⟩
   .show wE (Zwc (Zd (fC (.str "halves")) (Zd (Z5 1 [5] (iRa (Zd (Zb 0) Zm)) (gNm 0) Zcj (Z8 Wj (Zd (Zb 0) (Zd (Zb 1) Zm)))) Zm))) W2 [YB (.fz (dI n)),YB (.fz (.list (rs.map ptD))),YB (.fz (Wz n F)),YB (.fz .none),YB (.fz .none),YB (.fz (.list ((CSl (Jo n F rs)).map Zo)))]=_
    rw[Za9,Zwm,Zi9,Z4f,Xh];dsimp only;rw[Zi9,e1];show onO (if 2<=XC then YB (OT.tp [OT.fz (.str "halves"),OT.nd us],_)else YC) W2=_;rw[YM (by rw[X7];decide),Z3];rfl
   .unfold Zyl
    rw[q1,q2,OT.data_tp];show VN [(OT.fz (.str "halves")).data,(OT.nd us).data]=_;rw[OT.data_fz,e2]
def Ziy(n:Nat)(f:Nat->Nat->Xa):OT:=.nd ((Xj n).map λi=>.nd ((Xj n).map λj=>.fz (f i j)))
def Z9n(n:Nat)(f:Nat->Nat->Xa):Xa:=.list ((Xj n).map λi=>.list ((Xj n).map λj=>f i j))
theorem Zoa(n:Nat)(f:Nat->Nat->Xa):(Ziy n f).data=Z9n n f:=by
 unfold Ziy Z9n;rw[OT.data_nd,Qk];refine YW Bj (XS λi _=>?_);show(OT.nd _).data=_;rw[OT.data_nd,Qk];exact YW Bj (XS λj _=>OT.data_fz _)
def upG(f:Nat->Nat->Xa)(a b:Nat)(d:Xa):Nat->Nat->Xa:=λi j=>if i=a/\j=b then d else f i j
theorem Zfx{n a:Nat}(f:Nat->α)(x:α):((Xj n).map f).set a x=(Xj n).map λi=>if i=a then x else f i:=by
 refine V9 λi=>?_;rw[List.getElem?_set,Xc,Xr,Xi,Xi]
 by_cases h:a=i
 .subst h
  by_cases c:a<n
  .rw[YM rfl,YM c,Qu c];simp
  .rw[YM rfl,YQ c,QZ (by simp;omega)];rfl
 .rw[YQ h]
  by_cases c:i<n
  .rw[Qu c];simp[Vu h]
  .rw[QZ (by simp;omega)];rfl
theorem Zjt{n:Nat}{e j j2:FE}{d:Xa}{f:Nat->Nat->Xa}{a b:Nat}(he:EvV e δ d)(hi:δ[i]? =YB (YB (Ziy n f)))(hj:EvV j δ (.int a))(ha:a<n)(hk:EvV j2 δ (.int b))(hb:b<n) :
  Zrf i e j j2 δ= .nx (δ.set i (YB (Ziy n (upG f a b d)))):=by
 obtain⟨_,e2,d2⟩:=he;obtain⟨_,e3,d3⟩:=hj;obtain⟨_,e4,d4⟩:=hk;unfold Zrf Ziy at*
 rw[Za9,e2,Z3,hi];dsimp only;rw[Za9,e3,Z3,d3];dsimp only;rw[Zhi (by rw[Xc,Xr];exact ha)];dsimp only;rw[Xi,Qu ha,Option.map_some];dsimp only;rw[Za9,e4,Z3,d4];dsimp only;rw[Zhi (by rw[Xc,Xr];exact hb)];dsimp only;rw[d2,Zfx,Zfx];refine YW RS.nx (YW (δ.set i) (YW YB (YW OT.nd (XS λk _=>?_))))
 by_cases c:k=a
 .subst c
  rw[YM rfl];refine YW OT.nd (XS λl _=>?_);unfold upG
  by_cases c2:l=b
  .rw[YM c2,YM ⟨rfl,c2⟩]
  .rw[YQ c2,YQ λz=>c2 z.2]
 .rw[YQ c]
  refine YW OT.nd (XS λl _=>?_);unfold upG;rw[YQ λz=>c z.1]
theorem Zvy{n:Nat}{rs:List (Nat×Nat)}{F:Nat->Nat->Nat}(D:∀s<n,Dst n rs s (F s)){k:Nat}(hi:i<n)(hk:k<n):∀(d j:Nat),j<n->F k j=d->F i j<=F i k+F k j:=by
 intro d
 induction d with
 | zero=>
  intro j hj e
  by_cases c:j=k
  .rw[c];exact Vd _ _
  .obtain⟨m,_,_,h⟩:=(D k hk).up j hj c
   omega
 | succ d ih=>
  intro j hj e;have c:j≠k:=λc=>by
   rw[c,(D k hk).z]at e;cases e
  obtain⟨m,hm,lm,h⟩:=(D k hk).up j hj c;have h1:=ih m lm (by omega);have h2:=(D i hi).one m lm j (Zf0 _ _ hm);omega
theorem Zzt{n:Nat}{rs:List (Nat×Nat)}{f:Nat->Nat}{s p:Nat}(D:Dst n rs s f)(hp:p<n):f p<n:=by
 refine Vq λc=>?_;have key:∀d,d<=f p->∃m,m<n/\f m=f p-d:=by
  intro d
  induction d with
  | zero=>exact λ_=>⟨p,hp,rfl⟩
  | succ d ih=>
   intro hd;obtain⟨m,lm,e⟩:=ih (by omega);have ne:m≠s:=λz=>by
    rw[z,D.z]at e;omega
   obtain⟨m',_,l',e'⟩:=D.up m lm ne;exact⟨m',l',by omega⟩
 have:=Zzh (l:=Xj (n+1)) (m:=(Xj n).map f) List.nodup_range λk hk=>by
  have hk:=XH.mp hk;obtain⟨m,lm,e⟩:=key (f p-k) (by omega);exact XM.mpr ⟨m,XH.mpr lm,by omega⟩
 rw[Xr,Xc,Xr]at this;omega
def fwS(M:Nat->Nat->Nat)(k:Nat):Nat->Nat->Nat:=λi j=>min (M i j) (M i k+M k j)
structure Fw(n:Nat)(rs:List (Nat×Nat))(F M:Nat->Nat->Nat)(k:Nat):Prop where
 lo:∀i<n,∀j<n,F i j<=M i j
 z:∀i<n,M i i=0
 ed:∀i<n,∀j∈nbR rs i,M i j<=1
 tr:∀v<k,v<n->∀i<n,∀j<n,M i j<=M i v+M v j
theorem Fw.step{n:Nat}{rs:List (Nat×Nat)}{F M:Nat->Nat->Nat}{k:Nat}(D:∀s<n,Dst n rs s (F s))(W:Fw n rs F M k)(hk:k<n):Fw n rs F (fwS M k) (k+1):=by
 have zk:=W.z k hk;refine⟨λi hi j hj=>?_,λi hi=>?_,λi hi j hj=>?_,λv hv hvn i hi j hj=>?_⟩
 .have:=W.lo i hi j hj
  have:=W.lo i hi k hk;have:=W.lo k hk j hj;have:=Zvy D hi hk _ j hj rfl;show F i j<=min _ _;omega
 .have:=W.z i hi
  show min (M i i) _=0;omega
 .have:=W.ed i hi j hj
  show min (M i j) _<=1;omega
 .show min (M i j) (M i k+M k j)<=min (M i v) (M i k+M k v)+min (M v j) (M v k+M k j)
  by_cases c:v=k
  .subst c
   omega
  .have lv:v<k:=by omega
   have a:=W.tr v lv hvn i hi j hj;have b:=W.tr v lv hvn k hk j hj;have d:=W.tr v lv hvn i hi k hk;omega
theorem Fw.eq{n:Nat}{rs:List (Nat×Nat)}{F M:Nat->Nat->Nat}(D:∀s<n,Dst n rs s (F s))(W:Fw n rs F M n):∀i<n,∀j<n,M i j=F i j:=by
 intro i hi;have key:∀(d j:Nat),j<n->F i j=d->M i j<=F i j:=by
  intro d
  induction d with
  | zero=>
   intro j hj e
   by_cases c:j=i
   .rw[c,W.z i hi];exact Qw _
   .obtain⟨m,_,_,h⟩:=(D i hi).up j hj c
    omega
  | succ d ih=>
   intro j hj e;have c:j≠i:=λc=>by
    rw[c,(D i hi).z]at e;cases e
   obtain⟨m,hm,lm,h⟩:=(D i hi).up j hj c;have h1:=ih m lm (by omega);have h2:=W.ed m lm j (Zf0 _ _ hm);have h3:=W.tr m lm lm i hi j hj;omega
 exact λj hj=>Nat.le_antisymm (key _ j hj rfl) (W.lo i hi j hj)
theorem Zx0{n:Nat}{e j:FE}{d:Xa}{k:Int}(h:EvV e δ d)(hi:δ[i]? =YB (YB (.nd ts)))(hj:EvV j δ (.int k))(hx:ixN ts.length k=YB n):Z2p i e j δ= .nx (δ.set i (YB (.nd (ts.set n (.fz d))))):=by
 obtain⟨t,e1,e2⟩:=h;obtain⟨u,e3,e4⟩:=hj;rw[Z3r,e1,Z3,hi,Zul,e3,Z3,e4,e2];show onX (ixN ts.length k) _=_;rw[hx];rfl
def gM(M:Nat->Nat->Nat):Nat->Nat->Xa:=λi j=>dI (M i j)
def upM(M:Nat->Nat->Nat)(a b:Nat):Nat->Nat->Nat:=λi j=>if i=a/\j=b then 1 else M i j
theorem Z52(M:Nat->Nat->Nat)(a b:Nat):upG (gM M) a b (dI 1)=gM (upM M a b):=by
 funext i j;unfold upG gM upM;split<;>rfl
def FwO(n:Nat)(M:Nat->Nat->Nat)(o:Option OT):Prop:=∃ts:List OT,o=YB (.nd ts)/\ts.map OT.data=(Xj n).map λs=>Zfb n (M s)
theorem FwO.ev{n:Nat}{M:Nat->Nat->Nat}{o:Option OT}(h:FwO n M o)(hi:δ[i]? =YB o):EvV (Wc i) δ (Wz n M):=by
 obtain⟨ts,rfl,e⟩:=h;exact Zbe hi (by rw[OT.data_nd,e];rfl)
theorem Zuf{n:Nat}{M:Nat->Nat->Nat}{o:Option OT}{s p:Nat}{a b:FE}(h:FwO n M o)(hi:δ[i]? =YB o)(ha:EvV a δ (dI s))(hs:s<n)(hb:EvV b δ (dI p))(hp:p<n):EvV (Zn gIx (Zn gIx (Wc i) a) b) δ (dI (M s p)):=Jb (Zcs (ds:=(Xj n).map λs=>Zfb n (M s)) (h.ev hi) ha (Zbq (by rw[Xi,Qu hs];rfl))) hb hp
theorem FwO.put{n s:Nat}{M M':Nat->Nat->Nat}{ts:List OT}(h:ts.map OT.data=(Xj n).map λs=>Zfb n (M s))(hM:∀i,i≠s->M' i=M i):(ts.set s (.fz (Zfb n (M' s)))).map OT.data=(Xj n).map λs=>Zfb n (M' s):=by
 rw[List.map_set,h,OT.data_fz,Zfx];refine XS λi _=>?_
 by_cases c:i=s
 .rw[YM c,c]
 .rw[YQ c,hM i c]
def Zya(M:Nat->Nat->Nat)(k one:Nat):Nat->Nat->Nat:=λi j=>if i<one then fwS M k i j else M i j
theorem Zn0{n:Nat}{rs:List (Nat×Nat)}(R:Roads n rs){F:Nat->Nat->Nat}(D:∀s<n,Dst n rs s (F s)):Told Zak [dI n,.list (rs.map ptD)] (Wz n F):=by
 have n10:=R.n10;have nb:n<=1000000:=by omega
 have rng:∀{δ:Zf} {j:Nat},δ[j]? =YB (YB (.fz (dI n)))->EvI (iRa (Zd (Zb j) Zm)) δ ((Xj n).map dI):=λh=>by rw[<-Zob];exact Zaz (Zc (Za h) Zi) nb
 have i0:Z5 1 [0] (iRa (Zd (Zb 0) Zm)) (gNm 0) Zcj (Z5 1 [1,0] (iRa (Zd (Zb 1) Zm)) (gNm 0) Zcj (Ze Ze2 (Zb 1) (Zbb Zzb (Zd (Ze gNe (Zb 2) (Zb 0)) Zm)))) (Zav 7 [dI n,.list (rs.map ptD)])=YB (Ziy n (gM λi j=>if i=j then 0 else n),Zav 7 [dI n,.list (rs.map ptD)]):=by
  refine Zb8 (cs:=[YB (.fz (dI n))]) (Xj n) dI (λi=>.nd ((Xj n).map λj=>.fz (gM (λi j=>if i=j then 0 else n) i j))) (rng rfl) (by rw[X7,Xr];omega) rfl λi _=>?_;refine Zb8 (cs:=[YB (.fz (dI n)),YB (.fz (dI i))]) (Xj n) dI (λj=>.fz (gM (λi j=>if i=j then 0 else n) i j)) (rng rfl) (by rw[X7,Xr];omega) rfl λj _=>?_;have e:EvV (Ze Ze2 (Zb 1) (Zbb Zzb (Zd (Ze gNe (Zb 2) (Zb 0)) Zm))) [YB (.fz (dI j)),YB (.fz (dI n)),YB (.fz (dI i))] (.int ((n:Int)*(if(!decide ((i:Int)=j))=YD then 1 else 0))):=Zek (Za rfl) (Zbx (Zc (Zlq (Za rfl) (Za rfl) rfl) Zi) (Zyz _)) (by show n<_;omega);rw[Zkf e];unfold gM;dsimp only
  by_cases c:i=j
  .rw[YM c,YS (YW Nat.cast c)]
   simp[dI]
  .rw[YQ c,YT (show¬(i:Int)=j from λz=>c (VP z))]
   simp[dI]
 refine Ye rfl<|Zx (Zd6 i0)<|Zcr (ds:=rs.map ptD) (λi δ=>∃M z3 z4,δ=[YB (.fz (dI n)),YB (.fz (.list (rs.map ptD))),YB (Ziy n (gM M)),z3,z4,YC,YC]/\(∀i<n,∀j<n,F i j<=M i j)/\(∀i<n,M i i=0)/\∀k r,k<i->rs[k]? =YB r->M r.1 r.2<=1/\M r.2 r.1<=1) (Wq (Za rfl)) ⟨_,_,_,rfl,λi hi j hj=>?_,λi _=>YM rfl,λk r z=>YZ z (Q9 _)⟩ (λi d δ hd h=>?_) λδ' h=>?_
 .show F i j<=if i=j then 0 else n
  split
  .rename_i c
   rw[c,(D j hj).z];exact Xy _
  .exact Vn (Zzt (D i hi) hj)
 .obtain⟨M,z3,z4,rfl,lo,zz,ed⟩:=h
  rw[Xi]at hd;obtain⟨⟨a,b⟩,hr,rfl⟩:=XD.mp hd;have hm:=X5 hr;obtain⟨l1,l2⟩:=R.ok _ hm;have l1:a<b:=l1;have l2:b<n:=l2;have la:a<n:=by omega
  refine⟨_,_,rfl,.inl (Z1 (Zjt (d:=dI 1) (a:=a) (b:=b) Yc rfl (Za rfl) la (Za rfl) l2) ((Zjt (f:=upG (gM M) a b (dI 1)) (d:=dI 1) (a:=b) (b:=a) Yc rfl (Za rfl) l2 (Za rfl) la).trans rfl)),upM (upM M a b) b a,YB (.fz (dI a)),YB (.fz (dI b)),by rw[Z52,Z52];rfl,λi hi j hj=>?_,λi hi=>?_,λk r hk hkr=>?_⟩
  .have f1:=(D a la).one a la b (Zcx.mpr (.inl hm))
   have f2:=(D b l2).one b l2 a (Zcx.mpr (.inr hm));rw[(D a la).z]at f1;rw[(D b l2).z]at f2;unfold upM;split
   .rename_i c
    rw[c.1,c.2];exact f2
   .split
    .rename_i c
     rw[c.1,c.2];exact f1
    .exact lo i hi j hj
  .unfold upM
   rw[YQ (by omega),YQ (by omega)];exact zz i hi
  .have key:∀x y,M x y<=1->upM (upM M a b) b a x y<=1:=λx y h=>by
    unfold upM;split
    .exact Xy _
    .split
     .exact Xy _
     .exact h
   rcases Nat.lt_succ_iff_lt_or_eq.mp hk with hk|rfl
   .obtain⟨e1,e2⟩:=ed k r hk hkr
    exact⟨key _ _ e1,key _ _ e2⟩
   .rw[hr]at hkr
    cases hkr;refine⟨?_,?_⟩
    .show upM (upM M a b) b a a b<=1
     unfold upM;rw[YQ (by omega),YM ⟨rfl,rfl⟩];exact Xy _
    .show upM (upM M a b) b a b a<=1
     unfold upM;rw[YM ⟨rfl,rfl⟩];exact Xy _
 obtain⟨M,z3,z4,rfl,lo,zz,ed⟩:=h;rw[Xc]at ed;have W0:Fw n rs F M 0:=⟨lo,zz,λi hi j hj=>by
  rcases Zcx.mp hj with q|q
  .obtain⟨k,hk,e⟩:=Uu q
   exact(ed k _ hk (by rw[Xn hk,e])).1
  .obtain⟨k,hk,e⟩:=Uu q
   exact(ed k _ hk (by rw[Xn hk,e])).2,λv hv=>YZ hv (Q9 _)⟩
 have o0:FwO n M (YB (Ziy n (gM M))):=by
  refine⟨_,rfl,?_⟩;have:=Zoa n (gM M);unfold Ziy at this;rw[OT.data_nd]at this;exact Uj this
 refine Zcr (ds:=(Xj n).map dI) (λk δ=>∃M o z5 z6,δ=[YB (.fz (dI n)),YB (.fz (.list (rs.map ptD))),o,z3,z4,z5,z6]/\FwO n M o/\Fw n rs F M k) (rng rfl) ⟨M,_,YC,YC,rfl,o0,W0⟩ (λk d δ hd h=>?_) λδ' h=>?_
 .obtain⟨M,o,z5,z6,rfl,hO,W⟩:=h
  rw[Xi]at hd;obtain⟨k',hk',rfl⟩:=XD.mp hd;have kn:=(Xk.mp hk').1;rw[Xr]at kn;rw[Qu kn]at hk';cases hk';refine Zmj (ds:=(Xj n).map dI) (δ1:=[YB (.fz (dI n)),YB (.fz (.list (rs.map ptD))),o,z3,z4,YB (.fz (dI k)),z6]) (λone δ=>∃o z6,δ=[YB (.fz (dI n)),YB (.fz (.list (rs.map ptD))),o,z3,z4,YB (.fz (dI k)),z6]/\FwO n (Zya M k one) o) rfl (rng rfl) ⟨o,z6,rfl,?_⟩ (λone d δ hd h=>?_) λδ' h=>?_
  .have:Zya M k 0=M:=by
    funext i j;exact YQ (Q9 _)
   rw[this];exact hO
  .obtain⟨o,z6,rfl,hO⟩:=h
   rw[Xi]at hd;obtain⟨one',h1,rfl⟩:=XD.mp hd;have on:=(Xk.mp h1).1;rw[Xr]at on;rw[Qu on]at h1;cases h1;have zk:=W.z k kn;have rk:∀j,Zya M k one k j=M k j:=λj=>by
    unfold Zya;split
    .show min (M k j) (M k k+M k j)=M k j
     omega
    .rfl
   have r1:∀j,Zya M k one one j=M one j:=λj=>YQ (Q3 _);have row:EvV (Z5 1 [2,6,5] (iRa (Zd (Zb 0) Zm)) (gNm 0) Zcj (Zbb Zxq (Zd (Zn gIx (Zn gIx (Wc 1) (Zb 2)) (Zb 0)) (Zd (Ze J6 (Zn gIx (Zn gIx (Wc 1) (Zb 2)) (Zb 3)) (Zn gIx (Zn gIx (Wc 1) (Zb 3)) (Zb 0))) Zm)))) [YB (.fz (dI n)),YB (.fz (.list (rs.map ptD))),o,z3,z4,YB (.fz (dI k)),YB (.fz (dI one))] (Zfb n (fwS M k one)):=by
    refine Zdz (cs:=[o,YB (.fz (dI one)),YB (.fz (dI k))]) (Xj n) dI (λj=>dI (fwS M k one j)) (rng rfl) (by rw[Xr];omega) rfl λj hj=>?_;have hj:=XH.mp hj;have a1:=Zuf (δ:=[YB (.fz (dI j)),o,YB (.fz (dI one)),YB (.fz (dI k))]) (i:=1) (a:=Zb 2) (b:=Zb 0) hO rfl (Za rfl) on (Za rfl) hj;have a2:=Zuf (δ:=[YB (.fz (dI j)),o,YB (.fz (dI one)),YB (.fz (dI k))]) (i:=1) (a:=Zb 2) (b:=Zb 3) hO rfl (Za rfl) on (Za rfl) kn;have a3:=Zuf (δ:=[YB (.fz (dI j)),o,YB (.fz (dI one)),YB (.fz (dI k))]) (i:=1) (a:=Zb 3) (b:=Zb 0) hO rfl (Za rfl) kn (Za rfl) hj;rw[r1]at a1 a2;rw[rk]at a3;refine Zbx (Zc a1 (Zc (Zaj a2 a3) Zi)) ?_;show YB (Xw (if(M one k:Int)+(M k j:Int)<(M one j:Int)then(M one k:Int)+(M k j:Int)else(M one j:Int)))=YB (.int ((min (M one j) (M one k+M k j):Nat):Int));refine YW (λz:Int=>YB (Xw z)) ?_
    by_cases q:(M one k:Int)+(M k j:Int)<(M one j:Int)
    .rw[YM q];omega
    .rw[YQ q];omega
   obtain⟨ts,rfl,hts⟩:=hO;have tl:ts.length=n:=by
    have:=YW List.length hts
    rwa[Xc,Xc,Xr]at this
   have nx:Zya M k (one+1) one=fwS M k one:=by
    funext j;exact YM (QB _)
   refine⟨_,_,rfl,.inl ((Zx0 (n:=one) (ts:=ts) row rfl (Za rfl) (Zhi (by omega))).trans rfl),_,YB (.fz (dI one)),rfl,⟨_,rfl,?_⟩⟩;rw[<-nx];refine FwO.put hts λi ne=>?_;funext j;unfold Zya
   by_cases c:i<one
   .rw[YM c,YM (QW c)]
   .rw[YQ c,YQ (by omega)]
  .obtain⟨o,z6,rfl,hO⟩:=h
   rw[Xc,Xr]at hO;refine⟨fwS M k,o,_,_,rfl,?_,W.step D kn⟩;obtain⟨ts,e,hts⟩:=hO;refine⟨ts,e,hts.trans (XS λi hi=>?_)⟩;have:Zya M k n i=fwS M k i:=by
    funext j;exact YM (XH.mp hi)
   rw[this]
 .obtain⟨M,o,z5,z6,rfl,⟨ts,rfl,hts⟩,W⟩:=h
  rw[Xc,Xr]at W;refine Z4r rfl ?_;rw[OT.data_nd,hts];refine YW Bj (XS λi hi=>?_);show Zfb n (M i)=Zfb n (F i);unfold Zfb;exact YW Bj (XS λj hj=>YW dI (W.eq D i (XH.mp hi) j (XH.mp hj)))
theorem Zs9{γ:Type}(f:α->List β)(g:β->Option γ):∀l:List α,(l.flatMap f).findSome? g=l.findSome? λa=>(f a).findSome? g:=by
 intro l
 induction l with
 | nil=>rfl
 | cons a l ih=>
  rw[List.flatMap_cons,List.findSome?_append,Q7,ih];cases(f a).findSome? g<;>rfl
theorem Zvr{γ:Type}(f:α->β)(g:β->Option γ):∀l:List α,(l.map f).findSome? g=l.findSome? λa=>g (f a):=by
 intro l
 induction l with
 | nil=>rfl
 | cons a l ih=>rw[X4,Q7,Q7,ih]
theorem Zlg{γ:Type}(p:α->Bool)(g:α->Option γ):∀l:List α,(l.filter p).findSome? g=l.findSome? λa=>if p a=YD then g a else YC:=by
 intro l
 induction l with
 | nil=>rfl
 | cons a l ih=>
  rw[Q7];cases q:p a with
  | true=>rw[List.filter_cons_of_pos q,Q7,ih,YM rfl]
  | false=>rw[List.filter_cons_of_neg (by rw[q];exact Xx),ih,YQ Xx]
theorem Zb9{γ:Type}{f g:α->Option γ}:∀{l:List α},(∀x∈l,f x=g x)->l.findSome? f=l.findSome? g:=by
 intro l
 induction l with
 | nil=>exact λ_=>rfl
 | cons a l ih=>
  intro h;rw[Q7,Q7,h a (.head _),ih λx hx=>h x (.tail _ hx)]
theorem Z7g(x y z:Nat):gNe (t3 x y z) (.tuple [])=YB (.bool YD):=by
 have s:Um (t3 x y z)=YD:=((Zb2 [(x:Int),(y:Int),(z:Int)]).shp (by decide)).ok;have e:Um (VN [])=YD:=((Zb2 []).shp (by decide)).ok;unfold gNe;rw[YM (by rw[s,e];rfl)];have:=Zj5 [(x:Int),(y:Int),(z:Int)] [];rw[YT (λh=>nomatch h)]at this;exact YW (λb=>YB (BK (!b))) this
theorem Z65:gNe (.tuple []) (.tuple [])=YB (.bool YF):=by
 have e:Um (VN [])=YD:=((Zb2 []).shp (by decide)).ok;unfold gNe;rw[YM (by rw[e];rfl)];have:=Zj5 [] [];rw[YS rfl]at this;exact YW (λb=>YB (BK (!b))) this
theorem Zn3{n:Nat}(n10:n<=10)(F:Nat->Nat->Nat)(S:Nat->Bool):Told Yx [Wz n F,bsL n S] (((Zag n).findSome? λp=>leaveX n F S p.1 p.2).getD (.tuple [])):=by
 have nb:n<=1000000:=by omega
 have e1:((Zag n).findSome? λp=>leaveX n F S p.1 p.2)=(Xj n).findSome? λx=>(Xj (n-(x+1))).findSome? λj=>leaveX n F S x (x+1+j):=by
  unfold Zag;rw[Zs9];exact Zb9 λx _=>Zvr _ _ _
 rw[e1];have rng:∀{δ:Zf} {j:Nat},δ[j]? =YB (YB (.fz (dI n)))->EvI (iRa (Zd (Zb j) Zm)) δ ((Xj n).map dI):=λh=>by rw[<-Zob];exact Zaz (Zc (Za h) Zi) nb
 refine Ye rfl (Zx (Z9 (Zgi rfl)) (Zc3 (α:=Nat) (I:=λδ=>∃z3 z4 z5 z6,δ=[YB (.fz (Wz n F)),YB (.fz (bsL n S)),YB (.fz (dI n)),z3,z4,z5,z6]) (Zan (J:=λδ=>∃z3 z4 z5 z6,δ=[YB (.fz (Wz n F)),YB (.fz (bsL n S)),YB (.fz (dI n)),z3,z4,z5,z6]) dI _ (Xj n) (rng rfl) ⟨_,_,_,_,rfl⟩ (λ_ h=>h) λx hx δ h=>?_) λδ h=>?_))
 .obtain⟨z3,z4,z5,z6,rfl⟩:=h
  have hx:=XH.mp hx;refine⟨_,rfl,Zan (J:=λδ=>∃z4 z5 z6,δ=[YB (.fz (Wz n F)),YB (.fz (bsL n S)),YB (.fz (dI n)),YB (.fz (dI x)),z4,z5,z6]) (λj=>dI (x+1+j)) _ (Xj (n-(x+1))) ?_ ⟨_,_,_,rfl⟩ (λδ h=>by obtain⟨a,b,c,rfl⟩:=h;exact⟨_,_,_,_,rfl⟩) λj hj δ h=>?_⟩
  .have:=Z2q (m:=x+1) (n:=n) (δ:=[YB (.fz (Wz n F)),YB (.fz (bsL n S)),YB (.fz (dI n)),YB (.fz (dI x)),z4,z5,z6]) (as:=Zd (Ze J6 (Zb 3) (fC (.int 1))) (Zd (Zb 2) Zm)) (Zc ((Zaj (i:=(x:Int)) (Za rfl) Yc).cast (YW Xw (by omega))) (Zc (Za rfl) Zi)) (by omega) nb
   have e:Ze5 ((x+1:Nat):Int) (n-(x+1))=(Xj (n-(x+1))).map λj=>dI (x+1+j):=XS λj _=>YW Xw (by omega);rw[e]at this;exact this
  .obtain⟨z4,z5,z6,rfl⟩:=h
   have hj:=XH.mp hj;obtain⟨y,hy⟩:∃y,y=x+1+j:=⟨_,rfl⟩;rw[<-hy];have yn:y<n:=by omega
   refine⟨_,rfl,Zfk (δ1:=[YB (.fz (Wz n F)),YB (.fz (bsL n S)),YB (.fz (dI n)),YB (.fz (dI x)),YB (.fz (dI y)),YB (.fz (.list [])),z6]) ((Z9 (Zud Zi (Qw _))).trans rfl) ?_⟩;have t0:EvT (tV (Ze gEq (Zn gIx (Zb 1) (Zb 3)) (Zn gIx (Zb 1) (Zb 4)))) [YB (.fz (Wz n F)),YB (.fz (bsL n S)),YB (.fz (dI n)),YB (.fz (dI x)),YB (.fz (dI y)),YB (.fz (.list [])),z6] (S x==S y):=W8 (Zj (Zbo (x:=x) hx rfl rfl) (Zbo (x:=y) yn rfl rfl) (Z6j _ _));have loop:∀(l:List Nat),(∀k∈l,k<n)->Zbj (α:=Nat) (λδ=>∃z4 z5 z6,δ=[YB (.fz (Wz n F)),YB (.fz (bsL n S)),YB (.fz (dI n)),YB (.fz (dI x)),z4,z5,z6]) (W5 (Zbf (Zb 5)) (gNm 6) (Wr (tV (Ze gEq (Ze J6 (Zn gIx (Zn gIx (Zb 0) (Zb 3)) (Zb 6)) (Zn gIx (Zn gIx (Zb 0) (Zb 6)) (Zb 4))) (Zn gIx (Zn gIx (Zb 0) (Zb 3)) (Zb 4)))) (wE (Zbd (Zd (Zb 3) (Zd (Zb 4) (Zd (Zb 6) Zm)))) W2) fNx)) [YB (.fz (Wz n F)),YB (.fz (bsL n S)),YB (.fz (dI n)),YB (.fz (dI x)),YB (.fz (dI y)),YB (.fz (.list (l.map dI))),z6] (l.findSome? λk=>if F x k+F k y=F x y then YB (t3 x y k)else YC):=λl hl=>by
    refine Zan (J:=λδ=>∃z6,δ=[YB (.fz (Wz n F)),YB (.fz (bsL n S)),YB (.fz (dI n)),YB (.fz (dI x)),YB (.fz (dI y)),YB (.fz (.list (l.map dI))),z6]) dI _ l (Wq (Za rfl)) ⟨_,rfl⟩ (λδ h=>by obtain⟨a,rfl⟩:=h;exact⟨_,_,_,rfl⟩) λk hk δ h=>?_;obtain⟨z6,rfl⟩:=h;have kn:=hl k hk;refine⟨_,rfl,?_⟩;have s2:∀{b:Bool},decide ((F x k:Int)+(F k y:Int)=(F x y:Int))=b->EvT (tV (Ze gEq (Ze J6 (Zn gIx (Zn gIx (Zb 0) (Zb 3)) (Zb 6)) (Zn gIx (Zn gIx (Zb 0) (Zb 6)) (Zb 4))) (Zn gIx (Zn gIx (Zb 0) (Zb 3)) (Zb 4)))) [YB (.fz (Wz n F)),YB (.fz (bsL n S)),YB (.fz (dI n)),YB (.fz (dI x)),YB (.fz (dI y)),YB (.fz (.list (l.map dI))),YB (.fz (dI k))] b:=λh=>W8 (Zkg (Zaj (Jb (p:=k) (Jl (s:=x) hx rfl rfl) (Za rfl) kn) (Jb (p:=y) (Jl (s:=k) kn rfl rfl) (Za rfl) yn)) (Jb (p:=y) (Jl (s:=x) hx rfl rfl) (Za rfl) yn) h)
    by_cases c3:F x k+F k y=F x y
    .rw[YM c3]
     exact Zaq (s2 (YS (by omega))) (Zdf (Wu (Zc (Za rfl) (Zc (Za rfl) (Zc (Za rfl) Zi))) (show 3<=1000 by decide)))
    .rw[YQ c3]
     exact J5 (s2 (YT (by omega))) ⟨_,rfl⟩
   unfold leaveX;cases c:S x==S y with
   | false=>
    rw[YQ Xx];rw[c]at t0;exact Zfk (Z2 t0 rfl) (loop [] λ_ h=>nomatch h)
   | true=>
    rw[YM rfl];rw[c]at t0;have aw:EvV (Z5 1 [1,3] (iRa (Zd (Zb 2) Zm)) (gNm 0) (tV (Ze gNe (Zn gIx (Zb 1) (Zb 0)) (Zn gIx (Zb 1) (Zb 2)))) (Zb 0)) [YB (.fz (Wz n F)),YB (.fz (bsL n S)),YB (.fz (dI n)),YB (.fz (dI x)),YB (.fz (dI y)),YB (.fz (.list [])),z6] (.list (((Xj n).filter λk=>S k !=S x).map dI)):=Zfh (cs:=[YB (.fz (bsL n S)),YB (.fz (dI x))]) (Xj n) dI (λk=>S k !=S x) (rng rfl) (by rw[Xr];omega) rfl (λk hk=>W8 (Zj (Zbo (x:=k) (XH.mp hk) rfl rfl) (Zbo (x:=x) hx rfl rfl) (Zu0 _ _))) λk _ _=>rfl;have e2:((Xj n).findSome? λz=>if(S z !=S x)=YD/\F x z+F z y=F x y then YB (t3 x y z)else YC)=(((Xj n).filter λk=>S k !=S x).findSome? λk=>if F x k+F k y=F x y then YB (t3 x y k)else YC):=by
     rw[Zlg];refine Zb9 λz _=>?_;cases S z !=S x with
     | false=>rw[YQ λh=>Xx h.1,YQ Xx]
     | true=>
      rw[YM rfl]
      by_cases c3:F x z+F z y=F x y
      .rw[YM ⟨rfl,c3⟩,YM c3]
      .rw[YQ λh=>c3 h.2,YQ c3]
    rw[e2];exact Zfk ((Jy t0 (Z9 aw)).trans rfl) (loop _ λk hk=>XH.mp (JQ.mp hk).1)
 .obtain⟨z3,z4,z5,z6,rfl⟩:=h
  exact Wy (Wu Zi (Qw _))
theorem Zee(neg:Bool)(x:Int)(p:List Int):Za7 neg (.int x) (Zo p)=YB (.bool (if neg then !decide (x∈p)else decide (x∈p))):=by
 have e:Zt3 (.int x) (p.map Xw)=decide (x∈p):=by
  unfold Zt3;rw[List.any_map,Bool.eq_iff_iff,List.any_eq_true,decide_eq_true_eq];constructor
  .rintro⟨y,hy,h⟩
   have:(y==x)=YD:=h;rw[<-eq_of_beq this];exact hy
  .intro h
   exact⟨x,h,(show(x==x)=YD from beq_self_eq_true x)⟩
 show(if((Xw x).canLay0&&((Zo p).canLay0&&decide ((Xw x).depth<=32)))=YD then YB (BK (if neg then !Zt3 (.int x) (p.map Xw)else Zt3 (.int x) (p.map Xw)))else YC)=_;rw[YM (by rw[(Z3g p).1];rfl),e]
def nrF(F:Nat->Nat->Nat)(a b x:Nat):Bool:=decide (F a x<F b x)
def nrI(n:Nat)(F:Nat->Nat->Nat)(r:Nat×Nat):List Int:=((Xj n).filter (nrF F r.1 r.2)).map λx:Nat=>(x:Int)
theorem Ztc{n:Nat}{F:Nat->Nat->Nat}{rs:List (Nat×Nat)}(h:rs.findSome? (Zd3 n F)=YC){r:Nat×Nat}(hr:r∈rs){x:Nat}(hx:x<n):nrF F r.1 r.2 x= !sdF F r.1 r.2 x:=by
 have h1:=List.findSome?_eq_none_iff.mp h r hr;have h2:=List.findSome?_eq_none_iff.mp h1 x (XH.mpr hx);have ne:F r.1 x≠F r.2 x:=λe=>by rw[YM e]at h2;cases h2
 unfold nrF sdF
 by_cases c:F r.1 x<F r.2 x
 .rw[YS c,YT (by omega)];rfl
 .rw[YT c,YS (by omega)];rfl
theorem Ztl{n:Nat}{F:Nat->Nat->Nat}{S N:Nat->Bool}(h:∀x<n,N x= !S x){x y:Nat}(hx:x<n)(hy:y<n):leaveX n F N x y=leaveX n F S x y:=by
 unfold leaveX;have e1:(N x==N y)=(S x==S y):=by
  rw[h x hx,h y hy];cases S x<;>cases S y<;>rfl
 rw[e1];split
 .refine Zb9 λz hz=>?_
  have e2:(N z !=N x)=(S z !=S x):=by
   rw[h x hx,h z (XH.mp hz)];cases S x<;>cases S z<;>rfl
  rw[e2]
 .rfl
theorem Zvi{n:Nat}{F:Nat->Nat->Nat}{r:Nat×Nat}(n1:0<n)(h:∀x<n,nrF F r.1 r.2 x= !sdF F r.1 r.2 x):Zgo n F r=if(0:Int)∈nrI n F r then sdI n (λx=>!decide (x∈nrI n F r))else nrI n F r:=by
 have mf:∀x:Nat,x<n->(((x:Int)∈Zk0 n F r)↔sdF F r.1 r.2 x=YD):=λx hx=>by
  unfold Zk0;rw[XM];exact⟨λ⟨i,hi,e⟩=>(VP e)▸(JQ.mp hi).2,λz=>⟨x,JQ.mpr ⟨XH.mpr hx,z⟩,rfl⟩⟩
 have mn:∀x:Nat,x<n->(((x:Int)∈nrI n F r)↔nrF F r.1 r.2 x=YD):=λx hx=>by
  unfold nrI;rw[XM];exact⟨λ⟨i,hi,e⟩=>(VP e)▸(JQ.mp hi).2,λz=>⟨x,JQ.mpr ⟨XH.mpr hx,z⟩,rfl⟩⟩
 have op:∀x:Nat,x<n->(((x:Int)∈nrI n F r)↔¬((x:Int)∈Zk0 n F r)):=λx hx=>by
  rw[mf x hx,mn x hx,h x hx];cases sdF F r.1 r.2 x<;>decide
 unfold Zgo ctO
 by_cases z:(0:Int)∈nrI n F r
 .have z':¬(0:Int)∈Zk0 n F r:=(op 0 n1).mp z
  rw[YM z,YQ z'];unfold sdI;refine YW _ (List.filter_congr λx hx=>?_);have:=op x (XH.mp hx);dsimp only
  by_cases c:(x:Int)∈Zk0 n F r
  .rw[YS c,YT λq=>this.mp q c];rfl
  .rw[YT c,YS (this.mpr c)];rfl
 .have z':(0:Int)∈Zk0 n F r:=Vq λq=>z ((op 0 n1).mpr q)
  rw[YQ z,YM z'];unfold sdI nrI;refine YW _ (List.filter_congr λx hx=>?_);have hx:=XH.mp hx;dsimp only;rw[h x hx]
  by_cases c:(x:Int)∈Zk0 n F r
  .rw[YS c,(mf x hx).mp c]
  .rw[YT c]
   cases q:sdF F r.1 r.2 x with
   | true=>exact YZ ((mf x hx).mpr q) c
   | false=>rfl
theorem Yem(b:Bool):Yaz (.str "01") (.int (if b then 1 else 0))=YB (.fz (.str (sgB b))):=by cases b<;>rfl
theorem Yat{n:Nat}(n10:n<=10)(F:Nat->Nat->Nat){r:Nat×Nat}(h1:r.1<n)(h2:r.2<n)(d0:δ[0]? =YB (YB (.fz (dI n))))(hb:blk 1 [2,4,5] δ=[YC,YB (.fz (Wz n F)),YB (.fz (dI r.1)),YB (.fz (dI r.2))]):EvV (Z5 1 [2,4,5] (iRa (Zd (Zb 0) Zm)) (gNm 0) Zcj (Ze gLt (Zn gIx (Zn gIx (Zb 1) (Zb 2)) (Zb 0)) (Zn gIx (Zn gIx (Zb 1) (Zb 3)) (Zb 0)))) δ (bsL n (nrF F r.1 r.2)):=by
 refine Zdz (cs:=[YB (.fz (Wz n F)),YB (.fz (dI r.1)),YB (.fz (dI r.2))]) (Xj n) dI (λx=>.bool (nrF F r.1 r.2 x)) (by rw[<-Zob];exact Zaz (Zc (Za d0) Zi) (by omega)) (by rw[Xr];omega) hb λx hx=>?_;have hx:=XH.mp hx;exact Zoj (Jb (p:=x) (Jl (s:=r.1) h1 rfl rfl) (Za rfl) hx) (Jb (p:=x) (Jl (s:=r.2) h2 rfl rfl) (Za rfl) hx) (decide_eq_decide.mpr ⟨λh=>Vz.mp h,λh=>Vz.mpr h⟩)
theorem Z5j{n:Nat}(n10:n<=10)(F:Nat->Nat->Nat){r:Nat×Nat}(h1:r.1<n)(h2:r.2<n)(d0:δ[0]? =YB (YB (.fz (dI n))))(hb:blk 1 [2,4,5] δ=[YC,YB (.fz (Wz n F)),YB (.fz (dI r.1)),YB (.fz (dI r.2))]):EvV (Z5 1 [2,4,5] (iRa (Zd (Zb 0) Zm)) (gNm 0) (tV (Ze gLt (Zn gIx (Zn gIx (Zb 1) (Zb 2)) (Zb 0)) (Zn gIx (Zn gIx (Zb 1) (Zb 3)) (Zb 0)))) (Zb 0)) δ (Zo (nrI n F r)):=by
 have:=Zfh (δ:=δ) (cs:=[YB (.fz (Wz n F)),YB (.fz (dI r.1)),YB (.fz (dI r.2))]) (t:=tV (Ze gLt (Zn gIx (Zn gIx (Zb 1) (Zb 2)) (Zb 0)) (Zn gIx (Zn gIx (Zb 1) (Zb 3)) (Zb 0)))) (me:=Zb 0) (Xj n) dI (nrF F r.1 r.2) (by rw[<-Zob];exact Zaz (Zc (Za d0) Zi) (by omega)) (by rw[Xr];omega) hb (λx hx=>by
  have hx:=XH.mp hx;exact W8 (Zoj (Jb (p:=x) (Jl (s:=r.1) h1 rfl rfl) (Za rfl) hx) (Jb (p:=x) (Jl (s:=r.2) h2 rfl rfl) (Za rfl) hx) (decide_eq_decide.mpr ⟨λh=>Vz.mp h,λh=>Vz.mpr h⟩))) λx _ _=>rfl
 refine this.cast ?_;unfold Zo nrI;rw[Qk];rfl
theorem Ydt{n:Nat}(n10:n<=10)(d0:δ[0]? =YB (YB (.fz (dI n))))(hb:blk 1 [8] δ=[YC,YB (.fz (Zo ns))]):EvV (Z5 1 [8] (iRa (Zd (Zb 0) Zm)) (gNm 0) (tV (Ze (Za7 YD) (Zb 0) (Zb 1))) (Zb 0)) δ (Zo (sdI n λx=>!decide (x∈ns))):=by
 have:=Zfh (δ:=δ) (cs:=[YB (.fz (Zo ns))]) (t:=tV (Ze (Za7 YD) (Zb 0) (Zb 1))) (me:=Zb 0) (Xj n) dI (λx=>!decide ((x:Int)∈ns)) (by rw[<-Zob];exact Zaz (Zc (Za d0) Zi) (by omega)) (by rw[Xr];omega) hb (λx _=>W8 (Zj (Za rfl) (Za rfl) (Zee YD _ _))) λx _ _=>rfl;refine this.cast ?_;unfold Zo sdI;rw[Qk];rfl
theorem Zlj{γ:Type}(f:α->Option β)(g:β->γ):∀l:List α,(l.findSome? λa=>(f a).map g)=(l.findSome? f).map g:=by
 intro l
 induction l with
 | nil=>rfl
 | cons a l ih=>
  rw[Q7,Q7];cases f a with
  | none=>exact ih
  | some b=>rfl
def eU(n:Nat)(rs:List (Nat×Nat))(F:Nat->Nat->Nat)(cs:List (List Int))(o4 o5 o6 o7 o8 o9:Option OT):Zf:=[YB (.fz (dI n)),YB (.fz (.list (rs.map ptD))),YB (.fz (Wz n F)),YB (csO cs),o4,o5,o6,o7,o8,o9]
def tgE(v:Xa):Xa:=.tuple [.str "even",v]
def tgN(v:Xa):Xa:=.tuple [.str "not whole",v]
def Z0a:FS:=(Zw (wE (Z8 Yx (Zd (Zb 2) (Zd (Z5 1 [2,4,5] (iRa (Zd (Zb 0) Zm)) (gNm 0) Zcj (Ze gLt (Zn gIx (Zn gIx (Zb 1) (Zb 2)) (Zb 0)) (Zn gIx (Zn gIx (Zb 1) (Zb 3)) (Zb 0)))) Zm))) (Wi 7))
  (Zw (Wr (tV (Ze gNe (Zb 7) (Zbd Zm)))
  (wE (Zbd (Zd (fC (.str "not whole")) (Zd (Zn Ziz (Zbd (Zd (Zb 4) (Zd (Zb 5) Zm))) (Zb 7)) Zm))) W2)
  fNx)
  (Zw (wE (Z5 1 [2,4,5] (iRa (Zd (Zb 0) Zm)) (gNm 0) (tV (Ze gLt (Zn gIx (Zn gIx (Zb 1) (Zb 2)) (Zb 0)) (Zn gIx (Zn gIx (Zb 1) (Zb 3)) (Zb 0)))) (Zb 0)) (Wi 8))
  (Zw (Wr (tV (Ze (Za7 YF) (fC (.int 0)) (Zb 8)))
  (wE (Z5 1 [8] (iRa (Zd (Zb 0) Zm)) (gNm 0) (tV (Ze (Za7 YD) (Zb 0) (Zb 1))) (Zb 0)) (Wi 8))
  fNx)
  (Wr (tV (Ze (Za7 YD) (Zb 8) (Wc 3)))
  (Z0 3 (Zb 8))
  fNx)))))
theorem Znm{n:Nat}{rs:List (Nat×Nat)}(R:Roads n rs){F:Nat->Nat->Nat}(ev:rs.findSome? (Zd3 n F)=YC){r:Nat×Nat}(hr:r∈rs){cs:List (List Int)}(hl:cs.length<=1000){o7 o8 o9:Option OT}:match nwX n F r with
  | none=>∃o7' o8',Z0a (eU n rs F cs (YB (.fz (dI r.1))) (YB (.fz (dI r.2))) o6 o7 o8 o9)= .nx (eU n rs F (Zq1 cs (Zgo n F r)) (YB (.fz (dI r.1))) (YB (.fz (dI r.2))) o6 o7' o8' o9)
  | some v=>∃o δ',Z0a (eU n rs F cs (YB (.fz (dI r.1))) (YB (.fz (dI r.2))) o6 o7 o8 o9)= .rt o δ'/\o.data=tgN v:=by
 have n10:=R.n10;obtain⟨l1,l2⟩:=R.ok r hr;have r1:r.1<n:=by omega
 have op:∀x<n,nrF F r.1 r.2 x= !sdF F r.1 r.2 x:=λx hx=>Ztc ev hr hx;have e1:((Zag n).findSome? λp=>leaveX n F (nrF F r.1 r.2) p.1 p.2)=(Zag n).findSome? λp=>leaveX n F (sdF F r.1 r.2) p.1 p.2:=Zb9 λp hp=>by
  obtain⟨a,b⟩:=Zhv hp;exact Ztl op (by omega) b
 have s1:=Z9 (i:=7) (Yd (δ:=eU n rs F cs (YB (.fz (dI r.1))) (YB (.fz (dI r.2))) o6 o7 o8 o9) (Zc (Za (i:=2) rfl) (Zc (Yat n10 F r1 l2 rfl rfl) Zi)) (Zn3 n10 F (nrF F r.1 r.2)));rw[e1]at s1;unfold nwX;cases q:(Zag n).findSome? λp=>leaveX n F (sdF F r.1 r.2) p.1 p.2 with
 | some v=>
  rw[q]at s1;obtain⟨x,y,z,rfl⟩:=Zim q;obtain⟨o,h1,h2⟩:=Znw (Wu (as:=Zd (fC (.str "not whole")) (Zd (Zn Ziz (Zbd (Zd (Zb 4) (Zd (Zb 5) Zm))) (Zb 7)) Zm)) (δ:=eU n rs F cs (YB (.fz (dI r.1))) (YB (.fz (dI r.2))) o6 (YB (.fz (t3 x y z))) o8 o9) (Zc Yc (Zc (Zhj (Wu (Zc (Za rfl) (Zc (Za rfl) Zi)) (show 2<=1000 by decide)) (Za rfl) (Zr7 r.1 r.2 x y z) (OT.data_fz _)) Zi)) (show 2<=1000 by decide));exact⟨o,_,Z1 s1 (Zkq (Jy (W8 (Zj (Za rfl) (Wu Zi (Qw _)) (Z7g x y z))) h1)),h2⟩
 | none=>
  rw[q]at s1;have s2:∀{S':FS} {R':RS},S' (eU n rs F cs (YB (.fz (dI r.1))) (YB (.fz (dI r.2))) o6 (YB (.fz (.tuple []))) (YB (.fz (Zo (nrI n F r)))) o9)=R'->_:=fun{S' R'} h=>Z1 s1 (Z1 (Z2 (S:=wE (Zbd (Zd (fC (.str "not whole")) (Zd (Zn Ziz (Zbd (Zd (Zb 4) (Zd (Zb 5) Zm))) (Zb 7)) Zm))) W2) (W8 (Zj (Za (i:=7) rfl) (Wu Zi (Qw _)) Z65)) rfl) (Z1 (S':=S') (Z9 (i:=8) (Z5j n10 F r1 l2 rfl rfl)) h));have t0:∀{b:Bool},decide ((0:Int)∈nrI n F r)=b->EvT (tV (Ze (Za7 YF) (fC (.int 0)) (Zb 8))) (eU n rs F cs (YB (.fz (dI r.1))) (YB (.fz (dI r.2))) o6 (YB (.fz (.tuple []))) (YB (.fz (Zo (nrI n F r)))) o9) b:=λh=>h▸W8 (Zj Yc (Za rfl) (Zee YF _ _));have cut:=Zvi (r:=r) (show 0<n by omega) op;have last:Wr (tV (Ze (Za7 YD) (Zb 8) (Wc 3))) (Z0 3 (Zb 8)) fNx (eU n rs F cs (YB (.fz (dI r.1))) (YB (.fz (dI r.2))) o6 (YB (.fz (.tuple []))) (YB (.fz (Zo (Zgo n F r)))) o9)= .nx (eU n rs F (Zq1 cs (Zgo n F r)) (YB (.fz (dI r.1))) (YB (.fz (dI r.2))) o6 (YB (.fz (.tuple []))) (YB (.fz (Zo (Zgo n F r)))) o9):=by
   have t:∀{b:Bool},(!decide (Zgo n F r∈cs))=b->EvT (tV (Ze (Za7 YD) (Zb 8) (Wc 3))) (eU n rs F cs (YB (.fz (dI r.1))) (YB (.fz (dI r.2))) o6 (YB (.fz (.tuple []))) (YB (.fz (Zo (Zgo n F r)))) o9) b:=λh=>h▸W8 (Zj (Za rfl) (Zbe rfl (Ze8 _)) (Zrx _ _));unfold Zq1
   by_cases c:Zgo n F r∈cs
   .rw[YM c]
    exact Z2 (t (by rw[YS c];rfl)) rfl
   .rw[YQ c]
    refine Jy (t (by rw[YT c];rfl)) ((Zcg (ts:=(cs.map Zo).map OT.fz) (Za rfl) rfl (by rw[Xc,Xc];omega)).trans ?_);unfold eU csO;rw[Qh,Qh];rfl
  refine⟨YB (.fz (.tuple [])),YB (.fz (Zo (Zgo n F r))),s2 (Z1 (δ':=eU n rs F cs (YB (.fz (dI r.1))) (YB (.fz (dI r.2))) o6 (YB (.fz (.tuple []))) (YB (.fz (Zo (Zgo n F r)))) o9) ?_ last)⟩
  by_cases z:(0:Int)∈nrI n F r
  .rw[YM z]at cut
   rw[cut];exact(Jy (t0 (YS z)) (Z9 (Ydt n10 rfl rfl))).trans rfl
  .rw[YQ z]at cut
   rw[cut];exact Z2 (t0 (YT z)) rfl
theorem Zsx{I:Nat->Zf->Prop}{g:FG}{u:FS}(mk:α->Xa)(f:α->Option Xa):∀(xs:List α) (i:Nat) (δ:Zf),I i δ->(∀(k:Nat) x,xs[k]? =YB x->∀δ,I (i+k) δ->∃δ1,g (mk x) δ=YB δ1/\Zbj (α:=α) (I (i+k+1)) u δ1 (f x))->Zbj (α:=α) (λδ=>I (i+xs.length) δ) (forLoop g u (xs.map mk)) δ (xs.findSome? f):=by
 intro xs
 induction xs with
 | nil=>exact λi δ h _=>⟨δ,rfl,h⟩
 | cons x xs ih=>
  intro i δ h t;obtain⟨δ1,e1,r⟩:=t 0 x rfl δ h;rw[Q7];cases q:f x with
  | none=>
   rw[q]at r;obtain⟨δ2,e2,h2⟩:=r;have e:forLoop g u ((x::xs).map mk) δ=forLoop g u (xs.map mk) δ2:=by
    rw[X4,forLoop,e1];dsimp only;rw[e2]
   unfold Zbj;rw[e];have:=ih (i+1) δ2 h2 λk y hy δ h=>by
    have:=t (k+1) y hy δ (by rw[show i+(k+1)=i+1+k by omega];exact h);rw[show i+(k+1)=i+1+k by omega]at this;exact this
   rw[show i+(x::xs).length=i+1+xs.length by rw[QC];omega];exact this
  | some v=>
   rw[q]at r;obtain⟨o,δ2,e2,d⟩:=r;refine⟨o,δ2,?_,d⟩;rw[X4,forLoop,e1];dsimp only;rw[e2]
theorem Zo9{n:Nat}{rs:List (Nat×Nat)}(R:Roads n rs)(hl:rs.length<64){F:Nat->Nat->Nat}(D:∀s<n,Dst n rs s (F s)):Told Wh [dI n,.list (rs.map ptD)] (Zyl n F rs):=by
 have n10:=R.n10;have nb:n<=1000000:=by omega
 have rng:∀{δ:Zf} {j:Nat},δ[j]? =YB (YB (.fz (dI n)))->EvI (iRa (Zd (Zb j) Zm)) δ ((Xj n).map dI):=λh=>by rw[<-Zob];exact Zaz (Zc (Za h) Zi) nb
 refine Ye rfl<|Zx (Z9 (Yd (Zc (Za rfl) (Zc (Za rfl) Zi)) (Zn0 R D)))<|Zx (δ':=eU n rs F [] YC YC YC YC YC YC) Zcl ?_;have A:Zbj (α:=Nat) (λδ=>∃o4 o5 o6,δ=eU n rs F [] o4 o5 o6 YC YC YC) (W5 (Zbf (Zb 1)) (gTp 2 (gCn (gNm 4) (gCn (gNm 5) gNl))) (W5 (iRa (Zd (Zb 0) Zm)) (gNm 6) (Wr (tV (Ze gEq (Zn gIx (Zn gIx (Zb 2) (Zb 4)) (Zb 6)) (Zn gIx (Zn gIx (Zb 2) (Zb 5)) (Zb 6)))) (wE (Zbd (Zd (fC (.str "even")) (Zd (Zbd (Zd (Zb 4) (Zd (Zb 5) (Zd (Zb 6) Zm)))) Zm))) W2) fNx))) (eU n rs F [] YC YC YC YC YC YC) ((rs.findSome? (Zd3 n F)).map tgE):=by
  rw[<-Zlj];refine Zan (J:=λδ=>∃o4 o5 o6,δ=eU n rs F [] o4 o5 o6 YC YC YC) ptD _ rs (Wq (Za rfl)) ⟨_,_,_,rfl⟩ (λ_ h=>h) λr hr δ h=>?_;obtain⟨o4,o5,o6,rfl⟩:=h;obtain⟨l1,l2⟩:=R.ok r hr;unfold Zd3;rw[<-Zlj];refine⟨_,rfl,Zan (J:=λδ=>∃o6,δ=eU n rs F [] (YB (.fz (dI r.1))) (YB (.fz (dI r.2))) o6 YC YC YC) dI _ (Xj n) (rng rfl) ⟨_,rfl⟩ (λδ h=>by obtain⟨z,rfl⟩:=h;exact⟨_,_,_,rfl⟩) λx hx δ h=>?_⟩;obtain⟨o6,rfl⟩:=h;have hx:=XH.mp hx;refine⟨_,rfl,?_⟩;have e:∀{b:Bool},decide ((F r.1 x:Int)=(F r.2 x:Int))=b->EvT (tV (Ze gEq (Zn gIx (Zn gIx (Zb 2) (Zb 4)) (Zb 6)) (Zn gIx (Zn gIx (Zb 2) (Zb 5)) (Zb 6)))) (eU n rs F [] (YB (.fz (dI r.1))) (YB (.fz (dI r.2))) (YB (.fz (dI x))) YC YC YC) b:=λh=>W8 (Zkg (Jb (p:=x) (Jl (s:=r.1) (by omega) rfl rfl) (Za rfl) hx) (Jb (p:=x) (Jl (s:=r.2) l2 rfl rfl) (Za rfl) hx) h)
  by_cases c:F r.1 x=F r.2 x
  .rw[YM c]
   exact Zaq (e (YS (YW Nat.cast c))) (Zdf (Wu (Zc Yc (Zc (Wu (Zc (Za rfl) (Zc (Za rfl) (Zc (Za rfl) Zi))) (show 3<=1000 by decide)) Zi)) (show 2<=1000 by decide)))
  .rw[YQ c]
   exact J5 (e (YT λz=>c (VP z))) ⟨_,rfl⟩
 unfold Zyl;cases q1:rs.findSome? (Zd3 n F)with
 | some v=>
  rw[q1]at A;obtain⟨o,δ2,e,d⟩:=A;exact Zac ⟨o,δ2,e,d⟩
 | none=>
  rw[q1]at A;obtain⟨δ2,e,o4,o5,o6,rfl⟩:=A;refine Zx e ?_;cases q2:rs.findSome? (nwX n F)with
  | some v=>
   have B:=Zsx (I:=λi δ=>∃cs o4 o5 o7 o8,δ=eU n rs F cs o4 o5 o6 o7 o8 YC/\cs.length<=i) (g:=gTp 2 (gCn (gNm 4) (gCn (gNm 5) gNl))) (u:=Z0a) ptD (λr=>(nwX n F r).map tgN) rs 0 (eU n rs F [] o4 o5 o6 YC YC YC) ⟨_,_,_,_,_,rfl,Xy _⟩ λk r hr δ h=>by
    obtain⟨cs,p4,p5,p7,p8,rfl,hcs⟩:=h;have kl:=(Xk.mp hr).1;have b:=Znm R q1 (X5 hr) (cs:=cs) (by omega) (o6:=o6) (o7:=p7) (o8:=p8) (o9:=YC);refine⟨_,rfl,?_⟩;cases q:nwX n F r with
    | none=>
     rw[q]at b;obtain⟨o7,o8,run⟩:=b;have:=Znr cs (Zgo n F r);exact⟨_,run,_,_,_,_,_,rfl,by omega⟩
    | some w=>
     rw[q]at b;exact b
   rw[Zlj]at B;rw[q2]at B;obtain⟨o,δ2,e,d⟩:=B;exact Zac ⟨o,δ2,Zfu (Wq (Za rfl)) e,d⟩
  | none=>
   have cl:(Jo n F rs).length<64:=Nat.lt_of_le_of_lt (Zbt n F rs) hl;refine Zcr (ds:=rs.map ptD) (λi δ=>∃o4 o5 o7 o8,δ=eU n rs F (Jo n F (rs.take i)) o4 o5 o6 o7 o8 YC) (Wq (Za rfl)) ⟨_,_,_,_,rfl⟩ (λi d δ hd h=>?_) λδ' h=>?_
   .obtain⟨o4,o5,o7,o8,rfl⟩:=h
    rw[Xi]at hd;obtain⟨r,hr,rfl⟩:=XD.mp hd;have ll:=Zbt n F (rs.take i);rw[Ba]at ll;have b:=Znm R q1 (X5 hr) (cs:=Jo n F (rs.take i)) (by omega) (o6:=o6) (o7:=o7) (o8:=o8) (o9:=YC);rw[List.findSome?_eq_none_iff.mp q2 r (X5 hr)]at b;obtain⟨p7,p8,run⟩:=b;exact⟨_,_,rfl,.inl run,_,_,_,_,by rw[Zd2 n F rs i hr]⟩
   .obtain⟨o4,o5,o7,o8,rfl⟩:=h
    rw[Xc,Bw (Xy _)];obtain⟨cs,hcs⟩:∃cs,cs=Jo n F rs:=⟨_,rfl⟩;rw[<-hcs]at cl|-
    have cl2:(CSl cs).length<=1000:=by rw[(Znp _).length_eq];omega
    refine Zx (δ':=[YB (.fz (dI n)),YB (.fz (.list (rs.map ptD))),YB (.fz (Wz n F)),YB (.fz (.list (cs.map Zo))),o4,o5,o6,o7,o8,YB (.nd [])]) (Zdl (o:=csO cs) rfl (by rw[Ze8];exact Zcl))<|Zcr (ds:=(Xj n).map dI) (λi δ=>∃z,δ=[YB (.fz (dI n)),YB (.fz (.list (rs.map ptD))),YB (.fz (Wz n F)),YB (.fz (.list (cs.map Zo))),o4,o5,z,o7,o8,YB (.nd (((Xj i).map (Zja (CSl cs))).map OT.fz))]) (rng rfl) ⟨_,rfl⟩ (λi d δ hd h=>?_) λδ' h=>?_
    .obtain⟨z,rfl⟩:=h
     rw[Xi]at hd;obtain⟨x,hx,rfl⟩:=XD.mp hd;have xn:=(Xk.mp hx).1;rw[Xr]at xn;rw[Qu xn]at hx;cases hx;have srt:=Zxu (δ:=[YB (.fz (dI n)),YB (.fz (.list (rs.map ptD))),YB (.fz (Wz n F)),YB (.fz (.list (cs.map Zo))),o4,o5,YB (.fz (dI i)),o7,o8,YB (.nd (((Xj i).map (Zja (CSl cs))).map OT.fz))]) (i:=3) (cs:=cs) rfl cl;rw[Zsd]at srt;refine⟨_,_,rfl,.inl (Zcg (ts:=((Xj i).map (Zja (CSl cs))).map OT.fz) (d:=Zja (CSl cs) i) ⟨_,Zy6 Yc (Zc (Zdz (cs:=[YB (.fz (dI i))]) (CSl cs) Zo (λc=>PyData.str (sgB (decide ((i:Int)∈c)))) (Wq srt) (by omega) rfl λc _=>Zhj Yc (Zbx (Zc (Zj (Za rfl) (Za rfl) (Zee YF (i:Int) c)) Zi) (Zyz _)) (Yem _) (OT.data_fz _)) Zi) (Zq6 cl2),OT.data_fz _⟩ rfl (by rw[Xc,Xc,Xr];omega)),YB (.fz (dI i)),?_⟩;rw[List.range_succ,Qh,Qh];rfl
    .obtain⟨z,rfl⟩:=h
     rw[Xc,Xr];refine⟨.tp [.fz (.str "halves"),.nd (((Xj n).map (Zja (CSl cs))).map OT.fz)],[YB (.fz (dI n)),YB (.fz (.list (rs.map ptD))),YB (.fz (Wz n F)),YB (.fz (.list (cs.map Zo))),o4,o5,z,o7,o8,YC],?_,?_⟩
     .unfold Zwq
      rw[Za9,Z4f,Z3,OT.data_fz];rfl
     .rw[OT.data_tp]
      show VN [(OT.fz (.str "halves")).data,(OT.nd _).data]=_;rw[OT.data_fz,OT.data_nd,OT.map_fz]
theorem Yf3:Zu8 (.int 10) (.int 45)=YB (.int 1000000000000000000000000000000000000000000000):=rfl
theorem Yhs:Ze2 (.int 1000000000000000000000000000000000000000000000) (.int 1000000000000000000000000000000000000000000000)=YB (.int 1000000000000000000000000000000000000000000000000000000000000000000000000000000000000000000):=rfl
theorem Zvu(c:Int)(m:Nat)(b:Int)(hm:m<=1000)(hb:(decide (0<b)&&decide (b<18446744073709551616))=YD):∃vs:List Int,Told Yz [.int c,.int m,.int b] (Zo vs)/\vs.length=m:=by
 have b0:b≠0:=λe=>by rw[e]at hb;exact YZ hb (by decide)
 have key:∃d,Told Yz [.int c,.int m,.int b] d/\∃vs,d=Zo vs/\vs.length=m :=
  Z9h rfl<|Zch (Z9 (Jv Za (Zj (Zj Yc Yc Yf3) (Zj Yc Yc Yf3) Yhs) (by decide)))<|Zch Zcl<|Zch (Z9 (Zy8 Za (Zj Yc Yc Ycb)))<|Zmf (ds:=Ze5 0 m) (λi δ=>∃(vs:List Int) (c x:Int) (z1 z2:Option OT),δ=[YB (.fz (.int c)),YB (.fz (.int m)),YB (.fz (.int b)),YB (.nd (vs.map λv=>.fz (.int v))),YB (.fz (.int x)),z1,z2]/\vs.length=i)
   (Zaz (n:=m) (Zc Za Zi) (by omega)) ⟨[],_,_,YC,YC,rfl,rfl⟩ (λi d δ hd q91=>by
    obtain⟨vs,c,x,z1,z2,e,hl⟩:=q91;subst e;obtain⟨hi,rfl⟩:=Zaf hd;have n0:=Zsn (i:=(c+977*(0+(i:Int))+1)*48271) (j:=2147483647) (by decide);have n1:=Zqu (i:=(c+977*(0+(i:Int))+1)*48271) (j:=2147483647) (by decide);have a1:∀z2,wE (Ze Zbl (Ze Ze2 (Ze J6 (Ze J6 (Zb 0) (Ze Ze2 (fC (.int 977)) (Zb 5))) (fC (.int 1))) (fC (.int 48271))) (fC (.int 2147483647))) (Wi 6) [YB (.fz (.int c)),YB (.fz (.int m)),YB (.fz (.int b)),YB (.nd (vs.map λv=>.fz (.int v))),YB (.fz (.int x)),YB (.fz (.int (0+(i:Int)))),z2]= .nx _:=λz2=>Z9 (Jv (Zlp (Zaj (Zaj Za (Zek Yc Za)) Yc) Yc) Yc (by decide))
    by_cases q:1000000000000000000<=c
    .exact⟨_,_,rfl,.inl (Z1 (a1 z2)<|Z1 (Z9 (Jv (Zek Za Za (by omega)) Yc (by decide)))<|Z1 (Z9 (Zgn (Jv (Zlp (Zaj Za (Zek Yc (Zaj Za Yc))) Yc) Yc (by decide)) Yc))<|
      Z1 (Jy (W8 (Z6b Za (Zj Yc Yc Ycb) (YS q))) (Z1 (Z9 Za) (Z9 (Zgn Za Za hb))))<|
      (Zmr (vs:=vs) (Jv Za Za b0) rfl (by omega))),_,_,_,_,_,rfl,by rw[XX,hl];rfl⟩
    .exact⟨_,_,rfl,.inl (Z1 (a1 z2)<|Z1 (Z9 (Jv (Zek Za Za (by omega)) Yc (by decide)))<|Z1 (Z9 (Zgn (Jv (Zlp (Zaj Za (Zek Yc (Zaj Za Yc))) Yc) Yc (by decide)) Yc))<|
      Z1 (Z2 (W8 (Z6b Za (Zj Yc Yc Ycb) (YT q))) rfl)<|
      (Zmr (vs:=vs) (Jv Za Za b0) rfl (by omega))),_,_,_,_,_,rfl,by rw[XX,hl];rfl⟩)
   λδ' q92=>by
    obtain⟨vs,c,x,z1,z2,e,hl⟩:=q92;subst e;rw[Wm]at hl;exact Yiy rfl ⟨vs,Zw7 vs,hl⟩
 obtain⟨d,h,vs,rfl,hl⟩:=key;exact⟨vs,h,hl⟩
theorem Z4c{e:FE}{d:Xa}(h:EvV e δ d)(hf:Wl d=YD):EvV (Zrh e) δ d:=by
 obtain⟨t,e1,d1⟩:=h;exact⟨_,by rw[Zwb,e1,Xh,d1,YM hf],OT.data_fz _⟩
theorem Zfz(f:α->β):∀(l:List α) (j:Nat),(l.map f).eraseIdx j=(l.eraseIdx j).map f
 | [],_=>rfl
 | _::_,0=>rfl
 | a::l,j+1=>YW (f a::·) (Zfz f l j)
theorem Zh6:∀(l:List Nat) (j:Nat),j<l.length->(l.getD j 0::l.eraseIdx j).Perm l
 | [],_,h=>by simp at h
 | a::l,0,_=>.refl _
 | a::l,j+1,h=>(List.Perm.swap _ _ _).trans ((Zh6 l j (by simpa using h)).cons a)
theorem Z8b{a:FE}{l:List Nat}(hi:δ[i]? =YB (YB (lsO l)))(ha:EvV a δ (dI j))(hj:j<l.length)(hl:l.length<=1000) :
  Z4y i a δ=YB (.fz (dI (l.getD j 0)),δ.set i (YB (lsO (l.eraseIdx j)))):=by
 have e1:((l.map dI).map OT.fz)[j]? =YB (.fz (dI (l.getD j 0))):=by
  rw[Xi,Xi,Xm,Xn hj];rfl
 unfold lsO at hi|-
 unfold Z4y;rw[hi];dsimp only;rw[Zkf (i:=(j:Int)) ha,Xh];dsimp only;rw[hi];dsimp only;rw[OT.data_fz];dsimp only;rw[Zhi (by rw[Xc,Xc];exact hj)];dsimp only;rw[e1];dsimp only;rw[YM (by rw[Xc,Xc,X7];omega),Zfz,Zfz]
def rsO(rs:List (Nat×Nat)):OT:=.nd ((rs.map ptD).map OT.fz)
theorem Znf(rs:List (Nat×Nat)):(rsO rs).data= .list (rs.map ptD):=by unfold rsO;rw[OT.data_nd,OT.map_fz]
def siO(ss:List Int):OT:=.nd ((ss.map Xw).map OT.fz)
theorem Zm5(ss:List Int):(siO ss).data= .list (ss.map Xw):=by unfold siO;rw[OT.data_nd,OT.map_fz]
def eV(c:Int)(vs:List Int)(n:Nat)(o4 o5 o6 o7 o8 o9 oa:Option OT):Zf:=[YB (.fz (.int c)),YB (.fz (.int 8)),YB (.fz (Zo vs)),YB (.fz (dI n)),o4,o5,o6,o7,o8,o9,oa]
theorem Zvl{c:Int}{vs:List Int}{n:Nat}{o7 o8 o9 oa:Option OT}(hl:vs.length=34)(hm:m+j<34):EvV (Zn gIx (Zb 2) (Ze J6 (fC (.int m)) (Zb 6))) (eV c vs n o4 o5 (YB (.fz (dI j))) o7 o8 o9 oa) (.int (vs.getD (m+j) 0)):=by
 have:=Zdg (p:=vs) (i:=(m:Int)+(j:Int)) (δ:=eV c vs n o4 o5 (YB (.fz (dI j))) o7 o8 o9 oa) (Za (i:=2) rfl) (Zaj Yc (Za (i:=6) rfl)) (by omega) (by omega);exact this.cast (by rw[show((m:Int)+(j:Int)).toNat=m+j by omega])
theorem Z72{c:Int}{vs:List Int}{n m:Nat}{o4 o5 o6 o7 o8 o9 oa:Option OT}(hl:vs.length=34)(hm:m<34):EvV (Zn gIx (Zb 2) (fC (.int m))) (eV c vs n o4 o5 o6 o7 o8 o9 oa) (.int (vs.getD m 0)):=Zdg (p:=vs) (i:=(m:Int)) (Za (i:=2) rfl) Yc (by omega) (by omega)
theorem Yis{c:Int}{vs:List Int}{n:Nat}{l N:List Nat}{o6 o7 o8 o9 oa:Option OT}(hl:vs.length=34)(hi:i<n)(n10:n<=10)(ll:l.length+i=n)(lN:N.length=i) :
  ∃x l',(x::l').Perm l/\Z0 5 (Z4y 4 (Ze Zbl (Zn gIx (Zb 2) (Ze J6 (fC (.int 1)) (Zb 6))) (Zbb Zgu (Zd (Wc 4) Zm)))) (eV c vs n (YB (lsO l)) (YB (lsO N)) (YB (.fz (dI i))) o7 o8 o9 oa)= .nx (eV c vs n (YB (lsO l')) (YB (lsO (N++[x]))) (YB (.fz (dI i))) o7 o8 o9 oa):=by
 obtain⟨j,hj,lj⟩:=Zau (vs.getD (1+i) 0) (n:=l.length) (by omega);have e:EvV (Ze Zbl (Zn gIx (Zb 2) (Ze J6 (fC (.int 1)) (Zb 6))) (Zbb Zgu (Zd (Wc 4) Zm))) (eV c vs n (YB (lsO l)) (YB (lsO N)) (YB (.fz (dI i))) o7 o8 o9 oa) (dI j) :=
  (Jv (Zvl (m:=1) hl (by omega)) ((Zm7 (Zbe rfl (Znc l))).cast (by rw[Xc])) (by omega)).cast (YW Xw hj)
 have p:=Z8b (δ:=eV c vs n (YB (lsO l)) (YB (lsO N)) (YB (.fz (dI i))) o7 o8 o9 oa) (i:=4) rfl e lj (by omega);refine⟨_,_,Zh6 l j lj,(Z4a (ts0:=(N.map dI).map OT.fz) (ts:=(N.map dI).map OT.fz) p rfl rfl (by rw[Xc,Xc];omega)).trans ?_⟩;rw[OT.data_fz,Zfg];rfl
def Ej(rs:List (Nat×Nat))(a b:Nat):Prop:=(a,b)∈rs\/(b,a)∈rs
theorem Rch.map{E E':Nat->Nat->Prop}{s m:Nat}(hE:∀a b,E a b->E' a b)(h:Rch E s m):Rch E' s m:=by
 induction h with
 | refl=>exact .refl
 | step _ e ih=>exact .step ih (hE _ _ e)
structure Prs(n:Nat)(rs:List (Nat×Nat)):Prop where
 ok:∀r∈rs,r.1≠r.2/\r.1<n/\r.2<n
theorem Prs.add{n:Nat}{rs:List (Nat×Nat)}(P:Prs n rs){a b:Nat}(h:a≠b)(ha:a<n)(hb:b<n):Prs n (rs++[(a,b)]):=⟨λr hr=>by
 rcases Qn.mp hr with q|q
 .exact P.ok r q
 .rw[Xq.mp q];exact⟨h,ha,hb⟩⟩
theorem Ej.add{rs:List (Nat×Nat)}{q:Nat×Nat}(a b:Nat)(h:Ej rs a b):Ej (rs++[q]) a b:=h.imp (Qj _) (Qj _)
theorem Zv0(r:Nat×Nat):Wl (ptD r)=YD:=by unfold ptD;rw[Wl,Zeq,Zeq,Zeq,Wl,Wl];rfl
theorem Z1c{k:Nat}{l:List Nat}{e:FE}(h:δ[j]? =YB (YB (lsO l)))(he:EvV e δ (dI k))(hk:k<l.length):EvV (Zn gIx (Wc j) e) δ (dI (l.getD k 0)):=Zcs (Zbe h (Znc l)) he (Zbq (by rw[Xi,Xm,Xn hk];rfl))
theorem Zmg(rs:List (Nat×Nat))(r:Nat×Nat):rsO (rs++[r])= .nd ((rs.map ptD).map OT.fz++[OT.fz (ptD r)]):=by
 unfold rsO;rw[Qh,Qh];rfl
theorem Ygk{ss:List Int}(h:j<ss.length):(ss.map Xw)[j]? =YB (.int (ss.getD j 0)):=by rw[Xi,Xm,Xn h];rfl
theorem Yed{c:Int}{vs:List Int}{n k:Nat}{N:List Nat}{rs:List (Nat×Nat)}{ss:List Int}{o9 oa:Option OT}(hl:vs.length=34)(hk:k<n)(k1:1<=k)(n10:n<=10)(lN:N.length=n)(hN:∀x∈N,x<n)(ls:ss.length=n)(lr:rs.length<=100) :
  ∃i ss',i<k/\ss'.length=n/\(Zw (Z0 7 (Zrh (Zbd (Zd (Zn gIx (Wc 5) (Ze Zbl (Zn gIx (Zb 2) (Ze J6 (fC (.int 11)) (Zb 6))) (Zb 6))) (Zd (Zn gIx (Wc 5) (Zb 6)) Zm)))))
   (Z2p 8 (Ze gSb (fC (.int 1)) (Zn gIx (Wc 8) (Zn gIx (Zn gIx (Wc 7) (fUn Zv3 (fC (.int 1)))) (fC (.int 0))))) (Zn gIx (Wc 5) (Zb 6)))) (eV c vs n o4 (YB (lsO N)) (YB (.fz (dI k))) (YB (rsO rs)) (YB (siO ss)) o9 oa)= .nx (eV c vs n o4 (YB (lsO N)) (YB (.fz (dI k))) (YB (rsO (rs++[(N.getD i 0,N.getD k 0)]))) (YB (siO ss')) o9 oa):=by
 obtain⟨i,hi,li⟩:=Zau (vs.getD (11+k) 0) (n:=k) k1;have gk:N.getD k 0<n:=by
  rw[Xm,Xn (by omega)];exact hN _ (Bl _)
 have gi:N.getD i 0<n:=by
  rw[Xm,Xn (by omega)];exact hN _ (Bl _)
 refine⟨i,ss.set (N.getD k 0) (1-ss.getD (N.getD i 0) 0),li,by rw[V3];exact ls,Z1 (δ':=eV c vs n o4 (YB (lsO N)) (YB (.fz (dI k))) (YB (rsO (rs++[(N.getD i 0,N.getD k 0)]))) (YB (siO ss)) o9 oa) ?_ ?_⟩
 .refine(Zcg (ts:=(rs.map ptD).map OT.fz) (d:=ptD (N.getD i 0,N.getD k 0)) (Z4c (Wu (Zc (Z1c rfl ((Jv (Zvl (m:=11) hl (by omega)) (Za rfl) (by omega)).cast (YW Xw hi)) (by omega)) (Zc (Z1c rfl (Za rfl) (by omega)) Zi)) (show 2<=1000 by decide)) (Zv0 _)) rfl (by rw[Xc,Xc];omega)).trans ?_
  rw[Zmg];rfl
 .have e1:EvV (Zn gIx (Zn gIx (Wc 7) (fUn Zv3 (fC (.int 1)))) (fC (.int 0))) (eV c vs n o4 (YB (lsO N)) (YB (.fz (dI k))) (YB (rsO (rs++[(N.getD i 0,N.getD k 0)]))) (YB (siO ss)) o9 oa) (dI (N.getD i 0)) :=
   Zj7 (Zcs (ds:=(rs++[(N.getD i 0,N.getD k 0)]).map ptD) (i:=-1) (d:=ptD (N.getD i 0,N.getD k 0)) (Zbe rfl (Znf _)) (Zyh Yc) (by rw[Qh];exact Zw6 _ _)) Yc rfl
  refine(Zx0 (n:=N.getD k 0) (ts:=(ss.map Xw).map OT.fz) (Zy8 Yc (Zcs (ds:=ss.map Xw) (d:=.int (ss.getD (N.getD i 0) 0)) (Zbe rfl (Zm5 ss)) e1 (Zbq (Ygk (by omega))))) rfl (Z1c (k:=k) rfl (Za rfl) (by omega)) (Zhi (by rw[Xc,Xc];omega))).trans ?_;unfold siO;rw[<-List.map_set,<-List.map_set];rfl
theorem Zzf(a:Nat):Wl (dI a)=YD:=by unfold dI;rw[Wl]
theorem Yc5{c:Int}{vs:List Int}{n k:Nat}{rs:List (Nat×Nat)}{ss:List Int}{o9 oa:Option OT}(hl:vs.length=34)(hk:k<12)(n1:1<=n)(n10:n<=10)(ls:ss.length=n)(lr:rs.length<=100)(P:Prs n rs) :
  ∃rs' a b,Prs n rs'/\rs'.length<=rs.length+1/\(∀r∈rs,r∈rs')/\(Zw (wE (Ze Zbl (Ze J7 (Zn gIx (Zb 2) (Ze J6 (fC (.int 22)) (Zb 6))) (fC (.int 10))) (Zb 3)) (Wi 9))
  (Zw (wE (Ze Zbl (Zn gIx (Zb 2) (Ze J6 (fC (.int 22)) (Zb 6))) (Zb 3)) (Wi 10))
  (Wr (tAn (tV (Ze gNe (Zb 9) (Zb 10))) (tO (tV (Ze gEq (Ze Zbl (Ze J7 (Zn gIx (Zb 2) (fC (.int 21))) (fC (.int 13))) (fC (.int 3))) (fC (.int 0)))) (tV (Ze gNe (Zn gIx (Wc 8) (Zb 9)) (Zn gIx (Wc 8) (Zb 10))))))
  (Z0 7 (Zbd (Zd (Zb 9) (Zd (Zb 10) Zm))))
  fNx))) (eV c vs n o4 o5 (YB (.fz (dI k))) (YB (rsO rs)) (YB (siO ss)) o9 oa)= .nx (eV c vs n o4 o5 (YB (.fz (dI k))) (YB (rsO rs')) (YB (siO ss)) (YB (.fz (dI a))) (YB (.fz (dI b)))):=by
 obtain⟨a,ha,la⟩:=Zau ((vs.getD (22+k) 0).fdiv 10) (n:=n) n1;obtain⟨b,hb,lb⟩:=Zau (vs.getD (22+k) 0) (n:=n) n1;have n0:(n:Int)≠0:=by omega
 have s1:∀{R:RS} {S:FS},S (eV c vs n o4 o5 (YB (.fz (dI k))) (YB (rsO rs)) (YB (siO ss)) (YB (.fz (dI a))) (YB (.fz (dI b))))=R->(Zw (wE (Ze Zbl (Ze J7 (Zn gIx (Zb 2) (Ze J6 (fC (.int 22)) (Zb 6))) (fC (.int 10))) (Zb 3)) (Wi 9)) (Zw (wE (Ze Zbl (Zn gIx (Zb 2) (Ze J6 (fC (.int 22)) (Zb 6))) (Zb 3)) (Wi 10)) S)) (eV c vs n o4 o5 (YB (.fz (dI k))) (YB (rsO rs)) (YB (siO ss)) o9 oa)=R:=λh=>
  Z1 (δ':=eV c vs n o4 o5 (YB (.fz (dI k))) (YB (rsO rs)) (YB (siO ss)) (YB (.fz (dI a))) oa) ((Z9 (d:=dI a) ((Jv (Zgn (Zvl (m:=22) hl (by omega)) Yc) (Za rfl) n0).cast (YW Xw ha))).trans rfl) (Z1 (δ':=eV c vs n o4 o5 (YB (.fz (dI k))) (YB (rsO rs)) (YB (siO ss)) (YB (.fz (dI a))) (YB (.fz (dI b)))) ((Z9 (d:=dI b) ((Jv (Zvl (m:=22) hl (by omega)) (Za rfl) n0).cast (YW Xw hb))).trans rfl) h)
 have no:∀{t:FT} {S:FS},EvT t (eV c vs n o4 o5 (YB (.fz (dI k))) (YB (rsO rs)) (YB (siO ss)) (YB (.fz (dI a))) (YB (.fz (dI b)))) YF->Wr t S fNx (eV c vs n o4 o5 (YB (.fz (dI k))) (YB (rsO rs)) (YB (siO ss)) (YB (.fz (dI a))) (YB (.fz (dI b))))= .nx _:=λh=>Z2 h rfl
 by_cases ab:a=b
 .refine⟨rs,a,b,P,UL _,λ_ h=>h,s1 (no (Zs3 (W8 (Zlq (Za rfl) (Za rfl) ?_))))⟩
  rw[YS (YW Nat.cast ab)];rfl
 have t0:EvT (tV (Ze gNe (Zb 9) (Zb 10))) (eV c vs n o4 o5 (YB (.fz (dI k))) (YB (rsO rs)) (YB (siO ss)) (YB (.fz (dI a))) (YB (.fz (dI b)))) YD:=W8 (Zlq (Za rfl) (Za rfl) (by rw[YT (show¬(a:Int)=b from λz=>ab (VP z))];rfl));have yes:∀{t:FT},EvT t (eV c vs n o4 o5 (YB (.fz (dI k))) (YB (rsO rs)) (YB (siO ss)) (YB (.fz (dI a))) (YB (.fz (dI b)))) YD->Wr t (Z0 7 (Zbd (Zd (Zb 9) (Zd (Zb 10) Zm)))) fNx (eV c vs n o4 o5 (YB (.fz (dI k))) (YB (rsO rs)) (YB (siO ss)) (YB (.fz (dI a))) (YB (.fz (dI b))))= .nx (eV c vs n o4 o5 (YB (.fz (dI k))) (YB (rsO (rs++[(a,b)]))) (YB (siO ss)) (YB (.fz (dI a))) (YB (.fz (dI b)))):=λh=>by
  refine Jy h ((Zcg (ts:=(rs.map ptD).map OT.fz) (d:=ptD (a,b)) (Wu (Zc (Za rfl) (Zc (Za rfl) Zi)) (show 2<=1000 by decide)) rfl (by rw[Xc,Xc];omega)).trans ?_);rw[Zmg];rfl
 have fin:∀{t:FT},EvT t (eV c vs n o4 o5 (YB (.fz (dI k))) (YB (rsO rs)) (YB (siO ss)) (YB (.fz (dI a))) (YB (.fz (dI b)))) YD->_:=fun{t} h=>s1 (yes h);have ok:Prs n (rs++[(a,b)])/\(rs++[(a,b)]).length<=rs.length+1/\∀r∈rs,r∈rs++[(a,b)]:=⟨P.add ab la lb,by rw[XX];exact Xy _,λr h=>Qj _ h⟩;have e1:EvV (Ze Zbl (Ze J7 (Zn gIx (Zb 2) (fC (.int 21))) (fC (.int 13))) (fC (.int 3))) (eV c vs n o4 o5 (YB (.fz (dI k))) (YB (rsO rs)) (YB (siO ss)) (YB (.fz (dI a))) (YB (.fz (dI b)))) (.int (((vs.getD 21 0).fdiv 13).fmod 3)):=Jv (Zgn (Z72 (m:=21) hl (by decide)) Yc) Yc (by decide)
 by_cases q:((vs.getD 21 0).fdiv 13).fmod 3=0
 .exact⟨rs++[(a,b)],a,b,ok.1,ok.2.1,ok.2.2,fin (Ztk t0 (Z6x (W8 (Zkg e1 Yc (YS q)))))⟩
 have t1:=W8 (Zkg e1 (Yc (d:=.int 0)) (YT q));have sd:∀{j x:Nat},x<n->(eV c vs n o4 o5 (YB (.fz (dI k))) (YB (rsO rs)) (YB (siO ss)) (YB (.fz (dI a))) (YB (.fz (dI b))))[j]? =YB (YB (.fz (dI x)))->EvV (Zn gIx (Wc 8) (Zb j)) (eV c vs n o4 o5 (YB (.fz (dI k))) (YB (rsO rs)) (YB (siO ss)) (YB (.fz (dI a))) (YB (.fz (dI b)))) (.int (ss.getD x 0)):=λhx hj=>Zcs (ds:=ss.map Xw) (Zbe rfl (Zm5 ss)) (Za hj) (Zbq (Ygk (by omega)))
 by_cases q2:ss.getD a 0=ss.getD b 0
 .exact⟨rs,a,b,P,UL _,λ_ h=>h,s1 (no (Ztk t0 (Zpg t1 (W8 (Zlq (sd la rfl) (sd lb rfl) (by rw[YS q2];rfl))))))⟩
 .exact⟨rs++[(a,b)],a,b,ok.1,ok.2.1,ok.2.2,fin (Ztk t0 (Zpg t1 (W8 (Zlq (sd la rfl) (sd lb rfl) (by rw[YT q2];rfl)))))⟩
def mm(r:Nat×Nat):Int×Int:=(((min r.1 r.2:Nat):Int),((max r.1 r.2:Nat):Int))
def toN(p:Int×Int):Nat×Nat:=(p.1.toNat,p.2.toNat)
theorem Z2l{n:Nat}(n10:n<=10){r:Nat×Nat}(h:r.1<n/\r.2<n):Z4v (mm r)=YD:=by
 unfold Z4v mm;rw[YS (Int.natCast_nonneg _),YS (Int.natCast_nonneg _),YS (show((min r.1 r.2:Nat):Int)<10 by omega),YS (show((max r.1 r.2:Nat):Int)<10 by omega)];rfl
def fin(rs:List (Nat×Nat)):List (Nat×Nat):=(ssP (rs.map mm)).map toN
theorem Zk7{rs:List (Nat×Nat)}{p:Nat×Nat}:p∈fin rs↔∃r∈rs,p=(min r.1 r.2,max r.1 r.2):=by
 unfold fin;rw[XM];constructor
 .intro h
  obtain⟨q,hq,rfl⟩:=h;obtain⟨r,hr,rfl⟩:=XM.mp (Zeb.mp hq);exact⟨r,hr,rfl⟩
 .intro h
  obtain⟨r,hr,rfl⟩:=h;exact⟨mm r,Zeb.mpr (XM.mpr ⟨r,hr,rfl⟩),rfl⟩
theorem Zwn(rs:List (Nat×Nat)):(fin rs).map ptD=(ssP (rs.map mm)).map pD:=by
 unfold fin;rw[Qk];refine XS λq hq=>?_;obtain⟨r,hr,rfl⟩:=XM.mp (Zeb.mp hq);rfl
theorem Ztf{n:Nat}{rs:List (Nat×Nat)}(n1:1<=n)(n10:n<=10)(P:Prs n rs)(hl:rs.length<=100):Roads n (fin rs):=by
 refine⟨n1,n10,λp hp=>?_,λi r r' h1 h2=>?_,?_⟩
 .obtain⟨r,hr,rfl⟩:=Zk7.mp hp
  obtain⟨a,b,c⟩:=P.ok r hr;show min r.1 r.2<max r.1 r.2/\max r.1 r.2<n;omega
 .unfold fin at h1 h2
  rw[Xi]at h1 h2;obtain⟨q,hq,rfl⟩:=XD.mp h1;obtain⟨q',hq',rfl⟩:=XD.mp h2;obtain⟨a1,a2⟩:=Xk.mp hq;obtain⟨b1,b2⟩:=Xk.mp hq';have up:=BR.mp (Zyc (rs.map mm)) i (i+1) a1 b1 (QB _);rw[a2,b2]at up;obtain⟨s,_,rfl⟩:=XM.mp (Zeb.mp (X5 hq));obtain⟨s',_,rfl⟩:=XM.mp (Zeb.mp (X5 hq'));have up:=Zfq.mp up;show ltI [(mm s).1,(mm s).2] [(mm s').1,(mm s').2]=YD;rw[ltI,ltI,ltI]
  by_cases e:(mm s).1=(mm s').1
  .rw[YM e,YQ (by omega)]
   exact YS (by omega)
  .rw[YQ e]
   exact YS (by omega)
 .unfold fin
  rw[Xc];have:=Zk4 (rs.map mm);rw[Xc]at this;omega
theorem Zwh{n:Nat}{rs:List (Nat×Nat)}{z:Nat}(h:∀m<n,Rch (Ej rs) z m)(n1:1<=n):Z04 n (fin rs):=λm hm=>by
 have e:∀a b,Ej rs a b->Nb (nbR (fin rs)) a b:=λa b h=>by
  refine Zcx.mpr ?_;have key:∀x y,(x,y)∈rs->(x,y)∈fin rs\/(y,x)∈fin rs:=λx y h=>by
   rcases Nat.le_total x y with q|q
   .exact .inl (Zk7.mpr ⟨_,h,by rw[Nat.min_eq_left q,Nat.max_eq_right q]⟩)
   .exact .inr (Zk7.mpr ⟨_,h,by rw[Nat.min_eq_right q,Nat.max_eq_left q]⟩)
  rcases h with q|q
  .exact key a b q
  .exact(key b a q).symm
 have g:∀m<n,Rch (Nb (nbR (fin rs))) z m:=λm hm=>(h m hm).map e;exact Rch.trans (Rch.symm Zf0 (g 0 n1)) (g m hm)
theorem Z10{n:Nat}{d:Xa}(h:δ[j]? =YB (YB (.fz (dI n))))(hn:n<=1000000):Z46 (fC d) (Zb j) δ=YB (.nd (Qi n (.fz d)),δ):=by
 obtain⟨_,e1,d1⟩:=Za (δ:=δ) (i:=j) (d:=dI n) h;rw[Z07,Z4f,Xh,e1,Xh,d1];show asInt (.int (n:Int)) _=_;rw[Zr6,YM ⟨Zni (by omega) (by omega),by rw[X7];omega⟩,Bg,OT.data_fz]
theorem Zvc{as:FA}{ps:List (Int×Int)}(h:EvA as δ [.list (ps.map pD)])(hl:ps.length<64)(hi:∀p∈ps,Z4v p=YD):EvV (Zdi as) δ (.list ((ssP ps).map pD)):=by
 obtain⟨ts,e1,d1⟩:=h;refine⟨.nd (((ssP ps).map pD).map OT.fz),?_,by rw[OT.data_nd,OT.map_fz]⟩;unfold Zdi;rw[e1,Xh,d1];show(Zgp (ps.map pD)).bind _=_;rw[Zo5,Xh,YM (by rw[YS hl,Vc.mpr hi];rfl)]
theorem Yey(r:Nat×Nat):Zxq [dI r.1,dI r.2]=YB (.int ((min r.1 r.2:Nat):Int)):=by
 show YB (Xw (if(r.2:Int)<(r.1:Int)then(r.2:Int)else(r.1:Int)))=_;rcases Bh r.2 r.1 with q|q
 .rw[YM (Vz.mpr q),Nat.min_eq_right (Vn q)]
 .rw[YQ (λz=>Nat.not_lt.mpr q (Vz.mp z)),Nat.min_eq_left q]
theorem Ybr(r:Nat×Nat):Z2i [dI r.1,dI r.2]=YB (.int ((max r.1 r.2:Nat):Int)):=by
 show YB (Xw (if(r.2:Int)>(r.1:Int)then(r.2:Int)else(r.1:Int)))=_;rcases Bh r.1 r.2 with q|q
 .rw[YM (Vz.mpr q),Nat.max_eq_right (Vn q)]
 .rw[YQ (λz=>Nat.not_lt.mpr q (Vz.mp z)),Nat.max_eq_left q]
theorem Z38{c:Int}{vs:List Int}{n:Nat}{rs:List (Nat×Nat)}{o8 o9 oa:Option OT}(hl:rs.length<=100):EvV (Z5 2 [] (Zbf (Wc 7)) (gTp 2 (gCn (Zqh 0) (gCn (Zqh 1) gNl))) Zcj (Zbd (Zd (Zbb Zxq (Zd (Zb 0) (Zd (Zb 1) Zm))) (Zd (Zbb Z2i (Zd (Zb 0) (Zd (Zb 1) Zm))) Zm)))) (eV c vs n o4 o5 o6 (YB (rsO rs)) o8 o9 oa) (.list ((rs.map mm).map pD)):=by
 have g:∀r:Nat×Nat,∃o:OT,Zbd (Zd (Zbb Zxq (Zd (Zb 0) (Zd (Zb 1) Zm))) (Zd (Zbb Z2i (Zd (Zb 0) (Zd (Zb 1) Zm))) Zm)) [YB (.fz (dI r.1)),YB (.fz (dI r.2))]=YB (o,[YB (.fz (dI r.1)),YB (.fz (dI r.2))])/\o.data=pD (mm r):=λr=>
  Wu (ds:=[.int ((min r.1 r.2:Nat):Int),.int ((max r.1 r.2:Nat):Int)]) (Zc (Zbx (Zc (Za rfl) (Zc (Za rfl) Zi)) (Yey r)) (Zc (Zbx (Zc (Za rfl) (Zc (Za rfl) Zi)) (Ybr r)) Zi)) (show 2<=1000 by decide)
 obtain⟨o,ho⟩:=VB g;refine⟨_,Zzm (cs:=[]) rs (λr=>dI r.1) (λr=>dI r.2) (λ_=>YD) o (Wq (Zbe rfl (Znf rs))) (by omega) rfl (λr _ z0 z1=>?_) (λr _=>rfl) λr _ _=>(ho r).1,?_⟩
 .rw[Z51,YM (show[dI r.1,dI r.2].length=2 from rfl),Zxv,Zl8,YM (Zzf _),Xh,Zxv,Zl8,YM (Zzf _)];rfl
 .rw[OT.data_nd,Qk,Qk,List.filter_eq_self.mpr λ_ _=>rfl]
  exact YW _ (XS λr _=>(ho r).2)
theorem Z16(rs:List (Nat×Nat)):(fin rs).length<=rs.length:=by
 unfold fin;rw[Xc];have:=Zk4 (rs.map mm)
 rwa[Xc]at this
theorem Z6o(c:Int):∃w:Nat×List (Nat×Nat),Told Wk [.int c,.int 8] (.tuple [dI w.1,.list (w.2.map ptD)])/\Roads w.1 w.2/\Z04 w.1 w.2/\w.2.length<64:=by
 obtain⟨vs,T,hl⟩:=Zvu c 34 100 (by decide) (by decide);obtain⟨t,ht,t10⟩:=Zau (vs.getD 0 0) (n:=8) (by decide);have ht:(vs.getD 0 0).fmod 8=t:=ht;obtain⟨n,hn⟩:∃n,n=1+t:=⟨_,rfl⟩;have n1:1<=n:=by omega
 have n10:n<=10:=by omega
 have nb:n<=1000000:=by omega
 have key:∃d,Told Wk [.int c,.int 8] d/\∃w:Nat×List (Nat×Nat),d= .tuple [dI w.1,.list (w.2.map ptD)]/\Roads w.1 w.2/\Z04 w.1 w.2/\w.2.length<64:=by
  refine Z9h rfl<|Zch (Z9 (Yd (Zc (Za rfl) (Zc Yc (Zc Yc Zi))) T))<|Zch (Z9 (d:=dI n) ((Zaj Yc (Jv (Zdg (p:=vs) (i:=0) (Za rfl) Yc (by decide) (by rw[hl];decide)) (Za rfl) (by decide))).cast ?_))<|
   Zch (δ':=eV c vs n (YB (lsO (Xj n))) YC YC YC YC YC YC) ((Zd6 (o:=lsO (Xj n)) ?_).trans rfl)<|Zch (δ':=eV c vs n (YB (lsO (Xj n))) (YB (lsO [])) YC YC YC YC YC) Zcl<|
   Zmf (ds:=Ze5 0 n) (λi δ=>∃l N o6,δ=eV c vs n (YB (lsO l)) (YB (lsO N)) o6 YC YC YC YC/\(N++l).Perm (Xj n)/\N.length=i) (Zaz (Zc (Za rfl) Zi) nb) ⟨_,_,_,rfl,.refl _,rfl⟩ (λi d δ hd h=>?_) λδ' h=>?_
  .show Xw (1+(vs.getD 0 0).fmod 8)=Xw (n:Int)
   rw[ht,hn];rfl
  .refine(Zb8 (cs:=[]) (Xj n) dI (λx=>.fz (dI x)) (by rw[<-Zob];exact Zaz (Zc (Za rfl) Zi) nb) (by rw[X7,Xr];omega) rfl λx _=>rfl).trans ?_
   unfold lsO;rw[Qk];rfl
  .obtain⟨l,N,o6,rfl,pm,lN⟩:=h
   obtain⟨hi,e⟩:=Zaf hd;rw[Int.zero_add]at e;subst e;have len:=pm.length_eq;rw[XX,Xr]at len;obtain⟨x,l',p2,run⟩:=Yis (c:=c) (l:=l) (N:=N) (o6:=o6) (o7:=YC) (o8:=YC) (o9:=YC) (oa:=YC) hl hi n10 (by omega) lN;refine⟨_,_,rfl,.inl run,l',N++[x],_,rfl,?_,by rw[XX,lN];rfl⟩;rw[QV];exact(List.Perm.append_left _ p2).trans pm
  obtain⟨l,N,o6,rfl,pm,lN⟩:=h;rw[Wm]at lN;have l0:l=[]:=by
   have len:=pm.length_eq;rw[XX,Xr]at len;exact Bf (by omega)
  rw[l0,Qs]at pm;have nd:N.Nodup:=pm.nodup_iff.mpr List.nodup_range;have hN:∀x∈N,x<n:=λx hx=>XH.mp (pm.mem_iff.mp hx);have ne:∀{i k:Nat},i<k->k<n->N.getD i 0≠N.getD k 0:=fun{i k} hi hk e=>by
   rw[Xm,Xn (by omega),Xm,Xn (by omega)]at e;exact BR.mp nd i k (by omega) (by omega) hi e
  have gl:∀{k:Nat},k<n->N.getD k 0<n:=fun{k} hk=>by
   rw[Xm,Xn (by omega)];exact hN _ (Bl _)
  refine Zch (δ':=eV c vs n (YB (lsO l)) (YB (lsO N)) o6 (YB (rsO [])) YC YC YC) Zcl<|Zch (δ':=eV c vs n (YB (lsO l)) (YB (lsO N)) o6 (YB (rsO [])) (YB (siO (Qi n 0))) YC YC) ((Zd6 (Z10 rfl nb)).trans ?_)<|
   Zmf (ds:=Ze5 1 (n-1)) (λi δ=>∃o6 rs ss,δ=eV c vs n (YB (lsO l)) (YB (lsO N)) o6 (YB (rsO rs)) (YB (siO ss)) YC YC/\ss.length=n/\rs.length=i/\Prs n rs/\∀j,j<=i->j<n->Rch (Ej rs) (N.getD 0 0) (N.getD j 0)) (Z2q (m:=1) (n:=n) (Zc Yc (Zc (Za rfl) Zi)) (by decide) nb) ⟨o6,[],Qi n 0,rfl,V5,rfl,⟨λ_ h=>nomatch h⟩,λj hj _=>by rw[Nat.le_zero.mp hj];exact .refl⟩ (λi d δ hd h=>?_) λδ' h=>?_
  .unfold siO
   rw[List.map_replicate,List.map_replicate];rfl
  .obtain⟨o6,rs,ss,rfl,ls,lr,P,hr⟩:=h
   obtain⟨hi,e⟩:=Zaf hd;have e:d=dI (1+i):=e;subst e;obtain⟨i',ss',li,ls',run⟩:=Yed (c:=c) (o4:=YB (lsO l)) (o9:=YC) (oa:=YC) (k:=1+i) hl (by omega) (by omega) n10 lN hN ls (by omega:rs.length<=100);refine⟨_,_,rfl,.inl run,_,_,ss',rfl,ls',by rw[XX,lr];rfl,P.add (ne li (by omega)) (gl (by omega)) (gl (by omega)),λj hj hjn=>?_⟩
   by_cases q:j<=i
   .exact(hr j q hjn).map Ej.add
   .have:j=1+i:=by omega
    subst this;exact .step ((hr i' (by omega) (by omega)).map Ej.add) (.inl (Qg _ (.head _)))
  obtain⟨o6,rs,ss,rfl,ls,lr,P,hr⟩:=h;rw[Wm]at lr hr;have hc:∀m<n,Rch (Ej rs) (N.getD 0 0) m:=λm hm=>by
   obtain⟨j,hj,e⟩:=Uu (pm.mem_iff.mpr (XH.mpr hm));have:=hr j (by omega) (by omega)
   rwa[Xm (i:=j),Xn hj,e]at this
  obtain⟨u,hu,lu⟩:=Zau (vs.getD 21 0) (n:=13) (by decide);refine Zmf (ds:=Ze5 0 u) (λi δ=>∃o6 rs o9 oa,δ=eV c vs n (YB (lsO l)) (YB (lsO N)) o6 (YB (rsO rs)) (YB (siO ss)) o9 oa/\Prs n rs/\rs.length<=9+i/\∀m<n,Rch (Ej rs) (N.getD 0 0) m) (Zaz (n:=u) (Zc ((Jv (Z72 (m:=21) hl (by decide)) Yc (by decide)).cast (YW Xw hu)) Zi) (by omega)) ⟨o6,rs,YC,YC,rfl,P,by omega,hc⟩ (λi d δ hd h=>?_) λδ' h=>?_
  .obtain⟨o6,rs,o9,oa,rfl,P,lr,hc⟩:=h
   obtain⟨hi,e⟩:=Zaf hd;rw[Int.zero_add]at e;subst e;obtain⟨rs',a,b,P',l',sub,run⟩:=Yc5 (c:=c) (o4:=YB (lsO l)) (o5:=YB (lsO N)) (o9:=o9) (oa:=oa) (k:=i) hl (by omega) n1 n10 ls (by omega) P;exact⟨_,_,rfl,.inl run,_,rs',_,_,rfl,P',by omega,λm hm=>(hc m hm).map λa b h=>h.imp (sub _) (sub _)⟩
  .obtain⟨o6,rs,o9,oa,rfl,P,lr,hc⟩:=h
   rw[Wm]at lr;refine Z6t (Wu (Zc (Za rfl) (Zc (Zvc (Zc (Z38 (by omega)) Zi) (by rw[Xc];omega) λp hp=>?_) Zi)) (show 2<=1000 by decide)) ⟨(n,fin rs),?_,Ztf n1 n10 P (by omega),Zwh hc n1,Nat.lt_of_le_of_lt (Z16 rs) (by omega)⟩
   .obtain⟨r,hr,rfl⟩:=XM.mp hp
    exact Z2l n10 (P.ok r hr).2
   .rw[Zwn]
 obtain⟨d,T2,w,rfl,h⟩:=key;exact⟨w,T2,h⟩
theorem Zz8{e:FE}{st:FO}{k:Int}(h:EvV e δ (.list ds))(hs:EvO st δ (YB k))(hk:k≠0):EvV (Ztm e oN oN st) δ (.list (Zej ds YC YC (YB k))):=by
 obtain⟨t,e1,e2⟩:=h;unfold EvO at hs;refine⟨.nd ((Zej ds YC YC (YB k)).map OT.fz),?_,by rw[OT.data_nd,OT.map_fz]⟩;unfold Ztm;rw[e1];show(st δ).bind _=_;rw[hs];show(stepOf t.data YC YC (YB k)).bind _=_;rw[e2];show(if YB k=YB 0 then YC else YB _:Option OT).bind _=_;rw[YQ (λz=>hk (Qy z))];rfl
theorem Zxc(l:List Int)(lo hi:Option Int):∃l':List Int,cutD (l.map Xw) lo hi=l'.map Xw/\l'.length<=l.length:=by
 refine⟨(l.drop (HT.sIx l.length 0 lo)).take (HT.sIx l.length l.length hi-HT.sIx l.length 0 lo),?_,?_⟩
 .unfold cutD
  rw[Xc,List.map_take,List.map_drop]
 .rw[Ba,Vp];omega
theorem Z9w{e:FE}{lo hi:FO}{l h:Option Int}{p:List Int}(he:EvV e δ (Zo p))(hl:EvO lo δ l)(hh:EvO hi δ h):∃q,EvV (fSl e lo hi) δ (Zo q)/\q.length<=p.length:=by
 obtain⟨q,e1,e2⟩:=Zxc p l h;refine⟨q,?_,e2⟩;have:=Z6k (ds:=p.map Xw) he hl hh
 rwa[e1]at this
theorem Zz2{a b:FE}{p q:List Int}(ha:EvV a δ (Zo p))(hb:EvV b δ (Zo q))(hl:p.length+q.length<=1000000):EvV (Zn Zuw a b) δ (Zo (p++q)):=by
 refine(Zyw (ds:=p.map Xw) (es:=q.map Xw) ha hb (by rw[Xc,Xc];exact hl)).cast ?_;unfold Zo;rw[Qh]
theorem Zm8(h:∀d∈ds,Z7 d=YD):J3 ds=YD:=by
 induction ds with
 | nil=>rfl
 | cons d ds ih=>rw[J3,h d (.head _),ih λe he=>h e (.tail _ he)];rfl
theorem Zmd{d:Xa}{n:Nat}(h:Sh n d)(hn:n<=64)(hp:Z7 d=YD):gEq d d=YB (.bool YD)/\gNe d d=YB (.bool YF):=by
 have s:=(h.shp hn).ok;unfold gEq gNe;rw[YM (by rw[s];rfl),YM (by rw[s];rfl),Zu7 hp];exact⟨rfl,rfl⟩
theorem Zww(i:Int):Told Jg [.int i] (.bool YD):=Ye rfl (Wy (Zi8 (Zco (Za rfl) rfl) (Z8g (Zco (p:=YF) (Za rfl) rfl) rfl)))
theorem Zty(rs:List (Nat×Nat)):gNe (.list (rs.map ptD)) (.list (rs.map ptD))=YB (.bool YF):=by
 refine(Zmd (Zi4 (n:=1) λd hd=>?_) (by decide) ?_).2
 .obtain⟨r,_,rfl⟩:=XM.mp hd
  exact Zb2 [(r.1:Int),(r.2:Int)]
 .rw[Z7]
  refine Zm8 λd hd=>?_;obtain⟨r,_,rfl⟩:=XM.mp hd;unfold ptD;rw[Z7,J3,J3,J3,Z7,Z7];rfl
theorem Z8d{F:FD}{as:FA}{o:OT}(h:EvA as δ ds)(hF:F ds= .ok o):wE (Z8 F as) (Ja i) δ= .nx (δ.set i (YB o)):=by
 obtain⟨ts,e1,d1⟩:=h;refine Zd6 ?_;rw[Zng,e1,Xh,d1,hF];rfl
theorem Zv4{e:FE}{c:Nat}{us:List OT}{o:OT}(hi:δ[i]? =YB (YB (.tp ts)))(hc:ts[c]? =YB (.nd us))(he:e δ=YB (o,δ))(hl:us.length<=1000000):Zhd i c e δ= .nx (δ.set i (YB (.tp (ts.set c (.nd (us++[.fz o.data])))))):=by
 rw[Zsy,hi,Yec,hc,Yez,he,Z3,YM (by rw[X7];omega)]
theorem Zx7(a b:Str):QX (a++b)=(QX a&&QX b):=by
 show(a.cps++b.cps).all _=_;rw[Array.all_append];rfl
theorem Yh4:QX ""=YD:=by decide +kernel
theorem Zqt:∀(ts:List Str),(∀t∈ts,QX t=YD)->QX (Str.join "" ts)=YD
 | [],_=>by decide +kernel
 | [x],h=>h x (.head _)
 | x::y::r,h=>by
  show QX (x++""++Str.join "" (y::r))=YD;rw[Zx7,Zx7,h x (.head _),Zqt (y::r) λt m=>h t (.tail _ m),Yh4];rfl
theorem Yei(b:Bool):QX (sgB b)=YD:=by cases b<;>decide +kernel
theorem Yao(CS:List (List Int))(p:Nat):Sh 0 (Zja CS p):=⟨by
 unfold Zja;rw[Br];show QX (PySem.Txt.join "" _)=YD;unfold PySem.Txt.join;rw[StrLaws.glued_eq_join];exact Zqt _ λt m=>by
  obtain⟨c,_,rfl⟩:=XM.mp m;exact Yei _,Nat.le_of_eq rfl⟩
theorem Znl{w:Str}(h:QX w=YD):Sh 0 (.str w):=⟨by rw[Br];exact h,Nat.le_of_eq rfl⟩
theorem Zbu(w:Str):Z7 (.str w)=YD:=by rw[Z7]
theorem Z2k(i:Nat):Z7 (dI i)=YD:=by unfold dI;rw[Z7]
structure Okv(w:Str)(v:Xa):Prop where
 ok:QX w=YD
 sh:Sh 3 v
 pl:Z7 v=YD
theorem Zmn{w:Str}{v:Xa}(h:Okv w v):gEq (.tuple [.str w,v]) (.tuple [.str w,v])=YB (.bool YD)/\gNe (.tuple [.str w,v]) (.tuple [.str w,v])=YB (.bool YF):=by
 refine Zmd (Zrk (n:=3) λd hd=>?_) (by decide) ?_
 .rcases Xo.mp hd with rfl|hd
  .exact(Znl h.ok).mono (by decide)
  .rw[Xq.mp hd];exact h.sh
 .rw[Z7]
  refine Zm8 λd hd=>?_;rcases Xo.mp hd with rfl|hd
  .exact Zbu _
  .rw[Xq.mp hd];exact h.pl
theorem Z29{w:Str}(hw:QX w=YD)(l:List Nat):Okv w (.tuple (l.map dI)):=by
 refine⟨hw,(Zrk (n:=0) λd hd=>?_).mono (by decide),?_⟩
 .obtain⟨x,_,rfl⟩:=XM.mp hd
  exact Zss _
 .rw[Z7]
  refine Zm8 λd hd=>?_;obtain⟨x,_,rfl⟩:=XM.mp hd;exact Z2k _
theorem Z06(CS:List (List Int))(n:Nat):Okv "halves" (.list ((Xj n).map (Zja CS))):=by
 refine⟨by decide +kernel,(Zi4 (n:=0) λd hd=>?_).mono (by decide),?_⟩
 .obtain⟨x,_,rfl⟩:=XM.mp hd
  exact Yao _ _
 .rw[Z7]
  refine Zm8 λd hd=>?_;obtain⟨x,_,rfl⟩:=XM.mp hd;exact Zbu _
theorem Zfd{w:Str}(h:QX w=YD):gNe (.str w) (.str w)=YB (.bool YF)/\gEq (.str w) (.str w)=YB (.bool YD):=by
 have:=Zmd (Znl h) (by decide) (Zbu w);exact⟨this.2,this.1⟩
theorem Znh{a b:Str}(ha:QX a=YD)(hb:QX b=YD)(h:a≠b):gNe (.str a) (.str b)=YB (.bool YD)/\gEq (.str a) (.str b)=YB (.bool YF):=by
 have s1:=((Znl ha).shp (by decide)).ok;have s2:=((Znl hb).shp (by decide)).ok;unfold gNe gEq;rw[YM (by rw[s1,s2];rfl),YM (by rw[s1,s2];rfl),Zy5 (Zbu a) (Zbu b) λz=>h (PyData.str.inj z)];exact⟨rfl,rfl⟩
theorem Zvb:QX "halves"=YD:=by decide +kernel
theorem Z0p:QX "even"=YD:=by decide +kernel
theorem Z3b:QX "not whole"=YD:=by decide +kernel
theorem Z7h:("even" : Str)≠"halves" :=by decide +kernel
theorem Z6l:("not whole" : Str)≠"halves" :=by decide +kernel
def e5(n:Nat)(rs:List (Nat×Nat))(H:Xa)(o:OT):Zf:=[YB (.fz (dI n)),YB (.fz (.list (rs.map ptD))),YB (.fz H),YB (.fz (.list (rs.map ptD))),YB o]
theorem Zyq{it:FI}(xs:List α)(mk f:α->Xa)(hf:∀x∈xs,Wl (mk x)=YD)(hi:EvI it δ (xs.map mk))(hz:xs.length<=1000000)(hb:blk 1 [] δ=[YC])(h:∀x∈xs,EvV me [YB (.fz (mk x))] (f x)):EvV (Z5 1 [] it (Zqh 0) Zcj me) δ (.list (xs.map f)):=by
 have key:∀(xs:List α),(∀x∈xs,Wl (mk x)=YD)->(∀x∈xs,EvV me [YB (.fz (mk x))] (f x))->∀z:Option OT,∃ts z',compLoop (Zqh 0) Zcj me (xs.map mk) [z]=YB (ts,[z'])/\OT.datas ts=xs.map f:=by
  intro xs
  induction xs with
  | nil=>exact λ_ _ z=>⟨[],z,rfl,rfl⟩
  | cons x xs ih=>
   intro hf h z;obtain⟨t,e1,d1⟩:=h x (.head _);obtain⟨ts,z',e2,d2⟩:=ih (λy hy=>hf y (.tail _ hy)) (λy hy=>h y (.tail _ hy)) (YB (.fz (mk x)));refine⟨t::ts,z',?_,by rw[OT.datas,d1,d2];rfl⟩;rw[X4,compLoop,Zl8,YM (hf x (.head _))];show(me [YB (.fz (mk x))]).bind _=_;rw[e1,Xh];dsimp only;rw[e2];rfl
 obtain⟨ts,z',e,d⟩:=key xs hf h YC;unfold EvI at hi;refine⟨.nd ts,?_,by rw[OT.data_nd,<-datas_map,d]⟩;unfold Z5;rw[hi,Xh];dsimp only;rw[YM (by rw[X7,Xc];omega),hb,e];rfl
theorem Zs0{l:List Xa}{bs:List Bool}(h:l=bs.map BK)(ht:∀b∈bs,b=YD):Z79 [.list l]=YB (.bool YD):=by
 show(Zgr l).bind _=_;rw[h,Zo8,Xh,show bs.all _root_.id=YD from Vc.mpr λb hb=>ht b hb]
theorem Yeq{e:FE}(h:EvV e δ (.tuple ds)):EvI (iTp e) δ ds:=by
 obtain⟨_,e1,d1⟩:=h;unfold EvI;rw[Z91,e1,Xh,d1,Z0w]
theorem Zkp{n:Nat}{rs:List (Nat×Nat)}{w:Str}{l:List Nat}{o:OT}(hw:QX w=YD)(hne:gNe (.str w) (.str "halves")=YB (.bool YD))(heq:gEq (.str w) (.str "halves")=YB (.bool YF))(hll:l.length<=10)(hF:Yj [dI n,.list (rs.map ptD)]= .ok o)(hd:o.data= .tuple [.str w,.tuple (l.map dI)]):Told Z6 [dI n,.list (rs.map ptD),.tuple [.str w,.tuple (l.map dI)]] (.bool YD):=by
 obtain⟨H,hH⟩:∃H,H=VN [.str w,.tuple (l.map dI)]:=⟨_,rfl⟩;have own:EvV (Wc 4) (e5 n rs H o) H:=Zbe rfl (hd.trans hH.symm);have f0:EvV (Zn gIx (Wc 4) (fC (.int 0))) (e5 n rs H o) (.str w):=Zj7 own Yc (by rw[hH];rfl);have f1:EvV (Zn gIx (Wc 4) (fC (.int 1))) (e5 n rs H o) (.tuple (l.map dI)):=Zj7 own Yc (by rw[hH];rfl);have d0:EvV (Zn gIx (Zb 2) (fC (.int 0))) (e5 n rs H o) (.str w):=Zj7 (Za (d:=H) rfl) Yc (by rw[hH];rfl);have ev:gEq H H=YB (.bool YD):=by rw[hH];exact(Zmn (Z29 hw l)).1
 rw[<-hH];refine Ye rfl<|Zx (Z9 (Z4e (Zc (Za rfl) Zi) (Zrd _) (by rw[OT.data_nd,OT.map_fz])))<|Zx (δ':=e5 n rs H o) (Z8d (Zc (Za rfl) (Zc (Za rfl) Zi)) hF)<|
  Zx (Z2 (Zpg (Ze3 (p:=YD) (Zg5 (Zco own (by rw[hH];rfl) (by rw[hH];rfl)))) (Zpg (W8 (Zlq (i:=2) (Zbx (Zc own Zi) (by rw[hH];rfl)) Yc rfl)) (Zpg (Ze3 (p:=YD) (Zg5 (Zco f0 rfl rfl))) (W8 (Zj (Za rfl) (Za rfl) (Zty rs)))))) rfl)<|
  Zx (Z2 (Zpg (W8 (Zj f0 d0 (Zfd hw).1)) (W8 (Zj (Zco (p:=YF) f1 rfl rfl) (Zj d0 Yc heq) (Zu0 YF YF)))) rfl)<|
  Zac (Zf5 (W8 (Zj d0 Yc hne)) (Wy (Zi8 (Zco f1 rfl rfl) (Zi8 (Zbx (Zc (Zyq l dI (λ_=>.bool YD) (λx _=>by unfold dI;rw[Wl]) (Yeq f1) (by omega) rfl λx _=>Yd (Zc (Za rfl) Zi) (Zww _)) Zi) (Zs0 (bs:=l.map λ_=>YD) (by rw[Qk];rfl) λb hb=>by obtain⟨_,_,rfl⟩:=XM.mp hb;rfl)) (Zj own (Za rfl) ev)))))
theorem Zqk{n:Nat}(n10:n<=10){rs:List (Nat×Nat)}{CS:List (List Int)}{us:List OT}(ul:us.length=n)(hF:Yj [dI n,.list (rs.map ptD)]= .ok (.tp [.fz (.str "halves"),.nd us]))(hd:(OT.tp [.fz (.str "halves"),.nd us]).data= .tuple [.str "halves",.list ((Xj n).map (Zja CS))]):Told Z6 [dI n,.list (rs.map ptD),.tuple [.str "halves",.list ((Xj n).map (Zja CS))]] (.bool YD):=by
 obtain⟨H,hH⟩:∃H,H=VN [.str "halves",.list ((Xj n).map (Zja CS))]:=⟨_,rfl⟩;obtain⟨o,ho⟩:∃o,o=OT.tp [.fz (.str "halves"),.nd us]:=⟨_,rfl⟩;rw[<-ho]at hF hd;have hw:QX "halves"=YD:=by decide +kernel
 have own:EvV (Wc 4) (e5 n rs H o) H:=Zbe rfl (hd.trans hH.symm);have f0:EvV (Zn gIx (Wc 4) (fC (.int 0))) (e5 n rs H o) (.str "halves"):=Zj7 own Yc (by rw[hH];rfl);have f1:EvV (Zn gIx (Wc 4) (fC (.int 1))) (e5 n rs H o) (.list ((Xj n).map (Zja CS))):=Zj7 own Yc (by rw[hH];rfl);have d0:EvV (Zn gIx (Zb 2) (fC (.int 0))) (e5 n rs H o) (.str "halves"):=Zj7 (Za (d:=H) rfl) Yc (by rw[hH];rfl);have ev:gNe H H=YB (.bool YF):=by rw[hH];exact(Zmn (Z06 CS n)).2
 rw[<-hH];refine Ye rfl<|Zx (Z9 (Z4e (Zc (Za rfl) Zi) (Zrd _) (by rw[OT.data_nd,OT.map_fz])))<|Zx (δ':=e5 n rs H o) (Z8d (Zc (Za rfl) (Zc (Za rfl) Zi)) hF)<|
  Zx (Z2 (Zpg (Ze3 (p:=YD) (Zg5 (Zco own (by rw[hH];rfl) (by rw[hH];rfl)))) (Zpg (W8 (Zlq (i:=2) (Zbx (Zc own Zi) (by rw[hH];rfl)) Yc rfl)) (Zpg (Ze3 (p:=YD) (Zg5 (Zco f0 rfl rfl))) (W8 (Zj (Za rfl) (Za rfl) (Zty rs)))))) rfl)<|
  Zx (Z2 (Zpg (W8 (Zj f0 d0 (Zfd hw).1)) (W8 (Zj (Zco (p:=YD) f1 rfl rfl) (Zj d0 Yc (Zfd hw).2) (Zu0 YD YD)))) rfl)<|
  Zx (Z2 (W8 (Zj d0 Yc (Zfd hw).1)) rfl)<|
  Zx (Z2 (Zpg (Ze3 (p:=YD) (Zg5 (Zbx (Zc (Zyq (Xj n) (Zja CS) (λ_=>.bool YD) (λx _=>by unfold Zja;rw[Wl]) (Wq f1) (by rw[Xr];omega) rfl λx _=>Zco (Za rfl) rfl rfl) Zi) (Zs0 (bs:=(Xj n).map λ_=>YD) (by rw[Qk];rfl) λb hb=>by obtain⟨_,_,rfl⟩:=XM.mp hb;rfl)))) (W8 (Zj own (Za rfl) ev))) rfl) ?_
 subst ho;exact Zx (Zv4 (ts:=[.fz (.str "halves"),.nd us]) (us:=us) (o:=.fz (.str "")) rfl rfl rfl (by omega)) (Wy Yc)
def Z0g(w:Nat×List (Nat×Nat))(H:Xa):Xa:=.tuple [dI w.1,.list (w.2.map ptD),H]
theorem Yai{n:Nat}{rs:List (Nat×Nat)}(R:Roads n rs)(hc:Z04 n rs)(hl:rs.length<64):∃H,Told Wh [dI n,.list (rs.map ptD)] H/\Told Z6 [dI n,.list (rs.map ptD),H] (.bool YD):=by
 obtain⟨F,D,o,hF,hd,hw⟩:=Ztj R hc hl;refine⟨Zyl n F rs,Zo9 R hl D,?_⟩;have n10:=R.n10;unfold Zyl at hd|-
 cases q1:rs.findSome? (Zd3 n F)with
 | some v=>
  rw[q1]at hd;obtain⟨x,y,z,rfl⟩:=Zsp q1;exact Zkp (l:=[x,y,z]) Z0p (Znh Z0p Zvb Z7h).1 (Znh Z0p Zvb Z7h).2 (show 3<=10 by decide) hF hd
 | none=>
  rw[q1]at hd;dsimp only at hd|-
  cases q2:rs.findSome? (nwX n F)with
  | some v=>
   rw[q2]at hd;obtain⟨a,b,x,y,z,rfl⟩:=Z9f q2;exact Zkp (l:=[a,b,x,y,z]) Z3b (Znh Z3b Zvb Z6l).1 (Znh Z3b Zvb Z6l).2 (show 5<=10 by decide) hF hd
  | none=>
   rw[q2]at hd;obtain⟨us,rfl,ul⟩:=hw q1 q2;exact Zqk n10 ul hF hd
theorem Z6a{e:FE}{d:Xa}{g:FG}(h:EvV e δ d)(hg:g d δ=YB δ'):wE e (Z4s g) δ= .nx δ':=by
 obtain⟨t,e1,d1⟩:=h;rw[Za9,e1,Z3];unfold Z4s;rw[d1,hg]
theorem Zvx(ns:List Int)(hl:ns.length<=63):Zhq [.list (ns.map Xw)]= .ok (.fz (.bool YD)):=by
 obtain⟨f,hf⟩:=VB (λc:Int=>show∃q:(Nat×List (Nat×Nat))×Xa,Told Wk [.int c,.int 8] (.tuple [dI q.1.1,.list (q.1.2.map ptD)])/\Told Wh [dI q.1.1,.list (q.1.2.map ptD)] q.2/\Told Z6 [dI q.1.1,.list (q.1.2.map ptD),q.2] (.bool YD) by
  obtain⟨w,T,R,hc,h64⟩:=Z6o c;obtain⟨H,h1,h2⟩:=Yai R hc h64;exact⟨(w,H),T,h1,h2⟩)
 obtain⟨c0,T0⟩:=Zod ns (k:=0) (by decide);obtain⟨q,eq,ql⟩:=Z9w (e:=Zb 0) (δ:=[YB (.fz (Zo ns)),YB (.nd []),YC,YC,YC,YC]) (p:=ns) (Za rfl) (Ya5 (Yc (d:=.int 1))) (Ya5 (Yc (d:=.int 4)));have e1:EvV (Zfe (Zd (Z8 Yw (Zd (Zb 0) (Zd (fC (.int 0)) Zm))) Zm)) [YB (.fz (Zo ns)),YB (.nd []),YC,YC,YC,YC] (Zo [c0]):=Zud (ds:=[.int c0]) (Zc (Yd (Zc (Za rfl) (Zc Yc Zi)) (.of T0 (OT.data_fz _))) Zi) (show 1<=1000 by decide);have e2:=Zz2 eq e1 (by show q.length+1<=1000000;omega);obtain⟨cs,hcs⟩:∃cs,cs=q++[c0]:=⟨_,rfl⟩;rw[<-hcs]at e2;have cl:cs.length<=64:=by rw[hcs,XX];show q.length+1<=64;omega
 have aD:∀l:List Int,(OT.nd ((l.map λc=>Z0g (f c).1 (f c).2).map OT.fz)).data= .list (l.map λc=>Z0g (f c).1 (f c).2):=λl=>by rw[OT.data_nd,OT.map_fz]
 refine Told.ok<|Ye rfl<|Zx (δ':=[YB (.fz (Zo ns)),YB (.nd []),YC,YC,YC,YC]) Zcl<|Zcr (ds:=cs.map Xw) (λi δ=>∃z2 z3 z4,δ=[YB (.fz (Zo ns)),YB (.nd (((cs.take i).map λc=>Z0g (f c).1 (f c).2).map OT.fz)),z2,z3,z4,YC]) (Wq e2) ⟨_,_,_,rfl⟩ (λi d δ hd h=>?_) λδ' h=>?_
 .obtain⟨z2,z3,z4,rfl⟩:=h
  rw[Xi]at hd;obtain⟨c,hc,rfl⟩:=XD.mp hd;obtain⟨h1,h2,h3⟩:=hf c;refine⟨_,_,rfl,.inl (Z1 (δ':=[YB (.fz (Zo ns)),YB (.nd (((cs.take i).map λc=>Z0g (f c).1 (f c).2).map OT.fz)),YB (.fz (.int c)),YB (.fz (dI (f c).1.1)),YB (.fz (.list ((f c).1.2.map ptD))),YC]) (Z6a (Yd (Zc (Za rfl) (Zc Yc Zi)) h1) rfl) (Zcg (ts:=((cs.take i).map λc=>Z0g (f c).1 (f c).2).map OT.fz) (d:=Z0g (f c).1 (f c).2) (Wu (Zc (Za rfl) (Zc (Za rfl) (Zc (Yd (Zc (Za rfl) (Zc (Za rfl) Zi)) h2) Zi))) (show 3<=1000 by decide)) rfl (by rw[Xc,Xc,Ba];omega))),YB (.fz (.int c)),YB (.fz (dI (f c).1.1)),YB (.fz (.list ((f c).1.2.map ptD))),?_⟩;rw[List.take_succ,hc,Qh,Qh];rfl
 .obtain⟨z2,z3,z4,rfl⟩:=h
  rw[Xc,Bw (Xy _)];obtain⟨ws,hws⟩:∃ws,ws=cs.map λc=>Z0g (f c).1 (f c).2:=⟨_,rfl⟩;rw[<-hws];have wl:ws.length<=64:=by rw[hws,Xc];exact cl
  refine Exists.elim (Zir (δ:=[YB (.fz (Zo ns)),YB (.fz (.list ws)),z2,z3,z4,YC]) (it:=Zbf (Zn Zuw (Zb 1) (Ztm (Zb 1) oN oN (oI (fUn Zv3 (fC (.int 1))))))) (g:=gTp 3 (gCn (gNm 3) (gCn (gNm 4) (gCn (gNm 5) gNl)))) (S:=Wr (tNo (tD (Z8 Z6 (Zd (Zb 3) (Zd (Zb 4) (Zd (Zb 5) Zm)))))) (wE (fC (.bool YF)) W2) fNx)
   (λi δ=>∃z3 z4 z5,δ=[YB (.fz (Zo ns)),YB (.fz (.list ws)),z2,z3,z4,z5]) (Wq (ds:=ws++ws.reverse) (Zyw (Za rfl) ((Zz8 (k:=-1) (Za rfl) (Ya5 (Zyh Yc)) (by decide)).cast (by rw[Zt7])) (by rw[List.length_reverse];omega))) ⟨_,_,_,rfl⟩ (λi d δ hd h=>?turn)) λδ' z=>?fin
  case turn=>
   obtain⟨z3,z4,z5,rfl⟩:=h;have hm:d∈ws:=(Qn.mp (X5 hd)).elim id λh=>List.mem_reverse.mp h;rw[hws]at hm;obtain⟨c,_,rfl⟩:=XM.mp hm;obtain⟨h1,h2,h3⟩:=hf c;exact⟨_,_,rfl,.inl (Z2 (Ze3 (p:=YD) (Zg5 (Yd (Zc (Za rfl) (Zc (Za rfl) (Zc (Za rfl) Zi))) h3))) rfl),YB (.fz (dI (f c).1.1)),YB (.fz (.list ((f c).1.2.map ptD))),YB (.fz (f c).2),rfl⟩
  case fin=>
   obtain⟨run,z3,z4,z5,rfl⟩:=z;refine Zx (δ':=[YB (.fz (Zo ns)),YB (.fz (.list ws)),z2,z3,z4,z5]) (Zdl (o:=.nd (ws.map OT.fz)) rfl ?_) (Wy Yc);rw[OT.data_nd,OT.map_fz];exact run
end My
namespace L2
open PySem PySem.Spec PyProof.Rows
structure Ei(K:Xd)(x:Str)(st:YK)(f:YG)(fd:Qp):Prop where
 a:QR K Ql x=YB (YB (.ref f))
 F:Fun K x x st f fd
structure En(K:Xd)(mg:Str->Option Xe)(x:Str)(st:YK)(ps:List Str)(f:YG)(fd:Qp):Prop where
 F:Fun K x x st f fd
 b:Binds K fd ps []
 m:mg x=YB (.ref f)
structure Ec(K:Xd)(mg:Str->Option Xe)(x:Str)(f:YG):Prop where
 m:mg x=YB (.ref f)
 a:ClsAt K x f
end L2
variable {CS:List (List Int)}{rs:List (Nat×Nat)}{F:Nat->Nat->Nat}{r:Nat×Nat}{o7 o8 o9 oa:Option OT}{p0:Str}{γ:Type}
namespace L2
open PySem PySem.Spec PyProof.Rows
section
variable {f:YG}{fd:Qp}
theorem en0(X:K.In h)(G:h.Ns Ql mg)(q:Ei K x st f fd)(hb:∀(kV doc pm:Xe) (an:Option YG) (cdv ct:Xe) (us:List Xe),us.length=ps.length->bindArgs (Ue x x (Zdx st) (Za3 st) (Zk st) .none kV doc pm an cdv ct) ⟨us,[]⟩=pure (ps.zip us)):En K mg x st ps f fd:=⟨q.F,q.F.binds hb,PySem.W.mg_of X G q.a⟩
abbrev Bd(x:Str)(st:YK)(ps:List Str)(us:List Xe):Prop:=∀(kV doc pm:Xe) (an:Option YG) (cdv ct:Xe),bindArgs (Ue x x (Zdx st) (Za3 st) (Zk st) .none kV doc pm an cdv ct) ⟨us,[]⟩=pure (ps.zip us)
theorem l_c{n:Nat}(h:us.length=n+1):∃u vs,us=u::vs/\vs.length=n:=by
 cases us with
 | nil=>cases h
 | cons u vs=>exact⟨u,vs,rfl,Nat.succ.inj h⟩
theorem en1(X:K.In h)(G:h.Ns Ql mg)(q:Ei K x st f fd)(hb:∀v0,Bd x st [p0] [v0]:=by exact λ_ _ _ _ _ _ _=>rfl):En K mg x st [p0] f fd:=en0 X G q λa b c d e g us hl=>by
 have h0:us.length=1:=hl;obtain⟨u0,us0,e0,h1⟩:=l_c h0;cases Bf h1;subst e0;exact hb u0 a b c d e g
theorem en2(X:K.In h)(G:h.Ns Ql mg)(q:Ei K x st f fd){p1:Str}(hb:∀v0 v1,Bd x st [p0,p1] [v0,v1]:=by exact λ_ _ _ _ _ _ _ _=>rfl):En K mg x st [p0,p1] f fd:=en0 X G q λa b c d e g us hl=>by
 have h0:us.length=2:=hl;obtain⟨u0,us0,e0,h1⟩:=l_c h0;obtain⟨u1,us1,e1,h2⟩:=l_c h1;cases Bf h2;subst e1;subst e0;exact hb u0 u1 a b c d e g
theorem en3(X:K.In h)(G:h.Ns Ql mg)(q:Ei K x st f fd){p1 p2:Str}(hb:∀v0 v1 v2,Bd x st [p0,p1,p2] [v0,v1,v2]:=by exact λ_ _ _ _ _ _ _ _ _=>rfl):En K mg x st [p0,p1,p2] f fd:=en0 X G q λa b c d e g us hl=>by
 have h0:us.length=3:=hl;obtain⟨u0,us0,e0,h1⟩:=l_c h0;obtain⟨u1,us1,e1,h2⟩:=l_c h1;obtain⟨u2,us2,e2,h3⟩:=l_c h2;cases Bf h3;subst e2;subst e1;subst e0;exact hb u0 u1 u2 a b c d e g
theorem ec(X:K.In h)(G:h.Ns Ql mg)(a:QR K Ql x=YB (YB (.ref f))):Ec K mg x f:=⟨PySem.W.mg_of X G a,a⟩
end
theorem fsc{P:List Str}{sc:YL}(h1:sc.kind= .function:=by rfl)(h2:sc.isCoroutine=YF:=by rfl)(h3:sc.isGenerator=YF:=by rfl)(h4:N.Nodup:=by decide +kernel)(h5:N.take P.length=P:=by rfl)(h6:∀x∈P,sc.names.lookup x=YB .local\/sc.names.lookup x=YB .cell:=by decide +kernel)(h7:∀y∈sc.names,y.2≠ .free:=by decide +kernel):Zy N P sc:=⟨h1,h2,h3,h4,h5,h6,h7⟩
end L2
namespace My
open PySem L2 PySem.Spec
def top(i:Nat):YK:=PySem.Challenge.pw_farcuts_k61_halved_or_not.main.body.getD i (.Pass ⟨0,0,0,0⟩)
abbrev Za6:YK:=top 27
abbrev Za4:YK:=top 32
abbrev Zft:YK:=top 30
abbrev Zfm:YK:=top 33
abbrev Zcv:YK:=top 31
abbrev Zbn:YK:=top 19
abbrev Zcu:YK:=top 20
abbrev Zei:YK:=top 9
abbrev Jw:YK:=top 21
abbrev W6:YK:=top 22
abbrev Zd5:YK:=top 5
abbrev Zal:YK:=top 12
abbrev Zid:YK:=top 13
abbrev Zao:YK:=top 23
abbrev Zaw:YK:=top 16
abbrev Jj:YK:=top 8
abbrev Zct:YK:=top 11
abbrev Zay:YK:=top 15
abbrev Zb1:YK:=top 17
abbrev Zea:YK:=top 18
abbrev Zfr:YK:=top 24
abbrev Za2:YK:=top 25
abbrev Zc0:YK:=top 34
abbrev Za0:YK:=top 28
abbrev Zf3:YK:=top 29
abbrev Z2z:YK:=top 35
set_option genInjectivity false in
set_option genSizeOfSpec false in
structure Txt(K:Xd)(mg:Str->Option Xe)(f:Nat->YG)(fd:Nat->Qp)(cls:Nat->YG):Prop where
 e_law_cell_at:En K mg "_law_cell_at" Za6 ["script","k"] (f 0) (fd 0)
 e_law_between:En K mg "_law_between" Za4 ["far","near"] (f 1) (fd 1)
 e_law_far:En K mg "_law_far" Zft ["n","roads"] (f 2) (fd 2)
 e_law_due:En K mg "_law_due" Zfm ["n","roads"] (f 3) (fd 3)
 e_law_whole:En K mg "_law_whole" Zcv ["found"] (f 4) (fd 4)
 e_first_even:En K mg "first_even" Zbn ["rows","roads"] (f 5) (fd 5)
 e_far_sides:En K mg "far_sides" Zcu ["rows","a","b"] (f 6) (fd 6)
 e_pairs_of:En K mg "pairs_of" Zei ["n"] (f 7) (fd 7)
 e_first_leaving:En K mg "first_leaving" Jw ["rows","sides"] (f 8) (fd 8)
 e_first_not_whole:En K mg "first_not_whole" W6 ["rows","roads"] (f 9) (fd 9)
 e_is_whole:En K mg "is_whole" Zd5 ["thing"] (f 10) (fd 10)
 e_check_points:En K mg "check_points" Zal ["n","points"] (f 11) (fd 11)
 e_cut_of:En K mg "cut_of" Zid ["n","points"] (f 12) (fd 12)
 e_halving_cuts:En K mg "halving_cuts" Zao ["rows","roads"] (f 13) (fd 13)
 e_beside_each:En K mg "beside_each" Zaw ["n","roads"] (f 14) (fd 14)
 e_is_point_count:En K mg "is_point_count" Jj ["n"] (f 15) (fd 15)
 e_is_rising:En K mg "is_rising" Zct ["things"] (f 16) (fd 16)
 e_check_roads:En K mg "check_roads" Zay ["n","roads"] (f 17) (fd 17)
 e_steps_from:En K mg "steps_from" Zb1 ["beside","start"] (f 18) (fd 18)
 e_web_rows:En K mg "web_rows" Zea ["n","roads"] (f 19) (fd 19)
 e_word_of:En K mg "word_of" Zfr ["point","cuts"] (f 20) (fd 20)
 e_halved_told:En K mg "halved_told" Za2 ["n","roads"] (f 21) (fd 21)
 e_law_right:En K mg "_law_right" Zc0 ["n","roads","due"] (f 22) (fd 22)
 e_law_numbers:En K mg "_law_numbers" Za0 ["cell","many","base"] (f 23) (fd 23)
 e_law_web:En K mg "_law_web" Zf3 ["cell","most"] (f 24) (fd 24)
 e_law:En K mg "law" Z2z ["script"] (f 25) (fd 25)
 g_MOST_POINTS:∃t,mg "MOST_POINTS"=YB (.int 10 t)
 z_all:mg "all"=YC
 z_bool:mg "bool"=YC
 z_enumerate:mg "enumerate"=YC
 z_int:mg "int"=YC
 z_isinstance:mg "isinstance"=YC
 z_len:mg "len"=YC
 z_list:mg "list"=YC
 z_max:mg "max"=YC
 z_min:mg "min"=YC
 z_range:mg "range"=YC
 z_set:mg "set"=YC
 z_sorted:mg "sorted"=YC
 z_str:mg "str"=YC
 z_tuple:mg "tuple"=YC
 z_zip:mg "zip"=YC
 c_NoCut:Ec K mg "NoCut" (cls 0)
 c_NoWeb:Ec K mg "NoWeb" (cls 1)
 x_NoCut:Zd0 K (cls 0)
 x_NoWeb:Zd0 K (cls 1)
 r_NoCut:Zw9 K (cls 0)
 r_NoWeb:Zw9 K (cls 1)
end My
variable {f cls:Nat->YG}{fd:Nat->Qp}
namespace My
open PySem L2 PySem.Spec
section
variable {base:YH}
theorem Zgv:Zy ["script","k"] ["script","k"] (Zk Za6):=fsc
theorem Zg1(T:Txt K mg f fd cls):FnOk P w K mg base CX0 1 (f 0) (fd 0) ["script","k"] (spD K (sD Yw)):=by
 refine Yo T.e_law_cell_at.F Zgv (S:=Zae) rfl rfl (λcdv A outer s H E hr=>?_);have hu:=hr.units;exact(xsq (xif (xlt (xv 1) (xln T.z_len (xa1 (xv 0)))) (Zg (xrt (xix (xv 0) (xv 1)))) xnl) (Zg (xrt xci)))
theorem Yk:Zy ["far","near","n","x","y","away","k"] ["far","near"] (Zk Za4):=fsc
theorem Zg6(T:Txt K mg f fd cls):FnOk P w K mg base CX0 1 (f 1) (fd 1) ["far","near"] (spD K (sD Yx)):=by
 refine Yo T.e_law_between.F Yk (S:=Zaa) rfl rfl (λcdv A outer s H E hr=>?_);have hu:=hr.units;exact(xsq (xst 2 Yk.nd (xln T.z_len (xa1 (xv 0)))) (xsq (xfr Qc rfl (Jh (Zt (by rfl) T.z_range (xa1 (xv 2)))) (xg 3 Yk.nd) (Zg (xfr Qc rfl (Zz0 (Zfn (by rfl) T.z_range (Zh (Zle (xv 3) xci) (xa1 (xv 2))))) (xg 4 Yk.nd) (xsq (xst 5 Yk.nd (xls xa0)) (xsq (xif (xeq hu (xix (xv 1) (xv 3)) (xix (xv 1) (xv 4))) (Zg (Zqc (Zb4 (i:=5) (own:=["k"]) (caps:=[1,3]) (N':=["k","near","x"]) YF Yk.nd rfl (QL rfl) (by exact⟨rfl,by decide +kernel,rfl,by decide +kernel,rfl,rfl⟩) (by rfl) (by decide) (Jh (Zt (by rfl) T.z_range (xa1 (xv 2)))) (λ_ _ _ _ _=>(xg 0 (by show JM (["k","near","x"]:List Str);decide +kernel))) (λ_ _ _ _ _=>(Zfv (xne hu (xix (xv 1) (xv 0)) (xix (xv 1) (xv 2))))) (λ_ _ _ _ _=>(xv 0))))) xnl) (Zg (xfr Qc rfl (xil (xv 5)) (xg 6 Yk.nd) (Zg (xif (xeq hu (Zle (xix (xix (xv 0) (xv 3)) (xv 6)) (xix (xix (xv 0) (xv 6)) (xv 4))) (xix (xix (xv 0) (xv 3)) (xv 4))) (Zg (xrt (xtp (Zh (xv 3) (Zh (xv 4) (xa1 (xv 6))))))) xnl))))))))) (Zg (xrt (xtp xa0)))))
theorem Jt:Zy ["n","roads","far","a","b","k","one"] ["n","roads"] (Zk Zft):=fsc
theorem Zn4(T:Txt K mg f fd cls):FnOk P w K mg base CX0 1 (f 2) (fd 2) ["n","roads"] (spD K (sD Zak)):=by
 refine Yo T.e_law_far.F Jt (S:=Zck) rfl rfl (λcdv A outer s H E hr=>?_);have hu:=hr.units;exact(xsq (Zt9 (Zqi (i:=2) Jt.nd rfl (Qt rfl) (Wn (J4 (own:=["one"]) (caps:=[0]) (N':=["one","n"]) (by exact⟨rfl,by decide +kernel,rfl,by decide +kernel,rfl,rfl⟩) (by rfl) (by decide) (Jh (Zt (by rfl) T.z_range (xa1 (xv 0)))) (λ_ _ _ _ _=>(xg 0 (by show JM (["one","n"]:List Str);decide +kernel))) (λ_ _ _ _ _=>(Wt Wx)) (λ_ _ _ _ _=>(Wn (J4 (own:=["other"]) (caps:=[1,0]) (N':=["other","n","one"]) (by exact⟨rfl,by decide +kernel,rfl,by decide +kernel,rfl,rfl⟩) (by rfl) (by decide) (Jh (Zt (by rfl) T.z_range (xa1 (xv 1)))) (λ_ _ _ _ _=>(xg 0 (by show JM (["other","n","one"]:List Str);decide +kernel))) (λ_ _ _ _ _=>(Wt Wx)) (λ_ _ _ _ _=>(Z33 (xv 1) (Zc9 Z68 (Yay Zy9 Zj3 (by rfl) T.z_int L2.B.boot_int (xa1 (Jf Yfb (Zpa (Zzl hu) Yaw (xv 2) (xv 0) (hm:=(J9 _)))))))))))))))) (xsq (xfr Qc rfl (xil (xv 1)) (xg2 rfl (xg 3 Jt.nd) (xg 4 Jt.nd)) (xsq (Zrp (Zsw 2 xci (xv 3) (xv 4) (λ_ _=>rfl))) (Zg (Zrp (Zsw 2 xci (xv 4) (xv 3) (λ_ _=>rfl)))))) (xsq (xfr Qc rfl (Jh (Zt (by rfl) T.z_range (xa1 (xv 0)))) (xg 5 Jt.nd) (Zg (xfr Qc rfl (Jh (Zt (by rfl) T.z_range (xa1 (xv 0)))) (xg 6 Jt.nd) (Zg (Zzk (Zyg 2 (Wn (J4 (own:=["other"]) (caps:=[2,6,5]) (N':=["other","far","one","k"]) (by exact⟨rfl,by decide +kernel,rfl,by decide +kernel,rfl,rfl⟩) (by rfl) (by decide) (Jh (Zt (by rfl) T.z_range (xa1 (xv 0)))) (λ_ _ _ _ _=>(xg 0 (by show JM (["other","far","one","k"]:List Str);decide +kernel))) (λ_ _ _ _ _=>(Wt Wx)) (λ_ _ _ _ _=>(Zc9 Z9k (Zli Zup (Zjh (by rfl)) (by rfl) T.z_min L2.B.boot_min (Zh (xix (xix (xo 1) (xv 2)) (xv 0)) (xa1 (Zle (xix (xix (xo 1) (xv 2)) (xv 3)) (xix (xix (xo 1) (xv 3)) (xv 0)))))))))) (xv 6))))))) (Zg (Zdv (Zeh 2))))))
theorem Yb:Zy ["n","roads","far","sides","a","b","x","three","one","words"] ["n","roads"] (Zk Zfm):=fsc
theorem Zn8(T:Txt K mg f fd cls):FnOk P w K mg base CX0 2 (f 3) (fd 3) ["n","roads"] (spD K (sD Wh)):=by
 have G_law_between:=Zg6 (P:=P) (w:=w) (base:=base) T;have G_law_far:=Zn4 (P:=P) (w:=w) (base:=base) T;refine Yo T.e_law_due.F Yb (S:=Zcf) rfl rfl (λcdv A outer s H E hr=>?_);have hu:=hr.units;exact(xsq (Zhx (Zhr (i:=2) Yb.nd rfl (Qt rfl) (xcl G_law_far (hr.mono (by decide)) T.e_law_far.m T.e_law_far.F.kp T.e_law_far.b (Zh (xv 0) (xa1 (xv 1)))))) (xsq (xso 3 Yb.nd (xls xa0)) (xsq (xfr Qc rfl (xil (xv 1)) (xg2 rfl (xg 4 Yb.nd) (xg 5 Yb.nd)) (Zg (xfr Qc rfl (Jh (Zt (by rfl) T.z_range (xa1 (xv 0)))) (xg 6 Yb.nd) (Zg (xif (xeq hu (xix (xix (xv 2) (xv 4)) (xv 6)) (xix (xix (xv 2) (xv 5)) (xv 6))) (Zg (xrt (xtp (Zh (Zc1 Zab) (xa1 (xtp (Zh (xv 4) (Zh (xv 5) (xa1 (xv 6)))))))))) xnl))))) (xsq (xfr Qc rfl (xil (xv 1)) (xg2 rfl (xg 4 Yb.nd) (xg 5 Yb.nd)) (xsq (xst 7 Yb.nd (xcl G_law_between (hr.mono (by decide)) T.e_law_between.m T.e_law_between.F.kp T.e_law_between.b (Zh (xv 2) (xa1 (Wn (J4 (own:=["x"]) (caps:=[2,4,5]) (N':=["x","far","a","b"]) (by exact⟨rfl,by decide +kernel,rfl,by decide +kernel,rfl,rfl⟩) (by rfl) (by decide) (Jh (Zt (by rfl) T.z_range (xa1 (xv 0)))) (λ_ _ _ _ _=>(xg 0 (by show JM (["x","far","a","b"]:List Str);decide +kernel))) (λ_ _ _ _ _=>(Wt Wx)) (λ_ _ _ _ _=>(Jf Yb5 (Zpa Zpi Zkb (xix (xix (xv 1) (xv 2)) (xv 0)) (xix (xix (xv 1) (xv 3)) (xv 0)) (hm:=(J9 _))))))))))) (xsq (xif (xne hu (xv 7) (xtp xa0)) (Zg (xrt (xtp (Zh (Zc1 Zab) (xa1 (Zkc (Zev Zx2 (Ybi Zpx Zte (xtp (Zh (xv 4) (xa1 (xv 5)))) (xv 7))))))))) xnl) (xsq (Zhx (Zhr (i:=8) Yb.nd rfl (Qt rfl) (Wn (J4 (own:=["x"]) (caps:=[2,4,5]) (N':=["x","far","a","b"]) (by exact⟨rfl,by decide +kernel,rfl,by decide +kernel,rfl,rfl⟩) (by rfl) (by decide) (Jh (Zt (by rfl) T.z_range (xa1 (xv 0)))) (λ_ _ _ _ _=>(xg 0 (by show JM (["x","far","a","b"]:List Str);decide +kernel))) (λ_ _ _ _ _=>(Zfv (xlt (xix (xix (xv 1) (xv 2)) (xv 0)) (xix (xix (xv 1) (xv 3)) (xv 0))))) (λ_ _ _ _ _=>(xv 0)))))) (xsq (xif (Jd Zjz (Jc (Zyi hu) Zkr xci (xv 8) (hm:=(by with_unfolding_all rfl)))) (Zg (Zhx (Zhr (i:=8) Yb.nd rfl (Qt rfl) (Wn (J4 (own:=["x"]) (caps:=[8]) (N':=["x","one"]) (by exact⟨rfl,by decide +kernel,rfl,by decide +kernel,rfl,rfl⟩) (by rfl) (by decide) (Jh (Zt (by rfl) T.z_range (xa1 (xv 0)))) (λ_ _ _ _ _=>(xg 0 (by show JM (["x","one"]:List Str);decide +kernel))) (λ_ _ _ _ _=>(Zfv (Jd Zjz (Jc (Zgh hu) Zkr (xv 0) (xv 1) (hm:=(by with_unfolding_all rfl)))))) (λ_ _ _ _ _=>(xv 0))))))) xnl) (Zg (xif (Jd Zjz (Jc (Zgh hu) Zkr (xv 8) (xo 3) (hm:=(by with_unfolding_all rfl)))) (Zg (Y5 (Y9 3 (xv 8)))) xnl))))))) (xsq (Zdo (Zdm 3 (xso 9 Yb.nd (xls xa0)))) (xsq (xfr Qc rfl (Jh (Zt (by rfl) T.z_range (xa1 (xv 0)))) (xg 6 Yb.nd) (Zg (Y5 (Y9 9 (Zzo (Yag Zrq F.slot_str_join F.type_str_join (Zrs rfl) (Zc1 Zab) (xa1 (Wn (J4 (own:=["one"]) (caps:=[6]) (N':=["one","x"]) (by exact⟨rfl,by decide +kernel,rfl,by decide +kernel,rfl,rfl⟩) (by rfl) (by decide) (xil (Z0h Zr3 (Ygi Zm2 (Zh0 Zx1 rfl hu) (by rfl) T.z_sorted L2.B.boot_sorted (xa1 (xv 3))))) (λ_ _ _ _ _=>(xg 0 (by show JM (["one","x"]:List Str);decide +kernel))) (λ_ _ _ _ _=>(Wt Wx)) (λ_ _ _ _ _=>(Zkc (Zev Yew (Yfg (Zln rfl) Z9s (Zc1 Zab) (Zc9 Z68 (Yay Zy9 Zj3 (by rfl) T.z_int L2.B.boot_int (xa1 (Jf Zjz (Zpa (Zyi hu) Zkr (xv 1) (xv 0) (hm:=(by with_unfolding_all rfl))))))) (hs:=λ_ _=>rfl)))))))))))))) (Zg (Z0c (λ_ _ _ h=>Z80 h) (Z17 9 (Zc1 Zab))))))))))
theorem Zjd:Zy ["found"] ["found"] (Zk Zcv):=fsc
theorem Zkw(T:Txt K mg f fd cls):FnOk P w K mg base CX0 1 (f 4) (fd 4) ["found"] (spD K (sD Jg)):=by
 refine Yo T.e_law_whole.F Zjd (S:=Zbh) rfl rfl (λcdv A outer s H E hr=>?_);have hu:=hr.units;exact(Zg (xrt (Zit (Zvg (Zc7 (Zi7 (by decide) (by rfl) T.z_isinstance L2.B.boot_isinstance (by rfl) T.z_int L2.B.boot_int (xv 0))) (Z2n (Zsk (Z5s (Zc7 (Zi7 (by decide) (by rfl) T.z_isinstance L2.B.boot_isinstance (by rfl) T.z_bool L2.B.boot_bool (xv 0))))))))))
theorem Jp:Zy ["rows","roads","a","b","x"] ["rows","roads"] (Zk Zbn):=fsc
theorem Zic(T:Txt K mg f fd cls):FnOk P w K mg base CX0 1 (f 5) (fd 5) ["rows","roads"] (spD K (sD Wb)):=by
 refine Yo T.e_first_even.F Jp (S:=Zat) rfl rfl (λcdv A outer s H E hr=>?_);have hu:=hr.units;exact(xsq (xfr Qc rfl (xil (xv 1)) (xg2 rfl (xg 2 Jp.nd) (xg 3 Jp.nd)) (Zg (xfr Qc rfl (Jh (Zt (by rfl) T.z_range (xa1 (xln T.z_len (xa1 (xv 0)))))) (xg 4 Jp.nd) (Zg (xif (xeq hu (xix (xix (xv 0) (xv 2)) (xv 4)) (xix (xix (xv 0) (xv 3)) (xv 4))) (Zg (xrt (xtp (Zh (xv 2) (Zh (xv 3) (xa1 (xv 4))))))) xnl))))) (Zg (xrt (Zc1 Zhu))))
theorem Zkl:Zy ["rows","a","b"] ["rows","a","b"] (Zk Zcu):=fsc
theorem Zeu(T:Txt K mg f fd cls):FnOk P w K mg base CX0 1 (f 6) (fd 6) ["rows","a","b"] (spD K (sD Yu)):=by
 refine Yo T.e_far_sides.F Zkl (S:=Zbi) rfl rfl (λcdv A outer s H E hr=>?_);have hu:=hr.units;exact(Zg (xrt (Wn (J4 (own:=["x"]) (caps:=[0,2,1]) (N':=["x","rows","b","a"]) (by exact⟨rfl,by decide +kernel,rfl,by decide +kernel,rfl,rfl⟩) (by rfl) (by decide) (Jh (Zt (by rfl) T.z_range (xa1 (xln T.z_len (xa1 (xv 0)))))) (λ_ _ _ _ _=>(xg 0 (by show JM (["x","rows","b","a"]:List Str);decide +kernel))) (λ_ _ _ _ _=>(Wt Wx)) (λ_ _ _ _ _=>(Jf Yb5 (Zpa Zpi Zkb (xix (xix (xv 1) (xv 2)) (xv 0)) (xix (xix (xv 1) (xv 3)) (xv 0)) (hm:=(J9 _)))))))))
theorem Za1:Zy ["n","pairs","i","j"] ["n"] (Zk Zei):=fsc
theorem Zll(T:Txt K mg f fd cls):FnOk P w K mg base CX0 1 (f 7) (fd 7) ["n"] (spD K (sD J0)):=by
 refine Yo T.e_pairs_of.F Za1 (S:=Zbr) rfl rfl (λcdv A outer s H E hr=>?_);have hu:=hr.units;exact(xsq (xso 1 Za1.nd (xls xa0)) (xsq (xfr Qc rfl (Jh (Zt (by rfl) T.z_range (xa1 (xv 0)))) (xg 2 Za1.nd) (Zg (xfr Qc rfl (Zz0 (Zfn (by rfl) T.z_range (Zh (Zle (xv 2) xci) (xa1 (xv 0))))) (xg 3 Za1.nd) (Zg (Y5 (Y9 1 (xtp (Zh (xv 2) (xa1 (xv 3)))))))))) (Zg (Zdv (Zeh 1)))))
theorem Yv:Zy ["rows","sides","n","x","y","z"] ["rows","sides"] (Zk Jw):=fsc
theorem Zew(T:Txt K mg f fd cls):FnOk P w K mg base CX0 2 (f 8) (fd 8) ["rows","sides"] (spD K (sD We)):=by
 have G_pairs_of:=Zll (P:=P) (w:=w) (base:=base) T;refine Yo T.e_first_leaving.F Yv (S:=Jk) rfl rfl (λcdv A outer s H E hr=>?_);have hu:=hr.units;exact(xsq (xst 2 Yv.nd (xln T.z_len (xa1 (xv 0)))) (xsq (xfr Qc rfl (xil (xcl G_pairs_of (hr.mono (by decide)) T.e_pairs_of.m T.e_pairs_of.F.kp T.e_pairs_of.b (xa1 (xv 2)))) (xg2 rfl (xg 3 Yv.nd) (xg 4 Yv.nd)) (Zg (xif (xeq hu (xix (xv 1) (xv 3)) (xix (xv 1) (xv 4))) (Zg (xfr Qc rfl (Jh (Zt (by rfl) T.z_range (xa1 (xv 2)))) (xg 5 Yv.nd) (Zg (xif (MW.mt (Zx6 (Zyj (xne hu (xix (xv 1) (xv 5)) (xix (xv 1) (xv 3))) (Ztt (xeq hu (Zle (xix (xix (xv 0) (xv 3)) (xv 5)) (xix (xix (xv 0) (xv 5)) (xv 4))) (xix (xix (xv 0) (xv 3)) (xv 4))))))) (Zg (xrt (xtp (Zh (xv 3) (Zh (xv 4) (xa1 (xv 5))))))) xnl)))) xnl))) (Zg (xrt (Zc1 Zhu)))))
theorem Yy:Zy ["rows","roads","a","b","leaving"] ["rows","roads"] (Zk W6):=fsc
theorem Zdr(T:Txt K mg f fd cls):FnOk P w K mg base CX0 3 (f 9) (fd 9) ["rows","roads"] (spD K (sD Yg)):=by
 have G_far_sides:=Zeu (P:=P) (w:=w) (base:=base) T;have G_first_leaving:=Zew (P:=P) (w:=w) (base:=base) T;refine Yo T.e_first_not_whole.F Yy (S:=W4) rfl rfl (λcdv A outer s H E hr=>?_);have hu:=hr.units;exact(xsq (xfr Qc rfl (xil (xv 1)) (xg2 rfl (xg 2 Yy.nd) (xg 3 Yy.nd)) (xsq (xst 4 Yy.nd (xcl G_first_leaving (hr.mono (by decide)) T.e_first_leaving.m T.e_first_leaving.F.kp T.e_first_leaving.b (Zh (xv 0) (xa1 (xcl G_far_sides (hr.mono (by decide)) T.e_far_sides.m T.e_far_sides.F.kp T.e_far_sides.b (Zh (xv 0) (Zh (xv 2) (xa1 (xv 3))))))))) (Zg (xif (Jd Zl0 (Jc Zlh Zlm (xv 4) (Zc1 Zhu) (hm:=(J9 _)))) (Zg (xrt (Zkc (Zev Zx2 (Ybi Zpx Zte (xtp (Zh (xv 2) (xa1 (xv 3)))) (xv 4)))))) xnl)))) (Zg (xrt (Zc1 Zhu))))
theorem Zl1:Zy ["thing"] ["thing"] (Zk Zd5):=fsc
theorem Zl3(T:Txt K mg f fd cls):FnOk P w K mg base CX0 1 (f 10) (fd 10) ["thing"] (spD K (sD Ym)):=by
 refine Yo T.e_is_whole.F Zl1 (S:=Zbw) rfl rfl (λcdv A outer s H E hr=>?_);have hu:=hr.units;exact(Zg (xrt (Zit (Zvg (Zc7 (Zi7 (by decide) (by rfl) T.z_isinstance L2.B.boot_isinstance (by rfl) T.z_int L2.B.boot_int (xv 0))) (Z2n (Zsk (Z5s (Zc7 (Zi7 (by decide) (by rfl) T.z_isinstance L2.B.boot_isinstance (by rfl) T.z_bool L2.B.boot_bool (xv 0))))))))))
theorem Zbv:Zy ["n","points","point"] ["n","points"] (Zk Zal):=fsc
theorem Zgc(T:Txt K mg f fd cls):FnOk P w K mg base CX0 2 (f 11) (fd 11) ["n","points"] (spD K (sD Yr)):=by
 have G_is_whole:=Zl3 (P:=P) (w:=w) (base:=base) T;refine Yo T.e_check_points.F Zbv (S:=Wo) rfl rfl (λcdv A outer s H E hr=>?_);have hu:=hr.units;exact(Zg (xfr Qc rfl (xil (xv 1)) (xg 2 Zbv.nd) (Zg (xif (MW.mt (Zj9 (Zjy (xno (Zem (Zer (xcl G_is_whole (hr.mono (by decide)) T.e_is_whole.m T.e_is_whole.F.kp T.e_is_whole.b (xa1 (xv 2))) (λ_=>rfl)))) (Zhf (xno (Zvj (Zu1 Zvq Zpi xci (xv 2) (xv 0)))))))) (Zg Zb3) xnl))))
theorem Zku:Zy ["n","points","others"] ["n","points"] (Zk Zid):=fsc
theorem Zqw(T:Txt K mg f fd cls):FnOk P w K mg base CX0 3 (f 12) (fd 12) ["n","points"] (spD K (sD Jq)):=by
 have G_check_points:=Zgc (P:=P) (w:=w) (base:=base) T;refine Yo T.e_cut_of.F Zku (S:=Zdk) rfl rfl (λcdv A outer s H E hr=>?_);have hu:=hr.units;exact(xsq (Zrr (Zsg (xcl G_check_points (hr.mono (by decide)) T.e_check_points.m T.e_check_points.F.kp T.e_check_points.b (Zh (xv 0) (xa1 (xv 1)))))) (xsq (Zqc (Zb4 (i:=2) (own:=["point"]) (caps:=[1]) (N':=["point","points"]) YF Zku.nd rfl (QL rfl) (by exact⟨rfl,by decide +kernel,rfl,by decide +kernel,rfl,rfl⟩) (by rfl) (by decide) (Jh (Zt (by rfl) T.z_range (xa1 (xv 0)))) (λ_ _ _ _ _=>(xg 0 (by show JM (["point","points"]:List Str);decide +kernel))) (λ_ _ _ _ _=>(Zfv (Jd Z3d (Jc (Zrl rfl) Z3c (xv 0) (xv 1) (hm:=(by with_unfolding_all rfl)))))) (λ_ _ _ _ _=>(xv 0)))) (xsq (xif (MW.mt (Zj9 (Zjy (xeq hu (xln T.z_len (xa1 (xv 1))) xci) (Zhf (xeq hu (xln T.z_len (xa1 (xv 2))) xci))))) (Zg Zb3) xnl) (xsq (xif (Jd Z3d (Jc (Zy4 rfl) Z3c xci (xv 1) (hm:=(by with_unfolding_all rfl)))) (Zg (xrt (xv 2))) xnl) (Zg (xrt (Zpq (Zsu (by rfl) (by rfl) T.z_sorted L2.B.boot_sorted (by rfl) T.z_set L2.B.boot_set (xa1 (xv 1))))))))))
theorem Y8:Zy ["rows","roads","cuts","a","b","cut"] ["rows","roads"] (Zk Zao):=fsc
theorem Zgj(T:Txt K mg f fd cls):FnOk P w K mg base CX0 4 (f 13) (fd 13) ["rows","roads"] (spD K (sD Yp)):=by
 have G_cut_of:=Zqw (P:=P) (w:=w) (base:=base) T;have G_far_sides:=Zeu (P:=P) (w:=w) (base:=base) T;refine Yo T.e_halving_cuts.F Y8 (S:=Jz) rfl rfl (λcdv A outer s H E hr=>?_);have hu:=hr.units;exact(xsq (xso 2 Y8.nd (xls xa0)) (xsq (xfr Qc rfl (xil (xv 1)) (xg2 rfl (xg 3 Y8.nd) (xg 4 Y8.nd)) (xsq (xst 5 Y8.nd (xcl G_cut_of (hr.mono (by decide)) T.e_cut_of.m T.e_cut_of.F.kp T.e_cut_of.b (Zh (xln T.z_len (xa1 (xv 0))) (xa1 (Wn (J4 (own:=["x","is_far"]) (caps:=[]) (N':=["x","is_far"]) (by exact⟨rfl,by decide +kernel,rfl,by decide +kernel,rfl,rfl⟩) (by rfl) (by decide) (Z0l (Z1x (by rfl) T.z_enumerate L2.B.boot_enumerate (xa1 (xcl G_far_sides (hr.mono (by decide)) T.e_far_sides.m T.e_far_sides.F.kp T.e_far_sides.b (Zh (xv 0) (Zh (xv 3) (xa1 (xv 4)))))))) (λ_ _ _ _ _=>(xg2 rfl (xg 0 (by show JM (["x","is_far"]:List Str);decide +kernel)) (xg 1 (by show JM (["x","is_far"]:List Str);decide +kernel)))) (λ_ _ _ _ _=>(Zfv (Zem (Zer (xv 1) (λ_=>rfl))))) (λ_ _ _ _ _=>(xv 0)))))))) (Zg (xif (Jd Zjz (Jc (Zgh hu) Zkr (xv 5) (xo 2) (hm:=(by with_unfolding_all rfl)))) (Zg (Y5 (Y9 2 (xv 5)))) xnl)))) (Zg (Zdo (Zdm 2 (xrt (Z0h Zr3 (Ygi Zm2 (Zh0 Zx1 rfl hu) (by rfl) T.z_sorted L2.B.boot_sorted (xa1 (xv 2))))))))))
theorem W7:Zy ["n","roads","beside","a","b"] ["n","roads"] (Zk Zaw):=fsc
theorem Zhb(T:Txt K mg f fd cls):FnOk P w K mg base CX0 1 (f 14) (fd 14) ["n","roads"] (spD K (sD Wv)):=by
 refine Yo T.e_beside_each.F W7 (S:=Zah) rfl rfl (λcdv A outer s H E hr=>?_);have hu:=hr.units;exact(xsq (Zne (Zb4 (i:=2) (own:=["point"]) (caps:=[]) (N':=["point"]) YD W7.nd rfl (QL rfl) (by exact⟨rfl,by decide +kernel,rfl,by decide +kernel,rfl,rfl⟩) (by rfl) (by decide) (Jh (Zt (by rfl) T.z_range (xa1 (xv 0)))) (λ_ _ _ _ _=>(xg 0 (by show JM (["point"]:List Str);decide +kernel))) (λ_ _ _ _ _=>(Wt Wx)) (λ_ _ _ _ _=>(xls xa0)))) (xsq (xfr Qc rfl (xil (xv 1)) (xg2 rfl (xg 3 W7.nd) (xg 4 W7.nd)) (xsq (Znq (Znk 2 (xv 3) (xv 4))) (Zg (Znq (Znk 2 (xv 4) (xv 3)))))) (Zg (Zdv (Zeh 2)))))
theorem Zec:Zy ["n"] ["n"] (Zk Jj):=fsc
theorem Zed(T:Txt K mg f fd cls):FnOk P w K mg base CX0 1 (f 15) (fd 15) ["n"] (spD K (sD Y6)):=by
 refine Yo T.e_is_point_count.F Zec (S:=Je) rfl rfl (λcdv A outer s H E hr=>?_);have hu:=hr.units;exact(Zg (xrt (Zu4 (Z24 Zvq Zvq xci (xv 0) (Zc1 (Z28 (by rfl) T.g_MOST_POINTS))))))
theorem Zbs:Zy ["things","one","behind"] ["things"] (Zk Zct):=fsc
theorem Zkk(T:Txt K mg f fd cls):FnOk P w K mg base CX0 1 (f 16) (fd 16) ["things"] (spD K (sD Ji)):=by
 refine Yo T.e_is_rising.F Zbs (S:=Zbg) rfl rfl (λcdv A outer s H E hr=>?_);have hu:=hr.units;exact(xsq (xfr Qc rfl (Z4j (Z3w (by rfl) T.z_zip L2.B.boot_zip (Zh (xv 0) (xa1 (Z6r (Yaq (xv 0) (Ziw (Zis xci)) (Zl7 Zk9))))))) (xg2 rfl (xg 1 Zbs.nd) (xg 2 Zbs.nd)) (Zg (xif (xno (Jd Ybu (Jc (Z63 hu) Z6m (xv 1) (xv 2) (hm:=(J9 _))))) (Zg (xrt (Zc1 Zj2))) xnl))) (Zg (xrt (Zc1 Zj2))))
theorem Zap:Zy ["n","roads","a","b"] ["n","roads"] (Zk Zay):=fsc
theorem Zg2(T:Txt K mg f fd cls):FnOk P w K mg base CX0 2 (f 17) (fd 17) ["n","roads"] (spD K (sD Ww)):=by
 have G_is_point_count:=Zed (P:=P) (w:=w) (base:=base) T;have G_is_rising:=Zkk (P:=P) (w:=w) (base:=base) T;refine Yo T.e_check_roads.F Zap (S:=Zad) rfl rfl (λcdv A outer s H E hr=>?_);have hu:=hr.units;exact(xsq (xif (xno (Zem (Zer (xcl G_is_point_count (hr.mono (by decide)) T.e_is_point_count.m T.e_is_point_count.F.kp T.e_is_point_count.b (xa1 (xv 0))) (λ_=>rfl)))) (Zg Zb3) xnl) (xsq (xfr Qc rfl (xil (xv 1)) (xg2 rfl (xg 2 Zap.nd) (xg 3 Zap.nd)) (Zg (xif (xno (Zp7 (Zuj Zvq Zpi Zpi xci (xv 2) (xv 3) (xv 0)))) (Zg Zb3) xnl))) (Zg (xif (xno (Zem (Zer (xcl G_is_rising (hr.mono (by decide)) T.e_is_rising.m T.e_is_rising.F.kp T.e_is_rising.b (xa1 (xv 1))) (λ_=>rfl)))) (Zg Zb3) xnl))))
theorem Ys:Zy ["beside","start","steps","edge","beyond","point","other"] ["beside","start"] (Zk Zb1):=fsc
theorem Zip(T:Txt K mg f fd cls):FnOk P w K mg base CX0 1 (f 18) (fd 18) ["beside","start"] (spD K (sD Yl)):=by
 refine Yo T.e_steps_from.F Ys (S:=Zar) rfl rfl (λcdv A outer s H E hr=>?_);have hu:=hr.units;exact(xsq (xso 2 Ys.nd (Zxa (Z1o (xv 1) xci))) (xsq (xst 3 Ys.nd (xls (xa1 (xv 1)))) (xsq (Zvw (Zw0 Qc (xgt (xln T.z_len (xa1 (xv 3))) xci) (xsq (xso 4 Ys.nd (xls xa0)) (xsq (xfr Qc rfl (xil (xv 3)) (xg 5 Ys.nd) (Zg (xfr Qc rfl (xil (xix (xv 0) (xv 5))) (xg 6 Ys.nd) (Zg (xif (Jd Yc6 (Jc (Zs1 hu) Z8e (xv 6) (xo 2) (hm:=(by with_unfolding_all rfl)))) (xsq (Z08 (Z0m 2 hu (Zle (Zkc (Zev Yac (Z7l hu (xo 2) (xv 5) (hs:=λ_ _=>rfl)))) xci) (xv 6))) (Zg (Y5 (Y9 4 (xv 6))))) xnl))))) (Zg (Zdo (Zdm 4 (xst 3 Ys.nd (xv 4))))))))) (Zg (Zdv (Zeh 2))))))
theorem J2:Zy ["n","roads","beside","rows","start","steps"] ["n","roads"] (Zk Zea):=fsc
theorem Zlx(T:Txt K mg f fd cls):FnOk P w K mg base CX0 3 (f 19) (fd 19) ["n","roads"] (spD K (sD Y7)):=by
 have G_beside_each:=Zhb (P:=P) (w:=w) (base:=base) T;have G_check_roads:=Zg2 (P:=P) (w:=w) (base:=base) T;have G_steps_from:=Zip (P:=P) (w:=w) (base:=base) T;refine Yo T.e_web_rows.F J2 (S:=Zbp) rfl rfl (λcdv A outer s H E hr=>?_);have hu:=hr.units;exact(xsq (Zrr (Zsg (xcl G_check_roads (hr.mono (by decide)) T.e_check_roads.m T.e_check_roads.F.kp T.e_check_roads.b (Zh (xv 0) (xa1 (xv 1)))))) (xsq (xst 2 J2.nd (xcl G_beside_each (hr.mono (by decide)) T.e_beside_each.m T.e_beside_each.F.kp T.e_beside_each.b (Zh (xv 0) (xa1 (xv 1))))) (xsq (xso 3 J2.nd (xls xa0)) (xsq (xfr Qc rfl (Jh (Zt (by rfl) T.z_range (xa1 (xv 0)))) (xg 4 J2.nd) (xsq (Zhx (Zhr (i:=5) J2.nd rfl (Qt rfl) (xcl G_steps_from (hr.mono (by decide)) T.e_steps_from.m T.e_steps_from.F.kp T.e_steps_from.b (Zh (xv 2) (xa1 (xv 4)))))) (xsq (xif (xlt (Zc9 Z60 (Zli Z3t Zuk (by rfl) T.z_len L2.B.boot_len (xa1 (xv 5)))) (xv 0)) (Zg Zb3) xnl) (Zg (Y5 (Y9 3 (Wn (J4 (own:=["point"]) (caps:=[5]) (N':=["point","steps"]) (by exact⟨rfl,by decide +kernel,rfl,by decide +kernel,rfl,rfl⟩) (by rfl) (by decide) (Jh (Zt (by rfl) T.z_range (xa1 (xv 0)))) (λ_ _ _ _ _=>(xg 0 (by show JM (["point","steps"]:List Str);decide +kernel))) (λ_ _ _ _ _=>(Wt Wx)) (λ_ _ _ _ _=>(Zkc (Zev Yac (Z7l hu (xv 1) (xv 0) (hs:=λ_ _=>rfl))))))))))))) (Zg (Zdv (Zeh 3)))))))
theorem Zor:Zy ["point","cuts"] ["point","cuts"] (Zk Zfr):=fsc
theorem Zpl(T:Txt K mg f fd cls):FnOk P w K mg base CX0 1 (f 20) (fd 20) ["point","cuts"] (spD K (sD Wj)):=by
 refine Yo T.e_word_of.F Zor (S:=Zce) rfl rfl (λcdv A outer s H E hr=>?_);have hu:=hr.units;exact(Zg (xrt (Zzo (Yag Zrq F.slot_str_join F.type_str_join (Zrs rfl) (Zc1 Zab) (xa1 (Wn (J4 (own:=["cut"]) (caps:=[0]) (N':=["cut","point"]) (by exact⟨rfl,by decide +kernel,rfl,by decide +kernel,rfl,rfl⟩) (by rfl) (by decide) (xil (xv 1)) (λ_ _ _ _ _=>(xg 0 (by show JM (["cut","point"]:List Str);decide +kernel))) (λ_ _ _ _ _=>(Wt Wx)) (λ_ _ _ _ _=>(Zkc (Yex (Yhh (Jd Z3d (Jc (Zy4 rfl) Z3c (xv 1) (xv 0) (hm:=(by with_unfolding_all rfl)))) (Zc1 Zab) (Zc1 Zab))))))))))))
theorem Wg:Zy ["n","roads","rows","even","not_whole","cuts"] ["n","roads"] (Zk Za2):=fsc
theorem Zg9(T:Txt K mg f fd cls):FnOk P w K mg base CX0 5 (f 21) (fd 21) ["n","roads"] (spD K (sD Yj)):=by
 have G_first_even:=Zic (P:=P) (w:=w) (base:=base) T;have G_first_not_whole:=Zdr (P:=P) (w:=w) (base:=base) T;have G_halving_cuts:=Zgj (P:=P) (w:=w) (base:=base) T;have G_web_rows:=Zlx (P:=P) (w:=w) (base:=base) T;have G_word_of:=Zpl (P:=P) (w:=w) (base:=base) T;refine Yo T.e_halved_told.F Wg (S:=Y0) rfl rfl (λcdv A outer s H E hr=>?_);have hu:=hr.units;exact(xsq (xst 2 Wg.nd (xcl G_web_rows (hr.mono (by decide)) T.e_web_rows.m T.e_web_rows.F.kp T.e_web_rows.b (Zh (xv 0) (xa1 (xv 1))))) (xsq (xst 3 Wg.nd (xcl G_first_even (hr.mono (by decide)) T.e_first_even.m T.e_first_even.F.kp T.e_first_even.b (Zh (xv 2) (xa1 (xv 1))))) (xsq (xif (Jd Zl0 (Jc Zlh Zlm (xv 3) (Zc1 Zhu) (hm:=(J9 _)))) (Zg (xrt (xtp (Zh (Zc1 Zab) (xa1 (xv 3)))))) xnl) (xsq (xst 4 Wg.nd (xcl G_first_not_whole (hr.mono (by decide)) T.e_first_not_whole.m T.e_first_not_whole.F.kp T.e_first_not_whole.b (Zh (xv 2) (xa1 (xv 1))))) (xsq (xif (Jd Zl0 (Jc Zlh Zlm (xv 4) (Zc1 Zhu) (hm:=(J9 _)))) (Zg (xrt (xtp (Zh (Zc1 Zab) (xa1 (xv 4)))))) xnl) (xsq (Zhx (Zhr (i:=5) Wg.nd rfl (Qt rfl) (xcl G_halving_cuts (hr.mono (by decide)) T.e_halving_cuts.m T.e_halving_cuts.F.kp T.e_halving_cuts.b (Zh (xv 2) (xa1 (xv 1)))))) (Zg (xrt (Z0r (Z6q (Zh (Zc1 Zab) (xa1 (Wn (J4 (own:=["point"]) (caps:=[5]) (N':=["point","cuts"]) (by exact⟨rfl,by decide +kernel,rfl,by decide +kernel,rfl,rfl⟩) (by rfl) (by decide) (Jh (Zt (by rfl) T.z_range (xa1 (xv 0)))) (λ_ _ _ _ _=>(xg 0 (by show JM (["point","cuts"]:List Str);decide +kernel))) (λ_ _ _ _ _=>(Wt Wx)) (λ_ _ _ _ _=>(xcl G_word_of (hr.mono (by decide)) T.e_word_of.m T.e_word_of.F.kp T.e_word_of.b (Zh (xv 0) (xa1 (xv 1)))))))))))))))))))
theorem Zby:Zy ["n","roads","due","handed","found"] ["n","roads","due"] (Zk Zc0):=fsc
theorem Zje(T:Txt K mg f fd cls):FnOk P w K mg base CX0 6 (f 22) (fd 22) ["n","roads","due"] (spD K (sD Z6)):=by
 have G_law_whole:=Zkw (P:=P) (w:=w) (base:=base) T;have G_halved_told:=Zg9 (P:=P) (w:=w) (base:=base) T;refine Yo T.e_law_right.F Zby (S:=Zba) rfl rfl (λcdv A outer s H E hr=>?_);have hu:=hr.units;exact(xsq (xst 3 Zby.nd (Z0h Z93 (Yhw Z30 (Zof rfl) (by rfl) T.z_list L2.B.boot_list (xa1 (xv 1))))) (xsq (xso 4 Zby.nd (xcl G_halved_told (hr.mono (by decide)) T.e_halved_told.m T.e_halved_told.F.kp T.e_halved_told.b (Zh (xv 0) (xa1 (xv 3))))) (xsq (xif (MW.mt (Zj9 (Zjy (xno (Zem (Zer (Zc7 (Zi7 (by decide) (by rfl) T.z_isinstance L2.B.boot_isinstance (by rfl) T.z_tuple L2.B.boot_tuple (xo 4))) (λ_=>rfl)))) (Zj9 (Zjy (xne hu (xln T.z_len (xa1 (xo 4))) xci) (Zj9 (Zjy (xno (Zem (Zer (Zc7 (Zi7 (by decide) (by rfl) T.z_isinstance L2.B.boot_isinstance (by rfl) T.z_str L2.B.boot_str (xix (xo 4) xci))) (λ_=>rfl)))) (Zhf (xne hu (xv 3) (xv 1)))))))))) (Zg (xrt (Zc1 Zj2))) xnl) (xsq (xif (MW.mt (Zj9 (Zjy (xne hu (xix (xo 4) xci) (xix (xv 2) xci)) (Zhf (xne hu (Zc7 (Zi7 (by decide) (by rfl) T.z_isinstance L2.B.boot_isinstance (by rfl) T.z_list L2.B.boot_list (xix (xo 4) xci))) (Jf Ybv (Zpa (Ztp hu) Z3y (xix (xv 2) xci) (Zc1 Zab) (hm:=(J9 _))))))))) (Zg (xrt (Zc1 Zj2))) xnl) (xsq (xif (xne hu (xix (xv 2) xci) (Zc1 Zab)) (Zg (xrt (Zit (Zvg (Zc7 (Zi7 (by decide) (by rfl) T.z_isinstance L2.B.boot_isinstance (by rfl) T.z_tuple L2.B.boot_tuple (xix (xo 4) xci))) (Zit (Zvg (Zc9 Z8r (Zli Zy7 (Zjg rfl (by rfl)) (by rfl) T.z_all L2.B.boot_all (xa1 (Wn (J4 (own:=["one"]) (caps:=[]) (N':=["one"]) (by exact⟨rfl,by decide +kernel,rfl,by decide +kernel,rfl,rfl⟩) (by rfl) (by decide) (Z5t (Z7v (xix (xo 4) xci))) (λ_ _ _ _ _=>(Ze7 (Zff (i:=0) (by show JM (["one"]:List Str);decide +kernel)))) (λ_ _ _ _ _=>(Wt Wx)) (λ_ _ _ _ _=>(xcl G_law_whole (hr.mono (by decide)) T.e_law_whole.m T.e_law_whole.F.kp T.e_law_whole.b (xa1 (xv 0))))))))) (Z2n (Jf Ybv (Zpa (Ztp hu) Z3y (xo 4) (xv 2) (hm:=(J9 _))))))))))) xnl) (xsq (xif (MW.mt (Zj9 (Zjy (xno (Zem (Zer (Zc9 Z8r (Zli Zy7 (Zjg rfl (by rfl)) (by rfl) T.z_all L2.B.boot_all (xa1 (Wn (J4 (own:=["word"]) (caps:=[]) (N':=["word"]) (by exact⟨rfl,by decide +kernel,rfl,by decide +kernel,rfl,rfl⟩) (by rfl) (by decide) (xil (xix (xo 4) xci)) (λ_ _ _ _ _=>(Ze7 (Zff (i:=0) (by show JM (["word"]:List Str);decide +kernel)))) (λ_ _ _ _ _=>(Wt Wx)) (λ_ _ _ _ _=>(Zc7 (Zi7 (by decide) (by rfl) T.z_isinstance L2.B.boot_isinstance (by rfl) T.z_str L2.B.boot_str (xv 0))))))))) (λ_=>rfl)))) (Zhf (xne hu (xo 4) (xv 2)))))) (Zg (xrt (Zc1 Zj2))) xnl) (xsq (Zvf (Zxm 4 1 (Zc1 Zab))) (Zg (xrt (Zc1 Zj2))))))))))
theorem Zz:Zy ["cell","many","base","row","rest","k","stir"] ["cell","many","base"] (Zk Za0):=fsc
theorem Zhc(T:Txt K mg f fd cls):FnOk P w K mg base CX0 1 (f 23) (fd 23) ["cell","many","base"] (spD K (sD Yz)):=by
 refine Yo T.e_law_numbers.F Zz (S:=Zai) rfl rfl (λcdv A outer s H E hr=>?_);have hu:=hr.units;exact(xsq (xst 0 Zz.nd (Zpw (xv 0) (Z33 (Ybd xci xci) (Ybd xci xci)))) (xsq (xso 3 Zz.nd (xls xa0)) (xsq (xst 4 Zz.nd (Ygm (xv 0) (Ybd xci xci))) (xsq (xfr Qc rfl (Jh (Zt (by rfl) T.z_range (xa1 (xv 1)))) (xg 5 Zz.nd) (xsq (xst 6 Zz.nd (Zpw (Z33 (Zle (Zle (xv 0) (Z33 xci (xv 5))) xci) xci) xci)) (xsq (xst 6 Zz.nd (Zpw (Z33 (xv 6) (xv 6)) xci)) (xsq (xst 6 Zz.nd (Ya9 (Zpw (Z33 (Zle (xv 6) (Z33 xci (Zle (xv 5) xci))) xci) xci) xci)) (xsq (xif (xge (xv 0) (Ybd xci xci)) (xsq (xst 6 Zz.nd (xv 4)) (Zg (xst 4 Zz.nd (Ya9 (xv 4) (xv 2))))) xnl) (Zg (Y5 (Y9 3 (Zpw (xv 6) (xv 2)))))))))) (Zg (Zdv (Zeh 3)))))))
theorem Yh:Zy ["cell","most","row","n","left","names","k","roads","side","one","other"] ["cell","most"] (Zk Zf3):=fsc
theorem Zos(T:Txt K mg f fd cls):FnOk P w K mg base CX0 2 (f 24) (fd 24) ["cell","most"] (spD K (sD Wk)):=by
 have G_law_numbers:=Zhc (P:=P) (w:=w) (base:=base) T;refine Yo T.e_law_web.F Yh (S:=Zcm) rfl rfl (λcdv A outer s H E hr=>?_);have hu:=hr.units;exact(xsq (xst 2 Yh.nd (xcl G_law_numbers (hr.mono (by decide)) T.e_law_numbers.m T.e_law_numbers.F.kp T.e_law_numbers.b (Zh (xv 0) (Zh xci (xa1 xci))))) (xsq (xst 3 Yh.nd (Zle xci (Zpw (xix (xv 2) xci) (xv 1)))) (xsq (Zne (Zb4 (i:=4) (own:=["point"]) (caps:=[]) (N':=["point"]) YD Yh.nd rfl (QL rfl) (by exact⟨rfl,by decide +kernel,rfl,by decide +kernel,rfl,rfl⟩) (by rfl) (by decide) (Jh (Zt (by rfl) T.z_range (xa1 (xv 3)))) (λ_ _ _ _ _=>(xg 0 (by show JM (["point"]:List Str);decide +kernel))) (λ_ _ _ _ _=>(Wt Wx)) (λ_ _ _ _ _=>(xv 0)))) (xsq (xso 5 Yh.nd (xls xa0)) (xsq (xfr Qc rfl (Jh (Zt (by rfl) T.z_range (xa1 (xv 3)))) (xg 6 Yh.nd) (Zg (Y5 (Y9 5 (Z9g (Yd6 4 (Zpw (xix (xv 2) (Zle xci (xv 6))) (xln T.z_len (xa1 (xo 4)))))))))) (xsq (xso 7 Yh.nd (xls xa0)) (xsq (xso 8 Yh.nd (Yak (Yes xci (xv 3)))) (xsq (xfr Qc rfl (Zz0 (Zfn (by rfl) T.z_range (Zh xci (xa1 (xv 3))))) (xg 6 Yh.nd) (xsq (Y5 (Y9 7 (Zz1 (Z5a (xtp (Zh (xix (xo 5) (Zpw (xix (xv 2) (Zle xci (xv 6))) (xv 6))) (xa1 (xix (xo 5) (xv 6))))))))) (Zg (Zzk (Zyg 8 (Ygm xci (xix (xo 8) (xix (xix (xo 7) (Zyr (Z8o xci))) xci))) (xix (xo 5) (xv 6))))))) (xsq (xfr Qc rfl (Jh (Zt (by rfl) T.z_range (xa1 (Zpw (xix (xv 2) xci) xci)))) (xg 6 Yh.nd) (xsq (xst 9 Yh.nd (Zpw (Ya9 (xix (xv 2) (Zle xci (xv 6))) xci) (xv 3))) (xsq (xst 10 Yh.nd (Zpw (xix (xv 2) (Zle xci (xv 6))) (xv 3))) (Zg (xif (MW.mt (Zx6 (Zyj (xne hu (xv 9) (xv 10)) (Ztt (MW.mt (Zj9 (Zjy (xeq hu (Zpw (Ya9 (xix (xv 2) xci) xci) xci) xci) (Zhf (xne hu (xix (xo 8) (xv 9)) (xix (xo 8) (xv 10))))))))))) (Zg (Y5 (Y9 7 (xtp (Zh (xv 9) (xa1 (xv 10))))))) xnl))))) (Zg (xrt (xtp (Zh (xv 3) (xa1 (Zlt (Zpc (by rfl) hu (by rfl) T.z_sorted L2.B.boot_sorted (by rfl) T.z_set L2.B.boot_set (xa1 (Wn (J4 (own:=["a","b"]) (caps:=[]) (N':=["a","b"]) (by exact⟨rfl,by decide +kernel,rfl,by decide +kernel,rfl,rfl⟩) (by rfl) (by decide) (xil (xo 7)) (λ_ _ _ _ _=>(Zpy (Zts (n:=2) (by rfl) (Za5 (Zks (Ze7 (Zff (i:=0) (by show JM (["a","b"]:List Str);decide +kernel))) (Za5 (Zks (Ze7 (Zff (i:=1) (by show JM (["a","b"]:List Str);decide +kernel))) (Zlu Zl2)))))))) (λ_ _ _ _ _=>(Wt Wx)) (λ_ _ _ _ _=>(xtp (Zh (Zc9 Z9k (Zli Zup (Zjh (by rfl)) (by rfl) T.z_min L2.B.boot_min (Zh (xv 0) (xa1 (xv 1))))) (xa1 (Zc9 Yep (Zli Z1d (Zuc (by rfl)) (by rfl) T.z_max L2.B.boot_max (Zh (xv 0) (xa1 (xv 1))))))))))))))))))))))))))))
theorem Zep:Zy ["script","asked","cell","n","roads","due"] ["script"] (Zk Z2z):=fsc
theorem Z8q(T:Txt K mg f fd cls):FnOk P w K mg base CX0 7 (f 25) (fd 25) ["script"] (spD K (sD Zhq)):=by
 have G_law_cell_at:=Zg1 (P:=P) (w:=w) (base:=base) T;have G_law_due:=Zn8 (P:=P) (w:=w) (base:=base) T;have G_law_right:=Zje (P:=P) (w:=w) (base:=base) T;have G_law_web:=Zos (P:=P) (w:=w) (base:=base) T;refine Yo T.e_law.F Zep (S:=Zhs) rfl rfl (λcdv A outer s H E hr=>?_);have hu:=hr.units;exact(xsq (xso 1 Zep.nd (xls xa0)) (xsq (xfr Qc rfl (xil (Zkc (Zev Z9t (Ybi (Zql rfl) Zyp (Z6r (Yaq (xv 0) (Ziw (Zis xci)) (Ziw (Zis xci)))) (xls (xa1 (xcl G_law_cell_at (hr.mono (by decide)) T.e_law_cell_at.m T.e_law_cell_at.F.kp T.e_law_cell_at.b (Zh (xv 0) (xa1 xci))))))))) (xg 2 Zep.nd) (xsq (Z6c (Z74 (xcl G_law_web (hr.mono (by decide)) T.e_law_web.m T.e_law_web.F.kp T.e_law_web.b (Zh (xv 2) (xa1 xci))) (xg2 rfl (xg 3 Zep.nd) (xg 4 Zep.nd)))) (Zg (Y5 (Y9 1 (xtp (Zh (xv 3) (Zh (xv 4) (xa1 (xcl G_law_due (hr.mono (by decide)) T.e_law_due.m T.e_law_due.F.kp T.e_law_due.b (Zh (xv 3) (xa1 (xv 4))))))))))))) (xsq (Zdo (Zdm 1 (xfr Qc rfl (xil (Zkc (Zev Z9t (Ybi (Zql rfl) Zyp (xv 1) (Zzs (Yar (xv 1) (Zl7 Zk9) (Zl7 Zk9) (Ziw (Zis (Zyr (Z8o xci)))))))))) (Zpy (Zts (n:=3) (by rfl) (Za5 (Zds (xg 3 Zep.nd) (Za5 (Zds (xg 4 Zep.nd) (Za5 (Zds (xg 5 Zep.nd) (Zlu Zl2))))))))) (Zg (xif (xno (Zem (Zer (xcl G_law_right (hr.mono (by decide)) T.e_law_right.m T.e_law_right.F.kp T.e_law_right.b (Zh (xv 3) (Zh (xv 4) (xa1 (xv 5))))) (λ_=>rfl)))) (Zg (xrt (Zc1 Zj2))) xnl))))) (Zg (xrt (Zc1 Zj2))))))
theorem Z1a(T:Txt K mg f fd cls):FnOk P w K mg base CX0 7 (f 25) (fd 25) ["script"] (spD K Z7r):=(Z8q T).imp λvs H Q E q=>by
 obtain⟨L,ds,k,h1,⟨ns,e,hl,hk⟩,h3⟩:=q;exact⟨L,ds,k,h1,⟨_,by rw[e];exact Zvx ns hl,hk⟩,h3⟩
end
theorem Z8v{l:PySem.W.OpenLaw}{fa:YG}(X:K.In h)(G:h.Ns Ql mg)(hfa:mg "law"=YB (.ref fa))
  (q1:Ei K "_law_cell_at" Za6 f1 d1)
  (q2:Ei K "_law_between" Za4 f2 d2)
  (q3:Ei K "_law_far" Zft f3 d3)
  (q4:Ei K "_law_due" Zfm f4 d4)
  (q5:Ei K "_law_whole" Zcv f5 d5)
  (q6:Ei K "first_even" Zbn f6 d6)
  (q7:Ei K "far_sides" Zcu f7 d7)
  (q8:Ei K "pairs_of" Zei f8 d8)
  (q9:Ei K "first_leaving" Jw f9 d9)
  (q10:Ei K "first_not_whole" W6 f10 d10)
  (q11:Ei K "is_whole" Zd5 f11 d11)
  (q12:Ei K "check_points" Zal f12 d12)
  (q13:Ei K "cut_of" Zid f13 d13)
  (q14:Ei K "halving_cuts" Zao f14 d14)
  (q15:Ei K "beside_each" Zaw f15 d15)
  (q16:Ei K "is_point_count" Jj f16 d16)
  (q17:Ei K "is_rising" Zct f17 d17)
  (q18:Ei K "check_roads" Zay f18 d18)
  (q19:Ei K "steps_from" Zb1 f19 d19)
  (q20:Ei K "web_rows" Zea f20 d20)
  (q21:Ei K "word_of" Zfr f21 d21)
  (q22:Ei K "halved_told" Za2 f22 d22)
  (q23:Ei K "_law_right" Zc0 f23 d23)
  (q24:Ei K "_law_numbers" Za0 f24 d24)
  (q25:Ei K "_law_web" Zf3 f25 d25)
  (q26:Ei K "law" Z2z f26 d26)
  (z0:QR K Ql "all"=YB YC)
  (z1:QR K Ql "bool"=YB YC)
  (z2:QR K Ql "enumerate"=YB YC)
  (z3:QR K Ql "int"=YB YC)
  (z4:QR K Ql "isinstance"=YB YC)
  (z5:QR K Ql "len"=YB YC)
  (z6:QR K Ql "list"=YB YC)
  (z7:QR K Ql "max"=YB YC)
  (z8:QR K Ql "min"=YB YC)
  (z9:QR K Ql "range"=YB YC)
  (z10:QR K Ql "set"=YB YC)
  (z11:QR K Ql "sorted"=YB YC)
  (z12:QR K Ql "str"=YB YC)
  (z13:QR K Ql "tuple"=YB YC)
  (z14:QR K Ql "zip"=YB YC)
  (gc_MOST_POINTS:QR K Ql "MOST_POINTS"=YB (YB (.int 10 t_MOST_POINTS)))
  (cc_NoCut:QR K Ql "NoCut"=YB (YB (.ref C_NoCut)))
  (cc_NoWeb:QR K Ql "NoWeb"=YB (YB (.ref C_NoWeb)))
  (x_NoCut:Zd0 K C_NoCut)
  (x_NoWeb:Zd0 K C_NoWeb)
  (r_NoCut:Zw9 K C_NoCut)
  (r_NoWeb:Zw9 K C_NoWeb)
  :∃fd:Qp,(∀(s:Xg) (v:Xe),BindsTo s fd ⟨[v],[]⟩ [("script",v)])/\∀base:YH,K.In base->base.Ns Ql mg->FnOk l.prog w K mg base CX0 7 fa fd ["script"] (spD K Z7r):=by
 have e:=hfa.symm.trans (PySem.W.mg_of X G q26.a);cases e;have T:Txt K mg (λk=>[f1,f2,f3,f4,f5,f6,f7,f8,f9,f10,f11,f12,f13,f14,f15,f16,f17,f18,f19,f20,f21,f22,f23,f24,f25,f26].getD k 0) (λk=>[d1,d2,d3,d4,d5,d6,d7,d8,d9,d10,d11,d12,d13,d14,d15,d16,d17,d18,d19,d20,d21,d22,d23,d24,d25,d26].getD k d26) (λk=>[C_NoCut,C_NoWeb].getD k 0):=⟨en2 X G q1,en2 X G q2,en2 X G q3,en2 X G q4,en1 X G q5,en2 X G q6,en3 X G q7,en1 X G q8,en2 X G q9,en2 X G q10,en1 X G q11,en2 X G q12,en2 X G q13,en2 X G q14,en2 X G q15,en1 X G q16,en1 X G q17,en2 X G q18,en2 X G q19,en2 X G q20,en2 X G q21,en2 X G q22,en3 X G q23,en3 X G q24,en2 X G q25,en1 X G q26,⟨_,PySem.W.mg_of X G gc_MOST_POINTS⟩,QG X G z0,QG X G z1,QG X G z2,QG X G z3,QG X G z4,QG X G z5,QG X G z6,QG X G z7,QG X G z8,QG X G z9,QG X G z10,QG X G z11,QG X G z12,QG X G z13,QG X G z14,ec X G cc_NoCut,ec X G cc_NoWeb,x_NoCut,x_NoWeb,r_NoCut,r_NoWeb⟩;refine⟨d26,λs v=>?_,λbase _ _=>Z1a (P:=l.prog) (w:=w) (base:=base) T⟩;obtain⟨_,_,_,_,_,_,_,_,_,rfl,_,_⟩:=q26.F.ex;exact .of_eq rfl
theorem walk{l:PySem.W.OpenLaw}{q:Qa}{d:DefRec}{K:Params->Xd}(hn:l.most=YB 63)(hdf:d.params.defaults=[])
  (hY:∀(w:Qo) (h:YH),YP w h->(K w.params).In h)
  (F:∀(w:Qo) (mg:Str->Option Xe) (fa:YG) (h:YH),(K w.params).In h->h.Ns Ql mg->mg d.name=YB (.ref fa) ->
   ∃fd:Qp,(∀(s:Xg) (u:Xe),BindsTo s fd ⟨[u],[]⟩ [("script",u)])/\∀base:YH,(K w.params).In base->base.Ns Ql mg->FnOk l.prog w (K w.params) mg base CX0 7 fa fd ["script"] (spD (K w.params) Z7r)) :
  PySem.W.WalkO q loose XP YP l.row.toRowW d [] (λf vs=>PySem.call f vs) :=
 L2.Z4g (n:=63) (k:=7) (x :="script") (CX:=λ_=>CX0) (sp:=λw=>spD (K w.params) Z7r) hn (by decide) hdf ⟨rfl,by decide,by decide⟩ hY F (λ_ _ a ns hl _ hS=>Z7b hl hS) λ_ _ _ _ _ z=>z
end My
open PySem PySem.W PyProof.Rows
theorem PySem.W.Fast.tw13512671827960956147:True:=trivial
theorem PySem.W.Fast.tw8432395672343150855:True:=trivial
theorem PySem.W.Fast.tw4601122211672013320:True:=trivial
theorem PySem.W.Fast.tw1700727848325587214:True:=trivial
theorem PySem.W.Fast.tw10149164970103555583:True:=trivial
theorem PySem.W.Fast.tw10756681997388459649:True:=trivial
theorem PySem.W.Fast.tw2567749147180076372:True:=trivial
theorem PySem.W.Fast.tw18053898401925434825:True:=trivial
theorem PySem.W.Fast.tw356949817624026434:True:=trivial
set_option maxRecDepth 100000 in
set_option maxHeartbeats 0 in
theorem PySem.Challenge.cw_farcuts_k61_halved_or_not_holds : PySem.Challenge.rw_farcuts_k61_halved_or_not.Holds := by
 w_on;o_law;k_head;(case hw=>w_witness2)
 k_fill
 refine My.walk (l:=PySem.Challenge.rw_farcuts_k61_halved_or_not) rfl rfl (λw h Y=>PySem.W.kIn_of Y) ?F
 case F=>
  intro w mg fa h KX G hmg;refine' My.Z8v KX G hmg ?_ ?_ ?_ ?_ ?_ ?_ ?_ ?_ ?_ ?_ ?_ ?_ ?_ ?_ ?_ ?_ ?_ ?_ ?_ ?_ ?_ ?_ ?_ ?_ ?_ ?_ ?_ ?_ ?_ ?_ ?_ ?_ ?_ ?_ ?_ ?_ ?_ ?_ ?_ ?_ ?_ ?_ ?_ ?_ ?_ ?_ ?_ ?_
  all_goals try (first|(refine' ⟨?a,L2.Z55 ?l ?c ?k⟩;(case a=>k_is);(case l=>k_is);(case c=>k_is);(case k=>k_is))|k_is|kit_is|(show PySem.W.excIn _ _ _ _=YD;k_exc)|(refine' ⟨?_,?_,?_,?_,?_,?_,?_,?_,?_,?_,?_⟩<;>first|k_is|kit_is|(show PySem.W.isClsIn _ _=YD;k_is)))
#print axioms PySem.Challenge.cw_farcuts_k61_halved_or_not_holds
