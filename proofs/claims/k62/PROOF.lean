import PyProof.Rows.All
import Wide.All
import OpenK.AllK
import Wide.FinOn
import PyProof.EqAt
import PyProof.EqKinds
import PyProof.TupleCall
import PyProof.P3In
import PyProof.ZipIter
import PyProof.ListRange
import PyProof.SetRoads
import PyProof.Rows.SetFrom
import PyProof.Rows.SeqMore2
import KE.RegKIsAll
import PyProof.StrWalks
import PyProof.EnumMake
import PyProof.Conv_int
import PyProof.Conv_int_bool
import PyProof.StrBlockI
import PyProof.Draws
import PyProof.ConsumeWalk
import PyProof.StrOps2
import PySem.Challenge.RW_farcuts_k62_webs_that_halve
set_option Elab.async false
set_option linter.all false
set_option maxRecDepth 100000
set_option genSizeOfSpec false
set_option genInjectivity false
/-! THE HAND LAYER, for ints, bools, texts, own classes, LISTS and tuples (index, slices, in, append, pop ..), calls, loops. Paste it whole ahead of your own text; what your proof does not reach may be deleted. -/
open Array renaming length_toList->X5,getElem?_toList->Qt,getElem?_eq_getElem->VJ
open Bool renaming false_ne_true->Xv,and_eq_true->XJ,false_eq_true->Qm,eq_false_iff->Bv,not_true->Uy
open Classical renaming byContradiction->BW,axiomOfChoice->V1
open False renaming elim->VB
open ForInStep renaming yield->JV
open Int renaming toNat_natCast->QJ,zero_add->VR
open List renaming length_map->Xd,range->Xi,mem_singleton->Xj,getElem?_eq_getElem->Xk,getElem?_map->Xl,getElem?_eq_some_iff->Xn,mem_cons->Xp,getD_eq_getElem?_getD->Xr,length_range->Xw,size_toArray->Xy,length_append->XF,mem_range->XQ,mem_map->XX,map_cons->X3,replicate->X4,nodup_cons->X6,mem_append->X8,mem_append_right->Qa,map_append->Qg,map_congr_left->Qh,append_nil->Qk,mem_append_left->Qp,getElem?_set_ne->Qv,map_map->Qz,append_assoc->QB,getElem?_eq_none_iff->QD,getElem?_set_self->QG,getElem?_eq_none->QK,eq_nil_of_length_eq_zero->QL,getElem?_range->QM,filterMap_cons->QQ,length_cons->QS,lookup_cons->Q0,mem_of_getElem?->Q6,mem_filter->Q9,Nodup->JC,nodup_append->JF,exists_of_findSome?_eq_some->JZ,length_nil->Bw,length_drop->BR,getElem?_append_right->BX,findSome?_eq_none_iff->BZ,length_replicate->Vb,length_take->Vo,range_succ->Vq,getElem?_toArray->Vt,flatMap_cons->Vw,ext_getElem?->Vx,toArray->VF,getElem_mem->VG,all_eq_true->VH,pairwise_iff_getElem->VN,drop_eq_getElem_cons->VP,flatMap_append->V0,any_cons->V5,length_set->V6,find?_cons->V7,pairwise_cons->V9,take_of_length_le->Ug,drop_eq_nil_of_le->Uh,length_filter_le->Uq,not_mem_nil->Ur,mem_flatMap->Us,isEmpty_nil->Ut,mem_cons_of_mem->UJ,getElem?_of_mem->UL,perm_ext_iff_of_nodup->U6,mem_cons_self->U7,forIn_nil->U8
open Nat renaming ne_of_lt->Xo,le_refl->Xz,ne_of_gt->XM,lt_of_lt_of_le->Qi,le_trans->Ql,zero_le->Qy,lt_succ_self->QC,lt_succ_of_lt->Bb,lt_irrefl->BP,le_add_right->BV,lt_trans->Vg,le_of_lt->Vh,not_lt_zero->Vr,lt_or_ge->VM,zero_add->Uk,succ_le_succ->Ux
open Nat.succ renaming inj->Bj
open Ne renaming symm->Bl
open Option renaming bind_some->Xh,map_eq_some_iff->X7,some->Bp,some_ne_none->UV
open Option.some renaming inj->Qu
open Or renaming inr->Qo,inl->Qw
open PyProof.Rows renaming callWith_type1->JQ,IntsAre->BJ,seqObj->BK
open PySem renaming PyData->Xa,wpAny_bind->Xb,Value->Xe,Shared->Xg,wpAny_pure->Xm,sizeLine->Xq,starEach->Xu,wpAny->XD,sizeLine_eq->XN,model->XR,Program->XS,FuncData->Qc,bootBuiltins->Qe,mainGlobals->Qj,World->Qq,Around->Qs,compareOp->Qx,wpAny_setField_rec->QW,wpAny_loadPart'->Q3,SetTable->Q4,wpAny_truthy_bool->Q7,backTo->JD,wpAny_call_entry->JG,wpAny_newObj_type->JH,wpAny_callSpecial?_slot->JL,mem_of_lookup->JX,attributeBase->Bc,wpAny_mono->Be,rawInt->Bf,cellsFrom->Bg,sliceBounds->Bo,swapsWith->Br,assignEach->Bs,Builtin->Bu,wpAny_seqItems->Bx,NameKind->By,codeAny_builtin->BL,IsPair->Vc,wpAny_field->Vd,pushCells->Ve,wpAny_Call_Name_kw->Vf,foldedSetIterable->Vk,binaryOp->Vl,Keyword->Vn,intKind->Vu,wpAny_passesOwn->Vy,wpAny_holding->VD,sysModules->V2,keywordEach->V3,cLine->V8,wpAny_setEntries_of->Ua,pyNext->Ub,plainId_quiet->Uc,wpAny_rule->Ui,scanBound->Ul,wpAny_setState_of->Uu,wpAny_loadPart_at->Uv,firstArgMember->Uw,wpAny_attempt->U0,codeAny->U3,behindInMarks->U4,Scope->U5
open PySem.Around renaming under_plainId->Bq
open PySem.Builtin.Int renaming intBits->Um
open PySem.Builtin.List renaming listTooLong->UW
open PySem.Builtin.SmallTypes renaming nextOf->QT,ownedTupleIsFree->Bm,ownedTupleHandOut->U9
open PySem.F renaming plainAttrs_list->JR,called_set->V4
open PySem.Heap renaming get?_push_of_some->Xf,get?_push_size->XC,lt_size->XH,size_push->QF,SameBut->JM
open PySem.Heap.SameBut renaming update->JK
open PySem.NameKind renaming free->QZ,cell->Bk
open PySem.Obj renaming mapSeq->Va
open PySem.PassesOwn renaming never->Qd
open PySem.PyData renaming int->Xx,eqv->Q5,strOk->JB,list->JN,canLayAll0->JS,canLay0->JT,bool->Ba,str->Bh,depthAll->UG
open PySem.PyData.list renaming inj->Uj
open PySem.SeqAt renaming EqAt->JW,shaped->Ud,canLay_of_shaped->Ue
open PySem.SetTable renaming below->QV,grown->Vs
open PySem.Str renaming ofString->VL
open PySem.Txt renaming join->UT
open PySem.Value renaming ref->Qn,none->QX,int->Vm,bool->Uo
open PySem.W renaming Frag->Xc,mg_none_of->QH,nsIn->QR,kia_one->Q8,Looks->JP,kitOne->Vi,findIn->Vj,keepIn->Vv,fnOf->Vz
open Sum renaming inr->Uz
open True renaming intro->Vp
namespace L2
open PySem PySem.Spec PyProof.Rows
noncomputable abbrev Key:=Sum Int Str
noncomputable def Zn8:Key->Xe->Bool
 | .inl k,v=>Value.isInt k v
 | .inr x,v=>Value.isStrOf x v
noncomputable def Yfd(w:Qq):Key->Int
 | .inl k=>hashInt k
 | .inr x=>hashStr w x
theorem Yp:∀{k:Key} {v:Xe},Zn8 k v=true->(∃i t,k=Sum.inl i∧v=Vm i t)∨(∃x t,k=Uz x∧v=Value.str x t)
 | .inl i,v,h=>by
  obtain⟨t,e⟩:=Value.isInt_shape (k:=i) (v:=v) h
  exact .inl ⟨i,t,rfl,e⟩
 | .inr x,v,h=>by
  obtain⟨t,e⟩:=Xe.isStrOf_shape (x:=x) (v:=v) h
  exact .inr ⟨x,t,rfl,e⟩
theorem Zr5(i:Int)(t:Tok):Zn8 (.inl i) (.int i t)=true:=by simp[Zn8,Value.isInt]
theorem Zqg(x:Str)(t:Tok):Zn8 (.inr x) (.str x t)=true:=by simp[Zn8,Value.isStrOf]
theorem Z60(a b:Int):decide ((Sum.inl a:Key)=Sum.inl b)=(a==b):=by
 by_cases e:a=b
 ·subst e;simp
 ·have h:¬(Sum.inl a:Key)=Sum.inl b:=λq=>e (Sum.inl.inj q)
  rw[decide_eq_false h]
  exact(beq_eq_false_iff_ne.mpr e).symm
theorem Z6e(a b:Str):decide ((Uz a:Key)=Uz b)=decide (a=b):=by
 by_cases e:a=b
 ·subst e;simp
 ·have h:¬(Uz a:Key)=Uz b:=λq=>e (Uz.inj q)
  rw[decide_eq_false h,decide_eq_false e]
theorem Z7j(a:Int)(b:Str):decide ((Sum.inl a:Key)=Uz b)=false:=decide_eq_false (λq=>nomatch q)
theorem Z7s(a:Str)(b:Int):decide ((Uz a:Key)=Sum.inl b)=false:=decide_eq_false (λq=>nomatch q)
noncomputable def Wg(prog:XS)(w:Qq):PySem.KeyKind prog w Key where
 is:=Zn8
 hash:=Yfd w
 inj:=λv a b ha hb=>by
  rcases Yp ha with⟨i,t,rfl,rfl⟩|⟨x,t,rfl,rfl⟩
  ·rcases Yp hb with⟨j,u,rfl,e⟩|⟨y,u,rfl,e⟩
   ·injection e with e1 _;rw[e1]
   ·exact nomatch e
  ·rcases Yp hb with⟨j,u,rfl,e⟩|⟨y,u,rfl,e⟩
   ·exact nomatch e
   ·injection e with e1 _;rw[e1]
 byValue:=λk v h=>by
  rcases Yp h with⟨i,t,rfl,rfl⟩|⟨x,t,rfl,rfl⟩<;>rfl
 pyHash:=λhv h=>by
  rcases Yp hv with⟨i,t,rfl,rfl⟩|⟨x,t,rfl,rfl⟩
  ·exact wpAny_pyHash_int h
  ·exact wpAny_pyHash_str h
 eqBool:=λhu hv h=>by
  rcases Yp hu with⟨i,t,rfl,rfl⟩|⟨x,t,rfl,rfl⟩
  ·rcases Yp hv with⟨j,u,rfl,rfl⟩|⟨y,u,rfl,rfl⟩
   ·rw[Z60]at h;exact wpAny_eqBool_int h
   ·rw[Z7j]at h;exact SeqAt.EqAt.int_str i t y u _ _ _ _ h
  ·rcases Yp hv with⟨j,u,rfl,rfl⟩|⟨y,u,rfl,rfl⟩
   ·rw[Z7s]at h;exact SeqAt.EqAt.str_int x t j u _ _ _ _ h
   ·rw[Z6e]at h;exact wpAny_eqBool_str h
 «strs»:=λk x t v h=>by
  rcases Yp h with⟨i,u,rfl,e⟩|⟨y,u,rfl,e⟩
  ·exact nomatch e
  ·injection e with e1 _
   subst e1
   cases v<;>rfl
theorem Zmg(prog:XS)(w:Qq)(i:Int)(t:Tok):(Wg prog w).is (.inl i) (.int i t)=true:=Zr5 i t
theorem Zmi(prog:XS)(w:Qq)(x:Str)(t:Tok):(Wg prog w).is (.inr x) (.str x t)=true:=Zqg x t
inductive V where
 | non|bl (b:Bool)|int (i:Int)|str (x:Str)|byt (b:Array UInt8)|flt (b:UInt64)|ref (a:Addr)|ty (n:String)
 deriving DecidableEq
noncomputable def RelV:V->Xe->Prop
 | .non,u=>u=QX
 | .bl b,u=>u=Uo b
 | .int i,u=>∃t,u=Vm i t
 | .str x,u=>∃t,u=Value.str x t
 | .byt b,u=>∃t,u=Xe.bytes b t
 | .flt b,u=>∃t,u=Xe.float b t
 | .ref a,u=>u=Qn a
 | .ty n,u=>u=Value.type n
noncomputable abbrev Vals:List V->List Xe->Prop:=Paired RelV
theorem Vals.length{xs:List V}{us:List Xe}(r:Vals xs us):xs.length=us.length:=Paired.length r
theorem Vals.get{xs:List V}{us:List Xe}{i:Nat}{x:V}(h:Vals xs us)(e:xs[i]? =some x):∃u,us[i]? =some u∧RelV x u:=by
 induction h generalizing i with
 | nil=>exact(UV _ (e.symm.trans List.getElem?_nil)).elim
 | cons r t ih=>
  cases i with
  | zero=>exact⟨_,rfl,Qu e▸r⟩
  | succ i=>exact ih e
theorem Vals.set{x:V}{u:Xe}(r:RelV x u){xs:List V}{us:List Xe}(i:Nat)(h:Vals xs us):Vals (xs.set i x) (us.set i u):=by
 induction h generalizing i with
 | nil=>exact .nil
 | cons q t ih=>
  cases i with
  | zero=>exact .cons r t
  | succ i=>exact .cons q (ih i)
theorem Vals.append{xs ys:List V}{us ws:List Xe}(h:Vals xs us)(s:Vals ys ws):Vals (xs ++ ys) (us ++ ws):=by
 induction h with
 | nil=>exact s
 | cons r t ih=>exact .cons r ih
theorem Vals.take{xs:List V}{us:List Xe}(n:Nat)(h:Vals xs us):Vals (xs.take n) (us.take n):=by
 induction h generalizing n with
 | nil=>rw[List.take_nil,List.take_nil];exact .nil
 | cons r t ih=>
  cases n with
  | zero=>exact .nil
  | succ n=>exact .cons r (ih n)
theorem Vals.drop{xs:List V}{us:List Xe}(n:Nat)(h:Vals xs us):Vals (xs.drop n) (us.drop n):=by
 induction h generalizing n with
 | nil=>rw[List.drop_nil,List.drop_nil];exact .nil
 | cons r t ih=>
  cases n with
  | zero=>exact .cons r t
  | succ n=>exact ih n
noncomputable def RelO:Option V->Option Xe->Prop
 | some v,some u=>RelV v u
 | none,none=>True
 | _,_=>False
noncomputable def KV{κ:Type}:List (κ×V)->List (κ×Xe)->Prop:=Paired λ(p:κ×V) (q:κ×Xe)=>p.1=q.1∧RelV p.2 q.2
noncomputable def kV:Key->V
 | .inl i=>.int i
 | .inr x=>.str x
inductive HO where
  | lst (xs:List V)
  | tup (xs:List V)
  | dK (kvs:List (Key×V))|dT (kvs:List (List Key×V))
  | set (S:Int->Bool) (n:Nat)
  | ins (C dx:Addr) (fs:List (Str×V))
  | own (x:Addr)
  | xd (fs:List (Str×V))
  | met (f x:Addr)
  | rng (lo hi:Int)
  | frz (o:Obj) (u:HO)
  | tbl (ps:Array Xe)
  | ext (φ:Heap->Prop)
noncomputable abbrev Hp:=Addr->Option HO
noncomputable def upd(H:Hp)(a:Addr)(o:HO):Hp:=λb=>if b=a then some o else H b
theorem Zr{H:Hp}{a:Addr}{o:HO}:upd H a o a=some o:=by unfold upd;rw[if_pos rfl]
theorem Zn{H:Hp}{a b:Addr}{o:HO}(h:b≠a):upd H a o b=H b:=by unfold upd;rw[if_neg h]
theorem Yck{H:Hp}{a b:Addr}{o u:HO}(h:H a=some o)(h':H b=some u)(d:o≠u):a≠b:=by
 intro e;subst e;rw[h]at h';exact d (Qu h')
theorem Yl{H:Hp}{a b:Addr}{o:HO}(h:H a=some o)(h':H b=none):a≠b:=by
 intro e;subst e;rw[h]at h';cases h'
section
variable (P:XS)(w:Qq)
noncomputable def ObjOk(H:Hp)(h:Heap)(a:Addr):HO->Prop
 | .lst xs=>xs.length≤Xq∧∃(its:List Xe) (n:Nat),Vals xs its∧h.get? a=some { cls:=.type "list",data:=.seq its.toArray n }
 | .tup xs=>xs.length≤Xq∧∃its:List Xe,Vals xs its∧IsTup h a its.toArray
 | .dK kvs=>kvs.length≤Xq∧(a==V2)=false∧∃vs,KV kvs vs∧h.DictOf (Wg P w) a vs
 | .dT kvs=>kvs.length≤Xq∧(a==V2)=false∧∃xs:List (List Key×Addr×Xe),
   Paired (λ(p:List Key×V) (q:List Key×Addr×Xe)=>p.1=q.1∧H q.2.1=some (.tup (p.1.map kV))∧RelV p.2 q.2.2) kvs xs∧
   ∃o es ep,h.get? a=some o∧o.ExactDict∧o.data= .dict es ep∧es.toList=xs.map (entryOfKey (tupleKind (Wg P w)))∧(xs.map (·.1)).Nodup
 | .set S n=>h.SetOf (Vu P w) a S n
 | .ins C dx fs=>H dx=some (.own a)∧fs.length≤1000∧dx≠a∧h.get? a=some (PySem.W.instObj C dx)∧
   ∃mA,h.Ns1 dx mA∧(∀f,RelO (fs.lookup f) (mA f))∧PySem.Within mA (fs.map (·.1))
 | .own _=>∃o,h.get? a=some o
 | .xd fs=>∃mA,h.Ns1 a mA∧∀f,RelO (fs.lookup f) (mA f)
 | .rng lo hi=>∃t u v,h.get? a=some { cls:=.type "range",data:=.fields #[.int lo t,.int hi u,.int 1 v] }
 | .frz o u=>h.get? a=some o∧ObjOk H h a u
 | .tbl ps=>h.get? a=some { cls:=.none,data:=.fields ps }
 | .met f x=>h.get? a=some (PySem.W.methodObj (.ref f) (.ref x))
 | .ext φ=>φ h∧(∃o,h.get? a=some o)∧∀h1 h2:Heap,φ h1->(∀o,h1.get? a=some o->h2.get? a=some o)->φ h2
noncomputable def HOk(H:Hp)(h:Heap):Prop:=∀a o,H a=some o->ObjOk P w H h a o
end
section
variable {P:XS}{w:Qq}{H H':Hp}{h h':Heap}{a:Addr}{o:HO}
theorem ObjOk.lt(x:ObjOk P w H h a o):a<h.objs.size:=by
 cases o with
 | lst xs=>obtain⟨_,_,_,_,e⟩:=x;exact XH e
 | tup xs=>obtain⟨_,_,_,p⟩:=x;exact p.lt
 | dK kvs=>obtain⟨_,_,_,_,o,_,_,e,_⟩:=x;exact XH e
 | dT kvs=>obtain⟨_,_,_,_,o,_,_,e,_⟩:=x;exact XH e
 | set S n=>obtain⟨o,_,_,_,e,_⟩:=x;exact XH e
 | ins C dx fs=>obtain⟨_,_,_,e,_⟩:=x;exact XH e
 | own y=>obtain⟨_,e⟩:=x;exact XH e
 | xd fs=>obtain⟨_,⟨_,_,_,e,_⟩,_⟩:=x;exact XH e
 | rng lo hi=>obtain⟨_,_,_,e⟩:=x;exact XH e
 | frz ob u=>obtain⟨e,_⟩:=x;exact XH e
 | tbl ps=>exact XH (show h.get? a=some _ from x)
 | met f y=>exact XH (show h.get? a=some _ from x)
 | ext φ=>obtain⟨_,⟨_,e⟩,_⟩:=x;exact XH e
theorem Paired.mapP{α β:Type}{F G:α->β->Prop}{l₁:List α}{l₂:List β}(h:Paired F l₁ l₂)(f:∀a b,F a b->G a b):Paired G l₁ l₂:=by
 induction h with
 | nil=>exact .nil
 | cons r t ih=>exact .cons (f _ _ r) ih
theorem ObjOk.stay(x:ObjOk P w H h a o)(k:∀b u,(b=a∨H b=some (.own a))->h.get? b=some u->h'.get? b=some u)
  (ho:∀b,H b=some (.own a)->H' b=some (.own a)) (ht:∀b xs,H b=some (.tup xs)->H' b=some (.tup xs)):ObjOk P w H' h' a o:=by
 induction o with
 | lst xs=>obtain⟨z,its,n,r,e⟩:=x;exact⟨z,its,n,r,k _ _ (.inl rfl) e⟩
 | tup xs=>obtain⟨z,its,r,ob,e,c⟩:=x;exact⟨z,its,r,ob,k _ _ (.inl rfl) e,c⟩
 | dK kvs=>obtain⟨z,y,vs,r,ob,es,ep,e,c⟩:=x;exact⟨z,y,vs,r,ob,es,ep,k _ _ (.inl rfl) e,c⟩
 | dT kvs=>
  obtain⟨z,y,xs,r,ob,es,ep,e,c⟩:=x
  exact⟨z,y,xs,Paired.mapP r λp q z=>⟨z.1,ht _ _ z.2.1,z.2.2⟩,ob,es,ep,k _ _ (.inl rfl) e,c⟩
 | set S n=>obtain⟨ob,es,ep,t,e,c⟩:=x;exact⟨ob,es,ep,t,k _ _ (.inl rfl) e,c⟩
 | ins C dx fs=>
  obtain⟨d,z,ne,e,mA,⟨od,es,ep,e2,c⟩,r⟩:=x
  exact⟨ho _ d,z,ne,k _ _ (.inl rfl) e,mA,⟨od,es,ep,k _ _ (.inr d) e2,c⟩,r⟩
 | own y=>obtain⟨ob,e⟩:=x;exact⟨ob,k _ _ (.inl rfl) e⟩
 | xd fs=>obtain⟨mA,⟨od,es,ep,e,c⟩,r⟩:=x;exact⟨mA,⟨od,es,ep,k _ _ (.inl rfl) e,c⟩,r⟩
 | rng lo hi=>obtain⟨t,u,v,e⟩:=x;exact⟨t,u,v,k _ _ (.inl rfl) e⟩
 | frz ob u ih=>obtain⟨e,q⟩:=x;exact⟨k _ _ (.inl rfl) e,ih q⟩
 | tbl ps=>
  have e:h.get? a=some { cls:=.none,data:=.fields ps }:=x
  show h'.get? a=some { cls:=.none,data:=.fields ps }
  exact k a _ (.inl rfl) e
 | met f y=>
  have e:h.get? a=some (PySem.W.methodObj (.ref f) (.ref y)):=x
  show h'.get? a=some (PySem.W.methodObj (.ref f) (.ref y))
  exact k a _ (.inl rfl) e
 | ext φ=>obtain⟨p,⟨o,e⟩,st⟩:=x;exact⟨st _ _ p λo q=>k _ _ (.inl rfl) q,⟨o,k _ _ (.inl rfl) e⟩,st⟩
theorem HOk.lt(x:HOk P w H h)(e:H a=some o):a<h.objs.size:=(x a o e).lt
theorem HOk.fresh(x:HOk P w H h)(e:h.objs.size≤a):H a=none:=by
 cases q:H a with
 | none=>rfl
 | some u=>exact absurd (Qi (x.lt q) e) (BP _)
theorem HOk.kept(x:HOk P w H h)(k:∀b u,h.get? b=some u->h'.get? b=some u):HOk P w H h':=λa o e=>
 (x a o e).stay (λb u _ q=>k b u q) (λ_ q=>q) λ_ _ q=>q
theorem HOk.laid(x:HOk P w H h)(k:∀b u,h.get? b=some u->h'.get? b=some u)(hp:h.objs.size≤a)(new:ObjOk P w (upd H a o) h' a o):HOk P w (upd H a o) h':=λb u e=>by
 have hn:=x.fresh hp
 by_cases hb:b=a
 ·subst hb;rw[Zr]at e;cases e;exact new
 ·rw[Zn hb]at e
  exact(x b u e).stay (λc v _ q=>k c v q) (λc q=>by rw[Zn (Yl q hn)];exact q) λc xs q=>by rw[Zn (Yl q hn)];exact q
end
noncomputable def Rd(H:Hp)(a:Addr)(u:HO):Prop:=H a=some u∨∃o,H a=some (.frz o u)
theorem Rd.ok{P:XS}{w:Qq}{H:Hp}{h:Heap}{a:Addr}{u:HO}(r:Rd H a u)(x:HOk P w H h):ObjOk P w H h a u:=by
 rcases r with r|⟨o,r⟩
 ·exact x a u r
 ·obtain⟨_,q⟩:=x a _ r
  exact q
noncomputable def Mut:Option HO->Prop
 | some (.lst _)=>True
 | some (.dK _)=>True
 | some (.dT _)=>True
 | some (.set _ _)=>True
 | some (.ins _ _ _)=>True
 | some (.ext _)=>True
 | _=>False
section
variable {P:XS}{w:Qq}{H:Hp}{h h':Heap}{x e:Addr}{o':HO}
theorem HOk.write(ok:HOk P w H h)(mu:Mut (H x))(he:e=x∨H e=some (.own x))(k:∀b u,b≠e->h.get? b=some u->h'.get? b=some u)(heo:∃u,h'.get? e=some u)
  (new:ObjOk P w (upd H x o') h' x o'):HOk P w (upd H x o') h':=λb u q=>by
 have nown:∀c y,H c=some (.own y)->c≠x:=λc y r z=>by subst z;rw[r]at mu;exact mu
 have ntup:∀c xs,H c=some (.tup xs)->c≠x:=λc xs r z=>by subst z;rw[r]at mu;exact mu
 by_cases hb:b=x
 ·subst hb;rw[Zr]at q;cases q;exact new
 ·rw[Zn hb]at q
  by_cases hbe:b=e
  ·have q':H b=some (.own x):=by
    rcases he with z|z
    ·exact absurd (hbe.trans z) hb
    ·rw[hbe];exact z
   rw[q]at q';cases q'
   obtain⟨v,hv⟩:=heo
   exact⟨v,by rw[hbe];exact hv⟩
  ·refine(ok b u q).stay (λc v hc r=>k c v ?_ r) (λc r=>by rw[Zn (nown c b r)];exact r) λc xs r=>by rw[Zn (ntup c xs r)];exact r
   rcases hc with rfl|hc
   ·exact hbe
   ·rintro rfl
    rcases he with z|z
    ·exact nown c b hc z
    ·rw[hc]at z;cases z;exact hb rfl
end
structure Un(fs ex:List Addr)(H H':Hp)(h h':Heap):Prop where
 keep:∀b o,h.get? b=some o->H b=none->b∉fs->b∉ex->h'.get? b=some o
 slot:∀b o,h.get? b=some o->H b=none->b∈fs->b∉ex->∃sl,h'.get? b=some { o with slots:=sl }
 free:∀b o,h.get? b=some o->H b=none->b∉ex->H' b=none
 there:∀b o,h.get? b=some o->b∉ex->∃o',h'.get? b=some o'
 tups:∀b xs,H b=some (.tup xs)->H' b=some (.tup xs)
 frzs:∀b o u,H b=some (.frz o u)->H' b=some (.frz o u)
 tbls:∀b ps,H b=some (.tbl ps)->∃more,H' b=some (.tbl (ps ++ more))
section
variable {fs fs' ex ex':List Addr}{H H1 H2:Hp}{h h1 h2 h':Heap}{a x e:Addr}{o:HO}
theorem Un.any(u:Un fs ex H H1 h h1){b:Addr}{ob:Obj}(q:h.get? b=some ob)(n:H b=none)(hx:b∉ex):∃sl,h1.get? b=some { ob with slots:=sl }:=by
 by_cases hb:b∈fs
 ·exact u.slot b ob q n hb hx
 ·exact⟨ob.slots,u.keep b ob q n hb hx⟩
theorem Un.kept(k:∀b u,h.get? b=some u->h'.get? b=some u):Un fs ex H H h h' :=
 ⟨λb ob q _ _ _=>k b ob q,λb ob q _ _ _=>⟨ob.slots,k b ob q⟩,λ_ _ _ n _=>n,λb ob q _=>⟨ob,k b ob q⟩,λ_ _ q=>q,λ_ _ _ q=>q,λ_ ps q=>⟨#[],by rw[q];simp⟩⟩
theorem Un.refl:Un fs ex H H h h:=Un.kept λ_ _ q=>q
theorem Un.laid(k:∀b u,h.get? b=some u->h'.get? b=some u)(hp:h.objs.size≤a)(hn:H a=none):Un fs ex H (upd H a o) h h' where
 keep:=λb u q _ _ _=>k b u q
 slot:=λb u q _ _ _=>⟨u.slots,k b u q⟩
 free:=λb u q n _=>by rw[Zn (Xo (Qi (XH q) hp))];exact n
 there:=λb u q _=>⟨u,k b u q⟩
 tups:=λb xs q=>by rw[Zn (Yl q hn)];exact q
 frzs:=λb u xs q=>by rw[Zn (Yl q hn)];exact q
 tbls:=λb ps q=>⟨#[],by rw[Zn (Yl q hn),q];simp⟩
theorem Un.write(mu:Mut (H x))(he:e=x∨H e=some (.own x))(k:∀b u,b≠e->h.get? b=some u->h'.get? b=some u)(heo:∃u,h'.get? e=some u):Un fs ex H (upd H x o) h h':=by
 have hx:∀b,H b=none->b≠x:=λb n z=>by subst z;rw[n]at mu;exact mu
 have hb:∀b,H b=none->b≠e:=λb n z=>by
  subst z
  rcases he with r|r
  ·exact hx b n r
  ·rw[n]at r;cases r
 have hm:∀b u,H b=some u->¬Mut (some u)->b≠x:=λb u q nm z=>by subst z;rw[q]at mu;exact nm mu
 refine⟨λb u q n _ _=>k b u (hb b n) q,λb u q n _ _=>⟨u.slots,k b u (hb b n) q⟩,λb u q n _=>by rw[Zn (hx b n)];exact n,λb u q _=>?_,
  λb xs q=>by rw[Zn (hm b _ q λz=>z)];exact q,λb u xs q=>by rw[Zn (hm b _ q λz=>z)];exact q,λb ps q=>⟨#[],by rw[Zn (hm b _ q λz=>z),q];simp⟩⟩
 by_cases hbe:b=e
 ·subst hbe;exact heo
 ·exact⟨u,k b u hbe q⟩
end
noncomputable def trk(h:Heap)(H:Hp):List Addr:=(Xi h.objs.size).filter λa=>(H a).isSome
noncomputable def Zvc(h:Heap)(H:Hp):Heap:=PySem.W.hideAll h (trk h H)
theorem Ztb(h:Heap)(H:Hp):(Zvc h H).objs.size=h.objs.size:=PySem.W.hideAll_size _ _
theorem Zvy{h:Heap}{H:Hp}{b:Addr}{o:Obj}(e:h.get? b=some o)(n:H b=none):(Zvc h H).get? b=some o :=
 PySem.W.hideAll_get _ e λhm=>by
  have q:(H b).isSome=true:=(Q9.mp hm).2
  rw[n]at q;simp at q
theorem Z0x{h:Heap}{H:Hp}{b:Addr}{o:Obj}(e:(Zvc h H).get? b=some o):h.get? b=some o∧H b=none:=by
 have e':h.get? b=some o:=PySem.W.of_hideAll (trk h H) e
 refine⟨e',?_⟩
 cases q:H b with
 | none=>rfl
 | some x=>
  have hm:b∈trk h H:=Q9.mpr ⟨XQ.mpr (XH e'),by simp[q]⟩
  have z:(Zvc h H).get? b=none:=PySem.W.hideAll_none (trk h H) hm
  rw[z]at e;cases e
noncomputable def Z0k(g h:Heap)(L:Addr):List (Addr×Obj):=(Xi h.objs.size).filterMap λa=>if a=L∨(g.get? a).isSome=true then none else(h.get? a).map λo=>(a,o)
noncomputable def rest(g h:Heap)(L d:Addr):List (Addr×Obj):=(Z0k g h L).filter λp=>decide (p.1≠d)
structure Mod(K:Xc)(mg:Str->Option Xe)(base:Heap):Prop where
 kin:K.In base
 glob:base.Ns Qj mg
 blt:∃mb,base.Ns builtinsNs mb∧∀x:Str,x≠"__name__" ->mb x=Qe x
 nolimit:base.NoLimit
set_option genInjectivity false in
structure Cx where
 prog:XS
 w:Qq
 K:Xc
 mg:Str->Option Xe
 base:Heap
 A:Qs
 N:List Str
 s₀:Xg
 H₀:Hp
 env:Env
 outer:List Env
 stack:List Env
 ex:List Addr
 fn:Str->Bool
 calm:Bool
 pn:List (Addr×Obj)
 xe:Xe->Xg->Prop
noncomputable def frs(l:List Env):List Addr:=l.filterMap (·.frame)
noncomputable abbrev Cx.fs(X:Cx):List Addr:=frs X.outer
noncomputable def Vis(sc:U5)(x:Str):Prop:=sc.names.lookup x=some .local∨sc.names.lookup x=some .cell∨sc.names.lookup x=some .free
noncomputable def Loc(sc:U5)(x:Str):Prop:=sc.names.lookup x=some .local∨sc.names.lookup x=some .cell
noncomputable def Look(env:Env)(h:Heap)(m:Str->Option Xe)(x:Str)(u:Xe):Prop :=
 (env.kindOf x=some .local∧m x=some u)∨((env.kindOf x=some .cell∨env.kindOf x=some .free)∧∃c,env.cells.lookup x=some c∧h.IsCell c (some u))
structure Cx.Ok(X:Cx):Prop where
 mod:Mod X.K X.mg X.base
 kind:X.env.scope.kind= .function
 glob:X.env.globals=Qj
 blt:X.env.builtins=builtinsNs
 above:X.s₀.heap.objs.size≤X.env.locals
 inj:∀x y c,X.env.cells.lookup x=some c->X.env.cells.lookup y=some c->x=y
 has:∀x,(X.env.kindOf x=some .cell∨X.env.kindOf x=some .free)->∃c,X.env.cells.lookup x=some c
 cab:∀x c,X.fn x=true->X.env.cells.lookup x=some c->X.s₀.heap.objs.size≤c
 hd:X.calm=true->X.A.handled=none
 frames:X.A.frames=some X.stack
 stk:X.stack=X.outer∨(X.stack=X.env :: X.outer∧X.env.frame=some X.env.locals)
 exf:∀b∈X.ex,b≠X.env.locals∧∀x c,X.env.cells.lookup x=some c->c≠b
 bs:∀b o,X.base.get? b=some o->X.s₀.heap.get? b=some o∧X.H₀ b=none
 bsz:X.base.objs.size≤X.s₀.heap.objs.size
 noex:∀b o,X.base.get? b=some o->b∉X.ex
 exfs:∀b∈X.ex,b∉X.fs
 funs:X.s₀.heap.FunFrames X.base X.outer
 frf:∀b∈X.fs,X.H₀ b=none
structure Inv(X:Cx)(pins:List (Addr×Obj))(σ:List (Option V))(H:Hp)(s:Xg):Prop where
 ok:X.Ok
 os:s.os=X.s₀.os
 bare:AllBare s.gens
 base:Un X.fs X.ex X.H₀ H X.s₀.heap s.heap
 loc:∃m,s.heap.Ns X.env.locals m∧∀(i:Nat) (x:Str) (v:V),X.N[i]? =some x->σ[i]? =some (some v)->Vis X.env.scope x->∃u,RelV v u∧Look X.env s.heap m x u
 cell:∀x c,X.env.cells.lookup x=some c->∃v,s.heap.IsCell c v
 free:H X.env.locals=none
 freeC:∀x c,X.env.cells.lookup x=some c->H c=none
 pin:∀p∈X.pn ++ pins,s.heap.get? p.1=some p.2∧H p.1=none∧p.1≠X.env.locals∧p.1∉X.fs∧∀v,p.2.data≠ .cell v
 hok:HOk X.prog X.w H s.heap
 len:σ.length=X.N.length
section
variable {X:Cx}{pins:List (Addr×Obj)}{σ:List (Option V)}{H H':Hp}{s:Xg}{h':Heap}
theorem Cx.Ok.nofr(ok:X.Ok){b:Addr}{o:Obj}(e:X.base.get? b=some o):b∉X.fs:=λhb=>by
 have:=(ok.funs.mem hb).1
 rw[e]at this;cases this
theorem Inv.bs(I:Inv X pins σ H s):∀b o,X.base.get? b=some o->s.heap.get? b=some o∧H b=none:=λb o e=>
 ⟨I.base.keep b o (I.ok.bs b o e).1 (I.ok.bs b o e).2 (I.ok.nofr e) (I.ok.noex b o e),I.base.free b o (I.ok.bs b o e).1 (I.ok.bs b o e).2 (I.ok.noex b o e)⟩
theorem Inv.bk(I:Inv X pins σ H s):∀b o,X.base.get? b=some o->s.heap.get? b=some o:=λb o e=>(I.bs b o e).1
theorem Inv.mod(I:Inv X pins σ H s):Mod X.K X.mg X.base:=I.ok.mod
theorem Inv.kIn(I:Inv X pins σ H s):X.K.In s.heap:=I.ok.mod.kin.keeps I.bk
theorem Inv.lt(I:Inv X pins σ H s):X.env.locals<s.heap.objs.size:=let⟨_,hn,_⟩:=I.loc;hn.lt
theorem Inv.sz(I:Inv X pins σ H s):X.s₀.heap.objs.size≤s.heap.objs.size:=Ql I.ok.above (Vh I.lt)
theorem Inv.nofs(I:Inv X pins σ H s){a:Addr}(h:s.heap.objs.size≤a):a∉X.fs:=λhb=>by
 obtain⟨_,o,ho,_⟩:=I.ok.funs.mem hb
 exact absurd (Qi (XH ho) (Ql I.sz h)) (BP _)
theorem Inv.cne(I:Inv X pins σ H s):∀x c,X.env.cells.lookup x=some c->c≠X.env.locals:=λx c e z=>by
 obtain⟨v,o,ho,hd⟩:=I.cell x c e
 obtain⟨m,⟨o',es,ep,ho',hd',_⟩,_⟩:=I.loc
 rw[z,ho']at ho;cases ho;rw[hd']at hd;cases hd
theorem Inv.funs(I:Inv X pins σ H s):s.heap.FunFrames X.base X.outer:=by
 have all:∀(l:List Env),(∀b∈frs l,b∈X.fs)->X.s₀.heap.FunFrames X.base l->s.heap.FunFrames X.base l:=by
  intro l
  induction l with
  | nil=>intro _ _;trivial
  | cons env r ih=>
   intro hs hl
   obtain⟨hk,⟨L,o,hf,hn,ho,hd⟩,hr⟩:=hl
   have hL:L∈X.fs:=hs L (by unfold frs;rw[QQ,hf];exact U7)
   obtain⟨sl,e⟩:=I.base.slot L o ho (I.ok.frf L hL) hL λz=>I.ok.exfs L z hL
   exact⟨hk,⟨L,_,hf,hn,e,hd⟩,ih (λb hb=>hs b (by unfold frs;rw[QQ,hf];exact UJ _ hb)) hr⟩
 exact all X.outer (λ_ hb=>hb) I.ok.funs
theorem Inv.stack(I:Inv X pins σ H s):s.heap.FunFrames X.base X.stack:=by
 rcases I.ok.stk with e|⟨e,hf⟩
 ·rw[e];exact I.funs
 ·rw[e]
  obtain⟨m,hn,_⟩:=I.loc
  refine .cons (by rw[I.ok.kind];decide) hf hn ?_ I.funs
  exact Heap.get?_none_of_le (Ql I.ok.bsz I.ok.above)
theorem Inv.stkSub(I:Inv X pins σ H s):∀b∈frs X.stack,b∈X.env.locals :: X.fs:=λb hb=>by
 rcases I.ok.stk with e|⟨e,hf⟩
 ·rw[e]at hb;exact UJ _ hb
 ·rw[e]at hb
  unfold frs at hb
  rw[QQ,hf]at hb
  exact hb
theorem Inv.stkFree(I:Inv X pins σ H s):∀b∈frs X.stack,H b=none:=λb hb=>by
 rcases Xp.mp (I.stkSub b hb)with e|hb
 ·rw[e];exact I.free
 ·obtain⟨_,o,ho,_⟩:=I.ok.funs.mem hb
  exact I.base.free b o ho (I.ok.frf b hb) λz=>I.ok.exfs b z hb
theorem Inv.step{g':Array GenState}{t':Nat}{d':Drawn}{ch:List Addr}(I:Inv X pins σ H s)
  (hch:∀b∈ch,(b∈X.ex∨X.s₀.heap.objs.size≤b)∧b≠X.env.locals∧(∀x c,X.env.cells.lookup x=some c->c≠b)∧∀p∈X.pn ++ pins,p.1≠b)
  (keep:∀b o,b≠X.env.locals->b∉X.fs->b∉ch->s.heap.get? b=some o->H b=none->h'.get? b=some o)
  (slot:∀b o,b≠X.env.locals->b∈X.fs->b∉ch->s.heap.get? b=some o->H b=none->∃sl,h'.get? b=some { o with slots:=sl }) (free:∀b o,b∉ch->s.heap.get? b=some o->H b=none->H' b=none)
  (there:∀b o,b∉ch->s.heap.get? b=some o->∃o',h'.get? b=some o')
  (tups:∀b xs,H b=some (.tup xs)->H' b=some (.tup xs)) (frzs:∀b o u,H b=some (.frz o u)->H' b=some (.frz o u)) (tbls:∀b ps,H b=some (.tbl ps)->∃more,H' b=some (.tbl (ps ++ more)))
  (ns:∀m,s.heap.Ns X.env.locals m->h'.Ns X.env.locals m) (hok:HOk X.prog X.w H' h') (hg:AllBare g') :
  Inv X pins σ H' { s with heap:=h',gens:=g',drawn:=d',toks:=t' }:=by
 have neL:∀b o,X.s₀.heap.get? b=some o->b≠X.env.locals:=λb o e=>Xo (Qi (XH e) I.ok.above)
 have neC:∀b o,X.s₀.heap.get? b=some o->b∉X.ex->b∉ch:=λb o e hx hb=>by
  rcases(hch b hb).1 with z|z
  ·exact hx z
  ·exact absurd (Qi (XH e) z) (BP _)
 have cellK:∀x c,X.env.cells.lookup x=some c->∀v,s.heap.IsCell c v->h'.IsCell c v:=λx c e v ⟨o,ho,hd⟩=>by
  have nch:c∉ch:=λz=>(hch c z).2.2.1 x c e rfl
  by_cases hc:c∈X.fs
  ·obtain⟨sl,q⟩:=slot c o (I.cne x c e) hc nch ho (I.freeC x c e)
   exact⟨_,q,hd⟩
  ·exact⟨o,keep c o (I.cne x c e) hc nch ho (I.freeC x c e),hd⟩
 refine⟨I.ok,I.os,hg,⟨λb o e n hb hx=>?_,λb o e n hb hx=>?_,λb o e n hx=>?_,λb o e hx=>?_,λb xs e=>tups b xs (I.base.tups b xs e),λb o xs e=>frzs b o xs (I.base.frzs b o xs e),λb ps e=>?_⟩,?_,λx c e=>?_,?_,λx c e=>?_,λp hp=>?_,hok,I.len⟩
 ·exact keep b o (neL b o e) hb (neC b o e hx) (I.base.keep b o e n hb hx) (I.base.free b o e n hx)
 ·obtain⟨sl,e1⟩:=I.base.slot b o e n hb hx
  obtain⟨sl',e2⟩:=slot b _ (neL b o e) hb (neC b o e hx) e1 (I.base.free b o e n hx)
  exact⟨sl',e2⟩
 ·obtain⟨o',e1⟩:=I.base.there b o e hx
  exact free b o' (neC b o e hx) e1 (I.base.free b o e n hx)
 ·obtain⟨o',e1⟩:=I.base.there b o e hx
  exact there b o' (neC b o e hx) e1
 ·obtain⟨m1,e1⟩:=I.base.tbls b ps e
  obtain⟨m2,e2⟩:=tbls b _ e1
  exact⟨m1 ++ m2,by rw[e2,Array.append_assoc]⟩
 ·obtain⟨m,hn,hl⟩:=I.loc
  refine⟨m,ns m hn,λi x v e1 e2 e3=>?_⟩
  obtain⟨u,r,l⟩:=hl i x v e1 e2 e3
  refine⟨u,r,?_⟩
  rcases l with l|⟨k,c,e,z⟩
  ·exact .inl l
  ·exact .inr ⟨k,c,e,cellK x c e _ z⟩
 ·obtain⟨v,z⟩:=I.cell x c e
  exact⟨v,cellK x c e v z⟩
 ·obtain⟨m,⟨o,_,_,ho,_⟩,_⟩:=I.loc
  exact free _ o (λz=>(hch _ z).2.1 rfl) ho I.free
 ·obtain⟨v,o,ho,hd⟩:=I.cell x c e
  exact free c o (λz=>(hch c z).2.2.1 x c e rfl) ho (I.freeC x c e)
 ·obtain⟨e,n,ne,nf,d⟩:=I.pin p hp
  have nch:p.1∉ch:=λz=>(hch p.1 z).2.2.2 p hp rfl
  exact⟨keep p.1 p.2 ne nf nch e n,free p.1 p.2 nch e n,ne,nf,d⟩
theorem Inv.un{t':Nat}(I:Inv X pins σ H s)(u:Un X.fs [] H H' s.heap h')(hok:HOk X.prog X.w H' h'):Inv X pins σ H' { s with heap:=h',toks:=t' }:=by
 obtain⟨m,⟨o,es,ep,ho,r⟩,_⟩:=id I.loc
 obtain⟨sl,hL⟩:=u.any ho I.free (by simp)
 exact I.step (g':=s.gens) (d':=s.drawn) (ch:=[]) (λ_ z=>nomatch z) (λb o _ hb _ e n=>u.keep b o e n hb (by simp)) (λb o _ hb _ e n=>u.slot b o e n hb (by simp)) (λb o _ e n=>u.free b o e n (by simp)) (λb o _ e=>u.there b o e (by simp)) u.tups u.frzs u.tbls (λm' hm=>by
  obtain⟨o',es',ep',ho',r'⟩:=hm
  rw[ho]at ho';cases ho'
  exact⟨_,es',ep',hL,r'⟩) hok I.bare
theorem Inv.call{g':Array GenState}{t':Nat}{d':Drawn}{ch:List Addr}(I:Inv X pins σ H s)(u:Un (frs X.stack) ch H H' s.heap h')(hok:HOk X.prog X.w H' h')(hg:AllBare g')
  (hch:∀b∈ch,(b∈X.ex∨X.s₀.heap.objs.size≤b)∧b≠X.env.locals∧(∀x c,X.env.cells.lookup x=some c->c≠b)∧∀p∈X.pn ++ pins,p.1≠b) :
  Inv X pins σ H' { s with heap:=h',gens:=g',drawn:=d',toks:=t' }:=by
 obtain⟨m,⟨o,es,ep,ho,r⟩,_⟩:=id I.loc
 obtain⟨sl,hL⟩:=u.any ho I.free λz=>(hch _ z).2.1 rfl
 exact I.step (ch:=ch) hch (λb o hL hb hc e n=>u.keep b o e n (λz=>(Xp.mp (I.stkSub b z)).elim hL hb) hc) (λb o _ _ hc e n=>u.any e n hc) (λb o hc e n=>u.free b o e n hc) (λb o hc e=>u.there b o e hc) u.tups u.frzs u.tbls (λm' hm=>by
  obtain⟨o',es',ep',ho',r'⟩:=hm
  rw[ho]at ho';cases ho'
  exact⟨_,es',ep',hL,r'⟩) hok hg
theorem Inv.turned{t':Nat}{it:Addr}(I:Inv X pins σ H s)(k:∀b o,b≠it->s.heap.get? b=some o->h'.get? b=some o)(hn:H it=none)(hL:it≠X.env.locals)
  (h1:it∈X.ex∨X.s₀.heap.objs.size≤it) (h2:∀x c,X.env.cells.lookup x=some c->c≠it) (h3:∀p∈X.pn ++ pins,p.1≠it):Inv X pins σ H { s with heap:=h',toks:=t' }:=by
 have nit:∀b u,H b=some u->b≠it:=λb u e z=>by rw[z,hn]at e;cases e
 refine I.step (g':=s.gens) (d':=s.drawn) (ch:=[it]) (λb hb=>?_) (λb o _ _ hc e _=>k b o (λz=>hc (by simp[z])) e) (λb o _ _ hc e _=>⟨o.slots,k b o (λz=>hc (by simp[z])) e⟩) (λ_ _ _ _ n=>n)
  (λb o hc e=>⟨o,k b o (λz=>hc (by simp[z])) e⟩) (λ_ _ e=>e) (λ_ _ _ e=>e) (λb ps e=>⟨#[],by rw[e];simp⟩) (λm hm=>?_) (λb u e=>?_) I.bare
 ·have e:b=it:=by simpa using hb
  subst e
  exact⟨h1,hL,h2,h3⟩
 ·obtain⟨o,es,ep,ho,r⟩:=hm
  exact⟨o,es,ep,k _ o (Bl hL) ho,r⟩
 ·refine(I.hok b u e).stay (λc v hc q=>k c v ?_ q) (λ_ q=>q) λ_ _ q=>q
  rcases hc with z|z
  ·rw[z];exact nit b u e
  ·exact nit c _ z
theorem Inv.tok(I:Inv X pins σ H s)(t:Nat):Inv X pins σ H { s with toks:=t }:=I.un (h':=s.heap) (t':=t) Un.refl I.hok
theorem Inv.kept{t':Nat}(I:Inv X pins σ H s)(k:∀b u,s.heap.get? b=some u->h'.get? b=some u):Inv X pins σ H { s with heap:=h',toks:=t' }:=I.un (Un.kept k) (I.hok.kept k)
theorem Inv.laid{a:Addr}{o:HO}{t':Nat}(I:Inv X pins σ H s)(k:∀b u,s.heap.get? b=some u->h'.get? b=some u)(hp:s.heap.objs.size≤a)(new:ObjOk X.prog X.w (upd H a o) h' a o) :
  Inv X pins σ (upd H a o) { s with heap:=h',toks:=t' }:=I.un (Un.laid k hp (I.hok.fresh hp)) (I.hok.laid k hp new)
theorem Inv.write{x e:Addr}{o:HO}{t':Nat}(I:Inv X pins σ H s)(mu:Mut (H x))(he:e=x∨H e=some (.own x))(k:∀b u,b≠e->s.heap.get? b=some u->h'.get? b=some u)(heo:∃u,h'.get? e=some u)
  (new:ObjOk X.prog X.w (upd H x o) h' x o):Inv X pins σ (upd H x o) { s with heap:=h',toks:=t' }:=I.un (Un.write mu he k heo) (I.hok.write mu he k heo new)
theorem Inv.pins_of{pins':List (Addr×Obj)}(I:Inv X pins σ H s)(h:∀p∈pins',s.heap.get? p.1=some p.2∧H p.1=none∧p.1≠X.env.locals∧p.1∉X.fs∧∀v,p.2.data≠ .cell v):Inv X pins' σ H s :=
 ⟨I.ok,I.os,I.bare,I.base,I.loc,I.cell,I.free,I.freeC,λp hp=>(X8.mp hp).elim (λz=>I.pin p (Qp _ z)) (h p),I.hok,I.len⟩
theorem Zmm{N:List Str}(hN:N.Nodup){i j:Nat}{x:Str}(a:N[i]? =some x)(b:N[j]? =some x):i=j:=by
 obtain⟨h1,e1⟩:=Xn.mp a
 obtain⟨h2,e2⟩:=Xn.mp b
 exact(List.getElem_inj hN).mp (e1.trans e2.symm)
theorem Zk7{M:Model}{A:Qs}{E:Xe->Xg->Prop}{i:Nat}{x:Str}{v:V}{u:Xe}{Q:Unit->Xg->Prop}(I:Inv X pins σ H s)(hN:X.N.Nodup)(hi:X.N[i]? =some x)(hx:Loc X.env.scope x)(r:RelV v u)
  (h:∀s',Inv X pins (σ.set i (some v)) H s'->(∃a,JM a s.heap s'.heap∧(a=X.env.locals∨X.env.cells.lookup x=some a))->Q () s') (hf:X.fn x=true∨X.env.scope.names.lookup x=some .local:=by first|exact .inl rfl|exact .inr rfl|assumption):XD M A (storeName X.env x u) Q E s:=by
 obtain⟨m,hn,hl⟩:=id I.loc
 have hcls:(X.env.scope.kind== .class||(X.env.scope.kind== .module&&X.env.locals !=X.env.globals))=false:=by rw[I.ok.kind];rfl
 have hiσ:i<σ.length:=by rw[I.len];exact(Xn.mp hi).1
 have cne:=I.cne
 have tracked:∀{a:Addr} {h':Heap},(∃o,s.heap.get? a=some o∧H a=none)->JM a s.heap h'->HOk X.prog X.w H h':=fun{a h'} ha hs b ob e=>by
  obtain⟨_,_,hfree⟩:=ha
  refine(I.hok b ob e).stay (λc w' hc q=>(hs.2 c ?_).trans q) (λ_ q=>q) λ_ _ q=>q
  rintro rfl
  rcases hc with rfl|hc
  ·rw[hfree]at e;cases e
  ·rw[hfree]at hc;cases hc
 rcases hx with hk|hk
 ·refine wpAny_storeName_local hk hn (λh' hn' hs=>?_) hcls
  obtain⟨oL,_,_,hoL,_⟩:=id hn
  refine h _ ⟨I.ok,I.os,I.bare,⟨λb o e n hb hx=>?_,λb o e n hb hx=>?_,I.base.free,λb o e hx=>?_,I.base.tups,I.base.frzs,I.base.tbls⟩,⟨_,hn',λj y v' e1 e2 e3=>?_⟩,λy c e=>?_,I.free,I.freeC,λp hp=>?_,tracked ⟨oL,hoL,I.free⟩ hs,by simpa using I.len⟩ ⟨_,hs,.inl rfl⟩
  ·exact(hs.2 b (Xo (Qi (XH e) I.ok.above))).trans (I.base.keep b o e n hb hx)
  ·obtain⟨sl,e1⟩:=I.base.slot b o e n hb hx
   exact⟨sl,(hs.2 b (Xo (Qi (XH e) I.ok.above))).trans e1⟩
  ·obtain⟨o',e1⟩:=I.base.there b o e hx
   exact⟨o',(hs.2 b (Xo (Qi (XH e) I.ok.above))).trans e1⟩
  ·by_cases hj:j=i
   ·subst hj
    rw[hi]at e1;cases e1
    rw[QG hiσ]at e2
    cases e2
    exact⟨u,r,.inl ⟨hk,by simp⟩⟩
   ·rw[Qv (Bl hj)]at e2
    obtain⟨u',r',q⟩:=hl j y v' e1 e2 e3
    refine⟨u',r',?_⟩
    rcases q with⟨k,e⟩|⟨k,c,e,z⟩
    ·refine .inl ⟨k,?_⟩
     have:y≠x:=λe=>hj (Zmm hN e1 (e▸hi))
     simp[this,e]
    ·exact .inr ⟨k,c,e,z.sameBut hs (cne y c e)⟩
  ·obtain⟨w',z⟩:=I.cell y c e
   exact⟨w',z.sameBut hs (cne y c e)⟩
  ·obtain⟨e,n,ne,nf,d⟩:=I.pin p hp
   exact⟨(hs.2 p.1 ne).trans e,n,ne,nf,d⟩
 ·have hfn:X.fn x=true:=by
   rcases hf with z|z
   ·exact z
   ·rw[z]at hk;cases hk
  obtain⟨c,hc⟩:=I.ok.has x (.inl hk)
  obtain⟨w',z⟩:=I.cell x c hc
  refine wpAny_storeName_cell I.ok.kind hk hc z (λh' hc' hs=>?_)
  obtain⟨oc,hoc,hocd⟩:=id z
  refine h { s with heap:=h' } ⟨I.ok,I.os,I.bare,⟨λb o e n hb hx=>?_,λb o e n hb hx=>?_,I.base.free,λb o e hx=>?_,I.base.tups,I.base.frzs,I.base.tbls⟩,⟨m,hn.sameBut hs (Bl (cne x c hc)),λj y v' e1 e2 e3=>?_⟩,λy c' e=>?_,I.free,I.freeC,λp hp=>?_,tracked ⟨oc,hoc,I.freeC x c hc⟩ hs,by simpa using I.len⟩ ⟨c,hs,.inr hc⟩
  ·exact(hs.2 b (Xo (Qi (XH e) (I.ok.cab x c hfn hc)))).trans (I.base.keep b o e n hb hx)
  ·obtain⟨sl,e1⟩:=I.base.slot b o e n hb hx
   exact⟨sl,(hs.2 b (Xo (Qi (XH e) (I.ok.cab x c hfn hc)))).trans e1⟩
  ·obtain⟨o',e1⟩:=I.base.there b o e hx
   exact⟨o',(hs.2 b (Xo (Qi (XH e) (I.ok.cab x c hfn hc)))).trans e1⟩
  ·by_cases hj:j=i
   ·subst hj
    rw[hi]at e1;cases e1
    rw[QG hiσ]at e2
    cases e2
    exact⟨u,r,.inr ⟨.inl hk,c,hc,hc'⟩⟩
   ·rw[Qv (Bl hj)]at e2
    obtain⟨u',r',q⟩:=hl j y v' e1 e2 e3
    refine⟨u',r',?_⟩
    rcases q with q|⟨k,c',e,z'⟩
    ·exact .inl q
    ·refine .inr ⟨k,c',e,z'.sameBut hs ?_⟩
     rintro rfl
     exact hj (Zmm hN e1 (I.ok.inj _ _ _ e hc▸hi))
  ·by_cases hcc:c'=c
   ·subst hcc;exact⟨_,hc'⟩
   ·obtain⟨w2,z2⟩:=I.cell y c' e
    exact⟨w2,z2.sameBut hs hcc⟩
  ·obtain⟨e,n,ne,nf,d⟩:=I.pin p hp
   refine⟨(hs.2 p.1 ?_).trans e,n,ne,nf,d⟩
   intro q
   rw[q,hoc]at e
   have q':oc=p.2:=Qu e
   exact d w' (by rw[←q'];exact hocd)
theorem Zng{M:Model}{A:Qs}{E:Xe->Xg->Prop}{i:Nat}{x:Str}{v:V}{u:Xe}{Q:Unit->Xg->Prop}(I:Inv X pins σ H s)(hN:X.N.Nodup)(hi:X.N[i]? =some x)(hx:Loc X.env.scope x)(r:RelV v u)
  (h:∀s',Inv X pins (σ.set i (some v)) H s'->Q () s') (hf:X.fn x=true∨X.env.scope.names.lookup x=some .local:=by first|exact .inl rfl|exact .inr rfl|assumption):XD M A (storeName X.env x u) Q E s :=
 Zk7 I hN hi hx r (λs' I' _=>h s' I') hf
theorem Inv.call'{s':Xg}{ch:List Addr}(I:Inv X pins σ H s)(ho:s'.os=s.os)(u:Un (frs X.stack) ch H H' s.heap s'.heap)(hok:HOk X.prog X.w H' s'.heap)(hg:AllBare s'.gens)
  (hch:∀b∈ch,(b∈X.ex∨X.s₀.heap.objs.size≤b)∧b≠X.env.locals∧(∀x c,X.env.cells.lookup x=some c->c≠b)∧∀p∈X.pn ++ pins,p.1≠b):Inv X pins σ H' s':=by
 obtain⟨h',g',d',t',o'⟩:=s'
 have e:o'=s.os:=ho
 subst e
 exact I.call (g':=g') (t':=t') (d':=d') u hok hg hch
end
noncomputable abbrev XK:=Xe->Option Addr->Hp->Prop
noncomputable abbrev St:=List (Option V)
noncomputable abbrev VK:=V->Hp->Prop
noncomputable abbrev TE:=St->Hp->VK->Prop
noncomputable abbrev TT:=St->Hp->(Bool->Hp->Prop)->Prop
noncomputable abbrev TA:=St->Hp->(List V->Hp->Prop)->Prop
set_option genInjectivity false in
structure Ends where
 nx:St->Hp->Prop
 rt:VK
 bk:St->Hp->Prop:=λ_ _=>False
 ct:St->Hp->Prop:=λ_ _=>False
noncomputable abbrev TS:=Ends->St->Hp->Prop
noncomputable def EP(X:Cx)(pins:List (Addr×Obj))(σ:St)(Q:VK)(u:Xe)(s':Xg):Prop:=∃v H',Inv X pins σ H' s'∧RelV v u∧Q v H'
noncomputable def TP(X:Cx)(pins:List (Addr×Obj))(σ:St)(Q:Bool->Hp->Prop)(b:Bool)(s':Xg):Prop:=∃H',Inv X pins σ H' s'∧Q b H'
noncomputable def AP(X:Cx)(pins:List (Addr×Obj))(σ:St)(Q:List V->Hp->Prop)(us:List Xe)(s':Xg):Prop:=∃vs H',Inv X pins σ H' s'∧Vals vs us∧Q vs H'
noncomputable def SP(X:Cx)(pins:List (Addr×Obj))(D:Ends)(f:Flow)(s':Xg):Prop :=
 match f with
 | .next=>∃σ' H',Inv X pins σ' H' s'∧D.nx σ' H'
 | .brk=>∃σ' H',Inv X pins σ' H' s'∧D.bk σ' H'
 | .cont=>∃σ' H',Inv X pins σ' H' s'∧D.ct σ' H'
 | .ret u=>∃v σ' H',Inv X pins σ' H' s'∧RelV v u∧D.rt v H'
noncomputable def PE(X:Cx)(e:Expr)(t:TE):Prop :=
 ∀(pins:List (Addr×Obj)) (s:Xg) (σ:St) (H:Hp) (Q:VK),Inv X pins σ H s->t σ H Q->XD (XR X.prog X.w) X.A (eval e X.env) (EP X pins σ Q) X.xe s
noncomputable def PT(X:Cx)(e:Expr)(t:TT):Prop :=
 ∀(pins:List (Addr×Obj)) (s:Xg) (σ:St) (H:Hp) (Q:Bool->Hp->Prop),Inv X pins σ H s->t σ H Q->XD (XR X.prog X.w) X.A (isTrue e X.env (eval e X.env)) (TP X pins σ Q) X.xe s
noncomputable def PW(X:Cx)(e:Expr)(t:TT):Prop :=
 ∀(whole:Sem Xe) (pins:List (Addr×Obj)) (s:Xg) (σ:St) (H:Hp) (Q:Bool->Hp->Prop),Inv X pins σ H s->t σ H Q->XD (XR X.prog X.w) X.A (isTrue e X.env whole) (TP X pins σ Q) X.xe s
theorem PW.pt{X:Cx}{e:Expr}{t:TT}(h:PW X e t):PT X e t:=h _
noncomputable def PA(X:Cx)(es:List Expr)(t:TA):Prop :=
 ∀(pos:Pos) (pins:List (Addr×Obj)) (s:Xg) (σ:St) (H:Hp) (Q:List V->Hp->Prop),Inv X pins σ H s->t σ H Q->XD (XR X.prog X.w) X.A (spliced (JD pos (Xu es X.env))) (AP X pins σ Q) X.xe s
noncomputable def PS(X:Cx)(st:Stmt)(t:TS):Prop :=
 ∀(pins:List (Addr×Obj)) (s:Xg) (σ:St) (H:Hp) (D:Ends),Inv X pins σ H s->t D σ H->XD (XR X.prog X.w) X.A (exec st X.env) (SP X pins D) X.xe s
noncomputable def PSs(X:Cx)(st:List Stmt)(t:TS):Prop :=
 ∀(pins:List (Addr×Obj)) (s:Xg) (σ:St) (H:Hp) (D:Ends),Inv X pins σ H s->t D σ H->XD (XR X.prog X.w) X.A (execs st X.env) (SP X pins D) X.xe s
theorem thn{α:Type}{t:Sem α}{Q Q':α->Xg->Prop}{M:Model}{A:Qs}{E:Xe->Xg->Prop}{s:Xg}(h:XD M A t Q E s)(hQ:∀a s,Q a s->Q' a s):XD M A t Q' E s:=Be h hQ λ_ _ x=>x
section
variable {X:Cx}
noncomputable def Ydj(i:Nat):TE:=λσ H Q=>∃v,σ[i]? =some (some v)∧Q v H
noncomputable def tC(v:V):TE:=λ_ H Q=>Q v H
theorem Z48{i:Nat}{x:Str}{pos:Pos}(hN:X.N[i]? =some x)(hv:Vis X.env.scope x)(hd:(x==("__debug__" : Str))=false:=by decide)(hcd:(x==("__classdict__" : Str))=false:=by decide):PE X (.Name x pos) (Ydj i):=by
 intro pins s σ H Q I h
 obtain⟨v,e,h⟩:=h
 obtain⟨m,hn,hl⟩:=I.loc
 obtain⟨u,r,l⟩:=hl i x v hN e hv
 have fin:EP X pins σ Q u s:=⟨v,H,I,r,h⟩
 rcases l with⟨hk,hm⟩|⟨hk,c,hc,hcell⟩
 ·exact wpAny_Name (wpAny_loadName_local I.ok.kind hk hn hm fin) hd
 ·rcases hk with hk|hk
  ·exact wpAny_Name (wpAny_loadName_cell I.ok.kind hk hc hcell fin) hd
  ·exact wpAny_Name (wpAny_loadName_free I.ok.kind hk hc hcell fin hcd) hd
theorem Zxh{i j pos}:PE X (.Constant (.int i) j pos) (tC (.int i)):=λ_ _ _ H _ I h=>wpAny_Constant_int ⟨.int i,H,I.tok _,⟨_,rfl⟩,h⟩
theorem Yb0{b j pos}:PE X (.Constant (.bool b) j pos) (tC (.bl b)):=λ_ _ _ H _ I h=>Constant_bool ⟨.bl b,H,I,rfl,h⟩
theorem Z8n{j pos}:PE X (.Constant .none j pos) (tC .non):=λ_ _ _ H _ I h=>Constant_none ⟨.non,H,I,rfl,h⟩
theorem Z7z{x j pos}:PE X (.Constant (.str x) j pos) (tC (.str x)):=λ_ _ _ H _ I h=>Calls.Constant_str ⟨.str x,H,I.tok _,⟨_,rfl⟩,h⟩
noncomputable def Gl(X:Cx)(x:Str):Prop:=X.env.kindOf x=some .globalImplicit
theorem Zrq{E:Xe->Xg->Prop}{pins:List (Addr×Obj)}{s:Xg}{σ:St}{H:Hp}{x:Str}{u:Xe}{pos:Pos}{Q:Xe->Xg->Prop}(I:Inv X pins σ H s)(hg:Gl X x)(hm:X.mg x=some u)(h:Q u s)
  (hd:(x==("__debug__" : Str))=false:=by decide):XD (XR X.prog X.w) X.A (eval (.Name x pos) X.env) Q E s :=
 Calls.Name_function_global I.ok.kind hg (Calls.loadGlobal_global (by rw[I.ok.glob];exact I.mod.glob.keeps I.bk) hm h) hd
theorem Zd1{E:Xe->Xg->Prop}{pins:List (Addr×Obj)}{s:Xg}{σ:St}{H:Hp}{x:Str}{u:Xe}{pos:Pos}{Q:Xe->Xg->Prop}(I:Inv X pins σ H s)(hg:Gl X x)(hm:X.mg x=none)(hv:Qe x=some u)(h:Q u s)
  (hn:x≠"__name__" :=by decide) (hd:(x==("__debug__" : Str))=false:=by decide):XD (XR X.prog X.w) X.A (eval (.Name x pos) X.env) Q E s:=by
 obtain⟨mb,h1,h2⟩:=I.mod.blt
 exact Calls.Name_function_global I.ok.kind hg (Calls.loadGlobal_builtin (by rw[I.ok.glob];exact I.mod.glob.keeps I.bk) hm (by rw[I.ok.blt];exact h1.keeps I.bk) ((h2 x hn).trans hv) h) hd
theorem Zzu{x:Str}{v:V}{u:Xe}{pos:Pos}(hg:Gl X x)(hm:X.mg x=some u)(r:RelV v u)(hd:(x==("__debug__" : Str))=false:=by decide):PE X (.Name x pos) (tC v) :=
 λ_ _ _ H _ I h=>Zrq I hg hm ⟨v,H,I,r,h⟩ hd
theorem Zyj{x:Str}{v:V}{u:Xe}{pos:Pos}(hg:Gl X x)(hm:X.mg x=none)(hv:Qe x=some u)(r:RelV v u)(hn:x≠"__name__" :=by decide)(hd:(x==("__debug__" : Str))=false:=by decide):PE X (.Name x pos) (tC v) :=
 λ_ _ _ H _ I h=>Zd1 I hg hm hv ⟨v,H,I,r,h⟩ hn hd
noncomputable def t2I(ta tb:TE)(k:Int->Int->Hp->Prop):St->Hp->Prop:=λσ H=>ta σ H λx H1=>tb σ H1 λy H2=>∃i j,x= .int i∧y= .int j∧k i j H2
variable {a b:Expr}{ta tb:TE}{pos:Pos}
noncomputable def Z3d(p:Int->Int->Bool)(ta tb:TE):TE:=λσ H Q=>t2I ta tb (λi j H2=>Q (.bl (p i j)) H2) σ H
noncomputable abbrev tLt:TE->TE->TE:=Z3d λi j=>decide (i<j)
noncomputable abbrev tLe:TE->TE->TE:=Z3d λi j=>decide (i≤j)
noncomputable abbrev tGt:TE->TE->TE:=Z3d λi j=>decide (j<i)
noncomputable abbrev tGe:TE->TE->TE:=Z3d λi j=>decide (j≤i)
noncomputable abbrev Yha:TE->TE->TE:=Z3d λi j=>decide (i=j)
noncomputable abbrev Yg9:TE->TE->TE:=Z3d λi j=>!decide (i=j)
noncomputable def tB(t:TE):TT:=λσ H Q=>t σ H λx H1=>∃c,x= .bl c∧Q c H1
variable {tA tB':TT}{rest:List Expr}
noncomputable def Yfr(t u:TT):TT:=λσ H Q=>t σ H λc H1=>if c=true then u σ H1 Q else Q false H1
noncomputable def tOr(t u:TT):TT:=λσ H Q=>t σ H λc H1=>if c=true then Q true H1 else u σ H1 Q
noncomputable def Yfh(t:TT):TT:=λσ H Q=>t σ H λc H1=>Q (!c) H1
theorem Z2f(ha:PT X a tA):PW X (.BoolOp .And [a] pos) tA:=by
 intro wh pins s σ H Q I h
 refine isTrue_and (thn (ha pins s σ H Q I h) λc s1 e=>?_)
 cases c with
 | true=>exact isTrue_and_nil e
 | false=>exact e
theorem Z3l(ha:PT X a tA):PW X (.BoolOp .Or [a] pos) tA:=by
 intro wh pins s σ H Q I h
 refine isTrue_or (thn (ha pins s σ H Q I h) λc s1 e=>?_)
 cases c with
 | false=>exact isTrue_or_nil e
 | true=>exact e
theorem Z8u(ha:PT X a tA)(hb:PW X (.BoolOp .And (b :: rest) pos) tB'):PW X (.BoolOp .And (a :: b :: rest) pos) (Yfr tA tB'):=by
 intro wh pins s σ H Q I h
 refine isTrue_and (thn (ha pins s σ H _ I h) λc s1 qz9=>?_)
 obtain⟨H1,I1,q1⟩:=qz9
 cases c with
 | true=>exact hb wh pins s1 σ H1 Q I1 q1
 | false=>exact⟨H1,I1,q1⟩
theorem Yaj(ha:PT X a tA)(hb:PW X (.BoolOp .Or (b :: rest) pos) tB'):PW X (.BoolOp .Or (a :: b :: rest) pos) (tOr tA tB'):=by
 intro wh pins s σ H Q I h
 refine isTrue_or (thn (ha pins s σ H _ I h) λc s1 qz9=>?_)
 obtain⟨H1,I1,q1⟩:=qz9
 cases c with
 | true=>exact⟨H1,I1,q1⟩
 | false=>exact hb wh pins s1 σ H1 Q I1 q1
theorem Z44(ha:PT X a tA):PT X (.UnaryOp .Not a pos) (Yfh tA):=by
 intro pins s σ H Q I h
 exact isTrue_not (ha pins s σ H (λc H1=>Q (!c) H1) I h)
noncomputable def Ycv(ta tb:TE):TE:=λσ H Q=>ta σ H λx H1=>∃c,x= .bl c∧if c=true then tb σ H1 Q else Q (.bl false) H1
noncomputable def Yb2(ta:TE):TE:=λσ H Q=>ta σ H λx H1=>∃c,x= .bl c∧Q (.bl (!c)) H1
theorem Z4b{op}{t:TE}(h:PE X a t):PE X (.BoolOp op [a] pos) t:=λpins s σ H Q I hw=>BoolOp_one (h pins s σ H Q I hw)
theorem Z3w(ha:PE X a ta)(hb:PE X (.BoolOp .And (b :: rest) pos) tb):PE X (.BoolOp .And (a :: b :: rest) pos) (Ycv ta tb):=by
 intro pins s σ H Q I h
 refine BoolOp_and (thn (ha pins s σ H _ I h) λv s1 qz9=>?_)
 obtain⟨x,H1,I1,r1,q1⟩:=qz9
 obtain⟨c,rfl,q1⟩:=q1
 cases r1
 refine Q7 ?_
 cases c with
 | true=>exact hb pins s1 σ H1 Q I1 q1
 | false=>exact⟨.bl false,H1,I1,rfl,q1⟩
theorem Z8t(ha:PE X a ta):PE X (.UnaryOp .Not a pos) (Yb2 ta):=by
 intro pins s σ H Q I h
 refine UnaryOp_ (thn (ha pins s σ H _ I h) λv s1 qz9=>?_)
 obtain⟨x,H1,I1,r1,q1⟩:=qz9
 obtain⟨c,rfl,q1⟩:=q1
 cases r1
 exact not_of (Q7 ⟨.bl (!c),H1,I1,rfl,q1⟩)
noncomputable def tIf(t:TT)(ta tb:TE):TE:=λσ H Q=>t σ H λc H1=>if c=true then ta σ H1 Q else tb σ H1 Q
theorem Zwd{c:Expr}(hc:PT X c tA)(ha:PE X a ta)(hb:PE X b tb):PE X (.IfExp c a b pos) (tIf tA ta tb):=by
 intro pins s σ H Q I h
 refine wpAny_IfExp (thn (hc pins s σ H _ I h) λd s1 qz9=>?_)
 obtain⟨H1,I1,q1⟩:=qz9
 cases d with
 | true=>exact ha pins s1 σ H1 Q I1 q1
 | false=>exact hb pins s1 σ H1 Q I1 q1
end
noncomputable def SqL(K:Xc)(H:Hp)(a:Addr)(xs:List V):Prop :=
 Rd H a (.lst xs)∨
  ∃(o:Obj) (its:Array Xe) (n:Nat),K.lookup a=some o∧o.cls= .type "list"∧o.dict=none∧o.data= .seq its n∧its.size≤Xq∧Vals xs its.toList
noncomputable def SqT(K:Xc)(H:Hp)(a:Addr)(xs:List V):Prop :=
 Rd H a (.tup xs)∨
  ∃(o:Obj) (its:Array Xe) (n:Nat),K.lookup a=some o∧o.cls= .type "tuple"∧o.data= .seq its n∧its.size≤Xq∧Vals xs its.toList
noncomputable def Yfk:Xe->Option V
 | .none=>some .non
 | .bool b=>some (.bl b)
 | .int i _=>some (.int i)
 | .str x _=>some (.str x)
 | .bytes b _=>some (.byt b)
 | .float b _=>some (.flt b)
 | .ref a=>some (.ref a)
 | .type n=>some (.ty n)
 | _=>none
theorem RelV.abs{x:V}{u:Xe}(r:RelV x u):Yfk u=some x:=by
 cases x with
 | non=>cases r;rfl
 | bl _=>cases r;rfl
 | int _=>obtain⟨t,rfl⟩:=r;rfl
 | str _=>obtain⟨t,rfl⟩:=r;rfl
 | byt _=>obtain⟨t,rfl⟩:=r;rfl
 | flt _=>obtain⟨t,rfl⟩:=r;rfl
 | ref _=>cases r;rfl
 | ty _=>cases r;rfl
theorem RelV.inj{x y:V}{u:Xe}(r:RelV x u)(q:RelV y u):x=y:=Qu (r.abs.symm.trans q.abs)
theorem Vals.inj{xs ys:List V}{us:List Xe}(h:Vals xs us)(k:Vals ys us):xs=ys:=by
 induction h generalizing ys with
 | nil=>cases k;rfl
 | cons r t ih=>
  cases k with
  | cons r' t'=>rw[r.inj r',ih t']
section
variable {X:Cx}{pins:List (Addr×Obj)}{σ:St}{H:Hp}{s:Xg}{a:Addr}{xs ys:List V}
theorem Inv.list(I:Inv X pins σ H s)(h:SqL X.K H a xs):∃its:List Xe,Vals xs its∧PlainL s.heap a its.toArray∧xs.length≤Xq:=by
 rcases h with h|⟨o,its,n,hk,hc,hd,hs,hz,r⟩
 ·obtain⟨z,its,n,r,e⟩:=h.ok I.hok
  exact⟨its,r,⟨_,n,e,rfl,rfl,rfl⟩,z⟩
 ·refine⟨its.toList,r,⟨o,n,I.kIn a o hk,hc,hd,by simpa using hs⟩,?_⟩
  have e:=r.length
  simp only[X5]at e
  omega
theorem Inv.tuple(I:Inv X pins σ H s)(h:SqT X.K H a xs):∃its:List Xe,Vals xs its∧IsTup s.heap a its.toArray∧xs.length≤Xq:=by
 rcases h with h|⟨o,its,n,hk,hc,hs,hz,r⟩
 ·obtain⟨z,its,r,p⟩:=h.ok I.hok
  exact⟨its,r,p,z⟩
 ·refine⟨its.toList,r,⟨o,I.kIn a o hk,hc,n,by simpa using hs⟩,?_⟩
  have e:=r.length
  simp only[X5]at e
  omega
theorem Inv.list_inj(I:Inv X pins σ H s)(h:SqL X.K H a xs)(h':SqL X.K H a ys):xs=ys:=by
 obtain⟨its,r,⟨o,n,e,_,_,d⟩,_⟩:=I.list h
 obtain⟨its',r',⟨o',n',e',_,_,d'⟩,_⟩:=I.list h'
 rw[e]at e';cases e'
 rw[d]at d'
 injection d' with d1 _
 have:its=its':=by simpa using congrArg Array.toList d1
 subst this
 exact r.inj r'
end
noncomputable abbrev Cx.wish(X:Cx)(E:Xe->Xg->Prop):Cx:={ X with xe:=E }
noncomputable abbrev Cx.nox(X:Cx):Cx:=X.wish λ_ _=>False
theorem Cx.Ok.wish{X:Cx}(ok:X.Ok)(E:Xe->Xg->Prop):(X.wish E).Ok :=
 ⟨ok.mod,ok.kind,ok.glob,ok.blt,ok.above,ok.inj,ok.has,ok.cab,ok.hd,ok.frames,ok.stk,ok.exf,ok.bs,ok.bsz,ok.noex,ok.exfs,ok.funs,ok.frf⟩
theorem Cx.Ok.unwish{X:Cx}{E:Xe->Xg->Prop}(ok:(X.wish E).Ok):X.Ok :=
 ⟨ok.mod,ok.kind,ok.glob,ok.blt,ok.above,ok.inj,ok.has,ok.cab,ok.hd,ok.frames,ok.stk,ok.exf,ok.bs,ok.bsz,ok.noex,ok.exfs,ok.funs,ok.frf⟩
section
variable {X:Cx}{pins:List (Addr×Obj)}{σ:St}{H:Hp}{s:Xg}{E:Xe->Xg->Prop}
theorem Inv.wish(I:Inv X pins σ H s)(E:Xe->Xg->Prop):Inv (X.wish E) pins σ H s:=⟨I.ok.wish E,I.os,I.bare,I.base,I.loc,I.cell,I.free,I.freeC,I.pin,I.hok,I.len⟩
theorem Inv.unwish(I:Inv (X.wish E) pins σ H s):Inv X pins σ H s:=⟨I.ok.unwish,I.os,I.bare,I.base,I.loc,I.cell,I.free,I.freeC,I.pin,I.hok,I.len⟩
theorem SP.unwish{D:Ends}{f:Flow}{s':Xg}(h:SP (X.wish E) pins D f s'):SP X pins D f s':=by
 cases f with
 | next=>obtain⟨σ',H',I,q⟩:=h;exact⟨σ',H',I.unwish,q⟩
 | brk=>obtain⟨σ',H',I,q⟩:=h;exact⟨σ',H',I.unwish,q⟩
 | cont=>obtain⟨σ',H',I,q⟩:=h;exact⟨σ',H',I.unwish,q⟩
 | ret u=>obtain⟨v,σ',H',I,r,q⟩:=h;exact⟨v,σ',H',I.unwish,r,q⟩
theorem PSs.nox{st:List Stmt}{t:TS}(h:PSs X.nox st t):PSs X st t:=λpins s σ H D I hw=>
 Be (h pins s σ H D (I.wish _) hw) (λ_ _ q=>q.unwish) λ_ _ z=>VB z
end
section
variable {X:Cx}{st:Stmt}{rest:List Stmt}{t u:TS}{e:Expr}{te:TE}{pos:Pos}
noncomputable def Yae:TS:=λD σ H=>D.nx σ H
noncomputable def Yg1(t u:TS):TS:=λD σ H=>t { D with nx:=u D } σ H
theorem Z2a:PSs X [] Yae:=λ_ _ σ H _ I h=>wpAny_execs_nil ⟨σ,H,I,h⟩
theorem Zvt(h1:PS X st t)(h2:PSs X rest u):PSs X (st :: rest) (Yg1 t u):=by
 intro pins s σ H D I h
 refine wpAny_execs_cons (thn (h1 pins s σ H { D with nx:=u D } I h) λf s1 q=>?_)
 cases f with
 | next=>
  obtain⟨σ',H',I',q⟩:=q
  exact h2 pins s1 σ' H' D I' q
 | ret v=>exact q
 | brk=>exact q
 | cont=>exact q
theorem Zyw(h1:PS X st t):PSs X [st] t:=by
 intro pins s σ H D I h
 refine wpAny_execs_cons (thn (h1 pins s σ H D I h) λf s1 q=>?_)
 cases f with
 | next=>exact wpAny_execs_nil q
 | ret v=>exact q
 | brk=>exact q
 | cont=>exact q
theorem Inv.quiet{pins:List (Addr×Obj)}{σ:St}{H:Hp}{s:Xg}(I:Inv X pins σ H s):interactive X.env=false:=by simp[interactive,I.ok.kind]
noncomputable def Yb9(te:TE):TS:=λD σ H=>te σ H λ_ H1=>D.nx σ H1
theorem Zcy(he:PE X e te)(hs:Br e none pos.line X.env=pure false:=by rfl):PS X (.Expr e pos) (Yb9 te):=by
 intro pins s σ H D I h
 refine wpAny_Expr_any (thn (he pins s σ H _ I h) λv s1 qz9=>?_) I.quiet hs
 obtain⟨x,H1,I1,r1,q1⟩:=qz9
 exact⟨σ,H1,I1,q1⟩
noncomputable def Yf8(te:TE):TS:=λD σ H=>te σ H D.rt
theorem Zw0(he:PE X e te):PS X (.Return (some e) pos) (Yf8 te):=by
 intro pins s σ H D I h
 refine wpAny_Return_some (thn (he pins s σ H _ I h) λv s1 qz9=>?_)
 obtain⟨x,H1,I1,r1,q1⟩:=qz9
 exact⟨x,σ,H1,I1,r1,q1⟩
noncomputable def Yf7(c:TT)(t u:TS):TS:=λD σ H=>c σ H λb H1=>if b=true then t D σ H1 else u D σ H1
theorem Ych{c:Expr}{a b:List Stmt}{tc:TT}(hc:PT X c tc)(ha:PSs X a t)(hb:PSs X b u):PS X (.If c a b pos) (Yf7 tc t u):=by
 intro pins s σ H D I h
 refine wpAny_If (thn (hc pins s σ H _ I h) λd s1 qz9=>?_)
 obtain⟨H1,I1,q1⟩:=qz9
 cases d with
 | true=>exact ha pins s1 σ H1 D I1 q1
 | false=>exact hb pins s1 σ H1 D I1 q1
noncomputable def Z6l:TS:=λ_ _ _=>False
theorem Zwr:PS X st Z6l:=λ_ _ _ _ _ _ h=>h.elim
end
noncomputable abbrev TG:=V->St->Hp->(St->Hp->Prop)->Prop
noncomputable abbrev TGs:=List V->St->Hp->(St->Hp->Prop)->Prop
noncomputable def PG(X:Cx)(target:Expr)(t:TG):Prop :=
 ∀(pins:List (Addr×Obj)) (s:Xg) (σ:St) (H:Hp) (v:V) (u:Xe) (Q:St->Hp->Prop),Inv X pins σ H s->RelV v u->t v σ H Q ->
  XD (XR X.prog X.w) X.A (assign target X.env u) (λ_ s'=>∃σ' H',Inv X pins σ' H' s'∧Q σ' H') X.xe s
noncomputable def PGs(X:Cx)(ts:List Expr)(t:TGs):Prop :=
 ∀(pins:List (Addr×Obj)) (s:Xg) (σ:St) (H:Hp) (vs:List V) (us:List Xe) (Q:St->Hp->Prop),Inv X pins σ H s->Vals vs us->t vs σ H Q ->
  XD (XR X.prog X.w) X.A (assignInOrder ((Bs ts X.env).map (·.2)) us) (λ_ s'=>∃σ' H',Inv X pins σ' H' s'∧Q σ' H') X.xe s
noncomputable abbrev Yg8:=V->V->V->Hp->(Hp->Prop)->Prop
noncomputable abbrev TIp:=V->V->Hp->VK->Prop
section
variable {X:Cx}{pos:Pos}
noncomputable def Zqf(i:Nat):TG:=λv σ H Q=>Q (σ.set i (some v)) H
theorem Zri{i:Nat}{x:Str}(hN:X.N.Nodup)(hi:X.N[i]? =some x)(hx:Loc X.env.scope x)(hf:X.fn x=true∨X.env.scope.names.lookup x=some .local:=by first|exact .inl rfl|exact .inr rfl|assumption):PG X (.Name x pos) (Zqf i):=by
 intro pins s σ H v u Q I r h
 exact wpAny_assign_Name (Zng I hN hi hx r (λs' I'=>⟨_,H,I',h⟩) hf)
noncomputable def Ygi:TGs:=λvs σ H Q=>vs=[]∧Q σ H
noncomputable def Yc0(t:TG)(u:TGs):TGs:=λvs σ H Q=>∃v r,vs=v :: r∧t v σ H λσ' H'=>u r σ' H' Q
theorem Z0t:PGs X [] Ygi:=by
 intro pins s σ H vs us Q I r h
 obtain⟨e,h⟩:=h
 subst e
 cases r
 exact assignInOrder_nil ⟨σ,H,I,h⟩
theorem Zuk{e:Expr}{es:List Expr}{t:TG}{u:TGs}(h1:PG X e t)(h2:PGs X es u)
  (hs:(Bs (e :: es) X.env).map (·.2)=assign e X.env :: (Bs es X.env).map (·.2):=by rfl):PGs X (e :: es) (Yc0 t u):=by
 intro pins s σ H vs us Q I r h
 obtain⟨v,vr,e1,h⟩:=h
 subst e1
 cases r with
 | cons r rr=>
  rw[hs]
  refine assignInOrder_cons (thn (h1 pins s σ H _ _ _ I r h) λ_ s1 qz9=>?_)
  obtain⟨σ1,H1,I1,q1⟩:=qz9
  exact h2 pins s1 σ1 H1 _ _ Q I1 rr q1
noncomputable def Yfw(K:Xc)(n:Nat)(t:TGs):TG:=λv σ H Q=>∃a xs,v= .ref a∧SqT K H a xs∧xs.length=n∧t xs σ H Q
theorem Z5y{es:List Expr}{k:Nat}{t:TGs}{n:Nat}(hc:X.calm=true)(h:PGs X es t)
  (hn:(Bs es X.env).length=n:=by rfl) (hst:(Bs es X.env).findIdx? (·.1)=none:=by rfl):PG X (.Tuple es k pos) (Yfw X.K n t):=by
 intro pins s σ H v u Q I r hw
 obtain⟨a,xs,e1,hq,hl,hw⟩:=hw
 subst e1
 cases r
 obtain⟨its,rv,ht,hz⟩:=I.tuple hq
 refine assign_Tuple_tuple (I.ok.hd hc) ht (by simp[hn,←hl,rv.length]) hst λh' hx=>?_
 have I1:Inv X pins σ H { s with heap:=h' }:=I.kept (t':=s.toks) λb o e=>hx b o (Xo (XH e)) e
 exact h pins _ σ H xs _ Q I1 (by simpa using rv) hw
noncomputable def Z9q(te:TE)(g:TG):TS:=λD σ H=>te σ H λx H1=>g x σ H1 D.nx
theorem Zxt{i:Nat}{x:Str}{e:Expr}{te:TE}{pos':Pos}(hN:X.N.Nodup)(hi:X.N[i]? =some x)(hx:Loc X.env.scope x)(he:PE X e te)(hs:Br e (some (.Name x pos')) pos.line X.env=pure false:=by rfl)(hf:X.fn x=true∨X.env.scope.names.lookup x=some .local:=by first|exact .inl rfl|exact .inr rfl|assumption) :
  PS X (.Assign [.Name x pos'] e pos) (Z9q te (Zqf i)):=by
 intro pins s σ H D I h
 refine wpAny_Assign_Name (thn (he pins s σ H _ I h) λv s1 qz9=>?_) hs
 obtain⟨y,H1,I1,r1,q1⟩:=qz9
 exact Zng I1 hN hi hx r1 (λs2 I2=>⟨_,H1,I2,q1⟩) hf
end
section
variable {X:Cx}{pos:Pos}
noncomputable def Z5g(c:TT)(tb:TS):TS:=λD σ H=>∃W:Nat->St->Hp->Prop,(∃m,W m σ H)∧∀m σ H,W m σ H ->
 c σ H λb H1=>if b=true then∃N:St->Hp->Prop,(∀σ' H',N σ' H'->∃m',m'<m∧W m' σ' H')∧tb { D with nx:=N,ct:=N,bk:=D.nx } σ H1 else D.nx σ H1
theorem Zv8{c:Expr}{body:List Stmt}{tc:TT}{tb:TS}(hp:PassesOwn (XR X.prog X.w) X.A X.env X.xe)(hc:PT X c tc)(hb:PSs X body tb):PS X (.While c body [] pos) (Z5g tc tb):=by
 intro pins s σ H D I h
 obtain⟨W,⟨m0,w0⟩,turn⟩:=h
 refine wpAny_While (codeAny_whileLoop (λn s'=>∃σ' H',Inv X pins σ' H' s'∧W n σ' H') ?_ m0 ⟨σ,H,I,w0⟩)
 rintro n s1 ⟨σ1,H1,I1,w1⟩
 refine Vy hp (thn (hc pins s1 σ1 H1 _ I1 (turn n σ1 H1 w1)) λb s2 qz9=>?_)
 obtain⟨H2,I2,q2⟩:=qz9
 cases b with
 | true=>
  obtain⟨N,hN,q2⟩:=q2
  rw[if_pos rfl]
  refine Vy hp (thn (hb pins s2 σ1 H2 _ I2 q2) λf s3 q3=>?_)
  cases f with
  | next=>
   obtain⟨σ3,H3,I3,n3⟩:=q3
   obtain⟨m',hm,w3⟩:=hN σ3 H3 n3
   exact⟨m',hm,σ3,H3,I3,w3⟩
  | cont=>
   obtain⟨σ3,H3,I3,n3⟩:=q3
   obtain⟨m',hm,w3⟩:=hN σ3 H3 n3
   exact⟨m',hm,σ3,H3,I3,w3⟩
  | brk=>exact q3
  | ret v=>exact q3
 | false=>
  rw[if_neg Xv]
  exact wpAny_execs_nil ⟨σ1,H2,I2,q2⟩
end
set_option genInjectivity false in
structure It where
 go:Nat->Hp->Prop
 yld:Nat->Hp->V->Hp->Prop
 stop:Nat->Hp->Prop
noncomputable def Zjo(X:Cx)(pins:List (Addr×Obj))(H:Hp)(b:Addr):Prop :=
 H b=none∧b≠X.env.locals∧b∉X.fs∧(b∈X.ex∨X.s₀.heap.objs.size≤b)∧(∀x c,X.env.cells.lookup x=some c->c≠b)∧∀p∈X.pn ++ pins,p.1≠b
theorem Inv.fpOk{X:Cx}{pins:List (Addr×Obj)}{σ:St}{H H':Hp}{s:Xg}{b:Addr}(I:Inv X pins σ H s)(hb:s.heap.objs.size≤b)(hn:H' b=none):Zjo X pins H' b:=by
 refine⟨hn,XM (Qi I.lt hb),I.nofs hb,.inr (Ql I.sz hb),λx c e z=>?_,λp hp z=>?_⟩
 ·obtain⟨v,q⟩:=I.cell x c e
  exact absurd (Qi q.lt (by rw[z];exact hb)) (BP _)
 ·exact absurd (Qi (XH (I.pin p hp).1) (by rw[z];exact hb)) (BP _)
structure Turn(P:XS)(w:Qq)(K:Xc)(tg:Expr)(J:It)(fp:List Addr)(it:Addr)(tn:Nat->Heap->Prop):Prop where
 mem:it∈fp
 obj:∀i h,tn i h->∀b∈fp,∃o,h.get? b=some o∧∀v,o.data≠ .cell v
 keep:∀i h h',tn i h->(∀b∈fp,∀o,h.get? b=some o->h'.get? b=some o)->tn i h'
 item:∀(X:Cx),X.prog=P->X.w=w->X.K=K->X.calm=true->∀(i:Nat) (pins:List (Addr×Obj)) (s:Xg) (σ:St) (H:Hp) (E:Xe->Xg->Prop),Inv X pins σ H s->(∀b∈fp,Zjo X pins H b)->tn i s.heap->J.go i H ->
  XD (XR P w) X.A (Ub (.ref it)) (λr s1=>∃u,r=some u∧
   XD (XR P w) X.A (letOwnedTupleGo tg (.ref it) u) (λ_ s2=>∃x H',Inv X pins σ H' s2∧RelV x u∧J.yld i H x H'∧tn (i+1) s2.heap∧∀b∈fp,H' b=none) E s1) E s
 done:∀(X:Cx),X.prog=P->X.w=w->X.K=K->X.calm=true->∀(i:Nat) (pins:List (Addr×Obj)) (s:Xg) (σ:St) (H:Hp) (E:Xe->Xg->Prop),Inv X pins σ H s->(∀b∈fp,Zjo X pins H b)->tn i s.heap->J.stop i H ->
  XD (XR P w) X.A (Ub (.ref it)) (λr s1=>r=none∧Inv X pins σ H s1) E s
 self:∀(A:Qs) (i:Nat) (s:Xg) (Q:Xe->Xg->Prop) (E:Xe->Xg->Prop),tn i s.heap->Q (.ref it) s->XD (XR P w) A (pyIter (.ref it)) Q E s
noncomputable abbrev TI:=St->Hp->(It->Hp->Prop)->Prop
noncomputable def PIE(X:Cx)(pins:List (Addr×Obj))(σ:St)(tg:Expr)(R:It->Hp->Prop)(itv:Xe)(s2:Xg):Prop :=
 ∃(it:Addr) (fp:List Addr) (tn:Nat->Heap->Prop) (J:It) (H':Hp),itv= .ref it∧Inv X pins σ H' s2∧Turn X.prog X.w X.K tg J fp it tn∧tn 0 s2.heap∧(∀b∈fp,Zjo X pins H' b)∧R J H'
noncomputable def PI(X:Cx)(tg iter:Expr)(wi:TI):Prop :=
 ∀(pins:List (Addr×Obj)) (s:Xg) (σ:St) (H:Hp) (R:It->Hp->Prop),Inv X pins σ H s->wi σ H R ->
  XD (XR X.prog X.w) X.A (eval iter X.env) (λv s1=>XD (XR X.prog X.w) X.A (pyIter v) (PIE X pins σ tg R) X.xe s1) X.xe s
theorem Z4w{M:Model}{A:Qs}{E:Xe->Xg->Prop}{s:Xg}{tg:Expr}{it:Addr}{u:Xe}{o:Obj}{n:String}{vs:Array Xe}{Q:Unit->Xg->Prop}(ho:s.heap.get? it=some o)(hc:o.cls= .type n)(hd:o.data= .fields vs)
  (hn:["enumerate","zip","dict_itemiterator","dict_reverseitemiterator","odict_iterator","itertools.zip_longest","itertools.pairwise"].contains n=false) (hQ:Q () s):XD M A (letOwnedTupleGo tg (.ref it) u) Q E s:=by
 unfold letOwnedTupleGo
 cases tg<;>first
  | exact Xm hQ
  | (cases u<;>first
    | exact Xm hQ
    | (refine Xb (wpAny_load ho ?_)
       rw[hc,hd]
       show XD M A (if(["enumerate","zip","dict_itemiterator","dict_reverseitemiterator","odict_iterator","itertools.zip_longest","itertools.pairwise"].contains n&&vs[0]? ==some (Bf _))=true then _ else _) Q E s
       rw[if_neg (by intro h;rw[hn,Bool.false_and]at h;cases h)]
       exact Xm hQ))
noncomputable def Itl(K:Xc)(a:Addr):It :=
 ⟨λi H=>∃xs x,SqL K H a xs∧xs[i]? =some x,λi H x H'=>H'=H∧∀xs,SqL K H a xs->xs[i]? =some x,λi H=>∃xs,SqL K H a xs∧xs.length≤i⟩
noncomputable def Itr(lo:Int)(n:Nat):It:=⟨λi _=>i<n,λi H x H'=>H'=H∧x= .int (lo+i),λi _=>n≤i⟩
theorem Ztl{P:XS}{w:Qq}{K:Xc}{tg:Expr}(a it:Addr):Turn P w K tg (Itl K a) [it] it (λi h=>h.IsListIter it a i) where
 mem:=by simp
 obj:=λi h st b hb=>by
  have e:b=it:=by simpa using hb
  subst e
  obtain⟨o,e,c,d⟩:=st
  exact⟨o,e,λv z=>by rw[d]at z;cases z⟩
 keep:=λi h h' st k=>st.at λo e=>k it (by simp) o e
 item:=by
  intro X hP hw hK hc i pins s σ H E I hf st hg
  subst hP hw hK
  obtain⟨xs,x,hq,hx⟩:=hg
  obtain⟨its,rv,p,hz⟩:=I.list hq
  obtain⟨u,hu,ru⟩:=rv.get hx
  obtain⟨f0,f1,f2,f3,f4,f5⟩:=hf it (by simp)
  refine wpAny_pyNext_list_item st p.isList (x:=u) (by simpa using hu) λh' st' sb=>?_
  have I1:Inv X pins σ H { s with heap:=h' }:=I.turned (t':=s.toks) (λb o hb e=>(sb.2 b hb).trans e) f0 f1 f3 f4 f5
  obtain⟨o,e,c,d⟩:=id st'
  exact⟨u,rfl,Z4w (s:={ s with heap:=h' }) e c d (by decide) ⟨x,H,I1,ru,⟨rfl,λys hy=>by rw[I.list_inj hy hq];exact hx⟩,st',λb hb=>(hf b hb).1⟩⟩
 done:=by
  intro X hP hw hK hc i pins s σ H E I hf st hg
  subst hP hw hK
  obtain⟨xs,hq,hx⟩:=hg
  obtain⟨its,rv,p,hz⟩:=I.list hq
  obtain⟨f0,f1,f2,f3,f4,f5⟩:=hf it (by simp)
  have hl:=rv.length
  exact wpAny_pyNext_list_end (I.ok.hd hc) st p.isList (by simp;omega) λh' eb=>⟨rfl,I.turned (t':=s.toks) (λb o hb e=>eb b o hb e) f0 f1 f3 f4 f5⟩
 self:=λ_ _ _ _ _ st h=>wpAny_pyIter_listiter st h
theorem Zo8{P:XS}{w:Qq}{K:Xc}{tg:Expr}(it:Addr)(lo:Int)(n:Nat):Turn P w K tg (Itr lo n) [it] it (λi h=>IsRangeIter h it (lo+(i:Nat)*1) ((n:Int)-(i:Nat)) 1) where
 mem:=by simp
 obj:=λi h st b hb=>by
  have e:b=it:=by simpa using hb
  subst e
  exact⟨_,st,λv z=>by
   have z':Data.fields _=Data.cell v:=z
   cases z'⟩
 keep:=λi h h' st k=>k it (by simp) _ st
 item:=by
  intro X hP hw hK hc i pins s σ H E I hf st hg
  subst hP hw hK
  obtain⟨f0,f1,f2,f3,f4,f5⟩:=hf it (by simp)
  have W:=Walks.range (prog:=X.prog) (w:=X.w) (I.ok.hd hc) it lo 1 n
  refine W.item i s _ _ hg st λv h' tk hv st' kk=>?_
  obtain⟨t,rfl⟩:=hv
  have I1:Inv X pins σ H { s with heap:=h',toks:=tk }:=I.turned (λb o hb e=>kk b o (by simpa using hb) e) f0 f1 f3 f4 f5
  refine⟨_,rfl,Z4w (s:={ s with heap:=h',toks:=tk }) (n :="range_iterator") st' rfl rfl (by decide) ⟨.int (lo+i),H,I1,⟨t,?_⟩,⟨rfl,rfl⟩,st',λb hb=>(hf b hb).1⟩⟩
  rw[Int.mul_one]
 done:=by
  intro X hP hw hK hc i pins s σ H E I hf st hg
  subst hP hw hK
  obtain⟨f0,f1,f2,f3,f4,f5⟩:=hf it (by simp)
  exact wpAny_pyNext_range_end (I.ok.hd hc) st (by have:n≤i:=hg;omega) λh' eb=>⟨rfl,I.turned (t':=s.toks) (λb o hb e=>eb b o hb e) f0 f1 f3 f4 f5⟩
 self:=λ_ _ _ _ _ st h=>wpAny_pyIter_rangeiter st h
section
variable {X:Cx}{tg:Expr}
noncomputable def Z43(K:Xc)(tl:TE):TI:=λσ H R=>tl σ H λx H1=>∃a,x= .ref a∧(∃xs,SqL K H1 a xs)∧R (Itl K a) H1
theorem Z28{l:Expr}{tl:TE}(hl:PE X l tl):PI X tg l (Z43 X.K tl):=by
 intro pins s σ H R I h
 refine thn (hl pins s σ H _ I h) λv s1 qz9=>?_
 obtain⟨x,H1,I1,r1,q1⟩:=qz9
 obtain⟨a,e,⟨xs,hq⟩,q⟩:=q1
 subst e
 cases r1
 obtain⟨its,rv,p,hz⟩:=I1.list hq
 refine wpAny_pyIter_list p.isList ?_
 refine⟨s1.heap.objs.size,[s1.heap.objs.size],_,_,H1,rfl,I1.kept (t':=s1.toks) λb o e=>Xf _ e,Ztl a _,⟨_,XC _ rfl,rfl,rfl⟩,λb hb=>?_,q⟩
 have e:b=s1.heap.objs.size:=by simpa using hb
 subst e
 exact I1.fpOk (Xz _) (I1.hok.fresh (Xz _))
theorem Zm7{pins:List (Addr×Obj)}{σ:St}{H:Hp}{s:Xg}{R:It->Hp->Prop}{E:Xe->Xg->Prop}{lo hi:Int}{t u v:Tok}{tk:Nat}(I:Inv X pins σ H s)(h1:-(2^62)≤lo)(h2:lo<2^62)(h3:-(2^62)≤hi)(h4:hi<2^62)
  (q:R (Itr lo (hi-lo).toNat) H):XD (XR X.prog X.w) X.A (pyIter (.ref s.heap.objs.size)) (PIE X pins σ tg R) E { s with heap:=s.heap.push { cls:=.type "range",data:=.fields #[.int lo t,.int hi u,.int 1 v] },toks:=tk }:=by
 refine wpAny_pyIter_range (IsRange.new ..) (small_one h1 h2 h3 h4) ?_
 have I1:Inv X pins σ H { s with heap:=s.heap.push { cls:=.type "range",data:=.fields #[.int lo t,.int hi u,.int 1 v] },toks:=tk }:=I.kept λb o e=>Xf _ e
 refine⟨(s.heap.push { cls:=.type "range",data:=.fields #[.int lo t,.int hi u,.int 1 v] }).objs.size,[(s.heap.push { cls:=.type "range",data:=.fields #[.int lo t,.int hi u,.int 1 v] }).objs.size],_,_,H,rfl,
  I1.kept (t':=tk) λb o e=>Xf _ e,Zo8 _ lo (hi-lo).toNat,?_,λb hb=>?_,q⟩
 ·have e1:lo+((0:Nat):Int)*1=lo:=by simp
  have e2:(((hi-lo).toNat:Nat):Int)-((0:Nat):Int)=Builtin.Range.rangeSize lo hi 1:=by rw[rangeSize_one];split<;>omega
  show IsRangeIter _ _ (lo+((0:Nat):Int)*1) ((((hi-lo).toNat:Nat):Int)-((0:Nat):Int)) 1
  rw[e1,e2]
  exact XC _ rfl
 ·have e:b=(s.heap.push { cls:=.type "range",data:=.fields #[.int lo t,.int hi u,.int 1 v] }).objs.size:=by simpa using hb
  subst e
  exact I1.fpOk (Xz _) (I1.hok.fresh (Xz _))
noncomputable def Z9z(ta:TA):TI:=λσ H R=>ta σ H λvs H1=>∃j:Int,vs=[.int j]∧-(2^62)≤j∧j<2^62∧R (Itr 0 j.toNat) H1
noncomputable def Yc1(ta:TA):TI:=λσ H R=>ta σ H λvs H1=>∃i j:Int,vs=[.int i,.int j]∧(-(2^62)≤i∧i<2^62∧-(2^62)≤j∧j<2^62)∧R (Itr i (j-i).toNat) H1
theorem Zql{a:Expr}{ta:TA}{p pos:Pos}(hg:Gl X "range")(hm:X.mg "range"=none)(ha:PA X [a] ta)(hs:Xu [a] X.env=[(false,eval a X.env)]:=by rfl):PI X tg (.Call (.Name "range" p) [a] [] pos) (Z9z ta):=by
 intro pins s σ H R I h
 refine Call_ (Zd1 I hg hm boot_range (JQ (thn (ha pos pins s σ H _ I h) λus s1 qz9=>?_) hs rfl))
 obtain⟨vs,H1,I1,r1,q1⟩:=qz9
 obtain⟨j,e,q1,q2,q⟩:=q1
 subst e
 cases r1 with
 | cons r rr=>
  cases rr
  obtain⟨t,rfl⟩:=r
  exact call_range_1 (Zm7 I1 (by omega) (by omega) q1 q2 (by simpa using q))
theorem Zpj{a b:Expr}{ta:TA}{p pos:Pos}(hg:Gl X "range")(hm:X.mg "range"=none)(ha:PA X [a,b] ta)(hs:Xu [a,b] X.env=[(false,eval a X.env),(false,eval b X.env)]:=by rfl)(hs2:Xu [b] X.env=[(false,eval b X.env)]:=by rfl) :
  PI X tg (.Call (.Name "range" p) [a,b] [] pos) (Yc1 ta):=by
 intro pins s σ H R I h
 refine Call_ (Zd1 I hg hm boot_range (JQ (thn (ha pos pins s σ H _ I h) λus s1 ⟨vs,H1,I1,r1,q1⟩=>?_) (by rw[hs,hs2]) (by rw[hs2];rfl)))
 obtain⟨i,j,e,⟨q1,q2,q3,q4⟩,q⟩:=q1
 subst e
 cases r1 with
 | cons r rr=>
  cases rr with
  | cons r' rr=>
   cases rr
   obtain⟨t,rfl⟩:=r
   obtain⟨t',rfl⟩:=r'
   exact call_range_2 (Zm7 I1 q1 q2 q3 q4 q)
noncomputable def Yfy(wi:TI)(g:TG)(tb:TS):TS:=λD σ H=>wi σ H λJ H1=>∃W:Nat->Nat->St->Hp->Prop,(∃m,W 0 m σ H1)∧∀i m σ H,W i m σ H ->
 (J.stop i H∧D.nx σ H)∨(J.go i H∧∃N:St->Hp->Prop,(∀σ' H',N σ' H'->∃m',m'<m∧W (i+1) m' σ' H')∧∀x H',J.yld i H x H'->g x σ H' λσ2 H2=>tb { D with nx:=N,ct:=N,bk:=D.nx } σ2 H2)
noncomputable def Zka(fp:List Addr)(h:Heap):List (Addr×Obj):=fp.filterMap λb=>(h.get? b).map λo=>(b,o)
theorem Zb6{fp:List Addr}{h:Heap}{b:Addr}{o:Obj}(hb:b∈fp)(e:h.get? b=some o):(b,o)∈Zka fp h:=List.mem_filterMap.mpr ⟨b,hb,by rw[e];rfl⟩
theorem Zqd{fp:List Addr}{h:Heap}{p:Addr×Obj}(hp:p∈Zka fp h):p.1∈fp∧h.get? p.1=some p.2:=by
 obtain⟨b,hb,e⟩:=List.mem_filterMap.mp hp
 cases q:h.get? b with
 | none=>rw[q]at e;cases e
 | some o=>
  rw[q]at e
  have e':(b,o)=p:=Qu e
  subst e'
  exact⟨hb,q⟩
theorem Inv.pinned{pins:List (Addr×Obj)}{σ:St}{H:Hp}{s:Xg}{fp:List Addr}(I:Inv X pins σ H s)(hf:∀b∈fp,Zjo X pins H b)(ho:∀b∈fp,∃o,s.heap.get? b=some o∧∀v,o.data≠ .cell v):Inv X (pins ++ Zka fp s.heap) σ H s :=
 I.pins_of λp hp=>(X8.mp hp).elim (λz=>I.pin p (Qa _ z)) λz=>by
  obtain⟨hb,e⟩:=Zqd z
  obtain⟨f0,f1,f2,_⟩:=hf p.1 hb
  obtain⟨o,e',d⟩:=ho p.1 hb
  rw[e]at e';cases e'
  exact⟨e,f0,f1,f2,d⟩
theorem Inv.unpinned{pins pl:List (Addr×Obj)}{σ:St}{H:Hp}{s:Xg}(I:Inv X (pins ++ pl) σ H s):Inv X pins σ H s:=I.pins_of λp hp=>I.pin p (Qa _ (Qp _ hp))
theorem Z5b{iter:Expr}{body:List Stmt}{wi:TI}{g:TG}{tb:TS}{pos:Pos}(hp:PassesOwn (XR X.prog X.w) X.A X.env X.xe)(hc:X.calm=true)(hi:PI X tg iter wi)(hg:PG X tg g)(hb:PSs X body tb)
  (hs:∀x,Vk iter X.env x=pure x:=by intro _;rfl):PS X (.For tg iter body [] pos) (Yfy wi g tb):=by
 intro pins s σ H D I h
 refine wpAny_For (thn (hi pins s σ H _ I h) λv s1 h1=>thn h1 λitv s2 h2=>?_) hs
 obtain⟨it,fp,tn,J,H2,e,I2,T,st2,f2,W,⟨m0,w0⟩,turn⟩:=h2
 subst e
 -- what stays true of the iterator's objects through the loop
 have stat:∀{H':Hp},(∀b∈fp,H' b=none)->∀b∈fp,Zjo X pins H' b:=λhn b hb=>⟨hn b hb,(f2 b hb).2⟩
 refine codeAny_forLoop_any (λn s'=>∃i σ' H',Inv X pins σ' H' s'∧tn i s'.heap∧(∀b∈fp,H' b=none)∧W i n σ' H') ?_ m0 ⟨0,σ,H2,I2,st2,λb hb=>(f2 b hb).1,w0⟩
 rintro n s3 ⟨i,σ3,H3,I3,st3,fr3,w3⟩
 rcases turn i n σ3 H3 w3 with⟨stop,qn⟩|⟨go,N,hN,step⟩
 ·refine Vy hp (thn (T.done X rfl rfl rfl hc i pins s3 σ3 H3 X.xe I3 (stat fr3) st3 stop) λr s4 qz9=>?_)
  obtain⟨hr,I4⟩:=qz9
  subst hr
  exact wpAny_execs_nil ⟨σ3,H3,I4,qn⟩
 ·refine Vy hp (thn (T.item X rfl rfl rfl hc i pins s3 σ3 H3 X.xe I3 (stat fr3) st3 go) λr s4 qz9=>?_)
  obtain⟨u,hr,h4⟩:=qz9
  subst hr
  refine Vy hp (thn h4 λ_ s5 qz9=>?_)
  obtain⟨x,H5,I5,r5,y5,st5,fr5⟩:=qz9
  have I5':=I5.pinned (stat fr5) (T.obj _ _ st5)
  refine Vy hp (thn (hg _ s5 σ3 H5 x u _ I5' r5 (step x H5 y5)) λ_ s6 qz9=>?_)
  obtain⟨σ6,H6,I6,q6⟩:=qz9
  refine Vy hp (thn (hb _ s6 σ6 H6 _ I6 q6) λf s7 q7=>?_)
  have again:∀{σ7:St} {H7:Hp},Inv X (pins ++ Zka fp s5.heap) σ7 H7 s7->N σ7 H7->∃m,m<n∧∃i σ' H',Inv X pins σ' H' s7∧tn i s7.heap∧(∀b∈fp,H' b=none)∧W i m σ' H':=fun{σ7 H7} I7 n7=>by
   obtain⟨m',hm,w7⟩:=hN σ7 H7 n7
   refine⟨m',hm,i+1,σ7,H7,I7.unpinned,T.keep _ _ _ st5 λb hb o e=>(I7.pin (b,o) (Qa _ (Qa _ (Zb6 hb e)))).1,λb hb=>?_,w7⟩
   obtain⟨o,e,d⟩:=T.obj _ _ st5 b hb
   exact(I7.pin (b,o) (Qa _ (Qa _ (Zb6 hb e)))).2.1
  cases f with
  | next=>obtain⟨σ7,H7,I7,n7⟩:=q7;exact again I7 n7
  | cont=>obtain⟨σ7,H7,I7,n7⟩:=q7;exact again I7 n7
  | brk=>obtain⟨σ7,H7,I7,q7⟩:=q7;exact⟨σ7,H7,I7.unpinned,q7⟩
  | ret v=>obtain⟨x7,σ7,H7,I7,r7,q7⟩:=q7;exact⟨x7,σ7,H7,I7.unpinned,r7,q7⟩
end
noncomputable abbrev R2:=V->V->Hp->VK->Prop
noncomputable def OpR(X:Cx)(f:Xe->Xe->Sem Xe)(r:R2):Prop :=
 ∀(pins:List (Addr×Obj)) (s:Xg) (σ:St) (H:Hp) (x y:V) (v u:Xe) (Q:VK),Inv X pins σ H s->RelV x v->RelV y u->r x y H Q ->
  XD (XR X.prog X.w) X.A (f v u) (EP X pins σ Q) X.xe s
noncomputable def UnR(X:Cx)(f:Xe->Sem Xe)(r:V->Hp->VK->Prop):Prop :=
 ∀(pins:List (Addr×Obj)) (s:Xg) (σ:St) (H:Hp) (x:V) (v:Xe) (Q:VK),Inv X pins σ H s->RelV x v->r x H Q ->
  XD (XR X.prog X.w) X.A (f v) (EP X pins σ Q) X.xe s
noncomputable def Zcd(X:Cx)(f:Xe)(r:List V->Hp->VK->Prop):Prop :=
 ∀(pins:List (Addr×Obj)) (s:Xg) (σ:St) (H:Hp) (xs:List V) (us:List Xe) (Q:VK),Inv X pins σ H s->Vals xs us->r xs H Q ->
  XD (XR X.prog X.w) X.A (call f us) (EP X pins σ Q) X.xe s
noncomputable def Yfz(X:Cx)(r:V->Hp->(Bool->Hp->Prop)->Prop):Prop :=
 ∀(pins:List (Addr×Obj)) (s:Xg) (σ:St) (H:Hp) (x:V) (v:Xe) (Q:Bool->Hp->Prop),Inv X pins σ H s->RelV x v->r x H Q ->
  XD (XR X.prog X.w) X.A (truthy v) (TP X pins σ Q) X.xe s
noncomputable def tOp(r:R2)(ta tb:TE):TE:=λσ H Q=>ta σ H λx H1=>tb σ H1 λy H2=>r x y H2 Q
noncomputable def tUn(r:V->Hp->VK->Prop)(ta:TE):TE:=λσ H Q=>ta σ H λx H1=>r x H1 Q
noncomputable def rI(C:Int->Int->Prop)(g:Int->Int->V):R2:=λx y H Q=>∃i j,x= .int i∧y= .int j∧C i j∧Q (g i j) H
noncomputable def rI0(g:Int->Int->V):R2:=λx y H Q=>∃i j,x= .int i∧y= .int j∧Q (g i j) H
noncomputable def rU(g:Int->V):V->Hp->VK->Prop:=λx H Q=>∃i,x= .int i∧Q (g i) H
section
variable {X:Cx}{a b c:Expr}{ta tb tc:TE}{pos:Pos}
theorem Z9w(ha:PE X a ta)(hb:PE X b tb){pins:List (Addr×Obj)}{s:Xg}{σ:St}{H:Hp}{R:V->V->Hp->Prop}(I:Inv X pins σ H s)
  (h:ta σ H λx H1=>tb σ H1 λy H2=>R x y H2) {Q:Xe->Xg->Prop} {f:Xe->Xe->Sem Xe}
  (hf:∀v u s2 x y H2,Inv X pins σ H2 s2->RelV x v->RelV y u->R x y H2->XD (XR X.prog X.w) X.A (f v u) Q X.xe s2) :
  XD (XR X.prog X.w) X.A (eval a X.env) (λv s₁=>XD (XR X.prog X.w) X.A (eval b X.env) (λu s₂=>XD (XR X.prog X.w) X.A (f v u) Q X.xe s₂) X.xe s₁) X.xe s:=by
 refine thn (ha pins s σ H _ I h) λv s1 qz9=>?_
 obtain⟨x,H1,I1,r1,q1⟩:=qz9
 refine thn (hb pins s1 σ H1 _ I1 q1) λu s2 qz9=>?_
 obtain⟨y,H2,I2,r2,q2⟩:=qz9
 exact hf v u s2 x y H2 I2 r1 r2 q2
theorem Z4m{op:Operator}{r:R2}(ho:OpR X (Vl op) r)(ha:PE X a ta)(hb:PE X b tb):PE X (.BinOp a op b pos) (tOp r ta tb):=by
 intro pins s σ H Q I h
 exact wpAny_BinOp (Z9w ha hb I h λv u s2 x y H2 I2 rx ry q=>ho pins s2 σ H2 x y v u Q I2 rx ry q)
theorem Yci{op:UnaryOp}{r:V->Hp->VK->Prop}(ho:UnR X (unaryOp op) r)(ha:PE X a ta):PE X (.UnaryOp op a pos) (tUn r ta):=by
 intro pins s σ H Q I h
 refine UnaryOp_ (thn (ha pins s σ H _ I h) λv s1 qz9=>?_)
 obtain⟨x,H1,I1,r1,q1⟩:=qz9
 exact ho pins s1 σ H1 x v Q I1 r1 q1
theorem opI{f:Xe->Xe->Sem Xe}{C:Int->Int->Prop}{g:Int->Int->Int}
  (rule:∀(i j:Int) (t u:Tok) (s:Xg) (Q:Xe->Xg->Prop) (E:Xe->Xg->Prop),C i j->Q (.int (g i j) s.toks) { s with toks:=s.toks+1 }->XD (XR X.prog X.w) X.A (f (.int i t) (.int j u)) Q E s) :
  OpR X f (rI C λi j=>.int (g i j)):=by
 intro pins s σ H x y v u Q I rx ry h
 obtain⟨i,j,rfl,rfl,hc,q⟩:=h
 obtain⟨t,rfl⟩:=rx
 obtain⟨t',rfl⟩:=ry
 exact rule i j t t' s _ _ hc ⟨.int (g i j),H,I.tok _,⟨_,rfl⟩,q⟩
theorem Yex{f:Xe->Xe->Sem Xe}{g:Int->Int->Int}
  (rule:∀(i j:Int) (t u:Tok) (s:Xg) (Q:Xe->Xg->Prop) (E:Xe->Xg->Prop),Q (.int (g i j) s.toks) { s with toks:=s.toks+1 }->XD (XR X.prog X.w) X.A (f (.int i t) (.int j u)) Q E s) :
  OpR X f (rI0 λi j=>.int (g i j)):=by
 intro pins s σ H x y v u Q I rx ry h
 obtain⟨i,j,rfl,rfl,q⟩:=h
 obtain⟨t,rfl⟩:=rx
 obtain⟨t',rfl⟩:=ry
 exact rule i j t t' s _ _ ⟨.int (g i j),H,I.tok _,⟨_,rfl⟩,q⟩
theorem Z82{f:Xe->Xe->Sem Xe}{g:Int->Int->Bool}
  (rule:∀(i j:Int) (t u:Tok) (s:Xg) (Q:Xe->Xg->Prop) (E:Xe->Xg->Prop),Q (.bool (g i j)) s->XD (XR X.prog X.w) X.A (f (.int i t) (.int j u)) Q E s) :
  OpR X f (rI0 λi j=>.bl (g i j)):=by
 intro pins s σ H x y v u Q I rx ry h
 obtain⟨i,j,rfl,rfl,q⟩:=h
 obtain⟨t,rfl⟩:=rx
 obtain⟨t',rfl⟩:=ry
 exact rule i j t t' s _ _ ⟨.bl (g i j),H,I,rfl,q⟩
noncomputable def Z81(i j:Int):Prop:=0≤j∧j≤1000000∧i.natAbs<2^64
noncomputable def CMul(i j:Int):Prop:=(-(2^64)<i∧i<2^64)∨(-(2^64)<j∧j<2^64)
theorem CMul.ok{i j:Int}(h:CMul i j):IntMulOk i j:=by
 rcases h with⟨h1,h2⟩|⟨h1,h2⟩
 ·exact .of_left (intBits_le_64 h1 h2)
 ·exact .of_right (intBits_le_64 h1 h2)
theorem Z6p:OpR X (Vl .Add) (rI0 λi j=>.int (i+j)):=Yex λ_ _ _ _ _ _ _ q=>add_int q
theorem Z6a:OpR X (Vl .Sub) (rI0 λi j=>.int (i-j)):=Yex λ_ _ _ _ _ _ _ q=>sub_int q
theorem Zz3:OpR X (Vl .Mod) (rI (λ_ j=>j≠0) λi j=>.int (i.fmod j)):=opI λ_ _ _ _ _ _ _ hc q=>mod_int' hc q
theorem Z7n:OpR X (Vl .Pow) (rI Z81 λi j=>.int (i^j.toNat)):=opI λ_ _ _ _ _ _ _ hc q=>pow_int_small hc.1 hc.2.1 hc.2.2 q
theorem unI{f:Xe->Sem Xe}{g:Int->Int}
  (rule:∀(i:Int) (t:Tok) (s:Xg) (Q:Xe->Xg->Prop) (E:Xe->Xg->Prop),Q (.int (g i) s.toks) { s with toks:=s.toks+1 }->XD (XR X.prog X.w) X.A (f (.int i t)) Q E s) :
  UnR X f (rU λi=>.int (g i)):=by
 intro pins s σ H x v Q I rx h
 obtain⟨i,rfl,q⟩:=h
 obtain⟨t,rfl⟩:=rx
 exact rule i t s _ _ ⟨.int (g i),H,I.tok _,⟨_,rfl⟩,q⟩
theorem Z39:UnR X (unaryOp .USub) (rU λi=>.int (-i)):=unI λ_ _ _ _ _ q=>neg_int q
end
section
variable {X:Cx}{a b c:Expr}{ta tb tc:TE}{pos:Pos}
theorem Z4r{pins:List (Addr×Obj)}{σ:St}{H:Hp}{s:Xg}{Q:VK}{k k':Bool}(I:Inv X pins σ H s)(q:Q (.bl k) H)(e:k=k'):EP X pins σ Q (.bool k') s:=by
 subst e
 exact⟨.bl k,H,I,rfl,q⟩
theorem Zsx:OpR X (Qx .Lt) (rI0 λi j=>.bl (decide (i<j))):=Z82 λ_ _ _ _ _ _ _ q=>lt_int q
theorem Zve:OpR X (Qx .LtE) (rI0 λi j=>.bl (decide (i≤j))):=Z82 λ_ _ _ _ _ _ _ q=>le_int q
theorem Ya8:OpR X (Qx .Gt) (rI0 λi j=>.bl (decide (j<i))):=Z82 λ_ _ _ _ _ _ _ q=>gt_int q
theorem Yay:OpR X (Qx .GtE) (rI0 λi j=>.bl (decide (j≤i))):=Z82 λ_ _ _ _ _ _ _ q=>ge_int q
theorem Zmj:OpR X (Qx .IsNot) (λx y H Q=>y= .non∧Q (.bl (!decide (x= .non))) H):=by
 intro pins s σ H x y v u Q I rx ry h
 obtain⟨rfl,q⟩:=h
 cases ry
 refine isnot_none_gen (Z4r I q ?_)
 cases x<;>first
  | (cases rx;rfl)
  | (obtain⟨t,rfl⟩:=rx;rfl)
theorem Zcg(b:Expr){op:CmpOp}(h:op≠ .In:=by decide)(h2:op≠ .NotIn:=by decide):U4 op b=false:=by
 have e1:(op==CmpOp.In)=false:=by cases op<;>first|rfl|exact absurd rfl h
 have e2:(op==CmpOp.NotIn)=false:=by cases op<;>first|rfl|exact absurd rfl h2
 cases b<;>simp[U4,e1,e2]
theorem Z17{op:CmpOp}{r:R2}(ho:OpR X (Qx op) r)(ha:PE X a ta)(hb:PE X b tb)(hm:U4 op b=false):PE X (.Compare a [op] [b] pos) (tOp r ta tb):=by
 intro pins s σ H Q I h
 exact wpAny_Compare1 (Z9w ha hb I h λv u s2 x y H2 I2 rx ry q=>ho pins s2 σ H2 x y v u Q I2 rx ry q) hm
noncomputable def Zv3(t:TE):TT:=λσ H Q=>t σ H λx H'=>∃k,x= .bl k∧Q k H'
theorem Zy8{op:CmpOp}{r:R2}(ho:OpR X (Qx op) r)(ha:PE X a ta)(hb:PE X b tb)(hm:U4 op b=false):PT X (.Compare a [op] [b] pos) (Zv3 (tOp r ta tb)):=by
 intro pins s σ H Q I h
 refine wpAny_isTrue_Compare1 (thn (ha pins s σ H _ I h) λv s1 ⟨x,H1,I1,r1,q1⟩=>thn (hb pins s1 σ H1 _ I1 q1) λu s2 ⟨y,H2,I2,r2,q2⟩=>
  thn (ho pins s2 σ H2 x y v u _ I2 r1 r2 q2) λc s3 ⟨z,H3,I3,r3,k,e,q3⟩=>?_) hm
 subst e
 cases r3
 exact Q7 ⟨H3,I3,q3⟩
noncomputable def Zrx(r r':R2)(ta tb tc:TE):TE:=λσ H Q=>ta σ H λx H1=>tb σ H1 λy H2=>r x y H2 λz H3=>∃k,z= .bl k∧
 (if k=true then tc σ H3 λw' H4=>r' y w' H4 Q else Q (.bl false) H3)
theorem Zvl{op op':CmpOp}{r r':R2}(ho:OpR X (Qx op) r)(ho':OpR X (Qx op') r')(ha:PE X a ta)(hb:PE X b tb)(hc:PE X c tc)
  (hm:lastMarks [op,op'] [b,c]=false:=by with_unfolding_all rfl):PE X (.Compare a [op,op'] [b,c] pos) (Zrx r r' ta tb tc):=by
 intro pins s σ H Q I h
 refine Compare_chain (thn (ha pins s σ H _ I h) λv s1 ⟨x,H1,I1,r1,q1⟩=>chain_link (thn (hb pins s1 σ H1 _ I1 q1) λu s2 ⟨y,H2,I2,r2,q2⟩=>
  thn (ho pins s2 σ H2 x y v u _ I2 r1 r2 q2) λd s3 ⟨z,H3,I3,r3,k,e,q3⟩=>?_)) hm
 subst e
 cases r3
 refine Q7 ?_
 cases k with
 | false=>exact ite_ff ⟨.bl false,H3,I3,rfl,q3⟩
 | true=>exact ite_tt (chain_last (thn (hc pins s3 σ H3 _ I3 q3) λw' s4 ⟨z',H4,I4,r4,q4⟩=>ho' pins s4 σ H4 y z' u w' Q I4 r2 r4 q4))
theorem Zum{op op':CmpOp}{r r':R2}(ho:OpR X (Qx op) r)(ho':OpR X (Qx op') r')(ha:PE X a ta)(hb:PE X b tb)(hc:PE X c tc)
  (hm:lastMarks [op,op'] [b,c]=false:=by with_unfolding_all rfl):PT X (.Compare a [op,op'] [b,c] pos) (Zv3 (Zrx r r' ta tb tc)):=by
 intro pins s σ H Q I h
 refine isTrue_chain (thn (ha pins s σ H _ I h) λv s1 ⟨x,H1,I1,r1,q1⟩=>test_link (thn (hb pins s1 σ H1 _ I1 q1) λu s2 ⟨y,H2,I2,r2,q2⟩=>
  thn (ho pins s2 σ H2 x y v u _ I2 r1 r2 q2) λd s3 ⟨z,H3,I3,r3,k,e,q3⟩=>?_)) hm
 subst e
 cases r3
 refine Q7 ?_
 cases k with
 | false=>
  obtain⟨k',e',q'⟩:=q3
  cases e'
  exact ite_ff ⟨H3,I3,q'⟩
 | true=>
  refine ite_tt (test_last (thn (hc pins s3 σ H3 _ I3 q3) λw' s4 qz9=>?_))
  obtain⟨z',H4,I4,r4,q4⟩:=qz9
  refine thn (ho' pins s4 σ H4 y z' u w' _ I4 r2 r4 q4) λd' s5 qz9=>?_
  obtain⟨z2,H5,I5,r5,k2,e2,q5⟩:=qz9
  subst e2
  cases r5
  exact Q7 ⟨H5,I5,q5⟩
noncomputable def Ybe(K:Xc)(x:V)(H:Hp)(k:Bool):Prop :=
 match x with
 | .non=>k=false
 | .bl b=>k=b
 | .int i=>k=(i !=0)
 | .str y=>y.length≤Xq∧k=((y.length:Int) !=0)
 | .byt y=>y.size≤Xq∧k=((y.size:Int) !=0)
 | .ref p=>(∃xs,SqL K H p xs∧k= !xs.isEmpty)∨(∃xs,SqT K H p xs∧k= !xs.isEmpty)∨∃kvs,H p=some (.dK kvs)∧k= !kvs.isEmpty
 | _=>False
theorem Zn5{κ:Type}{kvs:List (κ×V)}{vs:List (κ×Xe)}(r:KV kvs vs):(!vs.isEmpty)= !kvs.isEmpty:=by
 cases r<;>rfl
theorem Zh6{xs:List V}{its:List Xe}(r:Vals xs its):(!its.toArray.isEmpty)= !xs.isEmpty:=by
 cases r<;>simp
theorem Zhl:(Xq:Nat)<2^63:=by rw[XN];decide
theorem Z7y:Yfz X (λx H Q=>∃k,Ybe X.K x H k∧Q k H):=by
 intro pins s σ H x v Q I rx h
 obtain⟨k,e,q⟩:=h
 have hl:=Zhl
 have hs:Xq=16777216:=XN
 cases x with
 | non=>
  cases rx
  have e':k=false:=e
  subst e'
  exact truthy_none ⟨H,I,q⟩
 | bl b=>
  cases rx
  have e':k=b:=e
  subst e'
  exact Q7 ⟨H,I,q⟩
 | int i=>
  obtain⟨t,rfl⟩:=rx
  have e':k=(i !=0):=e
  subst e'
  exact PySem.P.truthy_int ⟨H,I,q⟩
 | str y=>
  obtain⟨t,rfl⟩:=rx
  obtain⟨hy,e'⟩:y.length≤Xq∧k=((y.length:Int) !=0):=e
  subst e'
  exact PySem.P.truthy_str (by omega) ⟨H,I.tok _,q⟩
 | byt y=>
  obtain⟨t,rfl⟩:=rx
  obtain⟨hy,e'⟩:y.size≤Xq∧k=((y.size:Int) !=0):=e
  subst e'
  exact PySem.W.truthy_bytes (by omega) ⟨H,I.tok _,q⟩
 | ref p=>
  cases rx
  have e':(∃xs,SqL X.K H p xs∧k= !xs.isEmpty)∨(∃xs,SqT X.K H p xs∧k= !xs.isEmpty)∨∃kvs,H p=some (.dK kvs)∧k= !kvs.isEmpty:=e
  rcases e' with⟨xs,hx,e'⟩|⟨xs,hx,e'⟩|⟨kvs,hx,e'⟩
  ·subst e'
   obtain⟨its,r,pl,hz⟩:=I.list hx
   have hlen:=r.length
   exact wpAny_truthy_list pl.isList (by simp only[Xy];omega) ⟨H,I.tok _,by rw[Zh6 r];exact q⟩
  ·subst e'
   obtain⟨its,r,pl,hz⟩:=I.tuple hx
   have hlen:=r.length
   exact truthy_tuple pl (by simp only[Xy];omega) ⟨H,I.tok _,by rw[Zh6 r];exact q⟩
  ·subst e'
   obtain⟨hz,hS,vs,r,m⟩:kvs.length≤Xq∧(p==V2)=false∧∃vs,KV kvs vs∧s.heap.DictOf (Wg X.prog X.w) p vs:=I.hok p _ hx
   have hlen:kvs.length=vs.length:=Paired.length r
   exact wpAny_truthy_dict hS m (by omega) ⟨H,I.tok _,by rw[Zn5 r];exact q⟩
 | _=>exact(show False from e).elim
theorem Zup(ha:PE X a ta)(he:∀whole,isTrue a X.env whole=(do let v←whole;standAt a.pos;holding [v] (truthy v))) :
  PT X a (λσ H Q=>ta σ H λx H'=>∃k,Ybe X.K x H' k∧Q k H'):=by
 intro pins s σ H Q I h
 refine isTrue_plain (thn (ha pins s σ H _ I h) λv s1 qz9=>?_) (he _)
 obtain⟨x,H1,I1,r1,q1⟩:=qz9
 exact Z7y pins s1 σ H1 x v Q I1 r1 q1
theorem Zaf:OpR X (Vl .Add) (λx y H Q=>∃i j,x= .str i∧y= .str j∧i.length+j.length≤Xq∧Q (.str (i ++ j)) H):=by
 intro pins s σ H x y v u Q I rx ry h
 obtain⟨i,j,rfl,rfl,hz,q⟩:=h
 obtain⟨t,rfl⟩:=rx
 obtain⟨t',rfl⟩:=ry
 exact add_str (λt' tk=>⟨.str (i ++ j),H,I.tok _,⟨_,rfl⟩,q⟩) hz
theorem vals1{x:V}{us:List Xe}(r:Vals [x] us):∃u,us=[u]∧RelV x u:=by
 cases r with
 | cons r1 r2=>cases r2;exact⟨_,rfl,r1⟩
theorem vals2{x y:V}{us:List Xe}(r:Vals [x,y] us):∃u w',us=[u,w']∧RelV x u∧RelV y w':=by
 cases r with
 | cons r1 r2=>
  cases r2 with
  | cons r3 r4=>cases r4;exact⟨_,_,rfl,r1,r3⟩
theorem Zrm:Zcd X (.type "int") (λxs H Q=>(∃i,xs=[.int i]∧Q (.int i) H)∨∃k,xs=[.bl k]∧Q (.int (if k then 1 else 0)) H):=by
 intro pins s σ H xs us Q I r h
 rcases h with⟨i,rfl,q⟩|⟨k,rfl,q⟩
 ·obtain⟨u,rfl,t,rfl⟩:=vals1 r
  exact call_int_int ⟨.int i,H,I,⟨_,rfl⟩,q⟩
 ·obtain⟨u,rfl,r1⟩:=vals1 r
  cases r1
  exact call_int_bool ⟨.int (if k then 1 else 0),H,I.tok _,⟨_,rfl⟩,q⟩
end
structure ObjM(h:Heap)(x dx C:Addr)(mA:Str->Option Xe):Prop where
 obj:h.get? x=some (PySem.W.instObj C dx)
 ns:h.Ns1 dx mA
 ne:dx≠x
theorem Zry{h:Heap}{dx:Addr}{mA:Str->Option Xe}(n:h.Ns1 dx mA):∃od,h.get? dx=some od∧∀name,PySem.W.lookIn name od=some (mA name):=by
 obtain⟨o,es,ep,ho,hd,hk,_,hm⟩:=n
 refine⟨o,ho,λname=>?_⟩
 have e:=hm name
 unfold nsFind findBy at e
 rw[←Array.find?_toList]at e
 unfold PySem.W.lookIn
 rw[hd]
 dsimp only
 split
 ·rename_i y q
  rw[q]at e
  exact congrArg some e
 ·rename_i q
  rw[q]at e
  have a:es.toList.any (·.refKey)=false:=by
   rw[List.any_eq_false]
   intro y hy
   obtain⟨z,t,hkey⟩:=hk y (Array.mem_toList_iff.mp hy)
   simp[DictEntry.refKey,hkey]
  have a':¬es.toList.any (·.refKey)=true:=by rw[a];exact Xv
  rw[if_neg a']
  exact congrArg some e
theorem ObjM.look{h:Heap}{x dx C:Addr}{mA:Str->Option Xe}(I:ObjM h x dx C mA):∃od,PySem.W.InstAt h x (PySem.W.instObj C dx) C (some od)∧∀name,PySem.W.lookIn name od=some (mA name) :=
 let⟨od,ho,hl⟩:=Zry I.ns
 ⟨od,⟨I.obj,rfl,rfl,ho⟩,hl⟩
section
variable {prog:XS}{w:Qq}{A:Qs}{E:Xe->Xg->Prop}{s:Xg}{K:Xc}{x dx C f:Addr}{mA:Str->Option Xe}{name:Str}{v:Xe}
end
theorem RelO.some_of{v:V}{o:Option Xe}(r:RelO (some v) o):∃u,o=some u∧RelV v u:=by
 cases o with
 | none=>exact(show False from r).elim
 | some u=>exact⟨u,rfl,r⟩
section
variable {P:XS}{w:Qq}{H H':Hp}{h h':Heap}{a C dx:Addr}{fs fs':List (Str×V)}
theorem Z03(hok:HOk P w H h)(e:H a=some (.ins C dx fs)):∃mA,ObjM h a dx C mA∧(∀f,RelO (fs.lookup f) (mA f))∧PySem.Within mA (fs.map (·.1))∧fs.length≤1000∧H dx=some (.own a):=by
 obtain⟨d,z,ne,ob,mA,n,r,q⟩:=(show ObjOk P w H h a (.ins C dx fs)from hok a _ e)
 exact⟨mA,⟨ob,n,ne⟩,r,q,z,d⟩
end
structure Cls(K:Xc)(C:Addr):Prop where
 pg:PySem.W.plainGet K C Str.empty=true
 hd:PySem.W.hasDictIn K C=true
 po:PySem.W.plainOver K C=true
 sa:Vj K (.ref C) "__setattr__"=some (some (.builtin "object.__setattr__"))
theorem Cls.get{K:Xc}{C:Addr}(c:Cls K C)(f:Str):PySem.W.plainGet K C f=true:=c.pg
structure Con(K:Xc)(C:Addr)(f:Str)(v:V)(u:Xe):Prop where
 at_:Vj K (.ref C) f=some (some u)
 rel:RelV v u
 get:PySem.W.specialIn K u "__get__"=some none
 cp:PySem.W.copiedNames.contains f=false
structure Meth(K:Xc)(C:Addr)(m:Str)(f:Addr):Prop where
 at_:Vj K (.ref C) m=some (some (.ref f))
 fn:PySem.W.isFn K (.ref f)=true
 kp:Vv K (.ref f)=true
section
variable {X:Cx}{pins:List (Addr×Obj)}{σ:St}{H:Hp}{s:Xg}{a C dx:Addr}{fs:List (Str×V)}{f:Str}{v:V}{A:Qs}{E:Xe->Xg->Prop}
end
section
variable {X:Cx}{o e value:Expr}{f:Str}{pos pos' tpos:Pos}{ta tv:TE}
end
section
variable {X:Cx}{pins:List (Addr×Obj)}{σ:St}{H:Hp}{s:Xg}{A:Qs}{E:Xe->Xg->Prop}{Q:Xe->Xg->Prop}{c:Xe}{b:Bool}
inductive Zpf(K:Xc)(H:Hp):V->Xe->Prop where
 | non:Zpf K H .non (.type "NoneType")
 | bl (x:Bool):Zpf K H (.bl x) (.type "bool")
 | int (i:Int):Zpf K H (.int i) (.type "int")
 | str (x:Str):Zpf K H (.str x) (.type "str")
 | flt (x:UInt64):Zpf K H (.flt x) (.type "float")
 | lst {a:Addr} {xs:List V} (e:H a=some (.lst xs)):Zpf K H (.ref a) (.type "list")
 | frz {a:Addr} {o:Obj} {xs:List V} (e:H a=some (.frz o (.lst xs))):Zpf K H (.ref a) (.type "list")
 | tup {a:Addr} {xs:List V} (e:H a=some (.tup xs)):Zpf K H (.ref a) (.type "tuple")
 | dK {a:Addr} {kvs:List (Key×V)} (e:H a=some (.dK kvs)):Zpf K H (.ref a) (.type "dict")
 | dT {a:Addr} {kvs:List (List Key×V)} (e:H a=some (.dT kvs)):Zpf K H (.ref a) (.type "dict")
 | ins {a C dx:Addr} {fs:List (Str×V)} (e:H a=some (.ins C dx fs)) (cl:Cls K C) (ha:Vj K (.ref C) "__class__"=some (some (.builtin "object.__class__")))
   (hn:PySem.W.specialIn K (.builtin "object.__class__") "__get__"=some (some (.builtin "getset_descriptor.__get__"))) (htk:PySem.W.takesIn K (.builtin "object.__class__")=some true)
   (hm:PySem.W.mroIn K C (.type "object")=some true):Zpf K H (.ref a) (.ref C)
theorem Jt{x:V}{u t:Xe}(I:Inv X pins σ H s)(rx:RelV x u)(ty:Zpf X.K H x t)(e:Vi X.K t c=some b)(h:∀tk,Q (.bool b) { s with toks:=tk }) :
  XD (XR X.prog X.w) A (call (.builtin "isinstance") [u,c]) Q E s:=by
 cases ty with
 | non=>cases(show u=QX from rx);exact Q8 PySem.W.kitx_none I.kIn Vp e (λz=>nomatch z) h
 | bl y=>cases(show u=Uo y from rx);exact Q8 PySem.W.kitx_bool I.kIn Vp e (λz=>nomatch z) h
 | int i=>obtain⟨t,q⟩:=(show∃t,u=Vm i t from rx);cases q;exact Q8 PySem.W.kitx_int I.kIn Vp e (λz=>nomatch z) h
 | str y=>obtain⟨t,q⟩:=(show∃t,u=Value.str y t from rx);cases q;exact Q8 PySem.W.kitx_str I.kIn Vp e (λz=>nomatch z) h
 | flt y=>obtain⟨t,q⟩:=(show∃t,u=Xe.float y t from rx);cases q;exact Q8 PySem.W.kitx_float I.kIn Vp e (λz=>nomatch z) h
 | @lst a xs ea=>
  cases(show u=Qn a from rx)
  obtain⟨_,_,n,_,h1⟩:=(show ObjOk X.prog X.w H s.heap a (.lst xs)from I.hok a _ ea)
  exact Q8 PySem.W.kitx_list I.kIn ⟨_,h1,rfl⟩ e (λz=>nomatch z) h
 | @frz a ob xs ea=>
  cases(show u=Qn a from rx)
  obtain⟨_,_,_,n,_,h1⟩:=(show ObjOk X.prog X.w H s.heap a (.frz ob (.lst xs))from I.hok a _ ea)
  exact Q8 PySem.W.kitx_list I.kIn ⟨_,h1,rfl⟩ e (λz=>nomatch z) h
 | @tup a xs ea=>
  cases(show u=Qn a from rx)
  obtain⟨_,_,_,p⟩:=(show ObjOk X.prog X.w H s.heap a (.tup xs)from I.hok a _ ea)
  obtain⟨o,h1,h2,_⟩:=p
  exact Q8 PySem.W.kitx_tuple I.kIn ⟨o,h1,h2⟩ e (λz=>nomatch z) h
 | @dK a kvs ea=>
  cases(show u=Qn a from rx)
  obtain⟨_,_,vs,_,p⟩:=(show ObjOk X.prog X.w H s.heap a (.dK kvs)from I.hok a _ ea)
  obtain⟨o,es,ep,h1,h2,_⟩:=p
  exact Q8 PySem.W.kitx_dict I.kIn ⟨o,h1,h2.1⟩ e (λz=>nomatch z) h
 | @dT a kvs ea=>
  cases(show u=Qn a from rx)
  obtain⟨_,_,xs,_,o,es,ep,h1,h2,_⟩:=(show ObjOk X.prog X.w H s.heap a (.dT kvs)from I.hok a _ ea)
  exact Q8 PySem.W.kitx_dict I.kIn ⟨o,h1,h2.1⟩ e (λz=>nomatch z) h
 | @ins a C dx fs ea cl ha hn htk hm=>
  cases(show u=Qn a from rx)
  obtain⟨mA,O,_⟩:=Z03 I.hok ea
  obtain⟨od,J,_⟩:=O.look
  exact Q8 (PySem.W.kitx_own (cl.get _) cl.hd ha hn htk hm) I.kIn J e (λz=>nomatch z) h
end
structure Room(k:Nat)(A:Qs):Prop where
 hd:A.handled=none
 dp:A.depth+3*k+5<recursionLimit
 un:A.units+16*k+200<V8
theorem Room.mono{j k:Nat}{A:Qs}(r:Room k A)(h:j≤k):Room j A:=⟨r.hd,by have:=r.dp;omega,by have:=r.un;omega⟩
theorem Room.deeper{k:Nat}{A:Qs}(r:Room (k+1) A)(env:Env):Room k (A.deeper env) :=
 ⟨r.hd,by have:=r.dp;show A.depth+1+3*k+5<_;omega,by have:=r.un;show A.units+3+16*k+200<_;omega⟩
theorem Room.depth{k:Nat}{A:Qs}(r:Room k A):A.depth<recursionLimit:=by have:=r.dp;omega
theorem Room.units{k:Nat}{A:Qs}(r:Room k A):A.units+64<V8:=by have:=r.un;omega
noncomputable def Yfu:TA:=λ_ H Q=>Q [] H
noncomputable def Yap(ta:TE)(tr:TA):TA:=λσ H Q=>ta σ H λx H1=>tr σ H1 λxs H2=>Q (x :: xs) H2
section
variable {X:Cx}{e:Expr}{es:List Expr}{te:TE}{t:TA}{pos:Pos}
theorem Zf2:PA X [] Yfu:=λ_ _ _ _ H Q I h=>Calls.spliced_nil ⟨[],H,I,.nil,h⟩
theorem Zbq(ha:PE X e te)(hr:PA X es t)(hs:Xu (e :: es) X.env=(false,eval e X.env) :: Xu es X.env:=by rfl):PA X (e :: es) (Yap te t):=by
 intro pos pins s σ H Q I h
 rw[hs]
 show XD _ _ (spliced ((false,eval e X.env) :: JD pos (Xu es X.env))) _ _ s
 refine Calls.spliced_cons (thn (ha pins s σ H _ I h) λu s1 qz9=>?_)
 obtain⟨x,H1,I1,r1,q1⟩:=qz9
 refine thn (hr pos pins s1 σ H1 _ I1 q1) λus s2 qz9=>?_
 obtain⟨xs,H2,I2,r2,q2⟩:=qz9
 exact⟨x :: xs,H2,I2,.cons r1 r2,q2⟩
noncomputable def Yg2(t:TA):TE:=λσ H Q=>t σ H λxs H1=>xs.length≤Xq∧∀p,H1 p=none->Q (.ref p) (upd H1 p (.tup xs))
noncomputable def Yfe(t:TA):TE:=λσ H Q=>t σ H λxs H1=>xs.length≤Xq∧∀p,H1 p=none->Q (.ref p) (upd H1 p (.lst xs))
theorem Zx8{x1}(h:PA X es t):PE X (.Tuple es x1 pos) (Yg2 t):=by
 intro pins s σ H Q I hq
 refine wpAny_Tuple_spliced (thn (h pos pins s σ H _ I hq) λus s1 ⟨xs,H1,I1,r,z,q⟩=>⟨by rw[←r.length];exact z,?_⟩)
 have hf:H1 s1.heap.objs.size=none:=I1.hok.fresh (Xz _)
 refine⟨.ref s1.heap.objs.size,upd H1 s1.heap.objs.size (.tup xs),I1.laid (t':=s1.toks) (λb u e=>Xf _ e) (Xz _) ?_,rfl,q _ hf⟩
 exact⟨z,us,r,⟨_,XC _ rfl,rfl,_,rfl⟩⟩
theorem Z34(h:PA X es t):PE X (.List es pos) (Yfe t):=by
 intro pins s σ H Q I hq
 refine wpAny_List_spliced (thn (h pos pins s σ H _ I hq) λus s1 ⟨xs,H1,I1,r,z,q⟩=>⟨by rw[←r.length];exact z,?_⟩)
 have hf:H1 s1.heap.objs.size=none:=I1.hok.fresh (Xz _)
 refine⟨.ref s1.heap.objs.size,upd H1 s1.heap.objs.size (.lst xs),I1.laid (t':=s1.toks) (λb u e=>Xf _ e) (Xz _) ?_,rfl,q _ hf⟩
 exact⟨z,us,0,r,XC _ rfl⟩
end
noncomputable abbrev Sp:=List V->Hp->VK->XK->Prop
noncomputable abbrev CXT:=List Env->Hp->Xg->XK->Xe->Xg->Prop
structure Z9i(P:XS)(w:Qq)(K:Xc)(mg:Str->Option Xe)(base:Heap)(A:Qs)(outer:List Env)(s:Xg)(H:Hp):Prop where
 frames:A.frames=some outer
 mod:Mod K mg base
 bs:∀b o,base.get? b=some o->s.heap.get? b=some o∧H b=none
 bsz:base.objs.size≤s.heap.objs.size
 funs:s.heap.FunFrames base outer
 frf:∀b∈frs outer,H b=none
 hok:HOk P w H s.heap
 bare:AllBare s.gens
noncomputable def CE(outer:List Env)(P:XS)(w:Qq)(H:Hp)(s:Xg)(Q:VK)(u:Xe)(s':Xg):Prop :=
 ∃v H',s'.os=s.os∧AllBare s'.gens∧Un (frs outer) [] H H' s.heap s'.heap∧HOk P w H' s'.heap∧RelV v u∧Q v H'
noncomputable def CR(CX:CXT)(outer:List Env)(P:XS)(w:Qq)(H:Hp)(s:Xg)(Q:VK)(E:XK)(r:Result)(s':Xg):Prop :=
 match r with
 | .ok (.ret u)=>CE outer P w H s Q u s'
 | .ok _=>False
 | .error e=>CX outer H s E e s'
structure FnOk(P:XS)(w:Qq)(K:Xc)(mg:Str->Option Xe)(base:Heap)(CX:CXT)(k:Nat)(f:Addr)(fd:Qc)(ps:List Str)(sp:Sp):Prop where
 len:∀vs H Q E,sp vs H Q E->vs.length=ps.length
 run:∀(A:Qs) (outer:List Env) (s:Xg) (H:Hp) (args:Args) (us:List Xe) (vs:List V) (Q:VK) (E:XK),Room k A->Z9i P w K mg base A outer s H->BindsTo s fd args (ps.zip us)->Vals vs us->sp vs H Q E ->
  U3 (XR P w) A (.call (.ref f) args) (CR CX outer P w H s Q E) s
theorem FnOk.imp{P:XS}{w:Qq}{K:Xc}{mg:Str->Option Xe}{base:Heap}{CX:CXT}{k:Nat}{f:Addr}{fd:Qc}{ps:List Str}{sp sp':Sp}(F:FnOk P w K mg base CX k f fd ps sp)
  (h:∀vs H Q E,sp' vs H Q E->sp vs H Q E):FnOk P w K mg base CX k f fd ps sp' :=
 ⟨λvs H Q E q=>F.len vs H Q E (h _ _ _ _ q),λA outer s H args us vs Q E hr he hb hv hs=>F.run A outer s H args us vs Q E hr he hb hv (h _ _ _ _ hs)⟩
section
variable {X:Cx}{pins:List (Addr×Obj)}{σ:St}{H:Hp}{s s':Xg}
theorem Inv.env0(I:Inv X pins σ H s):Z9i X.prog X.w X.K X.mg X.base X.A X.stack s H :=
 ⟨I.ok.frames,I.ok.mod,I.bs,Ql I.ok.bsz I.sz,I.stack,I.stkFree,I.hok,I.bare⟩
theorem Inv.after{Q:VK}{u:Xe}(I:Inv X pins σ H s)(h:CE X.stack X.prog X.w H s Q u s'):EP X pins σ Q u s':=by
 obtain⟨v,H',os,bare,un,hok,r,q⟩:=h
 obtain⟨hh,g,d,t,os'⟩:=s'
 obtain rfl:os'=s.os:=os
 exact⟨v,H',I.call (h':=hh) (g':=g) (d':=d) (t':=t) (ch:=[]) un hok bare (λb z=>absurd z (by simp)),r,q⟩
end
noncomputable def Z3k(sp:Sp)(dvs:List V)(E:XK)(t:TA):TE:=λσ H Q=>t σ H λvs H1=>sp (vs ++ dvs) H1 Q E
noncomputable def Binds(K:Xc)(fd:Qc)(ps:List Str)(ds:List Xe):Prop :=
 ∀(s:Xg) (us:List Xe),K.In s.heap->(us ++ ds).length=ps.length->BindsTo s fd ⟨us,[]⟩ (ps.zip (us ++ ds))
theorem Binds.all{K:Xc}{fd:Qc}{ps:List Str}(h:∀us:List Xe,us.length=ps.length->bindArgs fd ⟨us,[]⟩=pure (ps.zip us)):Binds K fd ps []:=λs us _ hl=>by
 rw[Qk]at hl⊢
 exact .of_eq (h us hl)
noncomputable def Znw(CX:CXT)(X:Cx)(E:XK):Prop:=∀(pins:List (Addr×Obj)) (σ:St) (H:Hp) (s:Xg) (e:Xe) (s':Xg),Inv X pins σ H s->CX X.stack H s E e s'->X.xe e s'
section
variable {X:Cx}{CX:CXT}{k:Nat}{f C:Addr}{fd:Qc}{ps:List Str}{sp:Sp}{dvs:List V}{ds:List Xe}{E:XK}{x m:Str}{p pos apos:Pos}{e o:Expr}{es:List Expr}{ta:TE}{t:TA}
theorem Z3y{pins:List (Addr×Obj)}{σ:St}{H:Hp}{s:Xg}{Q:VK}{us:List Xe}{vs:List V}(F:FnOk X.prog X.w X.K X.mg X.base CX k f fd ps sp)(hr:Room k X.A)(hb:Binds X.K fd ps ds)(hd:Vals dvs ds)(hx:Znw CX X E)
  (I:Inv X pins σ H s) (r:Vals vs us) (h:sp (vs ++ dvs) H Q E):XD (XR X.prog X.w) X.A (call (.ref f) us) (EP X pins σ Q) X.xe s:=by
 have r2:Vals (vs ++ dvs) (us ++ ds):=r.append hd
 have hl:(us ++ ds).length=ps.length:=by rw[←r2.length];exact F.len _ _ _ _ h
 refine wpAny_call (codeAny_mono (F.run X.A X.stack s H ⟨us,[]⟩ (us ++ ds) (vs ++ dvs) Q E hr I.env0 (hb s us I.kIn hl) r2 h) λr s' hq=>?_)
 cases r with
 | error e=>exact hx pins σ H s e s' I hq
 | ok fl=>
  cases fl with
  | ret u=>exact I.after hq
  | next=>exact VB hq
  | brk=>exact VB hq
  | cont=>exact VB hq
theorem Zzx(F:FnOk X.prog X.w X.K X.mg X.base CX k f fd ps sp)(hr:Room k X.A)(hg:Gl X x)(hm:X.mg x=some (.ref f))(hk:Vv X.K (.ref f)=true)(hb:Binds X.K fd ps ds)(hd:Vals dvs ds)(hx:Znw CX X E)
  (ha:PA X (e :: es) t) (hdb:(x==("__debug__" : Str))=false:=by decide) (he:Xu (e :: es) X.env=(false,eval e X.env) :: Xu es X.env:=by rfl) (hpl:(JD pos (Xu es X.env)).any (·.1)=false:=by rfl) :
  PE X (.Call (.Name x p) (e :: es) [] pos) (Z3k sp dvs E t):=by
 intro pins s σ H Q I h
 refine Vf (Zrq I hg hm ?_ hdb)
 refine PySem.W.callWith_K (h₀:=X.base) I.ok.mod.kin hk (thn (ha pos pins s σ H _ I h) λus s1 qz9=>?_) he hpl
 obtain⟨vs,H1,I1,r,q⟩:=qz9
 refine⟨I1.kIn,?_⟩
 exact Z3y F hr hb hd hx I1 r q
structure Mk(K:Xc)(C f:Addr):Prop where
 makes:PySem.W.makesIn K C=true
 init:Vj K (.ref C) "__init__"=some (some (.ref f))
 fn:PySem.W.isFn K (.ref f)=true
 kp:Vv K (.ref C)=true
end
section
variable {X:Cx}{CX:CXT}{k:Nat}{f C:Addr}{fd:Qc}{ps ks:List Str}{sp:Sp}{E:XK}{x m:Str}{p pos apos kpos:Pos}{e o:Expr}{es:List Expr}{kws:List Vn}{te ta:TE}{t tk:TA}{nm:Option Str}
structure Yd2(K:Xc)(fd:Qc)(ps ks:List Str)(g:List Xe->List Xe->List Xe)(gV:List V->List V->List V):Prop where
 to:∀(s:Xg) (us ws:List Xe),K.In s.heap->(g us ws).length=ps.length->BindsTo s fd ⟨us,ks.zip ws⟩ (ps.zip (g us ws))
 rel:∀{vs:List V} {us:List Xe} {zs:List V} {ws:List Xe},Vals vs us->Vals zs ws->Vals (gV vs zs) (g us ws)
variable {g:List Xe->List Xe->List Xe}{gV:List V->List V->List V}
end
structure Zt(N P:List Str)(sc:U5):Prop where
 kind:sc.kind= .function
 co:sc.isCoroutine=false
 gen:sc.isGenerator=false
 nd:N.Nodup
 pre:N.take P.length=P
 par:∀x∈P,sc.names.lookup x=some .local∨sc.names.lookup x=some .cell
 nofree:∀y∈sc.names,y.2≠ .free
theorem Zko{kindOf:Str->Option By}{x:Str}:∀{binds:List (Str×Xe)} {m:Str->Option Xe},(∀v,(x,v)∉binds)->bindL kindOf binds m x=m x
 | [],_,_=>rfl
 | (n,v) :: r,m,h=>by
  unfold bindL
  rw[Zko λw hw=>h w (UJ _ hw)]
  split
  ·have:x≠n:=by rintro rfl;exact h v U7
   simp[this]
  ·rfl
theorem Zkq{kindOf:Str->Option By}{x:Str}:∀{binds:List (Str×Xe)} {m:Str->Option Xe},(∀v,(x,v)∉binds)->bindC kindOf binds m x=m x
 | [],_,_=>rfl
 | (n,v) :: r,m,h=>by
  unfold bindC
  rw[Zkq λw hw=>h w (UJ _ hw)]
  split
  ·rfl
  ·have:x≠n:=by rintro rfl;exact h v U7
   simp[this]
theorem Zk0{kindOf:Str->Option By}{x:Str}{v:Xe}:∀{P:List Str} {vs:List Xe} {i:Nat} {m:Str->Option Xe},P.Nodup->P[i]? =some x->vs[i]? =some v->kindOf x=some .local ->
  bindL kindOf (P.zip vs) m x=some v
 | [],_,_,_,_,h,_,_=>by simp at h
 | _ :: _,[],_,_,_,_,h,_=>by simp at h
 | p :: P,w :: vs,0,m,nd,h1,h2,hk=>by
  simp at h1 h2;subst h1;subst h2
  show bindL kindOf ((p,w) :: P.zip vs) m p=_
  unfold bindL
  rw[Zko λv hv=>(X6.mp nd).1 (List.of_mem_zip hv).1,if_pos hk]
  simp
 | p :: P,w :: vs,i+1,m,nd,h1,h2,hk=>by
  show bindL kindOf ((p,w) :: P.zip vs) m x=_
  unfold bindL
  exact Zk0 (i:=i) (X6.mp nd).2 (by simpa using h1) (by simpa using h2) hk
theorem Zjz{kindOf:Str->Option By}{x:Str}{v:Xe}:∀{P:List Str} {vs:List Xe} {i:Nat} {m:Str->Option Xe},P.Nodup->P[i]? =some x->vs[i]? =some v->kindOf x≠some .local ->
  bindC kindOf (P.zip vs) m x=some v
 | [],_,_,_,_,h,_,_=>by simp at h
 | _ :: _,[],_,_,_,_,h,_=>by simp at h
 | p :: P,w :: vs,0,m,nd,h1,h2,hk=>by
  simp at h1 h2;subst h1;subst h2
  show bindC kindOf ((p,w) :: P.zip vs) m p=_
  unfold bindC
  rw[Zkq λv hv=>(X6.mp nd).1 (List.of_mem_zip hv).1,if_neg hk]
  simp
 | p :: P,w :: vs,i+1,m,nd,h1,h2,hk=>by
  show bindC kindOf ((p,w) :: P.zip vs) m x=_
  unfold bindC
  exact Zjz (i:=i) (X6.mp nd).2 (by simpa using h1) (by simpa using h2) hk
noncomputable def start(N:List Str)(vs:List V):St:=vs.map some ++ X4 (N.length-vs.length) none
noncomputable def Zxe(CX:CXT)(P:XS)(w:Qq)(K:Xc)(mg:Str->Option Xe)(base:Heap)(N:List Str)(qual:Str)(scope:U5)(f:Addr)(cd:Xe)(A:Qs)(outer:List Env)(s:Xg)(H:Hp)(E:XK):Cx where
 prog:=P
 w:=w
 K:=K
 mg:=mg
 base:=base
 A:=A.deeper (envOfC qual scope s.heap.objs.size f cd)
 N:=N
 s₀:=s
 H₀:=H
 env:=envOfC qual scope s.heap.objs.size f cd
 outer:=outer
 stack:=envOfC qual scope s.heap.objs.size f cd :: outer
 ex:=[]
 calm:=true
 fn:=λ_=>true
 pn:=[]
 xe:=λe s'=>XD (XR P w) (A.deeper (envOfC qual scope s.heap.objs.size f cd)) (leaving (envOfC qual scope s.heap.objs.size f cd) e) (λ_ s''=>CX outer H s E e s'') (λe' s''=>CX outer H s E e' s'') s'
theorem Znp{sc:U5}{n:Nat}{x:Str}(h:sc.names.lookup x=some .cell):∃c,(Bg n sc.names []).lookup x=some c:=by
 have q:=PySem.W.cellsFrom_some sc.names n [] (.inl h)
 exact Option.isSome_iff_exists.mp q
theorem Zsu{CX:CXT}{P:XS}{w:Qq}{K:Xc}{mg:Str->Option Xe}{base:Heap}{N ps:List Str}{qual:Str}{scope:U5}{f:Addr}{cd:Xe}{A:Qs}{outer:List Env}{s s1:Xg}{H:Hp}{E:XK}{us:List Xe}{vs:List V}
  (S:Zt N ps scope) (hd:A.handled=none) (e0:Z9i P w K mg base A outer s H) (hl:vs.length=ps.length) (r:Vals vs us)
  (x:InCallC s s.heap.objs.size (bindL (envOfC qual scope s.heap.objs.size f cd).kindOf (ps.zip us) λ_=>none) (Bg (s.heap.objs.size+1) scope.names []) (bindC (envOfC qual scope s.heap.objs.size f cd).kindOf (ps.zip us) λ_=>none) s1) :
  Inv (Zxe CX P w K mg base N qual scope f cd A outer s H E) [] (start N vs) H s1:=by
 have hpl:ps.length≤N.length:=by have:=congrArg List.length S.pre;rw[Vo]at this;omega
 obtain⟨h1,tk,rfl,hk⟩:=x.done
 have noA:∀b:Addr,b∉(Zxe CX P w K mg base N qual scope f cd A outer s H E).ex:=λb z=>absurd (show b∈([]:List Addr)from z) (by simp)
 refine⟨⟨e0.mod,S.kind,rfl,rfl,Xz _,λy z c h1 h2=>?_,λy hy=>?_,λy c _ h=>?_,λ_=>hd,Qs.frames_deeper e0.frames,.inr ⟨rfl,rfl⟩,λb z=>absurd z (noA b),e0.bs,e0.bsz,λb _ _=>noA b,λb z=>absurd z (noA b),e0.funs,e0.frf⟩,
  rfl,e0.bare,Un.kept hk,⟨_,x.toInCall.ns,λi y v h1 h2 h3=>?_⟩,λy c h=>⟨_,x.cell y c h⟩,e0.hok.fresh (Xz _),λy c h=>?_,λp hp=>absurd (show p∈([]:List (Addr×Obj))from hp) (by simp),e0.hok.kept hk,?_⟩
 ·exact name_of_addr x.apart (JX h1) (JX h2)
 ·have hy:scope.names.lookup y=some .cell∨scope.names.lookup y=some .free:=hy
  rcases hy with hy|hy
  ·exact Znp hy
  ·exact absurd rfl (S.nofree _ (JX hy))
 ·exact Vh (x.above y c (JX h))
 ·have hi:i<vs.length:=by
   unfold start at h2
   by_cases hi:i<vs.length
   ·exact hi
   ·rw[BX (by simpa using hi)]at h2
    rw[List.getElem?_replicate]at h2
    split at h2<;>cases h2
  have ha:vs[i]? =some v:=by
   unfold start at h2
   rw[List.getElem?_append_left (by simpa using hi),Xl]at h2
   cases e:vs[i]? with
   | none=>rw[e]at h2;cases h2
   | some a=>rw[e]at h2;cases h2;rfl
  obtain⟨u,hu,rv⟩:=r.get ha
  have hp:ps[i]? =some y:=by
   rw[←S.pre,List.getElem?_take_of_lt (by omega)];exact h1
  have ndP:ps.Nodup:=by rw[←S.pre];exact S.nd.sublist (List.take_sublist _ _)
  refine⟨u,rv,?_⟩
  rcases S.par y (Q6 hp)with k|k
  ·exact .inl ⟨k,Zk0 ndP hp hu k⟩
  ·obtain⟨c,e⟩:=Znp (n:=s.heap.objs.size+1) k
   refine .inr ⟨.inl k,c,e,?_⟩
   have q:=x.cell y c e
   rw[Zjz ndP hp hu (by show scope.names.lookup y≠_;rw[k];decide)]at q
   exact q
 ·exact e0.hok.fresh (Vh (x.above y c (JX h)))
 ·unfold start
  show _=N.length
  rw[XF,Xd,Vb]
  omega
theorem Yan{CX:CXT}{P:XS}{w:Qq}{K:Xc}{mg:Str->Option Xe}{base:Heap}{k:Nat}{f:Addr}{name qual:Str}{params:Arguments}{body:List Stmt}{scope:U5}{dV kV doc pm cdv ct oc:Xe}{an od:Option Addr}
  {osl:Array (Option Xe)} {N ps:List Str} {sp:Sp} (lk:K.lookup f=some ⟨oc,od,.func (Vz name qual params body scope dV kV doc pm an cdv ct),osl⟩) (hcd:PySem.W.codeIn K cdv qual=true) (S:Zt N ps scope)
  (len:∀vs H Q E,sp vs H Q E->vs.length=ps.length)
  (hbody:∀(A:Qs) (outer:List Env) (s:Xg) (H:Hp) (vs:List V) (Q:VK) (E:XK),Room k (A.deeper (envOfC qual scope s.heap.objs.size f cdv))->sp vs H Q E ->
   ∃t,PSs (Zxe CX P w K mg base N qual scope f cdv A outer s H E) body t∧t { nx:=λ_ H'=>Q .non H',rt:=Q } (start N vs) H) :
  FnOk P w K mg base CX (k+1) f (Vz name qual params body scope dV kV doc pm an cdv ct) ps sp:=by
 refine⟨len,λA outer s H args us vs Q E hr e0 hb r hsp=>?_⟩
 have hl:=len _ _ _ _ hsp
 have KX:K.In s.heap:=e0.mod.kin.keeps λb o e=>(e0.bs b o e).1
 have lim:s.heap.NoLimit:=e0.mod.nolimit.keeps λb o e=>(e0.bs b o e).1
 have hkind:∀y∈ps.zip us,scope.names.lookup y.1=some .local∨(scope.names.lookup y.1=some .cell∧((Bg (s.heap.objs.size+1) scope.names []).lookup y.1).isSome=true):=λ⟨n,v⟩ hy=>by
  rcases S.par n (List.of_mem_zip hy).1 with q|q
  ·exact .inl q
  ·exact .inr ⟨q,PySem.W.cellsFrom_some _ _ _ (.inl q)⟩
 refine codeAny_call_function hr.depth (KX _ _ lk) rfl S.co S.gen rfl (PySem.W.codeRec_of KX hcd) (hb _ _ _ _ ?_)
 refine wpAny_newFunctionEnv_cells S.kind hkind λenv he s1 x=>?_
 subst he
 refine⟨lim.keeps x.toInCall.keep,codeAny_func ?_⟩
 obtain⟨t,ht,hq⟩:=hbody A outer s H vs Q E (hr.deeper _) hsp
 have I:Inv (Zxe CX P w K mg base N qual scope f cdv A outer s H E) [] (start N vs) H s1:=Zsu S hr.hd e0 hl r x
 refine Be (ht [] s1 (start N vs) H _ I hq) (λfl s' hs=>?_) λe s' hs=>hs
 have fin:∀{σ':St} {H':Hp} {v:V} {u:Xe},Inv (Zxe CX P w K mg base N qual scope f cdv A outer s H E) [] σ' H' s'->RelV v u->Q v H'->CE outer P w H s Q u s' :=
  fun{σ' H' v u} J rv q=>⟨v,H',J.os,J.bare,J.base,J.hok,rv,q⟩
 cases fl with
 | ret u=>
  obtain⟨v,σ',H',J,rv,q⟩:=hs
  exact fin J rv q
 | next=>
  obtain⟨σ',H',J,q⟩:=hs
  exact fin (v:=V.non) (u:=QX) J rfl q
 | brk=>
  obtain⟨_,_,_,q⟩:=hs
  exact VB q
 | cont=>
  obtain⟨_,_,_,q⟩:=hs
  exact VB q
section
variable {X:Cx}{x:Str}{p pos:Pos}{e:Expr}{es:List Expr}{t:TA}{id T:String}{r:List V->Hp->VK->Prop}
noncomputable def tCB(r:List V->Hp->VK->Prop)(t:TA):TE:=λσ H Q=>t σ H λvs H1=>r vs H1 Q
theorem Zim(hc:Zcd X (.builtin id) r)(hg:Gl X x)(hm:X.mg x=none)(hv:Qe x=some (.builtin id))(ha:PA X (e :: es) t)(hn:x≠"__name__" :=by decide)(hdb:(x==("__debug__" : Str))=false:=by decide)
  (he:Xu (e :: es) X.env=(false,eval e X.env) :: Xu es X.env:=by rfl) (hpl:(JD pos (Xu es X.env)).any (·.1)=false:=by rfl):PE X (.Call (.Name x p) (e :: es) [] pos) (tCB r t):=by
 intro pins s σ H Q I h
 refine Vf (Zd1 I hg hm hv ?_ hn hdb)
 refine PyProof.Rows.callWith_builtin1 (thn (ha pos pins s σ H _ I h) λus s1 qz9=>?_) he hpl
 obtain⟨vs,H1,I1,r1,q1⟩:=qz9
 exact hc pins s1 σ H1 vs us Q I1 r1 q1
theorem Zla(hc:Zcd X (.type T) r)(hg:Gl X x)(hm:X.mg x=none)(hv:Qe x=some (.type T))(ha:PA X (e :: es) t)(hn:x≠"__name__" :=by decide)(hdb:(x==("__debug__" : Str))=false:=by decide)
  (he:Xu (e :: es) X.env=(false,eval e X.env) :: Xu es X.env:=by rfl) (hpl:(JD pos (Xu es X.env)).any (·.1)=false:=by rfl):PE X (.Call (.Name x p) (e :: es) [] pos) (tCB r t):=by
 intro pins s σ H Q I h
 refine Vf (Zd1 I hg hm hv ?_ hn hdb)
 refine JQ (thn (ha pos pins s σ H _ I h) λus s1 qz9=>?_) he hpl
 obtain⟨vs,H1,I1,r1,q1⟩:=qz9
 exact hc pins s1 σ H1 vs us Q I1 r1 q1
end
end L2
namespace HT
open PySem PyProof.Rows
section
open PySem.SeqAt
open PySem.AutoSeq1 (wpAny_loadPart')
open PySem.MeetsSeq PySem.MeetsSeq2 PySem.MeetsSeq3
end
section
variable {prog:XS}{w:Qq}{A:Qs}{E:Xe->Xg->Prop}{s:Xg}
theorem cat_tup{t b:Addr}{vs ws:List Xe}{Q:Xe->Xg->Prop}(ht:IsTup s.heap t vs.toArray)(hb:IsTup s.heap b ws.toArray)(hv:vs≠[])
  (h1:ws=[]->Q (.ref t) s) (h2:ws≠[]->Q (.ref s.heap.objs.size) { s with heap:=s.heap.push { cls:=.type "tuple",data:=.seq (vs ++ ws).toArray } })
  (hsz:vs.length+ws.length≤Xq):XD (XR prog w) A (Vl .Add (.ref t) (.ref b)) Q E s:=by
 obtain⟨⟨cls,dd,data,sl⟩,ho,hc,n,hd⟩:=id ht
 obtain⟨⟨cls2,dd2,data2,sl2⟩,ho2,hc2,n2,hd2⟩:=id hb
 simp only at hc hd hc2 hd2
 subst hc hd hc2 hd2
 have e:vs.toArray ++ ws.toArray=(vs ++ ws).toArray:=by simp
 by_cases hw:ws=[]
 ·exact concat_meets ⟨_,ho,rfl⟩ ⟨_,ho2,rfl⟩ noFill_tuple_add seq_tuple_add PySem.F.slot_tuple_add PySem.F.entry_tuple_add (PySem.F.args_tuple_add_2 _ _)
   (tuple_addW1 t b vs.toArray ws.toArray n n2 dd dd2 sl sl2 (by simpa using hv) (by simp[hw])) ⟨ho,ho2,h1 hw⟩
 ·refine concat_meets ⟨_,ho,rfl⟩ ⟨_,ho2,rfl⟩ noFill_tuple_add seq_tuple_add PySem.F.slot_tuple_add PySem.F.entry_tuple_add (PySem.F.args_tuple_add_2 _ _)
   (tuple_addW2 t b vs.toArray ws.toArray n n2 dd dd2 sl sl2 (by simpa using hv) (by simpa using hw) (by rw[Xy,Xy];exact hsz)) ⟨ho,ho2,?_⟩
  rw[e]
  exact h2 hw
noncomputable def sIx(n d:Nat):Option Int->Nat
 | none=>d
 | some v=>if v<0 then(v+(n:Int)).toNat else min v.toNat n
theorem sIx_none(n d:Nat):sIx n d none=d:=rfl
theorem sIx_nat(n d k:Nat):sIx n d (some (k:Int))=min k n:=by
 show(if(k:Int)<0 then((k:Int)+(n:Int)).toNat else min (k:Int).toNat n)=min k n
 rw[if_neg (by omega),QJ]
end
end HT
namespace L2
open PySem PySem.Spec PyProof.Rows
noncomputable abbrev TO:=St->Hp->(Option Int->Hp->Prop)->Prop
noncomputable def PO(X:Cx)(e:Option Expr)(t:TO):Prop :=
 ∀(pins:List (Addr×Obj)) (s:Xg) (σ:St) (H:Hp) (Q:Option Int->Hp->Prop),Inv X pins σ H s->t σ H Q ->
  XD (XR X.prog X.w) X.A (evalPart e X.env) (λu s'=>∃o H',Inv X pins σ H' s'∧IsPart u o∧Q o H') X.xe s
noncomputable def Zy0:TO:=λ_ H Q=>Q none H
noncomputable def Ybb(t:TE):TO:=λσ H Q=>t σ H λx H1=>∃i,x= .int i∧Q (some i) H1
section
variable {X:Cx}{e:Expr}{te:TE}{lo hi:Option Expr}{tl th:TO}{pos p2:Pos}
theorem Zz6:PO X none Zy0:=by
 intro pins s σ H Q I h
 rw[evalPart_none]
 exact Xm ⟨none,H,I,.none,h⟩
theorem Zyr(h:PE X e te):PO X (some e) (Ybb te):=by
 intro pins s σ H Q I hw
 rw[evalPart_some]
 refine thn (h pins s σ H _ I hw) λu s1 qz9=>?_
 obtain⟨x,H1,I1,r1,q1⟩:=qz9
 obtain⟨i,rfl,q⟩:=q1
 obtain⟨t,rfl⟩:=r1
 exact⟨some i,H1,I1,.int i t,q⟩
noncomputable def SlR(X:Cx)(r:V->Option Int->Option Int->Hp->VK->Prop):Prop :=
 ∀(pins:List (Addr×Obj)) (s:Xg) (σ:St) (H:Hp) (x:V) (v vl vu:Xe) (lo hi:Option Int) (sl:Addr) (Q:VK),Inv X pins σ H s->RelV x v->s.heap.IsSliceOf sl vl vu .none->IsPart vl lo->IsPart vu hi->r x lo hi H Q ->
  ∃T id,typeLookup (.type T) "__getitem__"=pure (some (.builtin id))∧s.TypeIs v T∧XD (XR X.prog X.w) X.A (getItem v (.ref sl)) (EP X pins σ Q) X.xe s
noncomputable def tSl(r:V->Option Int->Option Int->Hp->VK->Prop)(te:TE)(tl th:TO):TE:=λσ H Q=>te σ H λx H1=>tl σ H1 λl H2=>th σ H2 λu H3=>r x l u H3 Q
theorem Zwk{r:V->Option Int->Option Int->Hp->VK->Prop}(hr:SlR X r)(he:PE X e te)(hl:PO X lo tl)(hu:PO X hi th):PE X (.Subscript e (.Slice lo hi none p2) pos) (tSl r te tl th):=by
 intro pins s σ H Q I h
 refine Subscript_ (thn (he pins s σ H _ I h) λv s1 qz9=>?_)
 obtain⟨x,H1,I1,r1,q1⟩:=qz9
 refine wpAny_Slice (thn (hl pins s1 σ H1 _ I1 q1) λvl s2 qz9=>?_)
 obtain⟨l,H2,I2,pl,q2⟩:=qz9
 refine thn (hu pins s2 σ H2 _ I2 q2) λvu s3 qz9=>?_
 obtain⟨u,H3,I3,pu,q3⟩:=qz9
 rw[evalPart_none]
 refine Xm ?_
 have I4:Inv X pins σ H3 { s3 with heap:=s3.heap.push { cls:=.type "slice",data:=.fields #[vl,vu,.none] } }:=I3.kept (t':=s3.toks) λb ob q=>Xf _ q
 obtain⟨T,id,hT,ht,hg⟩:=hr pins { s3 with heap:=s3.heap.push { cls:=.type "slice",data:=.fields #[vl,vu,.none] } } σ H3 x v vl vu l u s3.heap.objs.size Q I4 r1 (Heap.IsSliceOf.new ..) pl pu q3
 show XD (XR X.prog X.w) X.A (subscriptTail e (.Slice lo hi none p2) v (.ref s3.heap.objs.size)) (EP X pins σ Q) X.xe { s3 with heap:=s3.heap.push { cls:=.type "slice",data:=.fields #[vl,vu,.none] } }
 exact tail_any (ops:=[.ref s3.heap.objs.size,v]) ht hT hg (by with_unfolding_all rfl)
noncomputable def Z3f(xs:List V)(lo hi:Option Int):List V:=(xs.drop (HT.sIx xs.length 0 lo)).take (HT.sIx xs.length xs.length hi-HT.sIx xs.length 0 lo)
theorem Zl0(xs:List V)(lo hi:Option Int):(Z3f xs lo hi).length≤xs.length:=by
 unfold Z3f
 rw[Vo,BR]
 omega
noncomputable def Z3j(K:Xc):R2:=λx y H Q=>∃a b xs ys,x= .ref a∧y= .ref b∧SqT K H a xs∧SqT K H b ys∧xs≠[]∧xs.length+ys.length≤Xq∧
 (ys=[]->Q (.ref a) H)∧(ys≠[]->∀p,H p=none->Q (.ref p) (upd H p (.tup (xs ++ ys))))
theorem Vals.nil_iff{xs:List V}{us:List Xe}(r:Vals xs us):us=[]↔xs=[]:=by
 cases r with
 | nil=>simp
 | cons _ _=>simp
theorem Zyo:OpR X (Vl .Add) (Z3j X.K):=by
 intro pins s σ H x y v u Q I rx ry h
 obtain⟨a,b,xs,ys,rfl,rfl,ha,hb,hx,hz,q1,q2⟩:=h
 cases rx
 cases ry
 obtain⟨its,r1,p1,_⟩:=I.tuple ha
 obtain⟨its2,r2,p2,_⟩:=I.tuple hb
 refine HT.cat_tup p1 p2 (λz=>hx (r1.nil_iff.mp z)) (λz=>⟨.ref a,H,I,rfl,q1 (r2.nil_iff.mp z)⟩) (λz=>?_) (by rw[←r1.length,←r2.length];exact hz)
 refine⟨.ref s.heap.objs.size,_,I.laid (t':=s.toks) (o:=.tup (xs ++ ys)) (λb ob q=>Xf _ q) (Xz _) ?_,rfl,q2 (λw=>z (r2.nil_iff.mpr w)) _ (I.hok.fresh (Xz _))⟩
 exact⟨by rw[XF];exact hz,_,r1.append r2,IsTup.new _ _⟩
end
noncomputable def ixN(n:Nat)(i:Int):Option Nat:=if 0≤i then(if i<n then some i.toNat else none)else if -(n:Int)≤i then some (i+n).toNat else none
noncomputable def atI{α:Type}(xs:List α)(i:Int):Option α:=(ixN xs.length i).bind λj=>xs[j]?
theorem Zrp{n:Nat}{i:Int}{j:Nat}(h:ixN n i=some j):seqIndex? i n=some j∧j<n∧-(n:Int)≤i∧i<n:=by
 unfold ixN at h
 by_cases h0:0≤i
 ·rw[if_pos h0]at h
  by_cases h1:i<n
  ·rw[if_pos h1]at h
   have e:i.toNat=j:=Qu h
   exact⟨by rw[seqIndex_of h0 h1,e],by omega,by omega,h1⟩
  ·rw[if_neg h1]at h;cases h
 ·rw[if_neg h0]at h
  by_cases h1:-(n:Int)≤i
  ·rw[if_pos h1]at h
   have e:(i+n).toNat=j:=Qu h
   exact⟨by rw[seqIndex_neg (by omega) h1,e],by omega,h1,by omega⟩
  ·rw[if_neg h1]at h;cases h
theorem Zme{α:Type}{xs:List α}{i:Int}{v:α}(h:atI xs i=some v):∃j,seqIndex? i xs.length=some j∧xs[j]? =some v∧j<xs.length∧-(xs.length:Int)≤i∧i<xs.length:=by
 unfold atI at h
 cases e:ixN xs.length i with
 | none=>rw[e]at h;cases h
 | some j=>
  rw[e]at h
  obtain⟨h1,h2,h3,h4⟩:=Zrp e
  exact⟨j,h1,h,h2,h3,h4⟩
theorem Zeg{α:Type}{xs:List α}{j:Nat}{v:α}(h:xs[j]? =some v):atI xs (j:Int)=some v:=by
 have hj:j<xs.length:=(Xn.mp h).1
 have e:ixN xs.length (j:Int)=some j:=by
  unfold ixN
  rw[if_pos (by omega),if_pos (by omega)];simp
 unfold atI;rw[e];exact h
noncomputable def Zfu(b:Expr):Prop:=∀o i,subscripted b false o i=operate [o,i] (getItem o i)
noncomputable def IxR(X:Cx)(r:R2):Prop :=
 ∀(value slice:Expr) (pins:List (Addr×Obj)) (s:Xg) (σ:St) (H:Hp) (x y:V) (v u:Xe) (Q:VK),Inv X pins σ H s->RelV x v->RelV y u->r x y H Q ->
  subscripted slice false v u=operate [v,u] (getItem v u)->XD (XR X.prog X.w) X.A (subscriptTail value slice v u) (EP X pins σ Q) X.xe s
noncomputable def MtR(X:Cx)(id:String)(r:V->List V->Hp->VK->Prop):Prop :=
 ∀(pins:List (Addr×Obj)) (s:Xg) (σ:St) (H:Hp) (x:V) (xs:List V) (v:Xe) (us:List Xe) (Q:VK),Inv X pins σ H s->RelV x v->Vals xs us->r x xs H Q ->
  XD (XR X.prog X.w) X.A (call (.builtin id) (v :: us)) (EP X pins σ Q) X.xe s
section
variable {X:Cx}{a b:Expr}{ta tb:TE}{pos:Pos}
theorem IxR.or{r r':R2}(h:IxR X r)(h':IxR X r'):IxR X (λx y H Q=>r x y H Q∨r' x y H Q):=by
 intro value slice pins s σ H x y v u Q I rx ry q hs
 rcases q with q|q
 ·exact h value slice pins s σ H x y v u Q I rx ry q hs
 ·exact h' value slice pins s σ H x y v u Q I rx ry q hs
theorem Zvk{r:R2}(hr:IxR X r)(ha:PE X a ta)(hb:PE X b tb)(hs:Zfu b):PE X (.Subscript a b pos) (tOp r ta tb):=by
 intro pins s σ H Q I h
 exact Subscript_ (Z9w ha hb I h λv u s2 x y H2 I2 rx ry q=>hr a b pins s2 σ H2 x y v u Q I2 rx ry q (hs _ _))
noncomputable def Z9x(K:Xc):R2:=λx y H Q=>∃p xs i v,x= .ref p∧y= .int i∧SqL K H p xs∧atI xs i=some v∧Q v H
noncomputable def Yfc(K:Xc):R2:=λx y H Q=>∃p xs i v,x= .ref p∧y= .int i∧SqT K H p xs∧atI xs i=some v∧Q v H
noncomputable def Ydr:R2:=λx y H Q=>∃z i c,x= .str z∧y= .int i∧z.length≤Xq∧atI z.cps.toList i=some c∧Q (.str ⟨#[c]⟩) H
theorem Zsq:IxR X (Z9x X.K):=by
 intro value slice pins s σ H x y v u Q I rx ry h hs
 obtain⟨p,xs,i,z,rfl,rfl,hq,he,q⟩:=h
 cases rx
 obtain⟨t,rfl⟩:=ry
 obtain⟨its,r,pl,hz⟩:=I.list hq
 obtain⟨j,h1,h2,h3,h4,h5⟩:=Zme he
 obtain⟨w,ew,rw'⟩:=r.get h2
 have hl:=r.length
 have hn:=Zhl
 have fin:EP X pins σ Q w s:=⟨z,H,I,rw',q⟩
 by_cases h0:0≤i
 ·have hj:i.toNat=j:=by
   rw[seqIndex_of h0 h5]at h1
   exact Qu h1
  exact item_listR pl.isList h0 (by omega) (by rw[hj];simpa using ew) fin hs
 ·have hj:(i+(its.toArray.size:Int)).toNat=j:=by
   rw[seqIndex_neg (by omega) h4]at h1
   rw[Xy,←hl]
   exact Qu h1
  exact subscriptTail_builtinR (x:=w) pl.isList.typeIs slot_list_getitem.lookup
   (wpAny_getItem_list_neg (Q:=λr s'=>r=w∧EP X pins σ Q r s') pl.isList (by omega) (by rw[Xy]<;>omega) (by omega) (by rw[hj];simpa using ew) ⟨rfl,fin⟩) hs
theorem Z5m:IxR X (Yfc X.K):=by
 intro value slice pins s σ H x y v u Q I rx ry h hs
 obtain⟨p,xs,i,z,rfl,rfl,hq,he,q⟩:=h
 cases rx
 obtain⟨t,rfl⟩:=ry
 obtain⟨its,r,pl,hz⟩:=I.tuple hq
 obtain⟨j,h1,h2,h3,h4,h5⟩:=Zme he
 obtain⟨w,ew,rw'⟩:=r.get h2
 have hl:=r.length
 have hn:=Zhl
 have fin:EP X pins σ Q w s:=⟨z,H,I,rw',q⟩
 exact subscriptTail_builtinR (x:=w) pl.typeIs slot_tuple_getitem.lookup
  (getItem_tuple (j:=j) (Q:=λr s'=>r=w∧EP X pins σ Q r s') pl (by omega) (by omega) (by rw[Xy,←hl];exact h1) (by simpa using ew) ⟨rfl,fin⟩) hs
theorem Z64:IxR X Ydr:=by
 intro value slice pins s σ H x y v u Q I rx ry h hs
 obtain⟨z,i,c,rfl,rfl,hz,he,q⟩:=h
 obtain⟨t,rfl⟩:=rx
 obtain⟨t',rfl⟩:=ry
 obtain⟨j,h1,h2,h3,h4,h5⟩:=Zme he
 have hl:z.cps.toList.length=z.length:=by simp[Str.length]
 rw[hl]at h1 h4 h5
 have hn:=Zhl
 exact tail_any (typeIs_str s z t) slot_str_getitem.lookup (getItem_str (c:=c) (by
  have e1:decide (i< -(2^63:Int))=false:=decide_eq_false (by omega)
  have e2:decide (i≥2^63)=false:=decide_eq_false (by omega)
  rw[e1,e2,Bool.or_false]) (by rw[h1];simpa using h2) ⟨.str ⟨#[c]⟩,H,I.tok _,⟨_,rfl⟩,q⟩) hs
noncomputable def rIx(K:Xc):R2:=λx y H Q=>Z9x K x y H Q∨Yfc K x y H Q∨Ydr x y H Q
theorem Z5a:IxR X (rIx X.K):=Zsq.or (Z5m.or Z64)
theorem Inv.lst{pins:List (Addr×Obj)}{σ:St}{H:Hp}{s:Xg}{p:Addr}{xs:List V}(I:Inv X pins σ H s)(h:H p=some (.lst xs)) :
  ∃(its:List Xe) (n:Nat),Vals xs its∧s.heap.get? p=some { cls:=.type "list",data:=.seq its.toArray n }∧xs.length≤Xq:=by
 obtain⟨z,its,n,r,e⟩:=I.hok p _ h
 exact⟨its,n,r,e,z⟩
theorem Zke(lo hi:Option Int)(n:Nat):(Bo lo hi none n).1=((HT.sIx n 0 lo:Nat):Int)∧(Bo lo hi none n).2.1=((HT.sIx n n hi:Nat):Int)∧(Bo lo hi none n).2.2=1:=by
 refine⟨?_,?_,rfl⟩
 ·cases lo with
  | none=>simp[Bo,HT.sIx]
  | some i=>
   simp only[Bo,HT.sIx,Option.getD_none,show(1:Int)>0 by decide,if_true]
   by_cases h:i<0
   ·simp only[h,if_true]<;>omega
   ·simp only[h,if_false]<;>omega
 ·cases hi with
  | none=>simp[Bo,HT.sIx]
  | some i=>
   simp only[Bo,HT.sIx,Option.getD_none,show(1:Int)>0 by decide,if_true]
   by_cases h:i<0
   ·simp only[h,if_true]<;>omega
   ·simp only[h,if_false]<;>omega
theorem Zi3(its:List Xe)(lo hi:Option Int):slicePick its.toArray lo hi none=((its.drop (HT.sIx its.length 0 lo)).take (HT.sIx its.length its.length hi-HT.sIx its.length 0 lo)).toArray:=by
 obtain⟨h1,h2,h3⟩:=Zke lo hi its.toArray.size
 unfold slicePick
 rw[h1,h2,h3]
 simp only[sliceRange_one,pick_run,Xy]<;>rfl
noncomputable def Ydz(K:Xc):V->Option Int->Option Int->Hp->VK->Prop:=λx lo hi H Q=>∃a xs,x= .ref a∧SqL K H a xs∧∀p,H p=none->Q (.ref p) (upd H p (.lst (Z3f xs lo hi)))
theorem Zyp:SlR X (Ydz X.K):=by
 intro pins s σ H x v vl vu lo hi sl Q I rx hs pl pu h
 obtain⟨a,xs,rfl,hx,q⟩:=h
 cases rx
 obtain⟨its,r,ht,hz⟩:=I.list hx
 have hlen:=r.length
 refine⟨"list",_,slot_list_getitem.lookup,ht.isList.typeIs,?_⟩
 refine wpAny_getItem_list_slice ht.isList hs pl pu .none (by simp) ?_ (by rw[Xy]<;>omega)
 rw[Zi3,←hlen]
 refine⟨.ref s.heap.objs.size,_,I.laid (t':=s.toks) (o:=.lst (Z3f xs lo hi)) (λb ob q=>Xf _ q) (Xz _) ?_,rfl,q _ (I.hok.fresh (Xz _))⟩
 exact⟨Ql (Zl0 xs lo hi) hz,_,0,(r.drop (HT.sIx xs.length 0 lo)).take (HT.sIx xs.length xs.length hi-HT.sIx xs.length 0 lo),XC _ rfl⟩
noncomputable def Zf3:V->Bool
 | .non=>true
 | .bl _=>true
 | .int _=>true
 | .str _=>true
 | _=>false
noncomputable def eqV:V->V->Bool
 | .non,.non=>true
 | .bl a,.bl b=>a==b
 | .bl a,.int b=>(if a then 1 else 0)==b
 | .int a,.bl b=>a==(if b then 1 else 0)
 | .int a,.int b=>a==b
 | .str a,.str b=>a==b
 | _,_=>false
theorem Z6y{A:Qs}{s:Xg}{y x:V}{u v:Xe}(ry:RelV y u)(rx:RelV x v)(fy:Zf3 y=true)(fx:Zf3 x=true):JW A s u v (eqV y x):=by
 cases y with
 | non=>
  cases ry
  cases x with
  | non=>cases rx;exact JW.same _
  | bl b=>cases rx;exact JW.none_bool b
  | int b=>obtain⟨t,rfl⟩:=rx;exact JW.none_int b t
  | str b=>obtain⟨t,rfl⟩:=rx;exact JW.none_str b t
  | _=>exact absurd (show false=true from fx) Xv
 | bl a=>
  cases ry
  cases x with
  | non=>cases rx;exact JW.bool_none a
  | bl b=>cases rx;exact JW.bool_bool a b
  | int b=>obtain⟨t,rfl⟩:=rx;exact JW.bool_int a b t
  | str b=>obtain⟨t,rfl⟩:=rx;exact JW.bool_str a b t
  | _=>exact absurd (show false=true from fx) Xv
 | int a=>
  obtain⟨t',rfl⟩:=ry
  cases x with
  | non=>cases rx;exact JW.int_none a t'
  | bl b=>cases rx;exact JW.int_bool a t' b
  | int b=>obtain⟨t,rfl⟩:=rx;exact JW.int_int a t' b t
  | str b=>obtain⟨t,rfl⟩:=rx;exact SeqAt.EqAt.int_str a t' b t
  | _=>exact absurd (show false=true from fx) Xv
 | str a=>
  obtain⟨t',rfl⟩:=ry
  cases x with
  | non=>cases rx;exact JW.str_none a t'
  | bl b=>cases rx;exact JW.str_bool a t' b
  | int b=>obtain⟨t,rfl⟩:=rx;exact SeqAt.EqAt.str_int a t' b t
  | str b=>obtain⟨t,rfl⟩:=rx;exact JW.str_str a t' b t
  | _=>exact absurd (show false=true from fx) Xv
 | _=>exact absurd (show false=true from fy) Xv
noncomputable def eqU(x:V)(u:Xe):Bool:=match u with
 | .none=>eqV .non x
 | .bool b=>eqV (.bl b) x
 | .int i _=>eqV (.int i) x
 | .str z _=>eqV (.str z) x
 | _=>false
theorem Zxa{x y:V}{u:Xe}(r:RelV y u)(f:Zf3 y=true):eqU x u=eqV y x:=by
 cases y with
 | non=>cases r;rfl
 | bl b=>cases r;rfl
 | int i=>obtain⟨t,rfl⟩:=r;rfl
 | str z=>obtain⟨t,rfl⟩:=r;rfl
 | _=>exact absurd (show false=true from f) Xv
theorem Zjh{x:V}{xs:List V}{us:List Xe}(h:Vals xs us)(f:xs.all Zf3=true):us.any (eqU x)=xs.any λy=>eqV y x:=by
 induction h with
 | nil=>rfl
 | cons r t ih=>
  rw[List.all_cons,XJ]at f
  rw[V5,V5,Zxa r f.1,ih f.2]
theorem Zfh{A:Qs}{s:Xg}{x:V}{v:Xe}(rx:RelV x v)(fx:Zf3 x=true){xs:List V}{us:List Xe}(h:Vals xs us)(f:xs.all Zf3=true):∀u∈us,JW A s u v (eqU x u):=by
 induction h with
 | nil=>intro u hu;cases hu
 | cons r t ih=>
  intro u' hu
  rw[List.all_cons,XJ]at f
  rcases Xp.mp hu with rfl|hu
  ·rw[Zxa r f.1];exact Z6y r rx f.1 fx
  ·exact ih f.2 u' hu
noncomputable def inV(x:V)(xs:List V):Bool:=xs.any λy=>eqV y x
noncomputable def rIn(K:Xc)(neg:Bool):R2:=λx y H Q=>∃p xs,y= .ref p∧(SqL K H p xs∨SqT K H p xs)∧Zf3 x=true∧xs.all Zf3=true∧Q (.bl (if neg then !inV x xs else inV x xs)) H
theorem Ztj:OpR X (Qx .In) (rIn X.K false):=by
 intro pins s σ H x y v u Q I rx ry h
 obtain⟨p,xs,rfl,hq,fx,fs,q⟩:=h
 cases ry
 rcases hq with hq|hq
 ·obtain⟨its,r,pl,hz⟩:=I.list hq
  refine SeqAt.in_listAt (eqU x) pl.isList (λw hw=>Zfh rx fx r fs w (by simpa using hw)) ⟨.bl _,H,I,rfl,?_⟩
  rw[show its.toArray.any (eqU x)=its.any (eqU x) by simp,Zjh r fs]
  exact q
 ·obtain⟨its,r,pl,hz⟩:=I.tuple hq
  refine SeqAt.in_tupleAt (eqU x) pl (λw hw=>Zfh rx fx r fs w (by simpa using hw)) ⟨.bl _,H,I,rfl,?_⟩
  rw[show its.toArray.any (eqU x)=its.any (eqU x) by simp,Zjh r fs]
  exact q
theorem Zkg:OpR X (Qx .NotIn) (rIn X.K true):=by
 intro pins s σ H x y v u Q I rx ry h
 obtain⟨p,xs,rfl,hq,fx,fs,q⟩:=h
 cases ry
 rcases hq with hq|hq
 ·obtain⟨its,r,pl,hz⟩:=I.list hq
  refine SeqAt.notIn_listAt (eqU x) pl.isList (λw hw=>Zfh rx fx r fs w (by simpa using hw)) ⟨.bl _,H,I,rfl,?_⟩
  rw[show its.toArray.any (eqU x)=its.any (eqU x) by simp,Zjh r fs]
  exact q
 ·obtain⟨its,r,pl,hz⟩:=I.tuple hq
  refine SeqAt.notIn_tupleAt (eqU x) pl (λw hw=>Zfh rx fx r fs w (by simpa using hw)) ⟨.bl _,H,I,rfl,?_⟩
  rw[show its.toArray.any (eqU x)=its.any (eqU x) by simp,Zjh r fs]
  exact q
theorem Zkx:Zcd X (.builtin "len") (λxs H Q=>∃p ys,xs=[.ref p]∧(SqL X.K H p ys∨SqT X.K H p ys)∧Q (.int ys.length) H):=by
 intro pins s σ H xs us Q I r h
 obtain⟨p,ys,rfl,hq,q⟩:=h
 obtain⟨u,rfl,rx⟩:=vals1 r
 cases rx
 have hn:=Zhl
 rcases hq with hq|hq
 ·obtain⟨its,r',pl,hz⟩:=I.list hq
  have hlen:=r'.length
  exact Calls.call_len_list pl.isList (by simp only[Xy]<;>omega) ⟨.int ys.length,H,I.tok _,⟨s.toks+1,by rw[Xy,hlen]⟩,q⟩
 ·obtain⟨its,r',pl,hz⟩:=I.tuple hq
  have hlen:=r'.length
  exact len_tuple pl (by simp only[Xy]<;>omega) ⟨.int ys.length,H,I.tok _,⟨s.toks+1,by rw[Xy,hlen]⟩,q⟩
theorem Ze0:Zcd X (.builtin "len") (λxs H Q=>∃z,xs=[.str z]∧z.length≤Xq∧Q (.int z.length) H):=by
 intro pins s σ H xs us Q I r h
 obtain⟨z,rfl,hz,q⟩:=h
 obtain⟨u,rfl,t,rfl⟩:=vals1 r
 have hn:=Zhl
 exact len_str (by omega) ⟨.int z.length,H,I.tok _,⟨_,rfl⟩,q⟩
theorem Zks:Zcd X (.type "list") (λxs H Q=>∃p ys,xs=[.ref p]∧(SqL X.K H p ys∨SqT X.K H p ys)∧∀l,H l=none->Q (.ref l) (upd H l (.lst ys))):=by
 intro pins s σ H xs us Q I r h
 obtain⟨p,ys,rfl,hq,q⟩:=h
 obtain⟨u,rfl,rx⟩:=vals1 r
 cases rx
 have fin:∀(its:List Xe),Vals ys its->ys.length≤Xq->∀(h':Heap) (c':Nat),(∀b o',s.heap.get? b=some o'->h'.get? b=some o') ->
   h'.get? s.heap.objs.size=some { cls:=.type "list",dict:=none,data:=.seq its.toArray c',slots:=#[] }->EP X pins σ Q (.ref s.heap.objs.size) { s with heap:=h' }:=λits r' hz h' c' kp e=>
  ⟨.ref s.heap.objs.size,_,I.laid (t':=s.toks) kp (Xz _) (show ObjOk X.prog X.w _ h' _ (.lst ys)from⟨hz,its,c',r',e⟩),rfl,q _ (I.hok.fresh (Xz _))⟩
 rcases hq with hq|hq
 ·obtain⟨its,r',pl,hz⟩:=I.list hq
  have hlen:=r'.length
  obtain⟨o,ho,hc,n,hd⟩:=pl.isList
  exact call_list_seq p (.inl rfl) ho hc hd (λh' c' kp e=>fin its r' hz h' c' kp e) (by simp only[Xy]<;>omega)
 ·obtain⟨its,r',pl,hz⟩:=I.tuple hq
  have hlen:=r'.length
  obtain⟨o,ho,hc,n,hd⟩:=pl
  exact call_list_seq p (.inr rfl) ho hc hd (λh' c' kp e=>fin its r' hz h' c' kp e) (by simp only[Xy]<;>omega)
noncomputable def tyV(K:Xc)(T:String)(x:V)(H:Hp):Prop:=match x with
 | .str _=>T="str"
 | .int _=>T="int"
 | .ref p=>(T="list"∧∃xs,SqL K H p xs)∨(T="tuple"∧∃o,K.lookup p=some o∧o.cls= .type "tuple"∧o.dict=none)∨
   (T="dict"∧((∃kvs,H p=some (.dK kvs))∨∃kvs,H p=some (.dT kvs)))∨(T="set"∧∃S n,H p=some (.set S n))
 | _=>False
theorem Zxb{pins:List (Addr×Obj)}{σ:St}{H:Hp}{s:Xg}{T:String}{x:V}{v:Xe}(I:Inv X pins σ H s)(r:RelV x v)(ty:tyV X.K T x H) :
  s.TypeIs v T∧∀a,v= .ref a->∃ob,s.heap.get? a=some ob∧ob.dict=none:=by
 cases x with
 | str z=>
  obtain⟨t,rfl⟩:=r
  cases(show T="str"from ty)
  exact⟨typeIs_str s z t,λ_ e=>nomatch e⟩
 | int i=>
  obtain⟨t,rfl⟩:=r
  cases(show T="int"from ty)
  exact⟨typeIs_int s i t,λ_ e=>nomatch e⟩
 | ref p=>
  cases r
  rcases ty with⟨rfl,xs,hq⟩|⟨rfl,o,hk,hc,hd⟩|⟨rfl,hk⟩|⟨rfl,S,n,hk⟩
  ·obtain⟨its,_,pl,_⟩:=I.list hq
   refine⟨pl.isList.typeIs,λa e=>?_⟩
   cases e
   obtain⟨o,n,e,c,hd,_⟩:=pl
   exact⟨o,e,hd⟩
  ·refine⟨⟨o,I.kIn p o hk,hc⟩,λa e=>?_⟩
   cases e
   exact⟨o,I.kIn _ o hk,hd⟩
  ·have z:∃o,s.heap.get? p=some o∧o.ExactDict:=by
    rcases hk with⟨kvs,hk⟩|⟨kvs,hk⟩
    ·obtain⟨_,_,_,_,o,_,_,e,ex,_⟩:=I.hok p _ hk
     exact⟨o,e,ex⟩
    ·obtain⟨_,_,_,_,o,_,_,e,ex,_⟩:=I.hok p _ hk
     exact⟨o,e,ex⟩
   obtain⟨o,e,ex⟩:=z
   refine⟨⟨o,e,ex.1⟩,λa e2=>?_⟩
   cases e2
   exact⟨o,e,ex.2.1⟩
  ·obtain⟨o,_,_,_,e,ex,_⟩:=I.hok p _ hk
   refine⟨⟨o,e,ex.1⟩,λa e2=>?_⟩
   cases e2
   exact⟨o,e,ex.2.1⟩
 | _=>exact VB ty
noncomputable def Yfm(K:Xc)(T:String)(r:V->List V->Hp->VK->Prop)(to:TE):TE:=λσ H Q=>to σ H λx H1=>tyV K T x H1∧r x [] H1 Q
noncomputable def tBM(K:Xc)(T:String)(r:V->List V->Hp->VK->Prop)(to:TE)(t:TA):TE:=λσ H Q=>to σ H λx H1=>tyV K T x H1∧t σ H1 λxs H2=>r x xs H2 Q
variable {o e:Expr}{es:List Expr}{to:TE}{t:TA}{name:Str}{apos cpos:Pos}{T id:String}{r:V->List V->Hp->VK->Prop}
theorem Zxq(pa:PlainAttrs T)(slot:Slot T name id)(hty:typeOf (.builtin id)=pure (.type "method_descriptor"))(hm:MtR X id r)(ho:PE X o to)
  (hbase:Bc o name X.env (eval o X.env)=eval o X.env:=by rfl) (hline:(apos.endLine==cpos.line)=true:=by rfl):PE X (.Call (.Attribute o name apos) [] [] cpos) (Yfm X.K T r to):=by
 intro pins s σ H Q I h
 refine wpAny_Call_method0_late hbase hline (thn (ho pins s σ H _ I h) λv s1 qz9=>?_)
 obtain⟨x,H1,I1,r1,ty,q1⟩:=qz9
 obtain⟨h1,h2⟩:=Zxb I1 r1 ty
 exact⟨T,id,pa,slot,hty,h1,h2,Calls.callWith_builtin rfl (PySem.evalArgs_none (hm pins s1 σ H1 x [] v [] Q I1 r1 .nil q1))⟩
theorem Znz(pa:PlainAttrs T)(slot:Slot T name id)(hty:typeOf (.builtin id)=pure (.type "method_descriptor"))(hm:MtR X id r)(ho:PE X o to)(ha:PA X (e :: es) t)
  (hbase:Bc o name X.env (eval o X.env)=eval o X.env:=by rfl)
  (hfew:((JD cpos (Xu (e :: es) X.env)).all (λx=>!x.1)&&(backToKw cpos (V3 [] X.env)).all (λx=>x.1.isSome)
   &&decide ((e :: es).length+([]:List Vn).length+(if([]:List Vn).isEmpty then 0 else 1)<30))=true:=by rfl)
  (hline:(apos.endLine==cpos.line)=true:=by rfl) (hs:Xu (e :: es) X.env=(false,eval e X.env) :: Xu es X.env:=by rfl) (hplain:(JD cpos (Xu es X.env)).any (·.1)=false:=by rfl) :
  PE X (.Call (.Attribute o name apos) (e :: es) [] cpos) (tBM X.K T r to t):=by
 intro pins s σ H Q I h
 refine wpAny_Call_method_late hbase hfew hline rfl (thn (ho pins s σ H _ I h) λv s1 qz9=>?_)
 obtain⟨x,H1,I1,r1,ty,q1⟩:=qz9
 obtain⟨h1,h2⟩:=Zxb I1 r1 ty
 refine⟨T,id,pa,slot,hty,h1,h2,?_⟩
 have hA:=ha cpos pins s1 σ H1 _ I1 q1
 rw[hs]at hA⊢
 refine Calls.callWith_builtin (by show(false||(JD cpos (Xu es X.env)).any (·.1))=false;rw[hplain]<;>rfl) (Calls.evalArgs_plain ?_)
 refine thn hA λus s2 qz9=>?_
 obtain⟨vs,H2,I2,r2,q2⟩:=qz9
 exact hm pins s2 σ H2 x vs v us Q I2 r1 r2 q2
end
noncomputable def MtM(X:Cx)(id:String)(r:V->List V->Hp->VK->Prop):Prop :=
 ∀(pins:List (Addr×Obj)) (s:Xg) (σ:St) (H:Hp) (x:V) (xs:List V) (v:Xe) (us:List Xe) (Q:VK),Inv X pins σ H s->RelV x v->Vals xs us->r x xs H Q ->
  XD (XR X.prog X.w) X.A (call (.builtin id) (v :: us)) (EP X pins σ Q) X.xe s
theorem Vals.one{x:V}{us:List Xe}(h:Vals [x] us):∃u,us=[u]∧RelV x u:=by
 cases h with
 | cons r t=>cases t;exact⟨_,rfl,r⟩
theorem Vals.zero:∀{us:List Xe},Vals [] us->us=[]
 | _,.nil=>rfl
theorem Vals.eraseIdx:∀{xs:List V} {us:List Xe} (i:Nat),Vals xs us->Vals (xs.eraseIdx i) (us.eraseIdx i)
 | _,_,_,.nil=>.nil
 | _,_,0,.cons _ t=>t
 | _,_,i+1,.cons r t=>.cons r (Vals.eraseIdx i t)
theorem Zj6{α:Type}:∀(l:List α) (i:Nat),(l.eraseIdx i).length≤l.length
 | [],_=>Xz _
 | _ :: _,0=>Nat.le_succ _
 | _ :: r,i+1=>Ux (Zj6 r i)
section
variable {X:Cx}{pins:List (Addr×Obj)}{σ:St}{H:Hp}{s:Xg}{l b:Addr}{xs ys zs:List V}
theorem Inv.lset{its its':List Xe}{n:Nat}{f:Array Xe->Array Xe}{t':Nat}(I:Inv X pins σ H s)(hH:H l=some (.lst xs))
  (e:s.heap.get? l=some { cls:=.type "list",data:=.seq its.toArray n }) (hf:f its.toArray=its'.toArray) (hv:Vals ys its') (hz:ys.length≤Xq) :
  Inv X pins σ (upd H l (.lst ys)) { s with heap:=s.heap.update l (Va f),toks:=t' }:=by
 have q:=PySem.IsL.update e f
 rw[hf]at q
 refine I.write (x:=l) (e:=l) (by rw[hH];exact trivial) (.inl rfl) (λb' u hb hu=>(Heap.get?_update_other s.heap (Va f) (Bl hb)).trans hu) ⟨_,q⟩ ?_
 exact⟨hz,its',_,hv,q⟩
theorem Inv.lnew{its:List Xe}{t':Nat}(I:Inv X pins σ H s)(hv:Vals ys its)(hz:ys.length≤Xq) :
  Inv X pins σ (upd H s.heap.objs.size (.lst ys)) { s with heap:=s.heap.push { cls:=.type "list",data:=.seq its.toArray },toks:=t' } :=
 I.laid (λ_ _ q=>Xf _ q) (Xz _) ⟨hz,its,0,hv,XC _ rfl⟩
theorem Inv.fresh(I:Inv X pins σ H s):H s.heap.objs.size=none:=I.hok.fresh (Xz _)
theorem Inv.lstM(I:Inv X pins σ H s)(hH:H l=some (.lst xs)):xs.length≤Xq∧∃(its:List Xe) (n:Nat),Vals xs its∧xs.length=its.length∧s.heap.get? l=some { cls:=.type "list",data:=.seq its.toArray n }:=by
 obtain⟨z,its,n,r,e⟩:=I.hok l _ hH
 exact⟨z,its,n,r,r.length,e⟩
theorem Zwj{n:Nat}(h:n≤Xq):UW n=false:=by
 unfold UW
 exact decide_eq_false (by omega)
end
section
variable {X:Cx}
noncomputable def Z2s:V->List V->Hp->VK->Prop:=λx vs H Q=>∃l xs y,x= .ref l∧vs=[y]∧H l=some (.lst xs)∧xs.length<Xq∧Q .non (upd H l (.lst (xs ++ [y])))
theorem Zdf:MtM X "list.append" Z2s:=by
 intro pins s σ H x vs v us Q I rx rv h
 obtain⟨l,xs,y,rfl,rfl,hH,hz,q⟩:=h
 cases rx
 obtain⟨u,rfl,ru⟩:=rv.one
 obtain⟨z,its,n,r,hl,e⟩:=I.lstM hH
 refine call_meets F.slot_list_append ⟨_,e,rfl⟩ F.entry_list_append (F.args_list_append_2 _ _) (PySem.list_append l its.toArray n u (by rw[Xy];omega)) ⟨e,?_⟩
 refine⟨.non,_,I.lset (its':=its ++ [u]) hH e (by simp) (r.append (.cons ru .nil)) ?_,rfl,q⟩
 rw[XF,List.length_singleton]
 omega
noncomputable def Z2y:V->List V->Hp->VK->Prop:=λx vs H Q=>∃l b xs zs,x= .ref l∧vs=[.ref b]∧H l=some (.lst xs)∧H b=some (.lst zs)∧xs.length+zs.length≤Xq∧Q .non (upd H l (.lst (xs ++ zs)))
theorem Zrt:MtM X "list.extend" Z2y:=by
 intro pins s σ H x vs v us Q I rx rv h
 obtain⟨l,b,xs,zs,rfl,rfl,hH,hB,hz,q⟩:=h
 cases rx
 obtain⟨u,rfl,ru⟩:=rv.one
 cases ru
 obtain⟨z,its,n,r,hl,e⟩:=I.lstM hH
 obtain⟨z2,its2,n2,r2,hl2,e2⟩:=I.lstM hB
 have hsz:its.toArray.size+its2.toArray.size≤Xq:=by rw[Xy,Xy];omega
 have hlong:¬(!its.toArray.isEmpty&&UW (its.toArray.size+its2.toArray.size))=true:=by
  rw[Zwj hsz,Bool.and_false]
  exact Xv
 refine call_meets F.slot_list_extend ⟨_,e,rfl⟩ F.entry_list_extend (F.args_list_extend_2 _ _)
  (AutoSeq1.list_extend_list_list_0 l its.toArray n b its2.toArray n2 hlong (by rw[Xy];omega) (by omega)) ⟨e,e2,?_⟩
 refine⟨.non,_,I.lset (its':=its ++ its2) hH e (by simp) (r.append r2) ?_,rfl,q⟩
 rw[XF]
 omega
noncomputable def Z6s:V->List V->Hp->VK->Prop:=λx vs H Q=>∃l xs i k y,x= .ref l∧vs=[.int i]∧H l=some (.lst xs)∧-(2^63)≤i∧i<2^63∧seqIndex? i xs.length=some k∧xs[k]? =some y∧Q y (upd H l (.lst (xs.eraseIdx k)))
theorem Zva:MtM X "list.pop" Z6s:=by
 intro pins s σ H x vs v us Q I rx rv h
 obtain⟨l,xs,i,k,y,rfl,rfl,hH,h1,h2,hk,hy,q⟩:=h
 cases rx
 obtain⟨u,rfl,ru⟩:=rv.one
 obtain⟨t,rfl⟩:=ru
 obtain⟨z,its,n,r,hl,e⟩:=I.lstM hH
 obtain⟨w,hw,rw'⟩:=r.get hy
 refine call_meets F.slot_list_pop ⟨_,e,rfl⟩ F.entry_list_pop (F.args_list_pop_2 _ _)
  (MeetsSeq.list_pop_at l its.toArray n i t k w (fitsIndex_both h1 h2) (by rw[Xy,←hl];exact hk) (by rw[←Qt];exact hw) (by rw[Xy];omega)) ⟨e,?_⟩
 refine⟨y,_,I.lset (its':=its.eraseIdx k) hH e ?_ (r.eraseIdx k) ?_,rw',q⟩
 ·show its.toArray.eraseIdxIfInBounds k=(its.eraseIdx k).toArray
  rw[List.eraseIdxIfInBounds_toArray]
 ·have:=Zj6 xs k
  omega
noncomputable def Z3m:V->List V->Hp->VK->Prop:=λx vs H Q=>∃l xs,x= .ref l∧vs=[]∧H l=some (.lst xs)∧Q .non (upd H l (.lst []))
theorem Zns:MtM X "list.clear" Z3m:=by
 intro pins s σ H x vs v us Q I rx rv h
 obtain⟨l,xs,rfl,rfl,hH,q⟩:=h
 cases rx
 have hus:=rv.zero
 subst hus
 obtain⟨z,its,n,r,hl,e⟩:=I.lstM hH
 refine call_meets F.slot_list_clear ⟨_,e,rfl⟩ F.entry_list_clear (F.args_list_clear_1 _) (AutoSeq1.list_clear_list_0 l its.toArray n (by rw[Xy];omega)) ⟨e,?_⟩
 exact⟨.non,_,I.lset (its':=[]) (ys:=[]) hH e rfl .nil (Qy _),rfl,q⟩
end
section
variable {prog:XS}{w:Qq}{A:Qs}{E:Xe->Xg->Prop}{s:Xg}
end
section
variable {X:Cx}
end
end L2
namespace Att
open PySem PySem.W PySem.Calls PyProof.Rows
theorem Zfm{P:Params}{h:Heap}:∀(ns:List Int) (vs:List Xe),WellAll P h vs (ns.map WData.int)->BJ vs ns:=by
 intro ns
 induction ns with
 | nil=>
  intro vs w
  rw[List.map_nil]at w
  cases w
  exact .nil
 | cons n ns ih=>
  intro vs w
  rw[X3]at w
  cases w with
  | cons a b=>
   cases a
   exact .cons _ _ (ih _ b)
theorem Zs2{l:OpenLaw}{n:Nat}(hn:l.most=some n){P:Params}{h:Heap}{args:List WData}{vals:List Xe}
  (hpre:l.row.toRowW.claim.pre args=true) (hwl:WellAll P h vals args) :
  ∃a vs ns,vals=[Qn a]∧args=[WData.list (ns.map WData.int)]∧h.get? a=some { cls:=.type "list",data:=.seq vs.toArray }∧BJ vs ns∧ns.length≤n:=by
 have hsh:WShape.hasAll [] args [.list .int]=true:=(pre_splitW hpre).1
 have hc:l.pre.holds [] { args:=args }=true:=(pre_splitW hpre).2
 obtain⟨d,r,rfl,h1,h2⟩:=hasAllW_cons hsh
 obtain rfl:=hasAllW_nil h2
 obtain⟨xs,rfl,h3⟩:=hasW_list h1
 obtain⟨ns,rfl⟩:=items_int h3
 have hlen:ns.length≤n:=by
  unfold OpenLaw.pre at hc
  have h4:(WTm.not (.lt (.lit (.int (n:Int))) (.len (.arg 0)))).holds [] { args:=[.list (ns.map .int)] }=true:=by
   have h4:=(holds_andW hc).1
   rw[hn]at h4
   exact h4
  have h5:=condW_of h4 (w_not (w_lt w_lit (w_len_list (w_arg rfl))))
  rw[Xd]at h5
  refine Nat.le_of_not_lt λq=>?_
  have q':(n:Int)<((ns.length:Nat):Int):=by omega
  first
   | (rw[decide_eq_true q']at h5;exact absurd h5 (by decide))
   | (simp at h5;omega)
 cases hwl with
 | cons w1 w2=>
  cases w2
  cases w1 with
  | list ho hall=>exact⟨_,_,ns,rfl,rfl,ho,Zfm ns _ hall,hlen⟩
theorem Zs3(l:OpenLaw)(args:List WData):l.row.toRowW.claim.post args (.bool true) args=true :=
 postW_of (r:=l.row.toRowW) (X:=(true==true))
  (show WShape.has [] (.bool true) .bool=true by first|rfl|decide|simp[WShape.has,WShape.arms,WShape.armsAll])
  (show(WTm.eq .res (.lit (.bool true))).value [] { args:=args,res:=some (.bool true),after:=args }=some (.bool (true==true))from w_eq_bool (w_res rfl) w_lit) rfl
theorem attach_call{l:OpenLaw}{n:Nat}{q:XS}{loose:List Str}{XP:(Str->Option Xe)->Heap->Prop}{YP:Qq->Heap->Prop}{d:DefRec}
  (hn:l.most=some n) (hdf:d.params.defaults=[])
  (call:∀(w:Qq) (s₀ s₁:Xg) (mg mb:Str->Option Xe) (fa:Addr) (o:Obj) (pm cd doc:Xe) (a:Addr) (vs:List Xe) (ns:List Int),
   Ground q loose [] XP w s₀ mg mb s₁.heap->YP w s₁.heap ->
   s₁.heap.get? fa=some o->o.data= .func (docDef d.name d.params d.body d.scope pm cd doc)->s₁.heap.CodeRec cd d.name->mg d.name=some (.ref fa) ->
   s₁.heap.get? a=some { cls:=.type "list",data:=.seq vs.toArray }->BJ vs ns->ns.length≤n->s₁.gens=#[] ->
   U3 (XR l.prog w) callerA (.call (.ref fa) ⟨[.ref a],[]⟩) (λr s'=>r= .ok (.ret (.bool true))∧OldK s₁.heap s'.heap∧s'.os=s₁.os∧AllBare s'.gens) s₁) :
  WalkO q loose XP YP l.row.toRowW d [] (λf vs=>PySem.call f vs):=by
 intro w s₀ s₁ mg mb G Y fa o pm cd doc dV kV ho hd hcd hD hmg hg args vals as hpre hlay hrd hwl hlo
 obtain rfl:dV= .none:=Dflts.none hD hdf
 obtain rfl:kV= .none:=Dflts.noKw hD
 obtain⟨a,vs,ns,rfl,rfl,hobj,hints,hlen⟩:=Zs2 hn hpre hwl
 refine enter_call (codeAny_mono (call w s₀ s₁ mg mb fa o pm cd doc a vs ns G Y ho (fd_plain hd) hcd hmg hobj hints hlen hg) λr s' hq=>?_)
 obtain⟨rfl,h2,h3,h4⟩:=hq
 exact⟨.inl ⟨.bool true,.bool true,[],rfl,λ_=>rfl,.bool true,Zs3 l _,λ_=>⟨List.Pairwise.nil,λ_ hm=>(nomatch hm)⟩⟩,h2,h3,h4⟩
section
variable {prog:XS}{w:Qq}{A:Qs}{E:Xe->Xg->Prop}{s:Xg}{K:Frag}
end
end Att
namespace L2
open PySem PySem.Spec PyProof.Rows
theorem Zr2{vs:List Xe}{ns:List Int}(h:BJ vs ns):Vals (ns.map V.int) vs:=by
 induction h with
 | nil=>exact .nil
 | cons n t h ih=>exact .cons ⟨t,rfl⟩ ih
noncomputable def Only(H:Hp):Prop:=∀b,H b=none∨∃o xs,H b=some (.frz o (.lst xs))
theorem Zwo{P:XS}{w:Qq}{K:Xc}{mg mb:Str->Option Xe}{CX:CXT}{k:Nat}{fa a:Addr}{fd:Qc}{x:Str}{sp:Sp}{s₁:Xg}{vs:List Xe}{ns:List Int}
  (KX:K.In s₁.heap) (hns:s₁.heap.Ns Qj mg) (hb:s₁.heap.Ns builtinsNs mb) (hbb:∀x:Str,x≠"__name__" ->mb x=Qe x) (hlim:s₁.heap.NoLimit) (hg:s₁.gens=#[])
  (ha:s₁.heap.get? a=some { cls:=.type "list",data:=.seq vs.toArray }) (hi:BJ vs ns) (hl:ns.length≤Xq) (hr:Room k callerA)
  (F:∀base:Heap,K.In base->base.Ns Qj mg->FnOk P w K mg base CX k fa fd [x] sp) (hbind:∀(s:Xg) (u:Xe),BindsTo s fd ⟨[u],[]⟩ [(x,u)])
  (hsp:∀H:Hp,Only H->SqL K H a (ns.map V.int)->sp [.ref a] H (λv _=>v= .bl true) λ_ _ _=>False)
  (hCX:∀H e s',CX [] H s₁ (λ_ _ _=>False) e s'->False) :
  U3 (XR P w) callerA (.call (.ref fa) ⟨[.ref a],[]⟩) (λr s'=>r= .ok (.ret (.bool true))∧OldK s₁.heap s'.heap∧s'.os=s₁.os∧AllBare s'.gens) s₁:=by
 have rv:=Zr2 hi
 have lenV:=hi.length
 -- from an abstract heap in which nothing but the script may be tracked
 have core:∀H:Hp,Only H->SqL K H a (ns.map V.int)->HOk P w H s₁.heap->(∀b,H b≠none->b=a)->(H a≠none->K.lookup a=none) ->
   U3 (XR P w) callerA (.call (.ref fa) ⟨[.ref a],[]⟩) (λr s'=>r= .ok (.ret (.bool true))∧OldK s₁.heap s'.heap∧s'.os=s₁.os∧AllBare s'.gens) s₁:=by
  intro H hO hS hok hA hK
  have base_of:∀{b:Addr} {o:Obj},s₁.heap.get? b=some o->H b=none->(Zvc s₁.heap H).get? b=some o:=λe n=>Zvy e n
  have noA:∀{b:Addr} {o:Obj} {es:Array DictEntry} {ep:Nat},s₁.heap.get? b=some o->o.data= .dict es ep->H b=none:=fun{b o es ep} e d=>by
   cases q:H b with
   | none=>rfl
   | some u=>
    have e':b=a:=hA b (by rw[q];simp)
    subst e'
    rw[ha]at e;cases e
    have d':Data.seq vs.toArray _=Data.dict es ep:=d
    cases d'
  have nsK:∀{b:Addr} {m:Str->Option Xe},s₁.heap.Ns b m->(Zvc s₁.heap H).Ns b m:=fun{b m} ⟨o,es,ep,e,d,r⟩=>⟨o,es,ep,base_of e (noA e d),d,r⟩
  have hKb:K.In (Zvc s₁.heap H):=λb o e=>base_of (KX b o e) (by
   cases q:H b with
   | none=>rfl
   | some u=>
    have e':b=a:=hA b (by rw[q];simp)
    subst e'
    rw[hK (by rw[q];simp)]at e;cases e)
  have hM:Mod K mg (Zvc s₁.heap H):=⟨hKb,nsK hns,⟨mb,nsK hb,hbb⟩,let⟨mc,h1,h2⟩:=hlim;⟨mc,nsK h1,h2⟩⟩
  have e0:Z9i P w K mg (Zvc s₁.heap H) callerA [] s₁ H:=⟨rfl,hM,λb o e=>Z0x e,Nat.le_of_eq (Ztb _ _),trivial,λb hb=>absurd (show b∈([]:List Addr)from hb) (by simp),hok,.of_eq hg⟩
  refine codeAny_mono ((F _ hKb (nsK hns)).run callerA [] s₁ H ⟨[.ref a],[]⟩ [.ref a] [.ref a] _ _ hr e0 (hbind s₁ (.ref a)) (.cons rfl .nil) (hsp H hO hS)) λr s' h=>?_
  cases r with
  | error e=>exact(hCX H e s' h).elim
  | ok fl=>
   cases fl with
   | next=>exact VB h
   | brk=>exact VB h
   | cont=>exact VB h
   | ret u=>
    obtain⟨v,H',os,bare,un,hok',r',q⟩:=h
    have q':v= .bl true:=q
    subst q'
    obtain rfl:u=Uo true:=r'
    refine⟨rfl,OldK.of_keep λb o e=>?_,os,bare⟩
    cases q:H b with
    | none=>exact un.keep b o e q (by intro z;exact absurd (show b∈([]:List Addr)from z) (by simp)) (by simp)
    | some u=>
     rcases hO b with z|⟨ob,xs,z⟩
     ·rw[q]at z;cases z
     ·have z2:=un.frzs b ob _ z
      obtain⟨e1,_⟩:=hok b _ z
      obtain⟨e2,_⟩:=hok' b _ z2
      rw[e]at e1;cases e1
      exact e2
 cases hk:K.lookup a with
 | some o=>
  -- the script is one of the module's own objects
  have e:=KX a o hk
  rw[ha]at e
  cases e
  refine core (λ_=>none) (λ_=>.inl rfl) (.inr ⟨_,vs.toArray,_,hk,rfl,rfl,rfl,by rw[Xy,lenV];exact hl,by simpa using rv⟩) (λb u z=>by have z':(none:Option HO)=some u:=z;cases z') (λb z=>absurd rfl z) λz=>absurd rfl z
 | none=>
  refine core (λb=>if b=a then some (.frz { cls:=.type "list",data:=.seq vs.toArray } (.lst (ns.map V.int)))else none) (λb=>?_) (.inl (.inr ⟨{ cls:=.type "list",data:=.seq vs.toArray },if_pos rfl⟩)) (λb u z=>?_) (λb z=>?_) λ_=>hk
  ·by_cases hb:b=a
   ·exact .inr ⟨_,_,if_pos hb⟩
   ·exact .inl (if_neg hb)
  ·by_cases hb:b=a
   ·have z':=(if_pos hb).symm.trans z
    cases z'
    subst hb
    exact⟨ha,by rw[Xd];exact hl,vs,_,rv,ha⟩
   ·have z':=(if_neg hb).symm.trans z
    cases z'
  ·by_cases hb:b=a
   ·exact hb
   ·exact absurd (if_neg hb) z
noncomputable abbrev KOf{K:Xc}{h:Heap}(_:K.In h):Xc:=K
theorem Zz8{l:PySem.W.OpenLaw}{n k:Nat}{q:XS}{loose:List Str}{XP:(Str->Option Xe)->Heap->Prop}{YP:Qq->Heap->Prop}{d:DefRec}{K:Params->Xc}{CX:Qq->CXT}{sp:Qq->Sp}{x:Str}
  (hn:l.most=some n) (hn2:n≤Xq) (hdf:d.params.defaults=[]) (hr:Room k callerA)
  (hY:∀(w:Qq) (h:Heap),YP w h->(K w.params).In h)
  (F:∀(w:Qq) (mg:Str->Option Xe) (fa:Addr) (h:Heap),(K w.params).In h->h.Ns Qj mg->mg d.name=some (.ref fa) ->
   ∃fd:Qc,(∀(s:Xg) (u:Xe),BindsTo s fd ⟨[u],[]⟩ [(x,u)])∧
    ∀base:Heap,(K w.params).In base->base.Ns Qj mg->FnOk l.prog w (K w.params) mg base (CX w) k fa fd [x] (sp w))
  (hsp:∀(w:Qq) (H:Hp) (a:Addr) (ns:List Int),ns.length≤n->Only H->SqL (K w.params) H a (ns.map V.int)->sp w [.ref a] H (λv _=>v= .bl true) λ_ _ _=>False)
  (hCX:∀(w:Qq) (H:Hp) (s:Xg) (e:Xe) (s':Xg),CX w [] H s (λ_ _ _=>False) e s'->False) :
  PySem.W.WalkO q loose XP YP l.row.toRowW d [] (λf vs=>PySem.call f vs):=by
 refine Att.attach_call hn hdf λw s₀ s₁ mg mb fa o pm cd doc a vs ns G Y ho hd hcd hmg hobj hints hlen hg=>?_
 have KX:=hY w _ Y
 obtain⟨fd,hb,hF⟩:=F w mg fa _ KX G.T.g hmg
 exact Zwo KX G.T.g G.T.b G.T.builtins G.T.nolimit hg hobj hints (Ql hlen hn2) hr hF hb (λH hO hS=>hsp w H a ns hlen hO hS) λH e s'=>hCX w H s₁ e s'
noncomputable def Zeb(s:Stmt):Arguments:=match s with
 | .FunctionDef _ a _ _ _ _ _ _ _ _=>a
 | _=>{ posonlyargs:=[],args:=[],vararg:=none,kwonlyargs:=[],kw_defaults:=[],kwarg:=none,defaults:=[] }
noncomputable def Zau(s:Stmt):List Stmt:=match s with
 | .FunctionDef _ _ b _ _ _ _ _ _ _=>b
 | _=>[]
noncomputable def Zi(s:Stmt):U5:=match s with
 | .FunctionDef _ _ _ _ _ _ sc _ _ _=>sc
 | _=>{ kind:=.function,names:=[],isGenerator:=false,isCoroutine:=false }
noncomputable abbrev CX0:CXT:=λ_ _ _ _ _ _=>False
noncomputable abbrev E0:XK:=λ_ _ _=>False
theorem Z93{X:Cx}:Znw CX0 X E0:=λ_ _ _ _ _ _ _ h=>h.elim
structure Fun(K:Xc)(x qual:Str)(st:Stmt)(f:Addr)(fd:Qc):Prop where
 ex:∃(oc:Xe) (od:Option Addr) (kV doc pm:Xe) (an:Option Addr) (cdv ct:Xe) (osl:Array (Option Xe)),
  fd=Vz x qual (Zeb st) (Zau st) (Zi st) .none kV doc pm an cdv ct∧K.lookup f=some ⟨oc,od,.func fd,osl⟩∧PySem.W.codeIn K cdv qual=true
 kp:Vv K (.ref f)=true
section
variable {P:XS}{w:Qq}{K:Xc}{mg:Str->Option Xe}{base:Heap}
theorem Fun.ok{x qual:Str}{st:Stmt}{f:Addr}{fd:Qc}{N ps:List Str}{k:Nat}{sp:Sp}(F:Fun K x qual st f fd)(S:Zt N ps (Zi st))(len:∀vs H Q E,sp vs H Q E->vs.length=ps.length)
  (hbody:∀(cdv:Xe) (A:Qs) (outer:List Env) (s:Xg) (H:Hp) (vs:List V) (Q:VK) (E:XK),Room k (A.deeper (envOfC qual (Zi st) s.heap.objs.size f cdv))->sp vs H Q E ->
   ∃t,PSs (Zxe CX0 P w K mg base N qual (Zi st) f cdv A outer s H E).nox (Zau st) t∧t { nx:=λ_ H'=>Q .non H',rt:=Q } (start N vs) H):FnOk P w K mg base CX0 (k+1) f fd ps sp:=by
 obtain⟨oc,od,kV,doc,pm,an,cdv,ct,osl,rfl,lk,hcd⟩:=F.ex
 refine Yan lk hcd S len λA outer s H vs Q E hr hsp=>?_
 obtain⟨t,h,q⟩:=hbody cdv A outer s H vs Q E hr hsp
 exact⟨t,h.nox,q⟩
theorem Fun.binds{x qual:Str}{st:Stmt}{f:Addr}{fd:Qc}{ps:List Str}(F:Fun K x qual st f fd)
  (h:∀(kV doc pm:Xe) (an:Option Addr) (cdv ct:Xe) (us:List Xe),us.length=ps.length->bindArgs (Vz x qual (Zeb st) (Zau st) (Zi st) .none kV doc pm an cdv ct) ⟨us,[]⟩=pure (ps.zip us)):Binds K fd ps []:=by
 obtain⟨oc,od,kV,doc,pm,an,cdv,ct,osl,rfl,lk,hcd⟩:=F.ex
 exact .all (h kV doc pm an cdv ct)
theorem Z4n{x qual:Str}{st:Stmt}{f:Addr}{oc:Xe}{od an:Option Addr}{osl:Array (Option Xe)}{kV doc pm cdv ct:Xe}(l:K.lookup f=some ⟨oc,od,.func (Vz x qual (Zeb st) (Zau st) (Zi st) .none kV doc pm an cdv ct),osl⟩)
  (c:PySem.W.codeIn K cdv qual=true) (k:Vv K (.ref f)=true):Fun K x qual st f (Vz x qual (Zeb st) (Zau st) (Zi st) .none kV doc pm an cdv ct):=⟨⟨oc,od,kV,doc,pm,an,cdv,ct,osl,rfl,l,c⟩,k⟩
end
section
variable {X:Cx}
theorem pv(i:Nat){x:Str}{pos:Pos}(hN:X.N[i]? =some x:=by rfl)(hv:Vis X.env.scope x:=by first|exact Qw rfl|exact Qo (Qw rfl)|exact Qo (Qo rfl))(hd:(x==("__debug__" : Str))=false:=by decide)
  (hcd:(x==("__classdict__" : Str))=false:=by decide):PE X (.Name x pos) (Ydj i):=Z48 hN hv hd hcd
end
noncomputable def Same(H H':Hp):Prop:=∀b o,H b=some o->H' b=some o
theorem Same.refl(H:Hp):Same H H:=λ_ _ h=>h
theorem Same.trans{H H1 H2:Hp}(a:Same H H1)(b:Same H1 H2):Same H H2:=λc o h=>b c o (a c o h)
theorem Same.free{H H':Hp}(e:Same H H'){l:Addr}(h:H' l=Option.none):H l=Option.none:=by
 cases q:H l with
 | none=>rfl
 | some o=>
  rw[e l o q]at h
  cases h
theorem Same.seq{K:Xc}{H H':Hp}{a:Addr}{xs:List V}(e:Same H H')(h:SqL K H a xs):SqL K H' a xs:=by
 rcases h with(h|⟨o,h⟩)|h
 ·exact .inl (.inl (e _ _ h))
 ·exact .inl (.inr ⟨o,e _ _ h⟩)
 ·exact .inr h
end L2
set_option maxHeartbeats 4000000
namespace L2
open PySem PySem.Spec PyProof.Rows
noncomputable def Bt(n:Nat)(x:Int):Prop:=x.natAbs<2^n
theorem Bt.of_lt{m:Nat}{x:Int}(h1:-(2^m)<x)(h2:x<2^m):Bt m x:=by
 unfold Bt
 have e:((2^m:Nat):Int)=2^m:=by simp
 omega
noncomputable def DivOk(_ j:Int):Prop:=j≠0∧j.natAbs.log2<9000
theorem DivOk.of{i j:Int}{n:Nat}(h0:j≠0)(h:Bt n j)(hn:n≤9000:=by decide):DivOk i j:=by
 refine⟨h0,?_⟩
 have hp:j.natAbs≠0:=by omega
 have:=(Nat.log2_lt hp).mpr h
 omega
section
variable {X:Cx}
theorem Zy5:OpR X (Vl .Mult) (rI IntMulOk λi j=>.int (i*j)):=opI λ_ _ _ _ _ _ _ hc q=>mul_int q hc
theorem Zwl:OpR X (Vl .FloorDiv) (rI DivOk λi j=>.int (i.fdiv j)):=opI λ_ _ _ _ _ _ _ hc q=>floordiv_int hc.1 q (.inl (PyProof.noPylong_of_log2 hc.2))
theorem Z1z:OpR X (Vl .Pow) (rI Z81 λi j=>.int (i^j.toNat)):=Z7n
end
theorem Zg0(elt target iter:Expr)(ifs:List Expr)(scope:U5)(pos:Pos)(it acc:Xe)(env:Env) :
  compTurn (.ListComp elt [⟨target,iter,ifs,0⟩] scope pos) 0 it acc env=(standAt iter.pos>>= λ_=>Ub it>>= λr=>match r with
   | none=>pure (.done .next)
   | some v=>letOwnedTupleGo target it v>>= λ_=>assign target env v>>= λ_=>
    (forIn ifs true λc r=>if r=true then do let ok←isTrue c env (eval c env);pure (JV ok)else pure (JV r))>>= λok=>
     if ok=true then((eval elt env>>= λx=>call (.builtin "list.append") [acc,x]>>= λ_=>pure ())>>= λ_=>
      again (.compLoop (.ListComp elt [⟨target,iter,ifs,0⟩] scope pos) 0 it acc env))
     else again (.compLoop (.ListComp elt [⟨target,iter,ifs,0⟩] scope pos) 0 it acc env)):=by rfl
theorem Zj2{prog:XS}{w:Qq}{A:Qs}{R:Result->Xg->Prop}{s:Xg}{elt target iter:Expr}{ifs:List Expr}{scope:U5}{pos:Pos}{it acc:Xe}{env:Env}(I:Nat->Xg->Prop)
  (turn:∀n s,I n s->XD (XR prog w) A (Ub it) (λr s₁=>match r with
   | none=>R (.ok .next) s₁
   | some v=>XD (XR prog w) A (letOwnedTupleGo target it v) (λ_ s₁=>XD (XR prog w) A (assign target env v) (λ_ s₂=>
     XD (XR prog w) A (forIn ifs true λc r=>if r=true then do let ok←isTrue c env (eval c env);pure (JV ok)else pure (JV r)) (λok s₃=>
      if ok=true then XD (XR prog w) A (eval elt env) (λx s₄=>
       XD (XR prog w) A (call (.builtin "list.append") [acc,x]) (λ_ s₅=>∃m,m<n∧I m s₅) (notedBy (XR prog w) A env λe s'=>R (.error e) s') s₄) (notedBy (XR prog w) A env λe s'=>R (.error e) s') s₃
      else∃m,m<n∧I m s₃) (notedBy (XR prog w) A env λe s'=>R (.error e) s') s₂) (notedBy (XR prog w) A env λe s'=>R (.error e) s') s₁) (notedBy (XR prog w) A env λe s'=>R (.error e) s') s₁) (notedBy (XR prog w) A env λe s'=>R (.error e) s') s)
  (n:Nat) (h:I n s) :
  U3 (XR prog w) A (.compLoop (.ListComp elt [⟨target,iter,ifs,0⟩] scope pos) 0 it acc env) R s:=by
 refine codeAny_loop rfl I (λn s hI=>?_) n h
 show XD _ A ((compTurn (.ListComp elt [⟨target,iter,ifs,0⟩] scope pos) 0 it acc env).onRaise (λx=>do noteFrame x env;theTreesLotGoes x)) _ _ s
 refine wpAny_noted ?_
 rw[Zg0]
 refine Xb (wpAny_standAt (Xb (Be (turn n s hI) (λr s₁ h₁=>?_) λ_ _ h'=>h')))
 cases r with
 | none=>exact Xm h₁
 | some v=>
  refine Xb (Be h₁ (λ_ s₂ h₂=>?_) λ_ _ h'=>h')
  refine Xb (Be h₂ (λ_ s₂ h₂=>Xb (Be h₂ (λok s₃ h₃=>?_) λ_ _ h'=>h')) λ_ _ h'=>h')
  cases ok with
  | false=>exact Xm ⟨rfl,h₃⟩
  | true=>
   exact Xb (Xb (Be h₃ (λx s₄ h₄=>Xb (Be h₄ (λ_ s₅ h₅=>Xm (Xm ⟨rfl,h₅⟩)) λ_ _ h'=>h')) λ_ _ h'=>h'))
noncomputable def Zgx(env:Env):List (Str×By)->List (Str×Addr)->List (Str×Addr)
 | [],acc=>acc
 | (n,k) :: r,acc=>if k== .free then Zgx env r ((n,(env.cells.lookup n).getD 0) :: acc)else Zgx env r acc
theorem Zjf{env:Env}:∀(names:List (Str×By)) (acc:List (Str×Addr)),(∀y∈names,y.2= .free->∃c,env.cells.lookup y.1=some c) ->
  (forIn names acc (λ(y:Str×By) cs=>(if y.2== .free then(cellOf env y.1>>= λc=>pure (JV ((y.1,c) :: cs)))else pure (JV cs):Sem (ForInStep (List (Str×Addr))))))=pure (Zgx env names acc)
 | [],acc,_=>by rw[U8];rfl
 | (n,k) :: r,acc,h=>by
  by_cases hk:k= .free
  ·subst hk
   obtain⟨c,hc⟩:=h (n,.free) (.head _) rfl
   have hc':env.cells.lookup n=some c:=hc
   have e:=Zjf (env:=env) r ((n,c) :: acc) λy hy=>h y (.tail _ hy)
   have ec:cellOf env n=pure c:=by
    unfold cellOf
    rw[hc']
   rw[List.forIn_cons]
   simp only[beq_self_eq_true,if_true]
   rw[ec]
   simp only[Zgx,beq_self_eq_true,if_true,hc',Option.getD_some]
   exact e
  ·have e:=Zjf (env:=env) r acc λy hy=>h y (.tail _ hy)
   have hb:(k==QZ)=false:=by simpa using hk
   rw[List.forIn_cons]
   simp only[Zgx,hb,Qm,if_false]
   exact e
theorem Zcm{scope:U5}{env:Env}(h:∀y∈scope.names,y.2= .free->∃c,env.cells.lookup y.1=some c):closureFor scope env=pure (Zgx env scope.names []):=by
 have e:=Zjf scope.names [] h
 have e':(forIn scope.names ([]:List (Str×Addr)) (λ(y:Str×By) cs=>(match y with|(name,kind)=>do
   if kind== .free then do let a←cellOf env name;pure (JV ((name,a) :: cs))else pure (JV cs):Sem (ForInStep (List (Str×Addr))))))=pure (Zgx env scope.names []):=e
 exact congrArg (λ(m:Sem (List (Str×Addr)))=>m>>= λx=>pure x) e'
theorem Zin{env:Env}:∀(names:List (Str×By)) (acc:List (Str×Addr)),(∀y∈names,y.2= .free->∃c,env.cells.lookup y.1=some c) ->
  ∀n c,(n,c)∈Zgx env names acc->(n,c)∈acc∨((n,QZ)∈names∧env.cells.lookup n=some c)
 | [],acc,_,n,c,h=>.inl h
 | (m,k) :: r,acc,h,n,c,hm=>by
  by_cases hk:k= .free
  ·subst hk
   obtain⟨d,hd⟩:=h (m,.free) (.head _) rfl
   have hd':env.cells.lookup m=some d:=hd
   simp only[Zgx,beq_self_eq_true,if_true,hd',Option.getD_some]at hm
   rcases Zin r _ (λy hy=>h y (.tail _ hy)) n c hm with z|⟨z1,z2⟩
   ·rcases Xp.mp z with z|z
    ·cases z;exact .inr ⟨.head _,hd'⟩
    ·exact .inl z
   ·exact .inr ⟨.tail _ z1,z2⟩
  ·have hb:(k==QZ)=false:=by simpa using hk
   simp only[Zgx,hb,Qm,if_false]at hm
   refine(Zin r _ (λy hy=>h y (.tail _ hy)) n c hm).imp id λqz9=>?_
   obtain⟨z1,z2⟩:=qz9
   exact⟨.tail _ z1,z2⟩
theorem Zit{env:Env}:∀(names:List (Str×By)) (acc:List (Str×Addr)),∀p∈acc,p∈Zgx env names acc
 | [],_,_,h=>h
 | (m,k) :: r,acc,p,h=>by
  unfold Zgx
  split
  ·exact Zit r _ p (.tail _ h)
  ·exact Zit r _ p h
theorem Zih{env:Env}:∀(names:List (Str×By)) (acc:List (Str×Addr)) (n:Str),(n,QZ)∈names->∃c,(n,c)∈Zgx env names acc
 | [],_,_,h=>nomatch h
 | (m,k) :: r,acc,n,h=>by
  rcases Xp.mp h with z|z
  ·cases z
   exact⟨_,by
    simp only[Zgx,beq_self_eq_true,if_true]
    exact Zit _ _ _ (.head _)⟩
  ·unfold Zgx
   split
   ·exact Zih r _ n z
   ·exact Zih r _ n z
theorem Zd7{env:Env}(inj:∀x y c,env.cells.lookup x=some c->env.cells.lookup y=some c->x=y):∀(names:List (Str×By)) (acc:List (Str×Addr)),
  (∀ y∈names,y.2= .free->∃c,env.cells.lookup y.1=some c)->(names.map (·.1)).Nodup->(∀p∈acc,env.cells.lookup p.1=some p.2)->(∀p∈acc,p.1∉names.map (·.1))->(acc.Pairwise λx y=>x.2≠y.2) ->
  (Zgx env names acc).Pairwise λx y=>x.2≠y.2
 | [],_,_,_,_,_,h=>h
 | (m,k) :: r,acc,hf,hn,ha,hd,hp=>by
  rw[X3,X6]at hn
  have hf':∀y∈r,y.2= .free->∃c,env.cells.lookup y.1=some c:=λy hy=>hf y (.tail _ hy)
  have hd':∀p∈acc,p.1∉r.map (·.1):=λp hp z=>hd p hp (by rw[X3];exact .tail _ z)
  by_cases hk:k= .free
  ·subst hk
   obtain⟨d,hd0⟩:=hf (m,.free) (.head _) rfl
   have hd1:env.cells.lookup m=some d:=hd0
   simp only[Zgx,beq_self_eq_true,if_true,hd1,Option.getD_some]
   refine Zd7 inj r _ hf' hn.2 (λp hp'=>?_) (λp hp'=>?_) (V9.mpr ⟨λp hp' z=>?_,hp⟩)
   ·rcases Xp.mp hp' with rfl|hp'
    ·exact hd1
    ·exact ha p hp'
   ·rcases Xp.mp hp' with rfl|hp'
    ·exact hn.1
    ·exact hd' p hp'
   ·have e:m=p.1:=inj m p.1 d hd1 (by rw[ha p hp',←z])
    exact hd p hp' (by rw[X3,←e];exact .head _)
  ·have hb:(k==QZ)=false:=by simpa using hk
   simp only[Zgx,hb,Qm,if_false]
   exact Zd7 inj r _ hf' hn.2 ha hd' hp
structure Zom(h:Heap)(lo:Nat)(names:List (Str×By))(acc cs:List (Str×Addr)):Prop where
 mem:∀n c,(n,c)∈cs->(n,c)∈acc∨(h.IsCell c none∧lo≤c∧(n,Bk)∈names)
 has:∀n,(n,Bk)∈names->∃c,(n,c)∈cs
 old:∀p∈acc,p∈cs
theorem Zej:∀(names:List (Str×By)) (h:Heap) (lo:Nat) (acc:List (Str×Addr)),lo≤h.objs.size->Zom (Ve h names) lo names acc (Bg h.objs.size names acc)
 | [],_,_,_,_=>⟨λ_ _ m=>.inl m,(λ_ m=>nomatch m),λ_ m=>m⟩
 | (name,kind) :: r,h,lo,acc,hlo=>by
  by_cases hk:(kind==Bk)=true
  ·have ek:kind= .cell:=by simpa using hk
   subst ek
   have ih:=Zej r (h.push { cls:=.type "cell",data:=.cell none }) lo ((name,h.objs.size) :: acc) (by rw[QF];omega)
   rw[QF]at ih
   have e1:Bg h.objs.size ((name,.cell) :: r) acc=Bg (h.objs.size+1) r ((name,h.objs.size) :: acc):=by
    rw[Bg,if_pos hk]
   have e2:Ve h ((name,.cell) :: r)=Ve (h.push { cls:=.type "cell",data:=.cell none }) r:=by
    rw[Ve,if_pos hk]
   rw[e1,e2]
   refine⟨λn c m=>?_,λn m=>?_,λp m=>ih.old p (.tail _ m)⟩
   ·rcases ih.mem n c m with z|⟨z1,z2,z3⟩
    ·rcases Xp.mp z with z|z
     ·cases z
      exact .inr ⟨⟨_,pushCells_keeps _ _ _ _ (XC _ rfl),rfl⟩,hlo,.head _⟩
     ·exact .inl z
    ·exact .inr ⟨z1,z2,.tail _ z3⟩
   ·rcases Xp.mp m with z|z
    ·cases z
     exact⟨_,ih.old _ (.head _)⟩
    ·exact ih.has n z
  ·have ih:=Zej r h lo acc hlo
   have e1:Bg h.objs.size ((name,kind) :: r) acc=Bg h.objs.size r acc:=by
    rw[Bg,if_neg hk]
   have e2:Ve h ((name,kind) :: r)=Ve h r:=by
    rw[Ve,if_neg hk]
   rw[e1,e2]
   refine⟨λn c m=>(ih.mem n c m).imp id λ⟨z1,z2,z3⟩=>⟨z1,z2,.tail _ z3⟩,λn m=>?_,ih.old⟩
   rcases Xp.mp m with z|z
   ·cases z
    exact absurd rfl hk
   ·exact ih.has n z
theorem Zfq(names:List (Str×By)):∀(h:Heap) (acc:List (Str×Addr)),(acc.Pairwise λx y=>x.2≠y.2)->(∀p∈acc,p.2<h.objs.size)->(Bg h.objs.size names acc).Pairwise λx y=>x.2≠y.2:=by
 induction names with
 | nil=>intro h acc ha _;exact ha
 | cons y r ih=>
  intro h acc ha hb
  obtain⟨name,kind⟩:=y
  unfold Bg
  split
  ·have:=ih (h.push { cls:=.type "cell",data:=.cell none }) ((name,h.objs.size) :: acc) (V9.mpr ⟨λp hp=>XM (hb p hp),ha⟩) (λp hp=>by
    rw[QF]
    rcases Xp.mp hp with rfl|hp
    ·exact QC _
    ·exact Bb (hb p hp))
   rwa[QF]at this
  ·exact ih h acc ha hb
theorem Zg6{M:Model}{A:Qs}{E:Xe->Xg->Prop}{s:Xg}{scope:U5}{globals:Addr}{cl:List (Str×Addr)}{qual:Str}{env:Env}{Q:Env->Xg->Prop}
  (hQ:Q (newEnv scope s.heap.objs.size globals (Bg (s.heap.objs.size+1) scope.names cl) qual none .none (some env) builtinsNs)
   { s with heap:=Ve (s.heap.push { cls:=.type "dict",data:=.dict #[] }) scope.names }) :
  XD M A (newFunctionEnv scope globals cl [] qual none .none (some env)) Q E s:=by
 simp only[newFunctionEnv,Option.isSome_some,if_true]
 refine Xb (wpAny_alloc ?_)
 refine Xb (wpAny_layCells _ (λname kind cells=>by cases hkc:kind==Bk<;>simp[hkc]) _ _ _ _ ?_)
 rw[show({ s with heap:=s.heap.push { cls:=.type "dict",data:=.dict #[] } }:Xg).heap.objs.size=s.heap.objs.size+1 from QF ..]
 rw[U8]
 exact Xb (Xm (Xm hQ))
noncomputable def We(X:Cx)(N':List Str)(sc:U5)(C:Addr)(cells:List (Str×Addr))(s₂:Xg)(H₂:Hp)(fp:List Addr):Cx :=
 { X with N:=N',s₀:=s₂,H₀:=H₂,env:=compEnvC sc cells C X.env,outer:=X.stack,stack:=X.stack,ex:=fp,fn:=λx=>sc.names.lookup x==some .cell,pn:=[],xe:=λ_ _=>False }
theorem Zcj{env:Env}:∀{names:List (Str×By)} {x:Str} {k:By},names.lookup x=some k ->
  (names.map λ(n,k)=>if(k==QZ&&env.scope.kind== .function&&env.kindOf n==some .cell)then(n,Bk)else(n,k)).lookup x=
   some (if(k==QZ&&env.scope.kind== .function&&env.kindOf x==some .cell)then Bk else k)
 | [],_,_,h=>by simp at h
 | (n,k') :: r,x,k,h=>by
  have ih:=@Zcj env r x k
  show List.lookup x ((if(k'==QZ&&env.scope.kind== .function&&env.kindOf n==some .cell)=true then(n,Bk)else(n,k')) :: _)=_
  cases hx:x==n with
  | true=>
   simp only[Q0,hx]at h
   cases h
   have e:=beq_iff_eq.mp hx
   subst e
   split<;>simp[Q0]
  | false=>
   simp only[Q0,hx]at h
   split
   ·simp only[Q0,hx];exact ih h
   ·simp only[Q0,hx];exact ih h
theorem Zew{env:Env}:∀{names:List (Str×By)} {x:Str},names.lookup x=none ->
  (names.map λ(n,k)=>if(k==QZ&&env.scope.kind== .function&&env.kindOf n==some .cell)then(n,Bk)else(n,k)).lookup x=none
 | [],_,_=>rfl
 | (n,k') :: r,x,h=>by
  have ih:=@Zew env r x
  show List.lookup x ((if(k'==QZ&&env.scope.kind== .function&&env.kindOf n==some .cell)=true then(n,Bk)else(n,k')) :: _)=_
  cases hx:x==n with
  | true=>
   simp only[Q0,hx]at h
   cases h
  | false=>
   simp only[Q0,hx]at h
   split
   ·simp only[Q0,hx];exact ih h
   ·simp only[Q0,hx];exact ih h
theorem Zdi{α:Type}:∀{l:List (Str×α)} {n:Str} {c:α},(l.map (·.1)).Nodup->(n,c)∈l->l.lookup n=some c
 | (k,v) :: r,n,c,hd,h=>by
  rw[X3,X6]at hd
  rcases Xp.mp h with e|hr
  ·cases e
   simp[Q0]
  ·have hne:(n==k)=false:=by
    refine Bv.mpr λz=>hd.1 ?_
    have e:n=k:=beq_iff_eq.mp z
    rw[←e]
    exact XX.mpr ⟨(n,c),hr,rfl⟩
   rw[Q0,hne]
   exact Zdi hd.2 hr
theorem Yj{α:Type}:∀{l:List (Str×α)} {n:Str} {c:α},(n,c)∈l->∃d,l.lookup n=some d∧(n,d)∈l
 | (k,v) :: r,n,c,h=>by
  by_cases e:n=k
  ·subst e
   exact⟨v,by simp[Q0],U7⟩
  ·have hne:(n==k)=false:=by simpa using e
   rcases Xp.mp h with z|z
   ·cases z;exact absurd rfl e
   ·obtain⟨d,h1,h2⟩:=Yj z
    exact⟨d,by rw[Q0,hne];exact h1,.tail _ h2⟩
structure CompScope(X:Cx)(own:List Str)(caps:List Nat)(N':List Str)(sc:U5):Prop where
 kind:sc.kind= .function
 nd:N'.Nodup
 names:N'=own ++ caps.map λi=>X.N.getD i Str.empty
 nn:(sc.names.map (·.1)).Nodup
 free:(sc.names.all λy=>y.2 != .free||(X.env.kindOf y.1==some .cell||X.env.kindOf y.1==some .free))=true
 caps:(caps.all λi=>sc.names.lookup (X.N.getD i Str.empty)==some .free)=true
noncomputable def Jf(own:List Str)(caps:List Nat)(σ:St):St:=own.map (λ_=>none) ++ caps.map λi=>(σ[i]?).getD none
section
variable {X:Cx}{own:List Str}{caps:List Nat}{N':List Str}{sc:U5}
theorem CompScope.lk(S:CompScope X own caps N' sc){n:Str}{k:By}(h:(n,k)∈sc.names):sc.names.lookup n=some k:=Zdi S.nn h
theorem CompScope.fr(S:CompScope X own caps N' sc){n:Str}(h:(n,QZ)∈sc.names):X.env.kindOf n=some .cell∨X.env.kindOf n=some .free:=by
 have:=VH.mp S.free _ h
 simpa using this
theorem Zow{pins:List (Addr×Obj)}{σ:St}{H:Hp}{s:Xg}{fp:List Addr}{cl:List (Str×Addr)}(S:CompScope X own caps N' sc)(I:Inv X pins σ H s)
  (f:∀b∈fp,Zjo X pins H b) (fo:∀b∈fp,∃o,s.heap.get? b=some o)
  (hcl:∀n c,(n,c)∈cl->(n,QZ)∈sc.names∧X.env.cells.lookup n=some c) (hcl2:∀n,(n,QZ)∈sc.names->∃c,(n,c)∈cl) (hapart:cl.Pairwise λx y=>x.2≠y.2) :
  Inv (We X N' sc (s.heap.objs.size+1) (Bg (s.heap.objs.size+2) sc.names cl) s H fp) [] (Jf own caps σ) (upd H s.heap.objs.size (.lst []))
   { s with heap:=Ve ((s.heap.push { cls:=.type "list",data:=.seq #[] }).push { cls:=.type "dict",data:=.dict #[] }) sc.names }:=by
 generalize hh1:s.heap.push { cls:=.type "list",data:=.seq #[] }=h1
 have z1:h1.objs.size=s.heap.objs.size+1:=by rw[←hh1,QF]
 generalize hh2:h1.push { cls:=.type "dict",data:=.dict #[] }=h2
 have z2:h2.objs.size=s.heap.objs.size+2:=by rw[←hh2,QF,z1]
 have BC:=Zej sc.names h2 (s.heap.objs.size+2) cl (by omega)
 have AP:=Zfq sc.names h2 cl hapart (λp hp=>by
  obtain⟨v,hv⟩:=I.cell p.1 p.2 (hcl p.1 p.2 hp).2
  exact Qi hv.lt (by omega))
 rw[z2]at BC AP
 have keep:∀b o,s.heap.get? b=some o->(Ve h2 sc.names).get? b=some o:=λb o e=>pushCells_keeps _ _ _ _ (by
  rw[←hh2]
  refine Xf _ ?_
  rw[←hh1]
  exact Xf _ e)
 have hD:(Ve h2 sc.names).get? s.heap.objs.size=some { cls:=.type "list",data:=.seq #[] }:=pushCells_keeps _ _ _ _ (by
  rw[←hh2]
  refine Xf _ ?_
  rw[←hh1]
  exact XC _ rfl)
 have hC:(Ve h2 sc.names).Ns (s.heap.objs.size+1) (λ_=>none):=by
  refine Heap.Ns.keeps ?_ (pushCells_keeps _ _)
  have:=Heap.Ns.new h1 (.type "dict")
  rw[hh2,z1]at this
  exact this
 have cellOld:∀n c,X.env.cells.lookup n=some c->c<s.heap.objs.size:=λn c e=>by
  obtain⟨v,hv⟩:=I.cell n c e
  exact hv.lt
 have lk':∀n c,(Bg (s.heap.objs.size+2) sc.names cl).lookup n=some c->(n,c)∈Bg (s.heap.objs.size+2) sc.names cl:=λn c e=>JX e
 have hnD:H s.heap.objs.size=none:=I.fresh
 have fresh:∀c,s.heap.objs.size<c->upd H s.heap.objs.size (.lst []) c=none:=λc hc=>by
  rw[Zn (XM hc)]
  exact I.hok.fresh (Vh hc)
 have isc:∀n c,(n,c)∈Bg (s.heap.objs.size+2) sc.names cl->∃v,(Ve h2 sc.names).IsCell c v:=λn c m=>by
  rcases BC.mem n c m with z|⟨z,_⟩
  ·obtain⟨v,hv⟩:=I.cell n c (hcl n c z).2
   exact⟨v,hv.keeps keep⟩
  ·exact⟨none,z⟩
 have okH:HOk X.prog X.w (upd H s.heap.objs.size (.lst [])) (Ve h2 sc.names):=by
  refine I.hok.laid keep (Xz _) ?_
  exact⟨Qy _,[],0,.nil,hD⟩
 have kinds:∀x k,sc.names.lookup x=some k->(relabel sc X.env).names.lookup x=some (if(k==QZ&&X.env.scope.kind== .function&&X.env.kindOf x==some .cell)then Bk else k):=λx k e=>Zcj e
 have kindsR:∀x k,(relabel sc X.env).names.lookup x=some k->∃k',(x,k')∈sc.names∧k=(if(k'==QZ&&X.env.scope.kind== .function&&X.env.kindOf x==some .cell)then Bk else k'):=λx k e=>by
  cases q:sc.names.lookup x with
  | none=>
   have:=Zew (env:=X.env) q
   rw[show(relabel sc X.env).names.lookup x=_ from this]at e
   cases e
  | some k'=>
   refine⟨k',JX q,?_⟩
   rw[kinds x k' q]at e
   exact(Qu e).symm
 refine⟨⟨I.ok.mod,S.kind,I.ok.glob,I.ok.blt,?_,?_,?_,?_,I.ok.hd,I.ok.frames,.inl rfl,?_,?_,?_,?_,?_,?_,?_⟩,rfl,I.bare,?_,?_,?_,?_,?_,(λp hp=>nomatch hp),okH,?_⟩
 ·show s.heap.objs.size≤s.heap.objs.size+1;omega
 ·intro x y c e1 e2
  exact name_of_addr AP (lk' x c e1) (lk' y c e2)
 ·intro x hx
  rcases hx with hx|hx
  ·obtain⟨k',hm,hk'⟩:=kindsR x _ hx
   cases k' with
   | cell=>
    obtain⟨c,hc⟩:=BC.has x hm
    obtain⟨d,h1,_⟩:=Yj hc
    exact⟨d,h1⟩
   | free=>
    obtain⟨c,hc⟩:=hcl2 _ hm
    obtain⟨d,h1,_⟩:=Yj (BC.old _ hc)
    exact⟨d,h1⟩
   | _=>simp at hk'
  ·obtain⟨k',hm,hk'⟩:=kindsR x _ hx
   cases k' with
   | free=>
    obtain⟨c,hc⟩:=hcl2 _ hm
    obtain⟨d,h1,_⟩:=Yj (BC.old _ hc)
    exact⟨d,h1⟩
   | _=>simp at hk'
 ·intro x c hf e
  have hf':sc.names.lookup x=some .cell:=by simpa [We]using hf
  rcases BC.mem x c (lk' x c e)with z|⟨_,z,_⟩
  ·-- a free one and a cell at once: the name stands once
   exfalso
   have q:=S.lk (hcl x c z).1
   rw[hf']at q
   cases q
  ·show s.heap.objs.size≤c;omega
 ·intro b hb
  obtain⟨o,ho⟩:=fo b hb
  have hlt:=XH ho
  refine⟨Xo (Vg hlt (QC _)),λx c e z=>?_⟩
  rcases BC.mem x c (lk' x c e)with q|⟨_,q,_⟩
  ·exact(f b hb).2.2.2.2.1 x c (hcl x c q).2 z
  ·subst z
   exact absurd hlt (Nat.not_lt.mpr (Ql (BV _ 2) q))
 ·exact I.bs
 ·exact Ql I.ok.bsz I.sz
 ·intro b o e hb
  rcases(f b hb).2.2.2.1 with z|z
  ·exact I.ok.noex b o e z
  ·exact absurd (Qi (XH e) I.ok.bsz) (Nat.not_lt.mpr z)
 ·intro b hb z
  rcases Xp.mp (I.stkSub b z)with q|q
  ·exact(f b hb).2.1 q
  ·exact(f b hb).2.2.1 q
 ·exact I.stack
 ·exact I.stkFree
 ·exact Un.laid keep (Xz _) hnD
 ·refine⟨_,hC,λi x v e1 e2 e3=>?_⟩
  have e1':(own ++ caps.map λi=>X.N.getD i Str.empty)[i]? =some x:=by rw[←S.names];exact e1
  have e2':(own.map (λ_=>(none:Option V)) ++ caps.map λi=>(σ[i]?).getD none)[i]? =some (some v):=e2
  by_cases hi:i<own.length
  ·rw[List.getElem?_append_left (by simpa using hi),Xl]at e2'
   cases q:own[i]? with
   | none=>rw[q]at e2';cases e2'
   | some y=>rw[q]at e2';cases e2'
  ·rw[BX (by simpa using hi),Xl]at e2'
   rw[BX (by omega),Xl]at e1'
   rw[Xd]at e2'
   cases q:caps[i-own.length]? with
   | none=>rw[q]at e2';cases e2'
   | some j=>
    rw[q]at e1' e2'
    have e1:X.N.getD j Str.empty=x:=Qu e1'
    have e2:(σ[j]?).getD none=some v:=Qu e2'
    have e4:σ[j]? =some (some v):=by
     cases r:σ[j]? with
     | none=>rw[r]at e2;cases e2
     | some o=>rw[r]at e2;exact congrArg some e2
    have hj:j<X.N.length:=by rw[←I.len];exact(Xn.mp e4).1
    have e5:X.N[j]? =some x:=by rw[←e1];simp[Xr,hj]
    have hc:=VH.mp S.caps j (Q6 q)
    have e6:sc.names.lookup x=some .free:=by rw[←e1];simpa using hc
    have hm:=JX e6
    have kx:=S.fr hm
    obtain⟨m,hn,hl⟩:=I.loc
    obtain⟨u,ru,lo⟩:=hl j x v e5 e4 (by rcases kx with z|z;exact .inr (.inl z);exact .inr (.inr z))
    refine⟨u,ru,.inr ⟨?_,?_⟩⟩
    ·have:=kinds x _ e6
     show(relabel sc X.env).names.lookup x=_∨(relabel sc X.env).names.lookup x=_
     rw[this]
     split
     ·exact .inl rfl
     ·exact .inr rfl
    ·rcases lo with⟨z,_⟩|⟨_,c,hc1,hc2⟩
     ·rcases kx with w|w<;>(rw[w]at z;cases z)
     ·obtain⟨d,hd⟩:=hcl2 x hm
      obtain⟨d',h1,h2⟩:=Yj (BC.old _ hd)
      refine⟨d',h1,?_⟩
      rcases BC.mem x d' h2 with w|⟨_,_,w⟩
      ·have w':=(hcl x d' w).2
       rw[hc1]at w'
       cases w'
       exact hc2.keeps keep
      ·have:=S.lk w
       rw[e6]at this
       cases this
 ·intro x c e
  exact isc x c (lk' x c e)
 ·exact fresh _ (QC _)
 ·intro x c e
  rcases BC.mem x c (lk' x c e)with z|⟨_,z,_⟩
  ·have e':=(hcl x c z).2
   have hlt:=cellOld x c e'
   rw[Zn (Xo hlt)]
   exact I.freeC x c e'
  ·exact fresh c (by omega)
 ·show(Jf own caps σ).length=N'.length
  rw[S.names]
  unfold Jf
  simp
end
noncomputable def Z1c(J:It)(g:TG)(tt:TT)(te:TE)(σ0:St)(D:Addr)(Q:Hp->Prop)(H1:Hp):Prop :=
 ∃W:Nat->Nat->St->Hp->Prop,(∃m,W 0 m σ0 (upd H1 D (.lst [])))∧∀i m σ' H',W i m σ' H' ->
  (J.stop i H'∧Q H')∨(J.go i H'∧∀x H2,J.yld i H' x H2->g x σ' H2 λσ2 H3=>tt σ2 H3 λb H4=>
   if b=true then te σ2 H4 λy H5=>∃ys,H5 D=some (.lst ys)∧ys.length<Xq∧∃m',m'<m∧W (i+1) m' σ2 (upd H5 D (.lst (ys ++ [y])))
   else∃m',m'<m∧W (i+1) m' σ2 H4)
noncomputable def Z0i(own:List Str)(caps:List Nat)(wi:TI)(g:TG)(tt:TT)(te:TE):TE:=λσ H Q=>wi σ H λJ H1=>∀D,H1 D=none->Z1c J g tt te (Jf own caps σ) D (Q (.ref D)) H1
noncomputable def Yav:TT:=λ_ H Q=>Q true H
noncomputable def Z01(X:Cx)(ifs:List Expr)(t:TT):Prop :=
 ∀(pins:List (Addr×Obj)) (s:Xg) (σ:St) (H:Hp) (Q:Bool->Hp->Prop),Inv X pins σ H s->t σ H Q ->
  XD (XR X.prog X.w) X.A (forIn ifs true λc r=>if r=true then do let ok←isTrue c X.env (eval c X.env);pure (JV ok)else pure (JV r)) (TP X pins σ Q) X.xe s
theorem Z1p{X:Cx}:Z01 X [] Yav:=λpins s σ H Q I h=>by
 rw[U8]
 exact Xm ⟨H,I,h⟩
theorem Zzt{X:Cx}{c:Expr}{t:TT}(h:PT X c t):Z01 X [c] t:=λpins s σ H Q I q=>wpAny_tests_one (h pins s σ H Q I q)
theorem Z0s{M:Model}{A:Qs}{α:Type}{t:Sem α}{Q Q':α->Xg->Prop}{E:Xe->Xg->Prop}{s:Xg}(h:XD M A t Q (λ_ _=>False) s)(hQ:∀a s,Q a s->Q' a s):XD M A t Q' E s :=
 Be h hQ λ_ _ z=>z.elim
section
variable {X:Cx}{own:List Str}{caps:List Nat}{N':List Str}{sc:U5}{tg elt iter:Expr}{ifs:List Expr}{pos:Pos}{wi:TI}{g:TG}{tt:TT}{te:TE}
theorem Zni{pins p':List (Addr×Obj)}{σ σ':St}{H H':Hp}{s s':Xg}{fp:List Addr}{C:Addr}{cells:List (Str×Addr)}{h':Heap}(I:Inv X pins σ H s)(f:∀b∈fp,Zjo X pins H b)
  (I':Inv (We X N' sc C cells s H fp) p' σ' H' s') (hs:JM C s'.heap h'):Inv X pins σ H' { s' with heap:=h' }:=by
 have hC:s.heap.objs.size≤C:=I'.ok.above
 have B:=I'.base
 have ne:∀b o,s.heap.get? b=some o->b≠C:=λb o e=>Xo (Qi (XH e) hC)
 obtain⟨m,⟨oC,_,_,hoC,_⟩,_⟩:=I'.loc
 refine I.call' (ch:=fp) (s':={ s' with heap:=h' }) I'.os ⟨λb o e n hb hx=>?_,λb o e n hb hx=>?_,B.free,λb o e hx=>?_,B.tups,B.frzs,B.tbls⟩ (λb ob e=>?_) I'.bare λb hb=>?_
 ·exact(hs.2 b (ne b o e)).trans (B.keep b o e n hb hx)
 ·obtain⟨sl,q⟩:=B.slot b o e n hb hx
  exact⟨sl,(hs.2 b (ne b o e)).trans q⟩
 ·obtain⟨o',q⟩:=B.there b o e hx
  exact⟨o',(hs.2 b (ne b o e)).trans q⟩
 ·have hfree:H' C=none:=I'.free
  refine(I'.hok b ob e).stay (λc w' hc q=>(hs.2 c ?_).trans q) (λ_ q=>q) λ_ _ q=>q
  rintro rfl
  rcases hc with rfl|hc
  ·rw[hfree]at e;cases e
  ·rw[hfree]at hc;cases hc
 ·obtain⟨_,f1,_,f3,f4,f5⟩:=f b hb
  exact⟨f3,f1,f4,f5⟩
theorem Zh1{Qf:Result->Xg->Prop}(S:CompScope X own caps N' sc)(hc:X.calm=true)
  (hg:∀C cells s₂ H₂ fp,PG (We X N' sc C cells s₂ H₂ fp) tg g) (ht:∀C cells s₂ H₂ fp,Z01 (We X N' sc C cells s₂ H₂ fp) ifs tt) (he:∀C cells s₂ H₂ fp,PE (We X N' sc C cells s₂ H₂ fp) elt te)
  {pins:List (Addr×Obj)} {σ:St} {H:Hp} {s:Xg} {fp:List Addr} {it:Addr} {tn:Nat->Heap->Prop} {J:It} {Q:Hp->Prop} (I:Inv X pins σ H s) (T:Turn X.prog X.w X.K tg J fp it tn) (st:tn 0 s.heap) (f:∀b∈fp,Zjo X pins H b)
  (h:Z1c J g tt te (Jf own caps σ) s.heap.objs.size Q H)
  (fin:∀s' σ' H' p' C cells,Inv (We X N' sc C cells s H fp) p' σ' H' s'->C=s.heap.objs.size+1->Q H'->Qf (.ok .next) s') :
  XD (XR X.prog X.w) X.A (newFunctionEnv sc X.env.globals (Zgx X.env sc.names []) [] X.env.qual none .none (some X.env)) (λcenv s₄=>
   cenv.locals=s.heap.objs.size+1∧U3 (XR X.prog X.w) X.A (.compStart (.ListComp elt [⟨tg,iter,ifs,0⟩] sc pos) 0 (.ref it) (.ref s.heap.objs.size) { cenv with scope:=relabel sc X.env }) Qf s₄) X.xe
    { s with heap:=s.heap.push { cls:=.type "list",data:=.seq #[] } }:=by
 have hf:∀y∈sc.names,y.2= .free->∃c,X.env.cells.lookup y.1=some c:=λy hy e=>by
  obtain⟨n,k⟩:=y
  have e':k= .free:=e
  subst e'
  exact I.ok.has n (S.fr hy)
 have hcl:∀n c,(n,c)∈Zgx X.env sc.names []->(n,QZ)∈sc.names∧X.env.cells.lookup n=some c:=λn c m=>(Zin sc.names [] hf n c m).elim (λz=>nomatch z) id
 have hap:=Zd7 I.ok.inj sc.names [] hf S.nn (λ_ z=>nomatch z) (λ_ z=>nomatch z) .nil
 have I0:=Zow (cl:=Zgx X.env sc.names []) S I f (λb hb=>let⟨o,e,_⟩:=T.obj _ _ st b hb;⟨o,e⟩) hcl (λn m=>Zih sc.names [] n m) hap
 refine Zg6 ?_
 rw[show({ s with heap:=s.heap.push { cls:=.type "list",data:=.seq #[] } }:Xg).heap.objs.size=s.heap.objs.size+1 from QF ..]
 refine⟨rfl,?_⟩
 dsimp only
 generalize hs0:({ s with heap:=Ve ((s.heap.push { cls:=.type "list",data:=.seq #[] }).push { cls:=.type "dict",data:=.dict #[] }) sc.names }:Xg)=s0 at I0⊢
 have st0:tn 0 s0.heap:=T.keep _ _ _ st λb hb o e=>by
  rw[←hs0]
  exact pushCells_keeps _ _ _ _ (Xf _ (Xf _ e))
 generalize hcells:Bg (s.heap.objs.size+1+1) sc.names (Zgx X.env sc.names [])=cells at I0⊢
 -- the loop
 obtain⟨W,⟨m0,w0⟩,turn⟩:=h
 have loop:U3 (XR X.prog X.w) X.A (.compLoop (.ListComp elt [⟨tg,iter,ifs,0⟩] sc pos) 0 (.ref it) (.ref s.heap.objs.size) (We X N' sc (s.heap.objs.size+1) cells s H fp).env) Qf s0:=by
  generalize hX':We X N' sc (s.heap.objs.size+1) cells s H fp=X' at I0⊢
  have hg':=hg (s.heap.objs.size+1) cells s H fp
  have ht':=ht (s.heap.objs.size+1) cells s H fp
  have he':=he (s.heap.objs.size+1) cells s H fp
  have fin':=λs' σ' H' p' (z:Inv (We X N' sc (s.heap.objs.size+1) cells s H fp) p' σ' H' s')=>fin s' σ' H' p' _ _ z rfl
  rw[hX']at hg' ht' he' fin'
  have hxe:X'.xe= λ_ _=>False:=by rw[←hX'];rfl
  have hpr:X'.prog=X.prog:=by rw[←hX'];rfl
  have hw:X'.w=X.w:=by rw[←hX'];rfl
  have hK:X'.K=X.K:=by rw[←hX'];rfl
  have hA:X'.A=X.A:=by rw[←hX'];rfl
  have hcm:X'.calm=true:=by rw[←hX'];exact hc
  have hex:X'.ex=fp:=by rw[←hX'];rfl
  have hpn:X'.pn=[]:=by rw[←hX'];rfl
  have stat:∀{H':Hp},(∀b∈fp,H' b=none)->∀b∈fp,Zjo X' [] H' b:=λhn b hb=>by
   have e1:=I0.ok.exf b (by rw[hex];exact hb)
   have e2:=I0.ok.exfs b (by rw[hex];exact hb)
   exact⟨hn b hb,e1.1,e2,.inl (by rw[hex];exact hb),e1.2,λp hp=>by rw[hpn]at hp;exact nomatch hp⟩
  have frD:∀b∈fp,(upd H s.heap.objs.size (.lst [])) b=none:=λb hb=>by
   obtain⟨o,e,_⟩:=T.obj _ _ st b hb
   rw[Zn (Xo (XH e))]
   exact(f b hb).1
  have T':Turn X'.prog X'.w X'.K tg J fp it tn:=by rw[hpr,hw,hK];exact T
  rw[←hpr,←hw,←hA]
  refine Zj2 (λn s'=>∃i σ' H',Inv X' [] σ' H' s'∧tn i s'.heap∧(∀b∈fp,H' b=none)∧W i n σ' H') ?_ m0 ⟨0,_,_,I0,st0,frD,w0⟩
  rintro n s3 ⟨i,σ3,H3,I3,st3,fr3,w3⟩
  rcases turn i n σ3 H3 w3 with⟨stop,qn⟩|⟨go,step⟩
  ·refine Z0s (T'.done X' rfl rfl rfl hcm i [] s3 σ3 H3 _ I3 (stat fr3) st3 stop) λr s4 qz9=>?_
   obtain⟨hr,I4⟩:=qz9
   subst hr
   exact fin' s4 σ3 H3 [] I4 qn
  ·refine Z0s (T'.item X' rfl rfl rfl hcm i [] s3 σ3 H3 _ I3 (stat fr3) st3 go) λr s4 qz9=>?_
   obtain⟨u,hr,h4⟩:=qz9
   subst hr
   refine Z0s h4 λ_ s5 qz9=>?_
   obtain⟨x,H5,I5,r5,y5,st5,fr5⟩:=qz9
   have I5':=I5.pinned (stat fr5) (T.obj _ _ st5)
   have hgg:=hg' _ s5 σ3 H5 x u _ I5' r5 (step x H5 y5)
   rw[hxe]at hgg
   refine Z0s hgg λ_ s6 qz9=>?_
   obtain⟨σ6,H6,I6,q6⟩:=qz9
   have htt:=ht' _ s6 σ6 H6 _ I6 q6
   rw[hxe]at htt
   refine Z0s htt λok s7 qz9=>?_
   obtain⟨H7,I7,q7⟩:=qz9
   have again:∀{σ7:St} {H7:Hp} {s7:Xg} {m:Nat},Inv X' ([] ++ Zka fp s5.heap) σ7 H7 s7->W (i+1) m σ7 H7->m<n->∃m,m<n∧∃i σ' H',Inv X' [] σ' H' s7∧tn i s7.heap∧(∀b∈fp,H' b=none)∧W i m σ' H':=fun{σ7 H7 s7 m} I7 w7 hm=>by
    refine⟨m,hm,i+1,σ7,H7,I7.unpinned,T.keep _ _ _ st5 λb hb o e=>(I7.pin (b,o) (Qa _ (Qa _ (Zb6 hb e)))).1,λb hb=>?_,w7⟩
    obtain⟨o,e,d⟩:=T.obj _ _ st5 b hb
    exact(I7.pin (b,o) (Qa _ (Qa _ (Zb6 hb e)))).2.1
   cases ok with
   | false=>
    obtain⟨m',hm,w7⟩:=q7
    rw[if_neg Xv]
    exact again I7 w7 hm
   | true=>
    rw[if_pos rfl]
    have hee:=he' _ s7 σ6 H7 _ I7 q7
    rw[hxe]at hee
    refine Z0s hee λy s8 qz9=>?_
    obtain⟨vy,H8,I8,r8,ys,hD,hlen,m',hm,w8⟩:=qz9
    have hap:=Zdf (X:=X') _ s8 σ6 H8 (.ref s.heap.objs.size) [vy] (.ref s.heap.objs.size) [y] (λ_ H'=>W (i+1) m' σ6 H') I8 rfl (.cons r8 .nil) ⟨_,ys,vy,rfl,rfl,hD,hlen,w8⟩
    rw[hxe]at hap
    refine Z0s hap λz s9 qz9=>?_
    obtain⟨_,H9,I9,_,w9⟩:=qz9
    exact again I9 w9 hm
 exact codeAny_compStart_list loop (T.self _ 0 _ _ _ st0 loop)
theorem Z05(S:CompScope X own caps N' sc)(hc:X.calm=true)(hi:PI X tg iter wi)
  (hg:∀C cells s₂ H₂ fp,PG (We X N' sc C cells s₂ H₂ fp) tg g) (ht:∀C cells s₂ H₂ fp,Z01 (We X N' sc C cells s₂ H₂ fp) ifs tt) (he:∀C cells s₂ H₂ fp,PE (We X N' sc C cells s₂ H₂ fp) elt te)
  (hs:∀x,Vk iter X.env x=pure x:=by intro _;rfl):PE X (.ListComp elt [⟨tg,iter,ifs,0⟩] sc pos) (Z0i own caps wi g tt te):=by
 intro pins s σ H Q I h
 rw[eval_ListComp]
 have hf:∀y∈sc.names,y.2= .free->∃c,X.env.cells.lookup y.1=some c:=λy hy e=>by
  obtain⟨n,k⟩:=y
  have e':k= .free:=e
  subst e'
  exact I.ok.has n (S.fr hy)
 refine wpAny_comprehension_free (use:=none) rfl hs (Zcm hf) S.kind (λy hy e=>by obtain⟨n,k⟩:=y;have e':k= .local:=e;subst e';exact S.lk hy) ?_
 refine thn (hi pins s σ H _ I h) λv s1 h1=>thn h1 λitv s2 h2=>?_
 obtain⟨it,fp,tn,J,H2,e,I2,T,st2,f2,q⟩:=h2
 subst e
 refine JH ?_
 refine thn (Zh1 (iter:=iter) (pos:=pos) (Qf:=compPost (XR X.prog X.w) X.A X.xe none (EP X pins σ Q) (.ref s2.heap.objs.size) (s2.heap.objs.size+1)) S hc hg ht he I2 T st2 f2 (q s2.heap.objs.size I2.fresh) ?_) λcenv s4 ⟨hl,hr⟩=>?_
 ·intro s' σ' H' p' C cells I' eC q'
  subst eC
  obtain⟨m,hn,_⟩:=id I'.loc
  exact⟨m,hn,λh' hs'=>⟨.ref s2.heap.objs.size,H',Zni I2 f2 I' hs',rfl,q'⟩⟩
 ·rw[←hl]at hr
  exact hr
end
section
variable {X:Cx}{own:List Str}{caps:List Nat}{N':List Str}{sc:U5}{tg elt iter:Expr}{ifs:List Expr}{pos:Pos}{wi:TI}{g:TG}{tt:TT}{te:TE}
theorem Zo2{i:Nat}{y:Str}{py spos:Pos}(hN:X.N.Nodup)(hy:X.N[i]? =some y)(hx:Loc X.env.scope y)(S:CompScope X own caps N' sc)(hc:X.calm=true)(hi:PI X tg iter wi)
  (hg:∀C cells s₂ H₂ fp,PG (We X N' sc C cells s₂ H₂ fp) tg g) (ht:∀C cells s₂ H₂ fp,Z01 (We X N' sc C cells s₂ H₂ fp) ifs tt) (he:∀C cells s₂ H₂ fp,PE (We X N' sc C cells s₂ H₂ fp) elt te)
  (hsw:Br (.ListComp elt [⟨tg,iter,ifs,0⟩] sc pos) (some (.Name y py)) spos.line X.env=pure true:=by rfl)
  (hs:∀x,Vk iter X.env x=pure x:=by intro _;rfl) (hf:X.fn y=true∨X.env.scope.names.lookup y=some .local:=by first|exact .inl rfl|exact .inr rfl|assumption) :
  PS X (.Assign [.Name y py] (.ListComp elt [⟨tg,iter,ifs,0⟩] sc pos) spos) (Z9q (Z0i own caps wi g tt te) (Zqf i)):=by
 intro pins s σ H D I h
 have hfr:∀y∈sc.names,y.2= .free->∃c,X.env.cells.lookup y.1=some c:=λy hy e=>by
  obtain⟨n,k⟩:=y
  have e':k= .free:=e
  subst e'
  exact I.ok.has n (S.fr hy)
 rw[exec_Assign_Name_used _ _ _ _ hsw]
 refine Xb (wpAny_standAt (Xb ?_))
 show XD _ X.A (do let _←comprehension (.ListComp elt [⟨tg,iter,ifs,0⟩] sc pos) sc X.env _ (newList []) false (eval iter X.env) (some (assign (.Name y py) X.env))) _ _ s
 refine Xb (Be (wpAny_comprehension_free (use:=some (assign (.Name y py) X.env)) (Q:=λ_ s'=>SP X pins D .next s') rfl hs (Zcm hfr) S.kind (λy hy e=>by obtain⟨n,k⟩:=y;have e':k= .local:=e;subst e';exact S.lk hy) ?_) (λ_ s' hq=>Xm (Xm hq)) λ_ _ e=>e)
 refine thn (hi pins s σ H _ I h) λv s1 h1=>thn h1 λitv s2 h2=>?_
 obtain⟨it,fp,tn,J,H2,e,I2,T,st2,f2,q⟩:=h2
 subst e
 refine JH ?_
 refine thn (Zh1 (iter:=iter) (pos:=pos) (Qf:=compPost (XR X.prog X.w) X.A X.xe (some (assign (.Name y py) X.env)) (λ_ s'=>SP X pins D .next s') (.ref s2.heap.objs.size) (s2.heap.objs.size+1)) S hc hg ht he I2 T st2 f2 (q s2.heap.objs.size I2.fresh) ?_) λcenv s4 ⟨hl,hr⟩=>?_
 ·intro s' σ' H' p' C cells I' eC q'
  subst eC
  obtain⟨m,hn,_⟩:=id I'.loc
  have I3:Inv X pins σ H' s':=Zni I2 f2 I' (.refl ..)
  show XD _ X.A (assign (.Name y py) X.env (.ref s2.heap.objs.size)) _ _ s'
  refine wpAny_assign_Name (Zk7 (v:=.ref s2.heap.objs.size) I3 hN hy hx rfl (λs5 I5 hsb=>?_) hf)
  have hC:s2.heap.objs.size<s2.heap.objs.size+1:=QC _
  have ltL:X.env.locals<s2.heap.objs.size:=I2.lt
  have ltC:∀x c,X.env.cells.lookup x=some c->c<s2.heap.objs.size:=λx c e=>by
   obtain⟨w',z⟩:=I2.cell x c e
   exact z.lt
  refine⟨m,?_,λh' hs'=>⟨σ.set i (some (.ref s2.heap.objs.size)),H',?_,q'⟩⟩
  ·obtain⟨a,hsa,ha⟩:=hsb
   refine hn.sameBut hsa ?_
   rcases ha with ha|ha
   ·rw[ha];exact XM (Vg ltL hC)
   ·exact XM (Vg (ltC _ _ ha) hC)
  ·refine I5.turned (t':=s5.toks) (it:=s2.heap.objs.size+1) (λb o hb e=>(hs'.2 b hb).trans e) I'.free (XM (Vg ltL hC)) (.inr (Ql I2.sz (Vh hC))) (λx c e=>Xo (Vg (ltC x c e) hC)) λp hp=>?_
   obtain⟨e,_⟩:=I2.pin p hp
   exact Xo (Vg (XH e) hC)
 ·rw[←hl]at hr
  exact hr
end
section
variable (n:Nat)(D:Addr)(Pv:Nat->List V->St->Hp->Prop)
variable {n D Pv}
end
mutual
inductive Is(H:Hp)(L:Addr->Prop):V->Xa->Prop where
 | non:Is H L .non .none
 | bl (b:Bool):Is H L (.bl b) (.bool b)
 | int (i:Int):Is H L (.int i) (.int i)
 | str (x:Str):Is H L (.str x) (.str x)
 | lst {a:Addr} {xs:List V} {ds:List Xa}:L a->H a=some (.lst xs)->IsAll H L xs ds->Is H L (.ref a) (.list ds)
 | tup {a:Addr} {xs:List V} {ds:List Xa}:H a=some (.tup xs)->IsAll H L xs ds->Is H L (.ref a) (.tuple ds)
inductive IsAll(H:Hp)(L:Addr->Prop):List V->List Xa->Prop where
 | nil:IsAll H L [] []
 | cons {x:V} {xs:List V} {d:Xa} {ds:List Xa}:Is H L x d->IsAll H L xs ds->IsAll H L (x :: xs) (d :: ds)
end
section
variable {H H':Hp}{L L':Addr->Prop}
theorem IsAll.ind{Q:List V->List Xa->Prop}(n:Q [] [])(c:∀{x:V} {xs:List V} {d:Xa} {ds:List Xa},Is H L x d->IsAll H L xs ds->Q xs ds->Q (x :: xs) (d :: ds)):∀{xs ds},IsAll H L xs ds->Q xs ds:=λh=>
 IsAll.rec (motive_1:=λ_ _ _=>True) (motive_2:=λxs ds _=>Q xs ds) trivial (λ_=>trivial) (λ_=>trivial) (λ_=>trivial) (λ_ _ _ _=>trivial) (λ_ _ _=>trivial) n (λp q _ r=>c p q r) h
theorem IsAll.length{xs:List V}{ds:List Xa}(h:IsAll H L xs ds):xs.length=ds.length:=IsAll.ind (Q:=λxs ds=>xs.length=ds.length) rfl (λ_ _ r=>congrArg (·+1) r) h
theorem IsAll.set{xs:List V}{ds:List Xa}{x:V}{d:Xa}(i:Nat)(h:IsAll H L xs ds)(k:Is H L x d):IsAll H L (xs.set i x) (ds.set i d) :=
 IsAll.ind (Q:=λxs ds=>∀i,IsAll H L (xs.set i x) (ds.set i d)) (λ_=>.nil) (λh q r i=>Nat.casesOn i (.cons k q) λi=>.cons h (r i)) h i
end
section
variable {X:Cx}{pins:List (Addr×Obj)}{σ:St}{H:Hp}{s:Xg}{L L':Addr->Prop}
end
noncomputable abbrev Shp(d:Xa):Prop:=Ud d=true
section
variable {X:Cx}
end
mutual
noncomputable def Z2:Xa->Bool
 | .none=>true
 | .int _=>true
 | .str _=>true
 | .list ds=>Ww ds
 | .tuple ds=>Ww ds
 | _=>false
noncomputable def Ww:List Xa->Bool
 | []=>true
 | d :: ds=>Z2 d&&Ww ds
end
mutual
theorem Zlh:∀(d e:Xa),Z2 d=true->Z2 e=true->(Q5 d e=true↔d=e)
 | .none,e,_,he=>by cases e<;>simp_all [Q5,Z2]
 | .int i,e,_,he=>by cases e<;>simp_all [Q5,Z2]
 | .str i,e,_,he=>by cases e<;>simp_all [Q5,Z2]
 | .list ds,e,hd,he=>by
  cases e with
  | list es=>
   rw[Z2]at hd he
   rw[Q5,JN.injEq]
   exact Zed ds es hd he
  | _=>simp_all [Q5,Z2]
 | .tuple ds,e,hd,he=>by
  cases e with
  | tuple es=>
   rw[Z2]at hd he
   rw[Q5,PyData.tuple.injEq]
   exact Zed ds es hd he
  | _=>simp_all [Q5,Z2]
 | .bool b,e,hd,_=>by simp[Z2]at hd
 | .dict b,e,hd,_=>by simp[Z2]at hd
theorem Zed:∀(ds es:List Xa),Ww ds=true->Ww es=true->(PyData.eqvAll ds es=true↔ds=es)
 | [],[],_,_=>by simp[PyData.eqvAll]
 | [],_ :: _,_,_=>by simp[PyData.eqvAll]
 | _ :: _,[],_,_=>by simp[PyData.eqvAll]
 | d :: ds,e :: es,hd,he=>by
  rw[Ww,XJ]at hd he
  rw[PyData.eqvAll,XJ,Zlh d e hd.1 he.1,Zed ds es hd.2 he.2,List.cons.injEq]
end
theorem Zxz{d e:Xa}(h:Z2 d=true)(k:Z2 e=true)(q:d=e):Q5 d e=true:=(Zlh d e h k).mpr q
theorem Zxf{d e:Xa}(h:Z2 d=true)(k:Z2 e=true)(q:d≠e):Q5 d e=false:=Bv.mpr λz=>q ((Zlh d e h k).mp z)
noncomputable def fr(a b:Int):Xa:=.tuple [.int a,.int b]
theorem Zlw{t g:Int}(hg:0<g):t.fdiv g=t/g:=Int.fdiv_eq_ediv_of_nonneg t (by omega)
noncomputable def frD(q:Rat):Xa:=fr q.num (q.den:Int)
noncomputable def BQ(n:Nat)(q:Rat):Prop:=Bt n q.num∧Bt n (q.den:Int)
theorem BQ.zero:BQ 1 0:=⟨by unfold Bt;decide,by unfold Bt;decide⟩
section
variable {X:Cx}{K:Xc}{a b o e:Expr}{ta tb tl to:TE}{pos:Pos}
theorem Zm3(hK:X.K=K):IxR X (Z9x K):=hK▸Zsq
theorem Zc7(hK:X.K=K):IxR X (rIx K):=hK▸Z5a
theorem Zu4(hK:X.K=K):SlR X (Ydz K):=hK▸Zyp
noncomputable def Yc7(K:Xc):List V->Hp->VK->Prop:=λxs H Q=>∃p ys,xs=[.ref p]∧(SqL K H p ys∨SqT K H p ys)∧Q (.int ys.length) H
theorem Zsp(hK:X.K=K):Zcd X (.builtin "len") (Yc7 K):=by subst hK;exact Zkx
noncomputable def Zp7(K:Xc):List V->Hp->VK->Prop:=λxs H Q=>∃p ys,xs=[.ref p]∧(SqL K H p ys∨SqT K H p ys)∧∀l,H l=none->Q (.ref l) (upd H l (.lst ys))
theorem Zob(hK:X.K=K):Zcd X (.type "list") (Zp7 K):=by subst hK;exact Zks
noncomputable def Ygn(K:Xc)(ta:TE):TT:=λσ H Q=>ta σ H λx H'=>∃k,Ybe K x H' k∧Q k H'
theorem Z1s(hK:X.K=K)(ha:PE X a ta)(he:∀whole,isTrue a X.env whole=(do let v←whole;standAt a.pos;holding [v] (truthy v))):PT X a (Ygn K ta):=by subst hK;exact Zup ha he
theorem Zt7{tg l:Expr}(hK:X.K=K)(hl:PE X l tl):PI X tg l (Z43 K tl):=by subst hK;exact Z28 hl
theorem Zrn(hK:X.K=K):OpR X (Qx .In) (rIn K false):=by subst hK;exact Ztj
theorem Zq3(hK:X.K=K):OpR X (Qx .NotIn) (rIn K true):=by subst hK;exact Zkg
end
theorem Zz{H:Hp}{p:Addr}(h:H p=none)(o:HO):Same H (upd H p o):=λb u q=>by rw[Zn (Yl q h)];exact q
noncomputable def But(p:Addr)(H H':Hp):Prop:=∀b o,b≠p->H b=some o->H' b=some o
theorem But.refl(p:Addr)(H:Hp):But p H H:=λ_ _ _ h=>h
theorem But.upd(p:Addr)(H:Hp)(o:HO):But p H (upd H p o):=λb u n e=>by rw[Zn n];exact e
noncomputable def Pl(H:Hp)(p:Addr)(n:Nat):Prop:=∃a b c:Int,H p=some (.lst [.int a,.int b,.int c])∧0≤c∧c≤n
theorem Pl.at{H:Hp}{p:Addr}{n:Nat}(h:Pl H p n):∃xs,H p=some (.lst xs):=by
 obtain⟨a,b,c,e,h1,h2⟩:=h
 exact⟨_,e⟩
namespace B
theorem boot_len:Qe "len"=some (.builtin "len"):=by decide +kernel
theorem boot_isinstance:Qe "isinstance"=some (.builtin "isinstance"):=by decide +kernel
theorem boot_sorted:Qe "sorted"=some (.builtin "sorted"):=by decide +kernel
theorem boot_all:Qe "all"=some (.builtin "all"):=by decide +kernel
theorem boot_int:Qe "int"=some (.type "int"):=by decide +kernel
theorem boot_bool:Qe "bool"=some (.type "bool"):=by decide +kernel
theorem boot_str:Qe "str"=some (.type "str"):=by decide +kernel
theorem boot_list:Qe "list"=some (.type "list"):=by decide +kernel
theorem boot_tuple:Qe "tuple"=some (.type "tuple"):=by decide +kernel
theorem boot_range:Qe "range"=some (.type "range"):=by decide +kernel
theorem boot_zip:Qe "zip"=some (.type "zip"):=by decide +kernel
theorem boot_enumerate:Qe "enumerate"=some (.type "enumerate"):=by decide +kernel
theorem boot_set:Qe "set"=some (.type "set"):=by decide +kernel
end B
theorem Zm2{a b:Int}(hb:0<b):a.fmod b=a%b:=Int.fmod_eq_emod_of_nonneg a (by omega)
theorem Zxn:(2:Nat)≤Xq:=by decide
theorem BQ.n{n:Nat}{q:Rat}(h:BQ n q):Bt n q.num:=h.1
theorem BQ.d{n:Nat}{q:Rat}(h:BQ n q):Bt n (q.den:Int):=h.2
variable {G:Xc}
noncomputable def KS(G:Xc)(a:Addr)(ns:List Int):Prop:=∃(o:Obj) (its:Array Xe) (n:Nat),G.lookup a=some o∧o.cls= .type "list"∧o.dict=none∧o.data= .seq its n∧its.size≤Xq∧Vals (ns.map V.int) its.toList
theorem KS.sq{G:Xc}{H:Hp}{a:Addr}{ns:List Int}(h:KS G a ns):SqL G H a (ns.map V.int):=.inr h
noncomputable def exD(x:Str):Xa:=.dict [(.str x,.none)]
noncomputable def fnD(x:Str):Xa:=.dict [(.str x,.bool true)]
noncomputable def Zhf:Xa->Bool| .dict ((_,.bool _) :: _)=>true|_=>false
noncomputable def ClsAt(G:Xc)(x:Str)(C:Addr):Prop:=QR G Qj x=some (some (.ref C))
structure Zet(G:Xc)(C:Addr):Prop where
 ga:Vj G (.ref C) "__getattribute__"=some (some (.builtin "BaseException.__getattribute__"))
 gt:Vj G (.ref C) "__getattr__"=some none
 cl:Vj G (.ref C) "__class__"=some (some (.builtin "object.__class__"))
 isB:PySem.W.subIn G (.ref C) (.type "BaseException")=some true
 isO:PySem.W.subIn G (.ref C) (.type "object")=some true
 isC:(PySem.W.clsIn G C).isSome=true
 k1:Vi G (.ref C) (.type "int")=some false
 k2:Vi G (.ref C) (.type "bool")=some false
 k3:Vi G (.ref C) (.type "str")=some false
 k4:Vi G (.ref C) (.type "list")=some false
 k5:Vi G (.ref C) (.type "tuple")=some false
noncomputable def ExO(C a:Addr)(h:Heap):Prop:=∃o vs,h.get? a=some o∧o.cls= .ref C∧o.data= .fields vs
inductive ImO where
 | tup (xs:List V)
 | ext (φ:Heap->Prop)
noncomputable def ImO.ho:ImO->HO
 | .tup xs=>.tup xs
 | .ext φ=>.ext φ
inductive MuO where
 | lst (xs:List V)
 | dK (kvs:List (Key×V))
 | dT (kvs:List (List Key×V))
noncomputable def MuO.ho:MuO->HO
 | .lst xs=>.lst xs
 | .dK kvs=>.dK kvs
 | .dT kvs=>.dT kvs
noncomputable def Z7m:Key->Xa
 | .inl i=>.int i
 | .inr x=>.str x
noncomputable def keyT(ks:List Key):Xa:=.tuple (ks.map Z7m)
noncomputable abbrev KY:=Sum Key (List Key)
noncomputable def kyD:KY->Xa
 | .inl k=>Z7m k
 | .inr ks=>keyT ks
noncomputable def MuO.dic(t:Bool)(ks:List KY)(xs:List V):MuO->Prop
 | .lst _=>False
 | .dK kvs=>t=false∧ks=kvs.map (λp=>.inl p.1)∧xs=kvs.map (·.2)
 | .dT kvs=>t=true∧ks=kvs.map (λp=>.inr p.1)∧xs=kvs.map (·.2)
noncomputable def dcD(t:Bool)(ks:List KY)(ds:List Xa):Xa:=.dict ((.none,.bool t) :: (ks.map kyD).zip ds)
theorem ImO.nm{H:Hp}{a:Addr}{x:ImO}{y:MuO}(h:H a=some x.ho)(h':H a=some y.ho):False:=by
 rw[h]at h'
 cases x<;>cases y<;>cases h'
theorem ImO.nl{H:Hp}{a:Addr}{x:ImO}{ys:List V}(h:H a=some x.ho)(h':H a=some (.lst ys)):False:=by
 rw[h]at h'
 cases x<;>cases h'
mutual
inductive Da(G:Xc)(H:Hp)(L:Addr->Prop):V->Xa->Prop where
 | non:Da G H L .non .none
 | bl (b:Bool):Da G H L (.bl b) (.bool b)
 | int (i:Int):Da G H L (.int i) (.int i)
 | str (x:Str):Da G H L (.str x) (.str x)
 | lst {a:Addr} {xs:List V} {ds:List Xa}:L a->Rd H a (.lst xs)->Das G H L xs ds->Da G H L (.ref a) (.list ds)
 | tup {a:Addr} {xs:List V} {ds:List Xa}:H a=some (.tup xs)->Das G H L xs ds->Da G H L (.ref a) (.tuple ds)
 | scr {a:Addr} {ns:List Int}:KS G a ns->Da G H L (.ref a) (.list (ns.map Xx))
 | exc {a C:Addr} {x:Str}:Zet G C->ClsAt G x C->H a=some (.ext (ExO C a))->Da G H L (.ref a) (exD x)
 | fn {a:Addr} {x:Str}:ClsAt G x a->Da G H L (.ref a) (fnD x)
 | dic {a:Addr} {o:MuO} {t:Bool} {ks:List KY} {xs:List V} {ds:List Xa}:L a->Rd H a o.ho->o.dic t ks xs->Das G H L xs ds->Da G H L (.ref a) (dcD t ks ds)
inductive Das(G:Xc)(H:Hp)(L:Addr->Prop):List V->List Xa->Prop where
 | nil:Das G H L [] []
 | cons {x:V} {xs:List V} {d:Xa} {ds:List Xa}:Da G H L x d->Das G H L xs ds->Das G H L (x :: xs) (d :: ds)
end
section
variable {H H':Hp}{L L':Addr->Prop}
theorem Da.both{P:V->Xa->Prop}{Q:List V->List Xa->Prop}(c1:P .non .none)(c2:∀b,P (.bl b) (.bool b))(c3:∀i,P (.int i) (.int i))(c4:∀x,P (.str x) (.str x))
  (c5:∀{a:Addr} {xs:List V} {ds:List Xa},L a->Rd H a (.lst xs)->Q xs ds->P (.ref a) (.list ds)) (c6:∀{a:Addr} {xs:List V} {ds:List Xa},H a=some (.tup xs)->Q xs ds->P (.ref a) (.tuple ds))
  (c7:∀{a:Addr} {ns:List Int},KS G a ns->P (.ref a) (.list (ns.map Xx))) (c8:∀{a C:Addr} {x:Str},Zet G C->ClsAt G x C->H a=some (.ext (ExO C a))->P (.ref a) (exD x)) (c9:∀{a:Addr} {x:Str},ClsAt G x a->P (.ref a) (fnD x))
  (c10:∀{a:Addr} {o:MuO} {t:Bool} {ks:List KY} {xs:List V} {ds:List Xa},L a->Rd H a o.ho->o.dic t ks xs->Q xs ds->P (.ref a) (dcD t ks ds)) (n:Q [] []) (c:∀{x:V} {xs:List V} {d:Xa} {ds:List Xa},P x d->Q xs ds->Q (x :: xs) (d :: ds)):(∀{v d},Da G H L v d->P v d)∧∀{xs ds},Das G H L xs ds->Q xs ds :=
 ⟨λh=>Da.rec (motive_1:=λv d _=>P v d) (motive_2:=λxs ds _=>Q xs ds) c1 c2 c3 c4 (λp e _ r=>c5 p e r) (λe _ r=>c6 e r) (λk=>c7 k) (λk l m=>c8 k l m) (λk=>c9 k) (λp e k _ r=>c10 p e k r) n (λ_ _ p q=>c p q) h,
   λh=>Das.rec (motive_1:=λv d _=>P v d) (motive_2:=λxs ds _=>Q xs ds) c1 c2 c3 c4 (λp e _ r=>c5 p e r) (λe _ r=>c6 e r) (λk=>c7 k) (λk l m=>c8 k l m) (λk=>c9 k) (λp e k _ r=>c10 p e k r) n (λ_ _ p q=>c p q) h⟩
theorem Das.ind{Q:List V->List Xa->Prop}(n:Q [] [])(c:∀{x:V} {xs:List V} {d:Xa} {ds:List Xa},Da G H L x d->Das G H L xs ds->Q xs ds->Q (x :: xs) (d :: ds)):∀{xs ds},Das G H L xs ds->Q xs ds:=λh=>
 Das.rec (motive_1:=λ_ _ _=>True) (motive_2:=λxs ds _=>Q xs ds) trivial (λ_=>trivial) (λ_=>trivial) (λ_=>trivial) (λ_ _ _ _=>trivial) (λ_ _ _=>trivial) (λ_=>trivial) (λ_ _ _=>trivial) (λ_=>trivial) (λ_ _ _ _ _=>trivial) n (λp q _ r=>c p q r) h
theorem Da.frame2(hl:∀a (xs:MuO),L a->Rd H a xs.ho->L' a∧Rd H' a xs.ho)(ht:∀a (xs:ImO),H a=some xs.ho->H' a=some xs.ho):(∀{v:V} {d:Xa},Da G H L v d->Da G H' L' v d)∧∀{xs:List V} {ds:List Xa},Das G H L xs ds->Das G H' L' xs ds :=
 Da.both .non .bl .int .str (fun{_ xs _} p e r=>.lst (hl _ (.lst xs) p e).1 (hl _ (.lst xs) p e).2 r) (fun{_ xs _} e r=>.tup (ht _ (.tup xs) e) r) .scr (λc n e=>.exc c n (ht _ (.ext _) e)) .fn (λp e k r=>.dic (hl _ _ p e).1 (hl _ _ p e).2 k r) .nil .cons
theorem Da.frame(hl:∀a (xs:MuO),L a->Rd H a xs.ho->L' a∧Rd H' a xs.ho)(ht:∀a (xs:ImO),H a=some xs.ho->H' a=some xs.ho){v:V}{d:Xa}(h:Da G H L v d):Da G H' L' v d:=(Da.frame2 hl ht).1 h
theorem Das.frame(hl:∀a (xs:MuO),L a->Rd H a xs.ho->L' a∧Rd H' a xs.ho)(ht:∀a (xs:ImO),H a=some xs.ho->H' a=some xs.ho){xs:List V}{ds:List Xa}(h:Das G H L xs ds):Das G H' L' xs ds:=(Da.frame2 hl ht).2 h
theorem Rd.same{a:Addr}{u:HO}(s:Same H H')(h:Rd H a u):Rd H' a u:=h.imp (s _ _) λ⟨o,h⟩=>⟨o,s _ _ h⟩
theorem Rd.some{a:Addr}{u:HO}(h:Rd H a u):H a≠Option.none:=by
 rcases h with h|⟨o,h⟩<;>rw[h]<;>intro z<;>cases z
theorem Da.same(h:Same H H'){v:V}{d:Xa}(x:Da G H L v d):Da G H' L v d:=x.frame (λa xs p e=>⟨p,e.same h⟩) λa xs e=>h _ _ e
theorem Das.same(h:Same H H'){v:List V}{d:List Xa}(x:Das G H L v d):Das G H' L v d:=x.frame (λa xs p e=>⟨p,e.same h⟩) λa xs e=>h _ _ e
theorem Da.wide(h:∀a,L a->H a≠none->L' a){v:V}{d:Xa}(x:Da G H L v d):Da G H L' v d:=x.frame (λa xs p e=>⟨h a p e.some,e⟩) λa xs e=>e
theorem Das.wide(h:∀a,L a->H a≠none->L' a){v:List V}{d:List Xa}(x:Das G H L v d):Das G H L' v d:=x.frame (λa xs p e=>⟨h a p e.some,e⟩) λa xs e=>e
theorem Das.length{xs:List V}{ds:List Xa}(h:Das G H L xs ds):xs.length=ds.length:=Das.ind (Q:=λxs ds=>xs.length=ds.length) rfl (λ_ _ r=>congrArg (·+1) r) h
theorem Das.append{xs ys:List V}{ds es:List Xa}(h:Das G H L xs ds)(k:Das G H L ys es):Das G H L (xs ++ ys) (ds ++ es):=Das.ind (Q:=λxs ds=>Das G H L (xs ++ ys) (ds ++ es)) k (λh _ r=>.cons h r) h
theorem Das.snoc{xs:List V}{ds:List Xa}{x:V}{d:Xa}(h:Das G H L xs ds)(k:Da G H L x d):Das G H L (xs ++ [x]) (ds ++ [d]):=h.append (.cons k .nil)
theorem Das.get{xs:List V}{ds:List Xa}{i:Nat}{d:Xa}(h:Das G H L xs ds):ds[i]? =some d->∃x,xs[i]? =some x∧Da G H L x d :=
 Das.ind (Q:=λxs ds=>∀i,ds[i]? =some d->∃x,xs[i]? =some x∧Da G H L x d) (λ_ e=>(UV _ (e.symm.trans List.getElem?_nil)).elim) (fun{x _ _ _} h _ r i=>Nat.casesOn i (λe=>⟨x,rfl,Qu e▸h⟩) λi e=>r i e) h i
theorem Das.get'{xs:List V}{ds:List Xa}{i:Nat}{x:V}(h:Das G H L xs ds):xs[i]? =some x->∃d,ds[i]? =some d∧Da G H L x d :=
 Das.ind (Q:=λxs ds=>∀i,xs[i]? =some x->∃d,ds[i]? =some d∧Da G H L x d) (λ_ e=>(UV _ (e.symm.trans List.getElem?_nil)).elim) (fun{_ _ d _} h _ r i=>Nat.casesOn i (λe=>⟨d,rfl,Qu e▸h⟩) λi e=>r i e) h i
theorem Das.take{xs:List V}{ds:List Xa}(n:Nat)(h:Das G H L xs ds):Das G H L (xs.take n) (ds.take n) :=
 Das.ind (Q:=λxs ds=>∀n,Das G H L (xs.take n) (ds.take n)) (λn=>by rw[List.take_nil,List.take_nil];exact .nil) (λh _ r n=>Nat.casesOn n .nil λn=>.cons h (r n)) h n
theorem Das.drop{xs:List V}{ds:List Xa}(n:Nat)(h:Das G H L xs ds):Das G H L (xs.drop n) (ds.drop n) :=
 Das.ind (Q:=λxs ds=>∀n,Das G H L (xs.drop n) (ds.drop n)) (λn=>by rw[List.drop_nil,List.drop_nil];exact .nil) (λh q r n=>Nat.casesOn n (.cons h q) λn=>r n) h n
theorem Das.ints(ns:List Int):Das G H L (ns.map V.int) (ns.map Xx):=by
 induction ns with
 | nil=>exact .nil
 | cons n ns ih=>exact .cons (.int n) ih
theorem Das.int_inv{xs:List V}{ns:List Int}(h:Das G H L xs (ns.map Xx)):xs=ns.map V.int:=by
 induction ns generalizing xs with
 | nil=>cases h;rfl
 | cons n ns ih=>
  rw[X3]at h
  cases h with
  | cons h r=>cases h;rw[ih r];rfl
end
theorem Zou{h:Heap}(ns:List Int){us:List Xe}(v:Vals (ns.map V.int) us):∃as,ReadsAll h us (ns.map Xx) as:=by
 induction ns generalizing us with
 | nil=>cases v;exact⟨_,.nil⟩
 | cons n ns ih=>
  rw[X3]at v
  cases v with
  | cons r rs=>
   obtain⟨t,e⟩:=(show∃t,_=Vm n t from r)
   subst e
   obtain⟨bs,k'⟩:=ih rs
   exact⟨_,.cons (.int n t) k'⟩
section
variable {X:Cx}{pins:List (Addr×Obj)}{σ:St}{H:Hp}{s:Xg}{L L':Addr->Prop}
theorem Da.reads2(hG:X.K=G)(I:Inv X pins σ H s):(∀{v:V} {d:Xa},Da G H L v d->∀u,RelV v u->d.canLay0=true->∃as,Reads s.heap u d as)∧∀{xs:List V} {ds:List Xa},Das G H L xs ds->∀us,Vals xs us->JS ds=true->∃as,ReadsAll s.heap us ds as:=by
 refine Da.both ?_ ?_ ?_ ?_ ?_ ?_ ?_ ?_ ?_ ?_ ?_ ?_
 ·intro u r _
  cases(show _=QX from r)
  exact⟨_,.none⟩
 ·intro b u r _
  cases(show _=Uo b from r)
  exact⟨_,.bool b⟩
 ·intro i u r _
  obtain⟨t,e⟩:=(show∃t,_=Vm i t from r)
  subst e
  exact⟨_,.int i t⟩
 ·intro x u r _
  obtain⟨t,e⟩:=(show∃t,_=Value.str x t from r)
  subst e
  exact⟨_,.str x t⟩
 ·intro a xs ds _ e q u r hcl
  cases(show _=Qn a from r)
  obtain⟨_,its,n,vs,h1⟩:=(show ObjOk X.prog X.w H s.heap a (.lst xs)from e.ok I.hok)
  rw[JT]at hcl
  obtain⟨as,k⟩:=q _ vs hcl
  exact⟨_,Reads.list h1 rfl rfl k⟩
 ·intro a xs ds e q u r hcl
  cases(show _=Qn a from r)
  obtain⟨_,its,vs,o,ho,hc,n,hd⟩:=(show ObjOk X.prog X.w H s.heap a (.tup xs)from I.hok a _ e)
  rw[JT]at hcl
  obtain⟨as,k⟩:=q _ vs hcl
  exact⟨_,Reads.tuple ho hc hd k⟩
 ·intro a ns k u r _
  cases(show _=Qn a from r)
  subst hG
  obtain⟨its,vs,⟨o,n,ho,hc,hd,hs⟩,_⟩:=I.list (k.sq (H:=H))
  obtain⟨as,q⟩:=Zou ns vs
  exact⟨_,Reads.list ho hc hs q⟩
 ·intro a C x _ _ e u r hc
  rw[exD,JT]at hc
  cases hc
 ·intro a x _ u r hc
  rw[fnD,JT]at hc
  cases hc
 ·intro a o t ks xs ds _ _ _ _ u r hc
  rw[dcD,JT]at hc
  cases hc
 ·intro us v _
  cases v
  exact⟨_,.nil⟩
 ·intro x xs d ds h q us v hc
  cases v with
  | cons r rs=>
   rw[JS,XJ]at hc
   obtain⟨as,k⟩:=h _ r hc.1
   obtain⟨bs,k'⟩:=q _ rs hc.2
   exact⟨_,.cons k k'⟩
theorem Da.reads(hG:X.K=G)(I:Inv X pins σ H s){v:V}{d:Xa}{u:Xe}(h:Da G H L v d)(r:RelV v u)(c:d.canLay0=true):∃as,Reads s.heap u d as:=(Da.reads2 hG I).1 h u r c
theorem Das.reads(hG:X.K=G)(I:Inv X pins σ H s){xs:List V}{ds:List Xa}{us:List Xe}(h:Das G H L xs ds)(r:Vals xs us)(c:JS ds=true):∃as,ReadsAll s.heap us ds as:=(Da.reads2 hG I).2 h us r c
end
inductive OT where
 | fz (d:Xa)
 | nd (ts:List OT)
 | tp (ts:List OT)
 | dc (t:Bool) (ks:List KY) (ds:List Xa)
mutual
noncomputable def OT.data:OT->Xa
 | .fz d=>d
 | .nd ts=>.list (OT.datas ts)
 | .tp ts=>.tuple (OT.datas ts)
 | .dc t ks ds=>dcD t ks ds
noncomputable def OT.datas:List OT->List Xa
 | []=>[]
 | t :: ts=>t.data :: OT.datas ts
end
theorem OT.datas_map:∀(ts:List OT),OT.datas ts=ts.map OT.data
 | []=>rfl
 | t :: ts=>by rw[OT.datas,OT.datas_map ts];rfl
@[simp] theorem OT.data_fz(d:Xa):(OT.fz d).data=d:=by rw[OT.data]
@[simp] theorem OT.data_nd(ts:List OT):(OT.nd ts).data= .list (ts.map OT.data):=by rw[OT.data,OT.datas_map]
@[simp] theorem OT.data_tp(ts:List OT):(OT.tp ts).data= .tuple (ts.map OT.data):=by rw[OT.data,OT.datas_map]
theorem OT.data_dc(t:Bool)(ks:List KY)(ds:List Xa):(OT.dc t ks ds).data=dcD t ks ds:=by rw[OT.data]
@[simp] theorem OT.map_fz(ds:List Xa):(ds.map OT.fz).map OT.data=ds:=by
 rw[Qz]
 exact(Qh λd _=>OT.data_fz d).trans (List.map_id _)
mutual
inductive Own(G:Xc)(H:Hp)(L:Addr->Prop):V->OT->List Addr->Prop where
 | fz {v:V} {d:Xa}:Da G H L v d->Own G H L v (.fz d) []
 | nd {a:Addr} {xs:List V} {ts:List OT} {bs:List Addr}:H a=some (.lst xs)->Owns G H L xs ts bs->Own G H L (.ref a) (.nd ts) (a :: bs)
 | tp {a:Addr} {xs:List V} {ts:List OT} {bs:List Addr}:H a=some (.tup xs)->Owns G H L xs ts bs->Own G H L (.ref a) (.tp ts) bs
 | dc {a:Addr} {o:MuO} {t:Bool} {ks:List KY} {xs:List V} {ds:List Xa}:H a=some o.ho->o.dic t ks xs->Das G H L xs ds->Own G H L (.ref a) (.dc t ks ds) [a]
inductive Owns(G:Xc)(H:Hp)(L:Addr->Prop):List V->List OT->List Addr->Prop where
 | nil:Owns G H L [] [] []
 | cons {x:V} {xs:List V} {t:OT} {ts:List OT} {as bs:List Addr}:Own G H L x t as->Owns G H L xs ts bs->Owns G H L (x :: xs) (t :: ts) (as ++ bs)
end
section
variable {H H':Hp}{L L':Addr->Prop}
theorem Own.both{P:V->OT->List Addr->Prop}{Q:List V->List OT->List Addr->Prop}(c1:∀{v:V} {d:Xa},Da G H L v d->P v (.fz d) [])(c2:∀{a:Addr} {xs:List V} {ts:List OT} {bs:List Addr},H a=some (.lst xs)->Q xs ts bs->P (.ref a) (.nd ts) (a :: bs))
  (c3:∀{a:Addr} {xs:List V} {ts:List OT} {bs:List Addr},H a=some (.tup xs)->Q xs ts bs->P (.ref a) (.tp ts) bs) (c4:∀{a:Addr} {o:MuO} {t:Bool} {ks:List KY} {xs:List V} {ds:List Xa},H a=some o.ho->o.dic t ks xs->Das G H L xs ds->P (.ref a) (.dc t ks ds) [a]) (n:Q [] [] []) (c:∀{x:V} {xs:List V} {t:OT} {ts:List OT} {as bs:List Addr},P x t as->Q xs ts bs->Q (x :: xs) (t :: ts) (as ++ bs)) :
  (∀ {v t as},Own G H L v t as->P v t as)∧∀{xs ts as},Owns G H L xs ts as->Q xs ts as :=
 ⟨λh=>Own.rec (motive_1:=λv t as _=>P v t as) (motive_2:=λxs ts as _=>Q xs ts as) c1 (λe _ r=>c2 e r) (λe _ r=>c3 e r) (λe k r=>c4 e k r) n (λ_ _ p q=>c p q) h,
   λh=>Owns.rec (motive_1:=λv t as _=>P v t as) (motive_2:=λxs ts as _=>Q xs ts as) c1 (λe _ r=>c2 e r) (λe _ r=>c3 e r) (λe k r=>c4 e k r) n (λ_ _ p q=>c p q) h⟩
theorem Own.frame2(hl:∀a (xs:MuO),L a->Rd H a xs.ho->L' a∧Rd H' a xs.ho)(ht:∀a (xs:ImO),H a=some xs.ho->H' a=some xs.ho) :
  (∀ {v:V} {t:OT} {as:List Addr},Own G H L v t as->(∀a∈as,∀xs:MuO,H a=some xs.ho->H' a=some xs.ho)->Own G H' L' v t as)∧∀{xs:List V} {ts:List OT} {as:List Addr},Owns G H L xs ts as->(∀a∈as,∀xs:MuO,H a=some xs.ho->H' a=some xs.ho)->Owns G H' L' xs ts as :=
 Own.both (λh _=>.fz (h.frame hl ht)) (fun{_ xs _ _} e r ha=>.nd (ha _ (.head _) (.lst xs) e) (r λa m=>ha a (.tail _ m))) (fun{_ xs _ _} e r ha=>.tp (ht _ (.tup xs) e) (r ha)) (λe k r ha=>.dc (ha _ (.head _) _ e) k (r.frame hl ht)) (λ_=>.nil) (λh r ha=>.cons (h λa m=>ha a (Qp _ m)) (r λa m=>ha a (Qa _ m)))
theorem Own.frame(hl:∀a (xs:MuO),L a->Rd H a xs.ho->L' a∧Rd H' a xs.ho)(ht:∀a (xs:ImO),H a=some xs.ho->H' a=some xs.ho){v:V}{t:OT}{as:List Addr}(ha:∀a∈as,∀xs:MuO,H a=some xs.ho->H' a=some xs.ho)(h:Own G H L v t as):Own G H' L' v t as:=(Own.frame2 hl ht).1 h ha
theorem Owns.frame(hl:∀a (xs:MuO),L a->Rd H a xs.ho->L' a∧Rd H' a xs.ho)(ht:∀a (xs:ImO),H a=some xs.ho->H' a=some xs.ho){xs:List V}{ts:List OT}{as:List Addr}(ha:∀a∈as,∀xs:MuO,H a=some xs.ho->H' a=some xs.ho)(h:Owns G H L xs ts as):Owns G H' L' xs ts as:=(Own.frame2 hl ht).2 h ha
theorem Own.same(h:Same H H'){v:V}{t:OT}{as:List Addr}(x:Own G H L v t as):Own G H' L v t as:=x.frame (λa xs p e=>⟨p,e.same h⟩) (λa xs e=>h _ _ e) λa _ xs e=>h _ _ e
theorem Own.wide(h:∀a,L a->H a≠none->L' a){v:V}{t:OT}{as:List Addr}(x:Own G H L v t as):Own G H L' v t as:=x.frame (λa xs p e=>⟨h a p e.some,e⟩) (λa xs e=>e) λa _ xs e=>e
theorem Owns.wide(h:∀a,L a->H a≠none->L' a){v:List V}{t:List OT}{as:List Addr}(x:Owns G H L v t as):Owns G H L' v t as:=x.frame (λa xs p e=>⟨h a p e.some,e⟩) (λa xs e=>e) λa _ xs e=>e
theorem Owns.same(h:Same H H'){v:List V}{t:List OT}{as:List Addr}(x:Owns G H L v t as):Owns G H' L v t as:=x.frame (λa xs p e=>⟨p,e.same h⟩) (λa xs e=>h _ _ e) λa _ xs e=>h _ _ e
theorem Own.da2(h:∀a,L a->H a≠none->L' a):(∀{v:V} {t:OT} {as:List Addr},Own G H L v t as->(∀a∈as,L' a)->Da G H L' v t.data)∧∀{v:List V} {t:List OT} {as:List Addr},Owns G H L v t as->(∀a∈as,L' a)->Das G H L' v (OT.datas t) :=
 Own.both (λk _=>by rw[OT.data_fz];exact k.wide h) (λe r ha=>by rw[OT.data];exact .lst (ha _ (.head _)) (.inl e) (r λa m=>ha a (.tail _ m))) (λe r ha=>by rw[OT.data];exact .tup e (r ha)) (λe k r ha=>by rw[OT.data];exact .dic (ha _ (.head _)) (.inl e) k (r.wide h)) (λ_=>.nil) (λk r ha=>.cons (k λa m=>ha a (Qp _ m)) (r λa m=>ha a (Qa _ m)))
theorem Own.da(h:∀a,L a->H a≠none->L' a){v:V}{t:OT}{as:List Addr}(ha:∀a∈as,L' a)(k:Own G H L v t as):Da G H L' v t.data:=(Own.da2 h).1 k ha
theorem Owns.das(h:∀a,L a->H a≠none->L' a){v:List V}{t:List OT}{as:List Addr}(ha:∀a∈as,L' a)(k:Owns G H L v t as):Das G H L' v (OT.datas t):=(Own.da2 h).2 k ha
theorem Own.some2:(∀{v:V} {t:OT} {as:List Addr},Own G H L v t as->∀a∈as,∃xs:MuO,H a=some xs.ho)∧∀{v:List V} {t:List OT} {as:List Addr},Owns G H L v t as->∀a∈as,∃xs:MuO,H a=some xs.ho :=
 Own.both (λ_ _ m=>nomatch m) (fun{_ xs _ _} e r a m=>(Xp.mp m).elim (λq=>⟨.lst xs,q▸e⟩) (r a)) (λ_ r=>r) (fun{_ o _ _ _ _} e _ _ a m=>⟨o,Xj.mp m▸e⟩) (λ_ m=>nomatch m) (λk r a m=>(X8.mp m).elim (k a) (r a))
theorem Own.some{v:V}{t:OT}{as:List Addr}(h:Own G H L v t as):∀a∈as,∃xs:MuO,H a=some xs.ho:=Own.some2.1 h
theorem Owns.some{v:List V}{t:List OT}{as:List Addr}(h:Owns G H L v t as):∀a∈as,∃xs:MuO,H a=some xs.ho:=Own.some2.2 h
theorem Owns.length{xs:List V}{ts:List OT}{as:List Addr}(h:Owns G H L xs ts as):xs.length=ts.length:=(Own.both (P:=λ_ _ _=>True) (Q:=λxs ts _=>xs.length=ts.length) (λ_=>trivial) (λ_ _=>trivial) (λ_ _=>trivial) (λ_ _ _=>trivial) rfl (λ_ r=>congrArg (·+1) r)).2 h
theorem Das.owns{xs:List V}{ds:List Xa}(h:Das G H L xs ds):Owns G H L xs (ds.map OT.fz) []:=Das.ind (Q:=λxs ds=>Owns G H L xs (ds.map OT.fz) []) .nil (λh _ r=>.cons (.fz h) r) h
end
variable {G:Xc}
noncomputable abbrev Zf:=List (Option OT)
noncomputable abbrev Fp:=Nat->List Addr
set_option genInjectivity false in
structure MC(G:Xc) where
 H₀:Hp
 as₀:Addr->Prop
 L:Addr->Prop
 σ₀:St
noncomputable def Foot(fp:Fp)(a:Addr):Prop:=∃i,a∈fp i
noncomputable def Lf(C:MC G)(fp:Fp)(ex:Addr->Prop)(a:Addr):Prop:=¬Foot fp a∧¬ex a∧(C.L a∨C.H₀ a=none)
structure Rel(C:MC G)(io:List Nat)(H:Hp)(σ:St)(δ:Zf)(fp:Fp)(ex:Addr->Prop):Prop where
 len:σ.length=δ.length
 own:∀(i:Nat) (t:OT),δ[i]? =some (some t)->∃v,σ[i]? =some (some v)∧Own G H (Lf C fp ex) v t (fp i)
 emp:∀i:Nat,(∀t,δ[i]? ≠some (some t))->fp i=[]
 nd:∀i,(fp i).Nodup
 dj:∀i j a,a∈fp i->a∈fp j->i=j
 dx:∀i a,a∈fp i->¬ex a
 xa:∀a,ex a->H a≠none
 fr:∀b o,C.H₀ b=some o->¬C.as₀ b->H b=some o
 al:∀b,H b=none->C.H₀ b=none
 new:∀i a,a∈fp i->(i∈io∧C.as₀ a)∨C.H₀ a=none
 io:∀i∈io,σ[i]? =C.σ₀[i]?
structure Stp(p:Bool)(H:Hp)(δ:Zf)(fp:Fp)(H':Hp)(δ':Zf)(fp':Fp):Prop where
 keep:∀b o,H b=some o->(p=true∨¬Foot fp b)->H' b=some o
 env:p=true->δ'=δ∧fp'=fp
 grow:∀a,Foot fp' a->Foot fp a∨H a=none
 al:∀b,H' b=none->H b=none
section
variable {C:MC G}{io:List Nat}{H H' H'':Hp}{σ:St}{δ δ' δ'':Zf}{fp fp' fp'':Fp}{ex ex':Addr->Prop}{p p' c:Bool}{v:V}{d:Xa}{r:OT}{new:List Addr}
theorem Rel.foot(R:Rel C io H σ δ fp ex){a:Addr}(h:Foot fp a):∃xs:MuO,H a=some xs.ho:=by
 obtain⟨i,h⟩:=h
 by_cases q:∃t,δ[i]? =some (some t)
 ·obtain⟨t,q⟩:=q
  obtain⟨v,_,o⟩:=R.own i t q
  exact o.some a h
 ·rw[R.emp i (λt z=>q ⟨t,z⟩)]at h
  exact nomatch h
theorem Rel.footSome(R:Rel C io H σ δ fp ex){a:Addr}(h:H a=none):¬Foot fp a:=λz=>by
 obtain⟨xs,e⟩:=R.foot z
 rw[h]at e
 cases e
theorem Stp.refl(p:Bool)(H:Hp)(δ:Zf)(fp:Fp):Stp p H δ fp H δ fp:=⟨λ_ _ h _=>h,λ_=>⟨rfl,rfl⟩,λ_ h=>.inl h,λ_ h=>h⟩
theorem Stp.same(h:Same H H')(hn:∀b,H' b=none->H b=none):Stp p H δ fp H' δ fp:=⟨λ_ _ q _=>h _ _ q,λ_=>⟨rfl,rfl⟩,λ_ h=>.inl h,hn⟩
theorem Same.al(h:Same H H'):∀b,H' b=none->H b=none:=λ_ q=>h.free q
theorem Stp.trans(a:Stp p H δ fp H' δ' fp')(b:Stp p' H' δ' fp' H'' δ'' fp''):Stp (p&&p') H δ fp H'' δ'' fp'' where
 keep:=λx o e h=>by
  rcases h with h|h
  ·rw[XJ]at h
   exact b.keep x o (a.keep x o e (.inl h.1)) (.inl h.2)
  ·refine b.keep x o (a.keep x o e (.inr h)) (.inr λz=>?_)
   rcases a.grow x z with z|z
   ·exact h z
   ·rw[e]at z;cases z
 env:=λh=>by
  rw[XJ]at h
  obtain⟨e1,e2⟩:=a.env h.1
  obtain⟨e3,e4⟩:=b.env h.2
  exact⟨e3.trans e1,e4.trans e2⟩
 grow:=λx h=>by
  rcases b.grow x h with h|h
  ·exact a.grow x h
  ·exact .inr (a.al x h)
 al:=λx h=>a.al x (b.al x h)
theorem Rel.frameL(R:Rel C io H σ δ fp ex)(S:Stp p H δ fp H' δ' fp')(hc:p=true∨c=true)(hx:∀a,ex' a->ex a∨H a=none) :
  (∀ a (xs:MuO),(c=true->Lf C fp ex a)->Rd H a xs.ho->(c=true->Lf C fp' ex' a)∧Rd H' a xs.ho)∧(∀a (xs:ImO),H a=some xs.ho->H' a=some xs.ho):=by
 have nf:∀a,Foot fp a->∃xs:MuO,H a=some xs.ho:=λa h=>R.foot h
 refine⟨λa xs l q=>⟨λhc'=>?_,?_⟩,λa xs q=>S.keep a _ q (.inr λz=>?_)⟩
 ·obtain⟨l1,l2,l3⟩:=l hc'
  refine⟨λz=>?_,λz=>?_,l3⟩
  ·rcases S.grow a z with z|z
   ·exact l1 z
   ·exact q.some z
  ·rcases hx a z with z|z
   ·exact l2 z
   ·exact q.some z
 ·have hk:p=true∨¬Foot fp a:=by
   rcases hc with h|h
   ·exact .inl h
   ·exact .inr (l h).1
  rcases q with q|⟨o,q⟩
  ·exact .inl (S.keep a _ q hk)
  ·exact .inr ⟨o,S.keep a _ q hk⟩
 ·obtain⟨ys,e⟩:=nf a z
  exact ImO.nm q e
theorem Rel.own_step(R:Rel C io H σ δ fp ex)(S:Stp p H δ fp H' δ' fp')(hc:p=true∨c=true)(hx:∀a,ex' a->ex a∨H a=none)(hn:∀a∈new,ex a)
  (x:Own G H (λa=>c=true->Lf C fp ex a) v r new):Own G H' (λa=>c=true->Lf C fp' ex' a) v r new :=
 x.frame (R.frameL S hc hx).1 (R.frameL S hc hx).2 λa m xs e=>S.keep a _ e (.inr λ⟨i,z⟩=>R.dx i a z (hn a m))
theorem Rel.owns_step(R:Rel C io H σ δ fp ex)(S:Stp p H δ fp H' δ' fp')(hc:p=true∨c=true)(hx:∀a,ex' a->ex a∨H a=none)(hn:∀a∈new,ex a){vs:List V}{rs:List OT}
  (x:Owns G H (λa=>c=true->Lf C fp ex a) vs rs new):Owns G H' (λa=>c=true->Lf C fp' ex' a) vs rs new :=
 x.frame (R.frameL S hc hx).1 (R.frameL S hc hx).2 λa m xs e=>S.keep a _ e (.inr λ⟨i,z⟩=>R.dx i a z (hn a m))
theorem Rel.drop(R:Rel C io H σ δ fp ex)(h:∀a,ex' a->ex a):Rel C io H σ δ fp ex' :=
 ⟨R.len,λi t e=>by
  obtain⟨v,e1,o⟩:=R.own i t e
  exact⟨v,e1,o.wide λa l _=>⟨l.1,λz=>l.2.1 (h a z),l.2.2⟩⟩,R.emp,R.nd,R.dj,λi a m z=>R.dx i a m (h a z),λa z=>R.xa a (h a z),R.fr,R.al,R.new,R.io⟩
theorem Rel.made(R:Rel C io H σ δ fp ex)(s:Same H H')(hn:∀a∈new,H a=none∧H' a≠none):Rel C io H' σ δ fp (λa=>ex a∨a∈new) :=
 ⟨R.len,λi t e=>by
  obtain⟨v,e1,o⟩:=R.own i t e
  refine⟨v,e1,(o.wide λa l q=>⟨l.1,λz=>?_,l.2.2⟩).same s⟩
  rcases z with z|z
  ·exact l.2.1 z
  ·exact q (hn a z).1,R.emp,R.nd,R.dj,λi a m z=>by
   rcases z with z|z
   ·exact R.dx i a m z
   ·exact R.footSome (hn a z).1 ⟨i,m⟩,λa z=>by
   rcases z with z|z
   ·intro q;exact R.xa a z (s.free q)
   ·exact(hn a z).2,λb o e n=>s _ _ (R.fr b o e n),λb q=>R.al b (s.free q),R.new,R.io⟩
end
noncomputable abbrev MEt:=Zf->(OT->Zf->Prop)->Prop
noncomputable abbrev MAt:=Zf->(List OT->Zf->Prop)->Prop
noncomputable abbrev MTt:=Zf->(Bool->Zf->Prop)->Prop
noncomputable abbrev exu(ex:Addr->Prop)(new:List Addr):Addr->Prop:=λa=>ex a∨a∈new
structure RE(C:MC G)(io:List Nat)(p c:Bool)(H:Hp)(σ:St)(δ:Zf)(fp:Fp)(ex:Addr->Prop)(H':Hp)(v:V)(r:OT)(δ':Zf)(fp':Fp)(new:List Addr):Prop where
 rel:Rel C io H' σ δ' fp' (exu ex new)
 stp:Stp p H δ fp H' δ' fp'
 own:Own G H' (λa=>c=true->Lf C fp' (exu ex new) a) v r new
 nd:new.Nodup
 fresh:∀a∈new,H a=none
structure RA(C:MC G)(io:List Nat)(p c:Bool)(H:Hp)(σ:St)(δ:Zf)(fp:Fp)(ex:Addr->Prop)(H':Hp)(v:List V)(r:List OT)(δ':Zf)(fp':Fp)(new:List Addr):Prop where
 rel:Rel C io H' σ δ' fp' (exu ex new)
 stp:Stp p H δ fp H' δ' fp'
 own:Owns G H' (λa=>c=true->Lf C fp' (exu ex new) a) v r new
 nd:new.Nodup
 fresh:∀a∈new,H a=none
noncomputable def SE(G:Xc)(io:List Nat)(p c:Bool)(t:TE)(m:MEt):Prop:=∀(C:MC G) (H:Hp) (σ:St) (δ:Zf) (fp:Fp) (ex:Addr->Prop) (K:OT->Zf->Prop) (Q:VK),Rel C io H σ δ fp ex->m δ K ->
 (∀ H' v r δ' fp' new,RE C io p c H σ δ fp ex H' v r δ' fp' new->K r δ'->Q v H')->t σ H Q
noncomputable def SA(G:Xc)(io:List Nat)(p c:Bool)(t:TA)(m:MAt):Prop:=∀(C:MC G) (H:Hp) (σ:St) (δ:Zf) (fp:Fp) (ex:Addr->Prop) (K:List OT->Zf->Prop) (Q:List V->Hp->Prop),Rel C io H σ δ fp ex->m δ K ->
 (∀ H' v r δ' fp' new,RA C io p c H σ δ fp ex H' v r δ' fp' new->K r δ'->Q v H')->t σ H Q
noncomputable def STt(G:Xc)(io:List Nat)(p:Bool)(t:TT)(m:MTt):Prop:=∀(C:MC G) (H:Hp) (σ:St) (δ:Zf) (fp:Fp) (ex:Addr->Prop) (K:Bool->Zf->Prop) (Q:Bool->Hp->Prop),Rel C io H σ δ fp ex->m δ K ->
 (∀ H' b δ' fp',Rel C io H' σ δ' fp' ex->Stp p H δ fp H' δ' fp'->K b δ'->Q b H')->t σ H Q
noncomputable def ME(X:Cx)(io:List Nat)(p c:Bool)(e:Expr)(m:MEt):Prop:=∃t,PE X e t∧SE X.K io p c t m
noncomputable def MA(X:Cx)(io:List Nat)(p c:Bool)(e:List Expr)(m:MAt):Prop:=∃t,PA X e t∧SA X.K io p c t m
noncomputable def MT(X:Cx)(io:List Nat)(p:Bool)(e:Expr)(m:MTt):Prop:=∃t,PT X e t∧STt X.K io p t m
noncomputable def MW(X:Cx)(io:List Nat)(p:Bool)(e:Expr)(m:MTt):Prop:=∃t,PW X e t∧STt X.K io p t m
section
variable {C:MC G}{io:List Nat}{H H' H'':Hp}{σ:St}{δ δ' δ'':Zf}{fp fp' fp'':Fp}{ex ex':Addr->Prop}{p p' c:Bool}{v:V}{d:Xa}{r:OT}{vs:List V}{rs:List OT}{new:List Addr}
theorem Rel.newOk(R:Rel C io H σ δ fp ex){a:Addr}(h:H a=none):¬Foot fp a∧¬ex a∧C.H₀ a=none:=⟨R.footSome h,λz=>R.xa a z h,R.al a h⟩
theorem RE.da(R:RE C io p c H σ δ fp ex H' v r δ' fp' new)(R0:Rel C io H σ δ fp ex):Da G H' (λa=>c=true->Lf C fp' ex a) v r.data:=by
 refine R.own.da (λa l _ h=>?_) (λa m _=>?_)
 ·exact⟨(l h).1,λz=>(l h).2.1 (.inl z),(l h).2.2⟩
 ·refine⟨λqz9=>?_,(R0.newOk (R.fresh a m)).2.1,.inr (R0.newOk (R.fresh a m)).2.2⟩
  obtain⟨i,z⟩:=qz9
  exact R.rel.dx i a z (.inr m)
theorem RA.das(R:RA C io p c H σ δ fp ex H' vs rs δ' fp' new)(R0:Rel C io H σ δ fp ex):Das G H' (λa=>c=true->Lf C fp' ex a) vs (OT.datas rs):=by
 refine R.own.das (λa l _ h=>?_) (λa m _=>?_)
 ·exact⟨(l h).1,λz=>(l h).2.1 (.inl z),(l h).2.2⟩
 ·refine⟨λqz9=>?_,(R0.newOk (R.fresh a m)).2.1,.inr (R0.newOk (R.fresh a m)).2.2⟩
  obtain⟨i,z⟩:=qz9
  exact R.rel.dx i a z (.inr m)
theorem RE.base(R:RE C io p c H σ δ fp ex H' v r δ' fp' new):Rel C io H' σ δ' fp' ex:=R.rel.drop λa z=>.inl z
theorem RA.base(R:RA C io p c H σ δ fp ex H' vs rs δ' fp' new):Rel C io H' σ δ' fp' ex:=R.rel.drop λa z=>.inl z
theorem Js{a:Addr}:exu ex [] a↔ex a:=by simp[exu]
theorem RE.fz(R:Rel C io H' σ δ' fp' ex)(S:Stp p H δ fp H' δ' fp')(h:Da G H' (λa=>c=true->Lf C fp' ex a) v d):RE C io p c H σ δ fp ex H' v (.fz d) δ' fp' [] :=
 ⟨R.drop λa z=>Js.mp z,S,.fz (h.wide λa l _ hc=>⟨(l hc).1,λz=>(l hc).2.1 (Js.mp z),(l hc).2.2⟩),.nil,λa m=>nomatch m⟩
theorem RE.tree{H1:Hp}(R0:Rel C io H σ δ fp ex)(R:Rel C io H1 σ δ' fp' ex)(S:Stp p H δ fp H1 δ' fp')(s:Same H1 H')(hn:∀a∈new,H1 a=none)(nd:new.Nodup)
  (o:Own G H' (λa=>((c=true->Lf C fp' ex a)∨H1 a=none)∧a∉new) v r new):RE C io p c H σ δ fp ex H' v r δ' fp' new:=by
 refine⟨R.made s λa m=>⟨hn a m,λz=>?_⟩,?_,o.wide λa l q hc=>?_,nd,λa m=>S.al a (hn a m)⟩
 ·obtain⟨xs,e⟩:=o.some a m
  rw[z]at e;cases e
 ·have:=S.trans (p':=true) (Stp.same (p:=true) (δ:=δ') (fp:=fp') s s.al)
  rwa[Bool.and_true]at this
 ·rcases l.1 with l1|l1
  ·exact⟨(l1 hc).1,λz=>z.elim (l1 hc).2.1 l.2,(l1 hc).2.2⟩
  ·exact⟨R.footSome l1,λz=>z.elim (λz=>R.xa a z l1) l.2,.inr (R.al a l1)⟩
end
inductive ScD:V->Xa->Prop where
 | non:ScD .non .none
 | bl (b:Bool):ScD (.bl b) (.bool b)
 | int (i:Int):ScD (.int i) (.int i)
 | str (x:Str):ScD (.str x) (.str x)
theorem ScD.da{H:Hp}{L:Addr->Prop}{v:V}{d:Xa}(h:ScD v d):Da G H L v d:=by
 cases h
 ·exact .non
 ·exact .bl _
 ·exact .int _
 ·exact .str _
section
variable {X:Cx}{io:List Nat}{p p' c c':Bool}{e a b:Expr}{m ma mb:MEt}{es:List Expr}
noncomputable def Z89(i:Nat):MEt:=λδ K=>match δ[i]? with|some (some (.fz d))=>K (.fz d) δ|_=>False
noncomputable def Z9g(i:Nat):MEt:=λδ K=>match δ[i]? with|some (some t)=>K (.fz t.data) δ|_=>False
noncomputable def mC(d:Xa):MEt:=λδ K=>K (.fz d) δ
theorem mv(i:Nat){x:Str}{pos:Pos}(hN:X.N[i]? =some x:=by rfl)(hv:Vis X.env.scope x:=by first|exact Qw rfl|exact Qo (Qw rfl)|exact Qo (Qo rfl))(hd:(x==("__debug__" : Str))=false:=by decide)
  (hcd:(x==("__classdict__" : Str))=false:=by decide):ME X io true true (.Name x pos) (Z89 i):=by
 refine⟨_,pv i hN hv hd hcd,λC H σ δ fp ex K Q R h k=>?_⟩
 unfold Z89 at h
 split at h
 ·rename_i d hd
  obtain⟨v,e,o⟩:=R.own i _ hd
  refine⟨v,e,k H v _ δ fp [] (.fz R (.refl _ _ _ _) ?_) h⟩
  generalize fp i=as at o
  cases o with
  | fz q=>exact q.wide λa l _ _=>l
 ·exact h.elim
theorem mo(i:Nat){x:Str}{pos:Pos}(hN:X.N[i]? =some x:=by rfl)(hv:Vis X.env.scope x:=by first|exact Qw rfl|exact Qo (Qw rfl)|exact Qo (Qo rfl))(hd:(x==("__debug__" : Str))=false:=by decide)
  (hcd:(x==("__classdict__" : Str))=false:=by decide):ME X io true false (.Name x pos) (Z9g i):=by
 refine⟨_,pv i hN hv hd hcd,λC H σ δ fp ex K Q R h k=>?_⟩
 unfold Z9g at h
 split at h
 ·rename_i d hd
  obtain⟨v,e,o⟩:=R.own i _ hd
  exact⟨v,e,k H v _ δ fp [] (.fz R (.refl _ _ _ _) (o.da (λa _ _ z=>(nomatch z)) λa _ z=>(nomatch z))) h⟩
 ·exact h.elim
theorem Zis{t:V}{d:Xa}(h:PE X e (tC t))(s:ScD t d):ME X io true true e (mC d) :=
 ⟨_,h,λC H σ δ fp ex K Q R h k=>k H t _ δ fp [] (.fz R (.refl _ _ _ _) s.da) h⟩
theorem Z6b{i j pos}:ME X io true true (.Constant (.int i) j pos) (mC (.int i)):=Zis Zxh (.int i)
theorem Zkt{b j pos}:ME X io true true (.Constant (.bool b) j pos) (mC (.bool b)):=Zis Yb0 (.bl b)
theorem Zh2{j pos}:ME X io true true (.Constant .none j pos) (mC .none):=Zis Z8n .non
theorem Jg{x j pos}:ME X io true true (.Constant (.str x) j pos) (mC (.str x)):=Zis Z7z (.str x)
theorem SE.two{ta tb:TE}(ha:SE G io p c ta ma)(hb:SE G io p' c' tb mb)(hc:p'=true∨c=true){C:MC G}{H:Hp}{σ:St}{δ:Zf}{fp:Fp}{ex:Addr->Prop}{K:OT->OT->Zf->Prop}{Q:V->V->Hp->Prop}
  (R:Rel C io H σ δ fp ex) (h:ma δ λx δ1=>mb δ1 λy δ2=>K x y δ2)
  (k:∀H' x y u v δ' fp',Rel C io H' σ δ' fp' ex->Stp (p&&p') H δ fp H' δ' fp'->Da G H' (λa=>(c&&c')=true->Lf C fp' ex a) x u.data->Da G H' (λa=>(c&&c')=true->Lf C fp' ex a) y v.data->K u v δ'->Q x y H') :
  ta σ H λx H1=>tb σ H1 λy H2=>Q x y H2:=by
 refine ha C H σ δ fp ex _ _ R h λH1 x u δ1 fp1 new1 r1 h1=>?_
 refine hb C H1 σ δ1 fp1 (exu ex new1) _ _ r1.rel h1 λH2 y v δ2 fp2 new2 r2 h2=>?_
 have o1:=r1.rel.own_step (ex':=exu (exu ex new1) new2) r2.stp (c:=c) hc (λa z=>z.imp id λz=>r2.fresh a z) (λa m=>.inr m) r1.own
 have R2:Rel C io H2 σ δ2 fp2 ex:=r2.rel.drop λa z=>.inl (.inl z)
 have q1:Da G H2 (λa=>c=true->Lf C fp2 ex a) x u.data:=by
  refine o1.da (λa l _ z=>?_) (λa m z=>?_)
  ·exact⟨(l z).1,λw=>(l z).2.1 (.inl (.inl w)),(l z).2.2⟩
  ·have:=R.newOk (r1.fresh a m)
   refine⟨λqz9=>?_,this.2.1,.inr this.2.2⟩
   obtain⟨i,w⟩:=qz9
   exact r2.rel.dx i a w (.inl (.inr m))
 have q2:=r2.da r1.rel
 refine k H2 x y u v δ2 fp2 R2 (r1.stp.trans r2.stp) (q1.wide λa l _ z=>l (by rw[XJ]at z;exact z.1)) (q2.wide λa l _ z=>?_) h2
 have l:=l (by rw[XJ]at z;exact z.2)
 exact⟨l.1,λw=>l.2.1 (.inl w),l.2.2⟩
noncomputable def P2s(G:Xc)(r:R2)(rp:Xa->Xa->(Xa->Prop)->Prop):Prop:=∀(H:Hp) (L:Addr->Prop) (x y:V) (d e:Xa) (k:Xa->Prop) (Q:VK),Da G H L x d->Da G H L y e->rp d e k->(∀v d',ScD v d'->k d'->Q v H)->r x y H Q
noncomputable def P2(G:Xc)(r:R2)(rp:Xa->Xa->(OT->Prop)->Prop):Prop:=∀(H:Hp) (L:Addr->Prop) (x y:V) (d e:Xa) (k:OT->Prop) (Q:VK),Da G H L x d->Da G H L y e->rp d e k ->
 (∀ H' v o new,Same H H'->Own G H' (λa=>(L a∨H a=none)∧a∉new) v o new->new.Nodup->(∀a∈new,H a=none)->k o->Q v H')->r x y H Q
noncomputable def Zmf(rp:Xa->Xa->(Xa->Prop)->Prop)(ma mb:MEt):MEt:=λδ K=>ma δ λx δ1=>mb δ1 λy δ2=>rp x.data y.data λd=>K (.fz d) δ2
noncomputable def Z7k(rp:Xa->Xa->(OT->Prop)->Prop)(ma mb:MEt):MEt:=λδ K=>ma δ λx δ1=>mb δ1 λy δ2=>rp x.data y.data λd=>K d δ2
theorem Zzy{r:R2}{rp}{ta tb:TE}(P:P2s G r rp)(ha:SE G io p c ta ma)(hb:SE G io p' c' tb mb)(hc:p'=true∨c=true):SE G io (p&&p') true (tOp r ta tb) (Zmf rp ma mb):=by
 intro C H σ δ fp ex K Q R h k
 refine SE.two (K:=λx y δ2=>rp x.data y.data λd=>K (.fz d) δ2) (Q:=λx y H2=>r x y H2 Q) ha hb hc R h λH' x y u v δ' fp' R' S q1 q2 h'=>?_
 exact P H' _ x y _ _ _ _ q1 q2 h' λw d' sc h''=>k H' w _ δ' fp' [] (.fz R' S sc.da) h''
theorem Yax{r:R2}{rp}{ta tb:TE}(P:P2 G r rp)(ha:SE G io p c ta ma)(hb:SE G io p' c' tb mb)(hc:p'=true∨c=true):SE G io (p&&p') (c&&c') (tOp r ta tb) (Z7k rp ma mb):=by
 intro C H σ δ fp ex K Q R h k
 refine SE.two (K:=λx y δ2=>rp x.data y.data λd=>K d δ2) (Q:=λx y H2=>r x y H2 Q) ha hb hc R h λH' x y u v δ' fp' R' S q1 q2 h'=>?_
 exact P H' _ x y _ _ _ _ q1 q2 h' λH2 w o new s ow nd hn h''=>k H2 w o δ' fp' new (RE.tree R R' S s hn nd ow) h''
theorem Zc8{op:Operator}{r:R2}{rp}{pos:Pos}(ho:OpR X (Vl op) r)(P:P2s X.K r rp)(ha:ME X io p c a ma)(hb:ME X io p' c' b mb)(hc:p'=true∨c=true:=by first|exact Qw rfl|exact Qo rfl):ME X io (p&&p') true (.BinOp a op b pos) (Zmf rp ma mb):=by
 obtain⟨_,A,sa⟩:=ha
 obtain⟨_,B,sb⟩:=hb
 exact⟨_,Z4m ho A B,Zzy P sa sb hc⟩
theorem Z9n{op:Operator}{r:R2}{rp}{pos:Pos}(ho:OpR X (Vl op) r)(P:P2 X.K r rp)(ha:ME X io p c a ma)(hb:ME X io p' c' b mb)(hc:p'=true∨c=true:=by first|exact Qw rfl|exact Qo rfl):ME X io (p&&p') (c&&c') (.BinOp a op b pos) (Z7k rp ma mb):=by
 obtain⟨_,A,sa⟩:=ha
 obtain⟨_,B,sb⟩:=hb
 exact⟨_,Z4m ho A B,Yax P sa sb hc⟩
theorem Z8l{op:CmpOp}{r:R2}{rp}{pos:Pos}(ho:OpR X (Qx op) r)(P:P2s X.K r rp)(ha:ME X io p c a ma)(hb:ME X io p' c' b mb)(hc:p'=true∨c=true:=by first|exact Qw rfl|exact Qo rfl)(hm:U4 op b=false):ME X io (p&&p') true (.Compare a [op] [b] pos) (Zmf rp ma mb):=by
 obtain⟨_,A,sa⟩:=ha
 obtain⟨_,B,sb⟩:=hb
 exact⟨_,Z17 ho A B hm,Zzy P sa sb hc⟩
theorem Z3c{r:R2}{rp}{pos:Pos}(ho:IxR X r)(P:P2 X.K r rp)(ha:ME X io p c a ma)(hb:ME X io p' c' b mb)(hc:p'=true∨c=true:=by first|exact Qw rfl|exact Qo rfl)(hs:Zfu b):ME X io (p&&p') (c&&c') (.Subscript a b pos) (Z7k rp ma mb):=by
 obtain⟨_,A,sa⟩:=ha
 obtain⟨_,B,sb⟩:=hb
 exact⟨_,Zvk ho A B hs,Yax P sa sb hc⟩
noncomputable def kB(K:Bool->Zf->Prop):OT->Zf->Prop:=λo δ=>match o with| .fz (.bool b)=>K b δ|_=>False
theorem Z1f{t:TE}(h:SE G io p c t m):STt G io p (Zv3 t) (λδ K=>m δ (kB K)):=by
 intro C H σ δ fp ex K Q R h' k
 refine h C H σ δ fp ex _ _ R h' λH' v r δ' fp' new r1 h1=>?_
 cases r with
 | nd ts=>exact h1.elim
 | tp ts=>exact h1.elim
 | dc _ _ _=>exact h1.elim
 | fz d=>
  cases d with
  | bool b=>
   cases r1.own with
   | fz q=>
    cases q
    exact⟨b,rfl,k H' b δ' fp' r1.base r1.stp h1⟩
  | _=>exact h1.elim
theorem Jq{op:CmpOp}{r:R2}{rp}{pos:Pos}(ho:OpR X (Qx op) r)(P:P2s X.K r rp)(ha:ME X io p c a ma)(hb:ME X io p' c' b mb)(hc:p'=true∨c=true:=by first|exact Qw rfl|exact Qo rfl)(hm:U4 op b=false) :
  MT X io (p&&p') (.Compare a [op] [b] pos) (λδ K=>Zmf rp ma mb δ (kB K)):=by
 obtain⟨_,A,sa⟩:=ha
 obtain⟨_,B,sb⟩:=hb
 exact⟨_,Zy8 ho A B hm,Z1f (Zzy P sa sb hc)⟩
end
variable {G:Xc}
section
variable {X:Cx}{io:List Nat}{p p' p'' c c':Bool}{e a b:Expr}{m ma mb:MEt}{es rest:List Expr}{ta tb:MTt}{pos:Pos}
noncomputable def Ye4(t:MTt):MTt:=λδ K=>t δ λb δ'=>K (!b) δ'
noncomputable def Yeh(t u:MTt):MTt:=λδ K=>t δ λb δ'=>if b=true then u δ' K else K false δ'
noncomputable def mOr(t u:MTt):MTt:=λδ K=>t δ λb δ'=>if b=true then K true δ' else u δ' K
theorem Z4y(h:MT X io p a ta):MT X io p (.UnaryOp .Not a pos) (Ye4 ta):=by
 obtain⟨_,A,sa⟩:=h
 exact⟨_,Z44 A,λC H σ δ fp ex K Q R h k=>sa C H σ δ fp ex _ _ R h λH' b δ' fp' R' S h'=>k H' (!b) δ' fp' R' S h'⟩
theorem Zly(h:MT X io p a ta):MW X io p (.BoolOp .And [a] pos) ta:=by
 obtain⟨_,A,sa⟩:=h
 exact⟨_,Z2f A,sa⟩
theorem Znn(h:MT X io p a ta):MW X io p (.BoolOp .Or [a] pos) ta:=by
 obtain⟨_,A,sa⟩:=h
 exact⟨_,Z3l A,sa⟩
theorem Stp.andL{H H':Hp}{δ δ':Zf}{fp fp':Fp}(S:Stp p H δ fp H' δ' fp'):Stp (p&&p') H δ fp H' δ' fp':=by
 have:=S.trans (Stp.refl p' H' δ' fp')
 exact this
theorem Ztp(h:MT X io p a ta)(g:MW X io p' (.BoolOp .And (b :: rest) pos) tb):MW X io (p&&p') (.BoolOp .And (a :: b :: rest) pos) (Yeh ta tb):=by
 obtain⟨_,A,sa⟩:=h
 obtain⟨_,B,sb⟩:=g
 exact⟨_,Z8u A B,λC H σ δ fp ex K Q R h k=>sa C H σ δ fp ex _ _ R h λH' b δ' fp' R' S h'=>by
  cases b with
  | true=>
   rw[if_pos rfl]at h'⊢
   exact sb C H' σ δ' fp' ex _ _ R' h' λH2 b2 δ2 fp2 R2 S2 h2=>k H2 b2 δ2 fp2 R2 (S.trans S2) h2
  | false=>
   rw[if_neg Xv]at h'⊢
   exact k H' false δ' fp' R' S.andL h'⟩
theorem Zpd(h:MT X io p a ta)(g:MW X io p' (.BoolOp .Or (b :: rest) pos) tb):MW X io (p&&p') (.BoolOp .Or (a :: b :: rest) pos) (mOr ta tb):=by
 obtain⟨_,A,sa⟩:=h
 obtain⟨_,B,sb⟩:=g
 exact⟨_,Yaj A B,λC H σ δ fp ex K Q R h k=>sa C H σ δ fp ex _ _ R h λH' b δ' fp' R' S h'=>by
  cases b with
  | true=>
   rw[if_pos rfl]at h'⊢
   exact k H' true δ' fp' R' S.andL h'
  | false=>
   rw[if_neg Xv]at h'⊢
   exact sb C H' σ δ' fp' ex _ _ R' h' λH2 b2 δ2 fp2 R2 S2 h2=>k H2 b2 δ2 fp2 R2 (S.trans S2) h2⟩
theorem MW.mt(h:MW X io p e ta):MT X io p e ta:=by
 obtain⟨_,A,sa⟩:=h
 exact⟨_,A.pt,sa⟩
noncomputable def Zu5:Xa->Option Bool
 | .none=>some false
 | .bool b=>some b
 | .int i=>some (i !=0)
 | .list ds=>some (!ds.isEmpty)
 | .tuple ds=>some (!ds.isEmpty)
 | _=>none
noncomputable def Yc8(m:MEt):MTt:=λδ K=>m δ λr δ'=>match Zu5 r.data with|some b=>K b δ'|none=>False
theorem Das.isEmpty{H:Hp}{L:Addr->Prop}{xs:List V}{ds:List Xa}(h:Das G H L xs ds):xs.isEmpty=ds.isEmpty:=by cases h<;>rfl
theorem Zdh(ha:ME X io p c a ma)(he:∀whole,isTrue a X.env whole=(do let v←whole;standAt a.pos;holding [v] (truthy v))):MT X io p a (Yc8 ma):=by
 obtain⟨_,A,sa⟩:=ha
 exact⟨_,Z1s rfl A he,λC H σ δ fp ex K' Q R h k=>sa C H σ δ fp ex _ _ R h λH' v r δ' fp' new r1 h1=>by
  have q:=r1.da R
  generalize r.data=d at q h1
  cases q with
  | non=>exact⟨_,rfl,k H' _ δ' fp' r1.base r1.stp h1⟩
  | bl b=>exact⟨_,rfl,k H' _ δ' fp' r1.base r1.stp h1⟩
  | int b=>exact⟨_,rfl,k H' _ δ' fp' r1.base r1.stp h1⟩
  | str x=>exact h1.elim
  | lst _ e q=>exact⟨_,.inl ⟨_,.inl e,rfl⟩,k H' _ δ' fp' r1.base r1.stp (by rw[q.isEmpty];exact h1)⟩
  | tup e q=>exact⟨_,.inr (.inl ⟨_,.inl (.inl e),rfl⟩),k H' _ δ' fp' r1.base r1.stp (by rw[q.isEmpty];exact h1)⟩
  | scr q=>exact⟨_,.inl ⟨_,q.sq,rfl⟩,k H' _ δ' fp' r1.base r1.stp (by simpa [Zu5]using h1)⟩
  | exc _ _ _=>exact h1.elim
  | fn _=>exact h1.elim
  | dic _ _ _ _=>exact h1.elim⟩
noncomputable def asB(d:Xa)(k:Bool->Prop):Prop:=match d with| .bool b=>k b|_=>False
noncomputable def Z7c(a b:MEt):MEt:=λδ K=>a δ λx δ1=>asB x.data λc=>if c=true then b δ1 K else K (.fz (.bool false)) δ1
noncomputable def Z6h(a:MEt):MEt:=λδ K=>a δ λx δ1=>asB x.data λc=>K (.fz (.bool (!c))) δ1
noncomputable def mIf(t:MTt)(a b:MEt):MEt:=λδ K=>t δ λc δ1=>if c=true then a δ1 K else b δ1 K
theorem Da.boolInv{H:Hp}{L:Addr->Prop}{v:V}{d:Xa}{k:Bool->Prop}(q:Da G H L v d)(h:asB d k):∃b,v= .bl b∧k b:=by
 cases q with
 | bl b=>exact⟨b,rfl,h⟩
 | _=>exact h.elim
theorem RE.step{C:MC G}{H H1 H2:Hp}{σ:St}{δ δ1 δ2:Zf}{fp fp1 fp2:Fp}{ex:Addr->Prop}{v:V}{r:OT}{new:List Addr}(S:Stp p H δ fp H1 δ1 fp1)(R:RE C io p' c H1 σ δ1 fp1 ex H2 v r δ2 fp2 new) :
  RE C io (p&&p') c H σ δ fp ex H2 v r δ2 fp2 new:=⟨R.rel,S.trans R.stp,R.own,R.nd,λa m=>S.al a (R.fresh a m)⟩
theorem Ycu{op}(h:ME X io p c a ma):ME X io p c (.BoolOp op [a] pos) ma:=by
 obtain⟨_,A,sa⟩:=h
 exact⟨_,Z4b A,sa⟩
theorem Ya4(ha:ME X io p c a ma)(hb:ME X io p' c' (.BoolOp .And (b :: rest) pos) mb):ME X io (p&&p') c' (.BoolOp .And (a :: b :: rest) pos) (Z7c ma mb):=by
 obtain⟨_,A,sa⟩:=ha
 obtain⟨_,B,sb⟩:=hb
 exact⟨_,Z3w A B,λC H σ δ fp ex K Q R h k=>sa C H σ δ fp ex _ _ R h λH' v r δ' fp' new r1 h1=>by
  obtain⟨b,rfl,h1⟩:=(r1.da R).boolInv h1
  refine⟨b,rfl,?_⟩
  cases b with
  | true=>
   rw[if_pos rfl]at h1⊢
   exact sb C H' σ δ' fp' ex _ _ r1.base h1 λH2 w r2 δ2 fp2 new2 R2 h2=>k H2 w r2 δ2 fp2 new2 (R2.step r1.stp) h2
  | false=>
   rw[if_neg Xv]at h1⊢
   exact k H' _ _ δ' fp' [] (RE.fz r1.base r1.stp.andL (.bl false)) h1⟩
theorem Yam(ha:ME X io p c a ma):ME X io p true (.UnaryOp .Not a pos) (Z6h ma):=by
 obtain⟨_,A,sa⟩:=ha
 exact⟨_,Z8t A,λC H σ δ fp ex K Q R h k=>sa C H σ δ fp ex _ _ R h λH' v r δ' fp' new r1 h1=>by
  obtain⟨b,rfl,h1⟩:=(r1.da R).boolInv h1
  exact⟨b,rfl,k H' _ _ δ' fp' [] (RE.fz r1.base r1.stp (.bl _)) h1⟩⟩
theorem Stp.cast{p p':Bool}{H H':Hp}{δ δ':Zf}{fp fp':Fp}(h:p'=true->p=true)(S:Stp p H δ fp H' δ' fp'):Stp p' H δ fp H' δ' fp' :=
 ⟨λb o e q=>S.keep b o e (q.imp h id),λq=>S.env (h q),S.grow,S.al⟩
theorem RE.cast{C:MC G}{H H1:Hp}{σ:St}{δ δ1:Zf}{fp fp1:Fp}{ex:Addr->Prop}{v:V}{r:OT}{new:List Addr}(hp:p'=true->p=true)(hc:c'=true->c=true)(R:RE C io p c H σ δ fp ex H1 v r δ1 fp1 new) :
  RE C io p' c' H σ δ fp ex H1 v r δ1 fp1 new:=⟨R.rel,R.stp.cast hp,R.own.wide λa l _ z=>l (hc z),R.nd,R.fresh⟩
theorem Ygf{t:Expr}(ht:MT X io p t ta)(ha:ME X io p' c a ma)(hb:ME X io p'' c' b mb):ME X io (p&&(p'&&p'')) (c&&c') (.IfExp t a b pos) (mIf ta ma mb):=by
 obtain⟨_,T,st⟩:=ht
 obtain⟨_,A,sa⟩:=ha
 obtain⟨_,B,sb⟩:=hb
 exact⟨_,Zwd T A B,λC H σ δ fp ex K Q R h k=>st C H σ δ fp ex _ _ R h λH' b δ' fp' R' S h'=>by
  cases b with
  | true=>
   rw[if_pos rfl]at h'⊢
   exact sa C H' σ δ' fp' ex _ _ R' h' λH2 w r2 δ2 fp2 new2 R2 h2=>k H2 w r2 δ2 fp2 new2 ((R2.step S).cast (λz=>by simp at z;simp[z]) (λz=>by simp at z;exact z.1)) h2
  | false=>
   rw[if_neg Xv]at h'⊢
   exact sb C H' σ δ' fp' ex _ _ R' h' λH2 w r2 δ2 fp2 new2 R2 h2=>k H2 w r2 δ2 fp2 new2 ((R2.step S).cast (λz=>by simp at z;simp[z]) (λz=>by simp at z;exact z.2)) h2⟩
end
section
variable {X:Cx}{io:List Nat}{p p' p'' c c':Bool}{e a b:Expr}{m ma mb:MEt}{es rest:List Expr}{mr:MAt}{pos:Pos}
noncomputable def Ye8:MAt:=λδ K=>K [] δ
noncomputable def Z5o(m:MEt)(mr:MAt):MAt:=λδ K=>m δ λr δ1=>mr δ1 λrs δ2=>K (r :: rs) δ2
theorem Z8v:MA X io true true [] Ye8:=⟨_,Zf2,λC H σ δ fp ex K Q R h k=>k H [] [] δ fp [] ⟨R.drop λa z=>Js.mp z,.refl _ _ _ _,.nil,.nil,λa m=>nomatch m⟩ h⟩
theorem Zzg(ha:ME X io p c e m)(hr:MA X io p' c' es mr)(hc:p'=true∨c=true)(hs:Xu (e :: es) X.env=(false,eval e X.env) :: Xu es X.env:=by rfl):MA X io (p&&p') (c&&c') (e :: es) (Z5o m mr):=by
 obtain⟨tA,A,sa⟩:=ha
 obtain⟨tB,B,sb⟩:=hr
 refine⟨_,Zbq A B hs,λC H σ δ fp ex K Q R h k=>?_⟩
 refine sa C H σ δ fp ex _ _ R h λH1 x u δ1 fp1 new1 r1 h1=>?_
 refine sb C H1 σ δ1 fp1 (exu ex new1) _ _ r1.rel h1 λH2 ys us δ2 fp2 new2 r2 h2=>?_
 have o1:=r1.rel.own_step (ex':=exu (exu ex new1) new2) r2.stp (c:=c) hc (λa z=>z.imp id λz=>r2.fresh a z) (λa m=>.inr m) r1.own
 have eqx:∀a,exu ex (new1 ++ new2) a->exu (exu ex new1) new2 a:=λa z=>by
  rcases z with z|z
  ·exact .inl (.inl z)
  ·rcases X8.mp z with z|z
   ·exact .inl (.inr z)
   ·exact .inr z
 refine k H2 (x :: ys) (u :: us) δ2 fp2 (new1 ++ new2) ⟨r2.rel.drop eqx,r1.stp.trans r2.stp,.cons (o1.wide λa l _ z=>?_) (r2.own.wide λa l _ z=>?_),?_,?_⟩ h2
 ·have l:=l (by rw[XJ]at z;exact z.1)
  exact⟨l.1,λw=>l.2.1 (eqx a w),l.2.2⟩
 ·have l:=l (by rw[XJ]at z;exact z.2)
  exact⟨l.1,λw=>l.2.1 (eqx a w),l.2.2⟩
 ·refine JF.mpr ⟨r1.nd,r2.nd,λa m b m' z=>?_⟩
  subst z
  obtain⟨xs,e⟩:=r1.own.some a m
  rw[r2.fresh a m']at e
  cases e
 ·intro a m
  rcases X8.mp m with m|m
  ·exact r1.fresh a m
  ·exact r1.stp.al a (r2.fresh a m)
noncomputable def Yd9(m:MAt):MEt:=λδ K=>m δ λrs δ'=>rs.length≤Xq∧K (.fz (.tuple (OT.datas rs))) δ'
noncomputable def Ydx(m:MAt):MEt:=λδ K=>m δ λrs δ'=>rs.length≤Xq∧K (.nd rs) δ'
theorem Ybs{x1}(h:MA X io p c es mr):ME X io p c (.Tuple es x1 pos) (Yd9 mr):=by
 obtain⟨tA,A,sa⟩:=h
 refine⟨_,Zx8 A,λC H σ δ fp ex K Q R h k=>?_⟩
 refine sa C H σ δ fp ex _ _ R h λH1 vs rs δ1 fp1 new1 r1 h1=>⟨by rw[r1.own.length];exact h1.1,λq hq=>?_⟩
 have s:=Zz hq (.tup vs)
 have R1:=r1.base
 have S:=r1.stp.trans (p':=true) (Stp.same (p:=true) (δ:=δ1) (fp:=fp1) s s.al)
 rw[Bool.and_true]at S
 refine k _ _ _ δ1 fp1 [] (.fz ?_ S (.tup Zr ((r1.das R).same s))) h1.2
 exact(R1.made (new:=[]) s λa m=>nomatch m).drop λa z=>.inl z
theorem Z95(h:MA X io p c es mr):ME X io p c (.List es pos) (Ydx mr):=by
 obtain⟨tA,A,sa⟩:=h
 refine⟨_,Z34 A,λC H σ δ fp ex K Q R h k=>?_⟩
 refine sa C H σ δ fp ex _ _ R h λH1 vs rs δ1 fp1 new1 r1 h1=>⟨by rw[r1.own.length];exact h1.1,λq hq=>?_⟩
 have s:=Zz hq (.lst vs)
 have S:=r1.stp.trans (p':=true) (Stp.same (p:=true) (δ:=δ1) (fp:=fp1) s s.al)
 rw[Bool.and_true]at S
 have hqn:q∉new1:=λm=>by
  obtain⟨xs,e⟩:=r1.own.some q m
  rw[hq]at e;cases e
 have R2:=(r1.rel.made (new:=[q]) s λa m=>by
  rcases Xj.mp m with rfl
  exact⟨hq,by rw[Zr];intro z;cases z⟩)
 have eqx:∀a,exu ex (q :: new1) a->exu (exu ex new1) [q] a:=λa z=>by
  rcases z with z|z
  ·exact .inl (.inl z)
  ·rcases Xp.mp z with z|z
   ·exact .inr (Xj.mpr z)
   ·exact .inl (.inr z)
 refine k _ _ _ δ1 fp1 (q :: new1) ⟨R2.drop eqx,S,.nd Zr ((r1.own.wide λa l w z=>?_).same s),X6.mpr ⟨hqn,r1.nd⟩,λa m=>?_⟩ h1.2
 ·have l:=l z
  refine⟨l.1,λy=>?_,l.2.2⟩
  rcases eqx a y with y|y
  ·exact l.2.1 y
  ·rcases Xj.mp y with rfl
   exact w hq
 ·rcases Xp.mp m with rfl|m
  ·exact r1.stp.al _ hq
  ·exact r1.fresh a m
end
variable {G:Xc}
noncomputable def spD(G:Xc)(S:List Xa->(OT->Prop)->Prop):Sp:=λvs H Q _=>∃L ds k,Das G H L vs ds∧S ds k∧
 ∀r v H' new,k r->Same H H'->Own G H' (λa=>(L a∨H a=none)∧a∉new) v r new->new.Nodup->(∀a∈new,H a=none)->Q v H'
section
variable {X:Cx}{io:List Nat}{p p' p'' c c':Bool}{e a b:Expr}{m ma mb:MEt}{es rest:List Expr}{mr:MAt}{pos:Pos}
variable {CX:CXT}{k:Nat}{f:Addr}{fd:Qc}{ps:List Str}{E:XK}{x:Str}{pp:Pos}
noncomputable def Z2r(S:List Xa->(OT->Prop)->Prop)(mr:MAt):MEt:=λδ K=>mr δ λrs δ1=>S (OT.datas rs) λr=>K r δ1
theorem Yal{S}{t:TA}(sa:SA G io p c t mr):SE G io p c (Z3k (spD G S) [] E t) (Z2r S mr):=by
 intro C H σ δ fp ex K Q R h kk
 refine sa C H σ δ fp ex _ _ R h λH1 vs rs δ1 fp1 new1 r1 h1=>?_
 rw[Qk]
 refine⟨_,_,_,r1.das R,h1,λr v H' new kr s o nd hn=>?_⟩
 exact kk H' v r δ1 fp1 new (RE.tree R r1.base r1.stp s hn nd o) kr
theorem Z6n{S}(F:FnOk X.prog X.w X.K X.mg X.base CX k f fd ps (spD X.K S))(hr:Room k X.A)(hg:Gl X x)(hm:X.mg x=some (.ref f))(hk:Vv X.K (.ref f)=true)(hb:Binds X.K fd ps [])(hx:Znw CX X E)
  (ha:MA X io p c (e :: es) mr) (hdb:(x==("__debug__" : Str))=false:=by decide) (he:Xu (e :: es) X.env=(false,eval e X.env) :: Xu es X.env:=by rfl) (hpl:(JD pos (Xu es X.env)).any (·.1)=false:=by rfl) :
  ME X io p c (.Call (.Name x pp) (e :: es) [] pos) (Z2r S mr):=by
 obtain⟨_,A,sa⟩:=ha
 exact⟨_,Zzx F hr hg hm hk hb .nil hx A hdb he hpl,Yal sa⟩
noncomputable def fpu(fp:Fp)(i:Nat)(as:List Addr):Fp:=λj=>if j=i then as else fp j
theorem Zu{fp:Fp}{i:Nat}{as:List Addr}:fpu fp i as i=as:=if_pos rfl
theorem Z7{fp:Fp}{i j:Nat}{as:List Addr}(h:j≠i):fpu fp i as j=fp j:=if_neg h
theorem Foot.of_u{fp:Fp}{i:Nat}{as:List Addr}{a:Addr}(h:Foot (fpu fp i as) a):a∈as∨∃j,j≠i∧a∈fp j:=by
 obtain⟨j,h⟩:=h
 by_cases e:j=i
 ·subst e;rw[Zu]at h;exact .inl h
 ·rw[Z7 e]at h;exact .inr ⟨j,e,h⟩
theorem Rel.change{C:MC G}{H H':Hp}{σ:St}{δ:Zf}{fp:Fp}{ex:Addr->Prop}{i:Nat}{t t':OT}{v:V}{as' new:List Addr}(R:Rel C io H σ δ fp ex)(hi:δ[i]? =some (some t))(hv:σ[i]? =some (some v))
  (keep:∀b o,H b=some o->b∉fp i->H' b=some o) (al:∀b,H' b=none->H b=none) (o:Own G H' (Lf C (fpu fp i as') (exu ex new)) v t' as') (nd:as'.Nodup) (new':∀a∈as',a∈fp i∨H a=none)
  (hn:∀a∈new,H a=none∧H' a≠none∧a∉as') :
  Rel C io H' σ (δ.set i (some t')) (fpu fp i as') (exu ex new)∧Stp false H δ fp H' (δ.set i (some t')) (fpu fp i as'):=by
 have hil:i<δ.length:=(Xn.mp hi).1
 have apart:∀j a,j≠i->a∈fp j->a∉as':=λj a e m z=>by
  rcases new' a z with z|z
  ·exact e (R.dj j i a m z)
  ·exact R.footSome z ⟨j,m⟩
 constructor
 ·refine⟨by rw[V6];exact R.len,λj t'' e=>?_,λj h=>?_,λj=>?_,λj k a h1 h2=>?_,λj a h z=>?_,λa z w=>z.elim (λz=>R.xa a z (al a w)) (λz=>(hn a z).2.1 w),λb ob e n=>?_,λb z=>R.al b (al b z),λj a h=>?_,R.io⟩
  ·by_cases ej:j=i
   ·subst ej
    rw[QG hil]at e
    cases e
    exact⟨v,hv,by rw[Zu];exact o⟩
   ·rw[Qv (Bl ej)]at e
    obtain⟨w,e1,o1⟩:=R.own j t'' e
    refine⟨w,e1,?_⟩
    rw[Z7 ej]
    refine o1.frame (λa xs l q=>?_) (λa xs q=>keep a _ q λz=>?_) λa m xs q=>keep a _ q λz=>ej (R.dj j i a m z)
    ·have na:a∉fp i:=λz=>l.1 ⟨i,z⟩
     refine⟨⟨λz=>?_,λz=>z.elim l.2.1 λz=>q.some (hn a z).1,l.2.2⟩,?_⟩
     ·rcases z.of_u with z|⟨k,_,z⟩
      ·rcases new' a z with z|z
       ·exact na z
       ·exact q.some z
      ·exact l.1 ⟨k,z⟩
     ·rcases q with q|⟨u,q⟩
      ·exact .inl (keep a _ q na)
      ·exact .inr ⟨u,keep a _ q na⟩
    ·obtain⟨ys,e⟩:=R.foot ⟨i,z⟩
     exact ImO.nm q e
  ·by_cases ej:j=i
   ·subst ej
    exact absurd (QG hil) (h t')
   ·rw[Z7 ej]
    refine R.emp j λt'' z=>h t'' ?_
    rw[Qv (Bl ej)]
    exact z
  ·by_cases ej:j=i
   ·subst ej;rw[Zu];exact nd
   ·rw[Z7 ej];exact R.nd j
  ·by_cases ej:j=i
   ·subst ej
    rw[Zu]at h1
    by_cases ek:k=j
    ·exact ek.symm
    ·rw[Z7 ek]at h2
     exact absurd h1 (apart k a ek h2)
   ·rw[Z7 ej]at h1
    by_cases ek:k=i
    ·subst ek
     rw[Zu]at h2
     exact absurd h2 (apart j a ej h1)
    ·rw[Z7 ek]at h2
     exact R.dj j k a h1 h2
  ·by_cases ej:j=i
   ·subst ej
    rw[Zu]at h
    rcases z with z|z
    ·rcases new' a h with w|w
     ·exact R.dx _ a w z
     ·exact R.xa a z w
    ·exact(hn a z).2.2 h
   ·rw[Z7 ej]at h
    rcases z with z|z
    ·exact R.dx j a h z
    ·exact R.footSome (hn a z).1 ⟨j,h⟩
  ·refine keep b ob (R.fr b ob e n) λz=>?_
   rcases R.new i b z with w|w
   ·exact n w.2
   ·rw[e]at w;cases w
  ·by_cases ej:j=i
   ·subst ej
    rw[Zu]at h
    rcases new' a h with w|w
    ·exact R.new _ a w
    ·exact .inr (R.al a w)
   ·rw[Z7 ej]at h
    exact R.new j a h
 ·refine⟨λb ob e q=>keep b ob e λz=>(q.resolve_left (by decide)) ⟨i,z⟩,λz=>(nomatch z),λa z=>?_,al⟩
  rcases z.of_u with z|⟨j,_,z⟩
  ·exact(new' a z).imp (λw=>⟨i,w⟩) id
  ·exact .inl ⟨j,z⟩
noncomputable def PNs(G:Xc)(r:List V->Hp->VK->Prop)(rp:List Xa->(Xa->Prop)->Prop):Prop:=∀(H:Hp) (L:Addr->Prop) (xs:List V) (ds:List Xa) (k:Xa->Prop) (Q:VK),Das G H L xs ds->rp ds k->(∀v d',ScD v d'->k d'->Q v H)->r xs H Q
noncomputable def PN(G:Xc)(r:List V->Hp->VK->Prop)(rp:List Xa->(OT->Prop)->Prop):Prop:=∀(H:Hp) (L:Addr->Prop) (xs:List V) (ds:List Xa) (k:OT->Prop) (Q:VK),Das G H L xs ds->rp ds k ->
 (∀ H' v o new,Same H H'->Own G H' (λa=>(L a∨H a=none)∧a∉new) v o new->new.Nodup->(∀a∈new,H a=none)->k o->Q v H')->r xs H Q
noncomputable def Z85(rp:List Xa->(Xa->Prop)->Prop)(mr:MAt):MEt:=λδ K=>mr δ λrs δ1=>rp (OT.datas rs) λd=>K (.fz d) δ1
noncomputable def mBl(rp:List Xa->(OT->Prop)->Prop)(mr:MAt):MEt:=λδ K=>mr δ λrs δ1=>rp (OT.datas rs) λo=>K o δ1
theorem Yd6{r rp}{t:TA}(P:PNs G r rp)(sa:SA G io p c t mr):SE G io p true (tCB r t) (Z85 rp mr):=λC H σ δ fp ex K Q R h kk=>
 sa C H σ δ fp ex _ _ R h λH1 vs rs δ1 fp1 new1 r1 h1=>P H1 _ vs _ _ _ (r1.das R) h1 λv d' sc h2=>kk H1 v _ δ1 fp1 [] (.fz r1.base r1.stp sc.da) h2
theorem sBl{r rp}{t:TA}(P:PN G r rp)(sa:SA G io p c t mr):SE G io p c (tCB r t) (mBl rp mr):=λC H σ δ fp ex K Q R h kk=>
 sa C H σ δ fp ex _ _ R h λH1 vs rs δ1 fp1 new1 r1 h1=>P H1 _ vs _ _ _ (r1.das R) h1 λH' v o new s ow nd hn h2=>kk H' v o δ1 fp1 new (RE.tree R r1.base r1.stp s hn nd ow) h2
variable {id T:String}{r:List V->Hp->VK->Prop}
theorem Zq9{rp}(P:PNs X.K r rp)(hc:Zcd X (.builtin id) r)(hg:Gl X x)(hm:X.mg x=none)(hv:Qe x=some (.builtin id))(ha:MA X io p c (e :: es) mr)(hn:x≠"__name__" :=by decide)(hdb:(x==("__debug__" : Str))=false:=by decide)
  (he:Xu (e :: es) X.env=(false,eval e X.env) :: Xu es X.env:=by rfl) (hpl:(JD pos (Xu es X.env)).any (·.1)=false:=by rfl):ME X io p true (.Call (.Name x pp) (e :: es) [] pos) (Z85 rp mr):=by
 obtain⟨_,A,sa⟩:=ha
 exact⟨_,Zim hc hg hm hv A hn hdb he hpl,Yd6 P sa⟩
theorem Yey{rp}(P:PN X.K r rp)(hc:Zcd X (.builtin id) r)(hg:Gl X x)(hm:X.mg x=none)(hv:Qe x=some (.builtin id))(ha:MA X io p c (e :: es) mr)(hn:x≠"__name__" :=by decide)(hdb:(x==("__debug__" : Str))=false:=by decide)
  (he:Xu (e :: es) X.env=(false,eval e X.env) :: Xu es X.env:=by rfl) (hpl:(JD pos (Xu es X.env)).any (·.1)=false:=by rfl):ME X io p c (.Call (.Name x pp) (e :: es) [] pos) (mBl rp mr):=by
 obtain⟨_,A,sa⟩:=ha
 exact⟨_,Zim hc hg hm hv A hn hdb he hpl,sBl P sa⟩
theorem Z99{rp}(P:PNs X.K r rp)(hc:Zcd X (.type T) r)(hg:Gl X x)(hm:X.mg x=none)(hv:Qe x=some (.type T))(ha:MA X io p c (e :: es) mr)(hn:x≠"__name__" :=by decide)(hdb:(x==("__debug__" : Str))=false:=by decide)
  (he:Xu (e :: es) X.env=(false,eval e X.env) :: Xu es X.env:=by rfl) (hpl:(JD pos (Xu es X.env)).any (·.1)=false:=by rfl):ME X io p true (.Call (.Name x pp) (e :: es) [] pos) (Z85 rp mr):=by
 obtain⟨_,A,sa⟩:=ha
 exact⟨_,Zla hc hg hm hv A hn hdb he hpl,Yd6 P sa⟩
theorem Yfx{rp}(P:PN X.K r rp)(hc:Zcd X (.type T) r)(hg:Gl X x)(hm:X.mg x=none)(hv:Qe x=some (.type T))(ha:MA X io p c (e :: es) mr)(hn:x≠"__name__" :=by decide)(hdb:(x==("__debug__" : Str))=false:=by decide)
  (he:Xu (e :: es) X.env=(false,eval e X.env) :: Xu es X.env:=by rfl) (hpl:(JD pos (Xu es X.env)).any (·.1)=false:=by rfl):ME X io p c (.Call (.Name x pp) (e :: es) [] pos) (mBl rp mr):=by
 obtain⟨_,A,sa⟩:=ha
 exact⟨_,Zla hc hg hm hv A hn hdb he hpl,sBl P sa⟩
end
variable {G:Xc}
mutual
noncomputable def Zac:Xa->Bool
 | .none=>true
 | .bool _=>true
 | .int _=>true
 | .str _=>true
 | .tuple ds=>Zlb ds
 | .list _=>false
 | .dict _=>false
noncomputable def Zlb:List Xa->Bool
 | []=>true
 | d :: ds=>Zac d&&Zlb ds
end
theorem Da.flat2{H:Hp}{L L':Addr->Prop}:(∀{v:V} {d:Xa},Da G H L v d->Zac d=true->Da G H L' v d)∧∀{v:List V} {d:List Xa},Das G H L v d->Zlb d=true->Das G H L' v d :=
 Da.both (λ_=>.non) (λb _=>.bl b) (λi _=>.int i) (λx _=>.str x) (λ_ _ _ h=>by rw[Zac]at h;cases h) (λe r h=>.tup e (r (by rw[Zac]at h;exact h))) (λk _=>.scr k) (λc n e _=>.exc c n e) (λk _=>.fn k) (λ_ _ _ _ h=>by rw[dcD,Zac]at h;cases h) (λ_=>.nil)
  (λk r h=>by rw[Zlb,XJ]at h;exact .cons (k h.1) (r h.2))
theorem Da.flat{H:Hp}{L L':Addr->Prop}{v:V}{d:Xa}(h:Da G H L v d)(f:Zac d=true):Da G H L' v d:=Da.flat2.1 h f
set_option genInjectivity false in
structure Zhd where
 nx:Zf->Prop
 rt:OT->Zf->Prop
 bk:Zf->Prop:=λ_=>False
 ct:Zf->Prop:=λ_=>False
noncomputable abbrev MSt:=Zhd->Zf->Prop
noncomputable abbrev Kp(H:Hp)(fp:Fp)(H':Hp)(fp':Fp):Prop:=Stp false H [] fp H' [] fp'
theorem Stp.kp{p:Bool}{H H':Hp}{δ δ':Zf}{fp fp':Fp}(S:Stp p H δ fp H' δ' fp'):Kp H fp H' fp':=⟨λb o e q=>S.keep b o e (.inr (q.resolve_left (by decide))),λz=>(nomatch z),S.grow,S.al⟩
theorem Kp.trans{H H1 H2:Hp}{fp fp1 fp2:Fp}(a:Kp H fp H1 fp1)(b:Kp H1 fp1 H2 fp2):Kp H fp H2 fp2:=Stp.trans a b
theorem Kp.refl(H:Hp)(fp:Fp):Kp H fp H fp:=Stp.refl _ _ _ _
structure RelEnds(C:MC G)(io:List Nat)(ex:Addr->Prop)(H:Hp)(fp:Fp)(D:Zhd)(D':Ends):Prop where
 nx:∀H' σ' δ' fp',Rel C io H' σ' δ' fp' ex->Kp H fp H' fp'->D.nx δ'->D'.nx σ' H'
 bk:∀H' σ' δ' fp',Rel C io H' σ' δ' fp' ex->Kp H fp H' fp'->D.bk δ'->D'.bk σ' H'
 ct:∀H' σ' δ' fp',Rel C io H' σ' δ' fp' ex->Kp H fp H' fp'->D.ct δ'->D'.ct σ' H'
 rt:∀H' σ' v r δ' fp' new,Rel C io H' σ' δ' fp' (exu ex new)->Own G H' (Lf C fp' (exu ex new)) v r new->new.Nodup->(∀a∈new,C.H₀ a=none)->D.rt r δ'->D'.rt v H'
theorem RelEnds.shift{C:MC G}{io:List Nat}{ex:Addr->Prop}{H H1:Hp}{fp fp1:Fp}{D:Zhd}{D':Ends}(E:RelEnds C io ex H fp D D')(k:Kp H fp H1 fp1):RelEnds C io ex H1 fp1 D D' :=
 ⟨λH' σ' δ' fp' R q=>E.nx H' σ' δ' fp' R (k.trans q),λH' σ' δ' fp' R q=>E.bk H' σ' δ' fp' R (k.trans q),λH' σ' δ' fp' R q=>E.ct H' σ' δ' fp' R (k.trans q),E.rt⟩
noncomputable def SS(G:Xc)(io:List Nat)(t:TS)(m:MSt):Prop:=∀(C:MC G) (H:Hp) (σ:St) (δ:Zf) (fp:Fp) (ex:Addr->Prop) (D:Zhd) (D':Ends),Rel C io H σ δ fp ex->m D δ->RelEnds C io ex H fp D D'->t D' σ H
noncomputable def MS(X:Cx)(io:List Nat)(st:Stmt)(m:MSt):Prop:=∃t,PS X st t∧SS X.K io t m
noncomputable def MSs(X:Cx)(io:List Nat)(st:List Stmt)(m:MSt):Prop:=∃t,PSs X st t∧SS X.K io t m
section
variable {X:Cx}{io:List Nat}{p p' p'' c c':Bool}{e a b:Expr}{m ma mb:MEt}{es rest:List Expr}{mr:MAt}{pos:Pos}{st:Stmt}{sts:List Stmt}{u w:MSt}{mt:MTt}
noncomputable def Z7t:MSt:=λD δ=>D.nx δ
noncomputable def Yf2(w:MSt)(D:Zhd)(δ:Zf):Prop:=w D δ
noncomputable def Ycg(u w:MSt):MSt:=λD δ=>u { D with nx:=Yf2 w D } δ
theorem Z0w:MSs X io [] Z7t:=⟨_,Z2a,λC H σ δ fp ex D D' R h E=>E.nx H σ δ fp R (.refl _ _) h⟩
theorem Zg(h:MS X io st u):MSs X io [st] u:=by
 obtain⟨_,A,s⟩:=h
 exact⟨_,Zyw A,s⟩
theorem Zwm(h:MS X io st u)(g:MSs X io sts w):MSs X io (st :: sts) (Ycg u w):=by
 obtain⟨_,A,s⟩:=h
 obtain⟨tb,B,s'⟩:=g
 exact⟨_,Zvt A B,λC H σ δ fp ex D D' R h E=>s C H σ δ fp ex _ _ R h ⟨λH1 σ1 δ1 fp1 R1 k1 h1=>s' C H1 σ1 δ1 fp1 ex D D' R1 h1 (E.shift k1),E.bk,E.ct,E.rt⟩⟩
noncomputable def Z4i:MSt:=λ_ _=>False
theorem Zu1:MS X io st Z4i:=⟨_,Zwr,λC H σ δ fp ex D D' R h E=>h.elim⟩
noncomputable def Z4a(m:MEt):MSt:=λD δ=>m δ λ_ δ'=>D.nx δ'
theorem Zr6(he:ME X io p c e m)(hs:Br e none pos.line X.env=pure false:=by rfl):MS X io (.Expr e pos) (Z4a m):=by
 obtain⟨_,A,s⟩:=he
 exact⟨_,Zcy A hs,λC H σ δ fp ex D D' R h E=>s C H σ δ fp ex _ _ R h λH' v r δ' fp' new r1 h1=>E.nx H' σ δ' fp' r1.base r1.stp.kp h1⟩
noncomputable def Yek(m:MEt):MSt:=λD δ=>m δ λr δ'=>D.rt r δ'
theorem Z5s(he:ME X io p true e m):MS X io (.Return (some e) pos) (Yek m):=by
 obtain⟨_,A,s⟩:=he
 exact⟨_,Zw0 A,λC H σ δ fp ex D D' R h E=>s C H σ δ fp ex _ _ R h λH' v r δ' fp' new r1 h1=>E.rt H' σ v r δ' fp' new r1.rel (r1.own.wide λa l _=>l rfl) r1.nd (λa m=>(R.newOk (r1.fresh a m)).2.2) h1⟩
noncomputable def Zuj(i:Nat):MSt:=λD δ=>match δ[i]? with|some (some t)=>D.rt t (δ.set i none)|_=>False
theorem Rel.take{C:MC G}{H:Hp}{σ:St}{δ:Zf}{fp:Fp}{ex:Addr->Prop}{i:Nat}{t:OT}(R:Rel C io H σ δ fp ex)(hi:δ[i]? =some (some t)):Rel C io H σ (δ.set i none) (fpu fp i []) (exu ex (fp i)):=by
 have hil:i<δ.length:=(Xn.mp hi).1
 have get:∀j (t':OT),(δ.set i none)[j]? =some (some t')->j≠i∧δ[j]? =some (some t'):=λj t' e=>by
  by_cases ej:j=i
  ·subst ej;rw[QG hil]at e;cases e
  ·rw[Qv (Bl ej)]at e;exact⟨ej,e⟩
 have sub:∀j a,a∈fpu fp i [] j->j≠i∧a∈fp j:=λj a m=>by
  by_cases ej:j=i
  ·subst ej;rw[Zu]at m;exact nomatch m
  ·rw[Z7 ej]at m;exact⟨ej,m⟩
 have lw:∀a,Lf C fp ex a->Lf C (fpu fp i []) (exu ex (fp i)) a:=λa l=>⟨λ⟨j,z⟩=>l.1 ⟨j,(sub j a z).2⟩,λz=>z.elim l.2.1 λz=>l.1 ⟨i,z⟩,l.2.2⟩
 refine⟨by rw[V6];exact R.len,λj t' e=>?_,λj h=>?_,λj=>?_,λj k a h1 h2=>R.dj j k a (sub j a h1).2 (sub k a h2).2,λj a h z=>?_,λa z w=>?_,R.fr,R.al,λj a h=>R.new j a (sub j a h).2,R.io⟩
 ·obtain⟨ej,e⟩:=get j t' e
  obtain⟨w,e1,o⟩:=R.own j t' e
  exact⟨w,e1,by rw[Z7 ej];exact o.wide λa l _=>lw a l⟩
 ·by_cases ej:j=i
  ·subst ej;rw[Zu]
  ·rw[Z7 ej]
   exact R.emp j λt' z=>h t' (by rw[Qv (Bl ej)];exact z)
 ·by_cases ej:j=i
  ·subst ej;rw[Zu];exact .nil
  ·rw[Z7 ej];exact R.nd j
 ·obtain⟨ej,h⟩:=sub j a h
  rcases z with z|z
  ·exact R.dx j a h z
  ·exact ej (R.dj j i a h z)
 ·rcases z with z|z
  ·exact R.xa a z w
  ·exact R.footSome w ⟨i,z⟩
theorem Zas(i:Nat){x:Str}{px:Pos}(hio:i∉io:=by decide)(hN:X.N[i]? =some x:=by rfl)(hv:Vis X.env.scope x:=by first|exact Qw rfl|exact Qo (Qw rfl)|exact Qo (Qo rfl))(hd:(x==("__debug__" : Str))=false:=by decide)
  (hcd:(x==("__classdict__" : Str))=false:=by decide):MS X io (.Return (some (.Name x px)) pos) (Zuj i):=by
 refine⟨_,Zw0 (pv i hN hv hd hcd),λC H σ δ fp ex D D' R h E=>?_⟩
 unfold Zuj at h
 split at h
 case h_2=>exact h.elim
 rename_i t hi
 obtain⟨v,e,o⟩:=R.own i t hi
 have lw:∀a,Lf C fp ex a->H a≠none->Lf C (fpu fp i []) (exu ex (fp i)) a:=λa l _=>⟨λz=>by
  rcases z.of_u with z|⟨j,_,z⟩
  ·exact nomatch z
  ·exact l.1 ⟨j,z⟩,λz=>z.elim l.2.1 λz=>l.1 ⟨i,z⟩,l.2.2⟩
 have hn:∀a∈fp i,C.H₀ a=none:=λa m=>by
  rcases R.new i a m with z|z
  ·exact absurd z.1 hio
  ·exact z
 exact⟨v,e,E.rt H σ v t _ _ (fp i) (R.take hi) (o.wide lw) (R.nd i) hn h⟩
noncomputable def Yev(t:MTt)(u w:MSt):MSt:=λD δ=>t δ λb δ'=>if b=true then u D δ' else w D δ'
theorem Yac{cnd:Expr}{ss ss':List Stmt}(hc:MT X io p cnd mt)(ha:MSs X io ss u)(hb:MSs X io ss' w):MS X io (.If cnd ss ss' pos) (Yev mt u w):=by
 obtain⟨_,T,s⟩:=hc
 obtain⟨_,A,sa⟩:=ha
 obtain⟨_,B,sb⟩:=hb
 exact⟨_,Ych T A B,λC H σ δ fp ex D D' R h E=>s C H σ δ fp ex _ _ R h λH' b δ' fp' R' S h'=>by
  cases b with
  | true=>
   rw[if_pos rfl]at h'⊢
   exact sa C H' σ δ' fp' ex D D' R' h' (E.shift S.kp)
  | false=>
   rw[if_neg Xv]at h'⊢
   exact sb C H' σ δ' fp' ex D D' R' h' (E.shift S.kp)⟩
theorem Rel.put{C:MC G}{H:Hp}{σ:St}{δ:Zf}{fp:Fp}{ex:Addr->Prop}{i:Nat}{v:V}{r:OT}{new:List Addr}(R:Rel C io H σ δ fp (exu ex new))(hio:i∉io)(o:Own G H (Lf C fp (exu ex new)) v r new)(nd:new.Nodup)
  (hn:∀a∈new,C.H₀ a=none∧¬ex a):∃fp',Rel C io H (σ.set i (some v)) (δ.set i (some r)) fp' ex∧∀a,Foot fp' a->Foot fp a∨a∈new:=by
 by_cases hil:i<δ.length
 case neg=>
  refine⟨fp,?_,λa h=>.inl h⟩
  have hl:=R.len
  rw[List.set_eq_of_length_le (show δ.length≤i by omega),List.set_eq_of_length_le (show σ.length≤i by omega)]
  exact R.drop λa z=>.inl z
 have hsl:i<σ.length:=by rw[R.len];exact hil
 have sub:∀a,Foot (fpu fp i new) a->Foot fp a∨a∈new:=λa z=>by
  rcases z.of_u with z|⟨j,_,z⟩
  ·exact .inr z
  ·exact .inl ⟨j,z⟩
 have lw:∀a,Lf C fp (exu ex new) a->Lf C (fpu fp i new) ex a:=λa l=>⟨λz=>(sub a z).elim l.1 λz=>l.2.1 (.inr z),λz=>l.2.1 (.inl z),l.2.2⟩
 refine⟨fpu fp i new,⟨by rw[V6,V6];exact R.len,λj t' e=>?_,λj h=>?_,λj=>?_,λj k a h1 h2=>?_,λj a h z=>?_,λa z=>R.xa a (.inl z),R.fr,R.al,λj a h=>?_,λj hj=>?_⟩,sub⟩
 ·by_cases ej:j=i
  ·subst ej
   rw[QG hil]at e
   cases e
   exact⟨v,QG hsl,by rw[Zu];exact o.wide λa l _=>lw a l⟩
  ·rw[Qv (Bl ej)]at e
   obtain⟨w,e1,o1⟩:=R.own j t' e
   exact⟨w,by rw[Qv (Bl ej)];exact e1,by rw[Z7 ej];exact o1.wide λa l _=>lw a l⟩
 ·by_cases ej:j=i
  ·subst ej;exact absurd (QG hil) (h r)
  ·rw[Z7 ej]
   exact R.emp j λt' z=>h t' (by rw[Qv (Bl ej)];exact z)
 ·by_cases ej:j=i
  ·subst ej;rw[Zu];exact nd
  ·rw[Z7 ej];exact R.nd j
 ·by_cases ej:j=i
  ·subst ej
   rw[Zu]at h1
   by_cases ek:k=j
   ·exact ek.symm
   ·rw[Z7 ek]at h2
    exact absurd (.inr h1) (R.dx k a h2)
  ·rw[Z7 ej]at h1
   by_cases ek:k=i
   ·subst ek
    rw[Zu]at h2
    exact absurd (.inr h2) (R.dx j a h1)
   ·rw[Z7 ek]at h2
    exact R.dj j k a h1 h2
 ·by_cases ej:j=i
  ·subst ej
   rw[Zu]at h
   exact(hn a h).2 z
  ·rw[Z7 ej]at h
   exact R.dx j a h (.inl z)
 ·by_cases ej:j=i
  ·subst ej
   rw[Zu]at h
   exact .inr (hn a h).1
  ·rw[Z7 ej]at h
   exact R.new j a h
 ·have ej:j≠i:=λz=>hio (z▸hj)
  rw[Qv (Bl ej)]
  exact R.io j hj
theorem RE.put{C:MC G}{H H':Hp}{σ:St}{δ δ':Zf}{fp fp':Fp}{ex:Addr->Prop}{i:Nat}{v:V}{r:OT}{new:List Addr}(R:RE C io p true H σ δ fp ex H' v r δ' fp' new)(R0:Rel C io H σ δ fp ex)(hio:i∉io) :
  ∃fp2,Rel C io H' (σ.set i (some v)) (δ'.set i (some r)) fp2 ex∧Kp H fp H' fp2:=by
 obtain⟨fp2,R2,g⟩:=R.rel.put hio (R.own.wide λa l _=>l rfl) R.nd λa m=>⟨(R0.newOk (R.fresh a m)).2.2,(R0.newOk (R.fresh a m)).2.1⟩
 refine⟨fp2,R2,λb o e q=>R.stp.keep b o e (.inr (q.resolve_left (by decide))),λz=>(nomatch z),λa z=>?_,R.stp.al⟩
 rcases g a z with z|z
 ·exact R.stp.grow a z
 ·exact .inr (R.fresh a z)
theorem RE.fzc{C:MC G}{H H':Hp}{σ:St}{δ δ':Zf}{fp fp':Fp}{ex:Addr->Prop}{v:V}{r:OT}{new:List Addr}(R:RE C io p c H σ δ fp ex H' v r δ' fp' new)(R0:Rel C io H σ δ fp ex) :
  RE C io p c H σ δ fp ex H' v (.fz r.data) δ' fp' []:=.fz R.base R.stp (R.da R0)
noncomputable def Z3e(i:Nat)(m:MEt):MSt:=λD δ=>m δ λr δ'=>D.nx (δ'.set i (some (.fz r.data)))
noncomputable def Zog(i:Nat)(m:MEt):MSt:=λD δ=>m δ λr δ'=>D.nx (δ'.set i (some r))
section
variable {i:Nat}{x:Str}{px:Pos}
theorem Ydv{t:TE}(s:SE G io p true t m)(hio:i∉io):SS G io (Z9q t (Zqf i)) (Z3e i m):=λC H σ δ fp ex D D' R h E=>s C H σ δ fp ex _ _ R h λH' v r δ' fp' new r1 h1=>by
 obtain⟨fp2,R2,k2⟩:=(r1.fzc R).put R hio
 exact E.nx H' _ _ fp2 R2 k2 h1
theorem Z8c{t:TE}(s:SE G io p true t m)(hio:i∉io):SS G io (Z9q t (Zqf i)) (Zog i m):=λC H σ δ fp ex D D' R h E=>s C H σ δ fp ex _ _ R h λH' v r δ' fp' new r1 h1=>by
 obtain⟨fp2,R2,k2⟩:=r1.put R hio
 exact E.nx H' _ _ fp2 R2 k2 h1
theorem Znd(hN:X.N.Nodup)(hi:X.N[i]? =some x)(hx:Loc X.env.scope x)(he:ME X io p true e m)(hio:i∉io:=by decide)(hs:Br e (some (.Name x px)) pos.line X.env=pure false:=by rfl)(hf:X.fn x=true∨X.env.scope.names.lookup x=some .local:=by first|exact .inl rfl|exact .inr rfl|assumption) :
  MS X io (.Assign [.Name x px] e pos) (Z3e i m):=by
 obtain⟨_,A,s⟩:=he
 exact⟨_,Zxt hN hi hx A hs hf,Ydv s hio⟩
theorem Z2e(hN:X.N.Nodup)(hi:X.N[i]? =some x)(hx:Loc X.env.scope x)(he:ME X io p true e m)(hio:i∉io:=by decide)(hs:Br e (some (.Name x px)) pos.line X.env=pure false:=by rfl)(hf:X.fn x=true∨X.env.scope.names.lookup x=some .local:=by first|exact .inl rfl|exact .inr rfl|assumption) :
  MS X io (.Assign [.Name x px] e pos) (Zog i m):=by
 obtain⟨_,A,s⟩:=he
 exact⟨_,Zxt hN hi hx A hs hf,Z8c s hio⟩
end
noncomputable def Zx6(t:MTt)(u:MSt):MSt:=λD δ=>∃W:Nat->Zf->Prop,(∃n,W n δ)∧∀n δ,W n δ->t δ λb δ'=>if b=true then∃N:Zf->Prop,(∀δ',N δ'->∃n',n'<n∧W n' δ')∧u { D with nx:=N,ct:=N,bk:=D.nx } δ' else D.nx δ'
theorem Zv7{cnd:Expr}{ss:List Stmt}(hp:PassesOwn (XR X.prog X.w) X.A X.env X.xe)(hc:MT X io p cnd mt)(ha:MSs X io ss u):MS X io (.While cnd ss [] pos) (Zx6 mt u):=by
 obtain⟨_,T,s⟩:=hc
 obtain⟨_,A,sa⟩:=ha
 refine⟨_,Zv8 hp T A,λC H σ δ fp ex D D' R h E=>?_⟩
 obtain⟨W,⟨n0,w0⟩,turn⟩:=h
 refine⟨λn σ' H'=>∃δ' fp',Rel C io H' σ' δ' fp' ex∧Kp H fp H' fp'∧W n δ',⟨n0,δ,fp,R,.refl _ _,w0⟩,?_⟩
 rintro n σ1 H1 ⟨δ1,fp1,R1,k1,w1⟩
 refine s C H1 σ1 δ1 fp1 ex _ _ R1 (turn n δ1 w1) λH2 b δ2 fp2 R2 S2 h2=>?_
 have k2:=k1.trans S2.kp
 cases b with
 | true=>
  rw[if_pos rfl]at h2⊢
  obtain⟨N,hN,h2⟩:=h2
  refine⟨λσ' H'=>∃δ' fp',Rel C io H' σ' δ' fp' ex∧Kp H fp H' fp'∧N δ',λσ' H' ⟨δ',fp',R',k',n'⟩=>?_,?_⟩
  ·obtain⟨n1,hn1,w1⟩:=hN δ' n'
   exact⟨n1,hn1,δ',fp',R',k',w1⟩
  ·refine sa C H2 σ1 δ2 fp2 ex _ _ R2 h2 ⟨λH' σ' δ' fp' R' k' n'=>⟨δ',fp',R',k2.trans k',n'⟩,λH' σ' δ' fp' R' k' n'=>E.nx H' σ' δ' fp' R' (k2.trans k') n',λH' σ' δ' fp' R' k' n'=>⟨δ',fp',R',k2.trans k',n'⟩,E.rt⟩
 | false=>
  rw[if_neg Xv]at h2⊢
  exact E.nx H2 σ1 δ2 fp2 R2 k2 h2
end
variable {G:Xc}
noncomputable def Zpq(N:List Str)(ds:List Xa):Zf:=ds.map (λd=>some (.fz d)) ++ X4 (N.length-ds.length) none
section
variable {H:Hp}{L:Addr->Prop}{vs:List V}{ds:List Xa}{N:List Str}
theorem Zqi{i:Nat}{t:OT}{n:Nat}(h:(ds.map (λd=>some (.fz d)) ++ X4 n none:Zf)[i]? =some (some t)):∃d,ds[i]? =some d∧t= .fz d:=by
 rw[List.getElem?_append]at h
 split at h
 ·rw[Xl]at h
  cases e:ds[i]? with
  | none=>rw[e]at h;cases h
  | some d=>rw[e]at h;cases h;exact⟨d,rfl,rfl⟩
 ·rw[List.getElem?_replicate]at h
  split at h
  ·cases h
  ·cases h
theorem Rel.entry(h:Das G H L vs ds):Rel (G:=G) ⟨H,λ_=>False,L,start N vs⟩ [] H (start N vs) (Zpq N ds) (λ_=>[]) (λ_=>False):=by
 refine⟨?_,λi t e=>?_,λ_ _=>rfl,λ_=>.nil,λi j a m=>(nomatch m),λi a m=>(nomatch m),λa z=>z.elim,λb o e _=>e,λb e=>e,λi a m=>(nomatch m),λi m=>nomatch m⟩
 ·unfold start Zpq
  simp[h.length]
 ·obtain⟨d,e',rfl⟩:=Zqi e
  obtain⟨x,e1,q⟩:=h.get e'
  refine⟨x,?_,.fz (q.wide λa l _=>⟨λ⟨j,z⟩=>(nomatch z),λz=>z,.inl l⟩)⟩
  unfold L2.start
  rw[List.getElem?_append_left (by rw[Xd];exact(Xn.mp e1).1),Xl,e1]
  rfl
variable {P:XS}{w:Qq}{K:Xc}{mg:Str->Option Xe}{base:Heap}
noncomputable def Z0v(k:OT->Prop):Zhd:={ nx:=λ_=>k (.fz .none),rt:=λr _=>k r }
theorem Fun.okD{x qual:Str}{st:Stmt}{f:Addr}{fd:Qc}{N ps:List Str}{n:Nat}{S:List Xa->(OT->Prop)->Prop}(F:Fun K x qual st f fd)(Sc:Zt N ps (Zi st))(len:∀ds k,S ds k->ds.length=ps.length)
  (hbody:∀(cdv:Xe) (A:Qs) (outer:List Env) (s:Xg) (H:Hp) (E:XK),Room n (A.deeper (envOfC qual (Zi st) s.heap.objs.size f cdv)) ->
   ∃m,MSs (Zxe CX0 P w K mg base N qual (Zi st) f cdv A outer s H E).nox [] (Zau st) m∧∀ds k,S ds k->m (Z0v k) (Zpq N ds)):FnOk P w K mg base CX0 (n+1) f fd ps (spD K S):=by
 refine F.ok Sc (λvs H Q E h=>?_) (λcdv A outer s H vs Q E hr h=>?_)
 ·obtain⟨L,ds,k,h1,h2,_⟩:=h
  rw[h1.length]
  exact len ds k h2
 ·obtain⟨L,ds,k,h1,h2,h3⟩:=h
  obtain⟨m,⟨t,A1,s1⟩,q⟩:=hbody cdv A outer s H E hr
  refine⟨t,A1,s1 ⟨H,λ_=>False,L,start N vs⟩ H _ _ _ _ (Z0v k) _ (Rel.entry h1) (q ds k h2) ⟨λH' σ' δ' fp' R _ hk=>?_,λ_ _ _ _ _ _ z=>z.elim,λ_ _ _ _ _ _ z=>z.elim,λH' σ' v r δ' fp' new R o nd hn hk=>?_⟩⟩
  ·exact h3 _ .non H' [] hk (λb o e=>R.fr b o e id) (.fz .non) .nil λa m=>nomatch m
  ·refine h3 r v H' new hk (λb o e=>R.fr b o e id) (o.wide λa l _=>⟨?_,λz=>l.2.1 (.inr z)⟩) nd hn
   exact l.2.2
end
noncomputable abbrev MGt:=Xa->Zf->(Zf->Prop)->Prop
noncomputable abbrev Zt1:=List Xa->Zf->(Zf->Prop)->Prop
noncomputable def SG(G:Xc)(io:List Nat)(c:Bool)(t:TG)(g:MGt):Prop:=∀(C:MC G) (H:Hp) (σ:St) (δ:Zf) (fp:Fp) (ex:Addr->Prop) (v:V) (d:Xa) (k:Zf->Prop) (Q:St->Hp->Prop),Rel C io H σ δ fp ex->Da G H (λa=>c=true->Lf C fp ex a) v d->g d δ k ->
 (∀ σ' δ' fp',Rel C io H σ' δ' fp' ex->Kp H fp H fp'->k δ'->Q σ' H)->t v σ H Q
noncomputable def SGs(G:Xc)(io:List Nat)(c:Bool)(t:TGs)(g:Zt1):Prop:=∀(C:MC G) (H:Hp) (σ:St) (δ:Zf) (fp:Fp) (ex:Addr->Prop) (v:List V) (d:List Xa) (k:Zf->Prop) (Q:St->Hp->Prop),Rel C io H σ δ fp ex->Das G H (λa=>c=true->Lf C fp ex a) v d->g d δ k ->
 (∀ σ' δ' fp',Rel C io H σ' δ' fp' ex->Kp H fp H fp'->k δ'->Q σ' H)->t v σ H Q
noncomputable def MG(X:Cx)(io:List Nat)(c:Bool)(tg:Expr)(g:MGt):Prop:=∃t,PG X tg t∧SG X.K io c t g
noncomputable def MGs(X:Cx)(io:List Nat)(c:Bool)(tg:List Expr)(g:Zt1):Prop:=∃t,PGs X tg t∧SGs X.K io c t g
section
variable {X:Cx}{io:List Nat}{c:Bool}{pos:Pos}{i:Nat}{x:Str}
noncomputable def dName(i:Nat):MGt:=λd δ k=>k (δ.set i (some (.fz d)))
noncomputable def Zxi(i:Nat):MGt:=λd δ k=>Zac d=true∧k (δ.set i (some (.fz d)))
theorem Rel.putD{C:MC G}{H:Hp}{σ:St}{δ:Zf}{fp:Fp}{ex:Addr->Prop}{v:V}{d:Xa}(R:Rel C io H σ δ fp ex)(hio:i∉io)(q:Da G H (Lf C fp ex) v d) :
  ∃fp',Rel C io H (σ.set i (some v)) (δ.set i (some (.fz d))) fp' ex∧Kp H fp H fp':=by
 obtain⟨fp',R',g⟩:=(R.drop λa z=>Js.mp z).put (new:=[]) hio (.fz (q.wide λa l _=>⟨l.1,λz=>l.2.1 (Js.mp z),l.2.2⟩)) .nil (λa m=>nomatch m)
 exact⟨fp',R',λb o e _=>e,λz=>(nomatch z),λa z=>(g a z).imp id λz=>(nomatch z),λb e=>e⟩
theorem Z0a(hN:X.N.Nodup)(hi:X.N[i]? =some x:=by rfl)(hx:Loc X.env.scope x:=by first|exact Qw rfl|exact Qo rfl)(hio:i∉io:=by decide)(hf:X.fn x=true∨X.env.scope.names.lookup x=some .local:=by first|exact .inl rfl|exact .inr rfl|assumption):MG X io true (.Name x pos) (dName i) :=
 ⟨_,Zri hN hi hx hf,λC H σ δ fp ex v d k Q R q h kk=>by
  obtain⟨fp',R',k'⟩:=R.putD hio (q.wide λa l _=>l rfl)
  exact kk _ _ fp' R' k' h⟩
theorem Zu6(hN:X.N.Nodup)(hi:X.N[i]? =some x:=by rfl)(hx:Loc X.env.scope x:=by first|exact Qw rfl|exact Qo rfl)(hio:i∉io:=by decide)(hf:X.fn x=true∨X.env.scope.names.lookup x=some .local:=by first|exact .inl rfl|exact .inr rfl|assumption):MG X io c (.Name x pos) (Zxi i) :=
 ⟨_,Zri hN hi hx hf,λC H σ δ fp ex v d k Q R q h kk=>by
  obtain⟨fp',R',k'⟩:=R.putD hio (q.flat h.1)
  exact kk _ _ fp' R' k' h.2⟩
noncomputable def Yds:Zt1:=λds δ k=>ds=[]∧k δ
noncomputable def Z5w(g:MGt)(gs:Zt1):Zt1:=λds δ k=>match ds with|d :: r=>g d δ λδ'=>gs r δ' k|[]=>False
theorem Z0m:MGs X io c [] Yds:=⟨_,Z0t,λC H σ δ fp ex v d k Q R q h kk=>by
 obtain⟨rfl,h⟩:=h
 cases q
 exact⟨rfl,kk σ δ fp R (.refl _ _) h⟩⟩
theorem Rel.kp_das{C:MC G}{H H':Hp}{σ:St}{δ:Zf}{fp fp':Fp}{ex:Addr->Prop}{vs:List V}{ds:List Xa}(R:Rel C io H σ δ fp ex)(S:Kp H fp H' fp')(h:Das G H (Lf C fp ex) vs ds):Das G H' (Lf C fp' ex) vs ds:=by
 have S':Stp false H δ fp H' δ fp':=⟨S.keep,λz=>(nomatch z),S.grow,S.al⟩
 obtain⟨f1,f2⟩:=R.frameL (c:=true) (ex':=ex) S' (.inr rfl) λa z=>.inl z
 exact h.frame (λa xs l q=>⟨(f1 a xs (λ_=>l) q).1 rfl,(f1 a xs (λ_=>l) q).2⟩) f2
theorem Zm8{e:Expr}{es:List Expr}{g:MGt}{gs:Zt1}(h1:MG X io true e g)(h2:MGs X io true es gs)
  (hs:(Bs (e :: es) X.env).map (·.2)=assign e X.env :: (Bs es X.env).map (·.2):=by rfl):MGs X io true (e :: es) (Z5w g gs):=by
 obtain⟨_,A,s⟩:=h1
 obtain⟨_,B,s'⟩:=h2
 exact⟨_,Zuk A B hs,λC H σ δ fp ex v d k Q R q h kk=>by
  cases q with
  | nil=>exact h.elim
  | cons q qs=>
   refine⟨_,_,rfl,s C H σ δ fp ex _ _ _ _ R q h λσ1 δ1 fp1 R1 k1 h1=>?_⟩
   exact s' C H σ1 δ1 fp1 ex _ _ _ _ R1 ((R.kp_das k1 (qs.wide λa l _=>l rfl)).wide λa l _ _=>l) h1 λσ2 δ2 fp2 R2 k2 h2=>kk σ2 δ2 fp2 R2 (k1.trans k2) h2⟩
noncomputable def dTup(n:Nat)(gs:Zt1):MGt:=λd δ k=>match d with| .tuple ds=>ds.length=n∧gs ds δ k|_=>False
theorem Z4t{es:List Expr}{k:Nat}{gs:Zt1}{n:Nat}(hc:X.calm=true)(h:MGs X io c es gs)
  (hn:(Bs es X.env).length=n:=by rfl) (hst:(Bs es X.env).findIdx? (·.1)=none:=by rfl):MG X io c (.Tuple es k pos) (dTup n gs):=by
 obtain⟨_,A,s⟩:=h
 exact⟨_,Z5y hc A hn hst,λC H σ δ fp ex v d k Q R q h kk=>by
  cases q with
  | tup e qs=>exact⟨_,_,rfl,.inl (.inl e),by rw[qs.length];exact h.1,s C H σ δ fp ex _ _ _ _ R qs h.2 kk⟩
  | _=>exact h.elim⟩
end
variable {G:Xc}
noncomputable def IterOk(C:MC G)(fp:Fp)(ex:Addr->Prop)(H1:Hp)(c:Bool)(J:It)(ds:List Xa):Prop:=∀H':Hp,(∀b o,H1 b=some o->(c=false∨¬Foot fp b)->H' b=some o)->∀i:Nat,
 (∀ d,ds[i]? =some d->J.go i H'∧∀x H'',J.yld i H' x H''->Same H' H''∧Da G H'' (λa=>c=true->(Lf C fp ex a∧H1 a≠none)) x d)∧(ds[i]? =none->J.stop i H')
noncomputable abbrev MIt:=Zf->(List Xa->Zf->Prop)->Prop
noncomputable def SI(G:Xc)(io:List Nat)(p c:Bool)(t:TI)(m:MIt):Prop:=∀(C:MC G) (H:Hp) (σ:St) (δ:Zf) (fp:Fp) (ex:Addr->Prop) (K:List Xa->Zf->Prop) (Q:It->Hp->Prop),Rel C io H σ δ fp ex->m δ K ->
 (∀ J H1 ds δ1 fp1,Rel C io H1 σ δ1 fp1 ex->Stp p H δ fp H1 δ1 fp1->IterOk C fp1 ex H1 c J ds->K ds δ1->Q J H1)->t σ H Q
noncomputable def MI(X:Cx)(io:List Nat)(p c:Bool)(tg iter:Expr)(m:MIt):Prop:=∃t,PI X tg iter t∧SI X.K io p c t m
section
variable {X:Cx}{io:List Nat}{p c:Bool}{e a b tg:Expr}{m:MEt}{mr:MAt}{K:Xc}
noncomputable def iL(m:MEt):MIt:=λδ K=>m δ λr δ'=>match r.data with| .list ds=>K ds δ'|_=>False
theorem Rel.kept{C:MC G}{H H':Hp}{σ:St}{δ:Zf}{fp:Fp}{ex:Addr->Prop}(R:Rel C io H σ δ fp ex)(kp:∀b o,H b=some o->(c=false∨¬Foot fp b)->H' b=some o) :
  (∀ a (xs:MuO),(c=true->Lf C fp ex a)->Rd H a xs.ho->(c=true->(Lf C fp ex a∧H a≠none))∧Rd H' a xs.ho)∧(∀a (xs:ImO),H a=some xs.ho->H' a=some xs.ho):=by
 refine⟨λa xs l q=>⟨λhc=>⟨l hc,q.some⟩,?_⟩,λa xs q=>kp a _ q (.inr λz=>?_)⟩
 ·have hk:c=false∨¬Foot fp a:=by
   cases c with
   | false=>exact .inl rfl
   | true=>exact .inr (l rfl).1
  rcases q with q|⟨o,q⟩
  ·exact .inl (kp a _ q hk)
  ·exact .inr ⟨o,kp a _ q hk⟩
 ·obtain⟨ys,e⟩:=R.foot z
  exact ImO.nm q e
theorem Z0e(h:ME X io p c e m):MI X io p c tg e (iL m):=by
 obtain⟨_,A,s⟩:=h
 exact⟨_,Zt7 rfl A,λC H σ δ fp ex K' Q R h kk=>s C H σ δ fp ex _ _ R h λH1 v r δ1 fp1 new r1 h1=>by
  have q:=r1.da R
  generalize r.data=d at q h1
  cases q with
  | lst l e qs=>
   refine⟨_,rfl,⟨_,.inl e⟩,kk _ H1 _ δ1 fp1 r1.base r1.stp (λH' kp i=>?_) h1⟩
   obtain⟨f1,f2⟩:=r1.base.kept kp
   have e':=(f1 _ (.lst _) l e).2
   have qs':=qs.frame f1 f2
   refine⟨λd hd=>?_,λhd=>?_⟩
   ·obtain⟨x,hx,qx⟩:=qs'.get hd
    refine⟨⟨_,x,.inl e',hx⟩,λy H'' hy=>?_⟩
    obtain⟨rfl,hy⟩:=hy
    have:=hy _ (.inl e')
    rw[hx]at this
    cases this
    exact⟨Same.refl _,qx⟩
   ·exact⟨_,.inl e',by rw[qs'.length];exact QD.mp hd⟩
  | scr ks=>
   refine⟨_,rfl,⟨_,ks.sq⟩,kk _ H1 _ δ1 fp1 r1.base r1.stp (λH' kp i=>?_) h1⟩
   refine⟨λd hd=>?_,λhd=>?_⟩
   ·obtain⟨x,hx,qx⟩:=(Das.ints (G:=X.K) (H:=H') (L:=λa=>c=true->(Lf C fp1 ex a∧H1 a≠none)) _).get hd
    refine⟨⟨_,x,ks.sq,hx⟩,λy H'' hy=>?_⟩
    obtain⟨rfl,hy⟩:=hy
    have:=hy _ ks.sq
    rw[hx]at this
    cases this
    exact⟨Same.refl _,qx⟩
   ·refine⟨_,ks.sq,?_⟩
    have:=QD.mp hd
    simpa using this
  | _=>exact h1.elim⟩
noncomputable def Ze5(lo:Int)(n:Nat):List Xa:=(Xi n).map λ(i:Nat)=>Xx (lo+(i:Int))
@[simp] theorem Ys(lo:Int)(n:Nat):(Ze5 lo n).length=n:=by simp[Ze5]
theorem W5{lo:Int}{n i:Nat}{d:Xa}(h:(Ze5 lo n)[i]? =some d):i<n∧d= .int (lo+i):=by
 have hi:i<n:=by
  have:=(Xn.mp h).1
  simpa using this
 unfold Ze5 at h
 rw[Xl,QM hi]at h
 cases h
 exact⟨hi,rfl⟩
theorem Znj{C:MC G}{fp:Fp}{ex:Addr->Prop}{H1:Hp}{lo:Int}{n:Nat}:IterOk C fp ex H1 true (Itr lo n) (Ze5 lo n):=λH' _ i=>by
 refine⟨λd hd=>?_,λhd=>?_⟩
 ·obtain⟨hi,rfl⟩:=W5 hd
  refine⟨hi,λx H'' hy=>?_⟩
  obtain⟨rfl,rfl⟩:=hy
  exact⟨Same.refl _,.int _⟩
 ·have:=QD.mp hd
  show n≤i
  simpa using this
noncomputable def iR1(mr:MAt):MIt:=λδ K=>mr δ λrs δ'=>match OT.datas rs with|[.int j]=>(-(2^62)≤j∧j<2^62)∧K (Ze5 0 j.toNat) δ'|_=>False
noncomputable def iR2(mr:MAt):MIt:=λδ K=>mr δ λrs δ'=>match OT.datas rs with|[.int i,.int j]=>(-(2^62)≤i∧i<2^62∧-(2^62)≤j∧j<2^62)∧K (Ze5 i (j-i).toNat) δ'|_=>False
theorem Z3{p' pos:Pos}(hg:Gl X "range")(hm:X.mg "range"=none)(ha:MA X io p c [a] mr)(hs:Xu [a] X.env=[(false,eval a X.env)]:=by rfl):MI X io p true tg (.Call (.Name "range" p') [a] [] pos) (iR1 mr):=by
 obtain⟨_,A,s⟩:=ha
 exact⟨_,Zql hg hm A hs,λC H σ δ fp ex K' Q R h kk=>s C H σ δ fp ex _ _ R h λH1 vs rs δ1 fp1 new r1 h1=>by
  have q:=r1.das R
  generalize OT.datas rs=d at q h1
  split at h1
  case h_2=>exact h1.elim
  cases q with
  | cons q1 q2=>
   cases q1
   cases q2
   exact⟨_,rfl,h1.1.1,h1.1.2,kk _ H1 _ δ1 fp1 r1.base r1.stp Znj h1.2⟩⟩
theorem Zf8{p' pos:Pos}(hg:Gl X "range")(hm:X.mg "range"=none)(ha:MA X io p c [a,b] mr)(hs:Xu [a,b] X.env=[(false,eval a X.env),(false,eval b X.env)]:=by rfl)(hs2:Xu [b] X.env=[(false,eval b X.env)]:=by rfl):MI X io p true tg (.Call (.Name "range" p') [a,b] [] pos) (iR2 mr):=by
 obtain⟨_,A,s⟩:=ha
 exact⟨_,Zpj hg hm A hs hs2,λC H σ δ fp ex K' Q R h kk=>s C H σ δ fp ex _ _ R h λH1 vs rs δ1 fp1 new r1 h1=>by
  have q:=r1.das R
  generalize OT.datas rs=d at q h1
  split at h1
  case h_2=>exact h1.elim
  cases q with
  | cons q1 q2=>
   cases q1
   cases q2 with
   | cons q2 q3=>
    cases q2
    cases q3
    exact⟨_,_,rfl,h1.1,kk _ H1 _ δ1 fp1 r1.base r1.stp Znj h1.2⟩⟩
theorem IterOk.at{C:MC G}{fp fp':Fp}{ex:Addr->Prop}{H1 H' H'':Hp}{J:It}{ds:List Xa}{x:V}{d:Xa}(g:∀a,Foot fp' a->Foot fp a∨H1 a=none)(h:Da G H'' (λa=>true=true->(Lf C fp ex a∧H1 a≠none)) x d):Da G H'' (λa=>true=true->Lf C fp' ex a) x d :=
 h.wide λa l _ z=>⟨λw=>(g a w).elim (l z).1.1 (l z).2,(l z).1.2.1,(l z).1.2.2⟩
noncomputable def Ybx(ds:List Xa)(g:MGt)(u:MSt)(D:Zhd)(δ1:Zf):Prop:=∃I:Nat->Zf->Prop,I 0 δ1∧(∀(i:Nat) (d:Xa) (δ':Zf),ds[i]? =some d->I i δ'->g d δ' λδ2=>u { D with nx:=I (i+1),ct:=I (i+1),bk:=D.nx } δ2)∧∀δ',I ds.length δ'->D.nx δ'
noncomputable def Ydy(mi:MIt)(g:MGt)(u:MSt):MSt:=λD δ=>mi δ λds δ1=>Ybx ds g u D δ1
theorem Rel.mk0{C:MC G}{H H':Hp}{σ:St}{δ:Zf}{fp:Fp}{ex:Addr->Prop}(R:Rel C io H σ δ fp ex)(s:Same H H'):Rel C io H' σ δ fp ex:=(R.made (new:=[]) s λa m=>nomatch m).drop λa z=>.inl z
theorem Z6m{iter:Expr}{body:List Stmt}{mi:MIt}{g:MGt}{u:MSt}{pos:Pos}(hp:PassesOwn (XR X.prog X.w) X.A X.env X.xe)(hc:X.calm=true)(hi:MI X io p true tg iter mi)(hg:MG X io true tg g)(hb:MSs X io body u)
  (hs:∀x,Vk iter X.env x=pure x:=by intro _;rfl):MS X io (.For tg iter body [] pos) (Ydy mi g u):=by
 obtain⟨_,A,s⟩:=hi
 obtain⟨_,G,sg⟩:=hg
 obtain⟨_,B,sb⟩:=hb
 refine⟨_,Z5b hp hc A G B hs,λC H σ δ fp ex D D' R h E=>s C H σ δ fp ex _ _ R h λJ H1 ds δ1 fp1 R1 S1 it h1=>?_⟩
 obtain⟨I,h0,turn,fin⟩:=h1
 refine⟨λi n σ' H'=>n=ds.length-i∧i≤ds.length∧∃δ' fp',Rel C io H' σ' δ' fp' ex∧Kp H1 fp1 H' fp'∧I i δ',⟨ds.length,rfl,Qy _,δ1,fp1,R1,.refl _ _,h0⟩,?_⟩
 rintro i n σ2 H2 ⟨rfl,hle,δ2,fp2,R2,k2,i2⟩
 have itk:=it H2 (λb o e q=>k2.keep b o e (.inr (q.resolve_left (by decide)))) i
 by_cases hlt:i<ds.length
 ·have hd:ds[i]? =some ds[i]:=Xk hlt
  obtain⟨go,yl⟩:=itk.1 _ hd
  refine .inr ⟨go,λσ' H'=>∃δ' fp',Rel C io H' σ' δ' fp' ex∧Kp H1 fp1 H' fp'∧I (i+1) δ',λσ' H' ⟨δ',fp',R',k',i'⟩=>⟨ds.length-(i+1),by omega,rfl,hlt,δ',fp',R',k',i'⟩,λx H3 hy=>?_⟩
  obtain⟨s3,q3⟩:=yl x H3 hy
  have R3:=R2.mk0 s3
  have k3:Kp H1 fp1 H3 fp2:=k2.trans ⟨λb o e _=>s3 _ _ e,λz=>(nomatch z),λa z=>.inl z,s3.al⟩
  refine sg C H3 σ2 δ2 fp2 ex x _ _ _ R3 (IterOk.at (H':=H2) (J:=J) (ds:=ds) k2.grow q3) (turn i _ δ2 hd i2) λσ4 δ4 fp4 R4 k4 h4=>?_
  have k5:=k3.trans k4
  refine sb C H3 σ4 δ4 fp4 ex _ _ R4 h4 ⟨λH' σ' δ' fp' R' k' n'=>⟨δ',fp',R',k5.trans k',n'⟩,λH' σ' δ' fp' R' k' n'=>E.nx H' σ' δ' fp' R' (S1.kp.trans (k5.trans k')) n',λH' σ' δ' fp' R' k' n'=>⟨δ',fp',R',k5.trans k',n'⟩,E.rt⟩
 ·have e:i=ds.length:=by omega
  subst e
  exact .inl ⟨itk.2 (by simp),E.nx H2 σ2 δ2 fp2 R2 (S1.kp.trans k2) (fin δ2 i2)⟩
end
noncomputable def gM(G:Xc)(io:List Nat)(c:Bool)(g:MGt):TG:=λv σ H Q=>∃(C:MC G) (δ:Zf) (fp:Fp) (ex:Addr->Prop) (d:Xa) (k:Zf->Prop),Rel C io H σ δ fp ex∧Da G H (λa=>c=true->Lf C fp ex a) v d∧g d δ k∧
 ∀σ' δ' fp',Rel C io H σ' δ' fp' ex->Kp H fp H fp'->k δ'->Q σ' H
noncomputable def tM(G:Xc)(io:List Nat)(p c:Bool)(m:MEt):TE:=λσ H Q=>∃(C:MC G) (δ:Zf) (fp:Fp) (ex:Addr->Prop) (K:OT->Zf->Prop),Rel C io H σ δ fp ex∧m δ K∧∀H' v r δ' fp' new,RE C io p c H σ δ fp ex H' v r δ' fp' new->K r δ'->Q v H'
noncomputable def ttM(G:Xc)(io:List Nat)(p:Bool)(m:MTt):TT:=λσ H Q=>∃(C:MC G) (δ:Zf) (fp:Fp) (ex:Addr->Prop) (K:Bool->Zf->Prop),Rel C io H σ δ fp ex∧m δ K∧∀H' b δ' fp',Rel C io H' σ δ' fp' ex->Stp p H δ fp H' δ' fp'->K b δ'->Q b H'
noncomputable def MIfs(X:Cx)(io:List Nat)(p:Bool)(ifs:List Expr)(m:MTt):Prop:=∃t,Z01 X ifs t∧STt X.K io p t m
section
variable {X:Cx}{io:List Nat}{p c:Bool}{e tg:Expr}{m:MEt}{mt:MTt}{g:MGt}{ifs:List Expr}
theorem MG.canon(h:MG X io c tg g):PG X tg (gM X.K io c g):=by
 obtain⟨t,A,s⟩:=h
 rintro pins sh σ H v u Q I r ⟨C,δ,fp,ex,d,k,R,q,h,kk⟩
 exact A pins sh σ H v u Q I r (s C H σ δ fp ex v d k Q R q h kk)
theorem ME.canon(h:ME X io p c e m):PE X e (tM X.K io p c m):=by
 obtain⟨t,A,s⟩:=h
 rintro pins sh σ H Q I ⟨C,δ,fp,ex,K,R,h,kk⟩
 exact A pins sh σ H Q I (s C H σ δ fp ex K Q R h kk)
theorem MIfs.canon(h:MIfs X io p ifs mt):Z01 X ifs (ttM X.K io p mt):=by
 obtain⟨t,A,s⟩:=h
 rintro pins sh σ H Q I ⟨C,δ,fp,ex,K,R,h,kk⟩
 exact A pins sh σ H Q I (s C H σ δ fp ex K Q R h kk)
noncomputable def Z5p:MTt:=λδ K=>K true δ
theorem Wv:MIfs X io true [] Z5p:=⟨_,Z1p,λC H σ δ fp ex K Q R h kk=>kk H true δ fp R (.refl _ _ _ _) h⟩
theorem Zfo{cnd:Expr}(h:MT X io p cnd mt):MIfs X io p [cnd] mt:=by
 obtain⟨_,A,s⟩:=h
 exact⟨_,Zzt A,s⟩
end
variable {G:Xc}
noncomputable def blk(n:Nat)(caps:List Nat)(δ:Zf):Zf:=X4 n none ++ caps.map λi=>(δ[i]?).getD none
noncomputable def W0(n:Nat)(caps:List Nat)(fp:Fp):Fp:=λk=>if k<n then[]else match caps[k-n]? with|some i=>fp i|none=>[]
noncomputable def Zbd(n:Nat)(caps:List Nat):List Nat:=(Xi caps.length).map (·+n)
noncomputable def Zx1(C:MC G)(H1:Hp)(fp:Fp)(σ0:St):MC G:=⟨H1,Foot fp,λa=>(C.L a∨C.H₀ a=none)∧¬Foot fp a,σ0⟩
noncomputable def Ze9(ex:Addr->Prop)(D:Addr)(fp fpb:Fp)(a:Addr):Prop:=ex a∨a=D∨(Foot fp a∧¬Foot fpb a)
section
variable {C:MC G}{io:List Nat}{H1 H':Hp}{σ:St}{δ:Zf}{fp:Fp}{ex:Addr->Prop}{own:List Str}{caps:List Nat}{D:Addr}{n:Nat}
theorem Zb5{k:Nat}{a:Addr}(h:a∈W0 n caps fp k):∃i,n≤k∧caps[k-n]? =some i∧a∈fp i:=by
 unfold W0 at h
 split at h
 ·exact nomatch h
 ·split at h
  ·rename_i i e
   exact⟨i,by omega,e,h⟩
  ·exact nomatch h
theorem Zvx{j i:Nat}(h:caps[j]? =some i):W0 n caps fp (n+j)=fp i:=by
 unfold W0
 rw[if_neg (by omega),show n+j-n=j by omega,h]
theorem Z8e{k:Nat}{t:OT}(h:(blk n caps δ)[k]? =some (some t)):∃i,n≤k∧caps[k-n]? =some i∧δ[i]? =some (some t):=by
 unfold blk at h
 rw[List.getElem?_append]at h
 split at h
 ·rw[List.getElem?_replicate]at h
  split at h<;>cases h
 ·rename_i hk
  rw[Vb]at hk h
  rw[Xl]at h
  cases e:caps[k-n]? with
  | none=>rw[e]at h;cases h
  | some i=>
   rw[e]at h
   refine⟨i,by omega,rfl,?_⟩
   simp only[Option.map_some]at h
   cases e2:δ[i]? with
   | none=>rw[e2]at h;cases h
   | some o=>
    rw[e2]at h
    simpa using h
theorem Rel.block(R:Rel C io H1 σ δ fp ex)(nd:caps.Nodup)(hD:H1 D=none) :
  Rel (Zx1 C H1 fp (Jf own caps σ)) (Zbd own.length caps) (upd H1 D (.lst [])) (Jf own caps σ) (blk own.length caps δ) (W0 own.length caps fp) (Ze9 ex D fp (W0 own.length caps fp)):=by
 have s:=Zz hD (.lst [])
 have sub:∀a,Foot (W0 own.length caps fp) a->Foot fp a:=λa q91=>by
  obtain⟨k,z⟩:=q91
  obtain⟨i,_,_,z⟩:=Zb5 z
  exact⟨i,z⟩
 have neD:∀a,H1 a≠none->a≠D:=λa h z=>h (z▸hD)
 refine⟨by unfold Jf blk;simp,λk t e=>?_,λk h=>?_,λk=>?_,λk l a h1 h2=>?_,λk a h z=>?_,λa z=>?_,λb o e _=>s _ _ e,λb e=>s.free e,λk a h=>?_,λk _=>rfl⟩
 ·obtain⟨i,hk,e1,e2⟩:=Z8e e
  obtain⟨v,e3,o⟩:=R.own i t e2
  refine⟨v,?_,?_⟩
  ·unfold Jf
   rw[BX (by simpa using hk),Xd,Xl,e1]
   simp[e3]
  ·have ef:W0 own.length caps fp k=fp i:=by
    have:=Zvx (n:=own.length) (fp:=fp) e1
    rwa[show own.length+(k-own.length)=k by omega]at this
   rw[ef]
   refine(o.wide λa l q=>⟨λz=>l.1 (sub a z),λz=>?_,.inl ⟨l.2.2,l.1⟩⟩).same s
   rcases z with z|z|z
   ·exact l.2.1 z
   ·exact neD a q z
   ·exact l.1 z.1
 ·unfold W0
  split
  ·rfl
  ·split
   ·rename_i i e1
    refine R.emp i λt z=>h t ?_
    unfold blk
    rw[BX (by rw[Vb];omega),Vb,Xl,e1]
    simp[z]
   ·rfl
 ·unfold W0
  split
  ·exact .nil
  ·split
   ·exact R.nd _
   ·exact .nil
 ·obtain⟨i,hk,e1,m1⟩:=Zb5 h1
  obtain⟨j,hl,e2,m2⟩:=Zb5 h2
  have:=R.dj i j a m1 m2
  subst this
  have hlt:=(Xn.mp e1).1
  have:=(List.getElem?_inj hlt nd).mp (e1.trans e2.symm)
  omega
 ·obtain⟨i,hk,e1,m⟩:=Zb5 h
  rcases z with z|z|z
  ·exact R.dx i a m z
  ·exact R.footSome (z▸hD) ⟨i,m⟩
  ·exact z.2 ⟨k,h⟩
 ·rcases z with z|z|z
  ·intro q;exact R.xa a z (s.free q)
  ·subst z;rw[Zr];intro q;cases q
  ·obtain⟨xs,e⟩:=R.foot z.1
   rw[s _ _ e];intro q;cases q
 ·obtain⟨i,hk,e1,m⟩:=Zb5 h
  refine .inl ⟨?_,⟨i,m⟩⟩
  have:=(Xn.mp e1).1
  exact XX.mpr ⟨k-own.length,by simpa using this,by omega⟩
theorem Z46{σ0:St}{fp':Fp}{ex':Addr->Prop}{a:Addr}(hx:∀a,ex a->ex' a)(l:Lf (Zx1 C H1 fp σ0) fp' ex' a):Lf C fp ex a∨H1 a=none:=by
 obtain⟨l1,l2,l3⟩:=l
 rcases l3 with l3|l3
 ·exact .inl ⟨l3.2,λz=>l2 (hx a z),l3.1⟩
 ·exact .inr l3
theorem Rel.poke(R:Rel C io H' σ δ fp ex){xs ys:List V}(hx:ex D)(hD:H' D=some (.lst xs))(h0:C.H₀ D=none):Rel C io (upd H' D (.lst ys)) σ δ fp ex:=by
 have nf:¬Foot fp D:=λ⟨i,z⟩=>R.dx i D z hx
 have kp:∀b o,b≠D->H' b=some o->upd H' D (.lst ys) b=some o:=λb o n e=>by rw[Zn n];exact e
 refine⟨R.len,λi t e=>?_,R.emp,R.nd,R.dj,R.dx,λa z=>?_,λb o e n=>?_,λb e=>?_,R.new,R.io⟩
 ·obtain⟨v,e1,o⟩:=R.own i t e
  refine⟨v,e1,o.frame (λa zs l q=>⟨l,?_⟩) (λa zs q=>kp a _ (λz=>?_) q) λa m zs q=>kp a _ (λz=>nf ⟨i,z▸m⟩) q⟩
  ·have na:a≠D:=λz=>l.2.1 (z▸hx)
   rcases q with q|⟨u,q⟩
   ·exact .inl (kp a _ na q)
   ·exact .inr ⟨u,kp a _ na q⟩
  ·exact ImO.nl q (z▸hD)
 ·by_cases e:a=D
  ·subst e;rw[Zr];intro q;cases q
  ·rw[Zn e];exact R.xa a z
 ·refine kp b o (λz=>?_) (R.fr b o e n)
  rw[z,h0]at e;cases e
 ·refine R.al b ?_
  by_cases q:b=D
  ·subst q;rw[Zr]at e;cases e
  ·rwa[Zn q]at e
theorem Owns.poke{L:Addr->Prop}{xs ys zs:List V}{rs:List OT}{as:List Addr}(o:Owns G H' L zs rs as)(hD:H' D=Bp (HO.lst xs))(hL:¬L D)(hn:D∉as):Owns G (upd H' D (.lst ys)) L zs rs as:=by
 refine o.frame (λa zs l q=>⟨l,?_⟩) (λa zs q=>?_) λa m zs q=>?_
 ·have na:a≠D:=λz=>hL (z▸l)
  rcases q with q|⟨u,q⟩
  ·exact .inl (by rw[Zn na];exact q)
  ·exact .inr ⟨u,by rw[Zn na];exact q⟩
 ·rw[Zn (λz=>ImO.nl q (z▸hD))];exact q
 ·have na:a≠D:=λz=>hn (by rw[←z];exact m)
  rw[Zn na];exact q
theorem Owns.snoc{L:Addr->Prop}{xs:List V}{rs:List OT}{as bs:List Addr}{x:V}{r:OT}(h:Owns G H' L xs rs as)(k:Own G H' L x r bs):Owns G H' L (xs ++ [x]) (rs ++ [r]) (as ++ bs) :=
 Owns.rec (motive_1:=λ_ _ _ _=>True) (motive_2:=λxs rs as _=>Owns G H' L (xs ++ [x]) (rs ++ [r]) (as ++ bs)) (λ_=>trivial) (λ_ _ _=>trivial) (λ_ _ _=>trivial) (λ_ _ _=>trivial) (by have:=Owns.cons k .nil;rwa[Qk]at this) (λk _ _ ih=>by rw[QB];exact .cons k ih) h
end
structure Zya(C:MC G)(H1:Hp)(fp1:Fp)(ex:Addr->Prop)(n:Nat)(caps:List Nat)(σ0:St)(D:Addr)(pb:Bool)(H':Hp)(σ':St)(δ':Zf)(fp':Fp)(ys:List V)(rs:List OT)(new:List Addr):Prop where
 keep:∀b o,H1 b=some o->(pb=true∨¬Foot (W0 n caps fp1) b)->H' b=some o
 al:∀b,H' b=none->H1 b=none
 dat:H' D=some (.lst ys)
 rel:Rel (Zx1 C H1 fp1 σ0) (Zbd n caps) H' σ' δ' fp' (exu (Ze9 ex D fp1 (W0 n caps fp1)) new)
 grow:∀a,Foot fp' a->Foot (W0 n caps fp1) a∨H1 a=none
 own:Owns G H' (λa=>true=true->Lf (Zx1 C H1 fp1 σ0) fp' (exu (Ze9 ex D fp1 (W0 n caps fp1)) new) a) ys rs new
 nd:new.Nodup
 fresh:∀a∈new,H1 a=none∧a≠D
section
variable {io:List Nat}{p c pt pe ci:Bool}{g:MGt}{mt:MTt}{me:MEt}{own:List Str}{caps:List Nat}
theorem Zrf{C:MC G}{H1:Hp}{σ:St}{δ1:Zf}{fp1:Fp}{ex:Addr->Prop}{J:It}{ds:List Xa}{D:Addr}{Qf:Hp->Prop}(I:Nat->List OT->Zf->Prop)(R1:Rel C io H1 σ δ1 fp1 ex)
  (it:∀H':Hp,(∀b o,H1 b=some o->((pt&&pe)=true∨¬Foot (W0 own.length caps fp1) b)->H' b=some o)->∀i:Nat,(∀d,ds[i]? =some d->J.go i H'∧∀x H'',J.yld i H' x H''->Same H' H''∧Da G H'' (λa=>ci=true->(Lf C fp1 ex a∧H1 a≠none)) x d)∧(ds[i]? =none->J.stop i H'))
  (nd:caps.Nodup) (hD:H1 D=none) (hz:ds.length≤Xq) (h0:I 0 [] (blk own.length caps δ1))
  (turn:∀(i:Nat) (d:Xa) (rs:List OT) (δ':Zf),ds[i]? =some d->I i rs δ'->g d δ' λδ2=>mt δ2 λb δ3=>if b=true then me δ3 λr δ4=>I (i+1) (rs ++ [r]) δ4 else I (i+1) rs δ3)
  (fin:∀H' σ' δ' fp' ys rs new,Zya C H1 fp1 ex own.length caps (Jf own caps σ) D (pt&&pe) H' σ' δ' fp' ys rs new->I ds.length rs δ'->Qf H') :
  Z1c J (gM G (Zbd own.length caps) ci g) (ttM G (Zbd own.length caps) pt mt) (tM G (Zbd own.length caps) pe true me) (Jf own caps σ) D Qf H1:=by
 have hx:Ze9 ex D fp1 (W0 own.length caps fp1) D:=.inr (.inl rfl)
 refine⟨λi n σ' H'=>n=ds.length-i∧i≤ds.length∧∃rs ys new δ' fp',Zya C H1 fp1 ex own.length caps (Jf own caps σ) D (pt&&pe) H' σ' δ' fp' ys rs new∧ys.length≤i∧I i rs δ',⟨ds.length,rfl,Qy _,[],[],[],_,_,⟨λb o e _=>Zz hD _ _ _ e,(Zz hD _).al,Zr,?_,λa z=>.inl z,.nil,.nil,λa m=>(nomatch m)⟩,Xz _,h0⟩,?_⟩
 ·exact(R1.block nd hD).drop λa z=>Js.mp z
 rintro i n σ2 H2 ⟨rfl,hle,rs,ys,new,δ2,fp2,B,hl,i2⟩
 have subB:∀b,Foot (W0 own.length caps fp1) b->Foot fp1 b:=λb q92=>by
  obtain⟨k,z⟩:=q92
  obtain⟨i,_,_,z⟩:=Zb5 z
  exact⟨i,z⟩
 have itk:=it H2 B.keep i
 by_cases hlt:i<ds.length
 case neg=>
  have e:i=ds.length:=by omega
  subst e
  exact .inl ⟨itk.2 (by simp),fin H2 σ2 δ2 fp2 ys rs new B i2⟩
 have hd:ds[i]? =some ds[i]:=Xk hlt
 obtain⟨go,yl⟩:=itk.1 _ hd
 refine .inr ⟨go,λx H3 hy=>?_⟩
 obtain⟨s3,q3⟩:=yl x H3 hy
 have R3:=B.rel.mk0 s3
 have D3:H3 D=some (.lst ys):=s3 _ _ B.dat
 -- the item,clean in the block
 have q3':Da G H3 (λa=>ci=true->Lf (Zx1 C H1 fp1 (Jf own caps σ)) fp2 (exu (Ze9 ex D fp1 (W0 own.length caps fp1)) new) a) x ds[i]:=by
  refine q3.wide λa l _ z=>?_
  obtain⟨⟨l1,l2,l3⟩,l4⟩:=l z
  refine⟨λw=>?_,λw=>?_,.inl ⟨l3,l1⟩⟩
  ·rcases B.grow a w with w|w
   ·exact l1 (subB a w)
   ·exact l4 w
  ·rcases w with(w|w|w)|w
   ·exact l2 w
   ·subst w;exact l4 hD
   ·exact l1 w.1
   ·exact l4 (B.fresh a w).1
 refine⟨_,δ2,fp2,_,_,_,R3,q3',turn i _ rs δ2 hd i2,λσ4 δ4 fp4 R4 k4 h4=>?_⟩
 refine⟨_,δ4,fp4,_,_,R4,h4,λH5 b δ5 fp5 R5 S5 h5=>?_⟩
 -- the state behind the test
 have keep5:∀b o,H1 b=some o->((pt&&pe)=true∨¬Foot (W0 own.length caps fp1) b)->H5 b=some o:=λb o e q=>by
  refine S5.keep b o (s3 _ _ (B.keep b o e q)) ?_
  rcases q with q|q
  ·rw[XJ]at q;exact .inl q.1
  ·refine .inr λz=>?_
   rcases k4.grow b z with z|z
   ·rcases B.grow b z with z|z
    ·exact q z
    ·rw[e]at z;cases z
   ·rw[s3 _ _ (B.keep b o e (.inr q))]at z;cases z
 have al5:∀b,H5 b=none->H1 b=none:=λb e=>B.al b (s3.al b (S5.al b e))
 have grow4:∀a,Foot fp4 a->Foot (W0 own.length caps fp1) a∨H1 a=none:=λa z=>by
  rcases k4.grow a z with z|z
  ·exact B.grow a z
  ·exact .inr (B.al a (s3.al a z))
 have grow5:∀a,Foot fp5 a->Foot (W0 own.length caps fp1) a∨H1 a=none:=λa z=>by
  rcases S5.grow a z with z|z
  ·exact grow4 a z
  ·exact .inr (B.al a (s3.al a z))
 have D5:H5 D=some (.lst ys):=S5.keep D _ D3 (.inr λ⟨k,z⟩=>R4.dx k D z (.inl hx))
 have own3:=B.own.same s3
 -- the items so far behind the target and the test
 have own4:Owns G H3 (λa=>true=true->Lf (Zx1 C H1 fp1 (Jf own caps σ)) fp4 (exu (Ze9 ex D fp1 (W0 own.length caps fp1)) new) a) ys rs new:=by
  refine own3.wide λa l q z=>?_
  obtain⟨l1,l2,l3⟩:=l z
  exact⟨λw=>(k4.grow a w).elim l1 q,l2,l3⟩
 have own5:=R4.owns_step (ex':=exu (Ze9 ex D fp1 (W0 own.length caps fp1)) new) S5 (c:=true) (.inr rfl) (λa z=>.inl z) (λa m=>.inr m) own4
 dsimp only at h5⊢
 cases b with
 | false=>
  rw[if_neg Xv]at h5⊢
  exact⟨ds.length-(i+1),by omega,rfl,hlt,rs,ys,new,δ5,fp5,⟨keep5,al5,D5,R5,grow5,own5,B.nd,B.fresh⟩,by omega,h5⟩
 | true=>
  rw[if_pos rfl]at h5⊢
  refine⟨_,δ5,fp5,_,_,R5,h5,λH6 v r δ6 fp6 nr r6 h6=>?_⟩
  have D6:H6 D=some (.lst ys):=r6.stp.keep D _ D5 (.inr λ⟨k,z⟩=>R5.dx k D z (.inl hx))
  have hDnr:D∉nr:=λz=>by
   have:=r6.fresh D z
   rw[D5]at this;cases this
  have own6:=R5.owns_step (ex':=exu (exu (Ze9 ex D fp1 (W0 own.length caps fp1)) new) nr) r6.stp (c:=true) (.inr rfl) (λa z=>z.imp id λz=>r6.fresh a z) (λa m=>.inr m) own5
  have eqx:∀a,exu (Ze9 ex D fp1 (W0 own.length caps fp1)) (new ++ nr) a->exu (exu (Ze9 ex D fp1 (W0 own.length caps fp1)) new) nr a:=λa z=>by
   rcases z with z|z
   ·exact .inl (.inl z)
   ·rcases X8.mp z with z|z
    ·exact .inl (.inr z)
    ·exact .inr z
  have lw:∀a,(true=true->Lf (Zx1 C H1 fp1 (Jf own caps σ)) fp6 (exu (exu (Ze9 ex D fp1 (W0 own.length caps fp1)) new) nr) a)->H6 a≠none->(true=true->Lf (Zx1 C H1 fp1 (Jf own caps σ)) fp6 (exu (Ze9 ex D fp1 (W0 own.length caps fp1)) (new ++ nr)) a) :=
   λa l _ z=>⟨(l z).1,λw=>(l z).2.1 (eqx a w),(l z).2.2⟩
  have ownA:=(own6.snoc r6.own).wide lw
  refine⟨ys,D6,by omega,ds.length-(i+1),by omega,rfl,hlt,rs ++ [r],ys ++ [v],new ++ nr,δ6,fp6,⟨λb o e q=>?_,λb e=>?_,Zr,?_,λa z=>?_,?_,?_,λa m=>?_⟩,by rw[XF];show ys.length+1≤i+1;omega,h6⟩
  ·have nD:b≠D:=λz=>by rw[z,hD]at e;cases e
   rw[Zn nD]
   refine r6.stp.keep b o (keep5 b o e q) ?_
   rcases q with q|q
   ·rw[XJ]at q;exact .inl q.2
   ·refine .inr λz=>?_
    rcases grow5 b z with z|z
    ·exact q z
    ·rw[e]at z;cases z
  ·by_cases q:b=D
   ·subst q;rw[Zr]at e;cases e
   ·rw[Zn q]at e
    exact al5 b (r6.stp.al b e)
  ·exact(r6.rel.drop eqx).poke (.inl hx) D6 hD
  ·rcases r6.stp.grow a z with z|z
   ·exact grow5 a z
   ·exact .inr (al5 a z)
  ·exact ownA.poke D6 (λz=>(z rfl).2.1 (.inl hx)) (λm=>by
    rcases X8.mp m with m|m
    ·exact(B.fresh D m).2 rfl
    ·exact hDnr m)
  ·refine JF.mpr ⟨B.nd,r6.nd,λa m b m' z=>?_⟩
   subst z
   obtain⟨xs,e⟩:=own5.some a m
   rw[r6.fresh a m']at e;cases e
  ·rcases X8.mp m with m|m
   ·exact B.fresh a m
   ·exact⟨al5 a (r6.fresh a m),λz=>hDnr (z▸m)⟩
end
variable {G:Xc}
section
variable {X:Cx}{io:List Nat}{p p' c pt pe ci:Bool}{g:MGt}{mt:MTt}{me m:MEt}{mi:MIt}{own:List Str}{caps:List Nat}{e:Expr}
noncomputable def Z8j(n:Nat)(caps:List Nat)(ds:List Xa)(g:MGt)(mt:MTt)(me:MEt)(δ1:Zf)(K:OT->Zf->Prop):Prop:=ds.length≤Xq∧∃I:Nat->List OT->Zf->Prop,I 0 [] (blk n caps δ1)∧
 (∀ (i:Nat) (d:Xa) (rs:List OT) (δ':Zf),ds[i]? =some d->I i rs δ'->g d δ' λδ2=>mt δ2 λb δ3=>if b=true then me δ3 λr δ4=>I (i+1) (rs ++ [r]) δ4 else I (i+1) rs δ3)∧
 ∀rs δ',I ds.length rs δ'->K (.nd rs) δ1
noncomputable def Zg1(n:Nat)(caps:List Nat)(mi:MIt)(g:MGt)(mt:MTt)(me:MEt):MEt:=λδ K=>mi δ λds δ1=>Z8j n caps ds g mt me δ1 K
theorem Z14{wi:TI}(si:SI G io p ci wi mi)(nd:caps.Nodup)(hp:(pt&&pe)=true) :
  SE G io p true (Z0i own caps wi (gM G (Zbd own.length caps) ci g) (ttM G (Zbd own.length caps) pt mt) (tM G (Zbd own.length caps) pe true me)) (Zg1 own.length caps mi g mt me):=by
 intro C H σ δ fp ex K Q R h k
 refine si C H σ δ fp ex _ _ R h λJ H1 ds δ1 fp1 R1 S1 it h1 D hD=>?_
 obtain⟨hz,I,h0,turn,fin⟩:=h1
 refine Zrf I R1 (λH' kp=>it H' λb o e _=>kp b o e (.inl hp)) nd hD hz h0 turn λH' σ' δ' fp' ys rs new B i'=>?_
 have s:Same H1 H':=λb o e=>B.keep b o e (.inl hp)
 refine k H' (.ref D) (.nd rs) δ1 fp1 (D :: new) (RE.tree R R1 S1 s (λa m=>?_) (X6.mpr ⟨λm=>(B.fresh D m).2 rfl,B.nd⟩) (.nd B.dat (B.own.wide λa l _=>?_))) (fin rs δ' i')
 ·rcases Xp.mp m with rfl|m
  ·exact hD
  ·exact(B.fresh a m).1
 ·refine⟨?_,λm=>?_⟩
  ·rcases Z46 (λa z=>.inl (.inl z)) (l rfl)with z|z
   ·exact .inl λ_=>z
   ·exact .inr z
  ·rcases Xp.mp m with z|z
   ·exact(l rfl).2.1 (.inl (.inr (.inl z)))
   ·exact(l rfl).2.1 (.inr z)
variable {N':List Str}{sc:U5}{tg elt iter:Expr}{ifs:List Expr}{pos:Pos}
theorem J2(S:CompScope X own caps N' sc)(hc:X.calm=true)(nd:caps.Nodup)(hi:MI X io p ci tg iter mi)
  (hg:∀C cells s₂ H₂ fp,MG (We X N' sc C cells s₂ H₂ fp) (Zbd own.length caps) ci tg g) (ht:∀C cells s₂ H₂ fp,MIfs (We X N' sc C cells s₂ H₂ fp) (Zbd own.length caps) pt ifs mt) (he:∀C cells s₂ H₂ fp,ME (We X N' sc C cells s₂ H₂ fp) (Zbd own.length caps) pe true elt me)
  (hp:(pt&&pe)=true:=by rfl) (hs:∀x,Vk iter X.env x=pure x:=by intro _;rfl):ME X io p true (.ListComp elt [⟨tg,iter,ifs,0⟩] sc pos) (Zg1 own.length caps mi g mt me):=by
 obtain⟨_,A,si⟩:=hi
 exact⟨_,Z05 S hc A (λC cells s₂ H₂ fp=>(hg C cells s₂ H₂ fp).canon) (λC cells s₂ H₂ fp=>(ht C cells s₂ H₂ fp).canon) (λC cells s₂ H₂ fp=>(he C cells s₂ H₂ fp).canon) hs,Z14 si nd hp⟩
section
variable {i:Nat}{y:Str}{py spos:Pos}
theorem Zae(own':Bool)(hN:X.N.Nodup)(hy:X.N[i]? =some y)(hx:Loc X.env.scope y)(S:CompScope X own caps N' sc)(hc:X.calm=true)(nd:caps.Nodup)(hi:MI X io p ci tg iter mi)
  (hg:∀C cells s₂ H₂ fp,MG (We X N' sc C cells s₂ H₂ fp) (Zbd own.length caps) ci tg g) (ht:∀C cells s₂ H₂ fp,MIfs (We X N' sc C cells s₂ H₂ fp) (Zbd own.length caps) pt ifs mt) (he:∀C cells s₂ H₂ fp,ME (We X N' sc C cells s₂ H₂ fp) (Zbd own.length caps) pe true elt me)
  (hp:(pt&&pe)=true:=by rfl) (hio:i∉io:=by decide)
  (hsw:Br (.ListComp elt [⟨tg,iter,ifs,0⟩] sc pos) (some (.Name y py)) spos.line X.env=pure true:=by rfl)
  (hs:∀x,Vk iter X.env x=pure x:=by intro _;rfl) (hf:X.fn y=true∨X.env.scope.names.lookup y=some .local:=by first|exact .inl rfl|exact .inr rfl|assumption) :
  MS X io (.Assign [.Name y py] (.ListComp elt [⟨tg,iter,ifs,0⟩] sc pos) spos) (if own'=true then Zog i (Zg1 own.length caps mi g mt me)else Z3e i (Zg1 own.length caps mi g mt me)):=by
 obtain⟨_,A,si⟩:=hi
 refine⟨_,Zo2 (g:=gM X.K (Zbd own.length caps) ci g) (tt:=ttM X.K (Zbd own.length caps) pt mt) (te:=tM X.K (Zbd own.length caps) pe true me) hN hy hx S hc A (λC cells s₂ H₂ fp=>(hg C cells s₂ H₂ fp).canon) (λC cells s₂ H₂ fp=>(ht C cells s₂ H₂ fp).canon) (λC cells s₂ H₂ fp=>(he C cells s₂ H₂ fp).canon) hsw hs hf,?_⟩
 cases own'
 ·exact Ydv (Z14 si nd hp) hio
 ·exact Z8c (Z14 si nd hp) hio
end
end
variable {G:Xc}
section
variable {X:Cx}{pins:List (Addr×Obj)}{σ:St}{H:Hp}{s:Xg}{l:Addr}{xs:List V}
noncomputable def Z8w(K:Xc):R2:=λx y H Q=>∃l b xs zs,x= .ref l∧y= .ref b∧SqL K H l xs∧SqL K H b zs∧xs.length+zs.length≤Xq∧∀p,H p=none->Q (.ref p) (upd H p (.lst (xs ++ zs)))
theorem Inv.lstQ{K:Xc}(hK:X.K=K)(I:Inv X pins σ H s)(hH:SqL K H l xs):∃(its:List Xe) (n:Nat),Vals xs its∧xs.length=its.length∧∃o,s.heap.get? l=some o∧o.cls= .type "list"∧o.dict=none∧o.data= .seq its.toArray n:=by
 subst hK
 obtain⟨its,r,⟨o,n,e,h1,h2,h3⟩,_⟩:=I.list hH
 exact⟨its,n,r,r.length,o,e,h1,h2,h3⟩
theorem Zlf{K:Xc}(hK:X.K=K):OpR X (Vl .Add) (Z8w K):=by
 intro pins s σ H x y v u Q I rx ry h
 obtain⟨l,b,xs,zs,rfl,rfl,hH,hB,hz,q⟩:=h
 cases rx
 cases ry
 obtain⟨its,n,r,hl,⟨cls,dd,data,sl⟩,ho,hc,_,hd⟩:=I.lstQ hK hH
 obtain⟨its2,n2,r2,hl2,⟨cls2,dd2,data2,sl2⟩,ho2,hc2,_,hd2⟩:=I.lstQ hK hB
 simp only at hc hd hc2 hd2
 subst hc hd hc2 hd2
 have ea:its.toArray ++ its2.toArray=(its ++ its2).toArray:=by simp
 refine concat_meets ⟨_,ho,rfl⟩ ⟨_,ho2,rfl⟩ noFill_list_add seq_list_add PySem.F.slot_list_add PySem.F.entry_list_add (PySem.F.args_list_add_2 _ _) (list_addW l b its.toArray its2.toArray n n2 dd dd2 sl sl2 (by simp only[Xy];omega)) ⟨ho,ho2,?_⟩
 rw[ea]
 exact⟨.ref _,_,I.lnew (t':=s.toks) (r.append r2) (by rw[XF];omega),rfl,q _ I.fresh⟩
end
noncomputable def asI(d:Xa)(k:Int->Prop):Prop:=match d with| .int i=>k i|_=>False
noncomputable def asL(d:Xa)(k:List Xa->Prop):Prop:=match d with| .list ds=>k ds|_=>False
section
variable {H:Hp}{L:Addr->Prop}{v:V}{d:Xa}
theorem Da.intInv{k:Int->Prop}(q:Da G H L v d)(h:asI d k):∃i,v= .int i∧k i:=by
 cases q with
 | int b=>exact⟨b,rfl,h⟩
 | _=>exact h.elim
theorem Da.lstInv{k:List Xa->Prop}(q:Da G H L v d)(h:asL d k):∃a xs ds,v= .ref a∧SqL G H a xs∧Das G H L xs ds∧k ds:=by
 cases q with
 | lst l e r=>exact⟨_,_,_,rfl,.inl e,r,h⟩
 | scr s=>exact⟨_,_,_,rfl,s.sq,.ints _,h⟩
 | _=>exact h.elim
end
noncomputable def d2I(C:Int->Int->Prop)(g:Int->Int->Xa):Xa->Xa->(Xa->Prop)->Prop:=λd e k=>asI d λi=>asI e λj=>C i j∧k (g i j)
noncomputable def Zxy(g:Int->Int->Xa):Xa->Xa->(Xa->Prop)->Prop:=λd e k=>asI d λi=>asI e λj=>k (g i j)
theorem Z6w{C:Int->Int->Prop}{f:Int->Int->Int}:P2s G (rI C λi j=>.int (f i j)) (d2I C λi j=>.int (f i j)):=λH L x y d e k Q hx hy h kk=>by
 obtain⟨i,rfl,h⟩:=hx.intInv h
 obtain⟨j,rfl,h⟩:=hy.intInv h
 exact⟨i,j,rfl,rfl,h.1,kk _ _ (.int _) h.2⟩
structure MulOk(i j:Int):Prop where
 ok:IntMulOk i j
structure Yd5(i j:Int):Prop where
 ok:DivOk i j
structure Yd3(i j:Int):Prop where
 ok:Z81 i j
theorem Z6i{f:Int->Int->Int}:P2s G (rI IntMulOk λi j=>.int (f i j)) (d2I MulOk λi j=>.int (f i j)):=λH L x y d e k Q hx hy h kk=>by
 obtain⟨i,rfl,h⟩:=hx.intInv h
 obtain⟨j,rfl,h⟩:=hy.intInv h
 exact⟨i,j,rfl,rfl,h.1.ok,kk _ _ (.int _) h.2⟩
theorem Z4x{f:Int->Int->Int}:P2s G (rI DivOk λi j=>.int (f i j)) (d2I Yd5 λi j=>.int (f i j)):=λH L x y d e k Q hx hy h kk=>by
 obtain⟨i,rfl,h⟩:=hx.intInv h
 obtain⟨j,rfl,h⟩:=hy.intInv h
 exact⟨i,j,rfl,rfl,h.1.ok,kk _ _ (.int _) h.2⟩
theorem Z4e{f:Int->Int->Int}:P2s G (rI Z81 λi j=>.int (f i j)) (d2I Yd3 λi j=>.int (f i j)):=λH L x y d e k Q hx hy h kk=>by
 obtain⟨i,rfl,h⟩:=hx.intInv h
 obtain⟨j,rfl,h⟩:=hy.intInv h
 exact⟨i,j,rfl,rfl,h.1.ok,kk _ _ (.int _) h.2⟩
theorem Zsm{f:Int->Int->Int}:P2s G (rI0 λi j=>.int (f i j)) (Zxy λi j=>.int (f i j)):=λH L x y d e k Q hx hy h kk=>by
 obtain⟨i,rfl,h⟩:=hx.intInv h
 obtain⟨j,rfl,h⟩:=hy.intInv h
 exact⟨i,j,rfl,rfl,kk _ _ (.int _) h⟩
theorem Zny{f:Int->Int->Bool}:P2s G (rI0 λi j=>.bl (f i j)) (Zxy λi j=>.bool (f i j)):=λH L x y d e k Q hx hy h kk=>by
 obtain⟨i,rfl,h⟩:=hx.intInv h
 obtain⟨j,rfl,h⟩:=hy.intInv h
 exact⟨i,j,rfl,rfl,kk _ _ (.bl _) h⟩
section
variable {X:Cx}
noncomputable def Ye3(K:Xc):R2:=λx y H Q=>∃(L L':Addr->Prop) (d e:Xa),Da K H L x d∧Da K H L' y e∧Shp d∧Shp e∧Q (.bl (Q5 d e)) H
noncomputable def Yd7(K:Xc):R2:=λx y H Q=>∃(L L':Addr->Prop) (d e:Xa),Da K H L x d∧Da K H L' y e∧Shp d∧Shp e∧Q (.bl (!Q5 d e)) H
theorem Z52(hu:X.A.units+64<V8):OpR X (Qx .Eq) (Ye3 X.K):=by
 intro pins s σ H x y v u Q I rx ry h
 obtain⟨L,L',d,e,h1,h2,s1,s2,q⟩:=h
 obtain⟨as,k1⟩:=h1.reads rfl I rx (Ue s1)
 obtain⟨bs,k2⟩:=h2.reads rfl I ry (Ue s2)
 exact eq_dataH k1 k2 s1 s2 hu ⟨.bl _,H,I,rfl,q⟩
theorem Z6d(hu:X.A.units+64<V8):OpR X (Qx .NotEq) (Yd7 X.K):=by
 intro pins s σ H x y v u Q I rx ry h
 obtain⟨L,L',d,e,h1,h2,s1,s2,q⟩:=h
 obtain⟨as,k1⟩:=h1.reads rfl I rx (Ue s1)
 obtain⟨bs,k2⟩:=h2.reads rfl I ry (Ue s2)
 exact ne_dataH k1 k2 s1 s2 hu ⟨.bl _,H,I,rfl,q⟩
end
structure Z4z(d:Xa):Prop where
 ok:Shp d
noncomputable def dEq:Xa->Xa->(Xa->Prop)->Prop:=λd e k=>Z4z d∧Z4z e∧k (.bool (Q5 d e))
noncomputable def dNe:Xa->Xa->(Xa->Prop)->Prop:=λd e k=>Z4z d∧Z4z e∧k (.bool (!Q5 d e))
theorem Ybn:P2s G (Ye3 G) dEq:=λH L x y d e k Q hx hy h kk=>⟨L,L,d,e,hx,hy,h.1.ok,h.2.1.ok,kk _ _ (.bl _) h.2.2⟩
theorem Yc2:P2s G (Yd7 G) dNe:=λH L x y d e k Q hx hy h kk=>⟨L,L,d,e,hx,hy,h.1.ok,h.2.1.ok,kk _ _ (.bl _) h.2.2⟩
noncomputable def Zd4:Xa->Bool
 | .none=>true
 | _=>false
theorem Da.isNone{H:Hp}{L:Addr->Prop}{v:V}{d:Xa}(h:Da G H L v d):decide (v= .non)=Zd4 d:=by
 cases h<;>rfl
noncomputable def Z5l:Xa->Xa->(Xa->Prop)->Prop:=λd e k=>e= .none∧k (.bool (!Zd4 d))
theorem Zl7:P2s G (λx y H Q=>y= .non∧Q (.bl (!decide (x= .non))) H) Z5l:=λH L x y d e k Q hx hy h kk=>by
 obtain⟨rfl,h⟩:=h
 cases hy
 exact⟨rfl,by rw[hx.isNone];exact kk _ _ (.bl _) h⟩
noncomputable def scD:Xa->Bool
 | .none=>true
 | .bool _=>true
 | .int _=>true
 | .str _=>true
 | _=>false
noncomputable def eqS:Xa->Xa->Bool
 | .none,.none=>true
 | .bool a,.bool b=>a==b
 | .bool a,.int b=>(if a then 1 else 0)==b
 | .int a,.bool b=>a==(if b then 1 else 0)
 | .int a,.int b=>a==b
 | .str a,.str b=>a==b
 | _,_=>false
noncomputable def memS(d:Xa)(ds:List Xa):Bool:=ds.any λe=>eqS e d
theorem Da.toSc{H:Hp}{L:Addr->Prop}{v:V}{d:Xa}(h:Da G H L v d)(s:scD d=true):ScD v d:=by
 cases h with
 | non=>exact .non
 | bl b=>exact .bl b
 | int i=>exact .int i
 | str x=>exact .str x
 | _=>cases s
theorem Da.sc{H:Hp}{L:Addr->Prop}{v:V}{d:Xa}(h:Da G H L v d)(s:scD d=true):Zf3 v=true:=by
 cases h.toSc s<;>rfl
theorem Das.sc{H:Hp}{L:Addr->Prop}{vs:List V}{ds:List Xa}(h:Das G H L vs ds):ds.all scD=true->vs.all Zf3=true :=
 Das.ind (Q:=λvs ds=>ds.all scD=true->vs.all Zf3=true) (λ_=>rfl) (λh _ r s=>by
  rw[List.all_cons,XJ]at s
  rw[List.all_cons,h.sc s.1,r s.2];rfl) h
theorem Da.eqS{H:Hp}{L:Addr->Prop}{v u:V}{d e:Xa}(h:Da G H L v d)(g:Da G H L u e)(s:scD d=true)(t:scD e=true):eqV v u=L2.eqS d e:=by
 cases h.toSc s<;>cases g.toSc t<;>rfl
theorem Das.memS{H:Hp}{L:Addr->Prop}{v:V}{d:Xa}(h:Da G H L v d)(s:scD d=true){vs:List V}{ds:List Xa}(g:Das G H L vs ds):ds.all scD=true->inV v vs=L2.memS d ds :=
 Das.ind (Q:=λvs ds=>ds.all scD=true->inV v vs=L2.memS d ds) (λ_=>rfl) (λg _ r t=>by
  rw[List.all_cons,XJ]at t
  have:=r t.2
  unfold inV L2.memS at*
  rw[V5,V5,this,g.eqS h t.1 s]) g
noncomputable def dIn(neg:Bool):Xa->Xa->(Xa->Prop)->Prop:=λd e k=>scD d=true∧match e with
 | .list ds=>ds.all scD=true∧k (.bool (if neg then !memS d ds else memS d ds))
 | .tuple ds=>ds.all scD=true∧k (.bool (if neg then !memS d ds else memS d ds))
 | _=>False
theorem Zui{neg:Bool}:P2s G (rIn G neg) (dIn neg):=λH L x y d e k Q hx hy h kk=>by
 obtain⟨s,h⟩:=h
 cases hy with
 | lst l e r=>exact⟨_,_,rfl,.inl (.inl e),hx.sc s,r.sc h.1,by rw[Das.memS hx s r h.1];exact kk _ _ (.bl _) h.2⟩
 | tup e r=>exact⟨_,_,rfl,.inr (.inl (.inl e)),hx.sc s,r.sc h.1,by rw[Das.memS hx s r h.1];exact kk _ _ (.bl _) h.2⟩
 | scr ks=>exact⟨_,_,rfl,.inl ks.sq,hx.sc s,(Das.ints (G:=G) (H:=H) (L:=L) _).sc h.1,by rw[Das.memS hx s (Das.ints (G:=G) (H:=H) (L:=L) _) h.1];exact kk _ _ (.bl _) h.2⟩
 | _=>exact h.elim
noncomputable def ixD(d e:Xa):Option Xa:=match d,e with
 | .list ds,.int i=>atI ds i
 | .tuple ds,.int i=>atI ds i
 | _,_=>none
noncomputable def dIx:Xa->Xa->(OT->Prop)->Prop:=λd e k=>match ixD d e with|some x=>k (.fz x)|none=>False
theorem Das.atI{H:Hp}{L:Addr->Prop}{xs:List V}{ds:List Xa}{i:Int}{d:Xa}(h:Das G H L xs ds)(e:L2.atI ds i=some d):∃x,L2.atI xs i=some x∧Da G H L x d:=by
 unfold L2.atI at*
 rw[h.length]
 cases q:ixN ds.length i with
 | none=>rw[q]at e;cases e
 | some j=>
  rw[q]at e
  exact h.get e
theorem Yag:P2 G (rIx G) dIx:=λH L x y d e k Q hx hy h kk=>by
 unfold dIx at h
 split at h
 case h_2=>exact h.elim
 rename_i z ez
 have fin:∀v,Da G H L v z->Q v H:=λv q=>kk H v (.fz z) [] (Same.refl _) (.fz (q.wide λa l _=>⟨.inl l,λm=>nomatch m⟩)) .nil (λa m=>nomatch m) h
 cases hx with
 | lst l e1 r=>
  cases hy with
  | int i=>
   obtain⟨v,e2,q⟩:=r.atI (show L2.atI _ i=some z from ez)
   exact .inl ⟨_,_,i,v,rfl,rfl,.inl e1,e2,fin v q⟩
  | _=>cases ez
 | tup e1 r=>
  cases hy with
  | int i=>
   obtain⟨v,e2,q⟩:=r.atI (show L2.atI _ i=some z from ez)
   exact .inr (.inl ⟨_,_,i,v,rfl,rfl,.inl (.inl e1),e2,fin v q⟩)
  | _=>cases ez
 | scr ks=>
  cases hy with
  | int i=>
   obtain⟨v,e2,q⟩:=(Das.ints (G:=G) (H:=H) (L:=L) _).atI (show L2.atI _ i=some z from ez)
   exact .inl ⟨_,_,i,v,rfl,rfl,ks.sq,e2,fin v q⟩
  | _=>cases ez
 | _=>cases ez
theorem Own.list{H:Hp}{L:Addr->Prop}{p:Addr}{xs:List V}{ds:List Xa}(hp:H p=none)(h:Das G H L xs ds):Own G (upd H p (.lst xs)) (λa=>(L a∨H a=none)∧a∉[p]) (.ref p) (.nd (ds.map OT.fz)) [p] :=
 .nd Zr (((h.wide λa l q=>⟨.inl l,λm=>q (by rw[Xj.mp m];exact hp)⟩).same (Zz hp _)).owns)
theorem Zaq{H:Hp}{p:Addr}(hp:H p=none):∀a∈[p],H a=none:=λa m=>by rw[Xj.mp m];exact hp
theorem Zch(p:Addr):[p].Nodup:=X6.mpr ⟨λm=>(nomatch m),.nil⟩
noncomputable def dCat:Xa->Xa->(OT->Prop)->Prop:=λd e k=>asL d λds=>asL e λes=>ds.length+es.length≤Xq∧k (.nd ((ds ++ es).map OT.fz))
theorem Zqs:P2 G (Z8w G) dCat:=λH L x y d e k Q hx hy h kk=>by
 obtain⟨a,xs,ds,rfl,e1,r1,h⟩:=hx.lstInv h
 obtain⟨b,ys,es,rfl,e2,r2,h⟩:=hy.lstInv h
 exact⟨a,b,xs,ys,rfl,rfl,e1,e2,by rw[r1.length,r2.length];exact h.1,λp hp=>kk _ _ _ [p] (Zz hp _) (Own.list hp (r1.append r2)) (Zch p) (Zaq hp) h.2⟩
noncomputable def n1(k:Xa->Prop)(ds:List Xa):Prop:=match ds with|[d]=>k d|_=>False
noncomputable def n2(k:Xa->Xa->Prop)(ds:List Xa):Prop:=match ds with|[d,e]=>k d e|_=>False
theorem Das.one{H:Hp}{L:Addr->Prop}{vs:List V}{ds:List Xa}{k:Xa->Prop}(q:Das G H L vs ds)(h:n1 k ds):∃v d,vs=[v]∧ds=[d]∧Da G H L v d∧k d:=by
 cases q with
 | nil=>exact h.elim
 | cons q r=>
  cases r with
  | nil=>exact⟨_,_,rfl,rfl,q,h⟩
  | cons _ _=>exact h.elim
noncomputable def Zuq:Xa->Option Nat
 | .list ds=>some ds.length
 | .tuple ds=>some ds.length
 | _=>none
noncomputable def Yep:List Xa->(Xa->Prop)->Prop:=λds k=>n1 (λd=>match Zuq d with|some n=>k (.int n)|none=>False) ds
theorem Z5z:PNs G (Yc7 G) Yep:=λH L xs ds k Q hx h kk=>by
 obtain⟨v,d,rfl,rfl,q,h⟩:=hx.one h
 cases q with
 | lst l e r=>exact⟨_,_,rfl,.inl (.inl e),by rw[r.length];exact kk _ _ (.int _) h⟩
 | tup e r=>exact⟨_,_,rfl,.inr (.inl (.inl e)),by rw[r.length];exact kk _ _ (.int _) h⟩
 | scr ks=>exact⟨_,_,rfl,.inl ks.sq,by rw[(Das.ints (G:=G) (H:=H) (L:=L) _).length];exact kk _ _ (.int _) h⟩
 | _=>exact h.elim
noncomputable def Yed:List Xa->(Xa->Prop)->Prop:=λds k=>n1 (λd=>match d with| .int i=>k (.int i)| .bool b=>k (.int (if b then 1 else 0))|_=>False) ds
theorem Z6f:PNs G (λxs H Q=>(∃i,xs=[.int i]∧Q (.int i) H)∨∃k,xs=[.bl k]∧Q (.int (if k then 1 else 0)) H) Yed:=λH L xs ds k Q hx h kk=>by
 obtain⟨v,d,rfl,rfl,q,h⟩:=hx.one h
 cases q with
 | int i=>exact .inl ⟨i,rfl,kk _ _ (.int _) h⟩
 | bl b=>exact .inr ⟨b,rfl,kk _ _ (.int _) h⟩
 | _=>exact h.elim
noncomputable def Zhw:Xa->Option (List Xa)
 | .list ds=>some ds
 | .tuple ds=>some ds
 | _=>none
noncomputable def Z7f:List Xa->(OT->Prop)->Prop:=λds k=>n1 (λd=>match Zhw d with|some es=>k (.nd (es.map OT.fz))|none=>False) ds
theorem Z1x:PN G (Zp7 G) Z7f:=λH L xs ds k Q hx h kk=>by
 obtain⟨v,d,rfl,rfl,q,h⟩:=hx.one h
 cases q with
 | lst l e r=>exact⟨_,_,rfl,.inl (.inl e),λp hp=>kk _ _ _ [p] (Zz hp _) (Own.list hp r) (Zch p) (Zaq hp) h⟩
 | tup e r=>exact⟨_,_,rfl,.inr (.inl (.inl e)),λp hp=>kk _ _ _ [p] (Zz hp _) (Own.list hp r) (Zch p) (Zaq hp) h⟩
 | scr ks=>exact⟨_,_,rfl,.inl ks.sq,λp hp=>kk _ _ _ [p] (Zz hp _) (Own.list hp (Das.ints _)) (Zch p) (Zaq hp) h⟩
 | _=>exact h.elim
section
variable {X:Cx}{io:List Nat}{p c:Bool}{a:Expr}{ma:MEt}{pos:Pos}
noncomputable def Ydp(m:MEt):MEt:=λδ K=>m δ λr δ'=>asI r.data λi=>K (.fz (.int (-i))) δ'
theorem Yaf(ha:ME X io p c a ma):ME X io p true (.UnaryOp .USub a pos) (Ydp ma):=by
 obtain⟨_,A,s⟩:=ha
 exact⟨_,Yci Z39 A,λC H σ δ fp ex K Q R h k=>s C H σ δ fp ex _ _ R h λH' v r δ' fp' new r1 h1=>by
  obtain⟨i,rfl,h1⟩:=(r1.da R).intInv h1
  exact⟨i,rfl,k H' _ _ δ' fp' [] (.fz r1.base r1.stp (.int _)) h1⟩⟩
noncomputable def Zpg(T:String):Xa->Bool
 | .none=>false
 | .bool _=>T=="bool"||T=="int"
 | .int _=>T=="int"
 | .str _=>T=="str"
 | .list _=>T=="list"
 | .tuple _=>T=="tuple"
 | .dict _=>false
noncomputable def Yea(T:String)(m:MEt):MEt:=λδ K=>m δ λr δ'=>Zhf r.data=false∧K (.fz (.bool (Zpg T r.data))) δ'
end
section
variable {prog:XS}{w:Qq}{A:Qs}{E:Xe->Xg->Prop}{h:Heap}{g:Array GenState}{d:Drawn}{t:Nat}{os:OsState}{a C:Addr}{o:Obj}{K:Xc}
theorem Z18(M:Model)(hx:h.get? a=some o)(hc:o.cls= .ref C):JP M h (typeOf (.ref a)) (.ref C):=hc▸(JP.ld hx).andThen .now
theorem Zvn{R:Result->Xg->Prop}(X:K.In h)(Z:Zet K C)(hx:h.get? a=some o)(hc:o.cls= .ref C)(hq:R (.ok (.ret (.ref C))) ⟨h,g,d,t,os⟩) :
  U3 (XR prog w) A (.call (.builtin "getset_descriptor.__get__") ⟨[.builtin "object.__class__",.ref a,.ref C],[]⟩) R ⟨h,g,d,t,os⟩:=by
 have L1:JP (XR prog w) h (isSubtype (.ref C) (.type (".".intercalate ("object.__class__".cutAt '.').dropLast))) true:=by
  rw[F.owner_object_class]
  exact PySem.W.looks_subIn X Z.isO
 have T5:(⟨h,g,d,t,os⟩:Xg).TypeIs (.builtin "object.__class__") "getset_descriptor" :=F.typeOf_object_class
 refine codeAny_call_builtin F.slot_gs_get.plain F.entry_gs_get (F.slot_gs_get.check _ _ _ _ _ _ _ _ T5 (F.args_gs_get _ _ _) ?_)
 repeat (any_goals (first|assumption|(with_reducible refine Uv hx ?_;rw[hc])|(with_reducible refine Xb (JP.at L1 ?_))|(with_reducible refine JP.at L1 ?_)|wp_step))
 refine⟨Code.quiet_builtin _ (by decide +kernel),BL F.entry_object_class ?_⟩
 repeat (any_goals (first|assumption|(with_reducible refine Uv hx ?_;rw[hc])|wp_step))
theorem Zo4{tk:Tok}{Q:Fin->Xg->Prop}(X:K.In h)(Z:Zet K C)(hx:h.get? a=some o)(hc:o.cls= .ref C)(hq:Q (.done (.ret (.ref C))) ⟨h,g,d,t,os⟩) :
  XD (XR prog w) A (Bu.«object.__getattribute__» ⟨[.ref a,.str "__class__" tk],[]⟩) Q E ⟨h,g,d,t,os⟩:=by
 have T5:(⟨h,g,d,t,os⟩:Xg).TypeIs (.builtin "object.__class__") "getset_descriptor" :=F.typeOf_object_class
 have g5:=F.typeOf_object_class
 have g6:=F.slot_gs_get.lookup
 have g7:=F.slot_gs_set.lookup
 have L4:=PySem.W.looks_findIn (M:=XR prog w) X Z.cl
 repeat (any_goals (first|assumption|(with_reducible refine Uv hx ?_;rw[hc])|(with_reducible refine Xb (JP.at L4 ?_))|(with_reducible refine JP.at L4 ?_)|wp_step))
 refine Zvn X Z hx hc ?_
 repeat (any_goals (first|assumption|wp_step))
theorem Zpb{M:Model}{nameV:Xe}{Q:Unit->Xg->Prop}(X:K.In h)(Z:Zet K C)(hx:h.get? a=some o)(hc:o.cls= .ref C)(hq:Q () ⟨h,g,d,t,os⟩) :
  XD M A (checkBuiltinCall "BaseException.__getattribute__" ⟨[.ref a,nameV],[]⟩) Q E ⟨h,g,d,t,os⟩:=by
 have e1:builtinKind "BaseException.__getattribute__"=some .slot:=by decide +kernel
 have e2:splitId "BaseException.__getattribute__"=some ("BaseException","__getattribute__"):=by decide +kernel
 have L1:=PySem.W.looks_subIn (M:=M) X Z.isB
 have e3:=F.args_bexc_ga (.ref a) nameV
 simp only[checkBuiltinCall,e1,e2]
 refine Xb ?_
 unfold isInstance
 repeat (first|(with_reducible refine Uv hx ?_;rw[hc])|(with_reducible refine Xb (JP.at L1 ?_))|(with_reducible refine JP.at L1 ?_)|wp_step)
 exact hq
theorem Zrc{tk:Tok}{R:Result->Xg->Prop}(X:K.In h)(Z:Zet K C)(hx:h.get? a=some o)(hc:o.cls= .ref C)(hq:R (.ok (.ret (.ref C))) ⟨h,g,d,t,os⟩) :
  U3 (XR prog w) A (.call (.builtin "BaseException.__getattribute__") ⟨[.ref a,.str "__class__" tk],[]⟩) R ⟨h,g,d,t,os⟩ :=
 codeAny_call_builtin F.excAttr_ValueError.ga.plain F.entry_bexc_ga (Zpb X Z hx hc (Zo4 X Z hx hc hq))
theorem Zys{tk:Tok}{fill expr:Bool}{Q:Xe->Xg->Prop}(X:K.In h)(Z:Zet K C)(hx:h.get? a=some o)(hc:o.cls= .ref C)(hq:Q (.ref C) ⟨h,g,d,t,os⟩) :
  XD (XR prog w) A (getAttrBy (.ref a) (.str "__class__" tk) fill expr) Q E ⟨h,g,d,t,os⟩:=by
 have f3:=F.excAttr_ValueError.ga.bind (.ref a)
 have y0:(expr&&onTheHeap (Value.builtin "BaseException.__getattribute__"))=false:=by cases expr<;>rfl
 have y2:(Value.builtin "BaseException.__getattribute__"==Value.builtin "object.__getattribute__")=false:=by decide +kernel
 have y1:(onTheHeap (Qn C)&&Value.builtin "BaseException.__getattribute__"==Value.builtin "object.__getattribute__")=false:=by rw[y2];rfl
 have L2:=PySem.W.looks_findIn (M:=XR prog w) X Z.ga
 have L3:=PySem.W.looks_findIn (M:=XR prog w) X Z.gt
 repeat (any_goals (first|assumption|(with_reducible refine Uv hx ?_;rw[hc])|(with_reducible refine JP.at L2 ?_)|(with_reducible refine JP.at L3 ?_)|(with_reducible refine Xb (JP.at L2 ?_))|(with_reducible refine Xb (JP.at L3 ?_))|wp_step))
 refine Zrc X Z hx hc ?_
 repeat (any_goals (first|assumption|wp_step))
theorem Zrd{Q:Option Xe->Xg->Prop}(X:K.In h)(Z:Zet K C)(hx:h.get? a=some o)(hc:o.cls= .ref C)(hq:Q (some (.ref C)) ⟨h,g,d,t+1,os⟩) :
  XD (XR prog w) A (getAttr? (.ref a) "__class__") Q E ⟨h,g,d,t,os⟩:=by
 unfold getAttr? getAttrBy?
 repeat (any_goals (first|assumption|with_reducible apply Zys X Z hx hc|wp_step))
end
theorem Zuv{K:Xc}{a C:Addr}(Z:Zet K C):PySem.W.KitX K (.ref a) (.ref C) (λh=>∃o,h.get? a=some o∧o.cls= .ref C) where
 ty:=λM h _ p=>let⟨_,hx,hc⟩:=p;Z18 M hx hc
 it:=λM h X _=>by
  have z:=Z.isC
  unfold PySem.W.clsIn at z
  split at z
  ·rename_i ho
   intro A' Q' E' s' k q
   unfold isType loadHead
   exact Xb (wpAny_loadPart (k _ _ (X _ _ ho)) (Xm q))
  ·cases z
 ne:=λh tp dd its n sl X htp=>by
  have z:=Z.isC
  refine Bv.mpr λq=>?_
  have e:C=tp:=Qn.inj (beq_iff_eq.mp q)
  subst e
  unfold PySem.W.clsIn at z
  split at z
  ·rename_i ho
   have z:=(X _ _ ho).symm.trans htp
   cases z
  ·cases z
 ca:=fun{_ _ _ _ _ s} X p k=>by
  obtain⟨h,g,d,t,os⟩:=s
  obtain⟨_,hx,hc⟩:=p
  exact Zrd X Z hx hc k
variable {G:Xc}
noncomputable def tyD:Xa->String
 | .none=>"NoneType"
 | .bool _=>"bool"
 | .int _=>"int"
 | .str _=>"str"
 | .list _=>"list"
 | .tuple _=>"tuple"
 | .dict _=>"dict"
theorem Zx4{K:Xc}{T:String}{d:Xa}(h:T="int"∨T="bool"∨T="str"∨T="list"∨T="tuple")(hd:∀kvs,d≠ .dict kvs):Vi K (.type (tyD d)) (.type T)=some (Zpg T d):=by
 rcases h with rfl|rfl|rfl|rfl|rfl<;>cases d<;>first|rfl|(exact absurd rfl (hd _))|(unfold Vi PySem.W.kitCls;rfl)|(simp only[tyD,Zpg];decide +kernel)
noncomputable def Ycj(G:Xc):List V->Hp->VK->Prop:=λxs H Q=>∃(x:V) (T:String) (L:Addr->Prop) (d:Xa),xs=[x,.ty T]∧Da G H L x d∧Zhf d=false∧(T="int"∨T="bool"∨T="str"∨T="list"∨T="tuple")∧Q (.bl (Zpg T d)) H
theorem Zrz{X:Cx}(hK:X.K=G):Zcd X (.builtin "isinstance") (Ycj G):=by
 subst hK
 intro pins s σ H xs us Q I r h
 obtain⟨x,T,L,d,rfl,q,hf,hT,h⟩:=h
 obtain⟨u,w',rfl,r1,r2⟩:=vals2 r
 cases(show w'=Value.type T from r2)
 have fin:∀tk:Nat,EP X pins σ Q (.bool (Zpg T d)) { s with toks:=tk }:=λtk=>⟨.bl _,H,I.tok tk,rfl,h⟩
 cases q with
 | non=>exact Jt I r1 .non (Zx4 (d:=.none) hT λ_ z=>by cases z) fin
 | bl b=>exact Jt I r1 (.bl b) (Zx4 (d:=.bool b) hT λ_ z=>by cases z) fin
 | int b=>exact Jt I r1 (.int b) (Zx4 (d:=.int b) hT λ_ z=>by cases z) fin
 | str b=>exact Jt I r1 (.str b) (Zx4 (d:=.str b) hT λ_ z=>by cases z) fin
 | lst l e qs=>
  rename_i ds
  rcases e with e|⟨o,e⟩
  ·exact Jt I r1 (.lst e) (Zx4 (d:=.list ds) hT λ_ z=>by cases z) fin
  ·exact Jt I r1 (.frz e) (Zx4 (d:=.list ds) hT λ_ z=>by cases z) fin
 | tup e qs=>
  rename_i ds
  exact Jt I r1 (.tup e) (Zx4 (d:=.tuple ds) hT λ_ z=>by cases z) fin
 | scr ks=>
  rename_i a ns
  cases(show u=Qn a from r1)
  obtain⟨its,vs,⟨o,n,ho,hc,hd,hs⟩,_⟩:=I.list (ks.sq (H:=H))
  exact Q8 PySem.W.kitx_list I.kIn ⟨o,ho,hc⟩ (Zx4 (d:=.list (ns.map Xx)) hT λ_ z=>by cases z) (λz=>nomatch z) fin
 | exc Z hn e=>
  rename_i a C x
  cases(show u=Qn a from r1)
  obtain⟨⟨o,vs,ho,hc,_⟩,_,_⟩:=(show ObjOk X.prog X.w H s.heap a (.ext (ExO C a))from I.hok a _ e)
  refine Q8 (Zuv Z) I.kIn ⟨o,ho,hc⟩ (b:=Zpg T (exD x)) ?_ (λz=>nomatch z) fin
  rcases hT with rfl|rfl|rfl|rfl|rfl
  ·exact Z.k1
  ·exact Z.k2
  ·exact Z.k3
  ·exact Z.k4
  ·exact Z.k5
 | fn _=>cases hf
 | dic _ _ _ _=>unfold dcD Zhf at hf;cases hf
section
variable {X:Cx}{io:List Nat}{p c p' c':Bool}{a b e:Expr}{ma m:MEt}{pos pp p2:Pos}{K:Xc}
theorem Zn4{T:Str}{T':String}(hT:T'="int"∨T'="bool"∨T'="str"∨T'="list"∨T'="tuple")(hg:Gl X "isinstance")(hm:X.mg "isinstance"=none)(hv:Qe "isinstance"=some (.builtin "isinstance"))
  (hg2:Gl X T) (hm2:X.mg T=none) (hv2:Qe T=some (.type T')) (ha:ME X io p c a ma) (hn:T≠"__name__" :=by decide) (hd:(T==("__debug__" : Str))=false:=by decide)
  (he:Xu [a,.Name T p2] X.env=(false,eval a X.env) :: Xu [.Name T p2] X.env:=by rfl) (he2:Xu [.Name T p2] X.env=(false,eval (.Name T p2) X.env) :: Xu [] X.env:=by rfl) (hpl:(JD pos (Xu [.Name T p2] X.env)).any (·.1)=false:=by rfl) :
  ME X io p true (.Call (.Name "isinstance" pp) [a,.Name T p2] [] pos) (Yea T' ma):=by
 obtain⟨_,A,s⟩:=ha
 refine⟨_,Zim (Zrz rfl) hg hm hv (Zbq A (Zbq (Zyj (v:=.ty T') hg2 hm2 hv2 rfl hn hd) Zf2 he2) he) (by decide) (by decide) he hpl,?_⟩
 intro C H σ δ fp ex K' Q R h k
 refine s C H σ δ fp ex _ _ R h λH' v r δ' fp' new r1 h1=>?_
 exact⟨v,T',_,_,rfl,r1.da R,h1.1,hT,k H' _ _ δ' fp' [] (.fz r1.base r1.stp (.bl _)) h1.2⟩
noncomputable abbrev MOt:=Zf->(Option Int->Zf->Prop)->Prop
noncomputable def MO(X:Cx)(io:List Nat)(p:Bool)(e:Option Expr)(m:MOt):Prop:=∃t,PO X e t∧∀(C:MC X.K) (H:Hp) (σ:St) (δ:Zf) (fp:Fp) (ex:Addr->Prop) (K:Option Int->Zf->Prop) (Q:Option Int->Hp->Prop),Rel C io H σ δ fp ex->m δ K ->
 (∀ H' b δ' fp',Rel C io H' σ δ' fp' ex->Stp p H δ fp H' δ' fp'->K b δ'->Q b H')->t σ H Q
noncomputable def Zp9:MOt:=λδ K=>K none δ
noncomputable def Z5v(m:MEt):MOt:=λδ K=>m δ λr δ'=>asI r.data λi=>K (some i) δ'
theorem Ziq:MO X io true none Zp9:=⟨_,Zz6,λC H σ δ fp ex K Q R h k=>k H none δ fp R (.refl _ _ _ _) h⟩
theorem Zgf(h:ME X io p c e m):MO X io p (some e) (Z5v m):=by
 obtain⟨_,A,s⟩:=h
 exact⟨_,Zyr A,λC H σ δ fp ex K Q R h k=>s C H σ δ fp ex _ _ R h λH' v r δ' fp' new r1 h1=>by
  obtain⟨i,rfl,h1⟩:=(r1.da R).intInv h1
  exact⟨i,rfl,k H' _ δ' fp' r1.base r1.stp h1⟩⟩
noncomputable def cutD(ds:List Xa)(lo hi:Option Int):List Xa:=(ds.drop (HT.sIx ds.length 0 lo)).take (HT.sIx ds.length ds.length hi-HT.sIx ds.length 0 lo)
theorem Das.cut{H:Hp}{L:Addr->Prop}{xs:List V}{ds:List Xa}(h:Das G H L xs ds)(lo hi:Option Int):Das G H L (Z3f xs lo hi) (cutD ds lo hi):=by
 unfold Z3f cutD
 rw[h.length]
 exact(h.drop _).take _
noncomputable def mSl(m:MEt)(ml mh:MOt):MEt:=λδ K=>m δ λr δ1=>ml δ1 λlo δ2=>mh δ2 λhi δ3=>asL r.data λds=>K (.nd ((cutD ds lo hi).map OT.fz)) δ3
theorem Zy2{lo hi:Option Expr}{ml mh:MOt}(ha:ME X io true c a ma)(hl:MO X io true lo ml)(hh:MO X io true hi mh):ME X io true c (.Subscript a (.Slice lo hi none p2) pos) (mSl ma ml mh):=by
 obtain⟨_,A,s⟩:=ha
 obtain⟨_,B,sl⟩:=hl
 obtain⟨_,D,sh⟩:=hh
 refine⟨_,Zwk (Zu4 rfl) A B D,?_⟩
 intro C H σ δ fp ex K' Q R h k
 refine s C H σ δ fp ex _ _ R h λH1 v r δ1 fp1 new r1 h1=>?_
 refine sl C H1 σ δ1 fp1 ex _ _ r1.base h1 λH2 l δ2 fp2 R2 S2 h2=>?_
 refine sh C H2 σ δ2 fp2 ex _ _ R2 h2 λH3 u δ3 fp3 R3 S3 h3=>?_
 have s2:Same H1 H2:=λb o e=>S2.keep b o e (.inl rfl)
 have s3:Same H2 H3:=λb o e=>S3.keep b o e (.inl rfl)
 obtain⟨e1,e2⟩:=r1.stp.env rfl
 obtain⟨e3,e4⟩:=S2.env rfl
 obtain⟨e5,e6⟩:=S3.env rfl
 have q:=((r1.da R).same s2).same s3
 obtain⟨a',xs,ds,rfl,e,qs,h3⟩:=q.lstInv h3
 refine⟨a',xs,rfl,e,λp hp=>?_⟩
 have S:=(r1.stp.trans S2).trans S3
 refine k _ _ _ δ3 fp3 [p] (RE.tree R R3 S (Zz hp _) (Zaq hp) (Zch p) (Own.list hp ((qs.cut l u).wide λa l _=>?_))) h3
 rw[e6,e4]
 exact l
theorem Owns.set{H:Hp}{L:Addr->Prop}{x:V}{r:OT}(hr:Own G H L x r []):∀{xs:List V} {ts:List OT} {as:List Addr} (j:Nat),Owns G H L xs ts as->∃bs,Owns G H L (xs.set j x) (ts.set j r) bs∧bs.Sublist as
 | _,_,_,_,.nil=>⟨[],.nil,.refl _⟩
 | _,_,_,0,.cons k t=>⟨_,.cons hr t,by simp⟩
 | _,_,_,j+1,.cons (as:=as) k t=>by
  obtain⟨bs,o,s⟩:=Owns.set hr j t
  exact⟨as ++ bs,.cons k o,List.Sublist.append_left s as⟩
theorem Owns.get{H:Hp}{L:Addr->Prop}:∀{xs:List V} {ts:List OT} {as:List Addr} {j:Nat} {t:OT},Owns G H L xs ts as->ts[j]? =Bp t->∃x bs,xs[j]? =Bp x∧Own G H L x t bs∧bs.Sublist as
 | _,_,_,_,_,.nil,e=>by simp at e
 | _,_,_,0,_,.cons k _,e=>by simp at e;subst e;exact⟨_,_,rfl,k,List.sublist_append_left _ _⟩
 | _,_,_,j+1,t,.cons _ r,e=>by
  obtain⟨x,bs,h1,h2,h3⟩:=Owns.get (j:=j) (t:=t) r (by simpa using e)
  exact⟨x,bs,by simpa using h1,h2,h3.trans (List.sublist_append_right _ _)⟩
theorem Rel.top{C:MC G}{H:Hp}{σ:St}{δ:Zf}{fp:Fp}{ex:Addr->Prop}{i:Nat}{ts ts':List OT}{a':Addr}{xs ys:List V}{bs bs':List Addr}(R:Rel C io H σ δ fp ex)(hi:δ[i]? =some (some (.nd ts)))(hv:σ[i]? =some (some (.ref a')))
  (hf:fp i=a' :: bs) (hx:H a'=some (.lst xs)) (o:Owns G H (Lf C fp ex) ys ts' bs') (hs:bs'.Sublist bs) :
  Rel C io (upd H a' (.lst ys)) σ (δ.set i (some (.nd ts'))) (fpu fp i (a' :: bs')) ex∧Stp false H δ fp (upd H a' (.lst ys)) (δ.set i (some (.nd ts'))) (fpu fp i (a' :: bs')):=by
 have nd:=R.nd i
 rw[hf]at nd
 have hn:=X6.mp nd
 have hm:a'∈fp i:=by rw[hf];exact .head _
 have ne':∀a,¬Foot fp a->a≠a':=λa h z=>h ⟨i,by rw[z];exact hm⟩
 have kp:∀b o,H b=some o->b≠a'->upd H a' (.lst ys) b=some o:=λb o e n=>by rw[Zn n];exact e
 have sub:∀a,a∈a' :: bs'->a∈fp i:=λa m=>by
  rw[hf]
  rcases Xp.mp m with rfl|m
  ·exact .head _
  ·exact .tail _ (hs.subset m)
 have o':Owns G (upd H a' (.lst ys)) (Lf C (fpu fp i (a' :: bs')) (exu ex [])) ys ts' bs':=by
  have f0:∀a,¬Foot fp a->¬Foot (fpu fp i (a' :: bs')) a:=λa h z=>by
   rcases z.of_u with z|⟨j,_,z⟩
   ·exact h ⟨i,sub a z⟩
   ·exact h ⟨j,z⟩
  have f1:∀a (zs:MuO),Lf C fp ex a->Rd H a zs.ho->Lf C (fpu fp i (a' :: bs')) (exu ex []) a∧Rd (upd H a' (.lst ys)) a zs.ho:=λa zs l q=>by
   refine⟨⟨f0 a l.1,λz=>l.2.1 (Js.mp z),l.2.2⟩,?_⟩
   rcases q with q|⟨u,q⟩
   ·exact .inl (kp a _ q (ne' a l.1))
   ·exact .inr ⟨u,kp a _ q (ne' a l.1)⟩
  have f2:∀a (zs:ImO),H a=some zs.ho->upd H a' (.lst ys) a=some zs.ho:=λa zs q=>kp a _ q λz=>ImO.nl q (z▸hx)
  exact o.frame f1 f2 λa m zs q=>kp a _ q λz=>hn.1 (hs.subset (z▸m))
 have key:=R.change (new:=[]) (as':=a' :: bs') (t':=.nd ts') (H':=upd H a' (.lst ys)) hi hv (λb o e nb=>kp b o e λz=>nb (by rw[z];exact hm)) (λb e=>by
   by_cases q:b=a'
   ·subst q;rw[Zr]at e;cases e
   ·rwa[Zn q]at e) (.nd Zr o') (X6.mpr ⟨λm=>hn.1 (hs.subset m),hn.2.sublist hs⟩) (λa m=>.inl (sub a m)) (λa m=>nomatch m)
 exact⟨key.1.drop λa z=>.inl z,key.2⟩
end
variable {G:Xc}
section
variable {X:Cx}{io:List Nat}{p c p' c':Bool}{a b e:Expr}{ma m mi mj:MEt}{pos pp p2 apos cpos px:Pos}{K:Xc}{i:Nat}{x:Str}
theorem Rel.ownNd{C:MC G}{H:Hp}{σ:St}{δ:Zf}{fp:Fp}{ex:Addr->Prop}{ts:List OT}(R:Rel C io H σ δ fp ex)(hi:δ[i]? =some (some (.nd ts))) :
  ∃a' xs bs,σ[i]? =some (some (.ref a'))∧H a'=some (.lst xs)∧Owns G H (Lf C fp ex) xs ts bs∧fp i=a' :: bs:=by
 obtain⟨v,e,o⟩:=R.own i _ hi
 generalize hf:fp i=as at o
 cases o with
 | nd h r=>exact⟨_,_,_,e,h,r,rfl⟩
noncomputable def Zi7(i:Nat)(m:MEt):MSt:=λD δ=>match δ[i]? with
 | some (some (.nd _))=>m δ λr δ1=>match δ1[i]? with
  | some (some (.nd ts))=>ts.length<Xq∧D.nx (δ1.set i (some (.nd (ts ++ [.fz r.data]))))
  | _=>False
 | _=>False
theorem Wr(i:Nat)(he:ME X io p true e m)(hN:X.N[i]? =some x:=by rfl)(hv:Vis X.env.scope x:=by first|exact Qw rfl|exact Qo (Qw rfl)|exact Qo (Qo rfl))(hd:(x==("__debug__" : Str))=false:=by decide)
  (hcd:(x==("__classdict__" : Str))=false:=by decide)
  (hbase:Bc (.Name x px) "append" X.env (eval (.Name x px) X.env)=eval (.Name x px) X.env:=by rfl)
  (hfew:((JD cpos (Xu [e] X.env)).all (λx=>!x.1)&&(backToKw cpos (V3 [] X.env)).all (λx=>x.1.isSome)
   &&decide ([e].length+([]:List Vn).length+(if([]:List Vn).isEmpty then 0 else 1)<30))=true:=by rfl)
  (hline:(apos.endLine==cpos.line)=true:=by rfl) (hs:Xu [e] X.env=(false,eval e X.env) :: Xu [] X.env:=by rfl) (hplain:(JD cpos (Xu [] X.env)).any (·.1)=false:=by rfl)
  (hsw:Br (.Call (.Attribute (.Name x px) "append" apos) [e] [] cpos) none pos.line X.env=pure false:=by rfl) :
  MS X io (.Expr (.Call (.Attribute (.Name x px) "append" apos) [e] [] cpos) pos) (Zi7 i m):=by
 obtain⟨_,A,s⟩:=he
 refine⟨_,Zcy (Znz JR PySem.F.slot_list_append PySem.F.type_list_append Zdf (pv i hN hv hd hcd) (Zbq A Zf2 hs) hbase hfew hline hs hplain) hsw,λC H σ δ fp ex D D' R h E=>?_⟩
 unfold Zi7 at h
 split at h
 case h_2=>exact h.elim
 rename_i ts0 hi0
 obtain⟨a',xs0,bs0,hv0,hx0,_,_⟩:=R.ownNd hi0
 refine⟨_,hv0,.inl ⟨rfl,xs0,.inl (.inl hx0)⟩,?_⟩
 refine s C H σ δ fp ex _ _ R h λH1 v r δ1 fp1 new r1 h1=>?_
 split at h1
 case h_2=>exact h1.elim
 rename_i ts1 hi1
 have R1:=r1.base
 obtain⟨a1,xs1,bs1,hv1,hx1,o1,hf1⟩:=R1.ownNd hi1
 rw[hv0]at hv1
 cases hv1
 have q:=(r1.da R).wide (L':=Lf C fp1 ex) λa l _=>l rfl
 refine⟨a',xs1,v,rfl,rfl,hx1,by rw[o1.length];exact h1.1,?_⟩
 have o2:=o1.snoc (.fz q)
 obtain⟨R2,S2⟩:=R1.top hi1 hv0 hf1 hx1 o2 (by simp)
 exact E.nx _ σ _ _ R2 (r1.stp.kp.trans S2.kp) h1.2
theorem SE.pureAfter{t:TE}{C:MC G}{H:Hp}{σ:St}{δ:Zf}{fp:Fp}{ex:Addr->Prop}{K':OT->Zf->Prop}{Q:VK}(s:SE G io true c t m)(R:Rel C io H σ δ fp ex)(h:m δ K')(k:∀H' v r,Rel C io H' σ δ fp ex->Same H H'->Da G H' (λa=>c=true->Lf C fp ex a) v r.data->K' r δ->Q v H'):t σ H Q :=
 s C H σ δ fp ex _ _ R h λH1 v r δ1 fp1 new r1 h1=>by
  obtain⟨e1,e2⟩:=r1.stp.env rfl
  have q:=r1.da R
  have R1:=r1.base
  rw[e1]at R1 h1
  rw[e2]at R1 q
  exact k H1 v r R1 (λb o e=>r1.stp.keep b o e (.inl rfl)) q h1
theorem Owns.deep{H:Hp}{L:Addr->Prop}{b':Addr}{ws ws':List V}{us us':List OT}(hb:H b'=Bp (HO.lst ws))(hL:¬L b')(hc:∀cs,Owns G H L ws us cs->∃cs',Owns G H L ws' us' cs'∧cs'.Sublist cs) :
  ∀{xs:List V} {ts:List OT} {as:List Addr} {j:Nat},Owns G H L xs ts as->as.Nodup->xs[j]? =Bp (.ref b')->ts[j]? =Bp (.nd us)->∃as',Owns G (upd H b' (.lst ws')) L xs (ts.set j (.nd us')) as'∧as'.Sublist as∧b'∈as
 | _,_,_,_,.nil,_,e,_=>by simp at e
 | _,_,_,0,.cons (as:=as) (bs:=bs) k t,nd,e,e'=>by
  simp at e e'
  subst e e'
  have nd':=JF.mp nd
  have kp:∀a o,a≠b'->H a=Bp o->upd H b' (.lst ws') a=Bp o:=λa o n q=>by rw[Zn n];exact q
  have f1:∀a (zs:MuO),L a->Rd H a zs.ho->L a∧Rd (upd H b' (.lst ws')) a zs.ho:=λa zs l q=>⟨l,by
   have na:a≠b':=λz=>hL (z▸l)
   rcases q with q|⟨u,q⟩
   ·exact .inl (kp a _ na q)
   ·exact .inr ⟨u,kp a _ na q⟩⟩
  have f2:∀a (zs:ImO),H a=Bp zs.ho->upd H b' (.lst ws') a=Bp zs.ho:=λa zs q=>kp a _ (λz=>ImO.nl q (z▸hb)) q
  cases k with
  | nd h r=>
   rename_i xs0 as0
   rw[hb]at h
   cases h
   have nd2:=X6.mp nd'.1
   obtain⟨cs',o',s'⟩:=hc _ r
   refine⟨b' :: cs' ++ bs,.cons (.nd Zr (o'.frame f1 f2 λa m zs q=>kp a _ (λz=>nd2.1 (s'.subset (z▸m))) q)) (t.frame f1 f2 λa m zs q=>kp a _ (λz=>nd'.2.2 b' (.head _) a m z.symm) q),List.Sublist.append_right (List.Sublist.cons₂ _ s') bs,Qp _ (.head _)⟩
 | _,_,_,j+1,.cons (as:=as) (bs:=bs) k t,nd,e,e'=>by
  have nd':=JF.mp nd
  obtain⟨as',o,s,m⟩:=Owns.deep hb hL hc (j:=j) t nd'.2.1 (by simpa using e) (by simpa using e')
  have nb:b'∉as:=λz=>nd'.2.2 b' z b' m rfl
  refine⟨as ++ as',.cons ?_ o,List.Sublist.append_left s as,Qa _ m⟩
  have kp:∀a o,a≠b'->H a=Bp o->upd H b' (.lst ws') a=Bp o:=λa o n q=>by rw[Zn n];exact q
  refine k.frame (λa zs l q=>⟨l,?_⟩) (λa zs q=>kp a _ (λz=>ImO.nl q (z▸hb)) q) λa m' zs q=>kp a _ (λz=>nb (z▸m')) q
  have na:a≠b':=λz=>hL (z▸l)
  rcases q with q|⟨u,q⟩
  ·exact .inl (kp a _ na q)
  ·exact .inr ⟨u,kp a _ na q⟩
end
variable {G:Xc}
mutual
noncomputable def Zy6:OT->Bool
 | .fz d=>Zac d
 | .nd ts=>Zrs ts
 | .tp ts=>Zrs ts
 | .dc _ _ _=>false
noncomputable def Zrs:List OT->Bool
 | []=>true
 | t :: ts=>Zy6 t&&Zrs ts
end
section
variable {X:Cx}{io:List Nat}{p c:Bool}{e:Expr}{m:MEt}
theorem Rel.freeze{C:MC G}{H:Hp}{σ:St}{δ:Zf}{fp:Fp}{ex:Addr->Prop}{i:Nat}{t:OT}(R:Rel C io H σ δ fp ex)(hio:i∉io)(hi:δ[i]? =some (some t)):Rel C io H σ (δ.set i (some (.fz t.data))) (fpu fp i []) ex:=by
 have hil:i<δ.length:=(Xn.mp hi).1
 have sub:∀j a,a∈fpu fp i [] j->j≠i∧a∈fp j:=λj a m=>by
  by_cases ej:j=i
  ·subst ej;rw[Zu]at m;exact nomatch m
  ·rw[Z7 ej]at m;exact⟨ej,m⟩
 have lw:∀a,Lf C fp ex a->Lf C (fpu fp i []) ex a:=λa l=>⟨λ⟨j,z⟩=>l.1 ⟨j,(sub j a z).2⟩,l.2.1,l.2.2⟩
 have ln:∀a∈fp i,Lf C (fpu fp i []) ex a:=λa m=>⟨λ⟨j,z⟩=>(sub j a z).1 (R.dj j i a (sub j a z).2 m),R.dx i a m,.inr (by
  rcases R.new i a m with z|z
  ·exact absurd z.1 hio
  ·exact z)⟩
 refine⟨by rw[V6];exact R.len,λj t' e=>?_,λj h=>?_,λj=>?_,λj k a h1 h2=>R.dj j k a (sub j a h1).2 (sub k a h2).2,λj a h z=>R.dx j a (sub j a h).2 z,R.xa,R.fr,R.al,λj a h=>R.new j a (sub j a h).2,R.io⟩
 ·by_cases ej:j=i
  ·subst ej
   rw[QG hil]at e
   cases e
   obtain⟨v,e1,o⟩:=R.own j t hi
   exact⟨v,e1,by rw[Zu];exact .fz (o.da (λa l _=>lw a l) ln)⟩
  ·rw[Qv (Bl ej)]at e
   obtain⟨w,e1,o⟩:=R.own j t' e
   exact⟨w,e1,by rw[Z7 ej];exact o.wide λa l _=>lw a l⟩
 ·by_cases ej:j=i
  ·subst ej;rw[Zu]
  ·rw[Z7 ej]
   exact R.emp j λt' z=>h t' (by rw[Qv (Bl ej)];exact z)
 ·by_cases ej:j=i
  ·subst ej;rw[Zu];exact .nil
  ·rw[Z7 ej];exact R.nd j
noncomputable def Zio(i:Nat)(u:MSt):MSt:=λD δ=>match δ[i]? with|some (some t)=>u D (δ.set i (some (.fz t.data)))|_=>False
theorem Zgi{st:Stmt}{u:MSt}(i:Nat)(h:MS X io st u)(hio:i∉io:=by decide):MS X io st (Zio i u):=by
 obtain⟨_,A,s⟩:=h
 exact⟨_,A,λC H σ δ fp ex D D' R h E=>by
  unfold Zio at h
  split at h
  case h_2=>exact h.elim
  rename_i t hi
  refine s C H σ _ _ ex D D' (R.freeze hio hi) h (E.shift ⟨λb o e _=>e,λz=>(nomatch z),λa z=>?_,λb e=>e⟩)
  rcases z.of_u with z|⟨j,_,z⟩
  ·exact nomatch z
  ·exact .inl ⟨j,z⟩⟩
end
variable {G:Xc}
noncomputable def Z53(ds:List Xa)(k:OT->Prop):Prop:=∃ns:List Int,ds=[.list (ns.map Xx)]∧ns.length≤63∧k (.fz (.bool true))
theorem Z78{H:Hp}{a:Addr}{ns:List Int}{E:XK}(hl:ns.length≤63)(h:SqL G H a (ns.map V.int)):spD G Z53 [.ref a] H (λv _=>v= .bl true) E:=by
 refine⟨λ_=>True,[.list (ns.map Xx)],λr=>r= .fz (.bool true),.cons ?_ .nil,⟨ns,rfl,hl,rfl⟩,λr v H' new kr s o _ _=>?_⟩
 ·rcases h with h|h
  ·exact .lst trivial h (.ints ns)
  ·exact .scr h
 ·subst kr
  cases o with
  | fz q=>cases q;rfl
section
variable {P:XS}{w:Qq}{mg:Str->Option Xe}{base:Heap}{CX:CXT}{n:Nat}{f:Addr}{fd:Qc}{ps:List Str}
theorem Da.ints_sq{H:Hp}{L:Addr->Prop}{v:V}{ns:List Int}(h:Da G H L v (.list (ns.map Xx))):∃a,v= .ref a∧SqL G H a (ns.map V.int):=by
 generalize e:JN (ns.map Xx)=d at h
 cases h with
 | lst l e1 r=>
  cases e
  rw[r.int_inv]at e1
  exact⟨_,rfl,.inl e1⟩
 | scr k=>
  rename_i a ms
  have e':=Uj e
  have:ns=ms:=(List.map_inj_right (λ_ _ h=>by cases h;rfl)).mp e'
  subst this
  exact⟨_,rfl,k.sq⟩
 | _=>cases e
end
@[simp] theorem Zgd:OT.datas []=[]:=rfl
@[simp] theorem Zei(t:OT)(ts:List OT):OT.datas (t :: ts)=t.data :: OT.datas ts:=rfl
theorem Zmz{α:Type}{xs:List α}{i:Int}(h0:0≤i):atI xs i=xs[i.toNat]?:=by
 unfold atI ixN
 rw[if_pos h0]
 split
 ·rfl
 ·rename_i h
  symm
  exact QD.mpr (by omega)
@[simp] theorem Yfv{α:Type}(x:α)(xs:List α):atI (x :: xs) 0=some x:=by
 rw[Zmz (by decide)];rfl
@[simp] theorem Yf4{α:Type}(x y:α)(xs:List α):atI (x :: y :: xs) 1=some y:=by
 rw[Zmz (by decide)];rfl
@[simp] theorem Ygo{α:Type}(x y z:α)(xs:List α):atI (x :: y :: z :: xs) 2=some z:=by
 rw[Zmz (by decide)];rfl
@[simp] theorem Z9k(ds:List Xa)(i:Int):ixD (.list ds) (.int i)=atI ds i:=rfl
@[simp] theorem Ybl(ds:List Xa)(i:Int):ixD (.tuple ds) (.int i)=atI ds i:=rfl
@[simp] theorem Z3v(ds:List Xa):Zuq (.list ds)=some ds.length:=rfl
@[simp] theorem Z9e(ds:List Xa):Zuq (.tuple ds)=some ds.length:=rfl
noncomputable def Zle(r:List Rat):Xa:=.list (r.map frD)
noncomputable def tbD(T:List (List Rat)):Xa:=.list (T.map Zle)
noncomputable def Z9m(r:List Rat):OT:=.nd (r.map λq=>.fz (frD q))
noncomputable def tbT(T:List (List Rat)):OT:=.nd (T.map Z9m)
@[simp] theorem Ztd(r:List Rat):(Z9m r).data=Zle r:=by
 unfold Z9m Zle
 rw[OT.data_nd,Qz]
 rfl
@[simp] theorem Z80(T:List (List Rat)):(tbT T).data=tbD T:=by
 unfold tbT tbD
 rw[OT.data_nd,Qz]
 exact congrArg JN (Qh λr _=>Ztd r)
noncomputable def Sq(n:Nat)(T:List (List Rat)):Prop:=T.length=n∧∀r∈T,r.length=n
noncomputable def dd(T:List (List Rat))(i j:Nat):Rat:=(T.getD i []).getD j 0
@[simp] theorem Ya9(T:List (List Rat)):Zuq (tbD T)=some T.length:=by unfold tbD Zuq;simp
@[simp] theorem Z9b(r:List Rat):Zuq (Zle r)=some r.length:=by unfold Zle Zuq;simp
@[simp] theorem Ybd(q:Rat):Zac (frD q)=true:=by unfold frD fr;simp[Zac,Zlb]
theorem Zmq{n a:Nat}(h:a<n):ixN n (a:Int)=some a:=by
 unfold ixN
 rw[if_pos (by omega),if_pos (by omega)];simp
theorem Sq.ixN{n a:Nat}{T:List (List Rat)}(h:Sq n T)(ha:a<n):ixN (T.map Z9m).length (a:Int)=some a:=Zmq (by rw[Xd,h.1];exact ha)
theorem Zwh{d:Xa}(h:Z2 d=true):Q5 d d=true:=Zxz h h rfl
structure Sh(n:Nat)(d:Xa):Prop where
 lay:JT d=true
 dep:PyData.depth d≤n
theorem Sh.shp{n:Nat}{d:Xa}(h:Sh n d)(hn:n≤64:=by decide):Z4z d:=⟨by
 show(JT d&&decide (PyData.depth d≤64))=true
 rw[h.lay,decide_eq_true (Ql h.dep hn)];rfl⟩
theorem Sh.mono{m n:Nat}{d:Xa}(h:Sh m d)(k:m≤n):Sh n d:=⟨h.lay,Ql h.dep k⟩
theorem Zkr{n:Nat}:∀{ds:List Xa},(∀d∈ds,Sh n d)->JS ds=true∧UG ds≤n
 | [],_=>⟨by rw[JS],by rw[UG];exact Qy _⟩
 | d :: ds,h=>by
  obtain⟨h1,h2⟩:=Zkr λe m=>h e (.tail _ m)
  have h3:=h d (.head _)
  refine⟨by rw[JS,h3.lay,h1];rfl,?_⟩
  rw[UG]
  exact Nat.max_le.mpr ⟨h3.dep,h2⟩
theorem Zen{n:Nat}{ds:List Xa}(h:∀d∈ds,Sh n d):Sh (n+1) (.list ds) :=
 ⟨by rw[JT];exact(Zkr h).1,by rw[PyData.depth];exact Ux (Zkr h).2⟩
theorem Zw7{n:Nat}{ds:List Xa}(h:∀d∈ds,Sh n d):Sh (n+1) (.tuple ds) :=
 ⟨by rw[JT];exact(Zkr h).1,by rw[PyData.depth];exact Ux (Zkr h).2⟩
theorem Zyc(i:Int):Sh 0 (.int i):=⟨rfl,Nat.le_of_eq rfl⟩
section
variable {X:Cx}{pins:List (Addr×Obj)}{σ:St}{H:Hp}{s:Xg}
theorem Inv.turnTup{h':Heap}{ch:List Addr}{T:Addr}{xs:List V}{its:List Xe}(I:Inv X pins σ H s)(f:∀b∈ch,Zjo X pins H b)(k:∀b o,b∉ch->s.heap.get? b=some o->h'.get? b=some o)
  (th:∀b∈ch,∃o,h'.get? b=some o) (hT:s.heap.objs.size≤T) (hz:xs.length≤Xq) (r:Vals xs its) (ht:IsTup h' T its.toArray):Inv X pins σ (upd H T (.tup xs)) { s with heap:=h' }:=by
 have hn:H T=none:=I.hok.fresh hT
 have nch:∀b u,H b=some u->b∉ch:=λb u e z=>by rw[(f b z).1]at e;cases e
 have new:ObjOk X.prog X.w (upd H T (.tup xs)) h' T (.tup xs):=⟨hz,its,r,ht⟩
 refine I.call (ch:=ch) (g':=s.gens) (d':=s.drawn) (t':=s.toks) ⟨λb o e _ _ hc=>k b o hc e,λb o e _ _ hc=>⟨o.slots,k b o hc e⟩,λb o e n _=>?_,λb o e hc=>?_,λb ys e=>?_,λb o u e=>?_,λb ps e=>?_⟩ (λb u e=>?_) I.bare (λb hb=>?_)
 ·rw[Zn (λz=>by rw[z]at e;exact absurd (XH e) (Nat.not_lt.mpr hT))];exact n
 ·exact⟨o,k b o hc e⟩
 ·rw[Zn (Yl e hn)];exact e
 ·rw[Zn (Yl e hn)];exact e
 ·exact⟨#[],by rw[Zn (Yl e hn),e];simp⟩
 ·by_cases hb:b=T
  ·subst hb;rw[Zr]at e;cases e;exact new
  ·rw[Zn hb]at e
   refine(I.hok b u e).stay (λc v hc q=>k c v ?_ q) (λc q=>by rw[Zn (Yl q hn)];exact q) λc ys q=>by rw[Zn (Yl q hn)];exact q
   rcases hc with rfl|hc
   ·exact nch _ _ e
   ·exact nch _ _ hc
 ·obtain⟨f0,f1,f2,f3,f4,f5⟩:=f b hb
  exact⟨f3,f1,f4,f5⟩
theorem Inv.turnAll{h':Heap}{ch:List Addr}(I:Inv X pins σ H s)(f:∀b∈ch,Zjo X pins H b)(k:∀b o,b∉ch->s.heap.get? b=some o->h'.get? b=some o):Inv X pins σ H { s with heap:=h' }:=by
 have nch:∀b u,H b=some u->b∉ch:=λb u e z=>by rw[(f b z).1]at e;cases e
 refine I.call (ch:=ch) (g':=s.gens) (d':=s.drawn) (t':=s.toks) ⟨λb o e _ _ hc=>k b o hc e,λb o e _ _ hc=>⟨o.slots,k b o hc e⟩,λb o e n _=>n,λb o e hc=>⟨o,k b o hc e⟩,λb ys e=>e,λb o u e=>e,λb ps e=>⟨#[],by rw[e];simp⟩⟩ (λb u e=>?_) I.bare (λb hb=>?_)
 ·refine(I.hok b u e).stay (λc v hc q=>k c v ?_ q) (λc q=>q) λc ys q=>q
  rcases hc with rfl|hc
  ·exact nch _ _ e
  ·exact nch _ _ hc
 ·obtain⟨f0,f1,f2,f3,f4,f5⟩:=f b hb
  exact⟨f3,f1,f4,f5⟩
end
variable {G:Xc}
section
variable {X:Cx}{io:List Nat}{p c:Bool}{e a b tg:Expr}{m:MEt}{mr:MAt}
theorem Rel.keptList{C:MC G}{H:Hp}{σ:St}{δ:Zf}{fp:Fp}{ex:Addr->Prop}{v:V}{ds:List Xa}(R:Rel C io H σ δ fp ex)(q:Da G H (λa=>c=true->Lf C fp ex a) v (.list ds)) :
  ∃a xs,v= .ref a∧∀H':Hp,(∀b o,H b=some o->(c=false∨¬Foot fp b)->H' b=some o)->SqL G H' a xs∧Das G H' (λa=>c=true->(Lf C fp ex a∧H a≠none)) xs ds:=by
 generalize hd:JN ds=d at q
 cases q with
 | lst l e r=>
  cases hd
  rename_i a0 xs0
  refine⟨a0,xs0,rfl,λH' kp=>?_⟩
  obtain⟨f1,f2⟩:=R.kept kp
  exact⟨.inl (f1 _ (.lst _) l e).2,r.frame f1 f2⟩
 | scr k=>
  rename_i a ns
  have:=Uj hd
  subst this
  exact⟨a,_,rfl,λH' _=>⟨k.sq,.ints ns⟩⟩
 | _=>cases hd
noncomputable def Zo7(as bs:List Xa):List Xa:=(as.zip bs).map λx=>.tuple [x.1,x.2]
theorem Znl{as bs:List Xa}{i:Nat}{d:Xa}(h:(Zo7 as bs)[i]? =some d):∃x y,as[i]? =some x∧bs[i]? =some y∧d= .tuple [x,y]:=by
 unfold Zo7 at h
 rw[Xl]at h
 cases e:(as.zip bs)[i]? with
 | none=>rw[e]at h;cases h
 | some z=>
  rw[e]at h
  cases h
  obtain⟨h1,h2⟩:=List.getElem?_zip_eq_some.mp e
  exact⟨z.1,z.2,h1,h2,rfl⟩
theorem Zrj{as bs:List Xa}{i:Nat}(h:(Zo7 as bs)[i]? =none):as.length≤i∨bs.length≤i:=by
 unfold Zo7 at h
 have:=QD.mp h
 simp at this
 omega
@[simp] theorem Z2m(as bs:List Xa):(Zo7 as bs).length=min as.length bs.length:=by simp[Zo7]
end
variable {G:Xc}
section
variable {X:Cx}{io:List Nat}{c1 c2 c3:Bool}{a b e:Expr}{ma mb mc:MEt}{pos:Pos}{f g:Int->Int->Bool}
noncomputable def Zhz(f g:Int->Int->Bool)(ma mb mc:MEt):MEt:=λδ K=>ma δ λx δ1=>mb δ1 λy δ2=>asI x.data λi=>asI y.data λj=>if f i j=true then mc δ2 λz δ3=>asI z.data λk=>K (.fz (.bool (g j k))) δ3 else K (.fz (.bool false)) δ2
theorem Zxj{ta tb tc:TE}(ha:SE G io true c1 ta ma)(hb:SE G io true c2 tb mb)(hc:SE G io true c3 tc mc):SE G io true true (Zrx (rI0 λi j=>.bl (f i j)) (rI0 λi j=>.bl (g i j)) ta tb tc) (Zhz f g ma mb mc):=by
 intro C H σ δ fp ex K Q R h k
 refine ha.pureAfter R h λH1 x u R1 s1 q1 h1=>?_
 refine hb.pureAfter R1 h1 λH2 y v R2 s2 q2 h2=>?_
 obtain⟨i,rfl,h2⟩:=q1.intInv h2
 obtain⟨j,rfl,h2⟩:=q2.intInv h2
 refine⟨i,j,rfl,rfl,f i j,rfl,?_⟩
 by_cases hf:f i j=true
 ·rw[if_pos hf]at h2⊢
  refine hc.pureAfter R2 h2 λH3 z w R3 s3 q3 h3=>?_
  obtain⟨l,rfl,h3⟩:=q3.intInv h3
  have s13:Same H H3:=(s1.trans s2).trans s3
  exact⟨j,l,rfl,rfl,k H3 _ _ δ fp [] (.fz R3 (.same s13 s13.al) (.bl _)) h3⟩
 ·rw[if_neg hf]at h2⊢
  have s12:Same H H2:=s1.trans s2
  exact k H2 _ _ δ fp [] (.fz R2 (.same s12 s12.al) (.bl _)) h2
theorem Z2o{op op':CmpOp}(ho:OpR X (Qx op) (rI0 λi j=>.bl (f i j)))(ho':OpR X (Qx op') (rI0 λi j=>.bl (g i j)))(ha:ME X io true c1 a ma)(hb:ME X io true c2 b mb)(hc:ME X io true c3 e mc)
  (hm:lastMarks [op,op'] [b,e]=false:=by with_unfolding_all rfl):ME X io true true (.Compare a [op,op'] [b,e] pos) (Zhz f g ma mb mc):=by
 obtain⟨_,A,sa⟩:=ha
 obtain⟨_,B,sb⟩:=hb
 obtain⟨_,D,sc⟩:=hc
 exact⟨_,Zvl ho ho' A B D hm,Zxj sa sb sc⟩
theorem Zwg{op op':CmpOp}(ho:OpR X (Qx op) (rI0 λi j=>.bl (f i j)))(ho':OpR X (Qx op') (rI0 λi j=>.bl (g i j)))(ha:ME X io true c1 a ma)(hb:ME X io true c2 b mb)(hc:ME X io true c3 e mc)
  (hm:lastMarks [op,op'] [b,e]=false:=by with_unfolding_all rfl):MT X io true (.Compare a [op,op'] [b,e] pos) (λδ K=>Zhz f g ma mb mc δ (kB K)):=by
 obtain⟨_,A,sa⟩:=ha
 obtain⟨_,B,sb⟩:=hb
 obtain⟨_,D,sc⟩:=hc
 exact⟨_,Zum ho ho' A B D hm,Z1f (Zxj sa sb sc)⟩
end
theorem Zhr:∀{ns:List Int} {its:List Xe},Vals (ns.map V.int) its->∃xs:List (Int×Tok),its=xs.map (λp=>Vm p.1 p.2)∧xs.map (·.1)=ns
 | [],_,.nil=>⟨[],rfl,rfl⟩
 | n :: ns,_,.cons r rs=>by
  obtain⟨t,e⟩:=(show∃t,_=Vm n t from r)
  obtain⟨xs,h1,h2⟩:=Zhr rs
  exact⟨(n,t) :: xs,by rw[e,h1];rfl,by rw[X3,h2]⟩
section
variable {X:Cx}{io:List Nat}{p c:Bool}{a b e:Expr}{ma mb m:MEt}{pos pl:Pos}
end
end L2
namespace L2
open PySem PySem.Spec PyProof.Rows PySem.SeqAt
variable {G:Xc}
section
variable {X:Cx}{io:List Nat}{p c:Bool}{a b e:Expr}{ma mb m:MEt}{mr:MAt}{pos pos' pl pr:Pos}
end
theorem Zii:∀{ns:List Int} {its:List Xe},Vals (ns.map V.int) its->BJ its ns
 | [],_,.nil=>.nil
 | n :: ns,_,.cons r rs=>by
  obtain⟨t,e⟩:=(show∃t,_=Vm n t from r)
  rw[e]
  exact .cons n t (Zii rs)
section
variable {X:Cx}{io:List Nat}{p c:Bool}{a b e:Expr}{ma mb m:MEt}{mr:MAt}{pos pos' pl pr:Pos}
noncomputable def Z9c(i:Nat)(m:MEt):MEt:=λδ K=>match δ[i]? with
 | some (some (.nd _))=>m δ λn δ1=>match δ1[i]? with
  | some (some (.nd ts))=>asI n.data λj=>match ixN ts.length j with
   | some k=>match ts[k]? with
    | some (.fz d)=>ts.length≤Xq∧K (.fz d) (δ1.set i (some (.nd (ts.eraseIdx k))))
    | _=>False
   | none=>False
  | _=>False
 | _=>False
theorem Owns.erase{H:Hp}{L:Addr->Prop}:∀{xs:List V} {ts:List OT} {as:List Addr} {k:Nat} {d:Xa},Owns G H L xs ts as->ts[k]? =Bp (.fz d)->Owns G H L (xs.eraseIdx k) (ts.eraseIdx k) as
 | _,_,_,_,_,.nil,e=>by simp at e
 | _,_,_,0,d,.cons q r,e=>by
  simp at e
  subst e
  cases q
  exact r
 | _,_,_,k+1,d,.cons q r,e=>.cons q (Owns.erase (k:=k) r (by simpa using e))
theorem Ycb{x:Str}{px:Pos}{apos cpos:Pos}(i:Nat)(he:ME X io p c e m)(hN:X.N[i]? =some x:=by rfl)(hv:Vis X.env.scope x:=by first|exact Qw rfl|exact Qo (Qw rfl)|exact Qo (Qo rfl))(hd:(x==("__debug__" : Str))=false:=by decide)
  (hcd:(x==("__classdict__" : Str))=false:=by decide)
  (hbase:Bc (.Name x px) "pop" X.env (eval (.Name x px) X.env)=eval (.Name x px) X.env:=by rfl)
  (hfew:((JD cpos (Xu [e] X.env)).all (λx=>!x.1)&&(backToKw cpos (V3 [] X.env)).all (λx=>x.1.isSome)
   &&decide ([e].length+([]:List Vn).length+(if([]:List Vn).isEmpty then 0 else 1)<30))=true:=by rfl)
  (hline:(apos.endLine==cpos.line)=true:=by rfl) (hs:Xu [e] X.env=(false,eval e X.env) :: Xu [] X.env:=by rfl) (hplain:(JD cpos (Xu [] X.env)).any (·.1)=false:=by rfl) :
  ME X io false true (.Call (.Attribute (.Name x px) "pop" apos) [e] [] cpos) (Z9c i m):=by
 obtain⟨_,A,s⟩:=he
 refine⟨_,Znz JR PySem.F.slot_list_pop PySem.F.type_list_pop Zva (pv i hN hv hd hcd) (Zbq A Zf2 hs) hbase hfew hline hs hplain,λC H σ δ fp ex K Q R h kk=>?_⟩
 unfold Z9c at h
 split at h
 case h_2=>exact h.elim
 rename_i ts0 hi0
 obtain⟨a',xs0,bs0,hv0,hx0,_,_⟩:=R.ownNd hi0
 refine⟨_,hv0,.inl ⟨rfl,xs0,.inl (.inl hx0)⟩,?_⟩
 refine s C H σ δ fp ex _ _ R h λH1 v r δ1 fp1 new r1 h1=>?_
 split at h1
 case h_2=>exact h1.elim
 rename_i ts1 hi1
 obtain⟨j,rfl,h1⟩:=(r1.da R).intInv h1
 split at h1
 case h_2=>exact h1.elim
 rename_i k hk
 split at h1
 case h_2=>exact h1.elim
 rename_i d hd1
 have R1:=r1.base
 obtain⟨a1,xs1,bs1,hv1,hx1,o1,hf1⟩:=R1.ownNd hi1
 rw[hv0]at hv1
 cases hv1
 obtain⟨y,cs,hy,oy,_⟩:=o1.get hd1
 have qy:Da X.K H1 (Lf C fp1 ex) y d:=by cases oy;assumption
 obtain⟨z1,z2,z3,z4⟩:=Zrp hk
 have hz:=h1.1
 have hsz:Xq=16777216:=XN
 refine⟨a',xs1,j,k,y,rfl,rfl,hx1,by omega,by omega,by rw[o1.length];exact z1,hy,?_⟩
 obtain⟨R2,S2⟩:=R1.top hi1 hv0 hf1 hx1 (o1.erase hd1) (List.Sublist.refl _)
 have S:=(r1.stp.trans S2).cast (p':=false) λz=>nomatch z
 refine kk _ _ _ _ _ [] (.fz R2 S ?_) h1.2
 have ne':∀a,¬Foot fp1 a->a≠a':=λa h z=>h ⟨i,by rw[z,hf1];exact .head _⟩
 have f0:∀a,¬Foot fp1 a->¬Foot (fpu fp1 i (a' :: bs1)) a:=λa h z=>by
  rcases z.of_u with z|⟨j,_,z⟩
  ·exact h ⟨i,by rw[hf1];exact z⟩
  ·exact h ⟨j,z⟩
 refine qy.frame (λa zs l q=>⟨λ_=>⟨f0 a l.1,l.2.1,l.2.2⟩,?_⟩) λa zs q=>?_
 ·rcases q with q|⟨u,q⟩
  ·exact .inl (by rw[Zn (ne' a l.1)];exact q)
  ·exact .inr ⟨u,by rw[Zn (ne' a l.1)];exact q⟩
 ·rw[Zn]
  ·exact q
  ·intro z
   exact ImO.nl q (z▸hx1)
end
end L2
namespace L2
open PySem PySem.Spec PyProof.Rows
structure Apart(X:Cx)(pins:List (Addr×Obj))(H:Hp)(b:Addr):Prop where
 fr:H b=none
 new:X.s₀.heap.get? b=none
 loc:b≠X.env.locals
 cel:∀x c,X.env.cells.lookup x=some c->c≠b
 pin:∀p∈X.pn ++ pins,p.1≠b
section
variable {X:Cx}{pins:List (Addr×Obj)}{σ:St}{H H':Hp}{s:Xg}{h':Heap}{b a C:Addr}
section
variable {M:Model}{A:Qs}{E:Xe->Xg->Prop}{Q:Unit->Xg->Prop}{ch:List Addr}
end
end
noncomputable def Zuo(K:Xc)(C:Addr):Prop:=PySem.W.excIn K C [.type "ValueError",.type "Exception",.type "BaseException",.type "object"] "ValueError.__new__"=true
noncomputable abbrev MXt:=Zf->(Addr->Zf->Prop)->Prop
section
variable {X:Cx}{io:List Nat}{p c:Bool}{e:Expr}{es:List Expr}{mr:MAt}{m:MXt}{pos:Pos}{st:Stmt}{sts a b:List Stmt}{u:MSt}{w v:MXt}{mt:MTt}{i:Nat}{x:Str}
end
section
variable {P:XS}{w:Qq}{K:Xc}{mg:Str->Option Xe}{base:Heap}
end
section
variable {X:Cx}{io:List Nat}{p c:Bool}{e:Expr}{es:List Expr}{mr:MAt}{pos pp:Pos}{k:Nat}{f:Addr}{fd:Qc}{ps:List Str}{x:Str}
end
section
variable {X:Cx}{pins:List (Addr×Obj)}{σ:St}{H:Hp}{s:Xg}{a C:Addr}
noncomputable abbrev Cx.suite(X:Cx)(a:Addr):Cx:={ X with A:=X.A.mark (some (.ref a)),calm:=false }
end
theorem Zw4(b:Bool)(k:Bool->Prop):asB (.bool b) k=k b:=rfl
inductive Ya1:V->Xe->Prop where
 | own (D:Addr):Ya1 (.ref D) (.ref D)
 | ty (T:String):Ya1 (.ty T) (.type T)
inductive ClsVs:List V->List Xe->Prop where
 | nil:ClsVs [] []
 | cons {v:V} {c:Xe} {vs:List V} {cs:List Xe}:Ya1 v c->ClsVs vs cs->ClsVs (v :: vs) (c :: cs)
theorem ClsVs.length:∀{vs:List V} {cs:List Xe},ClsVs vs cs->vs.length=cs.length
 | _,_,.nil=>rfl
 | _,_,.cons _ t=>by simp[t.length]
section
variable {X:Cx}{io:List Nat}{p c:Bool}{a b:Expr}{ma:MEt}{pos pp p2:Pos}
end
end L2
namespace L2
open PySem PySem.Spec PyProof.Rows PySem.P
section
variable {prog:XS}{w:Qq}{A:Qs}{E:Xe->Xg->Prop}{s:Xg}{e t0 C:Addr}{o:Obj}{vs:Array Xe}{K:Xc}{m:Str}{tk:Tok}
structure Yg5(s:Xg)(e C t0:Addr)(m:Str)(tk:Tok):Prop where
 ob:∃o vs,s.heap.get? e=some o∧o.cls= .ref C∧o.data= .fields vs∧vs[0]? =some (.ref t0)
 tx:s.heap.TupAt t0 [.str m tk]
end
section
variable {X:Cx}{C:Addr}{x j:Str}{jk:Nat}{np cpos pos kp p1:Pos}
end
end L2
namespace L2
open PySem PySem.Spec PyProof.Rows
variable {G:Xc}
theorem Rel.topN{io:List Nat}{C:MC G}{H:Hp}{σ:St}{δ:Zf}{fp:Fp}{ex:Addr->Prop}{i:Nat}{ts ts':List OT}{a':Addr}{xs ys:List V}{bs bs' new:List Addr}(R:Rel C io H σ δ fp (exu ex new))(hi:δ[i]? =some (some (.nd ts)))(hv:σ[i]? =some (some (.ref a')))
  (hf:fp i=a' :: bs) (hx:H a'=some (.lst xs)) (o:Owns G H (Lf C fp (exu ex new)) ys ts' bs') (hs:∀a∈bs',a∈bs∨a∈new) (ndb:(a' :: bs').Nodup) (hn:∀a∈new,C.H₀ a=none∧¬ex a) :
  Rel C io (upd H a' (.lst ys)) σ (δ.set i (some (.nd ts'))) (fpu fp i (a' :: bs')) ex∧∀a,Foot (fpu fp i (a' :: bs')) a->Foot fp a∨a∈new:=by
 have hil:i<δ.length:=(Xn.mp hi).1
 have hm:a'∈fp i:=by rw[hf];exact .head _
 have kp:∀b o,H b=some o->b≠a'->upd H a' (.lst ys) b=some o:=λb o e n=>by rw[Zn n];exact e
 have mem:∀a,a∈a' :: bs'->a∈fp i∨a∈new:=λa m=>by
  rw[hf]
  rcases Xp.mp m with rfl|m
  ·exact .inl (.head _)
  ·exact(hs a m).imp (λz=>.tail _ z) id
 have sub:∀a,Foot (fpu fp i (a' :: bs')) a->Foot fp a∨a∈new:=λa z=>by
  rcases z.of_u with z|⟨j,_,z⟩
  ·exact(mem a z).imp (λz=>⟨i,z⟩) id
  ·exact .inl ⟨j,z⟩
 have lw:∀a,Lf C fp (exu ex new) a->Lf C (fpu fp i (a' :: bs')) ex a:=λa l=>⟨λz=>(sub a z).elim l.1 λz=>l.2.1 (.inr z),λz=>l.2.1 (.inl z),l.2.2⟩
 have f1:∀a (zs:MuO),Lf C fp (exu ex new) a->Rd H a zs.ho->Lf C (fpu fp i (a' :: bs')) ex a∧Rd (upd H a' (.lst ys)) a zs.ho:=λa zs l q=>by
  have na:a≠a':=λz=>l.1 ⟨i,by rw[z];exact hm⟩
  refine⟨lw a l,?_⟩
  rcases q with q|⟨u,q⟩
  ·exact .inl (kp a _ q na)
  ·exact .inr ⟨u,kp a _ q na⟩
 have f2:∀a (zs:ImO),H a=some zs.ho->upd H a' (.lst ys) a=some zs.ho:=λa zs q=>kp a _ q λz=>ImO.nl q (z▸hx)
 have hn':=X6.mp ndb
 refine⟨⟨by rw[V6];exact R.len,λj t' e=>?_,λj h=>?_,λj=>?_,λj k a h1 h2=>?_,λj a h z=>?_,λa z=>?_,λb ob e nb=>?_,λb e=>?_,λj a h=>?_,R.io⟩,sub⟩
 ·by_cases ej:j=i
  ·subst ej
   rw[QG hil]at e
   cases e
   exact⟨_,hv,by rw[Zu];exact .nd Zr (o.frame f1 f2 λa m zs q=>kp a _ q λz=>hn'.1 (z▸m))⟩
  ·rw[Qv (Bl ej)]at e
   obtain⟨w,e1,o1⟩:=R.own j t' e
   exact⟨w,e1,by rw[Z7 ej];exact o1.frame f1 f2 λa m zs q=>kp a _ q λz=>ej (R.dj j i a m (z▸hm))⟩
 ·by_cases ej:j=i
  ·subst ej;exact absurd (QG hil) (h _)
  ·rw[Z7 ej]
   exact R.emp j λt' z=>h t' (by rw[Qv (Bl ej)];exact z)
 ·by_cases ej:j=i
  ·subst ej;rw[Zu];exact ndb
  ·rw[Z7 ej];exact R.nd j
 ·have one:∀k,k≠i->a∈a' :: bs'->a∈fp k->False:=λk ek m1 m2=>by
   rcases mem a m1 with z|z
   ·exact ek (R.dj k i a m2 z)
   ·exact R.dx k a m2 (.inr z)
  by_cases ej:j=i
  ·by_cases ek:k=i
   ·rw[ej,ek]
   ·rw[ej,Zu]at h1
    rw[Z7 ek]at h2
    exact(one k ek h1 h2).elim
  ·rw[Z7 ej]at h1
   by_cases ek:k=i
   ·rw[ek,Zu]at h2
    exact(one j ej h2 h1).elim
   ·rw[Z7 ek]at h2
    exact R.dj j k a h1 h2
 ·by_cases ej:j=i
  ·rw[ej,Zu]at h
   rcases mem a h with m|m
   ·exact R.dx i a m (.inl z)
   ·exact(hn a m).2 z
  ·rw[Z7 ej]at h
   exact R.dx j a h (.inl z)
 ·by_cases e:a=a'
  ·subst e;rw[Zr];intro q;cases q
  ·rw[Zn e];exact R.xa a (.inl z)
 ·refine kp b ob (R.fr b ob e nb) λz=>?_
  rcases R.new i a' hm with y|y
  ·exact nb (z▸y.2)
  ·rw[z,y]at e;cases e
 ·refine R.al b ?_
  by_cases q:b=a'
  ·subst q;rw[Zr]at e;cases e
  ·rwa[Zn q]at e
 ·by_cases ej:j=i
  ·rw[ej,Zu]at h
   rcases mem a h with m|m
   ·rw[ej];exact R.new i a m
   ·exact .inr (hn a m).1
  ·rw[Z7 ej]at h
   exact R.new j a h
noncomputable def Zfg(i:Nat)(m:MEt):MSt:=λD δ=>match δ[i]? with
 | some (some (.nd _))=>m δ λr δ1=>match δ1[i]? with
  | some (some (.nd ts))=>ts.length<Xq∧D.nx (δ1.set i (some (.nd (ts ++ [r]))))
  | _=>False
 | _=>False
section
variable {X:Cx}{io:List Nat}{p c:Bool}{e:Expr}{m:MEt}{pos apos cpos px:Pos}{i:Nat}{x:Str}
theorem Zot(i:Nat)(he:ME X io p true e m)(hN:X.N[i]? =some x:=by rfl)(hv:Vis X.env.scope x:=by first|exact Qw rfl|exact Qo (Qw rfl)|exact Qo (Qo rfl))(hd:(x==("__debug__" : Str))=false:=by decide)
  (hcd:(x==("__classdict__" : Str))=false:=by decide)
  (hbase:Bc (.Name x px) "append" X.env (eval (.Name x px) X.env)=eval (.Name x px) X.env:=by rfl)
  (hfew:((JD cpos (Xu [e] X.env)).all (λx=>!x.1)&&(backToKw cpos (V3 [] X.env)).all (λx=>x.1.isSome)
   &&decide ([e].length+([]:List Vn).length+(if([]:List Vn).isEmpty then 0 else 1)<30))=true:=by rfl)
  (hline:(apos.endLine==cpos.line)=true:=by rfl) (hs:Xu [e] X.env=(false,eval e X.env) :: Xu [] X.env:=by rfl) (hplain:(JD cpos (Xu [] X.env)).any (·.1)=false:=by rfl)
  (hsw:Br (.Call (.Attribute (.Name x px) "append" apos) [e] [] cpos) none pos.line X.env=pure false:=by rfl) :
  MS X io (.Expr (.Call (.Attribute (.Name x px) "append" apos) [e] [] cpos) pos) (Zfg i m):=by
 obtain⟨_,A,s⟩:=he
 refine⟨_,Zcy (Znz JR PySem.F.slot_list_append PySem.F.type_list_append Zdf (pv i hN hv hd hcd) (Zbq A Zf2 hs) hbase hfew hline hs hplain) hsw,λC H σ δ fp ex D D' R h E=>?_⟩
 unfold Zfg at h
 split at h
 case h_2=>exact h.elim
 rename_i ts0 hi0
 obtain⟨a',xs0,bs0,hv0,hx0,_,_⟩:=R.ownNd hi0
 refine⟨_,hv0,.inl ⟨rfl,xs0,.inl (.inl hx0)⟩,?_⟩
 refine s C H σ δ fp ex _ _ R h λH1 v r δ1 fp1 new r1 h1=>?_
 split at h1
 case h_2=>exact h1.elim
 rename_i ts1 hi1
 have R1:=r1.rel
 obtain⟨a1,xs1,bs1,hv1,hx1,o1,hf1⟩:=R1.ownNd hi1
 rw[hv0]at hv1
 cases hv1
 refine⟨a',xs1,v,rfl,rfl,hx1,by rw[o1.length];exact h1.1,?_⟩
 have ow:Own X.K H1 (Lf C fp1 (exu ex new)) v r new:=r1.own.wide λa l _=>l rfl
 have o2:=o1.snoc ow
 have nd1:=R1.nd i
 rw[hf1]at nd1
 have hn1:=X6.mp nd1
 have hm1:∀a,a∈a' :: bs1->a∈fp1 i:=λa m=>by rw[hf1];exact m
 have apart:∀a,a∈new->a∉a' :: bs1:=λa m z=>R1.dx i a (hm1 a z) (.inr m)
 obtain⟨R2,sub⟩:=R1.topN hi1 hv0 hf1 hx1 o2 (λa m=>X8.mp m) (X6.mpr ⟨λm=>by
   rcases X8.mp m with z|z
   ·exact hn1.1 z
   ·exact apart a' z (.head _),JF.mpr ⟨hn1.2,r1.nd,λa m b m' z=>apart b m' (by rw[←z];exact .tail _ m)⟩⟩) λa m=>⟨(R.newOk (r1.fresh a m)).2.2,(R.newOk (r1.fresh a m)).2.1⟩
 refine E.nx _ σ _ _ R2 ⟨λb o eb q=>?_,λz=>(nomatch z),λa z=>?_,λb eb=>?_⟩ h1.2
 ·have q':=q.resolve_left (by decide)
  rw[Zn]
  ·exact r1.stp.keep b o eb (.inr q')
  ·rintro rfl
   rcases r1.stp.grow b ⟨i,hm1 b (.head _)⟩with z|z
   ·exact q' z
   ·rw[eb]at z;cases z
 ·rcases sub a z with z|z
  ·exact r1.stp.grow a z
  ·exact .inr (r1.fresh a z)
 ·refine r1.stp.al b ?_
  by_cases q:b=a'
  ·subst q;rw[Zr]at eb;cases eb
  ·rwa[Zn q]at eb
end
noncomputable abbrev FE:=Zf->Option (OT×Zf)
noncomputable abbrev FA:=Zf->Option (List OT×Zf)
noncomputable abbrev FT:=Zf->Option (Bool×Zf)
noncomputable abbrev FI:=Zf->Option (List Xa×Zf)
noncomputable abbrev FO:=Zf->Option (Option Int×Zf)
noncomputable abbrev FG:=Xa->Zf->Option Zf
noncomputable abbrev FGs:=List Xa->Zf->Option Zf
noncomputable def o2{α:Type}(f:Zf->Option (α×Zf)):Zf->(α->Zf->Prop)->Prop:=λδ K=>∃r δ',f δ=some (r,δ')∧K r δ'
noncomputable def oG(g:FG):MGt:=λd δ k=>∃δ',g d δ=some δ'∧k δ'
noncomputable def oGs(g:FGs):Zt1:=λd δ k=>∃δ',g d δ=some δ'∧k δ'
section
variable {X:Cx}{io:List Nat}{p c:Bool}{e tg:Expr}{es:List Expr}{m m':MEt}{mr mr':MAt}{mt mt':MTt}{mi mi':MIt}{g g':MGt}{gs gs':Zt1}{mo mo':MOt}{st:Stmt}{sts:List Stmt}{u u':MSt}{eo:Option Expr}
theorem ME.weak(h:ME X io p c e m)(w:∀δ K,m' δ K->m δ K):ME X io p c e m':=let⟨t,A,s⟩:=h;⟨t,A,λC H σ δ fp ex K Q R h k=>s C H σ δ fp ex K Q R (w δ K h) k⟩
theorem MA.weak(h:MA X io p c es mr)(w:∀δ K,mr' δ K->mr δ K):MA X io p c es mr':=let⟨t,A,s⟩:=h;⟨t,A,λC H σ δ fp ex K Q R h k=>s C H σ δ fp ex K Q R (w δ K h) k⟩
theorem MT.weak(h:MT X io p e mt)(w:∀δ K,mt' δ K->mt δ K):MT X io p e mt':=let⟨t,A,s⟩:=h;⟨t,A,λC H σ δ fp ex K Q R h k=>s C H σ δ fp ex K Q R (w δ K h) k⟩
theorem MW.weak(h:MW X io p e mt)(w:∀δ K,mt' δ K->mt δ K):MW X io p e mt':=let⟨t,A,s⟩:=h;⟨t,A,λC H σ δ fp ex K Q R h k=>s C H σ δ fp ex K Q R (w δ K h) k⟩
theorem MIfs.weak(h:MIfs X io p es mt)(w:∀δ K,mt' δ K->mt δ K):MIfs X io p es mt':=let⟨t,A,s⟩:=h;⟨t,A,λC H σ δ fp ex K Q R h k=>s C H σ δ fp ex K Q R (w δ K h) k⟩
theorem MI.weak(h:MI X io p c tg e mi)(w:∀δ K,mi' δ K->mi δ K):MI X io p c tg e mi':=let⟨t,A,s⟩:=h;⟨t,A,λC H σ δ fp ex K Q R h k=>s C H σ δ fp ex K Q R (w δ K h) k⟩
theorem MO.weak(h:MO X io p eo mo)(w:∀δ K,mo' δ K->mo δ K):MO X io p eo mo':=let⟨t,A,s⟩:=h;⟨t,A,λC H σ δ fp ex K Q R h k=>s C H σ δ fp ex K Q R (w δ K h) k⟩
theorem MG.weak(h:MG X io c tg g)(w:∀d δ K,g' d δ K->g d δ K):MG X io c tg g':=let⟨t,A,s⟩:=h;⟨t,A,λC H σ δ fp ex v d k Q R q h kk=>s C H σ δ fp ex v d k Q R q (w d δ k h) kk⟩
theorem MGs.weak(h:MGs X io c es gs)(w:∀d δ K,gs' d δ K->gs d δ K):MGs X io c es gs':=let⟨t,A,s⟩:=h;⟨t,A,λC H σ δ fp ex v d k Q R q h kk=>s C H σ δ fp ex v d k Q R q (w d δ k h) kk⟩
theorem MS.weak(h:MS X io st u)(w:∀D δ,u' D δ->u D δ):MS X io st u':=let⟨t,A,s⟩:=h;⟨t,A,λC H σ δ fp ex D D' R h E=>s C H σ δ fp ex D D' R (w D δ h) E⟩
theorem MSs.weak(h:MSs X io sts u)(w:∀D δ,u' D δ->u D δ):MSs X io sts u':=let⟨t,A,s⟩:=h;⟨t,A,λC H σ δ fp ex D D' R h E=>s C H σ δ fp ex D D' R (w D δ h) E⟩
end
noncomputable def Zb(i:Nat):FE:=λδ=>match δ[i]? with|some (some (.fz d))=>some (.fz d,δ)|_=>none
noncomputable def Zco(i:Nat):FE:=λδ=>match δ[i]? with|some (some t)=>some (.fz t.data,δ)|_=>none
noncomputable def fC(d:Xa):FE:=λδ=>some (.fz d,δ)
noncomputable def Ze(g:Xa->Xa->Option Xa)(a b:FE):FE:=λδ=>(a δ).bind λp=>(b p.2).bind λq=>(g p.1.data q.1.data).bind λd=>some (.fz d,q.2)
noncomputable def Z4(g:Xa->Xa->Option OT)(a b:FE):FE:=λδ=>(a δ).bind λp=>(b p.2).bind λq=>(g p.1.data q.1.data).bind λd=>some (d,q.2)
noncomputable def fUn(g:Xa->Option Xa)(a:FE):FE:=λδ=>(a δ).bind λp=>(g p.1.data).bind λd=>some (.fz d,p.2)
noncomputable def Z87(a b:FE):FE:=λδ=>(a δ).bind λp=>match p.1.data with| .bool true=>b p.2| .bool false=>some (.fz (.bool false),p.2)|_=>none
noncomputable def fOr(a b:FE):FE:=λδ=>(a δ).bind λp=>match p.1.data with| .bool true=>some (.fz (.bool true),p.2)| .bool false=>b p.2|_=>none
noncomputable def fIf(t:FT)(a b:FE):FE:=λδ=>(t δ).bind λp=>if p.1=true then a p.2 else b p.2
noncomputable def tV(e:FE):FT:=λδ=>(e δ).bind λp=>match p.1 with| .fz (.bool b)=>some (b,p.2)|_=>none
noncomputable def tNo(t:FT):FT:=λδ=>(t δ).bind λp=>some (!p.1,p.2)
noncomputable def tAn(t u:FT):FT:=λδ=>(t δ).bind λp=>if p.1=true then u p.2 else some (false,p.2)
noncomputable def tO(t u:FT):FT:=λδ=>(t δ).bind λp=>if p.1=true then some (true,p.2)else u p.2
noncomputable def tD(e:FE):FT:=λδ=>(e δ).bind λp=>(Zu5 p.1.data).bind λb=>some (b,p.2)
noncomputable def Zm:FA:=λδ=>some ([],δ)
noncomputable def Zc(e:FE)(a:FA):FA:=λδ=>(e δ).bind λp=>(a p.2).bind λq=>some (p.1 :: q.1,q.2)
noncomputable def Zgy(a:FA):FE:=λδ=>(a δ).bind λp=>if p.1.length≤Xq then some (.fz (.tuple (OT.datas p.1)),p.2)else none
noncomputable def Zcx(a:FA):FE:=λδ=>(a δ).bind λp=>if p.1.length≤Xq then some (.nd p.1,p.2)else none
noncomputable def Ycm(e:FE):FE:=λδ=>(e δ).bind λp=>if Zac p.1.data=true then some (.fz p.1.data,p.2)else none
noncomputable def Z4p(e:FE):FE:=λδ=>(e δ).bind λp=>if Zy6 p.1=true then some (p.1,p.2)else none
inductive RF where
 | ok (r:OT)
 | exn (c:Str)
 | bad
noncomputable abbrev FD:=List Xa->RF
noncomputable abbrev FIO:=OT->List Xa->Option (OT×OT)
noncomputable def Zv(F:FD)(a:FA):FE:=λδ=>(a δ).bind λp=>match F (OT.datas p.1)with| .ok r=>some (r,p.2)|_=>none
noncomputable def Zwz(i:Nat)(F:FIO)(a:FA):FE:=λδ=>match δ[i]? with
 | some (some _)=>(a δ).bind λp=>match p.2[i]? with
  | some (some t)=>(F t (OT.datas p.1)).bind λq=>some (q.1,p.2.set i (some q.2))
  | _=>none
 | _=>none
noncomputable def Zak(g:List Xa->Option Xa)(a:FA):FE:=λδ=>(a δ).bind λp=>(g (OT.datas p.1)).bind λd=>some (.fz d,p.2)
noncomputable def fBl(g:List Xa->Option OT)(a:FA):FE:=λδ=>(a δ).bind λp=>(g (OT.datas p.1)).bind λd=>some (d,p.2)
noncomputable def Zt3(T:String)(e:FE):FE:=λδ=>(e δ).bind λp=>if Zhf p.1.data=true then none else some (.fz (.bool (Zpg T p.1.data)),p.2)
noncomputable def oN:FO:=λδ=>some (none,δ)
noncomputable def oI(e:FE):FO:=λδ=>(e δ).bind λp=>match p.1.data with| .int i=>some (some i,p.2)|_=>none
noncomputable def fSl(e:FE)(lo hi:FO):FE:=λδ=>(e δ).bind λp=>(lo p.2).bind λq=>(hi q.2).bind λr=>match p.1.data with| .list ds=>some (.nd ((cutD ds q.1 r.1).map OT.fz),r.2)|_=>none
noncomputable def Zci(f g:Int->Int->Bool)(a b c:FE):FE:=λδ=>(a δ).bind λp=>(b p.2).bind λq=>match p.1.data,q.1.data with
 | .int i,.int j=>if f i j=true then(c q.2).bind λr=>match r.1.data with| .int k=>some (.fz (.bool (g j k)),r.2)|_=>none else some (.fz (.bool false),q.2)
 | _,_=>none
noncomputable def Jw(e:FE):FI:=λδ=>(e δ).bind λp=>match p.1.data with| .list ds=>some (ds,p.2)|_=>none
noncomputable def iTp(e:FE):FI:=λδ=>(e δ).bind λp=>match p.1.data with| .tuple ds=>some (ds,p.2)|_=>none
noncomputable def rOk(j:Int):Bool:=decide (-(2^62)≤j)&&decide (j<2^62)
theorem Zf1{j:Int}(h:rOk j=true):-(2^62)≤j∧j<2^62:=by
 unfold rOk at h
 rw[XJ]at h
 exact⟨of_decide_eq_true h.1,of_decide_eq_true h.2⟩
theorem Ztw{j:Int}(h0:-1000000≤j)(h1:j≤1000000):rOk j=true:=by
 unfold rOk
 rw[decide_eq_true (show -(2^62)≤j by omega),decide_eq_true (show j<2^62 by omega)];rfl
noncomputable def iRa(a:FA):FI:=λδ=>(a δ).bind λp=>match OT.datas p.1 with|[.int j]=>if rOk j=true then some (Ze5 0 j.toNat,p.2)else none|_=>none
noncomputable def iRb(a:FA):FI:=λδ=>(a δ).bind λp=>match OT.datas p.1 with|[.int i,.int j]=>if(rOk i&&rOk j)=true then some (Ze5 i (j-i).toNat,p.2)else none|_=>none
noncomputable def Z79(a:FA):FI:=λδ=>(a δ).bind λp=>match OT.datas p.1 with|[.list as,.list bs]=>some (Zo7 as bs,p.2)|_=>none
noncomputable def gNm(i:Nat):FG:=λd δ=>some (δ.set i (some (.fz d)))
noncomputable def Z3a(i:Nat):FG:=λd δ=>if Zac d=true then some (δ.set i (some (.fz d)))else none
noncomputable def gNl:FGs:=λds δ=>match ds with|[]=>some δ|_=>none
noncomputable def gCn(g:FG)(gs:FGs):FGs:=λds δ=>match ds with|d :: r=>(g d δ).bind (gs r)|[]=>none
noncomputable def gTp(n:Nat)(gs:FGs):FG:=λd δ=>match d with| .tuple ds=>if ds.length=n then gs ds δ else none|_=>none
noncomputable def gLs(n:Nat)(gs:FGs):FG:=λd δ=>match d with| .list ds=>if ds.length=n then gs ds δ else none|_=>none
noncomputable def compLoop(g:FG)(t:FT)(e:FE):List Xa->Zf->Option (List OT×Zf)
 | [],δ=>some ([],δ)
 | d :: ds,δ=>(g d δ).bind λδ1=>(t δ1).bind λp=>if p.1=true then(e p.2).bind λq=>(compLoop g t e ds q.2).bind λz=>some (q.1 :: z.1,z.2)else compLoop g t e ds p.2
noncomputable def Yc(n:Nat)(caps:List Nat)(it:FI)(g:FG)(t:FT)(e:FE):FE:=λδ=>(it δ).bind λp=>if p.1.length≤Xq then(compLoop g t e p.1 (blk n caps p.2)).bind λz=>some (.nd z.1,p.2)else none
noncomputable def Zc2:FT:=λδ=>some (true,δ)
inductive RS where
 | nx (δ:Zf)
 | rt (r:OT) (δ:Zf)
 | bk (δ:Zf)
 | ct (δ:Zf)
 | ex (c:Str) (δ:Zf)
 | bad
noncomputable abbrev FS:=Zf->RS
noncomputable def RS.fits(D:Zhd):RS->Prop
 | .nx δ=>D.nx δ
 | .rt r δ=>D.rt r δ
 | .bk δ=>D.bk δ
 | .ct δ=>D.ct δ
 | _=>False
noncomputable def oS(f:FS):MSt:=λD δ=>(f δ).fits D
noncomputable def Zx(f g:FS):FS:=λδ=>match f δ with| .nx δ'=>g δ'|r=>r
noncomputable def fNx:FS:=λδ=>.nx δ
noncomputable def Yff:FS:=λδ=>.bk δ
noncomputable def Ygg:FS:=λδ=>.ct δ
noncomputable def wE(e:FE)(k:OT->Zf->RS):FS:=λδ=>match e δ with|some (r,δ')=>k r δ'|none=>.bad
noncomputable def wX(F:FD)(a:FA)(k:OT->Zf->RS):FS:=λδ=>match a δ with
 | some (rs,δ1)=>match F (OT.datas rs)with
  | .ok r=>k r δ1
  | .exn c=>.ex c δ1
  | .bad=>.bad
 | none=>.bad
noncomputable def Zqm:OT->Zf->RS:=λ_ δ=>.nx δ
noncomputable def W8:OT->Zf->RS:=λr δ=>.rt r δ
noncomputable def Z98:OT->Zf->RS:=λr δ=>if Zac r.data=true then .rt (.fz r.data) δ else .bad
noncomputable def Wz(i:Nat):OT->Zf->RS:=λr δ=>.nx (δ.set i (some (.fz r.data)))
noncomputable def Ycr(i:Nat):OT->Zf->RS:=λr δ=>if Zac r.data=true then .nx (δ.set i (some (.fz r.data)))else .bad
noncomputable def Ja(i:Nat):OT->Zf->RS:=λr δ=>.nx (δ.set i (some r))
noncomputable def Yf6(g:FG):OT->Zf->RS:=λr δ=>match g r.data δ with|some δ'=>.nx δ'|none=>.bad
noncomputable def Yct:FS:=λδ=>.rt (.fz .none) δ
noncomputable def Zc6(i:Nat):FS:=λδ=>match δ[i]? with|some (some t)=>.rt t (δ.set i none)|_=>.bad
noncomputable def J8(t:FT)(u w:FS):FS:=λδ=>match t δ with|some (b,δ')=>if b=true then u δ' else w δ'|none=>.bad
noncomputable def Zcl(c:Str):FS:=λδ=>.ex c δ
noncomputable def Yk(i:Nat)(e:FE):FS:=λδ=>match δ[i]? with
 | some (some (.nd _))=>wE e (λr δ1=>match δ1[i]? with
  | some (some (.nd ts))=>if ts.length<Xq then .nx (δ1.set i (some (.nd (ts ++ [.fz r.data]))))else .bad
  | _=>.bad) δ
 | _=>.bad
noncomputable def Zay(i:Nat)(e:FE):FS:=λδ=>match δ[i]? with
 | some (some (.nd _))=>wE e (λr δ1=>match δ1[i]? with
  | some (some (.nd ts))=>if ts.length<Xq then .nx (δ1.set i (some (.nd (ts ++ [r]))))else .bad
  | _=>.bad) δ
 | _=>.bad
noncomputable def Yel(i:Nat)(e j:FE):FS:=wE e λr δ1=>match δ1[i]? with
 | some (some (.nd ts))=>wE j (λn _=>match n.data with
  | .int k=>match ixN ts.length k with
   | some j=>.nx (δ1.set i (some (.nd (ts.set j (.fz r.data)))))
   | none=>.bad
  | _=>.bad) δ1
 | _=>.bad
noncomputable def Zbg(i:Nat)(u:FS):FS:=λδ=>match δ[i]? with|some (some t)=>u (δ.set i (some (.fz t.data)))|_=>.bad
noncomputable def forLoop(g:FG)(u:FS):List Xa->Zf->RS
 | [],δ=>.nx δ
 | d :: ds,δ=>match g d δ with
  | none=>.bad
  | some δ1=>match u δ1 with
   | .nx δ2=>forLoop g u ds δ2
   | .ct δ2=>forLoop g u ds δ2
   | .bk δ2=>.nx δ2
   | r=>r
noncomputable def Jz(it:FI)(g:FG)(u:FS):FS:=λδ=>match it δ with|some (ds,δ1)=>forLoop g u ds δ1|none=>.bad
noncomputable def whileLoop(t:FT)(u:FS):Nat->Zf->RS
 | 0,_=>.bad
 | n+1,δ=>match t δ with
  | none=>.bad
  | some (b,δ1)=>if b=true then match u δ1 with
   | .nx δ2=>whileLoop t u n δ2
   | .ct δ2=>whileLoop t u n δ2
   | .bk δ2=>.nx δ2
   | .rt r δ2=>.rt r δ2
   | _=>.bad
   else .nx δ1
open Classical in
noncomputable def Zhi(t:FT)(u:FS):FS:=λδ=>if h:∃n,whileLoop t u n δ≠ .bad then whileLoop t u (Classical.choose h) δ else .bad
noncomputable def Zbt(n:Nat)(ds:List Xa):Zf:=ds.map (λd=>some (.fz d)) ++ X4 (n-ds.length) none
noncomputable def Yaw(n:Nat)(t:OT)(ds:List Xa):Zf:=some t :: (ds.map (λd=>some (.fz d)) ++ X4 (n-(ds.length+1)) none)
noncomputable def RS.told:RS->RF
 | .nx _=>.ok (.fz .none)
 | .rt r _=>.ok r
 | .ex c _=>.exn c
 | _=>.bad
noncomputable def Ji(np n:Nat)(S:FS):FD:=λds=>if ds.length=np then(S (Zbt n ds)).told else .bad
noncomputable def sD(F:FD):List Xa->(OT->Prop)->Prop:=λds k=>∃r,F ds= .ok r∧k r
theorem bs{α β:Type}{x:Option α}{f:α->Option β}{b:β}(h:x.bind f=some b):∃a,x=some a∧f a=some b:=Option.bind_eq_some_iff.mp h
section
variable {X:Cx}{io:List Nat}{p c:Bool}{e tg:Expr}{es:List Expr}{st:Stmt}{sts:List Stmt}{eo:Option Expr}{fa fb fc:FE}{ra:FA}{ta tb:FT}{i:Nat}
theorem Z41(h:ME X io p c e (Z89 i)):ME X io p c e (o2 (Zb i)):=h.weak λδ K q91=>by
 obtain⟨r,δ',h,k⟩:=q91
 unfold Zb at h;unfold Z89
 split at h
 ·rename_i d hd;(try rw[hd]);cases h;exact k
 ·cases h
theorem Z4f(h:ME X io p c e (Z9g i)):ME X io p c e (o2 (Zco i)):=h.weak λδ K q92=>by
 obtain⟨r,δ',h,k⟩:=q92
 unfold Zco at h;unfold Z9g
 split at h
 ·rename_i d hd;(try rw[hd]);cases h;exact k
 ·cases h
theorem Zck{d:Xa}(h:ME X io p c e (mC d)):ME X io p c e (o2 (fC d)):=h.weak λδ K ⟨r,δ',h,k⟩=>by cases h;exact k
noncomputable def ByS(g:Xa->Xa->Option Xa)(rp:Xa->Xa->(Xa->Prop)->Prop):Prop:=∀d e r k,g d e=some r->k r->rp d e k
noncomputable def ByO(g:Xa->Xa->Option OT)(rp:Xa->Xa->(OT->Prop)->Prop):Prop:=∀d e r k,g d e=some r->k r->rp d e k
theorem Zww{g rp}(G:ByS g rp){δ:Zf}{K:OT->Zf->Prop}(h:o2 (Ze g fa fb) δ K):Zmf rp (o2 fa) (o2 fb) δ K:=by
 obtain⟨r,δ',h,k⟩:=h
 obtain⟨⟨x,δ1⟩,h1,h⟩:=bs h
 obtain⟨⟨y,δ2⟩,h2,h⟩:=bs h
 obtain⟨d,h3,h⟩:=bs h
 cases h
 exact⟨x,δ1,h1,y,δ2,h2,G _ _ _ _ h3 k⟩
theorem Y6{g rp}(G:ByS g rp)(h:ME X io p c e (Zmf rp (o2 fa) (o2 fb))):ME X io p c e (o2 (Ze g fa fb)):=h.weak λδ K z=>Zww G z
theorem Yai{f:FE}{δ:Zf}{K:Bool->Zf->Prop}(h:o2 (tV f) δ K):o2 f δ (kB K):=by
 obtain⟨b,δ',h,k⟩:=h
 obtain⟨⟨x,δ1⟩,h1,h⟩:=bs h
 refine⟨x,δ1,h1,?_⟩
 unfold kB
 try dsimp only at h⊢
 split at h
 ·cases h;exact k
 ·cases h
theorem Jr{g rp}(G:ByS g rp)(h:MT X io p e (λδ K=>Zmf rp (o2 fa) (o2 fb) δ (kB K))):MT X io p e (o2 (tV (Ze g fa fb))):=h.weak λδ K z=>Zww G (Yai z)
theorem Za1{g rp}(G:ByO g rp)(h:ME X io p c e (Z7k rp (o2 fa) (o2 fb))):ME X io p c e (o2 (Z4 g fa fb)):=h.weak λδ K h=>by
 obtain⟨r,δ',h,k⟩:=h
 obtain⟨⟨x,δ1⟩,h1,h⟩:=bs h
 obtain⟨⟨y,δ2⟩,h2,h⟩:=bs h
 obtain⟨d,h3,h⟩:=bs h
 cases h
 exact⟨x,δ1,h1,y,δ2,h2,G _ _ _ _ h3 k⟩
noncomputable def Z3t:Xa->Option Xa| .int i=>some (.int (-i))|_=>none
noncomputable def Ybh:Xa->Option Xa| .bool b=>some (.bool (!b))|_=>none
theorem Z63(h:ME X io p c e (Ydp (o2 fa))):ME X io p c e (o2 (fUn Z3t fa)):=h.weak λδ K h=>by
 obtain⟨r,δ',h,k⟩:=h
 obtain⟨⟨x,δ1⟩,h1,h⟩:=bs h
 obtain⟨d,h3,h⟩:=bs h
 cases h
 refine⟨x,δ1,h1,?_⟩
 dsimp only at h3⊢
 cases q:x.data<;>rw[q]at h3<;>cases h3
 exact k
theorem Zzc(h:ME X io p c e (Z6h (o2 fa))):ME X io p c e (o2 (fUn Ybh fa)):=h.weak λδ K h=>by
 obtain⟨r,δ',h,k⟩:=h
 obtain⟨⟨x,δ1⟩,h1,h⟩:=bs h
 obtain⟨d,h3,h⟩:=bs h
 cases h
 refine⟨x,δ1,h1,?_⟩
 dsimp only at h3⊢
 cases q:x.data<;>rw[q]at h3<;>cases h3
 exact k
theorem Zye(h:ME X io p c e (Z7c (o2 fa) (o2 fb))):ME X io p c e (o2 (Z87 fa fb)):=h.weak λδ K h=>by
 obtain⟨r,δ',h,k⟩:=h
 obtain⟨⟨x,δ1⟩,h1,h⟩:=bs h
 refine⟨x,δ1,h1,?_⟩
 try dsimp only at h⊢
 split at h
 ·rename_i q;(try rw[q]);rw[Zw4,if_pos rfl];exact⟨r,δ',h,k⟩
 ·rename_i q;(try rw[q]);cases h;rw[Zw4,if_neg Xv];exact k
 ·cases h
theorem Ybz(h:ME X io p c e (mIf (o2 ta) (o2 fa) (o2 fb))):ME X io p c e (o2 (fIf ta fa fb)):=h.weak λδ K h=>by
 obtain⟨r,δ',h,k⟩:=h
 obtain⟨⟨x,δ1⟩,h1,h⟩:=bs h
 refine⟨x,δ1,h1,?_⟩
 try dsimp only at h⊢
 split at h
 ·rename_i q;rw[if_pos q];exact⟨r,δ',h,k⟩
 ·rename_i q;rw[if_neg q];exact⟨r,δ',h,k⟩
theorem Z50(h:MT X io p e (Ye4 (o2 ta))):MT X io p e (o2 (tNo ta)):=h.weak λδ K h=>by
 obtain⟨r,δ',h,k⟩:=h
 obtain⟨⟨x,δ1⟩,h1,h⟩:=bs h
 cases h
 exact⟨x,δ1,h1,k⟩
theorem Zr3(h:MW X io p e (Yeh (o2 ta) (o2 tb))):MW X io p e (o2 (tAn ta tb)):=h.weak λδ K h=>by
 obtain⟨r,δ',h,k⟩:=h
 obtain⟨⟨x,δ1⟩,h1,h⟩:=bs h
 refine⟨x,δ1,h1,?_⟩
 try dsimp only at h⊢
 split at h
 ·rename_i q;rw[if_pos q];exact⟨r,δ',h,k⟩
 ·rename_i q;rw[if_neg q];cases h;exact k
theorem Zo0(h:MW X io p e (mOr (o2 ta) (o2 tb))):MW X io p e (o2 (tO ta tb)):=h.weak λδ K h=>by
 obtain⟨r,δ',h,k⟩:=h
 obtain⟨⟨x,δ1⟩,h1,h⟩:=bs h
 refine⟨x,δ1,h1,?_⟩
 try dsimp only at h⊢
 split at h
 ·rename_i q;rw[if_pos q];cases h;exact k
 ·rename_i q;rw[if_neg q];exact⟨r,δ',h,k⟩
theorem Zdw(h:MT X io p e (Yc8 (o2 fa))):MT X io p e (o2 (tD fa)):=h.weak λδ K h=>by
 obtain⟨r,δ',h,k⟩:=h
 obtain⟨⟨x,δ1⟩,h1,h⟩:=bs h
 obtain⟨d,h3,h⟩:=bs h
 cases h
 refine⟨x,δ1,h1,?_⟩
 dsimp only at h3⊢
 rw[h3]
 exact k
theorem Z54(h:MA X io p c es Ye8):MA X io p c es (o2 Zm):=h.weak λδ K ⟨r,δ',h,k⟩=>by cases h;exact k
theorem Zz1(h:MA X io p c es (Z5o (o2 fa) (o2 ra))):MA X io p c es (o2 (Zc fa ra)):=h.weak λδ K h=>by
 obtain⟨r,δ',h,k⟩:=h
 obtain⟨⟨x,δ1⟩,h1,h⟩:=bs h
 obtain⟨⟨y,δ2⟩,h2,h⟩:=bs h
 cases h
 exact⟨x,δ1,h1,y,δ2,h2,k⟩
theorem Z7o(h:ME X io p c e (Yd9 (o2 ra))):ME X io p c e (o2 (Zgy ra)):=h.weak λδ K h=>by
 obtain⟨r,δ',h,k⟩:=h
 obtain⟨⟨x,δ1⟩,h1,h⟩:=bs h
 refine⟨x,δ1,h1,?_⟩
 dsimp only at h
 split at h
 ·rename_i q;cases h;exact⟨q,k⟩
 ·cases h
theorem Z49(h:ME X io p c e (Ydx (o2 ra))):ME X io p c e (o2 (Zcx ra)):=h.weak λδ K h=>by
 obtain⟨r,δ',h,k⟩:=h
 obtain⟨⟨x,δ1⟩,h1,h⟩:=bs h
 refine⟨x,δ1,h1,?_⟩
 dsimp only at h
 split at h
 ·rename_i q;cases h;exact⟨q,k⟩
 ·cases h
theorem Zzi{F:FD}(h:ME X io p c e (Z2r (sD F) (o2 ra))):ME X io p c e (o2 (Zv F ra)):=h.weak λδ K h=>by
 obtain⟨r,δ',h,k⟩:=h
 obtain⟨⟨x,δ1⟩,h1,h⟩:=bs h
 refine⟨x,δ1,h1,?_⟩
 dsimp only at h
 split at h
 ·rename_i q;cases h;exact⟨_,q,k⟩
 ·cases h
theorem Zia{g rp}(G:∀ds r k,g ds=some r->k r->rp ds k)(h:ME X io p c e (Z85 rp (o2 ra))):ME X io p c e (o2 (Zak g ra)):=h.weak λδ K h=>by
 obtain⟨r,δ',h,k⟩:=h
 obtain⟨⟨x,δ1⟩,h1,h⟩:=bs h
 obtain⟨d,h3,h⟩:=bs h
 cases h
 exact⟨x,δ1,h1,G _ _ _ h3 k⟩
theorem Zzd{g rp}(G:∀ds r k,g ds=some r->k r->rp ds k)(h:ME X io p c e (mBl rp (o2 ra))):ME X io p c e (o2 (fBl g ra)):=h.weak λδ K h=>by
 obtain⟨r,δ',h,k⟩:=h
 obtain⟨⟨x,δ1⟩,h1,h⟩:=bs h
 obtain⟨d,h3,h⟩:=bs h
 cases h
 exact⟨x,δ1,h1,G _ _ _ h3 k⟩
theorem Zhs{T:String}(h:ME X io p c e (Yea T (o2 fa))):ME X io p c e (o2 (Zt3 T fa)):=h.weak λδ K h=>by
 obtain⟨r,δ',h,k⟩:=h
 obtain⟨⟨x,δ1⟩,h1,h⟩:=bs h
 by_cases hf:Zhf x.data=true
 ·have h':(if Zhf x.data=true then none else some (OT.fz (.bool (Zpg T x.data)),δ1))=some (r,δ'):=h
  rw[if_pos hf]at h'
  cases h'
 ·have h':(if Zhf x.data=true then none else some (OT.fz (.bool (Zpg T x.data)),δ1))=some (r,δ'):=h
  rw[if_neg hf]at h'
  injection h' with h'
  injection h' with e1 e2
  subst e1 e2
  exact⟨x,_,h1,Bv.mpr hf,k⟩
theorem Ziz(h:MO X io p eo Zp9):MO X io p eo (o2 oN):=h.weak λδ K ⟨r,δ',h,k⟩=>by cases h;exact k
theorem Zga(h:MO X io p eo (Z5v (o2 fa))):MO X io p eo (o2 (oI fa)):=h.weak λδ K h=>by
 obtain⟨r,δ',h,k⟩:=h
 obtain⟨⟨x,δ1⟩,h1,h⟩:=bs h
 refine⟨x,δ1,h1,?_⟩
 try dsimp only at h⊢
 split at h
 ·rename_i q;(try rw[q]);cases h;exact k
 ·cases h
theorem Z2k{lo hi:FO}(h:ME X io p c e (mSl (o2 fa) (o2 lo) (o2 hi))):ME X io p c e (o2 (fSl fa lo hi)):=h.weak λδ K h=>by
 obtain⟨r,δ',h,k⟩:=h
 obtain⟨⟨x,δ1⟩,h1,h⟩:=bs h
 obtain⟨⟨y,δ2⟩,h2,h⟩:=bs h
 obtain⟨⟨z,δ3⟩,h3,h⟩:=bs h
 refine⟨x,δ1,h1,y,δ2,h2,z,δ3,h3,?_⟩
 try dsimp only at h⊢
 split at h
 ·rename_i q;(try rw[q]);cases h;exact k
 ·cases h
theorem Zpo{f g:Int->Int->Bool}{δ:Zf}{K:OT->Zf->Prop}(h:o2 (Zci f g fa fb fc) δ K):Zhz f g (o2 fa) (o2 fb) (o2 fc) δ K:=by
 obtain⟨r,δ',h,k⟩:=h
 obtain⟨⟨x,δ1⟩,h1,h⟩:=bs h
 obtain⟨⟨y,δ2⟩,h2,h⟩:=bs h
 refine⟨x,δ1,h1,y,δ2,h2,?_⟩
 try dsimp only at h⊢
 split at h
 case h_2=>cases h
 rename_i i j q1 q2
 (try rw[q1,q2])
 show(if f i j=true then _ else _)
 split at h
 ·rename_i hf
  rw[if_pos hf]
  obtain⟨⟨z,δ3⟩,h3,h⟩:=bs h
  refine⟨z,δ3,h3,?_⟩
  try dsimp only at h⊢
  split at h
  ·rename_i q;(try rw[q]);cases h;exact k
  ·cases h
 ·rename_i hf
  rw[if_neg hf]
  cases h
  exact k
theorem Zvo{f g:Int->Int->Bool}(h:ME X io p c e (Zhz f g (o2 fa) (o2 fb) (o2 fc))):ME X io p c e (o2 (Zci f g fa fb fc)):=h.weak λδ K z=>Zpo z
theorem Zws{f g:Int->Int->Bool}(h:MT X io p e (λδ K=>Zhz f g (o2 fa) (o2 fb) (o2 fc) δ (kB K))):MT X io p e (o2 (tV (Zci f g fa fb fc))):=h.weak λδ K z=>Zpo (Yai z)
theorem Z1m(h:MI X io p c tg e (iL (o2 fa))):MI X io p c tg e (o2 (Jw fa)):=h.weak λδ K h=>by
 obtain⟨r,δ',h,k⟩:=h
 obtain⟨⟨x,δ1⟩,h1,h⟩:=bs h
 refine⟨x,δ1,h1,?_⟩
 try dsimp only at h⊢
 split at h
 ·rename_i q;(try rw[q]);cases h;exact k
 ·cases h
theorem Zb0(h:MI X io p c tg e (iR1 (o2 ra))):MI X io p c tg e (o2 (iRa ra)):=h.weak λδ K h=>by
 obtain⟨r,δ',h,k⟩:=h
 obtain⟨⟨x,δ1⟩,h1,h⟩:=bs h
 refine⟨x,δ1,h1,?_⟩
 try dsimp only at h⊢
 split at h
 case h_2=>cases h
 rename_i q
 (try rw[q])
 try dsimp only
 split at h
 ·rename_i b;cases h;exact⟨Zf1 b,k⟩
 ·cases h
theorem Z1g(h:MI X io p c tg e (iR2 (o2 ra))):MI X io p c tg e (o2 (iRb ra)):=h.weak λδ K h=>by
 obtain⟨r,δ',h,k⟩:=h
 obtain⟨⟨x,δ1⟩,h1,h⟩:=bs h
 refine⟨x,δ1,h1,?_⟩
 try dsimp only at h⊢
 split at h
 case h_2=>cases h
 rename_i q
 (try rw[q])
 try dsimp only
 split at h
 ·rename_i b
  cases h
  rw[XJ]at b
  exact⟨⟨(Zf1 b.1).1,(Zf1 b.1).2,(Zf1 b.2).1,(Zf1 b.2).2⟩,k⟩
 ·cases h
theorem Z24(h:MG X io c tg (dName i)):MG X io c tg (oG (gNm i)):=h.weak λd δ K ⟨δ',h,k⟩=>by cases h;exact k
theorem Zuh(h:MG X io c tg (Zxi i)):MG X io c tg (oG (Z3a i)):=h.weak λd δ K q93=>by
 obtain⟨δ',h,k⟩:=q93
 unfold Z3a at h
 split at h
 ·rename_i q;cases h;exact⟨q,k⟩
 ·cases h
theorem Z0y(h:MGs X io c es Yds):MGs X io c es (oGs gNl):=h.weak λd δ K q94=>by
 obtain⟨δ',h,k⟩:=q94
 unfold gNl at h
 split at h
 ·cases h;exact⟨rfl,k⟩
 ·cases h
theorem Zne{g:FG}{gs:FGs}(h:MGs X io c es (Z5w (oG g) (oGs gs))):MGs X io c es (oGs (gCn g gs)):=h.weak λd δ K q95=>by
 obtain⟨δ',h,k⟩:=q95
 unfold gCn at h
 split at h
 ·obtain⟨δ1,h1,h⟩:=bs h
  exact⟨δ1,h1,δ',h,k⟩
 ·cases h
theorem Z73{n:Nat}{gs:FGs}(h:MG X io c tg (dTup n (oGs gs))):MG X io c tg (oG (gTp n gs)):=h.weak λd δ K q96=>by
 obtain⟨δ',h,k⟩:=q96
 unfold gTp at h
 split at h
 case h_2=>cases h
 split at h
 ·rename_i q;exact⟨q,δ',h,k⟩
 ·cases h
theorem Ws(h:MIfs X io p es Z5p):MIfs X io p es (o2 Zc2):=h.weak λδ K ⟨r,δ',h,k⟩=>by cases h;exact k
theorem Z1h{g:FG}{t:FT}{me:FE}{ds:List Xa}{δ0:Zf}{zs:List OT}{δe:Zf}(h:compLoop g t me ds δ0=some (zs,δe)) :
  ∃I:Nat->List OT->Zf->Prop,I 0 [] δ0∧
 (∀ (i:Nat) (d:Xa) (rs:List OT) (δ':Zf),ds[i]? =some d->I i rs δ'->oG g d δ' λδ2=>o2 t δ2 λb δ3=>if b=true then o2 me δ3 λr δ4=>I (i+1) (rs ++ [r]) δ4 else I (i+1) rs δ3)∧
 ∀rs δ',I ds.length rs δ'->rs=zs∧δ'=δe:=by
 refine⟨λi rs δ'=>∃ys,rs ++ ys=zs∧compLoop g t me (ds.drop i) δ'=some (ys,δe),⟨zs,rfl,by rw[List.drop_zero];exact h⟩,?_,?_⟩
 ·rintro i d rs δ' hd ⟨ys,e,hl⟩
  obtain⟨hi,hdi⟩:=Xn.mp hd
  rw[VP hi,hdi]at hl
  unfold compLoop at hl
  obtain⟨δ1,h1,hl⟩:=bs hl
  obtain⟨⟨b,δ2⟩,h2,hl⟩:=bs hl
  refine⟨δ1,h1,b,δ2,h2,?_⟩
  dsimp only at hl
  split at hl
  ·rename_i hb
   rw[if_pos hb]
   obtain⟨⟨r,δ3⟩,h3,hl⟩:=bs hl
   obtain⟨⟨ws,δ4⟩,h4,hl⟩:=bs hl
   cases hl
   exact⟨r,δ3,h3,ws,by rw[QB];exact e,h4⟩
  ·rename_i hb
   rw[if_neg hb]
   exact⟨ys,e,hl⟩
 ·rintro rs δ' ⟨ys,e,hl⟩
  rw[List.drop_length]at hl
  unfold compLoop at hl
  cases hl
  exact⟨by rw[←e,Qk],rfl⟩
theorem Zqc{n:Nat}{caps:List Nat}{it:FI}{g:FG}{t:FT}{me:FE}{δ:Zf}{K:OT->Zf->Prop}(h:o2 (Yc n caps it g t me) δ K):Zg1 n caps (o2 it) (oG g) (o2 t) (o2 me) δ K:=by
 obtain⟨r,δ',h,k⟩:=h
 obtain⟨⟨ds,δ1⟩,h1,h⟩:=bs h
 refine⟨ds,δ1,h1,?_⟩
 dsimp only at h
 split at h
 case isFalse=>cases h
 rename_i hz
 obtain⟨⟨zs,δe⟩,h2,h⟩:=bs h
 cases h
 obtain⟨I,i0,st,en⟩:=Z1h h2
 refine⟨hz,I,i0,st,λrs δ'' q=>?_⟩
 obtain⟨rfl,rfl⟩:=en rs δ'' q
 exact k
theorem Wo{n:Nat}{caps:List Nat}{it:FI}{g:FG}{t:FT}{me:FE}(h:ME X io p c e (Zg1 n caps (o2 it) (oG g) (o2 t) (o2 me))):ME X io p c e (o2 (Yc n caps it g t me)):=h.weak λδ K z=>Zqc z
end
section
variable {X:Cx}{io:List Nat}{p c:Bool}{e tg iter:Expr}{es:List Expr}{st:Stmt}{sts:List Stmt}{fa fb fc:FE}{ra:FA}{ta tb:FT}{i:Nat}{f g u w:FS}
theorem Z5r(h:MSs X io sts (Ycg (oS f) (oS g))):MSs X io sts (oS (Zx f g)):=h.weak λD δ h=>by
 unfold oS Zx at h;unfold Ycg oS
 cases q:f δ<;>rw[q]at h<;>exact h
theorem Zy4(h:MSs X io sts Z7t):MSs X io sts (oS fNx):=h.weak λD δ h=>h
theorem Zmo{k:OT->Zf->RS}{D:Zhd}{δ:Zf}(h:oS (wE fa k) D δ):o2 fa δ λr δ'=>(k r δ').fits D:=by
 unfold oS wE at h
 split at h
 ·rename_i q;exact⟨_,_,q,h⟩
 ·exact h.elim
theorem o2.imp{α:Type}{f:Zf->Option (α×Zf)}{δ:Zf}{K K':α->Zf->Prop}(h:o2 f δ K)(k:∀r δ',K r δ'->K' r δ'):o2 f δ K':=let⟨r,δ',e,q⟩:=h;⟨r,δ',e,k r δ' q⟩
theorem Zda{P:Prop}[Decidable P]{a:RS}{D:Zhd}(h:(if P then a else .bad:RS).fits D):P∧a.fits D:=by
 split at h
 ·exact⟨‹_›,h⟩
 ·exact h.elim
theorem Zrk(h:MS X io st (Z4a (o2 fa))):MS X io st (oS (wE fa Zqm)):=h.weak λD δ h=>Zmo h
theorem Z8a(h:MS X io st (Yek (o2 fa))):MS X io st (oS (wE fa W8)):=h.weak λD δ h=>Zmo h
theorem Zaw(h:MS X io st (Zuj i)):MS X io st (oS (Zc6 i)):=h.weak λD δ h=>by
 unfold oS Zc6 at h;unfold Zuj
 split at h
 ·rename_i q;(try rw[q]);exact h
 ·exact h.elim
theorem Z9v(h:MS X io st (Yev (o2 ta) (oS u) (oS w))):MS X io st (oS (J8 ta u w)):=h.weak λD δ h=>by
 unfold oS J8 at h
 split at h
 ·rename_i b δ' q
  refine⟨b,δ',q,?_⟩
  split at h
  ·rename_i hb;rw[if_pos hb];exact h
  ·rename_i hb;rw[if_neg hb];exact h
 ·exact h.elim
theorem Zm9(h:MS X io st (Z3e i (o2 fa))):MS X io st (oS (wE fa (Wz i))):=h.weak λD δ h=>Zmo h
theorem Z0h(h:MS X io st (Zog i (o2 fa))):MS X io st (oS (wE fa (Ja i))):=h.weak λD δ h=>Zmo h
section
variable {n:Nat}{caps:List Nat}{o q:Nat}{it:FI}{gg:FG}{t:FT}{me:FE}
theorem Zvz(h:MS X io st (if true=true then Zog i (Zg1 n caps (o2 it) (oG gg) (o2 t) (o2 me))else Z3e i (Zg1 n caps (o2 it) (oG gg) (o2 t) (o2 me)))):MS X io st (oS (wE (Yc n caps it gg t me) (Ja i))) :=
 h.weak λD δ h=>by rw[if_pos rfl];exact Zqc (Zmo h)
theorem Zjb(h:MS X io st (if false=true then Zog i (Zg1 n caps (o2 it) (oG gg) (o2 t) (o2 me))else Z3e i (Zg1 n caps (o2 it) (oG gg) (o2 t) (o2 me)))):MS X io st (oS (wE (Yc n caps it gg t me) (Wz i))) :=
 h.weak λD δ h=>by rw[if_neg Xv];exact Zqc (Zmo h)
end
theorem Wx(h:MS X io st (Zi7 i (o2 fa))):MS X io st (oS (Yk i fa)):=h.weak λD δ h=>by
 unfold oS Yk at h;unfold Zi7
 split at h
 case h_2=>exact h.elim
 rename_i q;(try rw[q])
 refine(Zmo h).imp λr δ' z=>?_
 split at z
 ·rename_i q2;(try rw[q2]);exact Zda z
 ·exact z.elim
theorem Zpe(h:MS X io st (Zfg i (o2 fa))):MS X io st (oS (Zay i fa)):=h.weak λD δ h=>by
 unfold oS Zay at h;unfold Zfg
 split at h
 case h_2=>exact h.elim
 rename_i q;(try rw[q])
 refine(Zmo h).imp λr δ' z=>?_
 split at z
 ·rename_i q2;(try rw[q2]);exact Zda z
 ·exact z.elim
theorem Zf0(h:MS X io st (Zio i (oS u))):MS X io st (oS (Zbg i u)):=h.weak λD δ h=>by
 unfold oS Zbg at h;unfold Zio
 split at h
 ·rename_i q;(try rw[q]);exact h
 ·exact h.elim
theorem Ze1{gg:FG}{d:Xa}{ds:List Xa}{δ:Zf}:forLoop gg u (d :: ds) δ=match gg d δ with
  | none=>.bad
  | some δ1=>match u δ1 with
   | .nx δ2=>forLoop gg u ds δ2
   | .ct δ2=>forLoop gg u ds δ2
   | .bk δ2=>.nx δ2
   | r=>r:=rfl
theorem Z57{it:FI}{gg:FG}(h:MS X io st (Ydy (o2 it) (oG gg) (oS u))):MS X io st (oS (Jz it gg u)):=h.weak λD δ h=>by
 unfold oS Jz at h
 split at h
 case h_2=>exact h.elim
 rename_i ds δ1 q
 refine⟨ds,δ1,q,λi δ'=>(forLoop gg u (ds.drop i) δ').fits D,by show RS.fits D (forLoop gg u (ds.drop 0) δ1);rw[List.drop_zero];exact h,λi d δ' hd z=>?_,λδ' z=>?_⟩
 ·obtain⟨hi,hdi⟩:=Xn.mp hd
  replace z:RS.fits D (forLoop gg u (ds.drop i) δ'):=z
  rw[VP hi,hdi,Ze1]at z
  split at z
  case h_1=>exact z.elim
  rename_i δ2 q2
  refine⟨δ2,q2,?_⟩
  unfold oS
  cases q3:u δ2<;>rw[q3]at z<;>(try rw[q3])<;>exact z
 ·replace z:RS.fits D (forLoop gg u (ds.drop ds.length) δ'):=z
  rw[List.drop_length]at z;exact z
theorem Zt6(h:MS X io st (Zx6 (o2 ta) (oS u))):MS X io st (oS (Zhi ta u)):=h.weak λD δ h=>by
 unfold oS Zhi at h
 split at h
 case isFalse=>exact h.elim
 rename_i hn
 refine⟨λn δ'=>(whileLoop ta u n δ').fits D,⟨_,h⟩,λn δ' z=>?_⟩
 cases n with
 | zero=>exact z.elim
 | succ n=>
  unfold whileLoop at z
  split at z
  case h_1=>exact z.elim
  rename_i b δ1 q
  refine⟨b,δ1,q,?_⟩
  split at z
  ·rename_i hb
   rw[if_pos hb]
   refine⟨λδ''=>(whileLoop ta u n δ'').fits D,λδ'' y=>⟨n,QC n,y⟩,?_⟩
   unfold oS
   cases q3:u δ1<;>rw[q3]at z<;>exact z
  ·rename_i hb
   rw[if_neg hb]
   exact z
theorem Zcf{n m:Nat}:∀{δ:Zf},whileLoop ta u n δ≠ .bad->whileLoop ta u (n+m) δ=whileLoop ta u n δ:=by
 induction n with
 | zero=>intro δ h;exact absurd rfl h
 | succ n ih=>
  intro δ h
  rw[Nat.succ_add]
  unfold whileLoop at h⊢
  cases q:ta δ with
  | none=>rfl
  | some x=>
   obtain⟨b,δ1⟩:=x
   rw[q]at h
   try dsimp only at h⊢
   split
   ·rename_i hb
    rw[if_pos hb]at h
    cases q3:u δ1<;>rw[q3]at h<;>first|exact ih h|rfl
   ·rfl
theorem Ztk{r:RS}{δ:Zf}(n:Nat)(h:whileLoop ta u n δ=r)(hr:r≠ .bad):Zhi ta u δ=r:=by
 have hn:∃n,whileLoop ta u n δ≠ .bad:=⟨n,by rw[h];exact hr⟩
 unfold Zhi
 rw[dif_pos hn]
 have h1:=Classical.choose_spec hn
 have e1:=Zcf (m:=n) h1
 have e2:=Zcf (m:=Classical.choose hn) (show whileLoop ta u n δ≠ .bad by rw[h];exact hr)
 rw[Nat.add_comm]at e2
 rw[←e1,e2,h]
theorem Zb4{cn:Str}:MS X io st (oS (Zcl cn)):=Zu1.weak λD δ h=>h
class NoEx (f:FS):Prop where
 no:∀δ cn δ',f δ≠ .ex cn δ'
class NoExK (k:OT->Zf->RS):Prop where
 no:∀r δ cn δ',k r δ≠ .ex cn δ'
end
section
variable {P:XS}{w:Qq}{K:Xc}{mg:Str->Option Xe}{base:Heap}{x qual:Str}{st:Stmt}{f:Addr}{fd:Qc}{N ps:List Str}{n np nn:Nat}{S:FS}
theorem RS.told_fits{r:RS}{o:OT}{k:OT->Prop}(h:r.told= .ok o)(hk:k o):r.fits (Z0v k):=by
 cases r<;>unfold RS.told at h<;>first|(cases h;exact hk)|cases h
theorem Ye(F:Fun K x qual st f fd)(Sc:Zt N ps (Zi st))(hN:N.length=nn)(hp:np=ps.length)
  (hb:∀(cdv:Xe) (A:Qs) (outer:List Env) (s:Xg) (H:Hp) (E:XK),Room n (A.deeper (envOfC qual (Zi st) s.heap.objs.size f cdv))->MSs (Zxe CX0 P w K mg base N qual (Zi st) f cdv A outer s H E).nox [] (Zau st) (oS S)) :
  FnOk P w K mg base CX0 (n+1) f fd ps (spD K (sD (Ji np nn S))):=by
 subst hN hp
 refine F.okD Sc (λds k h=>?_) λcdv A outer s H E hr=>⟨_,hb cdv A outer s H E hr,λds k h=>?_⟩
 ·obtain⟨r,h,_⟩:=h
  unfold Ji at h
  split at h
  ·assumption
  ·cases h
 ·obtain⟨r,h,hk⟩:=h
  unfold Ji at h
  split at h
  ·exact RS.told_fits h hk
  ·cases h
end
noncomputable def i2(g:Int->Int->Xa):Xa->Xa->Option Xa:=λd e=>match d,e with| .int i,.int j=>some (g i j)|_,_=>none
noncomputable def i2c(c:Int->Int->Bool)(g:Int->Int->Xa):Xa->Xa->Option Xa:=λd e=>match d,e with| .int i,.int j=>if c i j=true then some (g i j)else none|_,_=>none
theorem Zq5{g:Int->Int->Xa}:ByS (i2 g) (Zxy g):=λd e r k h hk=>by
 unfold i2 at h
 split at h
 ·cases h;exact hk
 ·cases h
theorem Zmn{c:Int->Int->Bool}{C:Int->Int->Prop}{g:Int->Int->Xa}(hc:∀i j,c i j=true->C i j):ByS (i2c c g) (d2I C g):=λd e r k h hk=>by
 unfold i2c at h
 split at h
 ·split at h
  ·cases h;exact⟨hc _ _ ‹_›,hk⟩
  ·cases h
 ·cases h
noncomputable def Z3g(a b:Int):Bool:=!(decide (Um a>shortFactorBits)&&decide (Um b>shortFactorBits)&&Bu.Int.intTooBig (Um a+Um b))
noncomputable def Z3p(_ j:Int):Bool:=decide (j≠0)&&decide (j.natAbs.log2<9000)
noncomputable def Ydw(_ j:Int):Bool:=decide (j≠0)
noncomputable def Ygl(i j:Int):Bool:=decide (0≤j∧j≤1000000∧i.natAbs<2^64)
theorem Zie{a b:Int}:Z3g a b=true↔IntMulOk a b:=by
 unfold Z3g IntMulOk
 rw[Bool.not_eq_true',Bool.not_eq_true]
noncomputable def Zca:=i2 λi j=>.int (i+j)
noncomputable def gSb:=i2 λi j=>.int (i-j)
noncomputable def Zgz:=i2c Z3g λi j=>.int (i*j)
noncomputable def Zag:=i2c Z3p λi j=>.int (i.fdiv j)
noncomputable def Zc9:=i2c Ydw λi j=>.int (i.fmod j)
noncomputable def Zwq:=i2c Ygl λi j=>.int (i^j.toNat)
noncomputable def gLt:=i2 λi j=>.bool (decide (i<j))
noncomputable def gLe:=i2 λi j=>.bool (decide (i≤j))
noncomputable def gGt:=i2 λi j=>.bool (decide (j<i))
noncomputable def gGe:=i2 λi j=>.bool (decide (j≤i))
theorem Ycs:ByS Zca (Zxy λi j=>.int (i+j)):=Zq5
theorem Ybj:ByS gSb (Zxy λi j=>.int (i-j)):=Zq5
theorem Ycn:ByS Zgz (d2I MulOk λi j=>.int (i*j)):=Zmn λi j h=>⟨Zie.mp h⟩
theorem Z3r:ByS Zag (d2I Yd5 λi j=>.int (i.fdiv j)):=Zmn λi j h=>⟨by
 unfold Z3p at h
 rw[XJ]at h
 exact⟨of_decide_eq_true h.1,of_decide_eq_true h.2⟩⟩
theorem Ybp:ByS Zc9 (d2I (λ_ j=>j≠0) λi j=>.int (i.fmod j)):=Zmn λi j h=>of_decide_eq_true h
theorem Ybk:ByS Zwq (d2I Yd3 λi j=>.int (i^j.toNat)):=Zmn λi j h=>⟨(of_decide_eq_true h:0≤j∧j≤1000000∧i.natAbs<2^64)⟩
theorem Ydf:ByS gLt (Zxy λi j=>.bool (decide (i<j))):=Zq5
theorem Ygs:ByS gGt (Zxy λi j=>.bool (decide (j<i))):=Zq5
theorem Ygc:ByS gGe (Zxy λi j=>.bool (decide (j≤i))):=Zq5
noncomputable def gEq:Xa->Xa->Option Xa:=λd e=>if(Ud d&&Ud e)=true then some (.bool (Q5 d e))else none
noncomputable def gNe:Xa->Xa->Option Xa:=λd e=>if(Ud d&&Ud e)=true then some (.bool (!Q5 d e))else none
theorem Yga:ByS gEq dEq:=λd e r k h hk=>by
 unfold gEq at h
 split at h
 ·rename_i q
  rw[XJ]at q
  cases h
  exact⟨⟨q.1⟩,⟨q.2⟩,hk⟩
 ·cases h
theorem Yf3:ByS gNe dNe:=λd e r k h hk=>by
 unfold gNe at h
 split at h
 ·rename_i q
  rw[XJ]at q
  cases h
  exact⟨⟨q.1⟩,⟨q.2⟩,hk⟩
 ·cases h
noncomputable def gIs:Xa->Xa->Option Xa:=λd e=>match e with| .none=>some (.bool (Zd4 d))|_=>none
noncomputable def Zhx:Xa->Xa->Option Xa:=λd e=>match e with| .none=>some (.bool (!Zd4 d))|_=>none
theorem Zlu:ByS Zhx Z5l:=λd e r k h hk=>by
 unfold Zhx at h
 split at h
 ·cases h;exact⟨rfl,hk⟩
 ·cases h
noncomputable def Zq4(neg:Bool):Xa->Xa->Option Xa:=λd e=>match Zhw e with
 | some ds=>if(scD d&&ds.all scD)=true then some (.bool (if neg then !memS d ds else memS d ds))else none
 | none=>none
theorem Zwv{neg:Bool}:ByS (Zq4 neg) (dIn neg):=λd e r k h hk=>by
 unfold Zq4 at h
 split at h
 case h_2=>cases h
 rename_i ds q
 split at h
 case isFalse=>cases h
 rename_i q2
 rw[XJ]at q2
 cases h
 refine⟨q2.1,?_⟩
 cases e<;>cases q
 ·exact⟨q2.2,hk⟩
 ·exact⟨q2.2,hk⟩
noncomputable def gIx:Xa->Xa->Option OT:=λd e=>(ixD d e).bind λx=>some (.fz x)
theorem Yge:ByO gIx dIx:=λd e r k h hk=>by
 obtain⟨x,h1,h2⟩:=bs h
 cases h2
 unfold dIx
 rw[h1]
 exact hk
noncomputable def Zs1:Xa->Xa->Option OT:=λd e=>match d,e with| .list ds,.list es=>if ds.length+es.length≤Xq then some (.nd ((ds ++ es).map OT.fz))else none|_,_=>none
theorem Zz7:ByO Zs1 dCat:=λd e r k h hk=>by
 unfold Zs1 at h
 split at h
 ·split at h
  ·cases h;exact⟨‹_›,hk⟩
  ·cases h
 ·cases h
noncomputable def Zce:List Xa->Option Xa:=λds=>match ds with|[d]=>(Zuq d).bind λn=>some (.int n)|_=>none
theorem Ybt:∀ds r k,Zce ds=some r->k r->Yep ds k:=λds r k h hk=>by
 unfold Zce at h
 split at h
 ·obtain⟨n,h1,h2⟩:=bs h
  cases h2
  show match Zuq _ with|some n=>_|none=>_
  rw[h1]
  exact hk
 ·cases h
noncomputable def Ycl:List Xa->Option Xa:=λds=>match ds with|[.int i]=>some (.int (if i<0 then -i else i))|_=>none
noncomputable def Ygh:List Xa->Option Xa:=λds=>match ds with|[.int i,.int j]=>some (.int (if j>i then j else i))|_=>none
noncomputable def Ygb:List Xa->Option Xa:=λds=>match ds with|[.int i,.int j]=>some (.int (if j<i then j else i))|_=>none
noncomputable def Z37:List Xa->Option Xa:=λds=>match ds with|[.int i]=>some (.int i)|[.bool b]=>some (.int (if b then 1 else 0))|_=>none
theorem Z91:∀ds r k,Z37 ds=some r->k r->Yed ds k:=λds r k h hk=>by
 unfold Z37 at h
 split at h
 ·cases h;exact hk
 ·cases h;exact hk
 ·cases h
noncomputable def Zp3:List Xa->Option OT:=λds=>match ds with|[d]=>(Zhw d).bind λes=>some (.nd (es.map OT.fz))|_=>none
theorem Z7u:∀ds r k,Zp3 ds=some r->k r->Z7f ds k:=λds r k h hk=>by
 unfold Zp3 at h
 split at h
 ·obtain⟨n,h1,h2⟩:=bs h
  cases h2
  show match Zhw _ with|some n=>_|none=>_
  rw[h1]
  exact hk
 ·cases h
noncomputable def Ze6:List Xa->Option (List Int)
 | []=>some []
 | .int i :: r=>(Ze6 r).bind λl=>some (i :: l)
 | _ :: _=>none
theorem Zdk:∀{ds:List Xa} {ns:List Int},Ze6 ds=some ns->ds=ns.map Xx
 | [],_,h=>by cases h;rfl
 | .int i :: r,_,h=>by
  obtain⟨l,h1,h2⟩:=bs h
  cases h2
  rw[Zdk h1];rfl
 | .none :: _,_,h=>by cases h
 | .bool _ :: _,_,h=>by cases h
 | .str _ :: _,_,h=>by cases h
 | .list _ :: _,_,h=>by cases h
 | .tuple _ :: _,_,h=>by cases h
 | .dict _ :: _,_,h=>by cases h
@[simp] theorem Zdc:∀ns:List Int,Ze6 (ns.map Xx)=some ns
 | []=>rfl
 | n :: ns=>by rw[X3,Ze6,Zdc ns];rfl
section
variable {X:Cx}{io:List Nat}{p c:Bool}{e tg:Expr}{es:List Expr}{st:Stmt}{fa fb fc:FE}{ra:FA}{i:Nat}
noncomputable def Yfb(a:FA):FE:=λδ=>(a δ).bind λp=>match OT.datas p.1 with|[.int j]=>if rOk j=true∧j.toNat≤Xq then some (.nd ((Ze5 0 j.toNat).map OT.fz),p.2)else none|_=>none
noncomputable def Yee(a b:FE):FE:=λδ=>(a δ).bind λp=>(b p.2).bind λq=>match q.1.data with| .int k=>if rOk k=true∧k.toNat≤Xq then some (.nd (X4 k.toNat (.fz p.1.data)),p.2)else none|_=>none
noncomputable def Z7p(i:Nat)(a:FE):FE:=λδ=>match δ[i]? with
 | some (some (.nd _))=>(a δ).bind λp=>match p.2[i]? with
  | some (some (.nd ts))=>match p.1.data with
   | .int j=>match ixN ts.length j with
    | some k=>match ts[k]? with
     | some (.fz d)=>if ts.length≤Xq then some (.fz d,p.2.set i (some (.nd (ts.eraseIdx k))))else none
     | _=>none
    | none=>none
   | _=>none
  | _=>none
 | _=>none
theorem Z4g(h:ME X io p c e (Z9c i (o2 fa))):ME X io p c e (o2 (Z7p i fa)):=h.weak λδ K h=>by
 obtain⟨r,δ',h,k⟩:=h
 unfold Z7p at h;unfold Z9c
 split at h
 case h_2=>cases h
 rename_i q;(try rw[q])
 obtain⟨⟨x,δ1⟩,h1,h⟩:=bs h
 refine⟨x,δ1,h1,?_⟩
 try dsimp only at h⊢
 split at h
 case h_2=>cases h
 rename_i q2;(try rw[q2])
 try dsimp only
 split at h
 case h_2=>cases h
 rename_i j q3;(try rw[q3])
 show match ixN _ j with|some k=>_|none=>_
 split at h
 case h_2=>cases h
 rename_i q4;(try rw[q4]);(try dsimp only)
 split at h
 case h_2=>cases h
 rename_i q5;(try rw[q5])
 split at h
 case isFalse=>cases h
 cases h
 exact⟨‹_›,k⟩
end
variable {G:Xc}
section
variable {X:Cx}{io:List Nat}{p c:Bool}{e a b:Expr}{es:List Expr}{m ma mb:MEt}{mr:MAt}{pos apos cpos px py pt sp kp:Pos}{i j:Nat}{x y:Str}{fa fb:FE}{ra:FA}{st:Stmt}
noncomputable def Z8d(m:MAt):MEt:=λδ K=>m δ λrs δ'=>rs.length≤Xq∧K (.tp rs) δ'
theorem Z3o{x1}(h:MA X io p c es mr):ME X io p c (.Tuple es x1 pos) (Z8d mr):=by
 obtain⟨tA,A,sa⟩:=h
 refine⟨_,Zx8 A,λC H σ δ fp ex K Q R h k=>?_⟩
 refine sa C H σ δ fp ex _ _ R h λH1 vs rs δ1 fp1 new1 r1 h1=>⟨by rw[r1.own.length];exact h1.1,λq hq=>?_⟩
 have s:=Zz hq (.tup vs)
 have S:=r1.stp.trans (p':=true) (Stp.same (p:=true) (δ:=δ1) (fp:=fp1) s s.al)
 rw[Bool.and_true]at S
 exact k _ _ _ δ1 fp1 new1 ⟨(r1.rel.made (new:=[]) s λa m=>nomatch m).drop λa z=>.inl z,S,.tp Zr (r1.own.same s),r1.nd,r1.fresh⟩ h1.2
noncomputable def Zvv(a:FA):FE:=λδ=>(a δ).bind λp=>if p.1.length≤Xq then some (.tp p.1,p.2)else none
theorem Z12(h:ME X io p c e (Z8d (o2 ra))):ME X io p c e (o2 (Zvv ra)):=h.weak λδ K h=>by
 obtain⟨r,δ',h,k⟩:=h
 obtain⟨⟨x,δ1⟩,h1,h⟩:=bs h
 refine⟨x,δ1,h1,?_⟩
 dsimp only at h
 split at h
 ·rename_i q;cases h;exact⟨q,k⟩
 ·cases h
noncomputable def Zx5(i c:Nat)(e:FE):FS:=λδ=>match δ[i]? with
 | some (some (.tp ts))=>match ts[c]? with
  | some (.nd us)=>wE e (λr _=>if us.length<Xq then .nx (δ.set i (some (.tp (ts.set c (.nd (us ++ [.fz r.data]))))))else .bad) δ
  | _=>.bad
 | _=>.bad
noncomputable def Yer(i j:Nat)(a:FA):FS:=λδ=>match a δ with
 | some (rs,δ1)=>match OT.datas rs with
  | [d,e]=>.nx ((δ1.set i (some (.fz d))).set j (some (.fz e)))
  | _=>.bad
 | none=>.bad
end
class NoStar (e:Expr):Prop where
 h:∀es env,Xu (e :: es) env=(false,eval e env) :: Xu es env
instance nx_Name{x:Str}{p:Pos}:NoStar (.Name x p):=⟨λ_ _=>rfl⟩
instance nx_Constant{x k}{p:Pos}:NoStar (.Constant x k p):=⟨λ_ _=>rfl⟩
instance nx_BinOp{a o b}{p:Pos}:NoStar (.BinOp a o b p):=⟨λ_ _=>rfl⟩
instance nx_Compare{a o b}{p:Pos}:NoStar (.Compare a o b p):=⟨λ_ _=>rfl⟩
instance nx_Call{f a k}{p:Pos}:NoStar (.Call f a k p):=⟨λ_ _=>rfl⟩
instance nx_Subscript{a b}{p:Pos}:NoStar (.Subscript a b p):=⟨λ_ _=>rfl⟩
instance nx_ListComp{a b s}{p:Pos}:NoStar (.ListComp a b s p):=⟨λ_ _=>rfl⟩
theorem Zj{X:Cx}{io:List Nat}{p p' c c' p2 c2:Bool}{e:Expr}{es:List Expr}{fa:FE}{ra:FA}[NoStar e](ha:ME X io p c e (o2 fa))(hr:MA X io p' c' es (o2 ra))(hc:p'=true∨c=true:=by first|exact Qw rfl|exact Qo rfl)(h2:(p&&p')=p2:=by rfl)(h3:(c&&c')=c2:=by rfl):MA X io p2 c2 (e :: es) (o2 (Zc fa ra)) :=
 h2▸h3▸Zz1 (Zzg ha hr hc (NoStar.h es X.env))
theorem Ze3{X:Cx}{io:List Nat}{p p' c c':Bool}{e:Expr}{m:MEt}(h:ME X io p c e m)(h2:p=p':=by rfl)(h3:c=c':=by rfl):ME X io p' c' e m:=h2▸h3▸h
variable {G:Xc}
section
variable {X:Cx}{io:List Nat}{p c:Bool}{e a b:Expr}{es:List Expr}{m ma mb:MEt}{mr:MAt}{pos apos cpos px py pt sp kp:Pos}{i j:Nat}{x y:Str}{fa fb:FE}{ra:FA}{st:Stmt}{u:FS}
noncomputable def insI(x:Int):List Int->List Int
 | []=>[x]
 | y :: ys=>if x≤y then x :: y :: ys else y :: insI x ys
noncomputable def Zba:List Int->List Int
 | []=>[]
 | x :: xs=>insI x (Zba xs)
theorem insI_perm(x:Int):∀l,(insI x l).Perm (x :: l)
 | []=>.refl _
 | y :: ys=>by
  unfold insI
  split
  ·exact .refl _
  ·exact((insI_perm x ys).cons y).trans (.swap x y ys)
theorem Jm:∀l,(Zba l).Perm l
 | []=>.refl _
 | x :: xs=>(insI_perm x _).trans ((Jm xs).cons x)
theorem Zf9(x:Int):∀{l},l.Pairwise (·≤·)->(insI x l).Pairwise (·≤·)
 | [],_=>.cons (λ_ m=>nomatch m) .nil
 | y :: ys,h=>by
  unfold insI
  cases h with
  | cons h1 h2=>
   split
   ·rename_i c
    refine .cons (λz m=>?_) (.cons h1 h2)
    rcases Xp.mp m with rfl|m
    ·exact c
    ·exact Int.le_trans c (h1 z m)
   ·rename_i c
    refine .cons (λz m=>?_) (Zf9 x h2)
    rcases Xp.mp ((insI_perm x ys).mem_iff.mp m)with rfl|m
    ·omega
    ·exact h1 z m
theorem W7:∀l,(Zba l).Pairwise (·≤·)
 | []=>.nil
 | x :: xs=>Zf9 x (W7 xs)
theorem Jk:∀{l₁ l₂:List Int},l₁.Perm l₂->l₁.Pairwise (·≤·)->l₂.Pairwise (·≤·)->l₁=l₂
 | [],l₂,h,_,_=>h.nil_eq
 | a :: l₁,[],h,_,_=>h.eq_nil
 | a :: l₁,b :: l₂,h,h1,h2=>by
  cases h1 with
  | cons p1 q1=>
   cases h2 with
   | cons p2 q2=>
    have e:a=b:=by
     have m1:a∈b :: l₂:=h.mem_iff.mp (.head _)
     have m2:b∈a :: l₁:=h.mem_iff.mpr (.head _)
     rcases Xp.mp m1 with e|m1
     ·exact e
     ·rcases Xp.mp m2 with e|m2
      ·exact e.symm
      ·have:=p2 a m1
       have:=p1 b m2
       omega
    subst e
    rw[Jk h.cons_inv q1 q2]
theorem Z8i:∀{its:List Xe} {ns:List Int},BJ its ns->Vals (ns.map V.int) its
 | [],_,h=>by cases h;exact .nil
 | v :: its,_,h=>by
  cases h with
  | cons n t h=>exact .cons ⟨_,rfl⟩ (Z8i h)
end
structure Gives(P:XS)(w:Qq)(it:Addr)(f:List Addr)(St:Heap->Prop)(x:Xe)(St':Heap->Prop):Prop where
 mem:it∈f
 run:∀{A:Qs} {E:Xe->Xg->Prop} {s:Xg} {Q:Xe->Xg->Prop},St s.heap->(∀h',St' h'->JM it s.heap h'->Q x { s with heap:=h' })->XD (XR P w) A (QT (.ref it)) Q E s
 keep:∀h h',(∀c∈f,∀o,h.get? c=some o->h'.get? c=some o)->St h->St h'
 keep':∀h h',(∀c∈f,∀o,h.get? c=some o->h'.get? c=some o)->St' h->St' h'
structure Zht(P:XS)(w:Qq)(it:Addr)(f:List Addr)(St:Heap->Prop):Prop where
 mem:it∈f
 run:∀{A:Qs} {E:Xe->Xg->Prop} {s:Xg} {Q:Xe->Xg->Prop},A.handled=none->St s.heap->(∀h' e,Heap.ExtBut it s.heap h'->(∃o,h'.get? e=some o∧o.cls= .type "StopIteration")->E (.ref e) { s with heap:=h' })->XD (XR P w) A (QT (.ref it)) Q E s
 keep:∀h h',(∀c∈f,∀o,h.get? c=some o->h'.get? c=some o)->St h->St h'
structure ZA(z TI TO i1 i2:Addr)(f1 f2:List Addr):Prop where
 TIz:TI≠z
 TOz:TO≠z
 a1:∀c∈f1,c≠z∧c≠TO∧c≠i2
 a2:∀c∈f2,c≠z∧c≠TO∧c≠i1
section
variable {P:XS}{w:Qq}{A:Qs}{E:Xe->Xg->Prop}{s:Xg}
theorem Zjm{T:Addr}{a b x:Xe}{k:Nat}{Q:Unit->Xg->Prop}(hT:Vc s.heap T a b)(h:∀h',h'.get? T=some { cls:=.type "tuple",data:=.seq ((#[a,b]:Array Xe).setIfInBounds k x) }->JM T s.heap h'->Q () { s with heap:=h' }) :
  XD (XR P w) A (updateSeq T (·.setIfInBounds k x)) Q E s:=wpAny_updateSeq_pair hT h
theorem Zs0{z TI TO i1 i2:Addr}{f1 f2:List Addr}{S1 T1 S2 T2:Heap->Prop}{x y a b:Xe}{Q:Xe->Xg->Prop}(D:ZA z TI TO i1 i2 f1 f2)(G1:Gives P w i1 f1 S1 x T1)(G2:Gives P w i2 f2 S2 y T2)
  (hz:IsZip s.heap z TI TO .none) (hTI:Vc s.heap TI (.ref i1) (.ref i2)) (hTO:Vc s.heap TO a b) (h1:S1 s.heap) (h2:S2 s.heap)
  (hQ:∀h',IsZip h' z TI TO (Bf s.heap.objs.size)->Vc h' TO x y->T1 h'->T2 h'->Vc h' s.heap.objs.size x y ->
   (∀ c o,c∉[z,TO,i1,i2]->s.heap.get? c=some o->h'.get? c=some o)->Q (.ref s.heap.objs.size) { s with heap:=h' }) :
  XD (XR P w) A (Bu.«zip.__next__» ⟨[.ref z],[]⟩) (λfin s'=>∃v,fin= .done (.ret v)∧Q v s') E s:=by
 obtain⟨i1z,i1O,i12⟩:=D.a1 i1 G1.mem
 obtain⟨i2z,i2O,i21⟩:=D.a2 i2 G2.mem
 have r1:z∉f1∧TO∉f1∧i2∉f1:=⟨λm=>(D.a1 z m).1 rfl,λm=>(D.a1 TO m).2.1 rfl,λm=>(D.a1 i2 m).2.2 rfl⟩
 have r2:z∉f2∧TO∉f2∧i1∉f2:=⟨λm=>(D.a2 z m).1 rfl,λm=>(D.a2 TO m).2.1 rfl,λm=>(D.a2 i1 m).2.2 rfl⟩
 have st:∀{b:Addr} {h h':Heap} {f:List Addr},JM b h h'->b∉f->∀c∈f,∀o,h.get? c=some o->h'.get? c=some o:=λsb hb c hc o e=>sb.extBut _ _ (λq=>hb (q▸hc)) e
 show XD _ _ (field (.ref z) 2>>=_) _ _ _
 refine Xb (Vd hz rfl (x:=.bool false) rfl ?_)
 show XD _ _ (field (.ref z) 3>>=_) _ _ _
 refine Xb (Vd hz rfl (x:=.ref TI) rfl (Xb (Bx hTI rfl ?_)))
 show XD _ _ (Bm (.ref z)>>=_) _ _ _
 refine Xb ?_
 unfold Bm
 refine Xb (Vd hz rfl (x:=.none) rfl (Xm ?_))
 simp only[if_true]
 refine Xb (Ui (Xb (Vd hz rfl (x:=.ref TO) rfl (Xb (QW hz (by simp) λh3 z3 b3=>?_)))))
 replace z3:IsZip h3 z TI TO .ellipsis:=z3
 refine Xb ?_
 simp only[List.zipIdx_cons,List.zipIdx_nil,List.forIn_cons,U8]
 refine Xb (Xb (wpAny_onRaise ?_))
 show XD _ _ (QT (.ref i1)>>=_) _ _ _
 refine Xb (G1.run (s:={ s with heap:=h3 }) (G1.keep _ _ (st b3 r1.1) h1) λh4 k4 b4=>Xm ?_)
 have o4:Vc h4 TO a b:=b4.extBut _ _ i1O.symm (b3.extBut _ _ D.TOz hTO)
 refine Xb (Bx o4 rfl (Xb (Zjm (s:={ s with heap:=h4 }) o4 λh5 o5 b5=>Xb (wpAny_letGo (Xm ?_)))))
 replace o5:Vc h5 TO x b:=o5
 refine Xb (Xb (wpAny_onRaise ?_))
 show XD _ _ (QT (.ref i2)>>=_) _ _ _
 refine Xb (G2.run (s:={ s with heap:=h5 }) (G2.keep _ _ (st b5 r2.2.1) (G2.keep _ _ (st b4 r2.2.2) (G2.keep _ _ (st b3 r2.1) h2))) λh6 k6 b6=>Xm ?_)
 have o6:Vc h6 TO x b:=b6.extBut _ _ i2O.symm o5
 refine Xb (Bx o6 rfl (Xb (Zjm (s:={ s with heap:=h6 }) o6 λh7 o7 b7=>Xb (wpAny_letGo (Xm (Xm ?_))))))
 replace o7:Vc h7 TO x y:=o7
 refine Xb (Bx o7 rfl (Xb (wpAny_newTuple ?_)))
 have sz:h7.objs.size=s.heap.objs.size:=by rw[b7.1,b6.1,b5.1,b4.1,b3.1]
 have z7:IsZip h7 z TI TO .ellipsis:=b7.extBut _ _ D.TOz.symm (b6.extBut _ _ i2z.symm (b5.extBut _ _ D.TOz.symm (b4.extBut _ _ i1z.symm z3)))
 have t1:T1 h7:=G1.keep' _ _ (st b7 r1.2.1) (G1.keep' _ _ (st b6 r1.2.2) (G1.keep' _ _ (st b5 r1.2.1) k4))
 have t2:T2 h7:=G2.keep' _ _ (st b7 r2.2.1) k6
 have old:∀c o,c∉[z,TO,i1,i2]->s.heap.get? c=some o->h7.get? c=some o:=λc o n e=>by
  simp only[Xp,Ur,or_false,not_or]at n
  exact b7.extBut _ _ n.2.1 (b6.extBut _ _ n.2.2.2 (b5.extBut _ _ n.2.1 (b4.extBut _ _ n.2.2.1 (b3.extBut _ _ n.1 e))))
 show XD _ _ (U9 (.ref z) (.ref h7.objs.size)>>=_) _ _ _
 refine Xb ?_
 unfold U9
 have zp:IsZip (h7.push { cls:=.type "tuple",data:=.seq #[x,y] }) z TI TO .ellipsis:=Xf _ z7
 refine Xb (QW zp (by simp) λh8 z8 b8=>?_)
 replace z8:IsZip h8 z TI TO (Bf h7.objs.size):=z8
 refine QW z8 (by simp) λh9 z9 b9=>?_
 replace z9:IsZip h9 z TI TO (Bf h7.objs.size):=z9
 have up:∀c o,c≠z->h7.get? c=some o->h9.get? c=some o:=λc o n e=>b9.extBut _ _ n (b8.extBut _ _ n (Xf _ e))
 have nz:h7.objs.size≠z:=XM (XH z7)
 have p9:Vc h9 h7.objs.size x y:=b9.extBut _ _ nz (b8.extBut _ _ nz (XC _ rfl))
 refine Xm ⟨_,rfl,?_⟩
 show Q (.ref h7.objs.size) _
 rw[sz]at z9 p9⊢
 exact hQ h9 z9 (up _ _ D.TOz o7) (G1.keep' _ _ (λc hc o e=>up c o (λq=>r1.1 (q▸hc)) e) t1) (G2.keep' _ _ (λc hc o e=>up c o (λq=>r2.1 (q▸hc)) e) t2) p9 λc o n e=>up c o (λq=>n (by simp[q])) (old c o n e)
theorem Zvq{z TI TO i1 i2:Addr}{f1 f2:List Addr}{S1 T1 S2:Heap->Prop}{a b:Xe}{Q:Fin->Xg->Prop}(hh:A.handled=none)(D:ZA z TI TO i1 i2 f1 f2)(g1:Zht P w i1 f1 S1∨(∃x,Gives P w i1 f1 S1 x T1)∧Zht P w i2 f2 S2)
  (hz:IsZip s.heap z TI TO .none) (hTI:Vc s.heap TI (.ref i1) (.ref i2)) (hTO:Vc s.heap TO a b) (h1:S1 s.heap) (h2:S2 s.heap)
  (hE:∀h' e,(∀c o,c∉[z,TO,i1,i2]->s.heap.get? c=some o->h'.get? c=some o)->(∃o,h'.get? e=some o∧o.cls= .type "StopIteration")->E (.ref e) { s with heap:=h' }) :
  XD (XR P w) A (Bu.«zip.__next__» ⟨[.ref z],[]⟩) Q E s:=by
 have r1:z∉f1∧TO∉f1∧i2∉f1:=⟨λm=>(D.a1 z m).1 rfl,λm=>(D.a1 TO m).2.1 rfl,λm=>(D.a1 i2 m).2.2 rfl⟩
 have r2:z∉f2∧TO∉f2∧i1∉f2:=⟨λm=>(D.a2 z m).1 rfl,λm=>(D.a2 TO m).2.1 rfl,λm=>(D.a2 i1 m).2.2 rfl⟩
 have st:∀{b:Addr} {h h':Heap} {f:List Addr},JM b h h'->b∉f->∀c∈f,∀o,h.get? c=some o->h'.get? c=some o:=λsb hb c hc o e=>sb.extBut _ _ (λq=>hb (q▸hc)) e
 show XD _ _ (field (.ref z) 2>>=_) _ _ _
 refine Xb (Vd hz rfl (x:=.bool false) rfl ?_)
 show XD _ _ (field (.ref z) 3>>=_) _ _ _
 refine Xb (Vd hz rfl (x:=.ref TI) rfl (Xb (Bx hTI rfl ?_)))
 show XD _ _ (Bm (.ref z)>>=_) _ _ _
 refine Xb ?_
 unfold Bm
 refine Xb (Vd hz rfl (x:=.none) rfl (Xm ?_))
 simp only[if_true]
 refine Xb (Ui (Xb (Vd hz rfl (x:=.ref TO) rfl (Xb (QW hz (by simp) λh3 z3 b3=>?_)))))
 replace z3:IsZip h3 z TI TO .ellipsis:=z3
 refine Xb ?_
 simp only[List.zipIdx_cons,List.zipIdx_nil,List.forIn_cons,U8]
 refine Xb (Xb (wpAny_onRaise ?_))
 show XD _ _ (QT (.ref i1)>>=_) _ _ _
 rcases g1 with G1|⟨⟨x,G1⟩,G2⟩
 ·obtain⟨i1z,i1O,i12⟩:=D.a1 i1 G1.mem
  refine Xb (G1.run (s:={ s with heap:=h3 }) hh (G1.keep _ _ (st b3 r1.1) h1) λh4 e b4 he=>?_)
  obtain⟨oe,hoe,hce⟩:=he
  have z4:IsZip h4 z TI TO .ellipsis:=b4 _ _ i1z.symm z3
  have ez:e≠z:=λq=>by subst q;rw[z4]at hoe;cases hoe;simp at hce
  refine QW z4 (by simp) λh5 _ b5=>hE h5 e (λc o n q=>?_) ⟨oe,b5.extBut _ _ ez hoe,hce⟩
  simp only[Xp,Ur,or_false,not_or]at n
  exact b5.extBut _ _ n.1 (b4 _ _ n.2.2.1 (b3.extBut _ _ n.1 q))
 ·obtain⟨i1z,i1O,i12⟩:=D.a1 i1 G1.mem
  obtain⟨i2z,i2O,i21⟩:=D.a2 i2 G2.mem
  refine Xb (G1.run (s:={ s with heap:=h3 }) (G1.keep _ _ (st b3 r1.1) h1) λh4 k4 b4=>Xm ?_)
  have o4:Vc h4 TO a b:=b4.extBut _ _ i1O.symm (b3.extBut _ _ D.TOz hTO)
  refine Xb (Bx o4 rfl (Xb (Zjm (s:={ s with heap:=h4 }) o4 λh5 o5 b5=>Xb (wpAny_letGo (Xm ?_)))))
  refine Xb (Xb (wpAny_onRaise ?_))
  show XD _ _ (QT (.ref i2)>>=_) _ _ _
  refine Xb (G2.run (s:={ s with heap:=h5 }) hh (G2.keep _ _ (st b5 r2.2.1) (G2.keep _ _ (st b4 r2.2.2) (G2.keep _ _ (st b3 r2.1) h2))) λh6 e b6 he=>?_)
  obtain⟨oe,hoe,hce⟩:=he
  have z6:IsZip h6 z TI TO .ellipsis:=b6 _ _ i2z.symm (b5.extBut _ _ D.TOz.symm (b4.extBut _ _ i1z.symm z3))
  have ez:e≠z:=λq=>by subst q;rw[z6]at hoe;cases hoe;simp at hce
  refine QW z6 (by simp) λh7 _ b7=>hE h7 e (λc o n q=>?_) ⟨oe,b7.extBut _ _ ez hoe,hce⟩
  simp only[Xp,Ur,or_false,not_or]at n
  exact b7.extBut _ _ n.1 (b6 _ _ n.2.2.2 (b5.extBut _ _ n.2.1 (b4.extBut _ _ n.2.2.1 (b3.extBut _ _ n.1 q))))
theorem Zo1{z TI TO i1 i2:Addr}{f1 f2:List Addr}{S1 T1 S2 T2:Heap->Prop}{x y a b:Xe}{Q:Option Xe->Xg->Prop}(D:ZA z TI TO i1 i2 f1 f2)(G1:Gives P w i1 f1 S1 x T1)(G2:Gives P w i2 f2 S2 y T2)
  (hz:IsZip s.heap z TI TO .none) (hTI:Vc s.heap TI (.ref i1) (.ref i2)) (hTO:Vc s.heap TO a b) (h1:S1 s.heap) (h2:S2 s.heap)
  (hQ:∀h',IsZip h' z TI TO (Bf s.heap.objs.size)->Vc h' TO x y->T1 h'->T2 h'->Vc h' s.heap.objs.size x y ->
   (∀ c o,c∉[z,TO,i1,i2]->s.heap.get? c=some o->h'.get? c=some o)->Q (some (.ref s.heap.objs.size)) { s with heap:=h' }):XD (XR P w) A (Ub (.ref z)) Q E s:=by
 have hT:s.TypeIs (.ref z) "zip" :=⟨_,hz,rfl⟩
 unfold Ub
 exact Xb (U0 (JL (name:=VL "__next__") hT F.slot_zip_next (JG F.slot_zip_next hT F.entry_zip_next (Zs0 D G1 G2 hz hTI hTO h1 h2 λh' a1 a2 a3 a4 a5 a6=>Xm (hQ h' a1 a2 a3 a4 a5 a6)) (F.args_zip_next_1 _))))
theorem Zsr{z TI TO i1 i2:Addr}{f1 f2:List Addr}{S1 T1 S2:Heap->Prop}{a b:Xe}{Q:Option Xe->Xg->Prop}(hh:A.handled=none)(D:ZA z TI TO i1 i2 f1 f2)(g1:Zht P w i1 f1 S1∨(∃x,Gives P w i1 f1 S1 x T1)∧Zht P w i2 f2 S2)
  (hz:IsZip s.heap z TI TO .none) (hTI:Vc s.heap TI (.ref i1) (.ref i2)) (hTO:Vc s.heap TO a b) (h1:S1 s.heap) (h2:S2 s.heap)
  (hQ:∀h',(∀c o,c∉[z,TO,i1,i2]->s.heap.get? c=some o->h'.get? c=some o)->Q none { s with heap:=h' }):XD (XR P w) A (Ub (.ref z)) Q E s:=by
 have hT:s.TypeIs (.ref z) "zip" :=⟨_,hz,rfl⟩
 unfold Ub
 refine Xb (U0 (JL (name:=VL "__next__") hT F.slot_zip_next (JG F.slot_zip_next hT F.entry_zip_next (Zvq hh D g1 hz hTI hTO h1 h2 λh' e hk he=>?_) (F.args_zip_next_1 _))))
 obtain⟨o,ho,hc⟩:=he
 exact Xb (wpAny_isInstance (T :="StopIteration") (b:=true) ⟨o,ho,hc⟩ isSubtype_stop (Xm (hQ _ hk)))
theorem Zs8{it t:Addr}{i:Nat}{items:Array Xe}{x:Xe}(hx:items[i]? =some x):Gives P w it [it,t] (λh=>IsTupIter h it t i∧IsTup h t items) x (λh=>IsTupIter h it t (i+1)) where
 mem:=by simp
 run:=fun{A E s Q} ⟨hit,ht⟩ hQ=>by
  obtain⟨o,ho,hc,hd⟩:=id hit
  obtain⟨ol,hol,_,nl,hdl⟩:=ht
  unfold QT
  refine Xb (JL (name:=VL "__next__") hit.typeIs slot_tupleiter_next (JG slot_tupleiter_next hit.typeIs entry_tupleiter_next ?_ (args_tupleiter_next _)))
  show XD _ _ (field (.ref it) 0>>=_) _ _ s
  refine Xb (Vd ho hd (x:=.ref t) rfl ?_)
  show XD _ _ (if(Qn t==QX)=true then _ else _) _ _ s
  rw[if_neg (show¬((Qn t==QX)=true)from Xv)]
  show XD _ _ (field (.ref it) 1>>=_) _ _ s
  refine Xb (Vd ho hd (x:=.int i 0) rfl ?_)
  show XD _ _ (seqItems? (.ref t)>>=_) _ _ s
  refine Xb (Bx hol hdl ?_)
  simp only[QJ,hx]
  refine Xb (wpAny_setField ho hd (by simp) (Xm ⟨x,rfl,Xm (hQ _ ?_ (JK ..))⟩))
  exact⟨_,Heap.get?_update_self _ ho (Obj.isFreed_of_fields (Obj.data_mapFields hd _)),(Obj.cls_mapFields ..).trans hc,by rw[Obj.data_mapFields hd];simp[Bf]⟩
 keep:=λh h' k ⟨⟨o,a1,a2⟩,⟨o',b1,b2⟩⟩=>⟨⟨o,k it (by simp) o a1,a2⟩,⟨o',k t (by simp) o' b1,b2⟩⟩
 keep':=λh h' k ⟨o,a1,a2⟩=>⟨o,k it (by simp) o a1,a2⟩
theorem Zwt{it t:Addr}{i:Nat}{items:Array Xe}(hx:items[i]? =none):Zht P w it [it,t] (λh=>IsTupIter h it t i∧IsTup h t items) where
 mem:=by simp
 run:=fun{A E s Q} hh ⟨hit,ht⟩ hE=>by
  obtain⟨o,ho,hc,hd⟩:=id hit
  obtain⟨ol,hol,_,nl,hdl⟩:=ht
  unfold QT
  refine Xb (JL (name:=VL "__next__") hit.typeIs slot_tupleiter_next (JG slot_tupleiter_next hit.typeIs entry_tupleiter_next ?_ (args_tupleiter_next _)))
  show XD _ _ (field (.ref it) 0>>=_) _ _ s
  refine Xb (Vd ho hd (x:=.ref t) rfl ?_)
  show XD _ _ (if(Qn t==QX)=true then _ else _) _ _ s
  rw[if_neg (show¬((Qn t==QX)=true)from Xv)]
  show XD _ _ (field (.ref it) 1>>=_) _ _ s
  refine Xb (Vd ho hd (x:=.int i 0) rfl ?_)
  show XD _ _ (seqItems? (.ref t)>>=_) _ _ s
  refine Xb (Bx hol hdl ?_)
  simp only[QJ,hx]
  refine Xb (Ui (Xb (wpAny_setField ho hd (by simp) ?_)))
  show XD _ _ (newExc (.type "StopIteration") []>>=_) _ _ _
  refine Xb ?_
  simp only[newExc,newTuple]
  refine Xb (JH ?_ (by size_fits))
  refine Xb (m:=Uw _ _) (wpAny_of_eq (a:=QX) (by first|rfl|(simp only[Uw];rfl)) ?_)
  refine JH ?_ (by size_fits)
  simp only[raiseNew]
  refine Xb (wpAny_handled ?_)
  first|rw[show A.in1.handled=none from hh]|rw[hh]
  exact Xb (Xm (wpAny_throw (hE _ _ (((JK ..).extBut.push _).push _) ⟨_,XC _ rfl,rfl⟩)))
 keep:=λh h' k ⟨⟨o,a1,a2⟩,⟨o',b1,b2⟩⟩=>⟨⟨o,k it (by simp) o a1,a2⟩,⟨o',k t (by simp) o' b1,b2⟩⟩
end
noncomputable abbrev zT1(h:Heap)(a:Addr):Heap:=h.push { cls:=.type "tuple_iterator",data:=.fields #[.ref a,.int 0 0] }
noncomputable abbrev zT2(h:Heap)(a b:Addr):Heap:=(zT1 h a).push { cls:=.type "tuple_iterator",data:=.fields #[.ref b,.int 0 0] }
noncomputable abbrev zT3(h:Heap)(a b:Addr):Heap:=(zT2 h a b).push { cls:=.type "tuple",data:=.seq #[.ref h.objs.size,.ref (zT1 h a).objs.size] }
noncomputable abbrev zT4(h:Heap)(a b:Addr):Heap:=(zT3 h a b).push { cls:=.type "tuple",data:=.seq #[.none,.none] }
noncomputable abbrev zT5(h:Heap)(a b:Addr):Heap:=(zT4 h a b).push { cls:=.type "zip",data:=.fields #[.none,.bool false,.bool false,.ref (zT2 h a b).objs.size,.ref (zT3 h a b).objs.size] }
theorem Zvg(a b:Addr)(xs ys:Array Xe) :
  Meets (Bu.«zip.__new__» ⟨[.type "zip",.ref a,.ref b],[]⟩) (λ_ R s=>IsTup s.heap a xs∧IsTup s.heap b ys∧R (.ok (.ret (.ref (zT4 s.heap a b).objs.size))) { s with heap:=zT5 s.heap a b }) :=
 .of_wp λprog w A R s h=>by
  obtain⟨hp,g,d,tk,os⟩:=s
  obtain⟨h1,h2,h⟩:=h
  have hsub:=sub_zip
  have hL1:IsTup (Xg.heap ⟨hp,g,d,tk,os⟩) a xs:=h1
  have hL2:IsTup (Xg.heap ⟨hp.push { cls:=.type "tuple_iterator",data:=.fields #[.ref a,.int 0 0] },g,d,tk,os⟩) b ys:=h2.push _
  wp_walk using iter_tuple hL1,iter_tuple hL2
  exact⟨_,rfl,h⟩
section
variable {P:XS}{w:Qq}{A:Qs}{E:Xe->Xg->Prop}{s:Xg}
theorem Zs9{a b:Addr}{xs ys:Array Xe}{Q:Xe->Xg->Prop}(h1:IsTup s.heap a xs)(h2:IsTup s.heap b ys)
  (h:∀h' n,n=s.heap.objs.size->IsZip h' (n+4) (n+2) (n+3) .none->Vc h' (n+2) (.ref n) (.ref (n+1))->Vc h' (n+3) .none .none->IsTupIter h' n a 0->IsTupIter h' (n+1) b 0 ->
   (∀ c o,s.heap.get? c=some o->h'.get? c=some o)->Q (.ref (n+4)) { s with heap:=h' }):XD (XR P w) A (call (.type "zip") [.ref a,.ref b]) Q E s:=by
 refine callType_new F.called_zip (by decide) (F.typeCall_zip_2 _ _) (F.newCall_zip_2 _ _) (λobj=>F.args_object_init_3 obj _ _) F.entry_zip_new (Zvg a b xs ys) ⟨h1,h2,?_⟩
 have e1:(zT1 s.heap a).objs.size=s.heap.objs.size+1:=QF ..
 have e2:(zT2 s.heap a b).objs.size=s.heap.objs.size+2:=by rw[QF,e1]
 have e3:(zT3 s.heap a b).objs.size=s.heap.objs.size+3:=by rw[QF,e2]
 have e4:(zT4 s.heap a b).objs.size=s.heap.objs.size+4:=by rw[QF,e3]
 have up:∀{c o},(zT1 s.heap a).get? c=some o->(zT5 s.heap a b).get? c=some o:=λx=>Xf _ (Xf _ (Xf _ (Xf _ x)))
 have p5:(zT5 s.heap a b).get? (zT4 s.heap a b).objs.size=some _:=XC _ rfl
 have p4:(zT5 s.heap a b).get? (zT3 s.heap a b).objs.size=some _:=Xf _ (XC _ rfl)
 have p3:(zT5 s.heap a b).get? (zT2 s.heap a b).objs.size=some _:=Xf _ (Xf _ (XC _ rfl))
 have p2:(zT5 s.heap a b).get? (zT1 s.heap a).objs.size=some _:=Xf _ (Xf _ (Xf _ (XC _ rfl)))
 have p1:(zT5 s.heap a b).get? s.heap.objs.size=some _:=up (XC _ rfl)
 show _∧_
 rw[e2,e3,e4]at p5
 rw[e1,e2]at p3
 rw[e3]at p4
 rw[e1]at p2
 rw[e4]
 exact⟨⟨_,p5,rfl⟩,h _ _ rfl p5 p3 p4 ⟨_,p1,rfl,rfl⟩ ⟨_,p2,rfl,rfl⟩ λc o x=>up (Xf _ x)⟩
end
theorem nn{n a b:Nat}(h:a≠b):n+a≠n+b:=λe=>h (Nat.add_left_cancel e)
theorem n0{n b:Nat}(h:0≠b):n≠n+b:=λe=>h (Nat.add_left_cancel (n:=n) e)
theorem nlt{n a c:Nat}(h:a<n):a≠n+c:=Xo (Qi h (BV ..))
theorem ZA.new{n a b:Nat}(h1:a<n)(h2:b<n):ZA (n+4) (n+2) (n+3) n (n+1) [n,a] [n+1,b] where
 TIz:=(by first|exact nn (by decide)|exact n0 (by decide)|exact(n0 (by decide)).symm|exact nlt h1|exact nlt h2|exact(nlt h1).symm|exact(nlt h2).symm|exact Xo h1|exact Xo h2|exact XM h1|exact XM h2|omega)
 TOz:=(by first|exact nn (by decide)|exact n0 (by decide)|exact(n0 (by decide)).symm|exact nlt h1|exact nlt h2|exact(nlt h1).symm|exact(nlt h2).symm|exact Xo h1|exact Xo h2|exact XM h1|exact XM h2|omega)
 a1:=λc hc=>by
  simp only[Xp,Ur,or_false]at hc
  rcases hc with rfl|rfl
  ·exact⟨(by first|exact nn (by decide)|exact n0 (by decide)|exact(n0 (by decide)).symm|exact nlt h1|exact nlt h2|exact(nlt h1).symm|exact(nlt h2).symm|exact Xo h1|exact Xo h2|exact XM h1|exact XM h2|omega),(by first|exact nn (by decide)|exact n0 (by decide)|exact(n0 (by decide)).symm|exact nlt h1|exact nlt h2|exact(nlt h1).symm|exact(nlt h2).symm|exact Xo h1|exact Xo h2|exact XM h1|exact XM h2|omega),(by first|exact nn (by decide)|exact n0 (by decide)|exact(n0 (by decide)).symm|exact nlt h1|exact nlt h2|exact(nlt h1).symm|exact(nlt h2).symm|exact Xo h1|exact Xo h2|exact XM h1|exact XM h2|omega)⟩
  ·exact⟨(by first|exact nn (by decide)|exact n0 (by decide)|exact(n0 (by decide)).symm|exact nlt h1|exact nlt h2|exact(nlt h1).symm|exact(nlt h2).symm|exact Xo h1|exact Xo h2|exact XM h1|exact XM h2|omega),(by first|exact nn (by decide)|exact n0 (by decide)|exact(n0 (by decide)).symm|exact nlt h1|exact nlt h2|exact(nlt h1).symm|exact(nlt h2).symm|exact Xo h1|exact Xo h2|exact XM h1|exact XM h2|omega),(by first|exact nn (by decide)|exact n0 (by decide)|exact(n0 (by decide)).symm|exact nlt h1|exact nlt h2|exact(nlt h1).symm|exact(nlt h2).symm|exact Xo h1|exact Xo h2|exact XM h1|exact XM h2|omega)⟩
 a2:=λc hc=>by
  simp only[Xp,Ur,or_false]at hc
  rcases hc with rfl|rfl
  ·exact⟨(by first|exact nn (by decide)|exact n0 (by decide)|exact(n0 (by decide)).symm|exact nlt h1|exact nlt h2|exact(nlt h1).symm|exact(nlt h2).symm|exact Xo h1|exact Xo h2|exact XM h1|exact XM h2|omega),(by first|exact nn (by decide)|exact n0 (by decide)|exact(n0 (by decide)).symm|exact nlt h1|exact nlt h2|exact(nlt h1).symm|exact(nlt h2).symm|exact Xo h1|exact Xo h2|exact XM h1|exact XM h2|omega),(by first|exact nn (by decide)|exact n0 (by decide)|exact(n0 (by decide)).symm|exact nlt h1|exact nlt h2|exact(nlt h1).symm|exact(nlt h2).symm|exact Xo h1|exact Xo h2|exact XM h1|exact XM h2|omega)⟩
  ·exact⟨(by first|exact nn (by decide)|exact n0 (by decide)|exact(n0 (by decide)).symm|exact nlt h1|exact nlt h2|exact(nlt h1).symm|exact(nlt h2).symm|exact Xo h1|exact Xo h2|exact XM h1|exact XM h2|omega),(by first|exact nn (by decide)|exact n0 (by decide)|exact(n0 (by decide)).symm|exact nlt h1|exact nlt h2|exact(nlt h1).symm|exact(nlt h2).symm|exact Xo h1|exact Xo h2|exact XM h1|exact XM h2|omega),(by first|exact nn (by decide)|exact n0 (by decide)|exact(n0 (by decide)).symm|exact nlt h1|exact nlt h2|exact(nlt h1).symm|exact(nlt h2).symm|exact Xo h1|exact Xo h2|exact XM h1|exact XM h2|omega)⟩
theorem ZA.new2(n:Nat):(n+2:Nat)≠n+3∧(n+2:Nat)≠n∧(n+2:Nat)≠n+1:=⟨nn (by decide),(n0 (by decide)).symm,nn (by decide)⟩
section
variable {X:Cx}{io:List Nat}{p c:Bool}{a b:Expr}{mr:MAt}
noncomputable def Z6k(ds:List Xa):Option (List Xa):=match ds with|[.list as,.list bs]=>some (Zo7 as bs)|[.tuple as,.tuple bs]=>some (Zo7 as bs)|_=>none
noncomputable def Zta(a:FA):FI:=λδ=>(a δ).bind λp=>(Z6k (OT.datas p.1)).bind λds=>some (ds,p.2)
end
noncomputable def Zem{α:Type}(xs:List α)(lo hi st:Option Int):List α :=
 (sliceRange (Bo lo hi st xs.length).1 (Bo lo hi st xs.length).2.1 (Bo lo hi st xs.length).2.2).filterMap (xs[·]?)
theorem Vals.places:∀{xs:List V} {its:List Xe},Vals xs its->∀js:List Nat,Vals (js.filterMap (xs[·]?)) (js.filterMap (its[·]?))
 | _,_,_,[]=>.nil
 | xs,its,h,j :: js=>by
  have ih:=Vals.places h js
  cases hn:xs[j]? with
  | some x=>
   obtain⟨u,hu,ru⟩:=h.get hn
   simp only[QQ,hn,hu]
   exact .cons ru ih
  | none=>
   have hv:its[j]? =none:=by
    rw[QD]at hn⊢
    rw[←h.length];exact hn
   simp only[QQ,hn,hv]
   exact ih
theorem Das.places{G:Xc}{H:Hp}{L:Addr->Prop}{xs:List V}{ds:List Xa}(h:Das G H L xs ds):∀js:List Nat,Das G H L (js.filterMap (xs[·]?)) (js.filterMap (ds[·]?))
 | []=>.nil
 | j :: js=>by
  have ih:=Das.places h js
  cases hn:ds[j]? with
  | some x=>
   obtain⟨u,hu,ru⟩:=h.get hn
   simp only[QQ,hn,hu]
   exact .cons ru ih
  | none=>
   have hv:xs[j]? =none:=by
    rw[QD]at hn⊢
    rw[h.length];exact hn
   simp only[QQ,hn,hv]
   exact ih
theorem Das.pick{G:Xc}{H:Hp}{L:Addr->Prop}{xs:List V}{ds:List Xa}(h:Das G H L xs ds)(lo hi st:Option Int):Das G H L (Zem xs lo hi st) (Zem ds lo hi st):=by
 unfold Zem
 rw[h.length]
 exact h.places _
theorem Vals.pick{xs:List V}{its:List Xe}(h:Vals xs its)(lo hi st:Option Int):Vals (Zem xs lo hi st) (slicePick its.toArray lo hi st).toList:=by
 have e:(slicePick its.toArray lo hi st).toList=(sliceRange (Bo lo hi st xs.length).1 (Bo lo hi st xs.length).2.1 (Bo lo hi st xs.length).2.2).filterMap (its[·]?):=by
  simp[slicePick,h.length]
 rw[e]
 exact h.places _
theorem Zft{xs:List V}{its:List Xe}(h:Vals xs its)(lo hi st:Option Int):(Zem xs lo hi st).length≤xs.length:=by
 have e:=(h.pick lo hi st).length
 have s:=slicePick_size_le its.toArray lo hi st
 have l:=h.length
 simp only[X5,Xy]at e s
 omega
section
variable {X:Cx}{e:Expr}{te:TE}{lo hi:Option Expr}{se:Expr}{tl th ts:TO}{pos p2:Pos}
noncomputable def tSt(K:Xc)(te:TE)(tl th ts:TO):TE:=λσ H Q=>te σ H λx H1=>tl σ H1 λl H2=>th σ H2 λu H3=>ts σ H3 λk H4=>∃a xs,x= .ref a∧SqL K H4 a xs∧k≠some 0∧∀p,H4 p=none->Q (.ref p) (upd H4 p (.lst (Zem xs l u k)))
theorem Zzj(he:PE X e te)(hl:PO X lo tl)(hu:PO X hi th)(hst:PO X (some se) ts):PE X (.Subscript e (.Slice lo hi (some se) p2) pos) (tSt X.K te tl th ts):=by
 intro pins s σ H Q I h
 refine Subscript_ (thn (he pins s σ H _ I h) λv s1 qz9=>?_)
 obtain⟨x,H1,I1,r1,q1⟩:=qz9
 refine wpAny_Slice (thn (hl pins s1 σ H1 _ I1 q1) λvl s2 qz9=>?_)
 obtain⟨l,H2,I2,pl,q2⟩:=qz9
 refine thn (hu pins s2 σ H2 _ I2 q2) λvu s3 qz9=>?_
 obtain⟨u,H3,I3,pu,q3⟩:=qz9
 refine thn (hst pins s3 σ H3 _ I3 q3) λvs s4 qz9=>?_
 obtain⟨k,H4,I4,ps,q4⟩:=qz9
 obtain⟨a,xs,rfl,hx,hk,q⟩:=q4
 cases r1
 have I5:Inv X pins σ H4 { s4 with heap:=s4.heap.push { cls:=.type "slice",data:=.fields #[vl,vu,vs] } }:=I4.kept (t':=s4.toks) λb ob q=>Xf _ q
 obtain⟨its,r,ht,hz⟩:=I5.list hx
 have hlen:=r.length
 show XD (XR X.prog X.w) X.A (subscriptTail e (.Slice lo hi (some se) p2) (.ref a) (.ref s4.heap.objs.size)) (EP X pins σ Q) X.xe { s4 with heap:=s4.heap.push { cls:=.type "slice",data:=.fields #[vl,vu,vs] } }
 refine tail_any (ops:=[.ref a,.ref s4.heap.objs.size]) ht.isList.typeIs slot_list_getitem.lookup ?_ (by with_unfolding_all rfl)
 refine wpAny_getItem_list_slice ht.isList (Heap.IsSliceOf.new ..) pl pu ps hk ?_ (by rw[Xy]<;>omega)
 refine⟨.ref _,_,I5.laid (t':=s4.toks) (o:=.lst (Zem xs l u k)) (λb ob q=>Xf _ q) (Xz _) ?_,rfl,q _ (I5.hok.fresh (Xz _))⟩
 exact⟨Ql (Zft r l u k) hz,_,0,r.pick l u k,XC _ rfl⟩
end
section
variable {X:Cx}{io:List Nat}{p c:Bool}{a e:Expr}{ma:MEt}{lo hi:Option Expr}{se:Expr}{ml mh ms:MOt}{pos p2:Pos}{fa:FE}
noncomputable def Z4j(m:MEt)(ml mh ms:MOt):MEt:=λδ K=>m δ λr δ1=>ml δ1 λlo δ2=>mh δ2 λhi δ3=>ms δ3 λst δ4=>st≠some 0∧asL r.data λds=>K (.nd ((Zem ds lo hi st).map OT.fz)) δ4
theorem Z40(ha:ME X io true c a ma)(hl:MO X io true lo ml)(hh:MO X io true hi mh)(hs:MO X io true (some se) ms):ME X io true c (.Subscript a (.Slice lo hi (some se) p2) pos) (Z4j ma ml mh ms):=by
 obtain⟨_,A,s⟩:=ha
 obtain⟨_,B,sl⟩:=hl
 obtain⟨_,D,sh⟩:=hh
 obtain⟨_,F,ss⟩:=hs
 refine⟨_,Zzj A B D F,?_⟩
 intro C H σ δ fp ex K' Q R h k
 refine s C H σ δ fp ex _ _ R h λH1 v r δ1 fp1 new r1 h1=>?_
 refine sl C H1 σ δ1 fp1 ex _ _ r1.base h1 λH2 l δ2 fp2 R2 S2 h2=>?_
 refine sh C H2 σ δ2 fp2 ex _ _ R2 h2 λH3 u δ3 fp3 R3 S3 h3=>?_
 refine ss C H3 σ δ3 fp3 ex _ _ R3 h3 λH4 w δ4 fp4 R4 S4 h4=>?_
 obtain⟨hw,h4⟩:=h4
 have s2:Same H1 H2:=λb o e=>S2.keep b o e (.inl rfl)
 have s3:Same H2 H3:=λb o e=>S3.keep b o e (.inl rfl)
 have s4:Same H3 H4:=λb o e=>S4.keep b o e (.inl rfl)
 obtain⟨e3,e4⟩:=S2.env rfl
 obtain⟨e5,e6⟩:=S3.env rfl
 obtain⟨e7,e8⟩:=S4.env rfl
 have q:=(((r1.da R).same s2).same s3).same s4
 obtain⟨a',xs,ds,rfl,e,qs,h4⟩:=q.lstInv h4
 refine⟨a',xs,rfl,e,hw,λp hp=>?_⟩
 have S:=((r1.stp.trans S2).trans S3).trans S4
 refine k _ _ _ δ4 fp4 [p] (RE.tree R R4 S (Zz hp _) (Zaq hp) (Zch p) (Own.list hp ((qs.pick l u w).wide λa l _=>?_))) h4
 rw[e8,e6,e4]
 exact l
noncomputable def stepOf(d:Xa)(lo hi st:Option Int):Option OT:=match d with| .list ds=>if st=some 0 then none else some (.nd ((Zem ds lo hi st).map OT.fz))|_=>none
noncomputable def Zu8(e:FE)(lo hi st:FO):FE:=λδ=>(e δ).bind λp=>(lo p.2).bind λq=>(hi q.2).bind λr=>(st r.2).bind λt=>(stepOf p.1.data q.1 r.1 t.1).bind λo=>some (o,t.2)
theorem Zz5{lo hi st:FO}(h:ME X io p c e (Z4j (o2 fa) (o2 lo) (o2 hi) (o2 st))):ME X io p c e (o2 (Zu8 fa lo hi st)):=h.weak λδ K h=>by
 obtain⟨r,δ',h,k⟩:=h
 obtain⟨⟨x,δ1⟩,h1,h⟩:=bs h
 obtain⟨⟨y,δ2⟩,h2,h⟩:=bs h
 obtain⟨⟨z,δ3⟩,h3,h⟩:=bs h
 obtain⟨⟨t,δ4⟩,h4,h⟩:=bs h
 obtain⟨o,h5,h⟩:=bs h
 cases h
 refine⟨x,δ1,h1,y,δ2,h2,z,δ3,h3,t,δ4,h4,?_⟩
 unfold stepOf at h5
 dsimp only at h5⊢
 split at h5
 ·rename_i q
  split at h5
  ·cases h5
  ·rename_i n
   cases h5
   refine⟨n,?_⟩
   rw[show x.data=_ from q]
   exact k
 ·cases h5
end
theorem Zmy{α β:Type}{f g:α->Option β}:∀{l:List α},(∀k∈l,f k=g k)->l.filterMap f=l.filterMap g
 | [],_=>rfl
 | a :: l,h=>by
  rw[QQ,QQ,h a (by simp),Zmy λk hk=>h k (by simp[hk])]
theorem Zr0{α:Type}(xs:List α):Zem xs none none (some (-1))=xs.reverse:=by
 unfold Zem sliceRange Bo
 simp only[Option.getD_some]
 have d0:¬((-1:Int)>0):=by decide
 simp only[if_neg d0]
 have hc:(if(xs.length:Int)-1> -1 then((xs.length:Int)-1- -1- -1-1)/(- -1)else 0)=(xs.length:Int):=by
  split
  ·simp
  ·omega
 rw[hc,List.filterMap_map,QJ]
 apply Vx
 intro i
 have hf:List.filterMap ((λx=>xs[x]?)∘ λk:Nat=>((xs.length:Int)-1+ -1*(k:Int)).toNat) (Xi xs.length)=xs.reverse:=by
  have:∀k∈Xi xs.length,((λx=>xs[x]?)∘ λk:Nat=>((xs.length:Int)-1+ -1*(k:Int)).toNat) k=xs.reverse[k]?:=λk hk=>by
   have hk:=XQ.mp hk
   show xs[((xs.length:Int)-1+ -1*(k:Int)).toNat]? =_
   rw[List.getElem?_reverse hk]
   congr 1
   omega
  rw[Zmy this]
  have gen:∀(ys:List α) (m:Nat),m=ys.length->List.filterMap (λk=>ys[k]?) (Xi m)=ys:=by
   intro ys
   induction ys with
   | nil=>intro m hm;subst hm;rfl
   | cons y ys ih=>
    intro m hm
    subst hm
    rw[QS,List.range_succ_eq_map,QQ]
    simp only[List.getElem?_cons_zero,List.filterMap_map]
    exact congrArg _ (ih _ rfl)
  exact gen _ _ (by simp)
 rw[hf]
section
variable {X:Cx}{io:List Nat}{c1 c2 c3 c4 p:Bool}{a b e d:Expr}{ma mb mc md:MEt}{pos:Pos}{f g h:Int->Int->Bool}{ta tb tc td:TE}{fa fb fc fd:FE}{G:Xc}
noncomputable def Zp2(r r' r'':R2)(ta tb tc td:TE):TE:=λσ H Q=>ta σ H λx H1=>tb σ H1 λy H2=>r x y H2 λz H3=>∃k,z= .bl k∧
 (if k=true then tc σ H3 λw H4=>r' y w H4 λz' H5=>∃k',z'= .bl k'∧(if k'=true then td σ H5 λu H6=>r'' w u H6 Q else Q (.bl false) H5)else Q (.bl false) H3)
theorem Zsn{op op' op'':CmpOp}{r r' r'':R2}(ho:OpR X (Qx op) r)(ho':OpR X (Qx op') r')(ho'':OpR X (Qx op'') r'')(ha:PE X a ta)(hb:PE X b tb)(hc:PE X e tc)(hd:PE X d td)
  (hm:lastMarks [op,op',op''] [b,e,d]=false:=by with_unfolding_all rfl):PT X (.Compare a [op,op',op''] [b,e,d] pos) (Zv3 (Zp2 r r' r'' ta tb tc td)):=by
 intro pins s σ H Q I h
 refine isTrue_chain (thn (ha pins s σ H _ I h) λv s1 ⟨x,H1,I1,r1,q1⟩=>test_link (thn (hb pins s1 σ H1 _ I1 q1) λu s2 ⟨y,H2,I2,r2,q2⟩=>
  thn (ho pins s2 σ H2 x y v u _ I2 r1 r2 q2) λd s3 ⟨z,H3,I3,r3,k,e,q3⟩=>?_)) hm
 subst e
 cases r3
 refine Q7 ?_
 cases k with
 | false=>
  obtain⟨k',e',q'⟩:=q3
  cases e'
  exact ite_ff ⟨H3,I3,q'⟩
 | true=>
  refine ite_tt (test_link (thn (hc pins s3 σ H3 _ I3 q3) λw' s4 qz9=>?_))
  obtain⟨z',H4,I4,r4,q4⟩:=qz9
  refine thn (ho' pins s4 σ H4 y z' u w' _ I4 r2 r4 q4) λd' s5 qz9=>?_
  obtain⟨z2,H5,I5,r5,k2,e2,q5⟩:=qz9
  subst e2
  cases r5
  refine Q7 ?_
  cases k2 with
  | false=>
   obtain⟨k',e',q'⟩:=q5
   cases e'
   exact ite_ff ⟨H5,I5,q'⟩
  | true=>
   refine ite_tt (test_last (thn (hd pins s5 σ H5 _ I5 q5) λw2 s6 qz9=>?_))
   obtain⟨z6,H6,I6,r6,q6⟩:=qz9
   refine thn (ho'' pins s6 σ H6 z' z6 w' w2 _ I6 r4 r6 q6) λd3 s7 qz9=>?_
   obtain⟨z7,H7,I7,r7,k7,e7,q7⟩:=qz9
   subst e7
   cases r7
   exact Q7 ⟨H7,I7,q7⟩
noncomputable def Zl2(f g h:Int->Int->Bool)(ma mb mc md:MEt):MEt:=λδ K=>ma δ λx δ1=>mb δ1 λy δ2=>asI x.data λi=>asI y.data λj=>if f i j=true then mc δ2 λz δ3=>asI z.data λk=>(if g j k=true then md δ3 λw δ4=>asI w.data λl=>K (.fz (.bool (h k l))) δ4 else K (.fz (.bool false)) δ3)else K (.fz (.bool false)) δ2
theorem Z2g(ha:SE G io true c1 ta ma)(hb:SE G io true c2 tb mb)(hc:SE G io true c3 tc mc)(hd:SE G io true c4 td md):SE G io true true (Zp2 (rI0 λi j=>.bl (f i j)) (rI0 λi j=>.bl (g i j)) (rI0 λi j=>.bl (h i j)) ta tb tc td) (Zl2 f g h ma mb mc md):=by
 intro C H σ δ fp ex K Q R h k
 refine ha.pureAfter R h λH1 x u R1 s1 q1 h1=>?_
 refine hb.pureAfter R1 h1 λH2 y v R2 s2 q2 h2=>?_
 obtain⟨i,rfl,h2⟩:=q1.intInv h2
 obtain⟨j,rfl,h2⟩:=q2.intInv h2
 refine⟨i,j,rfl,rfl,f i j,rfl,?_⟩
 by_cases hf:f i j=true
 ·rw[if_pos hf]at h2⊢
  refine hc.pureAfter R2 h2 λH3 z w R3 s3 q3 h3=>?_
  obtain⟨l,rfl,h3⟩:=q3.intInv h3
  have s13:Same H H3:=(s1.trans s2).trans s3
  refine⟨j,l,rfl,rfl,g j l,rfl,?_⟩
  by_cases hg:g j l=true
  ·rw[if_pos hg]at h3⊢
   refine hd.pureAfter R3 h3 λH4 z4 w4 R4 s4 q4 h4=>?_
   obtain⟨n,rfl,h4⟩:=q4.intInv h4
   have s14:Same H H4:=s13.trans s4
   exact⟨l,n,rfl,rfl,k H4 _ _ δ fp [] (.fz R4 (.same s14 s14.al) (.bl _)) h4⟩
  ·rw[if_neg hg]at h3⊢
   exact k H3 _ _ δ fp [] (.fz R3 (.same s13 s13.al) (.bl _)) h3
 ·rw[if_neg hf]at h2⊢
  have s12:Same H H2:=s1.trans s2
  exact k H2 _ _ δ fp [] (.fz R2 (.same s12 s12.al) (.bl _)) h2
theorem Zp8{op op' op'':CmpOp}(ho:OpR X (Qx op) (rI0 λi j=>.bl (f i j)))(ho':OpR X (Qx op') (rI0 λi j=>.bl (g i j)))(ho'':OpR X (Qx op'') (rI0 λi j=>.bl (h i j)))(ha:ME X io true c1 a ma)(hb:ME X io true c2 b mb)(hc:ME X io true c3 e mc)(hd:ME X io true c4 d md)
  (hm:lastMarks [op,op',op''] [b,e,d]=false:=by with_unfolding_all rfl):MT X io true (.Compare a [op,op',op''] [b,e,d] pos) (λδ K=>Zl2 f g h ma mb mc md δ (kB K)):=by
 obtain⟨_,A,sa⟩:=ha
 obtain⟨_,B,sb⟩:=hb
 obtain⟨_,D,sc⟩:=hc
 obtain⟨_,F,sd⟩:=hd
 exact⟨_,Zsn ho ho' ho'' A B D F hm,Z1f (Z2g sa sb sc sd)⟩
noncomputable def intOf(d:Xa):Option Int:=match d with| .int i=>some i|_=>none
theorem Zdd{d:Xa}{i:Int}(h:intOf d=some i):d= .int i:=by
 unfold intOf at h
 split at h
 ·cases h;rfl
 ·cases h
noncomputable def Zgg(f g h:Int->Int->Bool)(a b c d:FE):FE:=λδ=>(a δ).bind λx=>(b x.2).bind λy=>(intOf x.1.data).bind λi=>(intOf y.1.data).bind λj=>
 if f i j=true then(c y.2).bind λz=>(intOf z.1.data).bind λk=>if g j k=true then(d z.2).bind λw=>(intOf w.1.data).bind λl=>some (.fz (.bool (h k l)),w.2)else some (.fz (.bool false),z.2)else some (.fz (.bool false),y.2)
theorem Zq2{ee:Expr}(hh:MT X io p ee (λδ K=>Zl2 f g h (o2 fa) (o2 fb) (o2 fc) (o2 fd) δ (kB K))):MT X io p ee (o2 (tV (Zgg f g h fa fb fc fd))):=hh.weak λδ K z=>by
 obtain⟨r,δ',h,k⟩:=Yai z
 obtain⟨⟨x,δ1⟩,h1,h⟩:=bs h
 obtain⟨⟨y,δ2⟩,h2,h⟩:=bs h
 obtain⟨i,hi,h⟩:=bs h
 obtain⟨j,hj,h⟩:=bs h
 refine⟨x,δ1,h1,y,δ2,h2,?_⟩
 dsimp only at h hi hj⊢
 rw[Zdd hi,Zdd hj]
 show(if f i j=true then _ else _)
 by_cases hf:f i j=true
 ·rw[if_pos hf]at h⊢
  obtain⟨⟨z,δ3⟩,h3,h⟩:=bs h
  obtain⟨l,hl,h⟩:=bs h
  refine⟨z,δ3,h3,?_⟩
  dsimp only at h hl⊢
  rw[Zdd hl]
  show(if g j l=true then _ else _)
  by_cases hg:g j l=true
  ·rw[if_pos hg]at h⊢
   obtain⟨⟨w,δ4⟩,h4,h⟩:=bs h
   obtain⟨n,hn,h⟩:=bs h
   cases h
   refine⟨w,δ4,h4,?_⟩
   dsimp only at hn⊢
   rw[Zdd hn]
   exact k
  ·rw[if_neg hg]at h⊢
   cases h
   exact k
 ·rw[if_neg hf]at h⊢
  cases h
  exact k
end
variable {G:Xc}
section
variable {X:Cx}{io:List Nat}{p c:Bool}{a b e:Expr}{mr:MAt}{ra:FA}{i:Nat}
noncomputable def isFn(y:Str)(d:Xa):Bool:=match d with| .dict [(.str x,.bool true)]=>decide (x=y)|_=>false
end
noncomputable def Ydo(K:Xc)(l:Addr):It :=
 ⟨λi H=>∃xs x,SqL K H l xs∧xs[i]? =some x,
   λi H v H'=>∃p x,H p=none∧v= .ref p∧H'=upd H p (.tup [.int i,x])∧∀xs,SqL K H l xs->xs[i]? =some x,
   λi H=>∃xs,SqL K H l xs∧xs.length≤i⟩
noncomputable def StE(z it l:Addr)(i:Nat)(h:Heap):Prop:=(∃old,IsEnum h z it (i:Int) old)∧h.IsListIter it l i
theorem Zrv{P:XS}{w:Qq}{K:Xc}{es:List Expr}{kk:Nat}{pos:Pos}{z it l:Addr}(hne:z≠it):Turn P w K (.Tuple es kk pos) (Ydo K l) [z,it] z (StE z it l) where
 mem:=.head _
 obj:=λi h st b hb=>by
  obtain⟨⟨old,s1⟩,o4,e4,_,d4⟩:=st
  rcases Xp.mp hb with rfl|hb
  ·exact⟨_,s1,λv q=>by cases q⟩
  ·rcases Xj.mp hb with rfl
   exact⟨_,e4,λv q=>by rw[d4]at q;cases q⟩
 keep:=λi h h' st k=>by
  obtain⟨⟨old,s1⟩,s4⟩:=st
  exact⟨⟨old,k z (.head _) _ s1⟩,s4.at λo e=>k it (.tail _ (.head _)) o e⟩
 item:=by
  intro X hP hw hK hc i pins s σ H E I hf st hg
  subst hP hw hK
  obtain⟨⟨old,s1⟩,s4⟩:=st
  obtain⟨xs,x,hx,ex⟩:=hg
  obtain⟨its,rx,px,hzx⟩:=I.list hx
  obtain⟨u,hu,ru⟩:=rx.get ex
  refine wpAny_pyNext_enum_item s1 s4 px.isList (by simpa using hu) hne λh' g1 g2 g3 g4 g5=>?_
  refine⟨_,rfl,wpAny_letOwnedTupleGo_enum (s:={ s with heap:=h',toks:=s.toks+1 }) g1 λh2 z2 sb=>?_⟩
  have hTz:s.heap.objs.size≠z:=XM (XH s1)
  have up:∀c o,c≠z->h'.get? c=some o->h2.get? c=some o:=λc o n e=>(sb.2 c n).trans e
  have kp:∀b o,b∉[z,it]->s.heap.get? b=some o->h2.get? b=some o:=λb o n e=>by
   have n1:b≠z:=λq=>n (q▸ .head _)
   exact up b o n1 (g5 b o n1 (λq=>n (q▸ .tail _ (.head _))) e)
  have t5:=up _ _ hTz g3
  have g2':h2.IsListIter it l (i+1):=g2.at λo e=>up _ o (Bl hne) e
  have I2:Inv X pins σ (upd H s.heap.objs.size (.tup [.int i,x])) { s with heap:=h2,toks:=s.toks+1 }:=by
   refine(I.tok (s.toks+1)).turnTup (ch:=[z,it]) (its:=[.int i s.toks,u]) (λb hb=>hf b hb) kp (λb hb=>?_) (Xz _) Zxn (.cons ⟨_,rfl⟩ (.cons ru .nil)) ⟨_,t5,rfl,0,rfl⟩
   rcases Xp.mp hb with rfl|hb
   ·exact⟨_,z2⟩
   ·rcases Xj.mp hb with rfl
    obtain⟨o4,e4,_⟩:=g2'
    exact⟨_,e4⟩
  refine⟨.ref s.heap.objs.size,_,I2,rfl,⟨_,x,I.fresh,rfl,rfl,λys hy=>by rw[I.list_inj hy hx];exact ex⟩,⟨⟨_,z2⟩,g2'⟩,λb hb=>?_⟩
  have:b≠s.heap.objs.size:=by
   rcases Xp.mp hb with rfl|hb
   ·exact Xo (XH s1)
   ·rcases Xj.mp hb with rfl
    obtain⟨o4,e4,_⟩:=s4
    exact Xo (XH e4)
  rw[Zn this];exact(hf b hb).1
 done:=by
  intro X hP hw hK hc i pins s σ H E I hf st hg
  subst hP hw hK
  obtain⟨⟨old,s1⟩,s4⟩:=st
  obtain⟨xs,hx,he⟩:=hg
  obtain⟨its,rx,px,hzx⟩:=I.list hx
  have l1:=rx.length
  refine wpAny_pyNext_enum_end (I.ok.hd hc) s1 s4 px.isList (by simp;omega) λh' k=>⟨rfl,I.turnAll (ch:=[it]) (λb hb=>hf b (.tail _ hb)) λb o n e=>k b o (λq=>n (q▸ .head _)) e⟩
 self:=λ_ _ _ _ _ st h=>by
  obtain⟨⟨old,s1⟩,_⟩:=st
  exact wpAny_pyIter_enum s1 h
noncomputable def Yg4(K:Xc)(ta:TA):TI:=λσ H R=>ta σ H λvs H1=>∃l,vs=[.ref l]∧(∃xs,SqL K H1 l xs)∧R (Ydo K l) H1
theorem Z0b{X:Cx}{K:Xc}{a:Expr}{ta:TA}{p pos pt:Pos}{es:List Expr}{kk:Nat}(hK:X.K=K)(hg:Gl X "enumerate")(hm:X.mg "enumerate"=none)(hv:Qe "enumerate"=some (.type "enumerate"))(ha:PA X [a] ta)
  (he:Xu [a] X.env=(false,eval a X.env) :: Xu [] X.env:=by rfl) (hpl:(JD pos (Xu [] X.env)).any (·.1)=false:=by rfl) :
  PI X (.Tuple es kk pt) (.Call (.Name "enumerate" p) [a] [] pos) (Yg4 K ta):=by
 subst hK
 intro pins s σ H R I h
 refine Vf (Zd1 I hg hm hv ?_ (by decide) (by decide))
 refine JQ (thn (ha pos pins s σ H _ I h) λus s1 q=>?_) he hpl
 obtain⟨vs,H1,I1,r1,l,e1,⟨xs,hx⟩,q⟩:=q
 subst e1
 obtain⟨u,rfl,ru⟩:=vals1 r1
 cases(show u=Qn l from ru)
 obtain⟨its,rx,px,hzx⟩:=I1.list hx
 refine call_enumerate_list px.isList λh' g1 g2 g3 g4=>?_
 have I2:Inv X pins σ H1 { s1 with heap:=h' }:=I1.kept (t':=s1.toks) g4
 refine wpAny_pyIter_enum (s:={ s1 with heap:=h' }) g1 ?_
 refine⟨_,[_,_],StE _ _ _,_,H1,rfl,I2,Zrv (XM (QC _)),⟨⟨_,g1⟩,g2⟩,λb hb=>?_,q⟩
 have hb':s1.heap.objs.size≤b:=by
  rcases Xp.mp hb with rfl|hb
  ·exact Nat.le_succ _
  ·rcases Xj.mp hb with rfl
   exact Xz _
 exact I1.fpOk hb' (I1.hok.fresh hb')
noncomputable def Zip(as:List Xa):List Xa:=as.zipIdx.map λp=>.tuple [.int p.2,p.1]
theorem Zp5{as:List Xa}{i:Nat}{d:Xa}(h:(Zip as)[i]? =some d):∃x,as[i]? =some x∧d= .tuple [.int i,x]:=by
 unfold Zip at h
 rw[Xl,List.getElem?_zipIdx]at h
 cases e:as[i]? with
 | none=>rw[e]at h;cases h
 | some x=>
  rw[e]at h
  cases h
  exact⟨x,rfl,by rw[Uk]⟩
theorem Zon{as:List Xa}{i:Nat}(h:(Zip as)[i]? =none):as.length≤i:=by
 have:=QD.mp h
 unfold Zip at this
 simpa using this
section
variable {X:Cx}{io:List Nat}{p c:Bool}{a:Expr}{mr:MAt}{ra:FA}
noncomputable def iEn(mr:MAt):MIt:=λδ K=>mr δ λrs δ'=>match OT.datas rs with|[.list as]=>K (Zip as) δ'|_=>False
theorem Zyy{p' pos pt:Pos}{es:List Expr}{kk:Nat}(hg:Gl X "enumerate")(hm:X.mg "enumerate"=none)(hv:Qe "enumerate"=some (.type "enumerate"))(ha:MA X io p c [a] mr)
  (he:Xu [a] X.env=(false,eval a X.env) :: Xu [] X.env:=by rfl) (hpl:(JD pos (Xu [] X.env)).any (·.1)=false:=by rfl):MI X io p c (.Tuple es kk pt) (.Call (.Name "enumerate" p') [a] [] pos) (iEn mr):=by
 obtain⟨_,A,s⟩:=ha
 refine⟨_,Z0b rfl hg hm hv A he hpl,λC H σ δ fp ex K' Q R h kk=>s C H σ δ fp ex _ _ R h λH1 vs rs δ1 fp1 new r1 h1=>?_⟩
 have q:=r1.das R
 generalize OT.datas rs=ds at q h1
 split at h1
 case h_2=>exact h1.elim
 rename_i as
 cases q with
 | cons q1 q2=>
  cases q2
  have R1:=r1.base
  obtain⟨l1,xs,rfl,k1⟩:=R1.keptList q1
  have e1:=k1 H1 λ_ _ e _=>e
  refine⟨l1,rfl,⟨_,e1.1⟩,kk _ H1 _ δ1 fp1 R1 r1.stp (λH' kp i=>?_) h1⟩
  obtain⟨s1,d1⟩:=k1 H' kp
  refine⟨λd hd=>?_,λhd=>?_⟩
  ·obtain⟨x,hx,rfl⟩:=Zp5 hd
   obtain⟨u,hu,qu⟩:=d1.get hx
   refine⟨⟨_,u,s1,hu⟩,λv H'' hyl=>?_⟩
   obtain⟨t,u',ht,rfl,rfl,hu'⟩:=hyl
   have eu:=hu' _ s1
   rw[hu]at eu
   cases eu
   exact⟨Zz ht _,.tup Zr (.cons (.int _) (.cons (qu.same (Zz ht _)) .nil))⟩
  ·exact⟨_,s1,by rw[d1.length];exact Zon hd⟩
noncomputable def Zs6(a:FA):FI:=λδ=>(a δ).bind λp=>match OT.datas p.1 with|[.list as]=>some (Zip as,p.2)|_=>none
theorem Zzm{tg e:Expr}(h:MI X io p c tg e (iEn (o2 ra))):MI X io p c tg e (o2 (Zs6 ra)):=h.weak λδ K h=>by
 obtain⟨r,δ',h,k⟩:=h
 obtain⟨⟨x,δ1⟩,h1,h⟩:=bs h
 dsimp only at h
 split at h
 ·rename_i q
  injection h with h
  injection h with e1 e2
  subst e1 e2
  refine⟨x,_,h1,?_⟩
  dsimp only
  rw[q];exact k
 ·cases h
end
variable {G:Xc}
theorem Z4c{α:Type}{p:α->Prop}{a b c d:α}(h1:p a)(h2:p b)(h3:p c)(h4:p d):∀x∈[a,b,c,d],p x:=by
 intro x hx
 rcases Xp.mp hx with rfl|hx
 ·exact h1
 rcases Xp.mp hx with rfl|hx
 ·exact h2
 rcases Xp.mp hx with rfl|hx
 ·exact h3
 rcases Xj.mp hx with rfl
 exact h4
theorem Yaq{α:Type}{p:α->Prop}{a b c d e:α}(h1:p a)(h2:p b)(h3:p c)(h4:p d)(h5:p e):∀x∈[a,b,c,d,e],p x:=λx hx=>(Xp.mp hx).elim (λq=>q▸h1) (Z4c h2 h3 h4 h5 x)
theorem no4{α:Type}{a b c d x:α}(h1:x≠a)(h2:x≠b)(h3:x≠c)(h4:x≠d):x∉[a,b,c,d]:=λhx=>Z4c (p:=λy=>x≠y) h1 h2 h3 h4 x hx rfl
noncomputable def SqB(K:Xc)(t:Bool)(H:Hp)(a:Addr)(xs:List V):Prop:=match t with|true=>H a=some (.tup xs)|false=>SqL K H a xs
noncomputable def IsB(t:Bool)(h:Heap)(a:Addr)(its:Array Xe):Prop:=match t with|true=>IsTup h a its|false=>h.IsList a its
noncomputable def ItB(t:Bool)(h:Heap)(it a:Addr)(i:Nat):Prop:=match t with|true=>IsTupIter h it a i|false=>h.IsListIter it a i
theorem ItB.at{t:Bool}{h h':Heap}{it a:Addr}{i:Nat}(x:ItB t h it a i)(k:∀o,h.get? it=some o->h'.get? it=some o):ItB t h' it a i:=by
 cases t with
 | false=>exact Heap.IsListIter.at x k
 | true=>
  obtain⟨o,ho,r⟩:=x
  exact⟨o,k o ho,r⟩
theorem ItB.obj{t:Bool}{h:Heap}{it a:Addr}{i:Nat}(x:ItB t h it a i):∃o,h.get? it=some o∧∀v,o.data≠ .cell v:=by
 cases t with
 | false=>
  obtain⟨o,ho,_,d⟩:=x
  exact⟨o,ho,λv q=>by rw[d]at q;cases q⟩
 | true=>
  obtain⟨o,ho,_,d⟩:=x
  exact⟨o,ho,λv q=>by rw[d]at q;cases q⟩
theorem IsB.lt{t:Bool}{h:Heap}{a:Addr}{its:Array Xe}(x:IsB t h a its):a<h.objs.size:=by
 cases t with
 | false=>
  obtain⟨o,ho,_⟩:=x
  exact XH ho
 | true=>
  obtain⟨o,ho,_⟩:=x
  exact XH ho
theorem SqB.its{X:Cx}{pins:List (Addr×Obj)}{σ:St}{H:Hp}{s:Xg}{t:Bool}{a:Addr}{xs:List V}(I:Inv X pins σ H s)(h:SqB X.K t H a xs):∃its:List Xe,Vals xs its∧IsB t s.heap a its.toArray:=by
 cases t with
 | false=>
  obtain⟨its,r,p,_⟩:=I.list h
  exact⟨its,r,p.isList⟩
 | true=>
  obtain⟨_,its,r,p⟩:=(show ObjOk X.prog X.w H s.heap a (.tup xs)from I.hok a _ h)
  exact⟨its,r,p⟩
theorem SqB.inj{X:Cx}{pins:List (Addr×Obj)}{σ:St}{H:Hp}{s:Xg}{t:Bool}{a:Addr}{xs ys:List V}(I:Inv X pins σ H s)(h:SqB X.K t H a xs)(k:SqB X.K t H a ys):xs=ys:=by
 cases t with
 | false=>exact I.list_inj h k
 | true=>
  have:=(show H a=some (.tup xs)from h).symm.trans k
  cases this
  rfl
section
variable {P:XS}{w:Qq}
theorem Zqk{t:Bool}{it a:Addr}{i:Nat}{items:Array Xe}{x:Xe}(hx:items[i]? =some x):Gives P w it [it,a] (λh=>ItB t h it a i∧IsB t h a items) x (λh=>ItB t h it a (i+1)):=by
 cases t with
 | true=>exact Zs8 hx
 | false=>
  exact⟨.head _,λst hQ=>wpAny_nextOf_list_item st.1 st.2 hx hQ,λh h' k st=>⟨Heap.IsListIter.at st.1 λo e=>k it (.head _) o e,by
   obtain⟨o,ho,r⟩:=st.2
   exact⟨o,k a (.tail _ (.head _)) o ho,r⟩⟩,λh h' k st=>Heap.IsListIter.at st λo e=>k it (.head _) o e⟩
theorem Z42{t:Bool}{it a:Addr}{i:Nat}{items:Array Xe}(hx:items[i]? =none):Zht P w it [it,a] (λh=>ItB t h it a i∧IsB t h a items):=by
 cases t with
 | true=>exact Zwt hx
 | false=>
  exact⟨.head _,λhh st hE=>wpAny_nextOf_list_end hh st.1 st.2 hx hE,λh h' k st=>⟨Heap.IsListIter.at st.1 λo e=>k it (.head _) o e,by
   obtain⟨o,ho,r⟩:=st.2
   exact⟨o,k a (.tail _ (.head _)) o ho,r⟩⟩⟩
end
noncomputable def Yd1(K:Xc)(t:Bool)(a b:Addr):It :=
 ⟨λi H=>∃xs ys x y,SqB K t H a xs∧SqB K t H b ys∧xs[i]? =some x∧ys[i]? =some y,
   λi H v H'=>∃p x y,H p=none∧v= .ref p∧H'=upd H p (.tup [x,y])∧(∀xs,SqB K t H a xs->xs[i]? =some x)∧∀ys,SqB K t H b ys->ys[i]? =some y,
   λi H=>∃xs ys,SqB K t H a xs∧SqB K t H b ys∧(xs.length≤i∨ys.length≤i)⟩
noncomputable def Ydb(t:Bool)(z TI TO i1 i2 a b:Addr)(i:Nat)(h:Heap):Prop:=IsZip h z TI TO .none∧Vc h TI (.ref i1) (.ref i2)∧(∃x y,Vc h TO x y)∧ItB t h i1 a i∧ItB t h i2 b i
theorem Zte{P:XS}{w:Qq}{K:Xc}{es:List Expr}{kk:Nat}{pos:Pos}{t:Bool}{z TI TO i1 i2 a b:Addr}(D:ZA z TI TO i1 i2 [i1,a] [i2,b])(D2:TI≠TO∧TI≠i1∧TI≠i2):Turn P w K (.Tuple es kk pos) (Yd1 K t a b) [z,TI,TO,i1,i2] z (Ydb t z TI TO i1 i2 a b) where
 mem:=.head _
 obj:=λi h st=>by
  obtain⟨s1,s2,⟨x,y,s3⟩,s4,s5⟩:=st
  exact Yaq ⟨_,s1,λv q=>by cases q⟩ ⟨_,s2,λv q=>by cases q⟩ ⟨_,s3,λv q=>by cases q⟩ s4.obj s5.obj
 keep:=λi h h' st k=>by
  obtain⟨s1,s2,⟨x,y,s3⟩,s4,s5⟩:=st
  have m2:TI∈[z,TI,TO,i1,i2]:=.tail _ (.head _)
  have m3:TO∈[z,TI,TO,i1,i2]:=.tail _ (.tail _ (.head _))
  have m4:i1∈[z,TI,TO,i1,i2]:=.tail _ (.tail _ (.tail _ (.head _)))
  have m5:i2∈[z,TI,TO,i1,i2]:=.tail _ (.tail _ (.tail _ (.tail _ (.head _))))
  exact⟨k z (.head _) _ s1,k TI m2 _ s2,⟨x,y,k TO m3 _ s3⟩,s4.at (k i1 m4),s5.at (k i2 m5)⟩
 item:=by
  intro X hP hw hK hc i pins s σ H E I hf st hg
  subst hP hw hK
  obtain⟨s1,s2,⟨x0,y0,s3⟩,s4,s5⟩:=st
  obtain⟨xs,ys,x,y,hx,hy,ex,ey⟩:=hg
  obtain⟨its,rx,px⟩:=hx.its I
  obtain⟨its',ry,py⟩:=hy.its I
  obtain⟨u,hu,ru⟩:=rx.get ex
  obtain⟨u',hu',ru'⟩:=ry.get ey
  rw[←Vt]at hu hu'
  refine Zo1 D (Zqk hu) (Zqk hu') s1 s2 s3 ⟨s4,px⟩ ⟨s5,py⟩ λh' g1 g2 g3 g4 g5 g6=>?_
  refine⟨_,rfl,wpAny_letOwnedTupleGo_zip (s:={ s with heap:=h' }) g1 λh2 z2 sb=>?_⟩
  have up:∀c o,c≠z->h'.get? c=some o->h2.get? c=some o:=λc o n e=>(sb.2 c n).trans e
  have kp:∀c o,c∉[z,TO,i1,i2]->s.heap.get? c=some o->h2.get? c=some o:=λc o n e=>up c o (λq=>n (q▸ .head _)) (g6 c o n e)
  have t5:Vc h2 s.heap.objs.size u u':=up _ _ (XM (XH s1)) g5
  have i1z:=(D.a1 i1 (.head _)).1
  have i2z:=(D.a2 i2 (.head _)).1
  have n3:=g3.at (up i1 · i1z)
  have n4:=g4.at (up i2 · i2z)
  obtain⟨f1,f2,f3,f4,f5⟩:(Zjo X pins H z∧Zjo X pins H TI∧Zjo X pins H TO∧Zjo X pins H i1∧Zjo X pins H i2):=⟨hf _ (.head _),hf _ (.tail _ (.head _)),hf _ (.tail _ (.tail _ (.head _))),hf _ (.tail _ (.tail _ (.tail _ (.head _)))),hf _ (.tail _ (.tail _ (.tail _ (.tail _ (.head _)))))⟩
  have I2:Inv X pins σ (upd H s.heap.objs.size (.tup [x,y])) { s with heap:=h2 } :=
   I.turnTup (ch:=[z,TO,i1,i2]) (its:=[u,u']) (Z4c f1 f3 f4 f5) kp (Z4c ⟨_,z2⟩ ⟨_,up _ _ D.TOz g2⟩ (n3.obj.imp λ_ q=>q.1) (n4.obj.imp λ_ q=>q.1)) (Xz _) Zxn (.cons ru (.cons ru' .nil)) ⟨_,t5,rfl,0,rfl⟩
  have lt:∀{c:Addr} {o:Obj},s.heap.get? c=some o->Zjo X pins H c->upd H s.heap.objs.size (.tup [x,y]) c=none:=λe f=>by rw[Zn (Xo (XH e))];exact f.1
  refine⟨.ref s.heap.objs.size,_,I2,rfl,⟨_,x,y,I.fresh,rfl,rfl,λzs hz=>by rw[hz.inj I hx];exact ex,λzs hz=>by rw[hz.inj I hy];exact ey⟩,⟨z2,kp TI _ (no4 D.TIz D2.1 D2.2.1 D2.2.2) s2,⟨_,_,up _ _ D.TOz g2⟩,n3,n4⟩,?_⟩
  obtain⟨o4,e4,_⟩:=s4.obj
  obtain⟨o5,e5,_⟩:=s5.obj
  exact Yaq (lt s1 f1) (lt s2 f2) (lt s3 f3) (lt e4 f4) (lt e5 f5)
 done:=by
  intro X hP hw hK hc i pins s σ H E I hf st hg
  subst hP hw hK
  obtain⟨s1,s2,⟨x0,y0,s3⟩,s4,s5⟩:=st
  obtain⟨xs,ys,hx,hy,he⟩:=hg
  obtain⟨its,rx,px⟩:=hx.its I
  obtain⟨its',ry,py⟩:=hy.its I
  have l1:=rx.length
  have l2:=ry.length
  refine Zsr (I.ok.hd hc) D (S1:=λh=>ItB t h i1 a i∧IsB t h a its.toArray) (T1:=λh=>ItB t h i1 a (i+1)) (S2:=λh=>ItB t h i2 b i∧IsB t h b its'.toArray) ?_ s1 s2 s3 ⟨s4,px⟩ ⟨s5,py⟩ λh' k=>⟨rfl,I.turnAll (ch:=[z,TO,i1,i2]) (Z4c (hf _ (.head _)) (hf _ (.tail _ (.tail _ (.head _)))) (hf _ (.tail _ (.tail _ (.tail _ (.head _))))) (hf _ (.tail _ (.tail _ (.tail _ (.tail _ (.head _))))))) k⟩
  cases q:its.toArray[i]? with
  | none=>exact .inl (Z42 q)
  | some v=>
   refine .inr ⟨⟨v,Zqk q⟩,Z42 ?_⟩
   have:=(Array.getElem?_eq_some_iff.mp q).1
   rw[Xy]at this
   rw[Array.getElem?_eq_none_iff,Xy]
   omega
 self:=λ_ _ _ _ _ st h=>wpAny_pyIter_zip st.1 h
theorem Ztt{P:XS}{w:Qq}{A:Qs}{E:Xe->Xg->Prop}{s:Xg}{t:Bool}{a b:Addr}{xs ys:Array Xe}{Q:Xe->Xg->Prop}(h1:IsB t s.heap a xs)(h2:IsB t s.heap b ys)
  (h:∀h' n,n=s.heap.objs.size->IsZip h' (n+4) (n+2) (n+3) .none->Vc h' (n+2) (.ref n) (.ref (n+1))->Vc h' (n+3) .none .none->ItB t h' n a 0->ItB t h' (n+1) b 0 ->
   (∀ c o,s.heap.get? c=some o->h'.get? c=some o)->Q (.ref (n+4)) { s with heap:=h' }):XD (XR P w) A (call (.type "zip") [.ref a,.ref b]) Q E s:=by
 cases t with
 | true=>exact Zs9 h1 h2 h
 | false=>exact call_zip_2 h1 h2 λh' g1 g2 g3 g4 g5 _ g7=>h h' _ rfl g1 g2 g3 g4 g5 g7
noncomputable def Yar(K:Xc)(ta:TA):TI:=λσ H R=>ta σ H λvs H1=>∃t a b,vs=[.ref a,.ref b]∧(∃xs,SqB K t H1 a xs)∧(∃ys,SqB K t H1 b ys)∧R (Yd1 K t a b) H1
theorem Zyg{X:Cx}{K:Xc}{a b:Expr}{ta:TA}{p pos pt:Pos}{es:List Expr}{kk:Nat}(hK:X.K=K)(hg:Gl X "zip")(hm:X.mg "zip"=none)(hv:Qe "zip"=some (.type "zip"))(ha:PA X [a,b] ta)
  (he:Xu [a,b] X.env=(false,eval a X.env) :: Xu [b] X.env:=by rfl) (hpl:(JD pos (Xu [b] X.env)).any (·.1)=false:=by rfl) :
  PI X (.Tuple es kk pt) (.Call (.Name "zip" p) [a,b] [] pos) (Yar K ta):=by
 subst hK
 intro pins s σ H R I h
 refine Vf (Zd1 I hg hm hv ?_ (by decide) (by decide))
 refine JQ (thn (ha pos pins s σ H _ I h) λus s1 q=>?_) he hpl
 obtain⟨vs,H1,I1,r1,t,l1,l2,e1,⟨xs,hx⟩,⟨ys,hy⟩,q⟩:=q
 subst e1
 obtain⟨u,u',rfl,ru,ru'⟩:=vals2 r1
 cases(show u=Qn l1 from ru)
 cases(show u'=Qn l2 from ru')
 obtain⟨its,rx,px⟩:=hx.its I1
 obtain⟨its',ry,py⟩:=hy.its I1
 refine Ztt px py λh' n en g1 g2 g3 g4 g5 g7=>?_
 have I2:Inv X pins σ H1 { s1 with heap:=h' }:=I1.kept (t':=s1.toks) g7
 refine wpAny_pyIter_zip (s:={ s1 with heap:=h' }) g1 ?_
 refine⟨_,[_,_,_,_,_],Ydb _ _ _ _ _ _ _ _,_,H1,rfl,I2,Zte (ZA.new (en▸px.lt) (en▸py.lt)) (ZA.new2 n),⟨g1,g2,⟨_,_,g3⟩,g4,g5⟩,?_,q⟩
 subst en
 have ok:∀k:Nat,Zjo X pins H1 (s1.heap.objs.size+k):=λk=>I1.fpOk (BV _ _) (I1.hok.fresh (BV _ _))
 exact Yaq (ok 4) (ok 2) (ok 3) (ok 0) (ok 1)
section
variable {X:Cx}{io:List Nat}{p c:Bool}{a b:Expr}{mr:MAt}{ra:FA}
noncomputable def Z9a(t:Bool)(as:List Xa):Xa:=match t with|true=>.tuple as|false=>.list as
theorem Rel.keptSq{C:MC G}{H:Hp}{σ:St}{δ:Zf}{fp:Fp}{ex:Addr->Prop}{v:V}{t:Bool}{ds:List Xa}(R:Rel C io H σ δ fp ex)(q:Da G H (λa=>c=true->Lf C fp ex a) v (Z9a t ds)) :
  ∃a xs,v= .ref a∧∀H':Hp,(∀b o,H b=some o->(c=false∨¬Foot fp b)->H' b=some o)->SqB G t H' a xs∧Das G H' (λa=>c=true->(Lf C fp ex a∧H a≠none)) xs ds:=by
 cases t with
 | false=>exact R.keptList q
 | true=>
  generalize hd:Z9a true ds=d at q
  cases q with
  | tup e r=>
   cases hd
   rename_i a0 xs0
   refine⟨a0,xs0,rfl,λH' kp=>?_⟩
   obtain⟨f1,f2⟩:=R.kept kp
   exact⟨f2 _ (.tup _) e,r.frame f1 f2⟩
  | _=>cases hd
theorem Zvb{ds es:List Xa}(h:Z6k ds=some es):∃t as bs,ds=[Z9a t as,Z9a t bs]∧es=Zo7 as bs:=by
 unfold Z6k at h
 split at h
 ·cases h;exact⟨false,_,_,rfl,rfl⟩
 ·cases h;exact⟨true,_,_,rfl,rfl⟩
 ·cases h
noncomputable def iZB(mr:MAt):MIt:=λδ K=>mr δ λrs δ'=>∃es,Z6k (OT.datas rs)=some es∧K es δ'
theorem Zzf{p' pos pt:Pos}{es:List Expr}{kk:Nat}(hg:Gl X "zip")(hm:X.mg "zip"=none)(hv:Qe "zip"=some (.type "zip"))(ha:MA X io p c [a,b] mr)
  (he:Xu [a,b] X.env=(false,eval a X.env) :: Xu [b] X.env:=by rfl) (hpl:(JD pos (Xu [b] X.env)).any (·.1)=false:=by rfl):MI X io p c (.Tuple es kk pt) (.Call (.Name "zip" p') [a,b] [] pos) (iZB mr):=by
 obtain⟨_,A,s⟩:=ha
 refine⟨_,Zyg rfl hg hm hv A he hpl,λC H σ δ fp ex K' Q R h kk=>s C H σ δ fp ex _ _ R h λH1 vs rs δ1 fp1 new r1 h1=>?_⟩
 have q:=r1.das R
 obtain⟨es,hz,h1⟩:=h1
 obtain⟨t,as,bs,e,rfl⟩:=Zvb hz
 rw[e]at q
 cases q with
 | cons q1 q2=>
  cases q2 with
  | cons q2 q3=>
   cases q3
   have R1:=r1.base
   obtain⟨l1,xs,rfl,k1⟩:=R1.keptSq q1
   obtain⟨l2,ys,rfl,k2⟩:=R1.keptSq q2
   refine⟨t,l1,l2,rfl,⟨_,(k1 H1 λ_ _ e _=>e).1⟩,⟨_,(k2 H1 λ_ _ e _=>e).1⟩,kk _ H1 _ δ1 fp1 R1 r1.stp (λH' kp i=>?_) h1⟩
   obtain⟨s1,d1⟩:=k1 H' kp
   obtain⟨s2,d2⟩:=k2 H' kp
   refine⟨λd hd=>?_,λhd=>⟨_,_,s1,s2,by rw[d1.length,d2.length];exact Zrj hd⟩⟩
   obtain⟨x,y,hx,hy,rfl⟩:=Znl hd
   obtain⟨u,hu,qu⟩:=d1.get hx
   obtain⟨w,hw,qw⟩:=d2.get hy
   refine⟨⟨_,_,u,w,s1,s2,hu,hw⟩,λv H'' hyl=>?_⟩
   obtain⟨t',u',w',ht,rfl,rfl,hu',hw'⟩:=hyl
   cases hu.symm.trans (hu' _ s1)
   cases hw.symm.trans (hw' _ s2)
   exact⟨Zz ht _,.tup Zr (.cons (qu.same (Zz ht _)) (.cons (qw.same (Zz ht _)) .nil))⟩
theorem Z20{tg e:Expr}(g:MI X io p c tg e (iZB (o2 ra))):MI X io p c tg e (o2 (Zta ra)):=g.weak λδ K h=>by
 obtain⟨r,δ',h,k⟩:=h
 obtain⟨⟨x,δ1⟩,h1,h⟩:=bs h
 obtain⟨ds,h2,h⟩:=bs h
 cases h
 exact⟨x,_,h1,_,h2,k⟩
end
end L2
namespace L2
open PySem PySem.Spec PyProof.Rows PySem.W
noncomputable def kEv{α:Type}(lt:Nat->Nat->Bool):KasT α->α
 | .ret a=>a
 | .ask i j k=>kEv lt (k (lt i j))
noncomputable def kGood{α:Type}(n:Nat)(P:α->Prop):KasT α->Prop
 | .ret a=>P a
 | .ask i j k=>i<n∧j<n∧∀b,kGood n P (k b)
theorem kGood.bind{α β:Type}{n:Nat}{P:α->Prop}{R:β->Prop}{f:α->KasT β}(hf:∀a,P a->kGood n R (f a)){t:KasT α}(h:kGood n P t):kGood n R (t.bind f):=by
 induction t with
 | ret a=>exact hf a h
 | ask i j k ih=>exact⟨h.1,h.2.1,λb=>ih b (h.2.2 b)⟩
theorem kGood.ev{α:Type}{n:Nat}{P:α->Prop}{lt:Nat->Nat->Bool}{t:KasT α}(h:kGood n P t):P (kEv lt t):=by
 induction t with
 | ret a=>exact h
 | ask i j k ih=>exact ih _ (h.2.2 _)
theorem kGood.wp{α:Type}{n:Nat}{P:α->Prop}{lt:Nat->Nat->Bool}{cmp:Nat->Nat->(Bool->Xg->Prop)->Xg->Prop}{s:Xg}{Q:α->Xg->Prop}(hc:∀i j C,i<n->j<n->C (lt i j) s->cmp i j C s){t:KasT α}(h:kGood n P t)(q:Q (kEv lt t) s):t.kasWp cmp Q s:=by
 induction t with
 | ret a=>exact q
 | ask i j k ih=>exact hc i j _ h.1 h.2.1 (ih _ (h.2.2 _) q)
noncomputable def kP(n:Nat)(p:Array Nat):Prop:=p.toList.Perm (Xi n)
theorem kP.at{n:Nat}{p:Array Nat}(h:kP n p)(h0:0<n)(i:Nat):p.getD i 0<n:=by
 by_cases c:i<p.size
 ·have e:p.getD i 0=p[i]:=by simp[Array.getD,c]
  rw[e]
  exact XQ.mp (h.mem_iff.mp (Array.getElem_mem_toList c))
 ·have e:p.getD i 0=0:=by simp[Array.getD,c]
  rw[e];exact h0
theorem kP.rev{n:Nat}{p:Array Nat}(h:kP n p)(i j:Nat):kP n (kas_rev p i j):=(Array.perm_iff_toList_perm.mp (mirror_perm p i j _)).trans h
theorem kP.bub{n:Nat}{p:Array Nat}(h:kP n p)(i j:Nat):kP n (bubble p i j):=(Array.perm_iff_toList_perm.mp (bubble_perm p i j)).trans h
theorem Zmx{n:Nat}{p:Array Nat}(h:kP n p)(h0:0<n)(f m:Nat):kGood n (λ_=>True) (kas_asc p f m):=by
 induction f generalizing m with
 | zero=>exact trivial
 | succ f ih=>
  refine⟨h.at h0 _,h.at h0 _,λb=>?_⟩
  cases b
  ·exact ih _
  ·exact trivial
theorem Zqj{n:Nat}(h0:0<n)(f:Nat){p:Array Nat}(h:kP n p)(m q:Nat):kGood n (λr:Array Nat×Nat×Nat=>kP n r.1) (kas_desc f p m q):=by
 induction f generalizing p m q with
 | zero=>exact h
 | succ f ih=>
  refine⟨h.at h0 _,h.at h0 _,λb=>?_⟩
  cases b
  ·refine⟨h.at h0 _,h.at h0 _,λb=>?_⟩
   cases b
   ·exact ih h _ _
   ·exact h
  ·show kGood n _ (if q>0 then _ else _)
   split
   ·exact ih (h.rev _ _) _ _
   ·exact ih h _ _
theorem Zk4{n:Nat}{p:Array Nat}(h:kP n p)(h0:0<n)(m r:Nat):kGood n (λr:Nat×Array Nat=>kP n r.2) (kas_tail3 m r p):=by
 refine kGood.bind (P:=λ_=>True) (λa _=>?_) (Zmx (h.rev _ _) h0 _ _)
 exact h.rev _ _
theorem Zd0{n:Nat}{p:Array Nat}(h:kP n p)(h0:0<n)(m r:Nat):kGood n (λr:Nat×Array Nat=>kP n r.2) (kas_descPart m r p) :=
 (Zqj h0 _ h _ _).bind λx hx=>by
  show kGood n _ (if x.2.2>0 then _ else _)
  split
  ·exact Zk4 (hx.rev _ _) h0 _ _
  ·exact Zk4 hx h0 _ _
theorem Zoi{n:Nat}{p:Array Nat}(h:kP n p)(h0:0<n)(r:Nat):kGood n (λr:Nat×Array Nat=>kP n r.2) (kas_count r p) :=
 (Zmx h h0 _ _).bind λm _=>by
  show kGood n _ (if(m==r)=true then _ else if m>1 then _ else _)
  split
  ·exact h
  ·split
   ·refine⟨h.at h0 _,h.at h0 _,λb=>?_⟩
    cases b
    ·exact Zd0 (h.rev _ _) h0 _ _
    ·exact h
   ·exact Zd0 h h0 _ _
theorem Zo3{n:Nat}{p:Array Nat}(h:kP n p)(h0:0<n)(k f l r:Nat):kGood n (λ_=>True) (kas_place p k f l r):=by
 induction f generalizing l r with
 | zero=>exact trivial
 | succ f ih=>
  show kGood n _ (if l≥r then _ else _)
  split
  ·exact trivial
  ·refine⟨h.at h0 _,h.at h0 _,λb=>?_⟩
   cases b
   ·exact ih _ _
   ·exact ih _ _
theorem Zvs{n:Nat}(h0:0<n)(f:Nat){p:Array Nat}(h:kP n p)(k:Nat):kGood n (kP n) (kas_bin f p k):=by
 induction f generalizing p k with
 | zero=>exact h
 | succ f ih=>exact(Zo3 h h0 _ _ _ _).bind λl _=>ih (h.bub _ _) _
theorem Zfv{n:Nat}(h0:0<n):kGood n (kP n) (kas_sort n) :=
 (Zoi (p:=VF (Xi n)) (.refl _) h0 n).bind λr hr=>by
  show kGood n _ (if r.1<n then _ else _)
  split
  ·exact Zvs h0 _ hr _
  ·exact hr
noncomputable def Zt0(lt:Nat->Nat->Bool)(n:Nat):List Nat:=(kEv lt (kas_sort n)).toList
theorem Zdg{lt:Nat->Nat->Bool}{n:Nat}(h0:0<n):(Zt0 lt n).Perm (Xi n):=(Zfv h0).ev (P:=kP n)
end L2
namespace L2
open PySem PySem.Spec PyProof.Rows PySem.W PySem.SeqAt
open AutoSeq1 (wpAny_loadPart')
open MeetsSeq MeetsSeq2 MeetsSeq3 SeqRoads2
noncomputable def ltI:List Int->List Int->Bool
 | [],[]=>false
 | [],_ :: _=>true
 | _ :: _,[]=>false
 | x :: xs,y :: ys=>if x=y then ltI xs ys else decide (x<y)
theorem Znr{vs:List Xe}{ns:List Int}(h:BJ vs ns)(i:Nat)(hi:i<vs.length):∃x t,vs[i]? =some (.int x t)∧ns.drop i=x :: ns.drop (i+1):=by
 induction h generalizing i with
 | nil=>exact absurd hi (Vr i)
 | cons n t h ih=>
  cases i with
  | zero=>exact⟨n,t,rfl,rfl⟩
  | succ i=>exact ih i (Nat.lt_of_succ_lt_succ hi)
theorem Zfb{vs:List Xe}{ns:List Int}(h:BJ vs ns):vs.length=ns.length:=by
 induction h with
 | nil=>rfl
 | cons n t h ih=>exact congrArg Nat.succ ih
theorem Zj4{xs ys:List Int}(h:xs=[]∨ys=[]):ltI xs ys=decide (xs.length<ys.length):=by
 cases xs<;>cases ys<;>first|rfl|(rcases h with h|h<;>cases h)|exact(decide_eq_true (Nat.succ_pos _)).symm
theorem Zrb(l b:Addr)(items items2:Array Xe)(n n2:Nat)(dd dd2:Option Addr)(sl sl2:Array (Option Xe)){xs ys:List Int}(h1:BJ items.toList xs)(h2:BJ items2.toList ys)(k:Nat) :
  ∀i:Nat,items.size-i=k->i≤items.size->i≤items2.size->Meets (Bu.«list.__eq__.loop» ⟨[.ref l,.ref b,Bf i,Bf 0],[]⟩)
   (λA R s=>s.heap.get? l=some { cls:=.type "list",dict:=dd,data:=.seq items n,slots:=sl }∧s.heap.get? b=some { cls:=.type "list",dict:=dd2,data:=.seq items2 n2,slots:=sl2 }∧
    R (.ok (.ret (.bool (ltI (xs.drop i) (ys.drop i))))) s):=by
 have e1:items.size=xs.length:=Zfb h1
 have e2:items2.size=ys.length:=Zfb h2
 have fin:∀i,i≤items.size->i≤items2.size->(i=items.size∨i=items2.size)->ltI (xs.drop i) (ys.drop i)=decide (items.size<items2.size):=λi u1 u2 c=>by
  rw[Zj4 (c.imp (λc=>Uh (by omega)) λc=>Uh (by omega)),BR,BR]
  exact decide_eq_decide.mpr (by omega)
 induction k with
 | zero=>
  intro i hk u1 u2 prog w A R s h
  obtain⟨hp,g,d,tk,os⟩:=s;obtain⟨hl,hb,h⟩:=h
  wp_walk using Q3 hl,Q3 hb
  have hi1:items[((i:Nat):Int).toNat]? =none:=by simp;omega
  rw[fin i u1 u2 (.inl (by omega))]at h
  rw[hi1]
  wp_walk using Q3 hl,Q3 hb
  exact h
 | succ k ih=>
  intro i hk u1 u2 prog w A R s h
  obtain⟨hp,g,d,tk,os⟩:=s;obtain⟨hl,hb,h⟩:=h
  have hlt:i<items.size:=by omega
  obtain⟨x,t,q1,q2⟩:=Znr h1 i hlt
  have hi1:items[((i:Nat):Int).toNat]? =some (.int x t):=by rw[QJ,←q1,Qt]
  wp_walk using Q3 hl,Q3 hb
  by_cases c:i<items2.size
  ·obtain⟨y,u,q3,q4⟩:=Znr h2 i c
   have hi2:items2[((i:Nat):Int).toNat]? =some (.int y u):=by rw[QJ,←q3,Qt]
   have hc:((i:Int)+1)=((i+1:Nat):Int):=by push_cast;rfl
   rw[q2,q4]at h
   unfold ltI at h
   rw[hi1,hi2]
   refine Xb (EqAt.int_int x t y u prog w _ _ ?_)
   by_cases cx:x=y
   ·rw[if_pos cx]at h
    rw[beq_iff_eq.mpr cx]
    wp_walk
    rw[hc]
    exact⟨Uc plain_eq_loop _,BL entry_eq_loop (by
     rw[Bq plain_eq_loop _]
     exact ih (i+1) (by omega) (by omega) (by omega) prog w A R _ ⟨hl,hb,h⟩)⟩
   ·rw[if_neg cx]at h
    rw[beq_eq_false_iff_ne.mpr cx]
    wp_walk using Q3 hl,Q3 hb
    rw[hi1,hi2]
    refine Xb (lt_int ?_)
    wp_walk
    exact h
  ·have hi2:items2[((i:Nat):Int).toNat]? =none:=by simp;omega
   rw[fin i u1 u2 (.inr (by omega))]at h
   rw[hi1,hi2]
   wp_walk using Q3 hl,Q3 hb
   exact h
theorem Zs4(l b:Addr)(items items2:Array Xe)(n n2:Nat)(dd dd2:Option Addr)(sl sl2:Array (Option Xe)){xs ys:List Int}(h1:BJ items.toList xs)(h2:BJ items2.toList ys) :
  Meets (Bu.«list.__lt__» ⟨[.ref l,.ref b],[]⟩)
   (λA R s=>s.heap.get? l=some { cls:=.type "list",dict:=dd,data:=.seq items n,slots:=sl }∧s.heap.get? b=some { cls:=.type "list",dict:=dd2,data:=.seq items2 n2,slots:=sl2 }∧
    R (.ok (.ret (.bool (ltI xs ys)))) s):=by
 intro prog w A R s h
 obtain⟨hp,g,d,tk,os⟩:=s;obtain⟨hl,hb,h⟩:=h
 have f3:=AutoSeq1.sub_list_list
 wp_walk using Q3 hl,Q3 hb
 exact⟨Uc plain_eq_loop _,BL entry_eq_loop (by
  rw[Bq plain_eq_loop _]
  exact Zrb l b items items2 n n2 dd dd2 sl sl2 h1 h2 _ 0 rfl (Qy _) (Qy _) prog w A R _ ⟨hl,hb,h⟩)⟩
section
variable {prog:XS}{w:Qq}{A:Qs}{E:Xe->Xg->Prop}{s:Xg}
theorem Zor{l b:Addr}{items items2:Array Xe}{xs ys:List Int}{Q:Bool->Xg->Prop}(hu:A.units<V8)(hl:s.heap.IsList l items)(hb:s.heap.IsList b items2)(h1:BJ items.toList xs)(h2:BJ items2.toList ys)(h:Q (ltI xs ys) s) :
  XD (XR prog w) A (oneLt' true (.ref l) (.ref b)) Q E s:=by
 obtain⟨⟨cls,dd,data,sl⟩,hl,hc,n,hd⟩:=hl
 obtain⟨⟨cls2,dd2,data2,sl2⟩,hb,hc2,n2,hd2⟩:=hb
 simp only at hc hd hc2 hd2
 subst hc hd hc2 hd2
 rw[oneLt'_eq]
 simp only[if_true]
 refine Xb (wpAny_cRoomFor hu ?_)
 refine Xb (wpAny_callSpecialIfBound?_slot ⟨_,hl,rfl⟩ F.slot_list_lt (call_meets F.slot_list_lt ⟨_,hl,rfl⟩ F.entry_list_lt (F.args_list_lt_2 _ _) (Zs4 l b items items2 n n2 dd dd2 sl sl2 h1 h2) ⟨hl,hb,?_⟩))
 exact Q7 h
end
theorem Z6r{prog:XS}{w:Qq}{A:Qs}{E:Xe->Xg->Prop}{s:Xg}{a b:Int}{t u:Tok}{Q:Xe->Xg->Prop}(h:Q (.bool (decide (a<b))) s):XD (XR prog w) A (richCompare .Lt (.int a t) (.int b u)) Q E s:=lt_int h
theorem Zol(l b:Addr)(items items2:Array Xe)(n n2:Nat)(dd dd2:Option Addr)(sl sl2:Array (Option Xe)){xs ys:List Int}(h1:BJ items.toList xs)(h2:BJ items2.toList ys) :
  Meets (Bu.«tuple.__lt__» ⟨[.ref l,.ref b],[]⟩)
   (λA R s=>s.heap.get? l=some { cls:=.type "tuple",dict:=dd,data:=.seq items n,slots:=sl }∧s.heap.get? b=some { cls:=.type "tuple",dict:=dd2,data:=.seq items2 n2,slots:=sl2 }∧
    R (.ok (.ret (.bool (ltI xs ys)))) s) :=
 .of_wp λprog w A R s h=>by
  obtain⟨hp,g,d,tk,os⟩:=s;obtain⟨hl,hb,h⟩:=h
  have f2:=AutoSeq1.sub_tuple_tuple
  have e1:items.toList.length=xs.length:=Zfb h1
  have e2:items2.toList.length=ys.length:=Zfb h2
  wp_walk using Q3 hl,Q3 hb,wpAny_forIn_list _ (λrest b s'=>b.1=none∧s'=⟨hp,g,d,tk,os⟩∧∃i,rest=(items.toList.zip items2.toList).drop i∧i≤items.toList.length∧i≤items2.toList.length∧
   R (.ok (.ret (.bool (ltI (xs.drop i) (ys.drop i))))) ⟨hp,g,d,tk,os⟩) _
  case turn=>
   rintro⟨v,u⟩ rest b s' ⟨hb',rfl,i,hz,u1,u2,hR⟩
   have hlt:i<(items.toList.zip items2.toList).length:=by
    rcases VM i (items.toList.zip items2.toList).length with h'|h'
    ·exact h'
    ·rw[List.drop_of_length_le h']at hz;cases hz
   have hm:=hlt
   rw[List.length_zip]at hm
   obtain⟨x,t,q1,q2⟩:=Znr h1 i (by omega)
   obtain⟨y,r,q3,q4⟩:=Znr h2 i (by omega)
   rw[VP hlt]at hz
   injection hz with hyx hrest
   have hz0:(items.toList.zip items2.toList)[i]? =some (.int x t,.int y r):=by rw[List.getElem?_zip_eq_some];exact⟨q1,q3⟩
   rw[Xk hlt]at hz0
   injection hz0 with hz0
   rw[hz0]at hyx
   cases hyx
   rw[q2,q4]at hR
   unfold ltI at hR
   refine Xb (EqAt.int_int x t y r prog w _ _ ?_)
   by_cases cx:x=y
   ·rw[if_pos cx]at hR
    rw[beq_iff_eq.mpr cx]
    wp_walk
    exact⟨rfl,rfl,i+1,hrest,by omega,by omega,hR⟩
   ·rw[if_neg cx]at hR
    rw[beq_eq_false_iff_ne.mpr cx]
    wp_walk using Z6r
    exact⟨_,rfl,hR⟩
  case fin=>
   rintro⟨b1,b2⟩ s' ⟨hb',rfl,i,hz,u1,u2,hR⟩
   simp only at hb'
   subst hb'
   have hge:min items.toList.length items2.toList.length≤i:=by
    rcases VM i (items.toList.zip items2.toList).length with h'|h'
    ·rw[VP h']at hz;cases hz
    ·rw[List.length_zip]at h';exact h'
   have hv:ltI (xs.drop i) (ys.drop i)=decide (items.size<items2.size):=by
    rw[Zj4 ((show i=items.toList.length∨i=items2.toList.length by omega).imp (λc=>Uh (by omega)) λc=>Uh (by omega)),BR,BR]
    rw[X5]at e1 e2 u1 u2
    exact decide_eq_decide.mpr (by omega)
   rw[hv]at hR
   wp_walk
   exact⟨_,rfl,hR⟩
  case h=>
   exact⟨rfl,rfl,0,rfl,Qy _,Qy _,h⟩
section
variable {prog:XS}{w:Qq}{A:Qs}{E:Xe->Xg->Prop}{s:Xg}
end
end L2
namespace L2
open PySem PySem.Spec PyProof.Rows PySem.W
noncomputable def sLay{α:Type}(d:α)(lt:Nat->Nat->Bool)(vs:List α):List α:=if vs.length<2 then vs else(Zt0 lt vs.length).map λi=>vs.getD i d
theorem Zhy{α:Type}(d:α)(vs:List α):((Xi vs.length).map λi=>vs.getD i d)=vs:=by
 refine Vx λi=>?_
 rw[Xl]
 by_cases c:i<vs.length
 ·rw[QM c,Xk c]
  show some (vs.getD i d)=_
  rw[Xr,Xk c];rfl
 ·rw[QK (by rw[Xw];omega),QK (by omega)];rfl
theorem Zkw{α:Type}(d:α)(lt:Nat->Nat->Bool)(vs:List α):(sLay d lt vs).Perm vs:=by
 unfold sLay
 split
 ·exact .refl _
 ·have:=(Zdg (lt:=lt) (n:=vs.length) (by omega)).map λi=>vs.getD i d
  rwa[Zhy]at this
theorem Zvr{α β:Type}(f:α->β)(d:α)(lt:Nat->Nat->Bool)(vs:List α):sLay (f d) lt (vs.map f)=(sLay d lt vs).map f:=by
 unfold sLay
 rw[Xd]
 split
 ·rfl
 ·rw[Qz]
  refine Qh λi _=>?_
  show(vs.map f).getD i (f d)=f (vs.getD i d)
  rw[Xr,Xr,Xl]
  cases vs[i]? <;>rfl
theorem Zsw{lt:Nat->Nat->Bool}{xs:List V}{us:List Xe}(h:Vals xs us):Vals (sLay .non lt xs) (sLay .none lt us):=by
 unfold sLay
 rw[h.length]
 split
 ·exact h
 ·generalize Zt0 lt _=l
  induction l with
  | nil=>exact .nil
  | cons i l ih=>
   refine .cons ?_ ih
   show RelV (xs.getD i V.non) (us.getD i QX)
   rw[Xr,Xr]
   cases e:xs[i]? with
   | some x=>
    obtain⟨u,e',r⟩:=h.get e
    rw[e'];exact r
   | none=>
    have:us[i]? =none:=QK (by rw[←h.length];exact QD.mp e)
    rw[this];exact rfl
section
variable {prog:XS}{w:Qq}{A:Qs}{E:Xe->Xg->Prop}{s:Xg}
theorem Zoq{κ:SortKind}{lt:Nat->Nat->Bool}{h0:Heap}{a:Addr}{vs:List Xe}{n:Nat}{P:PySem.Fin->Xg->Prop}(ho:s.heap.get? a=some (BK "list" vs.toArray n))
  (k0:∀b o,h0.get? b=some o->s.heap.get? b=some o) (ha0:h0.get? a=none) (h64:vs.length<64)
  (hk:2≤vs.length->∀s':Xg,(∀b o,h0.get? b=some o->s'.heap.get? b=some o)->∀Q:SortKind->Xg->Prop,Q κ s'->XD (XR prog w) A (keyKind' vs.toArray) Q E s')
  (hc:2≤vs.length->∀s':Xg,(∀b o,h0.get? b=some o->s'.heap.get? b=some o)->∀i j C,i<vs.length->j<vs.length->C (lt i j) s'->kas_ask prog w A κ vs i j C s')
  (h:P (.done (.ret .none)) { s with heap:=sortedHeap s.heap a vs (VF (sLay QX lt vs)) }):XD (XR prog w) A (Bu.«list.sort» ⟨[.ref a],[]⟩) P E s:=by
 have ha:a<s.heap.objs.size:=XH ho
 obtain⟨e1,ho1⟩:∃e1,(s.heap.update a (Va λ_=>(#[]:Array Xe))).get? a=some (BK "list" #[] e1):=⟨_,get?_update_seq ho λ_=>#[]⟩
 have ho6:(((s.heap.update a (Va λ_=>(#[]:Array Xe))).push (BK "tuple" vs.toArray 0)).push (BK "list" #[] 0)).get? a=some (BK "list" #[] e1):=Xf _ (Xf _ ho1)
 have k6:∀b o,h0.get? b=some o->(((s.heap.update a (Va λ_=>(#[]:Array Xe))).push (BK "tuple" vs.toArray 0)).push (BK "list" #[] 0)).get? b=some o:=λb o e=>by
  refine Xf _ (Xf _ ?_)
  rw[Heap.get?_update_ne _ _ _ _ (λq=>by rw[q,ha0]at e;cases e)]
  exact k0 b o e
 rw[list_sort_plain]
 refine Xb (listItems_at ho rfl ?_)
 refine Xb (listUpdate_at ho rfl ?_ (by rw[Xy,XN];omega) (Qy _))
 refine Xb (seqEpoch_at ho1 rfl ?_)
 refine Xb (wpAny_newTuple ?_ (by show vs.length≤_;rw[XN];omega))
 refine Xb (wpAny_newList ?_ (Qy _))
 refine VD ?_
 show XD (XR prog w) A _ P E { s with heap:=((s.heap.update a (Va λ_=>(#[]:Array Xe))).push (BK "tuple" vs.toArray 0)).push (BK "list" #[] 0) }
 dsimp only
 have hs:vs.toArray.size=vs.length:=Xy ..
 by_cases h2:vs.toArray.size<2
 ·have el:sLay QX lt vs=vs:=if_pos (hs▸h2)
  rw[el]at h
  rw[if_pos h2,if_pos h2]
  refine Xb (Xm ?_)
  rw[StateT.run_pure]
  refine Xb (Xm ?_)
  dsimp only
  refine Xb (seqEpoch_at ho6 rfl ?_)
  have ez:((vs.toArray.zip vs.toArray).map (·.2))=vs.toArray:=by
   apply Array.toList_inj.mp
   rw[Array.toList_map,Array.toList_zip,List.map_snd_zip (Xz _)]
  show XD _ _ (Builtin.List.listUpdate _ (λ_=>(vs.toArray.zip vs.toArray).map (·.2))>>=_) _ _ _
  rw[ez]
  refine Xb (listUpdate_at ho6 rfl ?_ (Qy _) (by rw[hs,XN];omega))
  simp only[bne_self_eq_false,Qm,if_false]
  exact Xm h
 ·rw[if_neg h2,if_neg h2]
  have h2':2≤vs.length:=by omega
  have el:sLay QX lt vs=(Zt0 lt vs.length).map λi=>vs.getD i QX:=if_neg (by omega)
  rw[el]at h
  refine Xb (hk h2' _ k6 _ ?_)
  have est:SortSt.mk' κ (vs.toArray.zip vs.toArray) #[] 7 none=kas_st κ (pairsOf vs) (VF (Xi vs.length)):=by
   have e:=kas_range (pairsOf vs)
   rw[pairsOf_size]at e
   show SortSt.mk' κ (pairsOf vs) #[] 7 none=SortSt.mk' κ ((VF (Xi vs.length)).map (kas_item (pairsOf vs))) #[] 7 none
   rw[e]
  have run:=kas_runs (prog:=prog) (w:=w) (A:=A) (κ:=κ) (it:=pairsOf vs) (E:=E) (s:={ s with heap:=((s.heap.update a (Va λ_=>(#[]:Array Xe))).push (BK "tuple" vs.toArray 0)).push (BK "list" #[] 0) })
   (Q:=λ_ st' s'=>arrOf st'=(kEv lt (kas_sort vs.length)).map (kas_item (pairsOf vs))∧failedOf st'=none∧s'={ s with heap:=((s.heap.update a (Va λ_=>(#[]:Array Xe))).push (BK "tuple" vs.toArray 0)).push (BK "list" #[] 0) })
   (G:=λp s'=>p=kEv lt (kas_sort vs.length)∧s'={ s with heap:=((s.heap.update a (Va λ_=>(#[]:Array Xe))).push (BK "tuple" vs.toArray 0)).push (BK "list" #[] 0) })
   h2' h64 (λp' st' s' _ a2 a3 a4=>⟨a4.1▸a2,a3,a4.2⟩) (by
    rw[←kas_ask_eq]
    exact(Zfv (n:=vs.length) (by omega)).wp (hc h2' _ k6) ⟨rfl,rfl⟩)
  rw[←est]at run
  refine Xb (Be run ?_ λ_ _ e=>e)
  intro r s' z
  obtain⟨har,hf,rfl⟩:=z
  have hout:(arrOf r.2).map (·.2)=VF ((Zt0 lt vs.length).map λi=>vs.getD i QX):=by
   apply Array.toList_inj.mp
   rw[har,Array.map_map,Array.toList_map]
   exact Qh λi _=>by show(kas_item (pairsOf vs) i).2=_;rw[kas_item_eq]
  rw[hout]
  refine Xb (seqEpoch_at ho6 rfl ?_)
  refine Xb (listUpdate_at ho6 rfl ?_ (Qy _) (by rw[Xy,Xd,(Zdg (by omega)).length_eq,Xw,XN];omega))
  rw[hf]
  simp only[bne_self_eq_false,Qm,if_false]
  exact Xm h
theorem Zzo{κ:SortKind}{lt:Nat->Nat->Bool}{l:Addr}{vs:List Xe}{Q:Xe->Xg->Prop}(hl:s.heap.IsList l vs.toArray)(h64:vs.length<64)
  (hk:2≤vs.length->∀s':Xg,(∀b o,s.heap.get? b=some o->s'.heap.get? b=some o)->∀Q:SortKind->Xg->Prop,Q κ s'->XD (XR prog w) A.in1.in1 (keyKind' vs.toArray) Q E s')
  (hc:2≤vs.length->∀s':Xg,(∀b o,s.heap.get? b=some o->s'.heap.get? b=some o)->∀i j C,i<vs.length->j<vs.length->C (lt i j) s'->kas_ask prog w A.in1.in1 κ vs i j C s')
  (h:Q (.ref (s.heap.objs.size+1)) { s with heap:=sortedAll s.heap vs (VF (sLay QX lt vs)) }):XD (XR prog w) A (call (.builtin "sorted") [.ref l]) Q E s:=by
 refine Calls.call_function_entry kind_sorted plain_sorted entry_sorted (args_sorted1 _) ?_
 unfold Bu.«sorted»
 refine Xb (m:=checkCount "sorted" 1 1 _) (Xm ?_)
 refine Xb (collect_list hl ?_ (by rw[XN];omega))
 refine Xb (wpAny_newList ?_ (by rw[XN];omega))
 have hsz:((s.heap.push (BK "list" #[] 0)).update s.heap.objs.size (Va (· ++ vs.toArray))).objs.size=s.heap.objs.size+1:=by
  rw[Heap.size_update,size_push']
 have hoL:(((s.heap.push (BK "list" #[] 0)).update s.heap.objs.size (Va (· ++ vs.toArray))).push (BK "list" vs.toArray 0)).get? (s.heap.objs.size+1)=some (BK "list" vs.toArray 0):=by
  rw[←hsz];exact XC _ rfl
 have keep:∀b o,s.heap.get? b=some o->(((s.heap.push (BK "list" #[] 0)).update s.heap.objs.size (Va (· ++ vs.toArray))).push (BK "list" vs.toArray 0)).get? b=some o:=λb o q=>by
  have hlt:b<s.heap.objs.size:=XH q
  rw[Heap.get?_push_ne _ _ _ (by rw[hsz];exact Xo (Bb hlt)),Heap.get?_update_ne _ _ _ _ (Xo hlt),Heap.get?_push_ne _ _ _ (Xo hlt)]
  exact q
 show XD _ _ _ _ _ { s with heap:=((s.heap.push (BK "list" #[] 0)).update s.heap.objs.size (Va (· ++ vs.toArray))).push (BK "list" vs.toArray 0) }
 rw[hsz]
 refine Xb (VD (JG slot_list_sort ⟨_,hoL,rfl⟩ entry_list_sort (Zoq (h0:=s.heap) hoL keep (Heap.get?_none_of_le (Nat.le_succ _)) h64 hk hc ⟨_,rfl,?_⟩) (args_list_sort _)))
 exact Xm ⟨_,rfl,h⟩
end
end L2
namespace L2
open PySem PySem.Spec PyProof.Rows PySem.W
variable {G:Xc}
structure Yeg{α:Type}(kd:Xa->Option α)(lt:α->α->Bool):Prop where
 lay:∀d k,kd d=some k->d.canLay0=true
 run:∃κ:SortKind,(∀(prog:XS) (w:Qq) (A:Qs) (E:Xe->Xg->Prop) (s:Xg) (vs:List Xe) (ds:List Xa) (as:List Addr) (Q:SortKind->Xg->Prop),2≤vs.length->ReadsAll s.heap vs ds as->(∀d∈ds,∃k,kd d=some k)->Q κ s->XD (XR prog w) A (keyKind' vs.toArray) Q E s)∧
  ∀(prog:XS) (w:Qq) (A:Qs) (E:Xe->Xg->Prop) (s:Xg) (u v:Xe) (d e:Xa) (as bs:List Addr) (k m:α) (C:Bool->Xg->Prop),A.units+32<V8->Reads s.heap u d as->Reads s.heap v e bs->kd d=some k->kd e=some m->C (lt k m) s->XD (XR prog w) A (keyLt' κ u v) C E s
theorem readsAll_ints{h:Heap}(ns:List Int){vs:List Xe}{as:List Addr}(r:ReadsAll h vs (ns.map Xx) as):BJ vs ns:=by
 induction ns generalizing vs as with
 | nil=>cases r;exact .nil
 | cons n ns ih=>
  cases r with
  | cons r q=>
   cases r
   exact .cons _ _ (ih q)
theorem Zes{h:Heap}{ns:List Int}{u:Xe}{as:List Addr}(r:Reads h u (.list (ns.map Xx)) as):∃a items,u= .ref a∧h.IsList a items∧BJ items.toList ns:=by
 cases r with
 | list e c d q=>exact⟨_,_,rfl,⟨_,e,c,_,d⟩,readsAll_ints ns q⟩
theorem readsAll_get{h:Heap}{vs:List Xe}{ds:List Xa}{as:List Addr}(r:ReadsAll h vs ds as):vs.length=ds.length∧∀(i:Nat) d,ds[i]? =some d->∃v bs,vs[i]? =some v∧Reads h v d bs:=by
 induction ds generalizing vs as with
 | nil=>cases r;exact⟨rfl,λi d e=>by rw[List.getElem?_nil]at e;cases e⟩
 | cons d ds ih=>
  cases r with
  | cons r q=>
   obtain⟨z1,z2⟩:=ih q
   refine⟨congrArg Nat.succ z1,λi e he=>?_⟩
   cases i with
   | zero=>cases he;exact⟨_,_,rfl,r⟩
   | succ i=>exact z2 i e he
theorem lay_ints(ns:List Int):Sh 1 (.list (ns.map Xx)):=Zen λd m=>by
 obtain⟨x,_,rfl⟩:=XX.mp m
 exact Zyc x
theorem Zj3(ns:List Int):Sh 1 (.tuple (ns.map Xx)):=Zw7 λd m=>by
 obtain⟨x,_,rfl⟩:=XX.mp m
 exact Zyc x
theorem Zpc{M:Model}{h:Heap}{a:Addr}{items:Array Xe}(e:h.IsList a items):Looks M h (typeOf (.ref a)) (.type "list"):=by
 obtain⟨o,e,c,_⟩:=e
 have:Looks M h (typeOf (.ref a)) o.cls:=(Looks.ld e).andThen .now
 rwa[c]at this
noncomputable def kdL:Xa->Option (List Int):=λd=>match d with| .list es=>Ze6 es|_=>none
theorem Zfa{d:Xa}{k:List Int}(h:kdL d=some k):d= .list (k.map Xx):=by
 cases d with
 | list es=>exact congrArg JN (Zdk h)
 | _=>cases h
theorem Zqo{h:Heap}{vs:List Xe}{ds:List Xa}{as:List Addr}(r:ReadsAll h vs ds as){v:Xe}(hv:v∈vs):∃d∈ds,∃bs,Reads h v d bs:=by
 obtain⟨i,hi⟩:=UL hv
 obtain⟨z1,z2⟩:=readsAll_get r
 have c:i<ds.length:=z1▸(Xn.mp hi).1
 obtain⟨v',bs,e,q⟩:=z2 i _ (Xk c)
 rw[hi]at e
 cases e
 exact⟨_,VG c,bs,q⟩
theorem Zyd:Yeg kdL ltI:=by
 refine⟨λd k h=>by rw[Zfa h];exact(lay_ints k).1,oneType',λprog w A E s vs ds as Q h2 r hk q=>kas_kind (T:=.type "list") h2 (λv hv=>?_) rfl rfl q,λprog w A E s u v d e as bs k m C hu r1 r2 h1 h2 h=>?_⟩
 ·obtain⟨d,hd,bs,z⟩:=Zqo r hv
  obtain⟨k,hk⟩:=hk d hd
  rw[Zfa hk]at z
  obtain⟨a,items,rfl,e,_⟩:=Zes z
  exact Zpc e
 ·rw[Zfa h1]at r1
  rw[Zfa h2]at r2
  obtain⟨a,i1,rfl,e1,z1⟩:=Zes r1
  obtain⟨b,i2,rfl,e2,z2⟩:=Zes r2
  rw[keyLt'_oneType]
  exact Zor (by omega) e1 e2 z1 z2 h
theorem Zgo(a b:List Int):Q5 (.list (a.map Xx)) (.list (b.map Xx))=decide (a=b):=by
 have p:∀l:List Int,Z2 (.list (l.map Xx))=true:=λl=>by rw[Z2];induction l with|nil=>rfl|cons x l ih=>exact ih
 have inj:∀{l m:List Int},JN (l.map Xx)= .list (m.map Xx)->l=m:=λh=>by
  injection h with h
  exact(List.map_inj_right λx y z=>by injection z).mp h
 by_cases c:a=b
 ·rw[Zxz (p a) (p b) (by rw[c]),decide_eq_true c]
 ·rw[Zxf (p a) (p b) λz=>c (inj z),decide_eq_false c]
end L2
namespace L2
open PySem PySem.Spec PyProof.Rows PySem.W
variable {G:Xc}
noncomputable def lk{α:Type}(kd:Xa->Option α)(lt:α->α->Bool)(es:List Xa):Nat->Nat->Bool:=λi j=>((kd (es.getD i .none)).bind λa=>(kd (es.getD j .none)).map λb=>lt a b).getD false
noncomputable def keyed{α:Type}(kd:Xa->Option α)(es:List Xa):Prop:=∀d∈es,∃k,kd d=some k
theorem Zoz{es:List Xa}(h:∀d∈es,d.canLay0=true):JS es=true:=by
 induction es with
 | nil=>rw[JS]
 | cons d es ih=>rw[JS,h d (.head _),ih λd m=>h d (.tail _ m)];rfl
theorem Das.sLay{H:Hp}{L:Addr->Prop}{lt:Nat->Nat->Bool}{xs:List V}{ds:List Xa}(h:Das G H L xs ds):Das G H L (L2.sLay .non lt xs) (L2.sLay .none lt ds):=by
 unfold L2.sLay
 rw[h.length]
 split
 ·exact h
 ·generalize Zt0 lt _=l
  induction l with
  | nil=>exact .nil
  | cons i l ih=>
   refine .cons ?_ ih
   show Da G H L (xs.getD i .non) (ds.getD i .none)
   rw[Xr,Xr]
   cases e:xs[i]? with
   | some x=>
    obtain⟨u,e',r⟩:=h.get' e
    rw[e'];exact r
   | none=>
    have:ds[i]? =none:=QK (by rw[←h.length];exact QD.mp e)
    rw[this];exact .non
noncomputable def Zyb{α:Type}(kd:Xa->Option α)(lt:α->α->Bool)(K:Xc):List V->Hp->VK->Prop:=λxs H Q=>∃(a:Addr) (vs:List V) (L:Addr->Prop) (es:List Xa),xs=[.ref a]∧SqL K H a vs∧Das K H L vs es∧vs.length<64∧keyed kd es∧∀l,H l=none->Q (.ref l) (upd H l (.lst (sLay .non (lk kd lt es) vs)))
section
variable {X:Cx}{α:Type}{kd:Xa->Option α}{lt:α->α->Bool}
theorem Zid{K:Xc}(S:Yeg kd lt)(hK:X.K=K)(hu:X.A.units+64<V8):Zcd X (.builtin "sorted") (Zyb kd lt K):=by
 subst hK
 intro pins s σ H xs us Q I r h
 obtain⟨l,vs,L,es,rfl,hs,hd,h64,hk,q⟩:=h
 obtain⟨u,rfl,ru⟩:=vals1 r
 cases(show u=Qn l from ru)
 obtain⟨its,rv,pl,hz⟩:=I.list hs
 have hl:=rv.length
 obtain⟨as,ra⟩:=hd.reads rfl I rv (Zoz λd m=>by obtain⟨k,e⟩:=hk d m;exact S.lay d k e)
 obtain⟨κ,S1,S2⟩:=S.run
 obtain⟨z1,z2⟩:=readsAll_get ra
 refine Zzo (κ:=κ) (lt:=lk kd lt es) pl.isList (by omega) (λh2 s' k Q q=>S1 _ _ _ _ s' _ es as Q h2 (ReadsAll.keeps k ra) hk q) (λh2 s' k i j C hi hj hc=>?_) ?_
 ·rw[z1]at hi hj
  obtain⟨v,b1,e1,r1⟩:=z2 i _ (Xk hi)
  obtain⟨w,b2,e2,r2⟩:=z2 j _ (Xk hj)
  obtain⟨k1,q1⟩:=hk _ (VG hi)
  obtain⟨k2,q2⟩:=hk _ (VG hj)
  have ek:lk kd lt es i j=lt k1 k2:=by
   unfold lk
   rw[Xr,Xr,Xk hi,Xk hj]
   show((kd es[i]).bind λa=>(kd es[j]).map λb=>lt a b).getD false=_
   rw[q1,q2];rfl
  rw[ek]at hc
  unfold kas_ask
  rw[Xr,Xr,e1,e2]
  exact S2 _ _ _ _ s' v w _ _ _ _ k1 k2 C (show X.A.units+1+1+32<V8 by omega) (Reads.keeps k r1) (Reads.keeps k r2) q1 q2 hc
 ·obtain⟨e,he⟩:=sortedAll_at s.heap its (VF (sLay QX (lk kd lt es) its))
  refine⟨.ref (s.heap.objs.size+1),_,I.laid (t':=s.toks) (o:=.lst (sLay .non (lk kd lt es) vs)) (λb ob q=>sortedAll_old q) (by omega) ⟨?_,sLay QX (lk kd lt es) its,e,Zsw rv,he⟩,rfl,q _ (I.hok.fresh (by omega))⟩
  rw[(Zkw _ _ _).length_eq,XN];omega
noncomputable def Zxu(kd:Xa->Option α)(lt:α->α->Bool):List Xa->(OT->Prop)->Prop:=λds k=>n1 (λd=>∃es:List Xa,d= .list es∧es.length<64∧keyed kd es∧k (.nd ((sLay .none (lk kd lt es) es).map OT.fz))) ds
theorem Zm1:PN G (Zyb kd lt G) (Zxu kd lt):=λH L xs ds k Q hx h kk=>by
 obtain⟨v,d,rfl,rfl,q,es,e,h64,hk,h⟩:=hx.one h
 have fin:∀(vs:List V) (p:Addr),Das G H L vs es->H p=none->Q (.ref p) (upd H p (.lst (sLay .non (lk kd lt es) vs))):=λvs p hv hp=>kk _ _ _ [p] (Zz hp _) (Own.list hp hv.sLay) (Zch p) (Zaq hp) h
 subst e
 generalize ed:JN es=d at q
 cases q with
 | lst l e r=>
  cases ed
  exact⟨_,_,L,es,rfl,.inl e,r,by rw[r.length];exact h64,hk,λp hp=>fin _ p r hp⟩
 | scr ks=>
  cases ed
  exact⟨_,_,L,_,rfl,ks.sq,Das.ints _,by rw[(Das.ints (G:=G) (H:=H) (L:=L) _).length];exact h64,hk,λp hp=>fin _ p (Das.ints _) hp⟩
 | _=>cases ed
noncomputable def Zjy(kd:Xa->Option α)(lt:α->α->Bool):List Xa->Option OT:=λds=>match ds with|[.list es]=>if(decide (es.length<64)&&es.all λd=>(kd d).isSome)=true then some (.nd ((sLay .none (lk kd lt es) es).map OT.fz))else none|_=>none
theorem Zsz:∀ds r k,Zjy kd lt ds=some r->k r->Zxu kd lt ds k:=λds r k h hk=>by
 unfold Zjy at h
 split at h
 case h_2=>cases h
 split at h
 case isFalse=>cases h
 rename_i h2
 rw[XJ]at h2
 cases h
 exact⟨_,rfl,of_decide_eq_true h2.1,λd m=>Option.isSome_iff_exists.mp (VH.mp h2.2 d m),hk⟩
end
end L2
namespace L2
open PySem PySem.Spec PyProof.Rows
section
variable {X:Cx}{io:List Nat}{p p' c c' q r:Bool}{a b e:Expr}{fa fb:FE}{es:List Expr}{ra:FA}{st:Stmt}{sts ss ss':List Stmt}{f g:FS}{ta:FT}
theorem xv(i:Nat){x:Str}{pos:Pos}(hN:X.N[i]? =some x:=by rfl)(hv:Vis X.env.scope x:=by first|exact Qw rfl|exact Qo (Qw rfl)|exact Qo (Qo rfl))(hd:(x==("__debug__" : Str))=false:=by decide)(he:(x==("__classdict__" : Str))=false:=by decide):ME X io true true (.Name x pos) (o2 (Zb i)):=Z41 (mv i hN hv hd he)
theorem xo(i:Nat){x:Str}{pos:Pos}(hN:X.N[i]? =some x:=by rfl)(hv:Vis X.env.scope x:=by first|exact Qw rfl|exact Qo (Qw rfl)|exact Qo (Qo rfl))(hd:(x==("__debug__" : Str))=false:=by decide)(he:(x==("__classdict__" : Str))=false:=by decide):ME X io true false (.Name x pos) (o2 (Zco i)):=Z4f (mo i hN hv hd he)
theorem xci{i:Int}{j:Nat}{pos:Pos}:ME X io true true (.Constant (.int i) j pos) (o2 (fC (.int i))):=Zck Z6b
theorem xix{pos:Pos}(ha:ME X io p c a (o2 fa))(hb:ME X io p' c' b (o2 fb))(hc:p'=true∨c=true:=by first|exact Qw rfl|exact Qo rfl)(hs:Zfu b:=by exact λ_ _=>rfl)(h2:(p&&p')=q:=by rfl)(h3:(c&&c')=r:=by rfl):ME X io q r (.Subscript a b pos) (o2 (Z4 gIx fa fb)):=h2▸h3▸Za1 Yge (Z3c (Zc7 rfl) Yag ha hb hc (hs:=hs))
theorem xa0:MA X io true true [] (o2 Zm):=Z54 Z8v
theorem xa1[NoStar e](ha:ME X io p c e (o2 fa))(h2:(p&&true)=q:=by rfl)(h3:(c&&true)=r:=by rfl):MA X io q r [e] (o2 (Zc fa Zm)):=Zj ha xa0 (.inl rfl) h2 h3
theorem xsq(h:MS X io st (oS f))(k:MSs X io sts (oS g)):MSs X io (st :: sts) (oS (Zx f g)):=Z5r (Zwm h k)
theorem xst{pos px:Pos}(i:Nat){x:Str}(hN:X.N.Nodup)(he:ME X io p true e (o2 fa))(hi:X.N[i]? =some x:=by rfl)(hx:Loc X.env.scope x:=by first|exact Qw rfl|exact Qo rfl)(hio:i∉io:=by decide)(hs:Br e (some (.Name x px)) pos.line X.env=pure false:=by rfl)(hf:X.fn x=true∨X.env.scope.names.lookup x=some .local:=by first|exact .inl rfl|exact .inr rfl|assumption):MS X io (.Assign [.Name x px] e pos) (oS (wE fa (Wz i))):=Zm9 (Znd hN hi hx he hio hs hf)
theorem xrt{pos:Pos}(h:ME X io p true e (o2 fa)):MS X io (.Return (some e) pos) (oS (wE fa W8)):=Z8a (Z5s h)
theorem xg{pos:Pos}(i:Nat){x:Str}(hN:X.N.Nodup)(hi:X.N[i]? =some x:=by rfl)(hx:Loc X.env.scope x:=by first|exact Qw rfl|exact Qo rfl)(hio:i∉io:=by decide)(hf:X.fn x=true∨X.env.scope.names.lookup x=some .local:=by first|exact .inl rfl|exact .inr rfl|assumption):MG X io true (.Name x pos) (oG (gNm i)):=Z24 (Z0a hN hi hx hio hf)
theorem xif{pos:Pos}(h:MT X io p e (o2 ta))(k:MSs X io ss (oS f))(l:MSs X io ss' (oS g)):MS X io (.If e ss ss' pos) (oS (J8 ta f g)):=Z9v (Yac h k l)
theorem xnl:MSs X io [] (oS fNx):=Zy4 Z0w
theorem xtp{pos:Pos}{n:Nat}(h:MA X io p c es (o2 ra)):ME X io p c (.Tuple es n pos) (o2 (Zgy ra)):=Z7o (Ybs h)
theorem xls{pos:Pos}(h:MA X io p c es (o2 ra)):ME X io p c (.List es pos) (o2 (Zcx ra)):=Z49 (Z95 h)
theorem xil{tg:Expr}(h:ME X io p c e (o2 fa)):MI X io p c tg e (o2 (Jw fa)):=Z1m (Z0e h)
theorem xno{pos:Pos}(h:MT X io p e (o2 ta)):MT X io p (.UnaryOp .Not e pos) (o2 (tNo ta)):=Z50 (Z4y h)
theorem Zpi{pos:Pos}(ha:ME X io p c a (o2 fa))(hb:ME X io p' c' b (o2 fb))(hc:p'=true∨c=true:=by first|exact Qw rfl|exact Qo rfl)(h2:(p&&p')=q:=by rfl):ME X io q true (.BinOp a .Add b pos) (o2 (Ze Zca fa fb)):=h2▸Y6 Ycs (Zc8 Z6p Zsm ha hb hc)
theorem Z8y{pos:Pos}(ha:ME X io p c a (o2 fa))(hb:ME X io p' c' b (o2 fb))(hc:p'=true∨c=true:=by first|exact Qw rfl|exact Qo rfl)(h2:(p&&p')=q:=by rfl):ME X io q true (.BinOp a .Sub b pos) (o2 (Ze gSb fa fb)):=h2▸Y6 Ybj (Zc8 Z6a Zsm ha hb hc)
theorem Z29{pos:Pos}(ha:ME X io p c a (o2 fa))(hb:ME X io p' c' b (o2 fb))(hc:p'=true∨c=true:=by first|exact Qw rfl|exact Qo rfl)(h2:(p&&p')=q:=by rfl):ME X io q true (.BinOp a .Mult b pos) (o2 (Ze Zgz fa fb)):=h2▸Y6 Ycn (Zc8 Zy5 Z6i ha hb hc)
theorem Zsg{pos:Pos}(ha:ME X io p c a (o2 fa))(hb:ME X io p' c' b (o2 fb))(hc:p'=true∨c=true:=by first|exact Qw rfl|exact Qo rfl)(h2:(p&&p')=q:=by rfl):ME X io q true (.BinOp a .Mod b pos) (o2 (Ze Zc9 fa fb)):=h2▸Y6 Ybp (Zc8 Zz3 Z6w ha hb hc)
theorem Z8z{pos:Pos}(ha:ME X io p c a (o2 fa))(hb:ME X io p' c' b (o2 fb))(hc:p'=true∨c=true:=by first|exact Qw rfl|exact Qo rfl)(h2:(p&&p')=q:=by rfl):ME X io q true (.BinOp a .FloorDiv b pos) (o2 (Ze Zag fa fb)):=h2▸Y6 Z3r (Zc8 Zwl Z4x ha hb hc)
theorem Z9l{pos:Pos}(ha:ME X io p c a (o2 fa))(hb:ME X io p' c' b (o2 fb))(hc:p'=true∨c=true:=by first|exact Qw rfl|exact Qo rfl)(h2:(p&&p')=q:=by rfl):ME X io q true (.BinOp a .Pow b pos) (o2 (Ze Zwq fa fb)):=h2▸Y6 Ybk (Zc8 Z1z Z4e ha hb hc)
theorem xeq{pos:Pos}(hu:X.A.units+64<V8)(ha:ME X io p c a (o2 fa))(hb:ME X io p' c' b (o2 fb))(hc:p'=true∨c=true:=by first|exact Qw rfl|exact Qo rfl)(h2:(p&&p')=q:=by rfl):MT X io q (.Compare a [.Eq] [b] pos) (o2 (tV (Ze gEq fa fb))):=h2▸Jr Yga (Jq (Z52 hu) Ybn ha hb hc (hm:=Zcg _))
theorem xne{pos:Pos}(hu:X.A.units+64<V8)(ha:ME X io p c a (o2 fa))(hb:ME X io p' c' b (o2 fb))(hc:p'=true∨c=true:=by first|exact Qw rfl|exact Qo rfl)(h2:(p&&p')=q:=by rfl):MT X io q (.Compare a [.NotEq] [b] pos) (o2 (tV (Ze gNe fa fb))):=h2▸Jr Yf3 (Jq (Z6d hu) Yc2 ha hb hc (hm:=Zcg _))
theorem xlt{pos:Pos}(ha:ME X io p c a (o2 fa))(hb:ME X io p' c' b (o2 fb))(hc:p'=true∨c=true:=by first|exact Qw rfl|exact Qo rfl)(h2:(p&&p')=q:=by rfl):MT X io q (.Compare a [.Lt] [b] pos) (o2 (tV (Ze gLt fa fb))):=h2▸Jr Ydf (Jq Zsx Zny ha hb hc (hm:=Zcg _))
theorem xgt{pos:Pos}(ha:ME X io p c a (o2 fa))(hb:ME X io p' c' b (o2 fb))(hc:p'=true∨c=true:=by first|exact Qw rfl|exact Qo rfl)(h2:(p&&p')=q:=by rfl):MT X io q (.Compare a [.Gt] [b] pos) (o2 (tV (Ze gGt fa fb))):=h2▸Jr Ygs (Jq Ya8 Zny ha hb hc (hm:=Zcg _))
theorem xge{pos:Pos}(ha:ME X io p c a (o2 fa))(hb:ME X io p' c' b (o2 fb))(hc:p'=true∨c=true:=by first|exact Qw rfl|exact Qo rfl)(h2:(p&&p')=q:=by rfl):MT X io q (.Compare a [.GtE] [b] pos) (o2 (tV (Ze gGe fa fb))):=h2▸Jr Ygc (Jq Yay Zny ha hb hc (hm:=Zcg _))
theorem xfr{pos:Pos}{tg:Expr}{it:FI}{gg:FG}(hp:PassesOwn (XR X.prog X.w) X.A X.env X.xe)(hc:X.calm=true)(hi:MI X io p true tg e (o2 it))(hg:MG X io true tg (oG gg))(hb:MSs X io ss (oS f))(hs:∀x,Vk e X.env x=pure x:=by intro _;rfl):MS X io (.For tg e ss [] pos) (oS (Jz it gg f)):=Z57 (Z6m hp hc hi hg hb hs)
theorem xg2{pos:Pos}{n:Nat}{g1 g2:FG}(hc:X.calm=true)(ha:MG X io true a (oG g1))(hb:MG X io true b (oG g2))(h1:List.map (λx=>x.snd) (Bs [a,b] X.env)=assign a X.env :: List.map (λx=>x.snd) (Bs [b] X.env):=by rfl)(h2:List.map (λx=>x.snd) (Bs [b] X.env)=assign b X.env :: List.map (λx=>x.snd) (Bs [] X.env):=by rfl)(h3:(Bs [a,b] X.env).length=2:=by rfl)(h4:List.findIdx? (λx=>x.fst) (Bs [a,b] X.env)=none:=by rfl):MG X io true (.Tuple [a,b] n pos) (oG (gTp 2 (gCn g1 (gCn g2 gNl)))):=Z73 (Z4t (n:=2) hc (Zne (Zm8 ha (Zne (Zm8 hb (Z0y Z0m) h2)) h1)) h3 h4)
theorem xso{pos px:Pos}(i:Nat){x:Str}(hN:X.N.Nodup)(he:ME X io p true e (o2 fa))(hi:X.N[i]? =some x:=by rfl)(hx:Loc X.env.scope x:=by first|exact Qw rfl|exact Qo rfl)(hio:i∉io:=by decide)(hs:Br e (some (.Name x px)) pos.line X.env=pure false:=by rfl)(hf:X.fn x=true∨X.env.scope.names.lookup x=some .local:=by first|exact .inl rfl|exact .inr rfl|assumption):MS X io (.Assign [.Name x px] e pos) (oS (wE fa (Ja i))):=Z0h (Z2e hN hi hx he hio hs hf)
theorem xcl{pos pp:Pos}{k:Nat}{f:Addr}{fd:Qc}{ps:List Str}{x:Str}{F:FD}(G:FnOk X.prog X.w X.K X.mg X.base CX0 k f fd ps (spD X.K (sD F)))(hr:Room k X.A)(hm:X.mg x=some (.ref f))(hk:Vv X.K (.ref f)=true)(hb:Binds X.K fd ps [])(ha:MA X io p c (e :: es) (o2 ra))(hg:Gl X x:=by rfl)(h1:(x==("__debug__" : Str))=false:=by decide)(h2:Xu (e :: es) X.env=(false,eval e X.env) :: Xu es X.env:=by rfl)(h3:((JD pos (Xu es X.env)).any λx=>x.fst)=false:=by rfl):ME X io p c (.Call (.Name x pp) (e :: es) [] pos) (o2 (Zv F ra)):=Zzi (Z6n G hr hg hm hk hb Z93 ha h1 h2 h3)
theorem xln{pos pp:Pos}(hm:X.mg "len"=none)(ha:MA X io p c [e] (o2 ra))(hg:Gl X "len" :=by rfl)(h2:Xu [e] X.env=(false,eval e X.env) :: Xu [] X.env:=by rfl):ME X io p true (.Call (.Name "len" pp) [e] [] pos) (o2 (Zak Zce ra)):=Zia Ybt (Zq9 Z5z (Zsp rfl) hg hm L2.B.boot_len ha (by decide) (by decide) h2 (by rfl))
end
noncomputable def tbl(P:List Nat)(led:Bool):Q4:={ mask:=7,place:=P.toArray,dummies:=#[],finger:=0,led,moves:=0,plain:=true }
noncomputable def hT(k:List Int):Int:=reduceHash (Builtin.Tuple.tupleHashOf (k.map hashInt))
noncomputable def hAt(ks:List (List Int))(i:Nat):Int:=(ks[i]?.map hT).getD 0
noncomputable def Ybm(P:List Nat)(j:Nat):List Nat:=((tbl P false).put j).1.place.toList
noncomputable def Ydn(P:List Nat)(j:Nat):Nat:=((tbl P false).put j).2
noncomputable def Yfl(ks:List (List Int))(p:Nat)(k:List Int):List (List Int):=ks.take p ++ k :: ks.drop p
noncomputable def Ygq(P:List Nat)(ks:List (List Int))(k:List Int):Option (List Nat×List (List Int)) :=
 match(tbl P false).probe (hAt ks) (hT k) ((tbl P false).probeStart (hT k))with
 | some (.empty j none)=>if(tbl (Ybm P j) false).tooFull=false∧(Ybm P j).length=ks.length+1∧ks.length≤6∧Ydn P j≤ks.length then some (Ybm P j,Yfl ks (Ydn P j) k)else none
 | some (.candidate _ i _)=>if ks[i]? =some k then some (P,ks)else none
 | _=>none
noncomputable def grow(K:List (List Int)):Nat->List (List Nat×List (List Int))->List (List Nat×List (List Int))
 | 0,S=>S
 | n+1,S=>grow K n (S ++ (S.flatMap λs=>K.filterMap λk=>Ygq s.1 s.2 k).filter λs=>!S.contains s)
noncomputable def K2:List (List Int):=[[0,0],[0,1],[1,0],[1,1]]
noncomputable def S2:List (List Nat×List (List Int)):=(grow K2 4 [([],[])]).eraseDups
section
variable {prog:XS}{w:Qq}{A:Qs}{E:Xe->Xg->Prop}{s:Xg}
inductive KeysIn(U:Addr->List Int->Prop):List (List Int)->List (Int×Xe)->Prop
 | nil:KeysIn U [] []
 | cons {k:List Int} {a:Addr} {ks:List (List Int)} {l:List (Int×Xe)} (h:U a k) (t:KeysIn U ks l):KeysIn U (k :: ks) ((hT k,.ref a) :: l)
theorem KeysIn.hash{U:Addr->List Int->Prop}{ks:List (List Int)}{l:List (Int×Xe)}(h:KeysIn U ks l):l.map (·.1)=ks.map hT:=by
 induction h with
 | nil=>rfl
 | cons _ _ ih=>rw[X3,X3,ih]
noncomputable abbrev IK(prog:XS)(w:Qq)(h:Heap)(k:List Int)(a:Addr):Prop:=IsTupleKey (Vu prog w) h k a
theorem items_int{ks:List Int}{vs:List Xe}(h:ItemsAre (Vu prog w) ks vs):∀v∈vs,∃i t,v= .int i t:=by
 induction h with
 | nil=>exact λ_ m=>nomatch m
 | cons h _ ih=>
  intro v hv
  rcases Xp.mp hv with rfl|hv
  ·obtain⟨t,e⟩:=Value.isInt_shape h
   exact⟨_,t,e⟩
  ·exact ih v hv
theorem KeysIn.at{U:Addr->List Int->Prop}{ks:List (List Int)}{es:Array (Int×Xe)}(h:KeysIn U ks es.toList)(i:Nat):(es[i]?.map (·.1)).getD 0=hAt ks i:=by
 unfold hAt
 rw[←Xl,←h.hash,Xl,Qt]
end
section
variable {prog:XS}{w:Qq}{A:Qs}{R:Result->Xg->Prop}{I:Addr}{fp wr:List Addr}{n:Nat}{Pv:Nat->Xe->Prop}{St:Nat->Heap->Prop}
end
inductive Yau(H:Hp):List V->List (List Int)->Prop
 | nil:Yau H [] []
 | cons {a:Addr} {k:List Int} {xs:List V} {ks:List (List Int)} (h:H a=some (.tup (k.map V.int))) (t:Yau H xs ks):Yau H (.ref a :: xs) (k :: ks)
section
variable {X:Cx}{p c:Bool}{io:List Nat}{a e:Expr}{pos pos' pl pr:Pos}{t:TA}{mr:MAt}{ra:FA}
end
section
variable {X:Cx}{G:Xc}
noncomputable def Z0n(d:Xa)(ds:List Xa):Bool:=ds.any λy=>Q5 y d
noncomputable def Yde(neg:Bool)(K:Xc):R2:=λx y H Q=>∃(L L':Addr->Prop) (d e:Xa) (ds:List Xa),Da K H L x d∧Da K H L' y e∧Zhw e=some ds∧d.canLay0=true∧e.canLay0=true∧d.depth≤32∧Q (.bl (if neg then !Z0n d ds else Z0n d ds)) H
theorem Z3n{A:Qs}{d:Xa}{ds:List Xa}(hd:d.depth≤32)(hu:A.units+64<V8):A.units+1+min (UG ds) d.depth<V8:=by
 have:=Nat.min_le_right (UG ds) d.depth
 omega
theorem Zj1(hu:X.A.units+64<V8):OpR X (Qx .NotIn) (Yde true X.K):=by
 intro pins s σ H x y v u Q I rx ry h
 obtain⟨L,L',d,e,ds,h1,h2,h3,s1,s2,hd,q⟩:=h
 obtain⟨as,k1⟩:=h1.reads rfl I rx s1
 obtain⟨bs,k2⟩:=h2.reads rfl I ry s2
 cases e<;>cases h3
 ·exact SeqAt.notIn_list_reads k2 k1 s2 s1 (Z3n hd hu) ⟨.bl _,H,I,rfl,q⟩
 ·exact SeqAt.notIn_tuple_reads k2 k1 s2 s1 (Z3n hd hu) ⟨.bl _,H,I,rfl,q⟩
noncomputable def Zku(neg:Bool):Xa->Xa->Option Xa:=λd e=>match Zhw e with
 | some ds=>if(d.canLay0&&(e.canLay0&&decide (d.depth≤32)))=true then some (.bool (if neg then !Z0n d ds else Z0n d ds))else none
 | none=>none
noncomputable def Yef(neg:Bool):Xa->Xa->(Xa->Prop)->Prop:=λd e k=>∃r,Zku neg d e=some r∧k r
theorem Zx0{neg:Bool}:P2s G (Yde neg G) (Yef neg):=λH L x y d e k Q hx hy h kk=>by
 obtain⟨r,h,hk⟩:=h
 unfold Zku at h
 split at h
 case h_2=>cases h
 rename_i ds q
 split at h
 case isFalse=>cases h
 rename_i q2
 rw[XJ,XJ,decide_eq_true_eq]at q2
 cases h
 exact⟨L,L,d,e,ds,hx,hy,q,q2.1,q2.2.1,q2.2.2,kk _ _ (.bl _) hk⟩
theorem Zxd{neg:Bool}:ByS (Zku neg) (Yef neg):=λd e r k h hk=>⟨r,h,hk⟩
end
noncomputable abbrev Yfo(h:Heap)(T:Addr)(a b c:Xe):Prop:=h.get? T=some { cls:=.type "tuple",data:=.seq #[a,b,c] }
structure Z3A(z TI TO i1 i2 i3:Addr)(f1 f2 f3:List Addr):Prop where
 TIz:TI≠z
 TOz:TO≠z
 a1:∀c∈f1,c≠z∧c≠TO∧c≠i2∧c≠i3
 a2:∀c∈f2,c≠z∧c≠TO∧c≠i1∧c≠i3
 a3:∀c∈f3,c≠z∧c≠TO∧c≠i1∧c≠i2
section
variable {P:XS}{w:Qq}{A:Qs}{E:Xe->Xg->Prop}{s:Xg}
end
noncomputable abbrev z3A(h:Heap)(a:Addr):Heap:=h.push { cls:=.type "list_iterator",data:=.fields #[.ref a,.int 0 0] }
noncomputable abbrev z3B(h:Heap)(a b:Addr):Heap:=z3A (z3A h a) b
noncomputable abbrev z3C(h:Heap)(a b c:Addr):Heap:=z3A (z3B h a b) c
noncomputable abbrev z3D(h:Heap)(a b c:Addr):Heap:=(z3C h a b c).push { cls:=.type "tuple",data:=.seq #[.ref h.objs.size,.ref (z3A h a).objs.size,.ref (z3B h a b).objs.size] }
noncomputable abbrev z3E(h:Heap)(a b c:Addr):Heap:=(z3D h a b c).push { cls:=.type "tuple",data:=.seq #[.none,.none,.none] }
noncomputable abbrev z3F(h:Heap)(a b c:Addr):Heap:=(z3E h a b c).push { cls:=.type "zip",data:=.fields #[.none,.bool false,.bool false,.ref (z3C h a b c).objs.size,.ref (z3D h a b c).objs.size] }
section
variable {P:XS}{w:Qq}{A:Qs}{E:Xe->Xg->Prop}{s:Xg}
end
section
variable {X:Cx}{io:List Nat}{p c:Bool}{a b e:Expr}{mr:MAt}{ra:FA}
end
variable {G:Xc}
section
variable {X:Cx}{io:List Nat}{p c:Bool}{e:Expr}{m:MEt}{pos apos cpos px:Pos}{i:Nat}{x:Str}{st:Stmt}{fa:FE}
noncomputable def Zif(i:Nat)(m:MEt):MSt:=λD δ=>match δ[i]? with
 | some (some (.nd _))=>m δ λr δ1=>match r,δ1[i]? with
  | .nd rs,some (some (.nd ts))=>ts.length+rs.length≤Xq∧D.nx (δ1.set i (some (.nd (ts ++ (OT.datas rs).map OT.fz))))
  | _,_=>False
 | _=>False
theorem Owns.app{H:Hp}{L:Addr->Prop}{ds:List Xa}:∀{zs xs:List V} {ts:List OT} {bs:List Addr},Owns G H L xs ts bs->Das G H L zs ds->Owns G H L (xs ++ zs) (ts ++ ds.map OT.fz) bs:=by
 induction ds with
 | nil=>
  intro zs xs ts bs h g
  cases g
  rw[Qk,List.map_nil,Qk];exact h
 | cons d ds ih=>
  intro zs xs ts bs h g
  cases g with
  | cons q g=>
   have:=ih (h.snoc (.fz q)) g
   rw[Qk,QB,QB]at this
   exact this
theorem Zk6(i:Nat)(he:ME X io p true e m)(hN:X.N[i]? =some x:=by rfl)(hv:Vis X.env.scope x:=by first|exact Qw rfl|exact Qo (Qw rfl)|exact Qo (Qo rfl))(hd:(x==("__debug__" : Str))=false:=by decide)
  (hcd:(x==("__classdict__" : Str))=false:=by decide)
  (hbase:Bc (.Name x px) "extend" X.env (eval (.Name x px) X.env)=eval (.Name x px) X.env:=by rfl)
  (hfew:((JD cpos (Xu [e] X.env)).all (λx=>!x.1)&&(backToKw cpos (V3 [] X.env)).all (λx=>x.1.isSome)
   &&decide ([e].length+([]:List Vn).length+(if([]:List Vn).isEmpty then 0 else 1)<30))=true:=by rfl)
  (hline:(apos.endLine==cpos.line)=true:=by rfl) (hs:Xu [e] X.env=(false,eval e X.env) :: Xu [] X.env:=by rfl) (hplain:(JD cpos (Xu [] X.env)).any (·.1)=false:=by rfl)
  (hsw:Br (.Call (.Attribute (.Name x px) "extend" apos) [e] [] cpos) none pos.line X.env=pure false:=by rfl) :
  MS X io (.Expr (.Call (.Attribute (.Name x px) "extend" apos) [e] [] cpos) pos) (Zif i m):=by
 obtain⟨_,A,s⟩:=he
 refine⟨_,Zcy (Znz JR PySem.F.slot_list_extend PySem.F.type_list_extend Zrt (pv i hN hv hd hcd) (Zbq A Zf2 hs) hbase hfew hline hs hplain) hsw,λC H σ δ fp ex D D' R h E=>?_⟩
 unfold Zif at h
 split at h
 case h_2=>exact h.elim
 rename_i ts0 hi0
 obtain⟨a',xs0,bs0,hv0,hx0,_,_⟩:=R.ownNd hi0
 refine⟨_,hv0,.inl ⟨rfl,xs0,.inl (.inl hx0)⟩,?_⟩
 refine s C H σ δ fp ex _ _ R h λH1 v r δ1 fp1 new r1 h1=>?_
 split at h1
 case h_2=>exact h1.elim
 rename_i rs ts1 hi1
 have R1:=r1.base
 obtain⟨a1,xs1,bs1,hv1,hx1,o1,hf1⟩:=R1.ownNd hi1
 rw[hv0]at hv1
 cases hv1
 obtain⟨b,zs,rfl,hb,lz,qs⟩:∃b zs,v= .ref b∧H1 b=some (.lst zs)∧zs.length=rs.length∧Das X.K H1 (Lf C fp1 ex) zs (OT.datas rs):=by
  have ow:=r1.own
  have nw:∀a∈new,Lf C fp1 ex a:=λa m=>by
   refine⟨λqz=>?_,(R.newOk (r1.fresh a m)).2.1,.inr (R.newOk (r1.fresh a m)).2.2⟩
   obtain⟨i,z⟩:=qz
   exact r1.rel.dx i a z (.inr m)
  cases ow with
  | nd hb r=>exact⟨_,_,rfl,hb,r.length,r.das (λa l _=>⟨(l rfl).1,λz=>(l rfl).2.1 (.inl z),(l rfl).2.2⟩) λa m=>nw a (.tail _ m)⟩
 refine⟨a',b,xs1,zs,rfl,rfl,hx1,hb,by rw[o1.length,lz];exact h1.1,?_⟩
 obtain⟨R2,S2⟩:=R1.top hi1 hv0 hf1 hx1 (o1.app qs) (List.Sublist.refl _)
 exact E.nx _ σ _ _ R2 (r1.stp.kp.trans S2.kp) h1.2
noncomputable def Zd8(i:Nat)(e:FE):FS:=λδ=>match δ[i]? with
 | some (some (.nd _))=>wE e (λr δ1=>match r,δ1[i]? with
  | .nd rs,some (some (.nd ts))=>if ts.length+rs.length≤Xq then .nx (δ1.set i (some (.nd (ts ++ (OT.datas rs).map OT.fz))))else .bad
  | _,_=>.bad) δ
 | _=>.bad
theorem Zk9(h:MS X io st (Zif i (o2 fa))):MS X io st (oS (Zd8 i fa)):=h.weak λD δ h=>by
 unfold oS Zd8 at h;unfold Zif
 split at h
 case h_2=>exact h.elim
 rename_i q;(try rw[q])
 refine(Zmo h).imp λr δ' z=>?_
 split at z
 ·rename_i q2;(try rw[q2]);exact Zda z
 ·exact z.elim
end
noncomputable def Up(xs:List Nat):Prop:=xs.Pairwise (·<·)
theorem Zu7{xs:List Nat}(h:Up xs){i j:Nat}{a b:Nat}(ha:xs[i]? =some a)(hb:xs[j]? =some b)(l:i<j):a<b:=by
 obtain⟨hi,rfl⟩:=Xn.mp ha
 obtain⟨hj,rfl⟩:=Xn.mp hb
 exact VN.mp h i j hi hj l
theorem getD_at{xs:Array Nat}{i d:Nat}(h:i<xs.size):xs.toList[i]? =some (xs.getD i d):=by
 rw[Qt,VJ h,Array.getD,dif_pos h];rfl
theorem Zud{xs:Array Nat}{j:Nat}(up:Up xs.toList):∀(fuel lo hi:Nat),hi-lo≤fuel->lo≤hi->hi≤xs.size->(∀i a,i<lo->xs.toList[i]? =some a->a<j)->(∀i a,hi≤i->xs.toList[i]? =some a->j≤a) ->
  ∃p,SetTable.below.go xs j fuel lo hi=p∧p≤xs.size∧(∀i a,i<p->xs.toList[i]? =some a->a<j)∧∀i a,p≤i->xs.toList[i]? =some a->j≤a:=by
 intro fuel
 induction fuel with
 | zero=>
  intro lo hi f l z h1 h2
  have e:lo=hi:=by omega
  exact⟨lo,rfl,by omega,h1,λi a q=>h2 i a (by omega)⟩
 | succ fuel ih=>
  intro lo hi f l z h1 h2
  rw[SetTable.below.go]
  by_cases c:lo<hi
  ·rw[if_pos c]
   have hm:(lo+hi)/2<xs.size:=by omega
   have em:=getD_at (xs:=xs) (d:=j) hm
   by_cases q:xs.getD ((lo+hi)/2) j<j
   ·simp only[if_pos q]
    refine ih _ _ (by omega) (by omega) z (λi a li ea=>?_) h2
    by_cases e:i=(lo+hi)/2
    ·subst e
     rw[em]at ea
     cases ea
     exact q
    ·exact Vg (Zu7 up ea em (by omega)) q
   ·simp only[if_neg q]
    refine ih _ _ (by omega) (by omega) (by omega) h1 λi a li ea=>?_
    by_cases e:i=(lo+hi)/2
    ·subst e
     rw[em]at ea
     cases ea
     omega
    ·have:=Zu7 up em ea (by omega)
     omega
  ·rw[if_neg c]
   have e:lo=hi:=by omega
   exact⟨lo,rfl,by omega,h1,λi a q=>h2 i a (by omega)⟩
theorem Ziy{xs:Array Nat}(up:Up xs.toList)(j:Nat):QV xs j≤xs.size∧(∀i a,i<QV xs j->xs.toList[i]? =some a->a<j)∧∀i a,QV xs j≤i->xs.toList[i]? =some a->j≤a:=by
 obtain⟨p,e,h⟩:=Zud (j:=j) up xs.size 0 xs.size (by omega) (Qy _) (Xz _) (λi a q=>absurd q (Vr _)) λi a q ea=>by
  have:=(Xn.mp ea).1
  rw[X5]at this
  omega
 unfold QV
 rw[e];exact h
theorem Zoj{xs:Array Nat}(up:Up xs.toList){i a:Nat}(h:xs.toList[i]? =some a):QV xs (a+1)=i+1:=by
 obtain⟨b0,b1,b2⟩:=Ziy up (a+1)
 have hi:=(Xn.mp h).1
 rw[X5]at hi
 rcases Nat.lt_trichotomy (QV xs (a+1)) (i+1)with c|c|c
 ·have:=b2 i a (by omega) h
  omega
 ·exact c
 ·have hs:i+1<xs.toList.length:=by rw[X5];omega
  have e1:=Xk hs
  have:=b1 (i+1) _ c e1
  have:=Zu7 up h e1 (QC _)
  omega
theorem Zn0{xs:Array Nat}(up:Up xs.toList):QV xs 0=0:=by
 obtain⟨b0,b1,_⟩:=Ziy up 0
 cases e:QV xs 0 with
 | zero=>rfl
 | succ k=>
  rw[e]at b0 b1
  have hs:0<xs.toList.length:=by rw[X5];omega
  exact absurd (b1 0 _ (Nat.zero_lt_succ _) (Xk hs)) (Vr _)
theorem Z4o{xs:List Nat}(up:Up xs){p j:Nat}(h1:∀i a,i<p->xs[i]? =some a->a<j)(h2:∀i a,p≤i->xs[i]? =some a->j<a):Up (xs.take p ++ j :: xs.drop p):=by
 refine List.pairwise_append.mpr ⟨up.sublist (List.take_sublist ..),V9.mpr ⟨λa ha=>?_,up.sublist (List.drop_sublist ..)⟩,λa ha b hb=>?_⟩
 ·obtain⟨i,hi⟩:=UL ha
  rw[List.getElem?_drop]at hi
  exact h2 _ a (BV _ _) hi
 ·obtain⟨i,hi⟩:=UL ha
  have ip:i<p:=by
   have:=(Xn.mp hi).1
   rw[Vo]at this
   omega
  rw[List.getElem?_take_of_lt ip]at hi
  have aj:=h1 i a ip hi
  rcases Xp.mp hb with rfl|hb
  ·exact aj
  ·obtain⟨k,hk⟩:=UL hb
   rw[List.getElem?_drop]at hk
   exact Vg aj (h2 _ b (BV _ _) hk)
noncomputable def Zeo(t:Q4)(j:Nat):Prop:=t.place[QV t.place j]? ≠some j
structure Tb(b:Bool)(t:Q4):Prop where
 led:t.led=b
 up:t.plain=true->Up t.place.toList
theorem Zml{t:Q4}{j:Nat}(h:t.slot j= .empty∨t.slot j= .dummy):Zeo t j:=λz=>by
 have:t.slot j= .live (QV t.place j):=by
  unfold Q4.slot
  rw[if_pos (beq_iff_eq.mpr z)]
 rcases h with h|h<;>rw[this]at h<;>cases h
theorem Ztr{t:Q4}{f:Nat->Int}{h:Int}:∀(fuel:Nat) (p:SetTable.Probe),(∀d,p.dummy=some d->Zeo t d)->∀j dm,SetTable.probe.go t f h fuel p=some (.empty j dm)->Zeo t j∧∀d,dm=some d->Zeo t d:=by
 intro fuel
 induction fuel with
 | zero=>intro p _ j dm e;cases e
 | succ fuel ih=>
  have adv:∀q:SetTable.Probe,(t.advance q).dummy=q.dummy:=λq=>by
   unfold Q4.advance
   split<;>rfl
  intro p hp j dm e
  rw[SetTable.probe.go]at e
  split at e
  ·rename_i c
   cases e
   exact⟨Zml (.inl c),hp⟩
  ·rename_i c
   refine ih _ (λd hd=>?_) j dm e
   rw[adv]at hd
   cases hd
   exact Zml (.inr c)
  ·split at e
   ·cases e
   ·exact ih _ (λd hd=>hp d (by rw[adv]at hd;exact hd)) j dm e
theorem Zv6{t:Q4}{h:Int}{j:Nat}{d:Bool}(e:t.freeSlot h=some (j,d)):Zeo t j:=by
 unfold Q4.freeSlot at e
 split at e
 ·rename_i j' dm q
  cases e
  obtain⟨h1,h2⟩:=Ztr _ _ (λd hd=>by cases hd) _ _ q
  cases dm with
  | none=>exact h1
  | some d=>exact h2 d rfl
 ·cases e
theorem Z77{t:Q4}{j:Nat}(up:Up t.place.toList)(n:Zeo t j):Up (t.put j).1.place.toList:=by
 show Up (Q4.insertAt t.place (QV t.place j) j).toList
 obtain⟨b0,b1,b2⟩:=Ziy up j
 rw[SetTable.toList_insertAt]
 refine Z4o up b1 λi a l ea=>?_
 have ja:=b2 i a l ea
 rcases VM j a with c|c
 ·exact c
 ·have e:a=j:=by omega
  subst e
  exfalso
  rcases VM (QV t.place a) i with c2|c2
  ·have hs:QV t.place a<t.place.toList.length:=Vg c2 (Xn.mp ea).1
   have e1:=Xk hs
   have:=Zu7 up e1 ea c2
   have:=b2 _ _ (Xz _) e1
   omega
  ·have e:i=QV t.place a:=by omega
   subst e
   exact n (by rw[←Qt];exact ea)
theorem Tb.stand{b:Bool}{t:Q4}(h:Tb b t)(n:Nat):Tb b (t.standIn n):=⟨h.led,λz=>nomatch z⟩
theorem Tb.lay{b:Bool}{t:Q4}(h:Tb b t)(es:Array (Int×Xe))(k:Int)(x:Xe):Tb b (layNew t es k x).2.1:=by
 unfold layNew
 split
 ·rename_i j d e
  dsimp only
  unfold Q4.orStandIn
  split
  ·exact⟨h.led,λz=>Z77 (h.up z) (Zv6 e)⟩
  ·exact⟨h.led,λz=>nomatch z⟩
 ·exact h.stand _
theorem Z1d(f:Nat->Option Nat)(n:Nat):Up (((Xi n).filterMap λj=>(f j).map (j,·)).map (·.1)):=by
 have e:∀l:List Nat,((l.filterMap λj=>(f j).map (j,·)).map (·.1)).Sublist l:=λl=>by
  induction l with
  | nil=>exact .slnil
  | cons a l ih=>
   rw[QQ]
   cases f a with
   | none=>exact ih.cons a
   | some v=>exact ih.cons_cons a
 exact List.Pairwise.sublist (e _) List.pairwise_lt_range
theorem Tb.relay{b:Bool}{t:Q4}(h:Tb b t)(es:Array (Int×Xe))(n:Nat):Tb b (relayAll t es n).2.1:=by
 unfold relayAll
 split
 ·rename_i t' order e
  dsimp only
  split
  ·unfold Q4.relaid Q4.laid at e
   obtain⟨ow,_,e⟩:=Option.bind_eq_some_iff.mp e
   cases e
   exact⟨h.led,λ_=>Z1d _ _⟩
  ·exact h.stand _
 ·exact h.stand _
noncomputable def vI:Xe->Int
 | .int k _=>k
 | _=>0
noncomputable def SetI(prog:XS)(w:Qq)(b:Bool)(h:Heap)(S:Addr)(ks:List Int):Prop :=
 ∃o es ep t,h.get? S=some o∧o.ExactSet∧o.data= .set es ep t∧ElemsOf (Vu prog w) es.toList∧es.size<Ul∧t.fits es.size=true∧Tb b t∧es.toList.map (λe=>vI e.2)=ks
section
variable {prog:XS}{w:Qq}{A:Qs}{E:Xe->Xg->Prop}{s:Xg}{b:Bool}
theorem Zpm{k:Int}{v:Xe}(h:(Vu prog w).is k v=true):∃t,v= .int k t:=by
 cases v<;>simp_all [Vu,Value.isInt]
theorem SetI.stay{h h':Heap}{S:Addr}{ks:List Int}(hS:SetI prog w b h S ks)(k:∀o,h.get? S=some o->h'.get? S=some o):SetI prog w b h' S ks:=by
 obtain⟨o,es,ep,t,ho,r⟩:=hS
 exact⟨o,es,ep,t,k o ho,r⟩
theorem SetI.put{h:Heap}{S:Addr}{o:Obj}{es es':Array (Int×Xe)}{ep:Nat}{t t':Q4}(ho:h.get? S=some o)(hex:o.ExactSet)(hd:o.data= .set es ep t)(he:ElemsOf (Vu prog w) es'.toList)(hb:es'.size<Ul)(hf:t'.fits es'.size=true)(ht:Tb b t') :
  (h.update S (Obj.putSet es' t')).get? S=some { o with data:=.set es' (ep+1) t' }∧SetI prog w b (h.update S (Obj.putSet es' t')) S (es'.toList.map λe=>vI e.2):=by
 have g:=Heap.get?_update_self (Obj.putSet es' t') ho (by rw[putSet_of es' t' hd];rfl)
 rw[putSet_of es' t' hd]at g
 exact⟨g,_,es',ep+1,t',g,hex,rfl,he,hb,hf,ht,rfl⟩
theorem Zwx{g:Bool->Sem Unit}(hg:∀(c:Bool) (s₁:Xg) (Q':Unit->Xg->Prop),Q' () s₁->XD (XR prog w) A (g c) Q' E s₁){S:Addr}{o:Obj}{es es1:Array (Int×Xe)}{ep:Nat}{t t1:Q4}{wasDummy:Bool}{R:Option Bool->Xg->Prop}
  (ho:s.heap.get? S=some o) (hex:o.ExactSet) (hd:o.data= .set es ep t) (he:ElemsOf (Vu prog w) es1.toList) (hb:es1.size<Ul) (hf:t1.fits es1.size=true) (ht:Tb b t1)
  (q:∀h' ks',JM S s.heap h'->SetI prog w b h' S ks'->ks'.Perm (es1.toList.map λe=>vI e.2)->R (some true) { s with heap:=h' }) :
  XD (XR prog w) A (do
    storeSet S es1 t1
    if(!wasDummy&&t1.tooFull)=true then do
      g (relayAll t1 es1 (Vs es1.size)).2.2
      storeSet S (relayAll t1 es1 (Vs es1.size)).1 (relayAll t1 es1 (Vs es1.size)).2.1
      pure (some true)
     else pure (some true)) R E s:=by
 refine Xb (wpAny_storeSet_of ho hd ?_ (fits_of_scanBound hb))
 obtain⟨g1,S1⟩:=SetI.put (b:=b) ho hex hd he hb hf ht
 split
 ·have pm:=relayAll_perm t1 es1 (Vs es1.size)
  have ff:=relayAll_fits t1 es1 (Vs es1.size)
  have tt:=ht.relay es1 (Vs es1.size)
  generalize relayAll t1 es1 (Vs es1.size)=Rl at pm ff tt⊢
  obtain⟨es2,t3,gv⟩:=Rl
  have sz:es2.size=es1.size:=by rw[←X5,pm.length_eq,X5]
  have b2:es2.size<Ul:=by rw[sz];exact hb
  refine Xb (hg _ _ _ (Xb (wpAny_storeSet_of g1 rfl ?_ (fits_of_scanBound b2))))
  obtain⟨_,S2⟩:=SetI.put (b:=b) g1 hex rfl (he.perm pm) b2 ff tt
  exact Xm (q _ _ ((JK s.heap S _).trans (JK _ S _)) S2 (pm.map _))
 ·exact Xm (q _ _ (JK s.heap S _) S1 (.refl _))
theorem Ybw{S:Addr}{ks:List Int}{k:Int}{u:Tok}{Q:Bool->Xg->Prop}(hS:SetI prog w b s.heap S ks)(hr:ks.length+1<Ul)
  (q:∀v h' tk ks',JM S s.heap h'->SetI prog w b h' S ks'->(k∈ks->ks'=ks)->(k∉ks->ks'.Perm (ks ++ [k]))->Q v { s with heap:=h',toks:=tk }):XD (XR prog w) A (setAdd S (.int k u)) Q E s:=by
 have hS0:=hS
 obtain⟨o,es,ep,t,ho,hex,hd,he,hb,hf,ht,rfl⟩:=hS
 unfold setAdd
 refine VD (Xb ((Vu prog w).pyHash (k:=k) (intKind_is _ _ _ _) ?_))
 show XD _ _ (setAddHashed S (.int k u) ((Vu prog w).hash k)) Q E { s with toks:=s.toks+1 }
 unfold setAddHashed setAddHashedIn
 refine VD (Xb (Uu (s:={ s with toks:=s.toks+1 }) ho hd hf ?_))
 dsimp only
 rw[byScan_of (x:=.int k u) rfl hb he,if_pos rfl]
 unfold setAddByScan
 refine Xb (Xb (Ui (Xb (wpAny_setScan_of (s:={ s with toks:=s.toks+1 }) (intKind_is prog w k u) ho hd hf he ?_))))
 cases hx:List.findIdx? (λe=>(Vu prog w).is k e.2) es.toList with
 | some j=>
  dsimp only
  obtain⟨hj,pj,_⟩:=List.findIdx?_eq_some_iff_getElem.mp hx
  obtain⟨tj,ej⟩:=Zpm pj
  have hk:k∈es.toList.map λe=>vI e.2:=XX.mpr ⟨_,VG hj,by rw[ej];rfl⟩
  exact Xm (Xm (q _ s.heap _ _ (JM.refl ..) hS0 (λ_=>rfl) λz=>absurd hk z))
 | none=>
  dsimp only
  have hk:k∉es.toList.map λe=>vI e.2:=λz=>by
   obtain⟨e,m,ev⟩:=XX.mp z
   obtain⟨⟨k',i1,_⟩,_⟩:=he e m
   obtain⟨t',e2⟩:=Zpm i1
   have:=List.findIdx?_eq_none_iff.mp hx e m
   rw[e2]at this ev
   cases ev
   have z2:(Vu prog w).is k' (.int k' t')=false:=this
   rw[intKind_is]at z2
   cases z2
  have gw:∀(c:Bool) {s₁:Xg} {Q':Unit->Xg->Prop},Q' () s₁->XD (XR prog w) A (match c with|true=>rule "set.scan.the-table-gave-way"|false=>pure ()) Q' E s₁:=λc s₁ Q' z=>by
   cases c<;>first|exact Xm z|exact Ui z
  have pm:=layNew_perm t es ((Vu prog w).hash k) (.int k u)
  have ff:=layNew_fits t es ((Vu prog w).hash k) (.int k u)
  have tt:=ht.lay es ((Vu prog w).hash k) (.int k u)
  generalize layNew t es ((Vu prog w).hash k) (.int k u)=Ln at pm ff tt⊢
  obtain⟨es1,t1,wd,gv⟩:=Ln
  dsimp only at pm ff tt⊢
  rw[Array.toList_push]at pm
  have he1:ElemsOf (Vu prog w) es1.toList:=(he.push (intKind_is prog w k u) rfl).perm pm
  have hb1:es1.size<Ul:=by
   rw[←X5,pm.length_eq,XF]
   rw[Xd]at hr
   exact hr
  refine Xb (gw _ ?_)
  have fin:∀h' ks',JM S s.heap h'->SetI prog w b h' S ks'->ks'.Perm (es1.toList.map λe=>vI e.2)->XD (XR prog w) A (pure true) Q E { s with heap:=h',toks:=s.toks+1 }:=λh' ks' sb S' p'=>Xm (q _ h' _ ks' sb S' (λz=>absurd z hk) λ_=>p'.trans (by
   have:=pm.map (λe:Int×Xe=>vI e.2)
   rw[Qg]at this
   exact this))
  have hv:hashByValue 8 (.int k u)=pure true:=hashByValue_scannable 8 (x:=.int k u) rfl
  split
  ·refine Xb ?_
   rw[hv]
   refine Xm ?_
   simp only[if_true]
   exact Zwx (s:={ s with toks:=s.toks+1 }) (by intro c s₁ Q' z;cases c<;>first|exact Xm z|exact Ui z) ho hex hd he1 hb1 ff tt λh' ks' sb S' p'=>fin h' ks' sb S' p'
  ·refine Xb (Xm ?_)
   simp only[if_true]
   exact Zwx (s:={ s with toks:=s.toks+1 }) (by intro c s₁ Q' z;cases c<;>first|exact Xm z|exact Ui z) ho hex hd he1 hb1 ff tt λh' ks' sb S' p'=>fin h' ks' sb S' p'
end
noncomputable def byT(w:Qq):Bool:=w.params.followText "set-order"
noncomputable def Of(ks ns:List Int):Prop:=ks.Nodup∧∀x,x∈ks↔x∈ns
section
variable {prog:XS}{w:Qq}{A:Qs}{R:Result->Xg->Prop}{I:Addr}{fp wr:List Addr}{n:Nat}{Pv:Nat->Xe->Prop}{St:Nat->Heap->Prop}{b:Bool}
theorem Z55(W:Walks prog w A.in1 I fp wr n Pv St)(S:Addr)(sf:S∉fp)(ns:List Int)(ln:ns.length=n)(lb:n+1<Ul)(hv:∀i v,Pv i v->∃k t,v= .int k t∧ns[i]? =some k) :
  ∀(m i:Nat) (s:Xg) (ks:List Int),n-i=m->i≤n->St i s.heap->SetI prog w b s.heap S ks->Of ks (ns.take i)->ks.length≤i ->
  (∀ h' tk ks',SetI prog w b h' S ks'->Of ks' ns->(∀b o,b∉wr->b≠S->s.heap.get? b=some o->h'.get? b=some o)->R (.ok (.ret .none)) { s with heap:=h',toks:=tk }) ->
  U3 (XR prog w) A (.builtin "set.update.loop" ⟨[.ref S,.ref I],[]⟩) R s:=by
 have sw:S∉wr:=λh=>sf (W.sub _ h)
 intro m
 induction m with
 | zero=>
  intro i s ks em ei st hS hO lk r
  have en:i=n:=by omega
  refine BL F.entry_set_update_loop ?_;rw[Bq F.plain_set_update_loop _]
  show XD _ A.in1 (Ub (.ref I)>>=_) _ _ _
  refine Xb (W.done s _ _ (en▸st) λh' tk kp=>?_)
  show XD _ A.in1 (ret QX) _ _ { s with heap:=h',toks:=tk }
  rw[Ug (by omega)]at hO
  exact Xm (r h' tk ks (hS.stay λo e=>kp S o sw e) hO λb o nb _ e=>kp b o nb e)
 | succ m ih=>
  intro i s ks em ei st hS hO lk r
  have lt:i<n:=by omega
  refine BL F.entry_set_update_loop ?_;rw[Bq F.plain_set_update_loop _]
  show XD _ A.in1 (Ub (.ref I)>>=_) _ _ _
  refine Xb (W.item i s _ _ lt st λv h' tk pv st' kp=>?_)
  obtain⟨k,t,rfl,ek⟩:=hv i v pv
  show XD _ A.in1 (holding [Vm k t] (setAdd S (.int k t))>>=_) _ _ { s with heap:=h',toks:=tk }
  refine Xb (VD (Ybw (s:={ s with heap:=h',toks:=tk }) (hS.stay λo e=>kp S o sw e) (by omega) λv h2 tk2 ks2 sb hS2 c1 c2=>?_))
  have k2:∀b o,b≠S->h'.get? b=some o->h2.get? b=some o:=λb o nS e=>by rw[sb.2 b nS];exact e
  have et:ns.take (i+1)=ns.take i ++ [k]:=by rw[List.take_succ,ek];rfl
  have hO2:Of ks2 (ns.take (i+1))∧ks2.length≤i+1:=by
   by_cases c:k∈ks
   ·rw[c1 c]
    refine⟨⟨hO.1,λx=>?_⟩,Nat.le_succ_of_le lk⟩
    rw[et,X8,←hO.2,Xj]
    exact⟨.inl,λm=>m.elim id λe=>e▸c⟩
   ·have pm:=c2 c
    refine⟨⟨pm.nodup_iff.mpr (JF.mpr ⟨hO.1,X6.mpr ⟨(λz=>nomatch z),.nil⟩,λa ha y hy e=>c (by rw[←Xj.mp hy,←e];exact ha)⟩),λx=>?_⟩,by rw[pm.length_eq,XF];exact Ux lk⟩
    rw[pm.mem_iff,et,X8,X8,hO.2]
  refine Xm ⟨Uc F.plain_set_update_loop _,ih (i+1) _ ks2 (by omega) lt (W.frame _ _ _ st' λb bf o e=>k2 b o (λh:b=S=>sf (by rw[←h];exact bf)) e) hS2 hO2.1 hO2.2 λh3 tk3 ks3 hS3 hO3 kp3=>?_⟩
  exact r h3 tk3 ks3 hS3 hO3 λb o nb nS e=>kp3 b o nb nS (k2 b o nS (kp b o nb e))
end
section
variable {prog:XS}{w:Qq}{A:Qs}{E:Xe->Xg->Prop}{s:Xg}
theorem Z97(a:Xe){Q₁:Xe->Xg->Prop}(h:Q₁ (.ref s.heap.objs.size) { s with heap:=s.heap.push { cls:=.type "set",dict:=none,data:=.set #[] 0 (.fresh 0 0 (!byT w)) } }) :
  U3 (XR prog w) A (.call (.builtin "set.__new__") ⟨[.type "set",a],[]⟩) (wants Q₁ E) s:=by
 refine codeAny_of_tree ?_;show XD _ A.in1 (do checkBuiltinCall "set.__new__" ⟨[.type "set",a],[]⟩;again (.builtin "set.__new__" ⟨[.type "set",a],[]⟩)) _ _ s
 refine Xb (wpAny_of_eq (F.newCall_set_1 a) (Xm ⟨Uc F.plain_set_new _,BL F.entry_set_new ?_⟩));rw[Bq F.plain_set_new _]
 unfold Bu.«set.__new__» Builtin.Frozenset.newClass
 have hsub:=sub_set_self
 obtain⟨hp,g,d,tk,os⟩:=s
 dsimp only
 wp_walk
 refine wpAny_askSetting (Xm ?_);dsimp only;simp only[newObj]
 exact Xb (wpAny_alloc (Xm (Xm h)))
theorem Z5j{l:Addr}{its:Array Xe}{ns:List Int}{b:Bool}{Q:Xe->Xg->Prop}(hh:A.handled=none)(hl:s.heap.IsList l its)(ln:ns.length=its.size)(lb:its.size+1<Ul)(hv:∀(i:Nat) (v:Xe),its[i]? =some v->∃k t,v=Vm k t∧ns[i]? =some k)
  (q:∀h' tk ks,SetI prog w b h' s.heap.objs.size ks->Of ks ns->(∀b o,b<s.heap.objs.size->s.heap.get? b=some o->h'.get? b=some o)->Q .none { s with heap:=h',toks:=tk }) :
  XD (XR prog w) A (Bu.«set.__init__» ⟨[Qn s.heap.objs.size,Qn l],[]⟩) (λfin s'=>∃v,fin= .done (.ret v)∧Q v s') E { s with heap:=s.heap.push { cls:=.type "set",dict:=none,data:=.set #[] 0 (.fresh 0 0 b) } }:=by
 obtain⟨ol,hol,hcl,nl,hdl⟩:=id hl
 obtain⟨ocls,odict,odata,oslots⟩:=ol
 simp only at hcl hdl
 subst hcl hdl
 have ho':(s.heap.push { cls:=.type "set",dict:=none,data:=.set #[] 0 (.fresh 0 0 b) }).get? l=some { cls:=.type "list",dict:=odict,data:=.seq its nl,slots:=oslots }:=Xf _ hol
 have gS:(s.heap.push { cls:=.type "set",dict:=none,data:=.set #[] 0 (.fresh 0 0 b) }).get? s.heap.objs.size=some { cls:=.type "set",dict:=none,data:=.set #[] 0 (.fresh 0 0 b) }:=XC _ rfl
 have hT:Shared.TypeIs { s with heap:=s.heap.push { cls:=.type "set",dict:=none,data:=.set #[] 0 (.fresh 0 0 b) } } (.ref s.heap.objs.size) "set" :=⟨_,gS,rfl⟩
 have h1:=F.sub_list_set
 have h2:=F.sub_list_frozenset
 have h3:(Value.type "list"==Value.type "dict")=false:=by decide
 have hl1:(s.heap.push { cls:=.type "set",dict:=none,data:=.set #[] 0 (.fresh 0 0 b) }).IsList l its:=⟨_,ho',rfl,nl,rfl⟩
 unfold Bu.«set.__init__» noKeywords Builtin.Frozenset.updateFrom
 generalize hPI:pyIter=PI
 wp_walk
 subst hPI
 refine wpAny_pyIter_list hl1 (Xb (wpAny_runValue ?_))
 have lS:l<s.heap.objs.size:=XH hol
 refine Z55 (b:=b) (Walks.list (by simpa using hh) _ l ?hne its) s.heap.objs.size ?sf ns ln lb (λi v hiv=>hv i v hiv) its.size 0 _ [] (by omega) (Qy _) ⟨⟨_,XC _ rfl,rfl,rfl⟩,hl1.push _⟩ ⟨_,#[],0,_,Xf _ gS,⟨rfl,rfl,rfl⟩,rfl,(λe m=>nomatch m),(by decide),rfl,⟨rfl,λ_=>.nil⟩,rfl⟩ ⟨.nil,λx=>by rw[List.take_zero]⟩ (Xz _) ?hR
 case hne=>rw[QF];exact Xo (Bb lS)
 case sf=>
  rw[QF]
  intro m
  rcases Xp.mp m with e|m
  ·exact Xo (QC _) e
  ·exact XM lS (Xj.mp m)
 case hR=>
  intro h' tk ks hS hO kp
  refine Xm ?_;show XD _ _ (ret QX) _ _ { s with heap:=h',toks:=tk }
  refine Xm ⟨_,rfl,q h' tk ks hS hO λb o lb e=>?_⟩
  refine kp b o (λm=>?_) (Xo lb) (Xf _ (Xf _ e))
  rw[QF]at m
  exact Xo (Bb lb) (Xj.mp m)
theorem Zqx{l:Addr}{its:Array Xe}{ns:List Int}{Q:Xe->Xg->Prop}(hh:A.handled=none)(hl:s.heap.IsList l its)(ln:ns.length=its.size)(lb:its.size+1<Ul)(hv:∀(i:Nat) (v:Xe),its[i]? =some v->∃k t,v=Vm k t∧ns[i]? =some k)
  (q:∀h' tk ks,SetI prog w (!byT w) h' s.heap.objs.size ks->Of ks ns->(∀b o,b<s.heap.objs.size->s.heap.get? b=some o->h'.get? b=some o)->Q (Qn s.heap.objs.size) { s with heap:=h',toks:=tk }) :
  XD (XR prog w) A (call (.type "set") [Qn l]) Q E s:=by
 obtain⟨c,tl,e0⟩:=V4.mro
 have e1:=V4.made
 have e2:=V4.sub
 refine wpAny_call (codeAny_of_tree ?_);show XD _ _ (callAny (.type "set") _) _ _ _
 refine Xm ⟨Code.quiet_builtin _ (by decide +kernel),BL F.entry_type_call ?_⟩;rw[Qs.under_plain (weight_type_call_type "set" [Qn l] []) rfl]
 have e3:=V4.notType
 have e4:=V4.canCreate
 have e5:=F.typeCall_set_1 (Qn l)
 repeat any_goals first|assumption|wp_step
 refine codeAny_mono (Z97 (Qn l) (E:=E) (Q₁:=λobj s1=>obj=Qn s.heap.objs.size∧s1={ s with heap:=s.heap.push { cls:=.type "set",dict:=none,data:=.set #[] 0 (.fresh 0 0 (!byT w)) } }) ⟨rfl,rfl⟩) λr s1 r1=>?_
 cases r with
 | error e=>exact r1
 | ok fl=>
  cases fl with
  | ret obj=>
   obtain⟨rfl,rfl⟩:=r1
   have gS:(s.heap.push { cls:=.type "set",dict:=none,data:=.set #[] 0 (.fresh 0 0 (!byT w)) }).get? s.heap.objs.size=some { cls:=.type "set",dict:=none,data:=.set #[] 0 (.fresh 0 0 (!byT w)) }:=XC _ rfl
   have hT:Shared.TypeIs { s with heap:=s.heap.push { cls:=.type "set",dict:=none,data:=.set #[] 0 (.fresh 0 0 (!byT w)) } } (Qn s.heap.objs.size) "set" :=⟨_,gS,rfl⟩
   have e6:=V4.init.lookup
   have e7:=V4.init.bind (Qn s.heap.objs.size)
   repeat any_goals first|assumption|wp_step
   refine codeAny_mono (codeAny_call_builtin (R:=wants (λr s2=>r= .none∧∃h' tk ks,s2={ s with heap:=h',toks:=tk }∧SetI prog w (!byT w) h' s.heap.objs.size ks∧Of ks ns∧∀b o,b<s.heap.objs.size->s.heap.get? b=some o->h'.get? b=some o) E) V4.init.plain F.entry_set_init (check_set_init_1 hT ?_)) λr2 s2 hr2=>?_
   ·refine Be (Z5j (b:=!byT w) (by simpa using hh) hl ln lb hv (Q:=λr s2=>r= .none∧∃h' tk ks,s2={ s with heap:=h',toks:=tk }∧SetI prog w (!byT w) h' s.heap.objs.size ks∧Of ks ns∧∀b o,b<s.heap.objs.size->s.heap.get? b=some o->h'.get? b=some o) λh' tk ks a1 a2 a3=>⟨rfl,h',tk,ks,rfl,a1,a2,a3⟩) (λfin s' hf=>?_) λ_ _ x=>x
    obtain⟨v,rfl,hq⟩:=hf
    exact hq
   ·cases r2 with
    | error e=>exact hr2
    | ok fl2=>
     cases fl2 with
     | ret r=>
      obtain⟨rfl,h',tk,ks,rfl,a1,a2,a3⟩:=hr2
      repeat any_goals first|assumption|wp_step
      exact q h' tk ks a1 a2 a3
     | _=>exact hr2.elim
  | _=>exact r1.elim
end
theorem Zq:Slot "set_iterator" "__next__" "set_iterator.__next__" :=
 .of (owner :="set_iterator") (n :="__next__") (by rw[typeLookup_type,builtinLookup_eq_fast];kernel_rfl) (by decide +kernel) (by decide +kernel) (by decide +kernel) (by first|exact .inl (by decide +kernel)|exact .inr (by decide +kernel)) (by rw[isSubtype_type];kernel_rfl)
theorem Yz:entryFor table "set_iterator.__next__"=some Bu.«set_iterator.__next__»:=entryFor_of_fast (by kernel_rfl)
theorem Wc(a:Xe):argsOk "set_iterator.__next__" ⟨[a],[]⟩:=by unfold argsOk;kernel_rfl
noncomputable def Z9d(h:Heap)(I S:Addr)(slot i n ep:Nat):Prop:=h.get? I=some { cls:=.type "set_iterator",data:=.fields #[Bf slot,Bf i,.ref S,Bf n,Bf ep] }
theorem Ztq{α:Type}:∀{l:List α} {i:Nat} (h:i<l.length),(l[i] :: l.eraseIdx i).Perm l:=fun{l}=>by
 induction l with
 | nil=>intro i h;cases h
 | cons a l ih=>
  intro i h
  cases i with
  | zero=>exact .refl _
  | succ i=>exact(List.Perm.swap ..).trans ((ih (Nat.lt_of_succ_lt_succ h)).cons a)
theorem Z2x{α:Type}(f:Nat->Nat):∀(fuel k:Nat) (left:List α) (out:Array α),left.length=fuel->(pickOrder.go f fuel k left out).toList.Perm (out.toList ++ left):=by
 intro fuel
 induction fuel with
 | zero=>
  intro k left out l
  rw[List.length_eq_zero_iff.mp l,Qk,pickOrder.go]
 | succ fuel ih=>
  intro k left out l
  rw[pickOrder.go]
  have hlt:f k%left.length<left.length:=Nat.mod_lt _ (by omega)
  rw[Xk hlt]
  dsimp only
  refine(ih (k+1) _ _ (by rw[List.length_eraseIdx_of_lt hlt];omega)).trans ?_
  rw[Array.toList_push,QB]
  exact List.Perm.append_left _ (Ztq hlt)
theorem Zqp{α:Type}(f:Nat->Nat)(xs:Array α):(pickOrder f xs).toList.Perm xs.toList:=by
 unfold pickOrder
 have:=Z2x f xs.size 0 xs.toList #[] (by rw[X5])
 rwa[List.nil_append]at this
section
variable {prog:XS}{w:Qq}{A:Qs}{E:Xe->Xg->Prop}{s:Xg}
theorem Zsh{src:Source}{n:Nat}{Q:Nat->Xg->Prop}(hn:n≠0)(h:∀i,i<n->Q i { s with drawn:=s.drawn.bump src }):XD (XR prog w) A (choose src n) Q E s:=fun Γ p _=>by
 show Sem.wp _ _ (.choose src n .pure) _ _ _ _
 rw[Sem.wp_choose]
 exact⟨hn,h _ (Nat.mod_lt _ (Nat.pos_of_ne_zero hn))⟩
theorem Z2n{α:Type}:∀(n:Nat) (xs:List α) (s:Xg) (Q:List α->Xg->Prop),xs.length=n->(∀ys d,ys.Perm xs->Q ys { s with drawn:=d })->XD (XR prog w) A (drawOrder n xs) Q E s:=by
 intro n
 induction n with
 | zero=>
  intro xs s Q l q
  rw[List.length_eq_zero_iff.mp l]at q⊢
  exact Xm (q [] s.drawn (.refl _))
 | succ n ih=>
  intro xs s Q l q
  cases xs with
  | nil=>cases l
  | cons a xs=>
   rw[drawOrder]
   refine Xb (Zsh (by rw[l];exact Nat.succ_ne_zero _) λi hi=>?_)
   rw[Xk hi]
   dsimp only
   refine Xb (ih _ _ _ (by rw[List.length_eraseIdx_of_lt hi];omega) λys d pm=>Xm (q _ d ?_))
   ·exact(pm.cons _).trans (Ztq hi)
   ·intro z;cases z
noncomputable def Zea(w:Qq)(S:Addr)(ep:Nat)(es:Array (Int×Xe)):List Xe:=(if byT w then(pickOrder (w.params.setOrder S ep) es).toList else es.toList).map (·.2)
theorem Zdo{w:Qq}{S:Addr}{ep:Nat}{es:Array (Int×Xe)}:(Zea w S ep es).Perm (es.toList.map (·.2)):=by
 unfold Zea
 split
 ·exact(Zqp _ es).map _
 ·exact .refl _
noncomputable def Zhn(w:Qq)(t:Q4)(slot i:Nat):Prop:=byT w=false->QV t.place slot=i
theorem Zgp{Q:Bool->Xg->Prop}(h:Q (byT w) s):XD (XR prog w) A setsByText Q E s:=by
 unfold setsByText
 exact Xb (wpAny_askSetting (Xm h))
theorem Zh7{S:Addr}{o:Obj}{es:Array (Int×Xe)}{ep slot i:Nat}{t:Q4}{Q:Option (Xe×Nat)->Xg->Prop}(ho:s.heap.get? S=some o)(hd:o.data= .set es ep t)(hf:t.fits es.size=true)(tb:Tb (!byT w) t)(hdr:byT w=false->t.plain=true∨es.size≤1)(hs:Zhn w t slot i)
  (q:∀r,(∀x,(Zea w S ep es)[i]? =some x->∃nx,r=some (x,nx)∧Zhn w t nx (i+1))->((Zea w S ep es)[i]? =none->r=none)->Q r s):XD (XR prog w) A (setNext S slot i ep) Q E s:=by
 unfold setNext
 refine Xb (Uu ho hd hf (Xb (Zgp ?_)))
 cases hb:byT w with
 | true=>
  have ew:Zea w S ep es=(pickOrder (w.params.setOrder S ep) es).toList.map (·.2):=by unfold Zea;rw[hb,if_pos rfl]
  simp only[if_true,bne_self_eq_false,Qm,if_false]
  unfold setWalk
  refine Xb (Xb (Uu ho hd hf (Xb (Zgp ?_))))
  rw[hb]
  simp only[if_true]
  refine Xb (wpAny_askSetting (Xm (Xm (q _ (λx hx=>?_) λhx=>?_))))
  ·rw[ew,Xl,Qt]at hx
   show∃nx,Option.map _ (pickOrder (w.params.setOrder S ep) es)[i]? =_∧_
   cases e:(pickOrder (w.params.setOrder S ep) es)[i]? with
   | none=>rw[e]at hx;cases hx
   | some y=>
    rw[e]at hx
    cases hx
    exact⟨slot,rfl,λz=>by rw[hb]at z;cases z⟩
  ·rw[ew,Xl,Qt]at hx
   show Option.map _ (pickOrder (w.params.setOrder S ep) es)[i]? =_
   cases e:(pickOrder (w.params.setOrder S ep) es)[i]? with
   | none=>rfl
   | some y=>rw[e]at hx;cases hx
 | false=>
  have ew:Zea w S ep es=es.toList.map (·.2):=by unfold Zea;rw[hb];rfl
  have pl:=hdr hb
  have le:=tb.led
  rw[hb]at le
  have bl:=hs hb
  obtain⟨mask,place,dummies,finger,led,moves,plain⟩:=t
  dsimp only at pl le bl
  subst le
  have sz0:place.size=es.size:=by
   unfold SetTable.fits at hf
   rw[XJ,beq_iff_eq]at hf
   exact hf.1
  have up:Up place.toList:=by
   rcases pl with pl|pl
   ·exact tb.up pl
   ·have l1:place.toList.length≤1:=by rw[X5,sz0];exact pl
    generalize place.toList=l at l1
    match l,l1 with
    | [],_=>exact .nil
    | [a],_=>exact List.pairwise_singleton _ _
  have dr:(!plain&&decide (es.size>1))=false:=by
   rcases pl with pl|pl
   ·rw[pl];rfl
   ·rw[decide_eq_false (by omega),Bool.and_false]
  simp only[Qm,if_false]
  show XD _ _ (if(!plain&&decide (es.size>1))=true then _ else _) _ _ _
  rw[dr]
  simp only[Qm,if_false]
  refine Xb (Xm ?_)
  have sz:place.size=es.size:=by
   unfold SetTable.fits at hf
   rw[XJ,beq_iff_eq]at hf
   exact hf.1
  rw[bl]
  refine Xm (q _ (λx hx=>?_) λhx=>?_)
  ·rw[ew,Xl,Qt]at hx
   cases e:es[i]? with
   | none=>rw[e]at hx;cases hx
   | some y=>
    rw[e]at hx
    cases hx
    have hi:i<place.size:=by rw[sz];exact(Array.getElem?_eq_some_iff.mp e).1
    have ep:place[i]? =some place[i]:=VJ hi
    rw[ep]
    exact⟨place[i]+1,rfl,λ_=>Zoj up (by rw[Qt];exact ep)⟩
  ·rw[ew,Xl,Qt]at hx
   cases e:es[i]? with
   | none=>rfl
   | some y=>rw[e]at hx;cases hx
end
section
variable {prog:XS}{w:Qq}{A:Qs}{E:Xe->Xg->Prop}{s:Xg}
theorem Zn9{I S:Addr}{o:Obj}{es:Array (Int×Xe)}{ep slot i:Nat}{t:Q4}{x:Xe}{Q:Option Xe->Xg->Prop}(hI:Z9d s.heap I S slot i es.size ep)(ho:s.heap.get? S=some o)(hd:o.data= .set es ep t)(hf:t.fits es.size=true)(tb:Tb (!byT w) t)(hdr:byT w=false->t.plain=true∨es.size≤1)(hs:Zhn w t slot i)(hx:(Zea w S ep es)[i]? =some x)
  (q:∀h' nx,Z9d h' I S nx (i+1) es.size ep->Zhn w t nx (i+1)->JM I s.heap h'->Q (some x) { s with heap:=h' }):XD (XR prog w) A (Ub (.ref I)) Q E s:=by
 have hT:s.TypeIs (.ref I) "set_iterator" :=⟨_,hI,rfl⟩
 unfold Ub
 refine Xb (U0 (JL (name:=VL "__next__") hT Zq (JG Zq hT Yz ?_ (Wc _))))
 unfold Bu.«set_iterator.__next__» slotArgs fieldsOf
 simp only[Ut,Uy,Qm,if_false,Bw,bne_self_eq_false,pure_bind,bind_assoc]
 refine Xb (wpAny_load hI ?_)
 dsimp only
 refine Xb (Xm ?_)
 show XD _ _ (setEntries S>>=_) _ _ _
 refine Xb (Ua ho hd hf ?_)
 rw[show(((es.size:Nat):Int) !=((es.size:Nat):Int))=false from bne_self_eq_false _]
 simp only[Qm,if_false]
 show XD _ _ (setNext S slot i ep>>=_) _ _ _
 refine Xb (Zh7 ho hd hf tb hdr hs λr h1 _=>?_)
 obtain⟨nx,rfl,sk⟩:=h1 x hx
 dsimp only
 refine Xb (QW hI (by simp) λh2 g2 b2=>?_)
 refine Xb (QW g2 (by simp) λh3 g3 b3=>?_)
 exact Xm ⟨_,rfl,Xm (q h3 nx g3 sk (b2.trans b3))⟩
theorem Zsl{I S:Addr}{o:Obj}{es:Array (Int×Xe)}{ep slot i:Nat}{t:Q4}{Q:Option Xe->Xg->Prop}(hh:A.handled=none)(hI:Z9d s.heap I S slot i es.size ep)(ho:s.heap.get? S=some o)(hd:o.data= .set es ep t)(hf:t.fits es.size=true)(tb:Tb (!byT w) t)(hdr:byT w=false->t.plain=true∨es.size≤1)(hs:Zhn w t slot i)(hx:(Zea w S ep es)[i]? =none)
  (q:∀h',Heap.ExtBut I s.heap h'->Q none { s with heap:=h' }):XD (XR prog w) A (Ub (.ref I)) Q E s:=by
 have hT:s.TypeIs (.ref I) "set_iterator" :=⟨_,hI,rfl⟩
 unfold Ub
 refine Xb (U0 (JL (name:=VL "__next__") hT Zq (JG Zq hT Yz ?_ (Wc _))))
 unfold Bu.«set_iterator.__next__» slotArgs fieldsOf
 simp only[Ut,Uy,Qm,if_false,Bw,bne_self_eq_false,pure_bind,bind_assoc]
 refine Xb (wpAny_load hI ?_)
 dsimp only
 refine Xb (Xm ?_)
 show XD _ _ (setEntries S>>=_) _ _ _
 refine Xb (Ua ho hd hf ?_)
 rw[show(((es.size:Nat):Int) !=((es.size:Nat):Int))=false from bne_self_eq_false _]
 simp only[Qm,if_false]
 show XD _ _ (setNext S slot i ep>>=_) _ _ _
 refine Xb (Zh7 ho hd hf tb hdr hs λr _ h2=>?_)
 rw[h2 hx]
 dsimp only
 refine Xb (QW hI (by simp) λh3 g3 b3=>?_)
 show XD _ _ (newExc (.type "StopIteration") []>>=_) _ _ _
 refine Xb ?_
 simp only[newExc,newTuple]
 refine Xb (JH ?_ (by size_fits))
 refine Xb (m:=Uw _ _) (wpAny_of_eq (a:=QX) (by first|rfl|(simp only[Uw];rfl)) ?_)
 refine JH ?_ (by size_fits)
 simp only[raiseNew]
 refine Xb (wpAny_handled ?_)
 rw[show A.in1.handled=none from hh]
 refine Xb (Xm (wpAny_throw ?_))
 exact Xb (wpAny_isInstance (T :="StopIteration") (b:=true) ⟨_,XC _ rfl,rfl⟩ isSubtype_stop (Xm (q _ ((b3.extBut.push _).push _))))
end
noncomputable def Z88(h:Heap)(I S T:Addr)(i n ep:Nat):Prop:=h.get? I=some { cls:=.type "set_iterator",data:=.fields #[.ref T,Bf i,.ref S,Bf n,Bf ep] }
noncomputable def Ztg(ps:List Nat):Array Xe:=(ps.map λ(i:Nat)=>Bf i).toArray
theorem Zz9{ps:List Nat}{i p:Nat}(h:ps[i]? =some p):(Ztg ps)[i]? =some (Bf p):=by
 unfold Ztg
 rw[Vt,Xl,h];rfl
theorem Zqr{ps:List Nat}{i:Nat}(h:ps[i]? =none):(Ztg ps)[i]? =none:=by
 unfold Ztg
 rw[Vt,Xl,h];rfl
section
variable {prog:XS}{w:Qq}{A:Qs}{E:Xe->Xg->Prop}{s:Xg}
theorem Zn7{I S T:Addr}{o:Obj}{es:Array (Int×Xe)}{ep i p:Nat}{t:Q4}{ps:List Nat}{x:Int×Xe}{Q:Option Xe->Xg->Prop}(hI:Z88 s.heap I S T i es.size ep)(hT2:s.heap.get? T=some { cls:=.type "tuple",data:=.seq (Ztg ps) })(ho:s.heap.get? S=some o)(hd:o.data= .set es ep t)(hf:t.fits es.size=true)(hp:ps[i]? =some p)(hx:es[p]? =some x)
  (q:∀h',Z88 h' I S T (i+1) es.size ep->JM I s.heap h'->Q (some x.2) { s with heap:=h' }):XD (XR prog w) A (Ub (.ref I)) Q E s:=by
 have hT:s.TypeIs (.ref I) "set_iterator" :=⟨_,hI,rfl⟩
 unfold Ub
 refine Xb (U0 (JL (name:=VL "__next__") hT Zq (JG Zq hT Yz ?_ (Wc _))))
 unfold Bu.«set_iterator.__next__» slotArgs fieldsOf
 simp only[Ut,Uy,Qm,if_false,Bw,bne_self_eq_false,pure_bind,bind_assoc]
 refine Xb (wpAny_load hI ?_)
 dsimp only
 refine Xb (Xm ?_)
 show XD _ _ (setEntries S>>=_) _ _ _
 refine Xb (Ua ho hd hf ?_)
 rw[show(((es.size:Nat):Int) !=((es.size:Nat):Int))=false from bne_self_eq_false _]
 simp only[Qm,if_false]
 show XD _ _ (seqItems? (.ref T)>>=_) _ _ _
 refine Xb (Bx hT2 rfl ?_)
 dsimp only
 rw[QJ,Zz9 hp]
 show XD _ _ (setNextDrawn S p ep>>=_) _ _ _
 unfold setNextDrawn
 refine Xb (Xb (Uu ho hd hf ?_))
 dsimp only
 rw[bne_self_eq_false]
 simp only[Qm,if_false]
 rw[hx]
 refine Xm ?_
 refine Xb (QW hI (by simp) λh2 g2 b2=>?_)
 exact Xm ⟨_,rfl,Xm (q h2 g2 b2)⟩
theorem Zp4{I S T:Addr}{o:Obj}{es:Array (Int×Xe)}{ep i:Nat}{t:Q4}{ps:List Nat}{Q:Option Xe->Xg->Prop}(hh:A.handled=none)(hI:Z88 s.heap I S T i es.size ep)(hT2:s.heap.get? T=some { cls:=.type "tuple",data:=.seq (Ztg ps) })(ho:s.heap.get? S=some o)(hd:o.data= .set es ep t)(hf:t.fits es.size=true)(hp:ps[i]? =none)
  (q:∀h',Heap.ExtBut I s.heap h'->Q none { s with heap:=h' }):XD (XR prog w) A (Ub (.ref I)) Q E s:=by
 have hT:s.TypeIs (.ref I) "set_iterator" :=⟨_,hI,rfl⟩
 unfold Ub
 refine Xb (U0 (JL (name:=VL "__next__") hT Zq (JG Zq hT Yz ?_ (Wc _))))
 unfold Bu.«set_iterator.__next__» slotArgs fieldsOf
 simp only[Ut,Uy,Qm,if_false,Bw,bne_self_eq_false,pure_bind,bind_assoc]
 refine Xb (wpAny_load hI ?_)
 dsimp only
 refine Xb (Xm ?_)
 show XD _ _ (setEntries S>>=_) _ _ _
 refine Xb (Ua ho hd hf ?_)
 rw[show(((es.size:Nat):Int) !=((es.size:Nat):Int))=false from bne_self_eq_false _]
 simp only[Qm,if_false]
 show XD _ _ (seqItems? (.ref T)>>=_) _ _ _
 refine Xb (Bx hT2 rfl ?_)
 dsimp only
 rw[QJ,Zqr hp]
 dsimp only
 refine Xb (QW hI (by simp) λh2 g2 b2=>?_)
 refine Xb (QW g2 (by simp) λh3 g3 b3=>?_)
 show XD _ _ (newExc (.type "StopIteration") []>>=_) _ _ _
 refine Xb ?_
 simp only[newExc,newTuple]
 refine Xb (JH ?_ (by size_fits))
 refine Xb (m:=Uw _ _) (wpAny_of_eq (a:=QX) (by first|rfl|(simp only[Uw];rfl)) ?_)
 refine JH ?_ (by size_fits)
 simp only[raiseNew]
 refine Xb (wpAny_handled ?_)
 rw[show A.in1.handled=none from hh]
 refine Xb (Xm (wpAny_throw ?_))
 exact Xb (wpAny_isInstance (T :="StopIteration") (b:=true) ⟨_,XC _ rfl,rfl⟩ isSubtype_stop (Xm (q _ (((b2.trans b3).extBut.push _).push _))))
end
theorem Zhg:entryFor table "set.__iter__"=some Bu.«frozenset.__iter__»:=entryFor_alias (id' :="frozenset.__iter__") (by kernel_rfl) rfl (by decide +kernel) (by kernel_rfl)
theorem Zah:Slot "set_iterator" "__iter__" "set_iterator.__iter__" :=
 .of (owner :="set_iterator") (n :="__iter__") (by rw[typeLookup_type,builtinLookup_eq_fast];kernel_rfl) (by decide +kernel) (by decide +kernel) (by decide +kernel) (by first|exact .inl (by decide +kernel)|exact .inr (by decide +kernel)) (by rw[isSubtype_type];kernel_rfl)
theorem Zde:entryFor table "set_iterator.__iter__"=some Bu.«dict_keyiterator.__iter__»:=entryFor_alias (id' :="dict_keyiterator.__iter__") (by kernel_rfl) (by first|rfl|decide +kernel|(unfold String.splitOn;simp +decide [String.splitOnAux])) (by decide +kernel) (by kernel_rfl)
theorem Zd9(a:Xe):argsOk "set_iterator.__iter__" ⟨[a],[]⟩:=by unfold argsOk;kernel_rfl
section
variable {prog:XS}{w:Qq}{A:Qs}{E:Xe->Xg->Prop}{s:Xg}
theorem Zh8{I:Addr}{vs:Array Xe}{Q:Xe->Xg->Prop}(hI:s.heap.get? I=some { cls:=.type "set_iterator",data:=.fields vs })(h:Q (.ref I) s):XD (XR prog w) A (pyIter (.ref I)) Q E s:=by
 have hT:s.TypeIs (.ref I) "set_iterator" :=⟨_,hI,rfl⟩
 refine wpAny_pyIter_slot hT Zah (JG Zah hT Zde ?_ (Zd9 _))
 show XD _ _ (ret (.ref I)) _ _ s
 exact Xm ⟨_,rfl,"set_iterator",_,hT,Zq.lookup,h⟩
theorem Z5f{S:Addr}{o:Obj}{es:Array (Int×Xe)}{ep:Nat}{t:Q4}{Q:Xe->Xg->Prop}(ho:s.heap.get? S=some o)(hex:o.ExactSet)(hd:o.data= .set es ep t)(hf:t.fits es.size=true)(hz:es.size≤1000)
  (q1:(byT w=false->t.plain=true∨es.size≤1)->Q (.ref s.heap.objs.size) { s with heap:=s.heap.push { cls:=.type "set_iterator",data:=.fields #[Bf 0,Bf 0,.ref S,Bf es.size,Bf ep] } })
  (q2:∀ps d,ps.Perm (Xi es.size)->Q (.ref (s.heap.objs.size+1)) { s with heap:=(s.heap.push { cls:=.type "tuple",data:=.seq (Ztg ps) }).push { cls:=.type "set_iterator",data:=.fields #[.ref s.heap.objs.size,Bf 0,.ref S,Bf es.size,Bf ep] },drawn:=d }):XD (XR prog w) A (pyIter (.ref S)) Q E s:=by
 have hT:s.TypeIs (.ref S) "set" :=⟨o,ho,hex.1⟩
 refine wpAny_pyIter_slot hT F.slot_set_iter (JG F.slot_set_iter hT Zhg ?_ (F.args_set_iter_1 _))
 unfold Bu.«frozenset.__iter__» Builtin.Frozenset.slot0 slotArgs
 simp only[Ut,Uy,Qm,if_false,Bw,bne_self_eq_false,pure_bind,bind_assoc]
 unfold Builtin.Frozenset.addrOf Builtin.Frozenset.sizeOf setDrawn
 refine Xb (Xm ?_)
 refine Xb (Xb (Ua ho hd hf (Xm ?_)))
 refine Xb (Xb (Uu ho hd hf (Xb (Zgp (Xm ?_)))))
 show XD _ _ (if(!byT w&&(!t.plain&&decide (es.size>1)))=true then _ else _) _ _ _
 by_cases c:(!byT w&&(!t.plain&&decide (es.size>1)))=true
 ·rw[if_pos c]
  refine Xb (Z2n _ _ _ _ Xw λps d pm=>?_)
  refine Xb (wpAny_newTuple ?_ (by rw[Xd,pm.length_eq,Xw,XN];omega))
  refine Xb (wpAny_setEpoch_of (Xf _ ho) hd hf ?_)
  have e:(s.heap.push { cls:=.type "tuple",data:=.seq (Ztg ps) }).objs.size=s.heap.objs.size+1:=QF ..
  refine Xb (JH (Xm ⟨_,rfl,"set_iterator",_,⟨_,XC _ rfl,rfl⟩,Zq.lookup,?_⟩))
  have:=q2 ps d pm
  rw[←e]at this
  exact this
 ·rw[if_neg c]
  refine Xb (wpAny_setEpoch_of ho hd hf ?_)
  refine Xb (JH (Xm ⟨_,rfl,"set_iterator",_,⟨_,XC _ rfl,rfl⟩,Zq.lookup,q1 λhb=>?_⟩))
  rw[hb]at c
  cases hp:t.plain with
  | true=>exact .inl rfl
  | false=>
   rw[hp]at c
   exact .inr (Nat.le_of_not_lt λz=>c (by rw[decide_eq_true z];rfl))
theorem Z76(hh:A.handled=none){I S:Addr}(ne:S≠I){o:Obj}{es:Array (Int×Xe)}{ep:Nat}{t:Q4}(hd:o.data= .set es ep t)(hf:t.fits es.size=true)(tb:Tb (!byT w) t)(hdr:byT w=false->t.plain=true∨es.size≤1) :
  Walks prog w A I [I,S] [I] es.size (λi v=>(Zea w S ep es)[i]? =some v) (λi h=>(∃slot,Z9d h I S slot i es.size ep∧Zhn w t slot i)∧h.get? S=some o) where
 sub:=λb hb=>by rw[Xj.mp hb];exact .head _
 frame:=λi h h' st k=>by
  obtain⟨⟨slot,h1,h2⟩,h3⟩:=st
  exact⟨⟨slot,k I (.head _) _ h1,h2⟩,k S (.tail _ (.head _)) _ h3⟩
 item:=λi s Q E hi st q=>by
  obtain⟨⟨slot,h1,h2⟩,h3⟩:=st
  have hl:i<(Zea w S ep es).length:=by rw[Zdo.length_eq,Xd,X5];exact hi
  have hx:=Xk hl
  refine Zn9 h1 h3 hd hf tb hdr h2 hx λh' nx g1 g2 g3=>?_
  exact q _ h' s.toks hx ⟨⟨nx,g1,g2⟩,g3.extBut _ _ ne h3⟩ λb o nb e=>g3.extBut _ _ (λz=>nb (Xj.mpr z)) e
 done:=λs Q E st q=>by
  obtain⟨⟨slot,h1,h2⟩,h3⟩:=st
  refine Zsl hh h1 h3 hd hf tb hdr h2 (QK (by rw[Zdo.length_eq,Xd,X5];exact Xz _)) λh' g=>?_
  exact q h' s.toks λb o nb e=>g _ _ (λz=>nb (Xj.mpr z)) e
 self:=λi s Q E st q=>by
  obtain⟨⟨slot,h1,h2⟩,h3⟩:=st
  exact Zh8 h1 q
noncomputable def Zil(ps:List Nat)(es:Array (Int×Xe)):List Xe:=ps.filterMap λp=>es[p]?.map (·.2)
theorem Zkn{ps:List Nat}{es:Array (Int×Xe)}(pm:ps.Perm (Xi es.size)):(Zil ps es).Perm (es.toList.map (·.2)):=by
 have e:Zil (Xi es.size) es=es.toList.map (·.2):=by
  have h:=filterMap_getElem?_range es
  unfold Zil
  rw[←List.map_filterMap,h]
 rw[←e]
 exact pm.filterMap _
theorem Zyt{ps:List Nat}{es:Array (Int×Xe)}(h:∀p∈ps,p<es.size):∀{i p:Nat},ps[i]? =some p->∃x,es[p]? =some x∧(Zil ps es)[i]? =some x.2:=by
 induction ps with
 | nil=>intro i p e;cases e
 | cons a ps ih=>
  intro i p e
  have ha:=h a (.head _)
  have ea:es[a]? =some es[a]:=VJ ha
  have ed:Zil (a :: ps) es=es[a].2 :: Zil ps es:=by
   unfold Zil
   rw[QQ,ea];rfl
  rw[ed]
  cases i with
  | zero=>
   cases e
   exact⟨_,ea,rfl⟩
  | succ i=>exact ih (λp m=>h p (.tail _ m)) e
theorem Z8g(hh:A.handled=none){I S T:Addr}(n1:S≠I)(n2:T≠I){o:Obj}{es:Array (Int×Xe)}{ep:Nat}{t:Q4}{ps:List Nat}(hd:o.data= .set es ep t)(hf:t.fits es.size=true)(pm:ps.Perm (Xi es.size)) :
  Walks prog w A I [I,S,T] [I] es.size (λi v=>(Zil ps es)[i]? =some v) (λi h=>Z88 h I S T i es.size ep∧h.get? S=some o∧h.get? T=some { cls:=.type "tuple",data:=.seq (Ztg ps) }) where
 sub:=λb hb=>by rw[Xj.mp hb];exact .head _
 frame:=λi h h' st k=>⟨k I (.head _) _ st.1,k S (.tail _ (.head _)) _ st.2.1,k T (.tail _ (.tail _ (.head _))) _ st.2.2⟩
 item:=λi s Q E hi st q=>by
  have hl:i<ps.length:=by rw[pm.length_eq,Xw];exact hi
  have hp:=Xk hl
  obtain⟨x,h1,h2⟩:=Zyt (es:=es) (λp m=>XQ.mp (pm.mem_iff.mp m)) hp
  refine Zn7 st.1 st.2.2 st.2.1 hd hf hp h1 λh' g1 g3=>?_
  exact q _ h' s.toks h2 ⟨g1,g3.extBut _ _ n1 st.2.1,g3.extBut _ _ n2 st.2.2⟩ λb o nb e=>g3.extBut _ _ (λz=>nb (Xj.mpr z)) e
 done:=λs Q E st q=>by
  refine Zp4 hh st.1 st.2.2 st.2.1 hd hf (QK (by rw[pm.length_eq,Xw];exact Xz _)) λh' g=>?_
  exact q h' s.toks λb o nb e=>g _ _ (λz=>nb (Xj.mpr z)) e
 self:=λi s Q E st q=>Zh8 st.1 q
end
theorem Zzq:typeLookup (.type "set") "__len__"=pure (some (.builtin "set.__len__")):=F.slot_set_len.lookup
section
variable {prog:XS}{w:Qq}{A:Qs}{E:Xe->Xg->Prop}{s:Xg}
theorem Zxm{S:Addr}{o:Obj}{Q:Bool->Xg->Prop}(ho:s.heap.get? S=some o)(hex:o.ExactSet)(h:Q false s):XD (XR prog w) A (Builtin.List.listLengthHint (.ref S)) Q E s:=by
 have hT:s.TypeIs (.ref S) "set" :=⟨o,ho,hex.1⟩
 unfold Builtin.List.listLengthHint
 refine Xb (wpAny_specialOf hT Zzq ?_)
 generalize hid:("set.__len__" : String)=id0
 (fail_if_success (clear hid id0))
 wp_delta
 rw[show splitId id0=some ("set","__len__")from by subst hid;decide +kernel]
 subst hid
 refine Xb (wpAny_isInstance (b:=true) hT (by rw[isSubtype_type];kernel_rfl) ?_)
 simp only[Uy,Qm,if_false]
 rw[if_pos (by decide +kernel)]
 refine Xb (wpAny_typeOf hT ?_)
 exact Xm h
theorem Zki{I N:Addr}{fp wr:List Addr}{n:Nat}{P:Nat->Xe->Prop}{St:Nat->Heap->Prop}{R:Result->Xg->Prop}(W:Walks prog w A.in1 I fp wr n P St)(hn:n≤1000)(hN:N∉fp)(st:St 0 s.heap)(gN:s.heap.get? N=some { cls:=.type "list",data:=.seq #[] 2 })
  (q:∀h' tk (acc:Array Xe) c,acc.size=n->(∀(j:Nat) v,acc[j]? =some v->P j v)->h'.get? N=some { cls:=.type "list",data:=.seq acc c }->(∀b o,b∉N :: wr->s.heap.get? b=some o->h'.get? b=some o)->R (.ok (.ret (.ref N))) { s with heap:=h',toks:=tk }) :
  U3 (XR prog w) A (.builtin "list.extend.loop" ⟨[.ref N,.ref I,.ref N],[]⟩) R s:=by
 refine codeAny_extend_loopS W.toS (by rw[XN];omega) N hN (.ref N) n 0 s #[] 2 rfl (Qy _) st gN (ItemsOf.nil P) λs' acc c hm g it=>?_
 obtain⟨h',g',d',tk',os'⟩:=s'
 have eg:g'=s.gens:=hm.gens
 have ed:d'=s.drawn:=hm.drawn
 have eo:os'=s.os:=hm.os
 subst eg ed eo
 exact q h' tk' acc c it.1 it.2 g hm.heap
theorem Zqh{N:Addr}{Q:Unit->Xg->Prop}(gN:s.heap.get? N=some { cls:=.type "list",data:=.seq #[] 0 })(q:∀h',h'.get? N=some { cls:=.type "list",data:=.seq #[] 2 }->JM N s.heap h'->Q () { s with heap:=h' }):XD (XR prog w) A (Builtin.List.listTouch (.ref N)) Q E s:=by
 unfold Builtin.List.listTouch
 refine Xb (listUpdate_at gN rfl ?_ (by rw[XN];exact Qy _) (by rw[XN];exact Nat.le_of_ble_eq_true rfl))
 have g1:=get?_update_seq (c :="list") (n:=0) gN (·.push .none)
 refine listUpdate_at g1 rfl (q _ ?_ ((JK ..).trans (JK ..))) (by rw[XN];exact Nat.le_of_ble_eq_true rfl) (by rw[XN];exact Qy _)
 exact get?_update_seq (c :="list") g1 (·.pop)
end
section
variable {prog:XS}{w:Qq}{A:Qs}{E:Xe->Xg->Prop}{s:Xg}
theorem Zhu{α:Type}{l:List α}{acc:Array α}(h:acc.size=l.length)(k:∀(j:Nat) v,acc[j]? =some v->l[j]? =some v):acc.toList=l:=by
 refine Vx λj=>?_
 rw[Qt]
 cases e:acc[j]? with
 | some v=>exact(k j v e).symm
 | none=>
  have:=Array.getElem?_eq_none_iff.mp e
  exact(QK (by omega)).symm
theorem Ztc{S:Addr}{o:Obj}{es:Array (Int×Xe)}{ep:Nat}{t:Q4}{Q:List Xe->Xg->Prop}(hh:A.handled=none)(ho:s.heap.get? S=some o)(hex:o.ExactSet)(hd:o.data= .set es ep t)(hf:t.fits es.size=true)(tb:Tb (!byT w) t)(hz:es.size≤1000)
  (q:∀h' tk d acc,acc.Perm (es.toList.map (·.2))->s.heap.objs.size≤h'.objs.size->(∀b o,b<s.heap.objs.size->s.heap.get? b=some o->h'.get? b=some o)->Q acc { s with heap:=h',toks:=tk,drawn:=d }):XD (XR prog w) A (collect (.ref S)) Q E s:=by
 have lS:S<s.heap.objs.size:=XH ho
 unfold collect
 refine Xb (wpAny_runValue (BL F.entry_proto_collect ?_));rw[Bq F.plain_proto_collect _]
 show XD _ A.in1 (newList []>>= λl=>again (.builtin "list.__iadd__" ⟨[l,.ref S],[]⟩)) _ _ s
 refine Xb (JH (Xm ⟨Uc F.plain_list_iadd _,BL F.entry_list_iadd ?_⟩));rw[Bq F.plain_list_iadd _]
 have g0:(s.heap.push { cls:=.type "list",data:=.seq ([]:List Xe).toArray }).get? s.heap.objs.size=some { cls:=.type "list",data:=.seq #[] 0 }:=XC _ rfl
 have s0:(s.heap.push { cls:=.type "list",data:=.seq ([]:List Xe).toArray }).objs.size=s.heap.objs.size+1:=QF ..
 have ho1:(s.heap.push { cls:=.type "list",data:=.seq ([]:List Xe).toArray }).get? S=some o:=Xf _ ho
 generalize hH:s.heap.push { cls:=.type "list",data:=.seq ([]:List Xe).toArray }=H1 at g0 s0 ho1⊢
 have old:∀b o,s.heap.get? b=some o->H1.get? b=some o:=λb o e=>by rw[←hH];exact Xf _ e
 show XD _ A.in1 (Builtin.List.listExtendWith (.ref s.heap.objs.size) (.ref S) (.ref s.heap.objs.size)) _ _ { s with heap:=H1 }
 have hT1:Shared.TypeIs { s with heap:=H1 } (.ref S) "set" :=⟨o,ho1,hex.1⟩
 have ns:Builtin.List.listSameRef (.ref s.heap.objs.size) (.ref S)=false:=by simp[Builtin.List.listSameRef,XM lS]
 unfold Builtin.List.listExtendWith
 refine Xb (wpAny_typeOf hT1 ?_)
 rw[if_neg (by rw[ns];decide)]
 refine Xb (Z5f (s:={ s with heap:=H1 }) ho1 hex hd hf hz (λhdr=>?_) λps d pm=>?_)
 ·refine Xb (VD (Zxm (Xf _ ho1) hex ?_))
  rw[if_pos (by decide +kernel)]
  refine Xb (Ui (Xb (Zqh (Xf _ g0) λh2 g2 b2=>Xm ⟨Uc F.plain_extend_loop _,?_⟩)))
  have gI:h2.get? H1.objs.size=some { cls:=.type "set_iterator",data:=.fields #[Bf 0,Bf 0,.ref S,Bf es.size,Bf ep] }:=b2.extBut _ _ (by rw[s0];exact XM (QC _)) (XC _ rfl)
  have gS:h2.get? S=some o:=b2.extBut _ _ (Xo lS) (Xf _ ho1)
  refine Zki (I:=H1.objs.size) (s:={ s with heap:=h2 }) (Z76 (S:=S) (by simpa using hh) (by rw[s0];exact Xo (Bb lS)) hd hf tb hdr) hz (λm=>?_) ⟨⟨0,gI,λhb=>?_⟩,gS⟩ g2 λh' tk acc c l1 l2 g k=>?_
  ·rw[s0]at m
   rcases Xp.mp m with e|m
   ·exact Xo (QC _) e
   ·exact XM lS (Xj.mp m)
  ·refine Zn0 ?_
   rcases hdr hb with z|z
   ·exact tb.up z
   ·have sz:t.place.size=es.size:=by
     unfold SetTable.fits at hf
     rw[XJ,beq_iff_eq]at hf
     exact hf.1
    have l1:t.place.toList.length≤1:=by rw[X5,sz];exact z
    generalize t.place.toList=l at l1
    match l,l1 with
    | [],_=>exact .nil
    | [a],_=>exact List.pairwise_singleton _ _
  ·have ea:acc.toList=Zea w S ep es:=Zhu (by rw[l1,Zdo.length_eq,Xd,X5]) l2
   show XD _ A (load s.heap.objs.size>>=_) _ _ { s with heap:=h',toks:=tk }
   refine Xb (wpAny_load g (Xm (q h' tk s.drawn acc.toList (ea▸Zdo) (Vh (XH g)) λb o lb e=>k b o (λm=>?_) (b2.extBut _ _ (Xo lb) (Xf _ (old b o e))))))
   rcases Xp.mp m with z|m
   ·exact Xo lb z
   ·rw[Xj.mp m,s0]at lb
    exact BP _ (Nat.lt_of_succ_lt lb)
 ·refine Xb (VD (Zxm (Xf _ (Xf _ ho1)) hex ?_))
  rw[if_pos (by decide +kernel)]
  refine Xb (Ui (Xb (Zqh (Xf _ (Xf _ g0)) λh2 g2 b2=>Xm ⟨Uc F.plain_extend_loop _,?_⟩)))
  have s1:(H1.push { cls:=.type "tuple",data:=.seq (Ztg ps) }).objs.size=s.heap.objs.size+1+1:=by rw[QF,s0]
  have gI:h2.get? (s.heap.objs.size+1+1)=some { cls:=.type "set_iterator",data:=.fields #[.ref H1.objs.size,Bf 0,.ref S,Bf es.size,Bf ep] }:=b2.extBut _ _ (XM (Bb (QC _))) (by rw[←s1];exact XC _ rfl)
  have gS:h2.get? S=some o:=b2.extBut _ _ (Xo lS) (Xf _ (Xf _ ho1))
  have gT:h2.get? H1.objs.size=some { cls:=.type "tuple",data:=.seq (Ztg ps) }:=b2.extBut _ _ (by rw[s0];exact XM (QC _)) (Xf _ (XC _ rfl))
  rw[show H1.objs.size+1=s.heap.objs.size+1+1 by rw[s0]]
  refine Zki (I:=s.heap.objs.size+1+1) (s:={ s with heap:=h2,drawn:=d }) (Z8g (S:=S) (T:=H1.objs.size) (by simpa using hh) (Xo (Bb (Bb lS))) (by rw[s0];exact Xo (QC _)) hd hf pm) hz (λm=>?_) ⟨gI,gS,gT⟩ g2 λh' tk acc c l1 l2 g k=>?_
  ·rcases Xp.mp m with e|m
   ·exact Xo (Bb (QC _)) e
   rcases Xp.mp m with e|m
   ·exact XM lS e
   ·have:=Xj.mp m
    rw[s0]at this
    exact Xo (QC _) this
  ·have ea:acc.toList=Zil ps es:=Zhu (by rw[l1,(Zkn pm).length_eq,Xd,X5]) l2
   show XD _ A (load s.heap.objs.size>>=_) _ _ { s with heap:=h',toks:=tk,drawn:=d }
   refine Xb (wpAny_load g (Xm (q h' tk d acc.toList (ea▸Zkn pm) (Vh (XH g)) λb o lb e=>k b o (λm=>?_) (b2.extBut _ _ (Xo lb) (Xf _ (Xf _ (old b o e)))))))
   rcases Xp.mp m with z|m
   ·exact Xo lb z
   ·rw[Xj.mp m]at lb
    exact BP _ (Nat.lt_of_succ_lt (Nat.lt_of_succ_lt lb))
end
theorem ints_of{vs:List Xe}(h:∀v∈vs,∃k t,v= .int k t):BJ vs (vs.map vI):=by
 induction vs with
 | nil=>exact .nil
 | cons v vs ih=>
  obtain⟨k,t,rfl⟩:=h v (.head _)
  exact .cons k t (ih λu m=>h u (.tail _ m))
section
variable {prog:XS}{w:Qq}{A:Qs}{E:Xe->Xg->Prop}{s:Xg}
theorem Zux{S:Addr}{ks:List Int}{Q:Xe->Xg->Prop}(hh:A.handled=none)(hS:SetI prog w (!byT w) s.heap S ks)(h64:ks.length<64)
  (q:∀h' tk d L (out:List Xe) c,s.heap.objs.size≤L->h'.get? L=some { cls:=.type "list",data:=.seq out.toArray c }->BJ out (Zba ks)->(∀b o,b<s.heap.objs.size->s.heap.get? b=some o->h'.get? b=some o)->Q (.ref L) { s with heap:=h',toks:=tk,drawn:=d }):XD (XR prog w) A (call (.builtin "sorted") [.ref S]) Q E s:=by
 obtain⟨o,es,ep,t,ho,hex,hd,he,hb,hf,tb,rfl⟩:=hS
 rw[Xd,X5]at h64
 refine Calls.call_function_entry kind_sorted plain_sorted entry_sorted (args_sorted1 _) ?_
 unfold Bu.«sorted»
 refine Xb (m:=checkCount "sorted" 1 1 _) (Xm ?_)
 refine Xb (Ztc (by simpa using hh) ho hex hd hf tb (by omega) λh1 tk d acc pm lN k1=>?_)
 have la:acc.length=es.size:=by rw[pm.length_eq,Xd,X5]
 refine Xb (wpAny_newList ?_ (by rw[XN];omega))
 have ga:(h1.push (BK "list" acc.toArray 0)).get? h1.objs.size=some (BK "list" acc.toArray 0):=XC _ rfl
 have ia:BJ acc (acc.map vI):=ints_of λv m=>by
  obtain⟨e,me,rfl⟩:=XX.mp (pm.mem_iff.mp m)
  obtain⟨⟨k,i1,_⟩,_⟩:=he e me
  obtain⟨t',e2⟩:=Zpm i1
  exact⟨k,t',e2⟩
 refine Xb (VD (JG slot_list_sort ⟨_,ga,rfl⟩ entry_list_sort (list_sort_tree ga ia (by omega) λout ns' a1 a2 a3=>⟨_,rfl,?_⟩) (args_list_sort _)))
 have en:ns'=Zba (es.toList.map λe=>vI e.2):=Jk (a2.trans (((pm.map vI).trans (by rw[Qz];exact .refl _)).trans (Jm _).symm)) a3 (W7 _)
 subst en
 have g1:=get?_update_seq (c :="list") ga (λ_=>(#[]:Array Xe))
 have g3:=get?_update_seq (c :="list") (Xf (BK "list" #[] 0) (Xf (BK "tuple" acc.toArray 0) g1)) (λ_=>out)
 refine Xm ⟨_,rfl,q _ tk d _ out.toList _ lN (by rw[Array.toArray_toList];exact g3) a1 λb o lb e=>?_⟩
 have nb:b≠h1.objs.size:=Xo (Qi lb lN)
 exact(JK ..).extBut _ _ nb (Xf _ (Xf _ ((JK ..).extBut _ _ nb (Xf _ (k1 b o lb e)))))
end
theorem Inv.drawn{X:Cx}{pins:List (Addr×Obj)}{σ:St}{H:Hp}{s:Xg}(I:Inv X pins σ H s)(d:Drawn):Inv X pins σ H { s with drawn:=d }:=by
 refine I.call (ch:=[]) (g':=s.gens) (d':=d) (t':=s.toks) ⟨λb o e _ _ _=>e,λb o e _ _ _=>⟨o.slots,e⟩,λb o e n _=>n,λb o e _=>⟨o,e⟩,λb ys e=>e,λb o u e=>e,λb ps e=>⟨#[],by rw[e];simp⟩⟩ (λb u e=>I.hok b u e) I.bare (λb hb=>nomatch hb)
noncomputable def dnc:List Int->List Int
 | []=>[]
 | x :: xs=>if x∈xs then dnc xs else x :: dnc xs
theorem Zju(ns:List Int):Of (dnc ns) ns:=by
 induction ns with
 | nil=>exact⟨.nil,λx=>.rfl⟩
 | cons a ns ih=>
  rw[dnc]
  split
  ·rename_i c
   exact⟨ih.1,λx=>by rw[ih.2,Xp];exact⟨.inr,λm=>m.elim (λe=>e▸c) id⟩⟩
  ·rename_i c
   exact⟨X6.mpr ⟨λm=>c ((ih.2 a).mp m),ih.1⟩,λx=>by rw[Xp,Xp,ih.2]⟩
theorem Z1n(ns:List Int):(dnc ns).length≤ns.length:=by
 induction ns with
 | nil=>exact Xz _
 | cons a ns ih=>
  rw[dnc]
  split
  ·exact Nat.le_succ_of_le ih
  ·exact Ux ih
theorem Z4v{ks ns:List Int}(h:Of ks ns):ks.length≤ns.length:=by
 have pm:ks.Perm (dnc ns):=(U6 h.1 (Zju ns).1).mpr λx=>by rw[h.2,(Zju ns).2]
 rw[pm.length_eq];exact Z1n ns
theorem Zq0{ks ns:List Int}(h:Of ks ns):Zba ks=Zba (dnc ns):=by
 have pm:ks.Perm (dnc ns):=(U6 h.1 (Zju ns).1).mpr λx=>by rw[h.2,(Zju ns).2]
 exact Jk ((Jm ks).trans (pm.trans (Jm _).symm)) (W7 _) (W7 _)
section
variable {X:Cx}{p c:Bool}{io:List Nat}{a e:Expr}{pos pos' pl pr:Pos}{t:TA}{mr:MAt}{ra:FA}
noncomputable def tSS(K:Xc)(t:TA):TE:=λσ H Q=>t σ H λvs H1=>∃(l:Addr) (ns:List Int),vs=[.ref l]∧SqL K H1 l (ns.map V.int)∧ns.length<64∧∀p,H1 p=none->Q (.ref p) (upd H1 p (.lst ((Zba (dnc ns)).map V.int)))
theorem Zn1(hc:X.calm=true)(hgl:Gl X "sorted")(hml:X.mg "sorted"=none)(hvl:Qe "sorted"=some (.builtin "sorted"))(hg:Gl X "set")(hm:X.mg "set"=none)(hv:Qe "set"=some (.type "set"))(ha:PA X [a] t)
  (he:Xu [a] X.env=(false,eval a X.env) :: Xu [] X.env:=by rfl) (hpl:(JD pos' (Xu [] X.env)).any (·.1)=false:=by rfl)
  (he':Xu [.Call (.Name "set" pr) [a] [] pos'] X.env=(false,eval (.Call (.Name "set" pr) [a] [] pos') X.env) :: Xu [] X.env:=by rfl) (hpl':(JD pos (Xu [] X.env)).any (·.1)=false:=by rfl) :
  PE X (.Call (.Name "sorted" pl) [.Call (.Name "set" pr) [a] [] pos'] [] pos) (tSS X.K t):=by
 intro pins s σ H Q I h
 refine Vf (Zd1 I hgl hml hvl ?_ (by decide) (by decide))
 refine PyProof.Rows.callWith_builtin1 ?_ he' hpl'
 rw[he']
 show XD _ _ (spliced ((false,eval (.Call (.Name "set" pr) [a] [] pos') X.env) :: JD pos (Xu [] X.env))) _ _ s
 have inner:XD (XR X.prog X.w) X.A (eval (.Call (.Name "set" pr) [a] [] pos') X.env) (λu s2=>∃(S:Addr) (ks ns:List Int) (H1:Hp),u=Qn S∧SetI X.prog X.w (!byT X.w) s2.heap S ks∧Of ks ns∧ns.length<64∧Inv X pins σ H1 s2∧∀p,H1 p=none->Q (.ref p) (upd H1 p (.lst ((Zba (dnc ns)).map V.int)))) X.xe s:=by
  refine Vf (Zd1 I hg hm hv ?_ (by decide) (by decide))
  refine JQ (thn (ha pos' pins s σ H _ I h) λus s1 qz=>?_) he hpl
  obtain⟨vs,H1,I1,r1,l,ns,rfl,hs,h64,q⟩:=qz
  obtain⟨u,rfl,ru⟩:=vals1 r1
  cases(show u=Qn l from ru)
  obtain⟨its,rv,pl,hz⟩:=I1.list hs
  obtain⟨ps,rfl,e2⟩:=Zhr rv
  have lp:ps.length=ns.length:=by rw[←e2,Xd]
  refine Zqx (its:=(ps.map λp=>Vm p.1 p.2).toArray) (ns:=ns) (I1.ok.hd hc) pl.isList (by simp[lp]) (by rw[Xy,Xd];unfold Ul;omega) (λi v ev=>?_) λh' tk ks a1 a2 a3=>?_
  ·rw[Vt,Xl]at ev
   cases ep:ps[i]? with
   | none=>rw[ep]at ev;cases ev
   | some p=>
    rw[ep]at ev
    cases ev
    exact⟨p.1,p.2,rfl,by rw[←e2,Xl,ep];rfl⟩
  ·exact⟨_,ks,ns,H1,rfl,a1,a2,h64,I1.kept (t':=tk) (λb u e=>a3 b u (XH e) e),q⟩
 refine Calls.spliced_cons (thn inner λu s2 qz=>?_)
 obtain⟨S,ks,ns,H1,rfl,hS,hO,h64,I2,q⟩:=qz
 refine Calls.spliced_nil ?_
 have lk:ks.length≤ns.length:=Z4v hO
 refine Zux (I2.ok.hd hc) hS (by omega) λh' tk d L out cc lN g io k=>?_
 rw[Zq0 hO]at io
 have ld:((Zba (dnc ns)).map V.int).length≤Xq:=by
  rw[Xd,←Zq0 hO,(Jm ks).length_eq,XN];omega
 refine⟨.ref L,_,(I2.laid (t':=tk) (o:=.lst ((Zba (dnc ns)).map V.int)) (λb ob e=>k b ob (XH e) e) lN ⟨ld,out,cc,Z8i io,g⟩).drawn d,rfl,q _ (I2.hok.fresh lN)⟩
noncomputable def Zna(mr:MAt):MEt:=λδ K=>mr δ λrs δ'=>n1 (λd=>∃ns:List Int,d= .list (ns.map Xx)∧ns.length<64∧K (.nd (((Zba (dnc ns)).map Xx).map OT.fz)) δ') (OT.datas rs)
theorem Zsk(hc:X.calm=true)(hgl:Gl X "sorted")(hml:X.mg "sorted"=none)(hvl:Qe "sorted"=some (.builtin "sorted"))(hg:Gl X "set")(hm:X.mg "set"=none)(hv:Qe "set"=some (.type "set"))(ha:MA X io p c [a] mr)
  (he:Xu [a] X.env=(false,eval a X.env) :: Xu [] X.env:=by rfl) (hpl:(JD pos' (Xu [] X.env)).any (·.1)=false:=by rfl)
  (he':Xu [.Call (.Name "set" pr) [a] [] pos'] X.env=(false,eval (.Call (.Name "set" pr) [a] [] pos') X.env) :: Xu [] X.env:=by rfl) (hpl':(JD pos (Xu [] X.env)).any (·.1)=false:=by rfl) :
  ME X io p true (.Call (.Name "sorted" pl) [.Call (.Name "set" pr) [a] [] pos'] [] pos) (Zna mr):=by
 obtain⟨_,A,s⟩:=ha
 refine⟨_,Zn1 hc hgl hml hvl hg hm hv A he hpl he' hpl',λC H σ δ fp ex K Q R h kk=>s C H σ δ fp ex _ _ R h λH1 vs rs δ1 fp1 new r1 h1=>?_⟩
 obtain⟨v,d,rfl,e2,q,ns,e,h64,h2⟩:=(r1.das R).one h1
 subst e
 obtain⟨l,rfl,hs⟩:=q.ints_sq
 refine⟨l,ns,rfl,hs,h64,λp hp=>?_⟩
 have sm:=Zz hp (.lst ((Zba (dnc ns)).map V.int))
 exact kk _ _ _ δ1 fp1 [p] (RE.tree R r1.base r1.stp sm (Zaq hp) (Zch p) (Own.list hp (Das.ints _))) h2
noncomputable def Zfe(a:FA):FE:=λδ=>(a δ).bind λq=>match OT.datas q.1 with|[.list es]=>(Ze6 es).bind λns=>if ns.length<64 then some (.nd (((Zba (dnc ns)).map Xx).map OT.fz),q.2)else none|_=>none
theorem Zo9{c:Bool}{e:Expr}(h:ME X io p c e (Zna (o2 ra))):ME X io p c e (o2 (Zfe ra)):=h.weak λδ K h=>by
 obtain⟨r,δ',h,k⟩:=h
 obtain⟨⟨x,δ1⟩,h1,h⟩:=bs h
 refine⟨x,δ1,h1,?_⟩
 dsimp only at h⊢
 split at h
 case h_2=>cases h
 rename_i es q
 rw[q]
 obtain⟨ns,h2,h⟩:=bs h
 split at h
 case isFalse=>cases h
 rename_i l64
 cases h
 exact⟨ns,by rw[Zdk h2],l64,k⟩
end
section
variable {κ:Type}[DecidableEq κ]
noncomputable def Zo5(kvs:List (κ×V))(k:κ):Option V:=(kvs.find? λkv=>decide (kv.1=k)).map (·.2)
noncomputable def putK(kvs:List (κ×V))(k:κ)(v:V):List (κ×V) :=
 if(kvs.any λkv=>decide (kv.1=k))=true then kvs.map (λkv=>if kv.1=k then(kv.1,v)else kv)else kvs ++ [(k,v)]
theorem Zfd{p:κ×V}{r:List (κ×V)}{k:κ}(e:p.1=k):Zo5 (p :: r) k=some p.2:=by simp[Zo5,V7,e]
theorem Zfi{p:κ×V}{r:List (κ×V)}{k:κ}(e:¬p.1=k):Zo5 (p :: r) k=Zo5 r k:=by simp[Zo5,V7,e]
theorem Znf(k:κ):∀kvs:List (κ×V),(kvs.any λkv=>decide (kv.1=k))=(Zo5 kvs k).isSome
 | []=>rfl
 | p :: r=>by
  rw[V5]
  by_cases e:p.1=k
  ·simp only[Zfd e,decide_eq_true e,Bool.true_or,Option.isSome_some]
  ·rw[Zfi e,decide_eq_false e,Bool.false_or];exact Znf k r
theorem Zcq(kvs:List (κ×V))(k:κ)(v:V):(putK kvs k v).length≤kvs.length+1:=by
 unfold putK
 split
 ·rw[Xd];omega
 ·rw[XF,QS,Bw];omega
theorem RelO.isSome_eq{o:Option V}{u:Option Xe}(r:RelO o u):o.isSome=u.isSome:=by
 cases o with
 | none=>cases u with
  | none=>rfl
  | some _=>exact(show False from r).elim
 | some _=>cases u with
  | none=>exact(show False from r).elim
  | some _=>rfl
theorem RelO.getD{o:Option V}{u:Option Xe}{d:V}{d':Xe}(r:RelO o u)(rd:RelV d d'):RelV (o.getD d) (u.getD d'):=by
 cases o with
 | none=>cases u with
  | none=>exact rd
  | some _=>exact(show False from r).elim
 | some _=>cases u with
  | none=>exact(show False from r).elim
  | some _=>exact r
theorem KV.val{kvs:List (κ×V)}{vs:List (κ×Xe)}(r:KV kvs vs)(k:κ):RelO (Zo5 kvs k) (valueAt vs k):=by
 unfold KV at r
 induction r with
 | nil=>exact Vp
 | @cons p q ps qs h t ih=>
  obtain⟨h1,h2⟩:=h
  by_cases e:p.1=k
  ·have e':q.1=k:=h1.symm.trans e
   have b:valueAt (q :: qs) k=some q.2:=by simp[valueAt,V7,e']
   rw[Zfd e,b];exact h2
  ·have e':¬q.1=k:=λz=>e (h1.trans z)
   have b:valueAt (q :: qs) k=valueAt qs k:=by simp[valueAt,V7,e']
   rw[Zfi e,b];exact ih
theorem KV.any{kvs:List (κ×V)}{vs:List (κ×Xe)}(r:KV kvs vs)(k:κ):(kvs.any λkv=>decide (kv.1=k))=vs.any λkv=>decide (kv.1=k):=by
 unfold KV at r
 induction r with
 | nil=>rfl
 | cons h t ih=>rw[V5,V5,ih,h.1]
theorem KV.repl{kvs:List (κ×V)}{vs:List (κ×Xe)}(r:KV kvs vs)(k:κ){y:V}{u:Xe}(ry:RelV y u) :
  KV (kvs.map λkv=>if kv.1=k then(kv.1,y)else kv) (vs.map λkv=>if kv.1=k then(kv.1,u)else kv):=by
 unfold KV at r⊢
 induction r with
 | nil=>exact .nil
 | @cons p q ps qs h t ih=>
  rw[X3,X3]
  refine .cons ?_ ih
  obtain⟨h1,h2⟩:=h
  by_cases e:p.1=k
  ·rw[if_pos e,if_pos (h1.symm.trans e)];exact⟨h1,ry⟩
  ·rw[if_neg e,if_neg (λz=>e (h1.trans z))];exact⟨h1,h2⟩
theorem KV.put{kvs:List (κ×V)}{vs:List (κ×Xe)}(r:KV kvs vs)(k:κ){y:V}{u:Xe}(ry:RelV y u):KV (putK kvs k y) (stored vs k u):=by
 unfold putK stored
 rw[r.any k]
 by_cases e:(vs.any λkv=>decide (kv.1=k))=true
 ·rw[if_pos e,if_pos e];exact r.repl k ry
 ·rw[if_neg e,if_neg e];exact Paired.snoc r ⟨rfl,ry⟩
theorem KV.length{kvs:List (κ×V)}{vs:List (κ×Xe)}(r:KV kvs vs):kvs.length=vs.length:=Paired.length r
end
theorem Zsd{P:XS}{w:Qq}{k:Key}{u:Xe}(r:RelV (kV k) u):(Wg P w).is k u=true:=by
 cases k with
 | inl i=>obtain⟨t,e⟩:=(show∃t,u=Vm i t from r);subst e;exact Zmg P w i t
 | inr x=>obtain⟨t,e⟩:=(show∃t,u=Value.str x t from r);subst e;exact Zmi P w x t
theorem Zkv{P:XS}{w:Qq}:∀{ks:List Key} {us:List Xe},Vals (ks.map kV) us->ItemsAre (Wg P w) ks us
 | [],_,r=>by rw[List.map_nil]at r;cases r;exact .nil
 | k :: ks,_,r=>by
  rw[X3]at r
  cases r with
  | cons h t=>exact .cons (Zsd h) (Zkv t)
noncomputable abbrev KT(H:Hp):List (List Key×V)->List (List Key×Addr×Xe)->Prop:=Paired λp q=>p.1=q.1∧H q.2.1=some (.tup (p.1.map kV))∧RelV p.2 q.2.2
theorem KT.val{H:Hp}{kvs:List (List Key×V)}{xs:List (List Key×Addr×Xe)}(r:KT H kvs xs)(k:List Key):RelO (Zo5 kvs k) ((atKey xs k).map (·.2)):=by
 induction r with
 | nil=>exact Vp
 | @cons p q ps qs h t ih=>
  obtain⟨h1,_,h2⟩:=h
  by_cases e:p.1=k
  ·have e':q.1=k:=h1.symm.trans e
   have b:atKey (q :: qs) k=some q.2:=by simp[atKey,V7,e']
   rw[Zfd e,b];exact h2
  ·have e':¬q.1=k:=λz=>e (h1.trans z)
   have b:atKey (q :: qs) k=atKey qs k:=by simp[atKey,V7,e']
   rw[Zfi e,b];exact ih
theorem KT.repl{H:Hp}{kvs:List (List Key×V)}{xs:List (List Key×Addr×Xe)}(r:KT H kvs xs)(k:List Key){y:V}{u:Xe}(ry:RelV y u) :
  KT H (kvs.map λkv=>if kv.1=k then(kv.1,y)else kv) (xs.map (putAt k u)):=by
 induction r with
 | nil=>exact .nil
 | @cons p q ps qs h t ih=>
  rw[X3,X3]
  refine .cons ?_ ih
  obtain⟨h1,h2,h3⟩:=h
  unfold putAt
  by_cases e:p.1=k
  ·rw[if_pos e,if_pos (h1.symm.trans e)];exact⟨h1,h2,ry⟩
  ·rw[if_neg e,if_neg (λz=>e (h1.trans z))];exact⟨h1,h2,h3⟩
theorem KT.put{H:Hp}{kvs:List (List Key×V)}{xs:List (List Key×Addr×Xe)}(r:KT H kvs xs)(k:List Key){b:Addr}{y:V}{u:Xe}(hb:H b=some (.tup (k.map kV)))(ry:RelV y u) :
  KT H (putK kvs k y) (storedH xs k b u):=by
 have e:(kvs.any λkv=>decide (kv.1=k))=(atKey xs k).isSome:=by
  rw[Znf,(r.val k).isSome_eq,Option.isSome_map]
 unfold putK storedH
 rw[e]
 by_cases q:(atKey xs k).isSome=true
 ·rw[if_pos q,if_pos q];exact r.repl k ry
 ·rw[if_neg q,if_neg q];exact Paired.snoc r ⟨rfl,hb,ry⟩
theorem KT.keeps{H H':Hp}{kvs:List (List Key×V)}{xs:List (List Key×Addr×Xe)}(r:KT H kvs xs)(ht:∀b ys,H b=some (.tup ys)->H' b=some (.tup ys)):KT H' kvs xs :=
 Paired.mapP r λ_ _ z=>⟨z.1,ht _ _ z.2.1,z.2.2⟩
section
variable {P:XS}{w:Qq}{H:Hp}{h:Heap}{a:Addr}
theorem Z8q{u:HO}(ok:HOk P w H h)(e:Rd H a u):ObjOk P w H h a u:=e.ok ok
theorem Zr4{kvs:List (Key×V)}(ok:HOk P w H h)(e:Rd H a (.dK kvs)):kvs.length≤Xq∧(a==V2)=false∧∃vs,KV kvs vs∧h.DictOf (Wg P w) a vs :=
 show ObjOk P w H h a (.dK kvs)from Z8q ok e
theorem Z7i{kvs:List (Key×V)}(ok:HOk P w H h)(e:H a=some (.dK kvs)):kvs.length≤Xq∧(a==V2)=false∧∃vs,KV kvs vs∧h.DictOf (Wg P w) a vs:=Zr4 ok (.inl e)
theorem Zmw{ks:List Key}(ok:HOk P w H h)(e:H a=some (.tup (ks.map kV))):(tupleKind (Wg P w)).is h ks a:=by
 obtain⟨_,its,r,o,h1,h2,n,h3⟩:=(show ObjOk P w H h a (.tup (ks.map kV))from ok a _ e)
 exact⟨o,its.toArray,n,h1,h2,h3,by simpa using Zkv r⟩
theorem Zv4{kvs:List (List Key×V)}(ok:HOk P w H h)(e:Rd H a (.dT kvs)):kvs.length≤Xq∧(a==V2)=false∧
  ∃xs,KT H kvs xs∧h.DictOfH (tupleKind (Wg P w)) a xs:=by
 obtain⟨z,y,xs,r,o,es,ep,h1,h2,h3,h4,h5⟩:=(show ObjOk P w H h a (.dT kvs)from Z8q ok e)
 refine⟨z,y,xs,r,o,es,ep,h1,h2,h3,h4,λx hx=>?_,h5⟩
 have all:∀{l:List (List Key×V)} {m:List (List Key×Addr×Xe)},KT H l m->∀x∈m,(tupleKind (Wg P w)).is h x.1 x.2.1:=by
  intro l m q
  induction q with
  | nil=>intro x hx;exact nomatch hx
  | @cons p q ps qs hq t ih=>
   intro x hx
   rcases Xp.mp hx with e|hx
   ·subst e
    exact Zmw ok (by rw[←hq.1];exact hq.2.1)
   ·exact ih x hx
 exact all r x hx
theorem Ya5{kvs:List (List Key×V)}(ok:HOk P w H h)(e:H a=some (.dT kvs)):kvs.length≤Xq∧(a==V2)=false∧
  ∃xs,KT H kvs xs∧h.DictOfH (tupleKind (Wg P w)) a xs:=Zv4 ok (.inl e)
end
noncomputable def DGet(H:Hp)(a:Addr)(y:V)(r:Option V):Prop :=
 (∃ kvs k,Rd H a (.dK kvs)∧y=kV k∧r=Zo5 kvs k)∨∃kvs k b,Rd H a (.dT kvs)∧y= .ref b∧H b=some (.tup (k.map kV))∧r=Zo5 kvs k
noncomputable def DPut(H:Hp)(a:Addr)(y v:V)(H':Hp):Prop :=
 (∃ kvs k,H a=some (.dK kvs)∧y=kV k∧kvs.length<Xq∧H'=upd H a (.dK (putK kvs k v)))∨
 ∃kvs k b,H a=some (.dT kvs)∧y= .ref b∧H b=some (.tup (k.map kV))∧kvs.length<Xq∧H'=upd H a (.dT (putK kvs k v))
theorem DGet.k{H:Hp}{a:Addr}{kvs:List (Key×V)}{k:Key}(e:H a=some (.dK kvs)):DGet H a (kV k) (Zo5 kvs k):=.inl ⟨kvs,k,.inl e,rfl,rfl⟩
theorem DGet.t{H:Hp}{a b:Addr}{kvs:List (List Key×V)}{k:List Key}(e:H a=some (.dT kvs))(eb:H b=some (.tup (k.map kV))):DGet H a (.ref b) (Zo5 kvs k):=.inr ⟨kvs,k,b,.inl e,rfl,eb,rfl⟩
theorem DPut.k{H:Hp}{a:Addr}{kvs:List (Key×V)}{k:Key}{v:V}(e:H a=some (.dK kvs))(hl:kvs.length<Xq):DPut H a (kV k) v (upd H a (.dK (putK kvs k v))):=.inl ⟨kvs,k,e,rfl,hl,rfl⟩
theorem DPut.t{H:Hp}{a b:Addr}{kvs:List (List Key×V)}{k:List Key}{v:V}(e:H a=some (.dT kvs))(eb:H b=some (.tup (k.map kV)))(hl:kvs.length<Xq) :
  DPut H a (.ref b) v (upd H a (.dT (putK kvs k v))):=.inr ⟨kvs,k,b,e,rfl,eb,hl,rfl⟩
section
variable {X:Cx}{pins:List (Addr×Obj)}{σ:St}{H:Hp}{s:Xg}{a:Addr}{y v:V}{u r:Xe}{o:Option V}{A:Qs}{E:Xe->Xg->Prop}
theorem Inv.big(I:Inv X pins σ H s):V2<s.heap.objs.size:=by
 have h:Qj<s.heap.objs.size:=(I.mod.glob.keeps I.bk).lt
 exact Vg (by decide) h
theorem Zth{Q:Xe->Xg->Prop}(hu:A.units+1<V8)(I:Inv X pins σ H s)(g:DGet H a y (some v))(ry:RelV y u)(h:∀w' s',Inv X pins σ H s'->RelV v w'->Q w' s') :
  XD (XR X.prog X.w) A (getItem (.ref a) u) Q E s:=by
 rcases g with⟨kvs,k,e,ey,l⟩|⟨kvs,k,b,e,ey,eb,l⟩
 ·subst ey
  obtain⟨z,hd,vs,rel,dd⟩:=Zr4 I.hok e
  obtain⟨w',hw,rw'⟩:=RelO.some_of (v:=v) (o:=valueAt vs k) (by rw[l];exact rel.val k)
  exact wpAny_getItem_of (Zsd ry) dd.mapOf hw (h w' _ (I.tok _) rw')
 ·subst ey
  cases(show u=Qn b from ry)
  obtain⟨z,hd,xs,rel,dd⟩:=Zv4 I.hok e
  obtain⟨w',hw,rw'⟩:=RelO.some_of (v:=v) (o:=(atKey xs k).map (·.2)) (by rw[l];exact rel.val k)
  obtain⟨p,hp,hp2⟩:=X7.mp hw
  refine wpAny_getItem_heap (tupleKind_room_in1 hu) (Zmw I.hok eb) dd hp ?_
  rw[hp2]
  exact h w' _ (I.tok _) rw'
theorem Z2u{Q:Xe->Xg->Prop}(hu:A.units+1<V8)(I:Inv X pins σ H s)(g:DGet H a y o)(ry:RelV y u)(h:∀s',Inv X pins σ H s'->Q (.bool (!o.isSome)) s') :
  XD (XR X.prog X.w) A (Qx .NotIn u (.ref a)) Q E s:=by
 rcases g with⟨kvs,k,e,ey,l⟩|⟨kvs,k,b,e,ey,eb,l⟩
 ·subst ey
  obtain⟨z,hd,vs,rel,dd⟩:=Zr4 I.hok e
  refine wpAny_notIn_of (Zsd ry) hd dd.mapOf ?_
  rw[←(rel.val k).isSome_eq,←l]
  exact h _ (I.tok _)
 ·subst ey
  cases(show u=Qn b from ry)
  obtain⟨z,hd,xs,rel,dd⟩:=Zv4 I.hok e
  refine wpAny_notIn_heap (tupleKind_room_in1 hu) (Zmw I.hok eb) hd dd ?_
  have q:=(rel.val k).isSome_eq
  rw[Option.isSome_map]at q
  rw[←q,←l]
  exact h _ (I.tok _)
theorem Zlv{h':Heap}{t':Nat}{ob:HO}(I:Inv X pins σ H s)(mu:Mut (H a))(hs:JM a s.heap h')(he:∃q,h'.get? a=some q)(new:ObjOk X.prog X.w (upd H a ob) h' a ob) :
  Inv X pins σ (upd H a ob) { s with heap:=h',toks:=t' } :=
 I.write (x:=a) (e:=a) mu (.inl rfl) (λb q hb z=>(hs.2 b hb).trans z) he new
theorem Zx9{P:XS}{w:Qq}{H':Hp}{h':Heap}{kvs:List (Key×V)}{vs:List (Key×Xe)}(z:kvs.length≤Xq)(hd:(a==V2)=false)(rel:KV kvs vs)(dd:h'.DictOf (Wg P w) a vs) :
  ObjOk P w H' h' a (.dK kvs):=⟨z,hd,vs,rel,dd⟩
theorem Zrg{H':Hp}{Q:Unit->Xg->Prop}(hu:A.units+1<V8)(I:Inv X pins σ H s)(g:DPut H a y v H')(ry:RelV y u)(rv:RelV v r)(h:∀s',Inv X pins σ H' s'->Q () s') :
  XD (XR X.prog X.w) A (setItem (.ref a) u r) Q E s:=by
 rcases g with⟨kvs,k,e,ey,l,eH⟩|⟨kvs,k,b,e,ey,eb,l,eH⟩
 ·subst ey eH
  obtain⟨z,hd,vs,rel,dd⟩:=Z7i I.hok e
  have hz:vs.length≤Xq:=by rw[←rel.length];exact z
  have hl:(putK kvs k v).length≤Xq:=by have:=Zcq kvs k v;omega
  refine wpAny_setItem_pairs (hsz:=hz) (Zsd ry) dd λh' dd' hs=>h _ ?_
  have he:∃q,h'.get? a=some q:=let⟨q,_,_,hq,_⟩:=dd';⟨q,hq⟩
  exact Zlv I (by rw[e];exact Vp) hs he (Zx9 hl hd (rel.put k rv) dd')
 ·subst ey eH
  cases(show u=Qn b from ry)
  obtain⟨z,hd,xs,rel,dd⟩:=Ya5 I.hok e
  have hz:xs.length≤Xq:=by rw[←Paired.length rel];exact z
  have hl:(putK kvs k v).length≤Xq:=by have:=Zcq kvs k v;omega
  refine wpAny_setItem_heap (hsz:=hz) (tupleKind_room_in1 hu) (Zmw I.hok eb) dd λh' dd' hs=>h _ ?_
  obtain⟨q,es,ep,hq,h2,h3,h4,_,h5⟩:=dd'
  refine Zlv I (by rw[e];exact Vp) hs ⟨q,hq⟩ ⟨hl,hd,_,(rel.put k eb rv).keeps λc ys ec=>?_,q,es,ep,hq,h2,h3,h4,h5⟩
  rw[Zn (Yck ec e (λz=>nomatch z))]
  exact ec
end
section
variable {X:Cx}{pins:List (Addr×Obj)}{σ:St}{H:Hp}{s:Xg}{a:Addr}{kvs:List (Key×V)}{k:Key}{u:Xe}{A:Qs}{E:Xe->Xg->Prop}
end
noncomputable def Yaa(i:Expr):Prop:=∀ov iv,subscripted i false ov iv=operate [ov,iv] (getItem ov iv)
theorem Zzr{prog:XS}{w:Qq}{A:Qs}{E:Xe->Xg->Prop}{s:Xg}{env:Env}{value slice:Expr}{pos:Pos}{T id:String}{Q:Xe->Xg->Prop}
  (hl:typeLookup (.type T) "__getitem__"=pure (some (.builtin id))) (hs:Yaa slice)
  (h:XD (XR prog w) A (eval value env) (λo s₁=>XD (XR prog w) A (eval slice env) (λi s₂=>s₂.TypeIs o T∧XD (XR prog w) A (getItem o i) Q E s₂) E s₁) E s) :
  XD (XR prog w) A (eval (.Subscript value slice pos) env) Q E s:=by
 refine Subscript_ (Be h (λo s₁ h₁=>Be h₁ (λi s₂ h₂=>?_) λ_ _ x=>x) λ_ _ x=>x)
 obtain⟨hT,h₂⟩:=h₂
 unfold subscriptTail
 refine Xb ?_
 rw[getitemInPython_of_ne hT.not_modules]
 refine Xb (wpAny_specialOf hT hl ?_)
 have fin:XD (XR prog w) A (subscripted slice false o i) (λr s₃=>XD (XR prog w) A (letTemporaryGo value o r>>= λ_=>pure r) Q E s₃) E s₂:=by
  rw[hs o i]
  exact wpAny_operating (Be h₂ (λr s₃ h₃=>Xb (wpAny_letTemporaryGo (Xm h₃))) λ_ _ x=>x)
 first
  | exact Xm (Xb fin)
  | exact Xb (Xm (Xb fin))
  | exact Xb fin
theorem Zll{X:Cx}{pins:List (Addr×Obj)}{σ:St}{H:Hp}{s:Xg}{a:Addr}{y:V}{o:Option V}(I:Inv X pins σ H s)(g:DGet H a y o):s.TypeIs (.ref a) "dict" :=by
 rcases g with⟨kvs,k,e,_,_⟩|⟨kvs,k,b,e,_,_,_⟩
 ·obtain⟨_,_,vs,_,dd⟩:=Zr4 I.hok e
  exact dd.typeIs
 ·obtain⟨_,_,xs,_,dd⟩:=Zv4 I.hok e
  exact dd.typeIs
noncomputable def Yco(td ty:TE):TE:=λσ H Q=>td σ H λx H1=>ty σ H1 λy H2=>∃a v,x= .ref a∧DGet H2 a y (some v)∧Q v H2
noncomputable def Ycq(td ty tv:TE):TS:=λD σ H=>tv σ H λv H1=>td σ H1 λx H2=>ty σ H2 λy H3=>∃a H4,x= .ref a∧DPut H3 a y v H4∧D.nx σ H4
section
variable {X:Cx}{o i e value:Expr}{pos pos' tpos:Pos}{td ty tv:TE}
theorem Zz2(hu:X.A.units+1<V8)(ho:PE X o td)(hi:PE X i ty)(hs:Yaa i):PE X (.Subscript o i pos) (Yco td ty):=by
 intro pins s σ H Q I h
 refine Zzr PySem.F.slot_dict_getitem.lookup hs (thn (ho pins s σ H _ I h) λu s1 ⟨x,H1,I1,rx,q1⟩=>thn (hi pins s1 σ H1 _ I1 q1) λiv s2 ⟨y,H2,I2,ry,a,v,ex,g,q2⟩=>?_)
 subst ex
 obtain rfl:u=Qn a:=rx
 exact⟨Zll I2 g,Zth hu I2 g ry λw' s3 I3 rw'=>⟨v,H2,I3,rw',q2⟩⟩
theorem Zyv(hu:X.A.units+1<V8)(ho:PE X o td)(hi:PE X i ty)(hv:PE X value tv)(hs:Br value (some (.Subscript o i pos')) pos.line X.env=pure false) :
  PS X (.Assign [.Subscript o i pos'] value pos) (Ycq td ty tv):=by
 intro pins s σ H D I h
 refine wpAny_Assign_Subscript (thn (hv pins s σ H _ I h) λr s1 ⟨v,H1,I1,rv,q1⟩=>thn (ho pins s1 σ H1 _ I1 q1) λu s2 ⟨x,H2,I2,rx,q2⟩=>thn (hi pins s2 σ H2 _ I2 q2) λiv s3 ⟨y,H3,I3,ry,a,H4,ex,g,q3⟩=>?_) hs
 subst ex
 obtain rfl:u=Qn a:=rx
 exact Zrg hu I3 g ry rv λs4 I4=>⟨σ,H4,I4,q3⟩
end
theorem Zul{P:XS}{w:Qq}{H:Hp}(h:Heap)(hb:V2<h.objs.size):ObjOk P w H (h.push { cls:=.type "dict",data:=.dict #[] }) h.objs.size (.dK []) :=
 ⟨Qy _,beq_eq_false_iff_ne.mpr (Bl (Xo hb)),[],.nil,Heap.DictOf.new h⟩
section
variable {X:Cx}{pos:Pos}
end
noncomputable def Zp0:List (TE×TE)->St->Hp->(List (V×V)->Hp->Prop)->Prop
 | [],_,H,Q=>Q [] H
 | (tk,tv) :: r,σ,H,Q=>tk σ H λx H1=>tv σ H1 λy H2=>Zp0 r σ H2 λps H3=>Q ((x,y) :: ps) H3
noncomputable abbrev VV:List (V×V)->List (Xe×Xe)->Prop:=Paired λp q=>RelV p.1 q.1∧RelV p.2 q.2
noncomputable def PPs(X:Cx)(pos:Pos)(keys:List (Option Expr))(values:List Expr)(trs:List (TE×TE)):Prop :=
 ∀(pins:List (Addr×Obj)) (s:Xg) (σ:St) (H:Hp) (Q:List (V×V)->Hp->Prop),Inv X pins σ H s->Zp0 trs σ H Q ->
  XD (XR X.prog X.w) X.A (evalPairs (pairTrees keys values X.env pos)) (λvs s'=>∃ps H',Inv X pins σ H' s'∧VV ps vs∧Q ps H') X.xe s
theorem Z2z{X:Cx}{pos:Pos}:PPs X pos [] [] []:=λpins s σ H Q I h=>pairTrees_nil_walk ⟨[],H,I,.nil,h⟩
theorem Zu2{X:Cx}{pos:Pos}{k v:Expr}{ks:List (Option Expr)}{vs:List Expr}{tk tv:TE}{trs:List (TE×TE)}(hk:PE X k tk)(hv:PE X v tv)(hr:PPs X pos ks vs trs) :
  PPs X pos (some k :: ks) (v :: vs) ((tk,tv) :: trs):=λpins s σ H Q I h=>
 pairTrees_cons_walk (thn (hk pins s σ H _ I h) λu s1 ⟨x,H1,I1,rx,q1⟩=>thn (hv pins s1 σ H1 _ I1 q1) λw2 s2 ⟨y,H2,I2,ry,q2⟩=>
  thn (hr pins s2 σ H2 _ I2 q2) λws s3 ⟨ps,H3,I3,rel,q3⟩=>⟨(x,y) :: ps,H3,I3,.cons ⟨rx,ry⟩ rel,q3⟩)
noncomputable def Zeu(kvs more:List (Key×V)):List (Key×V):=more.foldl (λacc kv=>putK acc kv.1 kv.2) kvs
theorem KV.merge:∀{more:List (Key×V)} {rs:List (Key×Xe)} {kvs:List (Key×V)} {vs:List (Key×Xe)},KV more rs->KV kvs vs->KV (Zeu kvs more) (merged vs rs):=by
 intro more rs kvs vs r
 unfold KV at r
 induction r generalizing kvs vs with
 | nil=>intro q;exact q
 | @cons p q ps qs h t ih=>
  intro r0
  have e:KV (putK kvs p.1 p.2) (stored vs q.1 q.2):=by
   have:=r0.put p.1 h.2
   rw[←h.1];exact this
  exact ih e
theorem Zdr:∀(more kvs:List (Key×V)),(Zeu kvs more).length≤kvs.length+more.length
 | [],kvs=>by show kvs.length≤kvs.length+0;omega
 | p :: r,kvs=>by
  have h1:=Zdr r (putK kvs p.1 p.2)
  have h2:=Zcq kvs p.1 p.2
  show(Zeu (putK kvs p.1 p.2) r).length≤_
  rw[QS];omega
theorem Zho{P:XS}{w:Qq}:∀{kvs:List (Key×V)} {ws:List (Xe×Xe)},VV (kvs.map λkv=>(kV kv.1,kv.2)) ws->∃rs,Carries (Wg P w) ws rs∧KV kvs rs
 | [],_,r=>by rw[List.map_nil]at r;cases r;exact⟨[],Vp,.nil⟩
 | p :: kvs,_,r=>by
  rw[X3]at r
  cases r with
  | @cons a b as bs h t=>
   obtain⟨rs,c,q⟩:=Zho (P:=P) (w:=w) t
   obtain⟨b1,b2⟩:=b
   exact⟨(p.1,b2) :: rs,⟨Zsd h.1,rfl,c⟩,.cons ⟨rfl,h.2⟩ q⟩
noncomputable def Z90(trs:List (TE×TE)):TE:=λσ H Q=>∀p,H p=none->Zp0 trs σ (upd H p (.dK [])) λps H2=>H2 p=some (.dK [])∧∃kvs:List (Key×V),ps=kvs.map (λkv=>(kV kv.1,kv.2))∧kvs.length≤15∧Q (.ref p) (upd H2 p (.dK (Zeu [] kvs)))
theorem Z11{X:Cx}{pos:Pos}{keys:List (Option Expr)}{values:List Expr}{trs:List (TE×TE)}(h:PPs X pos keys values trs)(hall:keys.all (·.isSome)=true)(hl:keys.length=values.length)(h0:keys≠[])
  (h15:keys.length≤15):PE X (.Dict keys values pos) (Z90 trs):=by
 intro pins s σ H Q I q
 have hn:=I.hok.fresh (Xz s.heap.objs.size)
 have I1:=I.laid (a:=s.heap.objs.size) (o:=.dK []) (h':=s.heap.push { cls:=.type "dict",data:=.dict #[] }) (t':=s.toks) (λ_ _ q=>Xf _ q) (Xz _) (Zul s.heap I.big)
 refine wpAny_Dict_walk (knd:=Wg X.prog X.w) hall hl h0 h15 (thn (h pins _ σ _ _ I1 (q _ hn)) λws s2 ⟨ps,H2,I2,rel,e,kvs,ep,lk,q2⟩=>?_)
 subst ep
 obtain⟨rs,c,rk⟩:=Zho (P:=X.prog) (w:=X.w) rel
 obtain⟨z,hd,vs0,r0,dd⟩:=Z7i I2.hok e
 cases r0
 refine⟨rs,c,dd,λh' dd' hs=>⟨.ref s.heap.objs.size,_,?_,rfl,q2⟩⟩
 have hz:(Zeu [] kvs).length≤Xq:=by
  have h1:=Zdr kvs []
  rw[Bw]at h1
  rw[XN];omega
 have he:∃q,h'.get? s.heap.objs.size=some q:=let⟨q,_,_,hq,_⟩:=dd';⟨q,hq⟩
 exact Zlv I2 (by rw[e];exact Vp) hs he (Zx9 hz hd (rk.merge .nil) dd')
structure M1(X:Cx)(o:Expr)(m:Str)(apos:Pos)(e:Expr)(cpos:Pos):Prop where
 base:Bc o m X.env (eval o X.env)=eval o X.env
 few:((JD cpos (Xu [e] X.env)).all (λx=>!x.1)&&(backToKw cpos (V3 [] X.env)).all (λx=>x.1.isSome)
  &&decide (([e]:List Expr).length+([]:List Vn).length+(if([]:List Vn).isEmpty then 0 else 1)<30))=true
 line:(apos.endLine==cpos.line)=true
 trees:JD cpos (Xu [e] X.env)=[(false,eval e X.env)]
structure M2(X:Cx)(o:Expr)(m:Str)(apos:Pos)(e f:Expr)(cpos:Pos):Prop where
 base:Bc o m X.env (eval o X.env)=eval o X.env
 few:((JD cpos (Xu [e,f] X.env)).all (λx=>!x.1)&&(backToKw cpos (V3 [] X.env)).all (λx=>x.1.isSome)
  &&decide (([e,f]:List Expr).length+([]:List Vn).length+(if([]:List Vn).isEmpty then 0 else 1)<30))=true
 line:(apos.endLine==cpos.line)=true
 trees:JD cpos (Xu [e,f] X.env)=[(false,eval e X.env),(false,eval f X.env)]
noncomputable def IsD(H:Hp)(a:Addr):Prop:=(∃kvs,Rd H a (.dK kvs))∨∃kvs,Rd H a (.dT kvs)
section
variable {X:Cx}{pins:List (Addr×Obj)}{σ:St}{H:Hp}{s:Xg}{a:Addr}{y d:V}{u r:Xe}{o:Option V}{A:Qs}{E:Xe->Xg->Prop}
end
section
variable {X:Cx}{o e f:Expr}{apos cpos:Pos}{td ty tx:TE}
end
variable {G:Xc}
noncomputable def Zg4:Xa->Option Key
 | .int i=>some (.inl i)
 | .str x=>some (.inr x)
 | _=>none
noncomputable def Zlc:List Xa->Option (List Key)
 | []=>some []
 | d :: ds=>(Zg4 d).bind λk=>(Zlc ds).bind λks=>some (k :: ks)
noncomputable def Zjq:Xa->Option KY
 | .tuple ds=>(Zlc ds).map .inr
 | d=>(Zg4 d).map .inl
noncomputable def Zqw:KY->Bool
 | .inl _=>false
 | .inr _=>true
theorem Z0q(k:Key):Zg4 (Z7m k)=some k:=by cases k<;>rfl
theorem Z1k(ks:List Key):Zlc (ks.map Z7m)=some ks:=by
 induction ks with
 | nil=>rfl
 | cons k ks ih=>rw[X3,Zlc,Z0q,ih];rfl
theorem Z6u(k:KY):Zjq (kyD k)=some k:=by
 cases k with
 | inl k=>cases k<;>rfl
 | inr ks=>show(Zlc (ks.map Z7m)).map (Uz:List Key->KY)=_;rw[Z1k];rfl
noncomputable def Ztz(k:KY):List KY->List Xa->Option Xa
 | [],_=>none
 | _ :: _,[]=>none
 | j :: ks,d :: ds=>if j=k then some d else Ztz k ks ds
noncomputable def Yby(k:KY)(x:Xa):List KY->List Xa->List Xa
 | [],ds=>ds
 | _ :: _,[]=>[]
 | j :: ks,d :: ds=>(if j=k then x else d) :: Yby k x ks ds
noncomputable def Zxs(k:KY)(ks:List KY):Bool:=ks.any λj=>decide (j=k)
noncomputable def Zrw(k:KY)(ks:List KY):List KY:=if Zxs k ks=true then ks else ks ++ [k]
noncomputable def Zre(k:KY)(x:Xa)(ks:List KY)(ds:List Xa):List Xa:=if Zxs k ks=true then Yby k x ks ds else ds ++ [x]
section
variable {H:Hp}{L:Addr->Prop}{κ:Type}[DecidableEq κ]{f:κ->KY}
noncomputable def Yab(G:Xc)(H:Hp)(L:Addr->Prop)(a:Option V)(b:Option Xa):Prop:=(∃v d,a=some v∧b=some d∧Da G H L v d)∨(a=none∧b=none)
theorem look(hf:∀a b,f a=f b->a=b)(k:κ)(kvs:List (κ×V)):∀ds,Das G H L (kvs.map (·.2)) ds->Yab G H L (Zo5 kvs k) (Ztz (f k) (kvs.map λp=>f p.1) ds):=by
 induction kvs with
 | nil=>exact λds _=>.inr ⟨rfl,rfl⟩
 | cons p kvs ih=>
  intro ds h
  cases h with
  | cons h r=>
   rename_i d ds
   show Yab G H L _ (if f p.1=f k then some d else Ztz (f k) (kvs.map λp=>f p.1) ds)
   by_cases e:p.1=k
   ·rw[Zfd e,if_pos (congrArg f e)]
    exact .inl ⟨_,_,rfl,rfl,h⟩
   ·rw[Zfi e,if_neg λz=>e (hf _ _ z)]
    exact ih _ r
theorem Yen(hf:∀a b,f a=f b->a=b)(k:κ)(kvs:List (κ×V)):(kvs.any λkv=>decide (kv.1=k))=Zxs (f k) (kvs.map λp=>f p.1):=by
 unfold Zxs
 rw[List.any_map]
 refine congrArg (List.any kvs) (funext λp=>?_)
 exact decide_eq_decide.mpr ⟨congrArg f,hf _ _⟩
theorem Yg3(k:κ)(v:V)(kvs:List (κ×V)):(kvs.map (λkv=>if kv.1=k then(kv.1,v)else kv)).map (λp=>f p.1)=kvs.map λp=>f p.1:=by
 rw[Qz]
 refine Qh λp _=>?_
 show f (if p.1=k then(p.1,v)else p).1=f p.1
 by_cases c:p.1=k
 ·rw[if_pos c]
 ·rw[if_neg c]
theorem Yf5(hf:∀a b,f a=f b->a=b)(k:κ){v:V}{x:Xa}(hv:Da G H L v x)(kvs:List (κ×V)):∀ds,Das G H L (kvs.map (·.2)) ds->Das G H L ((kvs.map (λkv=>if kv.1=k then(kv.1,v)else kv)).map (·.2)) (Yby (f k) x (kvs.map λp=>f p.1) ds):=by
 induction kvs with
 | nil=>intro ds h;cases h;exact .nil
 | cons p kvs ih=>
  intro ds h
  cases h with
  | cons h r=>
   rename_i d ds
   refine .cons ?_ (ih _ r)
   show Da G H L (if p.1=k then(p.1,v)else p).2 (if f p.1=f k then x else d)
   by_cases e:p.1=k
   ·rw[if_pos e,if_pos (congrArg f e)];exact hv
   ·rw[if_neg e,if_neg λz=>e (hf _ _ z)];exact h
theorem Zm5(hf:∀a b,f a=f b->a=b)(k:κ)(v:V)(kvs:List (κ×V)):(putK kvs k v).map (λp=>f p.1)=Zrw (f k) (kvs.map λp=>f p.1):=by
 unfold putK Zrw
 rw[Yen hf]
 cases c:Zxs (f k) (kvs.map λp=>f p.1)with
 | true=>rw[if_pos rfl,if_pos rfl,Yg3]
 | false=>rw[if_neg Xv,if_neg Xv,Qg];rfl
theorem Znh(hf:∀a b,f a=f b->a=b)(k:κ){v:V}{x:Xa}(hv:Da G H L v x)(kvs:List (κ×V)){ds:List Xa}(h:Das G H L (kvs.map (·.2)) ds):Das G H L ((putK kvs k v).map (·.2)) (Zre (f k) x (kvs.map λp=>f p.1) ds):=by
 unfold putK Zre
 rw[Yen hf]
 cases c:Zxs (f k) (kvs.map λp=>f p.1)with
 | true=>rw[if_pos rfl,if_pos rfl];exact Yf5 hf k hv kvs _ h
 | false=>rw[if_neg Xv,if_neg Xv,Qg];exact h.snoc hv
end
theorem Zls:∀a b:Key,(Sum.inl a:KY)=Sum.inl b->a=b:=λ_ _ h=>Sum.inl.inj h
theorem Zln:∀a b:List Key,(Uz a:KY)=Uz b->a=b:=λ_ _ h=>Uz.inj h
section
variable {H:Hp}{L:Addr->Prop}{y:V}{e:Xa}
theorem Da.key1{k:Key}(h:Da G H L y e)(hk:Zg4 e=some k):y=kV k:=by
 cases h with
 | int i=>cases hk;rfl
 | str x=>cases hk;rfl
 | exc _ _ _=>unfold exD Zg4 at hk;cases hk
 | fn _=>unfold fnD Zg4 at hk;cases hk
 | dic _ _ _ _=>unfold dcD Zg4 at hk;cases hk
 | _=>cases hk
theorem Das.keys{xs:List V}{ds:List Xa}(h:Das G H L xs ds):∀ks,Zlc ds=some ks->xs=ks.map kV :=
 Das.ind (Q:=λxs ds=>∀ks,Zlc ds=some ks->xs=ks.map kV) (λks h=>by cases h;rfl) (fun{x xs d ds} h _ ih ks hk=>by
  rw[Zlc]at hk
  obtain⟨k,h1,hk⟩:=bs hk
  obtain⟨ks',h2,hk⟩:=bs hk
  cases hk
  rw[h.key1 h1,ih _ h2];rfl) h
theorem Da.keyT{ks:List Key}(h:Da G H L y e)(hk:Zjq e=some (.inr ks)):∃b,y= .ref b∧H b=some (.tup (ks.map kV)):=by
 cases h with
 | tup e1 r=>
  rw[Zjq]at hk
  obtain⟨ks',h1,h2⟩:=X7.mp hk
  cases h2
  exact⟨_,rfl,by rw[←r.keys _ h1];exact e1⟩
 | exc _ _ _=>unfold exD Zjq Zg4 at hk;cases hk
 | fn _=>unfold fnD Zjq Zg4 at hk;cases hk
 | dic _ _ _ _=>unfold dcD Zjq Zg4 at hk;cases hk
 | _=>cases hk
theorem Da.keyS{k:Key}(h:Da G H L y e)(hk:Zjq e=some (.inl k)):y=kV k:=by
 refine h.key1 ?_
 unfold Zjq at hk
 split at hk
 ·obtain⟨_,_,z⟩:=X7.mp hk;cases z
 ·obtain⟨_,h1,z⟩:=X7.mp hk;cases z;exact h1
noncomputable def Zhb(k:KY):List (Xa×Xa)->Option Xa
 | []=>none
 | p :: r=>if Zjq p.1=some k then some p.2 else Zhb k r
theorem Zfs(k:KY)(ks:List KY):∀ds,Zhb k ((ks.map kyD).zip ds)=Ztz k ks ds:=by
 induction ks with
 | nil=>intro ds;rfl
 | cons j ks ih=>
  intro ds
  cases ds with
  | nil=>rfl
  | cons d ds=>
   show(if Zjq (kyD j)=some k then some d else Zhb k ((ks.map kyD).zip ds))=if j=k then some d else Ztz k ks ds
   rw[Z6u,ih]
   by_cases c:j=k
   ·rw[if_pos c,if_pos (congrArg some c)]
   ·rw[if_neg c,if_neg λz=>c (Qu z)]
theorem Da.dget{x:V}{t:Bool}{kvs:List (Xa×Xa)}{k:KY}(h:Da G H L x (.dict ((.none,.bool t) :: kvs)))(hy:Da G H L y e)(hk:Zjq e=some k)(ht:Zqw k=t):∃a o,x= .ref a∧IsD H a∧DGet H a y o∧Yab G H L o (Zhb k kvs):=by
 generalize ed:Xa.dict ((.none,.bool t) :: kvs)=d at h
 cases h with
 | dic l r dk q=>
  rename_i a o t' ks xs ds
  unfold dcD at ed
  injection ed with ed
  injection ed with e1 e2
  injection e1 with _ e1
  injection e1 with e1
  subst e1 e2
  rw[Zfs]
  cases o with
  | lst _=>exact dk.elim
  | dK kv=>
   obtain⟨rfl,rfl,rfl⟩:=dk
   cases k with
   | inr _=>cases ht
   | inl k=>exact⟨a,_,rfl,.inl ⟨kv,r⟩,.inl ⟨kv,k,r,hy.keyS hk,rfl⟩,look Zls k kv _ q⟩
  | dT kv=>
   obtain⟨rfl,rfl,rfl⟩:=dk
   cases k with
   | inl _=>cases ht
   | inr k=>
    obtain⟨b,hb,eb⟩:=hy.keyT hk
    exact⟨a,_,rfl,.inr ⟨kv,r⟩,.inr ⟨kv,k,b,r,hb,eb,rfl⟩,look Zln k kv _ q⟩
 | exc _ _ _=>unfold exD at ed;cases ed
 | fn _=>unfold fnD at ed;cases ed
 | _=>cases ed
end
variable {G:Xc}
section
variable {X:Cx}{io:List Nat}{p c p' c':Bool}{a b e f o:Expr}{ma mb m mi mo me mf:MEt}{pos pp apos cpos px:Pos}{i:Nat}{x:Str}
theorem hu1{n:Nat}(h:n+64<V8):n+1<V8:=Nat.lt_of_le_of_lt (Nat.add_le_add_left (by decide:1≤64) _) h
noncomputable def Zph:Xa->Xa->Option OT:=λd e=>match d with
 | .dict ((.none,.bool t) :: kvs)=>(Zjq e).bind λk=>if Zqw k=t then(Zhb k kvs).map OT.fz else none
 | _=>none
noncomputable def Ycd:Xa->Xa->(OT->Prop)->Prop:=λd e k=>∃r,Zph d e=some r∧k r
noncomputable def Yeu:R2:=λx y H Q=>∃a v,x= .ref a∧DGet H a y (some v)∧Q v H
theorem Z8s:ByO Zph Ycd:=λ_ _ r _ h hk=>⟨r,h,hk⟩
theorem Z8x:P2 G Yeu Ycd:=λH L x y d e k Q hx hy h kk=>by
 obtain⟨r,h,hk⟩:=h
 unfold Zph at h
 split at h
 case h_2=>cases h
 rename_i t kvs
 obtain⟨ky,h1,h⟩:=bs h
 by_cases ht:Zqw ky=t
 ·rw[if_pos ht]at h
  obtain⟨a,o,rfl,_,g,R⟩:=hx.dget hy h1 ht
  obtain⟨z,hz,rfl⟩:=X7.mp h
  rcases R with⟨v,d,rfl,hd,q⟩|⟨_,hd⟩
  ·rw[hz]at hd
   cases hd
   exact⟨a,v,rfl,g,kk H v (.fz z) [] (Same.refl _) (.fz (q.wide λa l _=>⟨.inl l,λm=>nomatch m⟩)) .nil (λa m=>nomatch m) hk⟩
  ·rw[hz]at hd;cases hd
 ·rw[if_neg ht]at h;cases h
theorem Z4d(hu:X.A.units+64<V8)(ha:ME X io p c a ma)(hb:ME X io p' c' b mb)(hc:p'=true∨c=true:=by first|exact Qw rfl|exact Qo rfl)(hs:Yaa b):ME X io (p&&p') (c&&c') (.Subscript a b pos) (Z7k Ycd ma mb):=by
 obtain⟨_,A,sa⟩:=ha
 obtain⟨_,B,sb⟩:=hb
 exact⟨_,Zz2 (hu1 hu) A B hs,Yax (r:=Yeu) Z8x sa sb hc⟩
theorem Rel.ownDc{C:MC G}{H:Hp}{σ:St}{δ:Zf}{fp:Fp}{ex:Addr->Prop}{t:Bool}{ks:List KY}{ds:List Xa}(R:Rel C io H σ δ fp ex)(hi:δ[i]? =some (some (.dc t ks ds))) :
  ∃a' ob xs,σ[i]? =some (some (.ref a'))∧H a'=some (MuO.ho ob)∧ob.dic t ks xs∧Das G H (Lf C fp ex) xs ds∧fp i=[a']:=by
 obtain⟨v,e,o⟩:=R.own i _ hi
 generalize hf:fp i=as at o
 cases o with
 | dc h k r=>exact⟨_,_,_,e,h,k,r,rfl⟩
theorem Rel.topD{C:MC G}{H:Hp}{σ:St}{δ:Zf}{fp:Fp}{ex:Addr->Prop}{t:Bool}{ks ks':List KY}{ds ds':List Xa}{a':Addr}{ob ob':MuO}{ys:List V}(R:Rel C io H σ δ fp ex)(hi:δ[i]? =some (some (.dc t ks ds)))(hv:σ[i]? =some (some (.ref a')))
  (hf:fp i=[a']) (hx:H a'=some ob.ho) (dk:ob'.dic t ks' ys) (o:Das G H (Lf C fp ex) ys ds') :
  Rel C io (upd H a' ob'.ho) σ (δ.set i (some (.dc t ks' ds'))) (fpu fp i [a']) ex∧Stp false H δ fp (upd H a' ob'.ho) (δ.set i (some (.dc t ks' ds'))) (fpu fp i [a']):=by
 have hm:a'∈fp i:=by rw[hf];exact .head _
 have ne':∀a,¬Foot fp a->a≠a':=λa h z=>h ⟨i,by rw[z];exact hm⟩
 have kp:∀b o,H b=some o->b≠a'->upd H a' ob'.ho b=some o:=λb o e n=>by rw[Zn n];exact e
 have sub:∀a,a∈[a']->a∈fp i:=λa m=>by rw[hf];exact m
 have o':Das G (upd H a' ob'.ho) (Lf C (fpu fp i [a']) (exu ex [])) ys ds':=by
  have f0:∀a,¬Foot fp a->¬Foot (fpu fp i [a']) a:=λa h z=>by
   rcases z.of_u with z|⟨j,_,z⟩
   ·exact h ⟨i,sub a z⟩
   ·exact h ⟨j,z⟩
  refine o.frame (λa zs l q=>⟨⟨f0 a l.1,λz=>l.2.1 (Js.mp z),l.2.2⟩,?_⟩) λa zs q=>kp a _ q λz=>ImO.nm q (z▸hx)
  rcases q with q|⟨u,q⟩
  ·exact .inl (kp a _ q (ne' a l.1))
  ·exact .inr ⟨u,kp a _ q (ne' a l.1)⟩
 have key:=R.change (new:=[]) (as':=[a']) (t':=.dc t ks' ds') (H':=upd H a' ob'.ho) hi hv (λb o e nb=>kp b o e λz=>nb (by rw[z];exact hm)) (λb e=>by
   by_cases q:b=a'
   ·subst q;rw[Zr]at e;cases e
   ·rwa[Zn q]at e) (.dc Zr dk o') (Zch a') (λa m=>.inl (sub a m)) (λa m=>nomatch m)
 exact⟨key.1.drop λa z=>.inl z,key.2⟩
noncomputable def Z3s(i:Nat)(m mi:MEt):MSt:=λD δ=>m δ λr δ1=>match δ1[i]? with
 | some (some (.dc t ks ds))=>mi δ1 λn _=>match Zjq n.data with
  | some k=>(Zqw k=t∧ks.length<Xq)∧D.nx (δ1.set i (some (.dc t (Zrw k ks) (Zre k r.data ks ds))))
  | none=>False
 | _=>False
theorem Zz0(i:Nat)(hu:X.A.units+64<V8)(he:ME X io p true e m)(hj:ME X io true c a mi)(hN:X.N[i]? =some x:=by rfl)(hv:Vis X.env.scope x:=by first|exact Qw rfl|exact Qo (Qw rfl)|exact Qo (Qo rfl))(hd:(x==("__debug__" : Str))=false:=by decide)
  (hcd:(x==("__classdict__" : Str))=false:=by decide)
  (hs:Br e (some (.Subscript (.Name x px) a pp)) pos.line X.env=pure false:=by rfl):MS X io (.Assign [.Subscript (.Name x px) a pp] e pos) (Z3s i m mi):=by
 obtain⟨_,A,s⟩:=he
 obtain⟨_,B,sj⟩:=hj
 refine⟨_,Zyv (hu1 hu) (pv i hN hv hd hcd) B A hs,λC H σ δ fp ex D D' R h E=>?_⟩
 refine s C H σ δ fp ex _ _ R h λH1 v r δ1 fp1 new r1 h1=>?_
 have R1:=r1.base
 have q:=(r1.da R).wide (L':=Lf C fp1 ex) λa l _=>l rfl
 split at h1
 case h_2=>exact h1.elim
 rename_i t ks ds hi
 obtain⟨a',_,_,hv0,_⟩:=R1.ownDc hi
 refine⟨_,hv0,?_⟩
 refine sj.pureAfter R1 h1 λH2 w n R2 s2 q2 h2=>?_
 split at h2
 case h_2=>exact h2.elim
 rename_i k hk
 obtain⟨⟨ht,hl⟩,h2⟩:=h2
 obtain⟨a2,ob,xs,hv2,hx,dk,o,hf⟩:=R2.ownDc hi
 rw[hv0]at hv2
 cases hv2
 have q':=q.same s2
 have kpp:Kp H1 fp1 H2 fp1:=⟨λb o e _=>s2 _ _ e,λz=>(nomatch z),λa z=>.inl z,s2.al⟩
 cases ob with
 | lst _=>exact dk.elim
 | dK kv=>
  obtain⟨rfl,rfl,rfl⟩:=dk
  rw[Xd]at hl
  cases k with
  | inr _=>cases ht
  | inl k=>
   obtain⟨R3,S3⟩:=R2.topD (ob':=.dK (putK kv k v)) hi hv0 hf hx ⟨rfl,(Zm5 Zls k v kv).symm,rfl⟩ (Znh Zls k q' kv o)
   exact⟨a',_,rfl,.inl ⟨kv,k,hx,q2.keyS hk,hl,rfl⟩,E.nx _ σ _ _ R3 (r1.stp.kp.trans (Kp.trans kpp S3.kp)) h2⟩
 | dT kv=>
  obtain⟨rfl,rfl,rfl⟩:=dk
  rw[Xd]at hl
  cases k with
  | inl _=>cases ht
  | inr k=>
   obtain⟨b',hb,eb⟩:=q2.keyT hk
   obtain⟨R3,S3⟩:=R2.topD (ob':=.dT (putK kv k v)) hi hv0 hf hx ⟨rfl,(Zm5 Zln k v kv).symm,rfl⟩ (Znh Zln k q' kv o)
   exact⟨a',_,rfl,.inr ⟨kv,k,b',hx,hb,eb,hl,rfl⟩,E.nx _ σ _ _ R3 (r1.stp.kp.trans (Kp.trans kpp S3.kp)) h2⟩
noncomputable def Zj7(i:Nat)(e j:FE):FS:=wE e λr δ1=>match δ1[i]? with
 | some (some (.dc t ks ds))=>wE j (λn _=>match Zjq n.data with
  | some k=>if Zqw k=t∧ks.length<Xq then .nx (δ1.set i (some (.dc t (Zrw k ks) (Zre k r.data ks ds))))else .bad
  | none=>.bad) δ1
 | _=>.bad
theorem Z1t{fa fb:FE}{st:Stmt}(h:MS X io st (Z3s i (o2 fa) (o2 fb))):MS X io st (oS (Zj7 i fa fb)):=h.weak λD δ h=>by
 refine(Zmo h).imp λr δ' z=>?_
 split at z
 case h_2=>exact z.elim
 rename_i q;(try rw[q])
 refine(Zmo z).imp λn δ2 z=>?_
 split at z
 case h_2=>exact z.elim
 rename_i k q2;(try rw[q2])
 exact Zda z
end
variable {G:Xc}
noncomputable def Zcs:Xa->Xa->Option Xa:=λd e=>match d,e with| .str x,.str y=>if x.length+y.length≤Xq then some (.str (x ++ y))else none|_,_=>none
noncomputable def Z51:Xa->Xa->(Xa->Prop)->Prop:=λd e k=>∃r,Zcs d e=some r∧k r
theorem Zkj:ByS Zcs Z51:=λ_ _ r _ h hk=>⟨r,h,hk⟩
theorem Zgn:P2s G (λx y H Q=>∃i j,x= .str i∧y= .str j∧i.length+j.length≤Xq∧Q (.str (i ++ j)) H) Z51:=λH L x y d e k Q hx hy h kk=>by
 obtain⟨r,h,hk⟩:=h
 unfold Zcs at h
 split at h
 case h_2=>cases h
 rename_i i j
 cases hx
 cases hy
 by_cases c:i.length+j.length≤Xq
 ·rw[if_pos c]at h
  cases h
  exact⟨i,j,rfl,rfl,c,kk _ _ (.str _) hk⟩
 ·rw[if_neg c]at h;cases h
noncomputable def Zld:Xa->Xa->Option OT:=λd e=>match d,e with| .str x,.int i=>if x.length≤Xq then(atI x.cps.toList i).map λc=>.fz (.str ⟨#[c]⟩)else none|_,_=>none
noncomputable def Yes:Xa->Xa->(OT->Prop)->Prop:=λd e k=>∃r,Zld d e=some r∧k r
theorem Zr8:ByO Zld Yes:=λ_ _ r _ h hk=>⟨r,h,hk⟩
theorem Zky:P2 G (rIx G) Yes:=λH L x y d e k Q hx hy h kk=>by
 obtain⟨r,h,hk⟩:=h
 unfold Zld at h
 split at h
 case h_2=>cases h
 rename_i z i
 cases hx
 cases hy
 by_cases c:z.length≤Xq
 ·rw[if_pos c]at h
  obtain⟨ch,h1,rfl⟩:=X7.mp h
  exact .inr (.inr ⟨z,i,ch,rfl,rfl,c,h1,kk H _ (.fz (.str ⟨#[ch]⟩)) [] (Same.refl _) (.fz (.str _)) .nil (λa m=>nomatch m) hk⟩)
 ·rw[if_neg c]at h;cases h
end L2
namespace L2
open PySem PySem.Spec PyProof.Rows PySem.W PySem.SeqAt
variable {G:Xc}
section
variable {prog:XS}{w:Qq}{A:Qs}{E:Xe->Xg->Prop}{s:Xg}
end
theorem Paired.at{α β:Type}{R:α->β->Prop}{as:List α}{bs:List β}(h:PySem.Paired R as bs):∀{i:Nat} {y:β},bs[i]? =some y->∃x,as[i]? =some x∧R x y:=by
 induction h with
 | nil=>intro i y z;cases z
 | cons h t ih=>
  intro i y z
  cases i with
  | zero=>cases z;exact⟨_,rfl,h⟩
  | succ i=>exact ih z
end L2
namespace L2
open PySem PySem.Spec PyProof.Rows
variable {G:Xc}
noncomputable def Z7d(K:Xc):R2:=λx y H Q=>Z3j K x y H Q∨∃a b ys,x= .ref a∧y= .ref b∧SqT K H a []∧SqT K H b ys∧Q (.ref b) H
theorem Z26{X:Cx}:OpR X (Vl .Add) (Z7d X.K):=by
 intro pins s σ H x y v u Q I rx ry h
 rcases h with h|h
 ·exact Zyo pins s σ H x y v u Q I rx ry h
 ·obtain⟨a,b,ys,rfl,rfl,ha,hb,q⟩:=h
  cases rx
  cases ry
  obtain⟨its,r1,p1,_⟩:=I.tuple ha
  obtain⟨its2,r2,p2,_⟩:=I.tuple hb
  cases r1
  obtain⟨⟨cls,dd,data,sl⟩,ho,hc,n,hd⟩:=id p1
  obtain⟨⟨cls2,dd2,data2,sl2⟩,ho2,hc2,n2,hd2⟩:=id p2
  simp only at hc hd hc2 hd2
  subst hc hd hc2 hd2
  exact concat_meets ⟨_,ho,rfl⟩ ⟨_,ho2,rfl⟩ noFill_tuple_add seq_tuple_add PySem.F.slot_tuple_add PySem.F.entry_tuple_add (PySem.F.args_tuple_add_2 _ _)
   (tuple_addW0 a b _ its2.toArray n n2 dd dd2 sl sl2 rfl) ⟨ho,ho2,.ref b,H,I,rfl,q⟩
noncomputable def Ztf:Xa->Xa->Option OT:=λd e=>match d,e with| .tuple ds,.tuple es=>if ds.length+es.length≤Xq then some (.fz (.tuple (ds ++ es)))else none|_,_=>none
noncomputable def Z47:Xa->Xa->(OT->Prop)->Prop:=λd e k=>∃r,Ztf d e=some r∧k r
theorem Z7a:ByO Ztf Z47:=λ_ _ r _ h hk=>⟨r,h,hk⟩
theorem Z2p:P2 G (Z7d G) Z47:=λH L x y d e k Q hx hy h kk=>by
 obtain⟨r,h,hk⟩:=h
 unfold Ztf at h
 split at h
 case h_2=>cases h
 rename_i ds es
 by_cases c:ds.length+es.length≤Xq
 ·rw[if_pos c]at h
  cases h
  have same:∀v,Da G H L v (.tuple (ds ++ es))->Q v H:=λv q=>kk H v _ [] (Same.refl _) (.fz (q.wide λa l _=>⟨.inl l,λm=>nomatch m⟩)) .nil (λa m=>nomatch m) hk
  cases hx with
  | tup e1 r1=>
   cases hy with
   | tup e2 r2=>
    rename_i a1 xs1 a2 xs2
    by_cases z:xs1=[]
    ·subst z
     cases r1
     exact .inr ⟨_,_,_,rfl,rfl,.inl (.inl e1),.inl (.inl e2),same _ (.tup e2 r2)⟩
    ·refine .inl ⟨_,_,_,_,rfl,rfl,.inl (.inl e1),.inl (.inl e2),z,by rw[r1.length,r2.length];exact c,λw=>?_,λw p hp=>?_⟩
     ·subst w
      cases r2
      rw[Qk]at same
      exact same _ (.tup e1 r1)
     ·exact kk _ _ _ [] (Zz hp _) (.fz (.tup Zr (((r1.append r2).wide λa l _=>⟨.inl l,λm=>nomatch m⟩).same (Zz hp _)))) .nil (λa m=>nomatch m) hk
 ·rw[if_neg c]at h;cases h
noncomputable def Yfa(o:Option (Option OT))(δ:Zf):Option (OT×Zf):=match o with|some (some (.fz d))=>some (.fz d,δ)|_=>none
theorem Zyl(d:Xa)(δ:Zf):Yfa (some (some (.fz d))) δ=some (.fz d,δ):=rfl
noncomputable def Z62(o:Option (Option OT))(δ:Zf):Option (OT×Zf):=match o with|some (some t)=>some (.fz t.data,δ)|_=>none
theorem Zzv(t:OT)(δ:Zf):Z62 (some (some t)) δ=some (.fz t.data,δ):=rfl
theorem Zl4(i:Nat)(δ:Zf):Zb i δ=Yfa δ[i]? δ:=rfl
theorem Z1v(i:Nat)(δ:Zf):Zco i δ=Z62 δ[i]? δ:=rfl
theorem Ycc(d:Xa)(δ:Zf):fC d δ=some (.fz d,δ):=rfl
theorem Zwb(g:Xa->Xa->Option Xa)(a b:FE)(δ:Zf):Ze g a b δ=(a δ).bind λp=>(b p.2).bind λq=>(g p.1.data q.1.data).bind λd=>some (.fz d,q.2):=rfl
theorem Z2c(g:Xa->Xa->Option OT)(a b:FE)(δ:Zf):Z4 g a b δ=(a δ).bind λp=>(b p.2).bind λq=>(g p.1.data q.1.data).bind λd=>some (d,q.2):=rfl
theorem Z6g(g:Xa->Option Xa)(a:FE)(δ:Zf):fUn g a δ=(a δ).bind λp=>(g p.1.data).bind λd=>some (.fz d,p.2):=rfl
noncomputable def onB{α:Type}(d:Xa)(x y:Option α):Option α:=match d with| .bool true=>x| .bool false=>y|_=>none
theorem Yg6{α:Type}(x y:Option α):onB (.bool true) x y=x:=rfl
theorem Yf9{α:Type}(x y:Option α):onB (.bool false) x y=y:=rfl
theorem Ybg(a b:FE)(δ:Zf):Z87 a b δ=(a δ).bind λp=>onB p.1.data (b p.2) (some (.fz (.bool false),p.2)):=by
 unfold Z87 onB
 cases a δ with
 | none=>rfl
 | some p=>first|rfl|(simp only[Xh];done)|(simp only[Xh];generalize p.1.data=d;cases d<;>first|rfl|(rename_i b;cases b<;>rfl))
theorem Ye1(a b:FE)(δ:Zf):fOr a b δ=(a δ).bind λp=>onB p.1.data (some (.fz (.bool true),p.2)) (b p.2):=by
 unfold fOr onB
 cases a δ with
 | none=>rfl
 | some p=>first|rfl|(simp only[Xh];done)|(simp only[Xh];generalize p.1.data=d;cases d<;>first|rfl|(rename_i b;cases b<;>rfl))
theorem Zxc(t:FT)(a b:FE)(δ:Zf):fIf t a b δ=(t δ).bind λp=>if p.1=true then a p.2 else b p.2:=rfl
noncomputable def Yad(t:OT)(δ:Zf):Option (Bool×Zf):=match t with| .fz (.bool b)=>some (b,δ)|_=>none
theorem Z8f(b:Bool)(δ:Zf):Yad (.fz (.bool b)) δ=some (b,δ):=rfl
theorem Yba(e:FE)(δ:Zf):tV e δ=(e δ).bind λp=>Yad p.1 p.2:=by
 unfold tV Yad
 cases e δ with
 | none=>rfl
 | some p=>rfl
theorem Z6z(t:FT)(δ:Zf):tNo t δ=(t δ).bind λp=>some (!p.1,p.2):=rfl
theorem Zx7(t u:FT)(δ:Zf):tAn t u δ=(t δ).bind λp=>if p.1=true then u p.2 else some (false,p.2):=rfl
theorem Yah(t u:FT)(δ:Zf):tO t u δ=(t δ).bind λp=>if p.1=true then some (true,p.2)else u p.2:=rfl
theorem Ybf(e:FE)(δ:Zf):tD e δ=(e δ).bind λp=>(Zu5 p.1.data).bind λb=>some (b,p.2):=rfl
theorem Ybq(δ:Zf):Zc2 δ=some (true,δ):=rfl
theorem Ybr(δ:Zf):Zm δ=some ([],δ):=rfl
theorem Zix(e:FE)(a:FA)(δ:Zf):Zc e a δ=(e δ).bind λp=>(a p.2).bind λq=>some (p.1 :: q.1,q.2):=rfl
theorem Z1l(a:FA)(δ:Zf):Zgy a δ=(a δ).bind λp=>if p.1.length≤Xq then some (.fz (.tuple (OT.datas p.1)),p.2)else none:=rfl
theorem Zpk(a:FA)(δ:Zf):Zcx a δ=(a δ).bind λp=>if p.1.length≤Xq then some (.nd p.1,p.2)else none:=rfl
theorem Zub(a:FA)(δ:Zf):Zvv a δ=(a δ).bind λp=>if p.1.length≤Xq then some (.tp p.1,p.2)else none:=rfl
theorem Z83(e:FE)(δ:Zf):Ycm e δ=(e δ).bind λp=>if Zac p.1.data=true then some (.fz p.1.data,p.2)else none:=rfl
theorem Z59(e:FE)(δ:Zf):Z4p e δ=(e δ).bind λp=>if Zy6 p.1=true then some (p.1,p.2)else none:=rfl
noncomputable def okO(x:RF)(δ:Zf):Option (OT×Zf):=match x with| .ok r=>some (r,δ)|_=>none
theorem Z4q(r:OT)(δ:Zf):okO (.ok r) δ=some (r,δ):=rfl
theorem Zm6(F:FD)(a:FA)(δ:Zf):Zv F a δ=(a δ).bind λp=>okO (F (OT.datas p.1)) p.2:=by
 unfold Zv okO
 cases a δ with
 | none=>rfl
 | some p=>rfl
noncomputable def atO{α:Type}(o:Option (Option OT))(k:OT->Option α):Option α:=match o with|some (some t)=>k t|_=>none
theorem Yfq{α:Type}(t:OT)(k:OT->Option α):atO (some (some t)) k=k t:=rfl
theorem Z5h(i:Nat)(F:FIO)(a:FA)(δ:Zf):Zwz i F a δ=atO δ[i]? λ_=>(a δ).bind λp=>atO p.2[i]? λt=>(F t (OT.datas p.1)).bind λq=>some (q.1,p.2.set i (some q.2)):=by
 unfold Zwz
 generalize δ[i]? =o
 rcases o with _|_|t
 ·rfl
 ·rfl
 ·show(a δ).bind _=(a δ).bind _
  cases a δ with
  | none=>rfl
  | some p=>
   show(λo:Option (Option OT)=>(match o with|some (some t)=>(F t (OT.datas p.1)).bind λq=>some (q.1,p.2.set i (some q.2))|_=>none)) p.2[i]? =atO p.2[i]? _
   generalize p.2[i]? =o
   rcases o with _|_|t<;>rfl
theorem Z21(g:List Xa->Option Xa)(a:FA)(δ:Zf):Zak g a δ=(a δ).bind λp=>(g (OT.datas p.1)).bind λd=>some (.fz d,p.2):=rfl
theorem Z6c(g:List Xa->Option OT)(a:FA)(δ:Zf):fBl g a δ=(a δ).bind λp=>(g (OT.datas p.1)).bind λd=>some (d,p.2):=rfl
theorem Zzn(T:String)(e:FE)(δ:Zf):Zt3 T e δ=(e δ).bind λp=>if Zhf p.1.data=true then none else some (.fz (.bool (Zpg T p.1.data)),p.2):=rfl
theorem Yfp(δ:Zf):oN δ=some (none,δ):=rfl
noncomputable def asInt{α:Type}(d:Xa)(k:Int->Option α):Option α:=match d with| .int i=>k i|_=>none
theorem Z15{α:Type}(i:Int)(k:Int->Option α):asInt (.int i) k=k i:=rfl
noncomputable def Zto{α:Type}(d:Xa)(k:List Xa->Option α):Option α:=match d with| .list i=>k i|_=>none
theorem Zro{α:Type}(i:List Xa)(k:List Xa->Option α):Zto (.list i) k=k i:=rfl
noncomputable def Zyz{α:Type}(d:Xa)(k:List Xa->Option α):Option α:=match d with| .tuple i=>k i|_=>none
theorem Ya0{α:Type}(i:List Xa)(k:List Xa->Option α):Zyz (.tuple i) k=k i:=rfl
theorem Yb3(e:FE)(δ:Zf):oI e δ=(e δ).bind λp=>asInt p.1.data λi=>some (some i,p.2):=by
 unfold oI asInt
 cases e δ with
 | none=>rfl
 | some p=>rfl
theorem Z5i(e:FE)(lo hi:FO)(δ:Zf):fSl e lo hi δ=(e δ).bind λp=>(lo p.2).bind λq=>(hi q.2).bind λr=>Zto p.1.data λds=>some (.nd ((cutD ds q.1 r.1).map OT.fz),r.2):=by
 unfold fSl Zto;rfl
theorem Zzk(e:FE)(δ:Zf):Jw e δ=(e δ).bind λp=>Zto p.1.data λds=>some (ds,p.2):=by
 unfold Jw Zto;rfl
theorem Yd8(e:FE)(δ:Zf):iTp e δ=(e δ).bind λp=>Zyz p.1.data λds=>some (ds,p.2):=by
 unfold iTp Zyz;rfl
noncomputable def as1{α:Type}(ds:List Xa)(k:Int->Option α):Option α:=match ds with|[.int i]=>k i|_=>none
theorem Ya6{α:Type}(i:Int)(k:Int->Option α):as1 [.int i] k=k i:=rfl
noncomputable def as2{α:Type}(ds:List Xa)(k:Int->Int->Option α):Option α:=match ds with|[.int i,.int j]=>k i j|_=>none
theorem Yce{α:Type}(i j:Int)(k:Int->Int->Option α):as2 [.int i,.int j] k=k i j:=rfl
theorem Z65(a:FA)(δ:Zf):iRa a δ=(a δ).bind λp=>as1 (OT.datas p.1) λj=>if rOk j=true then some (Ze5 0 j.toNat,p.2)else none:=by
 unfold iRa as1;rfl
theorem Z72(a:FA)(δ:Zf):iRb a δ=(a δ).bind λp=>as2 (OT.datas p.1) λi j=>if(rOk i&&rOk j)=true then some (Ze5 i (j-i).toNat,p.2)else none:=by
 unfold iRb as2;rfl
theorem Yao(a:FA)(δ:Zf):Yfb a δ=(a δ).bind λp=>as1 (OT.datas p.1) λj=>if rOk j=true∧j.toNat≤Xq then some (.nd ((Ze5 0 j.toNat).map OT.fz),p.2)else none:=by
 unfold Yfb as1;rfl
theorem Ya7(a b:FE)(δ:Zf):Yee a b δ=(a δ).bind λp=>(b p.2).bind λq=>asInt q.1.data λk=>if rOk k=true∧k.toNat≤Xq then some (.nd (X4 k.toNat (.fz p.1.data)),p.2)else none:=by
 unfold Yee asInt;rfl
noncomputable def Ya3{α:Type}(ds:List Xa)(k:List Xa->List Xa->Option α):Option α:=match ds with|[.list i,.list j]=>k i j|_=>none
theorem Ye6{α:Type}(i j:List Xa)(k:List Xa->List Xa->Option α):Ya3 [.list i,.list j] k=k i j:=rfl
theorem Z9h(a:FA)(δ:Zf):Z79 a δ=(a δ).bind λp=>Ya3 (OT.datas p.1) λas bs=>some (Zo7 as bs,p.2):=by
 unfold Z79 Ya3;rfl
theorem Ye2(i:Nat)(d:Xa)(δ:Zf):gNm i d δ=some (δ.set i (some (.fz d))):=rfl
theorem Z25(i:Nat)(d:Xa)(δ:Zf):Z3a i d δ=if Zac d=true then some (δ.set i (some (.fz d)))else none:=rfl
theorem Ydl(δ:Zf):gNl [] δ=some δ:=rfl
theorem Yez(g:FG)(gs:FGs)(d:Xa)(r:List Xa)(δ:Zf):gCn g gs (d :: r) δ=(g d δ).bind (gs r):=rfl
theorem Ydg(n:Nat)(gs:FGs)(ds:List Xa)(δ:Zf):gTp n gs (.tuple ds) δ=if ds.length=n then gs ds δ else none:=rfl
theorem Yeq(n:Nat)(gs:FGs)(ds:List Xa)(δ:Zf):gLs n gs (.list ds) δ=if ds.length=n then gs ds δ else none:=rfl
noncomputable def RS.thn(r:RS)(g:FS):RS:=match r with| .nx δ=>g δ|r=>r
theorem Z5e(δ:Zf)(g:FS):(RS.nx δ).thn g=g δ:=rfl
theorem Z8o(r:OT)(δ:Zf)(g:FS):(RS.rt r δ).thn g= .rt r δ:=rfl
theorem Yec(δ:Zf)(g:FS):(RS.bk δ).thn g= .bk δ:=rfl
theorem Yej(δ:Zf)(g:FS):(RS.ct δ).thn g= .ct δ:=rfl
theorem Ydc(c:Str)(δ:Zf)(g:FS):(RS.ex c δ).thn g= .ex c δ:=rfl
theorem Zss(f g:FS)(δ:Zf):Zx f g δ=(f δ).thn g:=rfl
theorem Yei(δ:Zf):fNx δ= .nx δ:=rfl
theorem Yak(δ:Zf):Yff δ= .bk δ:=rfl
theorem Yat(δ:Zf):Ygg δ= .ct δ:=rfl
theorem Z4h(c:Str)(δ:Zf):Zcl c δ= .ex c δ:=rfl
theorem Z86(δ:Zf):Yct δ= .rt (.fz .none) δ:=rfl
noncomputable def onO{α:Type}(o:Option (α×Zf))(k:α->Zf->RS):RS:=match o with|some (r,δ')=>k r δ'|none=>.bad
theorem Yi{α:Type}(r:α)(δ:Zf)(k:α->Zf->RS):onO (some (r,δ)) k=k r δ:=rfl
theorem Zcb(e:FE)(k:OT->Zf->RS)(δ:Zf):wE e k δ=onO (e δ) k:=by
 unfold wE onO
 cases e δ<;>rfl
noncomputable def onF(x:RF)(δ:Zf)(k:OT->Zf->RS):RS:=match x with| .ok r=>k r δ| .exn c=>.ex c δ| .bad=>.bad
theorem Ydm(r:OT)(δ:Zf)(k:OT->Zf->RS):onF (.ok r) δ k=k r δ:=rfl
theorem Ydd(c:Str)(δ:Zf)(k:OT->Zf->RS):onF (.exn c) δ k= .ex c δ:=rfl
theorem Ygp(F:FD)(a:FA)(k:OT->Zf->RS)(δ:Zf):wX F a k δ=onO (a δ) λrs δ1=>onF (F (OT.datas rs)) δ1 k:=by
 unfold wX onO onF
 cases a δ with
 | none=>rfl
 | some p=>rfl
theorem Zsa(t:FT)(u w:FS)(δ:Zf):J8 t u w δ=onO (t δ) λb δ'=>if b=true then u δ' else w δ':=by
 unfold J8 onO
 cases t δ<;>rfl
theorem Z2l(it:FI)(g:FG)(u:FS)(δ:Zf):Jz it g u δ=onO (it δ) λds δ1=>forLoop g u ds δ1:=by
 unfold Jz onO
 cases it δ<;>rfl
theorem Zt8(r:OT)(δ:Zf):Zqm r δ= .nx δ:=rfl
theorem Z13(r:OT)(δ:Zf):W8 r δ= .rt r δ:=rfl
theorem Z9o(r:OT)(δ:Zf):Z98 r δ=if Zac r.data=true then .rt (.fz r.data) δ else .bad:=rfl
theorem Z2h(i:Nat)(r:OT)(δ:Zf):Wz i r δ= .nx (δ.set i (some (.fz r.data))):=rfl
theorem Z84(i:Nat)(r:OT)(δ:Zf):Ycr i r δ=if Zac r.data=true then .nx (δ.set i (some (.fz r.data)))else .bad:=rfl
theorem Zvu(i:Nat)(r:OT)(δ:Zf):Ja i r δ= .nx (δ.set i (some r)):=rfl
noncomputable def onD(o:Option Zf):RS:=match o with|some δ=>.nx δ|none=>.bad
theorem Z9j(δ:Zf):onD (some δ)= .nx δ:=rfl
theorem Z9s(g:FG)(r:OT)(δ:Zf):Yf6 g r δ=onD (g r.data δ):=rfl
noncomputable def onT(o:Option (Option OT))(k:OT->RS):RS:=match o with|some (some t)=>k t|_=>.bad
theorem Z6o(t:OT)(k:OT->RS):onT (some (some t)) k=k t:=rfl
theorem Zms(i:Nat)(δ:Zf):Zc6 i δ=onT δ[i]? λt=>.rt t (δ.set i none):=rfl
theorem Zn3(i:Nat)(u:FS)(δ:Zf):Zbg i u δ=onT δ[i]? λt=>u (δ.set i (some (.fz t.data))):=rfl
noncomputable def onN(o:Option (Option OT))(k:List OT->RS):RS:=match o with|some (some (.nd ts))=>k ts|_=>.bad
theorem Zox(t:List OT)(k:List OT->RS):onN (some (some (.nd t))) k=k t:=rfl
theorem Zib(i:Nat)(e:FE)(δ:Zf):Yk i e δ=onN δ[i]? λ_=>onO (e δ) λr δ1=>onN δ1[i]? λts=>if ts.length<Xq then .nx (δ1.set i (some (.nd (ts ++ [.fz r.data]))))else .bad:=by
 unfold Yk
 generalize δ[i]? =o
 rcases o with _|_|(_|_|_|_)
 ·rfl
 ·rfl
 ·rfl
 ·show wE e _ δ=onO (e δ) _
  rw[Zcb]
  congr 1
 ·rfl
 ·rfl
theorem Zlo(i:Nat)(e:FE)(δ:Zf):Zay i e δ=onN δ[i]? λ_=>onO (e δ) λr δ1=>onN δ1[i]? λts=>if ts.length<Xq then .nx (δ1.set i (some (.nd (ts ++ [r]))))else .bad:=by
 unfold Zay
 generalize δ[i]? =o
 rcases o with _|_|(_|_|_|_)
 ·rfl
 ·rfl
 ·rfl
 ·show wE e _ δ=onO (e δ) _
  rw[Zcb]
  congr 1
 ·rfl
 ·rfl
noncomputable def onI(d:Xa)(k:Int->RS):RS:=match d with| .int i=>k i|_=>.bad
theorem Ygv(i:Int)(k:Int->RS):onI (.int i) k=k i:=rfl
noncomputable def onX(o:Option Nat)(k:Nat->RS):RS:=match o with|some i=>k i|_=>.bad
theorem Ygy(i:Nat)(k:Nat->RS):onX (some i) k=k i:=rfl
theorem Ycf(i:Nat)(e j:FE)(δ:Zf):Yel i e j δ=onO (e δ) λr δ1=>onN δ1[i]? λts=>onO (j δ1) λn _=>onI n.data λk=>onX (ixN ts.length k) λj=>.nx (δ1.set i (some (.nd (ts.set j (.fz r.data))))):=by
 unfold Yel
 rw[Zcb]
 congr 1
 funext r δ1
 generalize δ1[i]? =o
 rcases o with _|_|(_|_|_|_)
 ·rfl
 ·rfl
 ·rfl
 ·show wE j _ δ1=onO (j δ1) _
  rw[Zcb]
  congr 1
  funext n δ2
  generalize n.data=d
  cases d<;>try rfl
  show(match ixN _ _ with|some j=>_|none=>_)=onX (ixN _ _) _
  generalize ixN _ _=x
  cases x<;>rfl
 ·rfl
 ·rfl
noncomputable def onU(o:Option OT)(k:List OT->RS):RS:=match o with|some (.nd ts)=>k ts|_=>.bad
theorem Yft(t:List OT)(k:List OT->RS):onU (some (.nd t)) k=k t:=rfl
noncomputable def onP(o:Option (Option OT))(k:List OT->RS):RS:=match o with|some (some (.tp ts))=>k ts|_=>.bad
theorem Yfn(t:List OT)(k:List OT->RS):onP (some (some (.tp t))) k=k t:=rfl
theorem Z8r(i c:Nat)(e:FE)(δ:Zf):Zx5 i c e δ=onP δ[i]? λts=>onU ts[c]? λus=>onO (e δ) λr _=>if us.length<Xq then .nx (δ.set i (some (.tp (ts.set c (.nd (us ++ [.fz r.data]))))))else .bad:=by
 unfold Zx5
 generalize δ[i]? =o
 rcases o with _|_|(_|_|ts|_)
 ·rfl
 ·rfl
 ·rfl
 ·rfl
 ·show(match ts[c]? with|some (.nd us)=>wE e _ δ|_=>_)=onU ts[c]? _
  generalize ts[c]? =o
  rcases o with _|(_|_|_|_)
  ·rfl
  ·rfl
  ·show wE e _ δ=onO (e δ) _
   rw[Zcb]
  ·rfl
  ·rfl
 ·rfl
noncomputable def on2(ds:List Xa)(k:Xa->Xa->RS):RS:=match ds with|[d,e]=>k d e|_=>.bad
theorem Ygj(d e:Xa)(k:Xa->Xa->RS):on2 [d,e] k=k d e:=rfl
theorem Ya2(i j:Nat)(a:FA)(δ:Zf):Yer i j a δ=onO (a δ) λrs δ1=>on2 (OT.datas rs) λd e=>.nx ((δ1.set i (some (.fz d))).set j (some (.fz e))):=by
 unfold Yer onO on2
 cases a δ<;>rfl
theorem Zik{np n:Nat}{S:FS}{ds:List Xa}(h:ds.length=np):Ji np n S ds=(S (Zbt n ds)).told:=by
 unfold Ji;rw[if_pos h]
theorem Z0l(δ:Zf):(RS.nx δ).told= .ok (.fz .none):=rfl
theorem Zty(r:OT)(δ:Zf):(RS.rt r δ).told= .ok r:=rfl
theorem Ycx(c:Str)(δ:Zf):(RS.ex c δ).told= .exn c:=rfl
theorem Ydh(i j:Int):Zca (.int i) (.int j)=some (.int (i+j)):=rfl
theorem Yfi(i j:Int):gSb (.int i) (.int j)=some (.int (i-j)):=rfl
theorem Ygk(i j:Int):gLt (.int i) (.int j)=some (.bool (decide (i<j))):=rfl
theorem Yfg(i j:Int):gLe (.int i) (.int j)=some (.bool (decide (i≤j))):=rfl
theorem Z9t(i j:Int):gGt (.int i) (.int j)=some (.bool (decide (j<i))):=rfl
theorem Ybc(i j:Int):gGe (.int i) (.int j)=some (.bool (decide (j≤i))):=rfl
theorem Zxr{i j:Int}(h:Z3g i j=true):Zgz (.int i) (.int j)=some (.int (i*j)):=by
 unfold Zgz i2c;dsimp only;rw[if_pos h]
theorem Z0g{i j:Int}(h:Z3p i j=true):Zag (.int i) (.int j)=some (.int (i.fdiv j)):=by
 unfold Zag i2c;dsimp only;rw[if_pos h]
theorem Z75{i j:Int}(h:j≠0):Zc9 (.int i) (.int j)=some (.int (i.fmod j)):=by
 unfold Zc9 i2c Ydw;dsimp only;rw[if_pos (decide_eq_true h)]
theorem Z6j{x y:Int}(h:x.natAbs<2^64):Z3g x y=true:=Zie.mpr (.of_left (intBits_le_64 (by omega) (by omega)))
theorem Z7r{x y:Int}(h:y.natAbs<2^64):Z3g x y=true:=Zie.mpr (.of_right (intBits_le_64 (by omega) (by omega)))
theorem Zyi{n:Nat}{i j:Int}(h0:j≠0)(h:Bt n j)(hn:n≤9000:=by decide):Z3p i j=true:=by
 obtain⟨h1,h2⟩:=DivOk.of (i:=i) h0 h hn
 unfold Z3p
 rw[decide_eq_true h1,decide_eq_true h2];rfl
theorem Z96(i j:Int):gEq (.int i) (.int j)=some (.bool (decide (i=j))):=by
 show some (Ba (i==j))=_
 rw[show(i==j)=decide (i=j)from rfl]
theorem Ygx(i j:Int):gNe (.int i) (.int j)=some (.bool (!decide (i=j))):=by
 show some (Ba (!(i==j)))=_
 rw[show(i==j)=decide (i=j)from rfl]
theorem Yf1(d:Xa):gIs d .none=some (.bool (Zd4 d)):=rfl
theorem Z9f(d:Xa):Zhx d .none=some (.bool (!Zd4 d)):=rfl
theorem Yas(ds:List Xa)(i:Int):gIx (.list ds) (.int i)=(atI ds i).bind λx=>some (.fz x):=rfl
theorem Yf0(ds:List Xa)(i:Int):gIx (.tuple ds) (.int i)=(atI ds i).bind λx=>some (.fz x):=rfl
theorem Z7e(ds:List Xa):Zce [.list ds]=some (.int ds.length):=rfl
theorem Ydk(ds:List Xa):Zce [.tuple ds]=some (.int ds.length):=rfl
theorem Yd4(i:Int):Ycl [.int i]=some (.int (i.natAbs:Int)):=by
 show some (Xx (if i<0 then -i else i))=_
 congr 2;split<;>omega
theorem Yc9(i j:Int):Ygh [.int i,.int j]=some (.int (if j>i then j else i)):=rfl
theorem Yet(i j:Int):Ygb [.int i,.int j]=some (.int (if j<i then j else i)):=rfl
theorem Yc5(i:Int):Z37 [.int i]=some (.int i):=rfl
theorem Z7x(b:Bool):Z37 [.bool b]=some (.int (if b then 1 else 0)):=rfl
theorem Z2w(ds:List Xa):Zp3 [.list ds]=some (.nd (ds.map OT.fz)):=rfl
theorem Z9u(ds:List Xa):Zp3 [.tuple ds]=some (.nd (ds.map OT.fz)):=rfl
theorem Z6t{ds es:List Xa}(h:ds.length+es.length≤Xq):Zs1 (.list ds) (.list es)=some (.nd ((ds ++ es).map OT.fz)):=by
 unfold Zs1;dsimp only;rw[if_pos h]
theorem Z5c(i:Int):Z3t (.int i)=some (.int (-i)):=rfl
theorem Yeo(b:Bool):Ybh (.bool b)=some (.bool (!b)):=rfl
theorem Yeb(b:Bool):Zu5 (.bool b)=some b:=rfl
theorem Yc4(i:Int):Zu5 (.int i)=some (i !=0):=rfl
theorem Ye9:Zu5 .none=some false:=rfl
theorem Ydt(ds:List Xa):Zu5 (.list ds)=some (!ds.isEmpty):=rfl
theorem Znt{gg:FG}{u:FS}{ds:List Xa}{δ:Zf}(I:Nat->Zf->Prop)(h0:I 0 δ)
  (turn:∀(i:Nat) (d:Xa) (δ:Zf),ds[i]? =some d->I i δ->∃δ1 δ2,gg d δ=some δ1∧(u δ1= .nx δ2∨u δ1= .ct δ2)∧I (i+1) δ2):∃δ',forLoop gg u ds δ= .nx δ'∧I ds.length δ':=by
 induction ds generalizing δ I with
 | nil=>exact⟨δ,rfl,h0⟩
 | cons d ds ih=>
  obtain⟨δ1,δ2,e1,e2,h1⟩:=turn 0 d δ rfl h0
  obtain⟨δ',e3,h3⟩:=ih (δ:=δ2) (λi δ=>I (i+1) δ) h1 λi d' δ hd hi=>turn (i+1) d' δ (by simpa using hd) hi
  refine⟨δ',?_,h3⟩
  rw[Ze1,e1]
  dsimp only
  rcases e2 with e2|e2<;>rw[e2]<;>exact e3
noncomputable def Goes(r:RS)(Q:Zf->Prop):Prop:=∃δ,(r= .nx δ∨r= .ct δ)∧Q δ
theorem Goes.nx{δ:Zf}{Q:Zf->Prop}(h:Q δ):Goes (.nx δ) Q:=⟨δ,.inl rfl,h⟩
theorem Goes.ct{δ:Zf}{Q:Zf->Prop}(h:Q δ):Goes (.ct δ) Q:=⟨δ,.inr rfl,h⟩
theorem Zpt{α:Type}{me:FE}{cs:Zf}(mk:α->Xa)(f:α->OT):∀(xs:List α) (z:Option OT),(∀x∈xs,me (some (.fz (mk x)) :: cs)=some (f x,some (.fz (mk x)) :: cs)) ->
  ∃z',compLoop (gNm 0) Zc2 me (xs.map mk) (z :: cs)=some (xs.map f,z' :: cs)
 | [],z,_=>⟨z,rfl⟩
 | x :: xs,z,h=>by
  obtain⟨z',e⟩:=Zpt mk f xs (some (.fz (mk x))) λy hy=>h y (.tail _ hy)
  refine⟨z',?_⟩
  rw[X3,compLoop]
  show(some (some (OT.fz (mk x)) :: cs)).bind _=_
  rw[Xh]
  show(some (true,some (OT.fz (mk x)) :: cs)).bind _=_
  rw[Xh,if_pos rfl,h x (.head _),Xh,e];rfl
theorem Zno{α:Type}{t:FT}{me:FE}{cs:Zf}(mk:α->Xa)(p:α->Bool)(f:α->OT):∀(xs:List α) (z:Option OT),(∀x∈xs,t (some (.fz (mk x)) :: cs)=some (p x,some (.fz (mk x)) :: cs))->(∀x∈xs,p x=true->me (some (.fz (mk x)) :: cs)=some (f x,some (.fz (mk x)) :: cs)) ->
  ∃z',compLoop (gNm 0) t me (xs.map mk) (z :: cs)=some ((xs.filter p).map f,z' :: cs)
 | [],z,_,_=>⟨z,rfl⟩
 | x :: xs,z,ht,h=>by
  obtain⟨z',e⟩:=Zno mk p f xs (some (.fz (mk x))) (λy hy=>ht y (.tail _ hy)) λy hy=>h y (.tail _ hy)
  refine⟨z',?_⟩
  rw[X3,compLoop]
  show(some (some (OT.fz (mk x)) :: cs)).bind _=_
  rw[Xh,ht x (.head _),Xh]
  dsimp only
  by_cases hp:p x=true
  ·rw[if_pos hp,h x (.head _) hp,Xh,e,List.filter_cons_of_pos hp];rfl
  ·rw[if_neg hp,e,List.filter_cons_of_neg hp]
theorem Zir{α:Type}{caps:List Nat}{it:FI}{me:FE}{cs δ δ1:Zf}(xs:List α)(mk:α->Xa)(f:α->OT)(hi:it δ=some (xs.map mk,δ1))(hz:xs.length≤Xq)(hb:blk 1 caps δ1=none :: cs)
  (h:∀x∈xs,me (some (.fz (mk x)) :: cs)=some (f x,some (.fz (mk x)) :: cs)):Yc 1 caps it (gNm 0) Zc2 me δ=some (.nd (xs.map f),δ1):=by
 unfold Yc
 rw[hi,Xh]
 dsimp only
 rw[if_pos (by rw[Xd];exact hz),hb]
 obtain⟨z',e⟩:=Zpt (me:=me) (cs:=cs) mk f xs none h
 rw[e];rfl
theorem Zkf{α:Type}{caps:List Nat}{it:FI}{t:FT}{me:FE}{cs δ δ1:Zf}(xs:List α)(mk:α->Xa)(p:α->Bool)(f:α->OT)(hi:it δ=some (xs.map mk,δ1))(hz:xs.length≤Xq)(hb:blk 1 caps δ1=none :: cs)
  (ht:∀x∈xs,t (some (.fz (mk x)) :: cs)=some (p x,some (.fz (mk x)) :: cs)) (h:∀x∈xs,p x=true->me (some (.fz (mk x)) :: cs)=some (f x,some (.fz (mk x)) :: cs)):Yc 1 caps it (gNm 0) t me δ=some (.nd ((xs.filter p).map f),δ1):=by
 unfold Yc
 rw[hi,Xh]
 dsimp only
 rw[if_pos (by rw[Xd];exact hz),hb]
 obtain⟨z',e⟩:=Zno (t:=t) (me:=me) (cs:=cs) mk p f xs none ht h
 rw[e];rfl
theorem Yfj:(2≤Xq)=True:=by simp[XN]
theorem Yfs:(1≤Xq)=True:=by simp[XN]
theorem Yg0:(0≤Xq)=True:=by simp
theorem Yca:(3≤Xq)=True:=by simp[XN]
theorem Zhh{α:Type}(f:α->Xa)(xs:List α):(xs.map λx=>OT.fz (f x)).map OT.data=xs.map f:=by
 rw[Qz];exact Qh λx _=>OT.data_fz _
theorem Z10{α:Type}{j:Int}{x:α}(h0:0≤j)(h1:j≤1000000):(if rOk j=true then some x else none)=some x:=if_pos (Ztw (by omega) h1)
theorem Z1b{α:Type}{i j:Int}{x:α}(h0:0≤i)(h1:i≤1000000)(h2:0≤j)(h3:j≤1000000):(if(rOk i&&rOk j)=true then some x else none)=some x:=if_pos (by rw[Ztw (by omega) h1,Ztw (by omega) h3];rfl)
theorem Zqq{r:RS}{k:Nat}(h:k≤1000000):(if k<Xq then r else .bad)=r:=if_pos (by rw[XN];omega)
noncomputable def EvV(e:FE)(δ:Zf)(d:Xa):Prop:=∃t,e δ=some (t,δ)∧t.data=d
noncomputable def EvA(a:FA)(δ:Zf)(ds:List Xa):Prop:=∃ts,a δ=some (ts,δ)∧OT.datas ts=ds
noncomputable def EvT(t:FT)(δ:Zf)(b:Bool):Prop:=t δ=some (b,δ)
noncomputable def Told(F:FD)(ds:List Xa)(d:Xa):Prop:=∃t,F ds= .ok t∧t.data=d
section
variable {e a b:FE}{as:FA}{δ δ':Zf}{x y d:Xa}{xs ds:List Xa}{i j:Nat}{p q:Bool}{t u:FT}{S S':FS}{r:RS}
theorem EvV.cast{e:FE}{δ:Zf}{x y:Xa}(h:EvV e δ x)(k:x=y):EvV e δ y:=k▸h
theorem Za(h:δ[i]? =some (some (.fz d)):=by rfl):EvV (Zb i) δ d:=⟨_,by rw[Zl4,h,Zyl],OT.data_fz _⟩
theorem Zex{t:OT}(h:δ[i]? =some (some t))(hd:t.data=d):EvV (Zco i) δ d:=⟨_,by rw[Z1v,h,Zzv],by rw[OT.data_fz,hd]⟩
theorem Yd:EvV (fC d) δ d:=⟨_,rfl,OT.data_fz _⟩
theorem Zo{g:Xa->Xa->Option Xa}(ha:EvV a δ x)(hb:EvV b δ y)(h:g x y=some d):EvV (Ze g a b) δ d:=by
 obtain⟨_,e1,d1⟩:=ha
 obtain⟨_,e2,d2⟩:=hb
 exact⟨_,by rw[Zwb,e1,Xh,e2,Xh,d1,d2,h,Xh],OT.data_fz _⟩
theorem Zdp{g:Xa->Xa->Option OT}{o:OT}(ha:EvV a δ x)(hb:EvV b δ y)(h:g x y=some o)(hd:o.data=d):EvV (Z4 g a b) δ d:=by
 obtain⟨_,e1,d1⟩:=ha
 obtain⟨_,e2,d2⟩:=hb
 exact⟨_,by rw[Z2c,e1,Xh,e2,Xh,d1,d2,h,Xh],hd⟩
theorem Z2t(ha:EvV a δ x)(hb:EvV b δ y)(h:gIx x y=some (.fz d)):EvV (Z4 gIx a b) δ d:=Zdp ha hb h (OT.data_fz _)
theorem Zai{i j:Int}(ha:EvV a δ (.int i))(hb:EvV b δ (.int j)):EvV (Ze Zca a b) δ (.int (i+j)):=Zo ha hb rfl
theorem Zs7{i j:Int}(ha:EvV a δ (.int i))(hb:EvV b δ (.int j)):EvV (Ze gSb a b) δ (.int (i-j)):=Zo ha hb rfl
theorem Ybv{g:Xa->Option Xa}(ha:EvV a δ x)(h:g x=some d):EvV (fUn g a) δ d:=by
 obtain⟨_,e1,d1⟩:=ha
 exact⟨_,by rw[Z6g,e1,Xh,d1,h,Xh],OT.data_fz _⟩
theorem Z6q{T:String}(ha:EvV a δ x)(hf:Zhf x=false:=by rfl):EvV (Zt3 T a) δ (.bool (Zpg T x)):=by
 obtain⟨_,e1,d1⟩:=ha
 exact⟨_,by rw[Zzn,e1,Xh,d1,if_neg (by rw[hf];decide)],OT.data_fz _⟩
theorem Zh:EvA Zm δ []:=⟨_,rfl,Zgd⟩
theorem Zd(h:EvV e δ d)(k:EvA as δ ds):EvA (Zc e as) δ (d :: ds):=by
 obtain⟨_,e1,d1⟩:=h
 obtain⟨_,e2,d2⟩:=k
 exact⟨_,by rw[Zix,e1,Xh,e2,Xh],by rw[Zei,d1,d2]⟩
theorem Z0{F:FD}(h:EvA as δ ds)(k:Told F ds d):EvV (Zv F as) δ d:=by
 obtain⟨_,e1,d1⟩:=h
 obtain⟨_,e2,d2⟩:=k
 exact⟨_,by rw[Zm6,e1,Xh,d1,e2,Z4q],d2⟩
theorem Zhp{g:List Xa->Option Xa}(h:EvA as δ ds)(k:g ds=some d):EvV (Zak g as) δ d:=by
 obtain⟨_,e1,d1⟩:=h
 exact⟨_,by rw[Z21,e1,Xh,d1,k,Xh],OT.data_fz _⟩
theorem Z5u{g:List Xa->Option OT}{o:OT}(h:EvA as δ ds)(k:g ds=some o)(hd:o.data=d):EvV (fBl g as) δ d:=by
 obtain⟨_,e1,d1⟩:=h
 exact⟨_,by rw[Z6c,e1,Xh,d1,k,Xh],hd⟩
theorem Zdv:∀ts:List OT,(OT.datas ts).length=ts.length
 | []=>by rw[Zgd];rfl
 | t :: ts=>by rw[Zei,QS,QS,Zdv ts]
theorem datas_map:∀ts:List OT,OT.datas ts=ts.map OT.data
 | []=>Zgd
 | t :: ts=>by rw[Zei,X3,datas_map ts]
theorem Zdl(h:EvA as δ ds)(hl:ds.length≤1000):EvV (Zgy as) δ (.tuple ds):=by
 obtain⟨ts,e1,d1⟩:=h
 have:=Zdv ts
 rw[d1]at this
 exact⟨_,by rw[Z1l,e1,Xh,if_pos (by rw[XN];show ts.length≤_;omega)],by rw[OT.data_fz];exact congrArg _ d1⟩
theorem Zic(h:EvA as δ ds)(hl:ds.length≤1000):EvV (Zcx as) δ (.list ds):=by
 obtain⟨ts,e1,d1⟩:=h
 have:=Zdv ts
 rw[d1]at this
 exact⟨_,by rw[Zpk,e1,Xh,if_pos (by rw[XN];show ts.length≤_;omega)],by rw[OT.data_nd,←datas_map,d1]⟩
theorem Zjw{o:OT}{b:Bool}(h:o.data= .bool b):o= .fz (.bool b):=by
 cases o with
 | fz d=>rw[OT.data_fz]at h;rw[h]
 | nd ts=>rw[OT.data_nd]at h;cases h
 | tp ts=>rw[OT.data_tp]at h;cases h
 | dc _ _ _=>rw[OT.data_dc]at h;cases h
theorem Za9(h:EvV e δ (.bool p)):EvT (tV e) δ p:=by
 obtain⟨_,e1,d1⟩:=h
 unfold EvT
 rw[Yba,e1,Xh,Zjw d1,Z8f]
theorem Ygm(h:EvV e δ d)(k:Zu5 d=some p):EvT (tD e) δ p:=by
 obtain⟨_,e1,d1⟩:=h
 unfold EvT
 rw[Ybf,e1,Xh,d1,k,Xh]
theorem Zjn(h:EvV e δ (.bool p)):EvT (tD e) δ p:=Ygm h rfl
theorem Zgr(h:EvT t δ p):EvT (tNo t) δ (!p):=by
 unfold EvT at h⊢
 rw[Z6z,h,Xh]
theorem Zof(h:EvT t δ true)(k:EvT u δ p):EvT (tAn t u) δ p:=by
 unfold EvT at h k⊢
 rw[Zx7,h,Xh,if_pos rfl,k]
theorem Zlt(h:EvT t δ false):EvT (tAn t u) δ false:=by
 unfold EvT at h⊢
 rw[Zx7,h,Xh,if_neg Xv]
theorem Z3b(h:EvT t δ false)(k:EvT u δ p):EvT (tO t u) δ p:=by
 unfold EvT at h k⊢
 rw[Yah,h,Xh,if_neg Xv,k]
theorem Z5(h:S δ= .nx δ')(k:S' δ'=r):Zx S S' δ=r:=by rw[Zss,h,Z5e,k]
theorem Zrh{o:OT}(h:S δ= .rt o δ'):Zx S S' δ= .rt o δ':=by rw[Zss,h,Z8o]
theorem Z8(h:EvV e δ d):wE e (Wz i) δ= .nx (δ.set i (some (.fz d))):=by
 obtain⟨_,e1,d1⟩:=h
 rw[Zcb,e1,Yi,Z2h,d1]
theorem Zm4(h:EvV e δ d):∃o,wE e W8 δ= .rt o δ∧o.data=d:=by
 obtain⟨_,e1,d1⟩:=h
 exact⟨_,by rw[Zcb,e1,Yi,Z13],d1⟩
theorem Zcr(h:EvT t δ true)(k:S δ=r):J8 t S S' δ=r:=by
 unfold EvT at h
 rw[Zsa,h,Yi,if_pos rfl,k]
theorem Yg(h:EvT t δ false)(k:S' δ=r):J8 t S S' δ=r:=by
 unfold EvT at h
 rw[Zsa,h,Yi,if_neg (by decide),k]
noncomputable def Zkm(S:FS)(δ:Zf)(d:Xa):Prop:=∃o δ',S δ= .rt o δ'∧o.data=d
theorem Zw(h:S δ= .nx δ')(k:Zkm S' δ' d):Zkm (Zx S S') δ d:=by
 obtain⟨o,δ2,e,hd⟩:=k
 exact⟨o,δ2,Z5 h e,hd⟩
theorem Zb8(k:Zkm S δ d):Zkm (Zx S S') δ d:=by
 obtain⟨o,δ2,e,hd⟩:=k
 exact⟨o,δ2,Zrh e,hd⟩
theorem Wm(h:EvV e δ d):Zkm (wE e W8) δ d:=by
 obtain⟨o,e1,hd⟩:=Zm4 h
 exact⟨o,δ,e1,hd⟩
theorem Zfy(h:EvT t δ true)(k:Zkm S δ d):Zkm (J8 t S S') δ d:=by
 obtain⟨o,δ2,e,hd⟩:=k
 exact⟨o,δ2,Zcr h e,hd⟩
theorem Z6{np n:Nat}(hl:xs.length=np)(k:Zkm S (Zbt n xs) d):Told (Ji np n S) xs d:=by
 obtain⟨o,δ2,e,hd⟩:=k
 exact⟨o,by rw[Zik hl,e,Zty],hd⟩
noncomputable def EvO(o:FO)(δ:Zf)(l:Option Int):Prop:=o δ=some (l,δ)
theorem Ydi:EvO oN δ none:=rfl
theorem Z3h{i:Int}(h:EvV e δ (.int i)):EvO (oI e) δ (some i):=by
 obtain⟨_,e1,d1⟩:=h
 unfold EvO
 rw[Yb3,e1,Xh,d1,Z15]
theorem Zy9{lo hi:FO}{l h:Option Int}(he:EvV e δ (.list ds))(hl:EvO lo δ l)(hh:EvO hi δ h):EvV (fSl e lo hi) δ (.list (cutD ds l h)):=by
 obtain⟨_,e1,d1⟩:=he
 unfold EvO at hl hh
 exact⟨_,by rw[Z5i,e1,Xh,hl,Xh,hh,Xh,d1,Zro],by rw[OT.data_nd,OT.map_fz]⟩
theorem Zqt{es:List Xa}(ha:EvV a δ (.list ds))(hb:EvV b δ (.list es))(h:ds.length+es.length≤1000000):EvV (Z4 Zs1 a b) δ (.list (ds ++ es)) :=
 Zdp ha hb (Z6t (by rw[XN];omega)) (by rw[OT.data_nd,OT.map_fz])
noncomputable def EvI(it:FI)(δ:Zf)(ds:List Xa):Prop:=it δ=some (ds,δ)
theorem Wi(h:EvV e δ (.list ds)):EvI (Jw e) δ ds:=by
 obtain⟨_,e1,d1⟩:=h
 unfold EvI
 rw[Zzk,e1,Xh,d1,Zro]
theorem Zbh{n:Nat}(h:EvA as δ [.int n])(hn:n≤1000000):EvI (iRa as) δ (Ze5 0 n):=by
 obtain⟨_,e1,d1⟩:=h
 unfold EvI
 rw[Z65,e1,Xh,d1,Ya6,Z10 (by omega) (by omega),QJ]
theorem Zhj{it:FI}{g:FG}(h:EvI it δ ds)(k:forLoop g S ds δ=r):Jz it g S δ=r:=by
 unfold EvI at h
 rw[Z2l,h,Yi,k]
theorem Zaz{α:Type}{caps:List Nat}{it:FI}{me:FE}{cs:Zf}(xs:List α)(mk f:α->Xa)(hi:EvI it δ (xs.map mk))(hz:xs.length≤1000000)(hb:blk 1 caps δ=none :: cs)(h:∀x∈xs,EvV me (some (.fz (mk x)) :: cs) (f x)):EvV (Yc 1 caps it (gNm 0) Zc2 me) δ (.list (xs.map f)):=by
 have g:∀x,∃o:OT,x∈xs->me (some (.fz (mk x)) :: cs)=some (o,some (.fz (mk x)) :: cs)∧o.data=f x:=λx=>by
  by_cases c:x∈xs
  ·obtain⟨o,h1,h2⟩:=h x c
   exact⟨o,λ_=>⟨h1,h2⟩⟩
  ·exact⟨.fz .none,λz=>absurd z c⟩
 obtain⟨o,ho⟩:=V1 g
 unfold EvI at hi
 refine⟨_,Zir (cs:=cs) xs mk o hi (by rw[XN];omega) hb (λx hx=>(ho x hx).1),?_⟩
 rw[OT.data_nd,Qz]
 exact congrArg _ (Qh λx hx=>(ho x hx).2)
theorem Zez{ts:List OT}(h:EvV e δ d)(hi:δ[i]? =some (some (.nd ts)))(hl:ts.length≤1000000):Yk i e δ= .nx (δ.set i (some (.nd (ts ++ [.fz d])))):=by
 obtain⟨_,e1,d1⟩:=h
 rw[Zib,hi,Zox,e1,Yi,hi,Zox,Zqq hl,d1]
theorem Zl8{o:OT}(h:e δ=some (o,δ)):wE e (Ja i) δ= .nx (δ.set i (some o)):=by rw[Zcb,h,Yi,Zvu]
theorem Zw9{o:OT}(h:δ[i]? =some (some o))(hd:o.data=d):Zkm (Zc6 i) δ d:=⟨o,_,by rw[Zms,h,Z6o],hd⟩
theorem Zf6{o:OT}(h:δ[i]? =some (some o))(k:S (δ.set i (some (.fz o.data)))=r):Zbg i S δ=r:=by rw[Zn3,h,Z6o,k]
theorem Zq1(h:EvV e δ d):wE e Zqm δ= .nx δ:=by
 obtain⟨_,e1,d1⟩:=h
 rw[Zcb,e1,Yi,Zt8]
theorem Zqn{np n:Nat}(hl:xs.length=np)(k:S (Zbt n xs)= .nx δ'):Told (Ji np n S) xs .none:=⟨_,by rw[Zik hl,k,Z0l],OT.data_fz _⟩
theorem Told.ok{F:FD}{b:Bool}(h:Told F ds (.bool b)):F ds= .ok (.fz (.bool b)):=by
 obtain⟨o,e1,d1⟩:=h
 rw[e1,Zjw d1]
theorem Zmt{o:OT}{i:Int}(h:o.data= .int i):o= .fz (.int i):=by
 cases o with
 | fz d=>rw[OT.data_fz]at h;rw[h]
 | nd ts=>rw[OT.data_nd]at h;cases h
 | tp ts=>rw[OT.data_tp]at h;cases h
 | dc _ _ _=>rw[OT.data_dc]at h;cases h
theorem Told.int{F:FD}{i:Int}(h:Told F ds (.int i)):F ds= .ok (.fz (.int i)):=by
 obtain⟨o,e1,d1⟩:=h
 rw[e1,Zmt d1]
theorem Zr9{o:OT}(h:o.data= .none):o= .fz .none:=by
 cases o with
 | fz d=>rw[OT.data_fz]at h;rw[h]
 | nd ts=>rw[OT.data_nd]at h;cases h
 | tp ts=>rw[OT.data_tp]at h;cases h
 | dc _ _ _=>rw[OT.data_dc]at h;cases h
theorem Told.of{F:FD}{o:OT}(h:F ds= .ok o)(hd:o.data=d):Told F ds d:=⟨o,h,hd⟩
end
section
variable {e a b:FE}{as:FA}{δ δ':Zf}{x y d:Xa}{xs ds:List Xa}{i j:Int}{k:Nat}{p q:Bool}{t u:FT}{S S':FS}{r:RS}{Q:Xa->Prop}
theorem J4(ha:EvV a δ (.int i))(hb:EvV b δ (.int j))(h:j≠0):EvV (Ze Zc9 a b) δ (.int (i.fmod j)):=Zo ha hb (Z75 h)
theorem Z70{i j:Int}(h:(decide (0<j)&&decide (j<18446744073709551616))=true):Zag (.int i) (.int j)=some (.int (i.fdiv j)):=by
 rw[XJ,decide_eq_true_eq,decide_eq_true_eq]at h
 exact Z0g (Zyi (n:=64) (by omega) (Bt.of_lt (by omega) (by omega)))
theorem Zfp(ha:EvV a δ (.int i))(hb:EvV b δ (.int j))(h:(decide (0<j)&&decide (j<18446744073709551616))=true:=by decide):EvV (Ze Zag a b) δ (.int (i.fdiv j)):=Zo ha hb (Z70 h)
theorem Zfk(ha:EvV a δ (.int i))(hb:EvV b δ (.int j))(h:i.natAbs<2^64:=by decide):EvV (Ze Zgz a b) δ (.int (i*j)):=Zo ha hb (Zxr (Z6j h))
theorem Zma(ha:EvV a δ (.int i))(hb:EvV b δ (.int j))(h:j.natAbs<2^64:=by decide):EvV (Ze Zgz a b) δ (.int (i*j)):=Zo ha hb (Zxr (Z7r h))
theorem Zuy(ha:EvV a δ (.int i))(hb:EvV b δ (.int j))(h:decide (i<j)=p):EvV (Ze gLt a b) δ (.bool p):=h▸Zo ha hb rfl
theorem Z92(ha:EvV a δ (.int i))(hb:EvV b δ (.int j))(h:decide (j<i)=p):EvV (Ze gGt a b) δ (.bool p):=h▸Zo ha hb (Z9t _ _)
theorem Z06(ha:EvV a δ (.int i))(hb:EvV b δ (.int j))(h:decide (j≤i)=p):EvV (Ze gGe a b) δ (.bool p):=h▸Zo ha hb (Ybc _ _)
theorem Zoo(ha:EvV a δ (.int i))(hb:EvV b δ (.int j))(h:decide (i=j)=p):EvV (Ze gEq a b) δ (.bool p):=h▸Zo ha hb (Z96 _ _)
theorem Z7h(ha:EvV a δ (.int i)):EvV (fUn Z3t a) δ (.int (-i)):=Ybv ha (Z5c _)
theorem Zbw{ds:List Xa}(h:EvV e δ (.list ds)):EvV (Zak Zce (Zc e Zm)) δ (.int ds.length):=Zhp (Zd h Zh) (Z7e ds)
theorem Zb2(ha:EvV a δ (.list ds))(hb:EvV b δ (.int i))(h:atI ds i=some d):EvV (Z4 gIx a b) δ d:=Z2t ha hb (by rw[Yas,h];rfl)
noncomputable def Z1j(S:FS)(δ:Zf)(Q:Xa->Prop):Prop:=∃d,Zkm S δ d∧Q d
theorem Zdq(h:S δ= .nx δ')(k:Z1j S' δ' Q):Z1j (Zx S S') δ Q:=k.imp λ_ k=>⟨Zw h k.1,k.2⟩
theorem Z61(h:EvV e δ d)(k:Q d):Z1j (wE e W8) δ Q:=⟨d,Wm h,k⟩
theorem Ygu{o:OT}(h:δ[k]? =some (some o))(hd:Q o.data):Z1j (Zc6 k) δ Q:=⟨_,Zw9 h rfl,hd⟩
theorem Z1a{np n:Nat}(hl:xs.length=np)(h:Z1j S (Zbt n xs) Q):∃d,Told (Ji np n S) xs d∧Q d:=h.imp λ_ k=>⟨Z6 hl k.1,k.2⟩
theorem Zmr{it:FI}{g:FG}(I:Nat->Zf->Prop)(hi:EvI it δ ds)(h0:I 0 δ)(turn:∀(i:Nat) (d:Xa) (δ:Zf),ds[i]? =some d->I i δ->∃δ1 δ2,g d δ=some δ1∧(S δ1= .nx δ2∨S δ1= .ct δ2)∧I (i+1) δ2)(k:∀δ',I ds.length δ'->Z1j S' δ' Q):Z1j (Zx (Jz it g S) S') δ Q:=by
 obtain⟨δ',e,h⟩:=Znt I h0 turn
 exact Zdq (Zhj hi e) (k δ' h)
theorem Zdy{it:FI}{g:FG}(I:Nat->Zf->Prop)(hi:EvI it δ ds)(h0:I 0 δ)(turn:∀(i:Nat) (d:Xa) (δ:Zf),ds[i]? =some d->I i δ->∃δ1 δ2,g d δ=some δ1∧(S δ1= .nx δ2∨S δ1= .ct δ2)∧I (i+1) δ2)(k:∀δ',I ds.length δ'->Zkm S' δ' d):Zkm (Zx (Jz it g S) S') δ d:=by
 obtain⟨δ',e,h⟩:=Znt I h0 turn
 exact Zw (Zhj hi e) (k δ' h)
theorem Zi8{it:FI}{g:FG}(I:Nat->Zf->Prop)(hi:EvI it δ ds)(h0:I 0 δ)(turn:∀(i:Nat) (d:Xa) (δ:Zf),ds[i]? =some d->I i δ->∃δ1 δ2,g d δ=some δ1∧(S δ1= .nx δ2∨S δ1= .ct δ2)∧I (i+1) δ2):∃δ',Jz it g S δ= .nx δ'∧I ds.length δ':=by
 obtain⟨δ',e,h⟩:=Znt I h0 turn
 exact⟨δ',Zhj hi e,h⟩
theorem Zzw{m n:Nat}(h:EvA as δ [.int m,.int n])(hm:m≤1000000)(hn:n≤1000000):EvI (iRb as) δ (Ze5 m (n-m)):=by
 obtain⟨_,e1,d1⟩:=h
 unfold EvI
 rw[Z72,e1,Xh,d1,Yce,Z1b (by omega) (by omega) (by omega) (by omega),show((n:Int)-(m:Int)).toNat=n-m by omega]
theorem Zb3:wE (Zcx Zm) (Ja k) δ= .nx (δ.set k (some (.nd []))):=Zl8 (by rw[Zpk];rfl)
theorem Zr7{i:Int}(h:0<j):0≤i.fmod j:=by rw[Zm2 h];exact Int.emod_nonneg _ (by omega)
theorem Zti{i:Int}(h:0<j):i.fmod j<j:=by rw[Zm2 h];exact Int.emod_lt_of_pos _ h
theorem Zbu(i:Int){n:Nat}(h:0<n):∃m:Nat,i.fmod (n:Int)=m∧m<n:=by
 have h0:=Zr7 (i:=i) (j:=n) (by omega)
 have h1:=Zti (i:=i) (j:=n) (by omega)
 exact⟨(i.fmod n).toNat,by omega,by omega⟩
theorem Z2j{o:OT}{ts ts0:List OT}(h:e δ=some (o,δ'))(h0:δ[k]? =some (some (.nd ts0)))(h1:δ'[k]? =some (some (.nd ts)))(hl:ts.length≤1000000):Yk k e δ= .nx (δ'.set k (some (.nd (ts ++ [.fz o.data])))):=by
 rw[Zib,h0,Zox,h,Yi,h1,Zox,Zqq hl]
theorem Z2b{es:List Xa}(h:EvA as δ ds)(hz:Z6k ds=some es):EvI (Zta as) δ es:=by
 obtain⟨_,e1,d1⟩:=h
 unfold EvI Zta
 rw[e1,Xh,d1,hz,Xh]
theorem Zug{it:FI}{g gg:FG}{δ1:Zf}(I:Nat->Zf->Prop){J:Zf->Prop}(hg:gg d δ=some δ1)(hi:EvI it δ1 ds)(h0:I 0 δ1)(turn:∀(i:Nat) (d:Xa) (δ:Zf),ds[i]? =some d->I i δ->∃δ1 δ2,g d δ=some δ1∧(S δ1= .nx δ2∨S δ1= .ct δ2)∧I (i+1) δ2)(hJ:∀δ',I ds.length δ'->J δ'):∃δ1 δ2,gg d δ=some δ1∧(Jz it g S δ1= .nx δ2∨Jz it g S δ1= .ct δ2)∧J δ2:=by
 obtain⟨δ',e,h⟩:=Znt I h0 turn
 exact⟨δ1,δ',hg,.inl (Zhj hi e),hJ δ' h⟩
theorem Zmv{T:String}(ha:EvV a δ x)(h:Zpg T x=p)(hf:Zhf x=false:=by rfl):EvV (Zt3 T a) δ (.bool p):=(Z6q ha hf).cast (by rw[h])
theorem Zqa{f g h:Int->Int->Bool}{c d:FE}{m n:Int}(ha:EvV a δ (.int i))(hb:EvV b δ (.int j))(hc:EvV c δ (.int m))(hd:EvV d δ (.int n)):EvV (Zgg f g h a b c d) δ (.bool (f i j&&(g j m&&h m n))):=by
 obtain⟨_,e1,d1⟩:=ha
 obtain⟨_,e2,d2⟩:=hb
 obtain⟨_,e3,d3⟩:=hc
 obtain⟨_,e4,d4⟩:=hd
 have io:∀i,intOf (.int i)=some i:=λ_=>rfl
 unfold EvV Zgg
 rw[e1,Xh,e2,Xh,d1,io,Xh,d2,io,Xh]
 cases f i j with
 | false=>exact⟨_,rfl,OT.data_fz _⟩
 | true=>
  rw[if_pos rfl,e3,Xh,d3,io,Xh]
  cases g j m with
  | false=>exact⟨_,rfl,OT.data_fz _⟩
  | true=>exact⟨_,by rw[if_pos rfl,e4,Xh,d4,io,Xh];rfl,OT.data_fz _⟩
theorem Zyu{a b:FE}{bs es:List Xa}{as:List Xa}(ha:EvV a δ (.list as))(hb:EvV b δ (.list bs))(hz:Zo7 as bs=es):EvI (Zta (Zc a (Zc b Zm))) δ es:=Z2b (Zd ha (Zd hb Zh)) (congrArg some hz)
theorem Zyf(ha:EvV a δ (.list ds)):EvI (Zs6 (Zc a Zm)) δ (Zip ds):=by
 obtain⟨_,e1,d1⟩:=Zd ha Zh
 unfold EvI Zs6
 rw[e1,Xh]
 dsimp only
 rw[d1]
theorem Zi0{α:Type}{caps:List Nat}{it:FI}{me:FE}{t:FT}{cs:Zf}(xs:List α)(mk:α->Xa)(pr:α->Bool)(hi:EvI it δ (xs.map mk))(hz:xs.length≤1000000)(hb:blk 1 caps δ=none :: cs)(ht:∀x∈xs,EvT t (some (.fz (mk x)) :: cs) (pr x))(h:∀x∈xs,pr x=true->me (some (.fz (mk x)) :: cs)=some (.fz (mk x),some (.fz (mk x)) :: cs)):EvV (Yc 1 caps it (gNm 0) t me) δ (.list ((xs.filter pr).map mk)):=by
 unfold EvI at hi
 refine⟨_,Zkf (cs:=cs) xs mk pr (λx=>.fz (mk x)) hi (by rw[XN];omega) hb (λx hx=>ht x hx) h,?_⟩
 rw[OT.data_nd,Qz]
 exact congrArg _ (Qh λx _=>OT.data_fz _)
theorem Told.none{F:FD}(h:Told F ds .none):F ds= .ok (.fz .none):=by
 obtain⟨o,e1,d1⟩:=h
 rw[e1,Zr9 d1]
end
end L2
namespace My
open PySem L2 PySem.Spec
noncomputable def Zap:FS :=
 (Zx (wE (Zak Ycl (Zc (Zb 0) Zm)) (Wz 0))
  (Zx (wE (Zak Ycl (Zc (Zb 1) Zm)) (Wz 1))
  (Zx (Zhi (tV (Ze gNe (Zb 1) (fC (.int 0)))) (Zx (wE (Ze Zc9 (Zb 0) (Zb 1)) (Wz 2))
  (Zx (wE (Zb 1) (Wz 0))
  (wE (Zb 2) (Wz 1)))))
  (wE (Zb 0) W8))))
noncomputable def Wu:FD:=Ji 2 3 Zap
noncomputable def Zf4:FS :=
 (Zx (wE (Zv Wu (Zc (Zb 0) (Zc (Zb 1) Zm))) (Wz 2))
  (Zx (J8 (tV (Ze gLt (Zb 1) (fC (.int 0))))
  (wE (fUn Z3t (Zb 2)) (Wz 2))
  fNx)
  (wE (Zgy (Zc (Ze Zag (Zb 0) (Zb 2)) (Zc (Ze Zag (Zb 1) (Zb 2)) Zm))) W8)))
noncomputable def Zgm:FD:=Ji 2 3 Zf4
noncomputable def Zbf:FS :=
 (wE (Z87 (Zt3 "int" (Zb 0)) (fUn Ybh (Zt3 "bool" (Zb 0)))) W8)
noncomputable def Ym:FD:=Ji 1 1 Zbf
theorem Zkl(i:Int):Ym [.int i]= .ok (.fz (.bool true)):=rfl
noncomputable def Zgb:FS :=
 (Zx (J8 (tO (tNo (tD (Zv Ym (Zc (Zb 0) Zm)))) (tO (tNo (tD (Zv Ym (Zc (Zb 1) Zm)))) (tV (Ze gEq (Zb 1) (fC (.int 0))))))
  (Zcl "NoNumber")
  fNx)
  (wE (Zv Zgm (Zc (Zb 0) (Zc (Zb 1) Zm))) W8))
noncomputable def Zpv:FD:=Ji 2 2 Zgb
noncomputable def Zb9:FS :=
 (Zx (wE (fC (.int 1)) (Wz 1))
  (Zx (Jz (Jw (Zb 0)) (gNm 2)
  (wE (Ze Zgz (Ze Zag (Zb 1) (Zv Wu (Zc (Zb 1) (Zc (Z4 gIx (Zb 2) (fC (.int 1))) Zm)))) (Z4 gIx (Zb 2) (fC (.int 1)))) (Wz 1)))
  (wE (Zb 1) W8)))
noncomputable def Zcc:FD:=Ji 1 3 Zb9
noncomputable def Zc1:FS :=
 (Zx (wE (fC (.int 1)) (Wz 1))
  (Zx (Jz (Jw (Zb 0)) (gNm 2)
  (wE (Zv Zcc (Zc (Z4 Zs1 (Zcx (Zc (Zgy (Zc (fC (.int 1)) (Zc (Zb 1) Zm))) Zm)) (Zb 2)) Zm)) (Wz 1)))
  (wE (Zb 1) W8)))
noncomputable def Zl6:FD:=Ji 1 3 Zc1
noncomputable def Ze7:FS :=
 (wE (Yc 1 [0] (Jw (Zb 1)) (gNm 0) Zc2 (Ze Zgz (Z4 gIx (Zb 0) (fC (.int 0))) (Ze Zag (Zb 1) (Z4 gIx (Zb 0) (fC (.int 1)))))) W8)
noncomputable def Ze8:FD:=Ji 2 2 Ze7
noncomputable def Zep:FS :=
 (wE (Yc 1 [0] (Jw (Zb 1)) (gNm 0) Zc2 (Zv Ze8 (Zc (Zb 1) (Zc (Zb 0) Zm)))) W8)
noncomputable def Zn6:FD:=Ji 2 2 Zep
noncomputable def Zbz:FS :=
 (Zx (wE (Zcx Zm) (Ja 1))
  (Zx (Jz (iRa (Zc (Zb 0) Zm)) (gNm 2)
  (Jz (iRb (Zc (Ze Zca (Zb 2) (fC (.int 1))) (Zc (Zb 0) Zm))) (gNm 3)
  (Yk 1 (Zgy (Zc (Zb 2) (Zc (Zb 3) Zm))))))
  (Zc6 1)))
noncomputable def Jo:FD:=Ji 1 4 Zbz
noncomputable def J0(n:Nat):List (Nat×Nat):=(Xi n).flatMap λi=>(Xi (n-(i+1))).map λj=>(i,i+1+j)
noncomputable def ptD(p:Nat×Nat):Xa:=.tuple [.int p.1,.int p.2]
theorem Zal{n:Nat}{p:Nat×Nat}(h:p∈J0 n):p.1<p.2∧p.2<n:=by
 unfold J0 at h
 obtain⟨i,hi,hp⟩:=Us.mp h
 obtain⟨j,hj,rfl⟩:=XX.mp hp
 have:=XQ.mp hi
 have:=XQ.mp hj
 dsimp only
 omega
theorem Zhv{n i j:Nat}(h:i<j)(hj:j<n):(i,j)∈J0 n:=by
 unfold J0
 exact Us.mpr ⟨i,XQ.mpr (by omega),XX.mpr ⟨j-(i+1),XQ.mpr (by omega),by congr 1;omega⟩⟩
noncomputable def Zcp(n i:Nat):List (Nat×Nat):=(Xi i).flatMap λi=>(Xi (n-(i+1))).map λj=>(i,i+1+j)
theorem Zgc(n:Nat):∀i,(Zcp n i).length≤i*n
 | 0=>by simp[Zcp]
 | i+1=>by
  have:=Zgc n i
  unfold Zcp at this⊢
  rw[Vq,V0,XF]
  simp only[Vw,List.flatMap_nil,Qk,Xd,Xw]
  have e:(i+1)*n=i*n+n:=by rw[Nat.succ_mul]
  omega
theorem Zh9(n i:Nat):Zcp n (i+1)=Zcp n i ++ (Xi (n-(i+1))).map λj=>(i,i+1+j):=by
 unfold Zcp;rw[Vq,V0];simp
theorem Zlp(n:Nat)(hn:n≤1000):Told Jo [.int n] (.list ((J0 n).map ptD)):=by
 refine Z6 rfl<|Zw Zb3<|Zdy (ds:=Ze5 0 n) (λi δ=>∃z1 z2,δ=[some (.fz (.int n)),some (.nd (((Zcp n i).map ptD).map OT.fz)),z1,z2]) (Zbh (Zd Za Zh) (by omega)) ⟨_,_,rfl⟩ (λi d δ hd h=>?_) λδ' h=>?_
 ·obtain⟨z1,z2,rfl⟩:=h
  obtain⟨hi,rfl⟩:=W5 hd
  rw[VR]
  have ln:=Zgc n i
  have l2:i*n≤999*1000:=Nat.mul_le_mul (by omega) hn
  refine Zug (ds:=Ze5 ((i+1:Nat):Int) (n-(i+1))) (λj δ=>∃z,δ=[some (.fz (.int n)),some (.nd (((Zcp n i ++ (Xi j).map λj=>(i,i+1+j)).map ptD).map OT.fz)),some (.fz (.int i)),z]) rfl (Zzw (m:=i+1) (Zd (EvV.cast (Zai Za Yd) rfl) (Zd Za Zh)) (by omega) (by omega)) ⟨z2,by rw[List.range_zero,List.map_nil,Qk];rfl⟩ (λj d δ hd h=>?_) λδ' h=>?_
  ·obtain⟨z,rfl⟩:=h
   obtain⟨hj,rfl⟩:=W5 hd
   refine⟨_,_,rfl,.inl (Zez (Zdl (Zd Za (Zd Za Zh)) (show 2≤1000 by decide)) rfl (by rw[Xd,Xd,XF,Xd,Xw];omega)),some (.fz (.int (((i+1:Nat):Int)+j))),?_⟩
   rw[Vq]
   simp only[Qg,QB]
   rfl
  ·obtain⟨z,rfl⟩:=h
   rw[Ys,←Zh9]
   exact⟨_,_,rfl⟩
 ·obtain⟨z1,z2,rfl⟩:=h
  rw[Ys]
  exact Zw9 rfl (by rw[OT.data_nd,OT.map_fz];rfl)
end My
namespace My
open PySem L2 PySem.Spec
noncomputable def J1:FS :=
 (Zx (J8 (tV (Ze gLt (Zb 1) (Zak Zce (Zc (Zb 0) Zm))))
  (wE (Z4 gIx (Zb 0) (Zb 1)) W8)
  fNx)
  (wE (fC (.int 0)) W8))
noncomputable def Yy:FD:=Ji 2 2 J1
noncomputable def Zfw:FS :=
 (Zx (J8 (tV (Ze gEq (Ze Zc9 (Ze Zag (Zb 0) (fC (.int 7))) (fC (.int 8))) (fC (.int 3))))
  (wE (Ze Zca (Ze Zca (Zb 2) (fC (.int 1))) (Ze Zc9 (Ze Zag (Zb 0) (fC (.int 56))) (Ze gSb (Zb 3) (Zb 2)))) W8)
  fNx)
  (wE (Ze Zca (Zb 1) (Ze Zc9 (Zb 0) (Ze gSb (Ze Zca (Zb 2) (fC (.int 1))) (Zb 1)))) W8))
noncomputable def Zrl:FD:=Ji 4 4 Zfw
noncomputable def Zgv:FS :=
 (Zx (wE (Ze Zc9 (Ze Zgz (Ze Zca (Ze Zca (Ze Zc9 (Zb 0) (fC (.int 2147483629))) (Ze Zgz (fC (.int 9973)) (Zb 1))) (fC (.int 5))) (fC (.int 48271))) (fC (.int 2147483647))) (Wz 2))
  (Zx (wE (Ze Zc9 (Ze Zgz (Zb 2) (Zb 2)) (fC (.int 2147483587))) (Wz 2))
  (wE (Ze Zag (Ze Zc9 (Ze Zgz (Ze Zca (Zb 2) (Ze Zgz (fC (.int 7919)) (Zb 1))) (fC (.int 16807))) (fC (.int 2147483563))) (fC (.int 8))) W8)))
noncomputable def Zfl:FD:=Ji 2 3 Zgv
noncomputable def Zdm:FS :=
 (Zx (wE (Zcx Zm) (Ja 2))
  (Zx (wE (Zb 0) (Wz 3))
  (Zx (Jz (iRa (Zc (Zb 1) Zm)) (gNm 4)
  (Zx (wE (Zv Zfl (Zc (Zb 0) (Zc (Zb 4) Zm))) (Wz 5))
  (Zx (J8 (tV (Ze gGe (Zb 0) (Ze Zwq (fC (.int 10)) (fC (.int 18)))))
  (wE (Ze Zc9 (Zb 3) (fC (.int 720720))) (Wz 5))
  fNx)
  (Zx (wE (Ze Zag (Zb 3) (fC (.int 720720))) (Wz 3))
  (Yk 2 (Zb 5))))))
  (Zc6 2))))
noncomputable def Znk:FD:=Ji 2 6 Zdm
noncomputable def Zk(p:List Int):Xa:=.list (p.map Xx)
theorem Zwc{p:List Int}{i:Int}(h0:0≤i)(h1:i<p.length):atI (p.map Xx) i=some (.int (p.getD i.toNat 0)):=by
 rw[Zmz h0,Xl,Xk (by omega)]
 simp[Xr,Xk (show i.toNat<p.length by omega)]
theorem Zb1{a b:FE}{δ:Zf}{p:List Int}{i:Int}(ha:EvV a δ (Zk p))(hb:EvV b δ (.int i))(h0:0≤i)(h1:i<p.length):EvV (Z4 gIx a b) δ (.int (p.getD i.toNat 0)):=Zb2 ha hb (Zwc h0 h1)
theorem Zb7{a:FE}{δ:Zf}{p:List Int}(ha:EvV a δ (Zk p)):EvV (Zak Zce (Zc a Zm)) δ (.int p.length):=by
 have:=Zbw (ds:=p.map Xx) ha
 rwa[Xd]at this
theorem Yb5:Zwq (.int 10) (.int 18)=some (.int 1000000000000000000):=rfl
theorem Zoa(ns:List Int){k:Int}(h0:0≤k):∃c,Yy [Zk ns,.int k]= .ok (.fz (.int c)):=by
 by_cases c:k<ns.length
 ·exact⟨_,Told.int<|Z6 rfl<|Zb8 (Zfy (Za9 (Zuy Za (Zb7 Za) (decide_eq_true c))) (Wm (Zb1 Za Za h0 c)))⟩
 ·exact⟨_,Told.int<|Z6 rfl<|Zw (Yg (Za9 (Zuy Za (Zb7 Za) (decide_eq_false c))) rfl) (Wm Yd)⟩
theorem Znv{i:Nat}{e:FE}{δ:Zf}{vs:List Int}{v:Int}(h:EvV e δ (.int v))(hi:δ[i]? =some (some (.nd (vs.map λv=>.fz (.int v)))))(hl:vs.length≤1000000):Yk i e δ= .nx (δ.set i (some (.nd ((vs ++ [v]).map λv=>.fz (.int v))))):=by
 rw[Zez h hi (by rw[Xd];exact hl),Qg];rfl
theorem Z22(p:List Int):(OT.nd ((p.map Xx).map OT.fz)).data=Zk p:=by
 rw[OT.data_nd,OT.map_fz];rfl
theorem Zvj(vs:List Int):(OT.nd (vs.map λv=>OT.fz (.int v))).data=Zk vs:=by rw[OT.data_nd,Zhh];rfl
end My
namespace L2
open PySem PySem.Spec PyProof.Rows
variable {G:Xc}
section
variable {X:Cx}{io:List Nat}{p c:Bool}{e a b:Expr}{es:List Expr}{m mj:MEt}{pos apos cpos px sp kp:Pos}{i:Nat}{x:Str}{fa fb:FE}{st:Stmt}
noncomputable def Zmu(i:Nat)(mj m:MEt):MSt:=λD δ=>match δ[i]? with
 | some (some (.nd ts))=>mj δ λn _=>match n.data with
  | .int k=>match ixN ts.length k with
   | some j=>match ts[j]? with
    | some (.nd us)=>m δ λr _=>us.length<Xq∧D.nx (δ.set i (some (.nd (ts.set j (.nd (us ++ [.fz r.data]))))))
    | _=>False
   | none=>False
  | _=>False
 | _=>False
theorem Zm0(i:Nat)(hj:ME X io true c a mj)(he:ME X io true true e m)(hPa:Zfu a:=by exact λ_ _=>rfl)(hN:X.N[i]? =some x:=by rfl)(hv:Vis X.env.scope x:=by first|exact Qw rfl|exact Qo (Qw rfl)|exact Qo (Qo rfl))(hd:(x==("__debug__" : Str))=false:=by decide)
  (hcd:(x==("__classdict__" : Str))=false:=by decide)
  (hbase:Bc (.Subscript (.Name x px) a sp) "append" X.env (eval (.Subscript (.Name x px) a sp) X.env)=eval (.Subscript (.Name x px) a sp) X.env:=by rfl)
  (hfew:((JD cpos (Xu [e] X.env)).all (λx=>!x.1)&&(backToKw cpos (V3 [] X.env)).all (λx=>x.1.isSome)
   &&decide ([e].length+([]:List Vn).length+(if([]:List Vn).isEmpty then 0 else 1)<30))=true:=by rfl)
  (hline:(apos.endLine==cpos.line)=true:=by rfl) (hs:Xu [e] X.env=(false,eval e X.env) :: Xu [] X.env:=by rfl) (hplain:(JD cpos (Xu [] X.env)).any (·.1)=false:=by rfl)
  (hsw:Br (.Call (.Attribute (.Subscript (.Name x px) a sp) "append" apos) [e] [] cpos) none pos.line X.env=pure false:=by rfl) :
  MS X io (.Expr (.Call (.Attribute (.Subscript (.Name x px) a sp) "append" apos) [e] [] cpos) pos) (Zmu i mj m):=by
 obtain⟨_,A,s⟩:=he
 obtain⟨_,B,sj⟩:=hj
 refine⟨_,Zcy (Znz JR PySem.F.slot_list_append PySem.F.type_list_append Zdf (Zvk (Zm3 rfl) (pv i hN hv hd hcd) B hPa) (Zbq A Zf2 hs) hbase hfew hline hs hplain) hsw,λC H σ δ fp ex D D' R h E=>?_⟩
 unfold Zmu at h
 split at h
 case h_2=>exact h.elim
 rename_i ts hi
 obtain⟨a',_,_,hv0,_⟩:=R.ownNd hi
 refine⟨_,hv0,?_⟩
 refine sj.pureAfter R h λH2 w n R2 s2 q2 h2=>?_
 obtain⟨k,rfl,h2⟩:=q2.intInv h2
 split at h2
 case h_2=>exact h2.elim
 rename_i j hj
 split at h2
 case h_2=>exact h2.elim
 rename_i us hus
 obtain⟨a2,xs2,bs2,hv2,hx2,o2,hf2⟩:=R2.ownNd hi
 rw[hv0]at hv2
 cases hv2
 obtain⟨xr,cr,hxr,orow,_⟩:=o2.get hus
 obtain⟨b',ws0,rfl,hb0⟩:∃b' ws0,xr=V.ref b'∧H2 b'=some (.lst ws0):=by
  cases orow with
  | nd h r=>exact⟨_,_,rfl,h⟩
 refine⟨a',xs2,k,V.ref b',rfl,rfl,.inl (.inl hx2),?_,?_⟩
 ·unfold atI
  rw[o2.length,hj]
  exact hxr
 refine⟨.inl ⟨rfl,ws0,.inl (.inl hb0)⟩,?_⟩
 refine s.pureAfter R2 h2 λH3 v r R3 s3 q h3=>?_
 obtain⟨a3,xs3,bs3,hv3,hx3,o3,hf3⟩:=R3.ownNd hi
 rw[hv0]at hv3
 cases hv3
 have exs:xs3=xs2:=by
  have:=s3 _ _ hx2
  rw[hx3]at this
  cases this;rfl
 subst exs
 obtain⟨xr3,cr3,hxr3,orow3,hsub3⟩:=o3.get hus
 rw[hxr]at hxr3
 cases hxr3
 have nd3:=R3.nd i
 rw[hf3]at nd3
 have hn3:=X6.mp nd3
 cases orow3 with
 | nd hb r3=>
  rename_i ws3 bs4
  have hbm:b'∈bs3:=hsub3.subset (.head _)
  have hbf:b'∈fp i:=by rw[hf3];exact .tail _ hbm
  have hLb:¬Lf C fp ex b':=λl=>l.1 ⟨i,hbf⟩
  have q':=q.wide (L':=Lf C fp ex) λa l _=>l rfl
  obtain⟨as',oo,ss,_⟩:=Owns.deep (ws':=ws3 ++ [v]) (us':=us ++ [.fz r.data]) hb hLb (λcs hcs=>⟨cs,by have:=hcs.snoc (.fz q');simpa using this,List.Sublist.refl _⟩) o3 hn3.2 hxr hus
  refine⟨b',ws3,v,rfl,rfl,hb,by rw[r3.length];exact h3.1,?_⟩
  have hba:a'≠b':=λz=>hn3.1 (z▸hbm)
  have sub:∀a,a∈a' :: as'->a∈fp i:=λa m=>by
   rw[hf3]
   rcases Xp.mp m with rfl|m
   ·exact .head _
   ·exact .tail _ (ss.subset m)
  have kp:∀b o,H3 b=some o->b≠b'->upd H3 b' (.lst (ws3 ++ [v])) b=some o:=λb o e n=>by rw[Zn n];exact e
  have lw:∀a,Lf C fp ex a->upd H3 b' (.lst (ws3 ++ [v])) a≠none->Lf C (fpu fp i (a' :: as')) (exu ex []) a:=λa l _=>⟨λz=>by
   rcases z.of_u with z|⟨j,_,z⟩
   ·exact l.1 ⟨i,sub a z⟩
   ·exact l.1 ⟨j,z⟩,λz=>l.2.1 (Js.mp z),l.2.2⟩
  obtain⟨R4,S4⟩:=R3.change (new:=[]) (as':=a' :: as') (t':=.nd (ts.set j (.nd (us ++ [.fz r.data])))) (H':=upd H3 b' (.lst (ws3 ++ [v]))) hi hv0 (λb o e nb=>kp b o e λz=>nb (by rw[z];exact hbf)) (λb e=>by
   by_cases q:b=b'
   ·subst q;rw[Zr]at e;cases e
   ·rwa[Zn q]at e) (.nd (by rw[Zn hba];exact hx3) (oo.wide lw)) (X6.mpr ⟨λm=>hn3.1 (ss.subset m),hn3.2.sublist ss⟩) (λa m=>.inl (sub a m)) (λa m=>nomatch m)
  have k1:Kp H fp H3 fp:=⟨λb o e _=>s3 _ _ (s2 _ _ e),λz=>(nomatch z),λa z=>.inl z,λb e=>s2.al b (s3.al b e)⟩
  exact E.nx _ σ _ _ (R4.drop λa z=>.inl z) (k1.trans S4.kp) h3.2
noncomputable def Zh5(i:Nat)(j e:FE):FS:=λδ=>match δ[i]? with
 | some (some (.nd ts))=>wE j (λn _=>match n.data with
  | .int k=>match ixN ts.length k with
   | some j=>match ts[j]? with
    | some (.nd us)=>wE e (λr _=>if us.length<Xq then .nx (δ.set i (some (.nd (ts.set j (.nd (us ++ [.fz r.data]))))))else .bad) δ
    | _=>.bad
   | none=>.bad
  | _=>.bad) δ
 | _=>.bad
theorem Znq(h:MS X io st (Zmu i (o2 fb) (o2 fa))):MS X io st (oS (Zh5 i fb fa)):=h.weak λD δ h=>by
 unfold oS Zh5 at h;unfold Zmu
 split at h
 case h_2=>exact h.elim
 rename_i q;(try rw[q]);(try dsimp only)
 refine(Zmo h).imp λn δ' z=>?_
 split at z
 case h_2=>exact z.elim
 rename_i k q1;(try rw[q1]);(try dsimp only)
 split at z
 case h_2=>exact z.elim
 rename_i j q2;(try rw[q2]);(try dsimp only)
 split at z
 case h_2=>exact z.elim
 rename_i us q3;(try rw[q3]);(try dsimp only)
 exact(Zmo z).imp λr δ' z=>Zda z
end
variable {G:Xc}
section
variable {X:Cx}{io:List Nat}{p c p' c':Bool}{a b e:Expr}{ma mb m:MEt}{pos pp:Pos}{x:Str}
theorem Z4l{n:Int}{t:Tok}(hg:Gl X x)(hm:X.mg x=some (.int n t))(hdb:(x==("__debug__" : Str))=false:=by decide):ME X io true true (.Name x pos) (mC (.int n)) :=
 ⟨_,Zzu (v:=.int n) hg hm ⟨t,rfl⟩ hdb,λC H σ δ fp ex K Q R h k=>k H (.int n) _ δ fp [] (.fz R (.refl _ _ _ _) (.int n)) h⟩
noncomputable def Zxp(ma mb:MEt):MEt:=λδ K=>ma δ λrk _=>∃k:Int,rk.data= .int k∧mb δ λrv _=>K (.dc false [.inl (.inl k)] [rv.data]) δ
theorem Zyn(ha:ME X io true c a ma)(hb:ME X io true true b mb):ME X io true true (.Dict [some a] [b] pos) (Zxp ma mb):=by
 obtain⟨_,A,sa⟩:=ha
 obtain⟨_,B,sb⟩:=hb
 refine⟨_,Z11 (Zu2 A B Z2z) rfl rfl (λz=>nomatch z) (show 1≤15 by decide),λC H σ δ fp ex K Q R h kk q hq=>?_⟩
 have s0:Same H (upd H q (.dK [])):=Zz hq _
 have R0:Rel C io (upd H q (.dK [])) σ δ fp (exu ex [q]):=R.made s0 λa m=>by
  rw[Xj.mp m]
  exact⟨hq,by rw[Zr];exact UV _⟩
 refine sa.pureAfter R0 h λH1 v r R1 s1 q1 h1=>?_
 obtain⟨k,hk,h1⟩:=h1
 rw[hk]at q1
 have hv:v= .int k:=by cases q1;rfl
 refine sb.pureAfter R1 h1 λH2 v2 r2 R2 s2 q2 h2=>?_
 have e2:H2 q=some (.dK []):=s2 _ _ (s1 _ _ Zr)
 refine⟨e2,[(.inl k,v2)],by rw[hv];rfl,show 1≤15 by decide,?_⟩
 have keep:∀b o,H2 b=some o->b≠q->upd H2 q (.dK (Zeu [] [(.inl k,v2)])) b=some o:=λb o e n=>by rw[Zn n];exact e
 have sm:Same H (upd H2 q (.dK (Zeu [] [(.inl k,v2)]))):=λb o e=>keep b o (s2 _ _ (s1 _ _ (s0 _ _ e))) λz=>by rw[z,hq]at e;cases e
 have d3:Da X.K (upd H2 q (.dK (Zeu [] [(.inl k,v2)]))) (λa=>((true=true->Lf C fp ex a)∨H a=none)∧a∉[q]) v2 r2.data:=q2.frame (λa xs l e=>by
  have l:=l rfl
  have n:a≠q:=λz=>l.2.1 (.inr (Xj.mpr z))
  exact⟨⟨.inl λ_=>⟨l.1,λz=>l.2.1 (.inl z),l.2.2⟩,λm=>n (Xj.mp m)⟩,e.imp (λe=>keep a _ e n) λz=>z.imp λo e=>keep a _ e n⟩) λa xs e=>keep a _ e λz=>by
   rw[z,e2]at e
   cases xs<;>cases e
 exact kk _ _ _ δ fp [q] (RE.tree (H1:=H) R R (Stp.same (Same.refl H) λ_ z=>z) sm (Zaq hq) (Zch q) (.dc (o:=.dK [(.inl k,v2)]) Zr ⟨rfl,rfl,rfl⟩ (.cons d3 .nil))) h2
noncomputable def Zw5(a b:FE):FE:=λδ=>(a δ).bind λp=>match p.1.data with
 | .int k=>(b δ).bind λq=>some (.dc false [.inl (.inl k)] [q.1.data],δ)
 | _=>none
theorem Zu0{fa fb:FE}(h:ME X io p c e (Zxp (o2 fa) (o2 fb))):ME X io p c e (o2 (Zw5 fa fb)):=h.weak λδ K z=>by
 obtain⟨r,δ',h,k⟩:=z
 obtain⟨⟨x,δ1⟩,h1,h⟩:=bs h
 dsimp only at h
 split at h
 case h_2=>cases h
 rename_i n hn
 obtain⟨⟨y,δ2⟩,h2,h⟩:=bs h
 cases h
 exact⟨x,δ1,h1,n,hn,y,δ2,h2,k⟩
end
variable {G:Xc}
noncomputable def Zk3:List Xa->Option (List Str)
 | []=>some []
 | .str x :: ds=>(Zk3 ds).map (x :: ·)
 | _ :: _=>none
theorem Das.strs{H:Hp}{L:Addr->Prop}:∀{xs:List V} {ds:List Xa} {ts:List Str},Das G H L xs ds->Zk3 ds=some ts->xs=ts.map V.str
 | _,[],_,.nil,h=>by cases h;rfl
 | _,d :: ds,_,.cons h r,e=>by
  cases d with
  | str x=>
   rw[Zk3]at e
   obtain⟨ts,e1,rfl⟩:=X7.mp e
   cases h
   rw[r.strs e1];rfl
  | _=>cases e
theorem Zj5:∀{ts:List Str} {us:List Xe},Vals (ts.map V.str) us->∃l:List (Str×Tok),us=strValues l∧l.map (·.1)=ts
 | [],_,r=>by cases r;exact⟨[],rfl,rfl⟩
 | t :: ts,_,r=>by
  rw[X3]at r
  cases r with
  | cons h r=>
   obtain⟨k,rfl⟩:=h
   obtain⟨l,rfl,rfl⟩:=Zj5 r
   exact⟨(t,k) :: l,rfl,rfl⟩
section
variable {X:Cx}{K:Xc}
noncomputable def rJoin(K:Xc):V->List V->Hp->VK->Prop:=λx vs H Q=>∃sep b ts,x= .str sep∧vs=[.ref b]∧SqL K H b (ts.map V.str)∧JoinOk sep ts=true∧Q (.str (UT sep ts)) H
theorem Zsi(hK:X.K=K):MtR X "str.join" (rJoin K):=by
 intro pins s σ H x vs v us Q I rx rv h
 obtain⟨sep,b,ts,rfl,rfl,hb,ok,q⟩:=h
 obtain⟨t,rfl⟩:=rx
 obtain⟨u,rfl,ru⟩:=rv.one
 cases ru
 obtain⟨its,n,r,hl,o,e1,e2,e3,e4⟩:=I.lstQ hK hb
 obtain⟨l,rfl,hl2⟩:=Zj5 r
 exact SC.join (l:=l) (texts:=ts) ⟨o,e1,e2,n,e4⟩ hl2 ok λt' k=>⟨.str _,H,I.tok k,⟨t',rfl⟩,q⟩
end
section
variable {X:Cx}{io:List Nat}{p c p' c':Bool}{o e:Expr}{es:List Expr}{mo:MEt}{mr:MAt}{apos cpos:Pos}{r:V->List V->Hp->VK->Prop}{name:Str}{id:String}
noncomputable def PMs(G:Xc)(r:V->List V->Hp->VK->Prop)(g:Str->List Xa->Option Xa):Prop:=∀(H:Hp) (L:Addr->Prop) (z:Str) (xs:List V) (ds:List Xa) (d:Xa) (Q:VK),Das G H L xs ds->g z ds=some d->(∀v,ScD v d->Q v H)->r (.str z) xs H Q
noncomputable def Z9r(g:Str->List Xa->Option Xa)(mo:MEt)(mr:MAt):MEt:=λδ K=>mo δ λro δ1=>∃z,ro.data= .str z∧mr δ1 λrs δ2=>∃d,g z (OT.datas rs)=some d∧K (.fz d) δ2
theorem Da.strInv{H:Hp}{L:Addr->Prop}{v:V}{z:Str}(h:Da G H L v (.str z)):v= .str z:=by cases h;rfl
theorem Ygt{g:Str->List Xa->Option Xa}{to:TE}{t:TA}(P:PMs G r g)(so:SE G io p c to mo)(sa:SA G io p' c' t mr):SE G io (p&&p') true (tBM G "str" r to t) (Z9r g mo mr):=λC H σ δ fp ex K Q R h kk=>
 so C H σ δ fp ex _ _ R h λH1 v ro δ1 fp1 new1 r1 h1=>by
  obtain⟨z,hz,h1⟩:=h1
  have q:=r1.da R
  rw[hz]at q
  cases q.strInv
  exact⟨rfl,sa C H1 σ δ1 fp1 ex _ _ r1.base h1 λH2 vs rs δ2 fp2 new2 r2 h2=>by
   obtain⟨d,e,h2⟩:=h2
   exact P H2 _ z vs _ d _ (r2.das r1.base) e λv sc=>kk H2 v _ δ2 fp2 [] (.fz r2.base (r1.stp.trans r2.stp) sc.da) h2⟩
theorem Z71{g:Str->List Xa->Option Xa}(P:PMs X.K r g)(slot:Slot "str" name id)(hty:typeOf (.builtin id)=pure (.type "method_descriptor"))(hm:MtR X id r)(ho:ME X io p c o mo)(ha:MA X io p' c' (e :: es) mr)
  (hbase:Bc o name X.env (eval o X.env)=eval o X.env:=by rfl)
  (hfew:((JD cpos (Xu (e :: es) X.env)).all (λx=>!x.1)&&(backToKw cpos (V3 [] X.env)).all (λx=>x.1.isSome)
   &&decide ((e :: es).length+([]:List Vn).length+(if([]:List Vn).isEmpty then 0 else 1)<30))=true:=by rfl)
  (hline:(apos.endLine==cpos.line)=true:=by rfl) (hs:Xu (e :: es) X.env=(false,eval e X.env) :: Xu es X.env:=by rfl) (hplain:(JD cpos (Xu es X.env)).any (·.1)=false:=by rfl) :
  ME X io (p&&p') true (.Call (.Attribute o name apos) (e :: es) [] cpos) (Z9r g mo mr):=by
 obtain⟨_,O,so⟩:=ho
 obtain⟨_,A,sa⟩:=ha
 exact⟨_,Znz PySem.F.plainAttrs_str slot hty hm O A hbase hfew hline hs hplain,Ygt P so sa⟩
noncomputable def Zts:Str->List Xa->Option Xa:=λz ds=>match ds with
 | [.list es]=>(Zk3 es).bind λts=>if JoinOk z ts=true then some (.str (UT z ts))else none
 | _=>none
theorem Zrr:PMs G (rJoin G) Zts:=λH L z xs ds d Q hx h kk=>by
 unfold Zts at h
 split at h
 case h_2=>cases h
 rename_i es
 obtain⟨ts,h1,h⟩:=bs h
 split at h
 case isFalse=>cases h
 rename_i ok
 cases h
 cases hx with
 | cons q r0=>
  cases r0
  cases q with
  | lst l e r=>exact⟨z,_,ts,rfl,rfl,.inl (r.strs h1▸e),ok,kk _ (.str _)⟩
  | scr ks=>
   rename_i a ns
   cases ns with
   | nil=>cases h1;exact⟨z,_,[],rfl,rfl,ks.sq,ok,kk _ (.str _)⟩
   | cons n ns=>cases h1
noncomputable def Z31(g:Str->List Xa->Option Xa)(o:FE)(a:FA):FE:=λδ=>(o δ).bind λp=>match p.1.data with
 | .str z=>(a p.2).bind λq=>(g z (OT.datas q.1)).bind λd=>some (.fz d,q.2)
 | _=>none
variable {fo:FE}{ra:FA}
theorem Zxw{g:Str->List Xa->Option Xa}(h:ME X io p c e (Z9r g (o2 fo) (o2 ra))):ME X io p c e (o2 (Z31 g fo ra)):=h.weak λδ K z=>by
 obtain⟨r,δ',h,k⟩:=z
 obtain⟨⟨x,δ1⟩,h1,h⟩:=bs h
 dsimp only at h
 split at h
 case h_2=>cases h
 rename_i z hz
 obtain⟨⟨y,δ2⟩,h2,h⟩:=bs h
 obtain⟨d,h3,h⟩:=bs h
 cases h
 exact⟨x,δ1,h1,z,hz,y,δ2,h2,_,h3,k⟩
end
variable {G:Xc}
section
variable {X:Cx}{io:List Nat}{p c:Bool}{e tg:Expr}{m:MEt}
noncomputable def Zkh:List Xa->Option Xa:=λds=>match ds with|[.str z]=>if z.length≤Xq then some (.int z.length)else none|_=>none
noncomputable def Z8k:List Xa->(Xa->Prop)->Prop:=λds k=>∃d,Zkh ds=some d∧k d
theorem Zxo:∀ds r k,Zkh ds=some r->k r->Z8k ds k:=λds r k h hk=>⟨r,h,hk⟩
theorem Zsj:PNs G (λxs H Q=>∃z,xs=[.str z]∧z.length≤Xq∧Q (.int z.length) H) Z8k:=λH L xs ds k Q hx h kk=>by
 obtain⟨d,h,hk⟩:=h
 unfold Zkh at h
 split at h
 case h_2=>cases h
 split at h
 case isFalse=>cases h
 rename_i z hz
 cases h
 cases hx with
 | cons q r0=>
  cases r0
  cases q.strInv
  exact⟨z,rfl,hz,kk _ _ (.int _) hk⟩
end
variable {G:Xc}
section
variable {X:Cx}
noncomputable def Yem(neg:Bool):R2:=λy x H Q=>∃a o,x= .ref a∧DGet H a y o∧Q (.bl (if neg then !o.isSome else o.isSome)) H
theorem Zqe(hu:X.A.units+64<V8):OpR X (Qx .NotIn) (Yem true):=by
 intro pins s σ H y x iv u Q I ry rx h
 obtain⟨a,o,rfl,g,q⟩:=h
 cases rx
 exact Z2u (hu1 hu) I g ry λs3 I3=>⟨.bl (!o.isSome),H,I3,rfl,q⟩
noncomputable def Zt5(neg:Bool):Xa->Xa->Option Xa:=λe d=>match d with
 | .dict ((.none,.bool t) :: kvs)=>(Zjq e).bind λk=>if Zqw k=t then some (.bool (if neg then !(Zhb k kvs).isSome else(Zhb k kvs).isSome))else none
 | _=>none
noncomputable def Ye0(neg:Bool):Xa->Xa->(Xa->Prop)->Prop:=λe d k=>∃r,Zt5 neg e d=some r∧k r
theorem Yb7{neg:Bool}:ByS (Zt5 neg) (Ye0 neg):=λ_ _ r _ h hk=>⟨r,h,hk⟩
theorem Z58{neg:Bool}:P2s G (Yem neg) (Ye0 neg):=λH L y x e d k Q hy hx h kk=>by
 obtain⟨r,h,hk⟩:=h
 unfold Zt5 at h
 split at h
 case h_2=>cases h
 rename_i t kvs
 obtain⟨ky,h1,h⟩:=bs h
 by_cases ht:Zqw ky=t
 ·rw[if_pos ht]at h
  cases h
  obtain⟨a,o,rfl,_,g,R⟩:=hx.dget hy h1 ht
  have eo:o.isSome=(Zhb ky kvs).isSome:=by
   rcases R with⟨v,d,rfl,hd,_⟩|⟨rfl,hd⟩<;>rw[hd]<;>rfl
  exact⟨a,o,rfl,g,by rw[eo];exact kk _ _ (.bl _) hk⟩
 ·rw[if_neg ht]at h;cases h
noncomputable def Zpx:List Xa->Option Xa:=λds=>match ds with|[.dict ((.none,.bool false) :: kvs)]=>some (.int kvs.length)|_=>none
noncomputable def Z32:List Xa->(Xa->Prop)->Prop:=λds k=>∃d,Zpx ds=some d∧k d
theorem Z56:∀ds r k,Zpx ds=some r->k r->Z32 ds k:=λds r k h hk=>⟨r,h,hk⟩
noncomputable def Z5n:List V->Hp->VK->Prop:=λxs H Q=>∃a kvs,xs=[.ref a]∧Rd H a (.dK kvs)∧Q (.int kvs.length) H
theorem Zra:Zcd X (.builtin "len") Z5n:=by
 intro pins s σ H xs us Q I rv h
 obtain⟨a,kvs,rfl,e,q⟩:=h
 obtain⟨u,rfl,ru⟩:=rv.one
 cases ru
 obtain⟨z,hd,vs,rel,dd⟩:=Zr4 I.hok e
 refine call_len_dict hd dd (by rw[←rel.length];rw[XN]at z;omega) ?_
 exact⟨.int kvs.length,H,I.tok _,⟨_,by rw[rel.length]⟩,q⟩
theorem Zzp:PNs G Z5n Z32:=λH L xs ds k Q hx h kk=>by
 obtain⟨d,h,hk⟩:=h
 unfold Zpx at h
 split at h
 case h_2=>cases h
 rename_i kvs
 cases h
 cases hx with
 | cons q r0=>
  cases r0
  generalize ed:Xa.dict ((.none,.bool false) :: kvs)=d at q
  cases q with
  | dic l r dk qs=>
   rename_i a o t' ks xs ds
   unfold dcD at ed
   injection ed with ed
   injection ed with e1 e2
   injection e1 with _ e1
   injection e1 with e1
   subst e1 e2
   cases o with
   | lst _=>exact dk.elim
   | dT _=>exact nomatch dk.1
   | dK kv=>
    obtain⟨_,e1,e2⟩:=dk
    subst e1 e2
    refine⟨a,kv,rfl,r,?_⟩
    have hl:kv.length=(((kv.map λp=>(Sum.inl p.1:KY)).map kyD).zip ds).length:=by
     have:=qs.length
     rw[Xd]at this
     rw[List.length_zip,Xd,Xd,←this,Nat.min_self]
    rw[hl]
    exact kk _ _ (.int _) hk
  | exc _ _ _=>unfold exD at ed;cases ed
  | fn _=>unfold fnD at ed;cases ed
  | _=>cases ed
end
variable {G:Xc}
noncomputable def Sg(z:Str)(t:Tok)(it:Addr)(i:Nat)(h:Heap):Prop:=h.IsStrIter it "str_ascii_iterator" z t i∨h.IsStrIter it "str_iterator" z t i
section
variable {P:XS}{w:Qq}{A:Qs}{E:Xe->Xg->Prop}{s:Xg}
structure Ap(z TI TO i1 i2:Addr):Prop where
 a1:TI≠z
 a2:TO≠z
 a3:i1≠z
 a4:i2≠z
 a5:i1≠TO
 a6:i2≠TO
 a7:i1≠i2
 a8:TI≠TO
 a9:TI≠i1
 a10:TI≠i2
noncomputable abbrev yT1(h:Heap)(x:Str)(t:Tok):Heap:=h.push { cls:=.type (strIterType x),data:=.fields #[.str x t,.int 0 0] }
noncomputable abbrev yT2(h:Heap)(x y:Str)(t u:Tok):Heap:=yT1 (yT1 h x t) y u
noncomputable abbrev yT3(h:Heap)(x y:Str)(t u:Tok):Heap:=(yT2 h x y t u).push { cls:=.type "tuple",data:=.seq #[.ref h.objs.size,.ref (yT1 h x t).objs.size] }
noncomputable abbrev yT4(h:Heap)(x y:Str)(t u:Tok):Heap:=(yT3 h x y t u).push { cls:=.type "tuple",data:=.seq #[.none,.none] }
noncomputable abbrev yT5(h:Heap)(x y:Str)(t u:Tok):Heap:=(yT4 h x y t u).push { cls:=.type "zip",data:=.fields #[.none,.bool false,.bool false,.ref (yT2 h x y t u).objs.size,.ref (yT3 h x y t u).objs.size] }
theorem Sg.at{h:Heap}{x:Str}{t:Tok}{it:Addr}(e:h.get? it=some { cls:=.type (strIterType x),data:=.fields #[.str x t,.int 0 0] }):Sg x t it 0 h:=by
 unfold strIterType at e
 split at e
 ·exact .inl ⟨_,e,rfl,rfl⟩
 ·exact .inr ⟨_,e,rfl,rfl⟩
end
section
variable {X:Cx}{io:List Nat}{p c:Bool}{a b:Expr}{mr:MAt}{ra:FA}
end
section
variable {X:Cx}{io:List Nat}{tg iter test:Expr}{rs:List Stmt}{mi:MIt}{g:MGt}{mt:MTt}{ur:MSt}{pos pi:Pos}{st:Stmt}{it:FI}{gg:FG}{t:FT}{r:FS}
end
section
variable {X:Cx}{io:List Nat}{e:Expr}{m:MEt}{fa:FE}{i:Nat}{pos pt:Pos}{st:Stmt}
end
section
variable {X:Cx}{io:List Nat}{x:Str}{pos:Pos}
theorem Zzb{n:Int}(hg:Gl X x)(hm:∃t,X.mg x=some (.int n t))(hdb:(x==("__debug__" : Str))=false:=by decide):ME X io true true (.Name x pos) (mC (.int n)):=by
 obtain⟨t,h⟩:=hm
 exact Z4l hg h hdb
end
variable {G:Xc}
section
variable {X:Cx}
noncomputable def Ydu:R2:=λx y H Q=>∃a b ns ms,x= .ref a∧y= .ref b∧H a=some (.tup (ns.map V.int))∧H b=some (.tup (ms.map V.int))∧Q (.bl (ltI ns ms)) H
theorem Z3z(hu:X.A.units+64<V8):OpR X (Qx .Lt) Ydu:=by
 intro pins s σ H x y v u Q I rx ry h
 obtain⟨a,b,ns,ms,rfl,rfl,ha,hb,q⟩:=h
 cases rx
 cases ry
 obtain⟨its,r1,p1,_⟩:=I.tuple (.inl (.inl ha))
 obtain⟨its',r2,p2,_⟩:=I.tuple (.inl (.inl hb))
 obtain⟨⟨cls,dd,data,sl⟩,hl,hc,n,hd⟩:=p1
 obtain⟨⟨cls2,dd2,data2,sl2⟩,hl2,hc2,n2,hd2⟩:=p2
 simp only at hc hd hc2 hd2
 subst hc hd hc2 hd2
 exact richCompare_meets_room (op:=.Lt) ⟨_,hl,rfl⟩ ⟨_,hl2,rfl⟩ F.slot_tuple_lt F.entry_tuple_lt (F.args_tuple_lt_2 _ _) (Zol a b its.toArray its'.toArray n n2 dd dd2 sl sl2 (Zii r1) (Zii r2))
  ⟨hl,hl2,show Uo (ltI ns ms)≠Xe.notImplemented∧_ from⟨(λx=>nomatch x),⟨.bl (ltI ns ms),H,I,rfl,q⟩⟩⟩ (by omega)
noncomputable def Z5d:Xa->Xa->Option Xa:=λd e=>match d,e with
 | .tuple ds,.tuple es=>(Ze6 ds).bind λns=>(Ze6 es).bind λms=>some (.bool (ltI ns ms))
 | _,_=>none
noncomputable def Yc6:Xa->Xa->(Xa->Prop)->Prop:=λd e k=>∃r,Z5d d e=some r∧k r
theorem Yb6:ByS Z5d Yc6:=λ_ _ r _ h hk=>⟨r,h,hk⟩
theorem Zru{H:Hp}{L:Addr->Prop}{v:V}{ns:List Int}(h:Da G H L v (.tuple (ns.map Xx))):∃a,v= .ref a∧H a=some (.tup (ns.map V.int)):=by
 generalize e:PyData.tuple (ns.map Xx)=d at h
 cases h with
 | tup e1 r=>
  cases e
  exact⟨_,rfl,r.int_inv▸e1⟩
 | _=>cases e
theorem Z68:P2s G Ydu Yc6:=λH L x y d e k Q hx hy h kk=>by
 obtain⟨r,h,hk⟩:=h
 unfold Z5d at h
 split at h
 case h_2=>cases h
 obtain⟨ns,h1,h⟩:=bs h
 obtain⟨ms,h2,h⟩:=bs h
 cases h
 rw[Zdk h1]at hx
 rw[Zdk h2]at hy
 obtain⟨a,rfl,ha⟩:=Zru hx
 obtain⟨b,rfl,hb⟩:=Zru hy
 exact⟨a,b,ns,ms,rfl,rfl,ha,hb,kk _ _ (.bl _) hk⟩
end
variable {G:Xc}
section
variable {X:Cx}{io:List Nat}{p c:Bool}{e a:Expr}{mj:MEt}{pos apos cpos px sp:Pos}{i:Nat}{x:Str}{fb:FE}{st:Stmt}
noncomputable def Znx(i:Nat)(mj:MEt):MSt:=λD δ=>match δ[i]? with
 | some (some (.nd ts))=>mj δ λn _=>match n.data with
  | .int k=>match ixN ts.length k with
   | some j=>match ts[j]? with
    | some (.nd us)=>D.nx (δ.set i (some (.nd (ts.set j (.nd [])))))
    | _=>False
   | none=>False
  | _=>False
 | _=>False
theorem Zwe(i:Nat)(hj:ME X io true c a mj)(hPa:Zfu a:=by exact λ_ _=>rfl)(hN:X.N[i]? =some x:=by rfl)(hv:Vis X.env.scope x:=by first|exact Qw rfl|exact Qo (Qw rfl)|exact Qo (Qo rfl))(hd:(x==("__debug__" : Str))=false:=by decide)
  (hcd:(x==("__classdict__" : Str))=false:=by decide)
  (hbase:Bc (.Subscript (.Name x px) a sp) "clear" X.env (eval (.Subscript (.Name x px) a sp) X.env)=eval (.Subscript (.Name x px) a sp) X.env:=by rfl)
  (hline:(apos.endLine==cpos.line)=true:=by rfl)
  (hsw:Br (.Call (.Attribute (.Subscript (.Name x px) a sp) "clear" apos) [] [] cpos) none pos.line X.env=pure false:=by rfl) :
  MS X io (.Expr (.Call (.Attribute (.Subscript (.Name x px) a sp) "clear" apos) [] [] cpos) pos) (Znx i mj):=by
 obtain⟨_,B,sj⟩:=hj
 refine⟨_,Zcy (Zxq JR PySem.F.slot_list_clear PySem.F.type_list_clear Zns (Zvk (Zm3 rfl) (pv i hN hv hd hcd) B hPa) hbase hline) hsw,λC H σ δ fp ex D D' R h E=>?_⟩
 unfold Znx at h
 split at h
 case h_2=>exact h.elim
 rename_i ts hi
 obtain⟨a',_,_,hv0,_⟩:=R.ownNd hi
 refine⟨_,hv0,?_⟩
 refine sj.pureAfter R h λH2 w n R2 s2 q2 h2=>?_
 obtain⟨k,rfl,h2⟩:=q2.intInv h2
 split at h2
 case h_2=>exact h2.elim
 rename_i j hj
 split at h2
 case h_2=>exact h2.elim
 rename_i us hus
 obtain⟨a2,xs2,bs2,hv2,hx2,o2,hf2⟩:=R2.ownNd hi
 rw[hv0]at hv2
 cases hv2
 obtain⟨xr,cr,hxr,orow,hsub⟩:=o2.get hus
 have nd3:=R2.nd i
 rw[hf2]at nd3
 have hn3:=X6.mp nd3
 cases orow with
 | nd hb r3=>
  rename_i b' ws3 bs4
  refine⟨a',xs2,k,V.ref b',rfl,rfl,.inl (.inl hx2),?_,?_⟩
  ·unfold atI
   rw[o2.length,hj]
   exact hxr
  refine⟨.inl ⟨rfl,ws3,.inl (.inl hb)⟩,?_⟩
  have hbm:b'∈bs2:=hsub.subset (.head _)
  have hbf:b'∈fp i:=by rw[hf2];exact .tail _ hbm
  have hLb:¬Lf C fp ex b':=λl=>l.1 ⟨i,hbf⟩
  obtain⟨as',oo,ss,_⟩:=Owns.deep (ws':=[]) (us':=[]) hb hLb (λcs hcs=>⟨[],.nil,List.nil_sublist _⟩) o2 hn3.2 hxr hus
  refine⟨b',ws3,rfl,rfl,hb,?_⟩
  have hba:a'≠b':=λz=>hn3.1 (z▸hbm)
  have sub:∀a,a∈a' :: as'->a∈fp i:=λa m=>by
   rw[hf2]
   rcases Xp.mp m with rfl|m
   ·exact .head _
   ·exact .tail _ (ss.subset m)
  have lw:∀a,Lf C fp ex a->upd H2 b' (.lst []) a≠none->Lf C (fpu fp i (a' :: as')) (exu ex []) a:=λa l _=>⟨λz=>by
   rcases z.of_u with z|⟨j,_,z⟩
   ·exact l.1 ⟨i,sub a z⟩
   ·exact l.1 ⟨j,z⟩,λz=>l.2.1 (Js.mp z),l.2.2⟩
  obtain⟨R4,S4⟩:=R2.change (new:=[]) (as':=a' :: as') (t':=.nd (ts.set j (.nd []))) (H':=upd H2 b' (.lst [])) hi hv0 (λb o e nb=>by rw[Zn λz=>nb (by rw[z];exact hbf)];exact e) (λb e=>by
   by_cases q:b=b'
   ·subst q;rw[Zr]at e;cases e
   ·rwa[Zn q]at e) (.nd (by rw[Zn hba];exact hx2) (oo.wide lw)) (X6.mpr ⟨λm=>hn3.1 (ss.subset m),hn3.2.sublist ss⟩) (λa m=>.inl (sub a m)) (λa m=>nomatch m)
  have k1:Kp H fp H2 fp:=⟨λb o e _=>s2 _ _ e,λz=>(nomatch z),λa z=>.inl z,λb e=>s2.al b e⟩
  exact E.nx _ σ _ _ (R4.drop λa z=>.inl z) (k1.trans S4.kp) h2
noncomputable def Zjr(i:Nat)(j:FE):FS:=λδ=>match δ[i]? with
 | some (some (.nd ts))=>wE j (λn _=>match n.data with
  | .int k=>match ixN ts.length k with
   | some j=>match ts[j]? with
    | some (.nd us)=>.nx (δ.set i (some (.nd (ts.set j (.nd [])))))
    | _=>.bad
   | none=>.bad
  | _=>.bad) δ
 | _=>.bad
theorem Zwf(h:MS X io st (Znx i (o2 fb))):MS X io st (oS (Zjr i fb)):=h.weak λD δ h=>by
 unfold oS Zjr at h;unfold Znx
 split at h
 case h_2=>exact h.elim
 rename_i q;(try rw[q]);(try dsimp only)
 refine(Zmo h).imp λn δ' z=>?_
 split at z
 case h_2=>exact z.elim
 rename_i k q1;(try rw[q1]);(try dsimp only)
 split at z
 case h_2=>exact z.elim
 rename_i j q2;(try rw[q2]);(try dsimp only)
 split at z
 case h_2=>exact z.elim
 rename_i us q3;(try rw[q3]);(try dsimp only)
 exact z
end
variable {G:Xc}
noncomputable def Zfx:List Xa->Option (List Bool)
 | []=>some []
 | .bool b :: r=>(Zfx r).bind λbs=>some (b :: bs)
 | _ :: _=>none
theorem Zsb{es:List Xa}{bs:List Bool}(h:Zfx es=some bs):es=bs.map Ba:=by
 induction es generalizing bs with
 | nil=>cases h;rfl
 | cons d r ih=>
  cases d with
  | bool b=>
   rw[Zfx]at h
   obtain⟨ks,h2,h⟩:=L2.bs h
   cases h
   rw[X3,←ih h2]
  | _=>cases h
theorem Zpa(bs:List Bool):Zfx (bs.map Ba)=some bs:=by
 induction bs with
 | nil=>rfl
 | cons b bs ih=>rw[X3,Zfx,ih];rfl
theorem Zse{H:Hp}{L:Addr->Prop}{bs:List Bool}:∀{xs:List V},Das G H L xs (bs.map Ba)->xs=bs.map V.bl:=by
 induction bs with
 | nil=>
  intro xs h
  cases h;rfl
 | cons b bs ih=>
  intro xs h
  cases h with
  | cons h t=>
   cases h
   rw[ih t];rfl
theorem Zok:∀{bs:List Bool} {its:List Xe},Vals (bs.map V.bl) its->its=bs.map Uo:=fun{bs}=>by
 induction bs with
 | nil=>
  intro its h
  cases h;rfl
 | cons b bs ih=>
  intro its h
  cases h with
  | cons h t=>
   cases(show _=Uo b from h)
   rw[ih t];rfl
theorem range_all(bs:List Bool):((Xi bs.length).all λi=>bs.getD i true)=bs.all id:=by
 have e:(Xi bs.length).map (λi=>bs.getD i true)=bs:=Zhy true bs
 have h:=congrArg (λl=>List.all l id) e
 rw[List.all_map]at h
 exact h
noncomputable def Ye7(K:Xc):List V->Hp->VK->Prop:=λxs H Q=>∃(a:Addr) (bs:List Bool),xs=[.ref a]∧SqL K H a (bs.map V.bl)∧Q (.bl (bs.all id)) H
theorem Zst{X:Cx}{K:Xc}(hK:X.K=K)(hc:X.calm=true):Zcd X (.builtin "all") (Ye7 K):=by
 subst hK
 intro pins s σ H xs us Q I r h
 obtain⟨a,bs,rfl,hs,q⟩:=h
 obtain⟨u,rfl,ru⟩:=vals1 r
 cases(show u=Qn a from ru)
 obtain⟨its,rv,pl,hz⟩:=I.list hs
 cases Zok rv
 have hl:=pl.isList
 refine call_all_walk (wpAny_pyIter_list hl ?_)
 have la:a<s.heap.objs.size:=by obtain⟨_,e,_⟩:=hl;exact XH e
 refine⟨_,_,_,_,_,_,λi=>bs.getD i true,rfl,Walks.list (by simpa using I.ok.hd hc) _ a (Xo la) _,⟨⟨_,XC _ rfl,rfl,rfl⟩,hl.push _⟩,λi v s Q E hP hQ=>?_,λh' tk k=>?_⟩
 ·have hP:(bs.map Uo).toArray[i]? =some v:=hP
  rw[Vt,Xl]at hP
  obtain⟨b,hb,rfl⟩:=X7.mp hP
  have hQ:Q (bs.getD i true) s:=hQ
  rw[Xr,hb]at hQ
  exact Q7 hQ
 ·rw[Xy,Xd,range_all]
  exact⟨.bl (bs.all id),H,I.kept (t':=tk) (λb o e=>k b o (λm=>Xo (XH e) (Xj.mp m)) (Xf _ e)),rfl,q⟩
noncomputable def Ye5:List Xa->(Xa->Prop)->Prop:=λds k=>n1 (λd=>∃bs:List Bool,d= .list (bs.map Ba)∧k (.bool (bs.all id))) ds
theorem Z8b:PNs G (Ye7 G) Ye5:=λH L xs ds k Q hx h kk=>by
 obtain⟨v,d,rfl,rfl,q,bs,e,h'⟩:=hx.one h
 subst e
 generalize e:JN (bs.map Ba)=d at q
 cases q with
 | lst l e1 r=>
  cases e
  exact⟨_,bs,rfl,.inl (Zse r▸e1),kk _ _ (.bl _) h'⟩
 | scr ks=>
  rename_i a ns
  cases ns with
  | nil=>
   cases bs with
   | nil=>exact⟨_,[],rfl,ks.sq,kk _ _ (.bl _) h'⟩
   | cons b bs=>cases e
  | cons n ns=>
   cases bs with
   | nil=>cases e
   | cons b bs=>cases(List.cons.inj (Uj e)).1
 | _=>cases e
noncomputable def Z9p:List Xa->Option Xa:=λds=>match ds with|[.list es]=>(Zfx es).bind λbs=>some (.bool (bs.all id))|_=>none
theorem Ycz:∀ds r k,Z9p ds=some r->k r->Ye5 ds k:=λds r k h hk=>by
 unfold Z9p at h
 split at h
 case h_2=>cases h
 obtain⟨bs,h1,h⟩:=L2.bs h
 cases h
 exact⟨bs,by rw[Zsb h1],hk⟩
variable {G:Xc}
noncomputable def Zt4(x:Str)(n:Int):Str:=⟨(X4 n.toNat x.cps).foldl (· ++ ·) #[]⟩
theorem Zyx(c:Array Nat):∀(n:Nat) (a:Array Nat),((X4 n c).foldl (· ++ ·) a).size=a.size+n*c.size:=by
 intro n
 induction n with
 | zero=>intro a;show a.size=_;omega
 | succ n ih=>
  intro a
  rw[List.replicate_succ,List.foldl_cons,ih,Array.size_append,Nat.succ_mul]
  omega
noncomputable def Zsv(x:Str)(n:Int):Bool:=decide (0≤n)&&decide (n≤64)&&decide (1≤x.length)&&decide (x.length≤64)
section
variable {X:Cx}
noncomputable def Z5x:R2:=λx y H Q=>∃i n,x= .str i∧y= .int n∧Zsv i n=true∧Q (.str (Zt4 i n)) H
theorem Zje:OpR X (Vl .Mult) Z5x:=by
 intro pins s σ H x y v u Q I rx ry h
 obtain⟨z,n,rfl,rfl,ok,q⟩:=h
 obtain⟨t,rfl⟩:=rx
 obtain⟨t',rfl⟩:=ry
 unfold Zsv at ok
 rw[XJ,XJ,XJ,decide_eq_true_iff,decide_eq_true_iff,decide_eq_true_iff,decide_eq_true_iff]at ok
 obtain⟨⟨⟨o1,o2⟩,o3⟩,o4⟩:=ok
 have lm:z.length*n.toNat≤4096:=Ql (Nat.mul_le_mul o4 (show n.toNat≤64 by omega)) (by decide)
 refine P.mul_str (by rw[decide_eq_false (by omega),decide_eq_false (by omega)];rfl) (λh1 _=>?_) (λ_ _=>?_) ?_
 ·have:(64:Int)≤(2^63-1)/n:=by
   refine Int.le_ediv_of_mul_le (by omega) ?_
   omega
  omega
 ·unfold Bu.Str.tooLong
  exact decide_eq_false (by rw[XN];omega)
 ·have fin:∀tk,EP X pins σ Q (.str (Zt4 z n) tk) s:=λtk=>⟨.str (Zt4 z n),H,I,⟨_,rfl⟩,q⟩
  by_cases h1:n<1
  ·rw[if_pos h1]
   have e:n=0:=by omega
   subst e
   exact⟨by decide,.str (Zt4 z 0),H,I.tok _,⟨_,rfl⟩,q⟩
  ·rw[if_neg h1]
   by_cases h2:n=1
   ·subst h2
    rw[if_pos (by rw[show((1:Int)==1)=true from rfl];rfl)]
    have e:Zt4 z 1=z:=by
     unfold Zt4
     show Str.mk (#[] ++ z.cps)=z
     rw[Array.empty_append]
    have f:=fin t
    rw[e]at f
    exact f
   ·rw[if_neg (by
     rw[Bool.or_eq_true,beq_iff_eq,beq_iff_eq]
     omega)]
    exact⟨by
     show((X4 n.toNat z.cps).foldl (· ++ ·) #[]).size≤Xq
     rw[Zyx,XN,Nat.mul_comm]
     have:z.cps.size*n.toNat≤4096:=lm
     show 0+_≤_
     omega,.str (Zt4 z n),H,I.tok _,⟨_,rfl⟩,q⟩
noncomputable def Zg5:Xa->Xa->Option Xa:=λd e=>match d,e with
 | .str x,.int n=>if Zsv x n=true then some (.str (Zt4 x n))else none
 | _,_=>none
noncomputable def Z3u:Xa->Xa->(Xa->Prop)->Prop:=λd e k=>∃r,Zg5 d e=some r∧k r
theorem Znu:ByS Zg5 Z3u:=λ_ _ r _ h hk=>⟨r,h,hk⟩
theorem Zi6:P2s G Z5x Z3u:=λH L x y d e k Q hx hy h kk=>by
 obtain⟨r,h,hk⟩:=h
 unfold Zg5 at h
 split at h
 case h_2=>cases h
 split at h
 case isFalse=>cases h
 rename_i ok
 cases h
 cases hx.strInv
 cases hy
 exact⟨_,_,rfl,rfl,ok,kk _ _ (.str _) hk⟩
end
variable {G:Xc}
section
variable {X:Cx}{io:List Nat}{pos apos cpos px kp sp:Pos}{i c:Nat}{x:Str}{st:Stmt}
noncomputable def Znm(i c:Nat):MSt:=λD δ=>match δ[i]? with
 | some (some (.tp ts))=>match ts[c]? with
  | some (.nd _)=>D.nx (δ.set i (some (.tp (ts.set c (.nd [])))))
  | _=>False
 | _=>False
theorem Zu9(i c:Nat){kk:Nat}(hN:X.N[i]? =some x:=by rfl)(hv:Vis X.env.scope x:=by first|exact Qw rfl|exact Qo (Qw rfl)|exact Qo (Qo rfl))(hd:(x==("__debug__" : Str))=false:=by decide)
  (hcd:(x==("__classdict__" : Str))=false:=by decide)
  (hbase:Bc (.Subscript (.Name x px) (.Constant (.int c) kk kp) sp) "clear" X.env (eval (.Subscript (.Name x px) (.Constant (.int c) kk kp) sp) X.env)=eval (.Subscript (.Name x px) (.Constant (.int c) kk kp) sp) X.env:=by rfl)
  (hline:(apos.endLine==cpos.line)=true:=by rfl)
  (hsw:Br (.Call (.Attribute (.Subscript (.Name x px) (.Constant (.int c) kk kp) sp) "clear" apos) [] [] cpos) none pos.line X.env=pure false:=by rfl) :
  MS X io (.Expr (.Call (.Attribute (.Subscript (.Name x px) (.Constant (.int c) kk kp) sp) "clear" apos) [] [] cpos) pos) (Znm i c):=by
 refine⟨_,Zcy (Zxq JR PySem.F.slot_list_clear PySem.F.type_list_clear Zns (Zvk (Zc7 rfl) (pv i hN hv hd hcd) Zxh (λ_ _=>rfl)) hbase hline) hsw,λC H σ δ fp ex D D' R h E=>?_⟩
 unfold Znm at h
 split at h
 case h_2=>exact h.elim
 rename_i ts hi
 split at h
 case h_2=>exact h.elim
 rename_i us hus
 obtain⟨v0,hv0,ow⟩:=R.own i _ hi
 generalize hfi:fp i=as at ow
 cases ow with
 | tp hx o=>
  rename_i a' xs
  obtain⟨xr,cr,hxr,orow,hsub⟩:=o.get hus
  cases orow with
  | nd hb r0=>
   rename_i b' ws bs4
   refine⟨_,hv0,.inr (.inl ⟨a',xs,c,V.ref b',rfl,rfl,.inl (.inl hx),?_,?_⟩)⟩
   ·unfold atI ixN
    have hc:c<xs.length:=(Xn.mp hxr).1
    rw[if_pos (by omega),if_pos (by omega)]
    simpa using hxr
   refine⟨.inl ⟨rfl,ws,.inl (.inl hb)⟩,?_⟩
   have hbm:b'∈fp i:=by rw[hfi];exact hsub.subset (.head _)
   have hLb:¬Lf C fp ex b':=λl=>l.1 ⟨i,hbm⟩
   have nd1:as.Nodup:=hfi▸R.nd i
   obtain⟨as',oo,ss,_⟩:=Owns.deep (ws':=[]) (us':=[]) hb hLb (λcs hcs=>⟨[],.nil,List.nil_sublist _⟩) o nd1 hxr hus
   refine⟨b',ws,rfl,rfl,hb,?_⟩
   have sub:∀a,a∈as'->a∈fp i:=λa m=>by rw[hfi];exact ss.subset m
   have lw:∀a,Lf C fp ex a->upd H b' (.lst []) a≠none->Lf C (fpu fp i as') (exu ex []) a:=λa l _=>⟨λz=>by
    rcases z.of_u with z|⟨j,_,z⟩
    ·exact l.1 ⟨i,sub a z⟩
    ·exact l.1 ⟨j,z⟩,λz=>l.2.1 (Js.mp z),l.2.2⟩
   have hab:a'≠b':=λz=>by rw[z,hb]at hx;cases hx
   obtain⟨R4,S4⟩:=R.change (new:=[]) (as':=as') (t':=.tp (ts.set c (.nd []))) (H':=upd H b' (.lst [])) hi hv0 (λb o e nb=>by rw[Zn λz=>nb (by rw[z];exact hbm)];exact e) (λb e=>by
    by_cases q:b=b'
    ·subst q;rw[Zr]at e;cases e
    ·rwa[Zn q]at e) (.tp (by rw[Zn hab];exact hx) (oo.wide lw)) (nd1.sublist ss) (λa m=>.inl (sub a m)) (λa m=>nomatch m)
   exact E.nx _ σ _ _ (R4.drop λa z=>.inl z) S4.kp h
noncomputable def Zs5(i c:Nat):FS:=λδ=>match δ[i]? with
 | some (some (.tp ts))=>match ts[c]? with
  | some (.nd _)=>.nx (δ.set i (some (.tp (ts.set c (.nd [])))))
  | _=>.bad
 | _=>.bad
theorem Zv5(h:MS X io st (Znm i c)):MS X io st (oS (Zs5 i c)):=h.weak λD δ h=>by
 unfold oS Zs5 at h;unfold Znm
 split at h
 case h_2=>exact h.elim
 rename_i q;(try rw[q]);(try dsimp only)
 split at h
 case h_2=>exact h.elim
 rename_i q2;(try rw[q2])
 exact h
end
end L2
namespace L2
open PySem PySem.Spec PyProof.Rows PySem.W
theorem Zdj{α β:Type}{lt:Nat->Nat->Bool}{f:α->KasT β}(t:KasT α):kEv lt (t.bind f)=kEv lt (f (kEv lt t)):=by
 induction t with
 | ret a=>rfl
 | ask i j k ih=>exact ih _
structure Tot(lt:Nat->Nat->Bool)(n:Nat):Prop where
 tr:∀i j k,i<n->j<n->k<n->lt i j=true->lt j k=true->lt i k=true
 tot:∀i j,i<n->j<n->i≠j->lt i j=false->lt j i=true
 asy:∀i j,i<n->j<n->lt i j=true->lt j i=false
section
variable {lt:Nat->Nat->Bool}{n:Nat}
noncomputable abbrev gD(p:Array Nat)(i:Nat):Nat:=p.getD i 0
theorem kP.size{p:Array Nat}(h:kP n p):p.size=n:=by rw[←X5,List.Perm.length_eq h,Xw]
theorem Zmb{p:Array Nat}{i:Nat}(h:i<p.size):p[i]? =some (gD p i):=by rw[VJ h];simp[gD,Array.getD,h]
theorem Zwa{p q:Array Nat}{i j:Nat}(h:p[i]? =q[j]?):gD p i=gD q j:=by
 show p.getD i 0=q.getD j 0
 rw[Array.getD_eq_getD_getElem?,Array.getD_eq_getD_getElem?,h]
theorem kP.blw{p:Array Nat}(h:kP n p){i:Nat}(hi:i<n):gD p i<n:=h.at (Nat.lt_of_le_of_lt (Qy _) hi) i
theorem kP.ne{p:Array Nat}(h:kP n p){i j:Nat}(hi:i<j)(hj:j<n):gD p i≠gD p j:=λe=>by
 have nd:p.toList.Nodup:=(List.Perm.nodup_iff h).mpr List.nodup_range
 have sz:=h.size
 have a:=Zmb (p:=p) (i:=i) (by omega)
 have b:=Zmb (p:=p) (i:=j) (by omega)
 rw[←Qt]at a b
 obtain⟨a1,a2⟩:=Xn.mp a
 obtain⟨b1,b2⟩:=Xn.mp b
 exact VN.mp nd i j a1 b1 hi (by rw[a2,b2,e])
noncomputable def Ri(lt:Nat->Nat->Bool)(p:Array Nat)(m:Nat):Prop:=∀i j,i<j->j<m->lt (gD p i) (gD p j)=true
noncomputable def Fa(lt:Nat->Nat->Bool)(p:Array Nat)(m:Nat):Prop:=∀i j,i<j->j<m->lt (gD p j) (gD p i)=true
variable (T:Tot lt n)
include T
theorem Zxv{p:Array Nat}(h:kP n p)(f:Nat):∀m,1≤m->m+f≤n->Ri lt p m->Ri lt p (kEv lt (kas_asc p f m))∧m≤kEv lt (kas_asc p f m)∧kEv lt (kas_asc p f m)≤m+f∧(kEv lt (kas_asc p f m)<m+f->lt (gD p (kEv lt (kas_asc p f m))) (gD p (kEv lt (kas_asc p f m)-1))=true):=by
 induction f with
 | zero=>exact λm _ _ r=>⟨r,Xz _,Xz _,λz=>absurd z (BP _)⟩
 | succ f ih=>
  intro m h1 hn r
  show _∧_
  rw[kas_asc,kEv]
  cases c:lt (p.getD m 0) (p.getD (m-1) 0)with
  | true=>
   rw[if_pos rfl,kEv]
   exact⟨r,Xz _,BV _ _,λ_=>c⟩
  | false=>
   rw[if_neg Xv]
   have up:lt (gD p (m-1)) (gD p m)=true:=T.tot _ _ (h.blw (by omega)) (h.blw (by omega)) (h.ne (by omega) (by omega)).symm c
   have r2:Ri lt p (m+1):=λi j hij hj=>by
    rcases VM j m with q|q
    ·exact r i j hij q
    ·have:j=m:=by omega
     subst this
     rcases VM i (j-1)with q2|q2
     ·exact T.tr _ _ _ (h.blw (by omega)) (h.blw (by omega)) (h.blw (by omega)) (r i (j-1) q2 (by omega)) up
     ·have:i=j-1:=by omega
      subst this
      exact up
   obtain⟨a,b,c,d⟩:=ih (m+1) (by omega) (by omega) r2
   exact⟨a,by omega,by omega,λz=>d (by omega)⟩
theorem Z1q{p:Array Nat}(h:kP n p)(f:Nat):∀m,1≤m->m+f≤n->Fa lt p m->∃m',kEv lt (kas_desc f p m 0)=(p,m',0)∧Fa lt p m'∧m≤m'∧m'≤m+f:=by
 induction f with
 | zero=>exact λm _ _ r=>⟨m,rfl,r,Xz _,Xz _⟩
 | succ f ih=>
  intro m h1 hn r
  rw[kas_desc,kEv]
  cases c:lt (p.getD m 0) (p.getD (m-1) 0)with
  | true=>
   rw[if_pos rfl,if_neg (BP _)]
   have r2:Fa lt p (m+1):=λi j hij hj=>by
    rcases VM j m with q|q
    ·exact r i j hij q
    ·have:j=m:=by omega
     subst this
     rcases VM i (j-1)with q2|q2
     ·exact T.tr _ _ _ (h.blw (by omega)) (h.blw (by omega)) (h.blw (by omega)) c (r i (j-1) q2 (by omega))
     ·have:i=j-1:=by omega
      subst this
      exact c
   obtain⟨m',e,a,b,d⟩:=ih (m+1) (by omega) (by omega) r2
   exact⟨m',e,a,by omega,by omega⟩
  | false=>
   rw[if_neg Xv,kEv]
   have up:lt (p.getD (m-1) 0) (p.getD m 0)=true:=T.tot _ _ (h.blw (by omega)) (h.blw (by omega)) (h.ne (by omega) (by omega)).symm c
   rw[up,if_pos rfl,kEv]
   exact⟨m,rfl,r,Xz _,BV _ _⟩
theorem Zvp{p:Array Nat}(h:kP n p)(h0:0<n):∃m p',kEv lt (kas_count n p)=(m,p')∧kP n p'∧Ri lt p' m∧1≤m∧m≤n:=by
 rw[kas_count,Zdj]
 obtain⟨a,b,c,d⟩:=Zxv T h (n-1) 1 (Xz _) (by omega) λi j _ _=>by omega
 generalize kEv lt (kas_asc p (n-1) 1)=m at a b c d
 by_cases e:m=n
 ·rw[if_pos (by rw[e];exact beq_self_eq_true _),kEv]
  exact⟨m,p,rfl,h,a,b,by omega⟩
 rw[if_neg (λz=>e (beq_iff_eq.mp z))]
 by_cases m1:m>1
 ·rw[if_pos m1,kEv,a 0 (m-1) (by omega) (by omega),if_pos rfl,kEv]
  exact⟨m,p,rfl,h,a,b,by omega⟩
 rw[if_neg m1]
 have em:m=1:=by omega
 subst em
 have lt1:=d (by omega)
 rw[kas_descPart,Zdj]
 obtain⟨m',e2,f2,b2,d2⟩:=Z1q T h (n-(1+1)) (1+1) (by omega) (by omega) λi j hij hj=>by
  have:i=0:=by omega
  have:j=1:=by omega
  subst i j
  exact lt1
 rw[e2,if_neg (BP _),kas_tail3,Zdj,kEv]
 have kr:kP n (kas_rev p 0 m'):=h.rev _ _
 have rr:Ri lt (kas_rev p 0 m') m':=λi j hij hj=>by
  have ge:∀k,k<m'->gD (kas_rev p 0 m') k=gD p (m'-1-k):=λk hk=>Zwa (by
   have:=getElem?_mirror_all (xs:=p) (i:=0) (j:=m') (by rw[h.size];omega) k
   rw[if_pos ⟨Qy _,hk⟩,Uk]at this
   exact this)
  rw[ge i (by omega),ge j hj]
  exact f2 _ _ (by omega) (by omega)
 obtain⟨a,b,c,_⟩:=Zxv T kr (n-m') m' (by omega) (by omega) rr
 have n2:2≤n:=by omega
 have:m'≤n:=by omega
 refine⟨_,_,rfl,kr,a,?_,?_⟩
 ·exact Ql (by omega) b
 ·exact Ql c (by omega)
theorem Zuw{p:Array Nat}(h:kP n p){k:Nat}(hk:k<n)(f:Nat):∀l r,l≤r->r≤k->r-l≤f->(∀i,i<l->lt (gD p i) (gD p k)=true)->(∀i,r≤i->i<k->lt (gD p k) (gD p i)=true)->Ri lt p k ->
  kEv lt (kas_place p k f l r)≤k∧(∀i,i<kEv lt (kas_place p k f l r)->lt (gD p i) (gD p k)=true)∧∀i,kEv lt (kas_place p k f l r)≤i->i<k->lt (gD p k) (gD p i)=true:=by
 induction f with
 | zero=>
  intro l r lr rk z a b R
  have:l=r:=by omega
  subst this
  exact⟨rk,a,b⟩
 | succ f ih=>
  intro l r lr rk z a b R
  rw[kas_place]
  by_cases c:l≥r
  ·rw[if_pos c,kEv]
   exact⟨by omega,a,λi x y=>b i (by omega) y⟩
  rw[if_neg c,kEv]
  have hm:(l+r)/2<k:=by omega
  cases q:lt (p.getD k 0) (p.getD ((l+r)/2) 0)with
  | true=>
   rw[if_pos rfl]
   refine ih _ _ (by omega) (by omega) (by omega) a (λi x y=>?_) R
   by_cases e:i=(l+r)/2
   ·subst e;exact q
   ·exact T.tr _ _ _ (h.blw hk) (h.blw (by omega)) (h.blw (by omega)) q (R _ _ (by omega) y)
  | false=>
   rw[if_neg Xv]
   have up:lt (gD p ((l+r)/2)) (gD p k)=true:=T.tot _ _ (h.blw hk) (h.blw (by omega)) (h.ne hm hk).symm q
   refine ih _ _ (by omega) (by omega) (by omega) (λi x=>?_) b R
   by_cases e:i=(l+r)/2
   ·subst e;exact up
   ·exact T.tr _ _ _ (h.blw (by omega)) (h.blw (by omega)) (h.blw hk) (R _ _ (by omega) hm) up
theorem Z33(f:Nat):∀{p:Array Nat} (h:kP n p) (k:Nat),k+f≤n->Ri lt p k->Ri lt (kEv lt (kas_bin f p k)) (k+f):=by
 induction f with
 | zero=>exact λh k _ r=>r
 | succ f ih=>
  intro p h k hn r
  rw[kas_bin,Zdj]
  obtain⟨a,b,c⟩:=Zuw T h (k:=k) (by omega) k 0 k (Qy _) (Xz _) (by omega) (λi z=>absurd z (Vr _)) (λi x y=>absurd y (by omega)) r
  generalize kEv lt (kas_place p k k 0 k)=l at a b c
  have ge:∀j,gD (bubble p k (k-l)) j=if j=l then gD p k else if l<j∧j≤k then gD p (j-1)else gD p j:=λj=>by
   have e:=getElem?_bubble (xs:=p) (src:=k) (by rw[h.size];omega) (k-l) (by omega) j
   have e0:k-(k-l)=l:=by omega
   rw[e0]at e
   by_cases c1:j=l
   ·rw[if_pos c1]at e⊢
    exact Zwa e
   ·rw[if_neg c1]at e⊢
    by_cases c2:l<j∧j≤k
    ·rw[if_pos c2]at e⊢
     exact Zwa e
    ·rw[if_neg c2]at e⊢
     exact Zwa e
  have:=ih (h.bub k (k-l)) (k+1) (by omega) λi j hij hj=>?_
  ·rw[show k+1+f=k+(f+1) by omega]at this
   exact this
  rw[ge,ge]
  rcases Nat.lt_trichotomy j l with q|q|q
  ·rw[if_neg (by omega),if_neg (by omega),if_neg (by omega),if_neg (by omega)]
   exact r i j hij (by omega)
  ·rw[if_neg (by omega),if_neg (by omega),if_pos q]
   exact b i (by omega)
  ·rw[if_neg (show¬j=l by omega),if_pos (show l<j∧j≤k by omega)]
   rcases Nat.lt_trichotomy i l with q2|q2|q2
   ·rw[if_neg (by omega),if_neg (by omega)]
    exact r i (j-1) (by omega) (by omega)
   ·rw[if_pos q2]
    exact c (j-1) (by omega) (by omega)
   ·rw[if_neg (by omega),if_pos (by omega)]
    exact r (i-1) (j-1) (by omega) (by omega)
theorem Z1u(h0:0<n):Ri lt (kEv lt (kas_sort n)) n:=by
 rw[kas_sort,Zdj]
 obtain⟨m,p,e,kp,r,l1,l2⟩:=Zvp T (p:=VF (Xi n)) (List.Perm.refl _) h0
 rw[e]
 by_cases c:m<n
 ·rw[if_pos c]
  have em:max m 1=m:=by omega
  rw[em]
  have:=Z33 T (n-m) kp m (by omega) r
  rw[show m+(n-m)=n by omega]at this
  exact this
 ·rw[if_neg c,kEv]
  have:m=n:=by omega
  rw[this]at r
  exact r
theorem Z02(h0:0<n):(Zt0 lt n).Pairwise λi j=>lt i j=true:=by
 have h:kP n (kEv lt (kas_sort n)):=(Zfv h0).ev (P:=kP n)
 have r:=Z1u T h0
 refine VN.mpr λi j hi hj hij=>?_
 have sz:=h.size
 rw[←X5]at sz
 have l2:(Zt0 lt n).length=n:=sz
 have ge:∀k (hk:k<(Zt0 lt n).length),(Zt0 lt n)[k]=gD (kEv lt (kas_sort n)) k:=λk hk=>by
  have:=Zmb (p:=kEv lt (kas_sort n)) (i:=k) (by rw[h.size];omega)
  rw[←Qt]at this
  exact(Xn.mp this).2
 rw[ge,ge]
 exact r i j hij (by omega)
end
theorem Z07{α β:Type}{d:α}{lt:Nat->Nat->Bool}{vs:List α}{R:α->α->Prop}(T:Tot lt vs.length)(hR:∀i j,i<vs.length->j<vs.length->lt i j=true->R (vs.getD i d) (vs.getD j d)):(sLay d lt vs).Pairwise R:=by
 unfold sLay
 split
 ·rename_i c
  match vs,c with
  | [],_=>exact .nil
  | [a],_=>exact List.pairwise_singleton _ _
 ·rename_i c
  have pm:=Zdg (lt:=lt) (n:=vs.length) (by omega)
  have up:=Z02 T (by omega)
  have h:=List.Pairwise.imp_of_mem (fun{i j} hi hj e=>hR i j (XQ.mp (pm.mem_iff.mp hi)) (XQ.mp (pm.mem_iff.mp hj)) e) up
  exact List.pairwise_map.mpr h
end L2
namespace My
open PySem L2 PySem.Spec
noncomputable def Zam:FS :=
 (wE (Zak Zce (Zc (Yc 1 [0,1] (iRa (Zc (Zak Zkh (Zc (Zb 0) Zm)) Zm)) (gNm 0) (tV (Ze gNe (Z4 Zld (Zb 1) (Zb 0)) (Z4 Zld (Zb 2) (Zb 0)))) (Zb 0)) Zm)) W8)
noncomputable def Z1:FD:=Ji 2 2 Zam
noncomputable def Za8:FS :=
 (Zx (wE (Zcx Zm) (Ja 1))
  (Zx (Jz (iRa (Zc (Zak Zce (Zc (Zb 0) Zm)) Zm)) (gNm 2)
  (Zd8 1 (Yc 1 [2,0] (iRb (Zc (Ze Zca (Zb 2) (fC (.int 1))) (Zc (Zak Zce (Zc (Zb 0) Zm)) Zm))) (gNm 0) (tV (Ze gEq (Zv Z1 (Zc (Z4 gIx (Zb 2) (Zb 1)) (Zc (Z4 gIx (Zb 2) (Zb 0)) Zm))) (fC (.int 1)))) (Zgy (Zc (Zb 1) (Zc (Zb 0) Zm))))))
  (Zc6 1)))
noncomputable def W9:FD:=Ji 1 3 Za8
noncomputable def Za6:FS :=
 (Zx (wE (Zcx Zm) (Ja 1))
  (Zx (Jz (iRa (Zc (Zak Zkh (Zc (Z4 gIx (Zb 0) (fC (.int 0))) Zm)) Zm)) (gNm 2)
  (Zx (wE (Yc 1 [0,2] (iRa (Zc (Zak Zce (Zc (Zb 0) Zm)) Zm)) (gNm 0) (tV (Ze gNe (Z4 Zld (Z4 gIx (Zb 1) (Zb 0)) (Zb 2)) (Z4 Zld (Z4 gIx (Zb 1) (fC (.int 0))) (Zb 2)))) (Zb 0)) (Wz 3))
  (J8 (tAn (tV (Ze gNe (Zb 3) (Zcx Zm))) (tV (Ze (Zku true) (Zb 3) (Zco 1))))
  (Yk 1 (Zb 3))
  fNx)))
  (Zbg 1 (wE (fBl (Zjy kdL ltI) (Zc (Zb 1) Zm)) W8))))
noncomputable def Jd:FD:=Ji 1 4 Za6
noncomputable def Zbr:FS :=
 (Zx (wE (Zv Jd (Zc (Zb 0) Zm)) (Wz 1))
  (wE (Yc 1 [1] (iRa (Zc (Zak Zce (Zc (Zb 0) Zm)) Zm)) (gNm 0) Zc2 (Z31 Zts (fC (.str "")) (Zc (Yc 1 [0] (Jw (Zb 1)) (gNm 0) Zc2 (Z4 Zld (fC (.str "01")) (Zak Z37 (Zc (Ze (Zq4 false) (Zb 1) (Zb 0)) Zm)))) Zm))) W8))
noncomputable def Wn:FD:=Ji 1 2 Zbr
noncomputable def Zan:FS :=
 (Zx (Jz (Jw (Zb 1)) (gTp 2 (gCn (gNm 2) (gCn (gNm 3) gNl)))
  (Jz (iRa (Zc (Zak Zce (Zc (Zb 0) Zm)) Zm)) (gNm 4)
  (J8 (tV (Ze gEq (Z4 gIx (Z4 gIx (Zb 0) (Zb 2)) (Zb 4)) (Z4 gIx (Z4 gIx (Zb 0) (Zb 3)) (Zb 4))))
  (wE (Zgy (Zc (Zb 2) (Zc (Zb 3) (Zc (Zb 4) Zm)))) W8)
  fNx)))
  (wE (fC .none) W8))
noncomputable def Wb:FD:=Ji 2 5 Zan
noncomputable def Za2:FS :=
 (wE (Yc 1 [0,2,1] (iRa (Zc (Zak Zce (Zc (Zb 0) Zm)) Zm)) (gNm 0) Zc2 (Ze gLt (Z4 gIx (Z4 gIx (Zb 1) (Zb 2)) (Zb 0)) (Z4 gIx (Z4 gIx (Zb 1) (Zb 3)) (Zb 0)))) W8)
noncomputable def Yt:FD:=Ji 3 3 Za2
noncomputable def Jh:FS :=
 (Zx (wE (Zak Zce (Zc (Zb 0) Zm)) (Wz 2))
  (Zx (Jz (Jw (Zv Jo (Zc (Zb 2) Zm))) (gTp 2 (gCn (gNm 3) (gCn (gNm 4) gNl)))
  (J8 (tV (Ze gEq (Z4 gIx (Zb 1) (Zb 3)) (Z4 gIx (Zb 1) (Zb 4))))
  (Jz (iRa (Zc (Zb 2) Zm)) (gNm 5)
  (J8 (tAn (tV (Ze gNe (Z4 gIx (Zb 1) (Zb 5)) (Z4 gIx (Zb 1) (Zb 3)))) (tV (Ze gEq (Ze Zca (Z4 gIx (Z4 gIx (Zb 0) (Zb 3)) (Zb 5)) (Z4 gIx (Z4 gIx (Zb 0) (Zb 5)) (Zb 4))) (Z4 gIx (Z4 gIx (Zb 0) (Zb 3)) (Zb 4)))))
  (wE (Zgy (Zc (Zb 3) (Zc (Zb 4) (Zc (Zb 5) Zm)))) W8)
  fNx))
  fNx))
  (wE (fC .none) W8)))
noncomputable def Wf:FD:=Ji 2 6 Jh
noncomputable def W2:FS :=
 (Zx (Jz (Jw (Zb 1)) (gTp 2 (gCn (gNm 2) (gCn (gNm 3) gNl)))
  (Zx (wE (Zv Wf (Zc (Zb 0) (Zc (Zv Yt (Zc (Zb 0) (Zc (Zb 2) (Zc (Zb 3) Zm)))) Zm))) (Wz 4))
  (J8 (tV (Ze Zhx (Zb 4) (fC .none)))
  (wE (Z4 Ztf (Zgy (Zc (Zb 2) (Zc (Zb 3) Zm))) (Zb 4)) W8)
  fNx)))
  (wE (fC .none) W8))
noncomputable def Yb:FD:=Ji 2 5 W2
noncomputable def Wl:FS :=
 (Jz (Jw (Zb 1)) (gNm 2)
  (J8 (tO (tNo (tD (Zv Ym (Zc (Zb 2) Zm)))) (tNo (tV (Zci (λi j=>decide (i≤j)) (λi j=>decide (i<j)) (fC (.int 0)) (Zb 2) (Zb 0)))))
  (Zcl "NoCut")
  fNx))
noncomputable def Yr:FD:=Ji 2 3 Wl
noncomputable def Zdn:FS :=
 (Zx (wE (Zv Yr (Zc (Zb 0) (Zc (Zb 1) Zm))) Zqm)
  (Zx (wE (Yc 1 [1] (iRa (Zc (Zb 0) Zm)) (gNm 0) (tV (Ze (Zq4 true) (Zb 0) (Zb 1))) (Zb 0)) (Wz 2))
  (Zx (J8 (tO (tV (Ze gEq (Zak Zce (Zc (Zb 1) Zm)) (fC (.int 0)))) (tV (Ze gEq (Zak Zce (Zc (Zb 2) Zm)) (fC (.int 0)))))
  (Zcl "NoCut")
  fNx)
  (Zx (J8 (tV (Ze (Zq4 false) (fC (.int 0)) (Zb 1)))
  (wE (Zb 2) W8)
  fNx)
  (wE (Zfe (Zc (Zb 1) Zm)) W8)))))
noncomputable def Jl:FD:=Ji 2 3 Zdn
noncomputable def Jx:FS :=
 (Zx (wE (Zcx Zm) (Ja 2))
  (Zx (Jz (Jw (Zb 1)) (gTp 2 (gCn (gNm 3) (gCn (gNm 4) gNl)))
  (Zx (wE (Zv Jl (Zc (Zak Zce (Zc (Zb 0) Zm)) (Zc (Yc 2 [] (Zs6 (Zc (Zv Yt (Zc (Zb 0) (Zc (Zb 3) (Zc (Zb 4) Zm)))) Zm)) (gTp 2 (gCn (gNm 0) (gCn (gNm 1) gNl))) (tD (Zb 1)) (Zb 0)) Zm))) (Wz 5))
  (J8 (tV (Ze (Zku true) (Zb 5) (Zco 2)))
  (Yk 2 (Zb 5))
  fNx)))
  (Zbg 2 (wE (fBl (Zjy kdL ltI) (Zc (Zb 2) Zm)) W8))))
noncomputable def Yq:FD:=Ji 2 6 Jx
noncomputable def J7:FS :=
 (Zx (wE (Yc 1 [] (iRa (Zc (Zb 0) Zm)) (gNm 0) Zc2 (Zcx Zm)) (Ja 2))
  (Zx (Jz (Jw (Zb 1)) (gTp 2 (gCn (gNm 3) (gCn (gNm 4) gNl)))
  (Zx (Zh5 2 (Zb 3) (Zb 4))
  (Zh5 2 (Zb 4) (Zb 3))))
  (Zc6 2)))
noncomputable def Wy:FD:=Ji 2 5 J7
noncomputable def W6:FS :=
 (wE (Zci (λi j=>decide (i≤j)) (λi j=>decide (i≤j)) (fC (.int 1)) (Zb 0) (fC (.int 10))) W8)
noncomputable def Y9:FD:=Ji 1 1 W6
noncomputable def Za3:FS :=
 (Zx (Jz (Zta (Zc (Zb 0) (Zc (fSl (Zb 0) (oI (fC (.int 1))) oN) Zm))) (gTp 2 (gCn (gNm 1) (gCn (gNm 2) gNl)))
  (J8 (tNo (tV (Ze Z5d (Zb 1) (Zb 2))))
  (wE (fC (.bool false)) W8)
  fNx))
  (wE (fC (.bool true)) W8))
noncomputable def Jb:FD:=Ji 1 3 Za3
noncomputable def J5:FS :=
 (Zx (J8 (tNo (tD (Zv Y9 (Zc (Zb 0) Zm))))
  (Zcl "NoWeb")
  fNx)
  (Zx (Jz (Jw (Zb 1)) (gTp 2 (gCn (gNm 2) (gCn (gNm 3) gNl)))
  (J8 (tNo (tV (Zgg (λi j=>decide (i≤j)) (λi j=>decide (i<j)) (λi j=>decide (i<j)) (fC (.int 0)) (Zb 2) (Zb 3) (Zb 0))))
  (Zcl "NoWeb")
  fNx))
  (J8 (tNo (tD (Zv Jb (Zc (Zb 1) Zm))))
  (Zcl "NoWeb")
  fNx)))
noncomputable def Wt:FD:=Ji 2 4 J5
noncomputable def Zaj:FS :=
 (Zx (wE (Zw5 (Zb 1) (fC (.int 0))) (Ja 2))
  (Zx (wE (Zcx (Zc (Zb 1) Zm)) (Wz 3))
  (Zx (Zhi (tV (Ze gGt (Zak Zce (Zc (Zb 3) Zm)) (fC (.int 0)))) (Zx (wE (Zcx Zm) (Ja 4))
  (Zx (Jz (Jw (Zb 3)) (gNm 5)
  (Jz (Jw (Z4 gIx (Zb 0) (Zb 5))) (gNm 6)
  (J8 (tV (Ze (Zt5 true) (Zb 6) (Zco 2)))
  (Zx (Zj7 2 (Ze Zca (Z4 Zph (Zco 2) (Zb 5)) (fC (.int 1))) (Zb 6))
  (Yk 4 (Zb 6)))
  fNx)))
  (Zbg 4 (wE (Zb 4) (Wz 3))))))
  (Zc6 2))))
noncomputable def Yn:FD:=Ji 2 7 Zaj
noncomputable def Zbc:FS :=
 (Zx (wE (Zv Wt (Zc (Zb 0) (Zc (Zb 1) Zm))) Zqm)
  (Zx (wE (Zv Wy (Zc (Zb 0) (Zc (Zb 1) Zm))) (Wz 2))
  (Zx (wE (Zcx Zm) (Ja 3))
  (Zx (Jz (iRa (Zc (Zb 0) Zm)) (gNm 4)
  (Zx (wE (Zv Yn (Zc (Zb 2) (Zc (Zb 4) Zm))) (Wz 5))
  (Zx (J8 (tV (Ze gLt (Zak Zpx (Zc (Zb 5) Zm)) (Zb 0)))
  (Zcl "NoWeb")
  fNx)
  (Yk 3 (Yc 1 [5] (iRa (Zc (Zb 0) Zm)) (gNm 0) Zc2 (Z4 Zph (Zb 1) (Zb 0)))))))
  (Zc6 3)))))
noncomputable def Z9:FD:=Ji 2 6 Zbc
noncomputable def Zcn:FS :=
 (wE (Z31 Zts (fC (.str "")) (Zc (Yc 1 [0] (Jw (Zb 1)) (gNm 0) Zc2 (fIf (tV (Ze (Zq4 false) (Zb 1) (Zb 0))) (fC (.str "1")) (fC (.str "0")))) Zm)) W8)
noncomputable def Wj:FD:=Ji 2 2 Zcn
noncomputable def Yx:FS :=
 (Zx (wE (Zv Z9 (Zc (Zb 0) (Zc (Zb 1) Zm))) (Wz 2))
  (Zx (wE (Zv Wb (Zc (Zb 2) (Zc (Zb 1) Zm))) (Wz 3))
  (Zx (J8 (tV (Ze Zhx (Zb 3) (fC .none)))
  (wE (Zgy (Zc (fC (.str "even")) (Zc (Zb 3) Zm))) W8)
  fNx)
  (Zx (wE (Zv Yb (Zc (Zb 2) (Zc (Zb 1) Zm))) (Wz 4))
  (Zx (J8 (tV (Ze Zhx (Zb 4) (fC .none)))
  (wE (Zgy (Zc (fC (.str "not whole")) (Zc (Zb 4) Zm))) W8)
  fNx)
  (Zx (wE (Zv Yq (Zc (Zb 2) (Zc (Zb 1) Zm))) (Wz 5))
  (wE (Zvv (Zc (fC (.str "halves")) (Zc (Yc 1 [5] (iRa (Zc (Zb 0) Zm)) (gNm 0) Zc2 (Zv Wj (Zc (Zb 0) (Zc (Zb 1) Zm)))) Zm))) W8)))))))
noncomputable def Wq:FD:=Ji 2 6 Yx
noncomputable def Za5:FS :=
 (Zx (wE (Zcx Zm) (Ja 2))
  (Zx (Jz (Jw (Zv Z9 (Zc (Zb 0) (Zc (Zb 1) Zm)))) (gNm 3)
  (Zay 2 (Yc 1 [] (Jw (Zb 3)) (gNm 0) Zc2 (Zgy (Zc (Zb 0) (Zc (fC (.int 1)) Zm))))))
  (Zc6 2)))
noncomputable def Je:FD:=Ji 2 4 Za5
noncomputable def Za7:FS :=
 (Zx (wE (Zak Zce (Zc (Zb 0) Zm)) (Wz 1))
  (Zx (wE (Zv W9 (Zc (Zb 0) Zm)) (Wz 2))
  (Zx (wE (fBl Zp3 (Zc (Zb 2) Zm)) (Wz 3))
  (Zx (wE (Zv Wq (Zc (Zb 1) (Zc (Zb 3) Zm))) (Ja 4))
  (Zx (J8 (tO (tNo (tD (Zt3 "tuple" (Zco 4)))) (tO (tV (Ze gNe (Zco 4) (Zgy (Zc (fC (.str "halves")) (Zc (Zv Wn (Zc (Zb 0) Zm)) Zm))))) (tNo (tD (Zt3 "list" (Z4 gIx (Zco 4) (fC (.int 1))))))))
  (wE (fC (.bool false)) W8)
  fNx)
  (Zx (J8 (tNo (tD (Zak Z9p (Zc (Yc 1 [] (Jw (Z4 gIx (Zco 4) (fC (.int 1)))) (Z3a 0) Zc2 (Zt3 "str" (Zb 0))) Zm))))
  (wE (fC (.bool false)) W8)
  fNx)
  (Zx (Zs5 4 1)
  (Zx (wE (Zv Je (Zc (Zb 1) (Zc (Zb 3) Zm))) (Ja 5))
  (Zx (wE (Yc 1 [0] (Jw (Zb 0)) (gNm 0) Zc2 (Yc 1 [0] (Jw (Zb 1)) (gNm 0) Zc2 (Zgy (Zc (Zv Z1 (Zc (Zb 1) (Zc (Zb 0) Zm))) (Zc (fC (.int 1)) Zm))))) (Wz 6))
  (Zx (J8 (tO (tNo (tD (Zt3 "list" (Zco 5)))) (tO (tV (Ze gNe (Zco 5) (Zb 6))) (tV (Ze gNe (Zb 3) (Zb 2)))))
  (wE (fC (.bool false)) W8)
  fNx)
  (Zx (Zjr 5 (fC (.int 0)))
  (wE (fC (.bool true)) W8))))))))))))
noncomputable def Wk:FD:=Ji 1 7 Za7
noncomputable def Zbe:FS :=
 (Zx (wE (Zcx Zm) (Ja 1))
  (Zx (Jz (iRa (Zc (Zb 0) Zm)) (gNm 2)
  (Zx (Yk 1 (Ze Zcs (Ze Zg5 (fC (.str "1")) (Zb 2)) (Ze Zg5 (fC (.str "0")) (Ze gSb (Zb 0) (Zb 2)))))
  (Yk 1 (Ze Zcs (Ze Zg5 (fC (.str "0")) (Zb 2)) (Ze Zg5 (fC (.str "1")) (Ze gSb (Zb 0) (Zb 2)))))))
  (Zc6 1)))
noncomputable def Ju:FD:=Ji 1 3 Zbe
noncomputable def Zbb:FS :=
 (Zx (wE (Zcx (Zc (fC (.str "")) Zm)) (Wz 2))
  (Zx (Jz (iRb (Zc (fC (.int 1)) (Zc (Zb 1) Zm))) (gNm 3)
  (Zx (wE (Z4 gIx (Zb 2) (Ze Zc9 (Z4 gIx (Zb 0) (Zb 3)) (Zb 3))) (Wz 4))
  (wE (Z4 Zs1 (Yc 1 [] (Jw (Zb 2)) (gNm 0) Zc2 (Ze Zcs (Zb 0) (fC (.str "0")))) (Zcx (Zc (Ze Zcs (Zb 4) (fC (.str "1"))) Zm))) (Wz 2))))
  (wE (Zb 2) W8)))
noncomputable def Wa:FD:=Ji 2 5 Zbb
noncomputable def Zbj:FS :=
 (Zx (J8 (tAn (tV (Ze gEq (Ze Zc9 (Z4 gIx (Zb 0) (fC (.int 0))) (fC (.int 3))) (fC (.int 1)))) (tV (Ze gGe (Zb 1) (fC (.int 4)))))
  (wE (Zv Ju (Zc (Ze Zca (fC (.int 2)) (Ze Zc9 (Z4 gIx (Zb 0) (fC (.int 1))) (Ze gSb (Ze Zag (Zb 1) (fC (.int 2))) (fC (.int 1))))) Zm)) W8)
  fNx)
  (wE (Zv Wa (Zc (Zb 0) (Zc (Ze Zca (fC (.int 1)) (Ze Zc9 (Z4 gIx (Zb 0) (fC (.int 1))) (Zb 1))) Zm))) W8))
noncomputable def Y4:FD:=Ji 2 2 Zbj
noncomputable def J6:FS :=
 (Zx (wE (Ze Zc9 (Zb 0) (Ze Zgz (Ze Zwq (fC (.int 10)) (fC (.int 45))) (Ze Zwq (fC (.int 10)) (fC (.int 45))))) (Wz 0))
  (Zx (wE (Zcx Zm) (Ja 3))
  (Zx (wE (Ze gSb (Zb 0) (Ze Zwq (fC (.int 10)) (fC (.int 18)))) (Wz 4))
  (Zx (Jz (iRa (Zc (Zb 1) Zm)) (gNm 5)
  (Zx (wE (Ze Zc9 (Ze Zgz (Ze Zca (Ze Zca (Zb 0) (Ze Zgz (fC (.int 977)) (Zb 5))) (fC (.int 1))) (fC (.int 48271))) (fC (.int 2147483647))) (Wz 6))
  (Zx (wE (Ze Zc9 (Ze Zgz (Zb 6) (Zb 6)) (fC (.int 2147483629))) (Wz 6))
  (Zx (wE (Ze Zag (Ze Zc9 (Ze Zgz (Ze Zca (Zb 6) (Ze Zgz (fC (.int 40692)) (Ze Zca (Zb 5) (fC (.int 3))))) (fC (.int 69621))) (fC (.int 2147483563))) (fC (.int 8))) (Wz 6))
  (Zx (J8 (tV (Ze gGe (Zb 0) (Ze Zwq (fC (.int 10)) (fC (.int 18)))))
  (Zx (wE (Zb 4) (Wz 6))
  (wE (Ze Zag (Zb 4) (Zb 2)) (Wz 4)))
  fNx)
  (Yk 3 (Ze Zc9 (Zb 6) (Zb 2))))))))
  (Zc6 3)))))
noncomputable def Yv:FD:=Ji 3 7 J6
noncomputable def Za4:FS :=
 (Zx (wE (Zv Yv (Zc (Zb 0) (Zc (fC (.int 40)) (Zc (fC (.int 60)) Zm)))) (Wz 1))
  (Zx (wE (Zv Y4 (Zc (Zb 1) (Zc (Z4 gIx (Zcx (Zc (fC (.int 10)) (Zc (fC (.int 5)) Zm))) (Ze Zc9 (Z4 gIx (Zb 1) (fC (.int 20))) (fC (.int 2)))) Zm))) (Wz 2))
  (Zx (wE (Zcx Zm) (Ja 3))
  (Zx (Jz (Jw (Zv Y4 (Zc (fSl (Zb 1) (oI (fC (.int 21))) oN) (Zc (Ze Zag (fC (.int 10)) (Zak Zce (Zc (Zb 2) Zm))) Zm)))) (gNm 4)
  (Zd8 3 (Yc 1 [4] (Jw (Zb 2)) (gNm 0) Zc2 (Ze Zcs (Zb 0) (Zb 1)))))
  (Zx (wE (Zcx Zm) (Ja 5))
  (Zx (Jz (iRa (Zc (Zak Zce (Zc (Zco 3) Zm)) Zm)) (gNm 6)
  (Yk 5 (Z7p 3 (Ze Zc9 (Z4 gIx (Zb 1) (Ze Zca (fC (.int 10)) (Zb 6))) (Zak Zce (Zc (Zco 3) Zm))))))
  (Zc6 5)))))))
noncomputable def Yh:FD:=Ji 1 7 Za4
noncomputable def Zh4:FS :=
 (Zx (wE (Yc 1 [] (Jw (Z4 Zs1 (fSl (Zb 0) (oI (fC (.int 1))) (oI (fC (.int 6)))) (Zcx (Zc (Zv Yy (Zc (Zb 0) (Zc (fC (.int 0)) Zm))) Zm)))) (gNm 0) Zc2 (Zv Yh (Zc (Zb 0) Zm))) (Wz 1))
  (Zx (Jz (Jw (Z4 Zs1 (Zb 1) (Zu8 (Zb 1) oN oN (oI (fUn Z3t (fC (.int 1))))))) (gNm 2)
  (J8 (tNo (tD (Zv Wk (Zc (Zb 2) Zm))))
  (wE (fC (.bool false)) W8)
  fNx))
  (wE (fC (.bool true)) W8)))
noncomputable def Zhm:FD:=Ji 1 3 Zh4
end My
namespace L2
open PySem PySem.Spec
noncomputable def EpS(S:FS)(δ:Zf)(N:Zf->Prop)(R:Xa->Zf->Prop):Prop:=(∃δ',S δ= .nx δ'∧N δ')∨∃o δ',S δ= .rt o δ'∧R o.data δ'
section
variable {e a b:FE}{as:FA}{δ:Zf}{Q:Xa->Zf->Prop}{QA:List Xa->Zf->Prop}{T:Bool->Zf->Prop}{t u:FT}{S S':FS}{N:Zf->Prop}{R:Xa->Zf->Prop}{i:Nat}{d:Xa}
theorem Z30{δ':Zf}(h:S δ= .nx δ')(q:N δ'):EpS S δ N R:=.inl ⟨δ',h,q⟩
theorem Zv1{g:FG}(I:Nat->Zf->Prop)(ds:List Xa)(m:Nat)(h0:I m δ)(turn:∀(k:Nat) (d:Xa) (δ:Zf),ds[k]? =some d->I (m+k) δ->∃δ1,g d δ=some δ1∧EpS S δ1 (I (m+k+1)) R)(fin:∀δ',I (m+ds.length) δ'->N δ') :
  (∃ δ',forLoop g S ds δ= .nx δ'∧N δ')∨∃o δ',forLoop g S ds δ= .rt o δ'∧R o.data δ':=by
 induction ds generalizing m δ with
 | nil=>exact .inl ⟨δ,rfl,fin δ h0⟩
 | cons d ds ih=>
  obtain⟨δ1,e1,h⟩:=turn 0 d δ rfl h0
  rcases h with⟨δ2,e2,q⟩|⟨o,δ2,e2,q⟩
  ·have e:forLoop g S (d :: ds) δ=forLoop g S ds δ2:=by rw[forLoop,e1];show(match S δ1 with| .nx δ2=>_| .ct δ2=>_| .bk δ2=>_|r=>_)=_;rw[e2]
   rw[e]
   refine ih (m+1) q (λk d' δ' hk hI=>?_) λδ' hI=>fin δ' (by rw[QS];rw[show m+1+ds.length=m+(ds.length+1) by omega]at hI;exact hI)
   have:=turn (k+1) d' δ' hk (by rw[show m+(k+1)=m+1+k by omega];exact hI)
   rwa[show m+(k+1)+1=m+1+k+1 by omega]at this
  ·refine .inr ⟨o,δ2,?_,q⟩
   rw[forLoop,e1];show(match S δ1 with| .nx δ2=>_| .ct δ2=>_| .bk δ2=>_|r=>_)=_;rw[e2]
theorem Zyk{it:FI}{g:FG}{ds:List Xa}{δ0:Zf}(I:Nat->Zf->Prop)(hi:it δ=some (ds,δ0))(h0:I 0 δ0)(turn:∀(k:Nat) (d:Xa) (δ:Zf),ds[k]? =some d->I k δ->∃δ1,g d δ=some δ1∧EpS S δ1 (I (k+1)) R)(fin:∀δ',I ds.length δ'->N δ'):EpS (Jz it g S) δ N R:=by
 have e:Jz it g S δ=forLoop g S ds δ0:=by unfold Jz;rw[hi]
 have h:=Zv1 (R:=R) (N:=N) (S:=S) (g:=g) (δ:=δ0) I ds 0 h0 (λk d δ hk hI=>by rw[Uk]at hI⊢;exact turn k d δ hk hI) (λδ' hI=>by rw[Uk]at hI;exact fin δ' hI)
 unfold EpS
 rw[e];exact h
end
end L2
namespace My
open PySem L2 PySem.Spec
inductive Rch(E:Nat->Nat->Prop)(s:Nat):Nat->Prop
 | refl:Rch E s s
 | step {k m:Nat}:Rch E s k->E k m->Rch E s m
theorem Rch.trans{E:Nat->Nat->Prop}{a b c:Nat}(h:Rch E a b)(k:Rch E b c):Rch E a c:=by
 induction k with
 | refl=>exact h
 | step _ e ih=>exact .step ih e
theorem Rch.symm{E:Nat->Nat->Prop}(hs:∀a b,E a b->E b a){a b:Nat}(h:Rch E a b):Rch E b a:=by
 induction h with
 | refl=>exact .refl
 | step _ e ih=>exact Rch.trans (.step .refl (hs _ _ e)) ih
theorem Rch.closed{E:Nat->Nat->Prop}{s:Nat}{ks:List Nat}(h0:s∈ks)(hc:∀k∈ks,∀m,E k m->m∈ks){m:Nat}(h:Rch E s m):m∈ks:=by
 induction h with
 | refl=>exact h0
 | step _ e ih=>exact hc _ ih _ e
theorem Zi9{ks:List Nat}{n:Nat}(hd:ks.Nodup)(hl:∀k∈ks,k<n):ks.length≤n:=by
 have:=hd.length_le_of_subset (l₂:=Xi n) λk m=>XQ.mpr (hl k m)
 rwa[Xw]at this
theorem Z19{ks:List Nat}{n:Nat}(h:∀k<n,k∈ks):n≤ks.length:=by
 have:=(List.nodup_range (n:=n)).length_le_of_subset (l₂:=ks) λk m=>h k (XQ.mp m)
 rwa[Xw]at this
noncomputable def kI(k:Nat):KY:=.inl (.inl (k:Int))
noncomputable def dI(k:Nat):Xa:=.int (k:Int)
theorem Zpl{a b:Nat}(h:kI a=kI b):a=b:=Int.ofNat.inj (Sum.inl.inj (Sum.inl.inj h))
theorem Ztu(k:Nat):Zjq (dI k)=some (kI k):=rfl
theorem Zxg{m:Nat}:∀{ks:List Nat} {vs:List Xa},vs.length=ks.length->(m∈ks->∃v∈vs,Ztz (kI m) (ks.map kI) vs=some v)∧(m∉ks->Ztz (kI m) (ks.map kI) vs=none):=by
 intro ks
 induction ks with
 | nil=>exact λ_=>⟨(λh=>nomatch h),λ_=>rfl⟩
 | cons k ks ih=>
  intro vs hl
  cases vs with
  | nil=>cases hl
  | cons v vs=>
   obtain⟨i1,i2⟩:=ih (Bj hl)
   rw[X3,Ztz]
   by_cases c:k=m
   ·subst c
    rw[if_pos rfl]
    exact⟨λ_=>⟨v,.head _,rfl⟩,λh=>absurd (.head _) h⟩
   ·rw[if_neg λe=>c (Zpl e)]
    refine⟨λh=>?_,λh=>i2 λz=>h (.tail _ z)⟩
    obtain⟨w,hw,e⟩:=i1 ((Xp.mp h).resolve_left λe=>c e.symm)
    exact⟨w,.tail _ hw,e⟩
theorem Z38{m:Nat}{ks:List Nat}(h:m∉ks):Zxs (kI m) (ks.map kI)=false:=by
 unfold Zxs
 rw[List.any_map]
 refine List.any_eq_false.mpr λk hk e=>?_
 exact h (Zpl (of_decide_eq_true e)▸hk)
theorem Zw6{a b:FE}{δ:Zf}{x y d:Xa}(ha:EvV a δ x)(hb:EvV b δ y)(h:Zph x y=some (.fz d)):EvV (Z4 Zph a b) δ d:=Zdp ha hb h (OT.data_fz _)
theorem Z8p{m:Nat}(f:Nat->Nat):∀{ks:List Nat},m∈ks->Ztz (kI m) (ks.map kI) (ks.map λk=>dI (f k))=some (dI (f m)):=by
 intro ks
 induction ks with
 | nil=>exact λh=>nomatch h
 | cons k ks ih=>
  intro h
  rw[X3,X3,Ztz]
  by_cases c:k=m
  ·rw[if_pos (by rw[c]),c]
  ·rw[if_neg λe=>c (Zpl e)]
   exact ih ((Xp.mp h).resolve_left λe=>c e.symm)
theorem Z3i{m:Nat}{f:Nat->Nat}{ks:List Nat}(hm:m∈ks):Zph (dcD false (ks.map kI) (ks.map λk=>dI (f k))) (dI m)=some (.fz (dI (f m))):=by
 show((Zjq (dI m)).bind λk=>if Zqw k=false then(Zhb k _).map OT.fz else none)=_
 rw[Ztu,Xh,if_pos (show Zqw (kI m)=false from rfl),Zfs,Z8p f hm];rfl
theorem Ybo{m:Nat}{ks:List Nat}{vs:List Xa}(hl:vs.length=ks.length):Zt5 true (dI m) (dcD false (ks.map kI) vs)=some (.bool (!decide (m∈ks))):=by
 show((Zjq (dI m)).bind λk=>if Zqw k=false then some (Ba (!(Zhb k _).isSome))else none)=_
 rw[Ztu,Xh,if_pos (show Zqw (kI m)=false from rfl),Zfs]
 by_cases c:m∈ks
 ·obtain⟨v,_,e⟩:=(Zxg hl).1 c
  rw[e,decide_eq_true c];rfl
 ·rw[(Zxg hl).2 c,decide_eq_false c];rfl
theorem Zut{e j:FE}{δ:Zf}{i:Nat}{d:Xa}{ks:List Nat}{vs:List Xa}{m:Nat}(he:EvV e δ d)(hi:δ[i]? =some (some (.dc false (ks.map kI) vs)))(hj:EvV j δ (dI m))(hl:ks.length<1000000)(hm:m∉ks) :
  Zj7 i e j δ= .nx (δ.set i (some (.dc false ((ks ++ [m]).map kI) (vs ++ [d])))):=by
 obtain⟨t1,e1,d1⟩:=he
 obtain⟨t2,e2,d2⟩:=hj
 unfold Zj7
 rw[Zcb,e1,Yi,hi]
 dsimp only
 rw[Zcb,e2,Yi,d1,d2,Ztu]
 dsimp only
 rw[if_pos ⟨rfl,by rw[XN,Xd];omega⟩]
 unfold Zrw Zre
 rw[Z38 hm,if_neg Xv,if_neg Xv,Qg];rfl
noncomputable def eB(bs:Xa)(s:Nat)(ks:List Nat)(vs:List Xa)(ed:List Nat)(o4 o5 o6:Option OT):Zf:=[some (.fz bs),some (.fz (dI s)),some (.dc false (ks.map kI) vs),some (.fz (.list (ed.map dI))),o4,o5,o6]
noncomputable def lsO(ns:List Nat):OT:=.nd ((ns.map dI).map OT.fz)
theorem Zi5(b:List Nat)(m:Nat):lsO (b ++ [m])= .nd ((b.map dI).map OT.fz ++ [OT.fz (dI m)]):=by
 unfold lsO
 rw[Qg,Qg];rfl
structure Met(E:Nat->Nat->Prop)(n s:Nat)(f:Nat->Nat)(ks:List Nat):Prop where
 nd:ks.Nodup
 st:s∈ks
 lt:∀k∈ks,k<n
 rch:∀k∈ks,Rch E s k
 z:f s=0
 up:∀k∈ks,k≠s->∃m∈ks,E m k∧f k=f m+1
noncomputable abbrev vF(f:Nat->Nat)(ks:List Nat):List Xa:=ks.map λk=>dI (f k)
section
variable {E:Nat->Nat->Prop}{n s:Nat}{nb:Nat->List Nat}{bs:Xa}
theorem Zoe{ks ks0 bey ed:List Nat}{f:Nat->Nat}{p m:Nat}(hn:n≤10)(M:Met E n s f ks)(hk:ks=ks0 ++ bey)(hp:p∈ks)(hm:m<n)(he:E p m) :
  ∃t f' o,Met E n s f' (ks ++ t)∧m∈ks ++ t∧(∀x∈ks,f' x=f x)∧(∀x∈t,f' x=f p+1)∧
   (J8 (tV (Ze (Zt5 true) (Zb 6) (Zco 2))) (Zx (Zj7 2 (Ze Zca (Z4 Zph (Zco 2) (Zb 5)) (fC (.int 1))) (Zb 6)) (Yk 4 (Zb 6))) fNx) (eB bs s ks (vF f ks) ed (some (lsO bey)) (some (.fz (dI p))) (some (.fz (dI m))))= .nx (eB bs s (ks ++ t) (vF f' (ks ++ t)) ed (some (lsO (bey ++ t))) (some (.fz (dI p))) o):=by
 have e2:EvV (Zco 2) (eB bs s ks (vF f ks) ed (some (lsO bey)) (some (.fz (dI p))) (some (.fz (dI m)))) (dcD false (ks.map kI) (vF f ks)):=Zex rfl (OT.data_dc _ _ _)
 have t:EvT (tV (Ze (Zt5 true) (Zb 6) (Zco 2))) (eB bs s ks (vF f ks) ed (some (lsO bey)) (some (.fz (dI p))) (some (.fz (dI m)))) (!decide (m∈ks)):=Za9 (Zo (Za rfl) e2 (Ybo (Xd ..)))
 by_cases c:m∈ks
 ·rw[decide_eq_true c]at t
  refine⟨[],f,some (.fz (dI m)),by rw[Qk];exact M,by rw[Qk];exact c,λ_ _=>rfl,λ_ h=>(nomatch h),?_⟩
  rw[Qk,Qk]
  exact Yg t rfl
 ·rw[decide_eq_false c]at t
  have lk:=Zi9 M.nd M.lt
  obtain⟨g,hg⟩:∃g:Nat->Nat,g= λx=>if x=m then f p+1 else f x:=⟨_,rfl⟩
  have gm:g m=f p+1:=by rw[hg];exact if_pos rfl
  have go:∀x∈ks,g x=f x:=λx hx=>by rw[hg];exact if_neg (λ(e:x=m)=>c (e▸hx))
  have ev:vF g (ks ++ [m])=vF f ks ++ [.int ((f p:Int)+1)]:=by
   unfold vF
   rw[Qg,Qh λx hx=>congrArg dI (go x hx)]
   exact congrArg (λz=>_ ++ [z]) (show dI (g m)=_ by rw[gm];rfl)
  refine⟨[m],g,some (.fz (dI m)),⟨?_,Qp _ M.st,?_,?_,?_,?_⟩,Qa _ (.head _),go,λx hx=>by rw[Xj.mp hx,gm],Zcr t (Z5 (Zut (Zai (Zw6 e2 (Za rfl) (Z3i hp)) Yd) rfl (Za rfl) (by omega) c) ?_)⟩
  ·exact JF.mpr ⟨M.nd,X6.mpr ⟨(λz=>nomatch z),.nil⟩,λa ha b hb e=>c (by rw[←Xj.mp hb,←e];exact ha)⟩
  ·exact λk hk=>(X8.mp hk).elim (M.lt k) λq=>Xj.mp q▸hm
  ·exact λk hk=>(X8.mp hk).elim (M.rch k) λq=>Xj.mp q▸ .step (M.rch p hp) he
  ·rw[go s M.st];exact M.z
  ·intro k hk ne
   rcases X8.mp hk with q|q
   ·obtain⟨x,hx,e1,e2⟩:=M.up k q ne
    exact⟨x,Qp _ hx,e1,by rw[go k q,go x hx];exact e2⟩
   ·rw[Xj.mp q]
    exact⟨p,Qp _ hp,he,by rw[gm,go p hp]⟩
  ·rw[ev]
   refine(Zez (ts:=(bey.map dI).map OT.fz) (Za rfl) rfl (by rw[Xd,Xd];rw[hk,XF]at lk;omega)).trans ?_
   rw[Zi5];rfl
theorem Zoc{ks ks0 bey ed:List Nat}{f:Nat->Nat}{p:Nat}{o6:Option OT}{bd:List Xa}(hn:n≤10)(hE:∀m∈nb p,m<n∧E p m)(hbs:bs= .list bd)(hbd:bd[p]? =some (.list ((nb p).map dI)))(M:Met E n s f ks)(hk:ks=ks0 ++ bey)(hp:p∈ks) :
  ∃t f' o,Met E n s f' (ks ++ t)∧(∀m∈nb p,m∈ks ++ t)∧(∀x∈ks,f' x=f x)∧(∀x∈t,f' x=f p+1)∧
   (Jz (Jw (Z4 gIx (Zb 0) (Zb 5))) (gNm 6) (J8 (tV (Ze (Zt5 true) (Zb 6) (Zco 2))) (Zx (Zj7 2 (Ze Zca (Z4 Zph (Zco 2) (Zb 5)) (fC (.int 1))) (Zb 6)) (Yk 4 (Zb 6))) fNx)) (eB bs s ks (vF f ks) ed (some (lsO bey)) (some (.fz (dI p))) o6)= .nx (eB bs s (ks ++ t) (vF f' (ks ++ t)) ed (some (lsO (bey ++ t))) (some (.fz (dI p))) o):=by
 refine Exists.elim (Zi8 (δ:=eB bs s ks (vF f ks) ed (some (lsO bey)) (some (.fz (dI p))) o6) (it:=Jw (Z4 gIx (Zb 0) (Zb 5))) (g:=gNm 6) (S:=J8 (tV (Ze (Zt5 true) (Zb 6) (Zco 2))) (Zx (Zj7 2 (Ze Zca (Z4 Zph (Zco 2) (Zb 5)) (fC (.int 1))) (Zb 6)) (Yk 4 (Zb 6))) fNx)
  (λi δ=>∃t f' o,δ=eB bs s (ks ++ t) (vF f' (ks ++ t)) ed (some (lsO (bey ++ t))) (some (.fz (dI p))) o∧Met E n s f' (ks ++ t)∧(∀x∈ks,f' x=f x)∧(∀x∈t,f' x=f p+1)∧∀j m,j<i->(nb p)[j]? =some m->m∈ks ++ t)
  (Wi (ds:=(nb p).map dI) (Zb2 (ds:=bd) (i:=p) (hbs▸Za rfl) (Za rfl) (Zeg hbd))) ⟨[],f,o6,by rw[Qk,Qk],by rw[Qk];exact M,λ_ _=>rfl,λ_ h=>(nomatch h),λj m z=>absurd z (Vr _)⟩ (λi d δ hd h=>?turn)) λδ' z=>?fin
 case fin=>
  obtain⟨e,t,f',o,rfl,M',h1,h2,hc⟩:=z
  rw[Xd]at hc
  exact⟨t,f',o,M',λm hm=>by
   obtain⟨j,hj,e⟩:=List.getElem_of_mem hm
   exact hc j m hj (by rw[Xk hj,e]),h1,h2,e⟩
 case turn=>
  obtain⟨t,f',o,rfl,M',h1,h2,hc⟩:=h
  rw[Xl]at hd
  obtain⟨m,hm,rfl⟩:=X7.mp hd
  obtain⟨lm,em⟩:=hE m (Q6 hm)
  obtain⟨t2,f2,o2,M2,m2,g1,g2,run⟩:=Zoe (bs:=bs) (ed:=ed) (bey:=bey ++ t) hn M' (by rw[hk,QB]) (Qp _ hp) lm em
  rw[QB,QB]at run
  rw[QB]at M2 m2
  refine⟨_,_,rfl,.inl run,t ++ t2,f2,o2,rfl,M2,λx hx=>(g1 x (Qp _ hx)).trans (h1 x hx),λx hx=>?_,λj k hj hk=>?_⟩
  ·rcases X8.mp hx with q|q
   ·exact(g1 x (Qa _ q)).trans (h2 x q)
   ·rw[g2 x q,h1 p hp]
  ·rcases Nat.lt_succ_iff_lt_or_eq.mp hj with hj|rfl
   ·rw[←QB];exact Qp _ (hc j k hj hk)
   ·rw[hm]at hk;cases hk;exact m2
end
noncomputable def Nb(nb:Nat->List Nat):Nat->Nat->Prop:=λp m=>m∈nb p
structure Web(n:Nat)(nb:Nat->List Nat)(bs:Xa):Prop where
 le:n≤10
 lt:∀p m,m∈nb p->m<n
 bs:∃bd,bs= .list bd∧∀p<n,bd[p]? =some (.list ((nb p).map dI))
noncomputable def inB:FS:=Jz (Jw (Z4 gIx (Zb 0) (Zb 5))) (gNm 6) (J8 (tV (Ze (Zt5 true) (Zb 6) (Zco 2))) (Zx (Zj7 2 (Ze Zca (Z4 Zph (Zco 2) (Zb 5)) (fC (.int 1))) (Zb 6)) (Yk 4 (Zb 6))) fNx)
noncomputable def Z5k:FS:=Zx (wE (Zcx Zm) (Ja 4)) (Zx (Jz (Jw (Zb 3)) (gNm 5) inB) (Zbg 4 (wE (Zb 4) (Wz 3))))
noncomputable def Z00:FT:=tV (Ze gGt (Zak Zce (Zc (Zb 3) Zm)) (fC (.int 0)))
section
variable {n s:Nat}{nb:Nat->List Nat}{bs:Xa}
theorem Z09(W:Web n nb bs){ks ed:List Nat}{f:Nat->Nat}{L:Nat}{o4 o5 o6:Option OT}(M:Met (Nb nb) n s f ks)(hed:∀p∈ed,p∈ks∧f p=L) :
  ∃bey f' o4' o5' o6',Met (Nb nb) n s f' (ks ++ bey)∧(∀p∈ed,∀m∈nb p,m∈ks ++ bey)∧(∀x∈ks,f' x=f x)∧(∀x∈bey,f' x=L+1)∧Z5k (eB bs s ks (vF f ks) ed o4 o5 o6)= .nx (eB bs s (ks ++ bey) (vF f' (ks ++ bey)) bey o4' o5' o6'):=by
 obtain⟨bd,hbs,hbd⟩:=W.bs
 refine Exists.elim (Zi8 (δ:=eB bs s ks (vF f ks) ed (some (.nd [])) o5 o6) (it:=Jw (Zb 3)) (g:=gNm 5) (S:=inB)
  (λi δ=>∃bey f' o5 o6,δ=eB bs s (ks ++ bey) (vF f' (ks ++ bey)) ed (some (lsO bey)) o5 o6∧Met (Nb nb) n s f' (ks ++ bey)∧(∀x∈ks,f' x=f x)∧(∀x∈bey,f' x=L+1)∧∀j p,j<i->ed[j]? =some p->∀m∈nb p,m∈ks ++ bey)
  (Wi (ds:=ed.map dI) (Za rfl)) ⟨[],f,o5,o6,by rw[Qk];rfl,by rw[Qk];exact M,λ_ _=>rfl,λ_ h=>(nomatch h),λj m z=>absurd z (Vr _)⟩ (λi d δ hd h=>?turn)) λδ' z=>?fin
 case fin=>
  obtain⟨e,bey,f',o5',o6',rfl,M',h1,h2,hc⟩:=z
  rw[Xd]at hc
  refine⟨bey,f',some (.fz (.list (bey.map dI))),o5',o6',M',λp hp=>?_,h1,h2,Z5 Zb3 (Z5 e (Zf6 (o:=lsO bey) rfl ?_))⟩
  ·obtain⟨j,hj,e⟩:=List.getElem_of_mem hp
   exact hc j p hj (by rw[Xk hj,e])
  ·have hd:(lsO bey).data= .list (bey.map dI):=by unfold lsO;rw[OT.data_nd,OT.map_fz]
   rw[hd]
   exact Z8 (Za rfl)
 case turn=>
  obtain⟨bey,f',o5,o6,rfl,M',h1,h2,hc⟩:=h
  rw[Xl]at hd
  obtain⟨p,hp,rfl⟩:=X7.mp hd
  obtain⟨pks,pL⟩:=hed p (Q6 hp)
  have pk:p∈ks ++ bey:=Qp _ pks
  obtain⟨t,f2,o,M2,m2,g1,g2,run⟩:=Zoc (ed:=ed) (o6:=o6) W.le (λm hm=>⟨W.lt p m hm,hm⟩) hbs (hbd p (M'.lt p pk)) M' rfl pk
  rw[QB]at run M2
  refine⟨_,_,rfl,.inl run,bey ++ t,f2,_,o,rfl,M2,λx hx=>(g1 x (Qp _ hx)).trans (h1 x hx),λx hx=>?_,λj k hj hk m hm=>?_⟩
  ·rcases X8.mp hx with q|q
   ·exact(g1 x (Qa _ q)).trans (h2 x q)
   ·rw[g2 x q,h1 p pks,pL]
  rw[←QB]
  rcases Nat.lt_succ_iff_lt_or_eq.mp hj with hj|rfl
  ·exact Qp _ (hc j k hj hk m hm)
  ·rw[hp]at hk;cases hk;exact m2 m hm
theorem Zl5{ks ed:List Nat}{vs:List Xa}{o4 o5 o6:Option OT}:Z00 (eB bs s ks vs ed o4 o5 o6)=some (decide (0<ed.length),eB bs s ks vs ed o4 o5 o6):=by
 refine Za9 (Z92 (Zbw (ds:=ed.map dI) (Za rfl)) Yd ?_)
 rw[Xd]
 exact decide_eq_decide.mpr ⟨λh=>by omega,λh=>by omega⟩
theorem Z16{t:FT}{u:FS}{k:Nat}{δ δ2:Zf}(h:t δ=some (true,δ))(g:u δ= .nx δ2):whileLoop t u (k+1) δ=whileLoop t u k δ2:=by
 rw[whileLoop,h]
 dsimp only
 rw[if_pos rfl,g]
theorem Zp6{t:FT}{u:FS}{k:Nat}{δ:Zf}(h:t δ=some (false,δ)):whileLoop t u (k+1) δ= .nx δ:=by
 rw[whileLoop,h];rfl
theorem Z2d(W:Web n nb bs)(N:Nat):∀{ks ed:List Nat} {f:Nat->Nat} {L:Nat} {o4 o5 o6:Option OT},Met (Nb nb) n s f ks->(∀p∈ed,p∈ks∧f p=L)->(∀k∈ks,f k≤L)->(∀k∈ks,k∉ed->∀m∈nb k,m∈ks∧f m≤f k+1)->2*(n-ks.length)+(if ed=[]then 0 else 1)≤N ->
  ∃g ks' f' o3 o4' o5' o6',whileLoop Z00 Z5k g (eB bs s ks (vF f ks) ed o4 o5 o6)= .nx (eB bs s ks' (vF f' ks') o3 o4' o5' o6')∧Met (Nb nb) n s f' ks'∧∀k∈ks',∀m∈nb k,m∈ks'∧f' m≤f' k+1:=by
 induction N with
 | zero=>
  intro ks ed f L o4 o5 o6 M hed hle hc hN
  have e:ed=[]:=BW λc=>by rw[if_neg c]at hN;omega
  subst e
  exact⟨1,ks,f,_,_,_,_,Zp6 Zl5,M,λk hk=>hc k hk λz=>nomatch z⟩
 | succ N ih=>
  intro ks ed f L o4 o5 o6 M hed hle hc hN
  by_cases e:ed=[]
  ·subst e
   exact⟨1,ks,f,_,_,_,_,Zp6 Zl5,M,λk hk=>hc k hk λz=>nomatch z⟩
  ·rw[if_neg e]at hN
   obtain⟨bey,f',p4,p5,p6,M',m',h1,h2,run⟩:=Z09 (o4:=o4) (o5:=o5) (o6:=o6) W M hed
   have ll:=Zi9 M'.nd M'.lt
   rw[XF]at ll
   have tt:Z00 (eB bs s ks (vF f ks) ed o4 o5 o6)=some (true,eB bs s ks (vF f ks) ed o4 o5 o6):=by
    rw[Zl5,decide_eq_true (List.length_pos_iff.mpr e)]
   have le2:∀k∈ks ++ bey,f' k≤L+1:=λk hk=>by
    rcases X8.mp hk with q|q
    ·rw[h1 k q];exact Nat.le_succ_of_le (hle k q)
    ·rw[h2 k q];exact Xz _
   have c1:∀k∈ks ++ bey,k∉bey->∀m∈nb k,m∈ks ++ bey∧f' m≤f' k+1:=λk hk hb m hm=>by
    have k0:k∈ks:=(X8.mp hk).resolve_right hb
    by_cases ke:k∈ed
    ·have mm:=m' k ke m hm
     refine⟨mm,?_⟩
     rw[h1 k k0,(hed k ke).2]
     exact le2 m mm
    ·obtain⟨a,b⟩:=hc k k0 ke m hm
     refine⟨Qp _ a,?_⟩
     rw[h1 m a,h1 k k0];exact b
   have c2:2*(n-(ks ++ bey).length)+(if bey=[]then 0 else 1)≤N:=by
    rw[XF]
    by_cases b:bey=[]
    ·rw[if_pos b,b];show 2*(n-(ks.length+0))+0≤N;omega
    ·rw[if_neg b]
     have:=List.length_pos_iff.mpr b
     omega
   obtain⟨g,ks',f2,o3,q4,q5,q6,k1,k2,k3⟩:=ih (ks:=ks ++ bey) (ed:=bey) (L:=L+1) (o4:=p4) (o5:=p5) (o6:=p6) M' (λp hp=>⟨Qa _ hp,h2 p hp⟩) le2 c1 c2
   exact⟨g+1,ks',f2,o3,q4,q5,q6,(Z16 tt run).trans k1,k2,k3⟩
theorem Zjc(W:Web n nb bs)(hs:s<n):∃ks f,Told Yn [bs,dI s] (dcD false (ks.map kI) (vF f ks))∧Met (Nb nb) n s f ks∧(∀m,m∈ks↔Rch (Nb nb) s m)∧∀k∈ks,∀m∈nb k,f m≤f k+1:=by
 have M0:Met (Nb nb) n s (λ_=>0) [s]:=⟨X6.mpr ⟨(λz=>nomatch z),.nil⟩,.head _,λk hk=>Xj.mp hk▸hs,λk hk=>Xj.mp hk▸ .refl,rfl,λk hk ne=>absurd (Xj.mp hk) ne⟩
 obtain⟨g,ks,f,o3,o4,o5,o6,run,M,cl⟩:=Z2d (ed:=[s]) (L:=0) (o4:=none) (o5:=none) (o6:=none) W _ M0 (λp hp=>⟨hp,rfl⟩) (λ_ _=>Xz _) (λk hk hn=>absurd hk hn) (Xz _)
 refine⟨ks,f,Z6 rfl<|Zw (δ':=[some (.fz bs),some (.fz (dI s)),some (.dc false [kI s] [.int 0]),none,none,none,none]) ?_<|Zw (Z8 (Zic (ds:=[dI s]) (Zd (Za rfl) Zh) (show 1≤1000 by decide)))<|Zw (Ztk g run (λz=>nomatch z)) (Zw9 (o:=.dc false (ks.map kI) (vF f ks)) rfl (OT.data_dc _ _ _)),M,λm=>⟨M.rch m,Rch.closed M.st λk hk m hm=>(cl k hk m hm).1⟩,λk hk m hm=>(cl k hk m hm).2⟩
 rfl
end
theorem Zoh{f g:Int->Int->Bool}{a b c:FE}{δ:Zf}{i j k:Int}(ha:EvV a δ (.int i))(hb:EvV b δ (.int j))(hc:EvV c δ (.int k))(h:f i j=true)(hg:g j k=true):EvV (Zci f g a b c) δ (.bool true):=by
 obtain⟨_,e1,d1⟩:=ha
 obtain⟨_,e2,d2⟩:=hb
 obtain⟨_,e3,d3⟩:=hc
 refine⟨.fz (.bool true),?_,OT.data_fz _⟩
 unfold Zci
 rw[e1,Xh,e2,Xh]
 dsimp only
 rw[d1,d2]
 dsimp only
 rw[if_pos h,e3,Xh,d3]
 dsimp only
 rw[hg]
theorem Zel{n:Nat}(h1:1≤n)(h2:n≤10):Told Y9 [dI n] (.bool true) :=
 Z6 rfl (Wm (Zoh Yd (Za rfl) Yd (decide_eq_true (show(1:Int)≤n by omega)) (decide_eq_true (show(n:Int)≤10 by omega))))
theorem Zuu(n:Nat):Ze5 0 n=(Xi n).map dI:=Qh λi _=>by
 show Xx (0+(i:Int))=_
 rw[VR];rfl
noncomputable def nbR(rs:List (Nat×Nat))(p:Nat):List Nat:=rs.flatMap λr=>if r.1=p then[r.2]else if r.2=p then[r.1]else[]
theorem Zwi(rs:List (Nat×Nat))(r:Nat×Nat)(p:Nat):nbR (rs ++ [r]) p=nbR rs p ++ (if r.1=p then[r.2]else if r.2=p then[r.1]else[]):=by
 unfold nbR
 rw[V0,Vw,List.flatMap_nil,Qk]
theorem Zcv{rs:List (Nat×Nat)}{p m:Nat}:m∈nbR rs p↔(p,m)∈rs∨(m,p)∈rs:=by
 unfold nbR
 rw[Us]
 constructor
 ·intro h
  obtain⟨⟨a,b⟩,hr,hm⟩:=h
  dsimp only at hm
  split at hm
  ·rename_i e;subst e;rw[Xj.mp hm];exact .inl hr
  ·split at hm
   ·rename_i e;subst e;rw[Xj.mp hm];exact .inr hr
   ·cases hm
 ·intro h
  rcases h with h|h
  ·exact⟨_,h,by dsimp only;rw[if_pos rfl];exact .head _⟩
  ·refine⟨_,h,?_⟩
   dsimp only
   split
   ·rename_i e;subst e;exact .head _
   ·rw[if_pos rfl];exact .head _
theorem set_range{f:Nat->OT}{n a:Nat}{v:OT}:((Xi n).map f).set a v=(Xi n).map λp=>if p=a then v else f p:=by
 refine Vx λi=>?_
 rw[List.getElem?_set,Xl,Xl,Xd,Xw]
 by_cases c:i<n
 ·rw[QM c]
  by_cases e:a=i
  ·subst e;rw[if_pos rfl,if_pos c];show _=some (if _ then _ else _);rw[if_pos rfl]
  ·rw[if_neg e];show _=some (if _ then _ else _);rw[if_neg λz=>e z.symm];rfl
 ·rw[QK (by rw[Xw];omega)]
  split
  ·split
   ·omega
   ·rfl
  ·rfl
theorem Znb{j e:FE}{δ:Zf}{i k:Nat}{ts us:List OT}{d:Xa}(hi:δ[i]? =some (some (.nd ts)))(hj:EvV j δ (dI k))(ht:ts[k]? =some (.nd us))(he:EvV e δ d)(hl:us.length≤1000000):Zh5 i j e δ= .nx (δ.set i (some (.nd (ts.set k (.nd (us ++ [.fz d])))))):=by
 obtain⟨t1,e1,d1⟩:=hj
 obtain⟨t2,e2,d2⟩:=he
 have hk:k<ts.length:=(Xn.mp ht).1
 have hx:ixN ts.length (k:Int)=some k:=Zmq hk
 unfold Zh5
 rw[hi]
 dsimp only
 rw[Zcb,e1,Yi,d1]
 show(match ixN ts.length (k:Int)with|some j=>_|none=>_)=_
 rw[hx]
 dsimp only
 rw[ht]
 dsimp only
 rw[Zcb,e2,Yi,d2,if_pos (by rw[XN];omega)]
noncomputable def bO(rs:List (Nat×Nat))(n:Nat):OT:=.nd ((Xi n).map λp=>lsO (nbR rs p))
theorem Z1r(rs:List (Nat×Nat))(p:Nat):(nbR rs p).length≤rs.length:=by
 unfold nbR
 induction rs with
 | nil=>exact Xz _
 | cons r rs ih=>
  rw[Vw,XF,QS]
  have:(if r.1=p then[r.2]else if r.2=p then[r.1]else[]).length≤1:=by
   split
   ·exact Xz _
   ·split
    ·exact Xz _
    ·exact Qy _
  omega
theorem Zqb{n:Nat}{rs:List (Nat×Nat)}(hn:n≤10)(hr:∀r∈rs,r.1<r.2∧r.2<n)(hl:rs.length≤1000):Told Wy [dI n,.list (rs.map ptD)] (.list ((Xi n).map λp=>.list ((nbR rs p).map dI))):=by
 have h0:wE (Yc 1 [] (iRa (Zc (Zb 0) Zm)) (gNm 0) Zc2 (Zcx Zm)) (Ja 2) (Zbt 5 [dI n,.list (rs.map ptD)])= .nx [some (.fz (dI n)),some (.fz (.list (rs.map ptD))),some (bO [] n),none,none]:=by
  refine(Zl8 (o:=.nd ((Xi n).map λ_=>.nd [])) (Zir (cs:=[]) (Xi n) dI _ (hi:=?_) (by rw[Xw,XN];omega) rfl λx _=>rfl)).trans rfl
  rw[←Zuu]
  exact Zbh (Zd (Za rfl) Zh) (by omega)
 refine Z6 rfl<|Zw h0<|Zdy (ds:=rs.map ptD) (λi δ=>∃z3 z4,δ=[some (.fz (dI n)),some (.fz (.list (rs.map ptD))),some (bO (rs.take i) n),z3,z4]) (Wi (Za rfl)) ⟨_,_,by rw[List.take_zero]⟩ (λi d δ hd h=>?_) λδ' h=>?_
 ·obtain⟨z3,z4,rfl⟩:=h
  rw[Xl]at hd
  obtain⟨⟨a,b⟩,hab,rfl⟩:=X7.mp hd
  obtain⟨l1,l2⟩:=hr _ (Q6 hab)
  have l1:a<b:=l1
  have l2:b<n:=l2
  have tk:rs.take (i+1)=rs.take i ++ [(a,b)]:=by rw[List.take_succ,hab];rfl
  have nl:∀p,(nbR (rs.take i) p).length≤1000:=λp=>by
   have h1:=Z1r (rs.take i) p
   have h2:(rs.take i).length≤rs.length:=by rw[Vo];exact Nat.min_le_right _ _
   omega
  have s1:=Znb (i:=2) (j:=Zb 3) (e:=Zb 4) (δ:=[some (.fz (dI n)),some (.fz (.list (rs.map ptD))),some (bO (rs.take i) n),some (.fz (dI a)),some (.fz (dI b))]) (k:=a) (us:=((nbR (rs.take i) a).map dI).map OT.fz) (d:=dI b) rfl (Za rfl) (by rw[Xl,QM (by omega)];rfl) (Za rfl) (by rw[Xd,Xd];have:=nl a;omega)
  rw[set_range]at s1
  have s2:=Znb (i:=2) (j:=Zb 4) (e:=Zb 3) (δ:=[some (.fz (dI n)),some (.fz (.list (rs.map ptD))),some (.nd ((Xi n).map λp=>if p=a then OT.nd (((nbR (rs.take i) a).map dI).map OT.fz ++ [.fz (dI b)])else lsO (nbR (rs.take i) p))),some (.fz (dI a)),some (.fz (dI b))]) (k:=b) (us:=((nbR (rs.take i) b).map dI).map OT.fz) (d:=dI a) rfl (Za rfl) (by rw[Xl,QM (by omega)];show some (if b=a then _ else _)=_;rw[if_neg (by omega)];rfl) (Za rfl) (by rw[Xd,Xd];have:=nl b;omega)
  rw[set_range]at s2
  refine⟨_,_,rfl,.inl (Z5 s1 s2),some (.fz (dI a)),some (.fz (dI b)),?_⟩
  have e:((Xi n).map λp=>if p=b then OT.nd (((nbR (rs.take i) b).map dI).map OT.fz ++ [.fz (dI a)])else if p=a then OT.nd (((nbR (rs.take i) a).map dI).map OT.fz ++ [.fz (dI b)])else lsO (nbR (rs.take i) p))=(Xi n).map λp=>lsO (nbR (rs.take (i+1)) p):=Qh λp _=>by
   rw[tk,Zwi]
   by_cases c1:p=b
   ·subst c1;rw[if_pos rfl];dsimp only;rw[if_neg (by omega),if_pos rfl,Zi5]
   ·rw[if_neg c1]
    by_cases c2:p=a
    ·subst c2;rw[if_pos rfl];dsimp only;rw[if_pos rfl,Zi5]
    ·rw[if_neg c2];dsimp only;rw[if_neg λz=>c2 z.symm,if_neg λz=>c1 z.symm,Qk]
  unfold bO
  rw[←e];rfl
 ·obtain⟨z3,z4,rfl⟩:=h
  refine Zw9 (o:=bO rs n) (by rw[Xd,List.take_length];rfl) ?_
  unfold bO
  rw[OT.data_nd,Qz]
  refine congrArg _ (Qh λp _=>?_)
  show(lsO (nbR rs p)).data=_
  unfold lsO
  rw[OT.data_nd,OT.map_fz]
theorem Z45{n:Nat}{rs:List (Nat×Nat)}(hn:n≤10)(hr:∀r∈rs,r.1<r.2∧r.2<n):Web n (nbR rs) (.list ((Xi n).map λp=>.list ((nbR rs p).map dI))) :=
 ⟨hn,λp m h=>by
  rcases Zcv.mp h with h|h
  ·exact(hr _ h).2
  ·have:=hr _ h;dsimp only at this;omega,_,rfl,λp hp=>by rw[Xl,QM hp];rfl⟩
noncomputable def rI(r:Nat×Nat):List Int:=[(r.1:Int),(r.2:Int)]
structure Roads(n:Nat)(rs:List (Nat×Nat)):Prop where
 n1:1≤n
 n10:n≤10
 ok:∀r∈rs,r.1<r.2∧r.2<n
 ris:∀(i:Nat) (r r':Nat×Nat),rs[i]? =some r->rs[i+1]? =some r'->ltI (rI r) (rI r')=true
 len:rs.length≤1000
theorem Z7b(ds:List Xa):cutD ds (some 1) none=ds.drop 1:=by
 unfold cutD
 have e:HT.sIx ds.length 0 (some 1)=min 1 ds.length:=HT.sIx_nat _ _ 1
 rw[e,HT.sIx_none]
 cases ds with
 | nil=>rfl
 | cons d ds=>
  rw[QS,Nat.min_eq_left (by omega),List.drop_succ_cons,List.drop_zero]
  exact Ug (by omega)
theorem Z74(r r':Nat×Nat):Z5d (ptD r) (ptD r')=some (.bool (ltI (rI r) (rI r'))):=rfl
theorem Zk5{n:Nat}{rs:List (Nat×Nat)}(R:Roads n rs):Told Jb [.list (rs.map ptD)] (.bool true):=by
 refine Z6 rfl<|Zdy (ds:=Zo7 (rs.map ptD) ((rs.map ptD).drop 1)) (λi δ=>∃z1 z2,δ=[some (.fz (.list (rs.map ptD))),z1,z2]) (Zyu (Za rfl) ((Zy9 (Za rfl) (Z3h Yd) Ydi).cast (by rw[Z7b])) rfl) ⟨_,_,rfl⟩ (λi d δ hd h=>?_) λδ' h=>?_
 ·obtain⟨z1,z2,rfl⟩:=h
  obtain⟨x,y,hx,hy,rfl⟩:=Znl hd
  rw[Xl]at hx
  rw[List.getElem?_drop,Xl]at hy
  obtain⟨r,hr,rfl⟩:=X7.mp hx
  obtain⟨r',hr',rfl⟩:=X7.mp hy
  have hl:=R.ris i r r' hr (by rw[Nat.add_comm];exact hr')
  exact⟨_,_,rfl,.inl (Yg (Zgr (p:=true) (Za9 (Zo (Za rfl) (Za rfl) (by rw[Z74,hl])))) rfl),some (.fz (ptD r)),some (.fz (ptD r')),rfl⟩
 ·obtain⟨z1,z2,rfl⟩:=h
  exact Wm Yd
theorem Zha{n:Nat}{rs:List (Nat×Nat)}(R:Roads n rs):Told Wt [dI n,.list (rs.map ptD)] .none:=by
 refine Exists.elim (Zi8 (δ:=[some (.fz (dI n)),some (.fz (.list (rs.map ptD))),none,none]) (it:=Jw (Zb 1)) (g:=gTp 2 (gCn (gNm 2) (gCn (gNm 3) gNl))) (S:=J8 (tNo (tV (Zgg (λi j=>decide (i≤j)) (λi j=>decide (i<j)) (λi j=>decide (i<j)) (fC (.int 0)) (Zb 2) (Zb 3) (Zb 0)))) (Zcl "NoWeb") fNx)
  (λi δ=>∃z1 z2,δ=[some (.fz (dI n)),some (.fz (.list (rs.map ptD))),z1,z2]) (Wi (ds:=rs.map ptD) (Za rfl)) ⟨_,_,rfl⟩ (λi d δ hd h=>?turn)) λδ' z=>?fin
 case turn=>
  obtain⟨z1,z2,rfl⟩:=h
  rw[Xl]at hd
  obtain⟨⟨a,b⟩,hr,rfl⟩:=X7.mp hd
  obtain⟨l1,l2⟩:=R.ok _ (Q6 hr)
  have l1:a<b:=l1
  have l2:b<n:=l2
  refine⟨_,_,rfl,.inl (Yg (Zgr (p:=true) (Za9 ((Zqa Yd (Za rfl) (Za rfl) (Za rfl)).cast ?_))) rfl),some (.fz (dI a)),some (.fz (dI b)),rfl⟩
  rw[decide_eq_true (show(0:Int)≤a by omega),decide_eq_true (show(a:Int)<b by omega),decide_eq_true (show(b:Int)<n by omega)];rfl
 case fin=>
  obtain⟨e,z1,z2,rfl⟩:=z
  exact Zqn rfl (Z5 (Yg (Zgr (p:=true) (Zjn (Z0 (Zd (Za rfl) Zh) (Zel R.n1 R.n10)))) rfl) (Z5 e (Yg (Zgr (p:=true) (Zjn (Z0 (Zd (Za rfl) Zh) (Zk5 R)))) rfl)))
noncomputable def Z7l(n:Nat)(rs:List (Nat×Nat)):Prop:=∀m<n,Rch (Nb (nbR rs)) 0 m
noncomputable def bsD(n:Nat)(rs:List (Nat×Nat)):Xa:=.list ((Xi n).map λp=>.list ((nbR rs p).map dI))
theorem Zlx{rs:List (Nat×Nat)}(a b:Nat)(h:Nb (nbR rs) a b):Nb (nbR rs) b a:=Zcv.mpr (Zcv.mp h).symm
theorem Z08{ks:List Nat}{vs:List Xa}(h:vs.length=ks.length):Zpx [dcD false (ks.map kI) vs]=some (.int ks.length):=by
 show some (Xx (((ks.map kI).map kyD).zip vs).length)=_
 rw[List.length_zip,Xd,Xd,h,Nat.min_self]
structure Dst(n:Nat)(rs:List (Nat×Nat))(s:Nat)(f:Nat->Nat):Prop where
 z:f s=0
 up:∀p<n,p≠s->∃m∈nbR rs p,m<n∧f p=f m+1
 one:∀p<n,∀m∈nbR rs p,f m≤f p+1
theorem Z0d{n:Nat}{rs:List (Nat×Nat)}(R:Roads n rs)(hc:Z7l n rs){s:Nat}(hs:s<n):∃q:List Nat×(Nat->Nat),Told Yn [bsD n rs,dI s] (dcD false (q.1.map kI) (vF q.2 q.1))∧(∀m<n,m∈q.1)∧q.1.length=n∧Dst n rs s q.2:=by
 have W:=Z45 R.n10 R.ok
 obtain⟨ks,f,T,M,hk,ho⟩:=Zjc W hs
 have full:∀m<n,m∈ks:=λm hm=>(hk m).mpr (Rch.trans (Rch.symm Zlx (hc s hs)) (hc m hm))
 refine⟨(ks,f),T,full,Nat.le_antisymm (Zi9 M.nd M.lt) (Z19 full),M.z,λp hp ne=>?_,λp hp m hm=>ho p (full p hp) m hm⟩
 obtain⟨m,hm,e1,e2⟩:=M.up p (full p hp) ne
 exact⟨m,Zlx _ _ e1,M.lt m hm,e2⟩
noncomputable def Zle(n:Nat)(f:Nat->Nat):Xa:=.list ((Xi n).map λp=>dI (f p))
theorem Zfz{n:Nat}{rs:List (Nat×Nat)}(R:Roads n rs)(hc:Z7l n rs):∃F:Nat->Nat->Nat,(∀s<n,Dst n rs s (F s))∧Told Z9 [dI n,.list (rs.map ptD)] (.list ((Xi n).map λs=>Zle n (F s))):=by
 have n10:=R.n10
 obtain⟨q,hq⟩:=V1 (λs=>show∃q:List Nat×(Nat->Nat),s<n->Told Yn [bsD n rs,dI s] (dcD false (q.1.map kI) (vF q.2 q.1))∧(∀m<n,m∈q.1)∧q.1.length=n∧Dst n rs s q.2 by
  by_cases c:s<n
  ·obtain⟨q,h⟩:=Z0d R hc c
   exact⟨q,λ_=>h⟩
  ·exact⟨([],id),λz=>absurd z c⟩)
 refine⟨λs=>(q s).2,λs hs=>(hq s hs).2.2.2,?_⟩
 refine Z6 rfl<|Zw (Zq1 (Z0 (Zd (Za rfl) (Zd (Za rfl) Zh)) (Zha R)))<|Zw (Z8 (Z0 (Zd (Za rfl) (Zd (Za rfl) Zh)) (Zqb R.n10 R.ok R.len)))<|Zw Zb3<|
  Zdy (ds:=Ze5 0 n) (λi δ=>∃z4 z5,δ=[some (.fz (dI n)),some (.fz (.list (rs.map ptD))),some (.fz (bsD n rs)),some (.nd (((Xi i).map λs=>Zle n (q s).2).map OT.fz)),z4,z5]) (Zbh (Zd (Za rfl) Zh) (Ql n10 (by decide))) ⟨_,_,rfl⟩ (λi d δ hd h=>?_) λδ' h=>?_
 ·obtain⟨z4,z5,rfl⟩:=h
  obtain⟨hi,e⟩:=W5 hd
  rw[VR]at e
  subst e
  obtain⟨T,full,ln,_⟩:=hq i hi
  refine⟨_,_,rfl,.inl (Z5 (Z8 (Z0 (Zd (Za rfl) (Zd (Za rfl) Zh)) T)) (Z5 (Yg (Za9 (Zuy (Zhp (Zd (Za rfl) Zh) (Z08 (Xd ..))) (Za rfl) (decide_eq_false (by rw[ln];exact Int.lt_irrefl _)))) rfl) (Zez (ts:=((Xi i).map λs=>Zle n (q s).2).map OT.fz) (d:=Zle n (q i).2) (Zaz (cs:=[some (.fz (dcD false ((q i).1.map kI) (vF (q i).2 (q i).1)))]) (Xi n) dI (λp=>dI ((q i).2 p)) ?_ (by rw[Xw];exact Ql n10 (by decide)) rfl λx hx=>Zw6 (Za rfl) (Za rfl) (Z3i (full x (XQ.mp hx)))) rfl (by rw[Xd,Xd,Xw];exact Ql (Vh hi) (Ql n10 (by decide)))))),some (.fz (.int i)),some (.fz (dcD false ((q i).1.map kI) (vF (q i).2 (q i).1))),?_⟩
  ·rw[←Zuu]
   exact Zbh (Zd (Za rfl) Zh) (Ql n10 (by decide))
  ·rw[Vq,Qg,Qg];rfl
 ·obtain⟨z4,z5,rfl⟩:=h
  rw[Ys]
  exact Zw9 rfl (by rw[OT.data_nd,OT.map_fz])
noncomputable def Zbn(n:Nat)(F:Nat->Nat->Nat):Xa:=.list ((Xi n).map λs=>Zle n (F s))
theorem Zr1{e:FE}{δ:Zf}{i:Int}(h:EvV e δ (.int i)):e δ=some (.fz (.int i),δ):=by
 obtain⟨t,e1,d1⟩:=h
 rw[e1,Zmt d1]
theorem Zgq{δ:Zf}{a b:FE}{n p:Nat}{f:Nat->Nat}(ha:EvV a δ (Zle n f))(hb:EvV b δ (dI p))(hp:p<n):EvV (Z4 gIx a b) δ (dI (f p)):=Zb2 ha hb (Zeg (by rw[Xl,QM hp];rfl))
theorem Zge{δ:Zf}{n s j k:Nat}{F:Nat->Nat->Nat}(hs:s<n)(h1:δ[j]? =some (some (.fz (Zbn n F))))(h2:δ[k]? =some (some (.fz (dI s)))):EvV (Z4 gIx (Zb j) (Zb k)) δ (Zle n (F s)):=Zb2 (ds:=(Xi n).map λs=>Zle n (F s)) (Za h1) (Za h2) (Zeg (by rw[Xl,QM hs];rfl))
theorem Zjj{δ:Zf}{n j:Nat}{F:Nat->Nat->Nat}(h:δ[j]? =some (some (.fz (Zbn n F)))):EvV (Zak Zce (Zc (Zb j) Zm)) δ (dI n):=(Zbw (ds:=(Xi n).map λs=>Zle n (F s)) (Za h)).cast (by rw[Xd,Xw];rfl)
noncomputable def Zeh{α:Type}(I:Zf->Prop)(u:FS)(δ1:Zf)(r:Option Xa):Prop:=match r with
 | none=>∃δ2,u δ1= .nx δ2∧I δ2
 | some v=>∃o δ2,u δ1= .rt o δ2∧o.data=v
theorem Zue{α:Type}{I:Zf->Prop}{g:FG}{u:FS}(mk:α->Xa)(f:α->Option Xa):∀(xs:List α) (δ:Zf),I δ->(∀x∈xs,∀δ,I δ->∃δ1,g (mk x) δ=some δ1∧Zeh (α:=α) I u δ1 (f x))->Zeh (α:=α) I (forLoop g u (xs.map mk)) δ (xs.findSome? f):=by
 intro xs
 induction xs with
 | nil=>exact λδ h _=>⟨δ,rfl,h⟩
 | cons x xs ih=>
  intro δ h t
  obtain⟨δ1,e1,r⟩:=t x (.head _) δ h
  rw[List.findSome?_cons]
  cases q:f x with
  | none=>
   rw[q]at r
   obtain⟨δ2,e2,h2⟩:=r
   have e:forLoop g u ((x :: xs).map mk) δ=forLoop g u (xs.map mk) δ2:=by
    rw[X3,forLoop,e1]
    dsimp only
    rw[e2]
   unfold Zeh
   rw[e]
   exact ih δ2 h2 λy hy=>t y (.tail _ hy)
  | some v=>
   rw[q]at r
   obtain⟨o,δ2,e2,d⟩:=r
   refine⟨o,δ2,?_,d⟩
   rw[X3,forLoop,e1]
   dsimp only
   rw[e2]
theorem Zf5{α β:Type}{I J:Zf->Prop}{it:FI}{g:FG}{u:FS}{δ:Zf}(mk:α->Xa)(f:α->Option Xa)(xs:List α)(hi:EvI it δ (xs.map mk))(h0:J δ)(hJ:∀δ,J δ->I δ)(t:∀x∈xs,∀δ,J δ->∃δ1,g (mk x) δ=some δ1∧Zeh (α:=α) J u δ1 (f x)):Zeh (α:=β) I (Jz it g u) δ (xs.findSome? f):=by
 have h:=Zue (I:=J) (g:=g) (u:=u) mk f xs δ h0 t
 cases q:xs.findSome? f with
 | none=>
  rw[q]at h
  obtain⟨δ2,e,h2⟩:=h
  exact⟨δ2,Zhj hi e,hJ δ2 h2⟩
 | some v=>
  rw[q]at h
  obtain⟨o,δ2,e,d⟩:=h
  exact⟨o,δ2,Zhj hi e,d⟩
theorem Zdb{α:Type}{I:Zf->Prop}{t:FT}{S S':FS}{δ:Zf}{r:Option Xa}(h:EvT t δ true)(k:Zeh (α:=α) I S δ r):Zeh (α:=α) I (J8 t S S') δ r:=by
 cases r with
 | none=>
  obtain⟨δ2,e,h2⟩:=k
  exact⟨δ2,Zcr h e,h2⟩
 | some v=>
  obtain⟨o,δ2,e,d⟩:=k
  exact⟨o,δ2,Zcr h e,d⟩
theorem Zby{α:Type}{I:Zf->Prop}{t:FT}{S:FS}{δ:Zf}(h:EvT t δ false)(k:I δ):Zeh (α:=α) I (J8 t S fNx) δ none:=⟨δ,Yg h rfl,k⟩
theorem Zij{α:Type}{I:Zf->Prop}{e:FE}{δ:Zf}{v:Xa}(h:EvV e δ v):Zeh (α:=α) I (wE e W8) δ (some v):=by
 obtain⟨o,h1,h2⟩:=Zm4 h
 exact⟨o,δ,h1,h2⟩
theorem Zur{α:Type}{I:Zf->Prop}{S S':FS}{δ δ1:Zf}{r:Option Xa}(h:S δ= .nx δ1)(k:Zeh (α:=α) I S' δ1 r):Zeh (α:=α) I (Zx S S') δ r:=by
 cases r with
 | none=>
  obtain⟨δ2,e,h2⟩:=k
  exact⟨δ2,Z5 h e,h2⟩
 | some v=>
  obtain⟨o,δ2,e,d⟩:=k
  exact⟨o,δ2,Z5 h e,d⟩
theorem Zgl{α:Type}{I:Zf->Prop}{S S':FS}{δ:Zf}{r:Option Xa}{v0:Xa}(h:Zeh (α:=α) I S δ r)(k:∀δ,I δ->Zkm S' δ v0):Zkm (Zx S S') δ (r.getD v0):=by
 cases r with
 | none=>
  obtain⟨δ2,e,h2⟩:=h
  exact Zw e (k δ2 h2)
 | some v=>
  obtain⟨o,δ2,e,d⟩:=h
  exact Zb8 ⟨o,δ2,e,d⟩
noncomputable def t3(x y z:Nat):Xa:=.tuple [dI x,dI y,dI z]
noncomputable def Zjs(n:Nat)(F:Nat->Nat->Nat)(r:Nat×Nat):Option Xa:=(Xi n).findSome? λx=>if F r.1 x=F r.2 x then some (t3 r.1 r.2 x)else none
theorem Zig{n:Nat}{rs:List (Nat×Nat)}(R:Roads n rs)(F:Nat->Nat->Nat):Told Wb [Zbn n F,.list (rs.map ptD)] ((rs.findSome? (Zjs n F)).getD .none):=by
 have n10:=R.n10
 refine Z6 rfl (Zgl (α:=Nat) (I:=λδ=>∃z2 z3 z4,δ=[some (.fz (Zbn n F)),some (.fz (.list (rs.map ptD))),z2,z3,z4]) (Zf5 (J:=λδ=>∃z2 z3 z4,δ=[some (.fz (Zbn n F)),some (.fz (.list (rs.map ptD))),z2,z3,z4]) ptD (Zjs n F) rs (Wi (Za rfl)) ⟨_,_,_,rfl⟩ (λ_ h=>h) λr hr δ h=>?_) λδ h=>?_)
 ·obtain⟨z2,z3,z4,rfl⟩:=h
  obtain⟨l1,l2⟩:=R.ok r hr
  refine⟨_,rfl,Zf5 (J:=λδ=>∃z4,δ=[some (.fz (Zbn n F)),some (.fz (.list (rs.map ptD))),some (.fz (dI r.1)),some (.fz (dI r.2)),z4]) dI _ (Xi n) (by rw[←Zuu];exact Zbh (Zd (Zjj rfl) Zh) (by omega)) ⟨_,rfl⟩ (λδ h=>by obtain⟨z,rfl⟩:=h;exact⟨_,_,_,rfl⟩) λx hx δ h=>?_⟩
  obtain⟨z4,rfl⟩:=h
  have hx:=XQ.mp hx
  refine⟨_,rfl,?_⟩
  have e:∀{b:Bool},decide ((F r.1 x:Int)=(F r.2 x:Int))=b->EvT (tV (Ze gEq (Z4 gIx (Z4 gIx (Zb 0) (Zb 2)) (Zb 4)) (Z4 gIx (Z4 gIx (Zb 0) (Zb 3)) (Zb 4)))) [some (.fz (Zbn n F)),some (.fz (.list (rs.map ptD))),some (.fz (dI r.1)),some (.fz (dI r.2)),some (.fz (dI x))] b:=λh=>Za9 (Zoo (Zgq (p:=x) (Zge (s:=r.1) (by omega) rfl rfl) (Za rfl) hx) (Zgq (p:=x) (Zge (s:=r.2) l2 rfl rfl) (Za rfl) hx) h)
  by_cases c:F r.1 x=F r.2 x
  ·rw[if_pos c]
   exact Zdb (e (decide_eq_true (congrArg Nat.cast c))) (Zij (Zdl (Zd (Za rfl) (Zd (Za rfl) (Zd (Za rfl) Zh))) (show 3≤1000 by decide)))
  ·rw[if_neg c]
   exact Zby (e (decide_eq_false λz=>c (Int.ofNat.inj z))) ⟨_,rfl⟩
 ·obtain⟨z2,z3,z4,rfl⟩:=h
  exact Wm Yd
noncomputable def sdF(F:Nat->Nat->Nat)(a b x:Nat):Bool:=decide (F b x<F a x)
noncomputable def bsL(n:Nat)(S:Nat->Bool):Xa:=.list ((Xi n).map λx=>.bool (S x))
theorem Zey{n:Nat}(n10:n≤10)(F:Nat->Nat->Nat){a b:Nat}(ha:a<n)(hb:b<n):Told Yt [Zbn n F,dI a,dI b] (bsL n (sdF F a b)):=by
 refine Z6 rfl (Wm (Zaz (cs:=[some (.fz (Zbn n F)),some (.fz (dI b)),some (.fz (dI a))]) (Xi n) dI (λx=>.bool (sdF F a b x)) (by rw[←Zuu];exact Zbh (Zd (Zjj rfl) Zh) (by omega)) (by rw[Xw];omega) rfl λx hx=>?_))
 have hx:=XQ.mp hx
 exact Zuy (Zgq (p:=x) (Zge (s:=b) hb rfl rfl) (Za rfl) hx) (Zgq (p:=x) (Zge (s:=a) ha rfl rfl) (Za rfl) hx) (decide_eq_decide.mpr ⟨λh=>Int.ofNat_lt.mp h,λh=>Int.ofNat_lt.mpr h⟩)
theorem Zji{δ:Zf}{n j k x:Nat}{S:Nat->Bool}(hx:x<n)(h1:δ[j]? =some (some (.fz (bsL n S))))(h2:δ[k]? =some (some (.fz (dI x)))):EvV (Z4 gIx (Zb j) (Zb k)) δ (.bool (S x)):=Zb2 (ds:=(Xi n).map λx=>.bool (S x)) (Za h1) (Za h2) (Zeg (by rw[Xl,QM hx];rfl))
theorem Ybu(a b:Bool):gEq (.bool a) (.bool b)=some (.bool (a==b)):=by cases a<;>cases b<;>rfl
theorem Z94(a b:Bool):gNe (.bool a) (.bool b)=some (.bool (a !=b)):=by cases a<;>cases b<;>rfl
noncomputable def leaveX(n:Nat)(F:Nat->Nat->Nat)(S:Nat->Bool)(x y:Nat):Option Xa:=if(S x==S y)=true then(Xi n).findSome? (λz=>if(S z !=S x)=true∧F x z+F z y=F x y then some (t3 x y z)else none)else none
theorem Ze4{n:Nat}(n10:n≤10)(F:Nat->Nat->Nat)(S:Nat->Bool):Told Wf [Zbn n F,bsL n S] (((J0 n).findSome? λp=>leaveX n F S p.1 p.2).getD .none):=by
 refine Z6 rfl (Zw (Z8 (Zjj rfl)) (Zgl (α:=Nat) (I:=λδ=>∃z3 z4 z5,δ=[some (.fz (Zbn n F)),some (.fz (bsL n S)),some (.fz (dI n)),z3,z4,z5]) (Zf5 (J:=λδ=>∃z3 z4 z5,δ=[some (.fz (Zbn n F)),some (.fz (bsL n S)),some (.fz (dI n)),z3,z4,z5]) ptD _ (J0 n) (Wi (Z0 (Zd (Za rfl) Zh) (Zlp n (by omega)))) ⟨_,_,_,rfl⟩ (λ_ h=>h) λr hr δ h=>?_) λδ h=>?_))
 ·obtain⟨z3,z4,z5,rfl⟩:=h
  obtain⟨l1,l2⟩:=Zal hr
  refine⟨_,rfl,?_⟩
  have t0:EvT (tV (Ze gEq (Z4 gIx (Zb 1) (Zb 3)) (Z4 gIx (Zb 1) (Zb 4)))) [some (.fz (Zbn n F)),some (.fz (bsL n S)),some (.fz (dI n)),some (.fz (dI r.1)),some (.fz (dI r.2)),z5] (S r.1==S r.2):=Za9 (Zo (Zji (x:=r.1) (by omega) rfl rfl) (Zji (x:=r.2) l2 rfl rfl) (Ybu _ _))
  show Zeh _ _ _ (leaveX n F S r.1 r.2)
  unfold leaveX
  cases c:S r.1==S r.2 with
  | false=>
   rw[if_neg Xv]
   rw[c]at t0
   exact Zby t0 ⟨_,_,_,rfl⟩
  | true=>
   rw[if_pos rfl]
   rw[c]at t0
   refine Zdb t0 (Zf5 (J:=λδ=>∃z5,δ=[some (.fz (Zbn n F)),some (.fz (bsL n S)),some (.fz (dI n)),some (.fz (dI r.1)),some (.fz (dI r.2)),z5]) dI _ (Xi n) (by rw[←Zuu];exact Zbh (Zd (Za rfl) Zh) (by omega)) ⟨_,rfl⟩ (λδ h=>by obtain⟨z,rfl⟩:=h;exact⟨_,_,_,rfl⟩) λz hz δ h=>?_)
   obtain⟨z5,rfl⟩:=h
   have hz:=XQ.mp hz
   refine⟨_,rfl,?_⟩
   have s1:EvT (tV (Ze gNe (Z4 gIx (Zb 1) (Zb 5)) (Z4 gIx (Zb 1) (Zb 3)))) [some (.fz (Zbn n F)),some (.fz (bsL n S)),some (.fz (dI n)),some (.fz (dI r.1)),some (.fz (dI r.2)),some (.fz (dI z))] (S z !=S r.1):=Za9 (Zo (Zji (x:=z) hz rfl rfl) (Zji (x:=r.1) (by omega) rfl rfl) (Z94 _ _))
   have s2:∀{b:Bool},decide ((F r.1 z:Int)+(F z r.2:Int)=(F r.1 r.2:Int))=b->EvT (tV (Ze gEq (Ze Zca (Z4 gIx (Z4 gIx (Zb 0) (Zb 3)) (Zb 5)) (Z4 gIx (Z4 gIx (Zb 0) (Zb 5)) (Zb 4))) (Z4 gIx (Z4 gIx (Zb 0) (Zb 3)) (Zb 4)))) [some (.fz (Zbn n F)),some (.fz (bsL n S)),some (.fz (dI n)),some (.fz (dI r.1)),some (.fz (dI r.2)),some (.fz (dI z))] b:=λh=>Za9 (Zoo (Zai (Zgq (p:=z) (Zge (s:=r.1) (by omega) rfl rfl) (Za rfl) hz) (Zgq (p:=r.2) (Zge (s:=z) hz rfl rfl) (Za rfl) l2)) (Zgq (p:=r.2) (Zge (s:=r.1) (by omega) rfl rfl) (Za rfl) l2) h)
   cases c2:S z !=S r.1 with
   | false=>
    rw[if_neg λh=>Xv h.1]
    rw[c2]at s1
    exact Zby (Zlt s1) ⟨_,rfl⟩
   | true=>
    rw[c2]at s1
    by_cases c3:F r.1 z+F z r.2=F r.1 r.2
    ·rw[if_pos ⟨rfl,c3⟩]
     exact Zdb (Zof s1 (s2 (decide_eq_true (by omega)))) (Zij (Zdl (Zd (Za rfl) (Zd (Za rfl) (Zd (Za rfl) Zh))) (show 3≤1000 by decide)))
    ·rw[if_neg λh=>c3 h.2]
     exact Zby (Zof s1 (s2 (decide_eq_false (by omega)))) ⟨_,rfl⟩
 ·obtain⟨z3,z4,z5,rfl⟩:=h
  exact Wm Yd
theorem Zpu(p:List Int):Sh 1 (Zk p):=lay_ints p
theorem Zdz(neg:Bool)(x:Int)(p:List Int):Zq4 neg (.int x) (Zk p)=some (.bool (if neg then !decide (x∈p)else decide (x∈p))):=by
 have e:memS (.int x) (p.map Xx)=decide (x∈p):=by
  unfold memS
  rw[List.any_map]
  rw[Bool.eq_iff_iff,List.any_eq_true,decide_eq_true_eq]
  constructor
  ·rintro⟨y,hy,h⟩
   have:(y==x)=true:=h
   rw[←eq_of_beq this];exact hy
  ·intro h
   exact⟨x,h,(show(x==x)=true from beq_self_eq_true x)⟩
 have s:(p.map Xx).all scD=true:=by
  rw[VH]
  intro d hd
  obtain⟨y,_,rfl⟩:=XX.mp hd
  rfl
 show(if(scD (.int x)&&(p.map Xx).all scD)=true then some (Ba (if neg then !memS (.int x) (p.map Xx)else memS (.int x) (p.map Xx)))else none)=_
 rw[s,e];rfl
theorem Zt9(a b:List Int):gEq (Zk a) (Zk b)=some (.bool (decide (a=b))):=by
 have s:∀p,Ud (Zk p)=true:=λp=>((Zpu p).shp (by omega)).ok
 unfold gEq
 rw[if_pos (by rw[s,s];rfl)]
 exact congrArg (λz=>some (Ba z)) (Zgo a b)
noncomputable def sdI(n:Nat)(c:Int->Bool):List Int:=((Xi n).filter λi:Nat=>c i).map λi:Nat=>(i:Int)
theorem Zym{n:Nat}(hn:n≤10){δ:Zf}{ns:List Int}(h0:δ[0]? =some (some (.fz (.int n))))(hb:blk 1 [1] δ=[none,some (.fz (Zk ns))]):EvV (Yc 1 [1] (iRa (Zc (Zb 0) Zm)) (gNm 0) (tV (Ze (Zq4 true) (Zb 0) (Zb 1))) (Zb 0)) δ (Zk (sdI n λx=>!decide (x∈ns))):=by
 have hi:EvI (iRa (Zc (Zb 0) Zm)) δ ((Xi n).map λi:Nat=>Xx (0+(i:Int))):=Zbh (Zd (Za h0) Zh) (by omega)
 have e0:(λi:Nat=>Xx (0+(i:Int)))= λi:Nat=>Xx (i:Int):=funext λi=>by rw[VR]
 rw[e0]at hi
 have:=Zi0 (δ:=δ) (t:=tV (Ze (Zq4 true) (Zb 0) (Zb 1))) (me:=Zb 0) (Xi n) (λi:Nat=>Xx (i:Int)) (λi:Nat=>!decide ((i:Int)∈ns)) hi (by rw[Xw];omega) hb (λi _=>Za9 (Zo Za Za (Zdz true _ _))) λi _ _=>rfl
 refine this.cast ?_
 unfold Zk sdI
 rw[Qz];rfl
theorem Ziv{n:Nat}{c:Int->Bool}{x:Int}:x∈sdI n c↔0≤x∧x<n∧c x=true:=by
 unfold sdI
 rw[XX]
 constructor
 ·rintro⟨i,hi,rfl⟩
  obtain⟨h1,h2⟩:=Q9.mp hi
  have:=XQ.mp h1
  exact⟨by omega,by omega,h2⟩
 ·rintro⟨h1,h2,h3⟩
  exact⟨x.toNat,Q9.mpr ⟨XQ.mpr (by omega),by rw[Int.toNat_of_nonneg h1];exact h3⟩,Int.toNat_of_nonneg h1⟩
theorem Zhk(n:Nat)(c:Int->Bool):(sdI n c).Pairwise (·<·):=by
 unfold sdI
 exact List.Pairwise.map _ (λa b h=>by omega) ((List.pairwise_lt_range (n:=n)).filter _)
theorem Zpp{n:Nat}{ns:List Int}(h:∀x∈ns,0≤x∧x<n):Zba (dnc ns)=sdI n λx=>decide (x∈ns):=by
 have nd:(sdI n λx=>decide (x∈ns)).Nodup:=(Zhk n _).imp λh e=>by omega
 have o:=Zju ns
 have pm:(dnc ns).Perm (sdI n λx=>decide (x∈ns)):=(U6 o.1 nd).mpr λx=>by
  rw[o.2,Ziv,decide_eq_true_eq]
  exact⟨λm=>⟨(h x m).1,(h x m).2,m⟩,λm=>m.2.2⟩
 exact Jk ((Jm _).trans pm) (W7 _) ((Zhk n _).imp λh=>Int.le_of_lt h)
noncomputable def inR(n:Nat)(x:Int):Bool:=decide (0≤x)&&decide (x<n)
theorem Zvh{n:Nat}{x:Int}{δ:Zf}(h0:δ[0]? =some (some (.fz (.int n))))(h2:δ[2]? =some (some (.fz (.int x)))):EvV (Zci (λi j=>decide (i≤j)) (λi j=>decide (i<j)) (fC (.int 0)) (Zb 2) (Zb 0)) δ (.bool (inR n x)):=by
 refine⟨.fz (.bool (inR n x)),?_,OT.data_fz _⟩
 have e2:Zb 2 δ=some (.fz (.int x),δ):=by rw[Zl4,h2];rfl
 have e0:Zb 0 δ=some (.fz (.int n),δ):=by rw[Zl4,h0];rfl
 unfold Zci
 show(Zb 2 δ).bind _=_
 rw[e2]
 show(match(Xx 0),(OT.fz (.int x)).data with| .int i,.int j=>if decide (i≤j)=true then(Zb 0 δ).bind λr=>match r.1.data with| .int k=>some (OT.fz (.bool (decide (j<k))),r.2)|_=>none else some (OT.fz (.bool false),δ)|_,_=>none)=_
 rw[OT.data_fz]
 dsimp only
 unfold inR
 by_cases c:0≤x
 ·rw[if_pos (decide_eq_true c),e0,decide_eq_true c];rfl
 ·rw[if_neg (by rw[decide_eq_false c];exact Xv),decide_eq_false c];rfl
theorem Ycp{n:Nat}{x:Int}{δ:Zf}(h0:δ[0]? =some (some (.fz (.int n))))(h2:δ[2]? =some (some (.fz (.int x)))):EvT (tO (tNo (tD (Zv Ym (Zc (Zb 2) Zm)))) (tNo (tV (Zci (λi j=>decide (i≤j)) (λi j=>decide (i<j)) (fC (.int 0)) (Zb 2) (Zb 0))))) δ (!inR n x) :=
 Z3b (Zgr (p:=true) (Zjn (Z0 (Zd (Za h2) Zh) (Told.of (Zkl x) (OT.data_fz _))))) (Zgr (Za9 (Zvh h0 h2)))
theorem Z6v{n:Nat}{ns:List Int}(h:∀x∈ns,inR n x=true):Yr [.int n,Zk ns]= .ok (.fz .none):=by
 have key:EpS Wl (Zbt 3 [.int n,Zk ns]) (λ_=>True) λ_ _=>False:=by
  refine Zyk (ds:=ns.map Xx) (λ_ δ=>∃z,δ=[some (.fz (.int n)),some (.fz (Zk ns)),z]) (Wi Za) ⟨none,rfl⟩ (λk d δ hd q=>?_) λ_ _=>trivial
  obtain⟨z,rfl⟩:=q
  obtain⟨x,hx,rfl⟩:=XX.mp (Q6 hd)
  exact⟨_,rfl,Z30 (Yg (by have:=Ycp (n:=n) (x:=x) (δ:=[some (.fz (.int n)),some (.fz (Zk ns)),some (.fz (.int x))]) rfl rfl;rwa[h x hx]at this) rfl) ⟨_,rfl⟩⟩
 unfold Yr
 rw[Zik (np:=2) (by rfl)]
 rcases key with⟨δ',e,_⟩|⟨o,δ',e,z⟩
 ·exact congrArg RS.told e
 ·exact z.elim
theorem Zop{δ:Zf}{i:Nat}{ns:List Int}(h:δ[i]? =some (some (.fz (Zk ns))))(l:ns.length<64):EvV (Zfe (Zc (Zb i) Zm)) δ (Zk (Zba (dnc ns))):=by
 obtain⟨ts,e1,e2⟩:=Zd (Za h) (Zh (δ:=δ))
 refine⟨.nd (((Zba (dnc ns)).map Xx).map OT.fz),?_,Z22 _⟩
 unfold Zfe
 rw[e1,Xh]
 show(match OT.datas ts with|[.list es]=>(Ze6 es).bind λns=>if ns.length<64 then some (OT.nd (((Zba (dnc ns)).map Xx).map OT.fz),δ)else none|_=>none)=_
 rw[e2]
 show(Ze6 (ns.map Xx)).bind _=_
 rw[Zdc,Xh,if_pos l]
noncomputable def ctO(n:Nat)(ns:List Int):List Int:=if 0∈ns then sdI n λx=>!decide (x∈ns)else sdI n λx=>decide (x∈ns)
theorem Ztm{n:Nat}(hn:n≤10){ns:List Int}(hl:ns.length<64)(h:∀x∈ns,0≤x∧x<n)(hne:ns≠[]){x:Nat}(hx:x<n)(hx':(x:Int)∉ns):Told Jl [.int n,Zk ns] (Zk (ctO n ns)):=by
 have l1:¬((ns.length:Int)=0):=λz=>hne (QL (by omega))
 have l2:¬(((sdI n λx=>!decide (x∈ns)).length:Int)=0):=λz=>by
  have e:=QL (l:=sdI n λx=>!decide (x∈ns)) (by omega)
  have m:(x:Int)∈sdI n λx=>!decide (x∈ns):=Ziv.mpr ⟨by omega,by omega,by rw[decide_eq_false hx'];rfl⟩
  rw[e]at m
  cases m
 have t:∀{b:Bool},decide ((0:Int)∈ns)=b->EvT (tV (Ze (Zq4 false) (fC (.int 0)) (Zb 1))) [some (.fz (.int n)),some (.fz (Zk ns)),some (.fz (Zk (sdI n λx=>!decide (x∈ns))))] b:=λhb=>hb▸Za9 (Zo Yd Za (Zdz false 0 ns))
 refine Z6 rfl<|Zw (Zq1 (Z0 (Zd Za (Zd Za Zh)) (Told.of (Z6v λx m=>by unfold inR;rw[decide_eq_true (h x m).1,decide_eq_true (h x m).2];rfl) (OT.data_fz _))))<|Zw (Z8 (Zym hn rfl rfl))<|Zw (Yg (Z3b (Za9 (Zoo (Zb7 Za) Yd (decide_eq_false l1))) (Za9 (Zoo (Zb7 Za) Yd (decide_eq_false l2)))) rfl) ?_
 unfold ctO
 by_cases z:(0:Int)∈ns
 ·rw[if_pos z]
  exact Zb8 (Zfy (t (decide_eq_true z)) (Wm Za))
 ·rw[if_neg z,←Zpp h]
  exact Zw (Yg (t (decide_eq_false z)) rfl) (Wm (Zop rfl hl))
theorem Z9y{α:Type}{g:FG}{t:FT}{me:FE}{cs:Zf}(x1 x2:α->Xa)(p:α->Bool)(f:α->OT):∀(xs:List α) (z0 z1:Option OT),(∀x∈xs,∀z0 z1,g (.tuple [x1 x,x2 x]) (z0 :: z1 :: cs)=some (some (.fz (x1 x)) :: some (.fz (x2 x)) :: cs))->(∀x∈xs,t (some (.fz (x1 x)) :: some (.fz (x2 x)) :: cs)=some (p x,some (.fz (x1 x)) :: some (.fz (x2 x)) :: cs))->(∀x∈xs,p x=true->me (some (.fz (x1 x)) :: some (.fz (x2 x)) :: cs)=some (f x,some (.fz (x1 x)) :: some (.fz (x2 x)) :: cs)) ->
  ∃z0' z1',compLoop g t me (xs.map λx=>.tuple [x1 x,x2 x]) (z0 :: z1 :: cs)=some ((xs.filter p).map f,z0' :: z1' :: cs):=by
 intro xs
 induction xs with
 | nil=>exact λz0 z1 _ _ _=>⟨z0,z1,rfl⟩
 | cons x xs ih=>
  intro z0 z1 hg ht hm
  obtain⟨y0,y1,e⟩:=ih (some (.fz (x1 x))) (some (.fz (x2 x))) (λy hy=>hg y (.tail _ hy)) (λy hy=>ht y (.tail _ hy)) λy hy=>hm y (.tail _ hy)
  refine⟨y0,y1,?_⟩
  rw[X3,compLoop,hg x (.head _),Xh,ht x (.head _),Xh]
  dsimp only
  cases hp:p x with
  | true=>rw[if_pos rfl,hm x (.head _) hp,Xh,List.filter_cons_of_pos hp,X3];dsimp only;rw[e];rfl
  | false=>rw[if_neg Xv,List.filter_cons_of_neg (by rw[hp];exact Xv)];exact e
theorem Z35{α:Type}{caps:List Nat}{it:FI}{g:FG}{t:FT}{me:FE}{cs δ:Zf}(xs:List α)(x1 x2:α->Xa)(p:α->Bool)(f:α->OT)(hi:EvI it δ (xs.map λx=>.tuple [x1 x,x2 x]))(hz:xs.length≤1000000)(hb:blk 2 caps δ=none :: none :: cs)
  (hg:∀x∈xs,∀z0 z1,g (.tuple [x1 x,x2 x]) (z0 :: z1 :: cs)=some (some (.fz (x1 x)) :: some (.fz (x2 x)) :: cs)) (ht:∀x∈xs,t (some (.fz (x1 x)) :: some (.fz (x2 x)) :: cs)=some (p x,some (.fz (x1 x)) :: some (.fz (x2 x)) :: cs)) (hm:∀x∈xs,p x=true->me (some (.fz (x1 x)) :: some (.fz (x2 x)) :: cs)=some (f x,some (.fz (x1 x)) :: some (.fz (x2 x)) :: cs)) :
  Yc 2 caps it g t me δ=some (.nd ((xs.filter p).map f),δ):=by
 obtain⟨z0,z1,e⟩:=Z9y x1 x2 p f xs none none hg ht hm
 unfold EvI at hi
 unfold Yc
 rw[hi,Xh]
 dsimp only
 rw[if_pos (by rw[XN,Xd];omega),hb,e];rfl
noncomputable def Ygr(a b:Nat)(d:Xa):Xa:=match d with| .tuple ds=>.tuple (dI a :: dI b :: ds)|_=>.none
noncomputable def nwX(n:Nat)(F:Nat->Nat->Nat)(r:Nat×Nat):Option Xa:=((J0 n).findSome? λp=>leaveX n F (sdF F r.1 r.2) p.1 p.2).map (Ygr r.1 r.2)
theorem Zmp{n:Nat}{F:Nat->Nat->Nat}{S:Nat->Bool}{l:List (Nat×Nat)}{v:Xa}(h:(l.findSome? λp=>leaveX n F S p.1 p.2)=some v):∃x y z,v=t3 x y z:=by
 obtain⟨p,_,h⟩:=JZ h
 unfold leaveX at h
 split at h
 ·obtain⟨z,_,h⟩:=JZ h
  split at h
  ·exact⟨_,_,_,(Qu h).symm⟩
  ·cases h
 ·cases h
theorem Z1y(a b x y z:Nat):Ztf (.tuple [dI a,dI b]) (t3 x y z)=some (.fz (.tuple [dI a,dI b,dI x,dI y,dI z])):=by
 show(if 2+3≤Xq then some (OT.fz (.tuple [dI a,dI b,dI x,dI y,dI z]))else none)=_
 rw[if_pos (by rw[XN];decide)]
theorem Zdt{n:Nat}{rs:List (Nat×Nat)}(R:Roads n rs)(F:Nat->Nat->Nat):Told Yb [Zbn n F,.list (rs.map ptD)] ((rs.findSome? (nwX n F)).getD .none):=by
 have n10:=R.n10
 refine Z6 rfl (Zgl (α:=Nat) (I:=λδ=>∃z2 z3 z4,δ=[some (.fz (Zbn n F)),some (.fz (.list (rs.map ptD))),z2,z3,z4]) (Zf5 (J:=λδ=>∃z2 z3 z4,δ=[some (.fz (Zbn n F)),some (.fz (.list (rs.map ptD))),z2,z3,z4]) ptD (nwX n F) rs (Wi (Za rfl)) ⟨_,_,_,rfl⟩ (λ_ h=>h) λr hr δ h=>?_) λδ h=>?_)
 ·obtain⟨z2,z3,z4,rfl⟩:=h
  obtain⟨l1,l2⟩:=R.ok r hr
  refine⟨_,rfl,Zur (δ1:=[some (.fz (Zbn n F)),some (.fz (.list (rs.map ptD))),some (.fz (dI r.1)),some (.fz (dI r.2)),some (.fz (((J0 n).findSome? λp=>leaveX n F (sdF F r.1 r.2) p.1 p.2).getD .none))]) ((Z8 (Z0 (Zd (Za rfl) (Zd (Z0 (Zd (Za rfl) (Zd (Za rfl) (Zd (Za rfl) Zh))) (Zey n10 F (by omega) l2)) Zh)) (Ze4 n10 F _))).trans rfl) ?_⟩
  unfold nwX
  cases q:(J0 n).findSome? λp=>leaveX n F (sdF F r.1 r.2) p.1 p.2 with
  | none=>exact Zby (Za9 (Zo (Za rfl) Yd rfl)) ⟨_,_,_,rfl⟩
  | some v=>
   obtain⟨x,y,z,rfl⟩:=Zmp q
   exact Zdb (Za9 (Zo (Za rfl) Yd rfl)) (Zij (Zdp (Zdl (Zd (Za rfl) (Zd (Za rfl) Zh)) (show 2≤1000 by decide)) (Za rfl) (Z1y r.1 r.2 x y z) (OT.data_fz _)))
 ·obtain⟨z2,z3,z4,rfl⟩:=h
  exact Wm Yd
theorem Z27{F:FD}{as:FA}{δ:Zf}{ds:List Xa}{d:Xa}{i:Nat}(h:EvA as δ ds)(hF:Told F ds d):wE (Zv F as) (Wz i) δ= .nx (δ.set i (some (.fz d))):=Z8 (Z0 h hF)
theorem Zsy(p:List Int):(Zk p).canLay0=true:=(lay_ints p).1
theorem Zpy(a:List Int)(l:List (List Int)):Z0n (Zk a) (l.map Zk)=decide (a∈l):=by
 unfold Z0n
 rw[List.any_map,Bool.eq_iff_iff,List.any_eq_true,decide_eq_true_eq]
 constructor
 ·rintro⟨y,hy,h⟩
  have h:Q5 (Zk y) (Zk a)=true:=h
  rw[show Q5 (Zk y) (Zk a)=decide (y=a)from Zgo y a]at h
  exact of_decide_eq_true h▸hy
 ·intro h
  exact⟨a,h,(Zgo a a).trans (decide_eq_true rfl)⟩
theorem Ztv(a:List Int)(l:List (List Int)):Zku true (Zk a) (.list (l.map Zk))=some (.bool (!decide (a∈l))):=by
 have d32:(Zk a).depth≤32:=Ql (lay_ints a).2 (by decide)
 have c2:(JN (l.map Zk)).canLay0=true:=(Zen (n:=1) λd m=>by
  obtain⟨x,_,rfl⟩:=XX.mp m
  exact lay_ints x).1
 show(if _ then some (Ba (!Z0n (Zk a) (l.map Zk)))else none)=_
 rw[if_pos (by rw[Zsy,c2,decide_eq_true d32];rfl),Zpy]
theorem Zn2(n:Nat)(g:Nat->Xa):Zip ((Xi n).map g)=(Xi n).map λx=>.tuple [dI x,g x]:=by
 refine Vx λi=>?_
 unfold Zip
 rw[Xl,List.getElem?_zipIdx,Xl,Xl]
 by_cases c:i<n
 ·rw[QM c]
  show some (PyData.tuple [.int ((0+i:Nat):Int),g i])=_
  rw[Uk];rfl
 ·rw[QK (by rw[Xw];omega)];rfl
noncomputable def Zqv(n:Nat)(F:Nat->Nat->Nat)(r:Nat×Nat):List Int:=((Xi n).filter (sdF F r.1 r.2)).map λx:Nat=>(x:Int)
noncomputable def Zhc(n:Nat)(F:Nat->Nat->Nat)(r:Nat×Nat):List Int:=ctO n (Zqv n F r)
noncomputable def Zlg(cs:List (List Int))(c:List Int):List (List Int):=if c∈cs then cs else cs ++ [c]
noncomputable def Zab(n:Nat)(F:Nat->Nat->Nat)(rs:List (Nat×Nat)):List (List Int):=rs.foldl (λcs r=>Zlg cs (Zhc n F r)) []
theorem Z8m{n:Nat}(n10:n≤10)(F:Nat->Nat->Nat){r:Nat×Nat}(h1:r.1<n)(h2:r.2<n){δ:Zf}(d0:δ[0]? =some (some (.fz (Zbn n F))))(d3:δ[3]? =some (some (.fz (dI r.1))))(d4:δ[4]? =some (some (.fz (dI r.2))))(hb:blk 2 [] δ=[none,none]):EvV (Yc 2 [] (Zs6 (Zc (Zv Yt (Zc (Zb 0) (Zc (Zb 3) (Zc (Zb 4) Zm)))) Zm)) (gTp 2 (gCn (gNm 0) (gCn (gNm 1) gNl))) (tD (Zb 1)) (Zb 0)) δ (Zk (Zqv n F r)):=by
 refine⟨_,Z35 (cs:=[]) (Xi n) dI (λx=>.bool (sdF F r.1 r.2 x)) (sdF F r.1 r.2) (λx=>.fz (dI x)) (by rw[←Zn2];exact Zyf (Z0 (Zd (Za d0) (Zd (Za d3) (Zd (Za d4) Zh))) (Zey n10 F h1 h2))) (by rw[Xw];omega) hb (λx _ z0 z1=>rfl) (λx _=>Zjn (Za rfl)) (λx _ _=>rfl),?_⟩
 rw[OT.data_nd,Qz]
 unfold Zqv Zk
 rw[Qz]
 exact congrArg _ (Qh λx _=>OT.data_fz _)
theorem Z0j{n:Nat}(n10:n≤10){F:Nat->Nat->Nat}{r:Nat×Nat}(h1:r.1<n)(h2:r.2<n)(p1:0<F r.1 r.2)(z1:F r.1 r.1=0)(z2:F r.2 r.2=0):Told Jl [dI n,Zk (Zqv n F r)] (Zk (Zhc n F r)):=by
 have mem:∀x:Int,x∈Zqv n F r↔∃i:Nat,i<n∧sdF F r.1 r.2 i=true∧(i:Int)=x:=λx=>by
  unfold Zqv
  rw[XX]
  exact⟨λ⟨i,hi,e⟩=>⟨i,XQ.mp (Q9.mp hi).1,(Q9.mp hi).2,e⟩,λ⟨i,a,b,e⟩=>⟨i,Q9.mpr ⟨XQ.mpr a,b⟩,e⟩⟩
 refine Ztm n10 (ns:=Zqv n F r) ?_ (λx hx=>?_) (λe=>?_) (x:=r.1) h1 λhx=>?_
 ·unfold Zqv
  rw[Xd]
  have:=Uq (sdF F r.1 r.2) (Xi n)
  rw[Xw]at this
  omega
 ·obtain⟨i,a,_,rfl⟩:=(mem x).mp hx
  omega
 ·have:(r.2:Int)∈Zqv n F r:=(mem _).mpr ⟨r.2,h2,decide_eq_true (by omega),rfl⟩
  rw[e]at this
  cases this
 ·obtain⟨i,a,b,e⟩:=(mem _).mp hx
  have e:i=r.1:=Int.ofNat.inj e
  subst e
  have:=of_decide_eq_true b
  omega
theorem Zvm(cs:List (List Int))(c:List Int):(Zlg cs c).length≤cs.length+1:=by
 unfold Zlg
 split
 ·exact Nat.le_succ _
 ·rw[XF];exact Xz _
noncomputable def csO(cs:List (List Int)):OT:=.nd ((cs.map Zk).map OT.fz)
theorem Zfc(cs:List (List Int)):(csO cs).data= .list (cs.map Zk):=by unfold csO;rw[OT.data_nd,OT.map_fz]
noncomputable def Zvf(cs:List (List Int)):List Xa:=sLay Xa.none (lk kdL ltI (cs.map Zk)) (cs.map Zk)
theorem Zxk{δ:Zf}{i:Nat}{cs:List (List Int)}(h:δ[i]? =some (some (.fz (.list (cs.map Zk)))))(hl:cs.length<64):EvV (fBl (Zjy kdL ltI) (Zc (Zb i) Zm)) δ (.list (Zvf cs)):=by
 refine Z5u (Zd (Za h) Zh) (o:=.nd ((Zvf cs).map OT.fz)) ?_ (by rw[OT.data_nd,OT.map_fz])
 show(if(decide ((cs.map Zk).length<64)&&(cs.map Zk).all λd=>(kdL d).isSome)=true then some (OT.nd ((Zvf cs).map OT.fz))else none)=_
 rw[if_pos]
 rw[XJ,decide_eq_true_eq,Xd,VH]
 refine⟨hl,λd m=>?_⟩
 obtain⟨p,_,rfl⟩:=XX.mp m
 show(Ze6 (p.map Xx)).isSome=true
 rw[Zdc];rfl
theorem Zh0(n:Nat)(F:Nat->Nat->Nat)(rs:List (Nat×Nat))(i:Nat){r:Nat×Nat}(h:rs[i]? =some r):Zab n F (rs.take (i+1))=Zlg (Zab n F (rs.take i)) (Zhc n F r):=by
 unfold Zab
 rw[List.take_succ,h,List.foldl_append];rfl
theorem Zfj(n:Nat)(F:Nat->Nat->Nat)(rs:List (Nat×Nat)):(Zab n F rs).length≤rs.length:=by
 have key:∀(rs:List (Nat×Nat)) (cs:List (List Int)),(rs.foldl (λcs r=>Zlg cs (Zhc n F r)) cs).length≤cs.length+rs.length:=by
  intro rs
  induction rs with
  | nil=>exact λcs=>Xz _
  | cons r rs ih=>
   intro cs
   have:=ih (Zlg cs (Zhc n F r))
   have:=Zvm cs (Zhc n F r)
   rw[List.foldl_cons,QS]
   omega
 have:=key rs []
 rw[Bw,Uk]at this
 exact this
theorem Zoy{n:Nat}{rs:List (Nat×Nat)}(R:Roads n rs)(hl:rs.length<64){F:Nat->Nat->Nat}(D:∀s<n,Dst n rs s (F s)):Told Yq [Zbn n F,.list (rs.map ptD)] (.list (Zvf (Zab n F rs))):=by
 have n10:=R.n10
 refine Z6 rfl<|Zw Zb3<|Zdy (ds:=rs.map ptD) (λi δ=>∃z3 z4 z5,δ=[some (.fz (Zbn n F)),some (.fz (.list (rs.map ptD))),some (csO (Zab n F (rs.take i))),z3,z4,z5]) (Wi (Za rfl)) ⟨_,_,_,rfl⟩ (λi d δ hd h=>?_) λδ' h=>?_
 ·obtain⟨z3,z4,z5,rfl⟩:=h
  rw[Xl]at hd
  obtain⟨r,hr,rfl⟩:=X7.mp hd
  obtain⟨l1,l2⟩:=R.ok r (Q6 hr)
  have r1:r.1<n:=by omega
  have p1:0<F r.1 r.2:=by
   obtain⟨m,_,_,e⟩:=(D r.1 r1).up r.2 l2 (by omega)
   omega
  have ll:=Zfj n F (rs.take i)
  rw[Vo]at ll
  have st:∀{z3 z4:Option OT} {b:Bool},(!decide (Zhc n F r∈Zab n F (rs.take i)))=b->EvT (tV (Ze (Zku true) (Zb 5) (Zco 2))) [some (.fz (Zbn n F)),some (.fz (.list (rs.map ptD))),some (csO (Zab n F (rs.take i))),z3,z4,some (.fz (Zk (Zhc n F r)))] b:=λh=>h▸Za9 (Zo (Za rfl) (Zex rfl (Zfc _)) (Ztv _ _))
  have s1:=Z27 (i:=5) (δ:=[some (.fz (Zbn n F)),some (.fz (.list (rs.map ptD))),some (csO (Zab n F (rs.take i))),some (.fz (dI r.1)),some (.fz (dI r.2)),z5]) (Zd (Zjj (j:=0) (n:=n) (F:=F) rfl) (Zd (Z8m n10 F r1 l2 rfl rfl rfl rfl) Zh)) (Z0j n10 r1 l2 p1 (D r.1 r1).z (D r.2 l2).z)
  by_cases c:Zhc n F r∈Zab n F (rs.take i)
  ·refine⟨_,_,rfl,.inl (Z5 s1 (Yg (st (by rw[decide_eq_true c];rfl)) rfl)),some (.fz (dI r.1)),some (.fz (dI r.2)),some (.fz (Zk (Zhc n F r))),?_⟩
   rw[Zh0 n F rs i hr,Zlg,if_pos c];rfl
  ·refine⟨_,_,rfl,.inl (Z5 s1 (Zcr (st (by rw[decide_eq_false c];rfl)) (Zez (ts:=((Zab n F (rs.take i)).map Zk).map OT.fz) (Za rfl) rfl (by rw[Xd,Xd];omega)))),some (.fz (dI r.1)),some (.fz (dI r.2)),some (.fz (Zk (Zhc n F r))),?_⟩
   rw[Zh0 n F rs i hr,Zlg,if_neg c]
   unfold csO
   rw[Qg,Qg];rfl
 ·obtain⟨z3,z4,z5,rfl⟩:=h
  rw[Xd,Ug (Xz _)]
  have ll:=Zfj n F rs
  obtain⟨o,h1,h2⟩:=Zm4 (Zxk (δ:=[some (.fz (Zbn n F)),some (.fz (.list (rs.map ptD))),some (.fz (.list ((Zab n F rs).map Zk))),z3,z4,z5]) (i:=2) rfl (by omega))
  exact⟨o,_,Zf6 (o:=csO (Zab n F rs)) rfl (by rw[Zfc];exact h1),h2⟩
theorem Zps{α:Type}(d d':α)(lt:Nat->Nat->Bool)(vs:List α):sLay d lt vs=sLay d' lt vs:=by
 unfold sLay
 split
 ·rfl
 ·refine Qh λi hi=>?_
  have:=XQ.mp ((Zdg (by omega)).mem_iff.mp hi)
  rw[Xr,Xr,Xk this];rfl
theorem Zxl{g:Str->List Xa->Option Xa}{o:FE}{as:FA}{δ:Zf}{z:Str}{ds:List Xa}{d:Xa}(ho:EvV o δ (.str z))(ha:EvA as δ ds)(h:g z ds=some d):Z31 g o as δ=some (.fz d,δ):=by
 obtain⟨t,e1,d1⟩:=ho
 obtain⟨ts,e2,d2⟩:=ha
 unfold Z31
 rw[e1,Xh]
 dsimp only
 rw[d1]
 dsimp only
 rw[e2,Xh,d2,h];rfl
theorem Z23{t:FT}{a b:FE}{δ:Zf}{d:Xa}(h:EvT t δ true)(k:EvV a δ d):EvV (fIf t a b) δ d:=by
 obtain⟨o,e,d1⟩:=k
 exact⟨o,by rw[Zxc,h,Xh];exact e,d1⟩
theorem Zze{t:FT}{a b:FE}{δ:Zf}{d:Xa}(h:EvT t δ false)(k:EvV b δ d):EvV (fIf t a b) δ d:=by
 obtain⟨o,e,d1⟩:=k
 exact⟨o,by rw[Zxc,h,Xh];exact e,d1⟩
noncomputable def sgB(b:Bool):Str:=if b then"1"else"0"
theorem Z04(bs:List Bool):Zk3 (bs.map λb=>Bh (sgB b))=some (bs.map sgB):=by
 induction bs with
 | nil=>rfl
 | cons b bs ih=>rw[X3,Zk3,ih];rfl
noncomputable def CSl(cs:List (List Int)):List (List Int):=sLay [] (lk kdL ltI (cs.map Zk)) cs
theorem Zq7(cs:List (List Int)):Zvf cs=(CSl cs).map Zk:=by
 unfold Zvf CSl
 rw[Zps Xa.none (Zk []),Zvr]
theorem Zff(cs:List (List Int)):(CSl cs).Perm cs:=Zkw _ _ _
noncomputable def Zod(CS:List (List Int))(p:Nat):Xa:=.str (UT "" (CS.map λc=>sgB (decide ((p:Int)∈c))))
theorem Zpw{CS:List (List Int)}{p:Nat}(hl:CS.length≤1000):Zts "" [.list (CS.map λc=>Bh (sgB (decide ((p:Int)∈c))))]=some (Zod CS p):=by
 have e:=Z04 (CS.map λc=>decide ((p:Int)∈c))
 rw[Qz,Qz]at e
 show(Zk3 (CS.map λc=>Bh (sgB (decide ((p:Int)∈c))))).bind _=_
 rw[show Zk3 (CS.map λc=>Bh (sgB (decide ((p:Int)∈c))))=some (CS.map λc=>sgB (decide ((p:Int)∈c)))from e,Xh,if_pos]
 ·rfl
 ·have one:∀b,(sgB b).length=1:=λb=>by cases b<;>rfl
  refine PyProof.Rows.joinOk_of_weight ?_ (by decide)
  rw[Qz,Xd]
  have:(CS.map (Str.length∘ λc=>sgB (decide ((p:Int)∈c)))).sum=CS.length:=by
   clear hl e
   induction CS with
   | nil=>rfl
   | cons c CS ih=>
    rw[X3,List.sum_cons,ih,QS]
    show(sgB _).length+_=_
    rw[one];omega
  rw[this]
  omega
theorem Zov{CS:List (List Int)}(hl:CS.length≤1000)(p:Nat):Told Wj [dI p,.list (CS.map Zk)] (Zod CS p):=by
 refine Z6 rfl (Wm ⟨_,Zxl Yd (Zd (Zaz (cs:=[some (.fz (dI p))]) CS Zk (λc=>Bh (sgB (decide ((p:Int)∈c)))) (Wi (Za rfl)) (by omega) rfl λc _=>?_) Zh) (Zpw hl),OT.data_fz _⟩)
 have t:EvT (tV (Ze (Zq4 false) (Zb 1) (Zb 0))) [some (.fz (Zk c)),some (.fz (dI p))] (decide ((p:Int)∈c)):=Za9 (Zo (Za rfl) (Za rfl) (Zdz false (p:Int) c))
 cases q:decide ((p:Int)∈c)with
 | true=>
  rw[q]at t
  exact Z23 t Yd
 | false=>
  rw[q]at t
  exact Zze t Yd
theorem Z0c{n:Nat}{F:Nat->Nat->Nat}{rs:List (Nat×Nat)}{v:Xa}(h:rs.findSome? (Zjs n F)=some v):∃x y z,v=t3 x y z:=by
 obtain⟨r,_,h⟩:=JZ h
 obtain⟨x,_,h⟩:=JZ h
 split at h
 ·exact⟨_,_,_,(Qu h).symm⟩
 ·cases h
theorem Yaz{n:Nat}{F:Nat->Nat->Nat}{rs:List (Nat×Nat)}{v:Xa}(h:rs.findSome? (nwX n F)=some v):∃a b x y z,v= .tuple [dI a,dI b,dI x,dI y,dI z]:=by
 obtain⟨r,_,h⟩:=JZ h
 unfold nwX at h
 obtain⟨w,hw,rfl⟩:=X7.mp h
 obtain⟨x,y,z,rfl⟩:=Zmp hw
 exact⟨_,_,_,_,_,rfl⟩
noncomputable def Z66(n:Nat)(F:Nat->Nat->Nat)(rs:List (Nat×Nat)):Xa:=match rs.findSome? (Zjs n F)with
 | some v=>.tuple [.str "even",v]
 | none=>match rs.findSome? (nwX n F)with
  | some v=>.tuple [.str "not whole",v]
  | none=>.tuple [.str "halves",.list ((Xi n).map (Zod (CSl (Zab n F rs))))]
theorem Zmk{α:Type}{caps:List Nat}{it:FI}{me:FE}{cs:Zf}{δ:Zf}(xs:List α)(mk f:α->Xa)(hi:EvI it δ (xs.map mk))(hz:xs.length≤1000000)(hb:blk 1 caps δ=none :: cs)(h:∀x∈xs,EvV me (some (.fz (mk x)) :: cs) (f x)):∃rs,Yc 1 caps it (gNm 0) Zc2 me δ=some (.nd rs,δ)∧(OT.nd rs).data= .list (xs.map f):=by
 have g:∀x,∃o:OT,x∈xs->me (some (.fz (mk x)) :: cs)=some (o,some (.fz (mk x)) :: cs)∧o.data=f x:=λx=>by
  by_cases c:x∈xs
  ·obtain⟨o,h1,h2⟩:=h x c
   exact⟨o,λ_=>⟨h1,h2⟩⟩
  ·exact⟨.fz .none,λz=>absurd z c⟩
 obtain⟨o,ho⟩:=V1 g
 unfold EvI at hi
 refine⟨_,Zir (cs:=cs) xs mk o hi (by rw[XN];omega) hb (λx hx=>(ho x hx).1),?_⟩
 rw[OT.data_nd,Qz]
 exact congrArg _ (Qh λx hx=>(ho x hx).2)
theorem Zjg{np n:Nat}{S:FS}{xs:List Xa}{o:OT}{δ':Zf}(hl:xs.length=np)(k:S (Zbt n xs)= .rt o δ'):Ji np n S xs= .ok o:=by rw[Zik hl,k,Zty]
theorem Zpr{n:Nat}{rs:List (Nat×Nat)}(R:Roads n rs)(hc:Z7l n rs)(hl:rs.length<64):∃F:Nat->Nat->Nat,(∀s<n,Dst n rs s (F s))∧∃o:OT,Wq [dI n,.list (rs.map ptD)]= .ok o∧o.data=Z66 n F rs∧(rs.findSome? (Zjs n F)=none->rs.findSome? (nwX n F)=none->∃us,o= .tp [.fz (.str "halves"),.nd us]∧us.length=n):=by
 have n10:=R.n10
 obtain⟨F,D,T⟩:=Zfz R hc
 refine⟨F,D,?_⟩
 have T:Told Z9 [dI n,.list (rs.map ptD)] (Zbn n F):=T
 have s1:=Z27 (F:=Z9) (i:=2) (δ:=Zbt 6 [dI n,.list (rs.map ptD)]) (as:=Zc (Zb 0) (Zc (Zb 1) Zm)) (Zd (Za rfl) (Zd (Za rfl) Zh)) T
 have s2:wE (Zv Wb (Zc (Zb 2) (Zc (Zb 1) Zm))) (Wz 3) [some (.fz (dI n)),some (.fz (.list (rs.map ptD))),some (.fz (Zbn n F)),none,none,none]= .nx [some (.fz (dI n)),some (.fz (.list (rs.map ptD))),some (.fz (Zbn n F)),some (.fz ((rs.findSome? (Zjs n F)).getD .none)),none,none]:=(Z8 (Z0 (Zd (Za rfl) (Zd (Za rfl) Zh)) (Zig R F))).trans rfl
 cases q1:rs.findSome? (Zjs n F)with
 | some v=>
  rw[q1]at s2
  obtain⟨x,y,z,rfl⟩:=Z0c q1
  have k:Zkm Yx (Zbt 6 [dI n,.list (rs.map ptD)]) (.tuple [.str "even",t3 x y z]):=Zw s1<|Zw s2<|Zb8 (Zfy (Za9 (Zo (Za rfl) Yd rfl)) (Wm (Zdl (Zd Yd (Zd (Za rfl) Zh)) (show 2≤1000 by decide))))
  obtain⟨o,δ',e,d⟩:=k
  refine⟨o,Zjg rfl e,?_,λz=>nomatch z⟩
  unfold Z66
  rw[q1];exact d
 | none=>
  rw[q1]at s2
  have s3:wE (Zv Yb (Zc (Zb 2) (Zc (Zb 1) Zm))) (Wz 4) [some (.fz (dI n)),some (.fz (.list (rs.map ptD))),some (.fz (Zbn n F)),some (.fz .none),none,none]= .nx [some (.fz (dI n)),some (.fz (.list (rs.map ptD))),some (.fz (Zbn n F)),some (.fz .none),some (.fz ((rs.findSome? (nwX n F)).getD .none)),none]:=(Z8 (Z0 (Zd (Za rfl) (Zd (Za rfl) Zh)) (Zdt R F))).trans rfl
  cases q2:rs.findSome? (nwX n F)with
  | some v=>
   rw[q2]at s3
   obtain⟨a,b,x,y,z,rfl⟩:=Yaz q2
   have k:Zkm Yx (Zbt 6 [dI n,.list (rs.map ptD)]) (.tuple [.str "not whole",.tuple [dI a,dI b,dI x,dI y,dI z]]):=Zw s1<|Zw s2<|Zw (Yg (Za9 (Zo (Za rfl) Yd rfl)) rfl)<|Zw s3<|Zb8 (Zfy (Za9 (Zo (Za rfl) Yd rfl)) (Wm (Zdl (Zd Yd (Zd (Za rfl) Zh)) (show 2≤1000 by decide))))
   obtain⟨o,δ',e,d⟩:=k
   refine⟨o,Zjg rfl e,?_,λ_ z=>nomatch z⟩
   unfold Z66
   rw[q1,q2];exact d
  | none=>
   rw[q2]at s3
   have ll:=Zfj n F rs
   have cl:(CSl (Zab n F rs)).length≤1000:=by rw[(Zff _).length_eq];omega
   have s4:=Z27 (F:=Yq) (i:=5) (δ:=[some (.fz (dI n)),some (.fz (.list (rs.map ptD))),some (.fz (Zbn n F)),some (.fz .none),some (.fz .none),none]) (as:=Zc (Zb 2) (Zc (Zb 1) Zm)) (Zd (Za rfl) (Zd (Za rfl) Zh)) (Zoy R hl D)
   rw[Zq7]at s4
   obtain⟨us,e1,e2⟩:=Zmk (caps:=[5]) (it:=iRa (Zc (Zb 0) Zm)) (me:=Zv Wj (Zc (Zb 0) (Zc (Zb 1) Zm))) (cs:=[some (.fz (.list ((CSl (Zab n F rs)).map Zk)))]) (δ:=[some (.fz (dI n)),some (.fz (.list (rs.map ptD))),some (.fz (Zbn n F)),some (.fz .none),some (.fz .none),some (.fz (.list ((CSl (Zab n F rs)).map Zk)))]) (Xi n) dI (Zod (CSl (Zab n F rs))) (by rw[←Zuu];exact Zbh (Zd (Za rfl) Zh) (by omega)) (by rw[Xw];omega) rfl λp _=>Z0 (Zd (Za rfl) (Zd (Za rfl) Zh)) (Zov cl p)
   have ul:us.length=n:=by
    rw[OT.data_nd]at e2
    have:=congrArg List.length (Uj e2)
    rwa[Xd,Xd,Xw]at this
   refine⟨.tp [.fz (.str "halves"),.nd us],Zjg (δ':=[some (.fz (dI n)),some (.fz (.list (rs.map ptD))),some (.fz (Zbn n F)),some (.fz .none),some (.fz .none),some (.fz (.list ((CSl (Zab n F rs)).map Zk)))]) rfl (Z5 s1<|Z5 s2<|Z5 (Yg (Za9 (Zo (Za rfl) Yd rfl)) rfl)<|Z5 s3<|Z5 (Yg (Za9 (Zo (Za rfl) Yd rfl)) rfl)<|Z5 s4 ?_),?_,λ_ _=>⟨us,rfl,ul⟩⟩
   ·show wE (Zvv (Zc (fC (.str "halves")) (Zc (Yc 1 [5] (iRa (Zc (Zb 0) Zm)) (gNm 0) Zc2 (Zv Wj (Zc (Zb 0) (Zc (Zb 1) Zm)))) Zm))) W8 [some (.fz (dI n)),some (.fz (.list (rs.map ptD))),some (.fz (Zbn n F)),some (.fz .none),some (.fz .none),some (.fz (.list ((CSl (Zab n F rs)).map Zk)))]=_
    rw[Zcb,Zub,Zix,Ycc,Xh]
    dsimp only
    rw[Zix,e1]
    show onO (if 2≤Xq then some (OT.tp [OT.fz (.str "halves"),OT.nd us],_)else none) W8=_
    rw[if_pos (by rw[XN];decide),Yi];rfl
   ·unfold Z66
    rw[q1,q2,OT.data_tp]
    show PyData.tuple [(OT.fz (.str "halves")).data,(OT.nd us).data]=_
    rw[OT.data_fz,e2]
theorem Zj8{ds:List Xa}(h:∀d∈ds,Z2 d=true):Ww ds=true:=by
 induction ds with
 | nil=>rfl
 | cons d ds ih=>rw[Ww,h d (.head _),ih λe he=>h e (.tail _ he)];rfl
theorem Zjk{d:Xa}{n:Nat}(h:Sh n d)(hn:n≤64)(hp:Z2 d=true):gEq d d=some (.bool true)∧gNe d d=some (.bool false):=by
 have s:=(h.shp hn).ok
 unfold gEq gNe
 rw[if_pos (by rw[s];rfl),if_pos (by rw[s];rfl),Zwh hp]
 exact⟨rfl,rfl⟩
theorem Zy7(rs:List (Nat×Nat)):gNe (.list (rs.map ptD)) (.list (rs.map ptD))=some (.bool false):=by
 refine(Zjk (Zen (n:=1) λd hd=>?_) (by decide) ?_).2
 ·obtain⟨r,_,rfl⟩:=XX.mp hd
  exact Zj3 [(r.1:Int),(r.2:Int)]
 ·rw[Z2]
  refine Zj8 λd hd=>?_
  obtain⟨r,_,rfl⟩:=XX.mp hd
  unfold ptD
  rw[Z2,Ww,Ww,Ww,Z2,Z2];rfl
theorem Zxx(a b:Str):JB (a ++ b)=(JB a&&JB b):=by
 show(a.cps ++ b.cps).all _=_
 rw[Array.all_append];rfl
theorem Ygw:JB ""=true:=by decide +kernel
theorem Yb8(b:Bool):JB (sgB b)=true:=by cases b<;>decide +kernel
theorem Znc{w:Str}(h:JB w=true):Sh 0 (.str w):=⟨by rw[JT];exact h,Nat.le_of_eq rfl⟩
theorem Zbp(w:Str):Z2 (.str w)=true:=by rw[Z2]
theorem Zi4{w:Str}(h:JB w=true):gNe (.str w) (.str w)=some (.bool false)∧gEq (.str w) (.str w)=some (.bool true):=by
 have:=Zjk (Znc h) (by decide) (Zbp w)
 exact⟨this.2,this.1⟩
theorem Zqu{a b:Str}(ha:JB a=true)(hb:JB b=true)(h:a≠b):gNe (.str a) (.str b)=some (.bool true)∧gEq (.str a) (.str b)=some (.bool false):=by
 have s1:=((Znc ha).shp (by decide)).ok
 have s2:=((Znc hb).shp (by decide)).ok
 unfold gNe gEq
 rw[if_pos (by rw[s1,s2];rfl),if_pos (by rw[s1,s2];rfl),Zxf (Zbp a) (Zbp b) λz=>h (Bh.inj z)]
 exact⟨rfl,rfl⟩
noncomputable def cdB(b:Bool):Nat:=if b then 49 else 48
noncomputable def mkB(bs:List Bool):Str:=⟨(bs.map cdB).toArray⟩
noncomputable def bw(bs:List Bool):Xa:=.str (mkB bs)
theorem Zqy(b:Bool):sgB b=mkB [b]:=by cases b<;>decide +kernel
theorem Z6x(a b:List Bool):mkB a ++ mkB b=mkB (a ++ b):=by
 show(⟨(mkB a).cps ++ (mkB b).cps⟩:Str)=_
 unfold mkB
 rw[Qg,List.append_toArray]
theorem Z36:("" : Str)=mkB []:=by decide +kernel
theorem Zi1(bs:List Bool):(mkB bs).length=bs.length:=by
 show((bs.map cdB).toArray).size=_
 rw[Xy,Xd]
theorem Ydq{bs:List Bool}(hl:bs.length≤100):Zkh [bw bs]=some (.int bs.length):=by
 show(if(mkB bs).length≤Xq then _ else _)=_
 rw[Zi1,if_pos (by rw[XN];omega)]
theorem ixB{bs:List Bool}{i:Nat}(hl:bs.length≤100)(hi:i<bs.length):Zld (bw bs) (dI i)=some (.fz (.str (sgB (bs.getD i false)))):=by
 show(if(mkB bs).length≤Xq then _ else _)=_
 rw[Zi1,if_pos (by rw[XN];omega)]
 have a:atI (mkB bs).cps.toList (i:Int)=some (cdB (bs.getD i false)):=Zeg (by
  show(bs.map cdB)[i]? =_
  rw[Xl,Xk hi,Xr,Xk hi];rfl)
 rw[a,Zqy];rfl
theorem Zsf:JB "1"=true:=by decide +kernel
theorem Zuz:JB "0"=true:=by decide +kernel
theorem s10:("1" : Str)≠"0" :=by decide +kernel
theorem Yg7(b:Bool):gEq (.str (sgB b)) (.str "1")=some (.bool b):=by
 cases b
 ·exact(Zqu Zuz Zsf s10.symm).2
 ·exact(Zi4 Zsf).2
theorem Ygz(b:Bool):gNe (.str (sgB b)) (.str "1")=some (.bool (!b)):=by
 cases b
 ·exact(Zqu Zuz Zsf s10.symm).1
 ·exact(Zi4 Zsf).1
theorem ne_0(b:Bool):gNe (.str (sgB b)) (.str "0")=some (.bool b):=by
 cases b
 ·exact(Zi4 Zuz).1
 ·exact(Zqu Zsf Zuz s10).1
theorem Yew(a b:Bool):gNe (.str (sgB a)) (.str (sgB b))=some (.bool (a !=b)):=by
 cases b
 ·exact(ne_0 a).trans (by cases a<;>rfl)
 ·exact(Ygz a).trans (by cases a<;>rfl)
noncomputable def hd:List Bool->List Bool->Nat
 | a :: as,b :: bs=>(if a=b then 0 else 1)+hd as bs
 | _,_=>0
theorem Zbv(a:List Bool):hd a a=0:=by
 induction a with
 | nil=>rfl
 | cons x a ih=>rw[hd,if_pos rfl,ih]
theorem Zz4:∀a b:List Bool,hd a b=hd b a:=by
 intro a
 induction a with
 | nil=>intro b;cases b<;>rfl
 | cons x a ih=>
  intro b
  cases b with
  | nil=>rfl
  | cons y b=>
   rw[hd,hd,ih b]
   by_cases c:x=y
   ·rw[if_pos c,if_pos c.symm]
   ·rw[if_neg c,if_neg (Bl c)]
theorem Zy3:∀{a b:List Bool},a.length=b.length->hd a b=0->a=b:=by
 intro a
 induction a with
 | nil=>intro b h _;exact(QL h.symm).symm
 | cons x a ih=>
  intro b h e
  cases b with
  | nil=>cases h
  | cons y b=>
   rw[hd]at e
   by_cases c:x=y
   ·rw[if_pos c]at e
    rw[c,ih (Bj h) (by omega)]
   ·rw[if_neg c]at e;omega
theorem Zw1:∀a b c:List Bool,a.length=b.length->b.length=c.length->hd a c≤hd a b+hd b c:=by
 intro a
 induction a with
 | nil=>intro b c _ _;exact Qy _
 | cons x a ih=>
  intro b c h1 h2
  cases b with
  | nil=>cases h1
  | cons y b=>
   cases c with
   | nil=>cases h2
   | cons z c=>
    have:=ih b c (Bj h1) (Bj h2)
    rw[hd,hd,hd]
    cases x<;>cases y<;>cases z<;>simp<;>omega
theorem Zgh:∀(a c b d:List Bool),a.length=c.length->hd (a ++ b) (c ++ d)=hd a c+hd b d:=by
 intro a
 induction a with
 | nil=>
  intro c b d h
  cases QL h.symm
  show hd b d=0+hd b d
  omega
 | cons x a ih=>
  intro c b d h
  cases c with
  | nil=>cases h
  | cons y c=>
   show hd (x :: (a ++ b)) (y :: (c ++ d))=_
   rw[hd,hd,ih c b d (Bj h)];omega
theorem Z7g:∀{a b:List Bool},a.length=b.length->hd a b=1->∃k,k<a.length∧a.getD k false≠b.getD k false∧(∀j,j≠k->a.getD j false=b.getD j false)∧∀x:List Bool,x.length=a.length->(x.getD k false=b.getD k false->hd a x=hd b x+1)∧(x.getD k false=a.getD k false->hd b x=hd a x+1):=by
 intro a
 induction a with
 | nil=>intro b _ e;cases b<;>cases e
 | cons u a ih=>
  intro b h e
  cases b with
  | nil=>cases h
  | cons v b=>
   have hl:=Bj h
   rw[hd]at e
   by_cases c:u=v
   ·rw[if_pos c]at e
    obtain⟨k,hk,ne,al,q⟩:=ih hl (by omega)
    refine⟨k+1,Nat.succ_lt_succ hk,ne,λj hj=>?_,λx hx=>?_⟩
    ·cases j with
     | zero=>exact c
     | succ j=>exact al j λe=>hj (by rw[e])
    cases x with
    | nil=>cases hx
    | cons w x=>
     obtain⟨q1,q2⟩:=q x (Bj hx)
     rw[hd,hd,c]
     exact⟨λz=>by have:=q1 z;omega,λz=>by have:=q2 z;omega⟩
   ·rw[if_neg c]at e
    have e0:a=b:=Zy3 hl (by omega)
    subst e0
    refine⟨0,Nat.succ_pos _,c,λj hj=>?_,λx hx=>?_⟩
    ·cases j with
     | zero=>exact absurd rfl hj
     | succ j=>rfl
    cases x with
    | nil=>cases hx
    | cons w x=>
     rw[hd,hd]
     refine⟨λz=>?_,λz=>?_⟩
     ·have z:w=v:=z
      rw[z,if_neg c,if_pos rfl];omega
     ·have z:w=u:=z
      rw[z,if_pos rfl,if_neg (Bl c)];omega
theorem Z5q:∀(x y z:List Bool) (k:Nat),x.length=y.length->y.length=z.length->k<x.length->x.getD k false=y.getD k false->z.getD k false≠x.getD k false->hd x y+2≤hd x z+hd z y:=by
 intro x
 induction x with
 | nil=>intro y z k _ _ h;exact absurd h (Vr _)
 | cons a x ih=>
  intro y z k h1 h2 hk e ne
  cases y with
  | nil=>cases h1
  | cons b y=>
   cases z with
   | nil=>cases h2
   | cons c z=>
    have l1:=Bj h1
    have l2:=Bj h2
    rw[hd,hd,hd]
    cases k with
    | zero=>
     have e:a=b:=e
     have ne:c≠a:=ne
     have:=Zw1 x z y (l1.trans l2) l2.symm
     rw[if_pos e,if_neg (Bl ne),if_neg (e▸ne)];omega
    | succ k=>
     have:=ih y z k l1 l2 (Nat.lt_of_succ_lt_succ hk) e ne
     cases a<;>cases b<;>cases c<;>simp<;>omega
structure Iso(L:Nat)(W:List (List Bool)):Prop where
 len:∀w∈W,w.length=L
 nd:W.Nodup
 st:∀x∈W,∀y∈W,x≠y->∃z∈W,hd x z=1∧hd z y+1=hd x y
theorem Zzh:Iso 0 [[]]:=⟨λw hw=>by rw[Xj.mp hw];rfl,X6.mpr ⟨(λz=>nomatch z),.nil⟩,λx hx y hy ne=>absurd ((Xj.mp hx).trans (Xj.mp hy).symm) ne⟩
theorem Iso.perm{L:Nat}{W V:List (List Bool)}(h:Iso L W)(p:V.Perm W):Iso L V:=⟨λw hw=>h.len w (p.mem_iff.mp hw),p.nodup_iff.mpr h.nd,λx hx y hy ne=>by
 obtain⟨z,hz,e⟩:=h.st x (p.mem_iff.mp hx) y (p.mem_iff.mp hy) ne
 exact⟨z,p.mem_iff.mpr hz,e⟩⟩
theorem Yd0{a b:List Bool}{u v:Bool}(h:a ++ [u]=b ++ [v]):a=b∧u=v:=by
 have l:a.length=b.length:=by have:=congrArg List.length h;simp at this;exact this
 obtain⟨e1,e2⟩:=List.append_inj h l
 exact⟨e1,(List.cons.inj e2).1⟩
theorem Iso.grow{L:Nat}{W:List (List Bool)}(h:Iso L W){a:List Bool}(ha:a∈W):Iso (L+1) (W.map (· ++ [false]) ++ [a ++ [true]]):=by
 have hA:∀u v:List Bool,u∈W->v∈W->∀p q:Bool,hd (u ++ [p]) (v ++ [q])=hd u v+(if p=q then 0 else 1):=λu v hu hv p q=>by
  rw[Zgh u v _ _ ((h.len u hu).trans (h.len v hv).symm)]
  show _+((if p=q then 0 else 1)+0)=_
  omega
 refine⟨λw hw=>?_,?_,λx hx y hy ne=>?_⟩
 ·rcases X8.mp hw with hw|hw
  ·obtain⟨u,hu,rfl⟩:=XX.mp hw
   rw[XF,h.len u hu];rfl
  ·rw[Xj.mp hw,XF,h.len a ha];rfl
 ·refine JF.mpr ⟨?_,X6.mpr ⟨(λz=>nomatch z),.nil⟩,λu hu v hv e=>?_⟩
  ·exact List.Pairwise.map _ (λu v ne e=>ne (Yd0 e).1) h.nd
  ·obtain⟨u,_,rfl⟩:=XX.mp hu
   rw[Xj.mp hv]at e
   cases(Yd0 e).2
 ·have m0:∀u∈W,u ++ [false]∈W.map (· ++ [false]) ++ [a ++ [true]]:=λu hu=>Qp _ (XX.mpr ⟨u,hu,rfl⟩)
  have m1:a ++ [true]∈W.map (· ++ [false]) ++ [a ++ [true]]:=Qa _ (.head _)
  rcases X8.mp hx with hx|hx<;>rcases X8.mp hy with hy|hy
  ·obtain⟨u,hu,rfl⟩:=XX.mp hx
   obtain⟨v,hv,rfl⟩:=XX.mp hy
   obtain⟨z,hz,e1,e2⟩:=h.st u hu v hv λe=>ne (by rw[e])
   exact⟨z ++ [false],m0 z hz,by rw[hA u z hu hz,e1];rfl,by rw[hA z v hz hv,hA u v hu hv];simp;omega⟩
  ·obtain⟨u,hu,rfl⟩:=XX.mp hx
   rw[Xj.mp hy]
   by_cases c:u=a
   ·subst c
    exact⟨u ++ [true],m1,by rw[hA u u hu hu,Zbv];rfl,by rw[Zbv,hA u u hu hu,Zbv];rfl⟩
   ·obtain⟨z,hz,e1,e2⟩:=h.st u hu a ha c
    exact⟨z ++ [false],m0 z hz,by rw[hA u z hu hz,e1];rfl,by rw[hA z a hz ha,hA u a hu ha];simp;omega⟩
  ·rw[Xj.mp hx]
   obtain⟨v,hv,rfl⟩:=XX.mp hy
   exact⟨a ++ [false],m0 a ha,by rw[hA a a ha ha,Zbv];rfl,by rw[hA a v ha hv,hA a v ha hv];simp⟩
  ·exact absurd ((Xj.mp hx).trans (Xj.mp hy).symm) ne
noncomputable def prW(A B:List (List Bool)):List (List Bool):=B.flatMap λb=>A.map λa=>a ++ b
theorem Zgt{A B:List (List Bool)}{w:List Bool}:w∈prW A B↔∃a∈A,∃b∈B,w=a ++ b:=by
 unfold prW
 rw[Us]
 constructor
 ·intro z
  obtain⟨b,hb,h⟩:=z
  obtain⟨a,ha,rfl⟩:=XX.mp h
  exact⟨a,ha,b,hb,rfl⟩
 ·intro z
  obtain⟨a,ha,b,hb,rfl⟩:=z
  exact⟨b,hb,XX.mpr ⟨a,ha,rfl⟩⟩
theorem Iso.prod{L M:Nat}{A B:List (List Bool)}(hA:Iso L A)(hB:Iso M B):Iso (L+M) (prW A B):=by
 refine⟨λw hw=>?_,?_,λx hx y hy ne=>?_⟩
 ·obtain⟨a,ha,b,hb,rfl⟩:=Zgt.mp hw
  rw[XF,hA.len a ha,hB.len b hb]
 ·unfold prW
  have:=hB.nd
  have hl:=hB.len
  clear hB
  induction B with
  | nil=>exact .nil
  | cons b B ih=>
   rw[Vw]
   obtain⟨nb,nd⟩:=X6.mp this
   refine JF.mpr ⟨List.Pairwise.map _ (λu v ne e=>ne (List.append_inj_left' e rfl)) hA.nd,ih nd λw hw=>hl w (.tail _ hw),λu hu v hv e=>?_⟩
   obtain⟨a,ha,rfl⟩:=XX.mp hu
   obtain⟨b',hb',hv⟩:=Us.mp hv
   obtain⟨a',ha',rfl⟩:=XX.mp hv
   have:=List.append_inj e ((hA.len a ha).trans (hA.len a' ha').symm)
   exact nb (this.2▸hb')
 ·obtain⟨a,ha,b,hb,rfl⟩:=Zgt.mp hx
  obtain⟨c,hc,d,hd',rfl⟩:=Zgt.mp hy
  have lac:=(hA.len a ha).trans (hA.len c hc).symm
  by_cases q:a=c
  ·subst q
   obtain⟨z,hz,e1,e2⟩:=hB.st b hb d hd' λe=>ne (by rw[e])
   exact⟨a ++ z,Zgt.mpr ⟨a,ha,z,hz,rfl⟩,by rw[Zgh a a b z rfl,Zbv,e1],by rw[Zgh a a z d rfl,Zgh a a b d rfl,Zbv];omega⟩
  ·obtain⟨z,hz,e1,e2⟩:=hA.st a ha c hc q
   have laz:=(hA.len a ha).trans (hA.len z hz).symm
   have lzc:=(hA.len z hz).trans (hA.len c hc).symm
   exact⟨z ++ b,Zgt.mpr ⟨z,hz,b,hb,rfl⟩,by rw[Zgh a z b b laz,Zbv,e1],by rw[Zgh z c b d lzc,Zgh a c b d lac];omega⟩
noncomputable def rgW(m:Nat):List (List Bool):=(Xi m).flatMap λk=>[X4 k true ++ X4 (m-k) false,X4 k false ++ X4 (m-k) true]
theorem Zv9:∀m:Fin 6,2≤m.1->Iso m.1 (rgW m.1):=by
 have key:∀m:Fin 6,2≤m.1->(∀w∈rgW m.1,w.length=m.1)∧(rgW m.1).Nodup∧∀x∈rgW m.1,∀y∈rgW m.1,x≠y->∃z∈rgW m.1,hd x z=1∧hd z y+1=hd x y:=by decide +kernel
 exact λm h=>⟨(key m h).1,(key m h).2.1,(key m h).2.2⟩
section
variable {n:Nat}{rs:List (Nat×Nat)}{F:Nat->Nat->Nat}{CS:List (List Int)}
theorem Zza(n1:0<n)(r:Nat×Nat):Zhc n F r=sdI n λx=>sdF F r.1 r.2 x.toNat !=sdF F r.1 r.2 0:=by
 have mf:∀x:Nat,x<n->(((x:Int)∈Zqv n F r)↔sdF F r.1 r.2 x=true):=λx hx=>by
  unfold Zqv
  rw[XX]
  constructor
  ·intro z
   obtain⟨y,hy,e⟩:=z
   have:y=x:=by omega
   subst this
   exact(Q9.mp hy).2
  ·intro z
   exact⟨x,Q9.mpr ⟨XQ.mpr hx,z⟩,rfl⟩
 have m0:=mf 0 n1
 unfold Zhc ctO
 split
 ·rename_i c
  have c':=m0.mp c
  unfold sdI
  refine congrArg _ (List.filter_congr λi hi=>?_)
  have:=mf i (XQ.mp hi)
  dsimp only
  rw[QJ,c']
  by_cases q:sdF F r.1 r.2 i=true
  ·rw[q,decide_eq_true (this.mpr q)];rfl
  ·rw[decide_eq_false λz=>q (this.mp z),Bv.mpr q];rfl
 ·rename_i c
  have c':sdF F r.1 r.2 0=false:=Bv.mpr λz=>c (m0.mpr z)
  unfold sdI
  refine congrArg _ (List.filter_congr λi hi=>?_)
  have:=mf i (XQ.mp hi)
  dsimp only
  rw[QJ,c']
  by_cases q:sdF F r.1 r.2 i=true
  ·rw[q,decide_eq_true (this.mpr q)];rfl
  ·rw[decide_eq_false λz=>q (this.mp z),Bv.mpr q];rfl
theorem Zv0{cs:List (List Int)}{c x:List Int}:x∈Zlg cs c↔x∈cs∨x=c:=by
 unfold Zlg
 split
 ·rename_i h
  exact⟨.inl,λz=>z.elim id λe=>e▸h⟩
 ·rw[X8,Xj]
theorem Zzs{cs:List (List Int)}{c:List Int}(h:cs.Nodup):(Zlg cs c).Nodup:=by
 unfold Zlg
 split
 ·exact h
 ·rename_i z
  exact JF.mpr ⟨h,X6.mpr ⟨(λz=>nomatch z),.nil⟩,λa ha b hb e=>z (by rw[Xj.mp hb]at e;exact e▸ha)⟩
theorem Zq8(n:Nat)(F:Nat->Nat->Nat):∀(rs:List (Nat×Nat)) (cs:List (List Int)),cs.Nodup->(rs.foldl (λcs r=>Zlg cs (Zhc n F r)) cs).Nodup∧∀x,x∈rs.foldl (λcs r=>Zlg cs (Zhc n F r)) cs↔x∈cs∨∃r∈rs,x=Zhc n F r:=by
 intro rs
 induction rs with
 | nil=>exact λcs h=>⟨h,λx=>⟨.inl,λz=>z.elim id λz=>by obtain⟨_,m,_⟩:=z;exact nomatch m⟩⟩
 | cons r rs ih=>
  intro cs h
  obtain⟨a,b⟩:=ih (Zlg cs (Zhc n F r)) (Zzs h)
  refine⟨a,λx=>(b x).trans ?_⟩
  rw[Zv0]
  constructor
  ·intro z
   rcases z with(z|z)|z
   ·exact .inl z
   ·exact .inr ⟨r,.head _,z⟩
   ·obtain⟨q,m,e⟩:=z
    exact .inr ⟨q,.tail _ m,e⟩
  ·intro z
   rcases z with z|z
   ·exact .inl (.inl z)
   ·obtain⟨q,m,e⟩:=z
    rcases Xp.mp m with rfl|m
    ·exact .inl (.inr e)
    ·exact .inr ⟨q,m,e⟩
theorem Zqz:∀{a b c:List Int},ltI a b=true->ltI b c=true->ltI a c=true:=by
 intro a
 induction a with
 | nil=>
  intro b c h1 h2
  cases b with
  | nil=>cases h1
  | cons y b=>cases c with
   | nil=>cases h2
   | cons z c=>rfl
 | cons x a ih=>
  intro b c h1 h2
  cases b with
  | nil=>cases h1
  | cons y b=>cases c with
   | nil=>cases h2
   | cons z c=>
    unfold ltI at h1 h2⊢
    by_cases e1:x=y
    ·subst e1
     rw[if_pos rfl]at h1
     by_cases e2:x=z
     ·rw[if_pos e2]at h2⊢;exact ih h1 h2
     ·rw[if_neg e2]at h2⊢;exact h2
    ·rw[if_neg e1]at h1
     have l1:=of_decide_eq_true h1
     by_cases e2:y=z
     ·subst e2
      rw[if_neg e1];exact h1
     ·rw[if_neg e2]at h2
      have l2:=of_decide_eq_true h2
      rw[if_neg (by omega)]
      exact decide_eq_true (by omega)
theorem Zp1:∀a:List Int,ltI a a=false:=by
 intro a
 induction a with
 | nil=>rfl
 | cons x a ih=>unfold ltI;rw[if_pos rfl];exact ih
theorem Z0f:∀{a b:List Int},a≠b->ltI a b=false->ltI b a=true:=by
 intro a
 induction a with
 | nil=>
  intro b ne h
  cases b with
  | nil=>exact absurd rfl ne
  | cons y b=>cases h
 | cons x a ih=>
  intro b ne h
  cases b with
  | nil=>rfl
  | cons y b=>
   unfold ltI at h⊢
   by_cases e:x=y
   ·subst e
    rw[if_pos rfl]at h⊢
    exact ih (λz=>ne (z▸rfl)) h
   ·rw[if_neg e]at h
    rw[if_neg (Bl e)]
    have:=of_decide_eq_false h
    exact decide_eq_true (by omega)
theorem Zwy{cs:List (List Int)}{i j:Nat}(hi:i<cs.length)(hj:j<cs.length):lk kdL ltI (cs.map Zk) i j=ltI (cs.getD i []) (cs.getD j []):=by
 have e:∀k,k<cs.length->kdL ((cs.map Zk).getD k .none)=some (cs.getD k []):=λk hk=>by
  rw[Xr,Xl,Xk hk,Xr,Xk hk]
  show Ze6 _=_
  exact Zdc _
 unfold lk
 rw[e i hi,e j hj];rfl
theorem Zx2{cs:List (List Int)}(nd:cs.Nodup):(CSl cs).Pairwise λa b=>ltI a b=true:=by
 have ne:∀i j,i<cs.length->j<cs.length->i≠j->cs.getD i []≠cs.getD j []:=λi j hi hj c e=>by
  rw[Xr,Xk hi,Xr,Xk hj]at e
  exact c ((List.getElem_inj nd).mp e)
 refine Z07 (β:=Nat) (d:=[]) (vs:=cs) ⟨λi j k hi hj hk h1 h2=>?_,λi j hi hj c h=>?_,λi j hi hj h=>?_⟩ λi j hi hj h=>?_
 ·rw[Zwy hi hj]at h1
  rw[Zwy hj hk]at h2
  rw[Zwy hi hk]
  exact Zqz h1 h2
 ·rw[Zwy hi hj]at h
  rw[Zwy hj hi]
  exact Z0f (ne i j hi hj c) h
 ·rw[Zwy hi hj]at h
  rw[Zwy hj hi]
  refine Bv.mpr λz=>?_
  have:=Zqz h z
  rw[Zp1]at this
  cases this
 ·rw[Zwy hi hj]at h
  exact h
end
noncomputable def wA(W:List (List Bool))(i:Nat):List Bool:=W.getD i []
noncomputable def Hm(W:List (List Bool))(i j:Nat):Nat:=hd (wA W i) (wA W j)
noncomputable def isR(W:List (List Bool))(p:Nat×Nat):Bool:=decide (Hm W p.1 p.2=1)
noncomputable def rsW(W:List (List Bool)):List (Nat×Nat):=(J0 W.length).filter (isR W)
theorem Zh3:∀n<11,((J0 n).length≤63∧(J0 n).Pairwise λr r'=>ltI (rI r) (rI r')=true):=by decide +kernel
theorem Z0r{α:Type}{P:α->α->Prop}{xs:List α}(h:xs.Pairwise P){i:Nat}{a b:α}(ha:xs[i]? =some a)(hb:xs[i+1]? =some b):P a b:=by
 obtain⟨h1,e1⟩:=Xn.mp ha
 obtain⟨h2,e2⟩:=Xn.mp hb
 have:=VN.mp h i (i+1) h1 h2 (QC _)
 rw[e1,e2]at this
 exact this
structure Wd(L:Nat)(W:List (List Bool)):Prop extends Iso L W where
 l1:1≤W.length
 l10:W.length≤10
 lL:L≤40
section
variable {L:Nat}{W:List (List Bool)}{F:Nat->Nat->Nat}
theorem Zw3(w:Wd L W):(rsW W).length<64:=by
 have h1:=(Zh3 W.length (Nat.lt_succ_of_le w.l10)).1
 have:(rsW W).length≤(J0 W.length).length:=Uq _ _
 omega
theorem Zvd(w:Wd L W):Roads W.length (rsW W):=by
 obtain⟨h1,h2⟩:=Zh3 W.length (Nat.lt_succ_of_le w.l10)
 refine⟨w.l1,w.l10,λr hr=>Zal (Q9.mp hr).1,λi r r' ha hb=>Z0r (List.Pairwise.filter _ h2) ha hb,?_⟩
 have:=Zw3 w
 omega
theorem Zkb{i:Nat}(h:i<W.length):wA W i∈W:=by
 unfold wA
 rw[Xr,Xk h]
 exact VG h
theorem Y8(w:Wd L W){i:Nat}(h:i<W.length):(wA W i).length=L:=w.len _ (Zkb h)
theorem Z67(w:Wd L W){i j:Nat}(hi:i<W.length)(hj:j<W.length)(e:wA W i=wA W j):i=j:=by
 unfold wA at e
 rw[Xr,Xk hi,Xr,Xk hj]at e
 exact(List.getElem_inj w.nd).mp e
theorem Ybi{x:List Bool}(h:x∈W):∃i,i<W.length∧wA W i=x:=by
 obtain⟨i,hi,e⟩:=List.getElem_of_mem h
 exact⟨i,hi,by unfold wA;rw[Xr,Xk hi];exact e⟩
theorem Zgu(i j:Nat):Hm W i j=Hm W j i:=Zz4 _ _
theorem Zpn(i:Nat):Hm W i i=0:=Zbv _
theorem Zhq{a b:Nat}(h:(a,b)∈rsW W):a<b∧b<W.length∧Hm W a b=1:=by
 obtain⟨h1,h2⟩:=Q9.mp h
 exact⟨(Zal h1).1,(Zal h1).2,of_decide_eq_true h2⟩
theorem Z5t{p m:Nat}(h:m∈nbR (rsW W) p):Hm W p m=1:=by
 rcases Zcv.mp h with h|h
 ·exact(Zhq h).2.2
 ·rw[Zgu];exact(Zhq h).2.2
theorem Zsc{p m:Nat}(hp:p<W.length)(hm:m<W.length)(h:Hm W p m=1):m∈nbR (rsW W) p:=by
 refine Zcv.mpr ?_
 rcases Nat.lt_trichotomy p m with c|c|c
 ·exact .inl (Q9.mpr ⟨Zhv c hm,decide_eq_true h⟩)
 ·rw[c,Zpn]at h;cases h
 ·exact .inr (Q9.mpr ⟨Zhv c hp,decide_eq_true (by rw[Zgu];exact h)⟩)
theorem step(w:Wd L W){i j:Nat}(hi:i<W.length)(hj:j<W.length)(ne:i≠j):∃m,m<W.length∧Hm W i m=1∧Hm W m j+1=Hm W i j:=by
 obtain⟨z,hz,e1,e2⟩:=w.st _ (Zkb hi) _ (Zkb hj) λe=>ne (Z67 w hi hj e)
 obtain⟨m,hm,rfl⟩:=Ybi hz
 exact⟨m,hm,e1,e2⟩
theorem Yda(w:Wd L W){s:Nat}(hs:s<W.length):Dst W.length (rsW W) s (Hm W s):=by
 refine⟨Zpn s,λp hp ne=>?_,λp hp m hm=>?_⟩
 ·obtain⟨m,hm,e1,e2⟩:=step w hp hs ne
  exact⟨m,Zsc hp hm e1,hm,by rw[Zgu s p,Zgu s m];exact e2.symm⟩
 ·have hm':m<W.length:=by
   rcases Zcv.mp hm with h|h
   ·exact(Zhq h).2.1
   ·have:=Zhq h;omega
  have:=Zw1 (wA W s) (wA W p) (wA W m) ((Y8 w hs).trans (Y8 w hp).symm) ((Y8 w hp).trans (Y8 w hm').symm)
  have e:=Z5t hm
  unfold Hm at*
  omega
theorem Zw2{n:Nat}{rs:List (Nat×Nat)}{s:Nat}{f g:Nat->Nat}(A:Dst n rs s f)(B:Dst n rs s g):∀d p,p<n->g p=d->f p≤d:=by
 intro d
 induction d with
 | zero=>
  intro p hp e
  by_cases c:p=s
  ·rw[c,A.z];exact Xz _
  ·obtain⟨m,_,_,h⟩:=B.up p hp c
   omega
 | succ d ih=>
  intro p hp e
  by_cases c:p=s
  ·rw[c,A.z];exact Qy _
  ·obtain⟨m,hm,lm,h⟩:=B.up p hp c
   have h1:=ih m lm (by omega)
   have h2:=A.one m lm p (Zlx _ _ hm)
   omega
theorem Zx3{n:Nat}{rs:List (Nat×Nat)}{s:Nat}{f g:Nat->Nat}(A:Dst n rs s f)(B:Dst n rs s g){p:Nat}(hp:p<n):f p=g p:=Nat.le_antisymm (Zw2 A B _ p hp rfl) (Zw2 B A _ p hp rfl)
theorem Zzl(w:Wd L W):Z7l W.length (rsW W):=by
 have key:∀d m,m<W.length->Hm W m 0=d->Rch (Nb (nbR (rsW W))) 0 m:=by
  intro d
  induction d with
  | zero=>
   intro m hm e
   by_cases c:m=0
   ·rw[c];exact .refl
   ·obtain⟨z,_,_,e2⟩:=step w hm w.l1 c
    omega
  | succ d ih=>
   intro m hm e
   by_cases c:m=0
   ·rw[c];exact .refl
   ·obtain⟨z,hz,e1,e2⟩:=step w hm w.l1 c
    exact .step (ih z hz (by omega)) (Zsc hz hm (by rw[Zgu];exact e1))
 exact λm hm=>key _ m hm rfl
structure Fr(W:List (List Bool))(F:Nat->Nat->Nat):Prop where
 e:∀i j,i<W.length->j<W.length->F i j=Hm W i j
noncomputable def bt(W:List (List Bool))(k x:Nat):Bool:=(wA W x).getD k false
theorem Ziw(w:Wd L W)(f:Fr W F){r:Nat×Nat}(hr:r∈rsW W):∃k,k<L∧bt W k r.1≠bt W k r.2∧(∀j,j≠k->bt W j r.1=bt W j r.2)∧∀x,x<W.length->F r.1 x≠F r.2 x∧sdF F r.1 r.2 x=(bt W k x==bt W k r.2):=by
 obtain⟨h1,h2,h3⟩:=Zhq (a:=r.1) (b:=r.2) hr
 have h0:r.1<W.length:=by omega
 obtain⟨k,hk,ne,al,q⟩:=Z7g ((Y8 w h0).trans (Y8 w h2).symm) h3
 rw[Y8 w h0]at hk
 refine⟨k,hk,ne,al,λx hx=>?_⟩
 obtain⟨q1,q2⟩:=q (wA W x) ((Y8 w hx).trans (Y8 w h0).symm)
 have e1:=f.e r.1 x h0 hx
 have e2:=f.e r.2 x h2 hx
 unfold Hm at e1 e2
 unfold sdF
 by_cases c:bt W k x=bt W k r.2
 ·have:=q1 c
  exact⟨by omega,by rw[decide_eq_true (by omega),beq_iff_eq.mpr c]⟩
 ·have:bt W k x=bt W k r.1:=by
   unfold bt at c⊢
   cases z1:(wA W x).getD k false<;>cases z2:(wA W r.1).getD k false<;>cases z3:(wA W r.2).getD k false<;>rw[z1,z3]at c<;>rw[z2,z3]at ne<;>first|rfl|exact absurd rfl c|exact absurd rfl ne
  have:=q2 this
  exact⟨by omega,by rw[decide_eq_false (by omega),beq_eq_false_iff_ne.mpr c]⟩
theorem Zq6(w:Wd L W)(f:Fr W F):(rsW W).findSome? (Zjs W.length F)=none:=BZ.mpr λr hr=>BZ.mpr λx hx=>by
 obtain⟨k,_,_,_,q⟩:=Ziw w f hr
 exact if_neg (q x (XQ.mp hx)).1
theorem Z4u(w:Wd L W)(f:Fr W F):(rsW W).findSome? (nwX W.length F)=none:=BZ.mpr λr hr=>by
 obtain⟨k,hk,_,_,q⟩:=Ziw w f hr
 unfold nwX
 refine Option.map_eq_none_iff.mpr (BZ.mpr λp hp=>?_)
 have hp:=Zal hp
 have hx:p.1<W.length:=by omega
 unfold leaveX
 split
 case isFalse=>rfl
 rename_i c
 have c:=beq_iff_eq.mp c
 refine BZ.mpr λz hz=>if_neg λg=>?_
 have hz:=XQ.mp hz
 have g1:sdF F r.1 r.2 z≠sdF F r.1 r.2 p.1:=bne_iff_ne.mp g.1
 rw[(q _ hx).2,(q _ hp.2).2]at c
 rw[(q _ hz).2,(q _ hx).2]at g1
 have b1:bt W k p.1=bt W k p.2:=by
  cases z1:bt W k p.1<;>cases z2:bt W k p.2<;>cases z3:bt W k r.2<;>rw[z1,z2,z3]at c<;>first|rfl|cases c
 have b2:bt W k z≠bt W k p.1:=λe=>g1 (by rw[e])
 have:=Z5q (wA W p.1) (wA W p.2) (wA W z) k ((Y8 w hx).trans (Y8 w hp.2).symm) ((Y8 w hp.2).trans (Y8 w hz).symm) (by rw[Y8 w hx];exact hk) b1 b2
 have e1:=f.e p.1 z hx hz
 have e2:=f.e z p.2 hz hp.2
 have e3:=f.e p.1 p.2 hx hp.2
 unfold Hm at e1 e2 e3
 have:=g.2
 omega
noncomputable def sdK(W:List (List Bool))(k:Nat):List Int:=sdI W.length λx=>bt W k x.toNat !=bt W k 0
theorem Zzz(w:Wd L W)(f:Fr W F){r:Nat×Nat}(hr:r∈rsW W):∃k,k<L∧Zhc W.length F r=sdK W k∧bt W k r.1≠bt W k r.2∧∀j,j≠k->bt W j r.1=bt W j r.2:=by
 obtain⟨k,hk,ne,al,q⟩:=Ziw w f hr
 refine⟨k,hk,?_,ne,al⟩
 rw[Zza w.l1]
 unfold sdK sdI
 refine congrArg _ (List.filter_congr λi hi=>?_)
 have hi:=XQ.mp hi
 dsimp only
 rw[QJ,(q i hi).2,(q 0 w.l1).2]
 cases bt W k i<;>cases bt W k 0<;>cases bt W k r.2<;>rfl
theorem Z69(w:Wd L W)(f:Fr W F){r:Nat×Nat}(hr:r∈rsW W):Zhc W.length F r≠[]:=λz=>by
 obtain⟨k,hk,e,ne,_⟩:=Zzz w f hr
 obtain⟨h1,h2,_⟩:=Zhq (a:=r.1) (b:=r.2) hr
 rw[e]at z
 have m:∀x,x<W.length->bt W k x=bt W k 0:=λx hx=>BW λc=>by
  have:(x:Int)∈sdK W k:=Ziv.mpr ⟨by omega,by omega,bne_iff_ne.mpr c⟩
  rw[z]at this
  exact nomatch this
 exact ne ((m _ (by omega)).trans (m _ h2).symm)
theorem Yb4(w:Wd L W)(f:Fr W F){k:Nat}(h:sdK W k≠[]):∃r∈rsW W,Zhc W.length F r=sdK W k:=by
 obtain⟨x,hx,hb⟩:∃x,x<W.length∧bt W k x≠bt W k 0:=by
  obtain⟨v,hv⟩:=List.exists_mem_of_ne_nil _ h
  obtain⟨h1,h2,h3⟩:=Ziv.mp hv
  exact⟨v.toNat,by omega,bne_iff_ne.mp h3⟩
 have key:∀d x,x<W.length->Hm W x 0=d->bt W k x≠bt W k 0->∃p q,p<W.length∧q<W.length∧Hm W p q=1∧bt W k p≠bt W k q:=by
  intro d
  induction d with
  | zero=>
   intro x hx e ne
   have c:x≠0:=λc=>ne (by rw[c])
   obtain⟨z,_,_,e2⟩:=step w hx w.l1 c
   omega
  | succ d ih=>
   intro x hx e ne
   have c:x≠0:=λc=>ne (by rw[c])
   obtain⟨z,hz,e1,e2⟩:=step w hx w.l1 c
   by_cases c2:bt W k x=bt W k z
   ·exact ih z hz (by omega) (c2▸ne)
   ·exact⟨x,z,hx,hz,e1,c2⟩
 obtain⟨p,q,hp,hq,e,ne⟩:=key _ x hx rfl hb
 have fin:∀r∈rsW W,bt W k r.1≠bt W k r.2->∃r∈rsW W,Zhc W.length F r=sdK W k:=λr hr ne=>by
  obtain⟨k',_,e,_,al⟩:=Zzz w f hr
  by_cases c:k=k'
  ·exact⟨r,hr,c▸e⟩
  ·exact absurd (al k c) ne
 rcases Zcv.mp (Zsc hp hq e)with h|h
 ·exact fin _ h ne
 ·exact fin _ h (Bl ne)
end
theorem Zj9{e:FE}{δ:Zf}{i:Nat}{ts rs:List OT}{ds:List Xa}(h:e δ=some (.nd rs,δ))(hd:OT.datas rs=ds)(hi:δ[i]? =some (some (.nd ts)))(hl:ts.length+ds.length≤1000000):Zd8 i e δ= .nx (δ.set i (some (.nd (ts ++ ds.map OT.fz)))):=by
 unfold Zd8
 rw[hi]
 dsimp only
 rw[Zcb,h,Yi,hi]
 dsimp only
 have lr:rs.length=ds.length:=by rw[←hd,Zdv]
 rw[if_pos (by rw[XN,lr];omega),hd]
theorem Ycw(b:Bool):Zld (.str "01") (.int (if b then 1 else 0))=some (.fz (.str (sgB b))):=by cases b<;>rfl
theorem Zu3:∀a b:List Bool,a.length=b.length->((Xi a.length).filter λi=>a.getD i false !=b.getD i false).length=hd a b:=by
 intro a
 induction a with
 | nil=>intro b _;cases b<;>rfl
 | cons x a ih=>
  intro b h
  cases b with
  | nil=>cases h
  | cons y b=>
   rw[QS,List.range_succ_eq_map]
   have e:((Xi a.length).map Nat.succ).filter (λi=>(x :: a).getD i false !=(y :: b).getD i false)=((Xi a.length).filter λi=>a.getD i false !=b.getD i false).map Nat.succ:=by
    rw[List.filter_map];rfl
   have h0:((x :: a).getD 0 false !=(y :: b).getD 0 false)=(x !=y):=rfl
   rw[hd]
   by_cases c:x=y
   ·rw[List.filter_cons_of_neg (p:=λi=>(x :: a).getD i false !=(y :: b).getD i false) (by rw[h0,c,bne_self_eq_false];decide),e,Xd,ih b (Bj h),if_pos c];omega
   ·rw[List.filter_cons_of_pos (p:=λi=>(x :: a).getD i false !=(y :: b).getD i false) (h0.trans (bne_iff_ne.mpr c)),QS,e,Xd,ih b (Bj h),if_neg c];omega
theorem Zdu{a b:List Bool}(h:a.length=b.length)(hl:a.length≤100):Told Z1 [bw a,bw b] (.int (hd a b)):=by
 have:=Zi0 (δ:=[some (.fz (bw a)),some (.fz (bw b))]) (caps:=[0,1]) (it:=iRa (Zc (Zak Zkh (Zc (Zb 0) Zm)) Zm)) (cs:=[some (.fz (bw a)),some (.fz (bw b))]) (t:=tV (Ze gNe (Z4 Zld (Zb 1) (Zb 0)) (Z4 Zld (Zb 2) (Zb 0)))) (me:=Zb 0) (Xi a.length) dI (λi=>a.getD i false !=b.getD i false) (by rw[←Zuu];exact Zbh (Zd (Zhp (Zd (Za rfl) Zh) (Ydq hl)) Zh) (by omega)) (by rw[Xw];omega) rfl (λi hi=>?_) (λi _ _=>rfl)
 ·refine Z6 rfl (Wm ((Zbw this).cast ?_))
  rw[Xd,Zu3 a b h]
 ·have hi:=XQ.mp hi
  exact Za9 (Zo (Zdp (Za rfl) (Za rfl) (ixB hl hi) (OT.data_fz _)) (Zdp (Za rfl) (Za rfl) (ixB (h▸hl) (h▸hi)) (OT.data_fz _)) (Yew _ _))
theorem Zd3{W:List (List Bool)}{i:Nat}(hi:i<W.length):atI (W.map bw) (i:Int)=some (bw (wA W i)):=Zeg (by
 unfold wA
 rw[Xl,Xk hi,Xr,Xk hi];rfl)
theorem Zkz{L:Nat}{W:List (List Bool)}(w:Wd L W):Told W9 [.list (W.map bw)] (.list ((rsW W).map ptD)):=by
 have l10:=w.l10
 have len:∀{δ:Zf} {i:Nat},δ[i]? =some (some (.fz (.list (W.map bw))))->EvV (Zak Zce (Zc (Zb i) Zm)) δ (.int W.length):=λh=>(Zbw (Za h)).cast (by rw[Xd])
 refine Z6 rfl<|Zw Zb3<|Zdy (ds:=Ze5 0 W.length) (λi δ=>∃z,δ=[some (.fz (.list (W.map bw))),some (.nd ((((Zcp W.length i).filter (isR W)).map ptD).map OT.fz)),z]) (Zbh (Zd (len rfl) Zh) (by omega)) ⟨_,rfl⟩ (λi d δ hq h=>?_) λδ' h=>?_
 ·obtain⟨z,rfl⟩:=h
  obtain⟨hi,e⟩:=W5 hq
  rw[VR]at e
  subst e
  have hi2:EvI (iRb (Zc (Ze Zca (Zb 2) (fC (.int 1))) (Zc (Zak Zce (Zc (Zb 0) Zm)) Zm))) [some (.fz (.list (W.map bw))),some (.nd ((((Zcp W.length i).filter (isR W)).map ptD).map OT.fz)),some (.fz (dI i))] ((Xi (W.length-(i+1))).map λj=>dI (i+1+j)):=by
   have:=Zzw (m:=i+1) (n:=W.length) (δ:=[some (.fz (.list (W.map bw))),some (.nd ((((Zcp W.length i).filter (isR W)).map ptD).map OT.fz)),some (.fz (dI i))]) (as:=Zc (Ze Zca (Zb 2) (fC (.int 1))) (Zc (Zak Zce (Zc (Zb 0) Zm)) Zm)) (Zd ((Zai (Za rfl) Yd).cast (congrArg Xx (by omega))) (Zd (len rfl) Zh)) (by omega) (by omega)
   refine this.trans (congrArg (λl=>some (l,_)) ?_)
   exact Qh λj _=>congrArg Xx (by omega)
  have cmp:=Zkf (δ:=[some (.fz (.list (W.map bw))),some (.nd ((((Zcp W.length i).filter (isR W)).map ptD).map OT.fz)),some (.fz (dI i))]) (δ1:=[some (.fz (.list (W.map bw))),some (.nd ((((Zcp W.length i).filter (isR W)).map ptD).map OT.fz)),some (.fz (dI i))]) (caps:=[2,0]) (cs:=[some (.fz (dI i)),some (.fz (.list (W.map bw)))])
   (t:=tV (Ze gEq (Zv Z1 (Zc (Z4 gIx (Zb 2) (Zb 1)) (Zc (Z4 gIx (Zb 2) (Zb 0)) Zm))) (fC (.int 1)))) (me:=Zgy (Zc (Zb 1) (Zc (Zb 0) Zm)))
   (Xi (W.length-(i+1))) (λj=>dI (i+1+j)) (λj=>isR W (i,i+1+j)) (λj=>.fz (ptD (i,i+1+j))) hi2 (by rw[XN,Xw];omega) rfl (λj hj=>by
    have hj:=XQ.mp hj
    have a1:=Zd3 (W:=W) (i:=i) hi
    have a2:=Zd3 (W:=W) (i:=i+1+j) (by omega)
    refine Za9 ((Zoo (Z0 (Zd (Zb2 (Za (i:=2) rfl) (Za (i:=1) rfl) a1) (Zd (Zb2 (Za (i:=2) rfl) (Za (i:=0) rfl) a2) Zh)) (Zdu (by rw[Y8 w hi,Y8 w (show i+1+j<W.length by omega)]) (by rw[Y8 w hi];exact Ql w.lL (by decide)))) Yd rfl).cast (congrArg Ba ?_))
    show decide (((hd (wA W i) (wA W (i+1+j)):Nat):Int)=1)=decide (hd (wA W i) (wA W (i+1+j))=1)
    exact decide_eq_decide.mpr ⟨λh=>by omega,λh=>by omega⟩) λj _ _=>rfl
  have l2:(Zcp W.length i).length≤1000:=Ql (Zgc _ _) (Ql (Nat.mul_le_mul (Vh (Qi hi l10)) l10) (by decide))
  have l3:=Uq (isR W) (Zcp W.length i)
  have l4:=Uq (λj=>isR W (i,i+1+j)) (Xi (W.length-(i+1)))
  rw[Xw]at l4
  refine⟨_,_,rfl,.inl (Zj9 (ds:=((Xi (W.length-(i+1))).filter λj=>isR W (i,i+1+j)).map λj=>ptD (i,i+1+j)) cmp ?_ rfl ?_),some (.fz (dI i)),?_⟩
  ·rw[datas_map,Zhh]
  ·rw[Xd,Xd,Xd];omega
  ·show[_,some (OT.nd _),_]=[_,some (OT.nd _),_]
   have e2:(((Xi (W.length-(i+1))).filter (isR W∘ λj=>(i,i+1+j))).map λj=>(i,i+1+j)).map ptD=((Xi (W.length-(i+1))).filter λj=>isR W (i,i+1+j)).map λj=>ptD (i,i+1+j):=by rw[Qz];rfl
   rw[Zh9,List.filter_append,List.filter_map,Qg,Qg,e2];rfl
 ·obtain⟨z,rfl⟩:=h
  refine Zw9 rfl ?_
  rw[OT.data_nd,OT.map_fz,Ys];rfl
theorem Z2q:∀{a b:List (List Int)},a.Pairwise (λx y=>ltI x y=true)->b.Pairwise (λx y=>ltI x y=true)->(∀x,x∈a↔x∈b)->a=b:=by
 intro a
 induction a with
 | nil=>
  intro b _ _ h
  cases b with
  | nil=>rfl
  | cons y b=>exact nomatch(h y).mpr (.head _)
 | cons x a ih=>
  intro b ha hb h
  cases b with
  | nil=>exact nomatch(h x).mp (.head _)
  | cons y b=>
   obtain⟨a1,a2⟩:=V9.mp ha
   obtain⟨b1,b2⟩:=V9.mp hb
   have no:∀z:List Int,ltI z z≠true:=λz e=>by rw[Zp1]at e;cases e
   have e:x=y:=BW λc=>by
    have m1:x∈b:=by
     rcases Xp.mp ((h x).mp (.head _))with e|m
     ·exact absurd e c
     ·exact m
    have m2:y∈a:=by
     rcases Xp.mp ((h y).mpr (.head _))with e|m
     ·exact absurd e.symm c
     ·exact m
    exact no x (Zqz (a1 y m2) (b1 x m1))
   subst e
   rw[ih a2 b2 λz=>⟨λm=>?_,λm=>?_⟩]
   ·rcases Xp.mp ((h z).mp (.tail _ m))with e|m'
    ·exact absurd (e▸a1 z m) (no x)
    ·exact m'
   ·rcases Xp.mp ((h z).mpr (.tail _ m))with e|m'
    ·exact absurd (e▸b1 z m) (no x)
    ·exact m'
noncomputable def Zmh(cs:List (List Int))(c:List Int):List (List Int):=if c≠[]∧c∉cs then cs ++ [c]else cs
noncomputable def sdL(W:List (List Bool))(ks:List Nat):List (List Int):=ks.foldl (λcs k=>Zmh cs (sdK W k)) []
theorem Zus{cs:List (List Int)}{c x:List Int}:x∈Zmh cs c↔x∈cs∨(x=c∧c≠[]):=by
 unfold Zmh
 split
 ·rename_i h
  rw[X8,Xj]
  exact⟨λz=>z.imp id λe=>⟨e,h.1⟩,λz=>z.imp id λe=>e.1⟩
 ·rename_i h
  refine⟨.inl,λz=>z.elim id λe=>?_⟩
  exact BW λq=>h ⟨e.2,e.1▸q⟩
theorem Z2v{cs:List (List Int)}{c:List Int}(h:cs.Nodup):(Zmh cs c).Nodup:=by
 unfold Zmh
 split
 ·rename_i z
  exact JF.mpr ⟨h,X6.mpr ⟨(λz=>nomatch z),.nil⟩,λa ha b hb e=>z.2 (by rw[Xj.mp hb]at e;exact e▸ha)⟩
 ·exact h
theorem Z0o(W:List (List Bool)):∀(ks:List Nat) (cs:List (List Int)),cs.Nodup->(ks.foldl (λcs k=>Zmh cs (sdK W k)) cs).Nodup∧∀x,x∈ks.foldl (λcs k=>Zmh cs (sdK W k)) cs↔x∈cs∨∃k∈ks,x=sdK W k∧sdK W k≠[]:=by
 intro ks
 induction ks with
 | nil=>exact λcs h=>⟨h,λx=>⟨.inl,λz=>z.elim id λz=>by obtain⟨_,m,_⟩:=z;exact nomatch m⟩⟩
 | cons k ks ih=>
  intro cs h
  obtain⟨a,b⟩:=ih (Zmh cs (sdK W k)) (Z2v h)
  refine⟨a,λx=>(b x).trans ?_⟩
  rw[Zus]
  constructor
  ·intro z
   rcases z with(z|z)|z
   ·exact .inl z
   ·exact .inr ⟨k,.head _,z⟩
   ·obtain⟨q,m,e⟩:=z
    exact .inr ⟨q,.tail _ m,e⟩
  ·intro z
   rcases z with z|z
   ·exact .inl (.inl z)
   ·obtain⟨q,m,e⟩:=z
    rcases Xp.mp m with rfl|m
    ·exact .inl (.inr e)
    ·exact .inr ⟨q,m,e⟩
theorem Zlk(W:List (List Bool))(ks:List Nat):(sdL W ks).length≤ks.length:=by
 have key:∀(ks:List Nat) (cs:List (List Int)),(ks.foldl (λcs k=>Zmh cs (sdK W k)) cs).length≤cs.length+ks.length:=by
  intro ks
  induction ks with
  | nil=>exact λcs=>Xz _
  | cons k ks ih=>
   intro cs
   have h1:=ih (Zmh cs (sdK W k))
   have h2:(Zmh cs (sdK W k)).length≤cs.length+1:=by
    unfold Zmh
    split
    ·rw[XF];exact Xz _
    ·exact Nat.le_succ _
   rw[List.foldl_cons,QS]
   omega
 have:=key ks []
 rw[Bw,Uk]at this
 exact this
theorem Ycy{L:Nat}{W:List (List Bool)}{F:Nat->Nat->Nat}(w:Wd L W)(f:Fr W F):CSl (Zab W.length F (rsW W))=CSl (sdL W (Xi L)):=by
 obtain⟨a1,a2⟩:=Zq8 W.length F (rsW W) [] .nil
 obtain⟨b1,b2⟩:=Z0o W (Xi L) [] .nil
 refine Z2q (Zx2 a1) (Zx2 b1) λx=>?_
 rw[(Zff _).mem_iff,(Zff _).mem_iff]
 refine(a2 x).trans (Iff.trans ?_ (b2 x).symm)
 constructor
 ·intro z
  rcases z with z|z
  ·exact nomatch z
  ·obtain⟨r,hr,rfl⟩:=z
   obtain⟨k,hk,e,_⟩:=Zzz w f hr
   exact .inr ⟨k,XQ.mpr hk,e,e▸Z69 w f hr⟩
 ·intro z
  rcases z with z|z
  ·exact nomatch z
  ·obtain⟨k,hk,rfl,ne⟩:=z
   obtain⟨r,hr,e⟩:=Yb4 w f ne
   exact .inr ⟨r,hr,e.symm⟩
theorem Zwn(a b:List Int):gNe (Zk a) (Zk b)=some (.bool (!decide (a=b))):=by
 have s:∀p,Ud (Zk p)=true:=λp=>((Zpu p).shp (by omega)).ok
 have e:=Zt9 a b
 unfold gEq at e
 unfold gNe
 rw[if_pos (by rw[s a,s b];rfl)]at e⊢
 have:=Ba.inj (Qu e)
 rw[this]
theorem Zj0{L:Nat}{W:List (List Bool)}(w:Wd L W):Told Jd [.list (W.map bw)] (.list (Zvf (sdL W (Xi L)))):=by
 have l10:=w.l10
 have lL:=w.lL
 have len0:EvV (Zak Zkh (Zc (Z4 gIx (Zb 0) (fC (.int 0))) Zm)) [some (.fz (.list (W.map bw))),some (.nd []),none,none] (.int L):=(Zhp (Zd (Zb2 (Za rfl) Yd (Zd3 (i:=0) w.l1)) Zh) (Ydq (by rw[Y8 w w.l1];omega))).cast (by rw[Y8 w w.l1])
 refine Z6 rfl<|Zw Zb3<|Zdy (ds:=Ze5 0 L) (λi δ=>∃z2 z3,δ=[some (.fz (.list (W.map bw))),some (csO (sdL W (Xi i))),z2,z3]) (Zbh (Zd len0 Zh) (by omega)) ⟨_,_,rfl⟩ (λi d δ hd h=>?_) λδ' h=>?_
 ·obtain⟨z2,z3,rfl⟩:=h
  obtain⟨hi,e⟩:=W5 hd
  rw[VR]at e
  subst e
  have side:EvV (Yc 1 [0,2] (iRa (Zc (Zak Zce (Zc (Zb 0) Zm)) Zm)) (gNm 0) (tV (Ze gNe (Z4 Zld (Z4 gIx (Zb 1) (Zb 0)) (Zb 2)) (Z4 Zld (Z4 gIx (Zb 1) (fC (.int 0))) (Zb 2)))) (Zb 0)) [some (.fz (.list (W.map bw))),some (csO (sdL W (Xi i))),some (.fz (dI i)),z3] (Zk (sdK W i)):=by
   have:=Zi0 (δ:=[some (.fz (.list (W.map bw))),some (csO (sdL W (Xi i))),some (.fz (dI i)),z3]) (caps:=[0,2]) (it:=iRa (Zc (Zak Zce (Zc (Zb 0) Zm)) Zm)) (cs:=[some (.fz (.list (W.map bw))),some (.fz (dI i))]) (t:=tV (Ze gNe (Z4 Zld (Z4 gIx (Zb 1) (Zb 0)) (Zb 2)) (Z4 Zld (Z4 gIx (Zb 1) (fC (.int 0))) (Zb 2)))) (me:=Zb 0) (Xi W.length) dI (λx=>bt W i x !=bt W i 0) (by rw[←Zuu];exact Zbh (Zd ((Zbw (Za rfl)).cast (by rw[Xd])) Zh) (by omega)) (by rw[Xw];omega) rfl (λx hx=>?_) (λx _ _=>rfl)
   ·refine this.cast ?_
    unfold sdK sdI Zk
    rw[Qz]
    refine congrArg JN (congrArg (List.map dI) (List.filter_congr λx _=>?_))
    dsimp only
    rw[QJ]
   ·have hx:=XQ.mp hx
    exact Za9 (Zo (Zdp (Zb2 (Za rfl) (Za rfl) (Zd3 hx)) (Za rfl) (ixB (by rw[Y8 w hx];omega) (by rw[Y8 w hx];exact hi)) (OT.data_fz _)) (Zdp (Zb2 (Za rfl) Yd (Zd3 (i:=0) w.l1)) (Za rfl) (ixB (by rw[Y8 w w.l1];omega) (by rw[Y8 w w.l1];exact hi)) (OT.data_fz _)) (Yew _ _))
  have s1:=Z8 (i:=3) side
  have ll:=Zlk W (Xi i)
  rw[Xw]at ll
  have tk:sdL W (Xi (i+1))=Zmh (sdL W (Xi i)) (sdK W i):=by
   unfold sdL
   rw[Vq,List.foldl_append];rfl
  have t1:∀{b:Bool},(!decide (sdK W i=[]))=b->EvT (tV (Ze gNe (Zb 3) (Zcx Zm))) [some (.fz (.list (W.map bw))),some (csO (sdL W (Xi i))),some (.fz (dI i)),some (.fz (Zk (sdK W i)))] b:=λh=>h▸Za9 (Zo (Za rfl) (Zic (ds:=[]) Zh (by decide)) (Zwn (sdK W i) []))
  have t2:∀{b:Bool},(!decide (sdK W i∈sdL W (Xi i)))=b->EvT (tV (Ze (Zku true) (Zb 3) (Zco 1))) [some (.fz (.list (W.map bw))),some (csO (sdL W (Xi i))),some (.fz (dI i)),some (.fz (Zk (sdK W i)))] b:=λh=>h▸Za9 (Zo (Za rfl) (Zex rfl (Zfc _)) (Ztv _ _))
  by_cases c:sdK W i≠[]∧sdK W i∉sdL W (Xi i)
  ·refine⟨_,_,rfl,.inl (Z5 s1 (Zcr (Zof (t1 (by rw[decide_eq_false c.1];rfl)) (t2 (by rw[decide_eq_false c.2];rfl))) (Zez (ts:=((sdL W (Xi i)).map Zk).map OT.fz) (Za rfl) rfl (by rw[Xd,Xd];omega)))),some (.fz (dI i)),some (.fz (Zk (sdK W i))),?_⟩
   rw[tk,Zmh,if_pos c]
   unfold csO
   rw[Qg,Qg];rfl
  ·refine⟨_,_,rfl,.inl (Z5 s1 (Yg ?_ rfl)),some (.fz (dI i)),some (.fz (Zk (sdK W i))),?_⟩
   ·by_cases c1:sdK W i=[]
    ·exact Zlt (t1 (by rw[decide_eq_true c1];rfl))
    ·exact Zof (t1 (by rw[decide_eq_false c1];rfl)) (t2 (by rw[decide_eq_true (BW λq=>c ⟨c1,q⟩)];rfl))
   ·rw[tk,Zmh,if_neg c];rfl
 ·obtain⟨z2,z3,rfl⟩:=h
  rw[Ys]
  have ll:=Zlk W (Xi L)
  rw[Xw]at ll
  obtain⟨o,h1,h2⟩:=Zm4 (Zxk (δ:=[some (.fz (.list (W.map bw))),some (.fz (.list ((sdL W (Xi L)).map Zk))),z2,z3]) (i:=1) rfl (by omega))
  exact⟨o,_,Zf6 (o:=csO (sdL W (Xi L))) rfl (by rw[Zfc];exact h1),h2⟩
theorem Zlj{L:Nat}{W:List (List Bool)}(w:Wd L W):Told Wn [.list (W.map bw)] (.list ((Xi W.length).map (Zod (CSl (sdL W (Xi L)))))):=by
 have l10:=w.l10
 have lL:=w.lL
 have ll:=Zlk W (Xi L)
 rw[Xw]at ll
 have cl:(CSl (sdL W (Xi L))).length≤1000:=by rw[(Zff _).length_eq];omega
 refine Z6 rfl<|Zw (Z8 (Z0 (Zd (Za rfl) Zh) (Zj0 w)))<|Wm (Zaz (cs:=[some (.fz (.list (Zvf (sdL W (Xi L)))))]) (Xi W.length) dI (Zod (CSl (sdL W (Xi L)))) (by rw[←Zuu];exact Zbh (Zd ((Zbw (Za rfl)).cast (by rw[Xd])) Zh) (by omega)) (by rw[Xw];omega) rfl λi hi=>?_)
 have srt:EvV (Zb 1) [some (.fz (dI i)),some (.fz (.list (Zvf (sdL W (Xi L)))))] (.list ((CSl (sdL W (Xi L))).map Zk)):=by rw[←Zq7];exact Za rfl
 exact⟨_,Zxl Yd (Zd (Zaz (cs:=[some (.fz (dI i))]) (CSl (sdL W (Xi L))) Zk (λc=>Bh (sgB (decide ((i:Int)∈c)))) (Wi srt) (by omega) rfl λc _=>Zdp Yd (Zhp (Zd (Zo (Za rfl) (Za rfl) (Zdz false (i:Int) c)) Zh) (Z7x _)) (Ycw _) (OT.data_fz _)) Zh) (Zpw cl),OT.data_fz _⟩
theorem Yc3:Zwq (.int 10) (.int 45)=some (.int 1000000000000000000000000000000000000000000000):=rfl
theorem Ygd:Zgz (.int 1000000000000000000000000000000000000000000000) (.int 1000000000000000000000000000000000000000000000)=some (.int 1000000000000000000000000000000000000000000000000000000000000000000000000000000000000000000):=rfl
theorem Zwp(c:Int)(m:Nat)(b:Int)(hm:m≤1000)(hb:(decide (0<b)&&decide (b<18446744073709551616))=true):∃vs:List Int,Told Yv [.int c,.int m,.int b] (Zk vs)∧vs.length=m:=by
 have b0:b≠0:=λe=>by rw[e]at hb;exact absurd hb (by decide)
 have key:∃d,Told Yv [.int c,.int m,.int b] d∧∃vs,d=Zk vs∧vs.length=m :=
  Z1a rfl<|Zdq (Z8 (J4 Za (Zo (Zo Yd Yd Yc3) (Zo Yd Yd Yc3) Ygd) (by decide)))<|Zdq Zb3<|Zdq (Z8 (Zs7 Za (Zo Yd Yd Yb5)))<|Zmr (ds:=Ze5 0 m) (λi δ=>∃(vs:List Int) (c x:Int) (z1 z2:Option OT),δ=[some (.fz (.int c)),some (.fz (.int m)),some (.fz (.int b)),some (.nd (vs.map λv=>.fz (.int v))),some (.fz (.int x)),z1,z2]∧vs.length=i)
   (Zbh (n:=m) (Zd Za Zh) (by omega)) ⟨[],_,_,none,none,rfl,rfl⟩ (λi d δ hd q91=>by
    obtain⟨vs,c,x,z1,z2,e,hl⟩:=q91
    subst e
    obtain⟨hi,rfl⟩:=W5 hd
    have n0:=Zr7 (i:=(c+977*(0+(i:Int))+1)*48271) (j:=2147483647) (by decide)
    have n1:=Zti (i:=(c+977*(0+(i:Int))+1)*48271) (j:=2147483647) (by decide)
    have a1:∀z2,wE (Ze Zc9 (Ze Zgz (Ze Zca (Ze Zca (Zb 0) (Ze Zgz (fC (.int 977)) (Zb 5))) (fC (.int 1))) (fC (.int 48271))) (fC (.int 2147483647))) (Wz 6) [some (.fz (.int c)),some (.fz (.int m)),some (.fz (.int b)),some (.nd (vs.map λv=>.fz (.int v))),some (.fz (.int x)),some (.fz (.int (0+(i:Int)))),z2]= .nx _:=λz2=>Z8 (J4 (Zma (Zai (Zai Za (Zfk Yd Za)) Yd) Yd) Yd (by decide))
    by_cases q:1000000000000000000≤c
    ·exact⟨_,_,rfl,.inl (Z5 (a1 z2)<|Z5 (Z8 (J4 (Zfk Za Za (by omega)) Yd (by decide)))<|Z5 (Z8 (Zfp (J4 (Zma (Zai Za (Zfk Yd (Zai Za Yd))) Yd) Yd (by decide)) Yd))<|
      Z5 (Zcr (Za9 (Z06 Za (Zo Yd Yd Yb5) (decide_eq_true q))) (Z5 (Z8 Za) (Z8 (Zfp Za Za hb))))<|
      (Znv (vs:=vs) (J4 Za Za b0) rfl (by omega))),_,_,_,_,_,rfl,by rw[XF,hl];rfl⟩
    ·exact⟨_,_,rfl,.inl (Z5 (a1 z2)<|Z5 (Z8 (J4 (Zfk Za Za (by omega)) Yd (by decide)))<|Z5 (Z8 (Zfp (J4 (Zma (Zai Za (Zfk Yd (Zai Za Yd))) Yd) Yd (by decide)) Yd))<|
      Z5 (Yg (Za9 (Z06 Za (Zo Yd Yd Yb5) (decide_eq_false q))) rfl)<|
      (Znv (vs:=vs) (J4 Za Za b0) rfl (by omega))),_,_,_,_,_,rfl,by rw[XF,hl];rfl⟩)
   λδ' q92=>by
    obtain⟨vs,c,x,z1,z2,e,hl⟩:=q92
    subst e
    rw[Ys]at hl
    exact Ygu rfl ⟨vs,Zvj vs,hl⟩
 obtain⟨d,h,vs,rfl,hl⟩:=key
 exact⟨vs,h,hl⟩
theorem Zgj{α β:Type}(f:α->β):∀(l:List α) (j:Nat),(l.map f).eraseIdx j=(l.eraseIdx j).map f
 | [],_=>rfl
 | _ :: _,0=>rfl
 | a :: l,j+1=>congrArg (f a :: ·) (Zgj f l j)
theorem Zun(l:List Int)(lo hi:Option Int):∃l':List Int,cutD (l.map Xx) lo hi=l'.map Xx∧l'.length≤l.length:=by
 refine⟨(l.drop (HT.sIx l.length 0 lo)).take (HT.sIx l.length l.length hi-HT.sIx l.length 0 lo),?_,?_⟩
 ·unfold cutD
  rw[Xd,List.map_take,List.map_drop]
 ·rw[Vo,BR];omega
theorem Z3x{e:FE}{δ:Zf}{lo hi:FO}{l h:Option Int}{p:List Int}(he:EvV e δ (Zk p))(hl:EvO lo δ l)(hh:EvO hi δ h):∃q,EvV (fSl e lo hi) δ (Zk q)∧q.length≤p.length:=by
 obtain⟨q,e1,e2⟩:=Zun p l h
 refine⟨q,?_,e2⟩
 have:=Zy9 (ds:=p.map Xx) he hl hh
 rwa[e1]at this
theorem Z0p{a b:FE}{δ:Zf}{p q:List Int}(ha:EvV a δ (Zk p))(hb:EvV b δ (Zk q))(hl:p.length+q.length≤1000000):EvV (Z4 Zs1 a b) δ (Zk (p ++ q)):=by
 refine(Zqt (ds:=p.map Xx) (es:=q.map Xx) ha hb (by rw[Xd,Xd];exact hl)).cast ?_
 unfold Zk
 rw[Qg]
theorem Zf7{α:Type}{d:α}:∀(l:List α) (j:Nat),j<l.length->(l.getD j d :: l.eraseIdx j).Perm l
 | [],_,h=>by simp at h
 | a :: l,0,_=>.refl _
 | a :: l,j+1,h=>(List.Perm.swap _ _ _).trans ((Zf7 l j (by simpa using h)).cons a)
noncomputable def wO(W:List (List Bool)):OT:=.nd ((W.map bw).map OT.fz)
theorem Ziu(W:List (List Bool)):(wO W).data= .list (W.map bw):=by unfold wO;rw[OT.data_nd,OT.map_fz]
theorem Yb1{i:Nat}{a:FE}{δ:Zf}{l:List (List Bool)}{j:Nat}(hi:δ[i]? =some (some (wO l)))(ha:EvV a δ (dI j))(hj:j<l.length)(hl:l.length≤1000) :
  Z7p i a δ=some (.fz (bw (l.getD j [])),δ.set i (some (wO (l.eraseIdx j)))):=by
 have e1:((l.map bw).map OT.fz)[j]? =some (.fz (bw (l.getD j []))):=by
  rw[Xl,Xl,Xr,Xk hj];rfl
 unfold wO at hi⊢
 unfold Z7p
 rw[hi]
 dsimp only
 rw[Zr1 (i:=(j:Int)) ha,Xh]
 dsimp only
 rw[hi]
 dsimp only
 rw[OT.data_fz]
 dsimp only
 rw[Zmq (by rw[Xd,Xd];exact hj)]
 dsimp only
 rw[e1]
 dsimp only
 rw[if_pos (by rw[Xd,Xd,XN];omega),Zgj,Zgj]
theorem Zuf{a b:List Bool}(h:a.length+b.length≤1000):Zcs (bw a) (bw b)=some (bw (a ++ b)):=by
 show(if(mkB a).length+(mkB b).length≤Xq then some (Bh (mkB a ++ mkB b))else none)=_
 rw[Zi1,Zi1,if_pos (by rw[XN];omega),Z6x];rfl
theorem b0:Bh "0"=bw [false]:=congrArg Bh (Zqy false)
theorem b1:Bh "1"=bw [true]:=congrArg Bh (Zqy true)
theorem be:Bh ""=bw []:=congrArg Bh Z36
theorem Z1w(b:Bool):∀k:Fin 6,Zsv (mkB [b]) (k.1:Int)=true∧Zt4 (mkB [b]) (k.1:Int)=mkB (X4 k.1 b):=by cases b<;>decide +kernel
theorem Z4k(b:Bool){k:Nat}(hk:k<6):Zg5 (bw [b]) (dI k)=some (bw (X4 k b)):=by
 obtain⟨h1,h2⟩:=Z1w b ⟨k,hk⟩
 show(if Zsv (mkB [b]) (k:Int)=true then some (Bh (Zt4 (mkB [b]) (k:Int)))else none)=_
 rw[if_pos h1,h2];rfl
theorem Zlq(W:List (List Bool))(v:List Bool):wO (W ++ [v])= .nd ((W.map bw).map OT.fz ++ [.fz (bw v)]):=by
 unfold wO
 rw[Qg,Qg];rfl
noncomputable def Zt2(m i:Nat):List (List Bool):=(Xi i).flatMap λk=>[X4 k true ++ X4 (m-k) false,X4 k false ++ X4 (m-k) true]
theorem Zk1(m i:Nat):Zt2 m (i+1)=Zt2 m i ++ [X4 i true ++ X4 (m-i) false] ++ [X4 i false ++ X4 (m-i) true]:=by
 unfold Zt2
 rw[Vq,V0,QB];rfl
theorem Zi2(m:Nat):∀i,(Zt2 m i).length=2*i:=by
 intro i
 induction i with
 | zero=>rfl
 | succ i ih=>rw[Zk1,XF,XF,ih];simp;omega
theorem Z0u{m:Nat}(hm:m<6):Told Ju [dI m] (.list ((rgW m).map bw)):=by
 have half:∀(a b:Bool) {i:Nat} {o:Option OT},i<m->EvV (Ze Zcs (Ze Zg5 (fC (.str (sgB a))) (Zb 2)) (Ze Zg5 (fC (.str (sgB b))) (Ze gSb (Zb 0) (Zb 2)))) [some (.fz (dI m)),o,some (.fz (dI i))] (bw (X4 i a ++ X4 (m-i) b)):=λa b {i o} hi=>by
  have ea:EvV (fC (.str (sgB a))) [some (.fz (dI m)),o,some (.fz (dI i))] (bw [a]):=by rw[Zqy];exact Yd
  have eb:EvV (fC (.str (sgB b))) [some (.fz (dI m)),o,some (.fz (dI i))] (bw [b]):=by rw[Zqy];exact Yd
  refine Zo (Zo ea (Za rfl) (Z4k a (by omega))) (Zo (y:=dI (m-i)) eb ((Zs7 (Za rfl) (Za rfl)).cast ?_) (Z4k b (by omega))) (Zuf (by rw[Vb,Vb];omega))
  ·show Xx ((m:Int)-(i:Int))=Xx ((m-i:Nat):Int)
   congr 1
   omega
 refine Z6 rfl<|Zw Zb3<|Zdy (ds:=Ze5 0 m) (λi δ=>∃z,δ=[some (.fz (dI m)),some (wO (Zt2 m i)),z]) (Zbh (Zd (Za rfl) Zh) (by omega)) ⟨_,rfl⟩ (λi d δ hq h=>?_) λδ' h=>?_
 ·obtain⟨z,rfl⟩:=h
  obtain⟨hi,e⟩:=W5 hq
  rw[VR]at e
  subst e
  have l:=Zi2 m i
  refine⟨_,_,rfl,.inl (Z5 (δ':=[some (.fz (dI m)),some (wO (Zt2 m i ++ [X4 i true ++ X4 (m-i) false])),some (.fz (dI i))]) ((Zez (ts:=((Zt2 m i).map bw).map OT.fz) (half true false hi) rfl (by rw[Xd,Xd];omega)).trans ?_) ((Zez (ts:=((Zt2 m i ++ [X4 i true ++ X4 (m-i) false]).map bw).map OT.fz) (half false true hi) rfl (by rw[Xd,Xd,XF];simp;omega)).trans ?_)),some (.fz (dI i)),rfl⟩
  ·rw[Zlq];rfl
  ·show RS.nx [_,some (OT.nd _),_]=_
   rw[Zk1,Zlq]
 ·obtain⟨z,rfl⟩:=h
  rw[Ys]
  exact Zw9 rfl (Ziu _)
theorem Z1o{row:List Int}{many:Nat}(hr:many≤row.length)(h1:1≤many)(h10:many≤10):∃L W,Told Wa [Zk row,dI many] (.list (W.map bw))∧Iso L W∧W.length=many∧L≤10:=by
 have key:∃d,Told Wa [Zk row,dI many] d∧∃L W,d= .list (W.map bw)∧Iso L W∧W.length=many∧L≤10:=by
  refine Z1a rfl<|Zdq (Z8 (d:=.list ([[]].map bw)) ((Zic (ds:=[.str ""]) (Zd Yd Zh) (by decide)).cast (by rw[be];rfl)))<|Zmr (ds:=Ze5 1 (many-1)) (λi δ=>∃W z3 z4,δ=[some (.fz (Zk row)),some (.fz (dI many)),some (.fz (.list (W.map bw))),z3,z4]∧Iso i W∧W.length=i+1) ((Zzw (m:=1) (n:=many) (Zd Yd (Zd (Za rfl) Zh)) (by decide) (by omega))) ⟨[[]],_,_,rfl,Zzh,rfl⟩ (λi d δ hq h=>?_) λδ' h=>?_
  ·obtain⟨W,z3,z4,rfl,I,wl⟩:=h
   obtain⟨hi,e⟩:=W5 hq
   have e:d=dI (i+1):=e.trans (congrArg Xx (by omega))
   subst e
   obtain⟨j,hj,lj⟩:=Zbu (row.getD (i+1) 0) (n:=i+1) (by omega)
   have hjW:j<W.length:=by omega
   have ixj:EvV (Z4 gIx (Zb 2) (Ze Zc9 (Z4 gIx (Zb 0) (Zb 3)) (Zb 3))) [some (.fz (Zk row)),some (.fz (dI many)),some (.fz (.list (W.map bw))),some (.fz (dI (i+1))),z4] (bw (wA W j)):=by
    refine Zb2 (Za rfl) ((J4 (Zb1 (p:=row) (i:=((i+1:Nat):Int)) (Za rfl) (Za rfl) (by omega) (by omega)) (Za rfl) (by omega)).cast ?_) (Zd3 hjW)
    rw[QJ]
    exact congrArg Xx hj
   have lw:∀w∈W,w.length=i:=I.len
   have grow:EvV (Z4 Zs1 (Yc 1 [] (Jw (Zb 2)) (gNm 0) Zc2 (Ze Zcs (Zb 0) (fC (.str "0")))) (Zcx (Zc (Ze Zcs (Zb 4) (fC (.str "1"))) Zm))) [some (.fz (Zk row)),some (.fz (dI many)),some (.fz (.list (W.map bw))),some (.fz (dI (i+1))),some (.fz (bw (wA W j)))] (.list ((W.map (· ++ [false]) ++ [wA W j ++ [true]]).map bw)):=by
    have c1:=Zaz (δ:=[some (.fz (Zk row)),some (.fz (dI many)),some (.fz (.list (W.map bw))),some (.fz (dI (i+1))),some (.fz (bw (wA W j)))]) (caps:=[]) (it:=Jw (Zb 2)) (me:=Ze Zcs (Zb 0) (fC (.str "0"))) (cs:=[]) W bw (λv=>bw (v ++ [false])) (Wi (Za rfl)) (by omega) rfl (λv hv=>by
     rw[b0]
     exact Zo (Za rfl) Yd (Zuf (by rw[lw v hv];show i+1≤1000;omega)))
    have c2:EvV (Zcx (Zc (Ze Zcs (Zb 4) (fC (.str "1"))) Zm)) [some (.fz (Zk row)),some (.fz (dI many)),some (.fz (.list (W.map bw))),some (.fz (dI (i+1))),some (.fz (bw (wA W j)))] (.list [bw (wA W j ++ [true])]):=by
     rw[b1]
     exact Zic (ds:=[bw (wA W j ++ [true])]) (Zd (Zo (Za rfl) Yd (Zuf (by rw[lw _ (Zkb hjW)];show i+1≤1000;omega))) Zh) (show 1≤1000 by decide)
    refine(Zqt c1 c2 (by rw[Xd];show W.length+1≤1000000;omega)).cast ?_
    rw[Qg,Qz];rfl
   refine⟨_,_,rfl,.inl (Z5 (Z8 ixj) (Z8 grow)),_,_,_,rfl,I.grow (Zkb hjW),?_⟩
   rw[XF,Xd,wl];rfl
  ·obtain⟨W,z3,z4,rfl,I,wl⟩:=h
   rw[Ys]at I wl
   exact Z61 (Za rfl) ⟨_,W,rfl,I,by omega,by omega⟩
 obtain⟨d,T,L,W,rfl,I,l,hL⟩:=key
 exact⟨L,W,T,I,l,hL⟩
theorem Zpz{row:List Int}{most:Nat}(hr:10≤row.length)(h1:1≤most)(h10:most≤10):∃L W,Told Y4 [Zk row,dI most] (.list (W.map bw))∧Iso L W∧1≤W.length∧W.length≤most∧L≤10:=by
 have r0:∀{k:Nat},k<10->EvV (Z4 gIx (Zb 0) (fC (.int k))) [some (.fz (Zk row)),some (.fz (dI most))] (.int (row.getD k 0)):=fun{k} hk=>Zb1 (p:=row) (i:=(k:Int)) (Za rfl) Yd (by omega) (by omega)
 obtain⟨t,ht,lt⟩:=Zbu (row.getD 1 0) (n:=most) (by omega)
 obtain⟨L,W,T,I,l,hL⟩:=Z1o (row:=row) (many:=1+t) (by omega) (by omega) (by omega)
 have tree:∀{S:FS},Zkm (wE (Zv Wa (Zc (Zb 0) (Zc (Ze Zca (fC (.int 1)) (Ze Zc9 (Z4 gIx (Zb 0) (fC (.int 1))) (Zb 1))) Zm))) W8) [some (.fz (Zk row)),some (.fz (dI most))] (.list (W.map bw)):=Wm (Z0 (Zd (Za rfl) (Zd ((Zai Yd (J4 (r0 (k:=1) (by decide)) (Za rfl) (by omega))).cast (by rw[ht];exact congrArg Xx (by omega))) Zh)) T)
 have q0:EvT (tV (Ze gEq (Ze Zc9 (Z4 gIx (Zb 0) (fC (.int 0))) (fC (.int 3))) (fC (.int 1)))) [some (.fz (Zk row)),some (.fz (dI most))] (decide ((row.getD 0 0).fmod 3=1)):=Za9 (Zoo (J4 (r0 (k:=0) (by decide)) Yd (by decide)) Yd rfl)
 have q1:EvT (tV (Ze gGe (Zb 1) (fC (.int 4)))) [some (.fz (Zk row)),some (.fz (dI most))] (decide (4≤most)):=Za9 (Z06 (Za rfl) Yd (decide_eq_decide.mpr (by omega)))
 by_cases c:(row.getD 0 0).fmod 3=1∧4≤most
 ·rw[decide_eq_true c.1]at q0
  rw[decide_eq_true c.2]at q1
  obtain⟨t,ht,lt⟩:=Zbu (row.getD 1 0) (n:=most/2-1) (by omega)
  have fd:EvV (Ze gSb (Ze Zag (Zb 1) (fC (.int 2))) (fC (.int 1))) [some (.fz (Zk row)),some (.fz (dI most))] (dI (most/2-1)):=by
   refine(Zs7 (Zfp (i:=(most:Int)) (j:=2) (Za (i:=1) rfl) Yd) Yd).cast (congrArg Xx ?_)
   rw[Zlw (by decide)]
   omega
  refine⟨2+t,rgW (2+t),Z6 rfl (Zb8 (Zfy (Zof q0 q1) (Wm (Z0 (Zd ((Zai Yd (J4 (r0 (k:=1) (by decide)) fd (by omega))).cast (by rw[ht];exact congrArg Xx (by omega))) Zh) (Z0u (by omega)))))),Zv9 ⟨2+t,by omega⟩ (by show 2≤2+t;omega),?_,?_,by omega⟩
  ·show 1≤(Zt2 (2+t) (2+t)).length
   rw[Zi2];omega
  ·show(Zt2 (2+t) (2+t)).length≤most
   rw[Zi2];omega
 ·refine⟨L,W,Z6 rfl (Zw (Yg ?_ rfl) (tree (S:=fNx))),I,by omega,by omega,hL⟩
  by_cases c0:(row.getD 0 0).fmod 3=1
  ·rw[decide_eq_true c0]at q0
   rw[decide_eq_false λz=>c ⟨c0,z⟩]at q1
   exact Zof q0 q1
  ·rw[decide_eq_false c0]at q0
   exact Zlt q0
theorem Ztx:∀(ts:List Str),(∀t∈ts,JB t=true)->JB (Str.join "" ts)=true
 | [],_=>by decide +kernel
 | [x],h=>h x (.head _)
 | x :: y :: r,h=>by
  show JB (x ++ "" ++ Str.join "" (y :: r))=true
  rw[Zxx,Zxx,h x (.head _),Ztx (y :: r) λt m=>h t (.tail _ m),Ygw];rfl
theorem Z7v(CS:List (List Int))(p:Nat):Sh 0 (Zod CS p):=⟨by
 unfold Zod
 rw[JT]
 show JB (UT "" _)=true
 unfold UT
 rw[StrLaws.glued_eq_join]
 exact Ztx _ λt m=>by
  obtain⟨c,_,rfl⟩:=XX.mp m
  exact Yb8 _,Nat.le_of_eq rfl⟩
structure Okv(w:Str)(v:Xa):Prop where
 ok:JB w=true
 sh:Sh 3 v
 pl:Z2 v=true
theorem Zvw{w:Str}{v:Xa}(h:Okv w v):gEq (.tuple [.str w,v]) (.tuple [.str w,v])=some (.bool true)∧gNe (.tuple [.str w,v]) (.tuple [.str w,v])=some (.bool false):=by
 refine Zjk (Zw7 (n:=3) λd hd=>?_) (by decide) ?_
 ·rcases Xp.mp hd with rfl|hd
  ·exact(Znc h.ok).mono (by decide)
  ·rw[Xj.mp hd];exact h.sh
 ·rw[Z2]
  refine Zj8 λd hd=>?_
  rcases Xp.mp hd with rfl|hd
  ·exact Zbp _
  ·rw[Xj.mp hd];exact h.pl
theorem Z0z(CS:List (List Int))(n:Nat):Okv "halves" (.list ((Xi n).map (Zod CS))):=by
 refine⟨by decide +kernel,(Zen (n:=0) λd hd=>?_).mono (by decide),?_⟩
 ·obtain⟨x,_,rfl⟩:=XX.mp hd
  exact Z7v _ _
 ·rw[Z2]
  refine Zj8 λd hd=>?_
  obtain⟨x,_,rfl⟩:=XX.mp hd
  exact Zbp _
theorem Z7w{α:Type}{it:FI}{me:FE}{δ:Zf}(xs:List α)(mk f:α->Xa)(hf:∀x∈xs,Zac (mk x)=true)(hi:EvI it δ (xs.map mk))(hz:xs.length≤1000000)(hb:blk 1 [] δ=[none])(h:∀x∈xs,EvV me [some (.fz (mk x))] (f x)):EvV (Yc 1 [] it (Z3a 0) Zc2 me) δ (.list (xs.map f)):=by
 have key:∀(xs:List α),(∀x∈xs,Zac (mk x)=true)->(∀x∈xs,EvV me [some (.fz (mk x))] (f x))->∀z:Option OT,∃ts z',compLoop (Z3a 0) Zc2 me (xs.map mk) [z]=some (ts,[z'])∧OT.datas ts=xs.map f:=by
  intro xs
  induction xs with
  | nil=>exact λ_ _ z=>⟨[],z,rfl,rfl⟩
  | cons x xs ih=>
   intro hf h z
   obtain⟨t,e1,d1⟩:=h x (.head _)
   obtain⟨ts,z',e2,d2⟩:=ih (λy hy=>hf y (.tail _ hy)) (λy hy=>h y (.tail _ hy)) (some (.fz (mk x)))
   refine⟨t :: ts,z',?_,by rw[OT.datas,d1,d2];rfl⟩
   rw[X3,compLoop,Z25,if_pos (hf x (.head _))]
   show(me [some (.fz (mk x))]).bind _=_
   rw[e1,Xh]
   dsimp only
   rw[e2];rfl
 obtain⟨ts,z',e,d⟩:=key xs hf h none
 unfold EvI at hi
 refine⟨.nd ts,?_,by rw[OT.data_nd,←datas_map,d]⟩
 unfold Yc
 rw[hi,Xh]
 dsimp only
 rw[if_pos (by rw[XN,Xd];omega),hb,e];rfl
theorem Zyh{l:List Xa}{bs:List Bool}(h:l=bs.map Ba)(ht:∀b∈bs,b=true):Z9p [.list l]=some (.bool true):=by
 show(Zfx l).bind _=_
 rw[h,Zpa,Xh,show bs.all id=true from VH.mpr λb hb=>ht b hb]
theorem Z3q{F:FD}{as:FA}{δ:Zf}{ds:List Xa}{o:OT}{i:Nat}(h:EvA as δ ds)(hF:F ds= .ok o):wE (Zv F as) (Ja i) δ= .nx (δ.set i (some o)):=by
 obtain⟨ts,e1,d1⟩:=h
 refine Zl8 ?_
 rw[Zm6,e1,Xh,d1,hF];rfl
theorem Z1i{e:FE}{st:FO}{δ:Zf}{ds:List Xa}{k:Int}(h:EvV e δ (.list ds))(hs:EvO st δ (some k))(hk:k≠0):EvV (Zu8 e oN oN st) δ (.list (Zem ds none none (some k))):=by
 obtain⟨t,e1,e2⟩:=h
 unfold EvO at hs
 refine⟨.nd ((Zem ds none none (some k)).map OT.fz),?_,by rw[OT.data_nd,OT.map_fz]⟩
 unfold Zu8
 rw[e1]
 show(st δ).bind _=_
 rw[hs]
 show(stepOf t.data none none (some k)).bind _=_
 rw[e2]
 show(if some k=some 0 then none else some _:Option OT).bind _=_
 rw[if_neg (λz=>hk (Qu z))];rfl
theorem Zvi{j:FE}{δ:Zf}{i k:Nat}{ts us:List OT}(hi:δ[i]? =some (some (.nd ts)))(hj:EvV j δ (dI k))(ht:ts[k]? =some (.nd us)):Zjr i j δ= .nx (δ.set i (some (.nd (ts.set k (.nd []))))):=by
 obtain⟨t1,e1,d1⟩:=hj
 have d1:t1.data= .int (k:Int):=d1
 unfold Zjr
 rw[hi]
 dsimp only
 rw[Zcb,e1,Yi,d1]
 dsimp only
 rw[Zmq (Xn.mp ht).1]
 dsimp only
 rw[ht]
noncomputable def Z1e(n:Nat)(f:Nat->Nat):Xa:=.list ((Xi n).map λp=>.tuple [dI (f p),.int 1])
theorem Z2i{e:FE}{δ:Zf}{i:Nat}{o:OT}{ts:List OT}(h:e δ=some (o,δ))(hi:δ[i]? =some (some (.nd ts)))(hl:ts.length≤1000000):Zay i e δ= .nx (δ.set i (some (.nd (ts ++ [o])))):=by
 rw[Zlo,hi,Zox,h,Yi,hi,Zox,Zqq hl]
theorem Zjv{n:Nat}{rs:List (Nat×Nat)}(R:Roads n rs)(hc:Z7l n rs):∃F:Nat->Nat->Nat,(∀s<n,Dst n rs s (F s))∧∃ts:List OT,Je [dI n,.list (rs.map ptD)]= .ok (.nd ts)∧ts.map OT.data=(Xi n).map (λs=>Z1e n (F s))∧∀t∈ts,∃us,t= .nd us:=by
 have n10:=R.n10
 obtain⟨F,hF,T⟩:=Zfz R hc
 refine⟨F,hF,?_⟩
 refine Exists.elim (Zi8 (δ:=[some (.fz (dI n)),some (.fz (.list (rs.map ptD))),some (.nd []),none]) (it:=Jw (Zv Z9 (Zc (Zb 0) (Zc (Zb 1) Zm)))) (g:=gNm 3) (S:=Zay 2 (Yc 1 [] (Jw (Zb 3)) (gNm 0) Zc2 (Zgy (Zc (Zb 0) (Zc (fC (.int 1)) Zm)))))
  (λi δ=>∃ts z,δ=[some (.fz (dI n)),some (.fz (.list (rs.map ptD))),some (.nd ts),z]∧ts.map OT.data=(Xi i).map (λs=>Z1e n (F s))∧∀t∈ts,∃us,t= .nd us)
  (Wi (Z0 (Zd (Za rfl) (Zd (Za rfl) Zh)) T)) ⟨[],none,rfl,rfl,λ_ h=>nomatch h⟩ (λi d δ hd h=>?turn)) λδ' z=>?fin
 case turn=>
  obtain⟨ts,z,rfl,h1,h2⟩:=h
  rw[Xl]at hd
  obtain⟨x,hx,rfl⟩:=X7.mp hd
  have xi:x=i∧i<n:=by
   have hl:=(Xn.mp hx).1
   rw[Xw]at hl
   rw[QM hl]at hx
   cases hx
   exact⟨rfl,hl⟩
  obtain⟨rfl,hi⟩:=xi
  obtain⟨us,e1,e2⟩:=Zmk (caps:=[]) (cs:=[]) (it:=Jw (Zb 3)) (me:=Zgy (Zc (Zb 0) (Zc (fC (.int 1)) Zm))) (δ:=[some (.fz (dI n)),some (.fz (.list (rs.map ptD))),some (.nd ts),some (.fz (Zle n (F x)))]) (Xi n) (λp=>dI (F x p)) (λp=>.tuple [dI (F x p),.int 1]) (Wi (Za rfl)) (by rw[Xw];exact Ql n10 (by decide)) rfl λp _=>Zdl (Zd (Za rfl) (Zd Yd Zh)) (show 2≤1000 by decide)
  have lt:ts.length=x:=by
   have:=congrArg List.length h1
   rwa[Xd,Xd,Xw]at this
  refine⟨_,_,rfl,.inl (Z2i (ts:=ts) e1 rfl (by rw[lt];exact Ql (Vh hi) (Ql n10 (by decide)))),ts ++ [.nd us],_,rfl,?_,λt ht=>?_⟩
  ·rw[Qg,h1,Vq,Qg]
   exact congrArg (λz=>_ ++ [z]) e2
  ·rcases X8.mp ht with q|q
   ·exact h2 t q
   ·exact⟨us,Xj.mp q⟩
 case fin=>
  obtain⟨e,ts,z,rfl,h1,h2⟩:=z
  rw[Xd,Xw]at h1
  refine⟨ts,Zjg (δ':=[some (.fz (dI n)),some (.fz (.list (rs.map ptD))),none,z]) rfl (Z5 Zb3 (Z5 e ?_)),h1,h2⟩
  rw[Zms];rfl
theorem Z4s(k:Nat)(ds:List Xa)(h:k≤ds.length):cutD ds (some (k:Int)) none=ds.drop k:=by
 unfold cutD
 have e:HT.sIx ds.length 0 (some (k:Int))=min k ds.length:=HT.sIx_nat _ _ k
 rw[e,HT.sIx_none,Nat.min_eq_left h]
 exact Ug (by rw[BR];omega)
theorem Zlz(A B:List (List Bool)):(prW A B).length=A.length*B.length:=by
 unfold prW
 induction B with
 | nil=>rfl
 | cons b B ih=>rw[Vw,XF,Xd,ih,QS,Nat.mul_succ,Nat.add_comm]
noncomputable def eW(c:Int)(vs:List Int)(A:List (List Bool))(o3 o4 o5 o6:Option OT):Zf:=[some (.fz (.int c)),some (.fz (Zk vs)),some (.fz (.list (A.map bw))),o3,o4,o5,o6]
theorem Zua(c:Int):∃(L:Nat) (W:List (List Bool)),Told Yh [.int c] (.list (W.map bw))∧Wd L W:=by
 obtain⟨vs,T,hl⟩:=Zwp c 40 60 (by decide) (by decide)
 obtain⟨t,ht,lt⟩:=Zbu (vs.getD 20 0) (n:=2) (by decide)
 have ht:(vs.getD 20 0).fmod 2=t:=ht
 obtain⟨mo,hmo,m1,m2⟩:∃mo:Nat,gIx (.list [.int 10,.int 5]) (.int ((vs.getD 20 0).fmod 2))=some (.fz (dI mo))∧1≤mo∧mo≤10:=by
  rw[ht]
  obtain rfl|rfl:t=0∨t=1:=by omega
  ·exact⟨10,rfl,by decide,by decide⟩
  ·exact⟨5,rfl,by decide,by decide⟩
 obtain⟨LA,A,TA,IA,a1,a2,la⟩:=Zpz (row:=vs) (most:=mo) (by omega) m1 m2
 have a0:0<A.length:=a1
 have d1:1≤10/A.length:=(Nat.le_div_iff_mul_le a0).mpr (by omega)
 have d2:10/A.length≤10:=Nat.div_le_self _ _
 obtain⟨LB,B,TB,IB,b1',b2,lb⟩:=Zpz (row:=vs.drop 21) (most:=10/A.length) (by rw[BR,hl];decide) d1 d2
 have n10:(prW A B).length≤10:=by
  rw[Zlz]
  exact Ql (Nat.mul_le_mul_left _ b2) (Nat.mul_div_le 10 A.length)
 have n1:1≤(prW A B).length:=by rw[Zlz];exact Nat.mul_pos a0 b1'
 have lB10:B.length≤10:=by omega
 have key:∃d,Told Yh [.int c] d∧∃W:List (List Bool),d= .list (W.map bw)∧W.Perm (prW A B):=by
  have sec:∀{o4 o5 o6:Option OT},EvI (Jw (Zv Y4 (Zc (fSl (Zb 1) (oI (fC (.int 21))) oN) (Zc (Ze Zag (fC (.int 10)) (Zak Zce (Zc (Zb 2) Zm))) Zm)))) (eW c vs A (some (.nd [])) o4 o5 o6) (B.map bw):=fun{o4 o5 o6}=>by
   refine Wi (Z0 (Zd ((Zy9 (ds:=vs.map Xx) (Za rfl) (Z3h Yd) Ydi).cast ?_) (Zd ((Zfp (i:=10) (j:=(A.length:Int)) Yd ((Zbw (Za rfl)).cast (by rw[Xd])) (by rw[decide_eq_true (show(0:Int)<A.length by omega),decide_eq_true (show(A.length:Int)<18446744073709551616 by omega)];rfl)).cast ?_) Zh)) TB)
   ·have e:=Z4s 21 (vs.map Xx) (by rw[Xd,hl];decide)
    refine(congrArg JN e).trans ?_
    unfold Zk
    rw[List.map_drop]
   ·refine congrArg Xx ?_
    rw[Int.fdiv_eq_ediv_of_nonneg _ (by omega)];rfl
  refine Z1a rfl<|Zdq (Z8 (Z0 (Zd (Za rfl) (Zd Yd (Zd Yd Zh))) T))<|Zdq (Z8 (Z0 (Zd (Za rfl) (Zd (Z2t (Zic (ds:=[.int 10,.int 5]) (Zd Yd (Zd Yd Zh)) (show 2≤1000 by decide)) (J4 (Zb1 (p:=vs) (i:=20) (Za rfl) Yd (by decide) (by omega)) Yd (by decide)) hmo) Zh)) TA))<|
   Zdq (δ':=eW c vs A (some (.nd [])) none none none) Zb3<|Zmr (ds:=B.map bw) (λi δ=>∃z,δ=eW c vs A (some (wO (prW A (B.take i)))) z none none) sec ⟨_,rfl⟩ (λi d δ hq h=>?_) λδ' h=>?_
  ·obtain⟨z,rfl⟩:=h
   rw[Xl]at hq
   obtain⟨b,hb,rfl⟩:=X7.mp hq
   have hbm:=Q6 hb
   obtain⟨rs,e1,e2⟩:=Zmk (δ:=eW c vs A (some (wO (prW A (B.take i)))) (some (.fz (bw b))) none none) (caps:=[4]) (it:=Jw (Zb 2)) (me:=Ze Zcs (Zb 0) (Zb 1)) (cs:=[some (.fz (bw b))]) A bw (λa=>bw (a ++ b)) (Wi (Za rfl)) (by omega) rfl (λa ha=>Zo (Za rfl) (Za rfl) (Zuf (by rw[IA.len a ha,IB.len b hbm];omega)))
   rw[OT.data_nd]at e2
   have tk:prW A (B.take (i+1))=prW A (B.take i) ++ A.map λa=>a ++ b:=by
    unfold prW
    rw[List.take_succ,hb,V0]
    show _ ++ (List.flatMap _ [b])=_
    rw[Vw,List.flatMap_nil,Qk]
   have pl:(prW A (B.take i)).length≤100:=by
    rw[Zlz,Vo]
    exact Ql (Nat.mul_le_mul (show A.length≤10 by omega) (show min i B.length≤10 by omega)) (by decide)
   refine⟨_,_,rfl,.inl (Zj9 (ds:=A.map λa=>bw (a ++ b)) e1 (by rw[OT.datas_map];exact Uj e2) rfl (by rw[Xd,Xd,Xd];omega)),some (.fz (bw b)),?_⟩
   rw[tk]
   show[_,_,_,some (OT.nd _),_,_,_]=[_,_,_,some (wO _),_,_,_]
   unfold wO
   simp only[Qg,Qz]
   rfl
  ·obtain⟨z,rfl⟩:=h
   rw[Xd,List.take_length]
   refine Zdq (δ':=eW c vs A (some (wO (prW A B))) z (some (.nd [])) none) Zb3<|Zmr (ds:=Ze5 0 (prW A B).length) (λi δ=>∃l N o6,δ=eW c vs A (some (wO l)) z (some (wO N)) o6∧(N ++ l).Perm (prW A B)∧N.length=i) (Zbh (Zd ((Zbw (Zex rfl (Ziu _))).cast (by rw[Xd])) Zh) (by omega)) ⟨prW A B,[],_,rfl,.refl _,rfl⟩ (λi d δ hq h=>?_) λδ' h=>?_
   ·obtain⟨l,N,o6,rfl,pm,lN⟩:=h
    obtain⟨hi,e⟩:=W5 hq
    rw[VR]at e
    subst e
    have ll:=pm.length_eq
    rw[XF]at ll
    obtain⟨j,hj,lj⟩:=Zbu (vs.getD (10+i) 0) (n:=l.length) (by omega)
    have e:EvV (Ze Zc9 (Z4 gIx (Zb 1) (Ze Zca (fC (.int 10)) (Zb 6))) (Zak Zce (Zc (Zco 3) Zm))) (eW c vs A (some (wO l)) z (some (wO N)) (some (.fz (dI i)))) (dI j):=by
     refine(J4 (Zb1 (p:=vs) (i:=10+(i:Int)) (Za (i:=1) rfl) (Zai Yd (Za (i:=6) rfl)) (by omega) (by omega)) ((Zbw (Zex (i:=3) rfl (Ziu l))).cast (by rw[Xd])) (by omega)).cast (congrArg Xx ?_)
     rw[show(10+(i:Int)).toNat=10+i by omega]
     exact hj
    have p:=Yb1 (δ:=eW c vs A (some (wO l)) z (some (wO N)) (some (.fz (dI i)))) (i:=3) rfl e lj (by omega)
    refine⟨_,_,rfl,.inl (Z2j (ts0:=(N.map bw).map OT.fz) (ts:=(N.map bw).map OT.fz) p rfl rfl (by rw[Xd,Xd];omega)),l.eraseIdx j,N ++ [l.getD j []],some (.fz (dI i)),?_,?_,by rw[XF,lN];rfl⟩
    ·rw[OT.data_fz,Zlq];rfl
    ·rw[QB]
     exact((Zf7 (d:=[]) l j lj).append_left N).trans pm
   ·obtain⟨l,N,o6,rfl,pm,lN⟩:=h
    rw[Ys]at lN
    have ll:=pm.length_eq
    rw[XF]at ll
    cases QL (show l.length=0 by omega)
    rw[Qk]at pm
    exact⟨_,Zw9 rfl (Ziu N),N,rfl,pm⟩
 obtain⟨d,Td,W,rfl,pm⟩:=key
 refine⟨LA+LB,W,Td,{ (IA.prod IB).perm pm with l1:=by rw[pm.length_eq];exact n1,l10:=by rw[pm.length_eq];exact n10,lL:=by omega }⟩
theorem Zw8{β:Type}(W:List (List Bool))(f:List Bool->β):W.map f=(Xi W.length).map λi=>f (wA W i):=by
 refine Vx λi=>?_
 rw[Xl,Xl]
 by_cases c:i<W.length
 ·unfold wA
  rw[QM c,Xk c]
  show some (f W[i])=some (f (W.getD i []))
  rw[Xr,Xk c];rfl
 ·rw[QK (by omega),QK (by rw[Xw];omega)];rfl
theorem Zuc(n:Nat)(G:Nat->Nat->Nat):gNe (.list ((Xi n).map λs=>Z1e n (G s))) (.list ((Xi n).map λs=>Z1e n (G s)))=some (.bool false):=by
 have pt:∀k:Nat,Z2 (.tuple [dI k,.int 1])=true:=λk=>by
  unfold dI
  rw[Z2,Ww,Ww,Ww,Z2,Z2];rfl
 refine(Zjk (Zen (n:=2) λd hd=>?_) (by decide) ?_).2
 ·obtain⟨s,_,rfl⟩:=XX.mp hd
  refine Zen (n:=1) λd hd=>?_
  obtain⟨p,_,rfl⟩:=XX.mp hd
  exact Zj3 [(G s p:Int),1]
 ·rw[Z2]
  refine Zj8 λd hd=>?_
  obtain⟨s,_,rfl⟩:=XX.mp hd
  unfold Z1e
  rw[Z2]
  refine Zj8 λd hd=>?_
  obtain⟨p,_,rfl⟩:=XX.mp hd
  exact pt _
noncomputable def eR(W:List (List Bool))(rs:List (Nat×Nat))(o4 o5 o6:Option OT):Zf:=[some (.fz (.list (W.map bw))),some (.fz (dI W.length)),some (.fz (.list (rs.map ptD))),some (.fz (.list (rs.map ptD))),o4,o5,o6]
theorem Zv2{L:Nat}{W:List (List Bool)}(w:Wd L W):Told Wk [.list (W.map bw)] (.bool true):=by
 have l10:=w.l10
 have lL:=w.lL
 have R:=Zvd w
 have hc:=Zzl w
 obtain⟨F,D,o,hF,hd',hown⟩:=Zpr R hc (Zw3 w)
 have f:Fr W F:=⟨λi j hi hj=>Zx3 (D i hi) (Yda w hi) hj⟩
 obtain⟨us,rfl,ul⟩:=hown (Zq6 w f) (Z4u w f)
 obtain⟨o,ho⟩:∃o,o=OT.tp [.fz (.str "halves"),.nd us]:=⟨_,rfl⟩
 obtain⟨H,hH⟩:∃H,H=PyData.tuple [.str "halves",.list ((Xi W.length).map (Zod (CSl (sdL W (Xi L)))))]:=⟨_,rfl⟩
 have hdd:o.data=H:=by
  rw[ho,hd',hH]
  unfold Z66
  rw[Zq6 w f,Z4u w f]
  dsimp only
  rw[Ycy w f]
 rw[←ho]at hF
 obtain⟨F2,D2,ts,hT,htd,htn⟩:=Zjv R hc
 have f2:∀i<W.length,∀j<W.length,F2 i j=Hm W i j:=λi hi j hj=>Zx3 (D2 i hi) (Yda w hi) hj
 have tl:ts.length=W.length:=by
  have:=congrArg List.length htd
  rwa[Xd,Xd,Xw]at this
 have own:∀{o5 o6:Option OT},EvV (Zco 4) (eR W (rsW W) (some o) o5 o6) H:=fun{o5 o6}=>Zex rfl hdd
 have f1:∀{o5 o6:Option OT},EvV (Z4 gIx (Zco 4) (fC (.int 1))) (eR W (rsW W) (some o) o5 o6) (.list ((Xi W.length).map (Zod (CSl (sdL W (Xi L)))))):=fun{o5 o6}=>Z2t own Yd (by rw[hH];rfl)
 have ev:gNe H H=some (.bool false):=by rw[hH];exact(Zvw (Z0z (CSl (sdL W (Xi L))) W.length)).2
 have due:∀{o5 o6:Option OT},EvV (Zgy (Zc (fC (.str "halves")) (Zc (Zv Wn (Zc (Zb 0) Zm)) Zm))) (eR W (rsW W) (some o) o5 o6) H:=fun{o5 o6}=>(Zdl (Zd Yd (Zd (Z0 (Zd (Za rfl) Zh) (Zlj w)) Zh)) (show 2≤1000 by decide)).cast hH.symm
 have tabE:(OT.nd ts).data= .list ((Xi W.length).map λs=>Z1e W.length (Hm W s)):=by
  rw[OT.data_nd,htd]
  refine congrArg JN (Qh λs hs=>congrArg JN (Qh λp hp=>?_))
  rw[f2 s (XQ.mp hs) p (XQ.mp hp)]
 have dueT:∀{o4:Option OT},EvV (Yc 1 [0] (Jw (Zb 0)) (gNm 0) Zc2 (Yc 1 [0] (Jw (Zb 1)) (gNm 0) Zc2 (Zgy (Zc (Zv Z1 (Zc (Zb 1) (Zc (Zb 0) Zm))) (Zc (fC (.int 1)) Zm))))) (eR W (rsW W) o4 (some (.nd ts)) none) (.list ((Xi W.length).map λs=>Z1e W.length (Hm W s))):=fun{o4}=>by
  have c:=Zaz (δ:=eR W (rsW W) o4 (some (.nd ts)) none) (caps:=[0]) (it:=Jw (Zb 0)) (me:=Yc 1 [0] (Jw (Zb 1)) (gNm 0) Zc2 (Zgy (Zc (Zv Z1 (Zc (Zb 1) (Zc (Zb 0) Zm))) (Zc (fC (.int 1)) Zm)))) (cs:=[some (.fz (.list (W.map bw)))]) W bw (λx=>.list (W.map λy=>.tuple [dI (hd x y),.int 1])) (Wi (Za rfl)) (by omega) rfl (λx hx=>by
   refine Zaz (cs:=[some (.fz (bw x))]) W bw (λy=>.tuple [dI (hd x y),.int 1]) (Wi (Za rfl)) (by omega) rfl λy hy=>?_
   exact Zdl (Zd (Z0 (Zd (Za rfl) (Zd (Za rfl) Zh)) (Zdu (by rw[w.len x hx,w.len y hy]) (by rw[w.len x hx];omega))) (Zd Yd Zh)) (show 2≤1000 by decide))
  refine c.cast (congrArg JN ?_)
  rw[Zw8 W]
  refine Qh λs _=>congrArg JN ?_
  rw[Zw8 W];rfl
 obtain⟨t0,ht0⟩:∃us,ts[0]? =some (.nd us):=by
  have h0:0<ts.length:=by rw[tl];exact w.l1
  obtain⟨us,e⟩:=htn ts[0] (VG h0)
  exact⟨us,by rw[Xk h0,e]⟩
 refine Z6 rfl<|Zw (Z8 ((Zbw (Za rfl)).cast (by rw[Xd];rfl)))<|Zw (Z8 (Z0 (Zd (Za rfl) Zh) (Zkz w)))<|Zw (Z8 (Z5u (Zd (Za rfl) Zh) (Z2w _) (by rw[OT.data_nd,OT.map_fz])))<|Zw (δ':=eR W (rsW W) (some o) none none) (Z3q (Zd (Za rfl) (Zd (Za rfl) Zh)) hF)<|
  Zw (Yg (Z3b (Zgr (p:=true) (Zjn (Zmv own (by rw[hH];rfl) (by rw[hH];rfl)))) (Z3b (Za9 (Zo own due ev)) (Zgr (p:=true) (Zjn (Zmv f1 rfl rfl))))) rfl)<|
  Zw (Yg (Zgr (p:=true) (Zjn (Zhp (Zd (Z7w (Xi W.length) (Zod (CSl (sdL W (Xi L)))) (λ_=>.bool true) (λx _=>by unfold Zod;rw[Zac]) (Wi f1) (by rw[Xw];omega) rfl λx _=>Zmv (Za rfl) rfl rfl) Zh) (Zyh (bs:=(Xi W.length).map λ_=>true) (by rw[Qz];rfl) λb hb=>by obtain⟨_,_,rfl⟩:=XX.mp hb;rfl)))) rfl) ?_
 rw[ho]
 refine Zw (δ':=eR W (rsW W) (some (.tp [.fz (.str "halves"),.nd []])) none none) rfl<|Zw (δ':=eR W (rsW W) (some (.tp [.fz (.str "halves"),.nd []])) (some (.nd ts)) none) (Z3q (Zd (Za rfl) (Zd (Za rfl) Zh)) hT)<|Zw (Z8 dueT)<|
  Zw (Yg (Z3b (Zgr (p:=true) (Zjn (Zmv (Zex (i:=5) rfl tabE) rfl rfl))) (Z3b (Za9 (Zo (Zex (i:=5) rfl tabE) (Za (i:=6) rfl) (Zuc _ _))) (Za9 (Zo (Za rfl) (Za rfl) (Zy7 (rsW W)))))) rfl)<|Zw (Zvi (k:=0) (ts:=ts) (us:=t0) rfl Yd ht0) (Wm Yd)
theorem Zwu(ns:List Int)(hl:ns.length≤63):Zhm [.list (ns.map Xx)]= .ok (.fz (.bool true)):=by
 obtain⟨f,hf⟩:=V1 (λc:Int=>show∃W:List (List Bool),Told Yh [.int c] (.list (W.map bw))∧Told Wk [.list (W.map bw)] (.bool true) by
  obtain⟨L,W,T,w⟩:=Zua c
  exact⟨W,T,Zv2 w⟩)
 obtain⟨c0,T0⟩:=Zoa ns (k:=0) (by decide)
 obtain⟨q,eq,ql⟩:=Z3x (e:=Zb 0) (δ:=[some (.fz (Zk ns)),none,none]) (p:=ns) (Za rfl) (Z3h (Yd (d:=.int 1))) (Z3h (Yd (d:=.int 6)))
 have e1:EvV (Zcx (Zc (Zv Yy (Zc (Zb 0) (Zc (fC (.int 0)) Zm))) Zm)) [some (.fz (Zk ns)),none,none] (Zk [c0]):=Zic (ds:=[.int c0]) (Zd (Z0 (Zd (Za rfl) (Zd Yd Zh)) (.of T0 (OT.data_fz _))) Zh) (show 1≤1000 by decide)
 have e2:=Z0p eq e1 (by show q.length+1≤1000000;omega)
 have cl:(q ++ [c0]).length≤64:=by rw[XF];show q.length+1≤64;omega
 have e3:=Zaz (caps:=[]) (me:=Zv Yh (Zc (Zb 0) Zm)) (cs:=[]) (q ++ [c0]) Xx (λc=>.list ((f c).map bw)) (Wi e2) (by omega) rfl (λc _=>Z0 (Zd (Za rfl) Zh) (hf c).1)
 obtain⟨ws,hws⟩:∃ws,ws=(q ++ [c0]).map λc=>JN ((f c).map bw):=⟨_,rfl⟩
 rw[←hws]at e3
 have wl:ws.length≤64:=by rw[hws,Xd];exact cl
 refine Told.ok<|Z6 rfl<|Zw (Z8 e3)<|Zdy (ds:=ws ++ ws.reverse) (λi δ=>∃z,δ=[some (.fz (Zk ns)),some (.fz (.list ws)),z]) (Wi (Zqt (Za rfl) ((Z1i (k:=-1) (Za rfl) (Z3h (Z7h Yd)) (by decide)).cast (by rw[Zr0])) (by rw[List.length_reverse];omega))) ⟨_,rfl⟩ (λi d δ hq h=>?_) λδ' h=>?_
 ·obtain⟨z,rfl⟩:=h
  have hm:d∈ws:=(X8.mp (Q6 hq)).elim id λh=>List.mem_reverse.mp h
  rw[hws]at hm
  obtain⟨c,_,rfl⟩:=XX.mp hm
  exact⟨_,_,rfl,.inl (Yg (Zgr (p:=true) (Zjn (Z0 (Zd (Za rfl) Zh) (hf c).2))) rfl),_,rfl⟩
 ·obtain⟨z,rfl⟩:=h
  exact Wm Yd
end My
namespace L2
open PySem PySem.Spec PyProof.Rows
structure Ei(K:Xc)(x:Str)(st:Stmt)(f:Addr)(fd:Qc):Prop where
 a:QR K Qj x=some (some (.ref f))
 F:Fun K x x st f fd
structure En(K:Xc)(mg:Str->Option Xe)(x:Str)(st:Stmt)(ps:List Str)(f:Addr)(fd:Qc):Prop where
 F:Fun K x x st f fd
 b:Binds K fd ps []
 m:mg x=some (.ref f)
structure Ec(K:Xc)(mg:Str->Option Xe)(x:Str)(f:Addr):Prop where
 m:mg x=some (.ref f)
 a:ClsAt K x f
section
variable {K:Xc}{h:Heap}{mg:Str->Option Xe}{x:Str}{st:Stmt}{f:Addr}{fd:Qc}
theorem en0(X:K.In h)(G:h.Ns Qj mg)(q:Ei K x st f fd){ps:List Str}(hb:∀(kV doc pm:Xe) (an:Option Addr) (cdv ct:Xe) (us:List Xe),us.length=ps.length->bindArgs (Vz x x (Zeb st) (Zau st) (Zi st) .none kV doc pm an cdv ct) ⟨us,[]⟩=pure (ps.zip us)):En K mg x st ps f fd:=⟨q.F,q.F.binds hb,PySem.W.mg_of X G q.a⟩
noncomputable abbrev Bd(x:Str)(st:Stmt)(ps:List Str)(us:List Xe):Prop:=∀(kV doc pm:Xe) (an:Option Addr) (cdv ct:Xe),bindArgs (Vz x x (Zeb st) (Zau st) (Zi st) .none kV doc pm an cdv ct) ⟨us,[]⟩=pure (ps.zip us)
theorem l_c{us:List Xe}{n:Nat}(h:us.length=n+1):∃u vs,us=u :: vs∧vs.length=n:=by
 cases us with
 | nil=>cases h
 | cons u vs=>exact⟨u,vs,rfl,Bj h⟩
theorem en1(X:K.In h)(G:h.Ns Qj mg)(q:Ei K x st f fd){p0:Str}(hb:∀v0,Bd x st [p0] [v0]:=by exact λ_ _ _ _ _ _ _=>rfl):En K mg x st [p0] f fd:=en0 X G q λa b c d e g us hl=>by
 have h0:us.length=1:=hl
 obtain⟨u0,us0,e0,h1⟩:=l_c h0
 cases QL h1
 subst e0
 exact hb u0 a b c d e g
theorem en2(X:K.In h)(G:h.Ns Qj mg)(q:Ei K x st f fd){p0 p1:Str}(hb:∀v0 v1,Bd x st [p0,p1] [v0,v1]:=by exact λ_ _ _ _ _ _ _ _=>rfl):En K mg x st [p0,p1] f fd:=en0 X G q λa b c d e g us hl=>by
 have h0:us.length=2:=hl
 obtain⟨u0,us0,e0,h1⟩:=l_c h0
 obtain⟨u1,us1,e1,h2⟩:=l_c h1
 cases QL h2
 subst e1
 subst e0
 exact hb u0 u1 a b c d e g
theorem en3(X:K.In h)(G:h.Ns Qj mg)(q:Ei K x st f fd){p0 p1 p2:Str}(hb:∀v0 v1 v2,Bd x st [p0,p1,p2] [v0,v1,v2]:=by exact λ_ _ _ _ _ _ _ _ _=>rfl):En K mg x st [p0,p1,p2] f fd:=en0 X G q λa b c d e g us hl=>by
 have h0:us.length=3:=hl
 obtain⟨u0,us0,e0,h1⟩:=l_c h0
 obtain⟨u1,us1,e1,h2⟩:=l_c h1
 obtain⟨u2,us2,e2,h3⟩:=l_c h2
 cases QL h3
 subst e2
 subst e1
 subst e0
 exact hb u0 u1 u2 a b c d e g
theorem ec(X:K.In h)(G:h.Ns Qj mg)(a:QR K Qj x=some (some (.ref f))):Ec K mg x f:=⟨PySem.W.mg_of X G a,a⟩
end
theorem fsc{N P:List Str}{sc:U5}(h1:sc.kind= .function:=by rfl)(h2:sc.isCoroutine=false:=by rfl)(h3:sc.isGenerator=false:=by rfl)(h4:N.Nodup:=by decide +kernel)(h5:N.take P.length=P:=by rfl)(h6:∀x∈P,sc.names.lookup x=some .local∨sc.names.lookup x=some .cell:=by decide +kernel)(h7:∀y∈sc.names,y.2≠ .free:=by decide +kernel):Zt N P sc:=⟨h1,h2,h3,h4,h5,h6,h7⟩
end L2
namespace My
open PySem L2 PySem.Spec
noncomputable def top(i:Nat):Stmt:=PySem.Challenge.pw_farcuts_k62_webs_that_halve.main.body.getD i (.Pass ⟨0,0,0,0⟩)
noncomputable abbrev Zao:Stmt:=top 28
noncomputable abbrev Zbx:Stmt:=top 34
noncomputable abbrev Zc3:Stmt:=top 35
noncomputable abbrev Zc5:Stmt:=top 36
noncomputable abbrev Zd2:Stmt:=top 37
noncomputable abbrev Zbl:Stmt:=top 20
noncomputable abbrev Zcw:Stmt:=top 21
noncomputable abbrev Zeq:Stmt:=top 9
noncomputable abbrev Jy:Stmt:=top 22
noncomputable abbrev W3:Stmt:=top 23
noncomputable abbrev Zec:Stmt:=top 5
noncomputable abbrev Zad:Stmt:=top 12
noncomputable abbrev Zjl:Stmt:=top 13
noncomputable abbrev Zaa:Stmt:=top 24
noncomputable abbrev Zax:Stmt:=top 16
noncomputable abbrev Jc:Stmt:=top 8
noncomputable abbrev Zct:Stmt:=top 11
noncomputable abbrev Zav:Stmt:=top 15
noncomputable abbrev Zbk:Stmt:=top 17
noncomputable abbrev Zee:Stmt:=top 18
noncomputable abbrev Zgs:Stmt:=top 25
noncomputable abbrev Za0:Stmt:=top 26
noncomputable abbrev Zc0:Stmt:=top 19
noncomputable abbrev Zc4:Stmt:=top 38
noncomputable abbrev Zef:Stmt:=top 31
noncomputable abbrev Zd5:Stmt:=top 30
noncomputable abbrev Zek:Stmt:=top 32
noncomputable abbrev Zar:Stmt:=top 29
noncomputable abbrev Zcu:Stmt:=top 33
noncomputable abbrev Zyq:Stmt:=top 39
set_option genInjectivity false in
set_option genSizeOfSpec false in
structure Txt(K:Xc)(mg:Str->Option Xe)(f:Nat->Addr)(fd:Nat->Qc)(cls:Nat->Addr):Prop where
 e_law_cell_at:En K mg "_law_cell_at" Zao ["script","k"] (f 0) (fd 0)
 e_law_unlike:En K mg "_law_unlike" Zbx ["one","other"] (f 1) (fd 1)
 e_law_roads:En K mg "_law_roads" Zc3 ["words"] (f 2) (fd 2)
 e_law_sides:En K mg "_law_sides" Zc5 ["words"] (f 3) (fd 3)
 e_law_told:En K mg "_law_told" Zd2 ["words"] (f 4) (fd 4)
 e_first_even:En K mg "first_even" Zbl ["rows","roads"] (f 5) (fd 5)
 e_far_sides:En K mg "far_sides" Zcw ["rows","a","b"] (f 6) (fd 6)
 e_pairs_of:En K mg "pairs_of" Zeq ["n"] (f 7) (fd 7)
 e_first_leaving:En K mg "first_leaving" Jy ["rows","sides"] (f 8) (fd 8)
 e_first_not_whole:En K mg "first_not_whole" W3 ["rows","roads"] (f 9) (fd 9)
 e_is_whole:En K mg "is_whole" Zec ["thing"] (f 10) (fd 10)
 e_check_points:En K mg "check_points" Zad ["n","points"] (f 11) (fd 11)
 e_cut_of:En K mg "cut_of" Zjl ["n","points"] (f 12) (fd 12)
 e_halving_cuts:En K mg "halving_cuts" Zaa ["rows","roads"] (f 13) (fd 13)
 e_beside_each:En K mg "beside_each" Zax ["n","roads"] (f 14) (fd 14)
 e_is_point_count:En K mg "is_point_count" Jc ["n"] (f 15) (fd 15)
 e_is_rising:En K mg "is_rising" Zct ["things"] (f 16) (fd 16)
 e_check_roads:En K mg "check_roads" Zav ["n","roads"] (f 17) (fd 17)
 e_steps_from:En K mg "steps_from" Zbk ["beside","start"] (f 18) (fd 18)
 e_web_rows:En K mg "web_rows" Zee ["n","roads"] (f 19) (fd 19)
 e_word_of:En K mg "word_of" Zgs ["point","cuts"] (f 20) (fd 20)
 e_halved_told:En K mg "halved_told" Za0 ["n","roads"] (f 21) (fd 21)
 e_web_table:En K mg "web_table" Zc0 ["n","roads"] (f 22) (fd 22)
 e_law_right:En K mg "_law_right" Zc4 ["words"] (f 23) (fd 23)
 e_law_ring:En K mg "_law_ring" Zef ["half"] (f 24) (fd 24)
 e_law_tree:En K mg "_law_tree" Zd5 ["row","many"] (f 25) (fd 25)
 e_law_kind:En K mg "_law_kind" Zek ["row","most"] (f 26) (fd 26)
 e_law_numbers:En K mg "_law_numbers" Zar ["cell","many","base"] (f 27) (fd 27)
 e_law_words:En K mg "_law_words" Zcu ["cell"] (f 28) (fd 28)
 e_law:En K mg "law" Zyq ["script"] (f 29) (fd 29)
 g_MOST_POINTS:∃t,mg "MOST_POINTS"=some (.int 10 t)
 z_all:mg "all"=none
 z_bool:mg "bool"=none
 z_enumerate:mg "enumerate"=none
 z_int:mg "int"=none
 z_isinstance:mg "isinstance"=none
 z_len:mg "len"=none
 z_list:mg "list"=none
 z_range:mg "range"=none
 z_set:mg "set"=none
 z_sorted:mg "sorted"=none
 z_str:mg "str"=none
 z_tuple:mg "tuple"=none
 z_zip:mg "zip"=none
 c_NoCut:Ec K mg "NoCut" (cls 0)
 c_NoWeb:Ec K mg "NoWeb" (cls 1)
 x_NoCut:Zet K (cls 0)
 x_NoWeb:Zet K (cls 1)
 r_NoCut:Zuo K (cls 0)
 r_NoWeb:Zuo K (cls 1)
section
variable {P:XS}{w:Qq}{K:Xc}{mg:Str->Option Xe}{base:Heap}
theorem Zg7:Zt ["script","k"] ["script","k"] (Zi Zao):=fsc
theorem Zg3{f:Nat->Addr}{fd:Nat->Qc}{cls:Nat->Addr}(T:Txt K mg f fd cls):FnOk P w K mg base CX0 1 (f 0) (fd 0) ["script","k"] (spD K (sD Yy)):=by
 refine Ye T.e_law_cell_at.F Zg7 (S:=J1) rfl rfl (λcdv A outer s H E hr=>?_)
 have hu:=hr.units
 exact(xsq (xif (xlt (xv 1) (xln T.z_len (xa1 (xv 0)))) (Zg (xrt (xix (xv 0) (xv 1)))) xnl) (Zg (xrt xci)))
theorem Zjp:Zt ["one","other"] ["one","other"] (Zi Zbx):=fsc
theorem Zdx{f:Nat->Addr}{fd:Nat->Qc}{cls:Nat->Addr}(T:Txt K mg f fd cls):FnOk P w K mg base CX0 1 (f 1) (fd 1) ["one","other"] (spD K (sD Z1)):=by
 refine Ye T.e_law_unlike.F Zjp (S:=Zam) rfl rfl (λcdv A outer s H E hr=>?_)
 have hu:=hr.units
 exact(Zg (xrt (xln T.z_len (xa1 (Wo (J2 (own:=["at"]) (caps:=[0,1]) (N':=["at","one","other"]) (by exact⟨rfl,by decide +kernel,rfl,by decide +kernel,rfl,rfl⟩) (by rfl) (by decide) (Zb0 (Z3 (by rfl) T.z_range (xa1 (Zia Zxo (Zq9 Zsj Ze0 (by rfl) T.z_len L2.B.boot_len (xa1 (xv 0))))))) (λ_ _ _ _ _=>(xg 0 (by show JC (["at","one","other"]:List Str);decide +kernel))) (λ_ _ _ _ _=>(Zfo (xne hu (Ze3 (Za1 Zr8 (Z3c (Zc7 rfl) Zky (xv 1) (xv 0) (hs:=λ_ _=>rfl)))) (Ze3 (Za1 Zr8 (Z3c (Zc7 rfl) Zky (xv 2) (xv 0) (hs:=λ_ _=>rfl))))))) (λ_ _ _ _ _=>(xv 0))))))))
theorem Zbs:Zt ["words","roads","a"] ["words"] (Zi Zc3):=fsc
theorem Zk8{f:Nat->Addr}{fd:Nat->Qc}{cls:Nat->Addr}(T:Txt K mg f fd cls):FnOk P w K mg base CX0 2 (f 2) (fd 2) ["words"] (spD K (sD W9)):=by
 have G_law_unlike:=Zdx (P:=P) (w:=w) (base:=base) T
 refine Ye T.e_law_roads.F Zbs (S:=Za8) rfl rfl (λcdv A outer s H E hr=>?_)
 have hu:=hr.units
 exact(xsq (xso 1 Zbs.nd (xls xa0)) (xsq (xfr Qd rfl (Zb0 (Z3 (by rfl) T.z_range (xa1 (xln T.z_len (xa1 (xv 0)))))) (xg 2 Zbs.nd) (Zg (Zk9 (Zk6 1 (Wo (J2 (own:=["b"]) (caps:=[2,0]) (N':=["b","a","words"]) (by exact⟨rfl,by decide +kernel,rfl,by decide +kernel,rfl,rfl⟩) (by rfl) (by decide) (Z1g (Zf8 (by rfl) T.z_range (Zj (Zpi (xv 2) xci) (xa1 (xln T.z_len (xa1 (xv 0))))))) (λ_ _ _ _ _=>(xg 0 (by show JC (["b","a","words"]:List Str);decide +kernel))) (λ_ _ _ _ _=>(Zfo (xeq hu (xcl G_law_unlike (hr.mono (by decide)) T.e_law_unlike.m T.e_law_unlike.F.kp T.e_law_unlike.b (Zj (xix (xv 2) (xv 1)) (xa1 (xix (xv 2) (xv 0))))) xci))) (λ_ _ _ _ _=>(xtp (Zj (xv 1) (xa1 (xv 0))))))))))) (Zg (Zaw (Zas 1)))))
theorem J3:Zt ["words","sides","at","side"] ["words"] (Zi Zc5):=fsc
theorem Zkk{f:Nat->Addr}{fd:Nat->Qc}{cls:Nat->Addr}(T:Txt K mg f fd cls):FnOk P w K mg base CX0 1 (f 3) (fd 3) ["words"] (spD K (sD Jd)):=by
 refine Ye T.e_law_sides.F J3 (S:=Za6) rfl rfl (λcdv A outer s H E hr=>?_)
 have hu:=hr.units
 exact(xsq (xso 1 J3.nd (xls xa0)) (xsq (xfr Qd rfl (Zb0 (Z3 (by rfl) T.z_range (xa1 (Zia Zxo (Zq9 Zsj Ze0 (by rfl) T.z_len L2.B.boot_len (xa1 (xix (xv 0) xci))))))) (xg 2 J3.nd) (xsq (Zjb (Zae (i:=3) (own:=["x"]) (caps:=[0,2]) (N':=["x","words","at"]) false J3.nd rfl (Qw rfl) (by exact⟨rfl,by decide +kernel,rfl,by decide +kernel,rfl,rfl⟩) (by rfl) (by decide) (Zb0 (Z3 (by rfl) T.z_range (xa1 (xln T.z_len (xa1 (xv 0)))))) (λ_ _ _ _ _=>(xg 0 (by show JC (["x","words","at"]:List Str);decide +kernel))) (λ_ _ _ _ _=>(Zfo (xne hu (Ze3 (Za1 Zr8 (Z3c (Zc7 rfl) Zky (xix (xv 1) (xv 0)) (xv 2) (hs:=λ_ _=>rfl)))) (Ze3 (Za1 Zr8 (Z3c (Zc7 rfl) Zky (xix (xv 1) xci) (xv 2) (hs:=λ_ _=>rfl))))))) (λ_ _ _ _ _=>(xv 0)))) (Zg (xif (MW.mt (Zr3 (Ztp (xne hu (xv 3) (xls xa0)) (Zly (Jr Zxd (Jq (Zj1 hu) Zx0 (xv 3) (xo 1) (hm:=(by with_unfolding_all rfl)))))))) (Zg (Wx (Wr 1 (xv 3)))) xnl)))) (Zg (Zf0 (Zgi 1 (xrt (Zzd Zsz (Yey Zm1 (Zid Zyd rfl hu) (by rfl) T.z_sorted L2.B.boot_sorted (xa1 (xv 1))))))))))
theorem Zfr:Zt ["words","sides"] ["words"] (Zi Zd2):=fsc
theorem Zl1{f:Nat->Addr}{fd:Nat->Qc}{cls:Nat->Addr}(T:Txt K mg f fd cls):FnOk P w K mg base CX0 2 (f 4) (fd 4) ["words"] (spD K (sD Wn)):=by
 have G_law_sides:=Zkk (P:=P) (w:=w) (base:=base) T
 refine Ye T.e_law_told.F Zfr (S:=Zbr) rfl rfl (λcdv A outer s H E hr=>?_)
 have hu:=hr.units
 exact(xsq (Zm9 (Znd (i:=1) Zfr.nd rfl (Qo rfl) (xcl G_law_sides (hr.mono (by decide)) T.e_law_sides.m T.e_law_sides.F.kp T.e_law_sides.b (xa1 (xv 0))))) (Zg (xrt (Wo (J2 (own:=["x"]) (caps:=[1]) (N':=["x","sides"]) (by exact⟨rfl,by decide +kernel,rfl,by decide +kernel,rfl,rfl⟩) (by rfl) (by decide) (Zb0 (Z3 (by rfl) T.z_range (xa1 (xln T.z_len (xa1 (xv 0)))))) (λ_ _ _ _ _=>(xg 0 (by show JC (["x","sides"]:List Str);decide +kernel))) (λ_ _ _ _ _=>(Ws Wv)) (λ_ _ _ _ _=>(Zxw (Z71 Zrr F.slot_str_join F.type_str_join (Zsi rfl) (Zck Jg) (xa1 (Wo (J2 (own:=["side"]) (caps:=[0]) (N':=["side","x"]) (by exact⟨rfl,by decide +kernel,rfl,by decide +kernel,rfl,rfl⟩) (by rfl) (by decide) (xil (xv 1)) (λ_ _ _ _ _=>(xg 0 (by show JC (["side","x"]:List Str);decide +kernel))) (λ_ _ _ _ _=>(Ws Wv)) (λ_ _ _ _ _=>(Ze3 (Za1 Zr8 (Z3c (Zc7 rfl) Zky (Zck Jg) (Zia Z91 (Z99 Z6f Zrm (by rfl) T.z_int L2.B.boot_int (xa1 (Y6 Zwv (Z8l (Zrn rfl) Zui (xv 1) (xv 0) (hm:=(by with_unfolding_all rfl))))))) (hs:=λ_ _=>rfl))))))))))))))))
theorem Jj:Zt ["rows","roads","a","b","x"] ["rows","roads"] (Zi Zbl):=fsc
theorem Zja{f:Nat->Addr}{fd:Nat->Qc}{cls:Nat->Addr}(T:Txt K mg f fd cls):FnOk P w K mg base CX0 1 (f 5) (fd 5) ["rows","roads"] (spD K (sD Wb)):=by
 refine Ye T.e_first_even.F Jj (S:=Zan) rfl rfl (λcdv A outer s H E hr=>?_)
 have hu:=hr.units
 exact(xsq (xfr Qd rfl (xil (xv 1)) (xg2 rfl (xg 2 Jj.nd) (xg 3 Jj.nd)) (Zg (xfr Qd rfl (Zb0 (Z3 (by rfl) T.z_range (xa1 (xln T.z_len (xa1 (xv 0)))))) (xg 4 Jj.nd) (Zg (xif (xeq hu (xix (xix (xv 0) (xv 2)) (xv 4)) (xix (xix (xv 0) (xv 3)) (xv 4))) (Zg (xrt (xtp (Zj (xv 2) (Zj (xv 3) (xa1 (xv 4))))))) xnl))))) (Zg (xrt (Zck Zh2))))
theorem Zkp:Zt ["rows","a","b"] ["rows","a","b"] (Zi Zcw):=fsc
theorem Zev{f:Nat->Addr}{fd:Nat->Qc}{cls:Nat->Addr}(T:Txt K mg f fd cls):FnOk P w K mg base CX0 1 (f 6) (fd 6) ["rows","a","b"] (spD K (sD Yt)):=by
 refine Ye T.e_far_sides.F Zkp (S:=Za2) rfl rfl (λcdv A outer s H E hr=>?_)
 have hu:=hr.units
 exact(Zg (xrt (Wo (J2 (own:=["x"]) (caps:=[0,2,1]) (N':=["x","rows","b","a"]) (by exact⟨rfl,by decide +kernel,rfl,by decide +kernel,rfl,rfl⟩) (by rfl) (by decide) (Zb0 (Z3 (by rfl) T.z_range (xa1 (xln T.z_len (xa1 (xv 0)))))) (λ_ _ _ _ _=>(xg 0 (by show JC (["x","rows","b","a"]:List Str);decide +kernel))) (λ_ _ _ _ _=>(Ws Wv)) (λ_ _ _ _ _=>(Y6 Ydf (Z8l Zsx Zny (xix (xix (xv 1) (xv 2)) (xv 0)) (xix (xix (xv 1) (xv 3)) (xv 0)) (hm:=(Zcg _)))))))))
theorem Zat:Zt ["n","pairs","i","j"] ["n"] (Zi Zeq):=fsc
theorem Zmc{f:Nat->Addr}{fd:Nat->Qc}{cls:Nat->Addr}(T:Txt K mg f fd cls):FnOk P w K mg base CX0 1 (f 7) (fd 7) ["n"] (spD K (sD Jo)):=by
 refine Ye T.e_pairs_of.F Zat (S:=Zbz) rfl rfl (λcdv A outer s H E hr=>?_)
 have hu:=hr.units
 exact(xsq (xso 1 Zat.nd (xls xa0)) (xsq (xfr Qd rfl (Zb0 (Z3 (by rfl) T.z_range (xa1 (xv 0)))) (xg 2 Zat.nd) (Zg (xfr Qd rfl (Z1g (Zf8 (by rfl) T.z_range (Zj (Zpi (xv 2) xci) (xa1 (xv 0))))) (xg 3 Zat.nd) (Zg (Wx (Wr 1 (xtp (Zj (xv 2) (xa1 (xv 3)))))))))) (Zg (Zaw (Zas 1)))))
theorem Yu:Zt ["rows","sides","n","x","y","z"] ["rows","sides"] (Zi Jy):=fsc
theorem Ze2{f:Nat->Addr}{fd:Nat->Qc}{cls:Nat->Addr}(T:Txt K mg f fd cls):FnOk P w K mg base CX0 2 (f 8) (fd 8) ["rows","sides"] (spD K (sD Wf)):=by
 have G_pairs_of:=Zmc (P:=P) (w:=w) (base:=base) T
 refine Ye T.e_first_leaving.F Yu (S:=Jh) rfl rfl (λcdv A outer s H E hr=>?_)
 have hu:=hr.units
 exact(xsq (xst 2 Yu.nd (xln T.z_len (xa1 (xv 0)))) (xsq (xfr Qd rfl (xil (xcl G_pairs_of (hr.mono (by decide)) T.e_pairs_of.m T.e_pairs_of.F.kp T.e_pairs_of.b (xa1 (xv 2)))) (xg2 rfl (xg 3 Yu.nd) (xg 4 Yu.nd)) (Zg (xif (xeq hu (xix (xv 1) (xv 3)) (xix (xv 1) (xv 4))) (Zg (xfr Qd rfl (Zb0 (Z3 (by rfl) T.z_range (xa1 (xv 2)))) (xg 5 Yu.nd) (Zg (xif (MW.mt (Zr3 (Ztp (xne hu (xix (xv 1) (xv 5)) (xix (xv 1) (xv 3))) (Zly (xeq hu (Zpi (xix (xix (xv 0) (xv 3)) (xv 5)) (xix (xix (xv 0) (xv 5)) (xv 4))) (xix (xix (xv 0) (xv 3)) (xv 4))))))) (Zg (xrt (xtp (Zj (xv 3) (Zj (xv 4) (xa1 (xv 5))))))) xnl)))) xnl))) (Zg (xrt (Zck Zh2)))))
theorem Yw:Zt ["rows","roads","a","b","leaving"] ["rows","roads"] (Zi W3):=fsc
theorem Zds{f:Nat->Addr}{fd:Nat->Qc}{cls:Nat->Addr}(T:Txt K mg f fd cls):FnOk P w K mg base CX0 3 (f 9) (fd 9) ["rows","roads"] (spD K (sD Yb)):=by
 have G_far_sides:=Zev (P:=P) (w:=w) (base:=base) T
 have G_first_leaving:=Ze2 (P:=P) (w:=w) (base:=base) T
 refine Ye T.e_first_not_whole.F Yw (S:=W2) rfl rfl (λcdv A outer s H E hr=>?_)
 have hu:=hr.units
 exact(xsq (xfr Qd rfl (xil (xv 1)) (xg2 rfl (xg 2 Yw.nd) (xg 3 Yw.nd)) (xsq (xst 4 Yw.nd (xcl G_first_leaving (hr.mono (by decide)) T.e_first_leaving.m T.e_first_leaving.F.kp T.e_first_leaving.b (Zj (xv 0) (xa1 (xcl G_far_sides (hr.mono (by decide)) T.e_far_sides.m T.e_far_sides.F.kp T.e_far_sides.b (Zj (xv 0) (Zj (xv 2) (xa1 (xv 3))))))))) (Zg (xif (Jr Zlu (Jq Zmj Zl7 (xv 4) (Zck Zh2) (hm:=(Zcg _)))) (Zg (xrt (Ze3 (Za1 Z7a (Z9n Z26 Z2p (xtp (Zj (xv 2) (xa1 (xv 3)))) (xv 4)))))) xnl)))) (Zg (xrt (Zck Zh2))))
theorem Zlm:Zt ["thing"] ["thing"] (Zi Zec):=fsc
theorem Zmd{f:Nat->Addr}{fd:Nat->Qc}{cls:Nat->Addr}(T:Txt K mg f fd cls):FnOk P w K mg base CX0 1 (f 10) (fd 10) ["thing"] (spD K (sD Ym)):=by
 refine Ye T.e_is_whole.F Zlm (S:=Zbf) rfl rfl (λcdv A outer s H E hr=>?_)
 have hu:=hr.units
 exact(Zg (xrt (Zye (Ya4 (Zhs (Zn4 (by decide) (by rfl) T.z_isinstance L2.B.boot_isinstance (by rfl) T.z_int L2.B.boot_int (xv 0))) (Ycu (Zzc (Yam (Zhs (Zn4 (by decide) (by rfl) T.z_isinstance L2.B.boot_isinstance (by rfl) T.z_bool L2.B.boot_bool (xv 0))))))))))
theorem Zbo:Zt ["n","points","point"] ["n","points"] (Zi Zad):=fsc
theorem Zgk{f:Nat->Addr}{fd:Nat->Qc}{cls:Nat->Addr}(T:Txt K mg f fd cls):FnOk P w K mg base CX0 2 (f 11) (fd 11) ["n","points"] (spD K (sD Yr)):=by
 have G_is_whole:=Zmd (P:=P) (w:=w) (base:=base) T
 refine Ye T.e_check_points.F Zbo (S:=Wl) rfl rfl (λcdv A outer s H E hr=>?_)
 have hu:=hr.units
 exact(Zg (xfr Qd rfl (xil (xv 1)) (xg 2 Zbo.nd) (Zg (xif (MW.mt (Zo0 (Zpd (xno (Zdw (Zdh (xcl G_is_whole (hr.mono (by decide)) T.e_is_whole.m T.e_is_whole.F.kp T.e_is_whole.b (xa1 (xv 2))) (λ_=>rfl)))) (Znn (xno (Zws (Zwg Zve Zsx xci (xv 2) (xv 0)))))))) (Zg Zb4) xnl))))
theorem Zkc:Zt ["n","points","others"] ["n","points"] (Zi Zjl):=fsc
theorem Ztn{f:Nat->Addr}{fd:Nat->Qc}{cls:Nat->Addr}(T:Txt K mg f fd cls):FnOk P w K mg base CX0 3 (f 12) (fd 12) ["n","points"] (spD K (sD Jl)):=by
 have G_check_points:=Zgk (P:=P) (w:=w) (base:=base) T
 refine Ye T.e_cut_of.F Zkc (S:=Zdn) rfl rfl (λcdv A outer s H E hr=>?_)
 have hu:=hr.units
 exact(xsq (Zrk (Zr6 (xcl G_check_points (hr.mono (by decide)) T.e_check_points.m T.e_check_points.F.kp T.e_check_points.b (Zj (xv 0) (xa1 (xv 1)))))) (xsq (Zjb (Zae (i:=2) (own:=["point"]) (caps:=[1]) (N':=["point","points"]) false Zkc.nd rfl (Qw rfl) (by exact⟨rfl,by decide +kernel,rfl,by decide +kernel,rfl,rfl⟩) (by rfl) (by decide) (Zb0 (Z3 (by rfl) T.z_range (xa1 (xv 0)))) (λ_ _ _ _ _=>(xg 0 (by show JC (["point","points"]:List Str);decide +kernel))) (λ_ _ _ _ _=>(Zfo (Jr Zwv (Jq (Zq3 rfl) Zui (xv 0) (xv 1) (hm:=(by with_unfolding_all rfl)))))) (λ_ _ _ _ _=>(xv 0)))) (xsq (xif (MW.mt (Zo0 (Zpd (xeq hu (xln T.z_len (xa1 (xv 1))) xci) (Znn (xeq hu (xln T.z_len (xa1 (xv 2))) xci))))) (Zg Zb4) xnl) (xsq (xif (Jr Zwv (Jq (Zrn rfl) Zui xci (xv 1) (hm:=(by with_unfolding_all rfl)))) (Zg (xrt (xv 2))) xnl) (Zg (xrt (Zo9 (Zsk (by rfl) (by rfl) T.z_sorted L2.B.boot_sorted (by rfl) T.z_set L2.B.boot_set (xa1 (xv 1))))))))))
theorem Y7:Zt ["rows","roads","cuts","a","b","cut"] ["rows","roads"] (Zi Zaa):=fsc
theorem Zgw{f:Nat->Addr}{fd:Nat->Qc}{cls:Nat->Addr}(T:Txt K mg f fd cls):FnOk P w K mg base CX0 4 (f 13) (fd 13) ["rows","roads"] (spD K (sD Yq)):=by
 have G_cut_of:=Ztn (P:=P) (w:=w) (base:=base) T
 have G_far_sides:=Zev (P:=P) (w:=w) (base:=base) T
 refine Ye T.e_halving_cuts.F Y7 (S:=Jx) rfl rfl (λcdv A outer s H E hr=>?_)
 have hu:=hr.units
 exact(xsq (xso 2 Y7.nd (xls xa0)) (xsq (xfr Qd rfl (xil (xv 1)) (xg2 rfl (xg 3 Y7.nd) (xg 4 Y7.nd)) (xsq (xst 5 Y7.nd (xcl G_cut_of (hr.mono (by decide)) T.e_cut_of.m T.e_cut_of.F.kp T.e_cut_of.b (Zj (xln T.z_len (xa1 (xv 0))) (xa1 (Wo (J2 (own:=["x","is_far"]) (caps:=[]) (N':=["x","is_far"]) (by exact⟨rfl,by decide +kernel,rfl,by decide +kernel,rfl,rfl⟩) (by rfl) (by decide) (Zzm (Zyy (by rfl) T.z_enumerate L2.B.boot_enumerate (xa1 (xcl G_far_sides (hr.mono (by decide)) T.e_far_sides.m T.e_far_sides.F.kp T.e_far_sides.b (Zj (xv 0) (Zj (xv 3) (xa1 (xv 4)))))))) (λ_ _ _ _ _=>(xg2 rfl (xg 0 (by show JC (["x","is_far"]:List Str);decide +kernel)) (xg 1 (by show JC (["x","is_far"]:List Str);decide +kernel)))) (λ_ _ _ _ _=>(Zfo (Zdw (Zdh (xv 1) (λ_=>rfl))))) (λ_ _ _ _ _=>(xv 0)))))))) (Zg (xif (Jr Zxd (Jq (Zj1 hu) Zx0 (xv 5) (xo 2) (hm:=(by with_unfolding_all rfl)))) (Zg (Wx (Wr 2 (xv 5)))) xnl)))) (Zg (Zf0 (Zgi 2 (xrt (Zzd Zsz (Yey Zm1 (Zid Zyd rfl hu) (by rfl) T.z_sorted L2.B.boot_sorted (xa1 (xv 2))))))))))
theorem W4:Zt ["n","roads","beside","a","b"] ["n","roads"] (Zi Zax):=fsc
theorem Zg8{f:Nat->Addr}{fd:Nat->Qc}{cls:Nat->Addr}(T:Txt K mg f fd cls):FnOk P w K mg base CX0 1 (f 14) (fd 14) ["n","roads"] (spD K (sD Wy)):=by
 refine Ye T.e_beside_each.F W4 (S:=J7) rfl rfl (λcdv A outer s H E hr=>?_)
 have hu:=hr.units
 exact(xsq (Zvz (Zae (i:=2) (own:=["point"]) (caps:=[]) (N':=["point"]) true W4.nd rfl (Qw rfl) (by exact⟨rfl,by decide +kernel,rfl,by decide +kernel,rfl,rfl⟩) (by rfl) (by decide) (Zb0 (Z3 (by rfl) T.z_range (xa1 (xv 0)))) (λ_ _ _ _ _=>(xg 0 (by show JC (["point"]:List Str);decide +kernel))) (λ_ _ _ _ _=>(Ws Wv)) (λ_ _ _ _ _=>(xls xa0)))) (xsq (xfr Qd rfl (xil (xv 1)) (xg2 rfl (xg 3 W4.nd) (xg 4 W4.nd)) (xsq (Znq (Zm0 2 (xv 3) (xv 4))) (Zg (Znq (Zm0 2 (xv 4) (xv 3)))))) (Zg (Zaw (Zas 2)))))
theorem Zer:Zt ["n"] ["n"] (Zi Jc):=fsc
theorem Zd6{f:Nat->Addr}{fd:Nat->Qc}{cls:Nat->Addr}(T:Txt K mg f fd cls):FnOk P w K mg base CX0 1 (f 15) (fd 15) ["n"] (spD K (sD Y9)):=by
 refine Ye T.e_is_point_count.F Zer (S:=W6) rfl rfl (λcdv A outer s H E hr=>?_)
 have hu:=hr.units
 exact(Zg (xrt (Zvo (Z2o Zve Zve xci (xv 0) (Zck (Zzb (by rfl) T.g_MOST_POINTS))))))
theorem Zbi:Zt ["things","one","behind"] ["things"] (Zi Zct):=fsc
theorem Zjt{f:Nat->Addr}{fd:Nat->Qc}{cls:Nat->Addr}(T:Txt K mg f fd cls):FnOk P w K mg base CX0 1 (f 16) (fd 16) ["things"] (spD K (sD Jb)):=by
 refine Ye T.e_is_rising.F Zbi (S:=Za3) rfl rfl (λcdv A outer s H E hr=>?_)
 have hu:=hr.units
 exact(xsq (xfr Qd rfl (Z20 (Zzf (by rfl) T.z_zip L2.B.boot_zip (Zj (xv 0) (xa1 (Z2k (Zy2 (xv 0) (Zga (Zgf xci)) (Ziz Ziq))))))) (xg2 rfl (xg 1 Zbi.nd) (xg 2 Zbi.nd)) (Zg (xif (xno (Jr Yb6 (Jq (Z3z hu) Z68 (xv 1) (xv 2) (hm:=(Zcg _))))) (Zg (xrt (Zck Zkt))) xnl))) (Zg (xrt (Zck Zkt))))
theorem J9:Zt ["n","roads","a","b"] ["n","roads"] (Zi Zav):=fsc
theorem Zhe{f:Nat->Addr}{fd:Nat->Qc}{cls:Nat->Addr}(T:Txt K mg f fd cls):FnOk P w K mg base CX0 2 (f 17) (fd 17) ["n","roads"] (spD K (sD Wt)):=by
 have G_is_point_count:=Zd6 (P:=P) (w:=w) (base:=base) T
 have G_is_rising:=Zjt (P:=P) (w:=w) (base:=base) T
 refine Ye T.e_check_roads.F J9 (S:=J5) rfl rfl (λcdv A outer s H E hr=>?_)
 have hu:=hr.units
 exact(xsq (xif (xno (Zdw (Zdh (xcl G_is_point_count (hr.mono (by decide)) T.e_is_point_count.m T.e_is_point_count.F.kp T.e_is_point_count.b (xa1 (xv 0))) (λ_=>rfl)))) (Zg Zb4) xnl) (xsq (xfr Qd rfl (xil (xv 1)) (xg2 rfl (xg 2 J9.nd) (xg 3 J9.nd)) (Zg (xif (xno (Zq2 (Zp8 Zve Zsx Zsx xci (xv 2) (xv 3) (xv 0)))) (Zg Zb4) xnl))) (Zg (xif (xno (Zdw (Zdh (xcl G_is_rising (hr.mono (by decide)) T.e_is_rising.m T.e_is_rising.F.kp T.e_is_rising.b (xa1 (xv 1))) (λ_=>rfl)))) (Zg Zb4) xnl))))
theorem Yo:Zt ["beside","start","steps","edge","beyond","point","other"] ["beside","start"] (Zi Zbk):=fsc
theorem Zjd{f:Nat->Addr}{fd:Nat->Qc}{cls:Nat->Addr}(T:Txt K mg f fd cls):FnOk P w K mg base CX0 1 (f 18) (fd 18) ["beside","start"] (spD K (sD Yn)):=by
 refine Ye T.e_steps_from.F Yo (S:=Zaj) rfl rfl (λcdv A outer s H E hr=>?_)
 have hu:=hr.units
 exact(xsq (xso 2 Yo.nd (Zu0 (Zyn (xv 1) xci))) (xsq (xst 3 Yo.nd (xls (xa1 (xv 1)))) (xsq (Zt6 (Zv7 Qd (xgt (xln T.z_len (xa1 (xv 3))) xci) (xsq (xso 4 Yo.nd (xls xa0)) (xsq (xfr Qd rfl (xil (xv 3)) (xg 5 Yo.nd) (Zg (xfr Qd rfl (xil (xix (xv 0) (xv 5))) (xg 6 Yo.nd) (Zg (xif (Jr Yb7 (Jq (Zqe hu) Z58 (xv 6) (xo 2) (hm:=(by with_unfolding_all rfl)))) (xsq (Z1t (Zz0 2 hu (Zpi (Ze3 (Za1 Z8s (Z4d hu (xo 2) (xv 5) (hs:=λ_ _=>rfl)))) xci) (xv 6))) (Zg (Wx (Wr 4 (xv 6))))) xnl))))) (Zg (Zf0 (Zgi 4 (xst 3 Yo.nd (xv 4))))))))) (Zg (Zaw (Zas 2))))))
theorem Jv:Zt ["n","roads","beside","rows","start","steps"] ["n","roads"] (Zi Zee):=fsc
theorem Zfn{f:Nat->Addr}{fd:Nat->Qc}{cls:Nat->Addr}(T:Txt K mg f fd cls):FnOk P w K mg base CX0 3 (f 19) (fd 19) ["n","roads"] (spD K (sD Z9)):=by
 have G_beside_each:=Zg8 (P:=P) (w:=w) (base:=base) T
 have G_check_roads:=Zhe (P:=P) (w:=w) (base:=base) T
 have G_steps_from:=Zjd (P:=P) (w:=w) (base:=base) T
 refine Ye T.e_web_rows.F Jv (S:=Zbc) rfl rfl (λcdv A outer s H E hr=>?_)
 have hu:=hr.units
 exact(xsq (Zrk (Zr6 (xcl G_check_roads (hr.mono (by decide)) T.e_check_roads.m T.e_check_roads.F.kp T.e_check_roads.b (Zj (xv 0) (xa1 (xv 1)))))) (xsq (xst 2 Jv.nd (xcl G_beside_each (hr.mono (by decide)) T.e_beside_each.m T.e_beside_each.F.kp T.e_beside_each.b (Zj (xv 0) (xa1 (xv 1))))) (xsq (xso 3 Jv.nd (xls xa0)) (xsq (xfr Qd rfl (Zb0 (Z3 (by rfl) T.z_range (xa1 (xv 0)))) (xg 4 Jv.nd) (xsq (Zm9 (Znd (i:=5) Jv.nd rfl (Qo rfl) (xcl G_steps_from (hr.mono (by decide)) T.e_steps_from.m T.e_steps_from.F.kp T.e_steps_from.b (Zj (xv 2) (xa1 (xv 4)))))) (xsq (xif (xlt (Zia Z56 (Zq9 Zzp Zra (by rfl) T.z_len L2.B.boot_len (xa1 (xv 5)))) (xv 0)) (Zg Zb4) xnl) (Zg (Wx (Wr 3 (Wo (J2 (own:=["point"]) (caps:=[5]) (N':=["point","steps"]) (by exact⟨rfl,by decide +kernel,rfl,by decide +kernel,rfl,rfl⟩) (by rfl) (by decide) (Zb0 (Z3 (by rfl) T.z_range (xa1 (xv 0)))) (λ_ _ _ _ _=>(xg 0 (by show JC (["point","steps"]:List Str);decide +kernel))) (λ_ _ _ _ _=>(Ws Wv)) (λ_ _ _ _ _=>(Ze3 (Za1 Z8s (Z4d hu (xv 1) (xv 0) (hs:=λ_ _=>rfl))))))))))))) (Zg (Zaw (Zas 3)))))))
theorem Zo6:Zt ["point","cuts"] ["point","cuts"] (Zi Zgs):=fsc
theorem Zos{f:Nat->Addr}{fd:Nat->Qc}{cls:Nat->Addr}(T:Txt K mg f fd cls):FnOk P w K mg base CX0 1 (f 20) (fd 20) ["point","cuts"] (spD K (sD Wj)):=by
 refine Ye T.e_word_of.F Zo6 (S:=Zcn) rfl rfl (λcdv A outer s H E hr=>?_)
 have hu:=hr.units
 exact(Zg (xrt (Zxw (Z71 Zrr F.slot_str_join F.type_str_join (Zsi rfl) (Zck Jg) (xa1 (Wo (J2 (own:=["cut"]) (caps:=[0]) (N':=["cut","point"]) (by exact⟨rfl,by decide +kernel,rfl,by decide +kernel,rfl,rfl⟩) (by rfl) (by decide) (xil (xv 1)) (λ_ _ _ _ _=>(xg 0 (by show JC (["cut","point"]:List Str);decide +kernel))) (λ_ _ _ _ _=>(Ws Wv)) (λ_ _ _ _ _=>(Ze3 (Ybz (Ygf (Jr Zwv (Jq (Zrn rfl) Zui (xv 1) (xv 0) (hm:=(by with_unfolding_all rfl)))) (Zck Jg) (Zck Jg))))))))))))
theorem Wh:Zt ["n","roads","rows","even","not_whole","cuts"] ["n","roads"] (Zi Za0):=fsc
theorem Zg2{f:Nat->Addr}{fd:Nat->Qc}{cls:Nat->Addr}(T:Txt K mg f fd cls):FnOk P w K mg base CX0 5 (f 21) (fd 21) ["n","roads"] (spD K (sD Wq)):=by
 have G_first_even:=Zja (P:=P) (w:=w) (base:=base) T
 have G_first_not_whole:=Zds (P:=P) (w:=w) (base:=base) T
 have G_halving_cuts:=Zgw (P:=P) (w:=w) (base:=base) T
 have G_web_rows:=Zfn (P:=P) (w:=w) (base:=base) T
 have G_word_of:=Zos (P:=P) (w:=w) (base:=base) T
 refine Ye T.e_halved_told.F Wh (S:=Yx) rfl rfl (λcdv A outer s H E hr=>?_)
 have hu:=hr.units
 exact(xsq (xst 2 Wh.nd (xcl G_web_rows (hr.mono (by decide)) T.e_web_rows.m T.e_web_rows.F.kp T.e_web_rows.b (Zj (xv 0) (xa1 (xv 1))))) (xsq (xst 3 Wh.nd (xcl G_first_even (hr.mono (by decide)) T.e_first_even.m T.e_first_even.F.kp T.e_first_even.b (Zj (xv 2) (xa1 (xv 1))))) (xsq (xif (Jr Zlu (Jq Zmj Zl7 (xv 3) (Zck Zh2) (hm:=(Zcg _)))) (Zg (xrt (xtp (Zj (Zck Jg) (xa1 (xv 3)))))) xnl) (xsq (xst 4 Wh.nd (xcl G_first_not_whole (hr.mono (by decide)) T.e_first_not_whole.m T.e_first_not_whole.F.kp T.e_first_not_whole.b (Zj (xv 2) (xa1 (xv 1))))) (xsq (xif (Jr Zlu (Jq Zmj Zl7 (xv 4) (Zck Zh2) (hm:=(Zcg _)))) (Zg (xrt (xtp (Zj (Zck Jg) (xa1 (xv 4)))))) xnl) (xsq (Zm9 (Znd (i:=5) Wh.nd rfl (Qo rfl) (xcl G_halving_cuts (hr.mono (by decide)) T.e_halving_cuts.m T.e_halving_cuts.F.kp T.e_halving_cuts.b (Zj (xv 2) (xa1 (xv 1)))))) (Zg (xrt (Z12 (Z3o (Zj (Zck Jg) (xa1 (Wo (J2 (own:=["point"]) (caps:=[5]) (N':=["point","cuts"]) (by exact⟨rfl,by decide +kernel,rfl,by decide +kernel,rfl,rfl⟩) (by rfl) (by decide) (Zb0 (Z3 (by rfl) T.z_range (xa1 (xv 0)))) (λ_ _ _ _ _=>(xg 0 (by show JC (["point","cuts"]:List Str);decide +kernel))) (λ_ _ _ _ _=>(Ws Wv)) (λ_ _ _ _ _=>(xcl G_word_of (hr.mono (by decide)) T.e_word_of.m T.e_word_of.F.kp T.e_word_of.b (Zj (xv 0) (xa1 (xv 1)))))))))))))))))))
theorem Zbm:Zt ["n","roads","table","row"] ["n","roads"] (Zi Zc0):=fsc
theorem Zk2{f:Nat->Addr}{fd:Nat->Qc}{cls:Nat->Addr}(T:Txt K mg f fd cls):FnOk P w K mg base CX0 4 (f 22) (fd 22) ["n","roads"] (spD K (sD Je)):=by
 have G_web_rows:=Zfn (P:=P) (w:=w) (base:=base) T
 refine Ye T.e_web_table.F Zbm (S:=Za5) rfl rfl (λcdv A outer s H E hr=>?_)
 have hu:=hr.units
 exact(xsq (xso 2 Zbm.nd (xls xa0)) (xsq (xfr Qd rfl (xil (xcl G_web_rows (hr.mono (by decide)) T.e_web_rows.m T.e_web_rows.F.kp T.e_web_rows.b (Zj (xv 0) (xa1 (xv 1))))) (xg 3 Zbm.nd) (Zg (Zpe (Zot 2 (Wo (J2 (own:=["far"]) (caps:=[]) (N':=["far"]) (by exact⟨rfl,by decide +kernel,rfl,by decide +kernel,rfl,rfl⟩) (by rfl) (by decide) (xil (xv 3)) (λ_ _ _ _ _=>(xg 0 (by show JC (["far"]:List Str);decide +kernel))) (λ_ _ _ _ _=>(Ws Wv)) (λ_ _ _ _ _=>(xtp (Zj (xv 0) (xa1 xci)))))))))) (Zg (Zaw (Zas 2)))))
theorem Y5:Zt ["words","n","roads","handed","found","table","due"] ["words"] (Zi Zc4):=fsc
theorem Zjx{f:Nat->Addr}{fd:Nat->Qc}{cls:Nat->Addr}(T:Txt K mg f fd cls):FnOk P w K mg base CX0 6 (f 23) (fd 23) ["words"] (spD K (sD Wk)):=by
 have G_law_roads:=Zk8 (P:=P) (w:=w) (base:=base) T
 have G_law_told:=Zl1 (P:=P) (w:=w) (base:=base) T
 have G_law_unlike:=Zdx (P:=P) (w:=w) (base:=base) T
 have G_halved_told:=Zg2 (P:=P) (w:=w) (base:=base) T
 have G_web_table:=Zk2 (P:=P) (w:=w) (base:=base) T
 refine Ye T.e_law_right.F Y5 (S:=Za7) rfl rfl (λcdv A outer s H E hr=>?_)
 have hu:=hr.units
 exact(xsq (xst 1 Y5.nd (xln T.z_len (xa1 (xv 0)))) (xsq (xst 2 Y5.nd (xcl G_law_roads (hr.mono (by decide)) T.e_law_roads.m T.e_law_roads.F.kp T.e_law_roads.b (xa1 (xv 0)))) (xsq (xst 3 Y5.nd (Zzd Z7u (Yfx Z1x (Zob rfl) (by rfl) T.z_list L2.B.boot_list (xa1 (xv 2))))) (xsq (xso 4 Y5.nd (xcl G_halved_told (hr.mono (by decide)) T.e_halved_told.m T.e_halved_told.F.kp T.e_halved_told.b (Zj (xv 1) (xa1 (xv 3))))) (xsq (xif (MW.mt (Zo0 (Zpd (xno (Zdw (Zdh (Zhs (Zn4 (by decide) (by rfl) T.z_isinstance L2.B.boot_isinstance (by rfl) T.z_tuple L2.B.boot_tuple (xo 4))) (λ_=>rfl)))) (Zo0 (Zpd (xne hu (xo 4) (xtp (Zj (Zck Jg) (xa1 (xcl G_law_told (hr.mono (by decide)) T.e_law_told.m T.e_law_told.F.kp T.e_law_told.b (xa1 (xv 0))))))) (Znn (xno (Zdw (Zdh (Zhs (Zn4 (by decide) (by rfl) T.z_isinstance L2.B.boot_isinstance (by rfl) T.z_list L2.B.boot_list (xix (xo 4) xci))) (λ_=>rfl)))))))))) (Zg (xrt (Zck Zkt))) xnl) (xsq (xif (xno (Zdw (Zdh (Zia Ycz (Zq9 Z8b (Zst rfl (by rfl)) (by rfl) T.z_all L2.B.boot_all (xa1 (Wo (J2 (own:=["word"]) (caps:=[]) (N':=["word"]) (by exact⟨rfl,by decide +kernel,rfl,by decide +kernel,rfl,rfl⟩) (by rfl) (by decide) (xil (xix (xo 4) xci)) (λ_ _ _ _ _=>(Zuh (Zu6 (i:=0) (by show JC (["word"]:List Str);decide +kernel)))) (λ_ _ _ _ _=>(Ws Wv)) (λ_ _ _ _ _=>(Zhs (Zn4 (by decide) (by rfl) T.z_isinstance L2.B.boot_isinstance (by rfl) T.z_str L2.B.boot_str (xv 0))))))))) (λ_=>rfl)))) (Zg (xrt (Zck Zkt))) xnl) (xsq (Zv5 (Zu9 4 1)) (xsq (xso 5 Y5.nd (xcl G_web_table (hr.mono (by decide)) T.e_web_table.m T.e_web_table.F.kp T.e_web_table.b (Zj (xv 1) (xa1 (xv 3))))) (xsq (Zjb (Zae (i:=6) (own:=["one"]) (caps:=[0]) (N':=["one","words"]) false Y5.nd rfl (Qw rfl) (by exact⟨rfl,by decide +kernel,rfl,by decide +kernel,rfl,rfl⟩) (by rfl) (by decide) (xil (xv 0)) (λ_ _ _ _ _=>(xg 0 (by show JC (["one","words"]:List Str);decide +kernel))) (λ_ _ _ _ _=>(Ws Wv)) (λ_ _ _ _ _=>(Wo (J2 (own:=["other"]) (caps:=[0]) (N':=["other","one"]) (by exact⟨rfl,by decide +kernel,rfl,by decide +kernel,rfl,rfl⟩) (by rfl) (by decide) (xil (xv 1)) (λ_ _ _ _ _=>(xg 0 (by show JC (["other","one"]:List Str);decide +kernel))) (λ_ _ _ _ _=>(Ws Wv)) (λ_ _ _ _ _=>(xtp (Zj (xcl G_law_unlike (hr.mono (by decide)) T.e_law_unlike.m T.e_law_unlike.F.kp T.e_law_unlike.b (Zj (xv 1) (xa1 (xv 0)))) (xa1 xci))))))))) (xsq (xif (MW.mt (Zo0 (Zpd (xno (Zdw (Zdh (Zhs (Zn4 (by decide) (by rfl) T.z_isinstance L2.B.boot_isinstance (by rfl) T.z_list L2.B.boot_list (xo 5))) (λ_=>rfl)))) (Zo0 (Zpd (xne hu (xo 5) (xv 6)) (Znn (xne hu (xv 3) (xv 2)))))))) (Zg (xrt (Zck Zkt))) xnl) (xsq (Zwf (Zwe 5 xci)) (Zg (xrt (Zck Zkt))))))))))))))
theorem Zcz:Zt ["half","words","k"] ["half"] (Zi Zef):=fsc
theorem Zli{f:Nat->Addr}{fd:Nat->Qc}{cls:Nat->Addr}(T:Txt K mg f fd cls):FnOk P w K mg base CX0 1 (f 24) (fd 24) ["half"] (spD K (sD Ju)):=by
 refine Ye T.e_law_ring.F Zcz (S:=Zbe) rfl rfl (λcdv A outer s H E hr=>?_)
 have hu:=hr.units
 exact(xsq (xso 1 Zcz.nd (xls xa0)) (xsq (xfr Qd rfl (Zb0 (Z3 (by rfl) T.z_range (xa1 (xv 0)))) (xg 2 Zcz.nd) (xsq (Wx (Wr 1 (Y6 Zkj (Zc8 Zaf Zgn (Y6 Znu (Zc8 Zje Zi6 (Zck Jg) (xv 2))) (Y6 Znu (Zc8 Zje Zi6 (Zck Jg) (Z8y (xv 0) (xv 2)))))))) (Zg (Wx (Wr 1 (Y6 Zkj (Zc8 Zaf Zgn (Y6 Znu (Zc8 Zje Zi6 (Zck Jg) (xv 2))) (Y6 Znu (Zc8 Zje Zi6 (Zck Jg) (Z8y (xv 0) (xv 2))))))))))) (Zg (Zaw (Zas 1)))))
theorem Jp:Zt ["row","many","words","k","ahead"] ["row","many"] (Zi Zd5):=fsc
theorem Zl9{f:Nat->Addr}{fd:Nat->Qc}{cls:Nat->Addr}(T:Txt K mg f fd cls):FnOk P w K mg base CX0 1 (f 25) (fd 25) ["row","many"] (spD K (sD Wa)):=by
 refine Ye T.e_law_tree.F Jp (S:=Zbb) rfl rfl (λcdv A outer s H E hr=>?_)
 have hu:=hr.units
 exact(xsq (xst 2 Jp.nd (xls (xa1 (Zck Jg)))) (xsq (xfr Qd rfl (Z1g (Zf8 (by rfl) T.z_range (Zj xci (xa1 (xv 1))))) (xg 3 Jp.nd) (xsq (xst 4 Jp.nd (xix (xv 2) (Zsg (xix (xv 0) (xv 3)) (xv 3)))) (Zg (xst 2 Jp.nd (Ze3 (Za1 Zz7 (Z9n (Zlf rfl) Zqs (Wo (J2 (own:=["word"]) (caps:=[]) (N':=["word"]) (by exact⟨rfl,by decide +kernel,rfl,by decide +kernel,rfl,rfl⟩) (by rfl) (by decide) (xil (xv 2)) (λ_ _ _ _ _=>(xg 0 (by show JC (["word"]:List Str);decide +kernel))) (λ_ _ _ _ _=>(Ws Wv)) (λ_ _ _ _ _=>(Y6 Zkj (Zc8 Zaf Zgn (xv 0) (Zck Jg)))))) (xls (xa1 (Y6 Zkj (Zc8 Zaf Zgn (xv 4) (Zck Jg)))))))))))) (Zg (xrt (xv 2)))))
theorem Zl3:Zt ["row","most"] ["row","most"] (Zi Zek):=fsc
theorem Zlr{f:Nat->Addr}{fd:Nat->Qc}{cls:Nat->Addr}(T:Txt K mg f fd cls):FnOk P w K mg base CX0 2 (f 26) (fd 26) ["row","most"] (spD K (sD Y4)):=by
 have G_law_ring:=Zli (P:=P) (w:=w) (base:=base) T
 have G_law_tree:=Zl9 (P:=P) (w:=w) (base:=base) T
 refine Ye T.e_law_kind.F Zl3 (S:=Zbj) rfl rfl (λcdv A outer s H E hr=>?_)
 have hu:=hr.units
 exact(xsq (xif (MW.mt (Zr3 (Ztp (xeq hu (Zsg (xix (xv 0) xci) xci) xci) (Zly (xge (xv 1) xci))))) (Zg (xrt (xcl G_law_ring (hr.mono (by decide)) T.e_law_ring.m T.e_law_ring.F.kp T.e_law_ring.b (xa1 (Zpi xci (Zsg (xix (xv 0) xci) (Z8y (Z8z (xv 1) xci) xci))))))) xnl) (Zg (xrt (xcl G_law_tree (hr.mono (by decide)) T.e_law_tree.m T.e_law_tree.F.kp T.e_law_tree.b (Zj (xv 0) (xa1 (Zpi xci (Zsg (xix (xv 0) xci) (xv 1)))))))))
theorem Zy:Zt ["cell","many","base","row","rest","k","stir"] ["cell","many","base"] (Zi Zar):=fsc
theorem Zg9{f:Nat->Addr}{fd:Nat->Qc}{cls:Nat->Addr}(T:Txt K mg f fd cls):FnOk P w K mg base CX0 1 (f 27) (fd 27) ["cell","many","base"] (spD K (sD Yv)):=by
 refine Ye T.e_law_numbers.F Zy (S:=J6) rfl rfl (λcdv A outer s H E hr=>?_)
 have hu:=hr.units
 exact(xsq (xst 0 Zy.nd (Zsg (xv 0) (Z29 (Z9l xci xci) (Z9l xci xci)))) (xsq (xso 3 Zy.nd (xls xa0)) (xsq (xst 4 Zy.nd (Z8y (xv 0) (Z9l xci xci))) (xsq (xfr Qd rfl (Zb0 (Z3 (by rfl) T.z_range (xa1 (xv 1)))) (xg 5 Zy.nd) (xsq (xst 6 Zy.nd (Zsg (Z29 (Zpi (Zpi (xv 0) (Z29 xci (xv 5))) xci) xci) xci)) (xsq (xst 6 Zy.nd (Zsg (Z29 (xv 6) (xv 6)) xci)) (xsq (xst 6 Zy.nd (Z8z (Zsg (Z29 (Zpi (xv 6) (Z29 xci (Zpi (xv 5) xci))) xci) xci) xci)) (xsq (xif (xge (xv 0) (Z9l xci xci)) (xsq (xst 6 Zy.nd (xv 4)) (Zg (xst 4 Zy.nd (Z8z (xv 4) (xv 2))))) xnl) (Zg (Wx (Wr 3 (Zsg (xv 6) (xv 2)))))))))) (Zg (Zaw (Zas 3)))))))
theorem Y0:Zt ["cell","row","first","words","other","found","k"] ["cell"] (Zi Zcu):=fsc
theorem Zkd{f:Nat->Addr}{fd:Nat->Qc}{cls:Nat->Addr}(T:Txt K mg f fd cls):FnOk P w K mg base CX0 3 (f 28) (fd 28) ["cell"] (spD K (sD Yh)):=by
 have G_law_kind:=Zlr (P:=P) (w:=w) (base:=base) T
 have G_law_numbers:=Zg9 (P:=P) (w:=w) (base:=base) T
 refine Ye T.e_law_words.F Y0 (S:=Za4) rfl rfl (λcdv A outer s H E hr=>?_)
 have hu:=hr.units
 exact(xsq (xst 1 Y0.nd (xcl G_law_numbers (hr.mono (by decide)) T.e_law_numbers.m T.e_law_numbers.F.kp T.e_law_numbers.b (Zj (xv 0) (Zj xci (xa1 xci))))) (xsq (xst 2 Y0.nd (xcl G_law_kind (hr.mono (by decide)) T.e_law_kind.m T.e_law_kind.F.kp T.e_law_kind.b (Zj (xv 1) (xa1 (xix (xls (Zj xci (xa1 xci))) (Zsg (xix (xv 1) xci) xci)))))) (xsq (xso 3 Y0.nd (xls xa0)) (xsq (xfr Qd rfl (xil (xcl G_law_kind (hr.mono (by decide)) T.e_law_kind.m T.e_law_kind.F.kp T.e_law_kind.b (Zj (Z2k (Zy2 (xv 1) (Zga (Zgf xci)) (Ziz Ziq))) (xa1 (Z8z xci (xln T.z_len (xa1 (xv 2)))))))) (xg 4 Y0.nd) (Zg (Zk9 (Zk6 3 (Wo (J2 (own:=["word"]) (caps:=[4]) (N':=["word","other"]) (by exact⟨rfl,by decide +kernel,rfl,by decide +kernel,rfl,rfl⟩) (by rfl) (by decide) (xil (xv 2)) (λ_ _ _ _ _=>(xg 0 (by show JC (["word","other"]:List Str);decide +kernel))) (λ_ _ _ _ _=>(Ws Wv)) (λ_ _ _ _ _=>(Y6 Zkj (Zc8 Zaf Zgn (xv 0) (xv 1)))))))))) (xsq (xso 5 Y0.nd (xls xa0)) (xsq (xfr Qd rfl (Zb0 (Z3 (by rfl) T.z_range (xa1 (xln T.z_len (xa1 (xo 3)))))) (xg 6 Y0.nd) (Zg (Wx (Wr 5 (Z4g (Ycb 3 (Zsg (xix (xv 1) (Zpi xci (xv 6))) (xln T.z_len (xa1 (xo 3)))))))))) (Zg (Zaw (Zas 5)))))))))
theorem Zso:Zt ["script","asked","words"] ["script"] (Zi Zyq):=fsc
theorem Z7q{f:Nat->Addr}{fd:Nat->Qc}{cls:Nat->Addr}(T:Txt K mg f fd cls):FnOk P w K mg base CX0 7 (f 29) (fd 29) ["script"] (spD K (sD Zhm)):=by
 have G_law_cell_at:=Zg3 (P:=P) (w:=w) (base:=base) T
 have G_law_right:=Zjx (P:=P) (w:=w) (base:=base) T
 have G_law_words:=Zkd (P:=P) (w:=w) (base:=base) T
 refine Ye T.e_law.F Zso (S:=Zh4) rfl rfl (λcdv A outer s H E hr=>?_)
 have hu:=hr.units
 exact(xsq (Zjb (Zae (i:=1) (own:=["cell"]) (caps:=[]) (N':=["cell"]) false Zso.nd rfl (Qw rfl) (by exact⟨rfl,by decide +kernel,rfl,by decide +kernel,rfl,rfl⟩) (by rfl) (by decide) (xil (Ze3 (Za1 Zz7 (Z9n (Zlf rfl) Zqs (Z2k (Zy2 (xv 0) (Zga (Zgf xci)) (Zga (Zgf xci)))) (xls (xa1 (xcl G_law_cell_at (hr.mono (by decide)) T.e_law_cell_at.m T.e_law_cell_at.F.kp T.e_law_cell_at.b (Zj (xv 0) (xa1 xci))))))))) (λ_ _ _ _ _=>(xg 0 (by show JC (["cell"]:List Str);decide +kernel))) (λ_ _ _ _ _=>(Ws Wv)) (λ_ _ _ _ _=>(xcl G_law_words (hr.mono (by decide)) T.e_law_words.m T.e_law_words.F.kp T.e_law_words.b (xa1 (xv 0)))))) (xsq (xfr Qd rfl (xil (Ze3 (Za1 Zz7 (Z9n (Zlf rfl) Zqs (xv 1) (Zz5 (Z40 (xv 1) (Ziz Ziq) (Ziz Ziq) (Zga (Zgf (Z63 (Yaf xci)))))))))) (xg 2 Zso.nd) (Zg (xif (xno (Zdw (Zdh (xcl G_law_right (hr.mono (by decide)) T.e_law_right.m T.e_law_right.F.kp T.e_law_right.b (xa1 (xv 2))) (λ_=>rfl)))) (Zg (xrt (Zck Zkt))) xnl))) (Zg (xrt (Zck Zkt)))))
theorem Zy1{f:Nat->Addr}{fd:Nat->Qc}{cls:Nat->Addr}(T:Txt K mg f fd cls):FnOk P w K mg base CX0 7 (f 29) (fd 29) ["script"] (spD K Z53):=(Z7q T).imp λvs H Q E q=>by
 obtain⟨L,ds,k,h1,⟨ns,e,hl,hk⟩,h3⟩:=q
 exact⟨L,ds,k,h1,⟨_,by rw[e];exact Zwu ns hl,hk⟩,h3⟩
end
theorem Z8h{l:PySem.W.OpenLaw}{w:Qq}{K:Xc}{h:Heap}{mg:Str->Option Xe}{fa:Addr}(X:K.In h)(G:h.Ns Qj mg)(hfa:mg "law"=some (.ref fa))
  (q1:Ei K "_law_cell_at" Zao f1 d1)
  (q2:Ei K "_law_unlike" Zbx f2 d2)
  (q3:Ei K "_law_roads" Zc3 f3 d3)
  (q4:Ei K "_law_sides" Zc5 f4 d4)
  (q5:Ei K "_law_told" Zd2 f5 d5)
  (q6:Ei K "first_even" Zbl f6 d6)
  (q7:Ei K "far_sides" Zcw f7 d7)
  (q8:Ei K "pairs_of" Zeq f8 d8)
  (q9:Ei K "first_leaving" Jy f9 d9)
  (q10:Ei K "first_not_whole" W3 f10 d10)
  (q11:Ei K "is_whole" Zec f11 d11)
  (q12:Ei K "check_points" Zad f12 d12)
  (q13:Ei K "cut_of" Zjl f13 d13)
  (q14:Ei K "halving_cuts" Zaa f14 d14)
  (q15:Ei K "beside_each" Zax f15 d15)
  (q16:Ei K "is_point_count" Jc f16 d16)
  (q17:Ei K "is_rising" Zct f17 d17)
  (q18:Ei K "check_roads" Zav f18 d18)
  (q19:Ei K "steps_from" Zbk f19 d19)
  (q20:Ei K "web_rows" Zee f20 d20)
  (q21:Ei K "word_of" Zgs f21 d21)
  (q22:Ei K "halved_told" Za0 f22 d22)
  (q23:Ei K "web_table" Zc0 f23 d23)
  (q24:Ei K "_law_right" Zc4 f24 d24)
  (q25:Ei K "_law_ring" Zef f25 d25)
  (q26:Ei K "_law_tree" Zd5 f26 d26)
  (q27:Ei K "_law_kind" Zek f27 d27)
  (q28:Ei K "_law_numbers" Zar f28 d28)
  (q29:Ei K "_law_words" Zcu f29 d29)
  (q30:Ei K "law" Zyq f30 d30)
  (z0:QR K Qj "all"=some none)
  (z1:QR K Qj "bool"=some none)
  (z2:QR K Qj "enumerate"=some none)
  (z3:QR K Qj "int"=some none)
  (z4:QR K Qj "isinstance"=some none)
  (z5:QR K Qj "len"=some none)
  (z6:QR K Qj "list"=some none)
  (z7:QR K Qj "range"=some none)
  (z8:QR K Qj "set"=some none)
  (z9:QR K Qj "sorted"=some none)
  (z10:QR K Qj "str"=some none)
  (z11:QR K Qj "tuple"=some none)
  (z12:QR K Qj "zip"=some none)
  (gc_MOST_POINTS:QR K Qj "MOST_POINTS"=some (some (.int 10 t_MOST_POINTS)))
  (cc_NoCut:QR K Qj "NoCut"=some (some (.ref C_NoCut)))
  (cc_NoWeb:QR K Qj "NoWeb"=some (some (.ref C_NoWeb)))
  (x_NoCut:Zet K C_NoCut)
  (x_NoWeb:Zet K C_NoWeb)
  (r_NoCut:Zuo K C_NoCut)
  (r_NoWeb:Zuo K C_NoWeb)
  :∃fd:Qc,(∀(s:Xg) (v:Xe),BindsTo s fd ⟨[v],[]⟩ [("script",v)])∧∀base:Heap,K.In base->base.Ns Qj mg->FnOk l.prog w K mg base CX0 7 fa fd ["script"] (spD K Z53):=by
 have e:=hfa.symm.trans (PySem.W.mg_of X G q30.a)
 cases e
 have T:Txt K mg (λk=>[f1,f2,f3,f4,f5,f6,f7,f8,f9,f10,f11,f12,f13,f14,f15,f16,f17,f18,f19,f20,f21,f22,f23,f24,f25,f26,f27,f28,f29,f30].getD k 0) (λk=>[d1,d2,d3,d4,d5,d6,d7,d8,d9,d10,d11,d12,d13,d14,d15,d16,d17,d18,d19,d20,d21,d22,d23,d24,d25,d26,d27,d28,d29,d30].getD k d30) (λk=>[C_NoCut,C_NoWeb].getD k 0):=⟨en2 X G q1,en2 X G q2,en1 X G q3,en1 X G q4,en1 X G q5,en2 X G q6,en3 X G q7,en1 X G q8,en2 X G q9,en2 X G q10,en1 X G q11,en2 X G q12,en2 X G q13,en2 X G q14,en2 X G q15,en1 X G q16,en1 X G q17,en2 X G q18,en2 X G q19,en2 X G q20,en2 X G q21,en2 X G q22,en2 X G q23,en1 X G q24,en1 X G q25,en2 X G q26,en2 X G q27,en3 X G q28,en1 X G q29,en1 X G q30,⟨_,PySem.W.mg_of X G gc_MOST_POINTS⟩,QH X G z0,QH X G z1,QH X G z2,QH X G z3,QH X G z4,QH X G z5,QH X G z6,QH X G z7,QH X G z8,QH X G z9,QH X G z10,QH X G z11,QH X G z12,ec X G cc_NoCut,ec X G cc_NoWeb,x_NoCut,x_NoWeb,r_NoCut,r_NoWeb⟩
 refine⟨d30,λs v=>?_,λbase _ _=>Zy1 (P:=l.prog) (w:=w) (base:=base) T⟩
 obtain⟨_,_,_,_,_,_,_,_,_,rfl,_,_⟩:=q30.F.ex
 exact .of_eq rfl
theorem walk{l:PySem.W.OpenLaw}{q:XS}{loose:List Str}{XP:(Str->Option Xe)->Heap->Prop}{YP:Qq->Heap->Prop}{d:DefRec}{K:Params->Xc}(hn:l.most=some 63)(hdf:d.params.defaults=[])
  (hY:∀(w:Qq) (h:Heap),YP w h->(K w.params).In h)
  (F:∀(w:Qq) (mg:Str->Option Xe) (fa:Addr) (h:Heap),(K w.params).In h->h.Ns Qj mg->mg d.name=some (.ref fa) ->
   ∃fd:Qc,(∀(s:Xg) (u:Xe),BindsTo s fd ⟨[u],[]⟩ [("script",u)])∧∀base:Heap,(K w.params).In base->base.Ns Qj mg->FnOk l.prog w (K w.params) mg base CX0 7 fa fd ["script"] (spD (K w.params) Z53)) :
  PySem.W.WalkO q loose XP YP l.row.toRowW d [] (λf vs=>PySem.call f vs) :=
 L2.Zz8 (n:=63) (k:=7) (x :="script") (CX:=λ_=>CX0) (sp:=λw=>spD (K w.params) Z53) hn (by decide) hdf ⟨rfl,by decide,by decide⟩ hY F (λ_ _ a ns hl _ hS=>Z78 hl hS) λ_ _ _ _ _ z=>z
end My
open PySem PySem.W PyProof.Rows
theorem PySem.W.Fast.tw18341328204721148502 : True := trivial
theorem PySem.W.Fast.tw3841901939233095931 : True := trivial
theorem PySem.W.Fast.tw18083649376321387292 : True := trivial
theorem PySem.W.Fast.tw16075631662584052955 : True := trivial
theorem PySem.W.Fast.tw4938166568803937878 : True := trivial
theorem PySem.W.Fast.tw5894156781103356217 : True := trivial
theorem PySem.W.Fast.tw7992695117514478033 : True := trivial
theorem PySem.W.Fast.tw6486189481386286748 : True := trivial
theorem PySem.W.Fast.tw13435845890238050298 : True := trivial
set_option maxRecDepth 100000 in
set_option maxHeartbeats 0 in
theorem PySem.Challenge.cw_farcuts_k62_webs_that_halve_holds : PySem.Challenge.rw_farcuts_k62_webs_that_halve.Holds := by
 w_on;o_law;k_head;(case hw=>w_witness2)
 k_fill
 refine My.walk (l:=PySem.Challenge.rw_farcuts_k62_webs_that_halve) rfl rfl (λw h Y=>PySem.W.kIn_of Y) ?F
 case F=>
  intro w mg fa h KX G hmg
  refine' My.Z8h KX G hmg ?_ ?_ ?_ ?_ ?_ ?_ ?_ ?_ ?_ ?_ ?_ ?_ ?_ ?_ ?_ ?_ ?_ ?_ ?_ ?_ ?_ ?_ ?_ ?_ ?_ ?_ ?_ ?_ ?_ ?_ ?_ ?_ ?_ ?_ ?_ ?_ ?_ ?_ ?_ ?_ ?_ ?_ ?_ ?_ ?_ ?_ ?_ ?_ ?_ ?_
  all_goals try (first|(refine' ⟨?a,L2.Z4n ?l ?c ?k⟩;(case a=>k_is);(case l=>k_is);(case c=>k_is);(case k=>k_is))|k_is|kit_is|(show PySem.W.excIn _ _ _ _=true;k_exc)|(refine' ⟨?_,?_,?_,?_,?_,?_,?_,?_,?_,?_,?_⟩<;>first|k_is|kit_is|(show PySem.W.isClsIn _ _=true;k_is)))
#print axioms PySem.Challenge.cw_farcuts_k62_webs_that_halve_holds
