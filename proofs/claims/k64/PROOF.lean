import PyProof.Rows.All
import Wide.All
import OpenK.AllK
import Wide.FinOn
import PyProof.EqAt
import PyProof.EqKinds
import PyProof.TupleCall
import PyProof.P3In
import PyProof.ZipIter
import PyProof.ListRange
import PyProof.SetRoads
import PyProof.Rows.SetFrom
import PyProof.Rows.SeqMore2
import KE.RegKIsAll
import PyProof.StrWalks
import PyProof.EnumMake
import PyProof.Conv_int
import PyProof.Conv_int_bool
import PyProof.StrBlockI
import PyProof.Draws
import PyProof.StrOps2
import PyProof.StrLawsIn
import PySem.Challenge.RW_farcuts_k64_no_web_of_words
set_option Elab.async false
set_option linter.all false
set_option maxRecDepth 100000
set_option genSizeOfSpec false
set_option genInjectivity false
/-! THE HAND LAYER, for ints, bools, texts, own classes, LISTS and tuples (index, slices, in, append, pop ..), calls, loops. Paste it whole ahead of your own text; what your proof does not reach may be deleted. -/
open Array renaming getElem?_eq_some_iff->JP,length_toList->By,getElem?_eq_getElem->Vf,getElem?_eq_none->VD,getElem?_toList->VN
open Bool renaming false_ne_true->Xq,and_eq_true->Xz
open Classical renaming choose->Uo,choose_spec->UW
open False renaming elim->Br
open ForInStep renaming yield->JM
open Int renaming toNat_natCast->VH
open List renaming length_map->Xg,getElem?_eq_getElem->Xk,mem_singleton->Xl,getElem?_map->Xm,mem_cons->Xn,length_append->Xo,size_toArray->Xr,getElem?_eq_some_iff->Xv,mem_append_right->Xw,append_nil->XR,range->XX,map_cons->X6,getElem?_set_ne->Qd,nodup_cons->Qi,mem_append->Qj,mem_append_left->Qk,getD_eq_getElem?_getD->Qn,length_range->Qx,replicate->QC,mem_range->QD,getElem?_set_self->QF,append_assoc->QH,mem_map->QJ,map_congr_left->QR,map_append->QT,lookup_cons->QV,mem_of_getElem?->QW,drop_eq_getElem_cons->QX,not_mem_nil->Q3,map_map->Q5,all_eq_true->Q7,length_replicate->JF,length_cons->JH,getElem?_eq_none_iff->JT,zip->JX,Nodup->JZ,nodup_append->Bf,drop_eq_nil_of_le->Bl,length_take->Bp,length_drop->Bq,getElem?_append_right->Bs,getElem?_range->BL,length_zip->BW,length_set->BX,forIn_cons->BZ,forIn_nil->Ve,getElem_of_mem->Vk,any_cons->Vr,find?_cons->Vt,filter_cons_of_pos->Vw,filter_cons_of_neg->Vx,getElem_mem->VR,mem_cons_of_mem->V1,foldl_cons->V2,map_nil->V8,mem_filterMap->Uc,mem_cons_self->Ud,drop_zero->Ue,pairwise_iff_getElem->Uu,getElem?_append_left->Uv,map_take->Uz,all_cons->UG,zipIdx_cons->U3,getElem?_replicate->U4
open List.cons renaming inj->Ub
open Nat renaming ne_of_lt->Xp,le_trans->Xu,ne_of_gt->XN,le_refl->XQ,lt_of_lt_of_le->X5,lt_succ_iff_lt_or_eq->QM,zero_le->JK,le_of_lt->Bo,add_le_add->Bu,lt_succ_self->BR,succ_le_succ->Vh,lt_trans->Vi,le_add_right->Vj,le_succ_of_le->VG,not_lt_zero->V6,not_lt->Um,lt_irrefl->UV
open Ne renaming symm->Ba
open Option renaming bind_some->Xe,map_eq_some_iff->XM,some->Bh
open Option.some renaming inj->Qz
open Or renaming inr->Qo,inl->QG
open PyProof.Rows renaming callWith_type1->JD,ClsAt->BV,slot_tupleiter_next->Uq,envOfC->UJ
open PySem renaming PyData->Xa,Value->Xc,wpAny_bind->Xd,Shared->Xf,sizeLine->Xi,starEach->Xj,mainGlobals->Xx,wpAny->XC,wpAny_pure->XH,Program->X4,model->X8,FuncData->Qc,sizeLine_eq->Qe,bootBuiltins->Qp,wpAny_mono->Qs,Around->Qt,World->Qv,bindArgs->Qw,wpAny_field->QB,IsPair->QK,compareOp->QL,wpAny_setField_rec->QQ,wpAny_seqItems->Q4,backTo->Q6,wpAny_passesOwn->Q8,mem_of_lookup->JQ,cellsFrom->JV,wpAny_Call_Name_kw->Bb,swapsWith->Bc,assignEach->Bd,NameKind->Bg,wpAny_callSpecial?_slot->Bj,foldedSetIterable->Bk,pushCells->Bv,IsZip->Bw,wpAny_truthy_bool->BJ,wpAny_loadPart_at->BK,Keyword->Vb,wpAny_onRaise->Vc,attributeBase->Vd,sysModules->Vl,rawInt->Vm,binaryOp->Vn,wpAny_call_entry->Vs,Builtin->VF,wpAny_getItem_str_slice->VJ,keywordEach->VL,Apart->VP,behindInMarks->V7,sliceBounds->V9,wpAny_execs_nil->Ug,pyNext->Uh,pushCells_keeps->Ui,letOwnedTupleGo->Uj,cLine->Ur,Scope->Us,codeAny_mono->Uw,Paired->UT,wpAny_newObj_type->U6,wpAny_letGo->U7,codeAny->U8
open PySem.Builtin.Int renaming intBits->VM
open PySem.Builtin.List renaming listTooLong->V3
open PySem.Builtin.SmallTypes renaming nextOf->Qa,ownedTupleIsFree->Qq,ownedTupleHandOut->JR
open PySem.F renaming slot_zip_next->Bx,called_set->Vo,plainAttrs_list->Vp,excBase_ValueError->V5,args_zip_next_1->U5
open PySem.Heap renaming get?_push_of_some->Xh,get?_push_size->Xy,lt_size->XD,size_push->Qy,SameBut->Bm
open PySem.NameKind renaming free->QS,cell->JW
open PySem.PassesOwn renaming never->Qm
open PySem.PyData renaming int->XJ,canLay0->JB,eqv->JG,bool->BP,canLayAll0->Vy,list->Ul,eqvAll->Ut,str->U0
open PySem.PyData.str renaming inj->Vq
open PySem.SeqAt renaming EqAt->JN,shaped->Vz,canLay_of_shaped->VB
open PySem.Str renaming ofString->Ua
open PySem.Txt renaming slice->Q9,slice_le->Vg
open PySem.Value renaming ref->Qu,none->Be,str->Vu,builtin->Ux,int->UL
open PySem.W renaming Frag->Xb,nsIn->XF,mg_of->X3,keepIn->X7,kitOne->Qg,fnOf->Qh,codeIn->Ql,findIn->QZ,Looks->Q0,hideAll->JC,subIn->JL,mg_none_of->JS,hideAll_none->Va,kitAny->Vv,of_hideAll->V4,excIn->Uk
open Sum renaming inr->V0,inl->Uy
open True renaming intro->U9
namespace L2
open PySem PySem.Spec PyProof.Rows
noncomputable abbrev Key:=Sum Int Str
noncomputable def Zl6:Key->Xc->Bool
 | .inl k,v=>Xc.isInt k v
 | .inr x,v=>Value.isStrOf x v
noncomputable def Z89(w:Qv):Key->Int
 | .inl k=>hashInt k
 | .inr x=>hashStr w x
theorem Yy:∀{k:Key} {v:Xc},Zl6 k v=true->(∃i t,k=Uy i∧v=UL i t)∨(∃x t,k=V0 x∧v=Vu x t)
 | .inl i,v,h=>by
  obtain⟨t,e⟩:=Value.isInt_shape (k:=i) (v:=v) h
  exact .inl ⟨i,t,rfl,e⟩
 | .inr x,v,h=>by
  obtain⟨t,e⟩:=Xc.isStrOf_shape (x:=x) (v:=v) h
  exact .inr ⟨x,t,rfl,e⟩
theorem Zp5(i:Int)(t:Tok):Zl6 (.inl i) (.int i t)=true:=by simp[Zl6,Xc.isInt]
theorem Zp2(x:Str)(t:Tok):Zl6 (.inr x) (.str x t)=true:=by simp[Zl6,Value.isStrOf]
theorem Z2d(a b:Int):decide ((Uy a:Key)=Uy b)=(a==b):=by
 by_cases e:a=b
 ·subst e;simp
 ·have h:¬(Uy a:Key)=Uy b:=λq=>e (Sum.inl.inj q)
  rw[decide_eq_false h]
  exact(beq_eq_false_iff_ne.mpr e).symm
theorem Z0e(a b:Str):decide ((V0 a:Key)=V0 b)=decide (a=b):=by
 by_cases e:a=b
 ·subst e;simp
 ·have h:¬(V0 a:Key)=V0 b:=λq=>e (V0.inj q)
  rw[decide_eq_false h,decide_eq_false e]
theorem Z2b(a:Int)(b:Str):decide ((Uy a:Key)=V0 b)=false:=decide_eq_false (λq=>nomatch q)
theorem Z0g(a:Str)(b:Int):decide ((V0 a:Key)=Uy b)=false:=decide_eq_false (λq=>nomatch q)
noncomputable def Wq(prog:X4)(w:Qv):PySem.KeyKind prog w Key where
 is:=Zl6
 hash:=Z89 w
 inj:=λv a b ha hb=>by
  rcases Yy ha with⟨i,t,rfl,rfl⟩|⟨x,t,rfl,rfl⟩
  ·rcases Yy hb with⟨j,u,rfl,e⟩|⟨y,u,rfl,e⟩
   ·injection e with e1 _;rw[e1]
   ·exact nomatch e
  ·rcases Yy hb with⟨j,u,rfl,e⟩|⟨y,u,rfl,e⟩
   ·exact nomatch e
   ·injection e with e1 _;rw[e1]
 byValue:=λk v h=>by
  rcases Yy h with⟨i,t,rfl,rfl⟩|⟨x,t,rfl,rfl⟩<;>rfl
 pyHash:=λhv h=>by
  rcases Yy hv with⟨i,t,rfl,rfl⟩|⟨x,t,rfl,rfl⟩
  ·exact wpAny_pyHash_int h
  ·exact wpAny_pyHash_str h
 eqBool:=λhu hv h=>by
  rcases Yy hu with⟨i,t,rfl,rfl⟩|⟨x,t,rfl,rfl⟩
  ·rcases Yy hv with⟨j,u,rfl,rfl⟩|⟨y,u,rfl,rfl⟩
   ·rw[Z2d]at h;exact wpAny_eqBool_int h
   ·rw[Z2b]at h;exact SeqAt.EqAt.int_str i t y u _ _ _ _ h
  ·rcases Yy hv with⟨j,u,rfl,rfl⟩|⟨y,u,rfl,rfl⟩
   ·rw[Z0g]at h;exact SeqAt.EqAt.str_int x t j u _ _ _ _ h
   ·rw[Z0e]at h;exact wpAny_eqBool_str h
 «strs»:=λk x t v h=>by
  rcases Yy h with⟨i,u,rfl,e⟩|⟨y,u,rfl,e⟩
  ·exact nomatch e
  ·injection e with e1 _
   subst e1
   cases v<;>rfl
theorem Zjv(prog:X4)(w:Qv)(i:Int)(t:Tok):(Wq prog w).is (.inl i) (.int i t)=true:=Zp5 i t
theorem Zjn(prog:X4)(w:Qv)(x:Str)(t:Tok):(Wq prog w).is (.inr x) (.str x t)=true:=Zp2 x t
inductive V where
 | non|bl (b:Bool)|int (i:Int)|str (x:Str)|byt (b:Array UInt8)|flt (b:UInt64)|ref (a:Addr)|ty (n:String)
noncomputable def RelV:V->Xc->Prop
 | .non,u=>u=Be
 | .bl b,u=>u=Value.bool b
 | .int i,u=>∃t,u=UL i t
 | .str x,u=>∃t,u=Vu x t
 | .byt b,u=>∃t,u=Xc.bytes b t
 | .flt b,u=>∃t,u=Xc.float b t
 | .ref a,u=>u=Qu a
 | .ty n,u=>u=Value.type n
noncomputable abbrev Vals:List V->List Xc->Prop:=UT RelV
theorem Vals.length{xs:List V}{us:List Xc}(r:Vals xs us):xs.length=us.length:=Paired.length r
theorem Vals.get{xs:List V}{us:List Xc}{i:Nat}{x:V}(h:Vals xs us)(e:xs[i]? =some x):∃u,us[i]? =some u∧RelV x u:=by
 induction h generalizing i with
 | nil=>exact(Option.some_ne_none _ (e.symm.trans List.getElem?_nil)).elim
 | cons r t ih=>
  cases i with
  | zero=>exact⟨_,rfl,Qz e▸r⟩
  | succ i=>exact ih e
theorem Vals.set{x:V}{u:Xc}(r:RelV x u){xs:List V}{us:List Xc}(i:Nat)(h:Vals xs us):Vals (xs.set i x) (us.set i u):=by
 induction h generalizing i with
 | nil=>exact .nil
 | cons q t ih=>
  cases i with
  | zero=>exact .cons r t
  | succ i=>exact .cons q (ih i)
theorem Vals.append{xs ys:List V}{us ws:List Xc}(h:Vals xs us)(s:Vals ys ws):Vals (xs ++ ys) (us ++ ws):=by
 induction h with
 | nil=>exact s
 | cons r t ih=>exact .cons r ih
theorem Vals.take{xs:List V}{us:List Xc}(n:Nat)(h:Vals xs us):Vals (xs.take n) (us.take n):=by
 induction h generalizing n with
 | nil=>rw[List.take_nil,List.take_nil];exact .nil
 | cons r t ih=>
  cases n with
  | zero=>exact .nil
  | succ n=>exact .cons r (ih n)
theorem Vals.drop{xs:List V}{us:List Xc}(n:Nat)(h:Vals xs us):Vals (xs.drop n) (us.drop n):=by
 induction h generalizing n with
 | nil=>rw[List.drop_nil,List.drop_nil];exact .nil
 | cons r t ih=>
  cases n with
  | zero=>exact .cons r t
  | succ n=>exact ih n
noncomputable def RelO:Option V->Option Xc->Prop
 | some v,some u=>RelV v u
 | none,none=>True
 | _,_=>False
noncomputable def KV{κ:Type}:List (κ×V)->List (κ×Xc)->Prop:=UT λ(p:κ×V) (q:κ×Xc)=>p.1=q.1∧RelV p.2 q.2
noncomputable def kV:Key->V
 | .inl i=>.int i
 | .inr x=>.str x
inductive HO where
  | lst (xs:List V)
  | tup (xs:List V)
  | dK (kvs:List (Key×V))|dT (kvs:List (List Key×V))
  | set (S:Int->Bool) (n:Nat)
  | ins (C dx:Addr) (fs:List (Str×V))
  | own (x:Addr)
  | xd (fs:List (Str×V))
  | met (f x:Addr)
  | rng (lo hi:Int)
  | frz (o:Obj) (u:HO)
  | tbl (ps:Array Xc)
  | ext (φ:Heap->Prop)
noncomputable abbrev Hp:=Addr->Option HO
noncomputable def upd(H:Hp)(a:Addr)(o:HO):Hp:=λb=>if b=a then some o else H b
theorem Zq{H:Hp}{a:Addr}{o:HO}:upd H a o a=some o:=by unfold upd;rw[if_pos rfl]
theorem Zm{H:Hp}{a b:Addr}{o:HO}(h:b≠a):upd H a o b=H b:=by unfold upd;rw[if_neg h]
theorem Z41{H:Hp}{a b:Addr}{o u:HO}(h:H a=some o)(h':H b=some u)(d:o≠u):a≠b:=by
 intro e;subst e;rw[h]at h';exact d (Qz h')
theorem Ye{H:Hp}{a b:Addr}{o:HO}(h:H a=some o)(h':H b=none):a≠b:=by
 intro e;subst e;rw[h]at h';cases h'
section
variable (P:X4)(w:Qv)
noncomputable def ObjOk(H:Hp)(h:Heap)(a:Addr):HO->Prop
 | .lst xs=>xs.length≤Xi∧∃(its:List Xc) (n:Nat),Vals xs its∧h.get? a=some { cls:=.type "list",data:=.seq its.toArray n }
 | .tup xs=>xs.length≤Xi∧∃its:List Xc,Vals xs its∧IsTup h a its.toArray
 | .dK kvs=>kvs.length≤Xi∧(a==Vl)=false∧∃vs,KV kvs vs∧h.DictOf (Wq P w) a vs
 | .dT kvs=>kvs.length≤Xi∧(a==Vl)=false∧∃xs:List (List Key×Addr×Xc),
   UT (λ(p:List Key×V) (q:List Key×Addr×Xc)=>p.1=q.1∧H q.2.1=some (.tup (p.1.map kV))∧RelV p.2 q.2.2) kvs xs∧
   ∃o es ep,h.get? a=some o∧o.ExactDict∧o.data= .dict es ep∧es.toList=xs.map (entryOfKey (tupleKind (Wq P w)))∧(xs.map (·.1)).Nodup
 | .set S n=>h.SetOf (intKind P w) a S n
 | .ins C dx fs=>H dx=some (.own a)∧fs.length≤1000∧dx≠a∧h.get? a=some (PySem.W.instObj C dx)∧
   ∃mA,h.Ns1 dx mA∧(∀f,RelO (fs.lookup f) (mA f))∧PySem.Within mA (fs.map (·.1))
 | .own _=>∃o,h.get? a=some o
 | .xd fs=>∃mA,h.Ns1 a mA∧∀f,RelO (fs.lookup f) (mA f)
 | .rng lo hi=>∃t u v,h.get? a=some { cls:=.type "range",data:=.fields #[.int lo t,.int hi u,.int 1 v] }
 | .frz o u=>h.get? a=some o∧ObjOk H h a u
 | .tbl ps=>h.get? a=some { cls:=.none,data:=.fields ps }
 | .met f x=>h.get? a=some (PySem.W.methodObj (.ref f) (.ref x))
 | .ext φ=>φ h∧(∃o,h.get? a=some o)∧∀h1 h2:Heap,φ h1->(∀o,h1.get? a=some o->h2.get? a=some o)->φ h2
noncomputable def HOk(H:Hp)(h:Heap):Prop:=∀a o,H a=some o->ObjOk P w H h a o
end
section
variable {P:X4}{w:Qv}{H H':Hp}{h h':Heap}{a:Addr}{o:HO}
theorem ObjOk.lt(x:ObjOk P w H h a o):a<h.objs.size:=by
 cases o with
 | lst xs=>obtain⟨_,_,_,_,e⟩:=x;exact XD e
 | tup xs=>obtain⟨_,_,_,p⟩:=x;exact p.lt
 | dK kvs=>obtain⟨_,_,_,_,o,_,_,e,_⟩:=x;exact XD e
 | dT kvs=>obtain⟨_,_,_,_,o,_,_,e,_⟩:=x;exact XD e
 | set S n=>obtain⟨o,_,_,_,e,_⟩:=x;exact XD e
 | ins C dx fs=>obtain⟨_,_,_,e,_⟩:=x;exact XD e
 | own y=>obtain⟨_,e⟩:=x;exact XD e
 | xd fs=>obtain⟨_,⟨_,_,_,e,_⟩,_⟩:=x;exact XD e
 | rng lo hi=>obtain⟨_,_,_,e⟩:=x;exact XD e
 | frz ob u=>obtain⟨e,_⟩:=x;exact XD e
 | tbl ps=>exact XD (show h.get? a=some _ from x)
 | met f y=>exact XD (show h.get? a=some _ from x)
 | ext φ=>obtain⟨_,⟨_,e⟩,_⟩:=x;exact XD e
theorem UT.mapP{α β:Type}{F G:α->β->Prop}{l₁:List α}{l₂:List β}(h:UT F l₁ l₂)(f:∀a b,F a b->G a b):UT G l₁ l₂:=by
 induction h with
 | nil=>exact .nil
 | cons r t ih=>exact .cons (f _ _ r) ih
theorem ObjOk.stay(x:ObjOk P w H h a o)(k:∀b u,(b=a∨H b=some (.own a))->h.get? b=some u->h'.get? b=some u)
  (ho:∀b,H b=some (.own a)->H' b=some (.own a)) (ht:∀b xs,H b=some (.tup xs)->H' b=some (.tup xs)):ObjOk P w H' h' a o:=by
 induction o with
 | lst xs=>obtain⟨z,its,n,r,e⟩:=x;exact⟨z,its,n,r,k _ _ (.inl rfl) e⟩
 | tup xs=>obtain⟨z,its,r,ob,e,c⟩:=x;exact⟨z,its,r,ob,k _ _ (.inl rfl) e,c⟩
 | dK kvs=>obtain⟨z,y,vs,r,ob,es,ep,e,c⟩:=x;exact⟨z,y,vs,r,ob,es,ep,k _ _ (.inl rfl) e,c⟩
 | dT kvs=>
  obtain⟨z,y,xs,r,ob,es,ep,e,c⟩:=x
  exact⟨z,y,xs,UT.mapP r λp q z=>⟨z.1,ht _ _ z.2.1,z.2.2⟩,ob,es,ep,k _ _ (.inl rfl) e,c⟩
 | set S n=>obtain⟨ob,es,ep,t,e,c⟩:=x;exact⟨ob,es,ep,t,k _ _ (.inl rfl) e,c⟩
 | ins C dx fs=>
  obtain⟨d,z,ne,e,mA,⟨od,es,ep,e2,c⟩,r⟩:=x
  exact⟨ho _ d,z,ne,k _ _ (.inl rfl) e,mA,⟨od,es,ep,k _ _ (.inr d) e2,c⟩,r⟩
 | own y=>obtain⟨ob,e⟩:=x;exact⟨ob,k _ _ (.inl rfl) e⟩
 | xd fs=>obtain⟨mA,⟨od,es,ep,e,c⟩,r⟩:=x;exact⟨mA,⟨od,es,ep,k _ _ (.inl rfl) e,c⟩,r⟩
 | rng lo hi=>obtain⟨t,u,v,e⟩:=x;exact⟨t,u,v,k _ _ (.inl rfl) e⟩
 | frz ob u ih=>obtain⟨e,q⟩:=x;exact⟨k _ _ (.inl rfl) e,ih q⟩
 | tbl ps=>
  have e:h.get? a=some { cls:=.none,data:=.fields ps }:=x
  show h'.get? a=some { cls:=.none,data:=.fields ps }
  exact k a _ (.inl rfl) e
 | met f y=>
  have e:h.get? a=some (PySem.W.methodObj (.ref f) (.ref y)):=x
  show h'.get? a=some (PySem.W.methodObj (.ref f) (.ref y))
  exact k a _ (.inl rfl) e
 | ext φ=>obtain⟨p,⟨o,e⟩,st⟩:=x;exact⟨st _ _ p λo q=>k _ _ (.inl rfl) q,⟨o,k _ _ (.inl rfl) e⟩,st⟩
theorem HOk.lt(x:HOk P w H h)(e:H a=some o):a<h.objs.size:=(x a o e).lt
theorem HOk.fresh(x:HOk P w H h)(e:h.objs.size≤a):H a=none:=by
 cases q:H a with
 | none=>rfl
 | some u=>exact absurd (X5 (x.lt q) e) (UV _)
theorem HOk.kept(x:HOk P w H h)(k:∀b u,h.get? b=some u->h'.get? b=some u):HOk P w H h':=λa o e=>
 (x a o e).stay (λb u _ q=>k b u q) (λ_ q=>q) λ_ _ q=>q
theorem HOk.laid(x:HOk P w H h)(k:∀b u,h.get? b=some u->h'.get? b=some u)(hp:h.objs.size≤a)(new:ObjOk P w (upd H a o) h' a o):HOk P w (upd H a o) h':=λb u e=>by
 have hn:=x.fresh hp
 by_cases hb:b=a
 ·subst hb;rw[Zq]at e;cases e;exact new
 ·rw[Zm hb]at e
  exact(x b u e).stay (λc v _ q=>k c v q) (λc q=>by rw[Zm (Ye q hn)];exact q) λc xs q=>by rw[Zm (Ye q hn)];exact q
end
noncomputable def Rd(H:Hp)(a:Addr)(u:HO):Prop:=H a=some u∨∃o,H a=some (.frz o u)
theorem Rd.ok{P:X4}{w:Qv}{H:Hp}{h:Heap}{a:Addr}{u:HO}(r:Rd H a u)(x:HOk P w H h):ObjOk P w H h a u:=by
 rcases r with r|⟨o,r⟩
 ·exact x a u r
 ·obtain⟨_,q⟩:=x a _ r
  exact q
noncomputable def Mut:Option HO->Prop
 | some (.lst _)=>True
 | some (.dK _)=>True
 | some (.dT _)=>True
 | some (.set _ _)=>True
 | some (.ins _ _ _)=>True
 | some (.ext _)=>True
 | _=>False
section
variable {P:X4}{w:Qv}{H:Hp}{h h':Heap}{x e:Addr}{o':HO}
theorem HOk.write(ok:HOk P w H h)(mu:Mut (H x))(he:e=x∨H e=some (.own x))(k:∀b u,b≠e->h.get? b=some u->h'.get? b=some u)(heo:∃u,h'.get? e=some u)
  (new:ObjOk P w (upd H x o') h' x o'):HOk P w (upd H x o') h':=λb u q=>by
 have nown:∀c y,H c=some (.own y)->c≠x:=λc y r z=>by subst z;rw[r]at mu;exact mu
 have ntup:∀c xs,H c=some (.tup xs)->c≠x:=λc xs r z=>by subst z;rw[r]at mu;exact mu
 by_cases hb:b=x
 ·subst hb;rw[Zq]at q;cases q;exact new
 ·rw[Zm hb]at q
  by_cases hbe:b=e
  ·have q':H b=some (.own x):=by
    rcases he with z|z
    ·exact absurd (hbe.trans z) hb
    ·rw[hbe];exact z
   rw[q]at q';cases q'
   obtain⟨v,hv⟩:=heo
   exact⟨v,by rw[hbe];exact hv⟩
  ·refine(ok b u q).stay (λc v hc r=>k c v ?_ r) (λc r=>by rw[Zm (nown c b r)];exact r) λc xs r=>by rw[Zm (ntup c xs r)];exact r
   rcases hc with rfl|hc
   ·exact hbe
   ·rintro rfl
    rcases he with z|z
    ·exact nown c b hc z
    ·rw[hc]at z;cases z;exact hb rfl
end
structure Un(fs ex:List Addr)(H H':Hp)(h h':Heap):Prop where
 keep:∀b o,h.get? b=some o->H b=none->b∉fs->b∉ex->h'.get? b=some o
 slot:∀b o,h.get? b=some o->H b=none->b∈fs->b∉ex->∃sl,h'.get? b=some { o with slots:=sl }
 free:∀b o,h.get? b=some o->H b=none->b∉ex->H' b=none
 there:∀b o,h.get? b=some o->b∉ex->∃o',h'.get? b=some o'
 tups:∀b xs,H b=some (.tup xs)->H' b=some (.tup xs)
 frzs:∀b o u,H b=some (.frz o u)->H' b=some (.frz o u)
 tbls:∀b ps,H b=some (.tbl ps)->∃more,H' b=some (.tbl (ps ++ more))
section
variable {fs fs' ex ex':List Addr}{H H1 H2:Hp}{h h1 h2 h':Heap}{a x e:Addr}{o:HO}
theorem Un.any(u:Un fs ex H H1 h h1){b:Addr}{ob:Obj}(q:h.get? b=some ob)(n:H b=none)(hx:b∉ex):∃sl,h1.get? b=some { ob with slots:=sl }:=by
 by_cases hb:b∈fs
 ·exact u.slot b ob q n hb hx
 ·exact⟨ob.slots,u.keep b ob q n hb hx⟩
theorem Un.kept(k:∀b u,h.get? b=some u->h'.get? b=some u):Un fs ex H H h h' :=
 ⟨λb ob q _ _ _=>k b ob q,λb ob q _ _ _=>⟨ob.slots,k b ob q⟩,λ_ _ _ n _=>n,λb ob q _=>⟨ob,k b ob q⟩,λ_ _ q=>q,λ_ _ _ q=>q,λ_ ps q=>⟨#[],by rw[q];simp⟩⟩
theorem Un.refl:Un fs ex H H h h:=Un.kept λ_ _ q=>q
theorem Un.laid(k:∀b u,h.get? b=some u->h'.get? b=some u)(hp:h.objs.size≤a)(hn:H a=none):Un fs ex H (upd H a o) h h' where
 keep:=λb u q _ _ _=>k b u q
 slot:=λb u q _ _ _=>⟨u.slots,k b u q⟩
 free:=λb u q n _=>by rw[Zm (Xp (X5 (XD q) hp))];exact n
 there:=λb u q _=>⟨u,k b u q⟩
 tups:=λb xs q=>by rw[Zm (Ye q hn)];exact q
 frzs:=λb u xs q=>by rw[Zm (Ye q hn)];exact q
 tbls:=λb ps q=>⟨#[],by rw[Zm (Ye q hn),q];simp⟩
theorem Un.write(mu:Mut (H x))(he:e=x∨H e=some (.own x))(k:∀b u,b≠e->h.get? b=some u->h'.get? b=some u)(heo:∃u,h'.get? e=some u):Un fs ex H (upd H x o) h h':=by
 have hx:∀b,H b=none->b≠x:=λb n z=>by subst z;rw[n]at mu;exact mu
 have hb:∀b,H b=none->b≠e:=λb n z=>by
  subst z
  rcases he with r|r
  ·exact hx b n r
  ·rw[n]at r;cases r
 have hm:∀b u,H b=some u->¬Mut (some u)->b≠x:=λb u q nm z=>by subst z;rw[q]at mu;exact nm mu
 refine⟨λb u q n _ _=>k b u (hb b n) q,λb u q n _ _=>⟨u.slots,k b u (hb b n) q⟩,λb u q n _=>by rw[Zm (hx b n)];exact n,λb u q _=>?_,
  λb xs q=>by rw[Zm (hm b _ q λz=>z)];exact q,λb u xs q=>by rw[Zm (hm b _ q λz=>z)];exact q,λb ps q=>⟨#[],by rw[Zm (hm b _ q λz=>z),q];simp⟩⟩
 by_cases hbe:b=e
 ·subst hbe;exact heo
 ·exact⟨u,k b u hbe q⟩
end
noncomputable def trk(h:Heap)(H:Hp):List Addr:=(XX h.objs.size).filter λa=>(H a).isSome
noncomputable def Zrk(h:Heap)(H:Hp):Heap:=JC h (trk h H)
theorem Znd(h:Heap)(H:Hp):(Zrk h H).objs.size=h.objs.size:=PySem.W.hideAll_size _ _
theorem Zqy{h:Heap}{H:Hp}{b:Addr}{o:Obj}(e:h.get? b=some o)(n:H b=none):(Zrk h H).get? b=some o :=
 PySem.W.hideAll_get _ e λhm=>by
  have q:(H b).isSome=true:=(List.mem_filter.mp hm).2
  rw[n]at q;simp at q
theorem Zvs{h:Heap}{H:Hp}{b:Addr}{o:Obj}(e:(Zrk h H).get? b=some o):h.get? b=some o∧H b=none:=by
 have e':h.get? b=some o:=V4 (trk h H) e
 refine⟨e',?_⟩
 cases q:H b with
 | none=>rfl
 | some x=>
  have hm:b∈trk h H:=List.mem_filter.mpr ⟨QD.mpr (XD e'),by simp[q]⟩
  have z:(Zrk h H).get? b=none:=Va (trk h H) hm
  rw[z]at e;cases e
noncomputable def Zv9(g h:Heap)(L:Addr):List (Addr×Obj):=(XX h.objs.size).filterMap λa=>if a=L∨(g.get? a).isSome=true then none else(h.get? a).map λo=>(a,o)
noncomputable def rest(g h:Heap)(L d:Addr):List (Addr×Obj):=(Zv9 g h L).filter λp=>decide (p.1≠d)
structure Mod(K:Xb)(mg:Str->Option Xc)(base:Heap):Prop where
 kin:K.In base
 glob:base.Ns Xx mg
 blt:∃mb,base.Ns builtinsNs mb∧∀x:Str,x≠"__name__" ->mb x=Qp x
 nolimit:base.NoLimit
set_option genInjectivity false in
structure Cx where
 prog:X4
 w:Qv
 K:Xb
 mg:Str->Option Xc
 base:Heap
 A:Qt
 N:List Str
 s₀:Xf
 H₀:Hp
 env:Env
 outer:List Env
 stack:List Env
 ex:List Addr
 fn:Str->Bool
 calm:Bool
 pn:List (Addr×Obj)
 xe:Xc->Xf->Prop
noncomputable def frs(l:List Env):List Addr:=l.filterMap (·.frame)
noncomputable abbrev Cx.fs(X:Cx):List Addr:=frs X.outer
noncomputable def Vis(sc:Us)(x:Str):Prop:=sc.names.lookup x=some .local∨sc.names.lookup x=some .cell∨sc.names.lookup x=some .free
noncomputable def Loc(sc:Us)(x:Str):Prop:=sc.names.lookup x=some .local∨sc.names.lookup x=some .cell
noncomputable def Look(env:Env)(h:Heap)(m:Str->Option Xc)(x:Str)(u:Xc):Prop :=
 (env.kindOf x=some .local∧m x=some u)∨((env.kindOf x=some .cell∨env.kindOf x=some .free)∧∃c,env.cells.lookup x=some c∧h.IsCell c (some u))
structure Cx.Ok(X:Cx):Prop where
 mod:Mod X.K X.mg X.base
 kind:X.env.scope.kind= .function
 glob:X.env.globals=Xx
 blt:X.env.builtins=builtinsNs
 above:X.s₀.heap.objs.size≤X.env.locals
 inj:∀x y c,X.env.cells.lookup x=some c->X.env.cells.lookup y=some c->x=y
 has:∀x,(X.env.kindOf x=some .cell∨X.env.kindOf x=some .free)->∃c,X.env.cells.lookup x=some c
 cab:∀x c,X.fn x=true->X.env.cells.lookup x=some c->X.s₀.heap.objs.size≤c
 hd:X.calm=true->X.A.handled=none
 frames:X.A.frames=some X.stack
 stk:X.stack=X.outer∨(X.stack=X.env :: X.outer∧X.env.frame=some X.env.locals)
 exf:∀b∈X.ex,b≠X.env.locals∧∀x c,X.env.cells.lookup x=some c->c≠b
 bs:∀b o,X.base.get? b=some o->X.s₀.heap.get? b=some o∧X.H₀ b=none
 bsz:X.base.objs.size≤X.s₀.heap.objs.size
 noex:∀b o,X.base.get? b=some o->b∉X.ex
 exfs:∀b∈X.ex,b∉X.fs
 funs:X.s₀.heap.FunFrames X.base X.outer
 frf:∀b∈X.fs,X.H₀ b=none
structure Inv(X:Cx)(pins:List (Addr×Obj))(σ:List (Option V))(H:Hp)(s:Xf):Prop where
 ok:X.Ok
 os:s.os=X.s₀.os
 bare:AllBare s.gens
 base:Un X.fs X.ex X.H₀ H X.s₀.heap s.heap
 loc:∃m,s.heap.Ns X.env.locals m∧∀(i:Nat) (x:Str) (v:V),X.N[i]? =some x->σ[i]? =some (some v)->Vis X.env.scope x->∃u,RelV v u∧Look X.env s.heap m x u
 cell:∀x c,X.env.cells.lookup x=some c->∃v,s.heap.IsCell c v
 free:H X.env.locals=none
 freeC:∀x c,X.env.cells.lookup x=some c->H c=none
 pin:∀p∈X.pn ++ pins,s.heap.get? p.1=some p.2∧H p.1=none∧p.1≠X.env.locals∧p.1∉X.fs∧∀v,p.2.data≠ .cell v
 hok:HOk X.prog X.w H s.heap
 len:σ.length=X.N.length
section
variable {X:Cx}{pins:List (Addr×Obj)}{σ:List (Option V)}{H H':Hp}{s:Xf}{h':Heap}
theorem Cx.Ok.nofr(ok:X.Ok){b:Addr}{o:Obj}(e:X.base.get? b=some o):b∉X.fs:=λhb=>by
 have:=(ok.funs.mem hb).1
 rw[e]at this;cases this
theorem Inv.bs(I:Inv X pins σ H s):∀b o,X.base.get? b=some o->s.heap.get? b=some o∧H b=none:=λb o e=>
 ⟨I.base.keep b o (I.ok.bs b o e).1 (I.ok.bs b o e).2 (I.ok.nofr e) (I.ok.noex b o e),I.base.free b o (I.ok.bs b o e).1 (I.ok.bs b o e).2 (I.ok.noex b o e)⟩
theorem Inv.bk(I:Inv X pins σ H s):∀b o,X.base.get? b=some o->s.heap.get? b=some o:=λb o e=>(I.bs b o e).1
theorem Inv.mod(I:Inv X pins σ H s):Mod X.K X.mg X.base:=I.ok.mod
theorem Inv.kIn(I:Inv X pins σ H s):X.K.In s.heap:=I.ok.mod.kin.keeps I.bk
theorem Inv.lt(I:Inv X pins σ H s):X.env.locals<s.heap.objs.size:=let⟨_,hn,_⟩:=I.loc;hn.lt
theorem Inv.sz(I:Inv X pins σ H s):X.s₀.heap.objs.size≤s.heap.objs.size:=Xu I.ok.above (Bo I.lt)
theorem Inv.nofs(I:Inv X pins σ H s){a:Addr}(h:s.heap.objs.size≤a):a∉X.fs:=λhb=>by
 obtain⟨_,o,ho,_⟩:=I.ok.funs.mem hb
 exact absurd (X5 (XD ho) (Xu I.sz h)) (UV _)
theorem Inv.cne(I:Inv X pins σ H s):∀x c,X.env.cells.lookup x=some c->c≠X.env.locals:=λx c e z=>by
 obtain⟨v,o,ho,hd⟩:=I.cell x c e
 obtain⟨m,⟨o',es,ep,ho',hd',_⟩,_⟩:=I.loc
 rw[z,ho']at ho;cases ho;rw[hd']at hd;cases hd
theorem Inv.funs(I:Inv X pins σ H s):s.heap.FunFrames X.base X.outer:=by
 have all:∀(l:List Env),(∀b∈frs l,b∈X.fs)->X.s₀.heap.FunFrames X.base l->s.heap.FunFrames X.base l:=by
  intro l
  induction l with
  | nil=>intro _ _;trivial
  | cons env r ih=>
   intro hs hl
   obtain⟨hk,⟨L,o,hf,hn,ho,hd⟩,hr⟩:=hl
   have hL:L∈X.fs:=hs L (by unfold frs;rw[List.filterMap_cons,hf];exact Ud)
   obtain⟨sl,e⟩:=I.base.slot L o ho (I.ok.frf L hL) hL λz=>I.ok.exfs L z hL
   exact⟨hk,⟨L,_,hf,hn,e,hd⟩,ih (λb hb=>hs b (by unfold frs;rw[List.filterMap_cons,hf];exact V1 _ hb)) hr⟩
 exact all X.outer (λ_ hb=>hb) I.ok.funs
theorem Inv.stack(I:Inv X pins σ H s):s.heap.FunFrames X.base X.stack:=by
 rcases I.ok.stk with e|⟨e,hf⟩
 ·rw[e];exact I.funs
 ·rw[e]
  obtain⟨m,hn,_⟩:=I.loc
  refine .cons (by rw[I.ok.kind];decide) hf hn ?_ I.funs
  exact Heap.get?_none_of_le (Xu I.ok.bsz I.ok.above)
theorem Inv.stkSub(I:Inv X pins σ H s):∀b∈frs X.stack,b∈X.env.locals :: X.fs:=λb hb=>by
 rcases I.ok.stk with e|⟨e,hf⟩
 ·rw[e]at hb;exact V1 _ hb
 ·rw[e]at hb
  unfold frs at hb
  rw[List.filterMap_cons,hf]at hb
  exact hb
theorem Inv.stkFree(I:Inv X pins σ H s):∀b∈frs X.stack,H b=none:=λb hb=>by
 rcases Xn.mp (I.stkSub b hb)with e|hb
 ·rw[e];exact I.free
 ·obtain⟨_,o,ho,_⟩:=I.ok.funs.mem hb
  exact I.base.free b o ho (I.ok.frf b hb) λz=>I.ok.exfs b z hb
theorem Inv.step{g':Array GenState}{t':Nat}{d':Drawn}{ch:List Addr}(I:Inv X pins σ H s)
  (hch:∀b∈ch,(b∈X.ex∨X.s₀.heap.objs.size≤b)∧b≠X.env.locals∧(∀x c,X.env.cells.lookup x=some c->c≠b)∧∀p∈X.pn ++ pins,p.1≠b)
  (keep:∀b o,b≠X.env.locals->b∉X.fs->b∉ch->s.heap.get? b=some o->H b=none->h'.get? b=some o)
  (slot:∀b o,b≠X.env.locals->b∈X.fs->b∉ch->s.heap.get? b=some o->H b=none->∃sl,h'.get? b=some { o with slots:=sl }) (free:∀b o,b∉ch->s.heap.get? b=some o->H b=none->H' b=none)
  (there:∀b o,b∉ch->s.heap.get? b=some o->∃o',h'.get? b=some o')
  (tups:∀b xs,H b=some (.tup xs)->H' b=some (.tup xs)) (frzs:∀b o u,H b=some (.frz o u)->H' b=some (.frz o u)) (tbls:∀b ps,H b=some (.tbl ps)->∃more,H' b=some (.tbl (ps ++ more)))
  (ns:∀m,s.heap.Ns X.env.locals m->h'.Ns X.env.locals m) (hok:HOk X.prog X.w H' h') (hg:AllBare g') :
  Inv X pins σ H' { s with heap:=h',gens:=g',drawn:=d',toks:=t' }:=by
 have neL:∀b o,X.s₀.heap.get? b=some o->b≠X.env.locals:=λb o e=>Xp (X5 (XD e) I.ok.above)
 have neC:∀b o,X.s₀.heap.get? b=some o->b∉X.ex->b∉ch:=λb o e hx hb=>by
  rcases(hch b hb).1 with z|z
  ·exact hx z
  ·exact absurd (X5 (XD e) z) (UV _)
 have cellK:∀x c,X.env.cells.lookup x=some c->∀v,s.heap.IsCell c v->h'.IsCell c v:=λx c e v ⟨o,ho,hd⟩=>by
  have nch:c∉ch:=λz=>(hch c z).2.2.1 x c e rfl
  by_cases hc:c∈X.fs
  ·obtain⟨sl,q⟩:=slot c o (I.cne x c e) hc nch ho (I.freeC x c e)
   exact⟨_,q,hd⟩
  ·exact⟨o,keep c o (I.cne x c e) hc nch ho (I.freeC x c e),hd⟩
 refine⟨I.ok,I.os,hg,⟨λb o e n hb hx=>?_,λb o e n hb hx=>?_,λb o e n hx=>?_,λb o e hx=>?_,λb xs e=>tups b xs (I.base.tups b xs e),λb o xs e=>frzs b o xs (I.base.frzs b o xs e),λb ps e=>?_⟩,?_,λx c e=>?_,?_,λx c e=>?_,λp hp=>?_,hok,I.len⟩
 ·exact keep b o (neL b o e) hb (neC b o e hx) (I.base.keep b o e n hb hx) (I.base.free b o e n hx)
 ·obtain⟨sl,e1⟩:=I.base.slot b o e n hb hx
  obtain⟨sl',e2⟩:=slot b _ (neL b o e) hb (neC b o e hx) e1 (I.base.free b o e n hx)
  exact⟨sl',e2⟩
 ·obtain⟨o',e1⟩:=I.base.there b o e hx
  exact free b o' (neC b o e hx) e1 (I.base.free b o e n hx)
 ·obtain⟨o',e1⟩:=I.base.there b o e hx
  exact there b o' (neC b o e hx) e1
 ·obtain⟨m1,e1⟩:=I.base.tbls b ps e
  obtain⟨m2,e2⟩:=tbls b _ e1
  exact⟨m1 ++ m2,by rw[e2,Array.append_assoc]⟩
 ·obtain⟨m,hn,hl⟩:=I.loc
  refine⟨m,ns m hn,λi x v e1 e2 e3=>?_⟩
  obtain⟨u,r,l⟩:=hl i x v e1 e2 e3
  refine⟨u,r,?_⟩
  rcases l with l|⟨k,c,e,z⟩
  ·exact .inl l
  ·exact .inr ⟨k,c,e,cellK x c e _ z⟩
 ·obtain⟨v,z⟩:=I.cell x c e
  exact⟨v,cellK x c e v z⟩
 ·obtain⟨m,⟨o,_,_,ho,_⟩,_⟩:=I.loc
  exact free _ o (λz=>(hch _ z).2.1 rfl) ho I.free
 ·obtain⟨v,o,ho,hd⟩:=I.cell x c e
  exact free c o (λz=>(hch c z).2.2.1 x c e rfl) ho (I.freeC x c e)
 ·obtain⟨e,n,ne,nf,d⟩:=I.pin p hp
  have nch:p.1∉ch:=λz=>(hch p.1 z).2.2.2 p hp rfl
  exact⟨keep p.1 p.2 ne nf nch e n,free p.1 p.2 nch e n,ne,nf,d⟩
theorem Inv.un{t':Nat}(I:Inv X pins σ H s)(u:Un X.fs [] H H' s.heap h')(hok:HOk X.prog X.w H' h'):Inv X pins σ H' { s with heap:=h',toks:=t' }:=by
 obtain⟨m,⟨o,es,ep,ho,r⟩,_⟩:=id I.loc
 obtain⟨sl,hL⟩:=u.any ho I.free (by simp)
 exact I.step (g':=s.gens) (d':=s.drawn) (ch:=[]) (λ_ z=>nomatch z) (λb o _ hb _ e n=>u.keep b o e n hb (by simp)) (λb o _ hb _ e n=>u.slot b o e n hb (by simp)) (λb o _ e n=>u.free b o e n (by simp)) (λb o _ e=>u.there b o e (by simp)) u.tups u.frzs u.tbls (λm' hm=>by
  obtain⟨o',es',ep',ho',r'⟩:=hm
  rw[ho]at ho';cases ho'
  exact⟨_,es',ep',hL,r'⟩) hok I.bare
theorem Inv.call{g':Array GenState}{t':Nat}{d':Drawn}{ch:List Addr}(I:Inv X pins σ H s)(u:Un (frs X.stack) ch H H' s.heap h')(hok:HOk X.prog X.w H' h')(hg:AllBare g')
  (hch:∀b∈ch,(b∈X.ex∨X.s₀.heap.objs.size≤b)∧b≠X.env.locals∧(∀x c,X.env.cells.lookup x=some c->c≠b)∧∀p∈X.pn ++ pins,p.1≠b) :
  Inv X pins σ H' { s with heap:=h',gens:=g',drawn:=d',toks:=t' }:=by
 obtain⟨m,⟨o,es,ep,ho,r⟩,_⟩:=id I.loc
 obtain⟨sl,hL⟩:=u.any ho I.free λz=>(hch _ z).2.1 rfl
 exact I.step (ch:=ch) hch (λb o hL hb hc e n=>u.keep b o e n (λz=>(Xn.mp (I.stkSub b z)).elim hL hb) hc) (λb o _ _ hc e n=>u.any e n hc) (λb o hc e n=>u.free b o e n hc) (λb o hc e=>u.there b o e hc) u.tups u.frzs u.tbls (λm' hm=>by
  obtain⟨o',es',ep',ho',r'⟩:=hm
  rw[ho]at ho';cases ho'
  exact⟨_,es',ep',hL,r'⟩) hok hg
theorem Inv.turned{t':Nat}{it:Addr}(I:Inv X pins σ H s)(k:∀b o,b≠it->s.heap.get? b=some o->h'.get? b=some o)(hn:H it=none)(hL:it≠X.env.locals)
  (h1:it∈X.ex∨X.s₀.heap.objs.size≤it) (h2:∀x c,X.env.cells.lookup x=some c->c≠it) (h3:∀p∈X.pn ++ pins,p.1≠it):Inv X pins σ H { s with heap:=h',toks:=t' }:=by
 have nit:∀b u,H b=some u->b≠it:=λb u e z=>by rw[z,hn]at e;cases e
 refine I.step (g':=s.gens) (d':=s.drawn) (ch:=[it]) (λb hb=>?_) (λb o _ _ hc e _=>k b o (λz=>hc (by simp[z])) e) (λb o _ _ hc e _=>⟨o.slots,k b o (λz=>hc (by simp[z])) e⟩) (λ_ _ _ _ n=>n)
  (λb o hc e=>⟨o,k b o (λz=>hc (by simp[z])) e⟩) (λ_ _ e=>e) (λ_ _ _ e=>e) (λb ps e=>⟨#[],by rw[e];simp⟩) (λm hm=>?_) (λb u e=>?_) I.bare
 ·have e:b=it:=by simpa using hb
  subst e
  exact⟨h1,hL,h2,h3⟩
 ·obtain⟨o,es,ep,ho,r⟩:=hm
  exact⟨o,es,ep,k _ o (Ba hL) ho,r⟩
 ·refine(I.hok b u e).stay (λc v hc q=>k c v ?_ q) (λ_ q=>q) λ_ _ q=>q
  rcases hc with z|z
  ·rw[z];exact nit b u e
  ·exact nit c _ z
theorem Inv.tok(I:Inv X pins σ H s)(t:Nat):Inv X pins σ H { s with toks:=t }:=I.un (h':=s.heap) (t':=t) Un.refl I.hok
theorem Inv.kept{t':Nat}(I:Inv X pins σ H s)(k:∀b u,s.heap.get? b=some u->h'.get? b=some u):Inv X pins σ H { s with heap:=h',toks:=t' }:=I.un (Un.kept k) (I.hok.kept k)
theorem Inv.laid{a:Addr}{o:HO}{t':Nat}(I:Inv X pins σ H s)(k:∀b u,s.heap.get? b=some u->h'.get? b=some u)(hp:s.heap.objs.size≤a)(new:ObjOk X.prog X.w (upd H a o) h' a o) :
  Inv X pins σ (upd H a o) { s with heap:=h',toks:=t' }:=I.un (Un.laid k hp (I.hok.fresh hp)) (I.hok.laid k hp new)
theorem Inv.write{x e:Addr}{o:HO}{t':Nat}(I:Inv X pins σ H s)(mu:Mut (H x))(he:e=x∨H e=some (.own x))(k:∀b u,b≠e->s.heap.get? b=some u->h'.get? b=some u)(heo:∃u,h'.get? e=some u)
  (new:ObjOk X.prog X.w (upd H x o) h' x o):Inv X pins σ (upd H x o) { s with heap:=h',toks:=t' }:=I.un (Un.write mu he k heo) (I.hok.write mu he k heo new)
theorem Inv.pins_of{pins':List (Addr×Obj)}(I:Inv X pins σ H s)(h:∀p∈pins',s.heap.get? p.1=some p.2∧H p.1=none∧p.1≠X.env.locals∧p.1∉X.fs∧∀v,p.2.data≠ .cell v):Inv X pins' σ H s :=
 ⟨I.ok,I.os,I.bare,I.base,I.loc,I.cell,I.free,I.freeC,λp hp=>(Qj.mp hp).elim (λz=>I.pin p (Qk _ z)) (h p),I.hok,I.len⟩
theorem Zhn{N:List Str}(hN:N.Nodup){i j:Nat}{x:Str}(a:N[i]? =some x)(b:N[j]? =some x):i=j:=by
 obtain⟨h1,e1⟩:=Xv.mp a
 obtain⟨h2,e2⟩:=Xv.mp b
 exact(List.getElem_inj hN).mp (e1.trans e2.symm)
theorem Zid{M:Model}{A:Qt}{E:Xc->Xf->Prop}{i:Nat}{x:Str}{v:V}{u:Xc}{Q:Unit->Xf->Prop}(I:Inv X pins σ H s)(hN:X.N.Nodup)(hi:X.N[i]? =some x)(hx:Loc X.env.scope x)(r:RelV v u)
  (h:∀s',Inv X pins (σ.set i (some v)) H s'->(∃a,Bm a s.heap s'.heap∧(a=X.env.locals∨X.env.cells.lookup x=some a))->Q () s') (hf:X.fn x=true∨X.env.scope.names.lookup x=some .local:=by first|exact .inl rfl|exact .inr rfl|assumption):XC M A (storeName X.env x u) Q E s:=by
 obtain⟨m,hn,hl⟩:=id I.loc
 have hcls:(X.env.scope.kind== .class||(X.env.scope.kind== .module&&X.env.locals !=X.env.globals))=false:=by rw[I.ok.kind];rfl
 have hiσ:i<σ.length:=by rw[I.len];exact(Xv.mp hi).1
 have cne:=I.cne
 have tracked:∀{a:Addr} {h':Heap},(∃o,s.heap.get? a=some o∧H a=none)->Bm a s.heap h'->HOk X.prog X.w H h':=fun{a h'} ha hs b ob e=>by
  obtain⟨_,_,hfree⟩:=ha
  refine(I.hok b ob e).stay (λc w' hc q=>(hs.2 c ?_).trans q) (λ_ q=>q) λ_ _ q=>q
  rintro rfl
  rcases hc with rfl|hc
  ·rw[hfree]at e;cases e
  ·rw[hfree]at hc;cases hc
 rcases hx with hk|hk
 ·refine wpAny_storeName_local hk hn (λh' hn' hs=>?_) hcls
  obtain⟨oL,_,_,hoL,_⟩:=id hn
  refine h _ ⟨I.ok,I.os,I.bare,⟨λb o e n hb hx=>?_,λb o e n hb hx=>?_,I.base.free,λb o e hx=>?_,I.base.tups,I.base.frzs,I.base.tbls⟩,⟨_,hn',λj y v' e1 e2 e3=>?_⟩,λy c e=>?_,I.free,I.freeC,λp hp=>?_,tracked ⟨oL,hoL,I.free⟩ hs,by simpa using I.len⟩ ⟨_,hs,.inl rfl⟩
  ·exact(hs.2 b (Xp (X5 (XD e) I.ok.above))).trans (I.base.keep b o e n hb hx)
  ·obtain⟨sl,e1⟩:=I.base.slot b o e n hb hx
   exact⟨sl,(hs.2 b (Xp (X5 (XD e) I.ok.above))).trans e1⟩
  ·obtain⟨o',e1⟩:=I.base.there b o e hx
   exact⟨o',(hs.2 b (Xp (X5 (XD e) I.ok.above))).trans e1⟩
  ·by_cases hj:j=i
   ·subst hj
    rw[hi]at e1;cases e1
    rw[QF hiσ]at e2
    cases e2
    exact⟨u,r,.inl ⟨hk,by simp⟩⟩
   ·rw[Qd (Ba hj)]at e2
    obtain⟨u',r',q⟩:=hl j y v' e1 e2 e3
    refine⟨u',r',?_⟩
    rcases q with⟨k,e⟩|⟨k,c,e,z⟩
    ·refine .inl ⟨k,?_⟩
     have:y≠x:=λe=>hj (Zhn hN e1 (e▸hi))
     simp[this,e]
    ·exact .inr ⟨k,c,e,z.sameBut hs (cne y c e)⟩
  ·obtain⟨w',z⟩:=I.cell y c e
   exact⟨w',z.sameBut hs (cne y c e)⟩
  ·obtain⟨e,n,ne,nf,d⟩:=I.pin p hp
   exact⟨(hs.2 p.1 ne).trans e,n,ne,nf,d⟩
 ·have hfn:X.fn x=true:=by
   rcases hf with z|z
   ·exact z
   ·rw[z]at hk;cases hk
  obtain⟨c,hc⟩:=I.ok.has x (.inl hk)
  obtain⟨w',z⟩:=I.cell x c hc
  refine wpAny_storeName_cell I.ok.kind hk hc z (λh' hc' hs=>?_)
  obtain⟨oc,hoc,hocd⟩:=id z
  refine h { s with heap:=h' } ⟨I.ok,I.os,I.bare,⟨λb o e n hb hx=>?_,λb o e n hb hx=>?_,I.base.free,λb o e hx=>?_,I.base.tups,I.base.frzs,I.base.tbls⟩,⟨m,hn.sameBut hs (Ba (cne x c hc)),λj y v' e1 e2 e3=>?_⟩,λy c' e=>?_,I.free,I.freeC,λp hp=>?_,tracked ⟨oc,hoc,I.freeC x c hc⟩ hs,by simpa using I.len⟩ ⟨c,hs,.inr hc⟩
  ·exact(hs.2 b (Xp (X5 (XD e) (I.ok.cab x c hfn hc)))).trans (I.base.keep b o e n hb hx)
  ·obtain⟨sl,e1⟩:=I.base.slot b o e n hb hx
   exact⟨sl,(hs.2 b (Xp (X5 (XD e) (I.ok.cab x c hfn hc)))).trans e1⟩
  ·obtain⟨o',e1⟩:=I.base.there b o e hx
   exact⟨o',(hs.2 b (Xp (X5 (XD e) (I.ok.cab x c hfn hc)))).trans e1⟩
  ·by_cases hj:j=i
   ·subst hj
    rw[hi]at e1;cases e1
    rw[QF hiσ]at e2
    cases e2
    exact⟨u,r,.inr ⟨.inl hk,c,hc,hc'⟩⟩
   ·rw[Qd (Ba hj)]at e2
    obtain⟨u',r',q⟩:=hl j y v' e1 e2 e3
    refine⟨u',r',?_⟩
    rcases q with q|⟨k,c',e,z'⟩
    ·exact .inl q
    ·refine .inr ⟨k,c',e,z'.sameBut hs ?_⟩
     rintro rfl
     exact hj (Zhn hN e1 (I.ok.inj _ _ _ e hc▸hi))
  ·by_cases hcc:c'=c
   ·subst hcc;exact⟨_,hc'⟩
   ·obtain⟨w2,z2⟩:=I.cell y c' e
    exact⟨w2,z2.sameBut hs hcc⟩
  ·obtain⟨e,n,ne,nf,d⟩:=I.pin p hp
   refine⟨(hs.2 p.1 ?_).trans e,n,ne,nf,d⟩
   intro q
   rw[q,hoc]at e
   have q':oc=p.2:=Qz e
   exact d w' (by rw[←q'];exact hocd)
theorem Zg6{M:Model}{A:Qt}{E:Xc->Xf->Prop}{i:Nat}{x:Str}{v:V}{u:Xc}{Q:Unit->Xf->Prop}(I:Inv X pins σ H s)(hN:X.N.Nodup)(hi:X.N[i]? =some x)(hx:Loc X.env.scope x)(r:RelV v u)
  (h:∀s',Inv X pins (σ.set i (some v)) H s'->Q () s') (hf:X.fn x=true∨X.env.scope.names.lookup x=some .local:=by first|exact .inl rfl|exact .inr rfl|assumption):XC M A (storeName X.env x u) Q E s :=
 Zid I hN hi hx r (λs' I' _=>h s' I') hf
theorem Inv.call'{s':Xf}{ch:List Addr}(I:Inv X pins σ H s)(ho:s'.os=s.os)(u:Un (frs X.stack) ch H H' s.heap s'.heap)(hok:HOk X.prog X.w H' s'.heap)(hg:AllBare s'.gens)
  (hch:∀b∈ch,(b∈X.ex∨X.s₀.heap.objs.size≤b)∧b≠X.env.locals∧(∀x c,X.env.cells.lookup x=some c->c≠b)∧∀p∈X.pn ++ pins,p.1≠b):Inv X pins σ H' s':=by
 obtain⟨h',g',d',t',o'⟩:=s'
 have e:o'=s.os:=ho
 subst e
 exact I.call (g':=g') (t':=t') (d':=d') u hok hg hch
end
noncomputable abbrev XK:=Xc->Option Addr->Hp->Prop
noncomputable abbrev St:=List (Option V)
noncomputable abbrev VK:=V->Hp->Prop
noncomputable abbrev TE:=St->Hp->VK->Prop
noncomputable abbrev TT:=St->Hp->(Bool->Hp->Prop)->Prop
noncomputable abbrev TA:=St->Hp->(List V->Hp->Prop)->Prop
set_option genInjectivity false in
structure Ends where
 nx:St->Hp->Prop
 rt:VK
 bk:St->Hp->Prop:=λ_ _=>False
 ct:St->Hp->Prop:=λ_ _=>False
noncomputable abbrev TS:=Ends->St->Hp->Prop
noncomputable def EP(X:Cx)(pins:List (Addr×Obj))(σ:St)(Q:VK)(u:Xc)(s':Xf):Prop:=∃v H',Inv X pins σ H' s'∧RelV v u∧Q v H'
noncomputable def TP(X:Cx)(pins:List (Addr×Obj))(σ:St)(Q:Bool->Hp->Prop)(b:Bool)(s':Xf):Prop:=∃H',Inv X pins σ H' s'∧Q b H'
noncomputable def AP(X:Cx)(pins:List (Addr×Obj))(σ:St)(Q:List V->Hp->Prop)(us:List Xc)(s':Xf):Prop:=∃vs H',Inv X pins σ H' s'∧Vals vs us∧Q vs H'
noncomputable def SP(X:Cx)(pins:List (Addr×Obj))(D:Ends)(f:Flow)(s':Xf):Prop :=
 match f with
 | .next=>∃σ' H',Inv X pins σ' H' s'∧D.nx σ' H'
 | .brk=>∃σ' H',Inv X pins σ' H' s'∧D.bk σ' H'
 | .cont=>∃σ' H',Inv X pins σ' H' s'∧D.ct σ' H'
 | .ret u=>∃v σ' H',Inv X pins σ' H' s'∧RelV v u∧D.rt v H'
noncomputable def PE(X:Cx)(e:Expr)(t:TE):Prop :=
 ∀(pins:List (Addr×Obj)) (s:Xf) (σ:St) (H:Hp) (Q:VK),Inv X pins σ H s->t σ H Q->XC (X8 X.prog X.w) X.A (eval e X.env) (EP X pins σ Q) X.xe s
noncomputable def PT(X:Cx)(e:Expr)(t:TT):Prop :=
 ∀(pins:List (Addr×Obj)) (s:Xf) (σ:St) (H:Hp) (Q:Bool->Hp->Prop),Inv X pins σ H s->t σ H Q->XC (X8 X.prog X.w) X.A (isTrue e X.env (eval e X.env)) (TP X pins σ Q) X.xe s
noncomputable def PW(X:Cx)(e:Expr)(t:TT):Prop :=
 ∀(whole:Sem Xc) (pins:List (Addr×Obj)) (s:Xf) (σ:St) (H:Hp) (Q:Bool->Hp->Prop),Inv X pins σ H s->t σ H Q->XC (X8 X.prog X.w) X.A (isTrue e X.env whole) (TP X pins σ Q) X.xe s
theorem PW.pt{X:Cx}{e:Expr}{t:TT}(h:PW X e t):PT X e t:=h _
noncomputable def PA(X:Cx)(es:List Expr)(t:TA):Prop :=
 ∀(pos:Pos) (pins:List (Addr×Obj)) (s:Xf) (σ:St) (H:Hp) (Q:List V->Hp->Prop),Inv X pins σ H s->t σ H Q->XC (X8 X.prog X.w) X.A (spliced (Q6 pos (Xj es X.env))) (AP X pins σ Q) X.xe s
noncomputable def PS(X:Cx)(st:Stmt)(t:TS):Prop :=
 ∀(pins:List (Addr×Obj)) (s:Xf) (σ:St) (H:Hp) (D:Ends),Inv X pins σ H s->t D σ H->XC (X8 X.prog X.w) X.A (exec st X.env) (SP X pins D) X.xe s
noncomputable def PSs(X:Cx)(st:List Stmt)(t:TS):Prop :=
 ∀(pins:List (Addr×Obj)) (s:Xf) (σ:St) (H:Hp) (D:Ends),Inv X pins σ H s->t D σ H->XC (X8 X.prog X.w) X.A (execs st X.env) (SP X pins D) X.xe s
theorem thn{α:Type}{t:Sem α}{Q Q':α->Xf->Prop}{M:Model}{A:Qt}{E:Xc->Xf->Prop}{s:Xf}(h:XC M A t Q E s)(hQ:∀a s,Q a s->Q' a s):XC M A t Q' E s:=Qs h hQ λ_ _ x=>x
section
variable {X:Cx}
noncomputable def Z7o(i:Nat):TE:=λσ H Q=>∃v,σ[i]? =some (some v)∧Q v H
noncomputable def tC(v:V):TE:=λ_ H Q=>Q v H
theorem Z0a{i:Nat}{x:Str}{pos:Pos}(hN:X.N[i]? =some x)(hv:Vis X.env.scope x)(hd:(x==("__debug__" : Str))=false:=by decide)(hcd:(x==("__classdict__" : Str))=false:=by decide):PE X (.Name x pos) (Z7o i):=by
 intro pins s σ H Q I h
 obtain⟨v,e,h⟩:=h
 obtain⟨m,hn,hl⟩:=I.loc
 obtain⟨u,r,l⟩:=hl i x v hN e hv
 have fin:EP X pins σ Q u s:=⟨v,H,I,r,h⟩
 rcases l with⟨hk,hm⟩|⟨hk,c,hc,hcell⟩
 ·exact wpAny_Name (wpAny_loadName_local I.ok.kind hk hn hm fin) hd
 ·rcases hk with hk|hk
  ·exact wpAny_Name (wpAny_loadName_cell I.ok.kind hk hc hcell fin) hd
  ·exact wpAny_Name (wpAny_loadName_free I.ok.kind hk hc hcell fin hcd) hd
theorem Z0l{i j pos}:PE X (.Constant (.int i) j pos) (tC (.int i)):=λ_ _ _ H _ I h=>wpAny_Constant_int ⟨.int i,H,I.tok _,⟨_,rfl⟩,h⟩
theorem Z38{b j pos}:PE X (.Constant (.bool b) j pos) (tC (.bl b)):=λ_ _ _ H _ I h=>Constant_bool ⟨.bl b,H,I,rfl,h⟩
theorem Zyc{x j pos}:PE X (.Constant (.str x) j pos) (tC (.str x)):=λ_ _ _ H _ I h=>Calls.Constant_str ⟨.str x,H,I.tok _,⟨_,rfl⟩,h⟩
noncomputable def Gl(X:Cx)(x:Str):Prop:=X.env.kindOf x=some .globalImplicit
theorem Zep{E:Xc->Xf->Prop}{pins:List (Addr×Obj)}{s:Xf}{σ:St}{H:Hp}{x:Str}{u:Xc}{pos:Pos}{Q:Xc->Xf->Prop}(I:Inv X pins σ H s)(hg:Gl X x)(hm:X.mg x=some u)(h:Q u s)
  (hd:(x==("__debug__" : Str))=false:=by decide):XC (X8 X.prog X.w) X.A (eval (.Name x pos) X.env) Q E s :=
 Calls.Name_function_global I.ok.kind hg (Calls.loadGlobal_global (by rw[I.ok.glob];exact I.mod.glob.keeps I.bk) hm h) hd
theorem Zc4{E:Xc->Xf->Prop}{pins:List (Addr×Obj)}{s:Xf}{σ:St}{H:Hp}{x:Str}{u:Xc}{pos:Pos}{Q:Xc->Xf->Prop}(I:Inv X pins σ H s)(hg:Gl X x)(hm:X.mg x=none)(hv:Qp x=some u)(h:Q u s)
  (hn:x≠"__name__" :=by decide) (hd:(x==("__debug__" : Str))=false:=by decide):XC (X8 X.prog X.w) X.A (eval (.Name x pos) X.env) Q E s:=by
 obtain⟨mb,h1,h2⟩:=I.mod.blt
 exact Calls.Name_function_global I.ok.kind hg (Calls.loadGlobal_builtin (by rw[I.ok.glob];exact I.mod.glob.keeps I.bk) hm (by rw[I.ok.blt];exact h1.keeps I.bk) ((h2 x hn).trans hv) h) hd
theorem J5{x:Str}{v:V}{u:Xc}{pos:Pos}(hg:Gl X x)(hm:X.mg x=some u)(r:RelV v u)(hd:(x==("__debug__" : Str))=false:=by decide):PE X (.Name x pos) (tC v) :=
 λ_ _ _ H _ I h=>Zep I hg hm ⟨v,H,I,r,h⟩ hd
theorem Zvg{x:Str}{v:V}{u:Xc}{pos:Pos}(hg:Gl X x)(hm:X.mg x=none)(hv:Qp x=some u)(r:RelV v u)(hn:x≠"__name__" :=by decide)(hd:(x==("__debug__" : Str))=false:=by decide):PE X (.Name x pos) (tC v) :=
 λ_ _ _ H _ I h=>Zc4 I hg hm hv ⟨v,H,I,r,h⟩ hn hd
noncomputable def t2I(ta tb:TE)(k:Int->Int->Hp->Prop):St->Hp->Prop:=λσ H=>ta σ H λx H1=>tb σ H1 λy H2=>∃i j,x= .int i∧y= .int j∧k i j H2
variable {a b:Expr}{ta tb:TE}{pos:Pos}
noncomputable def Zxy(p:Int->Int->Bool)(ta tb:TE):TE:=λσ H Q=>t2I ta tb (λi j H2=>Q (.bl (p i j)) H2) σ H
noncomputable abbrev tLt:TE->TE->TE:=Zxy λi j=>decide (i<j)
noncomputable abbrev tLe:TE->TE->TE:=Zxy λi j=>decide (i≤j)
noncomputable abbrev tGt:TE->TE->TE:=Zxy λi j=>decide (j<i)
noncomputable abbrev tGe:TE->TE->TE:=Zxy λi j=>decide (j≤i)
noncomputable abbrev Ya6:TE->TE->TE:=Zxy λi j=>decide (i=j)
noncomputable abbrev Ya2:TE->TE->TE:=Zxy λi j=>!decide (i=j)
noncomputable def tB(t:TE):TT:=λσ H Q=>t σ H λx H1=>∃c,x= .bl c∧Q c H1
variable {tA tB':TT}{rest:List Expr}
noncomputable def Z9o(t u:TT):TT:=λσ H Q=>t σ H λc H1=>if c=true then u σ H1 Q else Q false H1
noncomputable def tOr(t u:TT):TT:=λσ H Q=>t σ H λc H1=>if c=true then Q true H1 else u σ H1 Q
noncomputable def Z9k(t:TT):TT:=λσ H Q=>t σ H λc H1=>Q (!c) H1
theorem Zvl(ha:PT X a tA):PW X (.BoolOp .And [a] pos) tA:=by
 intro wh pins s σ H Q I h
 refine isTrue_and (thn (ha pins s σ H Q I h) λc s1 e=>?_)
 cases c with
 | true=>exact isTrue_and_nil e
 | false=>exact e
theorem Z1v(ha:PT X a tA):PW X (.BoolOp .Or [a] pos) tA:=by
 intro wh pins s σ H Q I h
 refine isTrue_or (thn (ha pins s σ H Q I h) λc s1 e=>?_)
 cases c with
 | false=>exact isTrue_or_nil e
 | true=>exact e
theorem Zzp(ha:PT X a tA)(hb:PW X (.BoolOp .And (b :: rest) pos) tB'):PW X (.BoolOp .And (a :: b :: rest) pos) (Z9o tA tB'):=by
 intro wh pins s σ H Q I h
 refine isTrue_and (thn (ha pins s σ H _ I h) λc s1 qz9=>?_)
 obtain⟨H1,I1,q1⟩:=qz9
 cases c with
 | true=>exact hb wh pins s1 σ H1 Q I1 q1
 | false=>exact⟨H1,I1,q1⟩
theorem Z4r(ha:PT X a tA)(hb:PW X (.BoolOp .Or (b :: rest) pos) tB'):PW X (.BoolOp .Or (a :: b :: rest) pos) (tOr tA tB'):=by
 intro wh pins s σ H Q I h
 refine isTrue_or (thn (ha pins s σ H _ I h) λc s1 qz9=>?_)
 obtain⟨H1,I1,q1⟩:=qz9
 cases c with
 | true=>exact⟨H1,I1,q1⟩
 | false=>exact hb wh pins s1 σ H1 Q I1 q1
theorem Z11(ha:PT X a tA):PT X (.UnaryOp .Not a pos) (Z9k tA):=by
 intro pins s σ H Q I h
 exact isTrue_not (ha pins s σ H (λc H1=>Q (!c) H1) I h)
noncomputable def Z4x(ta tb:TE):TE:=λσ H Q=>ta σ H λx H1=>∃c,x= .bl c∧if c=true then tb σ H1 Q else Q (.bl false) H1
theorem Z21{op}{t:TE}(h:PE X a t):PE X (.BoolOp op [a] pos) t:=λpins s σ H Q I hw=>BoolOp_one (h pins s σ H Q I hw)
theorem Zzz(ha:PE X a ta)(hb:PE X (.BoolOp .And (b :: rest) pos) tb):PE X (.BoolOp .And (a :: b :: rest) pos) (Z4x ta tb):=by
 intro pins s σ H Q I h
 refine BoolOp_and (thn (ha pins s σ H _ I h) λv s1 qz9=>?_)
 obtain⟨x,H1,I1,r1,q1⟩:=qz9
 obtain⟨c,rfl,q1⟩:=q1
 cases r1
 refine BJ ?_
 cases c with
 | true=>exact hb pins s1 σ H1 Q I1 q1
 | false=>exact⟨.bl false,H1,I1,rfl,q1⟩
end
noncomputable def SqL(K:Xb)(H:Hp)(a:Addr)(xs:List V):Prop :=
 Rd H a (.lst xs)∨
  ∃(o:Obj) (its:Array Xc) (n:Nat),K.lookup a=some o∧o.cls= .type "list"∧o.dict=none∧o.data= .seq its n∧its.size≤Xi∧Vals xs its.toList
noncomputable def SqT(K:Xb)(H:Hp)(a:Addr)(xs:List V):Prop :=
 Rd H a (.tup xs)∨
  ∃(o:Obj) (its:Array Xc) (n:Nat),K.lookup a=some o∧o.cls= .type "tuple"∧o.data= .seq its n∧its.size≤Xi∧Vals xs its.toList
noncomputable def Z9s:Xc->Option V
 | .none=>some .non
 | .bool b=>some (.bl b)
 | .int i _=>some (.int i)
 | .str x _=>some (.str x)
 | .bytes b _=>some (.byt b)
 | .float b _=>some (.flt b)
 | .ref a=>some (.ref a)
 | .type n=>some (.ty n)
 | _=>none
theorem RelV.abs{x:V}{u:Xc}(r:RelV x u):Z9s u=some x:=by
 cases x with
 | non=>cases r;rfl
 | bl _=>cases r;rfl
 | int _=>obtain⟨t,rfl⟩:=r;rfl
 | str _=>obtain⟨t,rfl⟩:=r;rfl
 | byt _=>obtain⟨t,rfl⟩:=r;rfl
 | flt _=>obtain⟨t,rfl⟩:=r;rfl
 | ref _=>cases r;rfl
 | ty _=>cases r;rfl
theorem RelV.inj{x y:V}{u:Xc}(r:RelV x u)(q:RelV y u):x=y:=Qz (r.abs.symm.trans q.abs)
theorem Vals.inj{xs ys:List V}{us:List Xc}(h:Vals xs us)(k:Vals ys us):xs=ys:=by
 induction h generalizing ys with
 | nil=>cases k;rfl
 | cons r t ih=>
  cases k with
  | cons r' t'=>rw[r.inj r',ih t']
section
variable {X:Cx}{pins:List (Addr×Obj)}{σ:St}{H:Hp}{s:Xf}{a:Addr}{xs ys:List V}
theorem Inv.list(I:Inv X pins σ H s)(h:SqL X.K H a xs):∃its:List Xc,Vals xs its∧PlainL s.heap a its.toArray∧xs.length≤Xi:=by
 rcases h with h|⟨o,its,n,hk,hc,hd,hs,hz,r⟩
 ·obtain⟨z,its,n,r,e⟩:=h.ok I.hok
  exact⟨its,r,⟨_,n,e,rfl,rfl,rfl⟩,z⟩
 ·refine⟨its.toList,r,⟨o,n,I.kIn a o hk,hc,hd,by simpa using hs⟩,?_⟩
  have e:=r.length
  simp only[By]at e
  omega
theorem Inv.tuple(I:Inv X pins σ H s)(h:SqT X.K H a xs):∃its:List Xc,Vals xs its∧IsTup s.heap a its.toArray∧xs.length≤Xi:=by
 rcases h with h|⟨o,its,n,hk,hc,hs,hz,r⟩
 ·obtain⟨z,its,r,p⟩:=h.ok I.hok
  exact⟨its,r,p,z⟩
 ·refine⟨its.toList,r,⟨o,I.kIn a o hk,hc,n,by simpa using hs⟩,?_⟩
  have e:=r.length
  simp only[By]at e
  omega
theorem Inv.list_inj(I:Inv X pins σ H s)(h:SqL X.K H a xs)(h':SqL X.K H a ys):xs=ys:=by
 obtain⟨its,r,⟨o,n,e,_,_,d⟩,_⟩:=I.list h
 obtain⟨its',r',⟨o',n',e',_,_,d'⟩,_⟩:=I.list h'
 rw[e]at e';cases e'
 rw[d]at d'
 injection d' with d1 _
 have:its=its':=by simpa using congrArg Array.toList d1
 subst this
 exact r.inj r'
theorem Inv.tuple_inj(I:Inv X pins σ H s)(h:SqT X.K H a xs)(h':SqT X.K H a ys):xs=ys:=by
 obtain⟨its,r,⟨o,e,_,n,d⟩,_⟩:=I.tuple h
 obtain⟨its',r',⟨o',e',_,n',d'⟩,_⟩:=I.tuple h'
 rw[e]at e';cases e'
 rw[d]at d'
 injection d' with d1 _
 have:its=its':=by simpa using congrArg Array.toList d1
 subst this
 exact r.inj r'
end
noncomputable abbrev Cx.wish(X:Cx)(E:Xc->Xf->Prop):Cx:={ X with xe:=E }
noncomputable abbrev Cx.nox(X:Cx):Cx:=X.wish λ_ _=>False
theorem Cx.Ok.wish{X:Cx}(ok:X.Ok)(E:Xc->Xf->Prop):(X.wish E).Ok :=
 ⟨ok.mod,ok.kind,ok.glob,ok.blt,ok.above,ok.inj,ok.has,ok.cab,ok.hd,ok.frames,ok.stk,ok.exf,ok.bs,ok.bsz,ok.noex,ok.exfs,ok.funs,ok.frf⟩
theorem Cx.Ok.unwish{X:Cx}{E:Xc->Xf->Prop}(ok:(X.wish E).Ok):X.Ok :=
 ⟨ok.mod,ok.kind,ok.glob,ok.blt,ok.above,ok.inj,ok.has,ok.cab,ok.hd,ok.frames,ok.stk,ok.exf,ok.bs,ok.bsz,ok.noex,ok.exfs,ok.funs,ok.frf⟩
section
variable {X:Cx}{pins:List (Addr×Obj)}{σ:St}{H:Hp}{s:Xf}{E:Xc->Xf->Prop}
theorem Inv.wish(I:Inv X pins σ H s)(E:Xc->Xf->Prop):Inv (X.wish E) pins σ H s:=⟨I.ok.wish E,I.os,I.bare,I.base,I.loc,I.cell,I.free,I.freeC,I.pin,I.hok,I.len⟩
theorem Inv.unwish(I:Inv (X.wish E) pins σ H s):Inv X pins σ H s:=⟨I.ok.unwish,I.os,I.bare,I.base,I.loc,I.cell,I.free,I.freeC,I.pin,I.hok,I.len⟩
theorem SP.unwish{D:Ends}{f:Flow}{s':Xf}(h:SP (X.wish E) pins D f s'):SP X pins D f s':=by
 cases f with
 | next=>obtain⟨σ',H',I,q⟩:=h;exact⟨σ',H',I.unwish,q⟩
 | brk=>obtain⟨σ',H',I,q⟩:=h;exact⟨σ',H',I.unwish,q⟩
 | cont=>obtain⟨σ',H',I,q⟩:=h;exact⟨σ',H',I.unwish,q⟩
 | ret u=>obtain⟨v,σ',H',I,r,q⟩:=h;exact⟨v,σ',H',I.unwish,r,q⟩
theorem PSs.nox{st:List Stmt}{t:TS}(h:PSs X.nox st t):PSs X st t:=λpins s σ H D I hw=>
 Qs (h pins s σ H D (I.wish _) hw) (λ_ _ q=>q.unwish) λ_ _ z=>Br z
end
section
variable {X:Cx}{st:Stmt}{rest:List Stmt}{t u:TS}{e:Expr}{te:TE}{pos:Pos}
noncomputable def Z4k:TS:=λD σ H=>D.nx σ H
noncomputable def Yag(t u:TS):TS:=λD σ H=>t { D with nx:=u D } σ H
theorem Zxx:PSs X [] Z4k:=λ_ _ σ H _ I h=>Ug ⟨σ,H,I,h⟩
theorem Zqs(h1:PS X st t)(h2:PSs X rest u):PSs X (st :: rest) (Yag t u):=by
 intro pins s σ H D I h
 refine wpAny_execs_cons (thn (h1 pins s σ H { D with nx:=u D } I h) λf s1 q=>?_)
 cases f with
 | next=>
  obtain⟨σ',H',I',q⟩:=q
  exact h2 pins s1 σ' H' D I' q
 | ret v=>exact q
 | brk=>exact q
 | cont=>exact q
theorem Zt8(h1:PS X st t):PSs X [st] t:=by
 intro pins s σ H D I h
 refine wpAny_execs_cons (thn (h1 pins s σ H D I h) λf s1 q=>?_)
 cases f with
 | next=>exact Ug q
 | ret v=>exact q
 | brk=>exact q
 | cont=>exact q
theorem Inv.quiet{pins:List (Addr×Obj)}{σ:St}{H:Hp}{s:Xf}(I:Inv X pins σ H s):interactive X.env=false:=by simp[interactive,I.ok.kind]
noncomputable def Z4i(te:TE):TS:=λD σ H=>te σ H λ_ H1=>D.nx σ H1
theorem Zfa(he:PE X e te)(hs:Bc e none pos.line X.env=pure false:=by rfl):PS X (.Expr e pos) (Z4i te):=by
 intro pins s σ H D I h
 refine wpAny_Expr_any (thn (he pins s σ H _ I h) λv s1 qz9=>?_) I.quiet hs
 obtain⟨x,H1,I1,r1,q1⟩:=qz9
 exact⟨σ,H1,I1,q1⟩
noncomputable def Z99(te:TE):TS:=λD σ H=>te σ H D.rt
theorem Zqh(he:PE X e te):PS X (.Return (some e) pos) (Z99 te):=by
 intro pins s σ H D I h
 refine wpAny_Return_some (thn (he pins s σ H _ I h) λv s1 qz9=>?_)
 obtain⟨x,H1,I1,r1,q1⟩:=qz9
 exact⟨x,σ,H1,I1,r1,q1⟩
noncomputable def Z9w(c:TT)(t u:TS):TS:=λD σ H=>c σ H λb H1=>if b=true then t D σ H1 else u D σ H1
theorem Z4g{c:Expr}{a b:List Stmt}{tc:TT}(hc:PT X c tc)(ha:PSs X a t)(hb:PSs X b u):PS X (.If c a b pos) (Z9w tc t u):=by
 intro pins s σ H D I h
 refine wpAny_If (thn (hc pins s σ H _ I h) λd s1 qz9=>?_)
 obtain⟨H1,I1,q1⟩:=qz9
 cases d with
 | true=>exact ha pins s1 σ H1 D I1 q1
 | false=>exact hb pins s1 σ H1 D I1 q1
noncomputable def Z1x:TS:=λ_ _ _=>False
theorem Zsc:PS X st Z1x:=λ_ _ _ _ _ _ h=>h.elim
end
noncomputable abbrev TG:=V->St->Hp->(St->Hp->Prop)->Prop
noncomputable abbrev TGs:=List V->St->Hp->(St->Hp->Prop)->Prop
noncomputable def PG(X:Cx)(target:Expr)(t:TG):Prop :=
 ∀(pins:List (Addr×Obj)) (s:Xf) (σ:St) (H:Hp) (v:V) (u:Xc) (Q:St->Hp->Prop),Inv X pins σ H s->RelV v u->t v σ H Q ->
  XC (X8 X.prog X.w) X.A (assign target X.env u) (λ_ s'=>∃σ' H',Inv X pins σ' H' s'∧Q σ' H') X.xe s
noncomputable def PGs(X:Cx)(ts:List Expr)(t:TGs):Prop :=
 ∀(pins:List (Addr×Obj)) (s:Xf) (σ:St) (H:Hp) (vs:List V) (us:List Xc) (Q:St->Hp->Prop),Inv X pins σ H s->Vals vs us->t vs σ H Q ->
  XC (X8 X.prog X.w) X.A (assignInOrder ((Bd ts X.env).map (·.2)) us) (λ_ s'=>∃σ' H',Inv X pins σ' H' s'∧Q σ' H') X.xe s
noncomputable abbrev Ya5:=V->V->V->Hp->(Hp->Prop)->Prop
noncomputable abbrev TIp:=V->V->Hp->VK->Prop
section
variable {X:Cx}{pos:Pos}
noncomputable def Zma(i:Nat):TG:=λv σ H Q=>Q (σ.set i (some v)) H
theorem Zun{i:Nat}{x:Str}(hN:X.N.Nodup)(hi:X.N[i]? =some x)(hx:Loc X.env.scope x)(hf:X.fn x=true∨X.env.scope.names.lookup x=some .local:=by first|exact .inl rfl|exact .inr rfl|assumption):PG X (.Name x pos) (Zma i):=by
 intro pins s σ H v u Q I r h
 exact wpAny_assign_Name (Zg6 I hN hi hx r (λs' I'=>⟨_,H,I',h⟩) hf)
noncomputable def Z90:TGs:=λvs σ H Q=>vs=[]∧Q σ H
noncomputable def Z6m(t:TG)(u:TGs):TGs:=λvs σ H Q=>∃v r,vs=v :: r∧t v σ H λσ' H'=>u r σ' H' Q
theorem Zwk:PGs X [] Z90:=by
 intro pins s σ H vs us Q I r h
 obtain⟨e,h⟩:=h
 subst e
 cases r
 exact assignInOrder_nil ⟨σ,H,I,h⟩
theorem Zq4{e:Expr}{es:List Expr}{t:TG}{u:TGs}(h1:PG X e t)(h2:PGs X es u)
  (hs:(Bd (e :: es) X.env).map (·.2)=assign e X.env :: (Bd es X.env).map (·.2):=by rfl):PGs X (e :: es) (Z6m t u):=by
 intro pins s σ H vs us Q I r h
 obtain⟨v,vr,e1,h⟩:=h
 subst e1
 cases r with
 | cons r rr=>
  rw[hs]
  refine assignInOrder_cons (thn (h1 pins s σ H _ _ _ I r h) λ_ s1 qz9=>?_)
  obtain⟨σ1,H1,I1,q1⟩:=qz9
  exact h2 pins s1 σ1 H1 _ _ Q I1 rr q1
noncomputable def Yas(K:Xb)(n:Nat)(t:TGs):TG:=λv σ H Q=>∃a xs,v= .ref a∧SqT K H a xs∧xs.length=n∧t xs σ H Q
theorem Z1a{es:List Expr}{k:Nat}{t:TGs}{n:Nat}(hc:X.calm=true)(h:PGs X es t)
  (hn:(Bd es X.env).length=n:=by rfl) (hst:(Bd es X.env).findIdx? (·.1)=none:=by rfl):PG X (.Tuple es k pos) (Yas X.K n t):=by
 intro pins s σ H v u Q I r hw
 obtain⟨a,xs,e1,hq,hl,hw⟩:=hw
 subst e1
 cases r
 obtain⟨its,rv,ht,hz⟩:=I.tuple hq
 refine assign_Tuple_tuple (I.ok.hd hc) ht (by simp[hn,←hl,rv.length]) hst λh' hx=>?_
 have I1:Inv X pins σ H { s with heap:=h' }:=I.kept (t':=s.toks) λb o e=>hx b o (Xp (XD e)) e
 exact h pins _ σ H xs _ Q I1 (by simpa using rv) hw
noncomputable def Z2k(te:TE)(g:TG):TS:=λD σ H=>te σ H λx H1=>g x σ H1 D.nx
theorem Zop{i:Nat}{x:Str}{e:Expr}{te:TE}{pos':Pos}(hN:X.N.Nodup)(hi:X.N[i]? =some x)(hx:Loc X.env.scope x)(he:PE X e te)(hs:Bc e (some (.Name x pos')) pos.line X.env=pure false:=by rfl)(hf:X.fn x=true∨X.env.scope.names.lookup x=some .local:=by first|exact .inl rfl|exact .inr rfl|assumption) :
  PS X (.Assign [.Name x pos'] e pos) (Z2k te (Zma i)):=by
 intro pins s σ H D I h
 refine wpAny_Assign_Name (thn (he pins s σ H _ I h) λv s1 qz9=>?_) hs
 obtain⟨y,H1,I1,r1,q1⟩:=qz9
 exact Zg6 I1 hN hi hx r1 (λs2 I2=>⟨_,H1,I2,q1⟩) hf
end
section
variable {X:Cx}{pos:Pos}
noncomputable def Zyv(c:TT)(tb:TS):TS:=λD σ H=>∃W:Nat->St->Hp->Prop,(∃m,W m σ H)∧∀m σ H,W m σ H ->
 c σ H λb H1=>if b=true then∃N:St->Hp->Prop,(∀σ' H',N σ' H'->∃m',m'<m∧W m' σ' H')∧tb { D with nx:=N,ct:=N,bk:=D.nx } σ H1 else D.nx σ H1
theorem Zre{c:Expr}{body:List Stmt}{tc:TT}{tb:TS}(hp:PassesOwn (X8 X.prog X.w) X.A X.env X.xe)(hc:PT X c tc)(hb:PSs X body tb):PS X (.While c body [] pos) (Zyv tc tb):=by
 intro pins s σ H D I h
 obtain⟨W,⟨m0,w0⟩,turn⟩:=h
 refine wpAny_While (codeAny_whileLoop (λn s'=>∃σ' H',Inv X pins σ' H' s'∧W n σ' H') ?_ m0 ⟨σ,H,I,w0⟩)
 rintro n s1 ⟨σ1,H1,I1,w1⟩
 refine Q8 hp (thn (hc pins s1 σ1 H1 _ I1 (turn n σ1 H1 w1)) λb s2 qz9=>?_)
 obtain⟨H2,I2,q2⟩:=qz9
 cases b with
 | true=>
  obtain⟨N,hN,q2⟩:=q2
  rw[if_pos rfl]
  refine Q8 hp (thn (hb pins s2 σ1 H2 _ I2 q2) λf s3 q3=>?_)
  cases f with
  | next=>
   obtain⟨σ3,H3,I3,n3⟩:=q3
   obtain⟨m',hm,w3⟩:=hN σ3 H3 n3
   exact⟨m',hm,σ3,H3,I3,w3⟩
  | cont=>
   obtain⟨σ3,H3,I3,n3⟩:=q3
   obtain⟨m',hm,w3⟩:=hN σ3 H3 n3
   exact⟨m',hm,σ3,H3,I3,w3⟩
  | brk=>exact q3
  | ret v=>exact q3
 | false=>
  rw[if_neg Xq]
  exact Ug ⟨σ1,H2,I2,q2⟩
end
set_option genInjectivity false in
structure It where
 go:Nat->Hp->Prop
 yld:Nat->Hp->V->Hp->Prop
 stop:Nat->Hp->Prop
noncomputable def Zdi(X:Cx)(pins:List (Addr×Obj))(H:Hp)(b:Addr):Prop :=
 H b=none∧b≠X.env.locals∧b∉X.fs∧(b∈X.ex∨X.s₀.heap.objs.size≤b)∧(∀x c,X.env.cells.lookup x=some c->c≠b)∧∀p∈X.pn ++ pins,p.1≠b
theorem Inv.fpOk{X:Cx}{pins:List (Addr×Obj)}{σ:St}{H H':Hp}{s:Xf}{b:Addr}(I:Inv X pins σ H s)(hb:s.heap.objs.size≤b)(hn:H' b=none):Zdi X pins H' b:=by
 refine⟨hn,XN (X5 I.lt hb),I.nofs hb,.inr (Xu I.sz hb),λx c e z=>?_,λp hp z=>?_⟩
 ·obtain⟨v,q⟩:=I.cell x c e
  exact absurd (X5 q.lt (by rw[z];exact hb)) (UV _)
 ·exact absurd (X5 (XD (I.pin p hp).1) (by rw[z];exact hb)) (UV _)
structure Turn(P:X4)(w:Qv)(K:Xb)(tg:Expr)(J:It)(fp:List Addr)(it:Addr)(tn:Nat->Heap->Prop):Prop where
 mem:it∈fp
 obj:∀i h,tn i h->∀b∈fp,∃o,h.get? b=some o∧∀v,o.data≠ .cell v
 keep:∀i h h',tn i h->(∀b∈fp,∀o,h.get? b=some o->h'.get? b=some o)->tn i h'
 item:∀(X:Cx),X.prog=P->X.w=w->X.K=K->X.calm=true->∀(i:Nat) (pins:List (Addr×Obj)) (s:Xf) (σ:St) (H:Hp) (E:Xc->Xf->Prop),Inv X pins σ H s->(∀b∈fp,Zdi X pins H b)->tn i s.heap->J.go i H ->
  XC (X8 P w) X.A (Uh (.ref it)) (λr s1=>∃u,r=some u∧
   XC (X8 P w) X.A (Uj tg (.ref it) u) (λ_ s2=>∃x H',Inv X pins σ H' s2∧RelV x u∧J.yld i H x H'∧tn (i+1) s2.heap∧∀b∈fp,H' b=none) E s1) E s
 done:∀(X:Cx),X.prog=P->X.w=w->X.K=K->X.calm=true->∀(i:Nat) (pins:List (Addr×Obj)) (s:Xf) (σ:St) (H:Hp) (E:Xc->Xf->Prop),Inv X pins σ H s->(∀b∈fp,Zdi X pins H b)->tn i s.heap->J.stop i H ->
  XC (X8 P w) X.A (Uh (.ref it)) (λr s1=>r=none∧Inv X pins σ H s1) E s
 self:∀(A:Qt) (i:Nat) (s:Xf) (Q:Xc->Xf->Prop) (E:Xc->Xf->Prop),tn i s.heap->Q (.ref it) s->XC (X8 P w) A (pyIter (.ref it)) Q E s
noncomputable abbrev TI:=St->Hp->(It->Hp->Prop)->Prop
noncomputable def PIE(X:Cx)(pins:List (Addr×Obj))(σ:St)(tg:Expr)(R:It->Hp->Prop)(itv:Xc)(s2:Xf):Prop :=
 ∃(it:Addr) (fp:List Addr) (tn:Nat->Heap->Prop) (J:It) (H':Hp),itv= .ref it∧Inv X pins σ H' s2∧Turn X.prog X.w X.K tg J fp it tn∧tn 0 s2.heap∧(∀b∈fp,Zdi X pins H' b)∧R J H'
noncomputable def PI(X:Cx)(tg iter:Expr)(wi:TI):Prop :=
 ∀(pins:List (Addr×Obj)) (s:Xf) (σ:St) (H:Hp) (R:It->Hp->Prop),Inv X pins σ H s->wi σ H R ->
  XC (X8 X.prog X.w) X.A (eval iter X.env) (λv s1=>XC (X8 X.prog X.w) X.A (pyIter v) (PIE X pins σ tg R) X.xe s1) X.xe s
theorem Zpi{M:Model}{A:Qt}{E:Xc->Xf->Prop}{s:Xf}{tg:Expr}{it:Addr}{u:Xc}{o:Obj}{n:String}{vs:Array Xc}{Q:Unit->Xf->Prop}(ho:s.heap.get? it=some o)(hc:o.cls= .type n)(hd:o.data= .fields vs)
  (hn:["enumerate","zip","dict_itemiterator","dict_reverseitemiterator","odict_iterator","itertools.zip_longest","itertools.pairwise"].contains n=false) (hQ:Q () s):XC M A (Uj tg (.ref it) u) Q E s:=by
 unfold Uj
 cases tg<;>first
  | exact XH hQ
  | (cases u<;>first
    | exact XH hQ
    | (refine Xd (wpAny_load ho ?_)
       rw[hc,hd]
       show XC M A (if(["enumerate","zip","dict_itemiterator","dict_reverseitemiterator","odict_iterator","itertools.zip_longest","itertools.pairwise"].contains n&&vs[0]? ==some (Vm _))=true then _ else _) Q E s
       rw[if_neg (by intro h;rw[hn,Bool.false_and]at h;cases h)]
       exact XH hQ))
noncomputable def Itl(K:Xb)(a:Addr):It :=
 ⟨λi H=>∃xs x,SqL K H a xs∧xs[i]? =some x,λi H x H'=>H'=H∧∀xs,SqL K H a xs->xs[i]? =some x,λi H=>∃xs,SqL K H a xs∧xs.length≤i⟩
noncomputable def Itt(K:Xb)(a:Addr):It :=
 ⟨λi H=>∃xs x,SqT K H a xs∧xs[i]? =some x,λi H x H'=>H'=H∧∀xs,SqT K H a xs->xs[i]? =some x,λi H=>∃xs,SqT K H a xs∧xs.length≤i⟩
noncomputable def Itr(lo:Int)(n:Nat):It:=⟨λi _=>i<n,λi H x H'=>H'=H∧x= .int (lo+i),λi _=>n≤i⟩
theorem Zo0{P:X4}{w:Qv}{K:Xb}{tg:Expr}(a it:Addr):Turn P w K tg (Itl K a) [it] it (λi h=>h.IsListIter it a i) where
 mem:=by simp
 obj:=λi h st b hb=>by
  have e:b=it:=by simpa using hb
  subst e
  obtain⟨o,e,c,d⟩:=st
  exact⟨o,e,λv z=>by rw[d]at z;cases z⟩
 keep:=λi h h' st k=>st.at λo e=>k it (by simp) o e
 item:=by
  intro X hP hw hK hc i pins s σ H E I hf st hg
  subst hP hw hK
  obtain⟨xs,x,hq,hx⟩:=hg
  obtain⟨its,rv,p,hz⟩:=I.list hq
  obtain⟨u,hu,ru⟩:=rv.get hx
  obtain⟨f0,f1,f2,f3,f4,f5⟩:=hf it (by simp)
  refine wpAny_pyNext_list_item st p.isList (x:=u) (by simpa using hu) λh' st' sb=>?_
  have I1:Inv X pins σ H { s with heap:=h' }:=I.turned (t':=s.toks) (λb o hb e=>(sb.2 b hb).trans e) f0 f1 f3 f4 f5
  obtain⟨o,e,c,d⟩:=id st'
  exact⟨u,rfl,Zpi (s:={ s with heap:=h' }) e c d (by decide) ⟨x,H,I1,ru,⟨rfl,λys hy=>by rw[I.list_inj hy hq];exact hx⟩,st',λb hb=>(hf b hb).1⟩⟩
 done:=by
  intro X hP hw hK hc i pins s σ H E I hf st hg
  subst hP hw hK
  obtain⟨xs,hq,hx⟩:=hg
  obtain⟨its,rv,p,hz⟩:=I.list hq
  obtain⟨f0,f1,f2,f3,f4,f5⟩:=hf it (by simp)
  have hl:=rv.length
  exact wpAny_pyNext_list_end (I.ok.hd hc) st p.isList (by simp;omega) λh' eb=>⟨rfl,I.turned (t':=s.toks) (λb o hb e=>eb b o hb e) f0 f1 f3 f4 f5⟩
 self:=λ_ _ _ _ _ st h=>wpAny_pyIter_listiter st h
theorem Zmh{P:X4}{w:Qv}{K:Xb}{tg:Expr}(a it:Addr):Turn P w K tg (Itt K a) [it] it (λi h=>h.IsTupleIter it a i) where
 mem:=by simp
 obj:=λi h st b hb=>by
  have e:b=it:=by simpa using hb
  subst e
  obtain⟨o,e,c,d⟩:=st
  exact⟨o,e,λv z=>by rw[d]at z;cases z⟩
 keep:=λi h h' st k=>st.at λo e=>k it (by simp) o e
 item:=by
  intro X hP hw hK hc i pins s σ H E I hf st hg
  subst hP hw hK
  obtain⟨xs,x,hq,hx⟩:=hg
  obtain⟨its,rv,p,hz⟩:=I.tuple hq
  obtain⟨u,hu,ru⟩:=rv.get hx
  obtain⟨f0,f1,f2,f3,f4,f5⟩:=hf it (by simp)
  refine wpAny_pyNext_tuple_item st (show s.heap.IsTuple a its.toArray from p) (x:=u) (by simpa using hu) λh' st' sb=>?_
  have I1:Inv X pins σ H { s with heap:=h' }:=I.turned (t':=s.toks) (λb o hb e=>(sb.2 b hb).trans e) f0 f1 f3 f4 f5
  obtain⟨o,e,c,d⟩:=id st'
  exact⟨u,rfl,Zpi (s:={ s with heap:=h' }) e c d (by decide) ⟨x,H,I1,ru,⟨rfl,λys hy=>by rw[I.tuple_inj hy hq];exact hx⟩,st',λb hb=>(hf b hb).1⟩⟩
 done:=by
  intro X hP hw hK hc i pins s σ H E I hf st hg
  subst hP hw hK
  obtain⟨xs,hq,hx⟩:=hg
  obtain⟨its,rv,p,hz⟩:=I.tuple hq
  obtain⟨f0,f1,f2,f3,f4,f5⟩:=hf it (by simp)
  have hl:=rv.length
  exact wpAny_pyNext_tuple_end (I.ok.hd hc) st (show s.heap.IsTuple a its.toArray from p) (by simp;omega) λh' eb=>⟨rfl,I.turned (t':=s.toks) (λb o hb e=>eb b o hb e) f0 f1 f3 f4 f5⟩
 self:=λ_ _ _ _ _ st h=>wpAny_pyIter_tupleiter st h
theorem Zl9{P:X4}{w:Qv}{K:Xb}{tg:Expr}(it:Addr)(lo:Int)(n:Nat):Turn P w K tg (Itr lo n) [it] it (λi h=>IsRangeIter h it (lo+(i:Nat)*1) ((n:Int)-(i:Nat)) 1) where
 mem:=by simp
 obj:=λi h st b hb=>by
  have e:b=it:=by simpa using hb
  subst e
  exact⟨_,st,λv z=>by
   have z':Data.fields _=Data.cell v:=z
   cases z'⟩
 keep:=λi h h' st k=>k it (by simp) _ st
 item:=by
  intro X hP hw hK hc i pins s σ H E I hf st hg
  subst hP hw hK
  obtain⟨f0,f1,f2,f3,f4,f5⟩:=hf it (by simp)
  have W:=Walks.range (prog:=X.prog) (w:=X.w) (I.ok.hd hc) it lo 1 n
  refine W.item i s _ _ hg st λv h' tk hv st' kk=>?_
  obtain⟨t,rfl⟩:=hv
  have I1:Inv X pins σ H { s with heap:=h',toks:=tk }:=I.turned (λb o hb e=>kk b o (by simpa using hb) e) f0 f1 f3 f4 f5
  refine⟨_,rfl,Zpi (s:={ s with heap:=h',toks:=tk }) (n :="range_iterator") st' rfl rfl (by decide) ⟨.int (lo+i),H,I1,⟨t,?_⟩,⟨rfl,rfl⟩,st',λb hb=>(hf b hb).1⟩⟩
  rw[Int.mul_one]
 done:=by
  intro X hP hw hK hc i pins s σ H E I hf st hg
  subst hP hw hK
  obtain⟨f0,f1,f2,f3,f4,f5⟩:=hf it (by simp)
  exact wpAny_pyNext_range_end (I.ok.hd hc) st (by have:n≤i:=hg;omega) λh' eb=>⟨rfl,I.turned (t':=s.toks) (λb o hb e=>eb b o hb e) f0 f1 f3 f4 f5⟩
 self:=λ_ _ _ _ _ st h=>wpAny_pyIter_rangeiter st h
section
variable {X:Cx}{tg:Expr}
noncomputable def Z00(K:Xb)(tl:TE):TI:=λσ H R=>tl σ H λx H1=>∃a,x= .ref a∧(∃xs,SqL K H1 a xs)∧R (Itl K a) H1
noncomputable def Z8f(K:Xb)(tl:TE):TI:=λσ H R=>tl σ H λx H1=>∃a,x= .ref a∧(∃xs,SqT K H1 a xs)∧R (Itt K a) H1
theorem Zuk{l:Expr}{tl:TE}(hl:PE X l tl):PI X tg l (Z00 X.K tl):=by
 intro pins s σ H R I h
 refine thn (hl pins s σ H _ I h) λv s1 qz9=>?_
 obtain⟨x,H1,I1,r1,q1⟩:=qz9
 obtain⟨a,e,⟨xs,hq⟩,q⟩:=q1
 subst e
 cases r1
 obtain⟨its,rv,p,hz⟩:=I1.list hq
 refine wpAny_pyIter_list p.isList ?_
 refine⟨s1.heap.objs.size,[s1.heap.objs.size],_,_,H1,rfl,I1.kept (t':=s1.toks) λb o e=>Xh _ e,Zo0 a _,⟨_,Xy _ rfl,rfl,rfl⟩,λb hb=>?_,q⟩
 have e:b=s1.heap.objs.size:=by simpa using hb
 subst e
 exact I1.fpOk (XQ _) (I1.hok.fresh (XQ _))
theorem Z04{l:Expr}{tl:TE}(hl:PE X l tl):PI X tg l (Z8f X.K tl):=by
 intro pins s σ H R I h
 refine thn (hl pins s σ H _ I h) λv s1 qz9=>?_
 obtain⟨x,H1,I1,r1,q1⟩:=qz9
 obtain⟨a,e,⟨xs,hq⟩,q⟩:=q1
 subst e
 cases r1
 obtain⟨its,rv,p,hz⟩:=I1.tuple hq
 refine wpAny_pyIter_tuple (show s1.heap.IsTuple a its.toArray from p) ?_
 refine⟨s1.heap.objs.size,[s1.heap.objs.size],_,_,H1,rfl,I1.kept (t':=s1.toks) λb o e=>Xh _ e,Zmh a _,⟨_,Xy _ rfl,rfl,rfl⟩,λb hb=>?_,q⟩
 have e:b=s1.heap.objs.size:=by simpa using hb
 subst e
 exact I1.fpOk (XQ _) (I1.hok.fresh (XQ _))
theorem Zkz{pins:List (Addr×Obj)}{σ:St}{H:Hp}{s:Xf}{R:It->Hp->Prop}{E:Xc->Xf->Prop}{lo hi:Int}{t u v:Tok}{tk:Nat}(I:Inv X pins σ H s)(h1:-(2^62)≤lo)(h2:lo<2^62)(h3:-(2^62)≤hi)(h4:hi<2^62)
  (q:R (Itr lo (hi-lo).toNat) H):XC (X8 X.prog X.w) X.A (pyIter (.ref s.heap.objs.size)) (PIE X pins σ tg R) E { s with heap:=s.heap.push { cls:=.type "range",data:=.fields #[.int lo t,.int hi u,.int 1 v] },toks:=tk }:=by
 refine wpAny_pyIter_range (IsRange.new ..) (small_one h1 h2 h3 h4) ?_
 have I1:Inv X pins σ H { s with heap:=s.heap.push { cls:=.type "range",data:=.fields #[.int lo t,.int hi u,.int 1 v] },toks:=tk }:=I.kept λb o e=>Xh _ e
 refine⟨(s.heap.push { cls:=.type "range",data:=.fields #[.int lo t,.int hi u,.int 1 v] }).objs.size,[(s.heap.push { cls:=.type "range",data:=.fields #[.int lo t,.int hi u,.int 1 v] }).objs.size],_,_,H,rfl,
  I1.kept (t':=tk) λb o e=>Xh _ e,Zl9 _ lo (hi-lo).toNat,?_,λb hb=>?_,q⟩
 ·have e1:lo+((0:Nat):Int)*1=lo:=by simp
  have e2:(((hi-lo).toNat:Nat):Int)-((0:Nat):Int)=Builtin.Range.rangeSize lo hi 1:=by rw[rangeSize_one];split<;>omega
  show IsRangeIter _ _ (lo+((0:Nat):Int)*1) ((((hi-lo).toNat:Nat):Int)-((0:Nat):Int)) 1
  rw[e1,e2]
  exact Xy _ rfl
 ·have e:b=(s.heap.push { cls:=.type "range",data:=.fields #[.int lo t,.int hi u,.int 1 v] }).objs.size:=by simpa using hb
  subst e
  exact I1.fpOk (XQ _) (I1.hok.fresh (XQ _))
noncomputable def Z4o(ta:TA):TI:=λσ H R=>ta σ H λvs H1=>∃j:Int,vs=[.int j]∧-(2^62)≤j∧j<2^62∧R (Itr 0 j.toNat) H1
noncomputable def Z5d(ta:TA):TI:=λσ H R=>ta σ H λvs H1=>∃i j:Int,vs=[.int i,.int j]∧(-(2^62)≤i∧i<2^62∧-(2^62)≤j∧j<2^62)∧R (Itr i (j-i).toNat) H1
theorem Zpb{a:Expr}{ta:TA}{p pos:Pos}(hg:Gl X "range")(hm:X.mg "range"=none)(ha:PA X [a] ta)(hs:Xj [a] X.env=[(false,eval a X.env)]:=by rfl):PI X tg (.Call (.Name "range" p) [a] [] pos) (Z4o ta):=by
 intro pins s σ H R I h
 refine Call_ (Zc4 I hg hm boot_range (JD (thn (ha pos pins s σ H _ I h) λus s1 qz9=>?_) hs rfl))
 obtain⟨vs,H1,I1,r1,q1⟩:=qz9
 obtain⟨j,e,q1,q2,q⟩:=q1
 subst e
 cases r1 with
 | cons r rr=>
  cases rr
  obtain⟨t,rfl⟩:=r
  exact call_range_1 (Zkz I1 (by omega) (by omega) q1 q2 (by simpa using q))
theorem Znx{a b:Expr}{ta:TA}{p pos:Pos}(hg:Gl X "range")(hm:X.mg "range"=none)(ha:PA X [a,b] ta)(hs:Xj [a,b] X.env=[(false,eval a X.env),(false,eval b X.env)]:=by rfl)(hs2:Xj [b] X.env=[(false,eval b X.env)]:=by rfl) :
  PI X tg (.Call (.Name "range" p) [a,b] [] pos) (Z5d ta):=by
 intro pins s σ H R I h
 refine Call_ (Zc4 I hg hm boot_range (JD (thn (ha pos pins s σ H _ I h) λus s1 ⟨vs,H1,I1,r1,q1⟩=>?_) (by rw[hs,hs2]) (by rw[hs2];rfl)))
 obtain⟨i,j,e,⟨q1,q2,q3,q4⟩,q⟩:=q1
 subst e
 cases r1 with
 | cons r rr=>
  cases rr with
  | cons r' rr=>
   cases rr
   obtain⟨t,rfl⟩:=r
   obtain⟨t',rfl⟩:=r'
   exact call_range_2 (Zkz I1 q1 q2 q3 q4 q)
noncomputable def Yan(wi:TI)(g:TG)(tb:TS):TS:=λD σ H=>wi σ H λJ H1=>∃W:Nat->Nat->St->Hp->Prop,(∃m,W 0 m σ H1)∧∀i m σ H,W i m σ H ->
 (J.stop i H∧D.nx σ H)∨(J.go i H∧∃N:St->Hp->Prop,(∀σ' H',N σ' H'->∃m',m'<m∧W (i+1) m' σ' H')∧∀x H',J.yld i H x H'->g x σ H' λσ2 H2=>tb { D with nx:=N,ct:=N,bk:=D.nx } σ2 H2)
noncomputable def Zgo(fp:List Addr)(h:Heap):List (Addr×Obj):=fp.filterMap λb=>(h.get? b).map λo=>(b,o)
theorem Jw{fp:List Addr}{h:Heap}{b:Addr}{o:Obj}(hb:b∈fp)(e:h.get? b=some o):(b,o)∈Zgo fp h:=Uc.mpr ⟨b,hb,by rw[e];rfl⟩
theorem Zoz{fp:List Addr}{h:Heap}{p:Addr×Obj}(hp:p∈Zgo fp h):p.1∈fp∧h.get? p.1=some p.2:=by
 obtain⟨b,hb,e⟩:=Uc.mp hp
 cases q:h.get? b with
 | none=>rw[q]at e;cases e
 | some o=>
  rw[q]at e
  have e':(b,o)=p:=Qz e
  subst e'
  exact⟨hb,q⟩
theorem Inv.pinned{pins:List (Addr×Obj)}{σ:St}{H:Hp}{s:Xf}{fp:List Addr}(I:Inv X pins σ H s)(hf:∀b∈fp,Zdi X pins H b)(ho:∀b∈fp,∃o,s.heap.get? b=some o∧∀v,o.data≠ .cell v):Inv X (pins ++ Zgo fp s.heap) σ H s :=
 I.pins_of λp hp=>(Qj.mp hp).elim (λz=>I.pin p (Xw _ z)) λz=>by
  obtain⟨hb,e⟩:=Zoz z
  obtain⟨f0,f1,f2,_⟩:=hf p.1 hb
  obtain⟨o,e',d⟩:=ho p.1 hb
  rw[e]at e';cases e'
  exact⟨e,f0,f1,f2,d⟩
theorem Inv.unpinned{pins pl:List (Addr×Obj)}{σ:St}{H:Hp}{s:Xf}(I:Inv X (pins ++ pl) σ H s):Inv X pins σ H s:=I.pins_of λp hp=>I.pin p (Xw _ (Qk _ hp))
theorem Z1s{iter:Expr}{body:List Stmt}{wi:TI}{g:TG}{tb:TS}{pos:Pos}(hp:PassesOwn (X8 X.prog X.w) X.A X.env X.xe)(hc:X.calm=true)(hi:PI X tg iter wi)(hg:PG X tg g)(hb:PSs X body tb)
  (hs:∀x,Bk iter X.env x=pure x:=by intro _;rfl):PS X (.For tg iter body [] pos) (Yan wi g tb):=by
 intro pins s σ H D I h
 refine wpAny_For (thn (hi pins s σ H _ I h) λv s1 h1=>thn h1 λitv s2 h2=>?_) hs
 obtain⟨it,fp,tn,J,H2,e,I2,T,st2,f2,W,⟨m0,w0⟩,turn⟩:=h2
 subst e
 -- what stays true of the iterator's objects through the loop
 have stat:∀{H':Hp},(∀b∈fp,H' b=none)->∀b∈fp,Zdi X pins H' b:=λhn b hb=>⟨hn b hb,(f2 b hb).2⟩
 refine codeAny_forLoop_any (λn s'=>∃i σ' H',Inv X pins σ' H' s'∧tn i s'.heap∧(∀b∈fp,H' b=none)∧W i n σ' H') ?_ m0 ⟨0,σ,H2,I2,st2,λb hb=>(f2 b hb).1,w0⟩
 rintro n s3 ⟨i,σ3,H3,I3,st3,fr3,w3⟩
 rcases turn i n σ3 H3 w3 with⟨stop,qn⟩|⟨go,N,hN,step⟩
 ·refine Q8 hp (thn (T.done X rfl rfl rfl hc i pins s3 σ3 H3 X.xe I3 (stat fr3) st3 stop) λr s4 qz9=>?_)
  obtain⟨hr,I4⟩:=qz9
  subst hr
  exact Ug ⟨σ3,H3,I4,qn⟩
 ·refine Q8 hp (thn (T.item X rfl rfl rfl hc i pins s3 σ3 H3 X.xe I3 (stat fr3) st3 go) λr s4 qz9=>?_)
  obtain⟨u,hr,h4⟩:=qz9
  subst hr
  refine Q8 hp (thn h4 λ_ s5 qz9=>?_)
  obtain⟨x,H5,I5,r5,y5,st5,fr5⟩:=qz9
  have I5':=I5.pinned (stat fr5) (T.obj _ _ st5)
  refine Q8 hp (thn (hg _ s5 σ3 H5 x u _ I5' r5 (step x H5 y5)) λ_ s6 qz9=>?_)
  obtain⟨σ6,H6,I6,q6⟩:=qz9
  refine Q8 hp (thn (hb _ s6 σ6 H6 _ I6 q6) λf s7 q7=>?_)
  have again:∀{σ7:St} {H7:Hp},Inv X (pins ++ Zgo fp s5.heap) σ7 H7 s7->N σ7 H7->∃m,m<n∧∃i σ' H',Inv X pins σ' H' s7∧tn i s7.heap∧(∀b∈fp,H' b=none)∧W i m σ' H':=fun{σ7 H7} I7 n7=>by
   obtain⟨m',hm,w7⟩:=hN σ7 H7 n7
   refine⟨m',hm,i+1,σ7,H7,I7.unpinned,T.keep _ _ _ st5 λb hb o e=>(I7.pin (b,o) (Xw _ (Xw _ (Jw hb e)))).1,λb hb=>?_,w7⟩
   obtain⟨o,e,d⟩:=T.obj _ _ st5 b hb
   exact(I7.pin (b,o) (Xw _ (Xw _ (Jw hb e)))).2.1
  cases f with
  | next=>obtain⟨σ7,H7,I7,n7⟩:=q7;exact again I7 n7
  | cont=>obtain⟨σ7,H7,I7,n7⟩:=q7;exact again I7 n7
  | brk=>obtain⟨σ7,H7,I7,q7⟩:=q7;exact⟨σ7,H7,I7.unpinned,q7⟩
  | ret v=>obtain⟨x7,σ7,H7,I7,r7,q7⟩:=q7;exact⟨x7,σ7,H7,I7.unpinned,r7,q7⟩
end
noncomputable abbrev R2:=V->V->Hp->VK->Prop
noncomputable def OpR(X:Cx)(f:Xc->Xc->Sem Xc)(r:R2):Prop :=
 ∀(pins:List (Addr×Obj)) (s:Xf) (σ:St) (H:Hp) (x y:V) (v u:Xc) (Q:VK),Inv X pins σ H s->RelV x v->RelV y u->r x y H Q ->
  XC (X8 X.prog X.w) X.A (f v u) (EP X pins σ Q) X.xe s
noncomputable def Zc1(X:Cx)(f:Xc)(r:List V->Hp->VK->Prop):Prop :=
 ∀(pins:List (Addr×Obj)) (s:Xf) (σ:St) (H:Hp) (xs:List V) (us:List Xc) (Q:VK),Inv X pins σ H s->Vals xs us->r xs H Q ->
  XC (X8 X.prog X.w) X.A (call f us) (EP X pins σ Q) X.xe s
noncomputable def Z9p(X:Cx)(r:V->Hp->(Bool->Hp->Prop)->Prop):Prop :=
 ∀(pins:List (Addr×Obj)) (s:Xf) (σ:St) (H:Hp) (x:V) (v:Xc) (Q:Bool->Hp->Prop),Inv X pins σ H s->RelV x v->r x H Q ->
  XC (X8 X.prog X.w) X.A (truthy v) (TP X pins σ Q) X.xe s
noncomputable def tOp(r:R2)(ta tb:TE):TE:=λσ H Q=>ta σ H λx H1=>tb σ H1 λy H2=>r x y H2 Q
noncomputable def rI(C:Int->Int->Prop)(g:Int->Int->V):R2:=λx y H Q=>∃i j,x= .int i∧y= .int j∧C i j∧Q (g i j) H
noncomputable def rI0(g:Int->Int->V):R2:=λx y H Q=>∃i j,x= .int i∧y= .int j∧Q (g i j) H
section
variable {X:Cx}{a b c:Expr}{ta tb tc:TE}{pos:Pos}
theorem Z39(ha:PE X a ta)(hb:PE X b tb){pins:List (Addr×Obj)}{s:Xf}{σ:St}{H:Hp}{R:V->V->Hp->Prop}(I:Inv X pins σ H s)
  (h:ta σ H λx H1=>tb σ H1 λy H2=>R x y H2) {Q:Xc->Xf->Prop} {f:Xc->Xc->Sem Xc}
  (hf:∀v u s2 x y H2,Inv X pins σ H2 s2->RelV x v->RelV y u->R x y H2->XC (X8 X.prog X.w) X.A (f v u) Q X.xe s2) :
  XC (X8 X.prog X.w) X.A (eval a X.env) (λv s₁=>XC (X8 X.prog X.w) X.A (eval b X.env) (λu s₂=>XC (X8 X.prog X.w) X.A (f v u) Q X.xe s₂) X.xe s₁) X.xe s:=by
 refine thn (ha pins s σ H _ I h) λv s1 qz9=>?_
 obtain⟨x,H1,I1,r1,q1⟩:=qz9
 refine thn (hb pins s1 σ H1 _ I1 q1) λu s2 qz9=>?_
 obtain⟨y,H2,I2,r2,q2⟩:=qz9
 exact hf v u s2 x y H2 I2 r1 r2 q2
theorem Zzf{op:Operator}{r:R2}(ho:OpR X (Vn op) r)(ha:PE X a ta)(hb:PE X b tb):PE X (.BinOp a op b pos) (tOp r ta tb):=by
 intro pins s σ H Q I h
 exact wpAny_BinOp (Z39 ha hb I h λv u s2 x y H2 I2 rx ry q=>ho pins s2 σ H2 x y v u Q I2 rx ry q)
theorem opI{f:Xc->Xc->Sem Xc}{C:Int->Int->Prop}{g:Int->Int->Int}
  (rule:∀(i j:Int) (t u:Tok) (s:Xf) (Q:Xc->Xf->Prop) (E:Xc->Xf->Prop),C i j->Q (.int (g i j) s.toks) { s with toks:=s.toks+1 }->XC (X8 X.prog X.w) X.A (f (.int i t) (.int j u)) Q E s) :
  OpR X f (rI C λi j=>.int (g i j)):=by
 intro pins s σ H x y v u Q I rx ry h
 obtain⟨i,j,rfl,rfl,hc,q⟩:=h
 obtain⟨t,rfl⟩:=rx
 obtain⟨t',rfl⟩:=ry
 exact rule i j t t' s _ _ hc ⟨.int (g i j),H,I.tok _,⟨_,rfl⟩,q⟩
theorem Z8r{f:Xc->Xc->Sem Xc}{g:Int->Int->Int}
  (rule:∀(i j:Int) (t u:Tok) (s:Xf) (Q:Xc->Xf->Prop) (E:Xc->Xf->Prop),Q (.int (g i j) s.toks) { s with toks:=s.toks+1 }->XC (X8 X.prog X.w) X.A (f (.int i t) (.int j u)) Q E s) :
  OpR X f (rI0 λi j=>.int (g i j)):=by
 intro pins s σ H x y v u Q I rx ry h
 obtain⟨i,j,rfl,rfl,q⟩:=h
 obtain⟨t,rfl⟩:=rx
 obtain⟨t',rfl⟩:=ry
 exact rule i j t t' s _ _ ⟨.int (g i j),H,I.tok _,⟨_,rfl⟩,q⟩
theorem Z3m{f:Xc->Xc->Sem Xc}{g:Int->Int->Bool}
  (rule:∀(i j:Int) (t u:Tok) (s:Xf) (Q:Xc->Xf->Prop) (E:Xc->Xf->Prop),Q (.bool (g i j)) s->XC (X8 X.prog X.w) X.A (f (.int i t) (.int j u)) Q E s) :
  OpR X f (rI0 λi j=>.bl (g i j)):=by
 intro pins s σ H x y v u Q I rx ry h
 obtain⟨i,j,rfl,rfl,q⟩:=h
 obtain⟨t,rfl⟩:=rx
 obtain⟨t',rfl⟩:=ry
 exact rule i j t t' s _ _ ⟨.bl (g i j),H,I,rfl,q⟩
noncomputable def Z3l(i j:Int):Prop:=0≤j∧j≤1000000∧i.natAbs<2^64
noncomputable def CMul(i j:Int):Prop:=(-(2^64)<i∧i<2^64)∨(-(2^64)<j∧j<2^64)
theorem CMul.ok{i j:Int}(h:CMul i j):IntMulOk i j:=by
 rcases h with⟨h1,h2⟩|⟨h1,h2⟩
 ·exact .of_left (intBits_le_64 h1 h2)
 ·exact .of_right (intBits_le_64 h1 h2)
theorem Z1b:OpR X (Vn .Add) (rI0 λi j=>.int (i+j)):=Z8r λ_ _ _ _ _ _ _ q=>add_int q
theorem Z2q:OpR X (Vn .Sub) (rI0 λi j=>.int (i-j)):=Z8r λ_ _ _ _ _ _ _ q=>sub_int q
theorem Zxq:OpR X (Vn .Mod) (rI (λ_ j=>j≠0) λi j=>.int (i.fmod j)):=opI λ_ _ _ _ _ _ _ hc q=>mod_int' hc q
theorem Z13:OpR X (Vn .Pow) (rI Z3l λi j=>.int (i^j.toNat)):=opI λ_ _ _ _ _ _ _ hc q=>pow_int_small hc.1 hc.2.1 hc.2.2 q
end
section
variable {X:Cx}{a b c:Expr}{ta tb tc:TE}{pos:Pos}
theorem Zhl:OpR X (QL .Lt) (rI0 λi j=>.bl (decide (i<j))):=Z3m λ_ _ _ _ _ _ _ q=>lt_int q
theorem Zlo:OpR X (QL .LtE) (rI0 λi j=>.bl (decide (i≤j))):=Z3m λ_ _ _ _ _ _ _ q=>le_int q
theorem Z52:OpR X (QL .Gt) (rI0 λi j=>.bl (decide (j<i))):=Z3m λ_ _ _ _ _ _ _ q=>gt_int q
theorem Z6u:OpR X (QL .GtE) (rI0 λi j=>.bl (decide (j≤i))):=Z3m λ_ _ _ _ _ _ _ q=>ge_int q
theorem Zcx(b:Expr){op:CmpOp}(h:op≠ .In:=by decide)(h2:op≠ .NotIn:=by decide):V7 op b=false:=by
 have e1:(op==CmpOp.In)=false:=by cases op<;>first|rfl|exact absurd rfl h
 have e2:(op==CmpOp.NotIn)=false:=by cases op<;>first|rfl|exact absurd rfl h2
 cases b<;>simp[V7,e1,e2]
theorem Zt4{op:CmpOp}{r:R2}(ho:OpR X (QL op) r)(ha:PE X a ta)(hb:PE X b tb)(hm:V7 op b=false):PE X (.Compare a [op] [b] pos) (tOp r ta tb):=by
 intro pins s σ H Q I h
 exact wpAny_Compare1 (Z39 ha hb I h λv u s2 x y H2 I2 rx ry q=>ho pins s2 σ H2 x y v u Q I2 rx ry q) hm
noncomputable def Zu7(t:TE):TT:=λσ H Q=>t σ H λx H'=>∃k,x= .bl k∧Q k H'
theorem Zwf{op:CmpOp}{r:R2}(ho:OpR X (QL op) r)(ha:PE X a ta)(hb:PE X b tb)(hm:V7 op b=false):PT X (.Compare a [op] [b] pos) (Zu7 (tOp r ta tb)):=by
 intro pins s σ H Q I h
 refine wpAny_isTrue_Compare1 (thn (ha pins s σ H _ I h) λv s1 ⟨x,H1,I1,r1,q1⟩=>thn (hb pins s1 σ H1 _ I1 q1) λu s2 ⟨y,H2,I2,r2,q2⟩=>
  thn (ho pins s2 σ H2 x y v u _ I2 r1 r2 q2) λc s3 ⟨z,H3,I3,r3,k,e,q3⟩=>?_) hm
 subst e
 cases r3
 exact BJ ⟨H3,I3,q3⟩
noncomputable def Ztf(r r':R2)(ta tb tc:TE):TE:=λσ H Q=>ta σ H λx H1=>tb σ H1 λy H2=>r x y H2 λz H3=>∃k,z= .bl k∧
 (if k=true then tc σ H3 λw' H4=>r' y w' H4 Q else Q (.bl false) H3)
theorem Zsn{op op':CmpOp}{r r':R2}(ho:OpR X (QL op) r)(ho':OpR X (QL op') r')(ha:PE X a ta)(hb:PE X b tb)(hc:PE X c tc)
  (hm:lastMarks [op,op'] [b,c]=false:=by with_unfolding_all rfl):PE X (.Compare a [op,op'] [b,c] pos) (Ztf r r' ta tb tc):=by
 intro pins s σ H Q I h
 refine Compare_chain (thn (ha pins s σ H _ I h) λv s1 ⟨x,H1,I1,r1,q1⟩=>chain_link (thn (hb pins s1 σ H1 _ I1 q1) λu s2 ⟨y,H2,I2,r2,q2⟩=>
  thn (ho pins s2 σ H2 x y v u _ I2 r1 r2 q2) λd s3 ⟨z,H3,I3,r3,k,e,q3⟩=>?_)) hm
 subst e
 cases r3
 refine BJ ?_
 cases k with
 | false=>exact ite_ff ⟨.bl false,H3,I3,rfl,q3⟩
 | true=>exact ite_tt (chain_last (thn (hc pins s3 σ H3 _ I3 q3) λw' s4 ⟨z',H4,I4,r4,q4⟩=>ho' pins s4 σ H4 y z' u w' Q I4 r2 r4 q4))
noncomputable def Z6o(K:Xb)(x:V)(H:Hp)(k:Bool):Prop :=
 match x with
 | .non=>k=false
 | .bl b=>k=b
 | .int i=>k=(i !=0)
 | .str y=>y.length≤Xi∧k=((y.length:Int) !=0)
 | .byt y=>y.size≤Xi∧k=((y.size:Int) !=0)
 | .ref p=>(∃xs,SqL K H p xs∧k= !xs.isEmpty)∨(∃xs,SqT K H p xs∧k= !xs.isEmpty)∨∃kvs,H p=some (.dK kvs)∧k= !kvs.isEmpty
 | _=>False
theorem Zmb{κ:Type}{kvs:List (κ×V)}{vs:List (κ×Xc)}(r:KV kvs vs):(!vs.isEmpty)= !kvs.isEmpty:=by
 cases r<;>rfl
theorem Zgw{xs:List V}{its:List Xc}(r:Vals xs its):(!its.toArray.isEmpty)= !xs.isEmpty:=by
 cases r<;>simp
theorem Zgt:(Xi:Nat)<2^63:=by rw[Qe];decide
theorem Zyn:Z9p X (λx H Q=>∃k,Z6o X.K x H k∧Q k H):=by
 intro pins s σ H x v Q I rx h
 obtain⟨k,e,q⟩:=h
 have hl:=Zgt
 have hs:Xi=16777216:=Qe
 cases x with
 | non=>
  cases rx
  have e':k=false:=e
  subst e'
  exact truthy_none ⟨H,I,q⟩
 | bl b=>
  cases rx
  have e':k=b:=e
  subst e'
  exact BJ ⟨H,I,q⟩
 | int i=>
  obtain⟨t,rfl⟩:=rx
  have e':k=(i !=0):=e
  subst e'
  exact PySem.P.truthy_int ⟨H,I,q⟩
 | str y=>
  obtain⟨t,rfl⟩:=rx
  obtain⟨hy,e'⟩:y.length≤Xi∧k=((y.length:Int) !=0):=e
  subst e'
  exact PySem.P.truthy_str (by omega) ⟨H,I.tok _,q⟩
 | byt y=>
  obtain⟨t,rfl⟩:=rx
  obtain⟨hy,e'⟩:y.size≤Xi∧k=((y.size:Int) !=0):=e
  subst e'
  exact PySem.W.truthy_bytes (by omega) ⟨H,I.tok _,q⟩
 | ref p=>
  cases rx
  have e':(∃xs,SqL X.K H p xs∧k= !xs.isEmpty)∨(∃xs,SqT X.K H p xs∧k= !xs.isEmpty)∨∃kvs,H p=some (.dK kvs)∧k= !kvs.isEmpty:=e
  rcases e' with⟨xs,hx,e'⟩|⟨xs,hx,e'⟩|⟨kvs,hx,e'⟩
  ·subst e'
   obtain⟨its,r,pl,hz⟩:=I.list hx
   have hlen:=r.length
   exact wpAny_truthy_list pl.isList (by simp only[Xr];omega) ⟨H,I.tok _,by rw[Zgw r];exact q⟩
  ·subst e'
   obtain⟨its,r,pl,hz⟩:=I.tuple hx
   have hlen:=r.length
   exact truthy_tuple pl (by simp only[Xr];omega) ⟨H,I.tok _,by rw[Zgw r];exact q⟩
  ·subst e'
   obtain⟨hz,hS,vs,r,m⟩:kvs.length≤Xi∧(p==Vl)=false∧∃vs,KV kvs vs∧s.heap.DictOf (Wq X.prog X.w) p vs:=I.hok p _ hx
   have hlen:kvs.length=vs.length:=Paired.length r
   exact wpAny_truthy_dict hS m (by omega) ⟨H,I.tok _,by rw[Zmb r];exact q⟩
 | _=>exact(show False from e).elim
theorem Zsh(ha:PE X a ta)(he:∀whole,isTrue a X.env whole=(do let v←whole;standAt a.pos;holding [v] (truthy v))) :
  PT X a (λσ H Q=>ta σ H λx H'=>∃k,Z6o X.K x H' k∧Q k H'):=by
 intro pins s σ H Q I h
 refine isTrue_plain (thn (ha pins s σ H _ I h) λv s1 qz9=>?_) (he _)
 obtain⟨x,H1,I1,r1,q1⟩:=qz9
 exact Zyn pins s1 σ H1 x v Q I1 r1 q1
theorem Wg:OpR X (Vn .Add) (λx y H Q=>∃i j,x= .str i∧y= .str j∧i.length+j.length≤Xi∧Q (.str (i ++ j)) H):=by
 intro pins s σ H x y v u Q I rx ry h
 obtain⟨i,j,rfl,rfl,hz,q⟩:=h
 obtain⟨t,rfl⟩:=rx
 obtain⟨t',rfl⟩:=ry
 exact add_str (λt' tk=>⟨.str (i ++ j),H,I.tok _,⟨_,rfl⟩,q⟩) hz
theorem vals1{x:V}{us:List Xc}(r:Vals [x] us):∃u,us=[u]∧RelV x u:=by
 cases r with
 | cons r1 r2=>cases r2;exact⟨_,rfl,r1⟩
theorem vals2{x y:V}{us:List Xc}(r:Vals [x,y] us):∃u w',us=[u,w']∧RelV x u∧RelV y w':=by
 cases r with
 | cons r1 r2=>
  cases r2 with
  | cons r3 r4=>cases r4;exact⟨_,_,rfl,r1,r3⟩
end
structure Ya4(h:Heap)(x dx C:Addr)(mA:Str->Option Xc):Prop where
 obj:h.get? x=some (PySem.W.instObj C dx)
 ns:h.Ns1 dx mA
 ne:dx≠x
section
variable {prog:X4}{w:Qv}{A:Qt}{E:Xc->Xf->Prop}{s:Xf}{K:Xb}{x dx C f:Addr}{mA:Str->Option Xc}{name:Str}{v:Xc}
end
theorem RelO.some_of{v:V}{o:Option Xc}(r:RelO (some v) o):∃u,o=some u∧RelV v u:=by
 cases o with
 | none=>exact(show False from r).elim
 | some u=>exact⟨u,rfl,r⟩
section
variable {P:X4}{w:Qv}{H H':Hp}{h h':Heap}{a C dx:Addr}{fs fs':List (Str×V)}
end
structure Cls(K:Xb)(C:Addr):Prop where
 pg:PySem.W.plainGet K C Str.empty=true
 hd:PySem.W.hasDictIn K C=true
 po:PySem.W.plainOver K C=true
 sa:QZ K (.ref C) "__setattr__"=some (some (.builtin "object.__setattr__"))
structure Con(K:Xb)(C:Addr)(f:Str)(v:V)(u:Xc):Prop where
 at_:QZ K (.ref C) f=some (some u)
 rel:RelV v u
 get:PySem.W.specialIn K u "__get__"=some none
 cp:PySem.W.copiedNames.contains f=false
structure Meth(K:Xb)(C:Addr)(m:Str)(f:Addr):Prop where
 at_:QZ K (.ref C) m=some (some (.ref f))
 fn:PySem.W.isFn K (.ref f)=true
 kp:X7 K (.ref f)=true
section
variable {X:Cx}{pins:List (Addr×Obj)}{σ:St}{H:Hp}{s:Xf}{a C dx:Addr}{fs:List (Str×V)}{f:Str}{v:V}{A:Qt}{E:Xc->Xf->Prop}
end
section
variable {X:Cx}{o e value:Expr}{f:Str}{pos pos' tpos:Pos}{ta tv:TE}
end
section
variable {X:Cx}{pins:List (Addr×Obj)}{σ:St}{H:Hp}{s:Xf}{A:Qt}{E:Xc->Xf->Prop}{Q:Xc->Xf->Prop}{c:Xc}{b:Bool}
inductive Znn(K:Xb)(H:Hp):V->Xc->Prop where
 | non:Znn K H .non (.type "NoneType")
 | bl (x:Bool):Znn K H (.bl x) (.type "bool")
 | int (i:Int):Znn K H (.int i) (.type "int")
 | str (x:Str):Znn K H (.str x) (.type "str")
 | flt (x:UInt64):Znn K H (.flt x) (.type "float")
 | lst {a:Addr} {xs:List V} (e:H a=some (.lst xs)):Znn K H (.ref a) (.type "list")
 | frz {a:Addr} {o:Obj} {xs:List V} (e:H a=some (.frz o (.lst xs))):Znn K H (.ref a) (.type "list")
 | tup {a:Addr} {xs:List V} (e:H a=some (.tup xs)):Znn K H (.ref a) (.type "tuple")
 | dK {a:Addr} {kvs:List (Key×V)} (e:H a=some (.dK kvs)):Znn K H (.ref a) (.type "dict")
 | dT {a:Addr} {kvs:List (List Key×V)} (e:H a=some (.dT kvs)):Znn K H (.ref a) (.type "dict")
 | ins {a C dx:Addr} {fs:List (Str×V)} (e:H a=some (.ins C dx fs)) (cl:Cls K C) (ha:QZ K (.ref C) "__class__"=some (some (.builtin "object.__class__")))
   (hn:PySem.W.specialIn K (.builtin "object.__class__") "__get__"=some (some (.builtin "getset_descriptor.__get__"))) (htk:PySem.W.takesIn K (.builtin "object.__class__")=some true)
   (hm:PySem.W.mroIn K C (.type "object")=some true):Znn K H (.ref a) (.ref C)
end
structure Room(k:Nat)(A:Qt):Prop where
 hd:A.handled=none
 dp:A.depth+3*k+5<recursionLimit
 un:A.units+16*k+200<Ur
theorem Room.mono{j k:Nat}{A:Qt}(r:Room k A)(h:j≤k):Room j A:=⟨r.hd,by have:=r.dp;omega,by have:=r.un;omega⟩
theorem Room.deeper{k:Nat}{A:Qt}(r:Room (k+1) A)(env:Env):Room k (A.deeper env) :=
 ⟨r.hd,by have:=r.dp;show A.depth+1+3*k+5<_;omega,by have:=r.un;show A.units+3+16*k+200<_;omega⟩
theorem Room.depth{k:Nat}{A:Qt}(r:Room k A):A.depth<recursionLimit:=by have:=r.dp;omega
theorem Room.units{k:Nat}{A:Qt}(r:Room k A):A.units+64<Ur:=by have:=r.un;omega
noncomputable def Z97:TA:=λ_ H Q=>Q [] H
noncomputable def Z36(ta:TE)(tr:TA):TA:=λσ H Q=>ta σ H λx H1=>tr σ H1 λxs H2=>Q (x :: xs) H2
section
variable {X:Cx}{e:Expr}{es:List Expr}{te:TE}{t:TA}{pos:Pos}
theorem Zd8:PA X [] Z97:=λ_ _ _ _ H Q I h=>Calls.spliced_nil ⟨[],H,I,.nil,h⟩
theorem Yw(ha:PE X e te)(hr:PA X es t)(hs:Xj (e :: es) X.env=(false,eval e X.env) :: Xj es X.env:=by rfl):PA X (e :: es) (Z36 te t):=by
 intro pos pins s σ H Q I h
 rw[hs]
 show XC _ _ (spliced ((false,eval e X.env) :: Q6 pos (Xj es X.env))) _ _ s
 refine Calls.spliced_cons (thn (ha pins s σ H _ I h) λu s1 qz9=>?_)
 obtain⟨x,H1,I1,r1,q1⟩:=qz9
 refine thn (hr pos pins s1 σ H1 _ I1 q1) λus s2 qz9=>?_
 obtain⟨xs,H2,I2,r2,q2⟩:=qz9
 exact⟨x :: xs,H2,I2,.cons r1 r2,q2⟩
noncomputable def Z98(t:TA):TE:=λσ H Q=>t σ H λxs H1=>xs.length≤Xi∧∀p,H1 p=none->Q (.ref p) (upd H1 p (.tup xs))
noncomputable def Ya1(t:TA):TE:=λσ H Q=>t σ H λxs H1=>xs.length≤Xi∧∀p,H1 p=none->Q (.ref p) (upd H1 p (.lst xs))
theorem Zor{x1}(h:PA X es t):PE X (.Tuple es x1 pos) (Z98 t):=by
 intro pins s σ H Q I hq
 refine wpAny_Tuple_spliced (thn (h pos pins s σ H _ I hq) λus s1 ⟨xs,H1,I1,r,z,q⟩=>⟨by rw[←r.length];exact z,?_⟩)
 have hf:H1 s1.heap.objs.size=none:=I1.hok.fresh (XQ _)
 refine⟨.ref s1.heap.objs.size,upd H1 s1.heap.objs.size (.tup xs),I1.laid (t':=s1.toks) (λb u e=>Xh _ e) (XQ _) ?_,rfl,q _ hf⟩
 exact⟨z,us,r,⟨_,Xy _ rfl,rfl,_,rfl⟩⟩
theorem Z20(h:PA X es t):PE X (.List es pos) (Ya1 t):=by
 intro pins s σ H Q I hq
 refine wpAny_List_spliced (thn (h pos pins s σ H _ I hq) λus s1 ⟨xs,H1,I1,r,z,q⟩=>⟨by rw[←r.length];exact z,?_⟩)
 have hf:H1 s1.heap.objs.size=none:=I1.hok.fresh (XQ _)
 refine⟨.ref s1.heap.objs.size,upd H1 s1.heap.objs.size (.lst xs),I1.laid (t':=s1.toks) (λb u e=>Xh _ e) (XQ _) ?_,rfl,q _ hf⟩
 exact⟨z,us,0,r,Xy _ rfl⟩
end
noncomputable abbrev Sp:=List V->Hp->VK->XK->Prop
noncomputable abbrev CXT:=List Env->Hp->Xf->XK->Xc->Xf->Prop
structure Z3a(P:X4)(w:Qv)(K:Xb)(mg:Str->Option Xc)(base:Heap)(A:Qt)(outer:List Env)(s:Xf)(H:Hp):Prop where
 frames:A.frames=some outer
 mod:Mod K mg base
 bs:∀b o,base.get? b=some o->s.heap.get? b=some o∧H b=none
 bsz:base.objs.size≤s.heap.objs.size
 funs:s.heap.FunFrames base outer
 frf:∀b∈frs outer,H b=none
 hok:HOk P w H s.heap
 bare:AllBare s.gens
noncomputable def CE(outer:List Env)(P:X4)(w:Qv)(H:Hp)(s:Xf)(Q:VK)(u:Xc)(s':Xf):Prop :=
 ∃v H',s'.os=s.os∧AllBare s'.gens∧Un (frs outer) [] H H' s.heap s'.heap∧HOk P w H' s'.heap∧RelV v u∧Q v H'
noncomputable def CR(CX:CXT)(outer:List Env)(P:X4)(w:Qv)(H:Hp)(s:Xf)(Q:VK)(E:XK)(r:Result)(s':Xf):Prop :=
 match r with
 | .ok (.ret u)=>CE outer P w H s Q u s'
 | .ok _=>False
 | .error e=>CX outer H s E e s'
structure FnOk(P:X4)(w:Qv)(K:Xb)(mg:Str->Option Xc)(base:Heap)(CX:CXT)(k:Nat)(f:Addr)(fd:Qc)(ps:List Str)(sp:Sp):Prop where
 len:∀vs H Q E,sp vs H Q E->vs.length=ps.length
 run:∀(A:Qt) (outer:List Env) (s:Xf) (H:Hp) (args:Args) (us:List Xc) (vs:List V) (Q:VK) (E:XK),Room k A->Z3a P w K mg base A outer s H->BindsTo s fd args (ps.zip us)->Vals vs us->sp vs H Q E ->
  U8 (X8 P w) A (.call (.ref f) args) (CR CX outer P w H s Q E) s
theorem FnOk.imp{P:X4}{w:Qv}{K:Xb}{mg:Str->Option Xc}{base:Heap}{CX:CXT}{k:Nat}{f:Addr}{fd:Qc}{ps:List Str}{sp sp':Sp}(F:FnOk P w K mg base CX k f fd ps sp)
  (h:∀vs H Q E,sp' vs H Q E->sp vs H Q E):FnOk P w K mg base CX k f fd ps sp' :=
 ⟨λvs H Q E q=>F.len vs H Q E (h _ _ _ _ q),λA outer s H args us vs Q E hr he hb hv hs=>F.run A outer s H args us vs Q E hr he hb hv (h _ _ _ _ hs)⟩
section
variable {X:Cx}{pins:List (Addr×Obj)}{σ:St}{H:Hp}{s s':Xf}
theorem Inv.env0(I:Inv X pins σ H s):Z3a X.prog X.w X.K X.mg X.base X.A X.stack s H :=
 ⟨I.ok.frames,I.ok.mod,I.bs,Xu I.ok.bsz I.sz,I.stack,I.stkFree,I.hok,I.bare⟩
theorem Inv.after{Q:VK}{u:Xc}(I:Inv X pins σ H s)(h:CE X.stack X.prog X.w H s Q u s'):EP X pins σ Q u s':=by
 obtain⟨v,H',os,bare,un,hok,r,q⟩:=h
 obtain⟨hh,g,d,t,os'⟩:=s'
 obtain rfl:os'=s.os:=os
 exact⟨v,H',I.call (h':=hh) (g':=g) (d':=d) (t':=t) (ch:=[]) un hok bare (λb z=>absurd z (by simp)),r,q⟩
end
noncomputable def Z2u(sp:Sp)(dvs:List V)(E:XK)(t:TA):TE:=λσ H Q=>t σ H λvs H1=>sp (vs ++ dvs) H1 Q E
noncomputable def Binds(K:Xb)(fd:Qc)(ps:List Str)(ds:List Xc):Prop :=
 ∀(s:Xf) (us:List Xc),K.In s.heap->(us ++ ds).length=ps.length->BindsTo s fd ⟨us,[]⟩ (ps.zip (us ++ ds))
theorem Binds.all{K:Xb}{fd:Qc}{ps:List Str}(h:∀us:List Xc,us.length=ps.length->bindArgs fd ⟨us,[]⟩=pure (ps.zip us)):Binds K fd ps []:=λs us _ hl=>by
 rw[XR]at hl⊢
 exact .of_eq (h us hl)
noncomputable def Zkg(CX:CXT)(X:Cx)(E:XK):Prop:=∀(pins:List (Addr×Obj)) (σ:St) (H:Hp) (s:Xf) (e:Xc) (s':Xf),Inv X pins σ H s->CX X.stack H s E e s'->X.xe e s'
section
variable {X:Cx}{CX:CXT}{k:Nat}{f C:Addr}{fd:Qc}{ps:List Str}{sp:Sp}{dvs:List V}{ds:List Xc}{E:XK}{x m:Str}{p pos apos:Pos}{e o:Expr}{es:List Expr}{ta:TE}{t:TA}
theorem Zzv{pins:List (Addr×Obj)}{σ:St}{H:Hp}{s:Xf}{Q:VK}{us:List Xc}{vs:List V}(F:FnOk X.prog X.w X.K X.mg X.base CX k f fd ps sp)(hr:Room k X.A)(hb:Binds X.K fd ps ds)(hd:Vals dvs ds)(hx:Zkg CX X E)
  (I:Inv X pins σ H s) (r:Vals vs us) (h:sp (vs ++ dvs) H Q E):XC (X8 X.prog X.w) X.A (call (.ref f) us) (EP X pins σ Q) X.xe s:=by
 have r2:Vals (vs ++ dvs) (us ++ ds):=r.append hd
 have hl:(us ++ ds).length=ps.length:=by rw[←r2.length];exact F.len _ _ _ _ h
 refine wpAny_call (Uw (F.run X.A X.stack s H ⟨us,[]⟩ (us ++ ds) (vs ++ dvs) Q E hr I.env0 (hb s us I.kIn hl) r2 h) λr s' hq=>?_)
 cases r with
 | error e=>exact hx pins σ H s e s' I hq
 | ok fl=>
  cases fl with
  | ret u=>exact I.after hq
  | next=>exact Br hq
  | brk=>exact Br hq
  | cont=>exact Br hq
theorem Zuj(F:FnOk X.prog X.w X.K X.mg X.base CX k f fd ps sp)(hr:Room k X.A)(hg:Gl X x)(hm:X.mg x=some (.ref f))(hk:X7 X.K (.ref f)=true)(hb:Binds X.K fd ps ds)(hd:Vals dvs ds)(hx:Zkg CX X E)
  (ha:PA X (e :: es) t) (hdb:(x==("__debug__" : Str))=false:=by decide) (he:Xj (e :: es) X.env=(false,eval e X.env) :: Xj es X.env:=by rfl) (hpl:(Q6 pos (Xj es X.env)).any (·.1)=false:=by rfl) :
  PE X (.Call (.Name x p) (e :: es) [] pos) (Z2u sp dvs E t):=by
 intro pins s σ H Q I h
 refine Bb (Zep I hg hm ?_ hdb)
 refine PySem.W.callWith_K (h₀:=X.base) I.ok.mod.kin hk (thn (ha pos pins s σ H _ I h) λus s1 qz9=>?_) he hpl
 obtain⟨vs,H1,I1,r,q⟩:=qz9
 refine⟨I1.kIn,?_⟩
 exact Zzv F hr hb hd hx I1 r q
structure Mk(K:Xb)(C f:Addr):Prop where
 makes:PySem.W.makesIn K C=true
 init:QZ K (.ref C) "__init__"=some (some (.ref f))
 fn:PySem.W.isFn K (.ref f)=true
 kp:X7 K (.ref C)=true
end
section
variable {X:Cx}{CX:CXT}{k:Nat}{f C:Addr}{fd:Qc}{ps ks:List Str}{sp:Sp}{E:XK}{x m:Str}{p pos apos kpos:Pos}{e o:Expr}{es:List Expr}{kws:List Vb}{te ta:TE}{t tk:TA}{nm:Option Str}
structure Z7p(K:Xb)(fd:Qc)(ps ks:List Str)(g:List Xc->List Xc->List Xc)(gV:List V->List V->List V):Prop where
 to:∀(s:Xf) (us ws:List Xc),K.In s.heap->(g us ws).length=ps.length->BindsTo s fd ⟨us,ks.zip ws⟩ (ps.zip (g us ws))
 rel:∀{vs:List V} {us:List Xc} {zs:List V} {ws:List Xc},Vals vs us->Vals zs ws->Vals (gV vs zs) (g us ws)
variable {g:List Xc->List Xc->List Xc}{gV:List V->List V->List V}
end
structure Z0(N P:List Str)(sc:Us):Prop where
 kind:sc.kind= .function
 co:sc.isCoroutine=false
 gen:sc.isGenerator=false
 nd:N.Nodup
 pre:N.take P.length=P
 par:∀x∈P,sc.names.lookup x=some .local∨sc.names.lookup x=some .cell
 nofree:∀y∈sc.names,y.2≠ .free
theorem Zij{kindOf:Str->Option Bg}{x:Str}:∀{binds:List (Str×Xc)} {m:Str->Option Xc},(∀v,(x,v)∉binds)->bindL kindOf binds m x=m x
 | [],_,_=>rfl
 | (n,v) :: r,m,h=>by
  unfold bindL
  rw[Zij λw hw=>h w (V1 _ hw)]
  split
  ·have:x≠n:=by rintro rfl;exact h v Ud
   simp[this]
  ·rfl
theorem Zi8{kindOf:Str->Option Bg}{x:Str}:∀{binds:List (Str×Xc)} {m:Str->Option Xc},(∀v,(x,v)∉binds)->bindC kindOf binds m x=m x
 | [],_,_=>rfl
 | (n,v) :: r,m,h=>by
  unfold bindC
  rw[Zi8 λw hw=>h w (V1 _ hw)]
  split
  ·rfl
  ·have:x≠n:=by rintro rfl;exact h v Ud
   simp[this]
theorem Zh8{kindOf:Str->Option Bg}{x:Str}{v:Xc}:∀{P:List Str} {vs:List Xc} {i:Nat} {m:Str->Option Xc},P.Nodup->P[i]? =some x->vs[i]? =some v->kindOf x=some .local ->
  bindL kindOf (P.zip vs) m x=some v
 | [],_,_,_,_,h,_,_=>by simp at h
 | _ :: _,[],_,_,_,_,h,_=>by simp at h
 | p :: P,w :: vs,0,m,nd,h1,h2,hk=>by
  simp at h1 h2;subst h1;subst h2
  show bindL kindOf ((p,w) :: P.zip vs) m p=_
  unfold bindL
  rw[Zij λv hv=>(Qi.mp nd).1 (List.of_mem_zip hv).1,if_pos hk]
  simp
 | p :: P,w :: vs,i+1,m,nd,h1,h2,hk=>by
  show bindL kindOf ((p,w) :: P.zip vs) m x=_
  unfold bindL
  exact Zh8 (i:=i) (Qi.mp nd).2 (by simpa using h1) (by simpa using h2) hk
theorem Zh9{kindOf:Str->Option Bg}{x:Str}{v:Xc}:∀{P:List Str} {vs:List Xc} {i:Nat} {m:Str->Option Xc},P.Nodup->P[i]? =some x->vs[i]? =some v->kindOf x≠some .local ->
  bindC kindOf (P.zip vs) m x=some v
 | [],_,_,_,_,h,_,_=>by simp at h
 | _ :: _,[],_,_,_,_,h,_=>by simp at h
 | p :: P,w :: vs,0,m,nd,h1,h2,hk=>by
  simp at h1 h2;subst h1;subst h2
  show bindC kindOf ((p,w) :: P.zip vs) m p=_
  unfold bindC
  rw[Zi8 λv hv=>(Qi.mp nd).1 (List.of_mem_zip hv).1,if_neg hk]
  simp
 | p :: P,w :: vs,i+1,m,nd,h1,h2,hk=>by
  show bindC kindOf ((p,w) :: P.zip vs) m x=_
  unfold bindC
  exact Zh9 (i:=i) (Qi.mp nd).2 (by simpa using h1) (by simpa using h2) hk
noncomputable def start(N:List Str)(vs:List V):St:=vs.map some ++ QC (N.length-vs.length) none
noncomputable def Zqp(CX:CXT)(P:X4)(w:Qv)(K:Xb)(mg:Str->Option Xc)(base:Heap)(N:List Str)(qual:Str)(scope:Us)(f:Addr)(cd:Xc)(A:Qt)(outer:List Env)(s:Xf)(H:Hp)(E:XK):Cx where
 prog:=P
 w:=w
 K:=K
 mg:=mg
 base:=base
 A:=A.deeper (UJ qual scope s.heap.objs.size f cd)
 N:=N
 s₀:=s
 H₀:=H
 env:=UJ qual scope s.heap.objs.size f cd
 outer:=outer
 stack:=UJ qual scope s.heap.objs.size f cd :: outer
 ex:=[]
 calm:=true
 fn:=λ_=>true
 pn:=[]
 xe:=λe s'=>XC (X8 P w) (A.deeper (UJ qual scope s.heap.objs.size f cd)) (leaving (UJ qual scope s.heap.objs.size f cd) e) (λ_ s''=>CX outer H s E e s'') (λe' s''=>CX outer H s E e' s'') s'
theorem Zk6{sc:Us}{n:Nat}{x:Str}(h:sc.names.lookup x=some .cell):∃c,(JV n sc.names []).lookup x=some c:=by
 have q:=PySem.W.cellsFrom_some sc.names n [] (.inl h)
 exact Option.isSome_iff_exists.mp q
theorem Zoh{CX:CXT}{P:X4}{w:Qv}{K:Xb}{mg:Str->Option Xc}{base:Heap}{N ps:List Str}{qual:Str}{scope:Us}{f:Addr}{cd:Xc}{A:Qt}{outer:List Env}{s s1:Xf}{H:Hp}{E:XK}{us:List Xc}{vs:List V}
  (S:Z0 N ps scope) (hd:A.handled=none) (e0:Z3a P w K mg base A outer s H) (hl:vs.length=ps.length) (r:Vals vs us)
  (x:InCallC s s.heap.objs.size (bindL (UJ qual scope s.heap.objs.size f cd).kindOf (ps.zip us) λ_=>none) (JV (s.heap.objs.size+1) scope.names []) (bindC (UJ qual scope s.heap.objs.size f cd).kindOf (ps.zip us) λ_=>none) s1) :
  Inv (Zqp CX P w K mg base N qual scope f cd A outer s H E) [] (start N vs) H s1:=by
 have hpl:ps.length≤N.length:=by have:=congrArg List.length S.pre;rw[Bp]at this;omega
 obtain⟨h1,tk,rfl,hk⟩:=x.done
 have noA:∀b:Addr,b∉(Zqp CX P w K mg base N qual scope f cd A outer s H E).ex:=λb z=>absurd (show b∈([]:List Addr)from z) (by simp)
 refine⟨⟨e0.mod,S.kind,rfl,rfl,XQ _,λy z c h1 h2=>?_,λy hy=>?_,λy c _ h=>?_,λ_=>hd,Qt.frames_deeper e0.frames,.inr ⟨rfl,rfl⟩,λb z=>absurd z (noA b),e0.bs,e0.bsz,λb _ _=>noA b,λb z=>absurd z (noA b),e0.funs,e0.frf⟩,
  rfl,e0.bare,Un.kept hk,⟨_,x.toInCall.ns,λi y v h1 h2 h3=>?_⟩,λy c h=>⟨_,x.cell y c h⟩,e0.hok.fresh (XQ _),λy c h=>?_,λp hp=>absurd (show p∈([]:List (Addr×Obj))from hp) (by simp),e0.hok.kept hk,?_⟩
 ·exact name_of_addr x.apart (JQ h1) (JQ h2)
 ·have hy:scope.names.lookup y=some .cell∨scope.names.lookup y=some .free:=hy
  rcases hy with hy|hy
  ·exact Zk6 hy
  ·exact absurd rfl (S.nofree _ (JQ hy))
 ·exact Bo (x.above y c (JQ h))
 ·have hi:i<vs.length:=by
   unfold start at h2
   by_cases hi:i<vs.length
   ·exact hi
   ·rw[Bs (by simpa using hi)]at h2
    rw[U4]at h2
    split at h2<;>cases h2
  have ha:vs[i]? =some v:=by
   unfold start at h2
   rw[Uv (by simpa using hi),Xm]at h2
   cases e:vs[i]? with
   | none=>rw[e]at h2;cases h2
   | some a=>rw[e]at h2;cases h2;rfl
  obtain⟨u,hu,rv⟩:=r.get ha
  have hp:ps[i]? =some y:=by
   rw[←S.pre,List.getElem?_take_of_lt (by omega)];exact h1
  have ndP:ps.Nodup:=by rw[←S.pre];exact S.nd.sublist (List.take_sublist _ _)
  refine⟨u,rv,?_⟩
  rcases S.par y (QW hp)with k|k
  ·exact .inl ⟨k,Zh8 ndP hp hu k⟩
  ·obtain⟨c,e⟩:=Zk6 (n:=s.heap.objs.size+1) k
   refine .inr ⟨.inl k,c,e,?_⟩
   have q:=x.cell y c e
   rw[Zh9 ndP hp hu (by show scope.names.lookup y≠_;rw[k];decide)]at q
   exact q
 ·exact e0.hok.fresh (Bo (x.above y c (JQ h)))
 ·unfold start
  show _=N.length
  rw[Xo,Xg,JF]
  omega
theorem Zx7{CX:CXT}{P:X4}{w:Qv}{K:Xb}{mg:Str->Option Xc}{base:Heap}{k:Nat}{f:Addr}{name qual:Str}{params:Arguments}{body:List Stmt}{scope:Us}{dV kV doc pm cdv ct oc:Xc}{an od:Option Addr}
  {osl:Array (Option Xc)} {N ps:List Str} {sp:Sp} (lk:K.lookup f=some ⟨oc,od,.func (Qh name qual params body scope dV kV doc pm an cdv ct),osl⟩) (hcd:Ql K cdv qual=true) (S:Z0 N ps scope)
  (len:∀vs H Q E,sp vs H Q E->vs.length=ps.length)
  (hbody:∀(A:Qt) (outer:List Env) (s:Xf) (H:Hp) (vs:List V) (Q:VK) (E:XK),Room k (A.deeper (UJ qual scope s.heap.objs.size f cdv))->sp vs H Q E ->
   ∃t,PSs (Zqp CX P w K mg base N qual scope f cdv A outer s H E) body t∧t { nx:=λ_ H'=>Q .non H',rt:=Q } (start N vs) H) :
  FnOk P w K mg base CX (k+1) f (Qh name qual params body scope dV kV doc pm an cdv ct) ps sp:=by
 refine⟨len,λA outer s H args us vs Q E hr e0 hb r hsp=>?_⟩
 have hl:=len _ _ _ _ hsp
 have KX:K.In s.heap:=e0.mod.kin.keeps λb o e=>(e0.bs b o e).1
 have lim:s.heap.NoLimit:=e0.mod.nolimit.keeps λb o e=>(e0.bs b o e).1
 have hkind:∀y∈ps.zip us,scope.names.lookup y.1=some .local∨(scope.names.lookup y.1=some .cell∧((JV (s.heap.objs.size+1) scope.names []).lookup y.1).isSome=true):=λ⟨n,v⟩ hy=>by
  rcases S.par n (List.of_mem_zip hy).1 with q|q
  ·exact .inl q
  ·exact .inr ⟨q,PySem.W.cellsFrom_some _ _ _ (.inl q)⟩
 refine codeAny_call_function hr.depth (KX _ _ lk) rfl S.co S.gen rfl (PySem.W.codeRec_of KX hcd) (hb _ _ _ _ ?_)
 refine wpAny_newFunctionEnv_cells S.kind hkind λenv he s1 x=>?_
 subst he
 refine⟨lim.keeps x.toInCall.keep,codeAny_func ?_⟩
 obtain⟨t,ht,hq⟩:=hbody A outer s H vs Q E (hr.deeper _) hsp
 have I:Inv (Zqp CX P w K mg base N qual scope f cdv A outer s H E) [] (start N vs) H s1:=Zoh S hr.hd e0 hl r x
 refine Qs (ht [] s1 (start N vs) H _ I hq) (λfl s' hs=>?_) λe s' hs=>hs
 have fin:∀{σ':St} {H':Hp} {v:V} {u:Xc},Inv (Zqp CX P w K mg base N qual scope f cdv A outer s H E) [] σ' H' s'->RelV v u->Q v H'->CE outer P w H s Q u s' :=
  fun{σ' H' v u} J rv q=>⟨v,H',J.os,J.bare,J.base,J.hok,rv,q⟩
 cases fl with
 | ret u=>
  obtain⟨v,σ',H',J,rv,q⟩:=hs
  exact fin J rv q
 | next=>
  obtain⟨σ',H',J,q⟩:=hs
  exact fin (v:=V.non) (u:=Be) J rfl q
 | brk=>
  obtain⟨_,_,_,q⟩:=hs
  exact Br q
 | cont=>
  obtain⟨_,_,_,q⟩:=hs
  exact Br q
section
variable {X:Cx}{x:Str}{p pos:Pos}{e:Expr}{es:List Expr}{t:TA}{id T:String}{r:List V->Hp->VK->Prop}
noncomputable def tCB(r:List V->Hp->VK->Prop)(t:TA):TE:=λσ H Q=>t σ H λvs H1=>r vs H1 Q
theorem Zhe(hc:Zc1 X (.builtin id) r)(hg:Gl X x)(hm:X.mg x=none)(hv:Qp x=some (.builtin id))(ha:PA X (e :: es) t)(hn:x≠"__name__" :=by decide)(hdb:(x==("__debug__" : Str))=false:=by decide)
  (he:Xj (e :: es) X.env=(false,eval e X.env) :: Xj es X.env:=by rfl) (hpl:(Q6 pos (Xj es X.env)).any (·.1)=false:=by rfl):PE X (.Call (.Name x p) (e :: es) [] pos) (tCB r t):=by
 intro pins s σ H Q I h
 refine Bb (Zc4 I hg hm hv ?_ hn hdb)
 refine PyProof.Rows.callWith_builtin1 (thn (ha pos pins s σ H _ I h) λus s1 qz9=>?_) he hpl
 obtain⟨vs,H1,I1,r1,q1⟩:=qz9
 exact hc pins s1 σ H1 vs us Q I1 r1 q1
theorem Zib(hc:Zc1 X (.type T) r)(hg:Gl X x)(hm:X.mg x=none)(hv:Qp x=some (.type T))(ha:PA X (e :: es) t)(hn:x≠"__name__" :=by decide)(hdb:(x==("__debug__" : Str))=false:=by decide)
  (he:Xj (e :: es) X.env=(false,eval e X.env) :: Xj es X.env:=by rfl) (hpl:(Q6 pos (Xj es X.env)).any (·.1)=false:=by rfl):PE X (.Call (.Name x p) (e :: es) [] pos) (tCB r t):=by
 intro pins s σ H Q I h
 refine Bb (Zc4 I hg hm hv ?_ hn hdb)
 refine JD (thn (ha pos pins s σ H _ I h) λus s1 qz9=>?_) he hpl
 obtain⟨vs,H1,I1,r1,q1⟩:=qz9
 exact hc pins s1 σ H1 vs us Q I1 r1 q1
end
end L2
namespace HT
open PySem PyProof.Rows
section
open PySem.SeqAt
open PySem.AutoSeq1 (wpAny_loadPart')
open PySem.MeetsSeq PySem.MeetsSeq2 PySem.MeetsSeq3
end
section
variable {prog:X4}{w:Qv}{A:Qt}{E:Xc->Xf->Prop}{s:Xf}
noncomputable def sIx(n d:Nat):Option Int->Nat
 | none=>d
 | some v=>if v<0 then(v+(n:Int)).toNat else min v.toNat n
theorem sIx_none(n d:Nat):sIx n d none=d:=rfl
theorem sIx_nat(n d k:Nat):sIx n d (some (k:Int))=min k n:=by
 show(if(k:Int)<0 then((k:Int)+(n:Int)).toNat else min (k:Int).toNat n)=min k n
 rw[if_neg (by omega),VH]
end
end HT
namespace L2
open PySem PySem.Spec PyProof.Rows
noncomputable abbrev TO:=St->Hp->(Option Int->Hp->Prop)->Prop
noncomputable def PO(X:Cx)(e:Option Expr)(t:TO):Prop :=
 ∀(pins:List (Addr×Obj)) (s:Xf) (σ:St) (H:Hp) (Q:Option Int->Hp->Prop),Inv X pins σ H s->t σ H Q ->
  XC (X8 X.prog X.w) X.A (evalPart e X.env) (λu s'=>∃o H',Inv X pins σ H' s'∧IsPart u o∧Q o H') X.xe s
noncomputable def Zwx:TO:=λ_ H Q=>Q none H
noncomputable def Z4z(t:TE):TO:=λσ H Q=>t σ H λx H1=>∃i,x= .int i∧Q (some i) H1
section
variable {X:Cx}{e:Expr}{te:TE}{lo hi:Option Expr}{tl th:TO}{pos p2:Pos}
theorem Zua:PO X none Zwx:=by
 intro pins s σ H Q I h
 rw[evalPart_none]
 exact XH ⟨none,H,I,.none,h⟩
theorem Zxa(h:PE X e te):PO X (some e) (Z4z te):=by
 intro pins s σ H Q I hw
 rw[evalPart_some]
 refine thn (h pins s σ H _ I hw) λu s1 qz9=>?_
 obtain⟨x,H1,I1,r1,q1⟩:=qz9
 obtain⟨i,rfl,q⟩:=q1
 obtain⟨t,rfl⟩:=r1
 exact⟨some i,H1,I1,.int i t,q⟩
noncomputable def SlR(X:Cx)(r:V->Option Int->Option Int->Hp->VK->Prop):Prop :=
 ∀(pins:List (Addr×Obj)) (s:Xf) (σ:St) (H:Hp) (x:V) (v vl vu:Xc) (lo hi:Option Int) (sl:Addr) (Q:VK),Inv X pins σ H s->RelV x v->s.heap.IsSliceOf sl vl vu .none->IsPart vl lo->IsPart vu hi->r x lo hi H Q ->
  ∃T id,typeLookup (.type T) "__getitem__"=pure (some (.builtin id))∧s.TypeIs v T∧XC (X8 X.prog X.w) X.A (getItem v (.ref sl)) (EP X pins σ Q) X.xe s
noncomputable def tSl(r:V->Option Int->Option Int->Hp->VK->Prop)(te:TE)(tl th:TO):TE:=λσ H Q=>te σ H λx H1=>tl σ H1 λl H2=>th σ H2 λu H3=>r x l u H3 Q
theorem Zkh{r:V->Option Int->Option Int->Hp->VK->Prop}(hr:SlR X r)(he:PE X e te)(hl:PO X lo tl)(hu:PO X hi th):PE X (.Subscript e (.Slice lo hi none p2) pos) (tSl r te tl th):=by
 intro pins s σ H Q I h
 refine Subscript_ (thn (he pins s σ H _ I h) λv s1 qz9=>?_)
 obtain⟨x,H1,I1,r1,q1⟩:=qz9
 refine wpAny_Slice (thn (hl pins s1 σ H1 _ I1 q1) λvl s2 qz9=>?_)
 obtain⟨l,H2,I2,pl,q2⟩:=qz9
 refine thn (hu pins s2 σ H2 _ I2 q2) λvu s3 qz9=>?_
 obtain⟨u,H3,I3,pu,q3⟩:=qz9
 rw[evalPart_none]
 refine XH ?_
 have I4:Inv X pins σ H3 { s3 with heap:=s3.heap.push { cls:=.type "slice",data:=.fields #[vl,vu,.none] } }:=I3.kept (t':=s3.toks) λb ob q=>Xh _ q
 obtain⟨T,id,hT,ht,hg⟩:=hr pins { s3 with heap:=s3.heap.push { cls:=.type "slice",data:=.fields #[vl,vu,.none] } } σ H3 x v vl vu l u s3.heap.objs.size Q I4 r1 (Heap.IsSliceOf.new ..) pl pu q3
 show XC (X8 X.prog X.w) X.A (subscriptTail e (.Slice lo hi none p2) v (.ref s3.heap.objs.size)) (EP X pins σ Q) X.xe { s3 with heap:=s3.heap.push { cls:=.type "slice",data:=.fields #[vl,vu,.none] } }
 exact tail_any (ops:=[.ref s3.heap.objs.size,v]) ht hT hg (by with_unfolding_all rfl)
noncomputable def Zxz(xs:List V)(lo hi:Option Int):List V:=(xs.drop (HT.sIx xs.length 0 lo)).take (HT.sIx xs.length xs.length hi-HT.sIx xs.length 0 lo)
theorem Zjz(xs:List V)(lo hi:Option Int):(Zxz xs lo hi).length≤xs.length:=by
 unfold Zxz
 rw[Bp,Bq]
 omega
end
noncomputable def ixN(n:Nat)(i:Int):Option Nat:=if 0≤i then(if i<n then some i.toNat else none)else if -(n:Int)≤i then some (i+n).toNat else none
noncomputable def atI{α:Type}(xs:List α)(i:Int):Option α:=(ixN xs.length i).bind λj=>xs[j]?
theorem Zt3{n:Nat}{i:Int}{j:Nat}(h:ixN n i=some j):seqIndex? i n=some j∧j<n∧-(n:Int)≤i∧i<n:=by
 unfold ixN at h
 by_cases h0:0≤i
 ·rw[if_pos h0]at h
  by_cases h1:i<n
  ·rw[if_pos h1]at h
   have e:i.toNat=j:=Qz h
   exact⟨by rw[seqIndex_of h0 h1,e],by omega,by omega,h1⟩
  ·rw[if_neg h1]at h;cases h
 ·rw[if_neg h0]at h
  by_cases h1:-(n:Int)≤i
  ·rw[if_pos h1]at h
   have e:(i+n).toNat=j:=Qz h
   exact⟨by rw[seqIndex_neg (by omega) h1,e],by omega,h1,by omega⟩
  ·rw[if_neg h1]at h;cases h
theorem Zjr{α:Type}{xs:List α}{i:Int}{v:α}(h:atI xs i=some v):∃j,seqIndex? i xs.length=some j∧xs[j]? =some v∧j<xs.length∧-(xs.length:Int)≤i∧i<xs.length:=by
 unfold atI at h
 cases e:ixN xs.length i with
 | none=>rw[e]at h;cases h
 | some j=>
  rw[e]at h
  obtain⟨h1,h2,h3,h4⟩:=Zt3 e
  exact⟨j,h1,h,h2,h3,h4⟩
theorem Zdm{α:Type}{xs:List α}{j:Nat}{v:α}(h:xs[j]? =some v):atI xs (j:Int)=some v:=by
 have hj:j<xs.length:=(Xv.mp h).1
 have e:ixN xs.length (j:Int)=some j:=by
  unfold ixN
  rw[if_pos (by omega),if_pos (by omega)];simp
 unfold atI;rw[e];exact h
noncomputable def Zgy(b:Expr):Prop:=∀o i,subscripted b false o i=operate [o,i] (getItem o i)
noncomputable def IxR(X:Cx)(r:R2):Prop :=
 ∀(value slice:Expr) (pins:List (Addr×Obj)) (s:Xf) (σ:St) (H:Hp) (x y:V) (v u:Xc) (Q:VK),Inv X pins σ H s->RelV x v->RelV y u->r x y H Q ->
  subscripted slice false v u=operate [v,u] (getItem v u)->XC (X8 X.prog X.w) X.A (subscriptTail value slice v u) (EP X pins σ Q) X.xe s
noncomputable def MtR(X:Cx)(id:String)(r:V->List V->Hp->VK->Prop):Prop :=
 ∀(pins:List (Addr×Obj)) (s:Xf) (σ:St) (H:Hp) (x:V) (xs:List V) (v:Xc) (us:List Xc) (Q:VK),Inv X pins σ H s->RelV x v->Vals xs us->r x xs H Q ->
  XC (X8 X.prog X.w) X.A (call (.builtin id) (v :: us)) (EP X pins σ Q) X.xe s
section
variable {X:Cx}{a b:Expr}{ta tb:TE}{pos:Pos}
theorem IxR.or{r r':R2}(h:IxR X r)(h':IxR X r'):IxR X (λx y H Q=>r x y H Q∨r' x y H Q):=by
 intro value slice pins s σ H x y v u Q I rx ry q hs
 rcases q with q|q
 ·exact h value slice pins s σ H x y v u Q I rx ry q hs
 ·exact h' value slice pins s σ H x y v u Q I rx ry q hs
theorem Zyp{r:R2}(hr:IxR X r)(ha:PE X a ta)(hb:PE X b tb)(hs:Zgy b):PE X (.Subscript a b pos) (tOp r ta tb):=by
 intro pins s σ H Q I h
 exact Subscript_ (Z39 ha hb I h λv u s2 x y H2 I2 rx ry q=>hr a b pins s2 σ H2 x y v u Q I2 rx ry q (hs _ _))
noncomputable def Z5q(K:Xb):R2:=λx y H Q=>∃p xs i v,x= .ref p∧y= .int i∧SqL K H p xs∧atI xs i=some v∧Q v H
noncomputable def Z80(K:Xb):R2:=λx y H Q=>∃p xs i v,x= .ref p∧y= .int i∧SqT K H p xs∧atI xs i=some v∧Q v H
noncomputable def Z8q:R2:=λx y H Q=>∃z i c,x= .str z∧y= .int i∧z.length≤Xi∧atI z.cps.toList i=some c∧Q (.str ⟨#[c]⟩) H
theorem Zpc:IxR X (Z5q X.K):=by
 intro value slice pins s σ H x y v u Q I rx ry h hs
 obtain⟨p,xs,i,z,rfl,rfl,hq,he,q⟩:=h
 cases rx
 obtain⟨t,rfl⟩:=ry
 obtain⟨its,r,pl,hz⟩:=I.list hq
 obtain⟨j,h1,h2,h3,h4,h5⟩:=Zjr he
 obtain⟨w,ew,rw'⟩:=r.get h2
 have hl:=r.length
 have hn:=Zgt
 have fin:EP X pins σ Q w s:=⟨z,H,I,rw',q⟩
 by_cases h0:0≤i
 ·have hj:i.toNat=j:=by
   rw[seqIndex_of h0 h5]at h1
   exact Qz h1
  exact item_listR pl.isList h0 (by omega) (by rw[hj];simpa using ew) fin hs
 ·have hj:(i+(its.toArray.size:Int)).toNat=j:=by
   rw[seqIndex_neg (by omega) h4]at h1
   rw[Xr,←hl]
   exact Qz h1
  exact subscriptTail_builtinR (x:=w) pl.isList.typeIs slot_list_getitem.lookup
   (wpAny_getItem_list_neg (Q:=λr s'=>r=w∧EP X pins σ Q r s') pl.isList (by omega) (by rw[Xr]<;>omega) (by omega) (by rw[hj];simpa using ew) ⟨rfl,fin⟩) hs
theorem Z07:IxR X (Z80 X.K):=by
 intro value slice pins s σ H x y v u Q I rx ry h hs
 obtain⟨p,xs,i,z,rfl,rfl,hq,he,q⟩:=h
 cases rx
 obtain⟨t,rfl⟩:=ry
 obtain⟨its,r,pl,hz⟩:=I.tuple hq
 obtain⟨j,h1,h2,h3,h4,h5⟩:=Zjr he
 obtain⟨w,ew,rw'⟩:=r.get h2
 have hl:=r.length
 have hn:=Zgt
 have fin:EP X pins σ Q w s:=⟨z,H,I,rw',q⟩
 exact subscriptTail_builtinR (x:=w) pl.typeIs slot_tuple_getitem.lookup
  (getItem_tuple (j:=j) (Q:=λr s'=>r=w∧EP X pins σ Q r s') pl (by omega) (by omega) (by rw[Xr,←hl];exact h1) (by simpa using ew) ⟨rfl,fin⟩) hs
theorem Z2j:IxR X Z8q:=by
 intro value slice pins s σ H x y v u Q I rx ry h hs
 obtain⟨z,i,c,rfl,rfl,hz,he,q⟩:=h
 obtain⟨t,rfl⟩:=rx
 obtain⟨t',rfl⟩:=ry
 obtain⟨j,h1,h2,h3,h4,h5⟩:=Zjr he
 have hl:z.cps.toList.length=z.length:=by simp[Str.length]
 rw[hl]at h1 h4 h5
 have hn:=Zgt
 exact tail_any (typeIs_str s z t) slot_str_getitem.lookup (getItem_str (c:=c) (by
  have e1:decide (i< -(2^63:Int))=false:=decide_eq_false (by omega)
  have e2:decide (i≥2^63)=false:=decide_eq_false (by omega)
  rw[e1,e2,Bool.or_false]) (by rw[h1];simpa using h2) ⟨.str ⟨#[c]⟩,H,I.tok _,⟨_,rfl⟩,q⟩) hs
noncomputable def rIx(K:Xb):R2:=λx y H Q=>Z5q K x y H Q∨Z80 K x y H Q∨Z8q x y H Q
theorem Z2p:IxR X (rIx X.K):=Zpc.or (Z07.or Z2j)
theorem Inv.lst{pins:List (Addr×Obj)}{σ:St}{H:Hp}{s:Xf}{p:Addr}{xs:List V}(I:Inv X pins σ H s)(h:H p=some (.lst xs)) :
  ∃(its:List Xc) (n:Nat),Vals xs its∧s.heap.get? p=some { cls:=.type "list",data:=.seq its.toArray n }∧xs.length≤Xi:=by
 obtain⟨z,its,n,r,e⟩:=I.hok p _ h
 exact⟨its,n,r,e,z⟩
theorem Zic(lo hi:Option Int)(n:Nat):(V9 lo hi none n).1=((HT.sIx n 0 lo:Nat):Int)∧(V9 lo hi none n).2.1=((HT.sIx n n hi:Nat):Int)∧(V9 lo hi none n).2.2=1:=by
 refine⟨?_,?_,rfl⟩
 ·cases lo with
  | none=>simp[V9,HT.sIx]
  | some i=>
   simp only[V9,HT.sIx,Option.getD_none,show(1:Int)>0 by decide,if_true]
   by_cases h:i<0
   ·simp only[h,if_true]<;>omega
   ·simp only[h,if_false]<;>omega
 ·cases hi with
  | none=>simp[V9,HT.sIx]
  | some i=>
   simp only[V9,HT.sIx,Option.getD_none,show(1:Int)>0 by decide,if_true]
   by_cases h:i<0
   ·simp only[h,if_true]<;>omega
   ·simp only[h,if_false]<;>omega
theorem Zg2(its:List Xc)(lo hi:Option Int):slicePick its.toArray lo hi none=((its.drop (HT.sIx its.length 0 lo)).take (HT.sIx its.length its.length hi-HT.sIx its.length 0 lo)).toArray:=by
 obtain⟨h1,h2,h3⟩:=Zic lo hi its.toArray.size
 unfold slicePick
 rw[h1,h2,h3]
 simp only[sliceRange_one,pick_run,Xr]<;>rfl
noncomputable def Z87(K:Xb):V->Option Int->Option Int->Hp->VK->Prop:=λx lo hi H Q=>∃a xs,x= .ref a∧SqL K H a xs∧∀p,H p=none->Q (.ref p) (upd H p (.lst (Zxz xs lo hi)))
theorem Zuh:SlR X (Z87 X.K):=by
 intro pins s σ H x v vl vu lo hi sl Q I rx hs pl pu h
 obtain⟨a,xs,rfl,hx,q⟩:=h
 cases rx
 obtain⟨its,r,ht,hz⟩:=I.list hx
 have hlen:=r.length
 refine⟨"list",_,slot_list_getitem.lookup,ht.isList.typeIs,?_⟩
 refine wpAny_getItem_list_slice ht.isList hs pl pu .none (by simp) ?_ (by rw[Xr]<;>omega)
 rw[Zg2,←hlen]
 refine⟨.ref s.heap.objs.size,_,I.laid (t':=s.toks) (o:=.lst (Zxz xs lo hi)) (λb ob q=>Xh _ q) (XQ _) ?_,rfl,q _ (I.hok.fresh (XQ _))⟩
 exact⟨Xu (Zjz xs lo hi) hz,_,0,(r.drop (HT.sIx xs.length 0 lo)).take (HT.sIx xs.length xs.length hi-HT.sIx xs.length 0 lo),Xy _ rfl⟩
noncomputable def Zfm:V->Bool
 | .non=>true
 | .bl _=>true
 | .int _=>true
 | .str _=>true
 | _=>false
noncomputable def eqV:V->V->Bool
 | .non,.non=>true
 | .bl a,.bl b=>a==b
 | .bl a,.int b=>(if a then 1 else 0)==b
 | .int a,.bl b=>a==(if b then 1 else 0)
 | .int a,.int b=>a==b
 | .str a,.str b=>a==b
 | _,_=>false
theorem Zyf{A:Qt}{s:Xf}{y x:V}{u v:Xc}(ry:RelV y u)(rx:RelV x v)(fy:Zfm y=true)(fx:Zfm x=true):JN A s u v (eqV y x):=by
 cases y with
 | non=>
  cases ry
  cases x with
  | non=>cases rx;exact JN.same _
  | bl b=>cases rx;exact JN.none_bool b
  | int b=>obtain⟨t,rfl⟩:=rx;exact JN.none_int b t
  | str b=>obtain⟨t,rfl⟩:=rx;exact JN.none_str b t
  | _=>exact absurd (show false=true from fx) Xq
 | bl a=>
  cases ry
  cases x with
  | non=>cases rx;exact JN.bool_none a
  | bl b=>cases rx;exact JN.bool_bool a b
  | int b=>obtain⟨t,rfl⟩:=rx;exact JN.bool_int a b t
  | str b=>obtain⟨t,rfl⟩:=rx;exact JN.bool_str a b t
  | _=>exact absurd (show false=true from fx) Xq
 | int a=>
  obtain⟨t',rfl⟩:=ry
  cases x with
  | non=>cases rx;exact JN.int_none a t'
  | bl b=>cases rx;exact JN.int_bool a t' b
  | int b=>obtain⟨t,rfl⟩:=rx;exact JN.int_int a t' b t
  | str b=>obtain⟨t,rfl⟩:=rx;exact SeqAt.EqAt.int_str a t' b t
  | _=>exact absurd (show false=true from fx) Xq
 | str a=>
  obtain⟨t',rfl⟩:=ry
  cases x with
  | non=>cases rx;exact JN.str_none a t'
  | bl b=>cases rx;exact JN.str_bool a t' b
  | int b=>obtain⟨t,rfl⟩:=rx;exact SeqAt.EqAt.str_int a t' b t
  | str b=>obtain⟨t,rfl⟩:=rx;exact JN.str_str a t' b t
  | _=>exact absurd (show false=true from fx) Xq
 | _=>exact absurd (show false=true from fy) Xq
noncomputable def eqU(x:V)(u:Xc):Bool:=match u with
 | .none=>eqV .non x
 | .bool b=>eqV (.bl b) x
 | .int i _=>eqV (.int i) x
 | .str z _=>eqV (.str z) x
 | _=>false
theorem Ztb{x y:V}{u:Xc}(r:RelV y u)(f:Zfm y=true):eqU x u=eqV y x:=by
 cases y with
 | non=>cases r;rfl
 | bl b=>cases r;rfl
 | int i=>obtain⟨t,rfl⟩:=r;rfl
 | str z=>obtain⟨t,rfl⟩:=r;rfl
 | _=>exact absurd (show false=true from f) Xq
theorem Zh2{x:V}{xs:List V}{us:List Xc}(h:Vals xs us)(f:xs.all Zfm=true):us.any (eqU x)=xs.any λy=>eqV y x:=by
 induction h with
 | nil=>rfl
 | cons r t ih=>
  rw[UG,Xz]at f
  rw[Vr,Vr,Ztb r f.1,ih f.2]
theorem Zej{A:Qt}{s:Xf}{x:V}{v:Xc}(rx:RelV x v)(fx:Zfm x=true){xs:List V}{us:List Xc}(h:Vals xs us)(f:xs.all Zfm=true):∀u∈us,JN A s u v (eqU x u):=by
 induction h with
 | nil=>intro u hu;cases hu
 | cons r t ih=>
  intro u' hu
  rw[UG,Xz]at f
  rcases Xn.mp hu with rfl|hu
  ·rw[Ztb r f.1];exact Zyf r rx f.1 fx
  ·exact ih f.2 u' hu
noncomputable def inV(x:V)(xs:List V):Bool:=xs.any λy=>eqV y x
noncomputable def rIn(K:Xb)(neg:Bool):R2:=λx y H Q=>∃p xs,y= .ref p∧(SqL K H p xs∨SqT K H p xs)∧Zfm x=true∧xs.all Zfm=true∧Q (.bl (if neg then !inV x xs else inV x xs)) H
theorem Zo1:OpR X (QL .In) (rIn X.K false):=by
 intro pins s σ H x y v u Q I rx ry h
 obtain⟨p,xs,rfl,hq,fx,fs,q⟩:=h
 cases ry
 rcases hq with hq|hq
 ·obtain⟨its,r,pl,hz⟩:=I.list hq
  refine SeqAt.in_listAt (eqU x) pl.isList (λw hw=>Zej rx fx r fs w (by simpa using hw)) ⟨.bl _,H,I,rfl,?_⟩
  rw[show its.toArray.any (eqU x)=its.any (eqU x) by simp,Zh2 r fs]
  exact q
 ·obtain⟨its,r,pl,hz⟩:=I.tuple hq
  refine SeqAt.in_tupleAt (eqU x) pl (λw hw=>Zej rx fx r fs w (by simpa using hw)) ⟨.bl _,H,I,rfl,?_⟩
  rw[show its.toArray.any (eqU x)=its.any (eqU x) by simp,Zh2 r fs]
  exact q
theorem Zia:OpR X (QL .NotIn) (rIn X.K true):=by
 intro pins s σ H x y v u Q I rx ry h
 obtain⟨p,xs,rfl,hq,fx,fs,q⟩:=h
 cases ry
 rcases hq with hq|hq
 ·obtain⟨its,r,pl,hz⟩:=I.list hq
  refine SeqAt.notIn_listAt (eqU x) pl.isList (λw hw=>Zej rx fx r fs w (by simpa using hw)) ⟨.bl _,H,I,rfl,?_⟩
  rw[show its.toArray.any (eqU x)=its.any (eqU x) by simp,Zh2 r fs]
  exact q
 ·obtain⟨its,r,pl,hz⟩:=I.tuple hq
  refine SeqAt.notIn_tupleAt (eqU x) pl (λw hw=>Zej rx fx r fs w (by simpa using hw)) ⟨.bl _,H,I,rfl,?_⟩
  rw[show its.toArray.any (eqU x)=its.any (eqU x) by simp,Zh2 r fs]
  exact q
theorem Ziw:Zc1 X (.builtin "len") (λxs H Q=>∃p ys,xs=[.ref p]∧(SqL X.K H p ys∨SqT X.K H p ys)∧Q (.int ys.length) H):=by
 intro pins s σ H xs us Q I r h
 obtain⟨p,ys,rfl,hq,q⟩:=h
 obtain⟨u,rfl,rx⟩:=vals1 r
 cases rx
 have hn:=Zgt
 rcases hq with hq|hq
 ·obtain⟨its,r',pl,hz⟩:=I.list hq
  have hlen:=r'.length
  exact Calls.call_len_list pl.isList (by simp only[Xr]<;>omega) ⟨.int ys.length,H,I.tok _,⟨s.toks+1,by rw[Xr,hlen]⟩,q⟩
 ·obtain⟨its,r',pl,hz⟩:=I.tuple hq
  have hlen:=r'.length
  exact len_tuple pl (by simp only[Xr]<;>omega) ⟨.int ys.length,H,I.tok _,⟨s.toks+1,by rw[Xr,hlen]⟩,q⟩
theorem Yt:Zc1 X (.builtin "len") (λxs H Q=>∃z,xs=[.str z]∧z.length≤Xi∧Q (.int z.length) H):=by
 intro pins s σ H xs us Q I r h
 obtain⟨z,rfl,hz,q⟩:=h
 obtain⟨u,rfl,t,rfl⟩:=vals1 r
 have hn:=Zgt
 exact len_str (by omega) ⟨.int z.length,H,I.tok _,⟨_,rfl⟩,q⟩
theorem Zie:Zc1 X (.type "list") (λxs H Q=>∃p ys,xs=[.ref p]∧(SqL X.K H p ys∨SqT X.K H p ys)∧∀l,H l=none->Q (.ref l) (upd H l (.lst ys))):=by
 intro pins s σ H xs us Q I r h
 obtain⟨p,ys,rfl,hq,q⟩:=h
 obtain⟨u,rfl,rx⟩:=vals1 r
 cases rx
 have fin:∀(its:List Xc),Vals ys its->ys.length≤Xi->∀(h':Heap) (c':Nat),(∀b o',s.heap.get? b=some o'->h'.get? b=some o') ->
   h'.get? s.heap.objs.size=some { cls:=.type "list",dict:=none,data:=.seq its.toArray c',slots:=#[] }->EP X pins σ Q (.ref s.heap.objs.size) { s with heap:=h' }:=λits r' hz h' c' kp e=>
  ⟨.ref s.heap.objs.size,_,I.laid (t':=s.toks) kp (XQ _) (show ObjOk X.prog X.w _ h' _ (.lst ys)from⟨hz,its,c',r',e⟩),rfl,q _ (I.hok.fresh (XQ _))⟩
 rcases hq with hq|hq
 ·obtain⟨its,r',pl,hz⟩:=I.list hq
  have hlen:=r'.length
  obtain⟨o,ho,hc,n,hd⟩:=pl.isList
  exact call_list_seq p (.inl rfl) ho hc hd (λh' c' kp e=>fin its r' hz h' c' kp e) (by simp only[Xr]<;>omega)
 ·obtain⟨its,r',pl,hz⟩:=I.tuple hq
  have hlen:=r'.length
  obtain⟨o,ho,hc,n,hd⟩:=pl
  exact call_list_seq p (.inr rfl) ho hc hd (λh' c' kp e=>fin its r' hz h' c' kp e) (by simp only[Xr]<;>omega)
noncomputable def tyV(K:Xb)(T:String)(x:V)(H:Hp):Prop:=match x with
 | .str _=>T="str"
 | .int _=>T="int"
 | .ref p=>(T="list"∧∃xs,SqL K H p xs)∨(T="tuple"∧∃o,K.lookup p=some o∧o.cls= .type "tuple"∧o.dict=none)∨
   (T="dict"∧((∃kvs,H p=some (.dK kvs))∨∃kvs,H p=some (.dT kvs)))∨(T="set"∧∃S n,H p=some (.set S n))
 | _=>False
theorem Z2v{pins:List (Addr×Obj)}{σ:St}{H:Hp}{s:Xf}{T:String}{x:V}{v:Xc}(I:Inv X pins σ H s)(r:RelV x v)(ty:tyV X.K T x H) :
  s.TypeIs v T∧∀a,v= .ref a->∃ob,s.heap.get? a=some ob∧ob.dict=none:=by
 cases x with
 | str z=>
  obtain⟨t,rfl⟩:=r
  cases(show T="str"from ty)
  exact⟨typeIs_str s z t,λ_ e=>nomatch e⟩
 | int i=>
  obtain⟨t,rfl⟩:=r
  cases(show T="int"from ty)
  exact⟨typeIs_int s i t,λ_ e=>nomatch e⟩
 | ref p=>
  cases r
  rcases ty with⟨rfl,xs,hq⟩|⟨rfl,o,hk,hc,hd⟩|⟨rfl,hk⟩|⟨rfl,S,n,hk⟩
  ·obtain⟨its,_,pl,_⟩:=I.list hq
   refine⟨pl.isList.typeIs,λa e=>?_⟩
   cases e
   obtain⟨o,n,e,c,hd,_⟩:=pl
   exact⟨o,e,hd⟩
  ·refine⟨⟨o,I.kIn p o hk,hc⟩,λa e=>?_⟩
   cases e
   exact⟨o,I.kIn _ o hk,hd⟩
  ·have z:∃o,s.heap.get? p=some o∧o.ExactDict:=by
    rcases hk with⟨kvs,hk⟩|⟨kvs,hk⟩
    ·obtain⟨_,_,_,_,o,_,_,e,ex,_⟩:=I.hok p _ hk
     exact⟨o,e,ex⟩
    ·obtain⟨_,_,_,_,o,_,_,e,ex,_⟩:=I.hok p _ hk
     exact⟨o,e,ex⟩
   obtain⟨o,e,ex⟩:=z
   refine⟨⟨o,e,ex.1⟩,λa e2=>?_⟩
   cases e2
   exact⟨o,e,ex.2.1⟩
  ·obtain⟨o,_,_,_,e,ex,_⟩:=I.hok p _ hk
   refine⟨⟨o,e,ex.1⟩,λa e2=>?_⟩
   cases e2
   exact⟨o,e,ex.2.1⟩
 | _=>exact Br ty
noncomputable def tBM(K:Xb)(T:String)(r:V->List V->Hp->VK->Prop)(to:TE)(t:TA):TE:=λσ H Q=>to σ H λx H1=>tyV K T x H1∧t σ H1 λxs H2=>r x xs H2 Q
variable {o e:Expr}{es:List Expr}{to:TE}{t:TA}{name:Str}{apos cpos:Pos}{T id:String}{r:V->List V->Hp->VK->Prop}
theorem Zoy(pa:PlainAttrs T)(slot:Slot T name id)(hty:typeOf (.builtin id)=pure (.type "method_descriptor"))(hm:MtR X id r)(ho:PE X o to)(ha:PA X (e :: es) t)
  (hbase:Vd o name X.env (eval o X.env)=eval o X.env:=by rfl)
  (hfew:((Q6 cpos (Xj (e :: es) X.env)).all (λx=>!x.1)&&(backToKw cpos (VL [] X.env)).all (λx=>x.1.isSome)
   &&decide ((e :: es).length+([]:List Vb).length+(if([]:List Vb).isEmpty then 0 else 1)<30))=true:=by rfl)
  (hline:(apos.endLine==cpos.line)=true:=by rfl) (hs:Xj (e :: es) X.env=(false,eval e X.env) :: Xj es X.env:=by rfl) (hplain:(Q6 cpos (Xj es X.env)).any (·.1)=false:=by rfl) :
  PE X (.Call (.Attribute o name apos) (e :: es) [] cpos) (tBM X.K T r to t):=by
 intro pins s σ H Q I h
 refine wpAny_Call_method_late hbase hfew hline rfl (thn (ho pins s σ H _ I h) λv s1 qz9=>?_)
 obtain⟨x,H1,I1,r1,ty,q1⟩:=qz9
 obtain⟨h1,h2⟩:=Z2v I1 r1 ty
 refine⟨T,id,pa,slot,hty,h1,h2,?_⟩
 have hA:=ha cpos pins s1 σ H1 _ I1 q1
 rw[hs]at hA⊢
 refine Calls.callWith_builtin (by show(false||(Q6 cpos (Xj es X.env)).any (·.1))=false;rw[hplain]<;>rfl) (Calls.evalArgs_plain ?_)
 refine thn hA λus s2 qz9=>?_
 obtain⟨vs,H2,I2,r2,q2⟩:=qz9
 exact hm pins s2 σ H2 x vs v us Q I2 r1 r2 q2
end
noncomputable def MtM(X:Cx)(id:String)(r:V->List V->Hp->VK->Prop):Prop :=
 ∀(pins:List (Addr×Obj)) (s:Xf) (σ:St) (H:Hp) (x:V) (xs:List V) (v:Xc) (us:List Xc) (Q:VK),Inv X pins σ H s->RelV x v->Vals xs us->r x xs H Q ->
  XC (X8 X.prog X.w) X.A (call (.builtin id) (v :: us)) (EP X pins σ Q) X.xe s
theorem Vals.one{x:V}{us:List Xc}(h:Vals [x] us):∃u,us=[u]∧RelV x u:=by
 cases h with
 | cons r t=>cases t;exact⟨_,rfl,r⟩
theorem Vals.zero:∀{us:List Xc},Vals [] us->us=[]
 | _,.nil=>rfl
section
variable {X:Cx}{pins:List (Addr×Obj)}{σ:St}{H:Hp}{s:Xf}{l b:Addr}{xs ys zs:List V}
theorem Inv.lset{its its':List Xc}{n:Nat}{f:Array Xc->Array Xc}{t':Nat}(I:Inv X pins σ H s)(hH:H l=some (.lst xs))
  (e:s.heap.get? l=some { cls:=.type "list",data:=.seq its.toArray n }) (hf:f its.toArray=its'.toArray) (hv:Vals ys its') (hz:ys.length≤Xi) :
  Inv X pins σ (upd H l (.lst ys)) { s with heap:=s.heap.update l (Obj.mapSeq f),toks:=t' }:=by
 have q:=PySem.IsL.update e f
 rw[hf]at q
 refine I.write (x:=l) (e:=l) (by rw[hH];exact trivial) (.inl rfl) (λb' u hb hu=>(Heap.get?_update_other s.heap (Obj.mapSeq f) (Ba hb)).trans hu) ⟨_,q⟩ ?_
 exact⟨hz,its',_,hv,q⟩
theorem Inv.lnew{its:List Xc}{t':Nat}(I:Inv X pins σ H s)(hv:Vals ys its)(hz:ys.length≤Xi) :
  Inv X pins σ (upd H s.heap.objs.size (.lst ys)) { s with heap:=s.heap.push { cls:=.type "list",data:=.seq its.toArray },toks:=t' } :=
 I.laid (λ_ _ q=>Xh _ q) (XQ _) ⟨hz,its,0,hv,Xy _ rfl⟩
theorem Inv.fresh(I:Inv X pins σ H s):H s.heap.objs.size=none:=I.hok.fresh (XQ _)
theorem Inv.lstM(I:Inv X pins σ H s)(hH:H l=some (.lst xs)):xs.length≤Xi∧∃(its:List Xc) (n:Nat),Vals xs its∧xs.length=its.length∧s.heap.get? l=some { cls:=.type "list",data:=.seq its.toArray n }:=by
 obtain⟨z,its,n,r,e⟩:=I.hok l _ hH
 exact⟨z,its,n,r,r.length,e⟩
theorem Zr0{n:Nat}(h:n≤Xi):V3 n=false:=by
 unfold V3
 exact decide_eq_false (by omega)
end
section
variable {X:Cx}
noncomputable def Zwi:V->List V->Hp->VK->Prop:=λx vs H Q=>∃l xs y,x= .ref l∧vs=[y]∧H l=some (.lst xs)∧xs.length<Xi∧Q .non (upd H l (.lst (xs ++ [y])))
theorem Ze7:MtM X "list.append" Zwi:=by
 intro pins s σ H x vs v us Q I rx rv h
 obtain⟨l,xs,y,rfl,rfl,hH,hz,q⟩:=h
 cases rx
 obtain⟨u,rfl,ru⟩:=rv.one
 obtain⟨z,its,n,r,hl,e⟩:=I.lstM hH
 refine call_meets F.slot_list_append ⟨_,e,rfl⟩ F.entry_list_append (F.args_list_append_2 _ _) (PySem.list_append l its.toArray n u (by rw[Xr];omega)) ⟨e,?_⟩
 refine⟨.non,_,I.lset (its':=its ++ [u]) hH e (by simp) (r.append (.cons ru .nil)) ?_,rfl,q⟩
 rw[Xo,List.length_singleton]
 omega
noncomputable def Zxv:V->List V->Hp->VK->Prop:=λx vs H Q=>∃l b xs zs,x= .ref l∧vs=[.ref b]∧H l=some (.lst xs)∧H b=some (.lst zs)∧xs.length+zs.length≤Xi∧Q .non (upd H l (.lst (xs ++ zs)))
theorem Zn2:MtM X "list.extend" Zxv:=by
 intro pins s σ H x vs v us Q I rx rv h
 obtain⟨l,b,xs,zs,rfl,rfl,hH,hB,hz,q⟩:=h
 cases rx
 obtain⟨u,rfl,ru⟩:=rv.one
 cases ru
 obtain⟨z,its,n,r,hl,e⟩:=I.lstM hH
 obtain⟨z2,its2,n2,r2,hl2,e2⟩:=I.lstM hB
 have hsz:its.toArray.size+its2.toArray.size≤Xi:=by rw[Xr,Xr];omega
 have hlong:¬(!its.toArray.isEmpty&&V3 (its.toArray.size+its2.toArray.size))=true:=by
  rw[Zr0 hsz,Bool.and_false]
  exact Xq
 refine call_meets F.slot_list_extend ⟨_,e,rfl⟩ F.entry_list_extend (F.args_list_extend_2 _ _)
  (AutoSeq1.list_extend_list_list_0 l its.toArray n b its2.toArray n2 hlong (by rw[Xr];omega) (by omega)) ⟨e,e2,?_⟩
 refine⟨.non,_,I.lset (its':=its ++ its2) hH e (by simp) (r.append r2) ?_,rfl,q⟩
 rw[Xo]
 omega
end
section
variable {prog:X4}{w:Qv}{A:Qt}{E:Xc->Xf->Prop}{s:Xf}
end
section
variable {X:Cx}
end
end L2
namespace Att
open PySem PySem.W PySem.Calls PyProof.Rows
theorem Zfb{P:Params}{h:Heap}:∀(ns:List Int) (vs:List Xc),WellAll P h vs (ns.map WData.int)->IntsAre vs ns:=by
 intro ns
 induction ns with
 | nil=>
  intro vs w
  rw[V8]at w
  cases w
  exact .nil
 | cons n ns ih=>
  intro vs w
  rw[X6]at w
  cases w with
  | cons a b=>
   cases a
   exact .cons _ _ (ih _ b)
theorem Zno{l:OpenLaw}{n:Nat}(hn:l.most=some n){P:Params}{h:Heap}{args:List WData}{vals:List Xc}
  (hpre:l.row.toRowW.claim.pre args=true) (hwl:WellAll P h vals args) :
  ∃a vs ns,vals=[Qu a]∧args=[WData.list (ns.map WData.int)]∧h.get? a=some { cls:=.type "list",data:=.seq vs.toArray }∧IntsAre vs ns∧ns.length≤n:=by
 have hsh:WShape.hasAll [] args [.list .int]=true:=(pre_splitW hpre).1
 have hc:l.pre.holds [] { args:=args }=true:=(pre_splitW hpre).2
 obtain⟨d,r,rfl,h1,h2⟩:=hasAllW_cons hsh
 obtain rfl:=hasAllW_nil h2
 obtain⟨xs,rfl,h3⟩:=hasW_list h1
 obtain⟨ns,rfl⟩:=items_int h3
 have hlen:ns.length≤n:=by
  unfold OpenLaw.pre at hc
  have h4:(WTm.not (.lt (.lit (.int (n:Int))) (.len (.arg 0)))).holds [] { args:=[.list (ns.map .int)] }=true:=by
   have h4:=(holds_andW hc).1
   rw[hn]at h4
   exact h4
  have h5:=condW_of h4 (w_not (w_lt w_lit (w_len_list (w_arg rfl))))
  rw[Xg]at h5
  refine Nat.le_of_not_lt λq=>?_
  have q':(n:Int)<((ns.length:Nat):Int):=by omega
  first
   | (rw[decide_eq_true q']at h5;exact absurd h5 (by decide))
   | (simp at h5;omega)
 cases hwl with
 | cons w1 w2=>
  cases w2
  cases w1 with
  | list ho hall=>exact⟨_,_,ns,rfl,rfl,ho,Zfb ns _ hall,hlen⟩
theorem Zoi(l:OpenLaw)(args:List WData):l.row.toRowW.claim.post args (.bool true) args=true :=
 postW_of (r:=l.row.toRowW) (X:=(true==true))
  (show WShape.has [] (.bool true) .bool=true by first|rfl|decide|simp[WShape.has,WShape.arms,WShape.armsAll])
  (show(WTm.eq .res (.lit (.bool true))).value [] { args:=args,res:=some (.bool true),after:=args }=some (.bool (true==true))from w_eq_bool (w_res rfl) w_lit) rfl
theorem attach_call{l:OpenLaw}{n:Nat}{q:X4}{loose:List Str}{XP:(Str->Option Xc)->Heap->Prop}{YP:Qv->Heap->Prop}{d:DefRec}
  (hn:l.most=some n) (hdf:d.params.defaults=[])
  (call:∀(w:Qv) (s₀ s₁:Xf) (mg mb:Str->Option Xc) (fa:Addr) (o:Obj) (pm cd doc:Xc) (a:Addr) (vs:List Xc) (ns:List Int),
   Ground q loose [] XP w s₀ mg mb s₁.heap->YP w s₁.heap ->
   s₁.heap.get? fa=some o->o.data= .func (docDef d.name d.params d.body d.scope pm cd doc)->s₁.heap.CodeRec cd d.name->mg d.name=some (.ref fa) ->
   s₁.heap.get? a=some { cls:=.type "list",data:=.seq vs.toArray }->IntsAre vs ns->ns.length≤n->s₁.gens=#[] ->
   U8 (X8 l.prog w) callerA (.call (.ref fa) ⟨[.ref a],[]⟩) (λr s'=>r= .ok (.ret (.bool true))∧OldK s₁.heap s'.heap∧s'.os=s₁.os∧AllBare s'.gens) s₁) :
  WalkO q loose XP YP l.row.toRowW d [] (λf vs=>PySem.call f vs):=by
 intro w s₀ s₁ mg mb G Y fa o pm cd doc dV kV ho hd hcd hD hmg hg args vals as hpre hlay hrd hwl hlo
 obtain rfl:dV= .none:=Dflts.none hD hdf
 obtain rfl:kV= .none:=Dflts.noKw hD
 obtain⟨a,vs,ns,rfl,rfl,hobj,hints,hlen⟩:=Zno hn hpre hwl
 refine enter_call (Uw (call w s₀ s₁ mg mb fa o pm cd doc a vs ns G Y ho (fd_plain hd) hcd hmg hobj hints hlen hg) λr s' hq=>?_)
 obtain⟨rfl,h2,h3,h4⟩:=hq
 exact⟨.inl ⟨.bool true,.bool true,[],rfl,λ_=>rfl,.bool true,Zoi l _,λ_=>⟨List.Pairwise.nil,λ_ hm=>(nomatch hm)⟩⟩,h2,h3,h4⟩
section
variable {prog:X4}{w:Qv}{A:Qt}{E:Xc->Xf->Prop}{s:Xf}{K:Frag}
end
end Att
namespace L2
open PySem PySem.Spec PyProof.Rows
theorem Zql{vs:List Xc}{ns:List Int}(h:IntsAre vs ns):Vals (ns.map V.int) vs:=by
 induction h with
 | nil=>exact .nil
 | cons n t h ih=>exact .cons ⟨t,rfl⟩ ih
noncomputable def Only(H:Hp):Prop:=∀b,H b=none∨∃o xs,H b=some (.frz o (.lst xs))
theorem Zsg{P:X4}{w:Qv}{K:Xb}{mg mb:Str->Option Xc}{CX:CXT}{k:Nat}{fa a:Addr}{fd:Qc}{x:Str}{sp:Sp}{s₁:Xf}{vs:List Xc}{ns:List Int}
  (KX:K.In s₁.heap) (hns:s₁.heap.Ns Xx mg) (hb:s₁.heap.Ns builtinsNs mb) (hbb:∀x:Str,x≠"__name__" ->mb x=Qp x) (hlim:s₁.heap.NoLimit) (hg:s₁.gens=#[])
  (ha:s₁.heap.get? a=some { cls:=.type "list",data:=.seq vs.toArray }) (hi:IntsAre vs ns) (hl:ns.length≤Xi) (hr:Room k callerA)
  (F:∀base:Heap,K.In base->base.Ns Xx mg->FnOk P w K mg base CX k fa fd [x] sp) (hbind:∀(s:Xf) (u:Xc),BindsTo s fd ⟨[u],[]⟩ [(x,u)])
  (hsp:∀H:Hp,Only H->SqL K H a (ns.map V.int)->sp [.ref a] H (λv _=>v= .bl true) λ_ _ _=>False)
  (hCX:∀H e s',CX [] H s₁ (λ_ _ _=>False) e s'->False) :
  U8 (X8 P w) callerA (.call (.ref fa) ⟨[.ref a],[]⟩) (λr s'=>r= .ok (.ret (.bool true))∧OldK s₁.heap s'.heap∧s'.os=s₁.os∧AllBare s'.gens) s₁:=by
 have rv:=Zql hi
 have lenV:=hi.length
 -- from an abstract heap in which nothing but the script may be tracked
 have core:∀H:Hp,Only H->SqL K H a (ns.map V.int)->HOk P w H s₁.heap->(∀b,H b≠none->b=a)->(H a≠none->K.lookup a=none) ->
   U8 (X8 P w) callerA (.call (.ref fa) ⟨[.ref a],[]⟩) (λr s'=>r= .ok (.ret (.bool true))∧OldK s₁.heap s'.heap∧s'.os=s₁.os∧AllBare s'.gens) s₁:=by
  intro H hO hS hok hA hK
  have base_of:∀{b:Addr} {o:Obj},s₁.heap.get? b=some o->H b=none->(Zrk s₁.heap H).get? b=some o:=λe n=>Zqy e n
  have noA:∀{b:Addr} {o:Obj} {es:Array DictEntry} {ep:Nat},s₁.heap.get? b=some o->o.data= .dict es ep->H b=none:=fun{b o es ep} e d=>by
   cases q:H b with
   | none=>rfl
   | some u=>
    have e':b=a:=hA b (by rw[q];simp)
    subst e'
    rw[ha]at e;cases e
    have d':Data.seq vs.toArray _=Data.dict es ep:=d
    cases d'
  have nsK:∀{b:Addr} {m:Str->Option Xc},s₁.heap.Ns b m->(Zrk s₁.heap H).Ns b m:=fun{b m} ⟨o,es,ep,e,d,r⟩=>⟨o,es,ep,base_of e (noA e d),d,r⟩
  have hKb:K.In (Zrk s₁.heap H):=λb o e=>base_of (KX b o e) (by
   cases q:H b with
   | none=>rfl
   | some u=>
    have e':b=a:=hA b (by rw[q];simp)
    subst e'
    rw[hK (by rw[q];simp)]at e;cases e)
  have hM:Mod K mg (Zrk s₁.heap H):=⟨hKb,nsK hns,⟨mb,nsK hb,hbb⟩,let⟨mc,h1,h2⟩:=hlim;⟨mc,nsK h1,h2⟩⟩
  have e0:Z3a P w K mg (Zrk s₁.heap H) callerA [] s₁ H:=⟨rfl,hM,λb o e=>Zvs e,Nat.le_of_eq (Znd _ _),trivial,λb hb=>absurd (show b∈([]:List Addr)from hb) (by simp),hok,.of_eq hg⟩
  refine Uw ((F _ hKb (nsK hns)).run callerA [] s₁ H ⟨[.ref a],[]⟩ [.ref a] [.ref a] _ _ hr e0 (hbind s₁ (.ref a)) (.cons rfl .nil) (hsp H hO hS)) λr s' h=>?_
  cases r with
  | error e=>exact(hCX H e s' h).elim
  | ok fl=>
   cases fl with
   | next=>exact Br h
   | brk=>exact Br h
   | cont=>exact Br h
   | ret u=>
    obtain⟨v,H',os,bare,un,hok',r',q⟩:=h
    have q':v= .bl true:=q
    subst q'
    obtain rfl:u=Value.bool true:=r'
    refine⟨rfl,OldK.of_keep λb o e=>?_,os,bare⟩
    cases q:H b with
    | none=>exact un.keep b o e q (by intro z;exact absurd (show b∈([]:List Addr)from z) (by simp)) (by simp)
    | some u=>
     rcases hO b with z|⟨ob,xs,z⟩
     ·rw[q]at z;cases z
     ·have z2:=un.frzs b ob _ z
      obtain⟨e1,_⟩:=hok b _ z
      obtain⟨e2,_⟩:=hok' b _ z2
      rw[e]at e1;cases e1
      exact e2
 cases hk:K.lookup a with
 | some o=>
  -- the script is one of the module's own objects
  have e:=KX a o hk
  rw[ha]at e
  cases e
  refine core (λ_=>none) (λ_=>.inl rfl) (.inr ⟨_,vs.toArray,_,hk,rfl,rfl,rfl,by rw[Xr,lenV];exact hl,by simpa using rv⟩) (λb u z=>by have z':(none:Option HO)=some u:=z;cases z') (λb z=>absurd rfl z) λz=>absurd rfl z
 | none=>
  refine core (λb=>if b=a then some (.frz { cls:=.type "list",data:=.seq vs.toArray } (.lst (ns.map V.int)))else none) (λb=>?_) (.inl (.inr ⟨{ cls:=.type "list",data:=.seq vs.toArray },if_pos rfl⟩)) (λb u z=>?_) (λb z=>?_) λ_=>hk
  ·by_cases hb:b=a
   ·exact .inr ⟨_,_,if_pos hb⟩
   ·exact .inl (if_neg hb)
  ·by_cases hb:b=a
   ·have z':=(if_pos hb).symm.trans z
    cases z'
    subst hb
    exact⟨ha,by rw[Xg];exact hl,vs,_,rv,ha⟩
   ·have z':=(if_neg hb).symm.trans z
    cases z'
  ·by_cases hb:b=a
   ·exact hb
   ·exact absurd (if_neg hb) z
noncomputable abbrev KOf{K:Xb}{h:Heap}(_:K.In h):Xb:=K
theorem Zvm{l:PySem.W.OpenLaw}{n k:Nat}{q:X4}{loose:List Str}{XP:(Str->Option Xc)->Heap->Prop}{YP:Qv->Heap->Prop}{d:DefRec}{K:Params->Xb}{CX:Qv->CXT}{sp:Qv->Sp}{x:Str}
  (hn:l.most=some n) (hn2:n≤Xi) (hdf:d.params.defaults=[]) (hr:Room k callerA)
  (hY:∀(w:Qv) (h:Heap),YP w h->(K w.params).In h)
  (F:∀(w:Qv) (mg:Str->Option Xc) (fa:Addr) (h:Heap),(K w.params).In h->h.Ns Xx mg->mg d.name=some (.ref fa) ->
   ∃fd:Qc,(∀(s:Xf) (u:Xc),BindsTo s fd ⟨[u],[]⟩ [(x,u)])∧
    ∀base:Heap,(K w.params).In base->base.Ns Xx mg->FnOk l.prog w (K w.params) mg base (CX w) k fa fd [x] (sp w))
  (hsp:∀(w:Qv) (H:Hp) (a:Addr) (ns:List Int),ns.length≤n->Only H->SqL (K w.params) H a (ns.map V.int)->sp w [.ref a] H (λv _=>v= .bl true) λ_ _ _=>False)
  (hCX:∀(w:Qv) (H:Hp) (s:Xf) (e:Xc) (s':Xf),CX w [] H s (λ_ _ _=>False) e s'->False) :
  PySem.W.WalkO q loose XP YP l.row.toRowW d [] (λf vs=>PySem.call f vs):=by
 refine Att.attach_call hn hdf λw s₀ s₁ mg mb fa o pm cd doc a vs ns G Y ho hd hcd hmg hobj hints hlen hg=>?_
 have KX:=hY w _ Y
 obtain⟨fd,hb,hF⟩:=F w mg fa _ KX G.T.g hmg
 exact Zsg KX G.T.g G.T.b G.T.builtins G.T.nolimit hg hobj hints (Xu hlen hn2) hr hF hb (λH hO hS=>hsp w H a ns hlen hO hS) λH e s'=>hCX w H s₁ e s'
noncomputable def Z3(s:Stmt):Arguments:=match s with
 | .FunctionDef _ a _ _ _ _ _ _ _ _=>a
 | _=>{ posonlyargs:=[],args:=[],vararg:=none,kwonlyargs:=[],kw_defaults:=[],kwarg:=none,defaults:=[] }
noncomputable def Zu(s:Stmt):List Stmt:=match s with
 | .FunctionDef _ _ b _ _ _ _ _ _ _=>b
 | _=>[]
noncomputable def Zh(s:Stmt):Us:=match s with
 | .FunctionDef _ _ _ _ _ _ sc _ _ _=>sc
 | _=>{ kind:=.function,names:=[],isGenerator:=false,isCoroutine:=false }
noncomputable abbrev CX0:CXT:=λ_ _ _ _ _ _=>False
noncomputable abbrev E0:XK:=λ_ _ _=>False
theorem Z6w{X:Cx}:Zkg CX0 X E0:=λ_ _ _ _ _ _ _ h=>h.elim
structure Fun(K:Xb)(x qual:Str)(st:Stmt)(f:Addr)(fd:Qc):Prop where
 ex:∃(oc:Xc) (od:Option Addr) (kV doc pm:Xc) (an:Option Addr) (cdv ct:Xc) (osl:Array (Option Xc)),
  fd=Qh x qual (Z3 st) (Zu st) (Zh st) .none kV doc pm an cdv ct∧K.lookup f=some ⟨oc,od,.func fd,osl⟩∧Ql K cdv qual=true
 kp:X7 K (.ref f)=true
section
variable {P:X4}{w:Qv}{K:Xb}{mg:Str->Option Xc}{base:Heap}
theorem Fun.ok{x qual:Str}{st:Stmt}{f:Addr}{fd:Qc}{N ps:List Str}{k:Nat}{sp:Sp}(F:Fun K x qual st f fd)(S:Z0 N ps (Zh st))(len:∀vs H Q E,sp vs H Q E->vs.length=ps.length)
  (hbody:∀(cdv:Xc) (A:Qt) (outer:List Env) (s:Xf) (H:Hp) (vs:List V) (Q:VK) (E:XK),Room k (A.deeper (UJ qual (Zh st) s.heap.objs.size f cdv))->sp vs H Q E ->
   ∃t,PSs (Zqp CX0 P w K mg base N qual (Zh st) f cdv A outer s H E).nox (Zu st) t∧t { nx:=λ_ H'=>Q .non H',rt:=Q } (start N vs) H):FnOk P w K mg base CX0 (k+1) f fd ps sp:=by
 obtain⟨oc,od,kV,doc,pm,an,cdv,ct,osl,rfl,lk,hcd⟩:=F.ex
 refine Zx7 lk hcd S len λA outer s H vs Q E hr hsp=>?_
 obtain⟨t,h,q⟩:=hbody cdv A outer s H vs Q E hr hsp
 exact⟨t,h.nox,q⟩
theorem Fun.binds{x qual:Str}{st:Stmt}{f:Addr}{fd:Qc}{ps:List Str}(F:Fun K x qual st f fd)
  (h:∀(kV doc pm:Xc) (an:Option Addr) (cdv ct:Xc) (us:List Xc),us.length=ps.length->bindArgs (Qh x qual (Z3 st) (Zu st) (Zh st) .none kV doc pm an cdv ct) ⟨us,[]⟩=pure (ps.zip us)):Binds K fd ps []:=by
 obtain⟨oc,od,kV,doc,pm,an,cdv,ct,osl,rfl,lk,hcd⟩:=F.ex
 exact .all (h kV doc pm an cdv ct)
theorem Wx{x qual:Str}{st:Stmt}{f:Addr}{oc:Xc}{od an:Option Addr}{osl:Array (Option Xc)}{kV doc pm cdv ct:Xc}(l:K.lookup f=some ⟨oc,od,.func (Qh x qual (Z3 st) (Zu st) (Zh st) .none kV doc pm an cdv ct),osl⟩)
  (c:Ql K cdv qual=true) (k:X7 K (.ref f)=true):Fun K x qual st f (Qh x qual (Z3 st) (Zu st) (Zh st) .none kV doc pm an cdv ct):=⟨⟨oc,od,kV,doc,pm,an,cdv,ct,osl,rfl,l,c⟩,k⟩
end
section
variable {X:Cx}
theorem pv(i:Nat){x:Str}{pos:Pos}(hN:X.N[i]? =some x:=by rfl)(hv:Vis X.env.scope x:=by first|exact QG rfl|exact Qo (QG rfl)|exact Qo (Qo rfl))(hd:(x==("__debug__" : Str))=false:=by decide)
  (hcd:(x==("__classdict__" : Str))=false:=by decide):PE X (.Name x pos) (Z7o i):=Z0a hN hv hd hcd
end
noncomputable def Same(H H':Hp):Prop:=∀b o,H b=some o->H' b=some o
theorem Same.refl(H:Hp):Same H H:=λ_ _ h=>h
theorem Same.trans{H H1 H2:Hp}(a:Same H H1)(b:Same H1 H2):Same H H2:=λc o h=>b c o (a c o h)
theorem Same.free{H H':Hp}(e:Same H H'){l:Addr}(h:H' l=Option.none):H l=Option.none:=by
 cases q:H l with
 | none=>rfl
 | some o=>
  rw[e l o q]at h
  cases h
theorem Same.seq{K:Xb}{H H':Hp}{a:Addr}{xs:List V}(e:Same H H')(h:SqL K H a xs):SqL K H' a xs:=by
 rcases h with(h|⟨o,h⟩)|h
 ·exact .inl (.inl (e _ _ h))
 ·exact .inl (.inr ⟨o,e _ _ h⟩)
 ·exact .inr h
end L2
set_option maxHeartbeats 4000000
namespace L2
open PySem PySem.Spec PyProof.Rows
noncomputable def Bt(n:Nat)(x:Int):Prop:=x.natAbs<2^n
theorem Bt.of_lt{m:Nat}{x:Int}(h1:-(2^m)<x)(h2:x<2^m):Bt m x:=by
 unfold Bt
 have e:((2^m:Nat):Int)=2^m:=by simp
 omega
noncomputable def DivOk(_ j:Int):Prop:=j≠0∧j.natAbs.log2<9000
theorem DivOk.of{i j:Int}{n:Nat}(h0:j≠0)(h:Bt n j)(hn:n≤9000:=by decide):DivOk i j:=by
 refine⟨h0,?_⟩
 have hp:j.natAbs≠0:=by omega
 have:=(Nat.log2_lt hp).mpr h
 omega
section
variable {X:Cx}
theorem Zw0:OpR X (Vn .Mult) (rI IntMulOk λi j=>.int (i*j)):=opI λ_ _ _ _ _ _ _ hc q=>mul_int q hc
theorem Zsj:OpR X (Vn .FloorDiv) (rI DivOk λi j=>.int (i.fdiv j)):=opI λ_ _ _ _ _ _ _ hc q=>floordiv_int hc.1 q (.inl (PyProof.noPylong_of_log2 hc.2))
theorem Zwy:OpR X (Vn .Pow) (rI Z3l λi j=>.int (i^j.toNat)):=Z13
end
theorem Zf3(elt target iter:Expr)(ifs:List Expr)(scope:Us)(pos:Pos)(it acc:Xc)(env:Env) :
  compTurn (.ListComp elt [⟨target,iter,ifs,0⟩] scope pos) 0 it acc env=(standAt iter.pos>>= λ_=>Uh it>>= λr=>match r with
   | none=>pure (.done .next)
   | some v=>Uj target it v>>= λ_=>assign target env v>>= λ_=>
    (forIn ifs true λc r=>if r=true then do let ok←isTrue c env (eval c env);pure (JM ok)else pure (JM r))>>= λok=>
     if ok=true then((eval elt env>>= λx=>call (.builtin "list.append") [acc,x]>>= λ_=>pure ())>>= λ_=>
      again (.compLoop (.ListComp elt [⟨target,iter,ifs,0⟩] scope pos) 0 it acc env))
     else again (.compLoop (.ListComp elt [⟨target,iter,ifs,0⟩] scope pos) 0 it acc env)):=by rfl
theorem Ziy{prog:X4}{w:Qv}{A:Qt}{R:Result->Xf->Prop}{s:Xf}{elt target iter:Expr}{ifs:List Expr}{scope:Us}{pos:Pos}{it acc:Xc}{env:Env}(I:Nat->Xf->Prop)
  (turn:∀n s,I n s->XC (X8 prog w) A (Uh it) (λr s₁=>match r with
   | none=>R (.ok .next) s₁
   | some v=>XC (X8 prog w) A (Uj target it v) (λ_ s₁=>XC (X8 prog w) A (assign target env v) (λ_ s₂=>
     XC (X8 prog w) A (forIn ifs true λc r=>if r=true then do let ok←isTrue c env (eval c env);pure (JM ok)else pure (JM r)) (λok s₃=>
      if ok=true then XC (X8 prog w) A (eval elt env) (λx s₄=>
       XC (X8 prog w) A (call (.builtin "list.append") [acc,x]) (λ_ s₅=>∃m,m<n∧I m s₅) (notedBy (X8 prog w) A env λe s'=>R (.error e) s') s₄) (notedBy (X8 prog w) A env λe s'=>R (.error e) s') s₃
      else∃m,m<n∧I m s₃) (notedBy (X8 prog w) A env λe s'=>R (.error e) s') s₂) (notedBy (X8 prog w) A env λe s'=>R (.error e) s') s₁) (notedBy (X8 prog w) A env λe s'=>R (.error e) s') s₁) (notedBy (X8 prog w) A env λe s'=>R (.error e) s') s)
  (n:Nat) (h:I n s) :
  U8 (X8 prog w) A (.compLoop (.ListComp elt [⟨target,iter,ifs,0⟩] scope pos) 0 it acc env) R s:=by
 refine codeAny_loop rfl I (λn s hI=>?_) n h
 show XC _ A ((compTurn (.ListComp elt [⟨target,iter,ifs,0⟩] scope pos) 0 it acc env).onRaise (λx=>do noteFrame x env;theTreesLotGoes x)) _ _ s
 refine wpAny_noted ?_
 rw[Zf3]
 refine Xd (wpAny_standAt (Xd (Qs (turn n s hI) (λr s₁ h₁=>?_) λ_ _ h'=>h')))
 cases r with
 | none=>exact XH h₁
 | some v=>
  refine Xd (Qs h₁ (λ_ s₂ h₂=>?_) λ_ _ h'=>h')
  refine Xd (Qs h₂ (λ_ s₂ h₂=>Xd (Qs h₂ (λok s₃ h₃=>?_) λ_ _ h'=>h')) λ_ _ h'=>h')
  cases ok with
  | false=>exact XH ⟨rfl,h₃⟩
  | true=>
   exact Xd (Xd (Qs h₃ (λx s₄ h₄=>Xd (Qs h₄ (λ_ s₅ h₅=>XH (XH ⟨rfl,h₅⟩)) λ_ _ h'=>h')) λ_ _ h'=>h'))
noncomputable def Zft(env:Env):List (Str×Bg)->List (Str×Addr)->List (Str×Addr)
 | [],acc=>acc
 | (n,k) :: r,acc=>if k== .free then Zft env r ((n,(env.cells.lookup n).getD 0) :: acc)else Zft env r acc
theorem Zhd{env:Env}:∀(names:List (Str×Bg)) (acc:List (Str×Addr)),(∀y∈names,y.2= .free->∃c,env.cells.lookup y.1=some c) ->
  (forIn names acc (λ(y:Str×Bg) cs=>(if y.2== .free then(cellOf env y.1>>= λc=>pure (JM ((y.1,c) :: cs)))else pure (JM cs):Sem (ForInStep (List (Str×Addr))))))=pure (Zft env names acc)
 | [],acc,_=>by rw[Ve];rfl
 | (n,k) :: r,acc,h=>by
  by_cases hk:k= .free
  ·subst hk
   obtain⟨c,hc⟩:=h (n,.free) (.head _) rfl
   have hc':env.cells.lookup n=some c:=hc
   have e:=Zhd (env:=env) r ((n,c) :: acc) λy hy=>h y (.tail _ hy)
   have ec:cellOf env n=pure c:=by
    unfold cellOf
    rw[hc']
   rw[BZ]
   simp only[beq_self_eq_true,if_true]
   rw[ec]
   simp only[Zft,beq_self_eq_true,if_true,hc',Option.getD_some]
   exact e
  ·have e:=Zhd (env:=env) r acc λy hy=>h y (.tail _ hy)
   have hb:(k==QS)=false:=by simpa using hk
   rw[BZ]
   simp only[Zft,hb,Bool.false_eq_true,if_false]
   exact e
theorem Zcd{scope:Us}{env:Env}(h:∀y∈scope.names,y.2= .free->∃c,env.cells.lookup y.1=some c):closureFor scope env=pure (Zft env scope.names []):=by
 have e:=Zhd scope.names [] h
 have e':(forIn scope.names ([]:List (Str×Addr)) (λ(y:Str×Bg) cs=>(match y with|(name,kind)=>do
   if kind== .free then do let a←cellOf env name;pure (JM ((name,a) :: cs))else pure (JM cs):Sem (ForInStep (List (Str×Addr))))))=pure (Zft env scope.names []):=e
 exact congrArg (λ(m:Sem (List (Str×Addr)))=>m>>= λx=>pure x) e'
theorem Zhp{env:Env}:∀(names:List (Str×Bg)) (acc:List (Str×Addr)),(∀y∈names,y.2= .free->∃c,env.cells.lookup y.1=some c) ->
  ∀n c,(n,c)∈Zft env names acc->(n,c)∈acc∨((n,QS)∈names∧env.cells.lookup n=some c)
 | [],acc,_,n,c,h=>.inl h
 | (m,k) :: r,acc,h,n,c,hm=>by
  by_cases hk:k= .free
  ·subst hk
   obtain⟨d,hd⟩:=h (m,.free) (.head _) rfl
   have hd':env.cells.lookup m=some d:=hd
   simp only[Zft,beq_self_eq_true,if_true,hd',Option.getD_some]at hm
   rcases Zhp r _ (λy hy=>h y (.tail _ hy)) n c hm with z|⟨z1,z2⟩
   ·rcases Xn.mp z with z|z
    ·cases z;exact .inr ⟨.head _,hd'⟩
    ·exact .inl z
   ·exact .inr ⟨.tail _ z1,z2⟩
  ·have hb:(k==QS)=false:=by simpa using hk
   simp only[Zft,hb,Bool.false_eq_true,if_false]at hm
   refine(Zhp r _ (λy hy=>h y (.tail _ hy)) n c hm).imp id λqz9=>?_
   obtain⟨z1,z2⟩:=qz9
   exact⟨.tail _ z1,z2⟩
theorem Zg8{env:Env}:∀(names:List (Str×Bg)) (acc:List (Str×Addr)),∀p∈acc,p∈Zft env names acc
 | [],_,_,h=>h
 | (m,k) :: r,acc,p,h=>by
  unfold Zft
  split
  ·exact Zg8 r _ p (.tail _ h)
  ·exact Zg8 r _ p h
theorem Zhi{env:Env}:∀(names:List (Str×Bg)) (acc:List (Str×Addr)) (n:Str),(n,QS)∈names->∃c,(n,c)∈Zft env names acc
 | [],_,_,h=>nomatch h
 | (m,k) :: r,acc,n,h=>by
  rcases Xn.mp h with z|z
  ·cases z
   exact⟨_,by
    simp only[Zft,beq_self_eq_true,if_true]
    exact Zg8 _ _ _ (.head _)⟩
  ·unfold Zft
   split
   ·exact Zhi r _ n z
   ·exact Zhi r _ n z
theorem Zdj{env:Env}(inj:∀x y c,env.cells.lookup x=some c->env.cells.lookup y=some c->x=y):∀(names:List (Str×Bg)) (acc:List (Str×Addr)),
  (∀ y∈names,y.2= .free->∃c,env.cells.lookup y.1=some c)->(names.map (·.1)).Nodup->(∀p∈acc,env.cells.lookup p.1=some p.2)->(∀p∈acc,p.1∉names.map (·.1))->(acc.Pairwise λx y=>x.2≠y.2) ->
  (Zft env names acc).Pairwise λx y=>x.2≠y.2
 | [],_,_,_,_,_,h=>h
 | (m,k) :: r,acc,hf,hn,ha,hd,hp=>by
  rw[X6,Qi]at hn
  have hf':∀y∈r,y.2= .free->∃c,env.cells.lookup y.1=some c:=λy hy=>hf y (.tail _ hy)
  have hd':∀p∈acc,p.1∉r.map (·.1):=λp hp z=>hd p hp (by rw[X6];exact .tail _ z)
  by_cases hk:k= .free
  ·subst hk
   obtain⟨d,hd0⟩:=hf (m,.free) (.head _) rfl
   have hd1:env.cells.lookup m=some d:=hd0
   simp only[Zft,beq_self_eq_true,if_true,hd1,Option.getD_some]
   refine Zdj inj r _ hf' hn.2 (λp hp'=>?_) (λp hp'=>?_) (List.pairwise_cons.mpr ⟨λp hp' z=>?_,hp⟩)
   ·rcases Xn.mp hp' with rfl|hp'
    ·exact hd1
    ·exact ha p hp'
   ·rcases Xn.mp hp' with rfl|hp'
    ·exact hn.1
    ·exact hd' p hp'
   ·have e:m=p.1:=inj m p.1 d hd1 (by rw[ha p hp',←z])
    exact hd p hp' (by rw[X6,←e];exact .head _)
  ·have hb:(k==QS)=false:=by simpa using hk
   simp only[Zft,hb,Bool.false_eq_true,if_false]
   exact Zdj inj r _ hf' hn.2 ha hd' hp
structure Zmf(h:Heap)(lo:Nat)(names:List (Str×Bg))(acc cs:List (Str×Addr)):Prop where
 mem:∀n c,(n,c)∈cs->(n,c)∈acc∨(h.IsCell c none∧lo≤c∧(n,JW)∈names)
 has:∀n,(n,JW)∈names->∃c,(n,c)∈cs
 old:∀p∈acc,p∈cs
theorem Zdr:∀(names:List (Str×Bg)) (h:Heap) (lo:Nat) (acc:List (Str×Addr)),lo≤h.objs.size->Zmf (Bv h names) lo names acc (JV h.objs.size names acc)
 | [],_,_,_,_=>⟨λ_ _ m=>.inl m,(λ_ m=>nomatch m),λ_ m=>m⟩
 | (name,kind) :: r,h,lo,acc,hlo=>by
  by_cases hk:(kind==JW)=true
  ·have ek:kind= .cell:=by simpa using hk
   subst ek
   have ih:=Zdr r (h.push { cls:=.type "cell",data:=.cell none }) lo ((name,h.objs.size) :: acc) (by rw[Qy];omega)
   rw[Qy]at ih
   have e1:JV h.objs.size ((name,.cell) :: r) acc=JV (h.objs.size+1) r ((name,h.objs.size) :: acc):=by
    rw[JV,if_pos hk]
   have e2:Bv h ((name,.cell) :: r)=Bv (h.push { cls:=.type "cell",data:=.cell none }) r:=by
    rw[Bv,if_pos hk]
   rw[e1,e2]
   refine⟨λn c m=>?_,λn m=>?_,λp m=>ih.old p (.tail _ m)⟩
   ·rcases ih.mem n c m with z|⟨z1,z2,z3⟩
    ·rcases Xn.mp z with z|z
     ·cases z
      exact .inr ⟨⟨_,Ui _ _ _ _ (Xy _ rfl),rfl⟩,hlo,.head _⟩
     ·exact .inl z
    ·exact .inr ⟨z1,z2,.tail _ z3⟩
   ·rcases Xn.mp m with z|z
    ·cases z
     exact⟨_,ih.old _ (.head _)⟩
    ·exact ih.has n z
  ·have ih:=Zdr r h lo acc hlo
   have e1:JV h.objs.size ((name,kind) :: r) acc=JV h.objs.size r acc:=by
    rw[JV,if_neg hk]
   have e2:Bv h ((name,kind) :: r)=Bv h r:=by
    rw[Bv,if_neg hk]
   rw[e1,e2]
   refine⟨λn c m=>(ih.mem n c m).imp id λ⟨z1,z2,z3⟩=>⟨z1,z2,.tail _ z3⟩,λn m=>?_,ih.old⟩
   rcases Xn.mp m with z|z
   ·cases z
    exact absurd rfl hk
   ·exact ih.has n z
theorem Zfg(names:List (Str×Bg)):∀(h:Heap) (acc:List (Str×Addr)),(acc.Pairwise λx y=>x.2≠y.2)->(∀p∈acc,p.2<h.objs.size)->(JV h.objs.size names acc).Pairwise λx y=>x.2≠y.2:=by
 induction names with
 | nil=>intro h acc ha _;exact ha
 | cons y r ih=>
  intro h acc ha hb
  obtain⟨name,kind⟩:=y
  unfold JV
  split
  ·have:=ih (h.push { cls:=.type "cell",data:=.cell none }) ((name,h.objs.size) :: acc) (List.pairwise_cons.mpr ⟨λp hp=>XN (hb p hp),ha⟩) (λp hp=>by
    rw[Qy]
    rcases Xn.mp hp with rfl|hp
    ·exact BR _
    ·exact Nat.lt_succ_of_lt (hb p hp))
   rwa[Qy]at this
  ·exact ih h acc ha hb
theorem Zfu{M:Model}{A:Qt}{E:Xc->Xf->Prop}{s:Xf}{scope:Us}{globals:Addr}{cl:List (Str×Addr)}{qual:Str}{env:Env}{Q:Env->Xf->Prop}
  (hQ:Q (newEnv scope s.heap.objs.size globals (JV (s.heap.objs.size+1) scope.names cl) qual none .none (some env) builtinsNs)
   { s with heap:=Bv (s.heap.push { cls:=.type "dict",data:=.dict #[] }) scope.names }) :
  XC M A (newFunctionEnv scope globals cl [] qual none .none (some env)) Q E s:=by
 simp only[newFunctionEnv,Option.isSome_some,if_true]
 refine Xd (wpAny_alloc ?_)
 refine Xd (wpAny_layCells _ (λname kind cells=>by cases hkc:kind==JW<;>simp[hkc]) _ _ _ _ ?_)
 rw[show({ s with heap:=s.heap.push { cls:=.type "dict",data:=.dict #[] } }:Xf).heap.objs.size=s.heap.objs.size+1 from Qy ..]
 rw[Ve]
 exact Xd (XH (XH hQ))
noncomputable def Wo(X:Cx)(N':List Str)(sc:Us)(C:Addr)(cells:List (Str×Addr))(s₂:Xf)(H₂:Hp)(fp:List Addr):Cx :=
 { X with N:=N',s₀:=s₂,H₀:=H₂,env:=compEnvC sc cells C X.env,outer:=X.stack,stack:=X.stack,ex:=fp,fn:=λx=>sc.names.lookup x==some .cell,pn:=[],xe:=λ_ _=>False }
theorem Zcb{env:Env}:∀{names:List (Str×Bg)} {x:Str} {k:Bg},names.lookup x=some k ->
  (names.map λ(n,k)=>if(k==QS&&env.scope.kind== .function&&env.kindOf n==some .cell)then(n,JW)else(n,k)).lookup x=
   some (if(k==QS&&env.scope.kind== .function&&env.kindOf x==some .cell)then JW else k)
 | [],_,_,h=>by simp at h
 | (n,k') :: r,x,k,h=>by
  have ih:=@Zcb env r x k
  show List.lookup x ((if(k'==QS&&env.scope.kind== .function&&env.kindOf n==some .cell)=true then(n,JW)else(n,k')) :: _)=_
  cases hx:x==n with
  | true=>
   simp only[QV,hx]at h
   cases h
   have e:=beq_iff_eq.mp hx
   subst e
   split<;>simp[QV]
  | false=>
   simp only[QV,hx]at h
   split
   ·simp only[QV,hx];exact ih h
   ·simp only[QV,hx];exact ih h
theorem Zd4{env:Env}:∀{names:List (Str×Bg)} {x:Str},names.lookup x=none ->
  (names.map λ(n,k)=>if(k==QS&&env.scope.kind== .function&&env.kindOf n==some .cell)then(n,JW)else(n,k)).lookup x=none
 | [],_,_=>rfl
 | (n,k') :: r,x,h=>by
  have ih:=@Zd4 env r x
  show List.lookup x ((if(k'==QS&&env.scope.kind== .function&&env.kindOf n==some .cell)=true then(n,JW)else(n,k')) :: _)=_
  cases hx:x==n with
  | true=>
   simp only[QV,hx]at h
   cases h
  | false=>
   simp only[QV,hx]at h
   split
   ·simp only[QV,hx];exact ih h
   ·simp only[QV,hx];exact ih h
theorem Zdh{α:Type}:∀{l:List (Str×α)} {n:Str} {c:α},(l.map (·.1)).Nodup->(n,c)∈l->l.lookup n=some c
 | (k,v) :: r,n,c,hd,h=>by
  rw[X6,Qi]at hd
  rcases Xn.mp h with e|hr
  ·cases e
   simp[QV]
  ·have hne:(n==k)=false:=by
    refine Bool.eq_false_iff.mpr λz=>hd.1 ?_
    have e:n=k:=beq_iff_eq.mp z
    rw[←e]
    exact QJ.mpr ⟨(n,c),hr,rfl⟩
   rw[QV,hne]
   exact Zdh hd.2 hr
theorem Yj{α:Type}:∀{l:List (Str×α)} {n:Str} {c:α},(n,c)∈l->∃d,l.lookup n=some d∧(n,d)∈l
 | (k,v) :: r,n,c,h=>by
  by_cases e:n=k
  ·subst e
   exact⟨v,by simp[QV],Ud⟩
  ·have hne:(n==k)=false:=by simpa using e
   rcases Xn.mp h with z|z
   ·cases z;exact absurd rfl e
   ·obtain⟨d,h1,h2⟩:=Yj z
    exact⟨d,by rw[QV,hne];exact h1,.tail _ h2⟩
structure CompScope(X:Cx)(own:List Str)(caps:List Nat)(N':List Str)(sc:Us):Prop where
 kind:sc.kind= .function
 nd:N'.Nodup
 names:N'=own ++ caps.map λi=>X.N.getD i Str.empty
 nn:(sc.names.map (·.1)).Nodup
 free:(sc.names.all λy=>y.2 != .free||(X.env.kindOf y.1==some .cell||X.env.kindOf y.1==some .free))=true
 caps:(caps.all λi=>sc.names.lookup (X.N.getD i Str.empty)==some .free)=true
noncomputable def Ju(own:List Str)(caps:List Nat)(σ:St):St:=own.map (λ_=>none) ++ caps.map λi=>(σ[i]?).getD none
section
variable {X:Cx}{own:List Str}{caps:List Nat}{N':List Str}{sc:Us}
theorem CompScope.lk(S:CompScope X own caps N' sc){n:Str}{k:Bg}(h:(n,k)∈sc.names):sc.names.lookup n=some k:=Zdh S.nn h
theorem CompScope.fr(S:CompScope X own caps N' sc){n:Str}(h:(n,QS)∈sc.names):X.env.kindOf n=some .cell∨X.env.kindOf n=some .free:=by
 have:=Q7.mp S.free _ h
 simpa using this
theorem Zlh{pins:List (Addr×Obj)}{σ:St}{H:Hp}{s:Xf}{fp:List Addr}{cl:List (Str×Addr)}(S:CompScope X own caps N' sc)(I:Inv X pins σ H s)
  (f:∀b∈fp,Zdi X pins H b) (fo:∀b∈fp,∃o,s.heap.get? b=some o)
  (hcl:∀n c,(n,c)∈cl->(n,QS)∈sc.names∧X.env.cells.lookup n=some c) (hcl2:∀n,(n,QS)∈sc.names->∃c,(n,c)∈cl) (hapart:cl.Pairwise λx y=>x.2≠y.2) :
  Inv (Wo X N' sc (s.heap.objs.size+1) (JV (s.heap.objs.size+2) sc.names cl) s H fp) [] (Ju own caps σ) (upd H s.heap.objs.size (.lst []))
   { s with heap:=Bv ((s.heap.push { cls:=.type "list",data:=.seq #[] }).push { cls:=.type "dict",data:=.dict #[] }) sc.names }:=by
 generalize hh1:s.heap.push { cls:=.type "list",data:=.seq #[] }=h1
 have z1:h1.objs.size=s.heap.objs.size+1:=by rw[←hh1,Qy]
 generalize hh2:h1.push { cls:=.type "dict",data:=.dict #[] }=h2
 have z2:h2.objs.size=s.heap.objs.size+2:=by rw[←hh2,Qy,z1]
 have BC:=Zdr sc.names h2 (s.heap.objs.size+2) cl (by omega)
 have AP:=Zfg sc.names h2 cl hapart (λp hp=>by
  obtain⟨v,hv⟩:=I.cell p.1 p.2 (hcl p.1 p.2 hp).2
  exact X5 hv.lt (by omega))
 rw[z2]at BC AP
 have keep:∀b o,s.heap.get? b=some o->(Bv h2 sc.names).get? b=some o:=λb o e=>Ui _ _ _ _ (by
  rw[←hh2]
  refine Xh _ ?_
  rw[←hh1]
  exact Xh _ e)
 have hD:(Bv h2 sc.names).get? s.heap.objs.size=some { cls:=.type "list",data:=.seq #[] }:=Ui _ _ _ _ (by
  rw[←hh2]
  refine Xh _ ?_
  rw[←hh1]
  exact Xy _ rfl)
 have hC:(Bv h2 sc.names).Ns (s.heap.objs.size+1) (λ_=>none):=by
  refine Heap.Ns.keeps ?_ (Ui _ _)
  have:=Heap.Ns.new h1 (.type "dict")
  rw[hh2,z1]at this
  exact this
 have cellOld:∀n c,X.env.cells.lookup n=some c->c<s.heap.objs.size:=λn c e=>by
  obtain⟨v,hv⟩:=I.cell n c e
  exact hv.lt
 have lk':∀n c,(JV (s.heap.objs.size+2) sc.names cl).lookup n=some c->(n,c)∈JV (s.heap.objs.size+2) sc.names cl:=λn c e=>JQ e
 have hnD:H s.heap.objs.size=none:=I.fresh
 have fresh:∀c,s.heap.objs.size<c->upd H s.heap.objs.size (.lst []) c=none:=λc hc=>by
  rw[Zm (XN hc)]
  exact I.hok.fresh (Bo hc)
 have isc:∀n c,(n,c)∈JV (s.heap.objs.size+2) sc.names cl->∃v,(Bv h2 sc.names).IsCell c v:=λn c m=>by
  rcases BC.mem n c m with z|⟨z,_⟩
  ·obtain⟨v,hv⟩:=I.cell n c (hcl n c z).2
   exact⟨v,hv.keeps keep⟩
  ·exact⟨none,z⟩
 have okH:HOk X.prog X.w (upd H s.heap.objs.size (.lst [])) (Bv h2 sc.names):=by
  refine I.hok.laid keep (XQ _) ?_
  exact⟨JK _,[],0,.nil,hD⟩
 have kinds:∀x k,sc.names.lookup x=some k->(relabel sc X.env).names.lookup x=some (if(k==QS&&X.env.scope.kind== .function&&X.env.kindOf x==some .cell)then JW else k):=λx k e=>Zcb e
 have kindsR:∀x k,(relabel sc X.env).names.lookup x=some k->∃k',(x,k')∈sc.names∧k=(if(k'==QS&&X.env.scope.kind== .function&&X.env.kindOf x==some .cell)then JW else k'):=λx k e=>by
  cases q:sc.names.lookup x with
  | none=>
   have:=Zd4 (env:=X.env) q
   rw[show(relabel sc X.env).names.lookup x=_ from this]at e
   cases e
  | some k'=>
   refine⟨k',JQ q,?_⟩
   rw[kinds x k' q]at e
   exact(Qz e).symm
 refine⟨⟨I.ok.mod,S.kind,I.ok.glob,I.ok.blt,?_,?_,?_,?_,I.ok.hd,I.ok.frames,.inl rfl,?_,?_,?_,?_,?_,?_,?_⟩,rfl,I.bare,?_,?_,?_,?_,?_,(λp hp=>nomatch hp),okH,?_⟩
 ·show s.heap.objs.size≤s.heap.objs.size+1;omega
 ·intro x y c e1 e2
  exact name_of_addr AP (lk' x c e1) (lk' y c e2)
 ·intro x hx
  rcases hx with hx|hx
  ·obtain⟨k',hm,hk'⟩:=kindsR x _ hx
   cases k' with
   | cell=>
    obtain⟨c,hc⟩:=BC.has x hm
    obtain⟨d,h1,_⟩:=Yj hc
    exact⟨d,h1⟩
   | free=>
    obtain⟨c,hc⟩:=hcl2 _ hm
    obtain⟨d,h1,_⟩:=Yj (BC.old _ hc)
    exact⟨d,h1⟩
   | _=>simp at hk'
  ·obtain⟨k',hm,hk'⟩:=kindsR x _ hx
   cases k' with
   | free=>
    obtain⟨c,hc⟩:=hcl2 _ hm
    obtain⟨d,h1,_⟩:=Yj (BC.old _ hc)
    exact⟨d,h1⟩
   | _=>simp at hk'
 ·intro x c hf e
  have hf':sc.names.lookup x=some .cell:=by simpa [Wo]using hf
  rcases BC.mem x c (lk' x c e)with z|⟨_,z,_⟩
  ·-- a free one and a cell at once: the name stands once
   exfalso
   have q:=S.lk (hcl x c z).1
   rw[hf']at q
   cases q
  ·show s.heap.objs.size≤c;omega
 ·intro b hb
  obtain⟨o,ho⟩:=fo b hb
  have hlt:=XD ho
  refine⟨Xp (Vi hlt (BR _)),λx c e z=>?_⟩
  rcases BC.mem x c (lk' x c e)with q|⟨_,q,_⟩
  ·exact(f b hb).2.2.2.2.1 x c (hcl x c q).2 z
  ·subst z
   exact absurd hlt (Um.mpr (Xu (Vj _ 2) q))
 ·exact I.bs
 ·exact Xu I.ok.bsz I.sz
 ·intro b o e hb
  rcases(f b hb).2.2.2.1 with z|z
  ·exact I.ok.noex b o e z
  ·exact absurd (X5 (XD e) I.ok.bsz) (Um.mpr z)
 ·intro b hb z
  rcases Xn.mp (I.stkSub b z)with q|q
  ·exact(f b hb).2.1 q
  ·exact(f b hb).2.2.1 q
 ·exact I.stack
 ·exact I.stkFree
 ·exact Un.laid keep (XQ _) hnD
 ·refine⟨_,hC,λi x v e1 e2 e3=>?_⟩
  have e1':(own ++ caps.map λi=>X.N.getD i Str.empty)[i]? =some x:=by rw[←S.names];exact e1
  have e2':(own.map (λ_=>(none:Option V)) ++ caps.map λi=>(σ[i]?).getD none)[i]? =some (some v):=e2
  by_cases hi:i<own.length
  ·rw[Uv (by simpa using hi),Xm]at e2'
   cases q:own[i]? with
   | none=>rw[q]at e2';cases e2'
   | some y=>rw[q]at e2';cases e2'
  ·rw[Bs (by simpa using hi),Xm]at e2'
   rw[Bs (by omega),Xm]at e1'
   rw[Xg]at e2'
   cases q:caps[i-own.length]? with
   | none=>rw[q]at e2';cases e2'
   | some j=>
    rw[q]at e1' e2'
    have e1:X.N.getD j Str.empty=x:=Qz e1'
    have e2:(σ[j]?).getD none=some v:=Qz e2'
    have e4:σ[j]? =some (some v):=by
     cases r:σ[j]? with
     | none=>rw[r]at e2;cases e2
     | some o=>rw[r]at e2;exact congrArg some e2
    have hj:j<X.N.length:=by rw[←I.len];exact(Xv.mp e4).1
    have e5:X.N[j]? =some x:=by rw[←e1];simp[Qn,hj]
    have hc:=Q7.mp S.caps j (QW q)
    have e6:sc.names.lookup x=some .free:=by rw[←e1];simpa using hc
    have hm:=JQ e6
    have kx:=S.fr hm
    obtain⟨m,hn,hl⟩:=I.loc
    obtain⟨u,ru,lo⟩:=hl j x v e5 e4 (by rcases kx with z|z;exact .inr (.inl z);exact .inr (.inr z))
    refine⟨u,ru,.inr ⟨?_,?_⟩⟩
    ·have:=kinds x _ e6
     show(relabel sc X.env).names.lookup x=_∨(relabel sc X.env).names.lookup x=_
     rw[this]
     split
     ·exact .inl rfl
     ·exact .inr rfl
    ·rcases lo with⟨z,_⟩|⟨_,c,hc1,hc2⟩
     ·rcases kx with w|w<;>(rw[w]at z;cases z)
     ·obtain⟨d,hd⟩:=hcl2 x hm
      obtain⟨d',h1,h2⟩:=Yj (BC.old _ hd)
      refine⟨d',h1,?_⟩
      rcases BC.mem x d' h2 with w|⟨_,_,w⟩
      ·have w':=(hcl x d' w).2
       rw[hc1]at w'
       cases w'
       exact hc2.keeps keep
      ·have:=S.lk w
       rw[e6]at this
       cases this
 ·intro x c e
  exact isc x c (lk' x c e)
 ·exact fresh _ (BR _)
 ·intro x c e
  rcases BC.mem x c (lk' x c e)with z|⟨_,z,_⟩
  ·have e':=(hcl x c z).2
   have hlt:=cellOld x c e'
   rw[Zm (Xp hlt)]
   exact I.freeC x c e'
  ·exact fresh c (by omega)
 ·show(Ju own caps σ).length=N'.length
  rw[S.names]
  unfold Ju
  simp
end
noncomputable def Zv7(J:It)(g:TG)(tt:TT)(te:TE)(σ0:St)(D:Addr)(Q:Hp->Prop)(H1:Hp):Prop :=
 ∃W:Nat->Nat->St->Hp->Prop,(∃m,W 0 m σ0 (upd H1 D (.lst [])))∧∀i m σ' H',W i m σ' H' ->
  (J.stop i H'∧Q H')∨(J.go i H'∧∀x H2,J.yld i H' x H2->g x σ' H2 λσ2 H3=>tt σ2 H3 λb H4=>
   if b=true then te σ2 H4 λy H5=>∃ys,H5 D=some (.lst ys)∧ys.length<Xi∧∃m',m'<m∧W (i+1) m' σ2 (upd H5 D (.lst (ys ++ [y])))
   else∃m',m'<m∧W (i+1) m' σ2 H4)
noncomputable def Zuw(own:List Str)(caps:List Nat)(wi:TI)(g:TG)(tt:TT)(te:TE):TE:=λσ H Q=>wi σ H λJ H1=>∀D,H1 D=none->Zv7 J g tt te (Ju own caps σ) D (Q (.ref D)) H1
noncomputable def Z4j:TT:=λ_ H Q=>Q true H
noncomputable def Zus(X:Cx)(ifs:List Expr)(t:TT):Prop :=
 ∀(pins:List (Addr×Obj)) (s:Xf) (σ:St) (H:Hp) (Q:Bool->Hp->Prop),Inv X pins σ H s->t σ H Q ->
  XC (X8 X.prog X.w) X.A (forIn ifs true λc r=>if r=true then do let ok←isTrue c X.env (eval c X.env);pure (JM ok)else pure (JM r)) (TP X pins σ Q) X.xe s
theorem Zxm{X:Cx}:Zus X [] Z4j:=λpins s σ H Q I h=>by
 rw[Ve]
 exact XH ⟨H,I,h⟩
theorem Zwl{X:Cx}{c:Expr}{t:TT}(h:PT X c t):Zus X [c] t:=λpins s σ H Q I q=>wpAny_tests_one (h pins s σ H Q I q)
theorem Zu9{M:Model}{A:Qt}{α:Type}{t:Sem α}{Q Q':α->Xf->Prop}{E:Xc->Xf->Prop}{s:Xf}(h:XC M A t Q (λ_ _=>False) s)(hQ:∀a s,Q a s->Q' a s):XC M A t Q' E s :=
 Qs h hQ λ_ _ z=>z.elim
section
variable {X:Cx}{own:List Str}{caps:List Nat}{N':List Str}{sc:Us}{tg elt iter:Expr}{ifs:List Expr}{pos:Pos}{wi:TI}{g:TG}{tt:TT}{te:TE}
theorem Zlb{pins p':List (Addr×Obj)}{σ σ':St}{H H':Hp}{s s':Xf}{fp:List Addr}{C:Addr}{cells:List (Str×Addr)}{h':Heap}(I:Inv X pins σ H s)(f:∀b∈fp,Zdi X pins H b)
  (I':Inv (Wo X N' sc C cells s H fp) p' σ' H' s') (hs:Bm C s'.heap h'):Inv X pins σ H' { s' with heap:=h' }:=by
 have hC:s.heap.objs.size≤C:=I'.ok.above
 have B:=I'.base
 have ne:∀b o,s.heap.get? b=some o->b≠C:=λb o e=>Xp (X5 (XD e) hC)
 obtain⟨m,⟨oC,_,_,hoC,_⟩,_⟩:=I'.loc
 refine I.call' (ch:=fp) (s':={ s' with heap:=h' }) I'.os ⟨λb o e n hb hx=>?_,λb o e n hb hx=>?_,B.free,λb o e hx=>?_,B.tups,B.frzs,B.tbls⟩ (λb ob e=>?_) I'.bare λb hb=>?_
 ·exact(hs.2 b (ne b o e)).trans (B.keep b o e n hb hx)
 ·obtain⟨sl,q⟩:=B.slot b o e n hb hx
  exact⟨sl,(hs.2 b (ne b o e)).trans q⟩
 ·obtain⟨o',q⟩:=B.there b o e hx
  exact⟨o',(hs.2 b (ne b o e)).trans q⟩
 ·have hfree:H' C=none:=I'.free
  refine(I'.hok b ob e).stay (λc w' hc q=>(hs.2 c ?_).trans q) (λ_ q=>q) λ_ _ q=>q
  rintro rfl
  rcases hc with rfl|hc
  ·rw[hfree]at e;cases e
  ·rw[hfree]at hc;cases hc
 ·obtain⟨_,f1,_,f3,f4,f5⟩:=f b hb
  exact⟨f3,f1,f4,f5⟩
theorem Zgj{Qf:Result->Xf->Prop}(S:CompScope X own caps N' sc)(hc:X.calm=true)
  (hg:∀C cells s₂ H₂ fp,PG (Wo X N' sc C cells s₂ H₂ fp) tg g) (ht:∀C cells s₂ H₂ fp,Zus (Wo X N' sc C cells s₂ H₂ fp) ifs tt) (he:∀C cells s₂ H₂ fp,PE (Wo X N' sc C cells s₂ H₂ fp) elt te)
  {pins:List (Addr×Obj)} {σ:St} {H:Hp} {s:Xf} {fp:List Addr} {it:Addr} {tn:Nat->Heap->Prop} {J:It} {Q:Hp->Prop} (I:Inv X pins σ H s) (T:Turn X.prog X.w X.K tg J fp it tn) (st:tn 0 s.heap) (f:∀b∈fp,Zdi X pins H b)
  (h:Zv7 J g tt te (Ju own caps σ) s.heap.objs.size Q H)
  (fin:∀s' σ' H' p' C cells,Inv (Wo X N' sc C cells s H fp) p' σ' H' s'->C=s.heap.objs.size+1->Q H'->Qf (.ok .next) s') :
  XC (X8 X.prog X.w) X.A (newFunctionEnv sc X.env.globals (Zft X.env sc.names []) [] X.env.qual none .none (some X.env)) (λcenv s₄=>
   cenv.locals=s.heap.objs.size+1∧U8 (X8 X.prog X.w) X.A (.compStart (.ListComp elt [⟨tg,iter,ifs,0⟩] sc pos) 0 (.ref it) (.ref s.heap.objs.size) { cenv with scope:=relabel sc X.env }) Qf s₄) X.xe
    { s with heap:=s.heap.push { cls:=.type "list",data:=.seq #[] } }:=by
 have hf:∀y∈sc.names,y.2= .free->∃c,X.env.cells.lookup y.1=some c:=λy hy e=>by
  obtain⟨n,k⟩:=y
  have e':k= .free:=e
  subst e'
  exact I.ok.has n (S.fr hy)
 have hcl:∀n c,(n,c)∈Zft X.env sc.names []->(n,QS)∈sc.names∧X.env.cells.lookup n=some c:=λn c m=>(Zhp sc.names [] hf n c m).elim (λz=>nomatch z) id
 have hap:=Zdj I.ok.inj sc.names [] hf S.nn (λ_ z=>nomatch z) (λ_ z=>nomatch z) .nil
 have I0:=Zlh (cl:=Zft X.env sc.names []) S I f (λb hb=>let⟨o,e,_⟩:=T.obj _ _ st b hb;⟨o,e⟩) hcl (λn m=>Zhi sc.names [] n m) hap
 refine Zfu ?_
 rw[show({ s with heap:=s.heap.push { cls:=.type "list",data:=.seq #[] } }:Xf).heap.objs.size=s.heap.objs.size+1 from Qy ..]
 refine⟨rfl,?_⟩
 dsimp only
 generalize hs0:({ s with heap:=Bv ((s.heap.push { cls:=.type "list",data:=.seq #[] }).push { cls:=.type "dict",data:=.dict #[] }) sc.names }:Xf)=s0 at I0⊢
 have st0:tn 0 s0.heap:=T.keep _ _ _ st λb hb o e=>by
  rw[←hs0]
  exact Ui _ _ _ _ (Xh _ (Xh _ e))
 generalize hcells:JV (s.heap.objs.size+1+1) sc.names (Zft X.env sc.names [])=cells at I0⊢
 -- the loop
 obtain⟨W,⟨m0,w0⟩,turn⟩:=h
 have loop:U8 (X8 X.prog X.w) X.A (.compLoop (.ListComp elt [⟨tg,iter,ifs,0⟩] sc pos) 0 (.ref it) (.ref s.heap.objs.size) (Wo X N' sc (s.heap.objs.size+1) cells s H fp).env) Qf s0:=by
  generalize hX':Wo X N' sc (s.heap.objs.size+1) cells s H fp=X' at I0⊢
  have hg':=hg (s.heap.objs.size+1) cells s H fp
  have ht':=ht (s.heap.objs.size+1) cells s H fp
  have he':=he (s.heap.objs.size+1) cells s H fp
  have fin':=λs' σ' H' p' (z:Inv (Wo X N' sc (s.heap.objs.size+1) cells s H fp) p' σ' H' s')=>fin s' σ' H' p' _ _ z rfl
  rw[hX']at hg' ht' he' fin'
  have hxe:X'.xe= λ_ _=>False:=by rw[←hX'];rfl
  have hpr:X'.prog=X.prog:=by rw[←hX'];rfl
  have hw:X'.w=X.w:=by rw[←hX'];rfl
  have hK:X'.K=X.K:=by rw[←hX'];rfl
  have hA:X'.A=X.A:=by rw[←hX'];rfl
  have hcm:X'.calm=true:=by rw[←hX'];exact hc
  have hex:X'.ex=fp:=by rw[←hX'];rfl
  have hpn:X'.pn=[]:=by rw[←hX'];rfl
  have stat:∀{H':Hp},(∀b∈fp,H' b=none)->∀b∈fp,Zdi X' [] H' b:=λhn b hb=>by
   have e1:=I0.ok.exf b (by rw[hex];exact hb)
   have e2:=I0.ok.exfs b (by rw[hex];exact hb)
   exact⟨hn b hb,e1.1,e2,.inl (by rw[hex];exact hb),e1.2,λp hp=>by rw[hpn]at hp;exact nomatch hp⟩
  have frD:∀b∈fp,(upd H s.heap.objs.size (.lst [])) b=none:=λb hb=>by
   obtain⟨o,e,_⟩:=T.obj _ _ st b hb
   rw[Zm (Xp (XD e))]
   exact(f b hb).1
  have T':Turn X'.prog X'.w X'.K tg J fp it tn:=by rw[hpr,hw,hK];exact T
  rw[←hpr,←hw,←hA]
  refine Ziy (λn s'=>∃i σ' H',Inv X' [] σ' H' s'∧tn i s'.heap∧(∀b∈fp,H' b=none)∧W i n σ' H') ?_ m0 ⟨0,_,_,I0,st0,frD,w0⟩
  rintro n s3 ⟨i,σ3,H3,I3,st3,fr3,w3⟩
  rcases turn i n σ3 H3 w3 with⟨stop,qn⟩|⟨go,step⟩
  ·refine Zu9 (T'.done X' rfl rfl rfl hcm i [] s3 σ3 H3 _ I3 (stat fr3) st3 stop) λr s4 qz9=>?_
   obtain⟨hr,I4⟩:=qz9
   subst hr
   exact fin' s4 σ3 H3 [] I4 qn
  ·refine Zu9 (T'.item X' rfl rfl rfl hcm i [] s3 σ3 H3 _ I3 (stat fr3) st3 go) λr s4 qz9=>?_
   obtain⟨u,hr,h4⟩:=qz9
   subst hr
   refine Zu9 h4 λ_ s5 qz9=>?_
   obtain⟨x,H5,I5,r5,y5,st5,fr5⟩:=qz9
   have I5':=I5.pinned (stat fr5) (T.obj _ _ st5)
   have hgg:=hg' _ s5 σ3 H5 x u _ I5' r5 (step x H5 y5)
   rw[hxe]at hgg
   refine Zu9 hgg λ_ s6 qz9=>?_
   obtain⟨σ6,H6,I6,q6⟩:=qz9
   have htt:=ht' _ s6 σ6 H6 _ I6 q6
   rw[hxe]at htt
   refine Zu9 htt λok s7 qz9=>?_
   obtain⟨H7,I7,q7⟩:=qz9
   have again:∀{σ7:St} {H7:Hp} {s7:Xf} {m:Nat},Inv X' ([] ++ Zgo fp s5.heap) σ7 H7 s7->W (i+1) m σ7 H7->m<n->∃m,m<n∧∃i σ' H',Inv X' [] σ' H' s7∧tn i s7.heap∧(∀b∈fp,H' b=none)∧W i m σ' H':=fun{σ7 H7 s7 m} I7 w7 hm=>by
    refine⟨m,hm,i+1,σ7,H7,I7.unpinned,T.keep _ _ _ st5 λb hb o e=>(I7.pin (b,o) (Xw _ (Xw _ (Jw hb e)))).1,λb hb=>?_,w7⟩
    obtain⟨o,e,d⟩:=T.obj _ _ st5 b hb
    exact(I7.pin (b,o) (Xw _ (Xw _ (Jw hb e)))).2.1
   cases ok with
   | false=>
    obtain⟨m',hm,w7⟩:=q7
    rw[if_neg Xq]
    exact again I7 w7 hm
   | true=>
    rw[if_pos rfl]
    have hee:=he' _ s7 σ6 H7 _ I7 q7
    rw[hxe]at hee
    refine Zu9 hee λy s8 qz9=>?_
    obtain⟨vy,H8,I8,r8,ys,hD,hlen,m',hm,w8⟩:=qz9
    have hap:=Ze7 (X:=X') _ s8 σ6 H8 (.ref s.heap.objs.size) [vy] (.ref s.heap.objs.size) [y] (λ_ H'=>W (i+1) m' σ6 H') I8 rfl (.cons r8 .nil) ⟨_,ys,vy,rfl,rfl,hD,hlen,w8⟩
    rw[hxe]at hap
    refine Zu9 hap λz s9 qz9=>?_
    obtain⟨_,H9,I9,_,w9⟩:=qz9
    exact again I9 w9 hm
 exact codeAny_compStart_list loop (T.self _ 0 _ _ _ st0 loop)
theorem Zw8(S:CompScope X own caps N' sc)(hc:X.calm=true)(hi:PI X tg iter wi)
  (hg:∀C cells s₂ H₂ fp,PG (Wo X N' sc C cells s₂ H₂ fp) tg g) (ht:∀C cells s₂ H₂ fp,Zus (Wo X N' sc C cells s₂ H₂ fp) ifs tt) (he:∀C cells s₂ H₂ fp,PE (Wo X N' sc C cells s₂ H₂ fp) elt te)
  (hs:∀x,Bk iter X.env x=pure x:=by intro _;rfl):PE X (.ListComp elt [⟨tg,iter,ifs,0⟩] sc pos) (Zuw own caps wi g tt te):=by
 intro pins s σ H Q I h
 rw[eval_ListComp]
 have hf:∀y∈sc.names,y.2= .free->∃c,X.env.cells.lookup y.1=some c:=λy hy e=>by
  obtain⟨n,k⟩:=y
  have e':k= .free:=e
  subst e'
  exact I.ok.has n (S.fr hy)
 refine wpAny_comprehension_free (use:=none) rfl hs (Zcd hf) S.kind (λy hy e=>by obtain⟨n,k⟩:=y;have e':k= .local:=e;subst e';exact S.lk hy) ?_
 refine thn (hi pins s σ H _ I h) λv s1 h1=>thn h1 λitv s2 h2=>?_
 obtain⟨it,fp,tn,J,H2,e,I2,T,st2,f2,q⟩:=h2
 subst e
 refine U6 ?_
 refine thn (Zgj (iter:=iter) (pos:=pos) (Qf:=compPost (X8 X.prog X.w) X.A X.xe none (EP X pins σ Q) (.ref s2.heap.objs.size) (s2.heap.objs.size+1)) S hc hg ht he I2 T st2 f2 (q s2.heap.objs.size I2.fresh) ?_) λcenv s4 ⟨hl,hr⟩=>?_
 ·intro s' σ' H' p' C cells I' eC q'
  subst eC
  obtain⟨m,hn,_⟩:=id I'.loc
  exact⟨m,hn,λh' hs'=>⟨.ref s2.heap.objs.size,H',Zlb I2 f2 I' hs',rfl,q'⟩⟩
 ·rw[←hl]at hr
  exact hr
end
section
variable {X:Cx}{own:List Str}{caps:List Nat}{N':List Str}{sc:Us}{tg elt iter:Expr}{ifs:List Expr}{pos:Pos}{wi:TI}{g:TG}{tt:TT}{te:TE}
theorem Zlr{i:Nat}{y:Str}{py spos:Pos}(hN:X.N.Nodup)(hy:X.N[i]? =some y)(hx:Loc X.env.scope y)(S:CompScope X own caps N' sc)(hc:X.calm=true)(hi:PI X tg iter wi)
  (hg:∀C cells s₂ H₂ fp,PG (Wo X N' sc C cells s₂ H₂ fp) tg g) (ht:∀C cells s₂ H₂ fp,Zus (Wo X N' sc C cells s₂ H₂ fp) ifs tt) (he:∀C cells s₂ H₂ fp,PE (Wo X N' sc C cells s₂ H₂ fp) elt te)
  (hsw:Bc (.ListComp elt [⟨tg,iter,ifs,0⟩] sc pos) (some (.Name y py)) spos.line X.env=pure true:=by rfl)
  (hs:∀x,Bk iter X.env x=pure x:=by intro _;rfl) (hf:X.fn y=true∨X.env.scope.names.lookup y=some .local:=by first|exact .inl rfl|exact .inr rfl|assumption) :
  PS X (.Assign [.Name y py] (.ListComp elt [⟨tg,iter,ifs,0⟩] sc pos) spos) (Z2k (Zuw own caps wi g tt te) (Zma i)):=by
 intro pins s σ H D I h
 have hfr:∀y∈sc.names,y.2= .free->∃c,X.env.cells.lookup y.1=some c:=λy hy e=>by
  obtain⟨n,k⟩:=y
  have e':k= .free:=e
  subst e'
  exact I.ok.has n (S.fr hy)
 rw[exec_Assign_Name_used _ _ _ _ hsw]
 refine Xd (wpAny_standAt (Xd ?_))
 show XC _ X.A (do let _←comprehension (.ListComp elt [⟨tg,iter,ifs,0⟩] sc pos) sc X.env _ (newList []) false (eval iter X.env) (some (assign (.Name y py) X.env))) _ _ s
 refine Xd (Qs (wpAny_comprehension_free (use:=some (assign (.Name y py) X.env)) (Q:=λ_ s'=>SP X pins D .next s') rfl hs (Zcd hfr) S.kind (λy hy e=>by obtain⟨n,k⟩:=y;have e':k= .local:=e;subst e';exact S.lk hy) ?_) (λ_ s' hq=>XH (XH hq)) λ_ _ e=>e)
 refine thn (hi pins s σ H _ I h) λv s1 h1=>thn h1 λitv s2 h2=>?_
 obtain⟨it,fp,tn,J,H2,e,I2,T,st2,f2,q⟩:=h2
 subst e
 refine U6 ?_
 refine thn (Zgj (iter:=iter) (pos:=pos) (Qf:=compPost (X8 X.prog X.w) X.A X.xe (some (assign (.Name y py) X.env)) (λ_ s'=>SP X pins D .next s') (.ref s2.heap.objs.size) (s2.heap.objs.size+1)) S hc hg ht he I2 T st2 f2 (q s2.heap.objs.size I2.fresh) ?_) λcenv s4 ⟨hl,hr⟩=>?_
 ·intro s' σ' H' p' C cells I' eC q'
  subst eC
  obtain⟨m,hn,_⟩:=id I'.loc
  have I3:Inv X pins σ H' s':=Zlb I2 f2 I' (.refl ..)
  show XC _ X.A (assign (.Name y py) X.env (.ref s2.heap.objs.size)) _ _ s'
  refine wpAny_assign_Name (Zid (v:=.ref s2.heap.objs.size) I3 hN hy hx rfl (λs5 I5 hsb=>?_) hf)
  have hC:s2.heap.objs.size<s2.heap.objs.size+1:=BR _
  have ltL:X.env.locals<s2.heap.objs.size:=I2.lt
  have ltC:∀x c,X.env.cells.lookup x=some c->c<s2.heap.objs.size:=λx c e=>by
   obtain⟨w',z⟩:=I2.cell x c e
   exact z.lt
  refine⟨m,?_,λh' hs'=>⟨σ.set i (some (.ref s2.heap.objs.size)),H',?_,q'⟩⟩
  ·obtain⟨a,hsa,ha⟩:=hsb
   refine hn.sameBut hsa ?_
   rcases ha with ha|ha
   ·rw[ha];exact XN (Vi ltL hC)
   ·exact XN (Vi (ltC _ _ ha) hC)
  ·refine I5.turned (t':=s5.toks) (it:=s2.heap.objs.size+1) (λb o hb e=>(hs'.2 b hb).trans e) I'.free (XN (Vi ltL hC)) (.inr (Xu I2.sz (Bo hC))) (λx c e=>Xp (Vi (ltC x c e) hC)) λp hp=>?_
   obtain⟨e,_⟩:=I2.pin p hp
   exact Xp (Vi (XD e) hC)
 ·rw[←hl]at hr
  exact hr
end
section
variable (n:Nat)(D:Addr)(Pv:Nat->List V->St->Hp->Prop)
variable {n D Pv}
end
mutual
inductive Is(H:Hp)(L:Addr->Prop):V->Xa->Prop where
 | non:Is H L .non .none
 | bl (b:Bool):Is H L (.bl b) (.bool b)
 | int (i:Int):Is H L (.int i) (.int i)
 | str (x:Str):Is H L (.str x) (.str x)
 | lst {a:Addr} {xs:List V} {ds:List Xa}:L a->H a=some (.lst xs)->IsAll H L xs ds->Is H L (.ref a) (.list ds)
 | tup {a:Addr} {xs:List V} {ds:List Xa}:H a=some (.tup xs)->IsAll H L xs ds->Is H L (.ref a) (.tuple ds)
inductive IsAll(H:Hp)(L:Addr->Prop):List V->List Xa->Prop where
 | nil:IsAll H L [] []
 | cons {x:V} {xs:List V} {d:Xa} {ds:List Xa}:Is H L x d->IsAll H L xs ds->IsAll H L (x :: xs) (d :: ds)
end
section
variable {H H':Hp}{L L':Addr->Prop}
theorem IsAll.ind{Q:List V->List Xa->Prop}(n:Q [] [])(c:∀{x:V} {xs:List V} {d:Xa} {ds:List Xa},Is H L x d->IsAll H L xs ds->Q xs ds->Q (x :: xs) (d :: ds)):∀{xs ds},IsAll H L xs ds->Q xs ds:=λh=>
 IsAll.rec (motive_1:=λ_ _ _=>True) (motive_2:=λxs ds _=>Q xs ds) trivial (λ_=>trivial) (λ_=>trivial) (λ_=>trivial) (λ_ _ _ _=>trivial) (λ_ _ _=>trivial) n (λp q _ r=>c p q r) h
theorem IsAll.length{xs:List V}{ds:List Xa}(h:IsAll H L xs ds):xs.length=ds.length:=IsAll.ind (Q:=λxs ds=>xs.length=ds.length) rfl (λ_ _ r=>congrArg (·+1) r) h
theorem IsAll.set{xs:List V}{ds:List Xa}{x:V}{d:Xa}(i:Nat)(h:IsAll H L xs ds)(k:Is H L x d):IsAll H L (xs.set i x) (ds.set i d) :=
 IsAll.ind (Q:=λxs ds=>∀i,IsAll H L (xs.set i x) (ds.set i d)) (λ_=>.nil) (λh q r i=>Nat.casesOn i (.cons k q) λi=>.cons h (r i)) h i
end
section
variable {X:Cx}{pins:List (Addr×Obj)}{σ:St}{H:Hp}{s:Xf}{L L':Addr->Prop}
end
noncomputable abbrev Shp(d:Xa):Prop:=Vz d=true
section
variable {X:Cx}
end
mutual
noncomputable def Z5:Xa->Bool
 | .none=>true
 | .int _=>true
 | .str _=>true
 | .list ds=>Zbs ds
 | .tuple ds=>Zbs ds
 | _=>false
noncomputable def Zbs:List Xa->Bool
 | []=>true
 | d :: ds=>Z5 d&&Zbs ds
end
mutual
theorem Zjm:∀(d e:Xa),Z5 d=true->Z5 e=true->(JG d e=true↔d=e)
 | .none,e,_,he=>by cases e<;>simp_all [JG,Z5]
 | .int i,e,_,he=>by cases e<;>simp_all [JG,Z5]
 | .str i,e,_,he=>by cases e<;>simp_all [JG,Z5]
 | .list ds,e,hd,he=>by
  cases e with
  | list es=>
   rw[Z5]at hd he
   rw[JG,Ul.injEq]
   exact Zdw ds es hd he
  | _=>simp_all [JG,Z5]
 | .tuple ds,e,hd,he=>by
  cases e with
  | tuple es=>
   rw[Z5]at hd he
   rw[JG,Xa.tuple.injEq]
   exact Zdw ds es hd he
  | _=>simp_all [JG,Z5]
 | .bool b,e,hd,_=>by simp[Z5]at hd
 | .dict b,e,hd,_=>by simp[Z5]at hd
theorem Zdw:∀(ds es:List Xa),Zbs ds=true->Zbs es=true->(Ut ds es=true↔ds=es)
 | [],[],_,_=>by simp[Ut]
 | [],_ :: _,_,_=>by simp[Ut]
 | _ :: _,[],_,_=>by simp[Ut]
 | d :: ds,e :: es,hd,he=>by
  rw[Zbs,Xz]at hd he
  rw[Ut,Xz,Zjm d e hd.1 he.1,Zdw ds es hd.2 he.2,List.cons.injEq]
end
theorem Zyu{d e:Xa}(h:Z5 d=true)(k:Z5 e=true)(q:d=e):JG d e=true:=(Zjm d e h k).mpr q
theorem Ztt{d e:Xa}(h:Z5 d=true)(k:Z5 e=true)(q:d≠e):JG d e=false:=Bool.eq_false_iff.mpr λz=>q ((Zjm d e h k).mp z)
noncomputable def fr(a b:Int):Xa:=.tuple [.int a,.int b]
noncomputable def frD(q:Rat):Xa:=fr q.num (q.den:Int)
noncomputable def BQ(n:Nat)(q:Rat):Prop:=Bt n q.num∧Bt n (q.den:Int)
theorem BQ.zero:BQ 1 0:=⟨by unfold Bt;decide,by unfold Bt;decide⟩
section
variable {X:Cx}{K:Xb}{a b o e:Expr}{ta tb tl to:TE}{pos:Pos}
theorem Zq6(hK:X.K=K):IxR X (Z5q K):=hK▸Zpc
theorem Zbw(hK:X.K=K):IxR X (rIx K):=hK▸Z2p
theorem Zri(hK:X.K=K):SlR X (Z87 K):=hK▸Zuh
noncomputable def Z7h(K:Xb):List V->Hp->VK->Prop:=λxs H Q=>∃p ys,xs=[.ref p]∧(SqL K H p ys∨SqT K H p ys)∧Q (.int ys.length) H
theorem Znq(hK:X.K=K):Zc1 X (.builtin "len") (Z7h K):=by subst hK;exact Ziw
noncomputable def Zm4(K:Xb):List V->Hp->VK->Prop:=λxs H Q=>∃p ys,xs=[.ref p]∧(SqL K H p ys∨SqT K H p ys)∧∀l,H l=none->Q (.ref l) (upd H l (.lst ys))
theorem Zmi(hK:X.K=K):Zc1 X (.type "list") (Zm4 K):=by subst hK;exact Zie
noncomputable def Yar(K:Xb)(ta:TE):TT:=λσ H Q=>ta σ H λx H'=>∃k,Z6o K x H' k∧Q k H'
theorem Zw6(hK:X.K=K)(ha:PE X a ta)(he:∀whole,isTrue a X.env whole=(do let v←whole;standAt a.pos;holding [v] (truthy v))):PT X a (Yar K ta):=by subst hK;exact Zsh ha he
theorem Zq0{tg l:Expr}(hK:X.K=K)(hl:PE X l tl):PI X tg l (Z00 K tl):=by subst hK;exact Zuk hl
theorem Zuz{tg l:Expr}(hK:X.K=K)(hl:PE X l tl):PI X tg l (Z8f K tl):=by subst hK;exact Z04 hl
theorem Zpw(hK:X.K=K):OpR X (QL .In) (rIn K false):=by subst hK;exact Zo1
theorem Zit(hK:X.K=K):OpR X (QL .NotIn) (rIn K true):=by subst hK;exact Zia
end
theorem Z6{H:Hp}{p:Addr}(h:H p=none)(o:HO):Same H (upd H p o):=λb u q=>by rw[Zm (Ye q h)];exact q
noncomputable def But(p:Addr)(H H':Hp):Prop:=∀b o,b≠p->H b=some o->H' b=some o
theorem But.refl(p:Addr)(H:Hp):But p H H:=λ_ _ _ h=>h
theorem But.upd(p:Addr)(H:Hp)(o:HO):But p H (upd H p o):=λb u n e=>by rw[Zm n];exact e
noncomputable def Pl(H:Hp)(p:Addr)(n:Nat):Prop:=∃a b c:Int,H p=some (.lst [.int a,.int b,.int c])∧0≤c∧c≤n
theorem Pl.at{H:Hp}{p:Addr}{n:Nat}(h:Pl H p n):∃xs,H p=some (.lst xs):=by
 obtain⟨a,b,c,e,h1,h2⟩:=h
 exact⟨_,e⟩
namespace B
theorem boot_len:Qp "len"=some (.builtin "len"):=by decide +kernel
theorem boot_isinstance:Qp "isinstance"=some (.builtin "isinstance"):=by decide +kernel
theorem boot_int:Qp "int"=some (.type "int"):=by decide +kernel
theorem boot_list:Qp "list"=some (.type "list"):=by decide +kernel
theorem boot_range:Qp "range"=some (.type "range"):=by decide +kernel
theorem boot_zip:Qp "zip"=some (.type "zip"):=by decide +kernel
theorem boot_set:Qp "set"=some (.type "set"):=by decide +kernel
end B
theorem Zlc{a b:Int}(hb:0<b):a.fmod b=a%b:=Int.fmod_eq_emod_of_nonneg a (by omega)
theorem Ztu:(2:Nat)≤Xi:=by decide
theorem BQ.n{n:Nat}{q:Rat}(h:BQ n q):Bt n q.num:=h.1
theorem BQ.d{n:Nat}{q:Rat}(h:BQ n q):Bt n (q.den:Int):=h.2
variable {G:Xb}
noncomputable def KS(G:Xb)(a:Addr)(ns:List Int):Prop:=∃(o:Obj) (its:Array Xc) (n:Nat),G.lookup a=some o∧o.cls= .type "list"∧o.dict=none∧o.data= .seq its n∧its.size≤Xi∧Vals (ns.map V.int) its.toList
theorem KS.sq{G:Xb}{H:Hp}{a:Addr}{ns:List Int}(h:KS G a ns):SqL G H a (ns.map V.int):=.inr h
noncomputable def exD(x:Str):Xa:=.dict [(.str x,.none)]
noncomputable def fnD(x:Str):Xa:=.dict [(.str x,.bool true)]
noncomputable def Z2z:Xa->Bool| .dict ((_,.bool _) :: _)=>true|_=>false
noncomputable def BV(G:Xb)(x:Str)(C:Addr):Prop:=XF G Xx x=some (some (.ref C))
structure Zb6(G:Xb)(C:Addr):Prop where
 ga:QZ G (.ref C) "__getattribute__"=some (some (.builtin "BaseException.__getattribute__"))
 gt:QZ G (.ref C) "__getattr__"=some none
 cl:QZ G (.ref C) "__class__"=some (some (.builtin "object.__class__"))
 isB:JL G (.ref C) (.type "BaseException")=some true
 isO:JL G (.ref C) (.type "object")=some true
 isC:(PySem.W.clsIn G C).isSome=true
 k1:Qg G (.ref C) (.type "int")=some false
 k2:Qg G (.ref C) (.type "bool")=some false
 k3:Qg G (.ref C) (.type "str")=some false
 k4:Qg G (.ref C) (.type "list")=some false
 k5:Qg G (.ref C) (.type "tuple")=some false
noncomputable def ExO(C a:Addr)(h:Heap):Prop:=∃o vs,h.get? a=some o∧o.cls= .ref C∧o.data= .fields vs
inductive ImO where
 | tup (xs:List V)
 | ext (φ:Heap->Prop)
noncomputable def ImO.ho:ImO->HO
 | .tup xs=>.tup xs
 | .ext φ=>.ext φ
inductive MuO where
 | lst (xs:List V)
 | dK (kvs:List (Key×V))
 | dT (kvs:List (List Key×V))
noncomputable def MuO.ho:MuO->HO
 | .lst xs=>.lst xs
 | .dK kvs=>.dK kvs
 | .dT kvs=>.dT kvs
noncomputable def Z0q:Key->Xa
 | .inl i=>.int i
 | .inr x=>.str x
noncomputable def keyT(ks:List Key):Xa:=.tuple (ks.map Z0q)
noncomputable abbrev KY:=Sum Key (List Key)
noncomputable def kyD:KY->Xa
 | .inl k=>Z0q k
 | .inr ks=>keyT ks
noncomputable def MuO.dic(t:Bool)(ks:List KY)(xs:List V):MuO->Prop
 | .lst _=>False
 | .dK kvs=>t=false∧ks=kvs.map (λp=>.inl p.1)∧xs=kvs.map (·.2)
 | .dT kvs=>t=true∧ks=kvs.map (λp=>.inr p.1)∧xs=kvs.map (·.2)
noncomputable def dcD(t:Bool)(ks:List KY)(ds:List Xa):Xa:=.dict ((.none,.bool t) :: (ks.map kyD).zip ds)
theorem ImO.nm{H:Hp}{a:Addr}{x:ImO}{y:MuO}(h:H a=some x.ho)(h':H a=some y.ho):False:=by
 rw[h]at h'
 cases x<;>cases y<;>cases h'
theorem ImO.nl{H:Hp}{a:Addr}{x:ImO}{ys:List V}(h:H a=some x.ho)(h':H a=some (.lst ys)):False:=by
 rw[h]at h'
 cases x<;>cases h'
mutual
inductive Da(G:Xb)(H:Hp)(L:Addr->Prop):V->Xa->Prop where
 | non:Da G H L .non .none
 | bl (b:Bool):Da G H L (.bl b) (.bool b)
 | int (i:Int):Da G H L (.int i) (.int i)
 | str (x:Str):Da G H L (.str x) (.str x)
 | lst {a:Addr} {xs:List V} {ds:List Xa}:L a->Rd H a (.lst xs)->Das G H L xs ds->Da G H L (.ref a) (.list ds)
 | tup {a:Addr} {xs:List V} {ds:List Xa}:H a=some (.tup xs)->Das G H L xs ds->Da G H L (.ref a) (.tuple ds)
 | scr {a:Addr} {ns:List Int}:KS G a ns->Da G H L (.ref a) (.list (ns.map XJ))
 | exc {a C:Addr} {x:Str}:Zb6 G C->BV G x C->H a=some (.ext (ExO C a))->Da G H L (.ref a) (exD x)
 | fn {a:Addr} {x:Str}:BV G x a->Da G H L (.ref a) (fnD x)
 | dic {a:Addr} {o:MuO} {t:Bool} {ks:List KY} {xs:List V} {ds:List Xa}:L a->Rd H a o.ho->o.dic t ks xs->Das G H L xs ds->Da G H L (.ref a) (dcD t ks ds)
inductive Das(G:Xb)(H:Hp)(L:Addr->Prop):List V->List Xa->Prop where
 | nil:Das G H L [] []
 | cons {x:V} {xs:List V} {d:Xa} {ds:List Xa}:Da G H L x d->Das G H L xs ds->Das G H L (x :: xs) (d :: ds)
end
section
variable {H H':Hp}{L L':Addr->Prop}
theorem Da.both{P:V->Xa->Prop}{Q:List V->List Xa->Prop}(c1:P .non .none)(c2:∀b,P (.bl b) (.bool b))(c3:∀i,P (.int i) (.int i))(c4:∀x,P (.str x) (.str x))
  (c5:∀{a:Addr} {xs:List V} {ds:List Xa},L a->Rd H a (.lst xs)->Q xs ds->P (.ref a) (.list ds)) (c6:∀{a:Addr} {xs:List V} {ds:List Xa},H a=some (.tup xs)->Q xs ds->P (.ref a) (.tuple ds))
  (c7:∀{a:Addr} {ns:List Int},KS G a ns->P (.ref a) (.list (ns.map XJ))) (c8:∀{a C:Addr} {x:Str},Zb6 G C->BV G x C->H a=some (.ext (ExO C a))->P (.ref a) (exD x)) (c9:∀{a:Addr} {x:Str},BV G x a->P (.ref a) (fnD x))
  (c10:∀{a:Addr} {o:MuO} {t:Bool} {ks:List KY} {xs:List V} {ds:List Xa},L a->Rd H a o.ho->o.dic t ks xs->Q xs ds->P (.ref a) (dcD t ks ds)) (n:Q [] []) (c:∀{x:V} {xs:List V} {d:Xa} {ds:List Xa},P x d->Q xs ds->Q (x :: xs) (d :: ds)):(∀{v d},Da G H L v d->P v d)∧∀{xs ds},Das G H L xs ds->Q xs ds :=
 ⟨λh=>Da.rec (motive_1:=λv d _=>P v d) (motive_2:=λxs ds _=>Q xs ds) c1 c2 c3 c4 (λp e _ r=>c5 p e r) (λe _ r=>c6 e r) (λk=>c7 k) (λk l m=>c8 k l m) (λk=>c9 k) (λp e k _ r=>c10 p e k r) n (λ_ _ p q=>c p q) h,
   λh=>Das.rec (motive_1:=λv d _=>P v d) (motive_2:=λxs ds _=>Q xs ds) c1 c2 c3 c4 (λp e _ r=>c5 p e r) (λe _ r=>c6 e r) (λk=>c7 k) (λk l m=>c8 k l m) (λk=>c9 k) (λp e k _ r=>c10 p e k r) n (λ_ _ p q=>c p q) h⟩
theorem Das.ind{Q:List V->List Xa->Prop}(n:Q [] [])(c:∀{x:V} {xs:List V} {d:Xa} {ds:List Xa},Da G H L x d->Das G H L xs ds->Q xs ds->Q (x :: xs) (d :: ds)):∀{xs ds},Das G H L xs ds->Q xs ds:=λh=>
 Das.rec (motive_1:=λ_ _ _=>True) (motive_2:=λxs ds _=>Q xs ds) trivial (λ_=>trivial) (λ_=>trivial) (λ_=>trivial) (λ_ _ _ _=>trivial) (λ_ _ _=>trivial) (λ_=>trivial) (λ_ _ _=>trivial) (λ_=>trivial) (λ_ _ _ _ _=>trivial) n (λp q _ r=>c p q r) h
theorem Da.frame2(hl:∀a (xs:MuO),L a->Rd H a xs.ho->L' a∧Rd H' a xs.ho)(ht:∀a (xs:ImO),H a=some xs.ho->H' a=some xs.ho):(∀{v:V} {d:Xa},Da G H L v d->Da G H' L' v d)∧∀{xs:List V} {ds:List Xa},Das G H L xs ds->Das G H' L' xs ds :=
 Da.both .non .bl .int .str (fun{_ xs _} p e r=>.lst (hl _ (.lst xs) p e).1 (hl _ (.lst xs) p e).2 r) (fun{_ xs _} e r=>.tup (ht _ (.tup xs) e) r) .scr (λc n e=>.exc c n (ht _ (.ext _) e)) .fn (λp e k r=>.dic (hl _ _ p e).1 (hl _ _ p e).2 k r) .nil .cons
theorem Da.frame(hl:∀a (xs:MuO),L a->Rd H a xs.ho->L' a∧Rd H' a xs.ho)(ht:∀a (xs:ImO),H a=some xs.ho->H' a=some xs.ho){v:V}{d:Xa}(h:Da G H L v d):Da G H' L' v d:=(Da.frame2 hl ht).1 h
theorem Das.frame(hl:∀a (xs:MuO),L a->Rd H a xs.ho->L' a∧Rd H' a xs.ho)(ht:∀a (xs:ImO),H a=some xs.ho->H' a=some xs.ho){xs:List V}{ds:List Xa}(h:Das G H L xs ds):Das G H' L' xs ds:=(Da.frame2 hl ht).2 h
theorem Rd.same{a:Addr}{u:HO}(s:Same H H')(h:Rd H a u):Rd H' a u:=h.imp (s _ _) λ⟨o,h⟩=>⟨o,s _ _ h⟩
theorem Rd.some{a:Addr}{u:HO}(h:Rd H a u):H a≠Option.none:=by
 rcases h with h|⟨o,h⟩<;>rw[h]<;>intro z<;>cases z
theorem Da.same(h:Same H H'){v:V}{d:Xa}(x:Da G H L v d):Da G H' L v d:=x.frame (λa xs p e=>⟨p,e.same h⟩) λa xs e=>h _ _ e
theorem Das.same(h:Same H H'){v:List V}{d:List Xa}(x:Das G H L v d):Das G H' L v d:=x.frame (λa xs p e=>⟨p,e.same h⟩) λa xs e=>h _ _ e
theorem Da.wide(h:∀a,L a->H a≠none->L' a){v:V}{d:Xa}(x:Da G H L v d):Da G H L' v d:=x.frame (λa xs p e=>⟨h a p e.some,e⟩) λa xs e=>e
theorem Das.wide(h:∀a,L a->H a≠none->L' a){v:List V}{d:List Xa}(x:Das G H L v d):Das G H L' v d:=x.frame (λa xs p e=>⟨h a p e.some,e⟩) λa xs e=>e
theorem Das.length{xs:List V}{ds:List Xa}(h:Das G H L xs ds):xs.length=ds.length:=Das.ind (Q:=λxs ds=>xs.length=ds.length) rfl (λ_ _ r=>congrArg (·+1) r) h
theorem Das.append{xs ys:List V}{ds es:List Xa}(h:Das G H L xs ds)(k:Das G H L ys es):Das G H L (xs ++ ys) (ds ++ es):=Das.ind (Q:=λxs ds=>Das G H L (xs ++ ys) (ds ++ es)) k (λh _ r=>.cons h r) h
theorem Das.snoc{xs:List V}{ds:List Xa}{x:V}{d:Xa}(h:Das G H L xs ds)(k:Da G H L x d):Das G H L (xs ++ [x]) (ds ++ [d]):=h.append (.cons k .nil)
theorem Das.get{xs:List V}{ds:List Xa}{i:Nat}{d:Xa}(h:Das G H L xs ds):ds[i]? =some d->∃x,xs[i]? =some x∧Da G H L x d :=
 Das.ind (Q:=λxs ds=>∀i,ds[i]? =some d->∃x,xs[i]? =some x∧Da G H L x d) (λ_ e=>(Option.some_ne_none _ (e.symm.trans List.getElem?_nil)).elim) (fun{x _ _ _} h _ r i=>Nat.casesOn i (λe=>⟨x,rfl,Qz e▸h⟩) λi e=>r i e) h i
theorem Das.take{xs:List V}{ds:List Xa}(n:Nat)(h:Das G H L xs ds):Das G H L (xs.take n) (ds.take n) :=
 Das.ind (Q:=λxs ds=>∀n,Das G H L (xs.take n) (ds.take n)) (λn=>by rw[List.take_nil,List.take_nil];exact .nil) (λh _ r n=>Nat.casesOn n .nil λn=>.cons h (r n)) h n
theorem Das.drop{xs:List V}{ds:List Xa}(n:Nat)(h:Das G H L xs ds):Das G H L (xs.drop n) (ds.drop n) :=
 Das.ind (Q:=λxs ds=>∀n,Das G H L (xs.drop n) (ds.drop n)) (λn=>by rw[List.drop_nil,List.drop_nil];exact .nil) (λh q r n=>Nat.casesOn n (.cons h q) λn=>r n) h n
theorem Das.ints(ns:List Int):Das G H L (ns.map V.int) (ns.map XJ):=by
 induction ns with
 | nil=>exact .nil
 | cons n ns ih=>exact .cons (.int n) ih
theorem Das.int_inv{xs:List V}{ns:List Int}(h:Das G H L xs (ns.map XJ)):xs=ns.map V.int:=by
 induction ns generalizing xs with
 | nil=>cases h;rfl
 | cons n ns ih=>
  rw[X6]at h
  cases h with
  | cons h r=>cases h;rw[ih r];rfl
end
theorem Zlk{h:Heap}(ns:List Int){us:List Xc}(v:Vals (ns.map V.int) us):∃as,ReadsAll h us (ns.map XJ) as:=by
 induction ns generalizing us with
 | nil=>cases v;exact⟨_,.nil⟩
 | cons n ns ih=>
  rw[X6]at v
  cases v with
  | cons r rs=>
   obtain⟨t,e⟩:=(show∃t,_=UL n t from r)
   subst e
   obtain⟨bs,k'⟩:=ih rs
   exact⟨_,.cons (.int n t) k'⟩
section
variable {X:Cx}{pins:List (Addr×Obj)}{σ:St}{H:Hp}{s:Xf}{L L':Addr->Prop}
theorem Da.reads2(hG:X.K=G)(I:Inv X pins σ H s):(∀{v:V} {d:Xa},Da G H L v d->∀u,RelV v u->d.canLay0=true->∃as,Reads s.heap u d as)∧∀{xs:List V} {ds:List Xa},Das G H L xs ds->∀us,Vals xs us->Vy ds=true->∃as,ReadsAll s.heap us ds as:=by
 refine Da.both ?_ ?_ ?_ ?_ ?_ ?_ ?_ ?_ ?_ ?_ ?_ ?_
 ·intro u r _
  cases(show _=Be from r)
  exact⟨_,.none⟩
 ·intro b u r _
  cases(show _=Value.bool b from r)
  exact⟨_,.bool b⟩
 ·intro i u r _
  obtain⟨t,e⟩:=(show∃t,_=UL i t from r)
  subst e
  exact⟨_,.int i t⟩
 ·intro x u r _
  obtain⟨t,e⟩:=(show∃t,_=Vu x t from r)
  subst e
  exact⟨_,.str x t⟩
 ·intro a xs ds _ e q u r hcl
  cases(show _=Qu a from r)
  obtain⟨_,its,n,vs,h1⟩:=(show ObjOk X.prog X.w H s.heap a (.lst xs)from e.ok I.hok)
  rw[JB]at hcl
  obtain⟨as,k⟩:=q _ vs hcl
  exact⟨_,Reads.list h1 rfl rfl k⟩
 ·intro a xs ds e q u r hcl
  cases(show _=Qu a from r)
  obtain⟨_,its,vs,o,ho,hc,n,hd⟩:=(show ObjOk X.prog X.w H s.heap a (.tup xs)from I.hok a _ e)
  rw[JB]at hcl
  obtain⟨as,k⟩:=q _ vs hcl
  exact⟨_,Reads.tuple ho hc hd k⟩
 ·intro a ns k u r _
  cases(show _=Qu a from r)
  subst hG
  obtain⟨its,vs,⟨o,n,ho,hc,hd,hs⟩,_⟩:=I.list (k.sq (H:=H))
  obtain⟨as,q⟩:=Zlk ns vs
  exact⟨_,Reads.list ho hc hs q⟩
 ·intro a C x _ _ e u r hc
  rw[exD,JB]at hc
  cases hc
 ·intro a x _ u r hc
  rw[fnD,JB]at hc
  cases hc
 ·intro a o t ks xs ds _ _ _ _ u r hc
  rw[dcD,JB]at hc
  cases hc
 ·intro us v _
  cases v
  exact⟨_,.nil⟩
 ·intro x xs d ds h q us v hc
  cases v with
  | cons r rs=>
   rw[Vy,Xz]at hc
   obtain⟨as,k⟩:=h _ r hc.1
   obtain⟨bs,k'⟩:=q _ rs hc.2
   exact⟨_,.cons k k'⟩
theorem Da.reads(hG:X.K=G)(I:Inv X pins σ H s){v:V}{d:Xa}{u:Xc}(h:Da G H L v d)(r:RelV v u)(c:d.canLay0=true):∃as,Reads s.heap u d as:=(Da.reads2 hG I).1 h u r c
end
inductive OT where
 | fz (d:Xa)
 | nd (ts:List OT)
 | tp (ts:List OT)
 | dc (t:Bool) (ks:List KY) (ds:List Xa)
mutual
noncomputable def OT.data:OT->Xa
 | .fz d=>d
 | .nd ts=>.list (OT.datas ts)
 | .tp ts=>.tuple (OT.datas ts)
 | .dc t ks ds=>dcD t ks ds
noncomputable def OT.datas:List OT->List Xa
 | []=>[]
 | t :: ts=>t.data :: OT.datas ts
end
theorem OT.datas_map:∀(ts:List OT),OT.datas ts=ts.map OT.data
 | []=>rfl
 | t :: ts=>by rw[OT.datas,OT.datas_map ts];rfl
@[simp] theorem OT.data_fz(d:Xa):(OT.fz d).data=d:=by rw[OT.data]
@[simp] theorem OT.data_nd(ts:List OT):(OT.nd ts).data= .list (ts.map OT.data):=by rw[OT.data,OT.datas_map]
@[simp] theorem OT.data_tp(ts:List OT):(OT.tp ts).data= .tuple (ts.map OT.data):=by rw[OT.data,OT.datas_map]
theorem OT.data_dc(t:Bool)(ks:List KY)(ds:List Xa):(OT.dc t ks ds).data=dcD t ks ds:=by rw[OT.data]
@[simp] theorem OT.map_fz(ds:List Xa):(ds.map OT.fz).map OT.data=ds:=by
 rw[Q5]
 exact(QR λd _=>OT.data_fz d).trans (List.map_id _)
mutual
inductive Own(G:Xb)(H:Hp)(L:Addr->Prop):V->OT->List Addr->Prop where
 | fz {v:V} {d:Xa}:Da G H L v d->Own G H L v (.fz d) []
 | nd {a:Addr} {xs:List V} {ts:List OT} {bs:List Addr}:H a=some (.lst xs)->Owns G H L xs ts bs->Own G H L (.ref a) (.nd ts) (a :: bs)
 | tp {a:Addr} {xs:List V} {ts:List OT} {bs:List Addr}:H a=some (.tup xs)->Owns G H L xs ts bs->Own G H L (.ref a) (.tp ts) bs
 | dc {a:Addr} {o:MuO} {t:Bool} {ks:List KY} {xs:List V} {ds:List Xa}:H a=some o.ho->o.dic t ks xs->Das G H L xs ds->Own G H L (.ref a) (.dc t ks ds) [a]
inductive Owns(G:Xb)(H:Hp)(L:Addr->Prop):List V->List OT->List Addr->Prop where
 | nil:Owns G H L [] [] []
 | cons {x:V} {xs:List V} {t:OT} {ts:List OT} {as bs:List Addr}:Own G H L x t as->Owns G H L xs ts bs->Owns G H L (x :: xs) (t :: ts) (as ++ bs)
end
section
variable {H H':Hp}{L L':Addr->Prop}
theorem Own.both{P:V->OT->List Addr->Prop}{Q:List V->List OT->List Addr->Prop}(c1:∀{v:V} {d:Xa},Da G H L v d->P v (.fz d) [])(c2:∀{a:Addr} {xs:List V} {ts:List OT} {bs:List Addr},H a=some (.lst xs)->Q xs ts bs->P (.ref a) (.nd ts) (a :: bs))
  (c3:∀{a:Addr} {xs:List V} {ts:List OT} {bs:List Addr},H a=some (.tup xs)->Q xs ts bs->P (.ref a) (.tp ts) bs) (c4:∀{a:Addr} {o:MuO} {t:Bool} {ks:List KY} {xs:List V} {ds:List Xa},H a=some o.ho->o.dic t ks xs->Das G H L xs ds->P (.ref a) (.dc t ks ds) [a]) (n:Q [] [] []) (c:∀{x:V} {xs:List V} {t:OT} {ts:List OT} {as bs:List Addr},P x t as->Q xs ts bs->Q (x :: xs) (t :: ts) (as ++ bs)) :
  (∀ {v t as},Own G H L v t as->P v t as)∧∀{xs ts as},Owns G H L xs ts as->Q xs ts as :=
 ⟨λh=>Own.rec (motive_1:=λv t as _=>P v t as) (motive_2:=λxs ts as _=>Q xs ts as) c1 (λe _ r=>c2 e r) (λe _ r=>c3 e r) (λe k r=>c4 e k r) n (λ_ _ p q=>c p q) h,
   λh=>Owns.rec (motive_1:=λv t as _=>P v t as) (motive_2:=λxs ts as _=>Q xs ts as) c1 (λe _ r=>c2 e r) (λe _ r=>c3 e r) (λe k r=>c4 e k r) n (λ_ _ p q=>c p q) h⟩
theorem Own.frame2(hl:∀a (xs:MuO),L a->Rd H a xs.ho->L' a∧Rd H' a xs.ho)(ht:∀a (xs:ImO),H a=some xs.ho->H' a=some xs.ho) :
  (∀ {v:V} {t:OT} {as:List Addr},Own G H L v t as->(∀a∈as,∀xs:MuO,H a=some xs.ho->H' a=some xs.ho)->Own G H' L' v t as)∧∀{xs:List V} {ts:List OT} {as:List Addr},Owns G H L xs ts as->(∀a∈as,∀xs:MuO,H a=some xs.ho->H' a=some xs.ho)->Owns G H' L' xs ts as :=
 Own.both (λh _=>.fz (h.frame hl ht)) (fun{_ xs _ _} e r ha=>.nd (ha _ (.head _) (.lst xs) e) (r λa m=>ha a (.tail _ m))) (fun{_ xs _ _} e r ha=>.tp (ht _ (.tup xs) e) (r ha)) (λe k r ha=>.dc (ha _ (.head _) _ e) k (r.frame hl ht)) (λ_=>.nil) (λh r ha=>.cons (h λa m=>ha a (Qk _ m)) (r λa m=>ha a (Xw _ m)))
theorem Own.frame(hl:∀a (xs:MuO),L a->Rd H a xs.ho->L' a∧Rd H' a xs.ho)(ht:∀a (xs:ImO),H a=some xs.ho->H' a=some xs.ho){v:V}{t:OT}{as:List Addr}(ha:∀a∈as,∀xs:MuO,H a=some xs.ho->H' a=some xs.ho)(h:Own G H L v t as):Own G H' L' v t as:=(Own.frame2 hl ht).1 h ha
theorem Owns.frame(hl:∀a (xs:MuO),L a->Rd H a xs.ho->L' a∧Rd H' a xs.ho)(ht:∀a (xs:ImO),H a=some xs.ho->H' a=some xs.ho){xs:List V}{ts:List OT}{as:List Addr}(ha:∀a∈as,∀xs:MuO,H a=some xs.ho->H' a=some xs.ho)(h:Owns G H L xs ts as):Owns G H' L' xs ts as:=(Own.frame2 hl ht).2 h ha
theorem Own.same(h:Same H H'){v:V}{t:OT}{as:List Addr}(x:Own G H L v t as):Own G H' L v t as:=x.frame (λa xs p e=>⟨p,e.same h⟩) (λa xs e=>h _ _ e) λa _ xs e=>h _ _ e
theorem Own.wide(h:∀a,L a->H a≠none->L' a){v:V}{t:OT}{as:List Addr}(x:Own G H L v t as):Own G H L' v t as:=x.frame (λa xs p e=>⟨h a p e.some,e⟩) (λa xs e=>e) λa _ xs e=>e
theorem Owns.wide(h:∀a,L a->H a≠none->L' a){v:List V}{t:List OT}{as:List Addr}(x:Owns G H L v t as):Owns G H L' v t as:=x.frame (λa xs p e=>⟨h a p e.some,e⟩) (λa xs e=>e) λa _ xs e=>e
theorem Owns.same(h:Same H H'){v:List V}{t:List OT}{as:List Addr}(x:Owns G H L v t as):Owns G H' L v t as:=x.frame (λa xs p e=>⟨p,e.same h⟩) (λa xs e=>h _ _ e) λa _ xs e=>h _ _ e
theorem Own.da2(h:∀a,L a->H a≠none->L' a):(∀{v:V} {t:OT} {as:List Addr},Own G H L v t as->(∀a∈as,L' a)->Da G H L' v t.data)∧∀{v:List V} {t:List OT} {as:List Addr},Owns G H L v t as->(∀a∈as,L' a)->Das G H L' v (OT.datas t) :=
 Own.both (λk _=>by rw[OT.data_fz];exact k.wide h) (λe r ha=>by rw[OT.data];exact .lst (ha _ (.head _)) (.inl e) (r λa m=>ha a (.tail _ m))) (λe r ha=>by rw[OT.data];exact .tup e (r ha)) (λe k r ha=>by rw[OT.data];exact .dic (ha _ (.head _)) (.inl e) k (r.wide h)) (λ_=>.nil) (λk r ha=>.cons (k λa m=>ha a (Qk _ m)) (r λa m=>ha a (Xw _ m)))
theorem Own.da(h:∀a,L a->H a≠none->L' a){v:V}{t:OT}{as:List Addr}(ha:∀a∈as,L' a)(k:Own G H L v t as):Da G H L' v t.data:=(Own.da2 h).1 k ha
theorem Owns.das(h:∀a,L a->H a≠none->L' a){v:List V}{t:List OT}{as:List Addr}(ha:∀a∈as,L' a)(k:Owns G H L v t as):Das G H L' v (OT.datas t):=(Own.da2 h).2 k ha
theorem Own.some2:(∀{v:V} {t:OT} {as:List Addr},Own G H L v t as->∀a∈as,∃xs:MuO,H a=some xs.ho)∧∀{v:List V} {t:List OT} {as:List Addr},Owns G H L v t as->∀a∈as,∃xs:MuO,H a=some xs.ho :=
 Own.both (λ_ _ m=>nomatch m) (fun{_ xs _ _} e r a m=>(Xn.mp m).elim (λq=>⟨.lst xs,q▸e⟩) (r a)) (λ_ r=>r) (fun{_ o _ _ _ _} e _ _ a m=>⟨o,Xl.mp m▸e⟩) (λ_ m=>nomatch m) (λk r a m=>(Qj.mp m).elim (k a) (r a))
theorem Own.some{v:V}{t:OT}{as:List Addr}(h:Own G H L v t as):∀a∈as,∃xs:MuO,H a=some xs.ho:=Own.some2.1 h
theorem Owns.some{v:List V}{t:List OT}{as:List Addr}(h:Owns G H L v t as):∀a∈as,∃xs:MuO,H a=some xs.ho:=Own.some2.2 h
theorem Owns.length{xs:List V}{ts:List OT}{as:List Addr}(h:Owns G H L xs ts as):xs.length=ts.length:=(Own.both (P:=λ_ _ _=>True) (Q:=λxs ts _=>xs.length=ts.length) (λ_=>trivial) (λ_ _=>trivial) (λ_ _=>trivial) (λ_ _ _=>trivial) rfl (λ_ r=>congrArg (·+1) r)).2 h
theorem Das.owns{xs:List V}{ds:List Xa}(h:Das G H L xs ds):Owns G H L xs (ds.map OT.fz) []:=Das.ind (Q:=λxs ds=>Owns G H L xs (ds.map OT.fz) []) .nil (λh _ r=>.cons (.fz h) r) h
end
variable {G:Xb}
noncomputable abbrev Zf:=List (Option OT)
noncomputable abbrev Fp:=Nat->List Addr
set_option genInjectivity false in
structure MC(G:Xb) where
 H₀:Hp
 as₀:Addr->Prop
 L:Addr->Prop
 σ₀:St
noncomputable def Foot(fp:Fp)(a:Addr):Prop:=∃i,a∈fp i
noncomputable def Lf(C:MC G)(fp:Fp)(ex:Addr->Prop)(a:Addr):Prop:=¬Foot fp a∧¬ex a∧(C.L a∨C.H₀ a=none)
structure Rel(C:MC G)(io:List Nat)(H:Hp)(σ:St)(δ:Zf)(fp:Fp)(ex:Addr->Prop):Prop where
 len:σ.length=δ.length
 own:∀(i:Nat) (t:OT),δ[i]? =some (some t)->∃v,σ[i]? =some (some v)∧Own G H (Lf C fp ex) v t (fp i)
 emp:∀i:Nat,(∀t,δ[i]? ≠some (some t))->fp i=[]
 nd:∀i,(fp i).Nodup
 dj:∀i j a,a∈fp i->a∈fp j->i=j
 dx:∀i a,a∈fp i->¬ex a
 xa:∀a,ex a->H a≠none
 fr:∀b o,C.H₀ b=some o->¬C.as₀ b->H b=some o
 al:∀b,H b=none->C.H₀ b=none
 new:∀i a,a∈fp i->(i∈io∧C.as₀ a)∨C.H₀ a=none
 io:∀i∈io,σ[i]? =C.σ₀[i]?
structure Stp(p:Bool)(H:Hp)(δ:Zf)(fp:Fp)(H':Hp)(δ':Zf)(fp':Fp):Prop where
 keep:∀b o,H b=some o->(p=true∨¬Foot fp b)->H' b=some o
 env:p=true->δ'=δ∧fp'=fp
 grow:∀a,Foot fp' a->Foot fp a∨H a=none
 al:∀b,H' b=none->H b=none
section
variable {C:MC G}{io:List Nat}{H H' H'':Hp}{σ:St}{δ δ' δ'':Zf}{fp fp' fp'':Fp}{ex ex':Addr->Prop}{p p' c:Bool}{v:V}{d:Xa}{r:OT}{new:List Addr}
theorem Rel.foot(R:Rel C io H σ δ fp ex){a:Addr}(h:Foot fp a):∃xs:MuO,H a=some xs.ho:=by
 obtain⟨i,h⟩:=h
 by_cases q:∃t,δ[i]? =some (some t)
 ·obtain⟨t,q⟩:=q
  obtain⟨v,_,o⟩:=R.own i t q
  exact o.some a h
 ·rw[R.emp i (λt z=>q ⟨t,z⟩)]at h
  exact nomatch h
theorem Rel.footSome(R:Rel C io H σ δ fp ex){a:Addr}(h:H a=none):¬Foot fp a:=λz=>by
 obtain⟨xs,e⟩:=R.foot z
 rw[h]at e
 cases e
theorem Stp.refl(p:Bool)(H:Hp)(δ:Zf)(fp:Fp):Stp p H δ fp H δ fp:=⟨λ_ _ h _=>h,λ_=>⟨rfl,rfl⟩,λ_ h=>.inl h,λ_ h=>h⟩
theorem Stp.same(h:Same H H')(hn:∀b,H' b=none->H b=none):Stp p H δ fp H' δ fp:=⟨λ_ _ q _=>h _ _ q,λ_=>⟨rfl,rfl⟩,λ_ h=>.inl h,hn⟩
theorem Same.al(h:Same H H'):∀b,H' b=none->H b=none:=λ_ q=>h.free q
theorem Stp.trans(a:Stp p H δ fp H' δ' fp')(b:Stp p' H' δ' fp' H'' δ'' fp''):Stp (p&&p') H δ fp H'' δ'' fp'' where
 keep:=λx o e h=>by
  rcases h with h|h
  ·rw[Xz]at h
   exact b.keep x o (a.keep x o e (.inl h.1)) (.inl h.2)
  ·refine b.keep x o (a.keep x o e (.inr h)) (.inr λz=>?_)
   rcases a.grow x z with z|z
   ·exact h z
   ·rw[e]at z;cases z
 env:=λh=>by
  rw[Xz]at h
  obtain⟨e1,e2⟩:=a.env h.1
  obtain⟨e3,e4⟩:=b.env h.2
  exact⟨e3.trans e1,e4.trans e2⟩
 grow:=λx h=>by
  rcases b.grow x h with h|h
  ·exact a.grow x h
  ·exact .inr (a.al x h)
 al:=λx h=>a.al x (b.al x h)
theorem Rel.frameL(R:Rel C io H σ δ fp ex)(S:Stp p H δ fp H' δ' fp')(hc:p=true∨c=true)(hx:∀a,ex' a->ex a∨H a=none) :
  (∀ a (xs:MuO),(c=true->Lf C fp ex a)->Rd H a xs.ho->(c=true->Lf C fp' ex' a)∧Rd H' a xs.ho)∧(∀a (xs:ImO),H a=some xs.ho->H' a=some xs.ho):=by
 have nf:∀a,Foot fp a->∃xs:MuO,H a=some xs.ho:=λa h=>R.foot h
 refine⟨λa xs l q=>⟨λhc'=>?_,?_⟩,λa xs q=>S.keep a _ q (.inr λz=>?_)⟩
 ·obtain⟨l1,l2,l3⟩:=l hc'
  refine⟨λz=>?_,λz=>?_,l3⟩
  ·rcases S.grow a z with z|z
   ·exact l1 z
   ·exact q.some z
  ·rcases hx a z with z|z
   ·exact l2 z
   ·exact q.some z
 ·have hk:p=true∨¬Foot fp a:=by
   rcases hc with h|h
   ·exact .inl h
   ·exact .inr (l h).1
  rcases q with q|⟨o,q⟩
  ·exact .inl (S.keep a _ q hk)
  ·exact .inr ⟨o,S.keep a _ q hk⟩
 ·obtain⟨ys,e⟩:=nf a z
  exact ImO.nm q e
theorem Rel.own_step(R:Rel C io H σ δ fp ex)(S:Stp p H δ fp H' δ' fp')(hc:p=true∨c=true)(hx:∀a,ex' a->ex a∨H a=none)(hn:∀a∈new,ex a)
  (x:Own G H (λa=>c=true->Lf C fp ex a) v r new):Own G H' (λa=>c=true->Lf C fp' ex' a) v r new :=
 x.frame (R.frameL S hc hx).1 (R.frameL S hc hx).2 λa m xs e=>S.keep a _ e (.inr λ⟨i,z⟩=>R.dx i a z (hn a m))
theorem Rel.owns_step(R:Rel C io H σ δ fp ex)(S:Stp p H δ fp H' δ' fp')(hc:p=true∨c=true)(hx:∀a,ex' a->ex a∨H a=none)(hn:∀a∈new,ex a){vs:List V}{rs:List OT}
  (x:Owns G H (λa=>c=true->Lf C fp ex a) vs rs new):Owns G H' (λa=>c=true->Lf C fp' ex' a) vs rs new :=
 x.frame (R.frameL S hc hx).1 (R.frameL S hc hx).2 λa m xs e=>S.keep a _ e (.inr λ⟨i,z⟩=>R.dx i a z (hn a m))
theorem Rel.drop(R:Rel C io H σ δ fp ex)(h:∀a,ex' a->ex a):Rel C io H σ δ fp ex' :=
 ⟨R.len,λi t e=>by
  obtain⟨v,e1,o⟩:=R.own i t e
  exact⟨v,e1,o.wide λa l _=>⟨l.1,λz=>l.2.1 (h a z),l.2.2⟩⟩,R.emp,R.nd,R.dj,λi a m z=>R.dx i a m (h a z),λa z=>R.xa a (h a z),R.fr,R.al,R.new,R.io⟩
theorem Rel.made(R:Rel C io H σ δ fp ex)(s:Same H H')(hn:∀a∈new,H a=none∧H' a≠none):Rel C io H' σ δ fp (λa=>ex a∨a∈new) :=
 ⟨R.len,λi t e=>by
  obtain⟨v,e1,o⟩:=R.own i t e
  refine⟨v,e1,(o.wide λa l q=>⟨l.1,λz=>?_,l.2.2⟩).same s⟩
  rcases z with z|z
  ·exact l.2.1 z
  ·exact q (hn a z).1,R.emp,R.nd,R.dj,λi a m z=>by
   rcases z with z|z
   ·exact R.dx i a m z
   ·exact R.footSome (hn a z).1 ⟨i,m⟩,λa z=>by
   rcases z with z|z
   ·intro q;exact R.xa a z (s.free q)
   ·exact(hn a z).2,λb o e n=>s _ _ (R.fr b o e n),λb q=>R.al b (s.free q),R.new,R.io⟩
end
noncomputable abbrev MEt:=Zf->(OT->Zf->Prop)->Prop
noncomputable abbrev MAt:=Zf->(List OT->Zf->Prop)->Prop
noncomputable abbrev MTt:=Zf->(Bool->Zf->Prop)->Prop
noncomputable abbrev exu(ex:Addr->Prop)(new:List Addr):Addr->Prop:=λa=>ex a∨a∈new
structure RE(C:MC G)(io:List Nat)(p c:Bool)(H:Hp)(σ:St)(δ:Zf)(fp:Fp)(ex:Addr->Prop)(H':Hp)(v:V)(r:OT)(δ':Zf)(fp':Fp)(new:List Addr):Prop where
 rel:Rel C io H' σ δ' fp' (exu ex new)
 stp:Stp p H δ fp H' δ' fp'
 own:Own G H' (λa=>c=true->Lf C fp' (exu ex new) a) v r new
 nd:new.Nodup
 fresh:∀a∈new,H a=none
structure RA(C:MC G)(io:List Nat)(p c:Bool)(H:Hp)(σ:St)(δ:Zf)(fp:Fp)(ex:Addr->Prop)(H':Hp)(v:List V)(r:List OT)(δ':Zf)(fp':Fp)(new:List Addr):Prop where
 rel:Rel C io H' σ δ' fp' (exu ex new)
 stp:Stp p H δ fp H' δ' fp'
 own:Owns G H' (λa=>c=true->Lf C fp' (exu ex new) a) v r new
 nd:new.Nodup
 fresh:∀a∈new,H a=none
noncomputable def SE(G:Xb)(io:List Nat)(p c:Bool)(t:TE)(m:MEt):Prop:=∀(C:MC G) (H:Hp) (σ:St) (δ:Zf) (fp:Fp) (ex:Addr->Prop) (K:OT->Zf->Prop) (Q:VK),Rel C io H σ δ fp ex->m δ K ->
 (∀ H' v r δ' fp' new,RE C io p c H σ δ fp ex H' v r δ' fp' new->K r δ'->Q v H')->t σ H Q
noncomputable def SA(G:Xb)(io:List Nat)(p c:Bool)(t:TA)(m:MAt):Prop:=∀(C:MC G) (H:Hp) (σ:St) (δ:Zf) (fp:Fp) (ex:Addr->Prop) (K:List OT->Zf->Prop) (Q:List V->Hp->Prop),Rel C io H σ δ fp ex->m δ K ->
 (∀ H' v r δ' fp' new,RA C io p c H σ δ fp ex H' v r δ' fp' new->K r δ'->Q v H')->t σ H Q
noncomputable def STt(G:Xb)(io:List Nat)(p:Bool)(t:TT)(m:MTt):Prop:=∀(C:MC G) (H:Hp) (σ:St) (δ:Zf) (fp:Fp) (ex:Addr->Prop) (K:Bool->Zf->Prop) (Q:Bool->Hp->Prop),Rel C io H σ δ fp ex->m δ K ->
 (∀ H' b δ' fp',Rel C io H' σ δ' fp' ex->Stp p H δ fp H' δ' fp'->K b δ'->Q b H')->t σ H Q
noncomputable def ME(X:Cx)(io:List Nat)(p c:Bool)(e:Expr)(m:MEt):Prop:=∃t,PE X e t∧SE X.K io p c t m
noncomputable def MA(X:Cx)(io:List Nat)(p c:Bool)(e:List Expr)(m:MAt):Prop:=∃t,PA X e t∧SA X.K io p c t m
noncomputable def MT(X:Cx)(io:List Nat)(p:Bool)(e:Expr)(m:MTt):Prop:=∃t,PT X e t∧STt X.K io p t m
noncomputable def MW(X:Cx)(io:List Nat)(p:Bool)(e:Expr)(m:MTt):Prop:=∃t,PW X e t∧STt X.K io p t m
section
variable {C:MC G}{io:List Nat}{H H' H'':Hp}{σ:St}{δ δ' δ'':Zf}{fp fp' fp'':Fp}{ex ex':Addr->Prop}{p p' c:Bool}{v:V}{d:Xa}{r:OT}{vs:List V}{rs:List OT}{new:List Addr}
theorem Rel.newOk(R:Rel C io H σ δ fp ex){a:Addr}(h:H a=none):¬Foot fp a∧¬ex a∧C.H₀ a=none:=⟨R.footSome h,λz=>R.xa a z h,R.al a h⟩
theorem RE.da(R:RE C io p c H σ δ fp ex H' v r δ' fp' new)(R0:Rel C io H σ δ fp ex):Da G H' (λa=>c=true->Lf C fp' ex a) v r.data:=by
 refine R.own.da (λa l _ h=>?_) (λa m _=>?_)
 ·exact⟨(l h).1,λz=>(l h).2.1 (.inl z),(l h).2.2⟩
 ·refine⟨λqz9=>?_,(R0.newOk (R.fresh a m)).2.1,.inr (R0.newOk (R.fresh a m)).2.2⟩
  obtain⟨i,z⟩:=qz9
  exact R.rel.dx i a z (.inr m)
theorem RA.das(R:RA C io p c H σ δ fp ex H' vs rs δ' fp' new)(R0:Rel C io H σ δ fp ex):Das G H' (λa=>c=true->Lf C fp' ex a) vs (OT.datas rs):=by
 refine R.own.das (λa l _ h=>?_) (λa m _=>?_)
 ·exact⟨(l h).1,λz=>(l h).2.1 (.inl z),(l h).2.2⟩
 ·refine⟨λqz9=>?_,(R0.newOk (R.fresh a m)).2.1,.inr (R0.newOk (R.fresh a m)).2.2⟩
  obtain⟨i,z⟩:=qz9
  exact R.rel.dx i a z (.inr m)
theorem RE.base(R:RE C io p c H σ δ fp ex H' v r δ' fp' new):Rel C io H' σ δ' fp' ex:=R.rel.drop λa z=>.inl z
theorem RA.base(R:RA C io p c H σ δ fp ex H' vs rs δ' fp' new):Rel C io H' σ δ' fp' ex:=R.rel.drop λa z=>.inl z
theorem Za3{a:Addr}:exu ex [] a↔ex a:=by simp[exu]
theorem RE.fz(R:Rel C io H' σ δ' fp' ex)(S:Stp p H δ fp H' δ' fp')(h:Da G H' (λa=>c=true->Lf C fp' ex a) v d):RE C io p c H σ δ fp ex H' v (.fz d) δ' fp' [] :=
 ⟨R.drop λa z=>Za3.mp z,S,.fz (h.wide λa l _ hc=>⟨(l hc).1,λz=>(l hc).2.1 (Za3.mp z),(l hc).2.2⟩),.nil,λa m=>nomatch m⟩
theorem RE.tree{H1:Hp}(R0:Rel C io H σ δ fp ex)(R:Rel C io H1 σ δ' fp' ex)(S:Stp p H δ fp H1 δ' fp')(s:Same H1 H')(hn:∀a∈new,H1 a=none)(nd:new.Nodup)
  (o:Own G H' (λa=>((c=true->Lf C fp' ex a)∨H1 a=none)∧a∉new) v r new):RE C io p c H σ δ fp ex H' v r δ' fp' new:=by
 refine⟨R.made s λa m=>⟨hn a m,λz=>?_⟩,?_,o.wide λa l q hc=>?_,nd,λa m=>S.al a (hn a m)⟩
 ·obtain⟨xs,e⟩:=o.some a m
  rw[z]at e;cases e
 ·have:=S.trans (p':=true) (Stp.same (p:=true) (δ:=δ') (fp:=fp') s s.al)
  rwa[Bool.and_true]at this
 ·rcases l.1 with l1|l1
  ·exact⟨(l1 hc).1,λz=>z.elim (l1 hc).2.1 l.2,(l1 hc).2.2⟩
  ·exact⟨R.footSome l1,λz=>z.elim (λz=>R.xa a z l1) l.2,.inr (R.al a l1)⟩
end
inductive ScD:V->Xa->Prop where
 | non:ScD .non .none
 | bl (b:Bool):ScD (.bl b) (.bool b)
 | int (i:Int):ScD (.int i) (.int i)
 | str (x:Str):ScD (.str x) (.str x)
theorem ScD.da{H:Hp}{L:Addr->Prop}{v:V}{d:Xa}(h:ScD v d):Da G H L v d:=by
 cases h
 ·exact .non
 ·exact .bl _
 ·exact .int _
 ·exact .str _
section
variable {X:Cx}{io:List Nat}{p p' c c':Bool}{e a b:Expr}{m ma mb:MEt}{es:List Expr}
noncomputable def Z3c(i:Nat):MEt:=λδ K=>match δ[i]? with|some (some (.fz d))=>K (.fz d) δ|_=>False
noncomputable def Z3b(i:Nat):MEt:=λδ K=>match δ[i]? with|some (some t)=>K (.fz t.data) δ|_=>False
noncomputable def mC(d:Xa):MEt:=λδ K=>K (.fz d) δ
theorem mv(i:Nat){x:Str}{pos:Pos}(hN:X.N[i]? =some x:=by rfl)(hv:Vis X.env.scope x:=by first|exact QG rfl|exact Qo (QG rfl)|exact Qo (Qo rfl))(hd:(x==("__debug__" : Str))=false:=by decide)
  (hcd:(x==("__classdict__" : Str))=false:=by decide):ME X io true true (.Name x pos) (Z3c i):=by
 refine⟨_,pv i hN hv hd hcd,λC H σ δ fp ex K Q R h k=>?_⟩
 unfold Z3c at h
 split at h
 ·rename_i d hd
  obtain⟨v,e,o⟩:=R.own i _ hd
  refine⟨v,e,k H v _ δ fp [] (.fz R (.refl _ _ _ _) ?_) h⟩
  generalize fp i=as at o
  cases o with
  | fz q=>exact q.wide λa l _ _=>l
 ·exact h.elim
theorem mo(i:Nat){x:Str}{pos:Pos}(hN:X.N[i]? =some x:=by rfl)(hv:Vis X.env.scope x:=by first|exact QG rfl|exact Qo (QG rfl)|exact Qo (Qo rfl))(hd:(x==("__debug__" : Str))=false:=by decide)
  (hcd:(x==("__classdict__" : Str))=false:=by decide):ME X io true false (.Name x pos) (Z3b i):=by
 refine⟨_,pv i hN hv hd hcd,λC H σ δ fp ex K Q R h k=>?_⟩
 unfold Z3b at h
 split at h
 ·rename_i d hd
  obtain⟨v,e,o⟩:=R.own i _ hd
  exact⟨v,e,k H v _ δ fp [] (.fz R (.refl _ _ _ _) (o.da (λa _ _ z=>(nomatch z)) λa _ z=>(nomatch z))) h⟩
 ·exact h.elim
theorem Zjx{t:V}{d:Xa}(h:PE X e (tC t))(s:ScD t d):ME X io true true e (mC d) :=
 ⟨_,h,λC H σ δ fp ex K Q R h k=>k H t _ δ fp [] (.fz R (.refl _ _ _ _) s.da) h⟩
theorem Zyl{i j pos}:ME X io true true (.Constant (.int i) j pos) (mC (.int i)):=Zjx Z0l (.int i)
theorem Zfx{b j pos}:ME X io true true (.Constant (.bool b) j pos) (mC (.bool b)):=Zjx Z38 (.bl b)
theorem Zbb{x j pos}:ME X io true true (.Constant (.str x) j pos) (mC (.str x)):=Zjx Zyc (.str x)
theorem SE.two{ta tb:TE}(ha:SE G io p c ta ma)(hb:SE G io p' c' tb mb)(hc:p'=true∨c=true){C:MC G}{H:Hp}{σ:St}{δ:Zf}{fp:Fp}{ex:Addr->Prop}{K:OT->OT->Zf->Prop}{Q:V->V->Hp->Prop}
  (R:Rel C io H σ δ fp ex) (h:ma δ λx δ1=>mb δ1 λy δ2=>K x y δ2)
  (k:∀H' x y u v δ' fp',Rel C io H' σ δ' fp' ex->Stp (p&&p') H δ fp H' δ' fp'->Da G H' (λa=>(c&&c')=true->Lf C fp' ex a) x u.data->Da G H' (λa=>(c&&c')=true->Lf C fp' ex a) y v.data->K u v δ'->Q x y H') :
  ta σ H λx H1=>tb σ H1 λy H2=>Q x y H2:=by
 refine ha C H σ δ fp ex _ _ R h λH1 x u δ1 fp1 new1 r1 h1=>?_
 refine hb C H1 σ δ1 fp1 (exu ex new1) _ _ r1.rel h1 λH2 y v δ2 fp2 new2 r2 h2=>?_
 have o1:=r1.rel.own_step (ex':=exu (exu ex new1) new2) r2.stp (c:=c) hc (λa z=>z.imp id λz=>r2.fresh a z) (λa m=>.inr m) r1.own
 have R2:Rel C io H2 σ δ2 fp2 ex:=r2.rel.drop λa z=>.inl (.inl z)
 have q1:Da G H2 (λa=>c=true->Lf C fp2 ex a) x u.data:=by
  refine o1.da (λa l _ z=>?_) (λa m z=>?_)
  ·exact⟨(l z).1,λw=>(l z).2.1 (.inl (.inl w)),(l z).2.2⟩
  ·have:=R.newOk (r1.fresh a m)
   refine⟨λqz9=>?_,this.2.1,.inr this.2.2⟩
   obtain⟨i,w⟩:=qz9
   exact r2.rel.dx i a w (.inl (.inr m))
 have q2:=r2.da r1.rel
 refine k H2 x y u v δ2 fp2 R2 (r1.stp.trans r2.stp) (q1.wide λa l _ z=>l (by rw[Xz]at z;exact z.1)) (q2.wide λa l _ z=>?_) h2
 have l:=l (by rw[Xz]at z;exact z.2)
 exact⟨l.1,λw=>l.2.1 (.inl w),l.2.2⟩
noncomputable def P2s(G:Xb)(r:R2)(rp:Xa->Xa->(Xa->Prop)->Prop):Prop:=∀(H:Hp) (L:Addr->Prop) (x y:V) (d e:Xa) (k:Xa->Prop) (Q:VK),Da G H L x d->Da G H L y e->rp d e k->(∀v d',ScD v d'->k d'->Q v H)->r x y H Q
noncomputable def P2(G:Xb)(r:R2)(rp:Xa->Xa->(OT->Prop)->Prop):Prop:=∀(H:Hp) (L:Addr->Prop) (x y:V) (d e:Xa) (k:OT->Prop) (Q:VK),Da G H L x d->Da G H L y e->rp d e k ->
 (∀ H' v o new,Same H H'->Own G H' (λa=>(L a∨H a=none)∧a∉new) v o new->new.Nodup->(∀a∈new,H a=none)->k o->Q v H')->r x y H Q
noncomputable def Zji(rp:Xa->Xa->(Xa->Prop)->Prop)(ma mb:MEt):MEt:=λδ K=>ma δ λx δ1=>mb δ1 λy δ2=>rp x.data y.data λd=>K (.fz d) δ2
noncomputable def Z1o(rp:Xa->Xa->(OT->Prop)->Prop)(ma mb:MEt):MEt:=λδ K=>ma δ λx δ1=>mb δ1 λy δ2=>rp x.data y.data λd=>K d δ2
theorem Zwq{r:R2}{rp}{ta tb:TE}(P:P2s G r rp)(ha:SE G io p c ta ma)(hb:SE G io p' c' tb mb)(hc:p'=true∨c=true):SE G io (p&&p') true (tOp r ta tb) (Zji rp ma mb):=by
 intro C H σ δ fp ex K Q R h k
 refine SE.two (K:=λx y δ2=>rp x.data y.data λd=>K (.fz d) δ2) (Q:=λx y H2=>r x y H2 Q) ha hb hc R h λH' x y u v δ' fp' R' S q1 q2 h'=>?_
 exact P H' _ x y _ _ _ _ q1 q2 h' λw d' sc h''=>k H' w _ δ' fp' [] (.fz R' S sc.da) h''
theorem Z46{r:R2}{rp}{ta tb:TE}(P:P2 G r rp)(ha:SE G io p c ta ma)(hb:SE G io p' c' tb mb)(hc:p'=true∨c=true):SE G io (p&&p') (c&&c') (tOp r ta tb) (Z1o rp ma mb):=by
 intro C H σ δ fp ex K Q R h k
 refine SE.two (K:=λx y δ2=>rp x.data y.data λd=>K d δ2) (Q:=λx y H2=>r x y H2 Q) ha hb hc R h λH' x y u v δ' fp' R' S q1 q2 h'=>?_
 exact P H' _ x y _ _ _ _ q1 q2 h' λH2 w o new s ow nd hn h''=>k H2 w o δ' fp' new (RE.tree R R' S s hn nd ow) h''
theorem Zbr{op:Operator}{r:R2}{rp}{pos:Pos}(ho:OpR X (Vn op) r)(P:P2s X.K r rp)(ha:ME X io p c a ma)(hb:ME X io p' c' b mb)(hc:p'=true∨c=true:=by first|exact QG rfl|exact Qo rfl):ME X io (p&&p') true (.BinOp a op b pos) (Zji rp ma mb):=by
 obtain⟨_,A,sa⟩:=ha
 obtain⟨_,B,sb⟩:=hb
 exact⟨_,Zzf ho A B,Zwq P sa sb hc⟩
theorem Z5o{op:Operator}{r:R2}{rp}{pos:Pos}(ho:OpR X (Vn op) r)(P:P2 X.K r rp)(ha:ME X io p c a ma)(hb:ME X io p' c' b mb)(hc:p'=true∨c=true:=by first|exact QG rfl|exact Qo rfl):ME X io (p&&p') (c&&c') (.BinOp a op b pos) (Z1o rp ma mb):=by
 obtain⟨_,A,sa⟩:=ha
 obtain⟨_,B,sb⟩:=hb
 exact⟨_,Zzf ho A B,Z46 P sa sb hc⟩
theorem Znk{op:CmpOp}{r:R2}{rp}{pos:Pos}(ho:OpR X (QL op) r)(P:P2s X.K r rp)(ha:ME X io p c a ma)(hb:ME X io p' c' b mb)(hc:p'=true∨c=true:=by first|exact QG rfl|exact Qo rfl)(hm:V7 op b=false):ME X io (p&&p') true (.Compare a [op] [b] pos) (Zji rp ma mb):=by
 obtain⟨_,A,sa⟩:=ha
 obtain⟨_,B,sb⟩:=hb
 exact⟨_,Zt4 ho A B hm,Zwq P sa sb hc⟩
theorem Zts{r:R2}{rp}{pos:Pos}(ho:IxR X r)(P:P2 X.K r rp)(ha:ME X io p c a ma)(hb:ME X io p' c' b mb)(hc:p'=true∨c=true:=by first|exact QG rfl|exact Qo rfl)(hs:Zgy b):ME X io (p&&p') (c&&c') (.Subscript a b pos) (Z1o rp ma mb):=by
 obtain⟨_,A,sa⟩:=ha
 obtain⟨_,B,sb⟩:=hb
 exact⟨_,Zyp ho A B hs,Z46 P sa sb hc⟩
noncomputable def kB(K:Bool->Zf->Prop):OT->Zf->Prop:=λo δ=>match o with| .fz (.bool b)=>K b δ|_=>False
theorem Z14{t:TE}(h:SE G io p c t m):STt G io p (Zu7 t) (λδ K=>m δ (kB K)):=by
 intro C H σ δ fp ex K Q R h' k
 refine h C H σ δ fp ex _ _ R h' λH' v r δ' fp' new r1 h1=>?_
 cases r with
 | nd ts=>exact h1.elim
 | tp ts=>exact h1.elim
 | dc _ _ _=>exact h1.elim
 | fz d=>
  cases d with
  | bool b=>
   cases r1.own with
   | fz q=>
    cases q
    exact⟨b,rfl,k H' b δ' fp' r1.base r1.stp h1⟩
  | _=>exact h1.elim
theorem Zcc{op:CmpOp}{r:R2}{rp}{pos:Pos}(ho:OpR X (QL op) r)(P:P2s X.K r rp)(ha:ME X io p c a ma)(hb:ME X io p' c' b mb)(hc:p'=true∨c=true:=by first|exact QG rfl|exact Qo rfl)(hm:V7 op b=false) :
  MT X io (p&&p') (.Compare a [op] [b] pos) (λδ K=>Zji rp ma mb δ (kB K)):=by
 obtain⟨_,A,sa⟩:=ha
 obtain⟨_,B,sb⟩:=hb
 exact⟨_,Zwf ho A B hm,Z14 (Zwq P sa sb hc)⟩
end
variable {G:Xb}
section
variable {X:Cx}{io:List Nat}{p p' p'' c c':Bool}{e a b:Expr}{m ma mb:MEt}{es rest:List Expr}{ta tb:MTt}{pos:Pos}
noncomputable def Z8m(t:MTt):MTt:=λδ K=>t δ λb δ'=>K (!b) δ'
noncomputable def Z8g(t u:MTt):MTt:=λδ K=>t δ λb δ'=>if b=true then u δ' K else K false δ'
noncomputable def mOr(t u:MTt):MTt:=λδ K=>t δ λb δ'=>if b=true then K true δ' else u δ' K
theorem Zzd(h:MT X io p a ta):MT X io p (.UnaryOp .Not a pos) (Z8m ta):=by
 obtain⟨_,A,sa⟩:=h
 exact⟨_,Z11 A,λC H σ δ fp ex K Q R h k=>sa C H σ δ fp ex _ _ R h λH' b δ' fp' R' S h'=>k H' (!b) δ' fp' R' S h'⟩
theorem Zwu(h:MT X io p a ta):MW X io p (.BoolOp .And [a] pos) ta:=by
 obtain⟨_,A,sa⟩:=h
 exact⟨_,Zvl A,sa⟩
theorem Zgf(h:MT X io p a ta):MW X io p (.BoolOp .Or [a] pos) ta:=by
 obtain⟨_,A,sa⟩:=h
 exact⟨_,Z1v A,sa⟩
theorem Stp.andL{H H':Hp}{δ δ':Zf}{fp fp':Fp}(S:Stp p H δ fp H' δ' fp'):Stp (p&&p') H δ fp H' δ' fp':=by
 have:=S.trans (Stp.refl p' H' δ' fp')
 exact this
theorem Zzl(h:MT X io p a ta)(g:MW X io p' (.BoolOp .And (b :: rest) pos) tb):MW X io (p&&p') (.BoolOp .And (a :: b :: rest) pos) (Z8g ta tb):=by
 obtain⟨_,A,sa⟩:=h
 obtain⟨_,B,sb⟩:=g
 exact⟨_,Zzp A B,λC H σ δ fp ex K Q R h k=>sa C H σ δ fp ex _ _ R h λH' b δ' fp' R' S h'=>by
  cases b with
  | true=>
   rw[if_pos rfl]at h'⊢
   exact sb C H' σ δ' fp' ex _ _ R' h' λH2 b2 δ2 fp2 R2 S2 h2=>k H2 b2 δ2 fp2 R2 (S.trans S2) h2
  | false=>
   rw[if_neg Xq]at h'⊢
   exact k H' false δ' fp' R' S.andL h'⟩
theorem Zlt(h:MT X io p a ta)(g:MW X io p' (.BoolOp .Or (b :: rest) pos) tb):MW X io (p&&p') (.BoolOp .Or (a :: b :: rest) pos) (mOr ta tb):=by
 obtain⟨_,A,sa⟩:=h
 obtain⟨_,B,sb⟩:=g
 exact⟨_,Z4r A B,λC H σ δ fp ex K Q R h k=>sa C H σ δ fp ex _ _ R h λH' b δ' fp' R' S h'=>by
  cases b with
  | true=>
   rw[if_pos rfl]at h'⊢
   exact k H' true δ' fp' R' S.andL h'
  | false=>
   rw[if_neg Xq]at h'⊢
   exact sb C H' σ δ' fp' ex _ _ R' h' λH2 b2 δ2 fp2 R2 S2 h2=>k H2 b2 δ2 fp2 R2 (S.trans S2) h2⟩
theorem MW.mt(h:MW X io p e ta):MT X io p e ta:=by
 obtain⟨_,A,sa⟩:=h
 exact⟨_,A.pt,sa⟩
noncomputable def Zrv:Xa->Option Bool
 | .none=>some false
 | .bool b=>some b
 | .int i=>some (i !=0)
 | .list ds=>some (!ds.isEmpty)
 | .tuple ds=>some (!ds.isEmpty)
 | _=>none
noncomputable def Z7r(m:MEt):MTt:=λδ K=>m δ λr δ'=>match Zrv r.data with|some b=>K b δ'|none=>False
theorem Das.isEmpty{H:Hp}{L:Addr->Prop}{xs:List V}{ds:List Xa}(h:Das G H L xs ds):xs.isEmpty=ds.isEmpty:=by cases h<;>rfl
theorem Zba(ha:ME X io p c a ma)(he:∀whole,isTrue a X.env whole=(do let v←whole;standAt a.pos;holding [v] (truthy v))):MT X io p a (Z7r ma):=by
 obtain⟨_,A,sa⟩:=ha
 exact⟨_,Zw6 rfl A he,λC H σ δ fp ex K' Q R h k=>sa C H σ δ fp ex _ _ R h λH' v r δ' fp' new r1 h1=>by
  have q:=r1.da R
  generalize r.data=d at q h1
  cases q with
  | non=>exact⟨_,rfl,k H' _ δ' fp' r1.base r1.stp h1⟩
  | bl b=>exact⟨_,rfl,k H' _ δ' fp' r1.base r1.stp h1⟩
  | int b=>exact⟨_,rfl,k H' _ δ' fp' r1.base r1.stp h1⟩
  | str x=>exact h1.elim
  | lst _ e q=>exact⟨_,.inl ⟨_,.inl e,rfl⟩,k H' _ δ' fp' r1.base r1.stp (by rw[q.isEmpty];exact h1)⟩
  | tup e q=>exact⟨_,.inr (.inl ⟨_,.inl (.inl e),rfl⟩),k H' _ δ' fp' r1.base r1.stp (by rw[q.isEmpty];exact h1)⟩
  | scr q=>exact⟨_,.inl ⟨_,q.sq,rfl⟩,k H' _ δ' fp' r1.base r1.stp (by simpa [Zrv]using h1)⟩
  | exc _ _ _=>exact h1.elim
  | fn _=>exact h1.elim
  | dic _ _ _ _=>exact h1.elim⟩
noncomputable def asB(d:Xa)(k:Bool->Prop):Prop:=match d with| .bool b=>k b|_=>False
noncomputable def Zym(a b:MEt):MEt:=λδ K=>a δ λx δ1=>asB x.data λc=>if c=true then b δ1 K else K (.fz (.bool false)) δ1
theorem Da.boolInv{H:Hp}{L:Addr->Prop}{v:V}{d:Xa}{k:Bool->Prop}(q:Da G H L v d)(h:asB d k):∃b,v= .bl b∧k b:=by
 cases q with
 | bl b=>exact⟨b,rfl,h⟩
 | _=>exact h.elim
theorem RE.step{C:MC G}{H H1 H2:Hp}{σ:St}{δ δ1 δ2:Zf}{fp fp1 fp2:Fp}{ex:Addr->Prop}{v:V}{r:OT}{new:List Addr}(S:Stp p H δ fp H1 δ1 fp1)(R:RE C io p' c H1 σ δ1 fp1 ex H2 v r δ2 fp2 new) :
  RE C io (p&&p') c H σ δ fp ex H2 v r δ2 fp2 new:=⟨R.rel,S.trans R.stp,R.own,R.nd,λa m=>S.al a (R.fresh a m)⟩
theorem Z5h{op}(h:ME X io p c a ma):ME X io p c (.BoolOp op [a] pos) ma:=by
 obtain⟨_,A,sa⟩:=h
 exact⟨_,Z21 A,sa⟩
theorem Z4q(ha:ME X io p c a ma)(hb:ME X io p' c' (.BoolOp .And (b :: rest) pos) mb):ME X io (p&&p') c' (.BoolOp .And (a :: b :: rest) pos) (Zym ma mb):=by
 obtain⟨_,A,sa⟩:=ha
 obtain⟨_,B,sb⟩:=hb
 exact⟨_,Zzz A B,λC H σ δ fp ex K Q R h k=>sa C H σ δ fp ex _ _ R h λH' v r δ' fp' new r1 h1=>by
  obtain⟨b,rfl,h1⟩:=(r1.da R).boolInv h1
  refine⟨b,rfl,?_⟩
  cases b with
  | true=>
   rw[if_pos rfl]at h1⊢
   exact sb C H' σ δ' fp' ex _ _ r1.base h1 λH2 w r2 δ2 fp2 new2 R2 h2=>k H2 w r2 δ2 fp2 new2 (R2.step r1.stp) h2
  | false=>
   rw[if_neg Xq]at h1⊢
   exact k H' _ _ δ' fp' [] (RE.fz r1.base r1.stp.andL (.bl false)) h1⟩
end
section
variable {X:Cx}{io:List Nat}{p p' p'' c c':Bool}{e a b:Expr}{m ma mb:MEt}{es rest:List Expr}{mr:MAt}{pos:Pos}
noncomputable def Z60:MAt:=λδ K=>K [] δ
noncomputable def Zzc(m:MEt)(mr:MAt):MAt:=λδ K=>m δ λr δ1=>mr δ1 λrs δ2=>K (r :: rs) δ2
theorem Zy5:MA X io true true [] Z60:=⟨_,Zd8,λC H σ δ fp ex K Q R h k=>k H [] [] δ fp [] ⟨R.drop λa z=>Za3.mp z,.refl _ _ _ _,.nil,.nil,λa m=>nomatch m⟩ h⟩
theorem Zvi(ha:ME X io p c e m)(hr:MA X io p' c' es mr)(hc:p'=true∨c=true)(hs:Xj (e :: es) X.env=(false,eval e X.env) :: Xj es X.env:=by rfl):MA X io (p&&p') (c&&c') (e :: es) (Zzc m mr):=by
 obtain⟨tA,A,sa⟩:=ha
 obtain⟨tB,B,sb⟩:=hr
 refine⟨_,Yw A B hs,λC H σ δ fp ex K Q R h k=>?_⟩
 refine sa C H σ δ fp ex _ _ R h λH1 x u δ1 fp1 new1 r1 h1=>?_
 refine sb C H1 σ δ1 fp1 (exu ex new1) _ _ r1.rel h1 λH2 ys us δ2 fp2 new2 r2 h2=>?_
 have o1:=r1.rel.own_step (ex':=exu (exu ex new1) new2) r2.stp (c:=c) hc (λa z=>z.imp id λz=>r2.fresh a z) (λa m=>.inr m) r1.own
 have eqx:∀a,exu ex (new1 ++ new2) a->exu (exu ex new1) new2 a:=λa z=>by
  rcases z with z|z
  ·exact .inl (.inl z)
  ·rcases Qj.mp z with z|z
   ·exact .inl (.inr z)
   ·exact .inr z
 refine k H2 (x :: ys) (u :: us) δ2 fp2 (new1 ++ new2) ⟨r2.rel.drop eqx,r1.stp.trans r2.stp,.cons (o1.wide λa l _ z=>?_) (r2.own.wide λa l _ z=>?_),?_,?_⟩ h2
 ·have l:=l (by rw[Xz]at z;exact z.1)
  exact⟨l.1,λw=>l.2.1 (eqx a w),l.2.2⟩
 ·have l:=l (by rw[Xz]at z;exact z.2)
  exact⟨l.1,λw=>l.2.1 (eqx a w),l.2.2⟩
 ·refine Bf.mpr ⟨r1.nd,r2.nd,λa m b m' z=>?_⟩
  subst z
  obtain⟨xs,e⟩:=r1.own.some a m
  rw[r2.fresh a m']at e
  cases e
 ·intro a m
  rcases Qj.mp m with m|m
  ·exact r1.fresh a m
  ·exact r1.stp.al a (r2.fresh a m)
noncomputable def Z8y(m:MAt):MEt:=λδ K=>m δ λrs δ'=>rs.length≤Xi∧K (.fz (.tuple (OT.datas rs))) δ'
noncomputable def Z7u(m:MAt):MEt:=λδ K=>m δ λrs δ'=>rs.length≤Xi∧K (.nd rs) δ'
theorem Z6i{x1}(h:MA X io p c es mr):ME X io p c (.Tuple es x1 pos) (Z8y mr):=by
 obtain⟨tA,A,sa⟩:=h
 refine⟨_,Zor A,λC H σ δ fp ex K Q R h k=>?_⟩
 refine sa C H σ δ fp ex _ _ R h λH1 vs rs δ1 fp1 new1 r1 h1=>⟨by rw[r1.own.length];exact h1.1,λq hq=>?_⟩
 have s:=Z6 hq (.tup vs)
 have R1:=r1.base
 have S:=r1.stp.trans (p':=true) (Stp.same (p:=true) (δ:=δ1) (fp:=fp1) s s.al)
 rw[Bool.and_true]at S
 refine k _ _ _ δ1 fp1 [] (.fz ?_ S (.tup Zq ((r1.das R).same s))) h1.2
 exact(R1.made (new:=[]) s λa m=>nomatch m).drop λa z=>.inl z
theorem Z51(h:MA X io p c es mr):ME X io p c (.List es pos) (Z7u mr):=by
 obtain⟨tA,A,sa⟩:=h
 refine⟨_,Z20 A,λC H σ δ fp ex K Q R h k=>?_⟩
 refine sa C H σ δ fp ex _ _ R h λH1 vs rs δ1 fp1 new1 r1 h1=>⟨by rw[r1.own.length];exact h1.1,λq hq=>?_⟩
 have s:=Z6 hq (.lst vs)
 have S:=r1.stp.trans (p':=true) (Stp.same (p:=true) (δ:=δ1) (fp:=fp1) s s.al)
 rw[Bool.and_true]at S
 have hqn:q∉new1:=λm=>by
  obtain⟨xs,e⟩:=r1.own.some q m
  rw[hq]at e;cases e
 have R2:=(r1.rel.made (new:=[q]) s λa m=>by
  rcases Xl.mp m with rfl
  exact⟨hq,by rw[Zq];intro z;cases z⟩)
 have eqx:∀a,exu ex (q :: new1) a->exu (exu ex new1) [q] a:=λa z=>by
  rcases z with z|z
  ·exact .inl (.inl z)
  ·rcases Xn.mp z with z|z
   ·exact .inr (Xl.mpr z)
   ·exact .inl (.inr z)
 refine k _ _ _ δ1 fp1 (q :: new1) ⟨R2.drop eqx,S,.nd Zq ((r1.own.wide λa l w z=>?_).same s),Qi.mpr ⟨hqn,r1.nd⟩,λa m=>?_⟩ h1.2
 ·have l:=l z
  refine⟨l.1,λy=>?_,l.2.2⟩
  rcases eqx a y with y|y
  ·exact l.2.1 y
  ·rcases Xl.mp y with rfl
   exact w hq
 ·rcases Xn.mp m with rfl|m
  ·exact r1.stp.al _ hq
  ·exact r1.fresh a m
end
variable {G:Xb}
noncomputable def spD(G:Xb)(S:List Xa->(OT->Prop)->Prop):Sp:=λvs H Q _=>∃L ds k,Das G H L vs ds∧S ds k∧
 ∀r v H' new,k r->Same H H'->Own G H' (λa=>(L a∨H a=none)∧a∉new) v r new->new.Nodup->(∀a∈new,H a=none)->Q v H'
section
variable {X:Cx}{io:List Nat}{p p' p'' c c':Bool}{e a b:Expr}{m ma mb:MEt}{es rest:List Expr}{mr:MAt}{pos:Pos}
variable {CX:CXT}{k:Nat}{f:Addr}{fd:Qc}{ps:List Str}{E:XK}{x:Str}{pp:Pos}
noncomputable def Zwj(S:List Xa->(OT->Prop)->Prop)(mr:MAt):MEt:=λδ K=>mr δ λrs δ1=>S (OT.datas rs) λr=>K r δ1
theorem Z4f{S}{t:TA}(sa:SA G io p c t mr):SE G io p c (Z2u (spD G S) [] E t) (Zwj S mr):=by
 intro C H σ δ fp ex K Q R h kk
 refine sa C H σ δ fp ex _ _ R h λH1 vs rs δ1 fp1 new1 r1 h1=>?_
 rw[XR]
 refine⟨_,_,_,r1.das R,h1,λr v H' new kr s o nd hn=>?_⟩
 exact kk H' v r δ1 fp1 new (RE.tree R r1.base r1.stp s hn nd o) kr
theorem Z1y{S}(F:FnOk X.prog X.w X.K X.mg X.base CX k f fd ps (spD X.K S))(hr:Room k X.A)(hg:Gl X x)(hm:X.mg x=some (.ref f))(hk:X7 X.K (.ref f)=true)(hb:Binds X.K fd ps [])(hx:Zkg CX X E)
  (ha:MA X io p c (e :: es) mr) (hdb:(x==("__debug__" : Str))=false:=by decide) (he:Xj (e :: es) X.env=(false,eval e X.env) :: Xj es X.env:=by rfl) (hpl:(Q6 pos (Xj es X.env)).any (·.1)=false:=by rfl) :
  ME X io p c (.Call (.Name x pp) (e :: es) [] pos) (Zwj S mr):=by
 obtain⟨_,A,sa⟩:=ha
 exact⟨_,Zuj F hr hg hm hk hb .nil hx A hdb he hpl,Z4f sa⟩
noncomputable def fpu(fp:Fp)(i:Nat)(as:List Addr):Fp:=λj=>if j=i then as else fp j
theorem Zy{fp:Fp}{i:Nat}{as:List Addr}:fpu fp i as i=as:=if_pos rfl
theorem Yk{fp:Fp}{i j:Nat}{as:List Addr}(h:j≠i):fpu fp i as j=fp j:=if_neg h
theorem Foot.of_u{fp:Fp}{i:Nat}{as:List Addr}{a:Addr}(h:Foot (fpu fp i as) a):a∈as∨∃j,j≠i∧a∈fp j:=by
 obtain⟨j,h⟩:=h
 by_cases e:j=i
 ·subst e;rw[Zy]at h;exact .inl h
 ·rw[Yk e]at h;exact .inr ⟨j,e,h⟩
theorem Rel.change{C:MC G}{H H':Hp}{σ:St}{δ:Zf}{fp:Fp}{ex:Addr->Prop}{i:Nat}{t t':OT}{v:V}{as' new:List Addr}(R:Rel C io H σ δ fp ex)(hi:δ[i]? =some (some t))(hv:σ[i]? =some (some v))
  (keep:∀b o,H b=some o->b∉fp i->H' b=some o) (al:∀b,H' b=none->H b=none) (o:Own G H' (Lf C (fpu fp i as') (exu ex new)) v t' as') (nd:as'.Nodup) (new':∀a∈as',a∈fp i∨H a=none)
  (hn:∀a∈new,H a=none∧H' a≠none∧a∉as') :
  Rel C io H' σ (δ.set i (some t')) (fpu fp i as') (exu ex new)∧Stp false H δ fp H' (δ.set i (some t')) (fpu fp i as'):=by
 have hil:i<δ.length:=(Xv.mp hi).1
 have apart:∀j a,j≠i->a∈fp j->a∉as':=λj a e m z=>by
  rcases new' a z with z|z
  ·exact e (R.dj j i a m z)
  ·exact R.footSome z ⟨j,m⟩
 constructor
 ·refine⟨by rw[BX];exact R.len,λj t'' e=>?_,λj h=>?_,λj=>?_,λj k a h1 h2=>?_,λj a h z=>?_,λa z w=>z.elim (λz=>R.xa a z (al a w)) (λz=>(hn a z).2.1 w),λb ob e n=>?_,λb z=>R.al b (al b z),λj a h=>?_,R.io⟩
  ·by_cases ej:j=i
   ·subst ej
    rw[QF hil]at e
    cases e
    exact⟨v,hv,by rw[Zy];exact o⟩
   ·rw[Qd (Ba ej)]at e
    obtain⟨w,e1,o1⟩:=R.own j t'' e
    refine⟨w,e1,?_⟩
    rw[Yk ej]
    refine o1.frame (λa xs l q=>?_) (λa xs q=>keep a _ q λz=>?_) λa m xs q=>keep a _ q λz=>ej (R.dj j i a m z)
    ·have na:a∉fp i:=λz=>l.1 ⟨i,z⟩
     refine⟨⟨λz=>?_,λz=>z.elim l.2.1 λz=>q.some (hn a z).1,l.2.2⟩,?_⟩
     ·rcases z.of_u with z|⟨k,_,z⟩
      ·rcases new' a z with z|z
       ·exact na z
       ·exact q.some z
      ·exact l.1 ⟨k,z⟩
     ·rcases q with q|⟨u,q⟩
      ·exact .inl (keep a _ q na)
      ·exact .inr ⟨u,keep a _ q na⟩
    ·obtain⟨ys,e⟩:=R.foot ⟨i,z⟩
     exact ImO.nm q e
  ·by_cases ej:j=i
   ·subst ej
    exact absurd (QF hil) (h t')
   ·rw[Yk ej]
    refine R.emp j λt'' z=>h t'' ?_
    rw[Qd (Ba ej)]
    exact z
  ·by_cases ej:j=i
   ·subst ej;rw[Zy];exact nd
   ·rw[Yk ej];exact R.nd j
  ·by_cases ej:j=i
   ·subst ej
    rw[Zy]at h1
    by_cases ek:k=j
    ·exact ek.symm
    ·rw[Yk ek]at h2
     exact absurd h1 (apart k a ek h2)
   ·rw[Yk ej]at h1
    by_cases ek:k=i
    ·subst ek
     rw[Zy]at h2
     exact absurd h2 (apart j a ej h1)
    ·rw[Yk ek]at h2
     exact R.dj j k a h1 h2
  ·by_cases ej:j=i
   ·subst ej
    rw[Zy]at h
    rcases z with z|z
    ·rcases new' a h with w|w
     ·exact R.dx _ a w z
     ·exact R.xa a z w
    ·exact(hn a z).2.2 h
   ·rw[Yk ej]at h
    rcases z with z|z
    ·exact R.dx j a h z
    ·exact R.footSome (hn a z).1 ⟨j,h⟩
  ·refine keep b ob (R.fr b ob e n) λz=>?_
   rcases R.new i b z with w|w
   ·exact n w.2
   ·rw[e]at w;cases w
  ·by_cases ej:j=i
   ·subst ej
    rw[Zy]at h
    rcases new' a h with w|w
    ·exact R.new _ a w
    ·exact .inr (R.al a w)
   ·rw[Yk ej]at h
    exact R.new j a h
 ·refine⟨λb ob e q=>keep b ob e λz=>(q.resolve_left (by decide)) ⟨i,z⟩,λz=>(nomatch z),λa z=>?_,al⟩
  rcases z.of_u with z|⟨j,_,z⟩
  ·exact(new' a z).imp (λw=>⟨i,w⟩) id
  ·exact .inl ⟨j,z⟩
noncomputable def PNs(G:Xb)(r:List V->Hp->VK->Prop)(rp:List Xa->(Xa->Prop)->Prop):Prop:=∀(H:Hp) (L:Addr->Prop) (xs:List V) (ds:List Xa) (k:Xa->Prop) (Q:VK),Das G H L xs ds->rp ds k->(∀v d',ScD v d'->k d'->Q v H)->r xs H Q
noncomputable def PN(G:Xb)(r:List V->Hp->VK->Prop)(rp:List Xa->(OT->Prop)->Prop):Prop:=∀(H:Hp) (L:Addr->Prop) (xs:List V) (ds:List Xa) (k:OT->Prop) (Q:VK),Das G H L xs ds->rp ds k ->
 (∀ H' v o new,Same H H'->Own G H' (λa=>(L a∨H a=none)∧a∉new) v o new->new.Nodup->(∀a∈new,H a=none)->k o->Q v H')->r xs H Q
noncomputable def Z26(rp:List Xa->(Xa->Prop)->Prop)(mr:MAt):MEt:=λδ K=>mr δ λrs δ1=>rp (OT.datas rs) λd=>K (.fz d) δ1
noncomputable def mBl(rp:List Xa->(OT->Prop)->Prop)(mr:MAt):MEt:=λδ K=>mr δ λrs δ1=>rp (OT.datas rs) λo=>K o δ1
theorem Z7m{r rp}{t:TA}(P:PNs G r rp)(sa:SA G io p c t mr):SE G io p true (tCB r t) (Z26 rp mr):=λC H σ δ fp ex K Q R h kk=>
 sa C H σ δ fp ex _ _ R h λH1 vs rs δ1 fp1 new1 r1 h1=>P H1 _ vs _ _ _ (r1.das R) h1 λv d' sc h2=>kk H1 v _ δ1 fp1 [] (.fz r1.base r1.stp sc.da) h2
theorem sBl{r rp}{t:TA}(P:PN G r rp)(sa:SA G io p c t mr):SE G io p c (tCB r t) (mBl rp mr):=λC H σ δ fp ex K Q R h kk=>
 sa C H σ δ fp ex _ _ R h λH1 vs rs δ1 fp1 new1 r1 h1=>P H1 _ vs _ _ _ (r1.das R) h1 λH' v o new s ow nd hn h2=>kk H' v o δ1 fp1 new (RE.tree R r1.base r1.stp s hn nd ow) h2
variable {id T:String}{r:List V->Hp->VK->Prop}
theorem Zc3{rp}(P:PNs X.K r rp)(hc:Zc1 X (.builtin id) r)(hg:Gl X x)(hm:X.mg x=none)(hv:Qp x=some (.builtin id))(ha:MA X io p c (e :: es) mr)(hn:x≠"__name__" :=by decide)(hdb:(x==("__debug__" : Str))=false:=by decide)
  (he:Xj (e :: es) X.env=(false,eval e X.env) :: Xj es X.env:=by rfl) (hpl:(Q6 pos (Xj es X.env)).any (·.1)=false:=by rfl):ME X io p true (.Call (.Name x pp) (e :: es) [] pos) (Z26 rp mr):=by
 obtain⟨_,A,sa⟩:=ha
 exact⟨_,Zhe hc hg hm hv A hn hdb he hpl,Z7m P sa⟩
theorem Z4u{rp}(P:PNs X.K r rp)(hc:Zc1 X (.type T) r)(hg:Gl X x)(hm:X.mg x=none)(hv:Qp x=some (.type T))(ha:MA X io p c (e :: es) mr)(hn:x≠"__name__" :=by decide)(hdb:(x==("__debug__" : Str))=false:=by decide)
  (he:Xj (e :: es) X.env=(false,eval e X.env) :: Xj es X.env:=by rfl) (hpl:(Q6 pos (Xj es X.env)).any (·.1)=false:=by rfl):ME X io p true (.Call (.Name x pp) (e :: es) [] pos) (Z26 rp mr):=by
 obtain⟨_,A,sa⟩:=ha
 exact⟨_,Zib hc hg hm hv A hn hdb he hpl,Z7m P sa⟩
theorem Yad{rp}(P:PN X.K r rp)(hc:Zc1 X (.type T) r)(hg:Gl X x)(hm:X.mg x=none)(hv:Qp x=some (.type T))(ha:MA X io p c (e :: es) mr)(hn:x≠"__name__" :=by decide)(hdb:(x==("__debug__" : Str))=false:=by decide)
  (he:Xj (e :: es) X.env=(false,eval e X.env) :: Xj es X.env:=by rfl) (hpl:(Q6 pos (Xj es X.env)).any (·.1)=false:=by rfl):ME X io p c (.Call (.Name x pp) (e :: es) [] pos) (mBl rp mr):=by
 obtain⟨_,A,sa⟩:=ha
 exact⟨_,Zib hc hg hm hv A hn hdb he hpl,sBl P sa⟩
end
variable {G:Xb}
mutual
noncomputable def Zaq:Xa->Bool
 | .none=>true
 | .bool _=>true
 | .int _=>true
 | .str _=>true
 | .tuple ds=>Zi2 ds
 | .list _=>false
 | .dict _=>false
noncomputable def Zi2:List Xa->Bool
 | []=>true
 | d :: ds=>Zaq d&&Zi2 ds
end
theorem Da.flat2{H:Hp}{L L':Addr->Prop}:(∀{v:V} {d:Xa},Da G H L v d->Zaq d=true->Da G H L' v d)∧∀{v:List V} {d:List Xa},Das G H L v d->Zi2 d=true->Das G H L' v d :=
 Da.both (λ_=>.non) (λb _=>.bl b) (λi _=>.int i) (λx _=>.str x) (λ_ _ _ h=>by rw[Zaq]at h;cases h) (λe r h=>.tup e (r (by rw[Zaq]at h;exact h))) (λk _=>.scr k) (λc n e _=>.exc c n e) (λk _=>.fn k) (λ_ _ _ _ h=>by rw[dcD,Zaq]at h;cases h) (λ_=>.nil)
  (λk r h=>by rw[Zi2,Xz]at h;exact .cons (k h.1) (r h.2))
theorem Da.flat{H:Hp}{L L':Addr->Prop}{v:V}{d:Xa}(h:Da G H L v d)(f:Zaq d=true):Da G H L' v d:=Da.flat2.1 h f
set_option genInjectivity false in
structure Ze3 where
 nx:Zf->Prop
 rt:OT->Zf->Prop
 bk:Zf->Prop:=λ_=>False
 ct:Zf->Prop:=λ_=>False
noncomputable abbrev MSt:=Ze3->Zf->Prop
noncomputable abbrev Kp(H:Hp)(fp:Fp)(H':Hp)(fp':Fp):Prop:=Stp false H [] fp H' [] fp'
theorem Stp.kp{p:Bool}{H H':Hp}{δ δ':Zf}{fp fp':Fp}(S:Stp p H δ fp H' δ' fp'):Kp H fp H' fp':=⟨λb o e q=>S.keep b o e (.inr (q.resolve_left (by decide))),λz=>(nomatch z),S.grow,S.al⟩
theorem Kp.trans{H H1 H2:Hp}{fp fp1 fp2:Fp}(a:Kp H fp H1 fp1)(b:Kp H1 fp1 H2 fp2):Kp H fp H2 fp2:=Stp.trans a b
theorem Kp.refl(H:Hp)(fp:Fp):Kp H fp H fp:=Stp.refl _ _ _ _
structure RelEnds(C:MC G)(io:List Nat)(ex:Addr->Prop)(H:Hp)(fp:Fp)(D:Ze3)(D':Ends):Prop where
 nx:∀H' σ' δ' fp',Rel C io H' σ' δ' fp' ex->Kp H fp H' fp'->D.nx δ'->D'.nx σ' H'
 bk:∀H' σ' δ' fp',Rel C io H' σ' δ' fp' ex->Kp H fp H' fp'->D.bk δ'->D'.bk σ' H'
 ct:∀H' σ' δ' fp',Rel C io H' σ' δ' fp' ex->Kp H fp H' fp'->D.ct δ'->D'.ct σ' H'
 rt:∀H' σ' v r δ' fp' new,Rel C io H' σ' δ' fp' (exu ex new)->Own G H' (Lf C fp' (exu ex new)) v r new->new.Nodup->(∀a∈new,C.H₀ a=none)->D.rt r δ'->D'.rt v H'
theorem RelEnds.shift{C:MC G}{io:List Nat}{ex:Addr->Prop}{H H1:Hp}{fp fp1:Fp}{D:Ze3}{D':Ends}(E:RelEnds C io ex H fp D D')(k:Kp H fp H1 fp1):RelEnds C io ex H1 fp1 D D' :=
 ⟨λH' σ' δ' fp' R q=>E.nx H' σ' δ' fp' R (k.trans q),λH' σ' δ' fp' R q=>E.bk H' σ' δ' fp' R (k.trans q),λH' σ' δ' fp' R q=>E.ct H' σ' δ' fp' R (k.trans q),E.rt⟩
noncomputable def SS(G:Xb)(io:List Nat)(t:TS)(m:MSt):Prop:=∀(C:MC G) (H:Hp) (σ:St) (δ:Zf) (fp:Fp) (ex:Addr->Prop) (D:Ze3) (D':Ends),Rel C io H σ δ fp ex->m D δ->RelEnds C io ex H fp D D'->t D' σ H
noncomputable def MS(X:Cx)(io:List Nat)(st:Stmt)(m:MSt):Prop:=∃t,PS X st t∧SS X.K io t m
noncomputable def MSs(X:Cx)(io:List Nat)(st:List Stmt)(m:MSt):Prop:=∃t,PSs X st t∧SS X.K io t m
section
variable {X:Cx}{io:List Nat}{p p' p'' c c':Bool}{e a b:Expr}{m ma mb:MEt}{es rest:List Expr}{mr:MAt}{pos:Pos}{st:Stmt}{sts:List Stmt}{u w:MSt}{mt:MTt}
noncomputable def Z10:MSt:=λD δ=>D.nx δ
noncomputable def Yaa(w:MSt)(D:Ze3)(δ:Zf):Prop:=w D δ
noncomputable def Z6g(u w:MSt):MSt:=λD δ=>u { D with nx:=Yaa w D } δ
theorem Zwc:MSs X io [] Z10:=⟨_,Zxx,λC H σ δ fp ex D D' R h E=>E.nx H σ δ fp R (.refl _ _) h⟩
theorem Zg(h:MS X io st u):MSs X io [st] u:=by
 obtain⟨_,A,s⟩:=h
 exact⟨_,Zt8 A,s⟩
theorem Zq5(h:MS X io st u)(g:MSs X io sts w):MSs X io (st :: sts) (Z6g u w):=by
 obtain⟨_,A,s⟩:=h
 obtain⟨tb,B,s'⟩:=g
 exact⟨_,Zqs A B,λC H σ δ fp ex D D' R h E=>s C H σ δ fp ex _ _ R h ⟨λH1 σ1 δ1 fp1 R1 k1 h1=>s' C H1 σ1 δ1 fp1 ex D D' R1 h1 (E.shift k1),E.bk,E.ct,E.rt⟩⟩
noncomputable def Z0i:MSt:=λ_ _=>False
theorem Zr8:MS X io st Z0i:=⟨_,Zsc,λC H σ δ fp ex D D' R h E=>h.elim⟩
noncomputable def Z2e(m:MEt):MSt:=λD δ=>m δ λ_ δ'=>D.nx δ'
theorem Zcr(he:ME X io p c e m)(hs:Bc e none pos.line X.env=pure false:=by rfl):MS X io (.Expr e pos) (Z2e m):=by
 obtain⟨_,A,s⟩:=he
 exact⟨_,Zfa A hs,λC H σ δ fp ex D D' R h E=>s C H σ δ fp ex _ _ R h λH' v r δ' fp' new r1 h1=>E.nx H' σ δ' fp' r1.base r1.stp.kp h1⟩
noncomputable def Z65(m:MEt):MSt:=λD δ=>m δ λr δ'=>D.rt r δ'
theorem Zy2(he:ME X io p true e m):MS X io (.Return (some e) pos) (Z65 m):=by
 obtain⟨_,A,s⟩:=he
 exact⟨_,Zqh A,λC H σ δ fp ex D D' R h E=>s C H σ δ fp ex _ _ R h λH' v r δ' fp' new r1 h1=>E.rt H' σ v r δ' fp' new r1.rel (r1.own.wide λa l _=>l rfl) r1.nd (λa m=>(R.newOk (r1.fresh a m)).2.2) h1⟩
noncomputable def Zro(i:Nat):MSt:=λD δ=>match δ[i]? with|some (some t)=>D.rt t (δ.set i none)|_=>False
theorem Rel.take{C:MC G}{H:Hp}{σ:St}{δ:Zf}{fp:Fp}{ex:Addr->Prop}{i:Nat}{t:OT}(R:Rel C io H σ δ fp ex)(hi:δ[i]? =some (some t)):Rel C io H σ (δ.set i none) (fpu fp i []) (exu ex (fp i)):=by
 have hil:i<δ.length:=(Xv.mp hi).1
 have get:∀j (t':OT),(δ.set i none)[j]? =some (some t')->j≠i∧δ[j]? =some (some t'):=λj t' e=>by
  by_cases ej:j=i
  ·subst ej;rw[QF hil]at e;cases e
  ·rw[Qd (Ba ej)]at e;exact⟨ej,e⟩
 have sub:∀j a,a∈fpu fp i [] j->j≠i∧a∈fp j:=λj a m=>by
  by_cases ej:j=i
  ·subst ej;rw[Zy]at m;exact nomatch m
  ·rw[Yk ej]at m;exact⟨ej,m⟩
 have lw:∀a,Lf C fp ex a->Lf C (fpu fp i []) (exu ex (fp i)) a:=λa l=>⟨λ⟨j,z⟩=>l.1 ⟨j,(sub j a z).2⟩,λz=>z.elim l.2.1 λz=>l.1 ⟨i,z⟩,l.2.2⟩
 refine⟨by rw[BX];exact R.len,λj t' e=>?_,λj h=>?_,λj=>?_,λj k a h1 h2=>R.dj j k a (sub j a h1).2 (sub k a h2).2,λj a h z=>?_,λa z w=>?_,R.fr,R.al,λj a h=>R.new j a (sub j a h).2,R.io⟩
 ·obtain⟨ej,e⟩:=get j t' e
  obtain⟨w,e1,o⟩:=R.own j t' e
  exact⟨w,e1,by rw[Yk ej];exact o.wide λa l _=>lw a l⟩
 ·by_cases ej:j=i
  ·subst ej;rw[Zy]
  ·rw[Yk ej]
   exact R.emp j λt' z=>h t' (by rw[Qd (Ba ej)];exact z)
 ·by_cases ej:j=i
  ·subst ej;rw[Zy];exact .nil
  ·rw[Yk ej];exact R.nd j
 ·obtain⟨ej,h⟩:=sub j a h
  rcases z with z|z
  ·exact R.dx j a h z
  ·exact ej (R.dj j i a h z)
 ·rcases z with z|z
  ·exact R.xa a z w
  ·exact R.footSome w ⟨i,z⟩
theorem Zbh(i:Nat){x:Str}{px:Pos}(hio:i∉io:=by decide)(hN:X.N[i]? =some x:=by rfl)(hv:Vis X.env.scope x:=by first|exact QG rfl|exact Qo (QG rfl)|exact Qo (Qo rfl))(hd:(x==("__debug__" : Str))=false:=by decide)
  (hcd:(x==("__classdict__" : Str))=false:=by decide):MS X io (.Return (some (.Name x px)) pos) (Zro i):=by
 refine⟨_,Zqh (pv i hN hv hd hcd),λC H σ δ fp ex D D' R h E=>?_⟩
 unfold Zro at h
 split at h
 case h_2=>exact h.elim
 rename_i t hi
 obtain⟨v,e,o⟩:=R.own i t hi
 have lw:∀a,Lf C fp ex a->H a≠none->Lf C (fpu fp i []) (exu ex (fp i)) a:=λa l _=>⟨λz=>by
  rcases z.of_u with z|⟨j,_,z⟩
  ·exact nomatch z
  ·exact l.1 ⟨j,z⟩,λz=>z.elim l.2.1 λz=>l.1 ⟨i,z⟩,l.2.2⟩
 have hn:∀a∈fp i,C.H₀ a=none:=λa m=>by
  rcases R.new i a m with z|z
  ·exact absurd z.1 hio
  ·exact z
 exact⟨v,e,E.rt H σ v t _ _ (fp i) (R.take hi) (o.wide lw) (R.nd i) hn h⟩
noncomputable def Z7s(t:MTt)(u w:MSt):MSt:=λD δ=>t δ λb δ'=>if b=true then u D δ' else w D δ'
theorem Z33{cnd:Expr}{ss ss':List Stmt}(hc:MT X io p cnd mt)(ha:MSs X io ss u)(hb:MSs X io ss' w):MS X io (.If cnd ss ss' pos) (Z7s mt u w):=by
 obtain⟨_,T,s⟩:=hc
 obtain⟨_,A,sa⟩:=ha
 obtain⟨_,B,sb⟩:=hb
 exact⟨_,Z4g T A B,λC H σ δ fp ex D D' R h E=>s C H σ δ fp ex _ _ R h λH' b δ' fp' R' S h'=>by
  cases b with
  | true=>
   rw[if_pos rfl]at h'⊢
   exact sa C H' σ δ' fp' ex D D' R' h' (E.shift S.kp)
  | false=>
   rw[if_neg Xq]at h'⊢
   exact sb C H' σ δ' fp' ex D D' R' h' (E.shift S.kp)⟩
theorem Rel.put{C:MC G}{H:Hp}{σ:St}{δ:Zf}{fp:Fp}{ex:Addr->Prop}{i:Nat}{v:V}{r:OT}{new:List Addr}(R:Rel C io H σ δ fp (exu ex new))(hio:i∉io)(o:Own G H (Lf C fp (exu ex new)) v r new)(nd:new.Nodup)
  (hn:∀a∈new,C.H₀ a=none∧¬ex a):∃fp',Rel C io H (σ.set i (some v)) (δ.set i (some r)) fp' ex∧∀a,Foot fp' a->Foot fp a∨a∈new:=by
 by_cases hil:i<δ.length
 case neg=>
  refine⟨fp,?_,λa h=>.inl h⟩
  have hl:=R.len
  rw[List.set_eq_of_length_le (show δ.length≤i by omega),List.set_eq_of_length_le (show σ.length≤i by omega)]
  exact R.drop λa z=>.inl z
 have hsl:i<σ.length:=by rw[R.len];exact hil
 have sub:∀a,Foot (fpu fp i new) a->Foot fp a∨a∈new:=λa z=>by
  rcases z.of_u with z|⟨j,_,z⟩
  ·exact .inr z
  ·exact .inl ⟨j,z⟩
 have lw:∀a,Lf C fp (exu ex new) a->Lf C (fpu fp i new) ex a:=λa l=>⟨λz=>(sub a z).elim l.1 λz=>l.2.1 (.inr z),λz=>l.2.1 (.inl z),l.2.2⟩
 refine⟨fpu fp i new,⟨by rw[BX,BX];exact R.len,λj t' e=>?_,λj h=>?_,λj=>?_,λj k a h1 h2=>?_,λj a h z=>?_,λa z=>R.xa a (.inl z),R.fr,R.al,λj a h=>?_,λj hj=>?_⟩,sub⟩
 ·by_cases ej:j=i
  ·subst ej
   rw[QF hil]at e
   cases e
   exact⟨v,QF hsl,by rw[Zy];exact o.wide λa l _=>lw a l⟩
  ·rw[Qd (Ba ej)]at e
   obtain⟨w,e1,o1⟩:=R.own j t' e
   exact⟨w,by rw[Qd (Ba ej)];exact e1,by rw[Yk ej];exact o1.wide λa l _=>lw a l⟩
 ·by_cases ej:j=i
  ·subst ej;exact absurd (QF hil) (h r)
  ·rw[Yk ej]
   exact R.emp j λt' z=>h t' (by rw[Qd (Ba ej)];exact z)
 ·by_cases ej:j=i
  ·subst ej;rw[Zy];exact nd
  ·rw[Yk ej];exact R.nd j
 ·by_cases ej:j=i
  ·subst ej
   rw[Zy]at h1
   by_cases ek:k=j
   ·exact ek.symm
   ·rw[Yk ek]at h2
    exact absurd (.inr h1) (R.dx k a h2)
  ·rw[Yk ej]at h1
   by_cases ek:k=i
   ·subst ek
    rw[Zy]at h2
    exact absurd (.inr h2) (R.dx j a h1)
   ·rw[Yk ek]at h2
    exact R.dj j k a h1 h2
 ·by_cases ej:j=i
  ·subst ej
   rw[Zy]at h
   exact(hn a h).2 z
  ·rw[Yk ej]at h
   exact R.dx j a h (.inl z)
 ·by_cases ej:j=i
  ·subst ej
   rw[Zy]at h
   exact .inr (hn a h).1
  ·rw[Yk ej]at h
   exact R.new j a h
 ·have ej:j≠i:=λz=>hio (z▸hj)
  rw[Qd (Ba ej)]
  exact R.io j hj
theorem RE.put{C:MC G}{H H':Hp}{σ:St}{δ δ':Zf}{fp fp':Fp}{ex:Addr->Prop}{i:Nat}{v:V}{r:OT}{new:List Addr}(R:RE C io p true H σ δ fp ex H' v r δ' fp' new)(R0:Rel C io H σ δ fp ex)(hio:i∉io) :
  ∃fp2,Rel C io H' (σ.set i (some v)) (δ'.set i (some r)) fp2 ex∧Kp H fp H' fp2:=by
 obtain⟨fp2,R2,g⟩:=R.rel.put hio (R.own.wide λa l _=>l rfl) R.nd λa m=>⟨(R0.newOk (R.fresh a m)).2.2,(R0.newOk (R.fresh a m)).2.1⟩
 refine⟨fp2,R2,λb o e q=>R.stp.keep b o e (.inr (q.resolve_left (by decide))),λz=>(nomatch z),λa z=>?_,R.stp.al⟩
 rcases g a z with z|z
 ·exact R.stp.grow a z
 ·exact .inr (R.fresh a z)
theorem RE.fzc{C:MC G}{H H':Hp}{σ:St}{δ δ':Zf}{fp fp':Fp}{ex:Addr->Prop}{v:V}{r:OT}{new:List Addr}(R:RE C io p c H σ δ fp ex H' v r δ' fp' new)(R0:Rel C io H σ δ fp ex) :
  RE C io p c H σ δ fp ex H' v (.fz r.data) δ' fp' []:=.fz R.base R.stp (R.da R0)
theorem RE.fzs{C:MC G}{H H':Hp}{σ:St}{δ δ':Zf}{fp fp':Fp}{ex:Addr->Prop}{v:V}{r:OT}{new:List Addr}(R:RE C io p c H σ δ fp ex H' v r δ' fp' new)(R0:Rel C io H σ δ fp ex)(h:Zaq r.data=true) :
  RE C io p true H σ δ fp ex H' v (.fz r.data) δ' fp' []:=.fz R.base R.stp ((R.da R0).flat h)
noncomputable def Z1h(i:Nat)(m:MEt):MSt:=λD δ=>m δ λr δ'=>D.nx (δ'.set i (some (.fz r.data)))
noncomputable def Zxc(i:Nat)(m:MEt):MSt:=λD δ=>m δ λr δ'=>Zaq r.data=true∧D.nx (δ'.set i (some (.fz r.data)))
noncomputable def Zpa(i:Nat)(m:MEt):MSt:=λD δ=>m δ λr δ'=>D.nx (δ'.set i (some r))
section
variable {i:Nat}{x:Str}{px:Pos}
theorem Z82{t:TE}(s:SE G io p true t m)(hio:i∉io):SS G io (Z2k t (Zma i)) (Z1h i m):=λC H σ δ fp ex D D' R h E=>s C H σ δ fp ex _ _ R h λH' v r δ' fp' new r1 h1=>by
 obtain⟨fp2,R2,k2⟩:=(r1.fzc R).put R hio
 exact E.nx H' _ _ fp2 R2 k2 h1
theorem Z45{t:TE}(s:SE G io p c t m)(hio:i∉io):SS G io (Z2k t (Zma i)) (Zxc i m):=λC H σ δ fp ex D D' R h E=>s C H σ δ fp ex _ _ R h λH' v r δ' fp' new r1 h1=>by
 obtain⟨fp2,R2,k2⟩:=(r1.fzs R h1.1).put R hio
 exact E.nx H' _ _ fp2 R2 k2 h1.2
theorem Zzu{t:TE}(s:SE G io p true t m)(hio:i∉io):SS G io (Z2k t (Zma i)) (Zpa i m):=λC H σ δ fp ex D D' R h E=>s C H σ δ fp ex _ _ R h λH' v r δ' fp' new r1 h1=>by
 obtain⟨fp2,R2,k2⟩:=r1.put R hio
 exact E.nx H' _ _ fp2 R2 k2 h1
theorem Zga(hN:X.N.Nodup)(hi:X.N[i]? =some x)(hx:Loc X.env.scope x)(he:ME X io p true e m)(hio:i∉io:=by decide)(hs:Bc e (some (.Name x px)) pos.line X.env=pure false:=by rfl)(hf:X.fn x=true∨X.env.scope.names.lookup x=some .local:=by first|exact .inl rfl|exact .inr rfl|assumption) :
  MS X io (.Assign [.Name x px] e pos) (Z1h i m):=by
 obtain⟨_,A,s⟩:=he
 exact⟨_,Zop hN hi hx A hs hf,Z82 s hio⟩
theorem Zvj(hN:X.N.Nodup)(hi:X.N[i]? =some x)(hx:Loc X.env.scope x)(he:ME X io p c e m)(hio:i∉io:=by decide)(hs:Bc e (some (.Name x px)) pos.line X.env=pure false:=by rfl)(hf:X.fn x=true∨X.env.scope.names.lookup x=some .local:=by first|exact .inl rfl|exact .inr rfl|assumption) :
  MS X io (.Assign [.Name x px] e pos) (Zxc i m):=by
 obtain⟨_,A,s⟩:=he
 exact⟨_,Zop hN hi hx A hs hf,Z45 s hio⟩
theorem Zpr(hN:X.N.Nodup)(hi:X.N[i]? =some x)(hx:Loc X.env.scope x)(he:ME X io p true e m)(hio:i∉io:=by decide)(hs:Bc e (some (.Name x px)) pos.line X.env=pure false:=by rfl)(hf:X.fn x=true∨X.env.scope.names.lookup x=some .local:=by first|exact .inl rfl|exact .inr rfl|assumption) :
  MS X io (.Assign [.Name x px] e pos) (Zpa i m):=by
 obtain⟨_,A,s⟩:=he
 exact⟨_,Zop hN hi hx A hs hf,Zzu s hio⟩
end
noncomputable def Zsv(t:MTt)(u:MSt):MSt:=λD δ=>∃W:Nat->Zf->Prop,(∃n,W n δ)∧∀n δ,W n δ->t δ λb δ'=>if b=true then∃N:Zf->Prop,(∀δ',N δ'->∃n',n'<n∧W n' δ')∧u { D with nx:=N,ct:=N,bk:=D.nx } δ' else D.nx δ'
theorem Zrj{cnd:Expr}{ss:List Stmt}(hp:PassesOwn (X8 X.prog X.w) X.A X.env X.xe)(hc:MT X io p cnd mt)(ha:MSs X io ss u):MS X io (.While cnd ss [] pos) (Zsv mt u):=by
 obtain⟨_,T,s⟩:=hc
 obtain⟨_,A,sa⟩:=ha
 refine⟨_,Zre hp T A,λC H σ δ fp ex D D' R h E=>?_⟩
 obtain⟨W,⟨n0,w0⟩,turn⟩:=h
 refine⟨λn σ' H'=>∃δ' fp',Rel C io H' σ' δ' fp' ex∧Kp H fp H' fp'∧W n δ',⟨n0,δ,fp,R,.refl _ _,w0⟩,?_⟩
 rintro n σ1 H1 ⟨δ1,fp1,R1,k1,w1⟩
 refine s C H1 σ1 δ1 fp1 ex _ _ R1 (turn n δ1 w1) λH2 b δ2 fp2 R2 S2 h2=>?_
 have k2:=k1.trans S2.kp
 cases b with
 | true=>
  rw[if_pos rfl]at h2⊢
  obtain⟨N,hN,h2⟩:=h2
  refine⟨λσ' H'=>∃δ' fp',Rel C io H' σ' δ' fp' ex∧Kp H fp H' fp'∧N δ',λσ' H' ⟨δ',fp',R',k',n'⟩=>?_,?_⟩
  ·obtain⟨n1,hn1,w1⟩:=hN δ' n'
   exact⟨n1,hn1,δ',fp',R',k',w1⟩
  ·refine sa C H2 σ1 δ2 fp2 ex _ _ R2 h2 ⟨λH' σ' δ' fp' R' k' n'=>⟨δ',fp',R',k2.trans k',n'⟩,λH' σ' δ' fp' R' k' n'=>E.nx H' σ' δ' fp' R' (k2.trans k') n',λH' σ' δ' fp' R' k' n'=>⟨δ',fp',R',k2.trans k',n'⟩,E.rt⟩
 | false=>
  rw[if_neg Xq]at h2⊢
  exact E.nx H2 σ1 δ2 fp2 R2 k2 h2
end
variable {G:Xb}
noncomputable def Zf7(N:List Str)(ds:List Xa):Zf:=ds.map (λd=>some (.fz d)) ++ QC (N.length-ds.length) none
section
variable {H:Hp}{L:Addr->Prop}{vs:List V}{ds:List Xa}{N:List Str}
theorem Zpv{i:Nat}{t:OT}{n:Nat}(h:(ds.map (λd=>some (.fz d)) ++ QC n none:Zf)[i]? =some (some t)):∃d,ds[i]? =some d∧t= .fz d:=by
 rw[List.getElem?_append]at h
 split at h
 ·rw[Xm]at h
  cases e:ds[i]? with
  | none=>rw[e]at h;cases h
  | some d=>rw[e]at h;cases h;exact⟨d,rfl,rfl⟩
 ·rw[U4]at h
  split at h
  ·cases h
  ·cases h
theorem Rel.entry(h:Das G H L vs ds):Rel (G:=G) ⟨H,λ_=>False,L,start N vs⟩ [] H (start N vs) (Zf7 N ds) (λ_=>[]) (λ_=>False):=by
 refine⟨?_,λi t e=>?_,λ_ _=>rfl,λ_=>.nil,λi j a m=>(nomatch m),λi a m=>(nomatch m),λa z=>z.elim,λb o e _=>e,λb e=>e,λi a m=>(nomatch m),λi m=>nomatch m⟩
 ·unfold start Zf7
  simp[h.length]
 ·obtain⟨d,e',rfl⟩:=Zpv e
  obtain⟨x,e1,q⟩:=h.get e'
  refine⟨x,?_,.fz (q.wide λa l _=>⟨λ⟨j,z⟩=>(nomatch z),λz=>z,.inl l⟩)⟩
  unfold L2.start
  rw[Uv (by rw[Xg];exact(Xv.mp e1).1),Xm,e1]
  rfl
variable {P:X4}{w:Qv}{K:Xb}{mg:Str->Option Xc}{base:Heap}
noncomputable def Zu5(k:OT->Prop):Ze3:={ nx:=λ_=>k (.fz .none),rt:=λr _=>k r }
theorem Fun.okD{x qual:Str}{st:Stmt}{f:Addr}{fd:Qc}{N ps:List Str}{n:Nat}{S:List Xa->(OT->Prop)->Prop}(F:Fun K x qual st f fd)(Sc:Z0 N ps (Zh st))(len:∀ds k,S ds k->ds.length=ps.length)
  (hbody:∀(cdv:Xc) (A:Qt) (outer:List Env) (s:Xf) (H:Hp) (E:XK),Room n (A.deeper (UJ qual (Zh st) s.heap.objs.size f cdv)) ->
   ∃m,MSs (Zqp CX0 P w K mg base N qual (Zh st) f cdv A outer s H E).nox [] (Zu st) m∧∀ds k,S ds k->m (Zu5 k) (Zf7 N ds)):FnOk P w K mg base CX0 (n+1) f fd ps (spD K S):=by
 refine F.ok Sc (λvs H Q E h=>?_) (λcdv A outer s H vs Q E hr h=>?_)
 ·obtain⟨L,ds,k,h1,h2,_⟩:=h
  rw[h1.length]
  exact len ds k h2
 ·obtain⟨L,ds,k,h1,h2,h3⟩:=h
  obtain⟨m,⟨t,A1,s1⟩,q⟩:=hbody cdv A outer s H E hr
  refine⟨t,A1,s1 ⟨H,λ_=>False,L,start N vs⟩ H _ _ _ _ (Zu5 k) _ (Rel.entry h1) (q ds k h2) ⟨λH' σ' δ' fp' R _ hk=>?_,λ_ _ _ _ _ _ z=>z.elim,λ_ _ _ _ _ _ z=>z.elim,λH' σ' v r δ' fp' new R o nd hn hk=>?_⟩⟩
  ·exact h3 _ .non H' [] hk (λb o e=>R.fr b o e id) (.fz .non) .nil λa m=>nomatch m
  ·refine h3 r v H' new hk (λb o e=>R.fr b o e id) (o.wide λa l _=>⟨?_,λz=>l.2.1 (.inr z)⟩) nd hn
   exact l.2.2
end
noncomputable abbrev MGt:=Xa->Zf->(Zf->Prop)->Prop
noncomputable abbrev Zqo:=List Xa->Zf->(Zf->Prop)->Prop
noncomputable def SG(G:Xb)(io:List Nat)(c:Bool)(t:TG)(g:MGt):Prop:=∀(C:MC G) (H:Hp) (σ:St) (δ:Zf) (fp:Fp) (ex:Addr->Prop) (v:V) (d:Xa) (k:Zf->Prop) (Q:St->Hp->Prop),Rel C io H σ δ fp ex->Da G H (λa=>c=true->Lf C fp ex a) v d->g d δ k ->
 (∀ σ' δ' fp',Rel C io H σ' δ' fp' ex->Kp H fp H fp'->k δ'->Q σ' H)->t v σ H Q
noncomputable def SGs(G:Xb)(io:List Nat)(c:Bool)(t:TGs)(g:Zqo):Prop:=∀(C:MC G) (H:Hp) (σ:St) (δ:Zf) (fp:Fp) (ex:Addr->Prop) (v:List V) (d:List Xa) (k:Zf->Prop) (Q:St->Hp->Prop),Rel C io H σ δ fp ex->Das G H (λa=>c=true->Lf C fp ex a) v d->g d δ k ->
 (∀ σ' δ' fp',Rel C io H σ' δ' fp' ex->Kp H fp H fp'->k δ'->Q σ' H)->t v σ H Q
noncomputable def MG(X:Cx)(io:List Nat)(c:Bool)(tg:Expr)(g:MGt):Prop:=∃t,PG X tg t∧SG X.K io c t g
noncomputable def MGs(X:Cx)(io:List Nat)(c:Bool)(tg:List Expr)(g:Zqo):Prop:=∃t,PGs X tg t∧SGs X.K io c t g
section
variable {X:Cx}{io:List Nat}{c:Bool}{pos:Pos}{i:Nat}{x:Str}
noncomputable def dName(i:Nat):MGt:=λd δ k=>k (δ.set i (some (.fz d)))
theorem Rel.putD{C:MC G}{H:Hp}{σ:St}{δ:Zf}{fp:Fp}{ex:Addr->Prop}{v:V}{d:Xa}(R:Rel C io H σ δ fp ex)(hio:i∉io)(q:Da G H (Lf C fp ex) v d) :
  ∃fp',Rel C io H (σ.set i (some v)) (δ.set i (some (.fz d))) fp' ex∧Kp H fp H fp':=by
 obtain⟨fp',R',g⟩:=(R.drop λa z=>Za3.mp z).put (new:=[]) hio (.fz (q.wide λa l _=>⟨l.1,λz=>l.2.1 (Za3.mp z),l.2.2⟩)) .nil (λa m=>nomatch m)
 exact⟨fp',R',λb o e _=>e,λz=>(nomatch z),λa z=>(g a z).imp id λz=>(nomatch z),λb e=>e⟩
theorem Zu6(hN:X.N.Nodup)(hi:X.N[i]? =some x:=by rfl)(hx:Loc X.env.scope x:=by first|exact QG rfl|exact Qo rfl)(hio:i∉io:=by decide)(hf:X.fn x=true∨X.env.scope.names.lookup x=some .local:=by first|exact .inl rfl|exact .inr rfl|assumption):MG X io true (.Name x pos) (dName i) :=
 ⟨_,Zun hN hi hx hf,λC H σ δ fp ex v d k Q R q h kk=>by
  obtain⟨fp',R',k'⟩:=R.putD hio (q.wide λa l _=>l rfl)
  exact kk _ _ fp' R' k' h⟩
noncomputable def Z7b:Zqo:=λds δ k=>ds=[]∧k δ
noncomputable def Z0s(g:MGt)(gs:Zqo):Zqo:=λds δ k=>match ds with|d :: r=>g d δ λδ'=>gs r δ' k|[]=>False
theorem Zxj:MGs X io c [] Z7b:=⟨_,Zwk,λC H σ δ fp ex v d k Q R q h kk=>by
 obtain⟨rfl,h⟩:=h
 cases q
 exact⟨rfl,kk σ δ fp R (.refl _ _) h⟩⟩
theorem Rel.kp_das{C:MC G}{H H':Hp}{σ:St}{δ:Zf}{fp fp':Fp}{ex:Addr->Prop}{vs:List V}{ds:List Xa}(R:Rel C io H σ δ fp ex)(S:Kp H fp H' fp')(h:Das G H (Lf C fp ex) vs ds):Das G H' (Lf C fp' ex) vs ds:=by
 have S':Stp false H δ fp H' δ fp':=⟨S.keep,λz=>(nomatch z),S.grow,S.al⟩
 obtain⟨f1,f2⟩:=R.frameL (c:=true) (ex':=ex) S' (.inr rfl) λa z=>.inl z
 exact h.frame (λa xs l q=>⟨(f1 a xs (λ_=>l) q).1 rfl,(f1 a xs (λ_=>l) q).2⟩) f2
theorem Zka{e:Expr}{es:List Expr}{g:MGt}{gs:Zqo}(h1:MG X io true e g)(h2:MGs X io true es gs)
  (hs:(Bd (e :: es) X.env).map (·.2)=assign e X.env :: (Bd es X.env).map (·.2):=by rfl):MGs X io true (e :: es) (Z0s g gs):=by
 obtain⟨_,A,s⟩:=h1
 obtain⟨_,B,s'⟩:=h2
 exact⟨_,Zq4 A B hs,λC H σ δ fp ex v d k Q R q h kk=>by
  cases q with
  | nil=>exact h.elim
  | cons q qs=>
   refine⟨_,_,rfl,s C H σ δ fp ex _ _ _ _ R q h λσ1 δ1 fp1 R1 k1 h1=>?_⟩
   exact s' C H σ1 δ1 fp1 ex _ _ _ _ R1 ((R.kp_das k1 (qs.wide λa l _=>l rfl)).wide λa l _ _=>l) h1 λσ2 δ2 fp2 R2 k2 h2=>kk σ2 δ2 fp2 R2 (k1.trans k2) h2⟩
noncomputable def dTup(n:Nat)(gs:Zqo):MGt:=λd δ k=>match d with| .tuple ds=>ds.length=n∧gs ds δ k|_=>False
theorem Zyd{es:List Expr}{k:Nat}{gs:Zqo}{n:Nat}(hc:X.calm=true)(h:MGs X io c es gs)
  (hn:(Bd es X.env).length=n:=by rfl) (hst:(Bd es X.env).findIdx? (·.1)=none:=by rfl):MG X io c (.Tuple es k pos) (dTup n gs):=by
 obtain⟨_,A,s⟩:=h
 exact⟨_,Z1a hc A hn hst,λC H σ δ fp ex v d k Q R q h kk=>by
  cases q with
  | tup e qs=>exact⟨_,_,rfl,.inl (.inl e),by rw[qs.length];exact h.1,s C H σ δ fp ex _ _ _ _ R qs h.2 kk⟩
  | _=>exact h.elim⟩
end
variable {G:Xb}
noncomputable def IterOk(C:MC G)(fp:Fp)(ex:Addr->Prop)(H1:Hp)(c:Bool)(J:It)(ds:List Xa):Prop:=∀H':Hp,(∀b o,H1 b=some o->(c=false∨¬Foot fp b)->H' b=some o)->∀i:Nat,
 (∀ d,ds[i]? =some d->J.go i H'∧∀x H'',J.yld i H' x H''->Same H' H''∧Da G H'' (λa=>c=true->(Lf C fp ex a∧H1 a≠none)) x d)∧(ds[i]? =none->J.stop i H')
noncomputable abbrev MIt:=Zf->(List Xa->Zf->Prop)->Prop
noncomputable def SI(G:Xb)(io:List Nat)(p c:Bool)(t:TI)(m:MIt):Prop:=∀(C:MC G) (H:Hp) (σ:St) (δ:Zf) (fp:Fp) (ex:Addr->Prop) (K:List Xa->Zf->Prop) (Q:It->Hp->Prop),Rel C io H σ δ fp ex->m δ K ->
 (∀ J H1 ds δ1 fp1,Rel C io H1 σ δ1 fp1 ex->Stp p H δ fp H1 δ1 fp1->IterOk C fp1 ex H1 c J ds->K ds δ1->Q J H1)->t σ H Q
noncomputable def MI(X:Cx)(io:List Nat)(p c:Bool)(tg iter:Expr)(m:MIt):Prop:=∃t,PI X tg iter t∧SI X.K io p c t m
section
variable {X:Cx}{io:List Nat}{p c:Bool}{e a b tg:Expr}{m:MEt}{mr:MAt}{K:Xb}
noncomputable def iL(m:MEt):MIt:=λδ K=>m δ λr δ'=>match r.data with| .list ds=>K ds δ'|_=>False
noncomputable def iT(m:MEt):MIt:=λδ K=>m δ λr δ'=>match r.data with| .tuple ds=>K ds δ'|_=>False
theorem Rel.kept{C:MC G}{H H':Hp}{σ:St}{δ:Zf}{fp:Fp}{ex:Addr->Prop}(R:Rel C io H σ δ fp ex)(kp:∀b o,H b=some o->(c=false∨¬Foot fp b)->H' b=some o) :
  (∀ a (xs:MuO),(c=true->Lf C fp ex a)->Rd H a xs.ho->(c=true->(Lf C fp ex a∧H a≠none))∧Rd H' a xs.ho)∧(∀a (xs:ImO),H a=some xs.ho->H' a=some xs.ho):=by
 refine⟨λa xs l q=>⟨λhc=>⟨l hc,q.some⟩,?_⟩,λa xs q=>kp a _ q (.inr λz=>?_)⟩
 ·have hk:c=false∨¬Foot fp a:=by
   cases c with
   | false=>exact .inl rfl
   | true=>exact .inr (l rfl).1
  rcases q with q|⟨o,q⟩
  ·exact .inl (kp a _ q hk)
  ·exact .inr ⟨o,kp a _ q hk⟩
 ·obtain⟨ys,e⟩:=R.foot z
  exact ImO.nm q e
theorem Zvq(h:ME X io p c e m):MI X io p c tg e (iL m):=by
 obtain⟨_,A,s⟩:=h
 exact⟨_,Zq0 rfl A,λC H σ δ fp ex K' Q R h kk=>s C H σ δ fp ex _ _ R h λH1 v r δ1 fp1 new r1 h1=>by
  have q:=r1.da R
  generalize r.data=d at q h1
  cases q with
  | lst l e qs=>
   refine⟨_,rfl,⟨_,.inl e⟩,kk _ H1 _ δ1 fp1 r1.base r1.stp (λH' kp i=>?_) h1⟩
   obtain⟨f1,f2⟩:=r1.base.kept kp
   have e':=(f1 _ (.lst _) l e).2
   have qs':=qs.frame f1 f2
   refine⟨λd hd=>?_,λhd=>?_⟩
   ·obtain⟨x,hx,qx⟩:=qs'.get hd
    refine⟨⟨_,x,.inl e',hx⟩,λy H'' hy=>?_⟩
    obtain⟨rfl,hy⟩:=hy
    have:=hy _ (.inl e')
    rw[hx]at this
    cases this
    exact⟨Same.refl _,qx⟩
   ·exact⟨_,.inl e',by rw[qs'.length];exact JT.mp hd⟩
  | scr ks=>
   refine⟨_,rfl,⟨_,ks.sq⟩,kk _ H1 _ δ1 fp1 r1.base r1.stp (λH' kp i=>?_) h1⟩
   refine⟨λd hd=>?_,λhd=>?_⟩
   ·obtain⟨x,hx,qx⟩:=(Das.ints (G:=X.K) (H:=H') (L:=λa=>c=true->(Lf C fp1 ex a∧H1 a≠none)) _).get hd
    refine⟨⟨_,x,ks.sq,hx⟩,λy H'' hy=>?_⟩
    obtain⟨rfl,hy⟩:=hy
    have:=hy _ ks.sq
    rw[hx]at this
    cases this
    exact⟨Same.refl _,qx⟩
   ·refine⟨_,ks.sq,?_⟩
    have:=JT.mp hd
    simpa using this
  | _=>exact h1.elim⟩
theorem Zzn(h:ME X io p c e m):MI X io p c tg e (iT m):=by
 obtain⟨_,A,s⟩:=h
 exact⟨_,Zuz rfl A,λC H σ δ fp ex K' Q R h kk=>s C H σ δ fp ex _ _ R h λH1 v r δ1 fp1 new r1 h1=>by
  have q:=r1.da R
  generalize r.data=d at q h1
  cases q with
  | tup e qs=>
   refine⟨_,rfl,⟨_,.inl (.inl e)⟩,kk _ H1 _ δ1 fp1 r1.base r1.stp (λH' kp i=>?_) h1⟩
   obtain⟨f1,f2⟩:=r1.base.kept kp
   have e':=f2 _ (.tup _) e
   have qs':=qs.frame f1 f2
   refine⟨λd hd=>?_,λhd=>?_⟩
   ·obtain⟨x,hx,qx⟩:=qs'.get hd
    refine⟨⟨_,x,.inl (.inl e'),hx⟩,λy H'' hy=>?_⟩
    obtain⟨rfl,hy⟩:=hy
    have:=hy _ (.inl (.inl e'))
    rw[hx]at this
    cases this
    exact⟨Same.refl _,qx⟩
   ·exact⟨_,.inl (.inl e'),by rw[qs'.length];exact JT.mp hd⟩
  | _=>exact h1.elim⟩
noncomputable def Zc7(lo:Int)(n:Nat):List Xa:=(XX n).map λ(i:Nat)=>XJ (lo+(i:Int))
@[simp] theorem Jy(lo:Int)(n:Nat):(Zc7 lo n).length=n:=by simp[Zc7]
theorem Za7{lo:Int}{n i:Nat}{d:Xa}(h:(Zc7 lo n)[i]? =some d):i<n∧d= .int (lo+i):=by
 have hi:i<n:=by
  have:=(Xv.mp h).1
  simpa using this
 unfold Zc7 at h
 rw[Xm,BL hi]at h
 cases h
 exact⟨hi,rfl⟩
theorem Zkt{C:MC G}{fp:Fp}{ex:Addr->Prop}{H1:Hp}{lo:Int}{n:Nat}:IterOk C fp ex H1 true (Itr lo n) (Zc7 lo n):=λH' _ i=>by
 refine⟨λd hd=>?_,λhd=>?_⟩
 ·obtain⟨hi,rfl⟩:=Za7 hd
  refine⟨hi,λx H'' hy=>?_⟩
  obtain⟨rfl,rfl⟩:=hy
  exact⟨Same.refl _,.int _⟩
 ·have:=JT.mp hd
  show n≤i
  simpa using this
noncomputable def iR1(mr:MAt):MIt:=λδ K=>mr δ λrs δ'=>match OT.datas rs with|[.int j]=>(-(2^62)≤j∧j<2^62)∧K (Zc7 0 j.toNat) δ'|_=>False
noncomputable def iR2(mr:MAt):MIt:=λδ K=>mr δ λrs δ'=>match OT.datas rs with|[.int i,.int j]=>(-(2^62)≤i∧i<2^62∧-(2^62)≤j∧j<2^62)∧K (Zc7 i (j-i).toNat) δ'|_=>False
theorem Yc{p' pos:Pos}(hg:Gl X "range")(hm:X.mg "range"=none)(ha:MA X io p c [a] mr)(hs:Xj [a] X.env=[(false,eval a X.env)]:=by rfl):MI X io p true tg (.Call (.Name "range" p') [a] [] pos) (iR1 mr):=by
 obtain⟨_,A,s⟩:=ha
 exact⟨_,Zpb hg hm A hs,λC H σ δ fp ex K' Q R h kk=>s C H σ δ fp ex _ _ R h λH1 vs rs δ1 fp1 new r1 h1=>by
  have q:=r1.das R
  generalize OT.datas rs=d at q h1
  split at h1
  case h_2=>exact h1.elim
  cases q with
  | cons q1 q2=>
   cases q1
   cases q2
   exact⟨_,rfl,h1.1.1,h1.1.2,kk _ H1 _ δ1 fp1 r1.base r1.stp Zkt h1.2⟩⟩
theorem Zfi{p' pos:Pos}(hg:Gl X "range")(hm:X.mg "range"=none)(ha:MA X io p c [a,b] mr)(hs:Xj [a,b] X.env=[(false,eval a X.env),(false,eval b X.env)]:=by rfl)(hs2:Xj [b] X.env=[(false,eval b X.env)]:=by rfl):MI X io p true tg (.Call (.Name "range" p') [a,b] [] pos) (iR2 mr):=by
 obtain⟨_,A,s⟩:=ha
 exact⟨_,Znx hg hm A hs hs2,λC H σ δ fp ex K' Q R h kk=>s C H σ δ fp ex _ _ R h λH1 vs rs δ1 fp1 new r1 h1=>by
  have q:=r1.das R
  generalize OT.datas rs=d at q h1
  split at h1
  case h_2=>exact h1.elim
  cases q with
  | cons q1 q2=>
   cases q1
   cases q2 with
   | cons q2 q3=>
    cases q2
    cases q3
    exact⟨_,_,rfl,h1.1,kk _ H1 _ δ1 fp1 r1.base r1.stp Zkt h1.2⟩⟩
theorem IterOk.at{C:MC G}{fp fp':Fp}{ex:Addr->Prop}{H1 H' H'':Hp}{J:It}{ds:List Xa}{x:V}{d:Xa}(g:∀a,Foot fp' a->Foot fp a∨H1 a=none)(h:Da G H'' (λa=>true=true->(Lf C fp ex a∧H1 a≠none)) x d):Da G H'' (λa=>true=true->Lf C fp' ex a) x d :=
 h.wide λa l _ z=>⟨λw=>(g a w).elim (l z).1.1 (l z).2,(l z).1.2.1,(l z).1.2.2⟩
noncomputable def Z31(ds:List Xa)(g:MGt)(u:MSt)(D:Ze3)(δ1:Zf):Prop:=∃I:Nat->Zf->Prop,I 0 δ1∧(∀(i:Nat) (d:Xa) (δ':Zf),ds[i]? =some d->I i δ'->g d δ' λδ2=>u { D with nx:=I (i+1),ct:=I (i+1),bk:=D.nx } δ2)∧∀δ',I ds.length δ'->D.nx δ'
noncomputable def Z7g(mi:MIt)(g:MGt)(u:MSt):MSt:=λD δ=>mi δ λds δ1=>Z31 ds g u D δ1
theorem Rel.mk0{C:MC G}{H H':Hp}{σ:St}{δ:Zf}{fp:Fp}{ex:Addr->Prop}(R:Rel C io H σ δ fp ex)(s:Same H H'):Rel C io H' σ δ fp ex:=(R.made (new:=[]) s λa m=>nomatch m).drop λa z=>.inl z
theorem Z05{iter:Expr}{body:List Stmt}{mi:MIt}{g:MGt}{u:MSt}{pos:Pos}(hp:PassesOwn (X8 X.prog X.w) X.A X.env X.xe)(hc:X.calm=true)(hi:MI X io p true tg iter mi)(hg:MG X io true tg g)(hb:MSs X io body u)
  (hs:∀x,Bk iter X.env x=pure x:=by intro _;rfl):MS X io (.For tg iter body [] pos) (Z7g mi g u):=by
 obtain⟨_,A,s⟩:=hi
 obtain⟨_,G,sg⟩:=hg
 obtain⟨_,B,sb⟩:=hb
 refine⟨_,Z1s hp hc A G B hs,λC H σ δ fp ex D D' R h E=>s C H σ δ fp ex _ _ R h λJ H1 ds δ1 fp1 R1 S1 it h1=>?_⟩
 obtain⟨I,h0,turn,fin⟩:=h1
 refine⟨λi n σ' H'=>n=ds.length-i∧i≤ds.length∧∃δ' fp',Rel C io H' σ' δ' fp' ex∧Kp H1 fp1 H' fp'∧I i δ',⟨ds.length,rfl,JK _,δ1,fp1,R1,.refl _ _,h0⟩,?_⟩
 rintro i n σ2 H2 ⟨rfl,hle,δ2,fp2,R2,k2,i2⟩
 have itk:=it H2 (λb o e q=>k2.keep b o e (.inr (q.resolve_left (by decide)))) i
 by_cases hlt:i<ds.length
 ·have hd:ds[i]? =some ds[i]:=Xk hlt
  obtain⟨go,yl⟩:=itk.1 _ hd
  refine .inr ⟨go,λσ' H'=>∃δ' fp',Rel C io H' σ' δ' fp' ex∧Kp H1 fp1 H' fp'∧I (i+1) δ',λσ' H' ⟨δ',fp',R',k',i'⟩=>⟨ds.length-(i+1),by omega,rfl,hlt,δ',fp',R',k',i'⟩,λx H3 hy=>?_⟩
  obtain⟨s3,q3⟩:=yl x H3 hy
  have R3:=R2.mk0 s3
  have k3:Kp H1 fp1 H3 fp2:=k2.trans ⟨λb o e _=>s3 _ _ e,λz=>(nomatch z),λa z=>.inl z,s3.al⟩
  refine sg C H3 σ2 δ2 fp2 ex x _ _ _ R3 (IterOk.at (H':=H2) (J:=J) (ds:=ds) k2.grow q3) (turn i _ δ2 hd i2) λσ4 δ4 fp4 R4 k4 h4=>?_
  have k5:=k3.trans k4
  refine sb C H3 σ4 δ4 fp4 ex _ _ R4 h4 ⟨λH' σ' δ' fp' R' k' n'=>⟨δ',fp',R',k5.trans k',n'⟩,λH' σ' δ' fp' R' k' n'=>E.nx H' σ' δ' fp' R' (S1.kp.trans (k5.trans k')) n',λH' σ' δ' fp' R' k' n'=>⟨δ',fp',R',k5.trans k',n'⟩,E.rt⟩
 ·have e:i=ds.length:=by omega
  subst e
  exact .inl ⟨itk.2 (by simp),E.nx H2 σ2 δ2 fp2 R2 (S1.kp.trans k2) (fin δ2 i2)⟩
end
noncomputable def gM(G:Xb)(io:List Nat)(c:Bool)(g:MGt):TG:=λv σ H Q=>∃(C:MC G) (δ:Zf) (fp:Fp) (ex:Addr->Prop) (d:Xa) (k:Zf->Prop),Rel C io H σ δ fp ex∧Da G H (λa=>c=true->Lf C fp ex a) v d∧g d δ k∧
 ∀σ' δ' fp',Rel C io H σ' δ' fp' ex->Kp H fp H fp'->k δ'->Q σ' H
noncomputable def tM(G:Xb)(io:List Nat)(p c:Bool)(m:MEt):TE:=λσ H Q=>∃(C:MC G) (δ:Zf) (fp:Fp) (ex:Addr->Prop) (K:OT->Zf->Prop),Rel C io H σ δ fp ex∧m δ K∧∀H' v r δ' fp' new,RE C io p c H σ δ fp ex H' v r δ' fp' new->K r δ'->Q v H'
noncomputable def ttM(G:Xb)(io:List Nat)(p:Bool)(m:MTt):TT:=λσ H Q=>∃(C:MC G) (δ:Zf) (fp:Fp) (ex:Addr->Prop) (K:Bool->Zf->Prop),Rel C io H σ δ fp ex∧m δ K∧∀H' b δ' fp',Rel C io H' σ δ' fp' ex->Stp p H δ fp H' δ' fp'->K b δ'->Q b H'
noncomputable def MIfs(X:Cx)(io:List Nat)(p:Bool)(ifs:List Expr)(m:MTt):Prop:=∃t,Zus X ifs t∧STt X.K io p t m
section
variable {X:Cx}{io:List Nat}{p c:Bool}{e tg:Expr}{m:MEt}{mt:MTt}{g:MGt}{ifs:List Expr}
theorem MG.canon(h:MG X io c tg g):PG X tg (gM X.K io c g):=by
 obtain⟨t,A,s⟩:=h
 rintro pins sh σ H v u Q I r ⟨C,δ,fp,ex,d,k,R,q,h,kk⟩
 exact A pins sh σ H v u Q I r (s C H σ δ fp ex v d k Q R q h kk)
theorem ME.canon(h:ME X io p c e m):PE X e (tM X.K io p c m):=by
 obtain⟨t,A,s⟩:=h
 rintro pins sh σ H Q I ⟨C,δ,fp,ex,K,R,h,kk⟩
 exact A pins sh σ H Q I (s C H σ δ fp ex K Q R h kk)
theorem MIfs.canon(h:MIfs X io p ifs mt):Zus X ifs (ttM X.K io p mt):=by
 obtain⟨t,A,s⟩:=h
 rintro pins sh σ H Q I ⟨C,δ,fp,ex,K,R,h,kk⟩
 exact A pins sh σ H Q I (s C H σ δ fp ex K Q R h kk)
noncomputable def Zye:MTt:=λδ K=>K true δ
theorem Zdx:MIfs X io true [] Zye:=⟨_,Zxm,λC H σ δ fp ex K Q R h kk=>kk H true δ fp R (.refl _ _ _ _) h⟩
theorem Zdl{cnd:Expr}(h:MT X io p cnd mt):MIfs X io p [cnd] mt:=by
 obtain⟨_,A,s⟩:=h
 exact⟨_,Zwl A,s⟩
end
variable {G:Xb}
noncomputable def blk(n:Nat)(caps:List Nat)(δ:Zf):Zf:=QC n none ++ caps.map λi=>(δ[i]?).getD none
noncomputable def Jc(n:Nat)(caps:List Nat)(fp:Fp):Fp:=λk=>if k<n then[]else match caps[k-n]? with|some i=>fp i|none=>[]
noncomputable def Zbo(n:Nat)(caps:List Nat):List Nat:=(XX caps.length).map (·+n)
noncomputable def Zsz(C:MC G)(H1:Hp)(fp:Fp)(σ0:St):MC G:=⟨H1,Foot fp,λa=>(C.L a∨C.H₀ a=none)∧¬Foot fp a,σ0⟩
noncomputable def Zee(ex:Addr->Prop)(D:Addr)(fp fpb:Fp)(a:Addr):Prop:=ex a∨a=D∨(Foot fp a∧¬Foot fpb a)
section
variable {C:MC G}{io:List Nat}{H1 H':Hp}{σ:St}{δ:Zf}{fp:Fp}{ex:Addr->Prop}{own:List Str}{caps:List Nat}{D:Addr}{n:Nat}
theorem Zbz{k:Nat}{a:Addr}(h:a∈Jc n caps fp k):∃i,n≤k∧caps[k-n]? =some i∧a∈fp i:=by
 unfold Jc at h
 split at h
 ·exact nomatch h
 ·split at h
  ·rename_i i e
   exact⟨i,by omega,e,h⟩
  ·exact nomatch h
theorem Zq3{j i:Nat}(h:caps[j]? =some i):Jc n caps fp (n+j)=fp i:=by
 unfold Jc
 rw[if_neg (by omega),show n+j-n=j by omega,h]
theorem Zzg{k:Nat}{t:OT}(h:(blk n caps δ)[k]? =some (some t)):∃i,n≤k∧caps[k-n]? =some i∧δ[i]? =some (some t):=by
 unfold blk at h
 rw[List.getElem?_append]at h
 split at h
 ·rw[U4]at h
  split at h<;>cases h
 ·rename_i hk
  rw[JF]at hk h
  rw[Xm]at h
  cases e:caps[k-n]? with
  | none=>rw[e]at h;cases h
  | some i=>
   rw[e]at h
   refine⟨i,by omega,rfl,?_⟩
   simp only[Option.map_some]at h
   cases e2:δ[i]? with
   | none=>rw[e2]at h;cases h
   | some o=>
    rw[e2]at h
    simpa using h
theorem Rel.block(R:Rel C io H1 σ δ fp ex)(nd:caps.Nodup)(hD:H1 D=none) :
  Rel (Zsz C H1 fp (Ju own caps σ)) (Zbo own.length caps) (upd H1 D (.lst [])) (Ju own caps σ) (blk own.length caps δ) (Jc own.length caps fp) (Zee ex D fp (Jc own.length caps fp)):=by
 have s:=Z6 hD (.lst [])
 have sub:∀a,Foot (Jc own.length caps fp) a->Foot fp a:=λa q91=>by
  obtain⟨k,z⟩:=q91
  obtain⟨i,_,_,z⟩:=Zbz z
  exact⟨i,z⟩
 have neD:∀a,H1 a≠none->a≠D:=λa h z=>h (z▸hD)
 refine⟨by unfold Ju blk;simp,λk t e=>?_,λk h=>?_,λk=>?_,λk l a h1 h2=>?_,λk a h z=>?_,λa z=>?_,λb o e _=>s _ _ e,λb e=>s.free e,λk a h=>?_,λk _=>rfl⟩
 ·obtain⟨i,hk,e1,e2⟩:=Zzg e
  obtain⟨v,e3,o⟩:=R.own i t e2
  refine⟨v,?_,?_⟩
  ·unfold Ju
   rw[Bs (by simpa using hk),Xg,Xm,e1]
   simp[e3]
  ·have ef:Jc own.length caps fp k=fp i:=by
    have:=Zq3 (n:=own.length) (fp:=fp) e1
    rwa[show own.length+(k-own.length)=k by omega]at this
   rw[ef]
   refine(o.wide λa l q=>⟨λz=>l.1 (sub a z),λz=>?_,.inl ⟨l.2.2,l.1⟩⟩).same s
   rcases z with z|z|z
   ·exact l.2.1 z
   ·exact neD a q z
   ·exact l.1 z.1
 ·unfold Jc
  split
  ·rfl
  ·split
   ·rename_i i e1
    refine R.emp i λt z=>h t ?_
    unfold blk
    rw[Bs (by rw[JF];omega),JF,Xm,e1]
    simp[z]
   ·rfl
 ·unfold Jc
  split
  ·exact .nil
  ·split
   ·exact R.nd _
   ·exact .nil
 ·obtain⟨i,hk,e1,m1⟩:=Zbz h1
  obtain⟨j,hl,e2,m2⟩:=Zbz h2
  have:=R.dj i j a m1 m2
  subst this
  have hlt:=(Xv.mp e1).1
  have:=(List.getElem?_inj hlt nd).mp (e1.trans e2.symm)
  omega
 ·obtain⟨i,hk,e1,m⟩:=Zbz h
  rcases z with z|z|z
  ·exact R.dx i a m z
  ·exact R.footSome (z▸hD) ⟨i,m⟩
  ·exact z.2 ⟨k,h⟩
 ·rcases z with z|z|z
  ·intro q;exact R.xa a z (s.free q)
  ·subst z;rw[Zq];intro q;cases q
  ·obtain⟨xs,e⟩:=R.foot z.1
   rw[s _ _ e];intro q;cases q
 ·obtain⟨i,hk,e1,m⟩:=Zbz h
  refine .inl ⟨?_,⟨i,m⟩⟩
  have:=(Xv.mp e1).1
  exact QJ.mpr ⟨k-own.length,by simpa using this,by omega⟩
theorem Z2s{σ0:St}{fp':Fp}{ex':Addr->Prop}{a:Addr}(hx:∀a,ex a->ex' a)(l:Lf (Zsz C H1 fp σ0) fp' ex' a):Lf C fp ex a∨H1 a=none:=by
 obtain⟨l1,l2,l3⟩:=l
 rcases l3 with l3|l3
 ·exact .inl ⟨l3.2,λz=>l2 (hx a z),l3.1⟩
 ·exact .inr l3
theorem Rel.poke(R:Rel C io H' σ δ fp ex){xs ys:List V}(hx:ex D)(hD:H' D=some (.lst xs))(h0:C.H₀ D=none):Rel C io (upd H' D (.lst ys)) σ δ fp ex:=by
 have nf:¬Foot fp D:=λ⟨i,z⟩=>R.dx i D z hx
 have kp:∀b o,b≠D->H' b=some o->upd H' D (.lst ys) b=some o:=λb o n e=>by rw[Zm n];exact e
 refine⟨R.len,λi t e=>?_,R.emp,R.nd,R.dj,R.dx,λa z=>?_,λb o e n=>?_,λb e=>?_,R.new,R.io⟩
 ·obtain⟨v,e1,o⟩:=R.own i t e
  refine⟨v,e1,o.frame (λa zs l q=>⟨l,?_⟩) (λa zs q=>kp a _ (λz=>?_) q) λa m zs q=>kp a _ (λz=>nf ⟨i,z▸m⟩) q⟩
  ·have na:a≠D:=λz=>l.2.1 (z▸hx)
   rcases q with q|⟨u,q⟩
   ·exact .inl (kp a _ na q)
   ·exact .inr ⟨u,kp a _ na q⟩
  ·exact ImO.nl q (z▸hD)
 ·by_cases e:a=D
  ·subst e;rw[Zq];intro q;cases q
  ·rw[Zm e];exact R.xa a z
 ·refine kp b o (λz=>?_) (R.fr b o e n)
  rw[z,h0]at e;cases e
 ·refine R.al b ?_
  by_cases q:b=D
  ·subst q;rw[Zq]at e;cases e
  ·rwa[Zm q]at e
theorem Owns.poke{L:Addr->Prop}{xs ys zs:List V}{rs:List OT}{as:List Addr}(o:Owns G H' L zs rs as)(hD:H' D=Bh (HO.lst xs))(hL:¬L D)(hn:D∉as):Owns G (upd H' D (.lst ys)) L zs rs as:=by
 refine o.frame (λa zs l q=>⟨l,?_⟩) (λa zs q=>?_) λa m zs q=>?_
 ·have na:a≠D:=λz=>hL (z▸l)
  rcases q with q|⟨u,q⟩
  ·exact .inl (by rw[Zm na];exact q)
  ·exact .inr ⟨u,by rw[Zm na];exact q⟩
 ·rw[Zm (λz=>ImO.nl q (z▸hD))];exact q
 ·have na:a≠D:=λz=>hn (by rw[←z];exact m)
  rw[Zm na];exact q
theorem Owns.snoc{L:Addr->Prop}{xs:List V}{rs:List OT}{as bs:List Addr}{x:V}{r:OT}(h:Owns G H' L xs rs as)(k:Own G H' L x r bs):Owns G H' L (xs ++ [x]) (rs ++ [r]) (as ++ bs) :=
 Owns.rec (motive_1:=λ_ _ _ _=>True) (motive_2:=λxs rs as _=>Owns G H' L (xs ++ [x]) (rs ++ [r]) (as ++ bs)) (λ_=>trivial) (λ_ _ _=>trivial) (λ_ _ _=>trivial) (λ_ _ _=>trivial) (by have:=Owns.cons k .nil;rwa[XR]at this) (λk _ _ ih=>by rw[QH];exact .cons k ih) h
end
structure Ztn(C:MC G)(H1:Hp)(fp1:Fp)(ex:Addr->Prop)(n:Nat)(caps:List Nat)(σ0:St)(D:Addr)(pb:Bool)(H':Hp)(σ':St)(δ':Zf)(fp':Fp)(ys:List V)(rs:List OT)(new:List Addr):Prop where
 keep:∀b o,H1 b=some o->(pb=true∨¬Foot (Jc n caps fp1) b)->H' b=some o
 al:∀b,H' b=none->H1 b=none
 dat:H' D=some (.lst ys)
 rel:Rel (Zsz C H1 fp1 σ0) (Zbo n caps) H' σ' δ' fp' (exu (Zee ex D fp1 (Jc n caps fp1)) new)
 grow:∀a,Foot fp' a->Foot (Jc n caps fp1) a∨H1 a=none
 own:Owns G H' (λa=>true=true->Lf (Zsz C H1 fp1 σ0) fp' (exu (Zee ex D fp1 (Jc n caps fp1)) new) a) ys rs new
 nd:new.Nodup
 fresh:∀a∈new,H1 a=none∧a≠D
section
variable {io:List Nat}{p c pt pe ci:Bool}{g:MGt}{mt:MTt}{me:MEt}{own:List Str}{caps:List Nat}
theorem Znw{C:MC G}{H1:Hp}{σ:St}{δ1:Zf}{fp1:Fp}{ex:Addr->Prop}{J:It}{ds:List Xa}{D:Addr}{Qf:Hp->Prop}(I:Nat->List OT->Zf->Prop)(R1:Rel C io H1 σ δ1 fp1 ex)
  (it:∀H':Hp,(∀b o,H1 b=some o->((pt&&pe)=true∨¬Foot (Jc own.length caps fp1) b)->H' b=some o)->∀i:Nat,(∀d,ds[i]? =some d->J.go i H'∧∀x H'',J.yld i H' x H''->Same H' H''∧Da G H'' (λa=>ci=true->(Lf C fp1 ex a∧H1 a≠none)) x d)∧(ds[i]? =none->J.stop i H'))
  (nd:caps.Nodup) (hD:H1 D=none) (hz:ds.length≤Xi) (h0:I 0 [] (blk own.length caps δ1))
  (turn:∀(i:Nat) (d:Xa) (rs:List OT) (δ':Zf),ds[i]? =some d->I i rs δ'->g d δ' λδ2=>mt δ2 λb δ3=>if b=true then me δ3 λr δ4=>I (i+1) (rs ++ [r]) δ4 else I (i+1) rs δ3)
  (fin:∀H' σ' δ' fp' ys rs new,Ztn C H1 fp1 ex own.length caps (Ju own caps σ) D (pt&&pe) H' σ' δ' fp' ys rs new->I ds.length rs δ'->Qf H') :
  Zv7 J (gM G (Zbo own.length caps) ci g) (ttM G (Zbo own.length caps) pt mt) (tM G (Zbo own.length caps) pe true me) (Ju own caps σ) D Qf H1:=by
 have hx:Zee ex D fp1 (Jc own.length caps fp1) D:=.inr (.inl rfl)
 refine⟨λi n σ' H'=>n=ds.length-i∧i≤ds.length∧∃rs ys new δ' fp',Ztn C H1 fp1 ex own.length caps (Ju own caps σ) D (pt&&pe) H' σ' δ' fp' ys rs new∧ys.length≤i∧I i rs δ',⟨ds.length,rfl,JK _,[],[],[],_,_,⟨λb o e _=>Z6 hD _ _ _ e,(Z6 hD _).al,Zq,?_,λa z=>.inl z,.nil,.nil,λa m=>(nomatch m)⟩,XQ _,h0⟩,?_⟩
 ·exact(R1.block nd hD).drop λa z=>Za3.mp z
 rintro i n σ2 H2 ⟨rfl,hle,rs,ys,new,δ2,fp2,B,hl,i2⟩
 have subB:∀b,Foot (Jc own.length caps fp1) b->Foot fp1 b:=λb q92=>by
  obtain⟨k,z⟩:=q92
  obtain⟨i,_,_,z⟩:=Zbz z
  exact⟨i,z⟩
 have itk:=it H2 B.keep i
 by_cases hlt:i<ds.length
 case neg=>
  have e:i=ds.length:=by omega
  subst e
  exact .inl ⟨itk.2 (by simp),fin H2 σ2 δ2 fp2 ys rs new B i2⟩
 have hd:ds[i]? =some ds[i]:=Xk hlt
 obtain⟨go,yl⟩:=itk.1 _ hd
 refine .inr ⟨go,λx H3 hy=>?_⟩
 obtain⟨s3,q3⟩:=yl x H3 hy
 have R3:=B.rel.mk0 s3
 have D3:H3 D=some (.lst ys):=s3 _ _ B.dat
 -- the item,clean in the block
 have q3':Da G H3 (λa=>ci=true->Lf (Zsz C H1 fp1 (Ju own caps σ)) fp2 (exu (Zee ex D fp1 (Jc own.length caps fp1)) new) a) x ds[i]:=by
  refine q3.wide λa l _ z=>?_
  obtain⟨⟨l1,l2,l3⟩,l4⟩:=l z
  refine⟨λw=>?_,λw=>?_,.inl ⟨l3,l1⟩⟩
  ·rcases B.grow a w with w|w
   ·exact l1 (subB a w)
   ·exact l4 w
  ·rcases w with(w|w|w)|w
   ·exact l2 w
   ·subst w;exact l4 hD
   ·exact l1 w.1
   ·exact l4 (B.fresh a w).1
 refine⟨_,δ2,fp2,_,_,_,R3,q3',turn i _ rs δ2 hd i2,λσ4 δ4 fp4 R4 k4 h4=>?_⟩
 refine⟨_,δ4,fp4,_,_,R4,h4,λH5 b δ5 fp5 R5 S5 h5=>?_⟩
 -- the state behind the test
 have keep5:∀b o,H1 b=some o->((pt&&pe)=true∨¬Foot (Jc own.length caps fp1) b)->H5 b=some o:=λb o e q=>by
  refine S5.keep b o (s3 _ _ (B.keep b o e q)) ?_
  rcases q with q|q
  ·rw[Xz]at q;exact .inl q.1
  ·refine .inr λz=>?_
   rcases k4.grow b z with z|z
   ·rcases B.grow b z with z|z
    ·exact q z
    ·rw[e]at z;cases z
   ·rw[s3 _ _ (B.keep b o e (.inr q))]at z;cases z
 have al5:∀b,H5 b=none->H1 b=none:=λb e=>B.al b (s3.al b (S5.al b e))
 have grow4:∀a,Foot fp4 a->Foot (Jc own.length caps fp1) a∨H1 a=none:=λa z=>by
  rcases k4.grow a z with z|z
  ·exact B.grow a z
  ·exact .inr (B.al a (s3.al a z))
 have grow5:∀a,Foot fp5 a->Foot (Jc own.length caps fp1) a∨H1 a=none:=λa z=>by
  rcases S5.grow a z with z|z
  ·exact grow4 a z
  ·exact .inr (B.al a (s3.al a z))
 have D5:H5 D=some (.lst ys):=S5.keep D _ D3 (.inr λ⟨k,z⟩=>R4.dx k D z (.inl hx))
 have own3:=B.own.same s3
 -- the items so far behind the target and the test
 have own4:Owns G H3 (λa=>true=true->Lf (Zsz C H1 fp1 (Ju own caps σ)) fp4 (exu (Zee ex D fp1 (Jc own.length caps fp1)) new) a) ys rs new:=by
  refine own3.wide λa l q z=>?_
  obtain⟨l1,l2,l3⟩:=l z
  exact⟨λw=>(k4.grow a w).elim l1 q,l2,l3⟩
 have own5:=R4.owns_step (ex':=exu (Zee ex D fp1 (Jc own.length caps fp1)) new) S5 (c:=true) (.inr rfl) (λa z=>.inl z) (λa m=>.inr m) own4
 dsimp only at h5⊢
 cases b with
 | false=>
  rw[if_neg Xq]at h5⊢
  exact⟨ds.length-(i+1),by omega,rfl,hlt,rs,ys,new,δ5,fp5,⟨keep5,al5,D5,R5,grow5,own5,B.nd,B.fresh⟩,by omega,h5⟩
 | true=>
  rw[if_pos rfl]at h5⊢
  refine⟨_,δ5,fp5,_,_,R5,h5,λH6 v r δ6 fp6 nr r6 h6=>?_⟩
  have D6:H6 D=some (.lst ys):=r6.stp.keep D _ D5 (.inr λ⟨k,z⟩=>R5.dx k D z (.inl hx))
  have hDnr:D∉nr:=λz=>by
   have:=r6.fresh D z
   rw[D5]at this;cases this
  have own6:=R5.owns_step (ex':=exu (exu (Zee ex D fp1 (Jc own.length caps fp1)) new) nr) r6.stp (c:=true) (.inr rfl) (λa z=>z.imp id λz=>r6.fresh a z) (λa m=>.inr m) own5
  have eqx:∀a,exu (Zee ex D fp1 (Jc own.length caps fp1)) (new ++ nr) a->exu (exu (Zee ex D fp1 (Jc own.length caps fp1)) new) nr a:=λa z=>by
   rcases z with z|z
   ·exact .inl (.inl z)
   ·rcases Qj.mp z with z|z
    ·exact .inl (.inr z)
    ·exact .inr z
  have lw:∀a,(true=true->Lf (Zsz C H1 fp1 (Ju own caps σ)) fp6 (exu (exu (Zee ex D fp1 (Jc own.length caps fp1)) new) nr) a)->H6 a≠none->(true=true->Lf (Zsz C H1 fp1 (Ju own caps σ)) fp6 (exu (Zee ex D fp1 (Jc own.length caps fp1)) (new ++ nr)) a) :=
   λa l _ z=>⟨(l z).1,λw=>(l z).2.1 (eqx a w),(l z).2.2⟩
  have ownA:=(own6.snoc r6.own).wide lw
  refine⟨ys,D6,by omega,ds.length-(i+1),by omega,rfl,hlt,rs ++ [r],ys ++ [v],new ++ nr,δ6,fp6,⟨λb o e q=>?_,λb e=>?_,Zq,?_,λa z=>?_,?_,?_,λa m=>?_⟩,by rw[Xo];show ys.length+1≤i+1;omega,h6⟩
  ·have nD:b≠D:=λz=>by rw[z,hD]at e;cases e
   rw[Zm nD]
   refine r6.stp.keep b o (keep5 b o e q) ?_
   rcases q with q|q
   ·rw[Xz]at q;exact .inl q.2
   ·refine .inr λz=>?_
    rcases grow5 b z with z|z
    ·exact q z
    ·rw[e]at z;cases z
  ·by_cases q:b=D
   ·subst q;rw[Zq]at e;cases e
   ·rw[Zm q]at e
    exact al5 b (r6.stp.al b e)
  ·exact(r6.rel.drop eqx).poke (.inl hx) D6 hD
  ·rcases r6.stp.grow a z with z|z
   ·exact grow5 a z
   ·exact .inr (al5 a z)
  ·exact ownA.poke D6 (λz=>(z rfl).2.1 (.inl hx)) (λm=>by
    rcases Qj.mp m with m|m
    ·exact(B.fresh D m).2 rfl
    ·exact hDnr m)
  ·refine Bf.mpr ⟨B.nd,r6.nd,λa m b m' z=>?_⟩
   subst z
   obtain⟨xs,e⟩:=own5.some a m
   rw[r6.fresh a m']at e;cases e
  ·rcases Qj.mp m with m|m
   ·exact B.fresh a m
   ·exact⟨al5 a (r6.fresh a m),λz=>hDnr (z▸m)⟩
end
variable {G:Xb}
section
variable {X:Cx}{io:List Nat}{p p' c pt pe ci:Bool}{g:MGt}{mt:MTt}{me m:MEt}{mi:MIt}{own:List Str}{caps:List Nat}{e:Expr}
noncomputable def Z19(n:Nat)(caps:List Nat)(ds:List Xa)(g:MGt)(mt:MTt)(me:MEt)(δ1:Zf)(K:OT->Zf->Prop):Prop:=ds.length≤Xi∧∃I:Nat->List OT->Zf->Prop,I 0 [] (blk n caps δ1)∧
 (∀ (i:Nat) (d:Xa) (rs:List OT) (δ':Zf),ds[i]? =some d->I i rs δ'->g d δ' λδ2=>mt δ2 λb δ3=>if b=true then me δ3 λr δ4=>I (i+1) (rs ++ [r]) δ4 else I (i+1) rs δ3)∧
 ∀rs δ',I ds.length rs δ'->K (.nd rs) δ1
noncomputable def Zih(n:Nat)(caps:List Nat)(mi:MIt)(g:MGt)(mt:MTt)(me:MEt):MEt:=λδ K=>mi δ λds δ1=>Z19 n caps ds g mt me δ1 K
theorem Zxp{wi:TI}(si:SI G io p ci wi mi)(nd:caps.Nodup)(hp:(pt&&pe)=true) :
  SE G io p true (Zuw own caps wi (gM G (Zbo own.length caps) ci g) (ttM G (Zbo own.length caps) pt mt) (tM G (Zbo own.length caps) pe true me)) (Zih own.length caps mi g mt me):=by
 intro C H σ δ fp ex K Q R h k
 refine si C H σ δ fp ex _ _ R h λJ H1 ds δ1 fp1 R1 S1 it h1 D hD=>?_
 obtain⟨hz,I,h0,turn,fin⟩:=h1
 refine Znw I R1 (λH' kp=>it H' λb o e _=>kp b o e (.inl hp)) nd hD hz h0 turn λH' σ' δ' fp' ys rs new B i'=>?_
 have s:Same H1 H':=λb o e=>B.keep b o e (.inl hp)
 refine k H' (.ref D) (.nd rs) δ1 fp1 (D :: new) (RE.tree R R1 S1 s (λa m=>?_) (Qi.mpr ⟨λm=>(B.fresh D m).2 rfl,B.nd⟩) (.nd B.dat (B.own.wide λa l _=>?_))) (fin rs δ' i')
 ·rcases Xn.mp m with rfl|m
  ·exact hD
  ·exact(B.fresh a m).1
 ·refine⟨?_,λm=>?_⟩
  ·rcases Z2s (λa z=>.inl (.inl z)) (l rfl)with z|z
   ·exact .inl λ_=>z
   ·exact .inr z
  ·rcases Xn.mp m with z|z
   ·exact(l rfl).2.1 (.inl (.inr (.inl z)))
   ·exact(l rfl).2.1 (.inr z)
variable {N':List Str}{sc:Us}{tg elt iter:Expr}{ifs:List Expr}{pos:Pos}
theorem Zcz(S:CompScope X own caps N' sc)(hc:X.calm=true)(nd:caps.Nodup)(hi:MI X io p ci tg iter mi)
  (hg:∀C cells s₂ H₂ fp,MG (Wo X N' sc C cells s₂ H₂ fp) (Zbo own.length caps) ci tg g) (ht:∀C cells s₂ H₂ fp,MIfs (Wo X N' sc C cells s₂ H₂ fp) (Zbo own.length caps) pt ifs mt) (he:∀C cells s₂ H₂ fp,ME (Wo X N' sc C cells s₂ H₂ fp) (Zbo own.length caps) pe true elt me)
  (hp:(pt&&pe)=true:=by rfl) (hs:∀x,Bk iter X.env x=pure x:=by intro _;rfl):ME X io p true (.ListComp elt [⟨tg,iter,ifs,0⟩] sc pos) (Zih own.length caps mi g mt me):=by
 obtain⟨_,A,si⟩:=hi
 exact⟨_,Zw8 S hc A (λC cells s₂ H₂ fp=>(hg C cells s₂ H₂ fp).canon) (λC cells s₂ H₂ fp=>(ht C cells s₂ H₂ fp).canon) (λC cells s₂ H₂ fp=>(he C cells s₂ H₂ fp).canon) hs,Zxp si nd hp⟩
section
variable {i:Nat}{y:Str}{py spos:Pos}
theorem Zds(own':Bool)(hN:X.N.Nodup)(hy:X.N[i]? =some y)(hx:Loc X.env.scope y)(S:CompScope X own caps N' sc)(hc:X.calm=true)(nd:caps.Nodup)(hi:MI X io p ci tg iter mi)
  (hg:∀C cells s₂ H₂ fp,MG (Wo X N' sc C cells s₂ H₂ fp) (Zbo own.length caps) ci tg g) (ht:∀C cells s₂ H₂ fp,MIfs (Wo X N' sc C cells s₂ H₂ fp) (Zbo own.length caps) pt ifs mt) (he:∀C cells s₂ H₂ fp,ME (Wo X N' sc C cells s₂ H₂ fp) (Zbo own.length caps) pe true elt me)
  (hp:(pt&&pe)=true:=by rfl) (hio:i∉io:=by decide)
  (hsw:Bc (.ListComp elt [⟨tg,iter,ifs,0⟩] sc pos) (some (.Name y py)) spos.line X.env=pure true:=by rfl)
  (hs:∀x,Bk iter X.env x=pure x:=by intro _;rfl) (hf:X.fn y=true∨X.env.scope.names.lookup y=some .local:=by first|exact .inl rfl|exact .inr rfl|assumption) :
  MS X io (.Assign [.Name y py] (.ListComp elt [⟨tg,iter,ifs,0⟩] sc pos) spos) (if own'=true then Zpa i (Zih own.length caps mi g mt me)else Z1h i (Zih own.length caps mi g mt me)):=by
 obtain⟨_,A,si⟩:=hi
 refine⟨_,Zlr (g:=gM X.K (Zbo own.length caps) ci g) (tt:=ttM X.K (Zbo own.length caps) pt mt) (te:=tM X.K (Zbo own.length caps) pe true me) hN hy hx S hc A (λC cells s₂ H₂ fp=>(hg C cells s₂ H₂ fp).canon) (λC cells s₂ H₂ fp=>(ht C cells s₂ H₂ fp).canon) (λC cells s₂ H₂ fp=>(he C cells s₂ H₂ fp).canon) hsw hs hf,?_⟩
 cases own'
 ·exact Z82 (Zxp si nd hp) hio
 ·exact Zzu (Zxp si nd hp) hio
end
end
variable {G:Xb}
section
variable {X:Cx}{pins:List (Addr×Obj)}{σ:St}{H:Hp}{s:Xf}{l:Addr}{xs:List V}
noncomputable def Zyg(K:Xb):R2:=λx y H Q=>∃l b xs zs,x= .ref l∧y= .ref b∧SqL K H l xs∧SqL K H b zs∧xs.length+zs.length≤Xi∧∀p,H p=none->Q (.ref p) (upd H p (.lst (xs ++ zs)))
theorem Inv.lstQ{K:Xb}(hK:X.K=K)(I:Inv X pins σ H s)(hH:SqL K H l xs):∃(its:List Xc) (n:Nat),Vals xs its∧xs.length=its.length∧∃o,s.heap.get? l=some o∧o.cls= .type "list"∧o.dict=none∧o.data= .seq its.toArray n:=by
 subst hK
 obtain⟨its,r,⟨o,n,e,h1,h2,h3⟩,_⟩:=I.list hH
 exact⟨its,n,r,r.length,o,e,h1,h2,h3⟩
theorem Zjp{K:Xb}(hK:X.K=K):OpR X (Vn .Add) (Zyg K):=by
 intro pins s σ H x y v u Q I rx ry h
 obtain⟨l,b,xs,zs,rfl,rfl,hH,hB,hz,q⟩:=h
 cases rx
 cases ry
 obtain⟨its,n,r,hl,⟨cls,dd,data,sl⟩,ho,hc,_,hd⟩:=I.lstQ hK hH
 obtain⟨its2,n2,r2,hl2,⟨cls2,dd2,data2,sl2⟩,ho2,hc2,_,hd2⟩:=I.lstQ hK hB
 simp only at hc hd hc2 hd2
 subst hc hd hc2 hd2
 have ea:its.toArray ++ its2.toArray=(its ++ its2).toArray:=by simp
 refine concat_meets ⟨_,ho,rfl⟩ ⟨_,ho2,rfl⟩ noFill_list_add seq_list_add PySem.F.slot_list_add PySem.F.entry_list_add (PySem.F.args_list_add_2 _ _) (list_addW l b its.toArray its2.toArray n n2 dd dd2 sl sl2 (by simp only[Xr];omega)) ⟨ho,ho2,?_⟩
 rw[ea]
 exact⟨.ref _,_,I.lnew (t':=s.toks) (r.append r2) (by rw[Xo];omega),rfl,q _ I.fresh⟩
end
noncomputable def asI(d:Xa)(k:Int->Prop):Prop:=match d with| .int i=>k i|_=>False
noncomputable def asL(d:Xa)(k:List Xa->Prop):Prop:=match d with| .list ds=>k ds|_=>False
section
variable {H:Hp}{L:Addr->Prop}{v:V}{d:Xa}
theorem Da.intInv{k:Int->Prop}(q:Da G H L v d)(h:asI d k):∃i,v= .int i∧k i:=by
 cases q with
 | int b=>exact⟨b,rfl,h⟩
 | _=>exact h.elim
theorem Da.lstInv{k:List Xa->Prop}(q:Da G H L v d)(h:asL d k):∃a xs ds,v= .ref a∧SqL G H a xs∧Das G H L xs ds∧k ds:=by
 cases q with
 | lst l e r=>exact⟨_,_,_,rfl,.inl e,r,h⟩
 | scr s=>exact⟨_,_,_,rfl,s.sq,.ints _,h⟩
 | _=>exact h.elim
end
noncomputable def d2I(C:Int->Int->Prop)(g:Int->Int->Xa):Xa->Xa->(Xa->Prop)->Prop:=λd e k=>asI d λi=>asI e λj=>C i j∧k (g i j)
noncomputable def Zs5(g:Int->Int->Xa):Xa->Xa->(Xa->Prop)->Prop:=λd e k=>asI d λi=>asI e λj=>k (g i j)
theorem Zy0{C:Int->Int->Prop}{f:Int->Int->Int}:P2s G (rI C λi j=>.int (f i j)) (d2I C λi j=>.int (f i j)):=λH L x y d e k Q hx hy h kk=>by
 obtain⟨i,rfl,h⟩:=hx.intInv h
 obtain⟨j,rfl,h⟩:=hy.intInv h
 exact⟨i,j,rfl,rfl,h.1,kk _ _ (.int _) h.2⟩
structure MulOk(i j:Int):Prop where
 ok:IntMulOk i j
structure Z76(i j:Int):Prop where
 ok:DivOk i j
structure Z7a(i j:Int):Prop where
 ok:Z3l i j
theorem Z0h{f:Int->Int->Int}:P2s G (rI IntMulOk λi j=>.int (f i j)) (d2I MulOk λi j=>.int (f i j)):=λH L x y d e k Q hx hy h kk=>by
 obtain⟨i,rfl,h⟩:=hx.intInv h
 obtain⟨j,rfl,h⟩:=hy.intInv h
 exact⟨i,j,rfl,rfl,h.1.ok,kk _ _ (.int _) h.2⟩
theorem Z23{f:Int->Int->Int}:P2s G (rI DivOk λi j=>.int (f i j)) (d2I Z76 λi j=>.int (f i j)):=λH L x y d e k Q hx hy h kk=>by
 obtain⟨i,rfl,h⟩:=hx.intInv h
 obtain⟨j,rfl,h⟩:=hy.intInv h
 exact⟨i,j,rfl,rfl,h.1.ok,kk _ _ (.int _) h.2⟩
theorem Z1q{f:Int->Int->Int}:P2s G (rI Z3l λi j=>.int (f i j)) (d2I Z7a λi j=>.int (f i j)):=λH L x y d e k Q hx hy h kk=>by
 obtain⟨i,rfl,h⟩:=hx.intInv h
 obtain⟨j,rfl,h⟩:=hy.intInv h
 exact⟨i,j,rfl,rfl,h.1.ok,kk _ _ (.int _) h.2⟩
theorem Zmo{f:Int->Int->Int}:P2s G (rI0 λi j=>.int (f i j)) (Zs5 λi j=>.int (f i j)):=λH L x y d e k Q hx hy h kk=>by
 obtain⟨i,rfl,h⟩:=hx.intInv h
 obtain⟨j,rfl,h⟩:=hy.intInv h
 exact⟨i,j,rfl,rfl,kk _ _ (.int _) h⟩
theorem Zp3{f:Int->Int->Bool}:P2s G (rI0 λi j=>.bl (f i j)) (Zs5 λi j=>.bool (f i j)):=λH L x y d e k Q hx hy h kk=>by
 obtain⟨i,rfl,h⟩:=hx.intInv h
 obtain⟨j,rfl,h⟩:=hy.intInv h
 exact⟨i,j,rfl,rfl,kk _ _ (.bl _) h⟩
section
variable {X:Cx}
noncomputable def Z8i(K:Xb):R2:=λx y H Q=>∃(L L':Addr->Prop) (d e:Xa),Da K H L x d∧Da K H L' y e∧Shp d∧Shp e∧Q (.bl (JG d e)) H
noncomputable def Z8t(K:Xb):R2:=λx y H Q=>∃(L L':Addr->Prop) (d e:Xa),Da K H L x d∧Da K H L' y e∧Shp d∧Shp e∧Q (.bl (!JG d e)) H
theorem Zkw(hu:X.A.units+64<Ur):OpR X (QL .Eq) (Z8i X.K):=by
 intro pins s σ H x y v u Q I rx ry h
 obtain⟨L,L',d,e,h1,h2,s1,s2,q⟩:=h
 obtain⟨as,k1⟩:=h1.reads rfl I rx (VB s1)
 obtain⟨bs,k2⟩:=h2.reads rfl I ry (VB s2)
 exact eq_dataH k1 k2 s1 s2 hu ⟨.bl _,H,I,rfl,q⟩
theorem Z09(hu:X.A.units+64<Ur):OpR X (QL .NotEq) (Z8t X.K):=by
 intro pins s σ H x y v u Q I rx ry h
 obtain⟨L,L',d,e,h1,h2,s1,s2,q⟩:=h
 obtain⟨as,k1⟩:=h1.reads rfl I rx (VB s1)
 obtain⟨bs,k2⟩:=h2.reads rfl I ry (VB s2)
 exact ne_dataH k1 k2 s1 s2 hu ⟨.bl _,H,I,rfl,q⟩
end
structure Zzs(d:Xa):Prop where
 ok:Shp d
noncomputable def dEq:Xa->Xa->(Xa->Prop)->Prop:=λd e k=>Zzs d∧Zzs e∧k (.bool (JG d e))
noncomputable def dNe:Xa->Xa->(Xa->Prop)->Prop:=λd e k=>Zzs d∧Zzs e∧k (.bool (!JG d e))
theorem Zr9:P2s G (Z8i G) dEq:=λH L x y d e k Q hx hy h kk=>⟨L,L,d,e,hx,hy,h.1.ok,h.2.1.ok,kk _ _ (.bl _) h.2.2⟩
theorem Z59:P2s G (Z8t G) dNe:=λH L x y d e k Q hx hy h kk=>⟨L,L,d,e,hx,hy,h.1.ok,h.2.1.ok,kk _ _ (.bl _) h.2.2⟩
noncomputable def Zhy:Xa->Bool
 | .none=>true
 | _=>false
noncomputable def scD:Xa->Bool
 | .none=>true
 | .bool _=>true
 | .int _=>true
 | .str _=>true
 | _=>false
noncomputable def eqS:Xa->Xa->Bool
 | .none,.none=>true
 | .bool a,.bool b=>a==b
 | .bool a,.int b=>(if a then 1 else 0)==b
 | .int a,.bool b=>a==(if b then 1 else 0)
 | .int a,.int b=>a==b
 | .str a,.str b=>a==b
 | _,_=>false
noncomputable def memS(d:Xa)(ds:List Xa):Bool:=ds.any λe=>eqS e d
theorem Da.toSc{H:Hp}{L:Addr->Prop}{v:V}{d:Xa}(h:Da G H L v d)(s:scD d=true):ScD v d:=by
 cases h with
 | non=>exact .non
 | bl b=>exact .bl b
 | int i=>exact .int i
 | str x=>exact .str x
 | _=>cases s
theorem Da.sc{H:Hp}{L:Addr->Prop}{v:V}{d:Xa}(h:Da G H L v d)(s:scD d=true):Zfm v=true:=by
 cases h.toSc s<;>rfl
theorem Das.sc{H:Hp}{L:Addr->Prop}{vs:List V}{ds:List Xa}(h:Das G H L vs ds):ds.all scD=true->vs.all Zfm=true :=
 Das.ind (Q:=λvs ds=>ds.all scD=true->vs.all Zfm=true) (λ_=>rfl) (λh _ r s=>by
  rw[UG,Xz]at s
  rw[UG,h.sc s.1,r s.2];rfl) h
theorem Da.eqS{H:Hp}{L:Addr->Prop}{v u:V}{d e:Xa}(h:Da G H L v d)(g:Da G H L u e)(s:scD d=true)(t:scD e=true):eqV v u=L2.eqS d e:=by
 cases h.toSc s<;>cases g.toSc t<;>rfl
theorem Das.memS{H:Hp}{L:Addr->Prop}{v:V}{d:Xa}(h:Da G H L v d)(s:scD d=true){vs:List V}{ds:List Xa}(g:Das G H L vs ds):ds.all scD=true->inV v vs=L2.memS d ds :=
 Das.ind (Q:=λvs ds=>ds.all scD=true->inV v vs=L2.memS d ds) (λ_=>rfl) (λg _ r t=>by
  rw[UG,Xz]at t
  have:=r t.2
  unfold inV L2.memS at*
  rw[Vr,Vr,this,g.eqS h t.1 s]) g
noncomputable def dIn(neg:Bool):Xa->Xa->(Xa->Prop)->Prop:=λd e k=>scD d=true∧match e with
 | .list ds=>ds.all scD=true∧k (.bool (if neg then !memS d ds else memS d ds))
 | .tuple ds=>ds.all scD=true∧k (.bool (if neg then !memS d ds else memS d ds))
 | _=>False
theorem Zpl{neg:Bool}:P2s G (rIn G neg) (dIn neg):=λH L x y d e k Q hx hy h kk=>by
 obtain⟨s,h⟩:=h
 cases hy with
 | lst l e r=>exact⟨_,_,rfl,.inl (.inl e),hx.sc s,r.sc h.1,by rw[Das.memS hx s r h.1];exact kk _ _ (.bl _) h.2⟩
 | tup e r=>exact⟨_,_,rfl,.inr (.inl (.inl e)),hx.sc s,r.sc h.1,by rw[Das.memS hx s r h.1];exact kk _ _ (.bl _) h.2⟩
 | scr ks=>exact⟨_,_,rfl,.inl ks.sq,hx.sc s,(Das.ints (G:=G) (H:=H) (L:=L) _).sc h.1,by rw[Das.memS hx s (Das.ints (G:=G) (H:=H) (L:=L) _) h.1];exact kk _ _ (.bl _) h.2⟩
 | _=>exact h.elim
noncomputable def ixD(d e:Xa):Option Xa:=match d,e with
 | .list ds,.int i=>atI ds i
 | .tuple ds,.int i=>atI ds i
 | _,_=>none
noncomputable def dIx:Xa->Xa->(OT->Prop)->Prop:=λd e k=>match ixD d e with|some x=>k (.fz x)|none=>False
theorem Das.atI{H:Hp}{L:Addr->Prop}{xs:List V}{ds:List Xa}{i:Int}{d:Xa}(h:Das G H L xs ds)(e:L2.atI ds i=some d):∃x,L2.atI xs i=some x∧Da G H L x d:=by
 unfold L2.atI at*
 rw[h.length]
 cases q:ixN ds.length i with
 | none=>rw[q]at e;cases e
 | some j=>
  rw[q]at e
  exact h.get e
theorem Z6q:P2 G (rIx G) dIx:=λH L x y d e k Q hx hy h kk=>by
 unfold dIx at h
 split at h
 case h_2=>exact h.elim
 rename_i z ez
 have fin:∀v,Da G H L v z->Q v H:=λv q=>kk H v (.fz z) [] (Same.refl _) (.fz (q.wide λa l _=>⟨.inl l,λm=>nomatch m⟩)) .nil (λa m=>nomatch m) h
 cases hx with
 | lst l e1 r=>
  cases hy with
  | int i=>
   obtain⟨v,e2,q⟩:=r.atI (show L2.atI _ i=some z from ez)
   exact .inl ⟨_,_,i,v,rfl,rfl,.inl e1,e2,fin v q⟩
  | _=>cases ez
 | tup e1 r=>
  cases hy with
  | int i=>
   obtain⟨v,e2,q⟩:=r.atI (show L2.atI _ i=some z from ez)
   exact .inr (.inl ⟨_,_,i,v,rfl,rfl,.inl (.inl e1),e2,fin v q⟩)
  | _=>cases ez
 | scr ks=>
  cases hy with
  | int i=>
   obtain⟨v,e2,q⟩:=(Das.ints (G:=G) (H:=H) (L:=L) _).atI (show L2.atI _ i=some z from ez)
   exact .inl ⟨_,_,i,v,rfl,rfl,ks.sq,e2,fin v q⟩
  | _=>cases ez
 | _=>cases ez
theorem Own.list{H:Hp}{L:Addr->Prop}{p:Addr}{xs:List V}{ds:List Xa}(hp:H p=none)(h:Das G H L xs ds):Own G (upd H p (.lst xs)) (λa=>(L a∨H a=none)∧a∉[p]) (.ref p) (.nd (ds.map OT.fz)) [p] :=
 .nd Zq (((h.wide λa l q=>⟨.inl l,λm=>q (by rw[Xl.mp m];exact hp)⟩).same (Z6 hp _)).owns)
theorem Zdu{H:Hp}{p:Addr}(hp:H p=none):∀a∈[p],H a=none:=λa m=>by rw[Xl.mp m];exact hp
theorem Ze4(p:Addr):[p].Nodup:=Qi.mpr ⟨λm=>(nomatch m),.nil⟩
noncomputable def dCat:Xa->Xa->(OT->Prop)->Prop:=λd e k=>asL d λds=>asL e λes=>ds.length+es.length≤Xi∧k (.nd ((ds ++ es).map OT.fz))
theorem Zox:P2 G (Zyg G) dCat:=λH L x y d e k Q hx hy h kk=>by
 obtain⟨a,xs,ds,rfl,e1,r1,h⟩:=hx.lstInv h
 obtain⟨b,ys,es,rfl,e2,r2,h⟩:=hy.lstInv h
 exact⟨a,b,xs,ys,rfl,rfl,e1,e2,by rw[r1.length,r2.length];exact h.1,λp hp=>kk _ _ _ [p] (Z6 hp _) (Own.list hp (r1.append r2)) (Ze4 p) (Zdu hp) h.2⟩
noncomputable def n1(k:Xa->Prop)(ds:List Xa):Prop:=match ds with|[d]=>k d|_=>False
noncomputable def n2(k:Xa->Xa->Prop)(ds:List Xa):Prop:=match ds with|[d,e]=>k d e|_=>False
theorem Das.one{H:Hp}{L:Addr->Prop}{vs:List V}{ds:List Xa}{k:Xa->Prop}(q:Das G H L vs ds)(h:n1 k ds):∃v d,vs=[v]∧ds=[d]∧Da G H L v d∧k d:=by
 cases q with
 | nil=>exact h.elim
 | cons q r=>
  cases r with
  | nil=>exact⟨_,_,rfl,rfl,q,h⟩
  | cons _ _=>exact h.elim
noncomputable def Zsk:Xa->Option Nat
 | .list ds=>some ds.length
 | .tuple ds=>some ds.length
 | _=>none
noncomputable def Z85:List Xa->(Xa->Prop)->Prop:=λds k=>n1 (λd=>match Zsk d with|some n=>k (.int n)|none=>False) ds
theorem Z25:PNs G (Z7h G) Z85:=λH L xs ds k Q hx h kk=>by
 obtain⟨v,d,rfl,rfl,q,h⟩:=hx.one h
 cases q with
 | lst l e r=>exact⟨_,_,rfl,.inl (.inl e),by rw[r.length];exact kk _ _ (.int _) h⟩
 | tup e r=>exact⟨_,_,rfl,.inr (.inl (.inl e)),by rw[r.length];exact kk _ _ (.int _) h⟩
 | scr ks=>exact⟨_,_,rfl,.inl ks.sq,by rw[(Das.ints (G:=G) (H:=H) (L:=L) _).length];exact kk _ _ (.int _) h⟩
 | _=>exact h.elim
noncomputable def Zj8:Xa->Option (List Xa)
 | .list ds=>some ds
 | .tuple ds=>some ds
 | _=>none
noncomputable def Z2o:List Xa->(OT->Prop)->Prop:=λds k=>n1 (λd=>match Zj8 d with|some es=>k (.nd (es.map OT.fz))|none=>False) ds
theorem Zwr:PN G (Zm4 G) Z2o:=λH L xs ds k Q hx h kk=>by
 obtain⟨v,d,rfl,rfl,q,h⟩:=hx.one h
 cases q with
 | lst l e r=>exact⟨_,_,rfl,.inl (.inl e),λp hp=>kk _ _ _ [p] (Z6 hp _) (Own.list hp r) (Ze4 p) (Zdu hp) h⟩
 | tup e r=>exact⟨_,_,rfl,.inr (.inl (.inl e)),λp hp=>kk _ _ _ [p] (Z6 hp _) (Own.list hp r) (Ze4 p) (Zdu hp) h⟩
 | scr ks=>exact⟨_,_,rfl,.inl ks.sq,λp hp=>kk _ _ _ [p] (Z6 hp _) (Own.list hp (Das.ints _)) (Ze4 p) (Zdu hp) h⟩
 | _=>exact h.elim
section
variable {X:Cx}{io:List Nat}{p c:Bool}{a:Expr}{ma:MEt}{pos:Pos}
noncomputable def Z8u(T:String):Xa->Bool
 | .none=>false
 | .bool _=>T=="bool"||T=="int"
 | .int _=>T=="int"
 | .str _=>T=="str"
 | .list _=>T=="list"
 | .tuple _=>T=="tuple"
 | .dict _=>false
end
section
variable {prog:X4}{w:Qv}{A:Qt}{E:Xc->Xf->Prop}{h:Heap}{g:Array GenState}{d:Drawn}{t:Nat}{os:OsState}{a C:Addr}{o:Obj}{K:Xb}
theorem Zvt(M:Model)(hx:h.get? a=some o)(hc:o.cls= .ref C):Q0 M h (typeOf (.ref a)) (.ref C):=hc▸(Q0.ld hx).andThen .now
theorem Zrl{R:Result->Xf->Prop}(X:K.In h)(Z:Zb6 K C)(hx:h.get? a=some o)(hc:o.cls= .ref C)(hq:R (.ok (.ret (.ref C))) ⟨h,g,d,t,os⟩) :
  U8 (X8 prog w) A (.call (.builtin "getset_descriptor.__get__") ⟨[.builtin "object.__class__",.ref a,.ref C],[]⟩) R ⟨h,g,d,t,os⟩:=by
 have L1:Q0 (X8 prog w) h (isSubtype (.ref C) (.type (".".intercalate ("object.__class__".cutAt '.').dropLast))) true:=by
  rw[F.owner_object_class]
  exact PySem.W.looks_subIn X Z.isO
 have T5:(⟨h,g,d,t,os⟩:Xf).TypeIs (.builtin "object.__class__") "getset_descriptor" :=F.typeOf_object_class
 refine codeAny_call_builtin F.slot_gs_get.plain F.entry_gs_get (F.slot_gs_get.check _ _ _ _ _ _ _ _ T5 (F.args_gs_get _ _ _) ?_)
 repeat (any_goals (first|assumption|(with_reducible refine BK hx ?_;rw[hc])|(with_reducible refine Xd (Q0.at L1 ?_))|(with_reducible refine Q0.at L1 ?_)|wp_step))
 refine⟨Code.quiet_builtin _ (by decide +kernel),codeAny_builtin F.entry_object_class ?_⟩
 repeat (any_goals (first|assumption|(with_reducible refine BK hx ?_;rw[hc])|wp_step))
theorem Zmj{tk:Tok}{Q:Fin->Xf->Prop}(X:K.In h)(Z:Zb6 K C)(hx:h.get? a=some o)(hc:o.cls= .ref C)(hq:Q (.done (.ret (.ref C))) ⟨h,g,d,t,os⟩) :
  XC (X8 prog w) A (VF.«object.__getattribute__» ⟨[.ref a,.str "__class__" tk],[]⟩) Q E ⟨h,g,d,t,os⟩:=by
 have T5:(⟨h,g,d,t,os⟩:Xf).TypeIs (.builtin "object.__class__") "getset_descriptor" :=F.typeOf_object_class
 have g5:=F.typeOf_object_class
 have g6:=F.slot_gs_get.lookup
 have g7:=F.slot_gs_set.lookup
 have L4:=PySem.W.looks_findIn (M:=X8 prog w) X Z.cl
 repeat (any_goals (first|assumption|(with_reducible refine BK hx ?_;rw[hc])|(with_reducible refine Xd (Q0.at L4 ?_))|(with_reducible refine Q0.at L4 ?_)|wp_step))
 refine Zrl X Z hx hc ?_
 repeat (any_goals (first|assumption|wp_step))
theorem Zlx{M:Model}{nameV:Xc}{Q:Unit->Xf->Prop}(X:K.In h)(Z:Zb6 K C)(hx:h.get? a=some o)(hc:o.cls= .ref C)(hq:Q () ⟨h,g,d,t,os⟩) :
  XC M A (checkBuiltinCall "BaseException.__getattribute__" ⟨[.ref a,nameV],[]⟩) Q E ⟨h,g,d,t,os⟩:=by
 have e1:builtinKind "BaseException.__getattribute__"=some .slot:=by decide +kernel
 have e2:splitId "BaseException.__getattribute__"=some ("BaseException","__getattribute__"):=by decide +kernel
 have L1:=PySem.W.looks_subIn (M:=M) X Z.isB
 have e3:=F.args_bexc_ga (.ref a) nameV
 simp only[checkBuiltinCall,e1,e2]
 refine Xd ?_
 unfold isInstance
 repeat (first|(with_reducible refine BK hx ?_;rw[hc])|(with_reducible refine Xd (Q0.at L1 ?_))|(with_reducible refine Q0.at L1 ?_)|wp_step)
 exact hq
theorem Zm2{tk:Tok}{R:Result->Xf->Prop}(X:K.In h)(Z:Zb6 K C)(hx:h.get? a=some o)(hc:o.cls= .ref C)(hq:R (.ok (.ret (.ref C))) ⟨h,g,d,t,os⟩) :
  U8 (X8 prog w) A (.call (.builtin "BaseException.__getattribute__") ⟨[.ref a,.str "__class__" tk],[]⟩) R ⟨h,g,d,t,os⟩ :=
 codeAny_call_builtin F.excAttr_ValueError.ga.plain F.entry_bexc_ga (Zlx X Z hx hc (Zmj X Z hx hc hq))
theorem Zt2{tk:Tok}{fill expr:Bool}{Q:Xc->Xf->Prop}(X:K.In h)(Z:Zb6 K C)(hx:h.get? a=some o)(hc:o.cls= .ref C)(hq:Q (.ref C) ⟨h,g,d,t,os⟩) :
  XC (X8 prog w) A (getAttrBy (.ref a) (.str "__class__" tk) fill expr) Q E ⟨h,g,d,t,os⟩:=by
 have f3:=F.excAttr_ValueError.ga.bind (.ref a)
 have y0:(expr&&onTheHeap (Ux "BaseException.__getattribute__"))=false:=by cases expr<;>rfl
 have y2:(Ux "BaseException.__getattribute__"==Ux "object.__getattribute__")=false:=by decide +kernel
 have y1:(onTheHeap (Qu C)&&Ux "BaseException.__getattribute__"==Ux "object.__getattribute__")=false:=by rw[y2];rfl
 have L2:=PySem.W.looks_findIn (M:=X8 prog w) X Z.ga
 have L3:=PySem.W.looks_findIn (M:=X8 prog w) X Z.gt
 repeat (any_goals (first|assumption|(with_reducible refine BK hx ?_;rw[hc])|(with_reducible refine Q0.at L2 ?_)|(with_reducible refine Q0.at L3 ?_)|(with_reducible refine Xd (Q0.at L2 ?_))|(with_reducible refine Xd (Q0.at L3 ?_))|wp_step))
 refine Zm2 X Z hx hc ?_
 repeat (any_goals (first|assumption|wp_step))
theorem Zms{Q:Option Xc->Xf->Prop}(X:K.In h)(Z:Zb6 K C)(hx:h.get? a=some o)(hc:o.cls= .ref C)(hq:Q (some (.ref C)) ⟨h,g,d,t+1,os⟩) :
  XC (X8 prog w) A (getAttr? (.ref a) "__class__") Q E ⟨h,g,d,t,os⟩:=by
 unfold getAttr? getAttrBy?
 repeat (any_goals (first|assumption|with_reducible apply Zt2 X Z hx hc|wp_step))
end
theorem Zj9{K:Xb}{a C:Addr}(Z:Zb6 K C):PySem.W.KitX K (.ref a) (.ref C) (λh=>∃o,h.get? a=some o∧o.cls= .ref C) where
 ty:=λM h _ p=>let⟨_,hx,hc⟩:=p;Zvt M hx hc
 it:=λM h X _=>by
  have z:=Z.isC
  unfold PySem.W.clsIn at z
  split at z
  ·rename_i ho
   intro A' Q' E' s' k q
   unfold isType loadHead
   exact Xd (wpAny_loadPart (k _ _ (X _ _ ho)) (XH q))
  ·cases z
 ne:=λh tp dd its n sl X htp=>by
  have z:=Z.isC
  refine Bool.eq_false_iff.mpr λq=>?_
  have e:C=tp:=Qu.inj (beq_iff_eq.mp q)
  subst e
  unfold PySem.W.clsIn at z
  split at z
  ·rename_i ho
   have z:=(X _ _ ho).symm.trans htp
   cases z
  ·cases z
 ca:=fun{_ _ _ _ _ s} X p k=>by
  obtain⟨h,g,d,t,os⟩:=s
  obtain⟨_,hx,hc⟩:=p
  exact Zms X Z hx hc k
variable {G:Xb}
section
variable {X:Cx}{io:List Nat}{p c p' c':Bool}{a b e:Expr}{ma m:MEt}{pos pp p2:Pos}{K:Xb}
noncomputable abbrev MOt:=Zf->(Option Int->Zf->Prop)->Prop
noncomputable def MO(X:Cx)(io:List Nat)(p:Bool)(e:Option Expr)(m:MOt):Prop:=∃t,PO X e t∧∀(C:MC X.K) (H:Hp) (σ:St) (δ:Zf) (fp:Fp) (ex:Addr->Prop) (K:Option Int->Zf->Prop) (Q:Option Int->Hp->Prop),Rel C io H σ δ fp ex->m δ K ->
 (∀ H' b δ' fp',Rel C io H' σ δ' fp' ex->Stp p H δ fp H' δ' fp'->K b δ'->Q b H')->t σ H Q
noncomputable def Zpu:MOt:=λδ K=>K none δ
noncomputable def Zyx(m:MEt):MOt:=λδ K=>m δ λr δ'=>asI r.data λi=>K (some i) δ'
theorem Jq:MO X io true none Zpu:=⟨_,Zua,λC H σ δ fp ex K Q R h k=>k H none δ fp R (.refl _ _ _ _) h⟩
theorem W7(h:ME X io p c e m):MO X io p (some e) (Zyx m):=by
 obtain⟨_,A,s⟩:=h
 exact⟨_,Zxa A,λC H σ δ fp ex K Q R h k=>s C H σ δ fp ex _ _ R h λH' v r δ' fp' new r1 h1=>by
  obtain⟨i,rfl,h1⟩:=(r1.da R).intInv h1
  exact⟨i,rfl,k H' _ δ' fp' r1.base r1.stp h1⟩⟩
noncomputable def cutD(ds:List Xa)(lo hi:Option Int):List Xa:=(ds.drop (HT.sIx ds.length 0 lo)).take (HT.sIx ds.length ds.length hi-HT.sIx ds.length 0 lo)
theorem Das.cut{H:Hp}{L:Addr->Prop}{xs:List V}{ds:List Xa}(h:Das G H L xs ds)(lo hi:Option Int):Das G H L (Zxz xs lo hi) (cutD ds lo hi):=by
 unfold Zxz cutD
 rw[h.length]
 exact(h.drop _).take _
noncomputable def mSl(m:MEt)(ml mh:MOt):MEt:=λδ K=>m δ λr δ1=>ml δ1 λlo δ2=>mh δ2 λhi δ3=>asL r.data λds=>K (.nd ((cutD ds lo hi).map OT.fz)) δ3
theorem Zo8{lo hi:Option Expr}{ml mh:MOt}(ha:ME X io true c a ma)(hl:MO X io true lo ml)(hh:MO X io true hi mh):ME X io true c (.Subscript a (.Slice lo hi none p2) pos) (mSl ma ml mh):=by
 obtain⟨_,A,s⟩:=ha
 obtain⟨_,B,sl⟩:=hl
 obtain⟨_,D,sh⟩:=hh
 refine⟨_,Zkh (Zri rfl) A B D,?_⟩
 intro C H σ δ fp ex K' Q R h k
 refine s C H σ δ fp ex _ _ R h λH1 v r δ1 fp1 new r1 h1=>?_
 refine sl C H1 σ δ1 fp1 ex _ _ r1.base h1 λH2 l δ2 fp2 R2 S2 h2=>?_
 refine sh C H2 σ δ2 fp2 ex _ _ R2 h2 λH3 u δ3 fp3 R3 S3 h3=>?_
 have s2:Same H1 H2:=λb o e=>S2.keep b o e (.inl rfl)
 have s3:Same H2 H3:=λb o e=>S3.keep b o e (.inl rfl)
 obtain⟨e1,e2⟩:=r1.stp.env rfl
 obtain⟨e3,e4⟩:=S2.env rfl
 obtain⟨e5,e6⟩:=S3.env rfl
 have q:=((r1.da R).same s2).same s3
 obtain⟨a',xs,ds,rfl,e,qs,h3⟩:=q.lstInv h3
 refine⟨a',xs,rfl,e,λp hp=>?_⟩
 have S:=(r1.stp.trans S2).trans S3
 refine k _ _ _ δ3 fp3 [p] (RE.tree R R3 S (Z6 hp _) (Zdu hp) (Ze4 p) (Own.list hp ((qs.cut l u).wide λa l _=>?_))) h3
 rw[e6,e4]
 exact l
theorem Owns.set{H:Hp}{L:Addr->Prop}{x:V}{r:OT}(hr:Own G H L x r []):∀{xs:List V} {ts:List OT} {as:List Addr} (j:Nat),Owns G H L xs ts as->∃bs,Owns G H L (xs.set j x) (ts.set j r) bs∧bs.Sublist as
 | _,_,_,_,.nil=>⟨[],.nil,.refl _⟩
 | _,_,_,0,.cons k t=>⟨_,.cons hr t,by simp⟩
 | _,_,_,j+1,.cons (as:=as) k t=>by
  obtain⟨bs,o,s⟩:=Owns.set hr j t
  exact⟨as ++ bs,.cons k o,List.Sublist.append_left s as⟩
theorem Owns.get{H:Hp}{L:Addr->Prop}:∀{xs:List V} {ts:List OT} {as:List Addr} {j:Nat} {t:OT},Owns G H L xs ts as->ts[j]? =Bh t->∃x bs,xs[j]? =Bh x∧Own G H L x t bs∧bs.Sublist as
 | _,_,_,_,_,.nil,e=>by simp at e
 | _,_,_,0,_,.cons k _,e=>by simp at e;subst e;exact⟨_,_,rfl,k,List.sublist_append_left _ _⟩
 | _,_,_,j+1,t,.cons _ r,e=>by
  obtain⟨x,bs,h1,h2,h3⟩:=Owns.get (j:=j) (t:=t) r (by simpa using e)
  exact⟨x,bs,by simpa using h1,h2,h3.trans (List.sublist_append_right _ _)⟩
theorem Rel.top{C:MC G}{H:Hp}{σ:St}{δ:Zf}{fp:Fp}{ex:Addr->Prop}{i:Nat}{ts ts':List OT}{a':Addr}{xs ys:List V}{bs bs':List Addr}(R:Rel C io H σ δ fp ex)(hi:δ[i]? =some (some (.nd ts)))(hv:σ[i]? =some (some (.ref a')))
  (hf:fp i=a' :: bs) (hx:H a'=some (.lst xs)) (o:Owns G H (Lf C fp ex) ys ts' bs') (hs:bs'.Sublist bs) :
  Rel C io (upd H a' (.lst ys)) σ (δ.set i (some (.nd ts'))) (fpu fp i (a' :: bs')) ex∧Stp false H δ fp (upd H a' (.lst ys)) (δ.set i (some (.nd ts'))) (fpu fp i (a' :: bs')):=by
 have nd:=R.nd i
 rw[hf]at nd
 have hn:=Qi.mp nd
 have hm:a'∈fp i:=by rw[hf];exact .head _
 have ne':∀a,¬Foot fp a->a≠a':=λa h z=>h ⟨i,by rw[z];exact hm⟩
 have kp:∀b o,H b=some o->b≠a'->upd H a' (.lst ys) b=some o:=λb o e n=>by rw[Zm n];exact e
 have sub:∀a,a∈a' :: bs'->a∈fp i:=λa m=>by
  rw[hf]
  rcases Xn.mp m with rfl|m
  ·exact .head _
  ·exact .tail _ (hs.subset m)
 have o':Owns G (upd H a' (.lst ys)) (Lf C (fpu fp i (a' :: bs')) (exu ex [])) ys ts' bs':=by
  have f0:∀a,¬Foot fp a->¬Foot (fpu fp i (a' :: bs')) a:=λa h z=>by
   rcases z.of_u with z|⟨j,_,z⟩
   ·exact h ⟨i,sub a z⟩
   ·exact h ⟨j,z⟩
  have f1:∀a (zs:MuO),Lf C fp ex a->Rd H a zs.ho->Lf C (fpu fp i (a' :: bs')) (exu ex []) a∧Rd (upd H a' (.lst ys)) a zs.ho:=λa zs l q=>by
   refine⟨⟨f0 a l.1,λz=>l.2.1 (Za3.mp z),l.2.2⟩,?_⟩
   rcases q with q|⟨u,q⟩
   ·exact .inl (kp a _ q (ne' a l.1))
   ·exact .inr ⟨u,kp a _ q (ne' a l.1)⟩
  have f2:∀a (zs:ImO),H a=some zs.ho->upd H a' (.lst ys) a=some zs.ho:=λa zs q=>kp a _ q λz=>ImO.nl q (z▸hx)
  exact o.frame f1 f2 λa m zs q=>kp a _ q λz=>hn.1 (hs.subset (z▸m))
 have key:=R.change (new:=[]) (as':=a' :: bs') (t':=.nd ts') (H':=upd H a' (.lst ys)) hi hv (λb o e nb=>kp b o e λz=>nb (by rw[z];exact hm)) (λb e=>by
   by_cases q:b=a'
   ·subst q;rw[Zq]at e;cases e
   ·rwa[Zm q]at e) (.nd Zq o') (Qi.mpr ⟨λm=>hn.1 (hs.subset m),hn.2.sublist hs⟩) (λa m=>.inl (sub a m)) (λa m=>nomatch m)
 exact⟨key.1.drop λa z=>.inl z,key.2⟩
end
variable {G:Xb}
section
variable {X:Cx}{io:List Nat}{p c p' c':Bool}{a b e:Expr}{ma m mi mj:MEt}{pos pp p2 apos cpos px:Pos}{K:Xb}{i:Nat}{x:Str}
theorem Rel.ownNd{C:MC G}{H:Hp}{σ:St}{δ:Zf}{fp:Fp}{ex:Addr->Prop}{ts:List OT}(R:Rel C io H σ δ fp ex)(hi:δ[i]? =some (some (.nd ts))) :
  ∃a' xs bs,σ[i]? =some (some (.ref a'))∧H a'=some (.lst xs)∧Owns G H (Lf C fp ex) xs ts bs∧fp i=a' :: bs:=by
 obtain⟨v,e,o⟩:=R.own i _ hi
 generalize hf:fp i=as at o
 cases o with
 | nd h r=>exact⟨_,_,_,e,h,r,rfl⟩
noncomputable def Zhc(i:Nat)(m:MEt):MSt:=λD δ=>match δ[i]? with
 | some (some (.nd _))=>m δ λr δ1=>match δ1[i]? with
  | some (some (.nd ts))=>ts.length<Xi∧D.nx (δ1.set i (some (.nd (ts ++ [.fz r.data]))))
  | _=>False
 | _=>False
theorem Jm(i:Nat)(he:ME X io p true e m)(hN:X.N[i]? =some x:=by rfl)(hv:Vis X.env.scope x:=by first|exact QG rfl|exact Qo (QG rfl)|exact Qo (Qo rfl))(hd:(x==("__debug__" : Str))=false:=by decide)
  (hcd:(x==("__classdict__" : Str))=false:=by decide)
  (hbase:Vd (.Name x px) "append" X.env (eval (.Name x px) X.env)=eval (.Name x px) X.env:=by rfl)
  (hfew:((Q6 cpos (Xj [e] X.env)).all (λx=>!x.1)&&(backToKw cpos (VL [] X.env)).all (λx=>x.1.isSome)
   &&decide ([e].length+([]:List Vb).length+(if([]:List Vb).isEmpty then 0 else 1)<30))=true:=by rfl)
  (hline:(apos.endLine==cpos.line)=true:=by rfl) (hs:Xj [e] X.env=(false,eval e X.env) :: Xj [] X.env:=by rfl) (hplain:(Q6 cpos (Xj [] X.env)).any (·.1)=false:=by rfl)
  (hsw:Bc (.Call (.Attribute (.Name x px) "append" apos) [e] [] cpos) none pos.line X.env=pure false:=by rfl) :
  MS X io (.Expr (.Call (.Attribute (.Name x px) "append" apos) [e] [] cpos) pos) (Zhc i m):=by
 obtain⟨_,A,s⟩:=he
 refine⟨_,Zfa (Zoy Vp PySem.F.slot_list_append PySem.F.type_list_append Ze7 (pv i hN hv hd hcd) (Yw A Zd8 hs) hbase hfew hline hs hplain) hsw,λC H σ δ fp ex D D' R h E=>?_⟩
 unfold Zhc at h
 split at h
 case h_2=>exact h.elim
 rename_i ts0 hi0
 obtain⟨a',xs0,bs0,hv0,hx0,_,_⟩:=R.ownNd hi0
 refine⟨_,hv0,.inl ⟨rfl,xs0,.inl (.inl hx0)⟩,?_⟩
 refine s C H σ δ fp ex _ _ R h λH1 v r δ1 fp1 new r1 h1=>?_
 split at h1
 case h_2=>exact h1.elim
 rename_i ts1 hi1
 have R1:=r1.base
 obtain⟨a1,xs1,bs1,hv1,hx1,o1,hf1⟩:=R1.ownNd hi1
 rw[hv0]at hv1
 cases hv1
 have q:=(r1.da R).wide (L':=Lf C fp1 ex) λa l _=>l rfl
 refine⟨a',xs1,v,rfl,rfl,hx1,by rw[o1.length];exact h1.1,?_⟩
 have o2:=o1.snoc (.fz q)
 obtain⟨R2,S2⟩:=R1.top hi1 hv0 hf1 hx1 o2 (by simp)
 exact E.nx _ σ _ _ R2 (r1.stp.kp.trans S2.kp) h1.2
theorem SE.pureAfter{t:TE}{C:MC G}{H:Hp}{σ:St}{δ:Zf}{fp:Fp}{ex:Addr->Prop}{K':OT->Zf->Prop}{Q:VK}(s:SE G io true c t m)(R:Rel C io H σ δ fp ex)(h:m δ K')(k:∀H' v r,Rel C io H' σ δ fp ex->Same H H'->Da G H' (λa=>c=true->Lf C fp ex a) v r.data->K' r δ->Q v H'):t σ H Q :=
 s C H σ δ fp ex _ _ R h λH1 v r δ1 fp1 new r1 h1=>by
  obtain⟨e1,e2⟩:=r1.stp.env rfl
  have q:=r1.da R
  have R1:=r1.base
  rw[e1]at R1 h1
  rw[e2]at R1 q
  exact k H1 v r R1 (λb o e=>r1.stp.keep b o e (.inl rfl)) q h1
theorem Owns.deep{H:Hp}{L:Addr->Prop}{b':Addr}{ws ws':List V}{us us':List OT}(hb:H b'=Bh (HO.lst ws))(hL:¬L b')(hc:∀cs,Owns G H L ws us cs->∃cs',Owns G H L ws' us' cs'∧cs'.Sublist cs) :
  ∀{xs:List V} {ts:List OT} {as:List Addr} {j:Nat},Owns G H L xs ts as->as.Nodup->xs[j]? =Bh (.ref b')->ts[j]? =Bh (.nd us)->∃as',Owns G (upd H b' (.lst ws')) L xs (ts.set j (.nd us')) as'∧as'.Sublist as∧b'∈as
 | _,_,_,_,.nil,_,e,_=>by simp at e
 | _,_,_,0,.cons (as:=as) (bs:=bs) k t,nd,e,e'=>by
  simp at e e'
  subst e e'
  have nd':=Bf.mp nd
  have kp:∀a o,a≠b'->H a=Bh o->upd H b' (.lst ws') a=Bh o:=λa o n q=>by rw[Zm n];exact q
  have f1:∀a (zs:MuO),L a->Rd H a zs.ho->L a∧Rd (upd H b' (.lst ws')) a zs.ho:=λa zs l q=>⟨l,by
   have na:a≠b':=λz=>hL (z▸l)
   rcases q with q|⟨u,q⟩
   ·exact .inl (kp a _ na q)
   ·exact .inr ⟨u,kp a _ na q⟩⟩
  have f2:∀a (zs:ImO),H a=Bh zs.ho->upd H b' (.lst ws') a=Bh zs.ho:=λa zs q=>kp a _ (λz=>ImO.nl q (z▸hb)) q
  cases k with
  | nd h r=>
   rename_i xs0 as0
   rw[hb]at h
   cases h
   have nd2:=Qi.mp nd'.1
   obtain⟨cs',o',s'⟩:=hc _ r
   refine⟨b' :: cs' ++ bs,.cons (.nd Zq (o'.frame f1 f2 λa m zs q=>kp a _ (λz=>nd2.1 (s'.subset (z▸m))) q)) (t.frame f1 f2 λa m zs q=>kp a _ (λz=>nd'.2.2 b' (.head _) a m z.symm) q),List.Sublist.append_right (List.Sublist.cons₂ _ s') bs,Qk _ (.head _)⟩
 | _,_,_,j+1,.cons (as:=as) (bs:=bs) k t,nd,e,e'=>by
  have nd':=Bf.mp nd
  obtain⟨as',o,s,m⟩:=Owns.deep hb hL hc (j:=j) t nd'.2.1 (by simpa using e) (by simpa using e')
  have nb:b'∉as:=λz=>nd'.2.2 b' z b' m rfl
  refine⟨as ++ as',.cons ?_ o,List.Sublist.append_left s as,Xw _ m⟩
  have kp:∀a o,a≠b'->H a=Bh o->upd H b' (.lst ws') a=Bh o:=λa o n q=>by rw[Zm n];exact q
  refine k.frame (λa zs l q=>⟨l,?_⟩) (λa zs q=>kp a _ (λz=>ImO.nl q (z▸hb)) q) λa m' zs q=>kp a _ (λz=>nb (z▸m')) q
  have na:a≠b':=λz=>hL (z▸l)
  rcases q with q|⟨u,q⟩
  ·exact .inl (kp a _ na q)
  ·exact .inr ⟨u,kp a _ na q⟩
end
variable {G:Xb}
mutual
noncomputable def Zvx:OT->Bool
 | .fz d=>Zaq d
 | .nd ts=>Zn1 ts
 | .tp ts=>Zn1 ts
 | .dc _ _ _=>false
noncomputable def Zn1:List OT->Bool
 | []=>true
 | t :: ts=>Zvx t&&Zn1 ts
end
section
variable {X:Cx}{io:List Nat}{p c:Bool}{e:Expr}{m:MEt}
theorem Rel.freeze{C:MC G}{H:Hp}{σ:St}{δ:Zf}{fp:Fp}{ex:Addr->Prop}{i:Nat}{t:OT}(R:Rel C io H σ δ fp ex)(hio:i∉io)(hi:δ[i]? =some (some t)):Rel C io H σ (δ.set i (some (.fz t.data))) (fpu fp i []) ex:=by
 have hil:i<δ.length:=(Xv.mp hi).1
 have sub:∀j a,a∈fpu fp i [] j->j≠i∧a∈fp j:=λj a m=>by
  by_cases ej:j=i
  ·subst ej;rw[Zy]at m;exact nomatch m
  ·rw[Yk ej]at m;exact⟨ej,m⟩
 have lw:∀a,Lf C fp ex a->Lf C (fpu fp i []) ex a:=λa l=>⟨λ⟨j,z⟩=>l.1 ⟨j,(sub j a z).2⟩,l.2.1,l.2.2⟩
 have ln:∀a∈fp i,Lf C (fpu fp i []) ex a:=λa m=>⟨λ⟨j,z⟩=>(sub j a z).1 (R.dj j i a (sub j a z).2 m),R.dx i a m,.inr (by
  rcases R.new i a m with z|z
  ·exact absurd z.1 hio
  ·exact z)⟩
 refine⟨by rw[BX];exact R.len,λj t' e=>?_,λj h=>?_,λj=>?_,λj k a h1 h2=>R.dj j k a (sub j a h1).2 (sub k a h2).2,λj a h z=>R.dx j a (sub j a h).2 z,R.xa,R.fr,R.al,λj a h=>R.new j a (sub j a h).2,R.io⟩
 ·by_cases ej:j=i
  ·subst ej
   rw[QF hil]at e
   cases e
   obtain⟨v,e1,o⟩:=R.own j t hi
   exact⟨v,e1,by rw[Zy];exact .fz (o.da (λa l _=>lw a l) ln)⟩
  ·rw[Qd (Ba ej)]at e
   obtain⟨w,e1,o⟩:=R.own j t' e
   exact⟨w,e1,by rw[Yk ej];exact o.wide λa l _=>lw a l⟩
 ·by_cases ej:j=i
  ·subst ej;rw[Zy]
  ·rw[Yk ej]
   exact R.emp j λt' z=>h t' (by rw[Qd (Ba ej)];exact z)
 ·by_cases ej:j=i
  ·subst ej;rw[Zy];exact .nil
  ·rw[Yk ej];exact R.nd j
noncomputable def Zh1(i:Nat)(u:MSt):MSt:=λD δ=>match δ[i]? with|some (some t)=>u D (δ.set i (some (.fz t.data)))|_=>False
theorem Zin{st:Stmt}{u:MSt}(i:Nat)(h:MS X io st u)(hio:i∉io:=by decide):MS X io st (Zh1 i u):=by
 obtain⟨_,A,s⟩:=h
 exact⟨_,A,λC H σ δ fp ex D D' R h E=>by
  unfold Zh1 at h
  split at h
  case h_2=>exact h.elim
  rename_i t hi
  refine s C H σ _ _ ex D D' (R.freeze hio hi) h (E.shift ⟨λb o e _=>e,λz=>(nomatch z),λa z=>?_,λb e=>e⟩)
  rcases z.of_u with z|⟨j,_,z⟩
  ·exact nomatch z
  ·exact .inl ⟨j,z⟩⟩
end
variable {G:Xb}
noncomputable def Zy3(ds:List Xa)(k:OT->Prop):Prop:=∃ns:List Int,ds=[.list (ns.map XJ)]∧ns.length≤63∧k (.fz (.bool true))
theorem Z1t{H:Hp}{a:Addr}{ns:List Int}{E:XK}(hl:ns.length≤63)(h:SqL G H a (ns.map V.int)):spD G Zy3 [.ref a] H (λv _=>v= .bl true) E:=by
 refine⟨λ_=>True,[.list (ns.map XJ)],λr=>r= .fz (.bool true),.cons ?_ .nil,⟨ns,rfl,hl,rfl⟩,λr v H' new kr s o _ _=>?_⟩
 ·rcases h with h|h
  ·exact .lst trivial h (.ints ns)
  ·exact .scr h
 ·subst kr
  cases o with
  | fz q=>cases q;rfl
section
variable {P:X4}{w:Qv}{mg:Str->Option Xc}{base:Heap}{CX:CXT}{n:Nat}{f:Addr}{fd:Qc}{ps:List Str}
end
@[simp] theorem Zex:OT.datas []=[]:=rfl
@[simp] theorem Zd0(t:OT)(ts:List OT):OT.datas (t :: ts)=t.data :: OT.datas ts:=rfl
theorem Zk4{α:Type}{xs:List α}{i:Int}(h0:0≤i):atI xs i=xs[i.toNat]?:=by
 unfold atI ixN
 rw[if_pos h0]
 split
 ·rfl
 ·rename_i h
  symm
  exact JT.mpr (by omega)
@[simp] theorem Z9u{α:Type}(x:α)(xs:List α):atI (x :: xs) 0=some x:=by
 rw[Zk4 (by decide)];rfl
@[simp] theorem Z9t{α:Type}(x y:α)(xs:List α):atI (x :: y :: xs) 1=some y:=by
 rw[Zk4 (by decide)];rfl
@[simp] theorem Z9v{α:Type}(x y z:α)(xs:List α):atI (x :: y :: z :: xs) 2=some z:=by
 rw[Zk4 (by decide)];rfl
@[simp] theorem Z3o(ds:List Xa)(i:Int):ixD (.list ds) (.int i)=atI ds i:=rfl
@[simp] theorem Z48(ds:List Xa)(i:Int):ixD (.tuple ds) (.int i)=atI ds i:=rfl
@[simp] theorem Zz4(ds:List Xa):Zsk (.list ds)=some ds.length:=rfl
@[simp] theorem Z3j(ds:List Xa):Zsk (.tuple ds)=some ds.length:=rfl
noncomputable def Z2x(r:List Rat):Xa:=.list (r.map frD)
noncomputable def tbD(T:List (List Rat)):Xa:=.list (T.map Z2x)
noncomputable def Z3r(r:List Rat):OT:=.nd (r.map λq=>.fz (frD q))
noncomputable def tbT(T:List (List Rat)):OT:=.nd (T.map Z3r)
@[simp] theorem Zp9(r:List Rat):(Z3r r).data=Z2x r:=by
 unfold Z3r Z2x
 rw[OT.data_nd,Q5]
 rfl
@[simp] theorem Z3d(T:List (List Rat)):(tbT T).data=tbD T:=by
 unfold tbT tbD
 rw[OT.data_nd,Q5]
 exact congrArg Ul (QR λr _=>Zp9 r)
noncomputable def Sq(n:Nat)(T:List (List Rat)):Prop:=T.length=n∧∀r∈T,r.length=n
noncomputable def dd(T:List (List Rat))(i j:Nat):Rat:=(T.getD i []).getD j 0
@[simp] theorem Z5e(T:List (List Rat)):Zsk (tbD T)=some T.length:=by unfold tbD Zsk;simp
@[simp] theorem Z3n(r:List Rat):Zsk (Z2x r)=some r.length:=by unfold Z2x Zsk;simp
@[simp] theorem Z6p(q:Rat):Zaq (frD q)=true:=by unfold frD fr;simp[Zaq,Zi2]
theorem Zs7{n a:Nat}(h:a<n):ixN n (a:Int)=some a:=by
 unfold ixN
 rw[if_pos (by omega),if_pos (by omega)];simp
theorem Sq.ixN{n a:Nat}{T:List (List Rat)}(h:Sq n T)(ha:a<n):ixN (T.map Z3r).length (a:Int)=some a:=Zs7 (by rw[Xg,h.1];exact ha)
theorem Zha{d:Xa}(h:Z5 d=true):JG d d=true:=Zyu h h rfl
structure Sh(n:Nat)(d:Xa):Prop where
 lay:JB d=true
 dep:PyData.depth d≤n
theorem Sh.shp{n:Nat}{d:Xa}(h:Sh n d)(hn:n≤64:=by decide):Zzs d:=⟨by
 show(JB d&&decide (PyData.depth d≤64))=true
 rw[h.lay,decide_eq_true (Xu h.dep hn)];rfl⟩
theorem Zqa{n:Nat}:∀{ds:List Xa},(∀d∈ds,Sh n d)->Vy ds=true∧PyData.depthAll ds≤n
 | [],_=>⟨by rw[Vy],by rw[PyData.depthAll];exact JK _⟩
 | d :: ds,h=>by
  obtain⟨h1,h2⟩:=Zqa λe m=>h e (.tail _ m)
  have h3:=h d (.head _)
  refine⟨by rw[Vy,h3.lay,h1];rfl,?_⟩
  rw[PyData.depthAll]
  exact Nat.max_le.mpr ⟨h3.dep,h2⟩
theorem Zjf{n:Nat}{ds:List Xa}(h:∀d∈ds,Sh n d):Sh (n+1) (.list ds) :=
 ⟨by rw[JB];exact(Zqa h).1,by rw[PyData.depth];exact Vh (Zqa h).2⟩
section
variable {X:Cx}{pins:List (Addr×Obj)}{σ:St}{H:Hp}{s:Xf}
theorem Inv.turnTup{h':Heap}{ch:List Addr}{T:Addr}{xs:List V}{its:List Xc}(I:Inv X pins σ H s)(f:∀b∈ch,Zdi X pins H b)(k:∀b o,b∉ch->s.heap.get? b=some o->h'.get? b=some o)
  (th:∀b∈ch,∃o,h'.get? b=some o) (hT:s.heap.objs.size≤T) (hz:xs.length≤Xi) (r:Vals xs its) (ht:IsTup h' T its.toArray):Inv X pins σ (upd H T (.tup xs)) { s with heap:=h' }:=by
 have hn:H T=none:=I.hok.fresh hT
 have nch:∀b u,H b=some u->b∉ch:=λb u e z=>by rw[(f b z).1]at e;cases e
 have new:ObjOk X.prog X.w (upd H T (.tup xs)) h' T (.tup xs):=⟨hz,its,r,ht⟩
 refine I.call (ch:=ch) (g':=s.gens) (d':=s.drawn) (t':=s.toks) ⟨λb o e _ _ hc=>k b o hc e,λb o e _ _ hc=>⟨o.slots,k b o hc e⟩,λb o e n _=>?_,λb o e hc=>?_,λb ys e=>?_,λb o u e=>?_,λb ps e=>?_⟩ (λb u e=>?_) I.bare (λb hb=>?_)
 ·rw[Zm (λz=>by rw[z]at e;exact absurd (XD e) (Um.mpr hT))];exact n
 ·exact⟨o,k b o hc e⟩
 ·rw[Zm (Ye e hn)];exact e
 ·rw[Zm (Ye e hn)];exact e
 ·exact⟨#[],by rw[Zm (Ye e hn),e];simp⟩
 ·by_cases hb:b=T
  ·subst hb;rw[Zq]at e;cases e;exact new
  ·rw[Zm hb]at e
   refine(I.hok b u e).stay (λc v hc q=>k c v ?_ q) (λc q=>by rw[Zm (Ye q hn)];exact q) λc ys q=>by rw[Zm (Ye q hn)];exact q
   rcases hc with rfl|hc
   ·exact nch _ _ e
   ·exact nch _ _ hc
 ·obtain⟨f0,f1,f2,f3,f4,f5⟩:=f b hb
  exact⟨f3,f1,f4,f5⟩
theorem Inv.turnAll{h':Heap}{ch:List Addr}(I:Inv X pins σ H s)(f:∀b∈ch,Zdi X pins H b)(k:∀b o,b∉ch->s.heap.get? b=some o->h'.get? b=some o):Inv X pins σ H { s with heap:=h' }:=by
 have nch:∀b u,H b=some u->b∉ch:=λb u e z=>by rw[(f b z).1]at e;cases e
 refine I.call (ch:=ch) (g':=s.gens) (d':=s.drawn) (t':=s.toks) ⟨λb o e _ _ hc=>k b o hc e,λb o e _ _ hc=>⟨o.slots,k b o hc e⟩,λb o e n _=>n,λb o e hc=>⟨o,k b o hc e⟩,λb ys e=>e,λb o u e=>e,λb ps e=>⟨#[],by rw[e];simp⟩⟩ (λb u e=>?_) I.bare (λb hb=>?_)
 ·refine(I.hok b u e).stay (λc v hc q=>k c v ?_ q) (λc q=>q) λc ys q=>q
  rcases hc with rfl|hc
  ·exact nch _ _ e
  ·exact nch _ _ hc
 ·obtain⟨f0,f1,f2,f3,f4,f5⟩:=f b hb
  exact⟨f3,f1,f4,f5⟩
end
variable {G:Xb}
section
variable {X:Cx}{io:List Nat}{p c:Bool}{e a b tg:Expr}{m:MEt}{mr:MAt}
theorem Rel.keptList{C:MC G}{H:Hp}{σ:St}{δ:Zf}{fp:Fp}{ex:Addr->Prop}{v:V}{ds:List Xa}(R:Rel C io H σ δ fp ex)(q:Da G H (λa=>c=true->Lf C fp ex a) v (.list ds)) :
  ∃a xs,v= .ref a∧∀H':Hp,(∀b o,H b=some o->(c=false∨¬Foot fp b)->H' b=some o)->SqL G H' a xs∧Das G H' (λa=>c=true->(Lf C fp ex a∧H a≠none)) xs ds:=by
 generalize hd:Ul ds=d at q
 cases q with
 | lst l e r=>
  cases hd
  rename_i a0 xs0
  refine⟨a0,xs0,rfl,λH' kp=>?_⟩
  obtain⟨f1,f2⟩:=R.kept kp
  exact⟨.inl (f1 _ (.lst _) l e).2,r.frame f1 f2⟩
 | scr k=>
  rename_i a ns
  have:=Ul.inj hd
  subst this
  exact⟨a,_,rfl,λH' _=>⟨k.sq,.ints ns⟩⟩
 | _=>cases hd
noncomputable def Zjc(as bs:List Xa):List Xa:=(as.zip bs).map λx=>.tuple [x.1,x.2]
theorem Zhs{as bs:List Xa}{i:Nat}{d:Xa}(h:(Zjc as bs)[i]? =some d):∃x y,as[i]? =some x∧bs[i]? =some y∧d= .tuple [x,y]:=by
 unfold Zjc at h
 rw[Xm]at h
 cases e:(as.zip bs)[i]? with
 | none=>rw[e]at h;cases h
 | some z=>
  rw[e]at h
  cases h
  obtain⟨h1,h2⟩:=List.getElem?_zip_eq_some.mp e
  exact⟨z.1,z.2,h1,h2,rfl⟩
theorem Zis{as bs:List Xa}{i:Nat}(h:(Zjc as bs)[i]? =none):as.length≤i∨bs.length≤i:=by
 unfold Zjc at h
 have:=JT.mp h
 simp at this
 omega
@[simp] theorem Zw7(as bs:List Xa):(Zjc as bs).length=min as.length bs.length:=by simp[Zjc]
end
variable {G:Xb}
section
variable {X:Cx}{io:List Nat}{c1 c2 c3:Bool}{a b e:Expr}{ma mb mc:MEt}{pos:Pos}{f g:Int->Int->Bool}
noncomputable def Zla(f g:Int->Int->Bool)(ma mb mc:MEt):MEt:=λδ K=>ma δ λx δ1=>mb δ1 λy δ2=>asI x.data λi=>asI y.data λj=>if f i j=true then mc δ2 λz δ3=>asI z.data λk=>K (.fz (.bool (g j k))) δ3 else K (.fz (.bool false)) δ2
theorem Zz9{ta tb tc:TE}(ha:SE G io true c1 ta ma)(hb:SE G io true c2 tb mb)(hc:SE G io true c3 tc mc):SE G io true true (Ztf (rI0 λi j=>.bl (f i j)) (rI0 λi j=>.bl (g i j)) ta tb tc) (Zla f g ma mb mc):=by
 intro C H σ δ fp ex K Q R h k
 refine ha.pureAfter R h λH1 x u R1 s1 q1 h1=>?_
 refine hb.pureAfter R1 h1 λH2 y v R2 s2 q2 h2=>?_
 obtain⟨i,rfl,h2⟩:=q1.intInv h2
 obtain⟨j,rfl,h2⟩:=q2.intInv h2
 refine⟨i,j,rfl,rfl,f i j,rfl,?_⟩
 by_cases hf:f i j=true
 ·rw[if_pos hf]at h2⊢
  refine hc.pureAfter R2 h2 λH3 z w R3 s3 q3 h3=>?_
  obtain⟨l,rfl,h3⟩:=q3.intInv h3
  have s13:Same H H3:=(s1.trans s2).trans s3
  exact⟨j,l,rfl,rfl,k H3 _ _ δ fp [] (.fz R3 (.same s13 s13.al) (.bl _)) h3⟩
 ·rw[if_neg hf]at h2⊢
  have s12:Same H H2:=s1.trans s2
  exact k H2 _ _ δ fp [] (.fz R2 (.same s12 s12.al) (.bl _)) h2
theorem Zui{op op':CmpOp}(ho:OpR X (QL op) (rI0 λi j=>.bl (f i j)))(ho':OpR X (QL op') (rI0 λi j=>.bl (g i j)))(ha:ME X io true c1 a ma)(hb:ME X io true c2 b mb)(hc:ME X io true c3 e mc)
  (hm:lastMarks [op,op'] [b,e]=false:=by with_unfolding_all rfl):ME X io true true (.Compare a [op,op'] [b,e] pos) (Zla f g ma mb mc):=by
 obtain⟨_,A,sa⟩:=ha
 obtain⟨_,B,sb⟩:=hb
 obtain⟨_,D,sc⟩:=hc
 exact⟨_,Zsn ho ho' A B D hm,Zz9 sa sb sc⟩
end
section
variable {X:Cx}{io:List Nat}{p c:Bool}{a b e:Expr}{ma mb m:MEt}{pos pl:Pos}
end
end L2
namespace L2
open PySem PySem.Spec PyProof.Rows PySem.SeqAt
variable {G:Xb}
theorem Zo2(lo:Int)(n:Nat):Zc7 lo (n+1)= .int lo :: Zc7 (lo+1) n:=by
 unfold Zc7
 rw[List.range_succ_eq_map,X6,Q5]
 congr 1
 ·simp
 ·refine QR λi _=>?_
  show XJ (lo+((i+1:Nat):Int))=XJ (lo+1+(i:Int))
  congr 1
  omega
section
variable {X:Cx}{io:List Nat}{p c:Bool}{a b e:Expr}{ma mb m:MEt}{mr:MAt}{pos pos' pl pr:Pos}
end
theorem Zhf:∀{ns:List Int} {its:List Xc},Vals (ns.map V.int) its->IntsAre its ns
 | [],_,.nil=>.nil
 | n :: ns,_,.cons r rs=>by
  obtain⟨t,e⟩:=(show∃t,_=UL n t from r)
  rw[e]
  exact .cons n t (Zhf rs)
section
variable {X:Cx}{io:List Nat}{p c:Bool}{a b e:Expr}{ma mb m:MEt}{mr:MAt}{pos pos' pl pr:Pos}
end
end L2
namespace L2
open PySem PySem.Spec PyProof.Rows
theorem ObjOk.is{P:X4}{w:Qv}{H:Hp}{h:Heap}{a:Addr}{o:HO}(x:ObjOk P w H h a o):∃u,h.get? a=some u:=by
 cases o with
 | lst xs=>obtain⟨_,_,_,_,e⟩:=x;exact⟨_,e⟩
 | tup xs=>obtain⟨_,_,_,ob,e,_⟩:=x;exact⟨_,e⟩
 | dK kvs=>obtain⟨_,_,_,_,o,_,_,e,_⟩:=x;exact⟨_,e⟩
 | dT kvs=>obtain⟨_,_,_,_,o,_,_,e,_⟩:=x;exact⟨_,e⟩
 | set S n=>obtain⟨o,_,_,_,e,_⟩:=x;exact⟨_,e⟩
 | ins C dx fs=>obtain⟨_,_,_,e,_⟩:=x;exact⟨_,e⟩
 | own y=>obtain⟨_,e⟩:=x;exact⟨_,e⟩
 | xd fs=>obtain⟨_,⟨_,_,_,e,_⟩,_⟩:=x;exact⟨_,e⟩
 | rng lo hi=>obtain⟨_,_,_,e⟩:=x;exact⟨_,e⟩
 | frz ob u=>obtain⟨e,_⟩:=x;exact⟨_,e⟩
 | tbl ps=>exact⟨_,(show h.get? a=some _ from x)⟩
 | met f y=>exact⟨_,(show h.get? a=some _ from x)⟩
 | ext φ=>obtain⟨_,⟨_,e⟩,_⟩:=x;exact⟨_,e⟩
structure VP(X:Cx)(pins:List (Addr×Obj))(H:Hp)(b:Addr):Prop where
 fr:H b=none
 new:X.s₀.heap.get? b=none
 loc:b≠X.env.locals
 cel:∀x c,X.env.cells.lookup x=some c->c≠b
 pin:∀p∈X.pn ++ pins,p.1≠b
section
variable {X:Cx}{pins:List (Addr×Obj)}{σ:St}{H H':Hp}{s:Xf}{h':Heap}{b a C:Addr}
theorem Inv.apart(I:Inv X pins σ H s)(hex:X.ex=[])(hb:s.heap.get? b=none)(hH:H' b=none):VP X pins H' b:=by
 have ne:∀c o,s.heap.get? c=some o->c≠b:=λc o e z=>by rw[z,hb]at e;cases e
 refine⟨hH,?_,?_,λx c e=>?_,λp hp=>?_⟩
 ·cases q:X.s₀.heap.get? b with
  | none=>rfl
  | some o=>
   obtain⟨o',e⟩:=I.base.there b o q (by rw[hex];simp)
   rw[hb]at e;cases e
 ·obtain⟨m,⟨o,_,_,ho,_⟩,_⟩:=I.loc
  exact(ne _ _ ho).symm
 ·obtain⟨v,o,ho,_⟩:=I.cell x c e
  exact ne _ _ ho
 ·exact ne _ _ (I.pin p hp).1
theorem Inv.unheld(I:Inv X pins σ H s)(hb:s.heap.get? b=none):H b=none:=by
 cases q:H b with
 | none=>rfl
 | some u=>
  obtain⟨o,e⟩:=(I.hok b u q).is
  rw[hb]at e;cases e
theorem Inv.nofrs(I:Inv X pins σ H s)(hb:b≠X.env.locals)(hf:b∉X.fs):b∉frs X.stack:=λz=>(Xn.mp (I.stkSub b z)).elim hb hf
theorem Inv.flown{t':Nat}(I:Inv X pins σ H s){ch:List Addr}(hch:∀b∈ch,VP X pins H b)(keep:∀b o,b∉frs X.stack->b∉ch->s.heap.get? b=some o->h'.get? b=some o)
  (slot:∀b o,b∈frs X.stack->s.heap.get? b=some o->∃sl,h'.get? b=some { o with slots:=sl }):Inv X pins σ H { s with heap:=h',toks:=t' }:=by
 have any:∀b o,b∉ch->s.heap.get? b=some o->∃sl,h'.get? b=some { o with slots:=sl }:=λb o n e=>by
  by_cases hb:b∈frs X.stack
  ·exact slot b o hb e
  ·exact⟨o.slots,keep b o hb n e⟩
 have neL:∀b o,X.s₀.heap.get? b=some o->b≠X.env.locals:=λb o e=>Xp (X5 (XD e) I.ok.above)
 have neC:∀b o,X.s₀.heap.get? b=some o->b∉ch:=λb o e hb=>by
  have:=(hch b hb).new
  rw[this]at e;cases e
 have cellK:∀x c,X.env.cells.lookup x=some c->∀v,s.heap.IsCell c v->h'.IsCell c v:=λx c e v q91=>by
  obtain⟨o,ho,hd⟩:=q91
  obtain⟨sl,q⟩:=any c o (λz=>(hch c z).cel x c e rfl) ho
  exact⟨_,q,hd⟩
 have nL:X.env.locals∉ch:=λz=>(hch _ z).loc rfl
 refine⟨I.ok,I.os,I.bare,⟨λb o e n hb hx=>?_,λb o e n hb hx=>?_,I.base.free,λb o e hx=>?_,I.base.tups,I.base.frzs,I.base.tbls⟩,?_,λx c e=>?_,I.free,I.freeC,λp hp=>?_,λb u e=>?_,I.len⟩
 ·exact keep b o (I.nofrs (neL b o e) hb) (neC b o e) (I.base.keep b o e n hb hx)
 ·obtain⟨sl,e1⟩:=I.base.slot b o e n hb hx
  obtain⟨sl',e2⟩:=any b _ (neC b o e) e1
  exact⟨sl',e2⟩
 ·obtain⟨o',e1⟩:=I.base.there b o e hx
  obtain⟨sl,e2⟩:=any b o' (neC b o e) e1
  exact⟨_,e2⟩
 ·obtain⟨m,⟨o,es,ep,ho,r⟩,hl⟩:=I.loc
  obtain⟨sl,q⟩:=any _ o nL ho
  refine⟨m,⟨_,es,ep,q,r⟩,λi x v e1 e2 e3=>?_⟩
  obtain⟨u,rv,l⟩:=hl i x v e1 e2 e3
  refine⟨u,rv,?_⟩
  rcases l with l|⟨k,c,e,z⟩
  ·exact .inl l
  ·exact .inr ⟨k,c,e,cellK x c e _ z⟩
 ·obtain⟨v,z⟩:=I.cell x c e
  exact⟨v,cellK x c e v z⟩
 ·obtain⟨e,n,ne,nf,d⟩:=I.pin p hp
  exact⟨keep p.1 p.2 (I.nofrs ne nf) (λz=>(hch _ z).pin p hp rfl) e,n,ne,nf,d⟩
 ·refine(I.hok b u e).stay (λc v hc q=>keep c v (λz=>?_) (λz=>?_) q) (λ_ q=>q) λ_ _ q=>q
  ·have n:=I.stkFree c z
   rcases hc with rfl|hc
   ·rw[n]at e;cases e
   ·rw[n]at hc;cases hc
  ·have n:=(hch c z).fr
   rcases hc with rfl|hc
   ·rw[n]at e;cases e
   ·rw[n]at hc;cases hc
noncomputable def Fl(ap:Addr->Prop)(C a:Addr)(fl:Xc)(h:Heap):Prop:=∃a0 oe vs T oT ts,h.get? a=some oe∧(oe.cls= .ref C∧vs[0]? =some a0)∧oe.data= .fields vs∧vs[1]? =some (.ref T)∧T≠a∧h.get? T=some oT∧oT.data= .fields ts∧ts[3]? =some fl∧ap a∧ap T
noncomputable def Fl0(ap:Addr->Prop)(C a:Addr)(h:Heap):Prop:=∃a0 oe vs,h.get? a=some oe∧(oe.cls= .ref C∧vs[0]? =some a0)∧oe.data= .fields vs∧vs[1]? =some .none∧ap a
noncomputable def FlA(ap:Addr->Prop)(fl:Xc)(C a:Addr)(h:Heap):Prop:=Fl ap C a .none h∨Fl0 ap C a h∨Fl ap C a fl h
theorem Fl.imp{ap ap':Addr->Prop}{fl:Xc}{h:Heap}(f:∀b,ap b->ap' b)(x:Fl ap C a fl h):Fl ap' C a fl h:=by
 obtain⟨a0,oe,vs,T,oT,ts,h1,h2,h3,h4,h5,h6,h7,h8,h9,h10⟩:=x
 exact⟨a0,oe,vs,T,oT,ts,h1,h2,h3,h4,h5,h6,h7,h8,f _ h9,f _ h10⟩
theorem Fl.exO{ap:Addr->Prop}{fl:Xc}{h:Heap}(x:Fl ap C a fl h):ExO C a h:=by
 obtain⟨a0,oe,vs,T,oT,ts,h1,h2,h3,_⟩:=x
 exact⟨oe,vs,h1,h2.1,h3⟩
section
variable {M:Model}{A:Qt}{E:Xc->Xf->Prop}{Q:Unit->Xf->Prop}{ch:List Addr}
theorem Inv.hidFrames(I:Inv X pins σ H s):s.heap.FunFrames (JC s.heap (frs X.stack ++ ch)) X.stack :=
 PySem.W.funFrames_hide I.stack λenv he b hb=>Qk _ (Uc.mpr ⟨env,he,hb⟩)
theorem Inv.flyTo(I:Inv X pins σ H s)(hch:∀b∈ch,VP X pins H b)(k1:(JC s.heap (frs X.stack ++ ch)).StaysIn h')(k4:∀b o,s.heap.get? b=some o->(∀vs,o.data≠ .fields vs)->∃sl,h'.get? b=some { o with slots:=sl }) :
  Inv X pins σ H { s with heap:=h' } :=
 I.flown (t':=s.toks) hch (λb o hf hc e=>k1 b o (PySem.W.hideAll_get _ e λz=>(Qj.mp z).elim hf hc)) λb o hb e=>by
  obtain⟨_,o',ho',hd⟩:=I.stack.mem hb
  rw[e]at ho';cases ho'
  exact k4 b o e hd
theorem Inv.flyT(I:Inv X pins σ H s)(hex:X.ex=[])(hch:∀b∈ch,VP X pins H b){T:Addr}{oT:Obj}{ts:Array Xc}(k4:∀b o,s.heap.get? b=some o->(∀vs,o.data≠ .fields vs)->∃sl,h'.get? b=some { o with slots:=sl })
  (hT:(JC s.heap (frs X.stack ++ ch)).get? T=none) (h1:h'.get? T=some oT) (h2:oT.data= .fields ts):VP X pins H T:=by
 by_cases hc:T∈ch
 ·exact hch T hc
 by_cases hf:T∈frs X.stack
 ·obtain⟨_,o',ho',hd⟩:=I.stack.mem hf
  obtain⟨sl,e⟩:=k4 T o' ho' hd
  rw[h1]at e
  cases e
  exact absurd h2 (hd ts)
 have hn:s.heap.get? T=none:=by
  cases q:s.heap.get? T with
  | none=>rfl
  | some o=>
   have:=PySem.W.hideAll_get (frs X.stack ++ ch) q λz=>(Qj.mp z).elim hf hc
   rw[hT]at this;cases this
 exact I.apart hex hn (I.unheld hn)
theorem Zhk(I:Inv X pins σ H s)(hex:X.ex=[])(hst:X.stack=X.env :: X.outer)(hf:X.env.frame=some X.env.locals)(hA:A.frames=some X.stack)(F:FlA (VP X pins H) (Vm X.env.locals) C a s.heap)
  (h:∀s',Inv X pins σ H s'->Fl (VP X pins H) C a (Vm X.env.locals) s'.heap->Q () s'):XC M A (noteFrame (.ref a) X.env) Q E s:=by
 rcases F with F|F|F
 ·obtain⟨a0,oe,vs,T,oT,ts,eA,cA,dA,v1,nT,eT,dT,t3,pA,pT⟩:=F
  have hch:∀b∈[a,T],VP X pins H b:=λb hb=>by
   rcases Xn.mp hb with rfl|hb
   ·exact pA
   ·rw[Xl.mp hb];exact pT
  have hen:(JC s.heap (frs X.stack ++ [a,T])).get? a=none:=Va _ (Xw _ (.head _))
  have hTn:(JC s.heap (frs X.stack ++ [a,T])).get? T=none:=Va _ (Xw _ (.tail _ (.head _)))
  have fr:=I.hidFrames (ch:=[a,T])
  refine wpAny_noteFrame_onW (base:=JC s.heap (frs X.stack ++ [a,T])) (outer:=X.outer) (hA.trans (by rw[hst])) (hst▸fr) hf ⟨oe,vs,T,oT,ts,eA,cA,dA,v1,hTn,nT,eT,dT,t3⟩ (λb o e=>V4 _ e) hen λh' hN=>?_
  obtain⟨k1,_,⟨oe',vs',T',oT',ts',e1,e2,e3,e4,e5,e6,e7,e8,e9⟩,k4⟩:=hN
  exact h _ (I.flyTo hch k1 k4) ⟨a0,oe',vs',T',oT',ts',e1,e2,e3,e4,e6,e7,e8,e9,pA,I.flyT hex hch k4 e5 e7 e8⟩
 ·obtain⟨a0,oe,vs,eA,cA,dA,v1,pA⟩:=F
  have hch:∀b∈[a],VP X pins H b:=λb hb=>by rw[Xl.mp hb];exact pA
  have hen:(JC s.heap (frs X.stack ++ [a])).get? a=none:=Va _ (Xw _ (.head _))
  have fr:=I.hidFrames (ch:=[a])
  unfold noteFrame
  simp only[hf]
  refine Xd (QB eA dA v1 ?_)
  rw[if_neg (by decide)]
  refine wpAny_entryW (base:=JC s.heap (frs X.stack ++ [a])) (outer:=X.outer) (hA.trans (by rw[hst])) (hst▸fr) hf eA (λb o e=>V4 _ e) hen dA (JP.mp v1).1 cA.2 λh' hN=>?_
  obtain⟨k1,_,⟨oe',vs',T',oT',ts',e1,e2,e3,e4,e5,e6,e7,e8,e9⟩,k4⟩:=hN
  exact h _ (I.flyTo hch k1 k4) ⟨a0,oe',vs',T',oT',ts',e1,⟨e2.1.trans cA.1,e2.2⟩,e3,e4,e6,e7,e8,e9,pA,I.flyT hex hch k4 e5 e7 e8⟩
 ·have F':=F
  obtain⟨a0,oe,vs,T,oT,ts,eA,cA,dA,v1,nT,eT,dT,t3,pA,pT⟩:=F
  unfold noteFrame
  simp only[hf]
  refine Xd (QB eA dA v1 ?_)
  rw[if_pos (by rfl)]
  refine Xd (QB eT dT t3 ?_)
  rw[if_pos (by simp)]
  exact XH (h s I F')
theorem Zhv(I:Inv X pins σ H s)(hex:X.ex=[]){fl:Xc}(F:Fl (VP X pins H) C a fl s.heap)
  (h:∀s',Inv X pins σ H s'->Fl (VP X pins H) C a .none s'.heap->Q () s'):XC M A (setFlight (.ref a) none) Q E s:=by
 obtain⟨a0,oe,vs,T,oT,ts,eA,cA,dA,v1,nT,eT,dT,t3,pA,pT⟩:=F
 have hch:∀b∈[a,T],VP X pins H b:=λb hb=>by
  rcases Xn.mp hb with rfl|hb
  ·exact pA
  ·rw[Xl.mp hb];exact pT
 have hTn:(JC s.heap (frs X.stack ++ [a,T])).get? T=none:=Va _ (Xw _ (.tail _ (.head _)))
 refine wpAny_setFlight_noneW (base:=JC s.heap (frs X.stack ++ [a,T])) (l:=X.stack) (λb o e=>V4 _ e) I.hidFrames ⟨oe,vs,T,oT,ts,eA,cA,dA,v1,hTn,nT,eT,dT,t3⟩ λh' k1 _ k3 k4'=>?_
 have k4:∀b o,s.heap.get? b=some o->(∀vs,o.data≠ .fields vs)->∃sl,h'.get? b=some { o with slots:=sl }:=λb o e n=>⟨o.slots,k4' b o e n⟩
 obtain⟨oe',vs',T',oT',ts',e1,e2,e3,e4,e5,e6,e7,e8,e9⟩:=k3
 exact h _ (I.flyTo hch k1 k4) ⟨a0,oe',vs',T',oT',ts',e1,e2,e3,e4,e6,e7,e8,e9,pA,I.flyT hex hch k4 e5 e7 e8⟩
theorem Zn0(I:Inv X pins σ H s)(hex:X.ex=[])(hst:X.stack=X.env :: X.outer)(hf:X.env.frame=some X.env.locals)(hA:A.frames=some X.stack)(F:FlA (VP X pins H) (Vm X.env.locals) C a s.heap)
  (h:∀s',Inv X pins σ H s'->Fl (VP X pins H) C a .none s'.heap->Q () s'):XC M A (leaving X.env (.ref a)) Q E s:=by
 unfold leaving
 exact Xd (Zhk I hex hst hf hA F λs1 I1 F1=>Zhv I1 hex F1 h)
end
end
noncomputable def Zjg(K:Xb)(C:Addr):Prop:=Uk K C [.type "ValueError",.type "Exception",.type "BaseException",.type "object"] "ValueError.__new__"=true
theorem Znf{K:Xb}{h:Heap}{C:Addr}{bmB:List Xc}{newId:String}(X:K.In h)(q:Uk K C bmB newId=true) :
  ∃bm N nm qn bs hdct sn sub ab col dd k0 k1 k2 k3 k5 mN,h.get? C=some (excClassObj nm qn C N bs bm hdct sn sub ab col dd k0 k1 k2 k3 k5 newId)∧h.Ns N mN∧mN "__init__"=none∧OwnTail h bmB bm:=by
 unfold Uk at q
 split at q
 case h_2=>cases q
 rename_i dd cd sl ho
 split at q
 case h_2=>cases q
 rename_i C' bm k0 k1 k2 k3 n k5 hm hs
 simp only[Xz,beq_iff_eq,Bool.not_eq_true']at q
 obtain⟨⟨⟨⟨⟨rfl,rfl⟩,e1⟩,e2⟩,e3⟩,e4⟩:=q
 obtain⟨nm,bs,mro,ns,qn,hd,sn,sub,ab,col,del⟩:=cd
 dsimp only at hm e1 e3 e4
 subst hm e1
 obtain⟨l⟩:=sl
 have e5:l=[k0,k1,k2,k3,some (.builtin n),k5]:=hs
 subst e5
 exact⟨bm,ns,nm,qn,bs,hd,sn,sub,ab,col,dd,k0,k1,k2,k3,k5,_,X _ _ ho,.of_isNs (PySem.W.isNs_of_in X e3),PySem.W.nsMap_none_of_in X e3 e4,PySem.W.tail_of_in X e2⟩
noncomputable abbrev MXt:=Zf->(Addr->Zf->Prop)->Prop
noncomputable def XW(X:Cx)(C:MC X.K)(io:List Nat)(pins:List (Addr×Obj))(ex:Addr->Prop)(H:Hp)(fp:Fp)(k:Addr->Zf->Prop)(e:Xc)(s':Xf):Prop :=
 ∃a cl σ' H' δ' fp',e= .ref a∧Inv X pins σ' H' s'∧FlA (VP X pins H') (Vm X.env.locals) cl a s'.heap∧Rel C io H' σ' δ' fp' ex∧Kp H fp H' fp'∧k cl δ'
noncomputable def XE(X:Cx)(io:List Nat)(e:Expr)(m:MXt):Prop:=∀(C:MC X.K) (pins:List (Addr×Obj)) (s:Xf) (σ:St) (H:Hp) (δ:Zf) (fp:Fp) (ex:Addr->Prop) (k:Addr->Zf->Prop),Inv X pins σ H s->Rel C io H σ δ fp ex->m δ k ->
 XC (X8 X.prog X.w) X.A (eval e X.env) (λ_ _=>False) (XW X C io pins ex H fp k) s
noncomputable def XS(X:Cx)(io:List Nat)(st:Stmt)(m:MXt):Prop:=∀(C:MC X.K) (pins:List (Addr×Obj)) (s:Xf) (σ:St) (H:Hp) (δ:Zf) (fp:Fp) (ex:Addr->Prop) (k:Addr->Zf->Prop),Inv X pins σ H s->Rel C io H σ δ fp ex->m δ k ->
 XC (X8 X.prog X.w) X.A (exec st X.env) (λ_ _=>False) (XW X C io pins ex H fp k) s
noncomputable def XSs(X:Cx)(io:List Nat)(sts:List Stmt)(m:MXt):Prop:=∀(C:MC X.K) (pins:List (Addr×Obj)) (s:Xf) (σ:St) (H:Hp) (δ:Zf) (fp:Fp) (ex:Addr->Prop) (k:Addr->Zf->Prop),Inv X pins σ H s->Rel C io H σ δ fp ex->m δ k ->
 XC (X8 X.prog X.w) X.A (execs sts X.env) (λ_ _=>False) (XW X C io pins ex H fp k) s
theorem XW.shift{X:Cx}{C:MC X.K}{io:List Nat}{pins:List (Addr×Obj)}{ex:Addr->Prop}{H H1:Hp}{fp fp1:Fp}{k:Addr->Zf->Prop}{e:Xc}{s:Xf}(q:Kp H fp H1 fp1)(h:XW X C io pins ex H1 fp1 k e s):XW X C io pins ex H fp k e s:=by
 obtain⟨a,cl,σ',H',δ',fp',e,I,F,R,K,hk⟩:=h
 exact⟨a,cl,σ',H',δ',fp',e,I,F,R,q.trans K,hk⟩
noncomputable def Zof:MXt:=λ_ _=>False
noncomputable def Z6d(u:MSt)(w:MXt):MXt:=λδ k=>u { nx:=λδ'=>w δ' k,rt:=λ_ _=>False } δ
noncomputable def Z67(t:MTt)(u w:MXt):MXt:=λδ k=>t δ λb δ'=>if b=true then u δ' k else w δ' k
noncomputable def Zn8(cl:Addr):MXt:=λδ k=>k cl δ
section
variable {X:Cx}{io:List Nat}{p c:Bool}{e:Expr}{es:List Expr}{mr:MAt}{m:MXt}{pos:Pos}{st:Stmt}{sts a b:List Stmt}{u:MSt}{w v:MXt}{mt:MTt}{i:Nat}{x:Str}
theorem Zne:XSs X io sts Zof:=λ_ _ _ _ _ _ _ _ _ _ _ h=>h.elim
theorem Zse:XS X io st Zof:=λ_ _ _ _ _ _ _ _ _ _ _ h=>h.elim
theorem Zkf(h:XS X io st w):XSs X io (st :: sts) w:=λC pins s σ H δ fp ex k I R hm=>wpAny_execs_cons (thn (h C pins s σ H δ fp ex k I R hm) λ_ _ z=>z.elim)
theorem Zrb(h:MS X io st u)(g:XSs X io sts w)(hx:X.xe= λ_ _=>False:=by rfl):XSs X io (st :: sts) (Z6d u w):=by
 obtain⟨t,A,sS⟩:=h
 intro C pins s σ H δ fp ex k I R hm
 refine wpAny_execs_cons (Qs (A pins s σ H { nx:=λσ1 H1=>∃δ1 fp1,Rel C io H1 σ1 δ1 fp1 ex∧Kp H fp H1 fp1∧w δ1 k,rt:=λ_ _=>False } I
  (sS C H σ δ fp ex _ _ R hm ⟨λH' σ' δ' fp' R' k' h'=>⟨δ',fp',R',k',h'⟩,λ_ _ _ _ _ _ z=>z.elim,λ_ _ _ _ _ _ z=>z.elim,λ_ _ _ _ _ _ _ _ _ _ _ z=>z.elim⟩)) (λf s1 q=>?_) λe s1 q=>by rw[hx]at q;exact q.elim)
 cases f with
 | next=>
  obtain⟨σ1,H1,I1,δ1,fp1,R1,k1,h1⟩:=q
  exact Qs (g C pins s1 σ1 H1 δ1 fp1 ex k I1 R1 h1) (λ_ _ z=>z) λe s2 z=>z.shift k1
 | ret v=>obtain⟨_,_,_,_,_,z⟩:=q;exact z.elim
 | brk=>obtain⟨_,_,_,z⟩:=q;exact z.elim
 | cont=>obtain⟨_,_,_,z⟩:=q;exact z.elim
theorem Zlu(ht:MT X io p e mt)(ha:XSs X io a w)(hb:XSs X io b v)(hx:X.xe= λ_ _=>False:=by rfl):XS X io (.If e a b pos) (Z67 mt w v):=by
 obtain⟨t,A,sT⟩:=ht
 intro C pins s σ H δ fp ex k I R hm
 refine wpAny_If (Qs (A pins s σ H (λr H1=>∃δ1 fp1,Rel C io H1 σ δ1 fp1 ex∧Kp H fp H1 fp1∧if r=true then w δ1 k else v δ1 k) I
  (sT C H σ δ fp ex _ _ R hm λH' r δ' fp' R' S' h'=>⟨δ',fp',R',S'.kp,h'⟩)) (λr s1 q=>?_) λe s1 q=>by rw[hx]at q;exact q.elim)
 obtain⟨H1,I1,δ1,fp1,R1,k1,h1⟩:=q
 cases r with
 | true=>exact Qs (ha C pins s1 σ H1 δ1 fp1 ex k I1 R1 h1) (λ_ _ z=>z) λe s2 z=>z.shift k1
 | false=>exact Qs (hb C pins s1 σ H1 δ1 fp1 ex k I1 R1 h1) (λ_ _ z=>z) λe s2 z=>z.shift k1
theorem Zgx(he:XE X io e m)(hs:Bc e none pos.line X.env=pure false:=by rfl):XS X io (.Expr e pos) m:=λC pins s σ H δ fp ex k I R hm=>
 wpAny_Expr_any (thn (he C pins s σ H δ fp ex k I R hm) λ_ _ z=>z.elim) I.quiet hs
theorem Zb2{C:Addr}{x j:Str}{jk:Nat}{np cpos pos kp:Pos}(hex:X.ex=[])(hh:X.A.handled=none)(hg:Gl X x)(hm:X.mg x=some (.ref C))(q:Zjg X.K C)(hd:(x==("__debug__" : Str))=false:=by decide) :
  XS X io (.Raise (some (.Call (.Name x np) [.Constant (.str j) jk kp] [] cpos)) none pos) (Zn8 C):=by
 intro M pins s σ H δ fp ex k I R hk
 obtain⟨tl,N,nm,qn,bs,hdct,sn,sub,ab,col,dd,k0,k1,k2,k3,k5,mN,hC,hN,hni,TL⟩:=Znf I.ok.mod.kin q
 refine wpAny_Raise_call_subT (C:=C) (nm:=nm) (q:=qn) (N:=N) (bs:=bs) (bm:=tl) (hdct:=hdct) (sn:=sn) (sub:=sub) (ab:=ab) (col:=col) (dd:=dd) (k0:=k0) (k1:=k1) (k2:=k2) (k3:=k3) (k5:=k5)
  V5 (mN:=mN) (TL.hasType V5.hasBase) hh rfl hni (Zep I hg hm ⟨rfl,?_⟩ hd)
 refine Calls.evalArgs_plain ?_
 refine Calls.spliced_cons ?_
 show XC _ _ (eval (.Constant (.str j) jk kp) X.env) _ _ _
 refine Calls.Constant_str ?_
 refine Calls.spliced_nil ?_
 have I1:=I.tok (s.toks+1)
 refine⟨rfl,by show 1≤Xi;decide,I1.bk _ _ hC,hN.keeps I1.bk,TL.keeps I1.bk,λh' e hx=>?_⟩
 obtain⟨t,e1,_,_⟩:=hx.there
 have I2:=I1.kept (t':=s.toks+1) hx.keeps
 exact⟨e,C,σ,H,δ,fp,rfl,I2,.inr (.inl ⟨_,_,_,e1,⟨rfl,rfl⟩,rfl,rfl,I1.apart hex hx.new (I1.unheld hx.new)⟩),R,.refl _ _,hk⟩
end
noncomputable def CX1(P:X4)(w:Qv):CXT:=λouter H s E e s'=>∃a C H',e= .ref a∧s'.os=s.os∧AllBare s'.gens∧Un (frs outer) [] H H' s.heap s'.heap∧HOk P w H' s'.heap∧Fl (λb=>H' b=none∧s.heap.get? b=none) C a .none s'.heap∧E (.ref C) none H'
noncomputable def spX(G:Xb)(S:List Xa->Addr->Prop):Sp:=λvs H Q E=>∃L ds cl,Das G H L vs ds∧S ds cl∧∀H',Same H H'->E (.ref cl) none H'
section
variable {P:X4}{w:Qv}{K:Xb}{mg:Str->Option Xc}{base:Heap}
theorem Fun.okX{x qual:Str}{st:Stmt}{f:Addr}{fd:Qc}{N ps:List Str}{n:Nat}{S:List Xa->Addr->Prop}(F:Fun K x qual st f fd)(Sc:Z0 N ps (Zh st))(len:∀ds cl,S ds cl->ds.length=ps.length)
  (hbody:∀(cdv:Xc) (A:Qt) (outer:List Env) (s:Xf) (H:Hp) (E:XK),Room n (A.deeper (UJ qual (Zh st) s.heap.objs.size f cdv)) ->
   ∃m,XSs (Zqp (CX1 P w) P w K mg base N qual (Zh st) f cdv A outer s H E).nox [] (Zu st) m∧∀ds cl,S ds cl->m (Zf7 N ds) (λc _=>c=cl)):FnOk P w K mg base (CX1 P w) (n+1) f fd ps (spX K S):=by
 obtain⟨oc,od,kV,doc,pm,an,cdv,ct,osl,rfl,lk,hcd⟩:=F.ex
 refine Zx7 lk hcd Sc (λvs H Q E h=>?_) λA outer s H vs Q E hr hsp=>?_
 ·obtain⟨L,ds,cl,h1,h2,_⟩:=h
  rw[h1.length]
  exact len ds cl h2
 obtain⟨L,ds,cl,h1,h2,h3⟩:=hsp
 obtain⟨m,hX,q⟩:=hbody cdv A outer s H E hr
 refine⟨λ_ σ' H'=>σ'=start N vs∧H'=H,λpins s1 σ1 H1 D I e=>?_,rfl,rfl⟩
 obtain⟨rfl,rfl⟩:=e
 refine Qs (hX ⟨H1,λ_=>False,L,start N vs⟩ pins s1 _ _ _ _ _ (λc _=>c=cl) (I.wish _) (Rel.entry h1) (q ds cl h2)) (λ_ _ z=>z.elim) λe s' z=>?_
 obtain⟨a,cl',σ',H',δ',fp',rfl,I',F',R',K',rfl⟩:=z
 exact Zn0 I' rfl rfl rfl I'.ok.frames F' λs'' J FF=>⟨a,cl',H',rfl,J.os,J.bare,J.base,J.hok,FF.imp λb ap=>⟨ap.fr,ap.new⟩,h3 H' λb o e=>R'.fr b o e id⟩
end
theorem Rel.grown{G:Xb}{C:MC G}{io:List Nat}{H H':Hp}{σ:St}{δ:Zf}{fp:Fp}{ex:Addr->Prop}(R:Rel C io H σ δ fp ex)(s:Same H H'):Rel C io H' σ δ fp ex :=
 (R.made (new:=[]) s (λa m=>nomatch m)).drop λa z=>.inl z
noncomputable def Ztw(S:List Xa->Addr->Prop)(mr:MAt):MXt:=λδ k=>mr δ λrs δ1=>∃cl,S (OT.datas rs) cl∧k cl δ1
section
variable {X:Cx}{io:List Nat}{p c:Bool}{e:Expr}{es:List Expr}{mr:MAt}{pos pp:Pos}{k:Nat}{f:Addr}{fd:Qc}{ps:List Str}{x:Str}
theorem Zhg{S}(F:FnOk X.prog X.w X.K X.mg X.base (CX1 X.prog X.w) k f fd ps (spX X.K S))(hr:Room k X.A)(hg:Gl X x)(hm:X.mg x=some (.ref f))(hk:X7 X.K (.ref f)=true)(hb:Binds X.K fd ps [])
  (ha:MA X io p c (e :: es) mr) (hex:X.ex=[]:=by rfl) (hx:X.xe= λ_ _=>False:=by rfl) (hdb:(x==("__debug__" : Str))=false:=by decide) (he:Xj (e :: es) X.env=(false,eval e X.env) :: Xj es X.env:=by rfl) (hpl:(Q6 pos (Xj es X.env)).any (·.1)=false:=by rfl) :
  XE X io (.Call (.Name x pp) (e :: es) [] pos) (Ztw S mr):=by
 obtain⟨t,A,sA⟩:=ha
 intro C pins s σ H δ fp ex kk I R hm'
 refine Bb (Zep I hg hm ?_ hdb)
 refine PySem.W.callWith_K (h₀:=X.base) I.ok.mod.kin hk (Qs (A pos pins s σ H (λvs H1=>∃δ1 fp1 L ds cl,Rel C io H1 σ δ1 fp1 ex∧Kp H fp H1 fp1∧Das X.K H1 L vs ds∧S ds cl∧kk cl δ1) I
  (sA C H σ δ fp ex _ _ R hm' λH1 vs rs δ1 fp1 new r1 h1=>let⟨cl,h2,h3⟩:=h1;⟨δ1,fp1,_,_,cl,r1.base,r1.stp.kp,r1.das R,h2,h3⟩)) (λus s1 ⟨vs,H1,I1,r,q⟩=>⟨I1.kIn,?_⟩) λe s1 z=>by rw[hx]at z;exact z.elim) he hpl
 obtain⟨δ1,fp1,L,ds,cl,R1,k1,hd,hS,hkk⟩:=q
 have hsp:spX X.K S vs H1 (λ_ _=>False) (λc _ H'=>c= .ref cl∧Same H1 H'):=⟨L,ds,cl,hd,hS,λH' s=>⟨rfl,s⟩⟩
 have hl:(us ++ []).length=ps.length:=by rw[XR,←r.length];exact F.len _ _ _ _ hsp
 have hB:=hb s1 us I1.kIn hl
 rw[XR]at hB
 refine wpAny_call (Uw (F.run X.A X.stack s1 H1 ⟨us,[]⟩ us vs _ _ hr I1.env0 hB r hsp) λres s' hq=>?_)
 cases res with
 | error e=>
  obtain⟨a,C',H',rfl,ho,bare,un,hok,FF,eC,same⟩:=hq
  cases eC
  have J:=I1.call' (ch:=[]) ho un hok bare λb z=>nomatch z
  exact⟨a,cl,σ,H',δ1,fp1,rfl,J,.inl (FF.imp λb z=>I1.apart hex z.2 z.1),R1.grown same,k1.trans (Stp.same same same.al),hkk⟩
 | ok fl=>
  cases fl with
  | ret u=>obtain⟨_,_,_,_,_,_,_,z⟩:=hq;exact z.elim
  | next=>exact Br hq
  | brk=>exact Br hq
  | cont=>exact Br hq
end
section
variable {X:Cx}{pins:List (Addr×Obj)}{σ:St}{H:Hp}{s:Xf}{a C:Addr}
theorem Inv.track(I:Inv X pins σ H s)(A:VP X pins H a){φ:Heap->Prop}(h1:φ s.heap)(h2:∃o,s.heap.get? a=some o)(h3:∀g1 g2:Heap,φ g1->(∀o,g1.get? a=some o->g2.get? a=some o)->φ g2):Inv X pins σ (upd H a (.ext φ)) s:=by
 have ne:∀b u,H b=some u->b≠a:=λb u e=>Ye e A.fr
 refine⟨I.ok,I.os,I.bare,⟨I.base.keep,I.base.slot,λb o e n hx=>?_,I.base.there,λb xs e=>?_,λb o u e=>?_,λb ps e=>?_⟩,I.loc,I.cell,?_,λx c e=>?_,λp hp=>?_,λb u e=>?_,I.len⟩
 ·rw[Zm (λz=>by rw[z,A.new]at e;cases e)];exact I.base.free b o e n hx
 ·have:=I.base.tups b xs e;rw[Zm (ne _ _ this)];exact this
 ·have:=I.base.frzs b o u e;rw[Zm (ne _ _ this)];exact this
 ·obtain⟨m,q⟩:=I.base.tbls b ps e;exact⟨m,by rw[Zm (ne _ _ q)];exact q⟩
 ·rw[Zm (Ba A.loc)];exact I.free
 ·rw[Zm (A.cel x c e)];exact I.freeC x c e
 ·obtain⟨e,n,r⟩:=I.pin p hp
  exact⟨e,by rw[Zm (A.pin p hp)];exact n,r⟩
 ·by_cases hb:b=a
  ·subst hb;rw[Zq]at e;cases e;exact⟨h1,h2,h3⟩
  ·rw[Zm hb]at e
   exact(I.hok b u e).stay (λc v _ q=>q) (λc q=>by rw[Zm (ne _ _ q)];exact q) λc xs q=>by rw[Zm (ne _ _ q)];exact q
noncomputable abbrev Cx.suite(X:Cx)(a:Addr):Cx:={ X with A:=X.A.mark (some (.ref a)),calm:=false }
theorem Inv.suite(I:Inv X pins σ H s)(a:Addr):Inv (X.suite a) pins σ H s :=
 ⟨⟨I.ok.mod,I.ok.kind,I.ok.glob,I.ok.blt,I.ok.above,I.ok.inj,I.ok.has,I.ok.cab,λz=>(nomatch z),I.ok.frames,I.ok.stk,I.ok.exf,I.ok.bs,I.ok.bsz,I.ok.noex,I.ok.exfs,I.ok.funs,I.ok.frf⟩,I.os,I.bare,I.base,I.loc,I.cell,I.free,I.freeC,I.pin,I.hok,I.len⟩
theorem Inv.unsuite(ok:X.Ok)(I:Inv (X.suite a) pins σ H s):Inv X pins σ H s:=⟨ok,I.os,I.bare,I.base,I.loc,I.cell,I.free,I.freeC,I.pin,I.hok,I.len⟩
theorem name_goes{M:Model}{A:Qt}{E:Xc->Xf->Prop}{i:Nat}{x:Str}{pos:Pos}{Q:Unit->Xf->Prop}(I:Inv X pins σ H s)(hN:X.N.Nodup)(hi:X.N[i]? =some x)(hk:X.env.scope.names.lookup x=some .local)
  (h:∀s',Inv X pins (σ.set i none) H s'->Q () s'):XC M A (do bindName X.env x .none;unbindBehindTheSuite X.env x pos) Q E s:=by
 obtain⟨m,hn,hl⟩:=id I.loc
 have hcls:(X.env.scope.kind== .class||(X.env.scope.kind== .module&&X.env.locals !=X.env.globals))=false:=by rw[I.ok.kind];rfl
 refine wpAny_nameGoes_keeps hk hn hcls λh' u hn' hs=>?_
 obtain⟨oL,_,_,hoL,_⟩:=id hn
 have neL:∀b o,X.s₀.heap.get? b=some o->b≠X.env.locals:=λb o e=>Xp (X5 (XD e) I.ok.above)
 refine h _ ⟨I.ok,I.os,I.bare,⟨λb o e n hb hx=>?_,λb o e n hb hx=>?_,I.base.free,λb o e hx=>?_,I.base.tups,I.base.frzs,I.base.tbls⟩,⟨_,hn',λj y v' e1 e2 e3=>?_⟩,λy c e=>?_,I.free,I.freeC,λp hp=>?_,λb ob e=>?_,by simpa using I.len⟩
 ·exact(hs.2 b (neL b o e)).trans (I.base.keep b o e n hb hx)
 ·obtain⟨sl,e1⟩:=I.base.slot b o e n hb hx
  exact⟨sl,(hs.2 b (neL b o e)).trans e1⟩
 ·obtain⟨o',e1⟩:=I.base.there b o e hx
  exact⟨o',(hs.2 b (neL b o e)).trans e1⟩
 ·by_cases hj:j=i
  ·subst hj
   have:j<σ.length:=by
    have z:=(Xv.mp e2).1
    simpa using z
   rw[QF this]at e2
   cases e2
  ·rw[Qd (Ba hj)]at e2
   obtain⟨u',r',q⟩:=hl j y v' e1 e2 e3
   refine⟨u',r',?_⟩
   rcases q with⟨k,e⟩|⟨k,c,e,z⟩
   ·refine .inl ⟨k,?_⟩
    have:y≠x:=λe=>hj (Zhn hN e1 (e▸hi))
    simp[this,e]
   ·exact .inr ⟨k,c,e,z.sameBut hs (I.cne y c e)⟩
 ·obtain⟨w',z⟩:=I.cell y c e
  exact⟨w',z.sameBut hs (I.cne y c e)⟩
 ·obtain⟨e,n,ne,nf,d⟩:=I.pin p hp
  exact⟨(hs.2 p.1 ne).trans e,n,ne,nf,d⟩
 ·refine(I.hok b ob e).stay (λc w' hc q=>(hs.2 c ?_).trans q) (λ_ q=>q) λ_ _ q=>q
  rintro rfl
  rcases hc with rfl|hc
  ·rw[I.free]at e;cases e
  ·rw[I.free]at hc;cases hc
end
theorem Rel.forget{G:Xb}{C:MC G}{io:List Nat}{H:Hp}{σ:St}{δ:Zf}{fp:Fp}{ex:Addr->Prop}{i:Nat}(R:Rel C io H σ δ fp ex)(hio:i∉io):∃fp',Rel C io H (σ.set i none) (δ.set i none) fp' ex∧Kp H fp H fp':=by
 have get:∀j (t':OT),(δ.set i none)[j]? =some (some t')->j≠i∧δ[j]? =some (some t'):=λj t' e=>by
  by_cases ej:j=i
  ·subst ej
   have hl:j<δ.length:=by simpa using(Xv.mp e).1
   rw[QF hl]at e;cases e
  ·rw[Qd (Ba ej)]at e;exact⟨ej,e⟩
 have sub:∀j a,a∈fpu fp i [] j->j≠i∧a∈fp j:=λj a m=>by
  by_cases ej:j=i
  ·subst ej;rw[Zy]at m;exact nomatch m
  ·rw[Yk ej]at m;exact⟨ej,m⟩
 have lw:∀a,Lf C fp ex a->Lf C (fpu fp i []) ex a:=λa l=>⟨λ⟨j,z⟩=>l.1 ⟨j,(sub j a z).2⟩,l.2⟩
 refine⟨fpu fp i [],⟨by rw[BX,BX];exact R.len,λj t' e=>?_,λj h=>?_,λj=>?_,λj k a h1 h2=>R.dj j k a (sub j a h1).2 (sub k a h2).2,λj a h z=>R.dx j a (sub j a h).2 z,R.xa,R.fr,R.al,λj a h=>R.new j a (sub j a h).2,λj h=>?_⟩,λb o e _=>e,λz=>(nomatch z),λa ⟨j,z⟩=>.inl ⟨j,(sub j a z).2⟩,λb e=>e⟩
 ·obtain⟨ej,e⟩:=get j t' e
  obtain⟨w,e1,o⟩:=R.own j t' e
  exact⟨w,by rw[Qd (Ba ej)];exact e1,by rw[Yk ej];exact o.wide λa l _=>lw a l⟩
 ·by_cases ej:j=i
  ·subst ej;rw[Zy]
  ·rw[Yk ej]
   exact R.emp j λt' z=>h t' (by rw[Qd (Ba ej)];exact z)
 ·by_cases ej:j=i
  ·subst ej;rw[Zy];exact .nil
  ·rw[Yk ej];exact R.nd j
 ·rw[Qd (λz=>hio (by rw[z];exact h))];exact R.io j h
theorem Zq1{K:Xb}{M:Model}{A:Qt}{E:Xc->Xf->Prop}{h:Heap}{g:Array GenState}{d:Drawn}{t:Nat}{os:OsState}{e C D:Addr}{oe:Obj}{Q:Bool->Xf->Prop}(X:K.In h)(q:Zjg K D)
  (hs:JL K (.ref C) (.ref D)=some true) (he:h.get? e=some oe) (hc:oe.cls= .ref C) (hQ:Q true ⟨h,g,d,t,os⟩):XC M A (excMatches (.ref e) (.ref D)) Q E ⟨h,g,d,t,os⟩:=by
 obtain⟨bm,N,nm,qn,bs,hdct,sn,sub,ab,col,dd,k0,k1,k2,k3,k5,mN,hC,hN,hni,TL⟩:=Znf X q
 have L:=PySem.W.looks_subIn (M:=M) X hs
 have f:=tc_notTuple
 have hB:(Qu D :: bm).contains (.type "BaseException")=true:=by rw[List.contains_cons,TL.hasType V5.hasBase,Bool.or_true]
 unfold excMatches
 repeat (first|(with_reducible refine BK he ?_;rw[hc])|with_reducible refine BK hC ?_|(with_reducible refine Xd (Q0.at L ?_))|(with_reducible refine Q0.at L ?_)|(with_reducible refine wpAny_isSubtype_exc hC ?_;rw[hB])|wp_step)
 exact hQ
noncomputable def Z49(G:Xb)(Dc:Addr)(i:Nat)(u:MSt)(x:MXt)(h:MSt):MSt:=λD δ=>u D δ∨x δ λcl δ'=>∃xn,BV G xn cl∧(Zb6 G cl∧JL G (.ref cl) (.ref Dc)=some true)∧
 h { nx:=λδ2=>D.nx (δ2.set i none),rt:=λ_ _=>False } (δ'.set i (some (.fz (exD xn))))
section
variable {X:Cx}{io:List Nat}{i:Nat}{n y:Str}{Dc:Addr}{b₀:Stmt}{body suite:List Stmt}{pos hpos np:Pos}{u h:MSt}{x:MXt}
theorem Zyb(hN:X.N.Nodup)(hi:X.N[i]? =some n)(hk:X.env.scope.names.lookup n=some .local)(hg:Gl X y)(hm:X.mg y=some (.ref Dc))(q:Zjg X.K Dc)(hb:MSs X io body u)(hbx:XSs X io body x)(hs:∀a,MSs (X.suite a) io (b₀ :: suite) h)
  (hio:i∉io:=by decide) (hex:X.ex=[]:=by rfl) (hst:X.stack=X.env :: X.outer:=by rfl) (hf:X.env.frame=some X.env.locals:=by rfl) (hx:X.xe= λ_ _=>False:=by rfl) (hdb:(y==("__debug__" : Str))=false:=by decide) :
  MS X io (.Try body [.ExceptHandler (some (.Name y np)) (some n) (b₀ :: suite) hpos] [] [] pos) (Z49 X.K Dc i u x h):=by
 refine⟨λD' σ H=>∃(C:MC X.K) (δ:Zf) (fp:Fp) (ex:Addr->Prop) (D:Ze3),Rel C io H σ δ fp ex∧Z49 X.K Dc i u x h D δ∧RelEnds C io ex H fp D D',?_,λC H σ δ fp ex D D' R hm E=>⟨C,δ,fp,ex,D,R,hm,E⟩⟩
 intro pins s σ H D' I hq
 obtain⟨C,δ,fp,ex,D,R,hm',EE⟩:=hq
 rcases hm' with hu|hr
 ·obtain⟨tb,Ab,sb⟩:=hb
  refine wpAny_Try_except (Qs (Ab pins s σ H D' I (sb C H σ δ fp ex D D' R hu EE)) (λf s1 z=>?_) λe s1 z=>by rw[hx]at z;exact z.elim)
  cases f with
  | next=>exact Ug z
  | ret v=>exact z
  | brk=>exact z
  | cont=>exact z
 refine wpAny_Try_except (Qs (hbx C pins s σ H δ fp ex _ I R hr) (λ_ _ z=>z.elim) λe s1 z=>?_)
 obtain⟨a,cl,σ1,H1,δ1,fp1,rfl,I1,F1,R1,K1,xn,hxn,⟨Z,hsub⟩,hh⟩:=z
 refine Zhk I1 hex hst hf I1.ok.frames F1 λs2 I2 F2=>Zhv I2 hex F2 λs3 I3 F3=>?_
 refine wpAny_handleBy_cons (codeAny_handlers_test (Zep (X:=X.suite a) (I3.suite a) hg hm ?_ hdb)) (by intro z;cases z)
 obtain⟨oe,vs,e1,e2,e3⟩:=F3.exO
 have KI:=I3.kIn
 obtain⟨g3,gg3,d3,t3,os3⟩:=s3
 refine Zq1 KI q hsub e1 e2 (codeAny_handlers_suite_as ?_)
 refine Zhv I3 hex F3 λs4 I4 F4=>?_
 have ap:VP X pins H1 a:=by obtain⟨_,_,_,_,_,_,_,_,_,_,_,_,_,_,z,_⟩:=F4;exact z
 have x4:=F4.exO
 have I5:Inv X pins σ1 (upd H1 a (.ext (ExO cl a))) s4:=I4.track ap x4 (let⟨o,_,e,_⟩:=x4;⟨o,e⟩) λg1 g2 ⟨o,vs,z1,z2⟩ k=>⟨o,vs,k o z1,z2⟩
 have sm:Same H1 (upd H1 a (.ext (ExO cl a))):=Z6 ap.fr _
 have R5:=R1.grown sm
 obtain⟨fp2,R6,K6⟩:=RE.put (p:=true) (RE.fz (c:=true) R5 (Stp.refl true _ _ _) (.exc Z hxn Zq)) R5 hio
 refine Zg6 (X:=X.suite a) (v:=.ref a) (I5.suite a) hN hi (.inl hk) rfl (λs5 I6=>?_) (.inr hk)
 obtain⟨ts,As,ss⟩:=hs a
 refine Qs (As pins s5 _ _ { nx:=λσ' H'=>∃δ' fp',Rel C io H' σ' δ' fp' ex∧Kp (upd H1 a (.ext (ExO cl a))) fp2 H' fp'∧D.nx (δ'.set i none),rt:=λ_ _=>False } I6
  (ss C _ _ _ fp2 ex _ _ R6 hh ⟨λH' σ' δ' fp' R' k' h'=>⟨δ',fp',R',k',h'⟩,λ_ _ _ _ _ _ z=>z.elim,λ_ _ _ _ _ _ z=>z.elim,λ_ _ _ _ _ _ _ _ _ _ _ z=>z.elim⟩)) (λf s6 z=>?_) λe s6 z=>by
   have z':X.xe e s6:=z
   rw[hx]at z'
   exact z'.elim
 cases f with
 | next=>
  obtain⟨σ7,H7,I7,δ7,fp7,R7,K7,h7⟩:=z
  obtain⟨fp8,R8,K8⟩:=R7.forget hio
  exact name_goes (I7.unsuite I4.ok) hN hi hk λs8 I8=>⟨_,_,I8,EE.nx H7 _ _ fp8 R8 (K1.trans ((Stp.same sm sm.al:Kp H1 fp1 _ fp1).trans (K6.trans (K7.trans K8)))) h7⟩
 | ret v=>obtain⟨_,_,_,_,_,w⟩:=z;exact w.elim
 | brk=>obtain⟨_,_,_,w⟩:=z;exact w.elim
 | cont=>obtain⟨_,_,_,w⟩:=z;exact w.elim
end
theorem Zsq(b:Bool)(k:Bool->Prop):asB (.bool b) k=k b:=rfl
theorem Da.exInv{G:Xb}{H:Hp}{L:Addr->Prop}{v:V}{x:Str}(q:Da G H L v (exD x)):∃a C,v= .ref a∧Zb6 G C∧BV G x C∧H a=some (.ext (ExO C a)):=by
 generalize e:exD x=d at q
 cases q with
 | exc Z n h=>
  have e':=e
  unfold exD at e'
  injection e' with e'
  injection e' with e' _
  injection e' with e' _
  injection e' with e'
  subst e'
  exact⟨_,_,rfl,Z,n,h⟩
 | _=>unfold exD at e;cases e
inductive ClsV:V->Xc->Prop where
 | own (D:Addr):ClsV (.ref D) (.ref D)
 | ty (T:String):ClsV (.ty T) (.type T)
theorem ClsV.val{v:V}{c u:Xc}(h:ClsV v c)(r:RelV v u):u=c:=by
 cases h with
 | own D=>exact r
 | ty T=>exact r
inductive ClsVs:List V->List Xc->Prop where
 | nil:ClsVs [] []
 | cons {v:V} {c:Xc} {vs:List V} {cs:List Xc}:ClsV v c->ClsVs vs cs->ClsVs (v :: vs) (c :: cs)
theorem ClsVs.vals{vs:List V}{cs us:List Xc}(h:ClsVs vs cs)(k:Vals vs us):us=cs:=by
 induction h generalizing us with
 | nil=>cases k;rfl
 | cons h t ih=>
  cases k with
  | cons r q=>rw[h.val r,ih q]
theorem ClsVs.length:∀{vs:List V} {cs:List Xc},ClsVs vs cs->vs.length=cs.length
 | _,_,.nil=>rfl
 | _,_,.cons _ t=>by simp[t.length]
noncomputable def Z34(G:Xb):List V->Hp->VK->Prop:=λxs H Q=>∃a C v c b,xs=[.ref a,v]∧Zb6 G C∧H a=some (.ext (ExO C a))∧ClsV v c∧Qg G (.ref C) c=some b∧Q (.bl b) H
noncomputable def Zzq(G:Xb):List V->Hp->VK->Prop:=λxs H Q=>∃a C p vs cs b,xs=[.ref a,.ref p]∧Zb6 G C∧H a=some (.ext (ExO C a))∧H p=some (.tup vs)∧ClsVs vs cs∧Vv G (.ref C) cs=some b∧Q (.bl b) H
theorem Zos{X:Cx}:Zc1 X (.builtin "isinstance") (Z34 X.K):=by
 intro pins s σ H xs us Q I r h
 obtain⟨a,C,v,c,b,rfl,Z,e,hc,hb,h⟩:=h
 obtain⟨u,w',rfl,r1,r2⟩:=vals2 r
 cases(show u=Qu a from r1)
 rw[hc.val r2]
 obtain⟨⟨o,vs,ho,hcl,_⟩,_,_⟩:=(show ObjOk X.prog X.w H s.heap a (.ext (ExO C a))from I.hok a _ e)
 exact PySem.W.kia_one (Zj9 Z) I.kIn ⟨o,ho,hcl⟩ hb (λz=>nomatch z) λtk=>⟨.bl _,H,I.tok tk,rfl,h⟩
theorem Zlj{X:Cx}:Zc1 X (.builtin "isinstance") (Zzq X.K):=by
 intro pins s σ H xs us Q I r h
 obtain⟨a,C,p,vs,cs,b,rfl,Z,e,ep,hc,hb,h⟩:=h
 obtain⟨u,w',rfl,r1,r2⟩:=vals2 r
 cases(show u=Qu a from r1)
 cases(show w'=Qu p from r2)
 obtain⟨⟨o,vs',ho,hcl,_⟩,_,_⟩:=(show ObjOk X.prog X.w H s.heap a (.ext (ExO C a))from I.hok a _ e)
 obtain⟨_,its,q,⟨⟨oc,od,oda,osl⟩,hp,hpc,n,hpd⟩⟩:=(show ObjOk X.prog X.w H s.heap p (.tup vs)from I.hok p _ ep)
 dsimp only at hpc hpd
 subst hpc hpd
 rw[hc.vals q]at hp
 exact PySem.W.kia_tup (Zj9 Z) I.kIn ⟨o,ho,hcl⟩ hp hb (λz=>nomatch z) λtk=>⟨.bl _,H,I.tok tk,rfl,h⟩
noncomputable def Z2h(G:Xb)(c:Xc)(m:MEt):MEt:=λδ K=>m δ λr δ'=>∃x C b,r.data=exD x∧BV G x C∧Qg G (.ref C) c=some b∧K (.fz (.bool b)) δ'
noncomputable def Zta(G:Xb)(cs:List Xc)(m:MEt):MEt:=λδ K=>m δ λr δ'=>∃x C b,r.data=exD x∧BV G x C∧Vv G (.ref C) cs=some b∧K (.fz (.bool b)) δ'
section
variable {X:Cx}{io:List Nat}{p c:Bool}{a b:Expr}{ma:MEt}{pos pp p2:Pos}
theorem Zsw{v:V}{cv:Xc}(hb:PE X b (tC v))(hv:ClsV v cv)(hg:Gl X "isinstance")(hm:X.mg "isinstance"=none)(hbv:Qp "isinstance"=some (.builtin "isinstance"))(ha:ME X io p c a ma)
  (he:Xj [a,b] X.env=(false,eval a X.env) :: Xj [b] X.env:=by rfl) (he2:Xj [b] X.env=(false,eval b X.env) :: Xj [] X.env:=by rfl) (hpl:(Q6 pos (Xj [b] X.env)).any (·.1)=false:=by rfl) :
  ME X io p true (.Call (.Name "isinstance" pp) [a,b] [] pos) (Z2h X.K cv ma):=by
 obtain⟨_,A,s⟩:=ha
 refine⟨_,Zhe Zos hg hm hbv (Yw A (Yw hb Zd8 he2) he) (by decide) (by decide) he hpl,?_⟩
 intro C H σ δ fp ex K' Q R h k
 refine s C H σ δ fp ex _ _ R h λH' v r δ' fp' new r1 h1=>?_
 obtain⟨xn,Cx,bb,e,hn,hk,h2⟩:=h1
 have q:=r1.da R
 rw[e]at q
 obtain⟨a,C0,rfl,Z,hn0,eh⟩:=q.exInv
 have eC:C0=Cx:=by
  have:=hn0.symm.trans hn
  injection this with this;injection this with this;injection this
 subst eC
 exact⟨a,C0,_,cv,bb,rfl,Z,eh,hv,hk,k H' _ _ δ' fp' [] (.fz r1.base r1.stp (.bl _)) h2⟩
theorem Zxn{bs:List Expr}{x1}{t:TA}{vs:List V}{cs:List Xc}(hb:PA X bs t)(ht:∀σ H Q,Q vs H->t σ H Q)(hv:ClsVs vs cs)(hl:vs.length≤Xi)(hg:Gl X "isinstance")(hm:X.mg "isinstance"=none)(hbv:Qp "isinstance"=some (.builtin "isinstance"))(ha:ME X io p c a ma)
  (he:Xj [a,.Tuple bs x1 p2] X.env=(false,eval a X.env) :: Xj [.Tuple bs x1 p2] X.env:=by rfl) (he2:Xj [.Tuple bs x1 p2] X.env=(false,eval (.Tuple bs x1 p2) X.env) :: Xj [] X.env:=by rfl) (hpl:(Q6 pos (Xj [.Tuple bs x1 p2] X.env)).any (·.1)=false:=by rfl) :
  ME X io p true (.Call (.Name "isinstance" pp) [a,.Tuple bs x1 p2] [] pos) (Zta X.K cs ma):=by
 obtain⟨_,A,s⟩:=ha
 refine⟨_,Zhe Zlj hg hm hbv (Yw A (Yw (Zor hb) Zd8 he2) he) (by decide) (by decide) he hpl,?_⟩
 intro C H σ δ fp ex K' Q R h k
 refine s C H σ δ fp ex _ _ R h λH' v r δ' fp' new r1 h1=>?_
 obtain⟨xn,Cx,bb,e,hn,hk,h2⟩:=h1
 have q:=r1.da R
 rw[e]at q
 obtain⟨a,C0,rfl,Z,hn0,eh⟩:=q.exInv
 have eC:C0=Cx:=by
  have:=hn0.symm.trans hn
  injection this with this;injection this with this;injection this
 subst eC
 refine ht _ _ _ ⟨hl,λtp hp=>?_⟩
 have sm:Same H' (upd H' tp (.tup vs)):=Z6 hp _
 refine⟨a,C0,tp,vs,cs,bb,rfl,Z,sm _ _ eh,Zq,hv,hk,k _ _ _ δ' fp' [] (.fz (r1.base.grown sm) ?_ (.bl _)) h2⟩
 have z:=r1.stp.trans (p':=true) (Stp.same (p:=true) (δ:=δ') (fp:=fp') sm sm.al)
 rwa[Bool.and_true]at z
end
end L2
namespace L2
open PySem PySem.Spec PyProof.Rows PySem.P
section
variable {prog:X4}{w:Qv}{A:Qt}{E:Xc->Xf->Prop}{s:Xf}{e t0 C:Addr}{o:Obj}{vs:Array Xc}{K:Xb}{m:Str}{tk:Tok}
structure Yaw(s:Xf)(e C t0:Addr)(m:Str)(tk:Tok):Prop where
 ob:∃o vs,s.heap.get? e=some o∧o.cls= .ref C∧o.data= .fields vs∧vs[0]? =some (.ref t0)
 tx:s.heap.TupAt t0 [.str m tk]
end
section
variable {X:Cx}{C:Addr}{x j:Str}{jk:Nat}{np cpos pos kp p1:Pos}
end
end L2
namespace L2
open PySem PySem.Spec PyProof.Rows
section
variable {X:Cx}{pins:List (Addr×Obj)}{σ:St}{H:Hp}{s:Xf}{M:Model}{A:Qt}{E:Xc->Xf->Prop}{Q:Unit->Xf->Prop}{C a L:Addr}{fl:Xc}
theorem Zq8(I:Inv X pins σ H s)(F:Fl (VP X pins H) C a fl s.heap)
  (h:∀s',Inv X pins σ H s'->Fl (VP X pins H) C a (Vm L) s'.heap->Q () s'):XC M A (setFlight (.ref a) (some L)) Q E s:=by
 obtain⟨a0,oe,vs,T,oT,ts,eA,cA,dA,v1,nT,eT,dT,t3,pA,pT⟩:=F
 have hsz:3<ts.size:=(JP.mp t3).1
 unfold setFlight
 refine Xd (QB eA dA v1 ?_)
 rw[if_pos (show(Qu T !=Be)=true from by simp)]
 refine wpAny_setField eT dT hsz ?_
 have hm:Obj.mapFields (λz=>z.setIfInBounds 3 ((some L:Option Addr).elim Be λf=>Vm f)) oT={ oT with data:=.fields (ts.setIfInBounds 3 (Vm L)) }:=by
  obtain⟨c1,c2,c3,c4⟩:=oT
  have dT':c3= .fields ts:=dT
  subst dT'
  rfl
 have self:=Heap.get?_update_self (Obj.mapFields (λz=>z.setIfInBounds 3 ((some L:Option Addr).elim Be λf=>Vm f))) eT (by rw[hm];rfl)
 have other:∀b o,b≠T->s.heap.get? b=some o->(s.heap.update T (Obj.mapFields (λz=>z.setIfInBounds 3 ((some L:Option Addr).elim Be λf=>Vm f)))).get? b=some o:=λb o n e=>(Heap.get?_update_other _ _ (Ba n)).trans e
 rw[hm]at self
 refine h _ (I.flown (t':=s.toks) (ch:=[T]) (λb hb=>by rw[Xl.mp hb];exact pT) (λb o hf hc e=>other b o (λz=>hc (by simp[z])) e) λb o hb e=>?_) ⟨a0,oe,vs,T,_,_,other a oe (Ba nT) eA,cA,dA,v1,nT,self,rfl,?_,pA,pT⟩
 ·obtain⟨_,o',ho',hd⟩:=I.stack.mem hb
  have hbT:b≠T:=λz=>by
   subst z
   rw[eT]at ho'
   cases ho'
   exact hd ts dT
  exact⟨o.slots,other b o hbT e⟩
 ·simp[hsz]
theorem Zmu{Cm:MC X.K}{io:List Nat}{ex:Addr->Prop}{fp:Fp}{k:Addr->Zf->Prop}(hex:X.ex=[]:=by rfl)(hst:X.stack=X.env :: X.outer:=by rfl)(hf:X.env.frame=some X.env.locals:=by rfl) :
  PassesOwn (X8 X.prog X.w) X.A X.env (XW X Cm io pins ex H fp k):=by
 rintro e s' ⟨a,cl,σ',H',δ',fp',rfl,I,F,R,Kp,hk⟩
 refine Zhk I hex hst hf I.ok.frames F λs1 I1 F1=>?_
 have F1':=F1
 obtain⟨a0,oe,vs,T,oT,ts,eA,cA,dA,v1,nT,eT,dT,t3,pA,pT⟩:=F1
 show XC _ _ _ _ _ s1
 refine Xd (QB eA dA v1 ?_)
 rw[if_neg (by simp)]
 rw[hf]
 exact Zq8 I1 F1' λs2 I2 F2=>⟨a,cl,σ',H',δ',fp',rfl,I2,.inr (.inr F2),R,Kp,hk⟩
end
noncomputable def Z2y(ds:List Xa)(g:MGt)(u:MSt)(x:MXt)(δ:Zf)(k:Addr->Zf->Prop):Prop:=∃(I:Nat->Zf->Prop) (r:Nat),r<ds.length∧I 0 δ∧
 (∀ i d δ',i<r->ds[i]? =some d->I i δ'->g d δ' λδ2=>u { nx:=I (i+1),ct:=I (i+1),rt:=λ_ _=>False } δ2)∧∀d δ',ds[r]? =some d->I r δ'->g d δ' λδ2=>x δ2 k
noncomputable def Z0c(mi:MIt)(g:MGt)(u:MSt)(x:MXt):MXt:=λδ k=>mi δ λds δ1=>Z2y ds g u x δ1 k
section
variable {X:Cx}{io:List Nat}{p:Bool}{tg iter:Expr}{body:List Stmt}{mi:MIt}{g:MGt}{u:MSt}{x:MXt}{pos:Pos}
theorem XW.unpin{C:MC X.K}{pins more:List (Addr×Obj)}{ex:Addr->Prop}{H:Hp}{fp:Fp}{k:Addr->Zf->Prop}{e:Xc}{s:Xf}(h:XW X C io (pins ++ more) ex H fp k e s):XW X C io pins ex H fp k e s:=by
 obtain⟨a,cl,σ',H',δ',fp',rfl,I,F,R,K,hk⟩:=h
 have ap:∀b,VP X (pins ++ more) H' b->VP X pins H' b:=λb z=>⟨z.fr,z.new,z.loc,z.cel,λq hq=>z.pin q ((Qj.mp hq).elim (λm=>Qk _ m) λm=>Xw _ (Qk _ m))⟩
 refine⟨a,cl,σ',H',δ',fp',rfl,I.unpinned,?_,R,K,hk⟩
 rcases F with F|F|F
 ·exact .inl (F.imp ap)
 ·obtain⟨a0,oe,vs,eA,cA,dA,v1,pA⟩:=F
  exact .inr (.inl ⟨a0,oe,vs,eA,cA,dA,v1,ap _ pA⟩)
 ·exact .inr (.inr (F.imp ap))
theorem Zpe(hc:X.calm=true)(hi:MI X io p true tg iter mi)(hg:MG X io true tg g)(hb:MSs X io body u)(hbx:XSs X io body x)(hx:X.xe= λ_ _=>False:=by rfl)
  (hex:X.ex=[]:=by rfl) (hst:X.stack=X.env :: X.outer:=by rfl) (hf:X.env.frame=some X.env.locals:=by rfl) (hs:∀x,Bk iter X.env x=pure x:=by intro _;rfl):XS X io (.For tg iter body [] pos) (Z0c mi g u x):=by
 obtain⟨_,A,sI⟩:=hi
 obtain⟨gt,G,sg⟩:=hg
 obtain⟨tb,B,sb⟩:=hb
 intro C pins s σ H δ fp ex k I R hm
 have hp:PassesOwn (X8 X.prog X.w) X.A X.env (XW X C io pins ex H fp k):=Zmu hex hst hf
 have no:∀(E:Xc->Xf->Prop) (e:Xc) (s':Xf),X.xe e s'->E e s':=λE e s' z=>by rw[hx]at z;exact z.elim
 refine wpAny_For (Qs (A pins s σ H (λJ H1=>∃W:Nat->Nat->St->Hp->Prop,(∃m,W 0 m σ H1)∧∀i m σ' H',W i m σ' H'->J.go i H'∧∃N:St->Hp->Prop,(∀σ2 H2,N σ2 H2->∃m',m'<m∧W (i+1) m' σ2 H2)∧
   ∀x' H3,J.yld i H' x' H3->gt x' σ' H3 λσ4 H4=>tb { nx:=N,ct:=N,bk:=λ_ _=>False,rt:=λ_ _=>False } σ4 H4∨∃δ4 fp4,Rel C io H4 σ4 δ4 fp4 ex∧Kp H fp H4 fp4∧x δ4 k) I (sI C H σ δ fp ex _ _ R hm λJ H1 ds δ1 fp1 R1 S1 it h1=>?_)) (λv s1 h1=>Qs h1 (λitv s2 h2=>?_) (no _)) (no _)) hs
 ·obtain⟨I0,r,hr,h0,turn,last⟩:=h1
  refine⟨λi n σ' H'=>n=r-i∧i≤r∧∃δ' fp',Rel C io H' σ' δ' fp' ex∧Kp H1 fp1 H' fp'∧I0 i δ',⟨r,rfl,JK _,δ1,fp1,R1,.refl _ _,h0⟩,?_⟩
  rintro i n σ2 H2 ⟨rfl,hle,δ2,fp2,R2,k2,i2⟩
  have itk:=it H2 (λb o e q=>k2.keep b o e (.inr (q.resolve_left (by decide)))) i
  have hlt:i<ds.length:=by omega
  have hd:ds[i]? =some ds[i]:=Xk hlt
  obtain⟨go,yl⟩:=itk.1 _ hd
  refine⟨go,λσ' H'=>i<r∧∃δ' fp',Rel C io H' σ' δ' fp' ex∧Kp H1 fp1 H' fp'∧I0 (i+1) δ',λσ' H' ⟨hir,δ',fp',R',k',i'⟩=>⟨r-(i+1),by omega,rfl,hir,δ',fp',R',k',i'⟩,λx' H3 hy=>?_⟩
  obtain⟨s3,q3⟩:=yl x' H3 hy
  have R3:=R2.mk0 s3
  have k3:Kp H1 fp1 H3 fp2:=k2.trans ⟨λb o e _=>s3 _ _ e,λz=>(nomatch z),λa z=>.inl z,s3.al⟩
  by_cases hir:i<r
  ·refine sg C H3 σ2 δ2 fp2 ex x' _ _ _ R3 (IterOk.at (H':=H2) (J:=J) (ds:=ds) k2.grow q3) (turn i _ δ2 hir hd i2) λσ4 δ4 fp4 R4 k4 h4=>?_
   have k5:=k3.trans k4
   exact .inl (sb C H3 σ4 δ4 fp4 ex _ _ R4 h4 ⟨λH' σ' δ' fp' R' k' n'=>⟨hir,δ',fp',R',k5.trans k',n'⟩,λ_ _ _ _ _ _ z=>z.elim,λH' σ' δ' fp' R' k' n'=>⟨hir,δ',fp',R',k5.trans k',n'⟩,λ_ _ _ _ _ _ _ _ _ _ _ z=>z.elim⟩)
  ·have e:i=r:=by omega
   subst e
   refine sg C H3 σ2 δ2 fp2 ex x' _ _ _ R3 (IterOk.at (H':=H2) (J:=J) (ds:=ds) k2.grow q3) (last _ δ2 hd i2) λσ4 δ4 fp4 R4 k4 h4=>?_
   exact .inr ⟨δ4,fp4,R4,S1.kp.trans (k3.trans k4),h4⟩
 ·obtain⟨it,fpi,tn,J,H2,e,I2,T,st2,f2,W,⟨m0,w0⟩,turn⟩:=h2
  subst e
  have stat:∀{H':Hp},(∀b∈fpi,H' b=none)->∀b∈fpi,Zdi X pins H' b:=λhn b hb=>⟨hn b hb,(f2 b hb).2⟩
  refine codeAny_forLoop_any (λn s'=>∃i σ' H',Inv X pins σ' H' s'∧tn i s'.heap∧(∀b∈fpi,H' b=none)∧W i n σ' H') ?_ m0 ⟨0,σ,H2,I2,st2,λb hb=>(f2 b hb).1,w0⟩
  rintro n s3 ⟨i,σ3,H3,I3,st3,fr3,w3⟩
  obtain⟨go,N,hN,step⟩:=turn i n σ3 H3 w3
  refine Q8 hp (Qs (T.item X rfl rfl rfl hc i pins s3 σ3 H3 X.xe I3 (stat fr3) st3 go) (λr s4 qz9=>?_) (no _))
  obtain⟨u',hr,h4⟩:=qz9
  subst hr
  refine Q8 hp (Qs h4 (λ_ s5 qz9=>?_) (no _))
  obtain⟨x5,H5,I5,r5,y5,st5,fr5⟩:=qz9
  have I5':=I5.pinned (stat fr5) (T.obj _ _ st5)
  refine Q8 hp (Qs (G _ s5 σ3 H5 x5 u' _ I5' r5 (step x5 H5 y5)) (λ_ s6 qz9=>?_) (no _))
  obtain⟨σ6,H6,I6,q6⟩:=qz9
  rcases q6 with q6|⟨δ4,fp4,R4,K4,h4⟩
  ·refine Q8 hp (Qs (B _ s6 σ6 H6 _ I6 q6) (λf s7 q7=>?_) (no _))
   have again:∀{σ7:St} {H7:Hp},Inv X (pins ++ Zgo fpi s5.heap) σ7 H7 s7->N σ7 H7->∃m,m<n∧∃i σ' H',Inv X pins σ' H' s7∧tn i s7.heap∧(∀b∈fpi,H' b=none)∧W i m σ' H':=fun{σ7 H7} I7 n7=>by
    obtain⟨m',hm,w7⟩:=hN σ7 H7 n7
    refine⟨m',hm,i+1,σ7,H7,I7.unpinned,T.keep _ _ _ st5 λb hb o e=>(I7.pin (b,o) (Xw _ (Xw _ (Jw hb e)))).1,λb hb=>?_,w7⟩
    obtain⟨o,e,d⟩:=T.obj _ _ st5 b hb
    exact(I7.pin (b,o) (Xw _ (Xw _ (Jw hb e)))).2.1
   cases f with
   | next=>obtain⟨σ7,H7,I7,n7⟩:=q7;exact again I7 n7
   | cont=>obtain⟨σ7,H7,I7,n7⟩:=q7;exact again I7 n7
   | brk=>obtain⟨_,_,_,z⟩:=q7;exact z.elim
   | ret v=>obtain⟨_,_,_,_,_,z⟩:=q7;exact z.elim
  ·exact Q8 hp (Qs (hbx C _ s6 σ6 H6 δ4 fp4 ex k I6 R4 h4) (λ_ _ z=>z.elim) λe s7 z=>(z.shift K4).unpin)
end
noncomputable abbrev FE:=Zf->Option (OT×Zf)
noncomputable abbrev FA:=Zf->Option (List OT×Zf)
noncomputable abbrev FT:=Zf->Option (Bool×Zf)
noncomputable abbrev FI:=Zf->Option (List Xa×Zf)
noncomputable abbrev FO:=Zf->Option (Option Int×Zf)
noncomputable abbrev FG:=Xa->Zf->Option Zf
noncomputable abbrev FGs:=List Xa->Zf->Option Zf
noncomputable def o2{α:Type}(f:Zf->Option (α×Zf)):Zf->(α->Zf->Prop)->Prop:=λδ K=>∃r δ',f δ=some (r,δ')∧K r δ'
noncomputable def oG(g:FG):MGt:=λd δ k=>∃δ',g d δ=some δ'∧k δ'
noncomputable def oGs(g:FGs):Zqo:=λd δ k=>∃δ',g d δ=some δ'∧k δ'
section
variable {X:Cx}{io:List Nat}{p c:Bool}{e tg:Expr}{es:List Expr}{m m':MEt}{mr mr':MAt}{mt mt':MTt}{mi mi':MIt}{g g':MGt}{gs gs':Zqo}{mo mo':MOt}{st:Stmt}{sts:List Stmt}{u u':MSt}{eo:Option Expr}
theorem ME.weak(h:ME X io p c e m)(w:∀δ K,m' δ K->m δ K):ME X io p c e m':=let⟨t,A,s⟩:=h;⟨t,A,λC H σ δ fp ex K Q R h k=>s C H σ δ fp ex K Q R (w δ K h) k⟩
theorem MA.weak(h:MA X io p c es mr)(w:∀δ K,mr' δ K->mr δ K):MA X io p c es mr':=let⟨t,A,s⟩:=h;⟨t,A,λC H σ δ fp ex K Q R h k=>s C H σ δ fp ex K Q R (w δ K h) k⟩
theorem MT.weak(h:MT X io p e mt)(w:∀δ K,mt' δ K->mt δ K):MT X io p e mt':=let⟨t,A,s⟩:=h;⟨t,A,λC H σ δ fp ex K Q R h k=>s C H σ δ fp ex K Q R (w δ K h) k⟩
theorem MW.weak(h:MW X io p e mt)(w:∀δ K,mt' δ K->mt δ K):MW X io p e mt':=let⟨t,A,s⟩:=h;⟨t,A,λC H σ δ fp ex K Q R h k=>s C H σ δ fp ex K Q R (w δ K h) k⟩
theorem MIfs.weak(h:MIfs X io p es mt)(w:∀δ K,mt' δ K->mt δ K):MIfs X io p es mt':=let⟨t,A,s⟩:=h;⟨t,A,λC H σ δ fp ex K Q R h k=>s C H σ δ fp ex K Q R (w δ K h) k⟩
theorem MI.weak(h:MI X io p c tg e mi)(w:∀δ K,mi' δ K->mi δ K):MI X io p c tg e mi':=let⟨t,A,s⟩:=h;⟨t,A,λC H σ δ fp ex K Q R h k=>s C H σ δ fp ex K Q R (w δ K h) k⟩
theorem MO.weak(h:MO X io p eo mo)(w:∀δ K,mo' δ K->mo δ K):MO X io p eo mo':=let⟨t,A,s⟩:=h;⟨t,A,λC H σ δ fp ex K Q R h k=>s C H σ δ fp ex K Q R (w δ K h) k⟩
theorem MG.weak(h:MG X io c tg g)(w:∀d δ K,g' d δ K->g d δ K):MG X io c tg g':=let⟨t,A,s⟩:=h;⟨t,A,λC H σ δ fp ex v d k Q R q h kk=>s C H σ δ fp ex v d k Q R q (w d δ k h) kk⟩
theorem MGs.weak(h:MGs X io c es gs)(w:∀d δ K,gs' d δ K->gs d δ K):MGs X io c es gs':=let⟨t,A,s⟩:=h;⟨t,A,λC H σ δ fp ex v d k Q R q h kk=>s C H σ δ fp ex v d k Q R q (w d δ k h) kk⟩
theorem MS.weak(h:MS X io st u)(w:∀D δ,u' D δ->u D δ):MS X io st u':=let⟨t,A,s⟩:=h;⟨t,A,λC H σ δ fp ex D D' R h E=>s C H σ δ fp ex D D' R (w D δ h) E⟩
theorem MSs.weak(h:MSs X io sts u)(w:∀D δ,u' D δ->u D δ):MSs X io sts u':=let⟨t,A,s⟩:=h;⟨t,A,λC H σ δ fp ex D D' R h E=>s C H σ δ fp ex D D' R (w D δ h) E⟩
end
noncomputable def Zc(i:Nat):FE:=λδ=>match δ[i]? with|some (some (.fz d))=>some (.fz d,δ)|_=>none
noncomputable def Za5(i:Nat):FE:=λδ=>match δ[i]? with|some (some t)=>some (.fz t.data,δ)|_=>none
noncomputable def fC(d:Xa):FE:=λδ=>some (.fz d,δ)
noncomputable def Zb(g:Xa->Xa->Option Xa)(a b:FE):FE:=λδ=>(a δ).bind λp=>(b p.2).bind λq=>(g p.1.data q.1.data).bind λd=>some (.fz d,q.2)
noncomputable def Z9(g:Xa->Xa->Option OT)(a b:FE):FE:=λδ=>(a δ).bind λp=>(b p.2).bind λq=>(g p.1.data q.1.data).bind λd=>some (d,q.2)
noncomputable def fUn(g:Xa->Option Xa)(a:FE):FE:=λδ=>(a δ).bind λp=>(g p.1.data).bind λd=>some (.fz d,p.2)
noncomputable def Zut(a b:FE):FE:=λδ=>(a δ).bind λp=>match p.1.data with| .bool true=>b p.2| .bool false=>some (.fz (.bool false),p.2)|_=>none
noncomputable def fOr(a b:FE):FE:=λδ=>(a δ).bind λp=>match p.1.data with| .bool true=>some (.fz (.bool true),p.2)| .bool false=>b p.2|_=>none
noncomputable def fIf(t:FT)(a b:FE):FE:=λδ=>(t δ).bind λp=>if p.1=true then a p.2 else b p.2
noncomputable def tV(e:FE):FT:=λδ=>(e δ).bind λp=>match p.1 with| .fz (.bool b)=>some (b,p.2)|_=>none
noncomputable def tNo(t:FT):FT:=λδ=>(t δ).bind λp=>some (!p.1,p.2)
noncomputable def tAn(t u:FT):FT:=λδ=>(t δ).bind λp=>if p.1=true then u p.2 else some (false,p.2)
noncomputable def tO(t u:FT):FT:=λδ=>(t δ).bind λp=>if p.1=true then some (true,p.2)else u p.2
noncomputable def tD(e:FE):FT:=λδ=>(e δ).bind λp=>(Zrv p.1.data).bind λb=>some (b,p.2)
noncomputable def Zk:FA:=λδ=>some ([],δ)
noncomputable def Zd(e:FE)(a:FA):FA:=λδ=>(e δ).bind λp=>(a p.2).bind λq=>some (p.1 :: q.1,q.2)
noncomputable def Zku(a:FA):FE:=λδ=>(a δ).bind λp=>if p.1.length≤Xi then some (.fz (.tuple (OT.datas p.1)),p.2)else none
noncomputable def Zab(a:FA):FE:=λδ=>(a δ).bind λp=>if p.1.length≤Xi then some (.nd p.1,p.2)else none
noncomputable def Z4h(e:FE):FE:=λδ=>(e δ).bind λp=>if Zaq p.1.data=true then some (.fz p.1.data,p.2)else none
noncomputable def Z2t(e:FE):FE:=λδ=>(e δ).bind λp=>if Zvx p.1=true then some (p.1,p.2)else none
inductive RF where
 | ok (r:OT)
 | exn (c:Str)
 | bad
noncomputable abbrev FD:=List Xa->RF
noncomputable abbrev FIO:=OT->List Xa->Option (OT×OT)
noncomputable def Ys(F:FD)(a:FA):FE:=λδ=>(a δ).bind λp=>match F (OT.datas p.1)with| .ok r=>some (r,p.2)|_=>none
noncomputable def Ztc(i:Nat)(F:FIO)(a:FA):FE:=λδ=>match δ[i]? with
 | some (some _)=>(a δ).bind λp=>match p.2[i]? with
  | some (some t)=>(F t (OT.datas p.1)).bind λq=>some (q.1,p.2.set i (some q.2))
  | _=>none
 | _=>none
noncomputable def Jb(g:List Xa->Option Xa)(a:FA):FE:=λδ=>(a δ).bind λp=>(g (OT.datas p.1)).bind λd=>some (.fz d,p.2)
noncomputable def fBl(g:List Xa->Option OT)(a:FA):FE:=λδ=>(a δ).bind λp=>(g (OT.datas p.1)).bind λd=>some (d,p.2)
noncomputable def Z6a(T:String)(e:FE):FE:=λδ=>(e δ).bind λp=>if Z2z p.1.data=true then none else some (.fz (.bool (Z8u T p.1.data)),p.2)
noncomputable def oN:FO:=λδ=>some (none,δ)
noncomputable def oI(e:FE):FO:=λδ=>(e δ).bind λp=>match p.1.data with| .int i=>some (some i,p.2)|_=>none
noncomputable def fSl(e:FE)(lo hi:FO):FE:=λδ=>(e δ).bind λp=>(lo p.2).bind λq=>(hi q.2).bind λr=>match p.1.data with| .list ds=>some (.nd ((cutD ds q.1 r.1).map OT.fz),r.2)|_=>none
noncomputable def Zeb(f g:Int->Int->Bool)(a b c:FE):FE:=λδ=>(a δ).bind λp=>(b p.2).bind λq=>match p.1.data,q.1.data with
 | .int i,.int j=>if f i j=true then(c q.2).bind λr=>match r.1.data with| .int k=>some (.fz (.bool (g j k)),r.2)|_=>none else some (.fz (.bool false),q.2)
 | _,_=>none
noncomputable def Zc2(e:FE):FI:=λδ=>(e δ).bind λp=>match p.1.data with| .list ds=>some (ds,p.2)|_=>none
noncomputable def iTp(e:FE):FI:=λδ=>(e δ).bind λp=>match p.1.data with| .tuple ds=>some (ds,p.2)|_=>none
noncomputable def rOk(j:Int):Bool:=decide (-(2^62)≤j)&&decide (j<2^62)
theorem Ze9{j:Int}(h:rOk j=true):-(2^62)≤j∧j<2^62:=by
 unfold rOk at h
 rw[Xz]at h
 exact⟨of_decide_eq_true h.1,of_decide_eq_true h.2⟩
theorem Zpj{j:Int}(h0:-1000000≤j)(h1:j≤1000000):rOk j=true:=by
 unfold rOk
 rw[decide_eq_true (show -(2^62)≤j by omega),decide_eq_true (show j<2^62 by omega)];rfl
noncomputable def iRa(a:FA):FI:=λδ=>(a δ).bind λp=>match OT.datas p.1 with|[.int j]=>if rOk j=true then some (Zc7 0 j.toNat,p.2)else none|_=>none
noncomputable def iRb(a:FA):FI:=λδ=>(a δ).bind λp=>match OT.datas p.1 with|[.int i,.int j]=>if(rOk i&&rOk j)=true then some (Zc7 i (j-i).toNat,p.2)else none|_=>none
noncomputable def Z1u(a:FA):FI:=λδ=>(a δ).bind λp=>match OT.datas p.1 with|[.list as,.list bs]=>some (Zjc as bs,p.2)|_=>none
noncomputable def gNm(i:Nat):FG:=λd δ=>some (δ.set i (some (.fz d)))
noncomputable def Z93(i:Nat):FG:=λd δ=>if Zaq d=true then some (δ.set i (some (.fz d)))else none
noncomputable def gNl:FGs:=λds δ=>match ds with|[]=>some δ|_=>none
noncomputable def gCn(g:FG)(gs:FGs):FGs:=λds δ=>match ds with|d :: r=>(g d δ).bind (gs r)|[]=>none
noncomputable def gTp(n:Nat)(gs:FGs):FG:=λd δ=>match d with| .tuple ds=>if ds.length=n then gs ds δ else none|_=>none
noncomputable def gLs(n:Nat)(gs:FGs):FG:=λd δ=>match d with| .list ds=>if ds.length=n then gs ds δ else none|_=>none
noncomputable def compLoop(g:FG)(t:FT)(e:FE):List Xa->Zf->Option (List OT×Zf)
 | [],δ=>some ([],δ)
 | d :: ds,δ=>(g d δ).bind λδ1=>(t δ1).bind λp=>if p.1=true then(e p.2).bind λq=>(compLoop g t e ds q.2).bind λz=>some (q.1 :: z.1,z.2)else compLoop g t e ds p.2
noncomputable def Jh(n:Nat)(caps:List Nat)(it:FI)(g:FG)(t:FT)(e:FE):FE:=λδ=>(it δ).bind λp=>if p.1.length≤Xi then(compLoop g t e p.1 (blk n caps p.2)).bind λz=>some (.nd z.1,p.2)else none
noncomputable def Zml:FT:=λδ=>some (true,δ)
inductive RS where
 | nx (δ:Zf)
 | rt (r:OT) (δ:Zf)
 | bk (δ:Zf)
 | ct (δ:Zf)
 | ex (c:Str) (δ:Zf)
 | bad
noncomputable abbrev FS:=Zf->RS
noncomputable def RS.fits(D:Ze3):RS->Prop
 | .nx δ=>D.nx δ
 | .rt r δ=>D.rt r δ
 | .bk δ=>D.bk δ
 | .ct δ=>D.ct δ
 | _=>False
noncomputable def oS(f:FS):MSt:=λD δ=>(f δ).fits D
noncomputable def xS(K:Xb)(f:FS):MXt:=λδ k=>∃c C δ',f δ= .ex c δ'∧BV K c C∧k C δ'
noncomputable def Zw(f g:FS):FS:=λδ=>match f δ with| .nx δ'=>g δ'|r=>r
noncomputable def fNx:FS:=λδ=>.nx δ
noncomputable def Z9g:FS:=λδ=>.bk δ
noncomputable def Z91:FS:=λδ=>.ct δ
noncomputable def wE(e:FE)(k:OT->Zf->RS):FS:=λδ=>match e δ with|some (r,δ')=>k r δ'|none=>.bad
noncomputable def wX(F:FD)(a:FA)(k:OT->Zf->RS):FS:=λδ=>match a δ with
 | some (rs,δ1)=>match F (OT.datas rs)with
  | .ok r=>k r δ1
  | .exn c=>.ex c δ1
  | .bad=>.bad
 | none=>.bad
noncomputable def Zh6:OT->Zf->RS:=λ_ δ=>.nx δ
noncomputable def Za2:OT->Zf->RS:=λr δ=>.rt r δ
noncomputable def Z44:OT->Zf->RS:=λr δ=>if Zaq r.data=true then .rt (.fz r.data) δ else .bad
noncomputable def Wt(i:Nat):OT->Zf->RS:=λr δ=>.nx (δ.set i (some (.fz r.data)))
noncomputable def Zli(i:Nat):OT->Zf->RS:=λr δ=>if Zaq r.data=true then .nx (δ.set i (some (.fz r.data)))else .bad
noncomputable def Jo(i:Nat):OT->Zf->RS:=λr δ=>.nx (δ.set i (some r))
noncomputable def Z9m(g:FG):OT->Zf->RS:=λr δ=>match g r.data δ with|some δ'=>.nx δ'|none=>.bad
noncomputable def Z43:FS:=λδ=>.rt (.fz .none) δ
noncomputable def Zb7(i:Nat):FS:=λδ=>match δ[i]? with|some (some t)=>.rt t (δ.set i none)|_=>.bad
noncomputable def Wu(t:FT)(u w:FS):FS:=λδ=>match t δ with|some (b,δ')=>if b=true then u δ' else w δ'|none=>.bad
noncomputable def Zae(c:Str):FS:=λδ=>.ex c δ
noncomputable def Yn(i:Nat)(e:FE):FS:=λδ=>match δ[i]? with
 | some (some (.nd _))=>wE e (λr δ1=>match δ1[i]? with
  | some (some (.nd ts))=>if ts.length<Xi then .nx (δ1.set i (some (.nd (ts ++ [.fz r.data]))))else .bad
  | _=>.bad) δ
 | _=>.bad
noncomputable def Zk1(i:Nat)(e:FE):FS:=λδ=>match δ[i]? with
 | some (some (.nd _))=>wE e (λr δ1=>match δ1[i]? with
  | some (some (.nd ts))=>if ts.length<Xi then .nx (δ1.set i (some (.nd (ts ++ [r]))))else .bad
  | _=>.bad) δ
 | _=>.bad
noncomputable def Z73(i:Nat)(e j:FE):FS:=wE e λr δ1=>match δ1[i]? with
 | some (some (.nd ts))=>wE j (λn _=>match n.data with
  | .int k=>match ixN ts.length k with
   | some j=>.nx (δ1.set i (some (.nd (ts.set j (.fz r.data)))))
   | none=>.bad
  | _=>.bad) δ1
 | _=>.bad
noncomputable def Zaz(i:Nat)(u:FS):FS:=λδ=>match δ[i]? with|some (some t)=>u (δ.set i (some (.fz t.data)))|_=>.bad
noncomputable def forLoop(g:FG)(u:FS):List Xa->Zf->RS
 | [],δ=>.nx δ
 | d :: ds,δ=>match g d δ with
  | none=>.bad
  | some δ1=>match u δ1 with
   | .nx δ2=>forLoop g u ds δ2
   | .ct δ2=>forLoop g u ds δ2
   | .bk δ2=>.nx δ2
   | r=>r
noncomputable def Zaw(it:FI)(g:FG)(u:FS):FS:=λδ=>match it δ with|some (ds,δ1)=>forLoop g u ds δ1|none=>.bad
noncomputable def whileLoop(t:FT)(u:FS):Nat->Zf->RS
 | 0,_=>.bad
 | n+1,δ=>match t δ with
  | none=>.bad
  | some (b,δ1)=>if b=true then match u δ1 with
   | .nx δ2=>whileLoop t u n δ2
   | .ct δ2=>whileLoop t u n δ2
   | .bk δ2=>.nx δ2
   | .rt r δ2=>.rt r δ2
   | _=>.bad
   else .nx δ1
open Classical in
noncomputable def Zgm(t:FT)(u:FS):FS:=λδ=>if h:∃n,whileLoop t u n δ≠ .bad then whileLoop t u (Uo h) δ else .bad
noncomputable def Zly(c d:Str):Bool:=c==d||d==("CutError" : Str)||d==("ValueError" : Str)
noncomputable def Zu3(xs:List Str)(u:FS)(D:Str)(i:Nat)(h:FS):FS:=λδ=>match u δ with
 | .ex c δ'=>if(xs.contains c&&Zly c D)=true then match h (δ'.set i (some (.fz (exD c))))with
   | .nx δ2=>.nx (δ2.set i none)
   | _=>.bad
  else .bad
 | r=>r
noncomputable def Y9(n:Nat)(ds:List Xa):Zf:=ds.map (λd=>some (.fz d)) ++ QC (n-ds.length) none
noncomputable def Z3z(n:Nat)(t:OT)(ds:List Xa):Zf:=some t :: (ds.map (λd=>some (.fz d)) ++ QC (n-(ds.length+1)) none)
noncomputable def RS.told:RS->RF
 | .nx _=>.ok (.fz .none)
 | .rt r _=>.ok r
 | .ex c _=>.exn c
 | _=>.bad
noncomputable def Zag(np n:Nat)(S:FS):FD:=λds=>if ds.length=np then(S (Y9 n ds)).told else .bad
noncomputable def sD(F:FD):List Xa->(OT->Prop)->Prop:=λds k=>∃r,F ds= .ok r∧k r
noncomputable def sI(F:FIO):OT->List Xa->(OT->OT->Prop)->Prop:=λt ds k=>∃r t',F t ds=some (r,t')∧k r t'
noncomputable def sX(K:Xb)(F:FD):List Xa->Addr->Prop:=λds cl=>∃c,F ds= .exn c∧BV K c cl
theorem bs{α β:Type}{x:Option α}{f:α->Option β}{b:β}(h:x.bind f=some b):∃a,x=some a∧f a=some b:=Option.bind_eq_some_iff.mp h
section
variable {X:Cx}{io:List Nat}{p c:Bool}{e tg:Expr}{es:List Expr}{st:Stmt}{sts:List Stmt}{eo:Option Expr}{fa fb fc:FE}{ra:FA}{ta tb:FT}{i:Nat}
theorem Zzx(h:ME X io p c e (Z3c i)):ME X io p c e (o2 (Zc i)):=h.weak λδ K q91=>by
 obtain⟨r,δ',h,k⟩:=q91
 unfold Zc at h;unfold Z3c
 split at h
 ·rename_i d hd;(try rw[hd]);cases h;exact k
 ·cases h
theorem Zz7(h:ME X io p c e (Z3b i)):ME X io p c e (o2 (Za5 i)):=h.weak λδ K q92=>by
 obtain⟨r,δ',h,k⟩:=q92
 unfold Za5 at h;unfold Z3b
 split at h
 ·rename_i d hd;(try rw[hd]);cases h;exact k
 ·cases h
theorem Zeh{d:Xa}(h:ME X io p c e (mC d)):ME X io p c e (o2 (fC d)):=h.weak λδ K ⟨r,δ',h,k⟩=>by cases h;exact k
noncomputable def ByS(g:Xa->Xa->Option Xa)(rp:Xa->Xa->(Xa->Prop)->Prop):Prop:=∀d e r k,g d e=some r->k r->rp d e k
noncomputable def ByO(g:Xa->Xa->Option OT)(rp:Xa->Xa->(OT->Prop)->Prop):Prop:=∀d e r k,g d e=some r->k r->rp d e k
theorem Zto{g rp}(G:ByS g rp){δ:Zf}{K:OT->Zf->Prop}(h:o2 (Zb g fa fb) δ K):Zji rp (o2 fa) (o2 fb) δ K:=by
 obtain⟨r,δ',h,k⟩:=h
 obtain⟨⟨x,δ1⟩,h1,h⟩:=bs h
 obtain⟨⟨y,δ2⟩,h2,h⟩:=bs h
 obtain⟨d,h3,h⟩:=bs h
 cases h
 exact⟨x,δ1,h1,y,δ2,h2,G _ _ _ _ h3 k⟩
theorem Yd{g rp}(G:ByS g rp)(h:ME X io p c e (Zji rp (o2 fa) (o2 fb))):ME X io p c e (o2 (Zb g fa fb)):=h.weak λδ K z=>Zto G z
theorem Z84{f:FE}{δ:Zf}{K:Bool->Zf->Prop}(h:o2 (tV f) δ K):o2 f δ (kB K):=by
 obtain⟨b,δ',h,k⟩:=h
 obtain⟨⟨x,δ1⟩,h1,h⟩:=bs h
 refine⟨x,δ1,h1,?_⟩
 unfold kB
 try dsimp only at h⊢
 split at h
 ·cases h;exact k
 ·cases h
theorem Zb9{g rp}(G:ByS g rp)(h:MT X io p e (λδ K=>Zji rp (o2 fa) (o2 fb) δ (kB K))):MT X io p e (o2 (tV (Zb g fa fb))):=h.weak λδ K z=>Zto G (Z84 z)
theorem J3{g rp}(G:ByO g rp)(h:ME X io p c e (Z1o rp (o2 fa) (o2 fb))):ME X io p c e (o2 (Z9 g fa fb)):=h.weak λδ K h=>by
 obtain⟨r,δ',h,k⟩:=h
 obtain⟨⟨x,δ1⟩,h1,h⟩:=bs h
 obtain⟨⟨y,δ2⟩,h2,h⟩:=bs h
 obtain⟨d,h3,h⟩:=bs h
 cases h
 exact⟨x,δ1,h1,y,δ2,h2,G _ _ _ _ h3 k⟩
noncomputable def Z8x:Xa->Option Xa| .int i=>some (.int (-i))|_=>none
noncomputable def Z78:Xa->Option Xa| .bool b=>some (.bool (!b))|_=>none
theorem Zt0(h:ME X io p c e (Zym (o2 fa) (o2 fb))):ME X io p c e (o2 (Zut fa fb)):=h.weak λδ K h=>by
 obtain⟨r,δ',h,k⟩:=h
 obtain⟨⟨x,δ1⟩,h1,h⟩:=bs h
 refine⟨x,δ1,h1,?_⟩
 try dsimp only at h⊢
 split at h
 ·rename_i q;(try rw[q]);rw[Zsq,if_pos rfl];exact⟨r,δ',h,k⟩
 ·rename_i q;(try rw[q]);cases h;rw[Zsq,if_neg Xq];exact k
 ·cases h
theorem Z2f(h:MT X io p e (Z8m (o2 ta))):MT X io p e (o2 (tNo ta)):=h.weak λδ K h=>by
 obtain⟨r,δ',h,k⟩:=h
 obtain⟨⟨x,δ1⟩,h1,h⟩:=bs h
 cases h
 exact⟨x,δ1,h1,k⟩
theorem Z0f(h:MW X io p e (Z8g (o2 ta) (o2 tb))):MW X io p e (o2 (tAn ta tb)):=h.weak λδ K h=>by
 obtain⟨r,δ',h,k⟩:=h
 obtain⟨⟨x,δ1⟩,h1,h⟩:=bs h
 refine⟨x,δ1,h1,?_⟩
 try dsimp only at h⊢
 split at h
 ·rename_i q;rw[if_pos q];exact⟨r,δ',h,k⟩
 ·rename_i q;rw[if_neg q];cases h;exact k
theorem Zmk(h:MW X io p e (mOr (o2 ta) (o2 tb))):MW X io p e (o2 (tO ta tb)):=h.weak λδ K h=>by
 obtain⟨r,δ',h,k⟩:=h
 obtain⟨⟨x,δ1⟩,h1,h⟩:=bs h
 refine⟨x,δ1,h1,?_⟩
 try dsimp only at h⊢
 split at h
 ·rename_i q;rw[if_pos q];cases h;exact k
 ·rename_i q;rw[if_neg q];exact⟨r,δ',h,k⟩
theorem Za9(h:MT X io p e (Z7r (o2 fa))):MT X io p e (o2 (tD fa)):=h.weak λδ K h=>by
 obtain⟨r,δ',h,k⟩:=h
 obtain⟨⟨x,δ1⟩,h1,h⟩:=bs h
 obtain⟨d,h3,h⟩:=bs h
 cases h
 refine⟨x,δ1,h1,?_⟩
 dsimp only at h3⊢
 rw[h3]
 exact k
theorem Zzj(h:MA X io p c es Z60):MA X io p c es (o2 Zk):=h.weak λδ K ⟨r,δ',h,k⟩=>by cases h;exact k
theorem Zxs(h:MA X io p c es (Zzc (o2 fa) (o2 ra))):MA X io p c es (o2 (Zd fa ra)):=h.weak λδ K h=>by
 obtain⟨r,δ',h,k⟩:=h
 obtain⟨⟨x,δ1⟩,h1,h⟩:=bs h
 obtain⟨⟨y,δ2⟩,h2,h⟩:=bs h
 cases h
 exact⟨x,δ1,h1,y,δ2,h2,k⟩
theorem Z0b(h:ME X io p c e (Z8y (o2 ra))):ME X io p c e (o2 (Zku ra)):=h.weak λδ K h=>by
 obtain⟨r,δ',h,k⟩:=h
 obtain⟨⟨x,δ1⟩,h1,h⟩:=bs h
 refine⟨x,δ1,h1,?_⟩
 dsimp only at h
 split at h
 ·rename_i q;cases h;exact⟨q,k⟩
 ·cases h
theorem Z1f(h:ME X io p c e (Z7u (o2 ra))):ME X io p c e (o2 (Zab ra)):=h.weak λδ K h=>by
 obtain⟨r,δ',h,k⟩:=h
 obtain⟨⟨x,δ1⟩,h1,h⟩:=bs h
 refine⟨x,δ1,h1,?_⟩
 dsimp only at h
 split at h
 ·rename_i q;cases h;exact⟨q,k⟩
 ·cases h
theorem Zvy{F:FD}(h:ME X io p c e (Zwj (sD F) (o2 ra))):ME X io p c e (o2 (Ys F ra)):=h.weak λδ K h=>by
 obtain⟨r,δ',h,k⟩:=h
 obtain⟨⟨x,δ1⟩,h1,h⟩:=bs h
 refine⟨x,δ1,h1,?_⟩
 dsimp only at h
 split at h
 ·rename_i q;cases h;exact⟨_,q,k⟩
 ·cases h
theorem J2{g rp}(G:∀ds r k,g ds=some r->k r->rp ds k)(h:ME X io p c e (Z26 rp (o2 ra))):ME X io p c e (o2 (Jb g ra)):=h.weak λδ K h=>by
 obtain⟨r,δ',h,k⟩:=h
 obtain⟨⟨x,δ1⟩,h1,h⟩:=bs h
 obtain⟨d,h3,h⟩:=bs h
 cases h
 exact⟨x,δ1,h1,G _ _ _ h3 k⟩
theorem Z6v{g rp}(G:∀ds r k,g ds=some r->k r->rp ds k)(h:ME X io p c e (mBl rp (o2 ra))):ME X io p c e (o2 (fBl g ra)):=h.weak λδ K h=>by
 obtain⟨r,δ',h,k⟩:=h
 obtain⟨⟨x,δ1⟩,h1,h⟩:=bs h
 obtain⟨d,h3,h⟩:=bs h
 cases h
 exact⟨x,δ1,h1,G _ _ _ h3 k⟩
theorem Js(h:MO X io p eo Zpu):MO X io p eo (o2 oN):=h.weak λδ K ⟨r,δ',h,k⟩=>by cases h;exact k
theorem W5(h:MO X io p eo (Zyx (o2 fa))):MO X io p eo (o2 (oI fa)):=h.weak λδ K h=>by
 obtain⟨r,δ',h,k⟩:=h
 obtain⟨⟨x,δ1⟩,h1,h⟩:=bs h
 refine⟨x,δ1,h1,?_⟩
 try dsimp only at h⊢
 split at h
 ·rename_i q;(try rw[q]);cases h;exact k
 ·cases h
theorem Zmq{lo hi:FO}(h:ME X io p c e (mSl (o2 fa) (o2 lo) (o2 hi))):ME X io p c e (o2 (fSl fa lo hi)):=h.weak λδ K h=>by
 obtain⟨r,δ',h,k⟩:=h
 obtain⟨⟨x,δ1⟩,h1,h⟩:=bs h
 obtain⟨⟨y,δ2⟩,h2,h⟩:=bs h
 obtain⟨⟨z,δ3⟩,h3,h⟩:=bs h
 refine⟨x,δ1,h1,y,δ2,h2,z,δ3,h3,?_⟩
 try dsimp only at h⊢
 split at h
 ·rename_i q;(try rw[q]);cases h;exact k
 ·cases h
theorem Zv2{f g:Int->Int->Bool}{δ:Zf}{K:OT->Zf->Prop}(h:o2 (Zeb f g fa fb fc) δ K):Zla f g (o2 fa) (o2 fb) (o2 fc) δ K:=by
 obtain⟨r,δ',h,k⟩:=h
 obtain⟨⟨x,δ1⟩,h1,h⟩:=bs h
 obtain⟨⟨y,δ2⟩,h2,h⟩:=bs h
 refine⟨x,δ1,h1,y,δ2,h2,?_⟩
 try dsimp only at h⊢
 split at h
 case h_2=>cases h
 rename_i i j q1 q2
 (try rw[q1,q2])
 show(if f i j=true then _ else _)
 split at h
 ·rename_i hf
  rw[if_pos hf]
  obtain⟨⟨z,δ3⟩,h3,h⟩:=bs h
  refine⟨z,δ3,h3,?_⟩
  try dsimp only at h⊢
  split at h
  ·rename_i q;(try rw[q]);cases h;exact k
  ·cases h
 ·rename_i hf
  rw[if_neg hf]
  cases h
  exact k
theorem Zrd{f g:Int->Int->Bool}(h:ME X io p c e (Zla f g (o2 fa) (o2 fb) (o2 fc))):ME X io p c e (o2 (Zeb f g fa fb fc)):=h.weak λδ K z=>Zv2 z
theorem Zwp(h:MI X io p c tg e (iL (o2 fa))):MI X io p c tg e (o2 (Zc2 fa)):=h.weak λδ K h=>by
 obtain⟨r,δ',h,k⟩:=h
 obtain⟨⟨x,δ1⟩,h1,h⟩:=bs h
 refine⟨x,δ1,h1,?_⟩
 try dsimp only at h⊢
 split at h
 ·rename_i q;(try rw[q]);cases h;exact k
 ·cases h
theorem Zy6(h:MI X io p c tg e (iT (o2 fa))):MI X io p c tg e (o2 (iTp fa)):=h.weak λδ K h=>by
 obtain⟨r,δ',h,k⟩:=h
 obtain⟨⟨x,δ1⟩,h1,h⟩:=bs h
 refine⟨x,δ1,h1,?_⟩
 try dsimp only at h⊢
 split at h
 ·rename_i q;(try rw[q]);cases h;exact k
 ·cases h
theorem Zcq(h:MI X io p c tg e (iR1 (o2 ra))):MI X io p c tg e (o2 (iRa ra)):=h.weak λδ K h=>by
 obtain⟨r,δ',h,k⟩:=h
 obtain⟨⟨x,δ1⟩,h1,h⟩:=bs h
 refine⟨x,δ1,h1,?_⟩
 try dsimp only at h⊢
 split at h
 case h_2=>cases h
 rename_i q
 (try rw[q])
 try dsimp only
 split at h
 ·rename_i b;cases h;exact⟨Ze9 b,k⟩
 ·cases h
theorem Zu0(h:MI X io p c tg e (iR2 (o2 ra))):MI X io p c tg e (o2 (iRb ra)):=h.weak λδ K h=>by
 obtain⟨r,δ',h,k⟩:=h
 obtain⟨⟨x,δ1⟩,h1,h⟩:=bs h
 refine⟨x,δ1,h1,?_⟩
 try dsimp only at h⊢
 split at h
 case h_2=>cases h
 rename_i q
 (try rw[q])
 try dsimp only
 split at h
 ·rename_i b
  cases h
  rw[Xz]at b
  exact⟨⟨(Ze9 b.1).1,(Ze9 b.1).2,(Ze9 b.2).1,(Ze9 b.2).2⟩,k⟩
 ·cases h
theorem Zxl(h:MG X io c tg (dName i)):MG X io c tg (oG (gNm i)):=h.weak λd δ K ⟨δ',h,k⟩=>by cases h;exact k
theorem Zxo(h:MGs X io c es Z7b):MGs X io c es (oGs gNl):=h.weak λd δ K q94=>by
 obtain⟨δ',h,k⟩:=q94
 unfold gNl at h
 split at h
 ·cases h;exact⟨rfl,k⟩
 ·cases h
theorem Zk5{g:FG}{gs:FGs}(h:MGs X io c es (Z0s (oG g) (oGs gs))):MGs X io c es (oGs (gCn g gs)):=h.weak λd δ K q95=>by
 obtain⟨δ',h,k⟩:=q95
 unfold gCn at h
 split at h
 ·obtain⟨δ1,h1,h⟩:=bs h
  exact⟨δ1,h1,δ',h,k⟩
 ·cases h
theorem Zx4{n:Nat}{gs:FGs}(h:MG X io c tg (dTup n (oGs gs))):MG X io c tg (oG (gTp n gs)):=h.weak λd δ K q96=>by
 obtain⟨δ',h,k⟩:=q96
 unfold gTp at h
 split at h
 case h_2=>cases h
 split at h
 ·rename_i q;exact⟨q,δ',h,k⟩
 ·cases h
theorem Zdt(h:MIfs X io p es Zye):MIfs X io p es (o2 Zml):=h.weak λδ K ⟨r,δ',h,k⟩=>by cases h;exact k
theorem Zu8{g:FG}{t:FT}{me:FE}{ds:List Xa}{δ0:Zf}{zs:List OT}{δe:Zf}(h:compLoop g t me ds δ0=some (zs,δe)) :
  ∃I:Nat->List OT->Zf->Prop,I 0 [] δ0∧
 (∀ (i:Nat) (d:Xa) (rs:List OT) (δ':Zf),ds[i]? =some d->I i rs δ'->oG g d δ' λδ2=>o2 t δ2 λb δ3=>if b=true then o2 me δ3 λr δ4=>I (i+1) (rs ++ [r]) δ4 else I (i+1) rs δ3)∧
 ∀rs δ',I ds.length rs δ'->rs=zs∧δ'=δe:=by
 refine⟨λi rs δ'=>∃ys,rs ++ ys=zs∧compLoop g t me (ds.drop i) δ'=some (ys,δe),⟨zs,rfl,by rw[Ue];exact h⟩,?_,?_⟩
 ·rintro i d rs δ' hd ⟨ys,e,hl⟩
  obtain⟨hi,hdi⟩:=Xv.mp hd
  rw[QX hi,hdi]at hl
  unfold compLoop at hl
  obtain⟨δ1,h1,hl⟩:=bs hl
  obtain⟨⟨b,δ2⟩,h2,hl⟩:=bs hl
  refine⟨δ1,h1,b,δ2,h2,?_⟩
  dsimp only at hl
  split at hl
  ·rename_i hb
   rw[if_pos hb]
   obtain⟨⟨r,δ3⟩,h3,hl⟩:=bs hl
   obtain⟨⟨ws,δ4⟩,h4,hl⟩:=bs hl
   cases hl
   exact⟨r,δ3,h3,ws,by rw[QH];exact e,h4⟩
  ·rename_i hb
   rw[if_neg hb]
   exact⟨ys,e,hl⟩
 ·rintro rs δ' ⟨ys,e,hl⟩
  rw[List.drop_length]at hl
  unfold compLoop at hl
  cases hl
  exact⟨by rw[←e,XR],rfl⟩
theorem Ztm{n:Nat}{caps:List Nat}{it:FI}{g:FG}{t:FT}{me:FE}{δ:Zf}{K:OT->Zf->Prop}(h:o2 (Jh n caps it g t me) δ K):Zih n caps (o2 it) (oG g) (o2 t) (o2 me) δ K:=by
 obtain⟨r,δ',h,k⟩:=h
 obtain⟨⟨ds,δ1⟩,h1,h⟩:=bs h
 refine⟨ds,δ1,h1,?_⟩
 dsimp only at h
 split at h
 case isFalse=>cases h
 rename_i hz
 obtain⟨⟨zs,δe⟩,h2,h⟩:=bs h
 cases h
 obtain⟨I,i0,st,en⟩:=Zu8 h2
 refine⟨hz,I,i0,st,λrs δ'' q=>?_⟩
 obtain⟨rfl,rfl⟩:=en rs δ'' q
 exact k
theorem Zay{n:Nat}{caps:List Nat}{it:FI}{g:FG}{t:FT}{me:FE}(h:ME X io p c e (Zih n caps (o2 it) (oG g) (o2 t) (o2 me))):ME X io p c e (o2 (Jh n caps it g t me)):=h.weak λδ K z=>Ztm z
end
section
variable {X:Cx}{io:List Nat}{p c:Bool}{e tg iter:Expr}{es:List Expr}{st:Stmt}{sts:List Stmt}{fa fb fc:FE}{ra:FA}{ta tb:FT}{i:Nat}{f g u w:FS}
theorem Z01(h:MSs X io sts (Z6g (oS f) (oS g))):MSs X io sts (oS (Zw f g)):=h.weak λD δ h=>by
 unfold oS Zw at h;unfold Z6g oS
 cases q:f δ<;>rw[q]at h<;>exact h
theorem Zuq(h:MSs X io sts Z10):MSs X io sts (oS fNx):=h.weak λD δ h=>h
theorem Zmm{k:OT->Zf->RS}{D:Ze3}{δ:Zf}(h:oS (wE fa k) D δ):o2 fa δ λr δ'=>(k r δ').fits D:=by
 unfold oS wE at h
 split at h
 ·rename_i q;exact⟨_,_,q,h⟩
 ·exact h.elim
theorem o2.imp{α:Type}{f:Zf->Option (α×Zf)}{δ:Zf}{K K':α->Zf->Prop}(h:o2 f δ K)(k:∀r δ',K r δ'->K' r δ'):o2 f δ K':=let⟨r,δ',e,q⟩:=h;⟨r,δ',e,k r δ' q⟩
theorem Za8{P:Prop}[Decidable P]{a:RS}{D:Ze3}(h:(if P then a else .bad:RS).fits D):P∧a.fits D:=by
 split at h
 ·exact⟨‹_›,h⟩
 ·exact h.elim
theorem Zcs(h:MS X io st (Z2e (o2 fa))):MS X io st (oS (wE fa Zh6)):=h.weak λD δ h=>Zmm h
theorem Zyz(h:MS X io st (Z65 (o2 fa))):MS X io st (oS (wE fa Za2)):=h.weak λD δ h=>Zmm h
theorem Zbn(h:MS X io st (Zro i)):MS X io st (oS (Zb7 i)):=h.weak λD δ h=>by
 unfold oS Zb7 at h;unfold Zro
 split at h
 ·rename_i q;(try rw[q]);exact h
 ·exact h.elim
theorem Z5v(h:MS X io st (Z7s (o2 ta) (oS u) (oS w))):MS X io st (oS (Wu ta u w)):=h.weak λD δ h=>by
 unfold oS Wu at h
 split at h
 ·rename_i b δ' q
  refine⟨b,δ',q,?_⟩
  split at h
  ·rename_i hb;rw[if_pos hb];exact h
  ·rename_i hb;rw[if_neg hb];exact h
 ·exact h.elim
theorem Zgc(h:MS X io st (Z1h i (o2 fa))):MS X io st (oS (wE fa (Wt i))):=h.weak λD δ h=>Zmm h
theorem Zww(h:MS X io st (Zxc i (o2 fa))):MS X io st (oS (wE fa (Zli i))):=h.weak λD δ h=>(Zmm h).imp λr δ' q=>Za8 q
theorem Zpt(h:MS X io st (Zpa i (o2 fa))):MS X io st (oS (wE fa (Jo i))):=h.weak λD δ h=>Zmm h
section
variable {n:Nat}{caps:List Nat}{o q:Nat}{it:FI}{gg:FG}{t:FT}{me:FE}
theorem Zhr(h:MS X io st (if true=true then Zpa i (Zih n caps (o2 it) (oG gg) (o2 t) (o2 me))else Z1h i (Zih n caps (o2 it) (oG gg) (o2 t) (o2 me)))):MS X io st (oS (wE (Jh n caps it gg t me) (Jo i))) :=
 h.weak λD δ h=>by rw[if_pos rfl];exact Ztm (Zmm h)
end
theorem Jl(h:MS X io st (Zhc i (o2 fa))):MS X io st (oS (Yn i fa)):=h.weak λD δ h=>by
 unfold oS Yn at h;unfold Zhc
 split at h
 case h_2=>exact h.elim
 rename_i q;(try rw[q])
 refine(Zmm h).imp λr δ' z=>?_
 split at z
 ·rename_i q2;(try rw[q2]);exact Za8 z
 ·exact z.elim
theorem Zh5(h:MS X io st (Zh1 i (oS u))):MS X io st (oS (Zaz i u)):=h.weak λD δ h=>by
 unfold oS Zaz at h;unfold Zh1
 split at h
 ·rename_i q;(try rw[q]);exact h
 ·exact h.elim
theorem Zbu{gg:FG}{d:Xa}{ds:List Xa}{δ:Zf}:forLoop gg u (d :: ds) δ=match gg d δ with
  | none=>.bad
  | some δ1=>match u δ1 with
   | .nx δ2=>forLoop gg u ds δ2
   | .ct δ2=>forLoop gg u ds δ2
   | .bk δ2=>.nx δ2
   | r=>r:=rfl
theorem Zz2{it:FI}{gg:FG}(h:MS X io st (Z7g (o2 it) (oG gg) (oS u))):MS X io st (oS (Zaw it gg u)):=h.weak λD δ h=>by
 unfold oS Zaw at h
 split at h
 case h_2=>exact h.elim
 rename_i ds δ1 q
 refine⟨ds,δ1,q,λi δ'=>(forLoop gg u (ds.drop i) δ').fits D,by show RS.fits D (forLoop gg u (ds.drop 0) δ1);rw[Ue];exact h,λi d δ' hd z=>?_,λδ' z=>?_⟩
 ·obtain⟨hi,hdi⟩:=Xv.mp hd
  replace z:RS.fits D (forLoop gg u (ds.drop i) δ'):=z
  rw[QX hi,hdi,Zbu]at z
  split at z
  case h_1=>exact z.elim
  rename_i δ2 q2
  refine⟨δ2,q2,?_⟩
  unfold oS
  cases q3:u δ2<;>rw[q3]at z<;>(try rw[q3])<;>exact z
 ·replace z:RS.fits D (forLoop gg u (ds.drop ds.length) δ'):=z
  rw[List.drop_length]at z;exact z
theorem Zqu(h:MS X io st (Zsv (o2 ta) (oS u))):MS X io st (oS (Zgm ta u)):=h.weak λD δ h=>by
 unfold oS Zgm at h
 split at h
 case isFalse=>exact h.elim
 rename_i hn
 refine⟨λn δ'=>(whileLoop ta u n δ').fits D,⟨_,h⟩,λn δ' z=>?_⟩
 cases n with
 | zero=>exact z.elim
 | succ n=>
  unfold whileLoop at z
  split at z
  case h_1=>exact z.elim
  rename_i b δ1 q
  refine⟨b,δ1,q,?_⟩
  split at z
  ·rename_i hb
   rw[if_pos hb]
   refine⟨λδ''=>(whileLoop ta u n δ'').fits D,λδ'' y=>⟨n,BR n,y⟩,?_⟩
   unfold oS
   cases q3:u δ1<;>rw[q3]at z<;>exact z
  ·rename_i hb
   rw[if_neg hb]
   exact z
theorem Zci{n m:Nat}:∀{δ:Zf},whileLoop ta u n δ≠ .bad->whileLoop ta u (n+m) δ=whileLoop ta u n δ:=by
 induction n with
 | zero=>intro δ h;exact absurd rfl h
 | succ n ih=>
  intro δ h
  rw[Nat.succ_add]
  unfold whileLoop at h⊢
  cases q:ta δ with
  | none=>rfl
  | some x=>
   obtain⟨b,δ1⟩:=x
   rw[q]at h
   try dsimp only at h⊢
   split
   ·rename_i hb
    rw[if_pos hb]at h
    cases q3:u δ1<;>rw[q3]at h<;>first|exact ih h|rfl
   ·rfl
theorem Znz{r:RS}{δ:Zf}(n:Nat)(h:whileLoop ta u n δ=r)(hr:r≠ .bad):Zgm ta u δ=r:=by
 have hn:∃n,whileLoop ta u n δ≠ .bad:=⟨n,by rw[h];exact hr⟩
 unfold Zgm
 rw[dif_pos hn]
 have h1:=UW hn
 have e1:=Zci (m:=n) h1
 have e2:=Zci (m:=Uo hn) (show whileLoop ta u n δ≠ .bad by rw[h];exact hr)
 rw[Nat.add_comm]at e2
 rw[←e1,e2,h]
theorem Y8{cn:Str}:MS X io st (oS (Zae cn)):=Zr8.weak λD δ h=>h
theorem Zv4{F:FD}{k:OT->Zf->RS}(h:MS X io st (oS (wE (Ys F ra) k))):MS X io st (oS (wX F ra k)):=h.weak λD δ h=>by
 unfold oS wX at h;unfold oS wE Ys
 split at h
 case h_2=>exact h.elim
 rename_i rs δ1 q
 (try rw[q])
 dsimp only[Option.bind]
 split at h
 ·rename_i q2;(try rw[q2]);exact h
 ·exact h.elim
 ·exact h.elim
theorem Z22{xs:List Str}{D:Str}{Dc:Addr}{h0:FS}(hk:∀cn∈xs,Zly cn D=true->∃C,BV X.K cn C∧Zb6 X.K C∧JL X.K (.ref C) (.ref Dc)=some true)(h:MS X io st (Z49 X.K Dc i (oS u) (xS X.K u) (oS h0))):MS X io st (oS (Zu3 xs u D i h0)):=h.weak λDD δ h=>by
 unfold oS Zu3 at h
 split at h
 ·rename_i cn δ' q
  refine .inr ?_
  obtain⟨hc,h⟩:=Za8 h
  rw[Xz]at hc
  obtain⟨C,k1,k2,k3⟩:=hk cn (by simpa using hc.1) hc.2
  refine⟨cn,C,δ',q,k1,cn,k1,⟨k2,k3⟩,?_⟩
  unfold oS
  split at h
  ·rename_i q2;(try rw[q2]);exact h
  ·exact h.elim
 ·exact .inl h
theorem XS.weak{m m':MXt}(h:XS X io st m)(w:∀δ k,m' δ k->m δ k):XS X io st m':=λC pins s σ H δ fp ex k I R hm=>h C pins s σ H δ fp ex k I R (w δ k hm)
theorem XSs.weak{m m':MXt}(h:XSs X io sts m)(w:∀δ k,m' δ k->m δ k):XSs X io sts m':=λC pins s σ H δ fp ex k I R hm=>h C pins s σ H δ fp ex k I R (w δ k hm)
theorem XE.weak{m m':MXt}(h:XE X io e m)(w:∀δ k,m' δ k->m δ k):XE X io e m':=λC pins s σ H δ fp ex k I R hm=>h C pins s σ H δ fp ex k I R (w δ k hm)
class NoEx (f:FS):Prop where
 no:∀δ cn δ',f δ≠ .ex cn δ'
class NoExK (k:OT->Zf->RS):Prop where
 no:∀r δ cn δ',k r δ≠ .ex cn δ'
theorem Zo5(f:FS)[NoEx f]:XS X io st (xS X.K f):=Zse.weak λδ k ⟨cn,_,δ',h,_⟩=>(NoEx.no δ cn δ' h).elim
theorem Zdc(f:FS)[NoEx f]:XSs X io sts (xS X.K f):=Zne.weak λδ k ⟨cn,_,δ',h,_⟩=>(NoEx.no δ cn δ' h).elim
instance nx_kDrop_k:NoExK Zh6:=⟨λ_ _ _ _ h=>by cases h⟩
instance nx_kSet_k:NoExK (Wt i):=⟨λ_ _ _ _ h=>by cases h⟩
instance nx_kSetO_k:NoExK (Jo i):=⟨λ_ _ _ _ h=>by cases h⟩
instance nx_wE{k:OT->Zf->RS}[NoExK k]:NoEx (wE fa k):=⟨λδ cn δ' h=>by
 unfold wE at h
 split at h
 ·exact NoExK.no _ _ _ _ h
 ·cases h⟩
instance nx_fNx:NoEx fNx:=⟨λ_ _ _ h=>by cases h⟩
instance nx_fRetO:NoEx (Zb7 i):=⟨λ_ _ _ h=>by unfold Zb7 at h;split at h<;>cases h⟩
theorem Znr{k:OT->Zf->RS}{δ:Zf}(n:∀r δ cn δ',k r δ≠ .ex cn δ'){cn:Str}{δ':Zf}(h:wE fa k δ= .ex cn δ'):False:=by
 unfold wE at h
 split at h
 ·exact n _ _ _ _ h
 ·cases h
instance nx_fAppend:NoEx (Yn i fa):=⟨λδ cn δ' h=>by
 unfold Yn at h
 split at h
 ·exact Znr (λr δ1 _ _ z=>by
   split at z
   ·split at z<;>cases z
   ·cases z) h
 ·cases h⟩
theorem Zb3{cn:Str}{C:Addr}(hc:BV X.K cn C)(h:XS X io st (Zn8 C)):XS X io st (xS X.K (Zae cn)):=h.weak λδ k z=>by
 obtain⟨c',C',δ',h,k1,k2⟩:=z
 cases h
 have:=k1.symm.trans hc
 injection this with this;injection this with this;injection this with this
 subst this
 exact k2
theorem Zg7{F:FD}{k:OT->Zf->RS}[NoExK k](h:XE X io e (Ztw (sX X.K F) (o2 ra))):XE X io e (xS X.K (wX F ra k)):=h.weak λδ kk z=>by
 obtain⟨c',C',δ',h,k1,k2⟩:=z
 unfold wX at h
 split at h
 case h_2=>cases h
 rename_i rs δ1 q
 refine⟨rs,δ1,q,?_⟩
 split at h
 ·exact(NoExK.no _ _ _ _ h).elim
 ·rename_i q2
  cases h
  exact⟨C',⟨_,q2,k1⟩,k2⟩
 ·cases h
theorem Zaj(h1:XS X io st (xS X.K f))(m1:MS X io st (oS f))(h2:XSs X io sts (xS X.K g))(hx:X.xe= λ_ _=>False:=by rfl):XSs X io (st :: sts) (xS X.K (Zw f g)):=by
 intro C pins s σ H δ fp ex k I R hm
 obtain⟨cn,C',δ',h,k1,k2⟩:=hm
 unfold Zw at h
 split at h
 ·rename_i δ1 q
  exact Zrb m1 h2 hx C pins s σ H δ fp ex k I R (by
   show(f δ).fits _
   (try rw[q])
   exact⟨cn,C',δ',h,k1,k2⟩)
 ·exact Zkf h1 C pins s σ H δ fp ex k I R ⟨cn,C',δ',h,k1,k2⟩
theorem J4(h1:XS X io st (xS X.K f)):XSs X io [st] (xS X.K f):=Zkf h1
theorem Zmd{a b:List Stmt}{pos:Pos}(h:XS X io (.If e a b pos) (Z67 (o2 ta) (xS X.K u) (xS X.K w))):XS X io (.If e a b pos) (xS X.K (Wu ta u w)):=h.weak λδ k z=>by
 obtain⟨cn,C',δ',h,k1,k2⟩:=z
 unfold Wu at h
 split at h
 case h_2=>cases h
 rename_i b δ1 q
 refine⟨b,δ1,q,?_⟩
 split at h
 ·rename_i hb;rw[if_pos hb];exact⟨cn,C',δ',h,k1,k2⟩
 ·rename_i hb;rw[if_neg hb];exact⟨cn,C',δ',h,k1,k2⟩
theorem Zgs{gg:FG}{cn:Str}{δ':Zf}:∀(ds:List Xa) (δ:Zf),forLoop gg u ds δ= .ex cn δ'->∃(S:Nat->Zf) (r:Nat),r<ds.length∧S 0=δ∧
  (∀ i d,i<r->ds[i]? =some d->∃δ1,gg d (S i)=some δ1∧(u δ1= .nx (S (i+1))∨u δ1= .ct (S (i+1))))∧∀d,ds[r]? =some d->∃δ1,gg d (S r)=some δ1∧u δ1= .ex cn δ'
 | [],δ,h=>by cases h
 | d :: ds,δ,h=>by
  rw[Zbu]at h
  split at h
  ·cases h
  rename_i δ1 q
  have go:∀δ2,(u δ1= .nx δ2∨u δ1= .ct δ2)->forLoop gg u ds δ2= .ex cn δ'->∃(S:Nat->Zf) (r:Nat),r<(d :: ds).length∧S 0=δ∧
    (∀ i d',i<r->(d :: ds)[i]? =some d'->∃δ1,gg d' (S i)=some δ1∧(u δ1= .nx (S (i+1))∨u δ1= .ct (S (i+1))))∧∀d',(d :: ds)[r]? =some d'->∃δ1,gg d' (S r)=some δ1∧u δ1= .ex cn δ':=λδ2 hu hl=>by
   obtain⟨S,r,h1,h2,h3,h4⟩:=Zgs ds δ2 hl
   refine⟨λi=>match i with|0=>δ|i+1=>S i,r+1,by simpa using h1,rfl,λi d' hi hd=>?_,λd' hd=>h4 d' (by simpa using hd)⟩
   cases i with
   | zero=>
    have:d=d':=by simpa using hd
    subst this
    exact⟨δ1,q,by show _=RS.nx (S 0)∨_=RS.ct (S 0);rw[h2];exact hu⟩
   | succ i=>exact h3 i d' (by omega) (by simpa using hd)
  split at h
  ·rename_i q2;exact go _ (.inl q2) h
  ·rename_i q2;exact go _ (.inr q2) h
  ·cases h
  ·rename_i q2 _ _ _
   exact⟨λ_=>δ,0,by simp,rfl,λi d' hi=>absurd hi (V6 i),λd' hd=>by
    have:d=d':=by simpa using hd
    subst this
    exact⟨δ1,q,h⟩⟩
theorem Zob{it:FI}{gg:FG}(h:XS X io st (Z0c (o2 it) (oG gg) (oS u) (xS X.K u))):XS X io st (xS X.K (Zaw it gg u)):=h.weak λδ k z=>by
 obtain⟨cn,C',δ',h,k1,k2⟩:=z
 unfold Zaw at h
 split at h
 case h_2=>cases h
 rename_i ds δ1 q
 refine⟨ds,δ1,q,?_⟩
 obtain⟨S,r,h1,h2,h3,h4⟩:=Zgs ds δ1 h
 refine⟨λi δ=>δ=S i,r,h1,h2.symm,λi d δ2 hi hd e=>?_,λd δ2 hd e=>?_⟩
 ·subst e
  obtain⟨δ3,a,b⟩:=h3 i d hi hd
  refine⟨δ3,a,?_⟩
  unfold oS
  rcases b with b|b<;>rw[b]<;>rfl
 ·subst e
  obtain⟨δ3,a,b⟩:=h4 d hd
  exact⟨δ3,a,cn,C',δ',b,k1,k2⟩
end
section
variable {P:X4}{w:Qv}{K:Xb}{mg:Str->Option Xc}{base:Heap}{x qual:Str}{st:Stmt}{f:Addr}{fd:Qc}{N ps:List Str}{n np nn:Nat}{S:FS}
theorem RS.told_fits{r:RS}{o:OT}{k:OT->Prop}(h:r.told= .ok o)(hk:k o):r.fits (Zu5 k):=by
 cases r<;>unfold RS.told at h<;>first|(cases h;exact hk)|cases h
theorem Ww(F:Fun K x qual st f fd)(Sc:Z0 N ps (Zh st))(hN:N.length=nn)(hp:np=ps.length)
  (hb:∀(cdv:Xc) (A:Qt) (outer:List Env) (s:Xf) (H:Hp) (E:XK),Room n (A.deeper (UJ qual (Zh st) s.heap.objs.size f cdv))->MSs (Zqp CX0 P w K mg base N qual (Zh st) f cdv A outer s H E).nox [] (Zu st) (oS S)) :
  FnOk P w K mg base CX0 (n+1) f fd ps (spD K (sD (Zag np nn S))):=by
 subst hN hp
 refine F.okD Sc (λds k h=>?_) λcdv A outer s H E hr=>⟨_,hb cdv A outer s H E hr,λds k h=>?_⟩
 ·obtain⟨r,h,_⟩:=h
  unfold Zag at h
  split at h
  ·assumption
  ·cases h
 ·obtain⟨r,h,hk⟩:=h
  unfold Zag at h
  split at h
  ·exact RS.told_fits h hk
  ·cases h
theorem Zlf(F:Fun K x qual st f fd)(Sc:Z0 N ps (Zh st))(hN:N.length=nn)(hp:np=ps.length)
  (hb:∀(cdv:Xc) (A:Qt) (outer:List Env) (s:Xf) (H:Hp) (E:XK),Room n (A.deeper (UJ qual (Zh st) s.heap.objs.size f cdv))->XSs (Zqp (CX1 P w) P w K mg base N qual (Zh st) f cdv A outer s H E).nox [] (Zu st) (xS K S)) :
  FnOk P w K mg base (CX1 P w) (n+1) f fd ps (spX K (sX K (Zag np nn S))):=by
 subst hN hp
 refine F.okX Sc (λds cl h=>?_) λcdv A outer s H E hr=>⟨_,hb cdv A outer s H E hr,λds cl h=>?_⟩
 ·obtain⟨r,h,_⟩:=h
  unfold Zag at h
  split at h
  ·assumption
  ·cases h
 ·obtain⟨c,h,hc⟩:=h
  unfold Zag at h
  split at h
  case isFalse=>cases h
  have e:Y9 N.length ds=Zf7 N ds:=rfl
  rw[e]at h
  cases q:S (Zf7 N ds)<;>rw[q]at h<;>unfold RS.told at h<;>cases h
  exact⟨_,cl,_,q,hc,rfl⟩
end
noncomputable def i2(g:Int->Int->Xa):Xa->Xa->Option Xa:=λd e=>match d,e with| .int i,.int j=>some (g i j)|_,_=>none
noncomputable def i2c(c:Int->Int->Bool)(g:Int->Int->Xa):Xa->Xa->Option Xa:=λd e=>match d,e with| .int i,.int j=>if c i j=true then some (g i j)else none|_,_=>none
theorem Zn4{g:Int->Int->Xa}:ByS (i2 g) (Zs5 g):=λd e r k h hk=>by
 unfold i2 at h
 split at h
 ·cases h;exact hk
 ·cases h
theorem Zke{c:Int->Int->Bool}{C:Int->Int->Prop}{g:Int->Int->Xa}(hc:∀i j,c i j=true->C i j):ByS (i2c c g) (d2I C g):=λd e r k h hk=>by
 unfold i2c at h
 split at h
 ·split at h
  ·cases h;exact⟨hc _ _ ‹_›,hk⟩
  ·cases h
 ·cases h
noncomputable def Zx1(a b:Int):Bool:=!(decide (VM a>shortFactorBits)&&decide (VM b>shortFactorBits)&&VF.Int.intTooBig (VM a+VM b))
noncomputable def Zze(_ j:Int):Bool:=decide (j≠0)&&decide (j.natAbs.log2<9000)
noncomputable def Z8j(_ j:Int):Bool:=decide (j≠0)
noncomputable def Yao(i j:Int):Bool:=decide (0≤j∧j≤1000000∧i.natAbs<2^64)
theorem Zhq{a b:Int}:Zx1 a b=true↔IntMulOk a b:=by
 unfold Zx1 IntMulOk
 rw[Bool.not_eq_true',Bool.not_eq_true]
noncomputable def Ja:=i2 λi j=>.int (i+j)
noncomputable def gSb:=i2 λi j=>.int (i-j)
noncomputable def Zfp:=i2c Zx1 λi j=>.int (i*j)
noncomputable def J6:=i2c Zze λi j=>.int (i.fdiv j)
noncomputable def J8:=i2c Z8j λi j=>.int (i.fmod j)
noncomputable def Zrw:=i2c Yao λi j=>.int (i^j.toNat)
noncomputable def gLt:=i2 λi j=>.bool (decide (i<j))
noncomputable def gLe:=i2 λi j=>.bool (decide (i≤j))
noncomputable def gGt:=i2 λi j=>.bool (decide (j<i))
noncomputable def gGe:=i2 λi j=>.bool (decide (j≤i))
theorem Z5s:ByS Ja (Zs5 λi j=>.int (i+j)):=Zn4
theorem Z6s:ByS gSb (Zs5 λi j=>.int (i-j)):=Zn4
theorem Z50:ByS Zfp (d2I MulOk λi j=>.int (i*j)):=Zke λi j h=>⟨Zhq.mp h⟩
theorem Zy8:ByS J6 (d2I Z76 λi j=>.int (i.fdiv j)):=Zke λi j h=>⟨by
 unfold Zze at h
 rw[Xz]at h
 exact⟨of_decide_eq_true h.1,of_decide_eq_true h.2⟩⟩
theorem Z4d:ByS J8 (d2I (λ_ j=>j≠0) λi j=>.int (i.fmod j)):=Zke λi j h=>of_decide_eq_true h
theorem Z5c:ByS Zrw (d2I Z7a λi j=>.int (i^j.toNat)):=Zke λi j h=>⟨(of_decide_eq_true h:0≤j∧j≤1000000∧i.natAbs<2^64)⟩
theorem Z9z:ByS gLt (Zs5 λi j=>.bool (decide (i<j))):=Zn4
theorem Z9i:ByS gGt (Zs5 λi j=>.bool (decide (j<i))):=Zn4
theorem Yap:ByS gGe (Zs5 λi j=>.bool (decide (j≤i))):=Zn4
noncomputable def gEq:Xa->Xa->Option Xa:=λd e=>if(Vz d&&Vz e)=true then some (.bool (JG d e))else none
noncomputable def gNe:Xa->Xa->Option Xa:=λd e=>if(Vz d&&Vz e)=true then some (.bool (!JG d e))else none
theorem Z3e:ByS gEq dEq:=λd e r k h hk=>by
 unfold gEq at h
 split at h
 ·rename_i q
  rw[Xz]at q
  cases h
  exact⟨⟨q.1⟩,⟨q.2⟩,hk⟩
 ·cases h
theorem Z9d:ByS gNe dNe:=λd e r k h hk=>by
 unfold gNe at h
 split at h
 ·rename_i q
  rw[Xz]at q
  cases h
  exact⟨⟨q.1⟩,⟨q.2⟩,hk⟩
 ·cases h
noncomputable def gIs:Xa->Xa->Option Xa:=λd e=>match e with| .none=>some (.bool (Zhy d))|_=>none
noncomputable def Z1i:Xa->Xa->Option Xa:=λd e=>match e with| .none=>some (.bool (!Zhy d))|_=>none
noncomputable def Zfr(neg:Bool):Xa->Xa->Option Xa:=λd e=>match Zj8 e with
 | some ds=>if(scD d&&ds.all scD)=true then some (.bool (if neg then !memS d ds else memS d ds))else none
 | none=>none
theorem Zoc{neg:Bool}:ByS (Zfr neg) (dIn neg):=λd e r k h hk=>by
 unfold Zfr at h
 split at h
 case h_2=>cases h
 rename_i ds q
 split at h
 case isFalse=>cases h
 rename_i q2
 rw[Xz]at q2
 cases h
 refine⟨q2.1,?_⟩
 cases e<;>cases q
 ·exact⟨q2.2,hk⟩
 ·exact⟨q2.2,hk⟩
noncomputable def gIx:Xa->Xa->Option OT:=λd e=>(ixD d e).bind λx=>some (.fz x)
theorem Yam:ByO gIx dIx:=λd e r k h hk=>by
 obtain⟨x,h1,h2⟩:=bs h
 cases h2
 unfold dIx
 rw[h1]
 exact hk
noncomputable def Zqr:Xa->Xa->Option OT:=λd e=>match d,e with| .list ds,.list es=>if ds.length+es.length≤Xi then some (.nd ((ds ++ es).map OT.fz))else none|_,_=>none
theorem Zwe:ByO Zqr dCat:=λd e r k h hk=>by
 unfold Zqr at h
 split at h
 ·split at h
  ·cases h;exact⟨‹_›,hk⟩
  ·cases h
 ·cases h
noncomputable def Zai:List Xa->Option Xa:=λds=>match ds with|[d]=>(Zsk d).bind λn=>some (.int n)|_=>none
theorem Z4w:∀ds r k,Zai ds=some r->k r->Z85 ds k:=λds r k h hk=>by
 unfold Zai at h
 split at h
 ·obtain⟨n,h1,h2⟩:=bs h
  cases h2
  show match Zsk _ with|some n=>_|none=>_
  rw[h1]
  exact hk
 ·cases h
noncomputable def Z5i:List Xa->Option Xa:=λds=>match ds with|[.int i]=>some (.int (if i<0 then -i else i))|_=>none
noncomputable def Yay:List Xa->Option Xa:=λds=>match ds with|[.int i,.int j]=>some (.int (if j>i then j else i))|_=>none
noncomputable def Yaz:List Xa->Option Xa:=λds=>match ds with|[.int i,.int j]=>some (.int (if j<i then j else i))|_=>none
noncomputable def Z8s:List Xa->Option Xa:=λds=>match ds with|[.int i]=>some (.int i)|[.bool b]=>some (.int (if b then 1 else 0))|_=>none
noncomputable def Zpd:List Xa->Option OT:=λds=>match ds with|[d]=>(Zj8 d).bind λes=>some (.nd (es.map OT.fz))|_=>none
theorem Zz0:∀ds r k,Zpd ds=some r->k r->Z2o ds k:=λds r k h hk=>by
 unfold Zpd at h
 split at h
 ·obtain⟨n,h1,h2⟩:=bs h
  cases h2
  show match Zj8 _ with|some n=>_|none=>_
  rw[h1]
  exact hk
 ·cases h
noncomputable def Zlp:List Xa->Option (List Int)
 | []=>some []
 | .int i :: r=>(Zlp r).bind λl=>some (i :: l)
 | _ :: _=>none
theorem Zg9:∀{ds:List Xa} {ns:List Int},Zlp ds=some ns->ds=ns.map XJ
 | [],_,h=>by cases h;rfl
 | .int i :: r,_,h=>by
  obtain⟨l,h1,h2⟩:=bs h
  cases h2
  rw[Zg9 h1];rfl
 | .none :: _,_,h=>by cases h
 | .bool _ :: _,_,h=>by cases h
 | .str _ :: _,_,h=>by cases h
 | .list _ :: _,_,h=>by cases h
 | .tuple _ :: _,_,h=>by cases h
 | .dict _ :: _,_,h=>by cases h
@[simp] theorem Zqk:∀ns:List Int,Zlp (ns.map XJ)=some ns
 | []=>rfl
 | n :: ns=>by rw[X6,Zlp,Zqk ns];rfl
section
variable {X:Cx}{io:List Nat}{p c:Bool}{e tg:Expr}{es:List Expr}{st:Stmt}{fa fb fc:FE}{ra:FA}{i:Nat}
noncomputable def Z8h(a:FA):FE:=λδ=>(a δ).bind λp=>match OT.datas p.1 with|[.int j]=>if rOk j=true∧j.toNat≤Xi then some (.nd ((Zc7 0 j.toNat).map OT.fz),p.2)else none|_=>none
noncomputable def Z8l(a b:FE):FE:=λδ=>(a δ).bind λp=>(b p.2).bind λq=>match q.1.data with| .int k=>if rOk k=true∧k.toNat≤Xi then some (.nd (QC k.toNat (.fz p.1.data)),p.2)else none|_=>none
noncomputable def Zf5:Xa->Option Str| .dict [(.str x,.none)]=>some x|_=>none
theorem Zi9{d:Xa}{x:Str}(h:Zf5 d=some x):d=exD x:=by
 unfold Zf5 at h
 split at h
 ·cases h;rfl
 ·cases h
noncomputable def Zjk(xs:List Str)(D:Str)(a:FE):FE:=λδ=>(a δ).bind λp=>(Zf5 p.1.data).bind λx=>if xs.contains x=true then some (.fz (.bool (Zly x D)),p.2)else none
noncomputable def Zky(xs Ds:List Str)(a:FE):FE:=λδ=>(a δ).bind λp=>(Zf5 p.1.data).bind λx=>if xs.contains x=true then some (.fz (.bool (Ds.any (Zly x))),p.2)else none
theorem Zpo{xs:List Str}{D:Str}{cv:Xc}(hk:∀x∈xs,∃C,BV X.K x C∧Qg X.K (.ref C) cv=some (Zly x D))(h:ME X io p c e (Z2h X.K cv (o2 fa))):ME X io p c e (o2 (Zjk xs D fa)):=h.weak λδ K h=>by
 obtain⟨r,δ',h,k⟩:=h
 obtain⟨⟨x,δ1⟩,h1,h⟩:=bs h
 obtain⟨n,h2,h⟩:=bs h
 split at h
 case isFalse=>cases h
 rename_i q
 cases h
 obtain⟨C,k1,k2⟩:=hk n (by simpa using q)
 exact⟨x,δ1,h1,n,C,_,Zi9 h2,k1,k2,k⟩
theorem Zrz{xs Ds:List Str}{cs:List Xc}(hk:∀x∈xs,∃C,BV X.K x C∧Vv X.K (.ref C) cs=some (Ds.any (Zly x)))(h:ME X io p c e (Zta X.K cs (o2 fa))):ME X io p c e (o2 (Zky xs Ds fa)):=h.weak λδ K h=>by
 obtain⟨r,δ',h,k⟩:=h
 obtain⟨⟨x,δ1⟩,h1,h⟩:=bs h
 obtain⟨n,h2,h⟩:=bs h
 split at h
 case isFalse=>cases h
 rename_i q
 cases h
 obtain⟨C,k1,k2⟩:=hk n (by simpa using q)
 exact⟨x,δ1,h1,n,C,_,Zi9 h2,k1,k2,k⟩
end
variable {G:Xb}
section
variable {X:Cx}{io:List Nat}{p c:Bool}{e a b:Expr}{es:List Expr}{m ma mb:MEt}{mr:MAt}{pos apos cpos px py pt sp kp:Pos}{i j:Nat}{x y:Str}{fa fb:FE}{ra:FA}{st:Stmt}
noncomputable def Z4l(a:FA):FE:=λδ=>(a δ).bind λp=>if p.1.length≤Xi then some (.tp p.1,p.2)else none
noncomputable def Ztd(i c:Nat)(e:FE):FS:=λδ=>match δ[i]? with
 | some (some (.tp ts))=>match ts[c]? with
  | some (.nd us)=>wE e (λr _=>if us.length<Xi then .nx (δ.set i (some (.tp (ts.set c (.nd (us ++ [.fz r.data]))))))else .bad) δ
  | _=>.bad
 | _=>.bad
noncomputable def Z8d(i j:Nat)(a:FA):FS:=λδ=>match a δ with
 | some (rs,δ1)=>match OT.datas rs with
  | [d,e]=>.nx ((δ1.set i (some (.fz d))).set j (some (.fz e)))
  | _=>.bad
 | none=>.bad
end
class NoStar (e:Expr):Prop where
 h:∀es env,Xj (e :: es) env=(false,eval e env) :: Xj es env
instance nx_Name{x:Str}{p:Pos}:NoStar (.Name x p):=⟨λ_ _=>rfl⟩
instance nx_Constant{x k}{p:Pos}:NoStar (.Constant x k p):=⟨λ_ _=>rfl⟩
instance nx_BinOp{a o b}{p:Pos}:NoStar (.BinOp a o b p):=⟨λ_ _=>rfl⟩
instance nx_Call{f a k}{p:Pos}:NoStar (.Call f a k p):=⟨λ_ _=>rfl⟩
instance nx_Subscript{a b}{p:Pos}:NoStar (.Subscript a b p):=⟨λ_ _=>rfl⟩
instance nx_ListComp{a b s}{p:Pos}:NoStar (.ListComp a b s p):=⟨λ_ _=>rfl⟩
theorem Zj{X:Cx}{io:List Nat}{p p' c c' p2 c2:Bool}{e:Expr}{es:List Expr}{fa:FE}{ra:FA}[NoStar e](ha:ME X io p c e (o2 fa))(hr:MA X io p' c' es (o2 ra))(hc:p'=true∨c=true:=by first|exact QG rfl|exact Qo rfl)(h2:(p&&p')=p2:=by rfl)(h3:(c&&c')=c2:=by rfl):MA X io p2 c2 (e :: es) (o2 (Zd fa ra)) :=
 h2▸h3▸Zxs (Zvi ha hr hc (NoStar.h es X.env))
theorem Zcw{X:Cx}{io:List Nat}{p p' c c':Bool}{e:Expr}{m:MEt}(h:ME X io p c e m)(h2:p=p':=by rfl)(h3:c=c':=by rfl):ME X io p' c' e m:=h2▸h3▸h
structure Gives(P:X4)(w:Qv)(it:Addr)(f:List Addr)(St:Heap->Prop)(x:Xc)(St':Heap->Prop):Prop where
 mem:it∈f
 run:∀{A:Qt} {E:Xc->Xf->Prop} {s:Xf} {Q:Xc->Xf->Prop},St s.heap->(∀h',St' h'->Bm it s.heap h'->Q x { s with heap:=h' })->XC (X8 P w) A (Qa (.ref it)) Q E s
 keep:∀h h',(∀c∈f,∀o,h.get? c=some o->h'.get? c=some o)->St h->St h'
 keep':∀h h',(∀c∈f,∀o,h.get? c=some o->h'.get? c=some o)->St' h->St' h'
structure Zgg(P:X4)(w:Qv)(it:Addr)(f:List Addr)(St:Heap->Prop):Prop where
 mem:it∈f
 run:∀{A:Qt} {E:Xc->Xf->Prop} {s:Xf} {Q:Xc->Xf->Prop},A.handled=none->St s.heap->(∀h' e,Heap.ExtBut it s.heap h'->(∃o,h'.get? e=some o∧o.cls= .type "StopIteration")->E (.ref e) { s with heap:=h' })->XC (X8 P w) A (Qa (.ref it)) Q E s
 keep:∀h h',(∀c∈f,∀o,h.get? c=some o->h'.get? c=some o)->St h->St h'
structure ZA(z TI TO i1 i2:Addr)(f1 f2:List Addr):Prop where
 TIz:TI≠z
 TOz:TO≠z
 a1:∀c∈f1,c≠z∧c≠TO∧c≠i2
 a2:∀c∈f2,c≠z∧c≠TO∧c≠i1
section
variable {P:X4}{w:Qv}{A:Qt}{E:Xc->Xf->Prop}{s:Xf}
theorem Zb1{T:Addr}{a b x:Xc}{k:Nat}{Q:Unit->Xf->Prop}(hT:QK s.heap T a b)(h:∀h',h'.get? T=some { cls:=.type "tuple",data:=.seq ((#[a,b]:Array Xc).setIfInBounds k x) }->Bm T s.heap h'->Q () { s with heap:=h' }) :
  XC (X8 P w) A (updateSeq T (·.setIfInBounds k x)) Q E s:=wpAny_updateSeq_pair hT h
theorem Zol{z TI TO i1 i2:Addr}{f1 f2:List Addr}{S1 T1 S2 T2:Heap->Prop}{x y a b:Xc}{Q:Xc->Xf->Prop}(D:ZA z TI TO i1 i2 f1 f2)(G1:Gives P w i1 f1 S1 x T1)(G2:Gives P w i2 f2 S2 y T2)
  (hz:Bw s.heap z TI TO .none) (hTI:QK s.heap TI (.ref i1) (.ref i2)) (hTO:QK s.heap TO a b) (h1:S1 s.heap) (h2:S2 s.heap)
  (hQ:∀h',Bw h' z TI TO (Vm s.heap.objs.size)->QK h' TO x y->T1 h'->T2 h'->QK h' s.heap.objs.size x y ->
   (∀ c o,c∉[z,TO,i1,i2]->s.heap.get? c=some o->h'.get? c=some o)->Q (.ref s.heap.objs.size) { s with heap:=h' }) :
  XC (X8 P w) A (VF.«zip.__next__» ⟨[.ref z],[]⟩) (λfin s'=>∃v,fin= .done (.ret v)∧Q v s') E s:=by
 obtain⟨i1z,i1O,i12⟩:=D.a1 i1 G1.mem
 obtain⟨i2z,i2O,i21⟩:=D.a2 i2 G2.mem
 have r1:z∉f1∧TO∉f1∧i2∉f1:=⟨λm=>(D.a1 z m).1 rfl,λm=>(D.a1 TO m).2.1 rfl,λm=>(D.a1 i2 m).2.2 rfl⟩
 have r2:z∉f2∧TO∉f2∧i1∉f2:=⟨λm=>(D.a2 z m).1 rfl,λm=>(D.a2 TO m).2.1 rfl,λm=>(D.a2 i1 m).2.2 rfl⟩
 have st:∀{b:Addr} {h h':Heap} {f:List Addr},Bm b h h'->b∉f->∀c∈f,∀o,h.get? c=some o->h'.get? c=some o:=λsb hb c hc o e=>sb.extBut _ _ (λq=>hb (q▸hc)) e
 show XC _ _ (field (.ref z) 2>>=_) _ _ _
 refine Xd (QB hz rfl (x:=.bool false) rfl ?_)
 show XC _ _ (field (.ref z) 3>>=_) _ _ _
 refine Xd (QB hz rfl (x:=.ref TI) rfl (Xd (Q4 hTI rfl ?_)))
 show XC _ _ (Qq (.ref z)>>=_) _ _ _
 refine Xd ?_
 unfold Qq
 refine Xd (QB hz rfl (x:=.none) rfl (XH ?_))
 simp only[if_true]
 refine Xd (wpAny_rule (Xd (QB hz rfl (x:=.ref TO) rfl (Xd (QQ hz (by simp) λh3 z3 b3=>?_)))))
 replace z3:Bw h3 z TI TO .ellipsis:=z3
 refine Xd ?_
 simp only[U3,List.zipIdx_nil,BZ,Ve]
 refine Xd (Xd (Vc ?_))
 show XC _ _ (Qa (.ref i1)>>=_) _ _ _
 refine Xd (G1.run (s:={ s with heap:=h3 }) (G1.keep _ _ (st b3 r1.1) h1) λh4 k4 b4=>XH ?_)
 have o4:QK h4 TO a b:=b4.extBut _ _ i1O.symm (b3.extBut _ _ D.TOz hTO)
 refine Xd (Q4 o4 rfl (Xd (Zb1 (s:={ s with heap:=h4 }) o4 λh5 o5 b5=>Xd (U7 (XH ?_)))))
 replace o5:QK h5 TO x b:=o5
 refine Xd (Xd (Vc ?_))
 show XC _ _ (Qa (.ref i2)>>=_) _ _ _
 refine Xd (G2.run (s:={ s with heap:=h5 }) (G2.keep _ _ (st b5 r2.2.1) (G2.keep _ _ (st b4 r2.2.2) (G2.keep _ _ (st b3 r2.1) h2))) λh6 k6 b6=>XH ?_)
 have o6:QK h6 TO x b:=b6.extBut _ _ i2O.symm o5
 refine Xd (Q4 o6 rfl (Xd (Zb1 (s:={ s with heap:=h6 }) o6 λh7 o7 b7=>Xd (U7 (XH (XH ?_))))))
 replace o7:QK h7 TO x y:=o7
 refine Xd (Q4 o7 rfl (Xd (wpAny_newTuple ?_)))
 have sz:h7.objs.size=s.heap.objs.size:=by rw[b7.1,b6.1,b5.1,b4.1,b3.1]
 have z7:Bw h7 z TI TO .ellipsis:=b7.extBut _ _ D.TOz.symm (b6.extBut _ _ i2z.symm (b5.extBut _ _ D.TOz.symm (b4.extBut _ _ i1z.symm z3)))
 have t1:T1 h7:=G1.keep' _ _ (st b7 r1.2.1) (G1.keep' _ _ (st b6 r1.2.2) (G1.keep' _ _ (st b5 r1.2.1) k4))
 have t2:T2 h7:=G2.keep' _ _ (st b7 r2.2.1) k6
 have old:∀c o,c∉[z,TO,i1,i2]->s.heap.get? c=some o->h7.get? c=some o:=λc o n e=>by
  simp only[Xn,Q3,or_false,not_or]at n
  exact b7.extBut _ _ n.2.1 (b6.extBut _ _ n.2.2.2 (b5.extBut _ _ n.2.1 (b4.extBut _ _ n.2.2.1 (b3.extBut _ _ n.1 e))))
 show XC _ _ (JR (.ref z) (.ref h7.objs.size)>>=_) _ _ _
 refine Xd ?_
 unfold JR
 have zp:Bw (h7.push { cls:=.type "tuple",data:=.seq #[x,y] }) z TI TO .ellipsis:=Xh _ z7
 refine Xd (QQ zp (by simp) λh8 z8 b8=>?_)
 replace z8:Bw h8 z TI TO (Vm h7.objs.size):=z8
 refine QQ z8 (by simp) λh9 z9 b9=>?_
 replace z9:Bw h9 z TI TO (Vm h7.objs.size):=z9
 have up:∀c o,c≠z->h7.get? c=some o->h9.get? c=some o:=λc o n e=>b9.extBut _ _ n (b8.extBut _ _ n (Xh _ e))
 have nz:h7.objs.size≠z:=XN (XD z7)
 have p9:QK h9 h7.objs.size x y:=b9.extBut _ _ nz (b8.extBut _ _ nz (Xy _ rfl))
 refine XH ⟨_,rfl,?_⟩
 show Q (.ref h7.objs.size) _
 rw[sz]at z9 p9⊢
 exact hQ h9 z9 (up _ _ D.TOz o7) (G1.keep' _ _ (λc hc o e=>up c o (λq=>r1.1 (q▸hc)) e) t1) (G2.keep' _ _ (λc hc o e=>up c o (λq=>r2.1 (q▸hc)) e) t2) p9 λc o n e=>up c o (λq=>n (by simp[q])) (old c o n e)
theorem Zsm{z TI TO i1 i2:Addr}{f1 f2:List Addr}{S1 T1 S2:Heap->Prop}{a b:Xc}{Q:Fin->Xf->Prop}(hh:A.handled=none)(D:ZA z TI TO i1 i2 f1 f2)(g1:Zgg P w i1 f1 S1∨(∃x,Gives P w i1 f1 S1 x T1)∧Zgg P w i2 f2 S2)
  (hz:Bw s.heap z TI TO .none) (hTI:QK s.heap TI (.ref i1) (.ref i2)) (hTO:QK s.heap TO a b) (h1:S1 s.heap) (h2:S2 s.heap)
  (hE:∀h' e,(∀c o,c∉[z,TO,i1,i2]->s.heap.get? c=some o->h'.get? c=some o)->(∃o,h'.get? e=some o∧o.cls= .type "StopIteration")->E (.ref e) { s with heap:=h' }) :
  XC (X8 P w) A (VF.«zip.__next__» ⟨[.ref z],[]⟩) Q E s:=by
 have r1:z∉f1∧TO∉f1∧i2∉f1:=⟨λm=>(D.a1 z m).1 rfl,λm=>(D.a1 TO m).2.1 rfl,λm=>(D.a1 i2 m).2.2 rfl⟩
 have r2:z∉f2∧TO∉f2∧i1∉f2:=⟨λm=>(D.a2 z m).1 rfl,λm=>(D.a2 TO m).2.1 rfl,λm=>(D.a2 i1 m).2.2 rfl⟩
 have st:∀{b:Addr} {h h':Heap} {f:List Addr},Bm b h h'->b∉f->∀c∈f,∀o,h.get? c=some o->h'.get? c=some o:=λsb hb c hc o e=>sb.extBut _ _ (λq=>hb (q▸hc)) e
 show XC _ _ (field (.ref z) 2>>=_) _ _ _
 refine Xd (QB hz rfl (x:=.bool false) rfl ?_)
 show XC _ _ (field (.ref z) 3>>=_) _ _ _
 refine Xd (QB hz rfl (x:=.ref TI) rfl (Xd (Q4 hTI rfl ?_)))
 show XC _ _ (Qq (.ref z)>>=_) _ _ _
 refine Xd ?_
 unfold Qq
 refine Xd (QB hz rfl (x:=.none) rfl (XH ?_))
 simp only[if_true]
 refine Xd (wpAny_rule (Xd (QB hz rfl (x:=.ref TO) rfl (Xd (QQ hz (by simp) λh3 z3 b3=>?_)))))
 replace z3:Bw h3 z TI TO .ellipsis:=z3
 refine Xd ?_
 simp only[U3,List.zipIdx_nil,BZ,Ve]
 refine Xd (Xd (Vc ?_))
 show XC _ _ (Qa (.ref i1)>>=_) _ _ _
 rcases g1 with G1|⟨⟨x,G1⟩,G2⟩
 ·obtain⟨i1z,i1O,i12⟩:=D.a1 i1 G1.mem
  refine Xd (G1.run (s:={ s with heap:=h3 }) hh (G1.keep _ _ (st b3 r1.1) h1) λh4 e b4 he=>?_)
  obtain⟨oe,hoe,hce⟩:=he
  have z4:Bw h4 z TI TO .ellipsis:=b4 _ _ i1z.symm z3
  have ez:e≠z:=λq=>by subst q;rw[z4]at hoe;cases hoe;simp at hce
  refine QQ z4 (by simp) λh5 _ b5=>hE h5 e (λc o n q=>?_) ⟨oe,b5.extBut _ _ ez hoe,hce⟩
  simp only[Xn,Q3,or_false,not_or]at n
  exact b5.extBut _ _ n.1 (b4 _ _ n.2.2.1 (b3.extBut _ _ n.1 q))
 ·obtain⟨i1z,i1O,i12⟩:=D.a1 i1 G1.mem
  obtain⟨i2z,i2O,i21⟩:=D.a2 i2 G2.mem
  refine Xd (G1.run (s:={ s with heap:=h3 }) (G1.keep _ _ (st b3 r1.1) h1) λh4 k4 b4=>XH ?_)
  have o4:QK h4 TO a b:=b4.extBut _ _ i1O.symm (b3.extBut _ _ D.TOz hTO)
  refine Xd (Q4 o4 rfl (Xd (Zb1 (s:={ s with heap:=h4 }) o4 λh5 o5 b5=>Xd (U7 (XH ?_)))))
  refine Xd (Xd (Vc ?_))
  show XC _ _ (Qa (.ref i2)>>=_) _ _ _
  refine Xd (G2.run (s:={ s with heap:=h5 }) hh (G2.keep _ _ (st b5 r2.2.1) (G2.keep _ _ (st b4 r2.2.2) (G2.keep _ _ (st b3 r2.1) h2))) λh6 e b6 he=>?_)
  obtain⟨oe,hoe,hce⟩:=he
  have z6:Bw h6 z TI TO .ellipsis:=b6 _ _ i2z.symm (b5.extBut _ _ D.TOz.symm (b4.extBut _ _ i1z.symm z3))
  have ez:e≠z:=λq=>by subst q;rw[z6]at hoe;cases hoe;simp at hce
  refine QQ z6 (by simp) λh7 _ b7=>hE h7 e (λc o n q=>?_) ⟨oe,b7.extBut _ _ ez hoe,hce⟩
  simp only[Xn,Q3,or_false,not_or]at n
  exact b7.extBut _ _ n.1 (b6 _ _ n.2.2.2 (b5.extBut _ _ n.2.1 (b4.extBut _ _ n.2.2.1 (b3.extBut _ _ n.1 q))))
theorem Zl1{z TI TO i1 i2:Addr}{f1 f2:List Addr}{S1 T1 S2 T2:Heap->Prop}{x y a b:Xc}{Q:Option Xc->Xf->Prop}(D:ZA z TI TO i1 i2 f1 f2)(G1:Gives P w i1 f1 S1 x T1)(G2:Gives P w i2 f2 S2 y T2)
  (hz:Bw s.heap z TI TO .none) (hTI:QK s.heap TI (.ref i1) (.ref i2)) (hTO:QK s.heap TO a b) (h1:S1 s.heap) (h2:S2 s.heap)
  (hQ:∀h',Bw h' z TI TO (Vm s.heap.objs.size)->QK h' TO x y->T1 h'->T2 h'->QK h' s.heap.objs.size x y ->
   (∀ c o,c∉[z,TO,i1,i2]->s.heap.get? c=some o->h'.get? c=some o)->Q (some (.ref s.heap.objs.size)) { s with heap:=h' }):XC (X8 P w) A (Uh (.ref z)) Q E s:=by
 have hT:s.TypeIs (.ref z) "zip" :=⟨_,hz,rfl⟩
 unfold Uh
 exact Xd (wpAny_attempt (Bj (name:=Ua "__next__") hT Bx (Vs Bx hT F.entry_zip_next (Zol D G1 G2 hz hTI hTO h1 h2 λh' a1 a2 a3 a4 a5 a6=>XH (hQ h' a1 a2 a3 a4 a5 a6)) (U5 _))))
theorem Zp6{z TI TO i1 i2:Addr}{f1 f2:List Addr}{S1 T1 S2:Heap->Prop}{a b:Xc}{Q:Option Xc->Xf->Prop}(hh:A.handled=none)(D:ZA z TI TO i1 i2 f1 f2)(g1:Zgg P w i1 f1 S1∨(∃x,Gives P w i1 f1 S1 x T1)∧Zgg P w i2 f2 S2)
  (hz:Bw s.heap z TI TO .none) (hTI:QK s.heap TI (.ref i1) (.ref i2)) (hTO:QK s.heap TO a b) (h1:S1 s.heap) (h2:S2 s.heap)
  (hQ:∀h',(∀c o,c∉[z,TO,i1,i2]->s.heap.get? c=some o->h'.get? c=some o)->Q none { s with heap:=h' }):XC (X8 P w) A (Uh (.ref z)) Q E s:=by
 have hT:s.TypeIs (.ref z) "zip" :=⟨_,hz,rfl⟩
 unfold Uh
 refine Xd (wpAny_attempt (Bj (name:=Ua "__next__") hT Bx (Vs Bx hT F.entry_zip_next (Zsm hh D g1 hz hTI hTO h1 h2 λh' e hk he=>?_) (U5 _))))
 obtain⟨o,ho,hc⟩:=he
 exact Xd (wpAny_isInstance (T :="StopIteration") (b:=true) ⟨o,ho,hc⟩ isSubtype_stop (XH (hQ _ hk)))
theorem Zp8{it t:Addr}{i:Nat}{items:Array Xc}{x:Xc}(hx:items[i]? =some x):Gives P w it [it,t] (λh=>IsTupIter h it t i∧IsTup h t items) x (λh=>IsTupIter h it t (i+1)) where
 mem:=by simp
 run:=fun{A E s Q} ⟨hit,ht⟩ hQ=>by
  obtain⟨o,ho,hc,hd⟩:=id hit
  obtain⟨ol,hol,_,nl,hdl⟩:=ht
  unfold Qa
  refine Xd (Bj (name:=Ua "__next__") hit.typeIs Uq (Vs Uq hit.typeIs entry_tupleiter_next ?_ (args_tupleiter_next _)))
  show XC _ _ (field (.ref it) 0>>=_) _ _ s
  refine Xd (QB ho hd (x:=.ref t) rfl ?_)
  show XC _ _ (if(Qu t==Be)=true then _ else _) _ _ s
  rw[if_neg (show¬((Qu t==Be)=true)from Xq)]
  show XC _ _ (field (.ref it) 1>>=_) _ _ s
  refine Xd (QB ho hd (x:=.int i 0) rfl ?_)
  show XC _ _ (seqItems? (.ref t)>>=_) _ _ s
  refine Xd (Q4 hol hdl ?_)
  simp only[VH,hx]
  refine Xd (wpAny_setField ho hd (by simp) (XH ⟨x,rfl,XH (hQ _ ?_ (Heap.SameBut.update ..))⟩))
  exact⟨_,Heap.get?_update_self _ ho (Obj.isFreed_of_fields (Obj.data_mapFields hd _)),(Obj.cls_mapFields ..).trans hc,by rw[Obj.data_mapFields hd];simp[Vm]⟩
 keep:=λh h' k ⟨⟨o,a1,a2⟩,⟨o',b1,b2⟩⟩=>⟨⟨o,k it (by simp) o a1,a2⟩,⟨o',k t (by simp) o' b1,b2⟩⟩
 keep':=λh h' k ⟨o,a1,a2⟩=>⟨o,k it (by simp) o a1,a2⟩
theorem Zra{it t:Addr}{i:Nat}{items:Array Xc}(hx:items[i]? =none):Zgg P w it [it,t] (λh=>IsTupIter h it t i∧IsTup h t items) where
 mem:=by simp
 run:=fun{A E s Q} hh ⟨hit,ht⟩ hE=>by
  obtain⟨o,ho,hc,hd⟩:=id hit
  obtain⟨ol,hol,_,nl,hdl⟩:=ht
  unfold Qa
  refine Xd (Bj (name:=Ua "__next__") hit.typeIs Uq (Vs Uq hit.typeIs entry_tupleiter_next ?_ (args_tupleiter_next _)))
  show XC _ _ (field (.ref it) 0>>=_) _ _ s
  refine Xd (QB ho hd (x:=.ref t) rfl ?_)
  show XC _ _ (if(Qu t==Be)=true then _ else _) _ _ s
  rw[if_neg (show¬((Qu t==Be)=true)from Xq)]
  show XC _ _ (field (.ref it) 1>>=_) _ _ s
  refine Xd (QB ho hd (x:=.int i 0) rfl ?_)
  show XC _ _ (seqItems? (.ref t)>>=_) _ _ s
  refine Xd (Q4 hol hdl ?_)
  simp only[VH,hx]
  refine Xd (wpAny_rule (Xd (wpAny_setField ho hd (by simp) ?_)))
  show XC _ _ (newExc (.type "StopIteration") []>>=_) _ _ _
  refine Xd ?_
  simp only[newExc,newTuple]
  refine Xd (U6 ?_ (by size_fits))
  refine Xd (m:=firstArgMember _ _) (wpAny_of_eq (a:=Be) (by first|rfl|(simp only[firstArgMember];rfl)) ?_)
  refine U6 ?_ (by size_fits)
  simp only[raiseNew]
  refine Xd (wpAny_handled ?_)
  first|rw[show A.in1.handled=none from hh]|rw[hh]
  exact Xd (XH (wpAny_throw (hE _ _ (((Heap.SameBut.update ..).extBut.push _).push _) ⟨_,Xy _ rfl,rfl⟩)))
 keep:=λh h' k ⟨⟨o,a1,a2⟩,⟨o',b1,b2⟩⟩=>⟨⟨o,k it (by simp) o a1,a2⟩,⟨o',k t (by simp) o' b1,b2⟩⟩
end
noncomputable abbrev zT1(h:Heap)(a:Addr):Heap:=h.push { cls:=.type "tuple_iterator",data:=.fields #[.ref a,.int 0 0] }
noncomputable abbrev zT2(h:Heap)(a b:Addr):Heap:=(zT1 h a).push { cls:=.type "tuple_iterator",data:=.fields #[.ref b,.int 0 0] }
noncomputable abbrev zT3(h:Heap)(a b:Addr):Heap:=(zT2 h a b).push { cls:=.type "tuple",data:=.seq #[.ref h.objs.size,.ref (zT1 h a).objs.size] }
noncomputable abbrev zT4(h:Heap)(a b:Addr):Heap:=(zT3 h a b).push { cls:=.type "tuple",data:=.seq #[.none,.none] }
noncomputable abbrev zT5(h:Heap)(a b:Addr):Heap:=(zT4 h a b).push { cls:=.type "zip",data:=.fields #[.none,.bool false,.bool false,.ref (zT2 h a b).objs.size,.ref (zT3 h a b).objs.size] }
theorem Zqw(a b:Addr)(xs ys:Array Xc) :
  Meets (VF.«zip.__new__» ⟨[.type "zip",.ref a,.ref b],[]⟩) (λ_ R s=>IsTup s.heap a xs∧IsTup s.heap b ys∧R (.ok (.ret (.ref (zT4 s.heap a b).objs.size))) { s with heap:=zT5 s.heap a b }) :=
 .of_wp λprog w A R s h=>by
  obtain⟨hp,g,d,tk,os⟩:=s
  obtain⟨h1,h2,h⟩:=h
  have hsub:=sub_zip
  have hL1:IsTup (Xf.heap ⟨hp,g,d,tk,os⟩) a xs:=h1
  have hL2:IsTup (Xf.heap ⟨hp.push { cls:=.type "tuple_iterator",data:=.fields #[.ref a,.int 0 0] },g,d,tk,os⟩) b ys:=h2.push _
  wp_walk using iter_tuple hL1,iter_tuple hL2
  exact⟨_,rfl,h⟩
section
variable {P:X4}{w:Qv}{A:Qt}{E:Xc->Xf->Prop}{s:Xf}
theorem Zp0{a b:Addr}{xs ys:Array Xc}{Q:Xc->Xf->Prop}(h1:IsTup s.heap a xs)(h2:IsTup s.heap b ys)
  (h:∀h' n,n=s.heap.objs.size->Bw h' (n+4) (n+2) (n+3) .none->QK h' (n+2) (.ref n) (.ref (n+1))->QK h' (n+3) .none .none->IsTupIter h' n a 0->IsTupIter h' (n+1) b 0 ->
   (∀ c o,s.heap.get? c=some o->h'.get? c=some o)->Q (.ref (n+4)) { s with heap:=h' }):XC (X8 P w) A (call (.type "zip") [.ref a,.ref b]) Q E s:=by
 refine callType_new F.called_zip (by decide) (F.typeCall_zip_2 _ _) (F.newCall_zip_2 _ _) (λobj=>F.args_object_init_3 obj _ _) F.entry_zip_new (Zqw a b xs ys) ⟨h1,h2,?_⟩
 have e1:(zT1 s.heap a).objs.size=s.heap.objs.size+1:=Qy ..
 have e2:(zT2 s.heap a b).objs.size=s.heap.objs.size+2:=by rw[Qy,e1]
 have e3:(zT3 s.heap a b).objs.size=s.heap.objs.size+3:=by rw[Qy,e2]
 have e4:(zT4 s.heap a b).objs.size=s.heap.objs.size+4:=by rw[Qy,e3]
 have up:∀{c o},(zT1 s.heap a).get? c=some o->(zT5 s.heap a b).get? c=some o:=λx=>Xh _ (Xh _ (Xh _ (Xh _ x)))
 have p5:(zT5 s.heap a b).get? (zT4 s.heap a b).objs.size=some _:=Xy _ rfl
 have p4:(zT5 s.heap a b).get? (zT3 s.heap a b).objs.size=some _:=Xh _ (Xy _ rfl)
 have p3:(zT5 s.heap a b).get? (zT2 s.heap a b).objs.size=some _:=Xh _ (Xh _ (Xy _ rfl))
 have p2:(zT5 s.heap a b).get? (zT1 s.heap a).objs.size=some _:=Xh _ (Xh _ (Xh _ (Xy _ rfl)))
 have p1:(zT5 s.heap a b).get? s.heap.objs.size=some _:=up (Xy _ rfl)
 show _∧_
 rw[e2,e3,e4]at p5
 rw[e1,e2]at p3
 rw[e3]at p4
 rw[e1]at p2
 rw[e4]
 exact⟨⟨_,p5,rfl⟩,h _ _ rfl p5 p3 p4 ⟨_,p1,rfl,rfl⟩ ⟨_,p2,rfl,rfl⟩ λc o x=>up (Xh _ x)⟩
end
theorem nn{n a b:Nat}(h:a≠b):n+a≠n+b:=λe=>h (Nat.add_left_cancel e)
theorem n0{n b:Nat}(h:0≠b):n≠n+b:=λe=>h (Nat.add_left_cancel (n:=n) e)
theorem nlt{n a c:Nat}(h:a<n):a≠n+c:=Xp (X5 h (Vj ..))
theorem ZA.new{n a b:Nat}(h1:a<n)(h2:b<n):ZA (n+4) (n+2) (n+3) n (n+1) [n,a] [n+1,b] where
 TIz:=(by first|exact nn (by decide)|exact n0 (by decide)|exact(n0 (by decide)).symm|exact nlt h1|exact nlt h2|exact(nlt h1).symm|exact(nlt h2).symm|exact Xp h1|exact Xp h2|exact XN h1|exact XN h2|omega)
 TOz:=(by first|exact nn (by decide)|exact n0 (by decide)|exact(n0 (by decide)).symm|exact nlt h1|exact nlt h2|exact(nlt h1).symm|exact(nlt h2).symm|exact Xp h1|exact Xp h2|exact XN h1|exact XN h2|omega)
 a1:=λc hc=>by
  simp only[Xn,Q3,or_false]at hc
  rcases hc with rfl|rfl
  ·exact⟨(by first|exact nn (by decide)|exact n0 (by decide)|exact(n0 (by decide)).symm|exact nlt h1|exact nlt h2|exact(nlt h1).symm|exact(nlt h2).symm|exact Xp h1|exact Xp h2|exact XN h1|exact XN h2|omega),(by first|exact nn (by decide)|exact n0 (by decide)|exact(n0 (by decide)).symm|exact nlt h1|exact nlt h2|exact(nlt h1).symm|exact(nlt h2).symm|exact Xp h1|exact Xp h2|exact XN h1|exact XN h2|omega),(by first|exact nn (by decide)|exact n0 (by decide)|exact(n0 (by decide)).symm|exact nlt h1|exact nlt h2|exact(nlt h1).symm|exact(nlt h2).symm|exact Xp h1|exact Xp h2|exact XN h1|exact XN h2|omega)⟩
  ·exact⟨(by first|exact nn (by decide)|exact n0 (by decide)|exact(n0 (by decide)).symm|exact nlt h1|exact nlt h2|exact(nlt h1).symm|exact(nlt h2).symm|exact Xp h1|exact Xp h2|exact XN h1|exact XN h2|omega),(by first|exact nn (by decide)|exact n0 (by decide)|exact(n0 (by decide)).symm|exact nlt h1|exact nlt h2|exact(nlt h1).symm|exact(nlt h2).symm|exact Xp h1|exact Xp h2|exact XN h1|exact XN h2|omega),(by first|exact nn (by decide)|exact n0 (by decide)|exact(n0 (by decide)).symm|exact nlt h1|exact nlt h2|exact(nlt h1).symm|exact(nlt h2).symm|exact Xp h1|exact Xp h2|exact XN h1|exact XN h2|omega)⟩
 a2:=λc hc=>by
  simp only[Xn,Q3,or_false]at hc
  rcases hc with rfl|rfl
  ·exact⟨(by first|exact nn (by decide)|exact n0 (by decide)|exact(n0 (by decide)).symm|exact nlt h1|exact nlt h2|exact(nlt h1).symm|exact(nlt h2).symm|exact Xp h1|exact Xp h2|exact XN h1|exact XN h2|omega),(by first|exact nn (by decide)|exact n0 (by decide)|exact(n0 (by decide)).symm|exact nlt h1|exact nlt h2|exact(nlt h1).symm|exact(nlt h2).symm|exact Xp h1|exact Xp h2|exact XN h1|exact XN h2|omega),(by first|exact nn (by decide)|exact n0 (by decide)|exact(n0 (by decide)).symm|exact nlt h1|exact nlt h2|exact(nlt h1).symm|exact(nlt h2).symm|exact Xp h1|exact Xp h2|exact XN h1|exact XN h2|omega)⟩
  ·exact⟨(by first|exact nn (by decide)|exact n0 (by decide)|exact(n0 (by decide)).symm|exact nlt h1|exact nlt h2|exact(nlt h1).symm|exact(nlt h2).symm|exact Xp h1|exact Xp h2|exact XN h1|exact XN h2|omega),(by first|exact nn (by decide)|exact n0 (by decide)|exact(n0 (by decide)).symm|exact nlt h1|exact nlt h2|exact(nlt h1).symm|exact(nlt h2).symm|exact Xp h1|exact Xp h2|exact XN h1|exact XN h2|omega),(by first|exact nn (by decide)|exact n0 (by decide)|exact(n0 (by decide)).symm|exact nlt h1|exact nlt h2|exact(nlt h1).symm|exact(nlt h2).symm|exact Xp h1|exact Xp h2|exact XN h1|exact XN h2|omega)⟩
theorem ZA.new2(n:Nat):(n+2:Nat)≠n+3∧(n+2:Nat)≠n∧(n+2:Nat)≠n+1:=⟨nn (by decide),(n0 (by decide)).symm,nn (by decide)⟩
section
variable {X:Cx}{io:List Nat}{p c:Bool}{a b:Expr}{mr:MAt}
noncomputable def Zyo(ds:List Xa):Option (List Xa):=match ds with|[.list as,.list bs]=>some (Zjc as bs)|[.tuple as,.tuple bs]=>some (Zjc as bs)|_=>none
noncomputable def Zna(a:FA):FI:=λδ=>(a δ).bind λp=>(Zyo (OT.datas p.1)).bind λds=>some (ds,p.2)
end
section
variable {X:Cx}{io:List Nat}{c1 c2 c3 c4 p:Bool}{a b e d:Expr}{ma mb mc md:MEt}{pos:Pos}{f g h:Int->Int->Bool}{ta tb tc td:TE}{fa fb fc fd:FE}{G:Xb}
noncomputable def Znl(r r' r'':R2)(ta tb tc td:TE):TE:=λσ H Q=>ta σ H λx H1=>tb σ H1 λy H2=>r x y H2 λz H3=>∃k,z= .bl k∧
 (if k=true then tc σ H3 λw H4=>r' y w H4 λz' H5=>∃k',z'= .bl k'∧(if k'=true then td σ H5 λu H6=>r'' w u H6 Q else Q (.bl false) H5)else Q (.bl false) H3)
theorem Zoa{op op' op'':CmpOp}{r r' r'':R2}(ho:OpR X (QL op) r)(ho':OpR X (QL op') r')(ho'':OpR X (QL op'') r'')(ha:PE X a ta)(hb:PE X b tb)(hc:PE X e tc)(hd:PE X d td)
  (hm:lastMarks [op,op',op''] [b,e,d]=false:=by with_unfolding_all rfl):PT X (.Compare a [op,op',op''] [b,e,d] pos) (Zu7 (Znl r r' r'' ta tb tc td)):=by
 intro pins s σ H Q I h
 refine isTrue_chain (thn (ha pins s σ H _ I h) λv s1 ⟨x,H1,I1,r1,q1⟩=>test_link (thn (hb pins s1 σ H1 _ I1 q1) λu s2 ⟨y,H2,I2,r2,q2⟩=>
  thn (ho pins s2 σ H2 x y v u _ I2 r1 r2 q2) λd s3 ⟨z,H3,I3,r3,k,e,q3⟩=>?_)) hm
 subst e
 cases r3
 refine BJ ?_
 cases k with
 | false=>
  obtain⟨k',e',q'⟩:=q3
  cases e'
  exact ite_ff ⟨H3,I3,q'⟩
 | true=>
  refine ite_tt (test_link (thn (hc pins s3 σ H3 _ I3 q3) λw' s4 qz9=>?_))
  obtain⟨z',H4,I4,r4,q4⟩:=qz9
  refine thn (ho' pins s4 σ H4 y z' u w' _ I4 r2 r4 q4) λd' s5 qz9=>?_
  obtain⟨z2,H5,I5,r5,k2,e2,q5⟩:=qz9
  subst e2
  cases r5
  refine BJ ?_
  cases k2 with
  | false=>
   obtain⟨k',e',q'⟩:=q5
   cases e'
   exact ite_ff ⟨H5,I5,q'⟩
  | true=>
   refine ite_tt (test_last (thn (hd pins s5 σ H5 _ I5 q5) λw2 s6 qz9=>?_))
   obtain⟨z6,H6,I6,r6,q6⟩:=qz9
   refine thn (ho'' pins s6 σ H6 z' z6 w' w2 _ I6 r4 r6 q6) λd3 s7 qz9=>?_
   obtain⟨z7,H7,I7,r7,k7,e7,q7⟩:=qz9
   subst e7
   cases r7
   exact BJ ⟨H7,I7,q7⟩
noncomputable def Zj2(f g h:Int->Int->Bool)(ma mb mc md:MEt):MEt:=λδ K=>ma δ λx δ1=>mb δ1 λy δ2=>asI x.data λi=>asI y.data λj=>if f i j=true then mc δ2 λz δ3=>asI z.data λk=>(if g j k=true then md δ3 λw δ4=>asI w.data λl=>K (.fz (.bool (h k l))) δ4 else K (.fz (.bool false)) δ3)else K (.fz (.bool false)) δ2
theorem Zuc(ha:SE G io true c1 ta ma)(hb:SE G io true c2 tb mb)(hc:SE G io true c3 tc mc)(hd:SE G io true c4 td md):SE G io true true (Znl (rI0 λi j=>.bl (f i j)) (rI0 λi j=>.bl (g i j)) (rI0 λi j=>.bl (h i j)) ta tb tc td) (Zj2 f g h ma mb mc md):=by
 intro C H σ δ fp ex K Q R h k
 refine ha.pureAfter R h λH1 x u R1 s1 q1 h1=>?_
 refine hb.pureAfter R1 h1 λH2 y v R2 s2 q2 h2=>?_
 obtain⟨i,rfl,h2⟩:=q1.intInv h2
 obtain⟨j,rfl,h2⟩:=q2.intInv h2
 refine⟨i,j,rfl,rfl,f i j,rfl,?_⟩
 by_cases hf:f i j=true
 ·rw[if_pos hf]at h2⊢
  refine hc.pureAfter R2 h2 λH3 z w R3 s3 q3 h3=>?_
  obtain⟨l,rfl,h3⟩:=q3.intInv h3
  have s13:Same H H3:=(s1.trans s2).trans s3
  refine⟨j,l,rfl,rfl,g j l,rfl,?_⟩
  by_cases hg:g j l=true
  ·rw[if_pos hg]at h3⊢
   refine hd.pureAfter R3 h3 λH4 z4 w4 R4 s4 q4 h4=>?_
   obtain⟨n,rfl,h4⟩:=q4.intInv h4
   have s14:Same H H4:=s13.trans s4
   exact⟨l,n,rfl,rfl,k H4 _ _ δ fp [] (.fz R4 (.same s14 s14.al) (.bl _)) h4⟩
  ·rw[if_neg hg]at h3⊢
   exact k H3 _ _ δ fp [] (.fz R3 (.same s13 s13.al) (.bl _)) h3
 ·rw[if_neg hf]at h2⊢
  have s12:Same H H2:=s1.trans s2
  exact k H2 _ _ δ fp [] (.fz R2 (.same s12 s12.al) (.bl _)) h2
theorem Zc9{op op' op'':CmpOp}(ho:OpR X (QL op) (rI0 λi j=>.bl (f i j)))(ho':OpR X (QL op') (rI0 λi j=>.bl (g i j)))(ho'':OpR X (QL op'') (rI0 λi j=>.bl (h i j)))(ha:ME X io true c1 a ma)(hb:ME X io true c2 b mb)(hc:ME X io true c3 e mc)(hd:ME X io true c4 d md)
  (hm:lastMarks [op,op',op''] [b,e,d]=false:=by with_unfolding_all rfl):MT X io true (.Compare a [op,op',op''] [b,e,d] pos) (λδ K=>Zj2 f g h ma mb mc md δ (kB K)):=by
 obtain⟨_,A,sa⟩:=ha
 obtain⟨_,B,sb⟩:=hb
 obtain⟨_,D,sc⟩:=hc
 obtain⟨_,F,sd⟩:=hd
 exact⟨_,Zoa ho ho' ho'' A B D F hm,Z14 (Zuc sa sb sc sd)⟩
noncomputable def intOf(d:Xa):Option Int:=match d with| .int i=>some i|_=>none
theorem Zda{d:Xa}{i:Int}(h:intOf d=some i):d= .int i:=by
 unfold intOf at h
 split at h
 ·cases h;rfl
 ·cases h
noncomputable def Zey(f g h:Int->Int->Bool)(a b c d:FE):FE:=λδ=>(a δ).bind λx=>(b x.2).bind λy=>(intOf x.1.data).bind λi=>(intOf y.1.data).bind λj=>
 if f i j=true then(c y.2).bind λz=>(intOf z.1.data).bind λk=>if g j k=true then(d z.2).bind λw=>(intOf w.1.data).bind λl=>some (.fz (.bool (h k l)),w.2)else some (.fz (.bool false),z.2)else some (.fz (.bool false),y.2)
theorem Zc8{ee:Expr}(hh:MT X io p ee (λδ K=>Zj2 f g h (o2 fa) (o2 fb) (o2 fc) (o2 fd) δ (kB K))):MT X io p ee (o2 (tV (Zey f g h fa fb fc fd))):=hh.weak λδ K z=>by
 obtain⟨r,δ',h,k⟩:=Z84 z
 obtain⟨⟨x,δ1⟩,h1,h⟩:=bs h
 obtain⟨⟨y,δ2⟩,h2,h⟩:=bs h
 obtain⟨i,hi,h⟩:=bs h
 obtain⟨j,hj,h⟩:=bs h
 refine⟨x,δ1,h1,y,δ2,h2,?_⟩
 dsimp only at h hi hj⊢
 rw[Zda hi,Zda hj]
 show(if f i j=true then _ else _)
 by_cases hf:f i j=true
 ·rw[if_pos hf]at h⊢
  obtain⟨⟨z,δ3⟩,h3,h⟩:=bs h
  obtain⟨l,hl,h⟩:=bs h
  refine⟨z,δ3,h3,?_⟩
  dsimp only at h hl⊢
  rw[Zda hl]
  show(if g j l=true then _ else _)
  by_cases hg:g j l=true
  ·rw[if_pos hg]at h⊢
   obtain⟨⟨w,δ4⟩,h4,h⟩:=bs h
   obtain⟨n,hn,h⟩:=bs h
   cases h
   refine⟨w,δ4,h4,?_⟩
   dsimp only at hn⊢
   rw[Zda hn]
   exact k
  ·rw[if_neg hg]at h⊢
   cases h
   exact k
 ·rw[if_neg hf]at h⊢
  cases h
  exact k
end
variable {G:Xb}
section
variable {X:Cx}{io:List Nat}{p c:Bool}{a b e:Expr}{mr:MAt}{ra:FA}{i:Nat}
noncomputable def isFn(y:Str)(d:Xa):Bool:=match d with| .dict [(.str x,.bool true)]=>decide (x=y)|_=>false
end
section
variable {X:Cx}{io:List Nat}{p c:Bool}{a:Expr}{mr:MAt}{ra:FA}
end
variable {G:Xb}
theorem Ztr{α:Type}{p:α->Prop}{a b c d:α}(h1:p a)(h2:p b)(h3:p c)(h4:p d):∀x∈[a,b,c,d],p x:=by
 intro x hx
 rcases Xn.mp hx with rfl|hx
 ·exact h1
 rcases Xn.mp hx with rfl|hx
 ·exact h2
 rcases Xn.mp hx with rfl|hx
 ·exact h3
 rcases Xl.mp hx with rfl
 exact h4
theorem Zx3{α:Type}{p:α->Prop}{a b c d e:α}(h1:p a)(h2:p b)(h3:p c)(h4:p d)(h5:p e):∀x∈[a,b,c,d,e],p x:=λx hx=>(Xn.mp hx).elim (λq=>q▸h1) (Ztr h2 h3 h4 h5 x)
theorem no4{α:Type}{a b c d x:α}(h1:x≠a)(h2:x≠b)(h3:x≠c)(h4:x≠d):x∉[a,b,c,d]:=λhx=>Ztr (p:=λy=>x≠y) h1 h2 h3 h4 x hx rfl
noncomputable def SqB(K:Xb)(t:Bool)(H:Hp)(a:Addr)(xs:List V):Prop:=match t with|true=>H a=some (.tup xs)|false=>SqL K H a xs
noncomputable def IsB(t:Bool)(h:Heap)(a:Addr)(its:Array Xc):Prop:=match t with|true=>IsTup h a its|false=>h.IsList a its
noncomputable def ItB(t:Bool)(h:Heap)(it a:Addr)(i:Nat):Prop:=match t with|true=>IsTupIter h it a i|false=>h.IsListIter it a i
theorem ItB.at{t:Bool}{h h':Heap}{it a:Addr}{i:Nat}(x:ItB t h it a i)(k:∀o,h.get? it=some o->h'.get? it=some o):ItB t h' it a i:=by
 cases t with
 | false=>exact Heap.IsListIter.at x k
 | true=>
  obtain⟨o,ho,r⟩:=x
  exact⟨o,k o ho,r⟩
theorem ItB.obj{t:Bool}{h:Heap}{it a:Addr}{i:Nat}(x:ItB t h it a i):∃o,h.get? it=some o∧∀v,o.data≠ .cell v:=by
 cases t with
 | false=>
  obtain⟨o,ho,_,d⟩:=x
  exact⟨o,ho,λv q=>by rw[d]at q;cases q⟩
 | true=>
  obtain⟨o,ho,_,d⟩:=x
  exact⟨o,ho,λv q=>by rw[d]at q;cases q⟩
theorem IsB.lt{t:Bool}{h:Heap}{a:Addr}{its:Array Xc}(x:IsB t h a its):a<h.objs.size:=by
 cases t with
 | false=>
  obtain⟨o,ho,_⟩:=x
  exact XD ho
 | true=>
  obtain⟨o,ho,_⟩:=x
  exact XD ho
theorem SqB.its{X:Cx}{pins:List (Addr×Obj)}{σ:St}{H:Hp}{s:Xf}{t:Bool}{a:Addr}{xs:List V}(I:Inv X pins σ H s)(h:SqB X.K t H a xs):∃its:List Xc,Vals xs its∧IsB t s.heap a its.toArray:=by
 cases t with
 | false=>
  obtain⟨its,r,p,_⟩:=I.list h
  exact⟨its,r,p.isList⟩
 | true=>
  obtain⟨_,its,r,p⟩:=(show ObjOk X.prog X.w H s.heap a (.tup xs)from I.hok a _ h)
  exact⟨its,r,p⟩
theorem SqB.inj{X:Cx}{pins:List (Addr×Obj)}{σ:St}{H:Hp}{s:Xf}{t:Bool}{a:Addr}{xs ys:List V}(I:Inv X pins σ H s)(h:SqB X.K t H a xs)(k:SqB X.K t H a ys):xs=ys:=by
 cases t with
 | false=>exact I.list_inj h k
 | true=>
  have:=(show H a=some (.tup xs)from h).symm.trans k
  cases this
  rfl
section
variable {P:X4}{w:Qv}
theorem Zoo{t:Bool}{it a:Addr}{i:Nat}{items:Array Xc}{x:Xc}(hx:items[i]? =some x):Gives P w it [it,a] (λh=>ItB t h it a i∧IsB t h a items) x (λh=>ItB t h it a (i+1)):=by
 cases t with
 | true=>exact Zp8 hx
 | false=>
  exact⟨.head _,λst hQ=>wpAny_nextOf_list_item st.1 st.2 hx hQ,λh h' k st=>⟨Heap.IsListIter.at st.1 λo e=>k it (.head _) o e,by
   obtain⟨o,ho,r⟩:=st.2
   exact⟨o,k a (.tail _ (.head _)) o ho,r⟩⟩,λh h' k st=>Heap.IsListIter.at st λo e=>k it (.head _) o e⟩
theorem Z18{t:Bool}{it a:Addr}{i:Nat}{items:Array Xc}(hx:items[i]? =none):Zgg P w it [it,a] (λh=>ItB t h it a i∧IsB t h a items):=by
 cases t with
 | true=>exact Zra hx
 | false=>
  exact⟨.head _,λhh st hE=>wpAny_nextOf_list_end hh st.1 st.2 hx hE,λh h' k st=>⟨Heap.IsListIter.at st.1 λo e=>k it (.head _) o e,by
   obtain⟨o,ho,r⟩:=st.2
   exact⟨o,k a (.tail _ (.head _)) o ho,r⟩⟩⟩
end
noncomputable def Z7l(K:Xb)(t:Bool)(a b:Addr):It :=
 ⟨λi H=>∃xs ys x y,SqB K t H a xs∧SqB K t H b ys∧xs[i]? =some x∧ys[i]? =some y,
   λi H v H'=>∃p x y,H p=none∧v= .ref p∧H'=upd H p (.tup [x,y])∧(∀xs,SqB K t H a xs->xs[i]? =some x)∧∀ys,SqB K t H b ys->ys[i]? =some y,
   λi H=>∃xs ys,SqB K t H a xs∧SqB K t H b ys∧(xs.length≤i∨ys.length≤i)⟩
noncomputable def Z7w(t:Bool)(z TI TO i1 i2 a b:Addr)(i:Nat)(h:Heap):Prop:=Bw h z TI TO .none∧QK h TI (.ref i1) (.ref i2)∧(∃x y,QK h TO x y)∧ItB t h i1 a i∧ItB t h i2 b i
theorem Znh{P:X4}{w:Qv}{K:Xb}{es:List Expr}{kk:Nat}{pos:Pos}{t:Bool}{z TI TO i1 i2 a b:Addr}(D:ZA z TI TO i1 i2 [i1,a] [i2,b])(D2:TI≠TO∧TI≠i1∧TI≠i2):Turn P w K (.Tuple es kk pos) (Z7l K t a b) [z,TI,TO,i1,i2] z (Z7w t z TI TO i1 i2 a b) where
 mem:=.head _
 obj:=λi h st=>by
  obtain⟨s1,s2,⟨x,y,s3⟩,s4,s5⟩:=st
  exact Zx3 ⟨_,s1,λv q=>by cases q⟩ ⟨_,s2,λv q=>by cases q⟩ ⟨_,s3,λv q=>by cases q⟩ s4.obj s5.obj
 keep:=λi h h' st k=>by
  obtain⟨s1,s2,⟨x,y,s3⟩,s4,s5⟩:=st
  have m2:TI∈[z,TI,TO,i1,i2]:=.tail _ (.head _)
  have m3:TO∈[z,TI,TO,i1,i2]:=.tail _ (.tail _ (.head _))
  have m4:i1∈[z,TI,TO,i1,i2]:=.tail _ (.tail _ (.tail _ (.head _)))
  have m5:i2∈[z,TI,TO,i1,i2]:=.tail _ (.tail _ (.tail _ (.tail _ (.head _))))
  exact⟨k z (.head _) _ s1,k TI m2 _ s2,⟨x,y,k TO m3 _ s3⟩,s4.at (k i1 m4),s5.at (k i2 m5)⟩
 item:=by
  intro X hP hw hK hc i pins s σ H E I hf st hg
  subst hP hw hK
  obtain⟨s1,s2,⟨x0,y0,s3⟩,s4,s5⟩:=st
  obtain⟨xs,ys,x,y,hx,hy,ex,ey⟩:=hg
  obtain⟨its,rx,px⟩:=hx.its I
  obtain⟨its',ry,py⟩:=hy.its I
  obtain⟨u,hu,ru⟩:=rx.get ex
  obtain⟨u',hu',ru'⟩:=ry.get ey
  rw[←List.getElem?_toArray]at hu hu'
  refine Zl1 D (Zoo hu) (Zoo hu') s1 s2 s3 ⟨s4,px⟩ ⟨s5,py⟩ λh' g1 g2 g3 g4 g5 g6=>?_
  refine⟨_,rfl,wpAny_letOwnedTupleGo_zip (s:={ s with heap:=h' }) g1 λh2 z2 sb=>?_⟩
  have up:∀c o,c≠z->h'.get? c=some o->h2.get? c=some o:=λc o n e=>(sb.2 c n).trans e
  have kp:∀c o,c∉[z,TO,i1,i2]->s.heap.get? c=some o->h2.get? c=some o:=λc o n e=>up c o (λq=>n (q▸ .head _)) (g6 c o n e)
  have t5:QK h2 s.heap.objs.size u u':=up _ _ (XN (XD s1)) g5
  have i1z:=(D.a1 i1 (.head _)).1
  have i2z:=(D.a2 i2 (.head _)).1
  have n3:=g3.at (up i1 · i1z)
  have n4:=g4.at (up i2 · i2z)
  obtain⟨f1,f2,f3,f4,f5⟩:(Zdi X pins H z∧Zdi X pins H TI∧Zdi X pins H TO∧Zdi X pins H i1∧Zdi X pins H i2):=⟨hf _ (.head _),hf _ (.tail _ (.head _)),hf _ (.tail _ (.tail _ (.head _))),hf _ (.tail _ (.tail _ (.tail _ (.head _)))),hf _ (.tail _ (.tail _ (.tail _ (.tail _ (.head _)))))⟩
  have I2:Inv X pins σ (upd H s.heap.objs.size (.tup [x,y])) { s with heap:=h2 } :=
   I.turnTup (ch:=[z,TO,i1,i2]) (its:=[u,u']) (Ztr f1 f3 f4 f5) kp (Ztr ⟨_,z2⟩ ⟨_,up _ _ D.TOz g2⟩ (n3.obj.imp λ_ q=>q.1) (n4.obj.imp λ_ q=>q.1)) (XQ _) Ztu (.cons ru (.cons ru' .nil)) ⟨_,t5,rfl,0,rfl⟩
  have lt:∀{c:Addr} {o:Obj},s.heap.get? c=some o->Zdi X pins H c->upd H s.heap.objs.size (.tup [x,y]) c=none:=λe f=>by rw[Zm (Xp (XD e))];exact f.1
  refine⟨.ref s.heap.objs.size,_,I2,rfl,⟨_,x,y,I.fresh,rfl,rfl,λzs hz=>by rw[hz.inj I hx];exact ex,λzs hz=>by rw[hz.inj I hy];exact ey⟩,⟨z2,kp TI _ (no4 D.TIz D2.1 D2.2.1 D2.2.2) s2,⟨_,_,up _ _ D.TOz g2⟩,n3,n4⟩,?_⟩
  obtain⟨o4,e4,_⟩:=s4.obj
  obtain⟨o5,e5,_⟩:=s5.obj
  exact Zx3 (lt s1 f1) (lt s2 f2) (lt s3 f3) (lt e4 f4) (lt e5 f5)
 done:=by
  intro X hP hw hK hc i pins s σ H E I hf st hg
  subst hP hw hK
  obtain⟨s1,s2,⟨x0,y0,s3⟩,s4,s5⟩:=st
  obtain⟨xs,ys,hx,hy,he⟩:=hg
  obtain⟨its,rx,px⟩:=hx.its I
  obtain⟨its',ry,py⟩:=hy.its I
  have l1:=rx.length
  have l2:=ry.length
  refine Zp6 (I.ok.hd hc) D (S1:=λh=>ItB t h i1 a i∧IsB t h a its.toArray) (T1:=λh=>ItB t h i1 a (i+1)) (S2:=λh=>ItB t h i2 b i∧IsB t h b its'.toArray) ?_ s1 s2 s3 ⟨s4,px⟩ ⟨s5,py⟩ λh' k=>⟨rfl,I.turnAll (ch:=[z,TO,i1,i2]) (Ztr (hf _ (.head _)) (hf _ (.tail _ (.tail _ (.head _)))) (hf _ (.tail _ (.tail _ (.tail _ (.head _))))) (hf _ (.tail _ (.tail _ (.tail _ (.tail _ (.head _))))))) k⟩
  cases q:its.toArray[i]? with
  | none=>exact .inl (Z18 q)
  | some v=>
   refine .inr ⟨⟨v,Zoo q⟩,Z18 ?_⟩
   have:=(JP.mp q).1
   rw[Xr]at this
   rw[Array.getElem?_eq_none_iff,Xr]
   omega
 self:=λ_ _ _ _ _ st h=>wpAny_pyIter_zip st.1 h
theorem Zon{P:X4}{w:Qv}{A:Qt}{E:Xc->Xf->Prop}{s:Xf}{t:Bool}{a b:Addr}{xs ys:Array Xc}{Q:Xc->Xf->Prop}(h1:IsB t s.heap a xs)(h2:IsB t s.heap b ys)
  (h:∀h' n,n=s.heap.objs.size->Bw h' (n+4) (n+2) (n+3) .none->QK h' (n+2) (.ref n) (.ref (n+1))->QK h' (n+3) .none .none->ItB t h' n a 0->ItB t h' (n+1) b 0 ->
   (∀ c o,s.heap.get? c=some o->h'.get? c=some o)->Q (.ref (n+4)) { s with heap:=h' }):XC (X8 P w) A (call (.type "zip") [.ref a,.ref b]) Q E s:=by
 cases t with
 | true=>exact Zp0 h1 h2 h
 | false=>exact call_zip_2 h1 h2 λh' g1 g2 g3 g4 g5 _ g7=>h h' _ rfl g1 g2 g3 g4 g5 g7
noncomputable def Z55(K:Xb)(ta:TA):TI:=λσ H R=>ta σ H λvs H1=>∃t a b,vs=[.ref a,.ref b]∧(∃xs,SqB K t H1 a xs)∧(∃ys,SqB K t H1 b ys)∧R (Z7l K t a b) H1
theorem Zxr{X:Cx}{K:Xb}{a b:Expr}{ta:TA}{p pos pt:Pos}{es:List Expr}{kk:Nat}(hK:X.K=K)(hg:Gl X "zip")(hm:X.mg "zip"=none)(hv:Qp "zip"=some (.type "zip"))(ha:PA X [a,b] ta)
  (he:Xj [a,b] X.env=(false,eval a X.env) :: Xj [b] X.env:=by rfl) (hpl:(Q6 pos (Xj [b] X.env)).any (·.1)=false:=by rfl) :
  PI X (.Tuple es kk pt) (.Call (.Name "zip" p) [a,b] [] pos) (Z55 K ta):=by
 subst hK
 intro pins s σ H R I h
 refine Bb (Zc4 I hg hm hv ?_ (by decide) (by decide))
 refine JD (thn (ha pos pins s σ H _ I h) λus s1 q=>?_) he hpl
 obtain⟨vs,H1,I1,r1,t,l1,l2,e1,⟨xs,hx⟩,⟨ys,hy⟩,q⟩:=q
 subst e1
 obtain⟨u,u',rfl,ru,ru'⟩:=vals2 r1
 cases(show u=Qu l1 from ru)
 cases(show u'=Qu l2 from ru')
 obtain⟨its,rx,px⟩:=hx.its I1
 obtain⟨its',ry,py⟩:=hy.its I1
 refine Zon px py λh' n en g1 g2 g3 g4 g5 g7=>?_
 have I2:Inv X pins σ H1 { s1 with heap:=h' }:=I1.kept (t':=s1.toks) g7
 refine wpAny_pyIter_zip (s:={ s1 with heap:=h' }) g1 ?_
 refine⟨_,[_,_,_,_,_],Z7w _ _ _ _ _ _ _ _,_,H1,rfl,I2,Znh (ZA.new (en▸px.lt) (en▸py.lt)) (ZA.new2 n),⟨g1,g2,⟨_,_,g3⟩,g4,g5⟩,?_,q⟩
 subst en
 have ok:∀k:Nat,Zdi X pins H1 (s1.heap.objs.size+k):=λk=>I1.fpOk (Vj _ _) (I1.hok.fresh (Vj _ _))
 exact Zx3 (ok 4) (ok 2) (ok 3) (ok 0) (ok 1)
section
variable {X:Cx}{io:List Nat}{p c:Bool}{a b:Expr}{mr:MAt}{ra:FA}
noncomputable def Z3h(t:Bool)(as:List Xa):Xa:=match t with|true=>.tuple as|false=>.list as
theorem Rel.keptSq{C:MC G}{H:Hp}{σ:St}{δ:Zf}{fp:Fp}{ex:Addr->Prop}{v:V}{t:Bool}{ds:List Xa}(R:Rel C io H σ δ fp ex)(q:Da G H (λa=>c=true->Lf C fp ex a) v (Z3h t ds)) :
  ∃a xs,v= .ref a∧∀H':Hp,(∀b o,H b=some o->(c=false∨¬Foot fp b)->H' b=some o)->SqB G t H' a xs∧Das G H' (λa=>c=true->(Lf C fp ex a∧H a≠none)) xs ds:=by
 cases t with
 | false=>exact R.keptList q
 | true=>
  generalize hd:Z3h true ds=d at q
  cases q with
  | tup e r=>
   cases hd
   rename_i a0 xs0
   refine⟨a0,xs0,rfl,λH' kp=>?_⟩
   obtain⟨f1,f2⟩:=R.kept kp
   exact⟨f2 _ (.tup _) e,r.frame f1 f2⟩
  | _=>cases hd
theorem Zrm{ds es:List Xa}(h:Zyo ds=some es):∃t as bs,ds=[Z3h t as,Z3h t bs]∧es=Zjc as bs:=by
 unfold Zyo at h
 split at h
 ·cases h;exact⟨false,_,_,rfl,rfl⟩
 ·cases h;exact⟨true,_,_,rfl,rfl⟩
 ·cases h
noncomputable def iZB(mr:MAt):MIt:=λδ K=>mr δ λrs δ'=>∃es,Zyo (OT.datas rs)=some es∧K es δ'
theorem Zxw{p' pos pt:Pos}{es:List Expr}{kk:Nat}(hg:Gl X "zip")(hm:X.mg "zip"=none)(hv:Qp "zip"=some (.type "zip"))(ha:MA X io p c [a,b] mr)
  (he:Xj [a,b] X.env=(false,eval a X.env) :: Xj [b] X.env:=by rfl) (hpl:(Q6 pos (Xj [b] X.env)).any (·.1)=false:=by rfl):MI X io p c (.Tuple es kk pt) (.Call (.Name "zip" p') [a,b] [] pos) (iZB mr):=by
 obtain⟨_,A,s⟩:=ha
 refine⟨_,Zxr rfl hg hm hv A he hpl,λC H σ δ fp ex K' Q R h kk=>s C H σ δ fp ex _ _ R h λH1 vs rs δ1 fp1 new r1 h1=>?_⟩
 have q:=r1.das R
 obtain⟨es,hz,h1⟩:=h1
 obtain⟨t,as,bs,e,rfl⟩:=Zrm hz
 rw[e]at q
 cases q with
 | cons q1 q2=>
  cases q2 with
  | cons q2 q3=>
   cases q3
   have R1:=r1.base
   obtain⟨l1,xs,rfl,k1⟩:=R1.keptSq q1
   obtain⟨l2,ys,rfl,k2⟩:=R1.keptSq q2
   refine⟨t,l1,l2,rfl,⟨_,(k1 H1 λ_ _ e _=>e).1⟩,⟨_,(k2 H1 λ_ _ e _=>e).1⟩,kk _ H1 _ δ1 fp1 R1 r1.stp (λH' kp i=>?_) h1⟩
   obtain⟨s1,d1⟩:=k1 H' kp
   obtain⟨s2,d2⟩:=k2 H' kp
   refine⟨λd hd=>?_,λhd=>⟨_,_,s1,s2,by rw[d1.length,d2.length];exact Zis hd⟩⟩
   obtain⟨x,y,hx,hy,rfl⟩:=Zhs hd
   obtain⟨u,hu,qu⟩:=d1.get hx
   obtain⟨w,hw,qw⟩:=d2.get hy
   refine⟨⟨_,_,u,w,s1,s2,hu,hw⟩,λv H'' hyl=>?_⟩
   obtain⟨t',u',w',ht,rfl,rfl,hu',hw'⟩:=hyl
   cases hu.symm.trans (hu' _ s1)
   cases hw.symm.trans (hw' _ s2)
   exact⟨Z6 ht _,.tup Zq (.cons (qu.same (Z6 ht _)) (.cons (qw.same (Z6 ht _)) .nil))⟩
theorem Zwg{tg e:Expr}(g:MI X io p c tg e (iZB (o2 ra))):MI X io p c tg e (o2 (Zna ra)):=g.weak λδ K h=>by
 obtain⟨r,δ',h,k⟩:=h
 obtain⟨⟨x,δ1⟩,h1,h⟩:=bs h
 obtain⟨ds,h2,h⟩:=bs h
 cases h
 exact⟨x,_,h1,_,h2,k⟩
end
end L2
namespace L2
open PySem PySem.Spec PyProof.Rows PySem.W
noncomputable def kGood{α:Type}(n:Nat)(P:α->Prop):KasT α->Prop
 | .ret a=>P a
 | .ask i j k=>i<n∧j<n∧∀b,kGood n P (k b)
theorem kGood.bind{α β:Type}{n:Nat}{P:α->Prop}{R:β->Prop}{f:α->KasT β}(hf:∀a,P a->kGood n R (f a)){t:KasT α}(h:kGood n P t):kGood n R (t.bind f):=by
 induction t with
 | ret a=>exact hf a h
 | ask i j k ih=>exact⟨h.1,h.2.1,λb=>ih b (h.2.2 b)⟩
noncomputable def kP(n:Nat)(p:Array Nat):Prop:=p.toList.Perm (XX n)
theorem kP.at{n:Nat}{p:Array Nat}(h:kP n p)(h0:0<n)(i:Nat):p.getD i 0<n:=by
 by_cases c:i<p.size
 ·have e:p.getD i 0=p[i]:=by simp[Array.getD,c]
  rw[e]
  exact QD.mp (h.mem_iff.mp (Array.getElem_mem_toList c))
 ·have e:p.getD i 0=0:=by simp[Array.getD,c]
  rw[e];exact h0
end L2
namespace L2
open PySem PySem.Spec PyProof.Rows PySem.W PySem.SeqAt
open AutoSeq1 (wpAny_loadPart')
open MeetsSeq MeetsSeq2 MeetsSeq3 SeqRoads2
noncomputable def ltI:List Int->List Int->Bool
 | [],[]=>false
 | [],_ :: _=>true
 | _ :: _,[]=>false
 | x :: xs,y :: ys=>if x=y then ltI xs ys else decide (x<y)
theorem Zsu{vs:List Xc}{ns:List Int}(h:IntsAre vs ns)(i:Nat)(hi:i<vs.length):∃x t,vs[i]? =some (.int x t)∧ns.drop i=x :: ns.drop (i+1):=by
 induction h generalizing i with
 | nil=>exact absurd hi (V6 i)
 | cons n t h ih=>
  cases i with
  | zero=>exact⟨n,t,rfl,rfl⟩
  | succ i=>exact ih i (Nat.lt_of_succ_lt_succ hi)
theorem Zk9{vs:List Xc}{ns:List Int}(h:IntsAre vs ns):vs.length=ns.length:=by
 induction h with
 | nil=>rfl
 | cons n t h ih=>exact congrArg Nat.succ ih
theorem Zo7{xs ys:List Int}(h:xs=[]∨ys=[]):ltI xs ys=decide (xs.length<ys.length):=by
 cases xs<;>cases ys<;>first|rfl|(rcases h with h|h<;>cases h)|exact(decide_eq_true (Nat.succ_pos _)).symm
section
variable {prog:X4}{w:Qv}{A:Qt}{E:Xc->Xf->Prop}{s:Xf}
end
theorem Z0x{prog:X4}{w:Qv}{A:Qt}{E:Xc->Xf->Prop}{s:Xf}{a b:Int}{t u:Tok}{Q:Xc->Xf->Prop}(h:Q (.bool (decide (a<b))) s):XC (X8 prog w) A (richCompare .Lt (.int a t) (.int b u)) Q E s:=lt_int h
theorem Zl3(l b:Addr)(items items2:Array Xc)(n n2:Nat)(dd dd2:Option Addr)(sl sl2:Array (Option Xc)){xs ys:List Int}(h1:IntsAre items.toList xs)(h2:IntsAre items2.toList ys) :
  Meets (VF.«tuple.__lt__» ⟨[.ref l,.ref b],[]⟩)
   (λA R s=>s.heap.get? l=some { cls:=.type "tuple",dict:=dd,data:=.seq items n,slots:=sl }∧s.heap.get? b=some { cls:=.type "tuple",dict:=dd2,data:=.seq items2 n2,slots:=sl2 }∧
    R (.ok (.ret (.bool (ltI xs ys)))) s) :=
 .of_wp λprog w A R s h=>by
  obtain⟨hp,g,d,tk,os⟩:=s;obtain⟨hl,hb,h⟩:=h
  have f2:=AutoSeq1.sub_tuple_tuple
  have e1:items.toList.length=xs.length:=Zk9 h1
  have e2:items2.toList.length=ys.length:=Zk9 h2
  wp_walk using wpAny_loadPart' hl,wpAny_loadPart' hb,wpAny_forIn_list _ (λrest b s'=>b.1=none∧s'=⟨hp,g,d,tk,os⟩∧∃i,rest=(items.toList.zip items2.toList).drop i∧i≤items.toList.length∧i≤items2.toList.length∧
   R (.ok (.ret (.bool (ltI (xs.drop i) (ys.drop i))))) ⟨hp,g,d,tk,os⟩) _
  case turn=>
   rintro⟨v,u⟩ rest b s' ⟨hb',rfl,i,hz,u1,u2,hR⟩
   have hlt:i<(items.toList.zip items2.toList).length:=by
    rcases Nat.lt_or_ge i (items.toList.zip items2.toList).length with h'|h'
    ·exact h'
    ·rw[List.drop_of_length_le h']at hz;cases hz
   have hm:=hlt
   rw[BW]at hm
   obtain⟨x,t,q1,q2⟩:=Zsu h1 i (by omega)
   obtain⟨y,r,q3,q4⟩:=Zsu h2 i (by omega)
   rw[QX hlt]at hz
   injection hz with hyx hrest
   have hz0:(items.toList.zip items2.toList)[i]? =some (.int x t,.int y r):=by rw[List.getElem?_zip_eq_some];exact⟨q1,q3⟩
   rw[Xk hlt]at hz0
   injection hz0 with hz0
   rw[hz0]at hyx
   cases hyx
   rw[q2,q4]at hR
   unfold ltI at hR
   refine Xd (EqAt.int_int x t y r prog w _ _ ?_)
   by_cases cx:x=y
   ·rw[if_pos cx]at hR
    rw[beq_iff_eq.mpr cx]
    wp_walk
    exact⟨rfl,rfl,i+1,hrest,by omega,by omega,hR⟩
   ·rw[if_neg cx]at hR
    rw[beq_eq_false_iff_ne.mpr cx]
    wp_walk using Z0x
    exact⟨_,rfl,hR⟩
  case fin=>
   rintro⟨b1,b2⟩ s' ⟨hb',rfl,i,hz,u1,u2,hR⟩
   simp only at hb'
   subst hb'
   have hge:min items.toList.length items2.toList.length≤i:=by
    rcases Nat.lt_or_ge i (items.toList.zip items2.toList).length with h'|h'
    ·rw[QX h']at hz;cases hz
    ·rw[BW]at h';exact h'
   have hv:ltI (xs.drop i) (ys.drop i)=decide (items.size<items2.size):=by
    rw[Zo7 ((show i=items.toList.length∨i=items2.toList.length by omega).imp (λc=>Bl (by omega)) λc=>Bl (by omega)),Bq,Bq]
    rw[By]at e1 e2 u1 u2
    exact decide_eq_decide.mpr (by omega)
   rw[hv]at hR
   wp_walk
   exact⟨_,rfl,hR⟩
  case h=>
   exact⟨rfl,rfl,0,rfl,JK _,JK _,h⟩
section
variable {prog:X4}{w:Qv}{A:Qt}{E:Xc->Xf->Prop}{s:Xf}
end
end L2
namespace L2
open PySem PySem.Spec PyProof.Rows PySem.W
variable {G:Xb}
structure Ya3{α:Type}(kd:Xa->Option α)(lt:α->α->Bool):Prop where
 lay:∀d k,kd d=some k->d.canLay0=true
 run:∃κ:SortKind,(∀(prog:X4) (w:Qv) (A:Qt) (E:Xc->Xf->Prop) (s:Xf) (vs:List Xc) (ds:List Xa) (as:List Addr) (Q:SortKind->Xf->Prop),2≤vs.length->ReadsAll s.heap vs ds as->(∀d∈ds,∃k,kd d=some k)->Q κ s->XC (X8 prog w) A (keyKind' vs.toArray) Q E s)∧
  ∀(prog:X4) (w:Qv) (A:Qt) (E:Xc->Xf->Prop) (s:Xf) (u v:Xc) (d e:Xa) (as bs:List Addr) (k m:α) (C:Bool->Xf->Prop),A.units+32<Ur->Reads s.heap u d as->Reads s.heap v e bs->kd d=some k->kd e=some m->C (lt k m) s->XC (X8 prog w) A (keyLt' κ u v) C E s
end L2
namespace L2
open PySem PySem.Spec PyProof.Rows PySem.W
variable {G:Xb}
noncomputable def lk{α:Type}(kd:Xa->Option α)(lt:α->α->Bool)(es:List Xa):Nat->Nat->Bool:=λi j=>((kd (es.getD i .none)).bind λa=>(kd (es.getD j .none)).map λb=>lt a b).getD false
section
variable {X:Cx}{α:Type}{kd:Xa->Option α}{lt:α->α->Bool}
end
end L2
namespace L2
open PySem PySem.Spec PyProof.Rows
section
variable {X:Cx}{io:List Nat}{p p' c c' q r:Bool}{a b e:Expr}{fa fb:FE}{es:List Expr}{ra:FA}{st:Stmt}{sts ss ss':List Stmt}{f g:FS}{ta:FT}
theorem xv(i:Nat){x:Str}{pos:Pos}(hN:X.N[i]? =some x:=by rfl)(hv:Vis X.env.scope x:=by first|exact QG rfl|exact Qo (QG rfl)|exact Qo (Qo rfl))(hd:(x==("__debug__" : Str))=false:=by decide)(he:(x==("__classdict__" : Str))=false:=by decide):ME X io true true (.Name x pos) (o2 (Zc i)):=Zzx (mv i hN hv hd he)
theorem xo(i:Nat){x:Str}{pos:Pos}(hN:X.N[i]? =some x:=by rfl)(hv:Vis X.env.scope x:=by first|exact QG rfl|exact Qo (QG rfl)|exact Qo (Qo rfl))(hd:(x==("__debug__" : Str))=false:=by decide)(he:(x==("__classdict__" : Str))=false:=by decide):ME X io true false (.Name x pos) (o2 (Za5 i)):=Zz7 (mo i hN hv hd he)
theorem xci{i:Int}{j:Nat}{pos:Pos}:ME X io true true (.Constant (.int i) j pos) (o2 (fC (.int i))):=Zeh Zyl
theorem xix{pos:Pos}(ha:ME X io p c a (o2 fa))(hb:ME X io p' c' b (o2 fb))(hc:p'=true∨c=true:=by first|exact QG rfl|exact Qo rfl)(hs:Zgy b:=by exact λ_ _=>rfl)(h2:(p&&p')=q:=by rfl)(h3:(c&&c')=r:=by rfl):ME X io q r (.Subscript a b pos) (o2 (Z9 gIx fa fb)):=h2▸h3▸J3 Yam (Zts (Zbw rfl) Z6q ha hb hc (hs:=hs))
theorem xa0:MA X io true true [] (o2 Zk):=Zzj Zy5
theorem xa1[NoStar e](ha:ME X io p c e (o2 fa))(h2:(p&&true)=q:=by rfl)(h3:(c&&true)=r:=by rfl):MA X io q r [e] (o2 (Zd fa Zk)):=Zj ha xa0 (.inl rfl) h2 h3
theorem xsq(h:MS X io st (oS f))(k:MSs X io sts (oS g)):MSs X io (st :: sts) (oS (Zw f g)):=Z01 (Zq5 h k)
theorem xst{pos px:Pos}(i:Nat){x:Str}(hN:X.N.Nodup)(he:ME X io p true e (o2 fa))(hi:X.N[i]? =some x:=by rfl)(hx:Loc X.env.scope x:=by first|exact QG rfl|exact Qo rfl)(hio:i∉io:=by decide)(hs:Bc e (some (.Name x px)) pos.line X.env=pure false:=by rfl)(hf:X.fn x=true∨X.env.scope.names.lookup x=some .local:=by first|exact .inl rfl|exact .inr rfl|assumption):MS X io (.Assign [.Name x px] e pos) (oS (wE fa (Wt i))):=Zgc (Zga hN hi hx he hio hs hf)
theorem xrt{pos:Pos}(h:ME X io p true e (o2 fa)):MS X io (.Return (some e) pos) (oS (wE fa Za2)):=Zyz (Zy2 h)
theorem xg{pos:Pos}(i:Nat){x:Str}(hN:X.N.Nodup)(hi:X.N[i]? =some x:=by rfl)(hx:Loc X.env.scope x:=by first|exact QG rfl|exact Qo rfl)(hio:i∉io:=by decide)(hf:X.fn x=true∨X.env.scope.names.lookup x=some .local:=by first|exact .inl rfl|exact .inr rfl|assumption):MG X io true (.Name x pos) (oG (gNm i)):=Zxl (Zu6 hN hi hx hio hf)
theorem xif{pos:Pos}(h:MT X io p e (o2 ta))(k:MSs X io ss (oS f))(l:MSs X io ss' (oS g)):MS X io (.If e ss ss' pos) (oS (Wu ta f g)):=Z5v (Z33 h k l)
theorem xnl:MSs X io [] (oS fNx):=Zuq Zwc
theorem xtp{pos:Pos}{n:Nat}(h:MA X io p c es (o2 ra)):ME X io p c (.Tuple es n pos) (o2 (Zku ra)):=Z0b (Z6i h)
theorem xls{pos:Pos}(h:MA X io p c es (o2 ra)):ME X io p c (.List es pos) (o2 (Zab ra)):=Z1f (Z51 h)
theorem xil{tg:Expr}(h:ME X io p c e (o2 fa)):MI X io p c tg e (o2 (Zc2 fa)):=Zwp (Zvq h)
theorem xno{pos:Pos}(h:MT X io p e (o2 ta)):MT X io p (.UnaryOp .Not e pos) (o2 (tNo ta)):=Z2f (Zzd h)
theorem Zfs{pos:Pos}(ha:ME X io p c a (o2 fa))(hb:ME X io p' c' b (o2 fb))(hc:p'=true∨c=true:=by first|exact QG rfl|exact Qo rfl)(h2:(p&&p')=q:=by rfl):ME X io q true (.BinOp a .Add b pos) (o2 (Zb Ja fa fb)):=h2▸Yd Z5s (Zbr Z1b Zmo ha hb hc)
theorem Z64{pos:Pos}(ha:ME X io p c a (o2 fa))(hb:ME X io p' c' b (o2 fb))(hc:p'=true∨c=true:=by first|exact QG rfl|exact Qo rfl)(h2:(p&&p')=q:=by rfl):ME X io q true (.BinOp a .Sub b pos) (o2 (Zb gSb fa fb)):=h2▸Yd Z6s (Zbr Z2q Zmo ha hb hc)
theorem Zx2{pos:Pos}(ha:ME X io p c a (o2 fa))(hb:ME X io p' c' b (o2 fb))(hc:p'=true∨c=true:=by first|exact QG rfl|exact Qo rfl)(h2:(p&&p')=q:=by rfl):ME X io q true (.BinOp a .Mult b pos) (o2 (Zb Zfp fa fb)):=h2▸Yd Z50 (Zbr Zw0 Z0h ha hb hc)
theorem Zh4{pos:Pos}(ha:ME X io p c a (o2 fa))(hb:ME X io p' c' b (o2 fb))(hc:p'=true∨c=true:=by first|exact QG rfl|exact Qo rfl)(h2:(p&&p')=q:=by rfl):ME X io q true (.BinOp a .Mod b pos) (o2 (Zb J8 fa fb)):=h2▸Yd Z4d (Zbr Zxq Zy0 ha hb hc)
theorem Zy4{pos:Pos}(ha:ME X io p c a (o2 fa))(hb:ME X io p' c' b (o2 fb))(hc:p'=true∨c=true:=by first|exact QG rfl|exact Qo rfl)(h2:(p&&p')=q:=by rfl):ME X io q true (.BinOp a .FloorDiv b pos) (o2 (Zb J6 fa fb)):=h2▸Yd Zy8 (Zbr Zsj Z23 ha hb hc)
theorem Z3f{pos:Pos}(ha:ME X io p c a (o2 fa))(hb:ME X io p' c' b (o2 fb))(hc:p'=true∨c=true:=by first|exact QG rfl|exact Qo rfl)(h2:(p&&p')=q:=by rfl):ME X io q true (.BinOp a .Pow b pos) (o2 (Zb Zrw fa fb)):=h2▸Yd Z5c (Zbr Zwy Z1q ha hb hc)
theorem xeq{pos:Pos}(hu:X.A.units+64<Ur)(ha:ME X io p c a (o2 fa))(hb:ME X io p' c' b (o2 fb))(hc:p'=true∨c=true:=by first|exact QG rfl|exact Qo rfl)(h2:(p&&p')=q:=by rfl):MT X io q (.Compare a [.Eq] [b] pos) (o2 (tV (Zb gEq fa fb))):=h2▸Zb9 Z3e (Zcc (Zkw hu) Zr9 ha hb hc (hm:=Zcx _))
theorem xne{pos:Pos}(hu:X.A.units+64<Ur)(ha:ME X io p c a (o2 fa))(hb:ME X io p' c' b (o2 fb))(hc:p'=true∨c=true:=by first|exact QG rfl|exact Qo rfl)(h2:(p&&p')=q:=by rfl):MT X io q (.Compare a [.NotEq] [b] pos) (o2 (tV (Zb gNe fa fb))):=h2▸Zb9 Z9d (Zcc (Z09 hu) Z59 ha hb hc (hm:=Zcx _))
theorem xlt{pos:Pos}(ha:ME X io p c a (o2 fa))(hb:ME X io p' c' b (o2 fb))(hc:p'=true∨c=true:=by first|exact QG rfl|exact Qo rfl)(h2:(p&&p')=q:=by rfl):MT X io q (.Compare a [.Lt] [b] pos) (o2 (tV (Zb gLt fa fb))):=h2▸Zb9 Z9z (Zcc Zhl Zp3 ha hb hc (hm:=Zcx _))
theorem xgt{pos:Pos}(ha:ME X io p c a (o2 fa))(hb:ME X io p' c' b (o2 fb))(hc:p'=true∨c=true:=by first|exact QG rfl|exact Qo rfl)(h2:(p&&p')=q:=by rfl):MT X io q (.Compare a [.Gt] [b] pos) (o2 (tV (Zb gGt fa fb))):=h2▸Zb9 Z9i (Zcc Z52 Zp3 ha hb hc (hm:=Zcx _))
theorem xge{pos:Pos}(ha:ME X io p c a (o2 fa))(hb:ME X io p' c' b (o2 fb))(hc:p'=true∨c=true:=by first|exact QG rfl|exact Qo rfl)(h2:(p&&p')=q:=by rfl):MT X io q (.Compare a [.GtE] [b] pos) (o2 (tV (Zb gGe fa fb))):=h2▸Zb9 Yap (Zcc Z6u Zp3 ha hb hc (hm:=Zcx _))
theorem xfr{pos:Pos}{tg:Expr}{it:FI}{gg:FG}(hp:PassesOwn (X8 X.prog X.w) X.A X.env X.xe)(hc:X.calm=true)(hi:MI X io p true tg e (o2 it))(hg:MG X io true tg (oG gg))(hb:MSs X io ss (oS f))(hs:∀x,Bk e X.env x=pure x:=by intro _;rfl):MS X io (.For tg e ss [] pos) (oS (Zaw it gg f)):=Zz2 (Z05 hp hc hi hg hb hs)
theorem xg2{pos:Pos}{n:Nat}{g1 g2:FG}(hc:X.calm=true)(ha:MG X io true a (oG g1))(hb:MG X io true b (oG g2))(h1:List.map (λx=>x.snd) (Bd [a,b] X.env)=assign a X.env :: List.map (λx=>x.snd) (Bd [b] X.env):=by rfl)(h2:List.map (λx=>x.snd) (Bd [b] X.env)=assign b X.env :: List.map (λx=>x.snd) (Bd [] X.env):=by rfl)(h3:(Bd [a,b] X.env).length=2:=by rfl)(h4:List.findIdx? (λx=>x.fst) (Bd [a,b] X.env)=none:=by rfl):MG X io true (.Tuple [a,b] n pos) (oG (gTp 2 (gCn g1 (gCn g2 gNl)))):=Zx4 (Zyd (n:=2) hc (Zk5 (Zka ha (Zk5 (Zka hb (Zxo Zxj) h2)) h1)) h3 h4)
theorem xso{pos px:Pos}(i:Nat){x:Str}(hN:X.N.Nodup)(he:ME X io p true e (o2 fa))(hi:X.N[i]? =some x:=by rfl)(hx:Loc X.env.scope x:=by first|exact QG rfl|exact Qo rfl)(hio:i∉io:=by decide)(hs:Bc e (some (.Name x px)) pos.line X.env=pure false:=by rfl)(hf:X.fn x=true∨X.env.scope.names.lookup x=some .local:=by first|exact .inl rfl|exact .inr rfl|assumption):MS X io (.Assign [.Name x px] e pos) (oS (wE fa (Jo i))):=Zpt (Zpr hN hi hx he hio hs hf)
theorem xcl{pos pp:Pos}{k:Nat}{f:Addr}{fd:Qc}{ps:List Str}{x:Str}{F:FD}(G:FnOk X.prog X.w X.K X.mg X.base CX0 k f fd ps (spD X.K (sD F)))(hr:Room k X.A)(hm:X.mg x=some (.ref f))(hk:X7 X.K (.ref f)=true)(hb:Binds X.K fd ps [])(ha:MA X io p c (e :: es) (o2 ra))(hg:Gl X x:=by rfl)(h1:(x==("__debug__" : Str))=false:=by decide)(h2:Xj (e :: es) X.env=(false,eval e X.env) :: Xj es X.env:=by rfl)(h3:((Q6 pos (Xj es X.env)).any λx=>x.fst)=false:=by rfl):ME X io p c (.Call (.Name x pp) (e :: es) [] pos) (o2 (Ys F ra)):=Zvy (Z1y G hr hg hm hk hb Z6w ha h1 h2 h3)
theorem xln{pos pp:Pos}(hm:X.mg "len"=none)(ha:MA X io p c [e] (o2 ra))(hg:Gl X "len" :=by rfl)(h2:Xj [e] X.env=(false,eval e X.env) :: Xj [] X.env:=by rfl):ME X io p true (.Call (.Name "len" pp) [e] [] pos) (o2 (Jb Zai ra)):=J2 Z4w (Zc3 Z25 (Znq rfl) hg hm L2.B.boot_len ha (by decide) (by decide) h2 (by rfl))
end
noncomputable def tbl(P:List Nat)(led:Bool):SetTable:={ mask:=7,place:=P.toArray,dummies:=#[],finger:=0,led,moves:=0,plain:=true }
noncomputable def hT(k:List Int):Int:=reduceHash (Builtin.Tuple.tupleHashOf (k.map hashInt))
noncomputable def hAt(ks:List (List Int))(i:Nat):Int:=(ks[i]?.map hT).getD 0
noncomputable def Z5u(P:List Nat)(j:Nat):List Nat:=((tbl P false).put j).1.place.toList
noncomputable def Z88(P:List Nat)(j:Nat):Nat:=((tbl P false).put j).2
noncomputable def Yac(ks:List (List Int))(p:Nat)(k:List Int):List (List Int):=ks.take p ++ k :: ks.drop p
noncomputable def Yai(P:List Nat)(ks:List (List Int))(k:List Int):Option (List Nat×List (List Int)) :=
 match(tbl P false).probe (hAt ks) (hT k) ((tbl P false).probeStart (hT k))with
 | some (.empty j none)=>if(tbl (Z5u P j) false).tooFull=false∧(Z5u P j).length=ks.length+1∧ks.length≤6∧Z88 P j≤ks.length then some (Z5u P j,Yac ks (Z88 P j) k)else none
 | some (.candidate _ i _)=>if ks[i]? =some k then some (P,ks)else none
 | _=>none
noncomputable def grow(K:List (List Int)):Nat->List (List Nat×List (List Int))->List (List Nat×List (List Int))
 | 0,S=>S
 | n+1,S=>grow K n (S ++ (S.flatMap λs=>K.filterMap λk=>Yai s.1 s.2 k).filter λs=>!S.contains s)
noncomputable def K2:List (List Int):=[[0,0],[0,1],[1,0],[1,1]]
noncomputable def S2:List (List Nat×List (List Int)):=(grow K2 4 [([],[])]).eraseDups
section
variable {prog:X4}{w:Qv}{A:Qt}{E:Xc->Xf->Prop}{s:Xf}
inductive KeysIn(U:Addr->List Int->Prop):List (List Int)->List (Int×Xc)->Prop
 | nil:KeysIn U [] []
 | cons {k:List Int} {a:Addr} {ks:List (List Int)} {l:List (Int×Xc)} (h:U a k) (t:KeysIn U ks l):KeysIn U (k :: ks) ((hT k,.ref a) :: l)
theorem KeysIn.hash{U:Addr->List Int->Prop}{ks:List (List Int)}{l:List (Int×Xc)}(h:KeysIn U ks l):l.map (·.1)=ks.map hT:=by
 induction h with
 | nil=>rfl
 | cons _ _ ih=>rw[X6,X6,ih]
noncomputable def Ts(U:Addr->List Int->Prop)(h:Heap)(S:Addr)(P:List Nat)(ks:List (List Int)):Prop :=
 ∃o es ep led,h.get? S=some o∧o.ExactSet∧o.data= .set es ep (tbl P led)∧P.length=es.size∧es.size≤7∧KeysIn U ks es.toList
noncomputable abbrev IK(prog:X4)(w:Qv)(h:Heap)(k:List Int)(a:Addr):Prop:=IsTupleKey (intKind prog w) h k a
theorem items_int{ks:List Int}{vs:List Xc}(h:ItemsAre (intKind prog w) ks vs):∀v∈vs,∃i t,v= .int i t:=by
 induction h with
 | nil=>exact λ_ m=>nomatch m
 | cons h _ ih=>
  intro v hv
  rcases Xn.mp hv with rfl|hv
  ·obtain⟨t,e⟩:=Value.isInt_shape h
   exact⟨_,t,e⟩
  ·exact ih v hv
theorem KeysIn.at{U:Addr->List Int->Prop}{ks:List (List Int)}{es:Array (Int×Xc)}(h:KeysIn U ks es.toList)(i:Nat):(es[i]?.map (·.1)).getD 0=hAt ks i:=by
 unfold hAt
 rw[←Xm,←h.hash,Xm,VN]
end
section
variable {prog:X4}{w:Qv}{A:Qt}{R:Result->Xf->Prop}{I:Addr}{fp wr:List Addr}{n:Nat}{Pv:Nat->Xc->Prop}{St:Nat->Heap->Prop}
end
inductive Z4b(H:Hp):List V->List (List Int)->Prop
 | nil:Z4b H [] []
 | cons {a:Addr} {k:List Int} {xs:List V} {ks:List (List Int)} (h:H a=some (.tup (k.map V.int))) (t:Z4b H xs ks):Z4b H (.ref a :: xs) (k :: ks)
section
variable {X:Cx}{p c:Bool}{io:List Nat}{a e:Expr}{pos pos' pl pr:Pos}{t:TA}{mr:MAt}{ra:FA}
end
noncomputable abbrev Yav(h:Heap)(T:Addr)(a b c:Xc):Prop:=h.get? T=some { cls:=.type "tuple",data:=.seq #[a,b,c] }
structure Z3A(z TI TO i1 i2 i3:Addr)(f1 f2 f3:List Addr):Prop where
 TIz:TI≠z
 TOz:TO≠z
 a1:∀c∈f1,c≠z∧c≠TO∧c≠i2∧c≠i3
 a2:∀c∈f2,c≠z∧c≠TO∧c≠i1∧c≠i3
 a3:∀c∈f3,c≠z∧c≠TO∧c≠i1∧c≠i2
section
variable {P:X4}{w:Qv}{A:Qt}{E:Xc->Xf->Prop}{s:Xf}
end
noncomputable abbrev z3A(h:Heap)(a:Addr):Heap:=h.push { cls:=.type "list_iterator",data:=.fields #[.ref a,.int 0 0] }
noncomputable abbrev z3B(h:Heap)(a b:Addr):Heap:=z3A (z3A h a) b
noncomputable abbrev z3C(h:Heap)(a b c:Addr):Heap:=z3A (z3B h a b) c
noncomputable abbrev z3D(h:Heap)(a b c:Addr):Heap:=(z3C h a b c).push { cls:=.type "tuple",data:=.seq #[.ref h.objs.size,.ref (z3A h a).objs.size,.ref (z3B h a b).objs.size] }
noncomputable abbrev z3E(h:Heap)(a b c:Addr):Heap:=(z3D h a b c).push { cls:=.type "tuple",data:=.seq #[.none,.none,.none] }
noncomputable abbrev z3F(h:Heap)(a b c:Addr):Heap:=(z3E h a b c).push { cls:=.type "zip",data:=.fields #[.none,.bool false,.bool false,.ref (z3C h a b c).objs.size,.ref (z3D h a b c).objs.size] }
section
variable {P:X4}{w:Qv}{A:Qt}{E:Xc->Xf->Prop}{s:Xf}
end
section
variable {X:Cx}{io:List Nat}{p c:Bool}{a b e:Expr}{mr:MAt}{ra:FA}
end
variable {G:Xb}
section
variable {X:Cx}{io:List Nat}{p c:Bool}{e:Expr}{m:MEt}{pos apos cpos px:Pos}{i:Nat}{x:Str}{st:Stmt}{fa:FE}
noncomputable def Zhh(i:Nat)(m:MEt):MSt:=λD δ=>match δ[i]? with
 | some (some (.nd _))=>m δ λr δ1=>match r,δ1[i]? with
  | .nd rs,some (some (.nd ts))=>ts.length+rs.length≤Xi∧D.nx (δ1.set i (some (.nd (ts ++ (OT.datas rs).map OT.fz))))
  | _,_=>False
 | _=>False
theorem Owns.app{H:Hp}{L:Addr->Prop}{ds:List Xa}:∀{zs xs:List V} {ts:List OT} {bs:List Addr},Owns G H L xs ts bs->Das G H L zs ds->Owns G H L (xs ++ zs) (ts ++ ds.map OT.fz) bs:=by
 induction ds with
 | nil=>
  intro zs xs ts bs h g
  cases g
  rw[XR,V8,XR];exact h
 | cons d ds ih=>
  intro zs xs ts bs h g
  cases g with
  | cons q g=>
   have:=ih (h.snoc (.fz q)) g
   rw[XR,QH,QH]at this
   exact this
theorem Zir(i:Nat)(he:ME X io p true e m)(hN:X.N[i]? =some x:=by rfl)(hv:Vis X.env.scope x:=by first|exact QG rfl|exact Qo (QG rfl)|exact Qo (Qo rfl))(hd:(x==("__debug__" : Str))=false:=by decide)
  (hcd:(x==("__classdict__" : Str))=false:=by decide)
  (hbase:Vd (.Name x px) "extend" X.env (eval (.Name x px) X.env)=eval (.Name x px) X.env:=by rfl)
  (hfew:((Q6 cpos (Xj [e] X.env)).all (λx=>!x.1)&&(backToKw cpos (VL [] X.env)).all (λx=>x.1.isSome)
   &&decide ([e].length+([]:List Vb).length+(if([]:List Vb).isEmpty then 0 else 1)<30))=true:=by rfl)
  (hline:(apos.endLine==cpos.line)=true:=by rfl) (hs:Xj [e] X.env=(false,eval e X.env) :: Xj [] X.env:=by rfl) (hplain:(Q6 cpos (Xj [] X.env)).any (·.1)=false:=by rfl)
  (hsw:Bc (.Call (.Attribute (.Name x px) "extend" apos) [e] [] cpos) none pos.line X.env=pure false:=by rfl) :
  MS X io (.Expr (.Call (.Attribute (.Name x px) "extend" apos) [e] [] cpos) pos) (Zhh i m):=by
 obtain⟨_,A,s⟩:=he
 refine⟨_,Zfa (Zoy Vp PySem.F.slot_list_extend PySem.F.type_list_extend Zn2 (pv i hN hv hd hcd) (Yw A Zd8 hs) hbase hfew hline hs hplain) hsw,λC H σ δ fp ex D D' R h E=>?_⟩
 unfold Zhh at h
 split at h
 case h_2=>exact h.elim
 rename_i ts0 hi0
 obtain⟨a',xs0,bs0,hv0,hx0,_,_⟩:=R.ownNd hi0
 refine⟨_,hv0,.inl ⟨rfl,xs0,.inl (.inl hx0)⟩,?_⟩
 refine s C H σ δ fp ex _ _ R h λH1 v r δ1 fp1 new r1 h1=>?_
 split at h1
 case h_2=>exact h1.elim
 rename_i rs ts1 hi1
 have R1:=r1.base
 obtain⟨a1,xs1,bs1,hv1,hx1,o1,hf1⟩:=R1.ownNd hi1
 rw[hv0]at hv1
 cases hv1
 obtain⟨b,zs,rfl,hb,lz,qs⟩:∃b zs,v= .ref b∧H1 b=some (.lst zs)∧zs.length=rs.length∧Das X.K H1 (Lf C fp1 ex) zs (OT.datas rs):=by
  have ow:=r1.own
  have nw:∀a∈new,Lf C fp1 ex a:=λa m=>by
   refine⟨λqz=>?_,(R.newOk (r1.fresh a m)).2.1,.inr (R.newOk (r1.fresh a m)).2.2⟩
   obtain⟨i,z⟩:=qz
   exact r1.rel.dx i a z (.inr m)
  cases ow with
  | nd hb r=>exact⟨_,_,rfl,hb,r.length,r.das (λa l _=>⟨(l rfl).1,λz=>(l rfl).2.1 (.inl z),(l rfl).2.2⟩) λa m=>nw a (.tail _ m)⟩
 refine⟨a',b,xs1,zs,rfl,rfl,hx1,hb,by rw[o1.length,lz];exact h1.1,?_⟩
 obtain⟨R2,S2⟩:=R1.top hi1 hv0 hf1 hx1 (o1.app qs) (List.Sublist.refl _)
 exact E.nx _ σ _ _ R2 (r1.stp.kp.trans S2.kp) h1.2
noncomputable def Za0(i:Nat)(e:FE):FS:=λδ=>match δ[i]? with
 | some (some (.nd _))=>wE e (λr δ1=>match r,δ1[i]? with
  | .nd rs,some (some (.nd ts))=>if ts.length+rs.length≤Xi then .nx (δ1.set i (some (.nd (ts ++ (OT.datas rs).map OT.fz))))else .bad
  | _,_=>.bad) δ
 | _=>.bad
theorem Zh7(h:MS X io st (Zhh i (o2 fa))):MS X io st (oS (Za0 i fa)):=h.weak λD δ h=>by
 unfold oS Za0 at h;unfold Zhh
 split at h
 case h_2=>exact h.elim
 rename_i q;(try rw[q])
 refine(Zmm h).imp λr δ' z=>?_
 split at z
 ·rename_i q2;(try rw[q2]);exact Za8 z
 ·exact z.elim
end
noncomputable def Up(xs:List Nat):Prop:=xs.Pairwise (·<·)
structure Tb(b:Bool)(t:SetTable):Prop where
 led:t.led=b
 up:t.plain=true->Up t.place.toList
section
variable {κ:Type}[DecidableEq κ]
noncomputable def Zll(kvs:List (κ×V))(k:κ):Option V:=(kvs.find? λkv=>decide (kv.1=k)).map (·.2)
noncomputable def putK(kvs:List (κ×V))(k:κ)(v:V):List (κ×V) :=
 if(kvs.any λkv=>decide (kv.1=k))=true then kvs.map (λkv=>if kv.1=k then(kv.1,v)else kv)else kvs ++ [(k,v)]
theorem Zek{p:κ×V}{r:List (κ×V)}{k:κ}(e:p.1=k):Zll (p :: r) k=some p.2:=by simp[Zll,Vt,e]
theorem Zei{p:κ×V}{r:List (κ×V)}{k:κ}(e:¬p.1=k):Zll (p :: r) k=Zll r k:=by simp[Zll,Vt,e]
theorem Zj7(k:κ):∀kvs:List (κ×V),(kvs.any λkv=>decide (kv.1=k))=(Zll kvs k).isSome
 | []=>rfl
 | p :: r=>by
  rw[Vr]
  by_cases e:p.1=k
  ·simp only[Zek e,decide_eq_true e,Bool.true_or,Option.isSome_some]
  ·rw[Zei e,decide_eq_false e,Bool.false_or];exact Zj7 k r
theorem Zcv(kvs:List (κ×V))(k:κ)(v:V):(putK kvs k v).length≤kvs.length+1:=by
 unfold putK
 split
 ·rw[Xg];omega
 ·rw[Xo,JH,List.length_nil];omega
theorem RelO.isSome_eq{o:Option V}{u:Option Xc}(r:RelO o u):o.isSome=u.isSome:=by
 cases o with
 | none=>cases u with
  | none=>rfl
  | some _=>exact(show False from r).elim
 | some _=>cases u with
  | none=>exact(show False from r).elim
  | some _=>rfl
theorem RelO.getD{o:Option V}{u:Option Xc}{d:V}{d':Xc}(r:RelO o u)(rd:RelV d d'):RelV (o.getD d) (u.getD d'):=by
 cases o with
 | none=>cases u with
  | none=>exact rd
  | some _=>exact(show False from r).elim
 | some _=>cases u with
  | none=>exact(show False from r).elim
  | some _=>exact r
theorem KV.val{kvs:List (κ×V)}{vs:List (κ×Xc)}(r:KV kvs vs)(k:κ):RelO (Zll kvs k) (valueAt vs k):=by
 unfold KV at r
 induction r with
 | nil=>exact U9
 | @cons p q ps qs h t ih=>
  obtain⟨h1,h2⟩:=h
  by_cases e:p.1=k
  ·have e':q.1=k:=h1.symm.trans e
   have b:valueAt (q :: qs) k=some q.2:=by simp[valueAt,Vt,e']
   rw[Zek e,b];exact h2
  ·have e':¬q.1=k:=λz=>e (h1.trans z)
   have b:valueAt (q :: qs) k=valueAt qs k:=by simp[valueAt,Vt,e']
   rw[Zei e,b];exact ih
theorem KV.any{kvs:List (κ×V)}{vs:List (κ×Xc)}(r:KV kvs vs)(k:κ):(kvs.any λkv=>decide (kv.1=k))=vs.any λkv=>decide (kv.1=k):=by
 unfold KV at r
 induction r with
 | nil=>rfl
 | cons h t ih=>rw[Vr,Vr,ih,h.1]
theorem KV.repl{kvs:List (κ×V)}{vs:List (κ×Xc)}(r:KV kvs vs)(k:κ){y:V}{u:Xc}(ry:RelV y u) :
  KV (kvs.map λkv=>if kv.1=k then(kv.1,y)else kv) (vs.map λkv=>if kv.1=k then(kv.1,u)else kv):=by
 unfold KV at r⊢
 induction r with
 | nil=>exact .nil
 | @cons p q ps qs h t ih=>
  rw[X6,X6]
  refine .cons ?_ ih
  obtain⟨h1,h2⟩:=h
  by_cases e:p.1=k
  ·rw[if_pos e,if_pos (h1.symm.trans e)];exact⟨h1,ry⟩
  ·rw[if_neg e,if_neg (λz=>e (h1.trans z))];exact⟨h1,h2⟩
theorem KV.put{kvs:List (κ×V)}{vs:List (κ×Xc)}(r:KV kvs vs)(k:κ){y:V}{u:Xc}(ry:RelV y u):KV (putK kvs k y) (stored vs k u):=by
 unfold putK stored
 rw[r.any k]
 by_cases e:(vs.any λkv=>decide (kv.1=k))=true
 ·rw[if_pos e,if_pos e];exact r.repl k ry
 ·rw[if_neg e,if_neg e];exact UT.snoc r ⟨rfl,ry⟩
theorem KV.length{kvs:List (κ×V)}{vs:List (κ×Xc)}(r:KV kvs vs):kvs.length=vs.length:=Paired.length r
end
theorem Zov{P:X4}{w:Qv}{k:Key}{u:Xc}(r:RelV (kV k) u):(Wq P w).is k u=true:=by
 cases k with
 | inl i=>obtain⟨t,e⟩:=(show∃t,u=UL i t from r);subst e;exact Zjv P w i t
 | inr x=>obtain⟨t,e⟩:=(show∃t,u=Vu x t from r);subst e;exact Zjn P w x t
theorem Ziu{P:X4}{w:Qv}:∀{ks:List Key} {us:List Xc},Vals (ks.map kV) us->ItemsAre (Wq P w) ks us
 | [],_,r=>by rw[V8]at r;cases r;exact .nil
 | k :: ks,_,r=>by
  rw[X6]at r
  cases r with
  | cons h t=>exact .cons (Zov h) (Ziu t)
noncomputable abbrev KT(H:Hp):List (List Key×V)->List (List Key×Addr×Xc)->Prop:=UT λp q=>p.1=q.1∧H q.2.1=some (.tup (p.1.map kV))∧RelV p.2 q.2.2
theorem KT.val{H:Hp}{kvs:List (List Key×V)}{xs:List (List Key×Addr×Xc)}(r:KT H kvs xs)(k:List Key):RelO (Zll kvs k) ((atKey xs k).map (·.2)):=by
 induction r with
 | nil=>exact U9
 | @cons p q ps qs h t ih=>
  obtain⟨h1,_,h2⟩:=h
  by_cases e:p.1=k
  ·have e':q.1=k:=h1.symm.trans e
   have b:atKey (q :: qs) k=some q.2:=by simp[atKey,Vt,e']
   rw[Zek e,b];exact h2
  ·have e':¬q.1=k:=λz=>e (h1.trans z)
   have b:atKey (q :: qs) k=atKey qs k:=by simp[atKey,Vt,e']
   rw[Zei e,b];exact ih
theorem KT.repl{H:Hp}{kvs:List (List Key×V)}{xs:List (List Key×Addr×Xc)}(r:KT H kvs xs)(k:List Key){y:V}{u:Xc}(ry:RelV y u) :
  KT H (kvs.map λkv=>if kv.1=k then(kv.1,y)else kv) (xs.map (putAt k u)):=by
 induction r with
 | nil=>exact .nil
 | @cons p q ps qs h t ih=>
  rw[X6,X6]
  refine .cons ?_ ih
  obtain⟨h1,h2,h3⟩:=h
  unfold putAt
  by_cases e:p.1=k
  ·rw[if_pos e,if_pos (h1.symm.trans e)];exact⟨h1,h2,ry⟩
  ·rw[if_neg e,if_neg (λz=>e (h1.trans z))];exact⟨h1,h2,h3⟩
theorem KT.put{H:Hp}{kvs:List (List Key×V)}{xs:List (List Key×Addr×Xc)}(r:KT H kvs xs)(k:List Key){b:Addr}{y:V}{u:Xc}(hb:H b=some (.tup (k.map kV)))(ry:RelV y u) :
  KT H (putK kvs k y) (storedH xs k b u):=by
 have e:(kvs.any λkv=>decide (kv.1=k))=(atKey xs k).isSome:=by
  rw[Zj7,(r.val k).isSome_eq,Option.isSome_map]
 unfold putK storedH
 rw[e]
 by_cases q:(atKey xs k).isSome=true
 ·rw[if_pos q,if_pos q];exact r.repl k ry
 ·rw[if_neg q,if_neg q];exact UT.snoc r ⟨rfl,hb,ry⟩
theorem KT.keeps{H H':Hp}{kvs:List (List Key×V)}{xs:List (List Key×Addr×Xc)}(r:KT H kvs xs)(ht:∀b ys,H b=some (.tup ys)->H' b=some (.tup ys)):KT H' kvs xs :=
 UT.mapP r λ_ _ z=>⟨z.1,ht _ _ z.2.1,z.2.2⟩
section
variable {P:X4}{w:Qv}{H:Hp}{h:Heap}{a:Addr}
theorem Z12{u:HO}(ok:HOk P w H h)(e:Rd H a u):ObjOk P w H h a u:=e.ok ok
theorem Zpy{kvs:List (Key×V)}(ok:HOk P w H h)(e:Rd H a (.dK kvs)):kvs.length≤Xi∧(a==Vl)=false∧∃vs,KV kvs vs∧h.DictOf (Wq P w) a vs :=
 show ObjOk P w H h a (.dK kvs)from Z12 ok e
theorem Zyj{kvs:List (Key×V)}(ok:HOk P w H h)(e:H a=some (.dK kvs)):kvs.length≤Xi∧(a==Vl)=false∧∃vs,KV kvs vs∧h.DictOf (Wq P w) a vs:=Zpy ok (.inl e)
theorem Zkl{ks:List Key}(ok:HOk P w H h)(e:H a=some (.tup (ks.map kV))):(tupleKind (Wq P w)).is h ks a:=by
 obtain⟨_,its,r,o,h1,h2,n,h3⟩:=(show ObjOk P w H h a (.tup (ks.map kV))from ok a _ e)
 exact⟨o,its.toArray,n,h1,h2,h3,by simpa using Ziu r⟩
theorem Zrs{kvs:List (List Key×V)}(ok:HOk P w H h)(e:Rd H a (.dT kvs)):kvs.length≤Xi∧(a==Vl)=false∧
  ∃xs,KT H kvs xs∧h.DictOfH (tupleKind (Wq P w)) a xs:=by
 obtain⟨z,y,xs,r,o,es,ep,h1,h2,h3,h4,h5⟩:=(show ObjOk P w H h a (.dT kvs)from Z12 ok e)
 refine⟨z,y,xs,r,o,es,ep,h1,h2,h3,h4,λx hx=>?_,h5⟩
 have all:∀{l:List (List Key×V)} {m:List (List Key×Addr×Xc)},KT H l m->∀x∈m,(tupleKind (Wq P w)).is h x.1 x.2.1:=by
  intro l m q
  induction q with
  | nil=>intro x hx;exact nomatch hx
  | @cons p q ps qs hq t ih=>
   intro x hx
   rcases Xn.mp hx with e|hx
   ·subst e
    exact Zkl ok (by rw[←hq.1];exact hq.2.1)
   ·exact ih x hx
 exact all r x hx
theorem Z6k{kvs:List (List Key×V)}(ok:HOk P w H h)(e:H a=some (.dT kvs)):kvs.length≤Xi∧(a==Vl)=false∧
  ∃xs,KT H kvs xs∧h.DictOfH (tupleKind (Wq P w)) a xs:=Zrs ok (.inl e)
end
noncomputable def DGet(H:Hp)(a:Addr)(y:V)(r:Option V):Prop :=
 (∃ kvs k,Rd H a (.dK kvs)∧y=kV k∧r=Zll kvs k)∨∃kvs k b,Rd H a (.dT kvs)∧y= .ref b∧H b=some (.tup (k.map kV))∧r=Zll kvs k
noncomputable def DPut(H:Hp)(a:Addr)(y v:V)(H':Hp):Prop :=
 (∃ kvs k,H a=some (.dK kvs)∧y=kV k∧kvs.length<Xi∧H'=upd H a (.dK (putK kvs k v)))∨
 ∃kvs k b,H a=some (.dT kvs)∧y= .ref b∧H b=some (.tup (k.map kV))∧kvs.length<Xi∧H'=upd H a (.dT (putK kvs k v))
theorem DGet.k{H:Hp}{a:Addr}{kvs:List (Key×V)}{k:Key}(e:H a=some (.dK kvs)):DGet H a (kV k) (Zll kvs k):=.inl ⟨kvs,k,.inl e,rfl,rfl⟩
theorem DGet.t{H:Hp}{a b:Addr}{kvs:List (List Key×V)}{k:List Key}(e:H a=some (.dT kvs))(eb:H b=some (.tup (k.map kV))):DGet H a (.ref b) (Zll kvs k):=.inr ⟨kvs,k,b,.inl e,rfl,eb,rfl⟩
theorem DPut.k{H:Hp}{a:Addr}{kvs:List (Key×V)}{k:Key}{v:V}(e:H a=some (.dK kvs))(hl:kvs.length<Xi):DPut H a (kV k) v (upd H a (.dK (putK kvs k v))):=.inl ⟨kvs,k,e,rfl,hl,rfl⟩
theorem DPut.t{H:Hp}{a b:Addr}{kvs:List (List Key×V)}{k:List Key}{v:V}(e:H a=some (.dT kvs))(eb:H b=some (.tup (k.map kV)))(hl:kvs.length<Xi) :
  DPut H a (.ref b) v (upd H a (.dT (putK kvs k v))):=.inr ⟨kvs,k,b,e,rfl,eb,hl,rfl⟩
section
variable {X:Cx}{pins:List (Addr×Obj)}{σ:St}{H:Hp}{s:Xf}{a:Addr}{y v:V}{u r:Xc}{o:Option V}{A:Qt}{E:Xc->Xf->Prop}
theorem Inv.big(I:Inv X pins σ H s):Vl<s.heap.objs.size:=by
 have h:Xx<s.heap.objs.size:=(I.mod.glob.keeps I.bk).lt
 exact Vi (by decide) h
theorem Zqb{Q:Xc->Xf->Prop}(hu:A.units+1<Ur)(I:Inv X pins σ H s)(g:DGet H a y (some v))(ry:RelV y u)(h:∀w' s',Inv X pins σ H s'->RelV v w'->Q w' s') :
  XC (X8 X.prog X.w) A (getItem (.ref a) u) Q E s:=by
 rcases g with⟨kvs,k,e,ey,l⟩|⟨kvs,k,b,e,ey,eb,l⟩
 ·subst ey
  obtain⟨z,hd,vs,rel,dd⟩:=Zpy I.hok e
  obtain⟨w',hw,rw'⟩:=RelO.some_of (v:=v) (o:=valueAt vs k) (by rw[l];exact rel.val k)
  exact wpAny_getItem_of (Zov ry) dd.mapOf hw (h w' _ (I.tok _) rw')
 ·subst ey
  cases(show u=Qu b from ry)
  obtain⟨z,hd,xs,rel,dd⟩:=Zrs I.hok e
  obtain⟨w',hw,rw'⟩:=RelO.some_of (v:=v) (o:=(atKey xs k).map (·.2)) (by rw[l];exact rel.val k)
  obtain⟨p,hp,hp2⟩:=XM.mp hw
  refine wpAny_getItem_heap (tupleKind_room_in1 hu) (Zkl I.hok eb) dd hp ?_
  rw[hp2]
  exact h w' _ (I.tok _) rw'
theorem Zt7{Q:Xc->Xf->Prop}(hu:A.units+1<Ur)(I:Inv X pins σ H s)(g:DGet H a y o)(ry:RelV y u)(h:∀s',Inv X pins σ H s'->Q (.bool (!o.isSome)) s') :
  XC (X8 X.prog X.w) A (QL .NotIn u (.ref a)) Q E s:=by
 rcases g with⟨kvs,k,e,ey,l⟩|⟨kvs,k,b,e,ey,eb,l⟩
 ·subst ey
  obtain⟨z,hd,vs,rel,dd⟩:=Zpy I.hok e
  refine wpAny_notIn_of (Zov ry) hd dd.mapOf ?_
  rw[←(rel.val k).isSome_eq,←l]
  exact h _ (I.tok _)
 ·subst ey
  cases(show u=Qu b from ry)
  obtain⟨z,hd,xs,rel,dd⟩:=Zrs I.hok e
  refine wpAny_notIn_heap (tupleKind_room_in1 hu) (Zkl I.hok eb) hd dd ?_
  have q:=(rel.val k).isSome_eq
  rw[Option.isSome_map]at q
  rw[←q,←l]
  exact h _ (I.tok _)
theorem Zju{h':Heap}{t':Nat}{ob:HO}(I:Inv X pins σ H s)(mu:Mut (H a))(hs:Bm a s.heap h')(he:∃q,h'.get? a=some q)(new:ObjOk X.prog X.w (upd H a ob) h' a ob) :
  Inv X pins σ (upd H a ob) { s with heap:=h',toks:=t' } :=
 I.write (x:=a) (e:=a) mu (.inl rfl) (λb q hb z=>(hs.2 b hb).trans z) he new
theorem Zs1{P:X4}{w:Qv}{H':Hp}{h':Heap}{kvs:List (Key×V)}{vs:List (Key×Xc)}(z:kvs.length≤Xi)(hd:(a==Vl)=false)(rel:KV kvs vs)(dd:h'.DictOf (Wq P w) a vs) :
  ObjOk P w H' h' a (.dK kvs):=⟨z,hd,vs,rel,dd⟩
theorem Zo9{H':Hp}{Q:Unit->Xf->Prop}(hu:A.units+1<Ur)(I:Inv X pins σ H s)(g:DPut H a y v H')(ry:RelV y u)(rv:RelV v r)(h:∀s',Inv X pins σ H' s'->Q () s') :
  XC (X8 X.prog X.w) A (setItem (.ref a) u r) Q E s:=by
 rcases g with⟨kvs,k,e,ey,l,eH⟩|⟨kvs,k,b,e,ey,eb,l,eH⟩
 ·subst ey eH
  obtain⟨z,hd,vs,rel,dd⟩:=Zyj I.hok e
  have hz:vs.length≤Xi:=by rw[←rel.length];exact z
  have hl:(putK kvs k v).length≤Xi:=by have:=Zcv kvs k v;omega
  refine wpAny_setItem_pairs (hsz:=hz) (Zov ry) dd λh' dd' hs=>h _ ?_
  have he:∃q,h'.get? a=some q:=let⟨q,_,_,hq,_⟩:=dd';⟨q,hq⟩
  exact Zju I (by rw[e];exact U9) hs he (Zs1 hl hd (rel.put k rv) dd')
 ·subst ey eH
  cases(show u=Qu b from ry)
  obtain⟨z,hd,xs,rel,dd⟩:=Z6k I.hok e
  have hz:xs.length≤Xi:=by rw[←Paired.length rel];exact z
  have hl:(putK kvs k v).length≤Xi:=by have:=Zcv kvs k v;omega
  refine wpAny_setItem_heap (hsz:=hz) (tupleKind_room_in1 hu) (Zkl I.hok eb) dd λh' dd' hs=>h _ ?_
  obtain⟨q,es,ep,hq,h2,h3,h4,_,h5⟩:=dd'
  refine Zju I (by rw[e];exact U9) hs ⟨q,hq⟩ ⟨hl,hd,_,(rel.put k eb rv).keeps λc ys ec=>?_,q,es,ep,hq,h2,h3,h4,h5⟩
  rw[Zm (Z41 ec e (λz=>nomatch z))]
  exact ec
end
section
variable {X:Cx}{pins:List (Addr×Obj)}{σ:St}{H:Hp}{s:Xf}{a:Addr}{kvs:List (Key×V)}{k:Key}{u:Xc}{A:Qt}{E:Xc->Xf->Prop}
end
noncomputable def Z6t(i:Expr):Prop:=∀ov iv,subscripted i false ov iv=operate [ov,iv] (getItem ov iv)
theorem Zt1{prog:X4}{w:Qv}{A:Qt}{E:Xc->Xf->Prop}{s:Xf}{env:Env}{value slice:Expr}{pos:Pos}{T id:String}{Q:Xc->Xf->Prop}
  (hl:typeLookup (.type T) "__getitem__"=pure (some (.builtin id))) (hs:Z6t slice)
  (h:XC (X8 prog w) A (eval value env) (λo s₁=>XC (X8 prog w) A (eval slice env) (λi s₂=>s₂.TypeIs o T∧XC (X8 prog w) A (getItem o i) Q E s₂) E s₁) E s) :
  XC (X8 prog w) A (eval (.Subscript value slice pos) env) Q E s:=by
 refine Subscript_ (Qs h (λo s₁ h₁=>Qs h₁ (λi s₂ h₂=>?_) λ_ _ x=>x) λ_ _ x=>x)
 obtain⟨hT,h₂⟩:=h₂
 unfold subscriptTail
 refine Xd ?_
 rw[getitemInPython_of_ne hT.not_modules]
 refine Xd (wpAny_specialOf hT hl ?_)
 have fin:XC (X8 prog w) A (subscripted slice false o i) (λr s₃=>XC (X8 prog w) A (letTemporaryGo value o r>>= λ_=>pure r) Q E s₃) E s₂:=by
  rw[hs o i]
  exact wpAny_operating (Qs h₂ (λr s₃ h₃=>Xd (wpAny_letTemporaryGo (XH h₃))) λ_ _ x=>x)
 first
  | exact XH (Xd fin)
  | exact Xd (XH (Xd fin))
  | exact Xd fin
theorem Zjw{X:Cx}{pins:List (Addr×Obj)}{σ:St}{H:Hp}{s:Xf}{a:Addr}{y:V}{o:Option V}(I:Inv X pins σ H s)(g:DGet H a y o):s.TypeIs (.ref a) "dict" :=by
 rcases g with⟨kvs,k,e,_,_⟩|⟨kvs,k,b,e,_,_,_⟩
 ·obtain⟨_,_,vs,_,dd⟩:=Zpy I.hok e
  exact dd.typeIs
 ·obtain⟨_,_,xs,_,dd⟩:=Zrs I.hok e
  exact dd.typeIs
noncomputable def Z4v(td ty:TE):TE:=λσ H Q=>td σ H λx H1=>ty σ H1 λy H2=>∃a v,x= .ref a∧DGet H2 a y (some v)∧Q v H2
noncomputable def Z57(td ty tv:TE):TS:=λD σ H=>tv σ H λv H1=>td σ H1 λx H2=>ty σ H2 λy H3=>∃a H4,x= .ref a∧DPut H3 a y v H4∧D.nx σ H4
section
variable {X:Cx}{o i e value:Expr}{pos pos' tpos:Pos}{td ty tv:TE}
theorem Zve(hu:X.A.units+1<Ur)(ho:PE X o td)(hi:PE X i ty)(hs:Z6t i):PE X (.Subscript o i pos) (Z4v td ty):=by
 intro pins s σ H Q I h
 refine Zt1 PySem.F.slot_dict_getitem.lookup hs (thn (ho pins s σ H _ I h) λu s1 ⟨x,H1,I1,rx,q1⟩=>thn (hi pins s1 σ H1 _ I1 q1) λiv s2 ⟨y,H2,I2,ry,a,v,ex,g,q2⟩=>?_)
 subst ex
 obtain rfl:u=Qu a:=rx
 exact⟨Zjw I2 g,Zqb hu I2 g ry λw' s3 I3 rw'=>⟨v,H2,I3,rw',q2⟩⟩
theorem Zud(hu:X.A.units+1<Ur)(ho:PE X o td)(hi:PE X i ty)(hv:PE X value tv)(hs:Bc value (some (.Subscript o i pos')) pos.line X.env=pure false) :
  PS X (.Assign [.Subscript o i pos'] value pos) (Z57 td ty tv):=by
 intro pins s σ H D I h
 refine wpAny_Assign_Subscript (thn (hv pins s σ H _ I h) λr s1 ⟨v,H1,I1,rv,q1⟩=>thn (ho pins s1 σ H1 _ I1 q1) λu s2 ⟨x,H2,I2,rx,q2⟩=>thn (hi pins s2 σ H2 _ I2 q2) λiv s3 ⟨y,H3,I3,ry,a,H4,ex,g,q3⟩=>?_) hs
 subst ex
 obtain rfl:u=Qu a:=rx
 exact Zo9 hu I3 g ry rv λs4 I4=>⟨σ,H4,I4,q3⟩
end
theorem Zr7{P:X4}{w:Qv}{H:Hp}(h:Heap)(hb:Vl<h.objs.size):ObjOk P w H (h.push { cls:=.type "dict",data:=.dict #[] }) h.objs.size (.dK []) :=
 ⟨JK _,beq_eq_false_iff_ne.mpr (Ba (Xp hb)),[],.nil,Heap.DictOf.new h⟩
section
variable {X:Cx}{pos:Pos}
end
noncomputable def Zpg:List (TE×TE)->St->Hp->(List (V×V)->Hp->Prop)->Prop
 | [],_,H,Q=>Q [] H
 | (tk,tv) :: r,σ,H,Q=>tk σ H λx H1=>tv σ H1 λy H2=>Zpg r σ H2 λps H3=>Q ((x,y) :: ps) H3
noncomputable abbrev VV:List (V×V)->List (Xc×Xc)->Prop:=UT λp q=>RelV p.1 q.1∧RelV p.2 q.2
noncomputable def PPs(X:Cx)(pos:Pos)(keys:List (Option Expr))(values:List Expr)(trs:List (TE×TE)):Prop :=
 ∀(pins:List (Addr×Obj)) (s:Xf) (σ:St) (H:Hp) (Q:List (V×V)->Hp->Prop),Inv X pins σ H s->Zpg trs σ H Q ->
  XC (X8 X.prog X.w) X.A (evalPairs (pairTrees keys values X.env pos)) (λvs s'=>∃ps H',Inv X pins σ H' s'∧VV ps vs∧Q ps H') X.xe s
theorem Zwt{X:Cx}{pos:Pos}:PPs X pos [] [] []:=λpins s σ H Q I h=>pairTrees_nil_walk ⟨[],H,I,.nil,h⟩
theorem Zso{X:Cx}{pos:Pos}{k v:Expr}{ks:List (Option Expr)}{vs:List Expr}{tk tv:TE}{trs:List (TE×TE)}(hk:PE X k tk)(hv:PE X v tv)(hr:PPs X pos ks vs trs) :
  PPs X pos (some k :: ks) (v :: vs) ((tk,tv) :: trs):=λpins s σ H Q I h=>
 pairTrees_cons_walk (thn (hk pins s σ H _ I h) λu s1 ⟨x,H1,I1,rx,q1⟩=>thn (hv pins s1 σ H1 _ I1 q1) λw2 s2 ⟨y,H2,I2,ry,q2⟩=>
  thn (hr pins s2 σ H2 _ I2 q2) λws s3 ⟨ps,H3,I3,rel,q3⟩=>⟨(x,y) :: ps,H3,I3,.cons ⟨rx,ry⟩ rel,q3⟩)
noncomputable def Zd7(kvs more:List (Key×V)):List (Key×V):=more.foldl (λacc kv=>putK acc kv.1 kv.2) kvs
theorem KV.merge:∀{more:List (Key×V)} {rs:List (Key×Xc)} {kvs:List (Key×V)} {vs:List (Key×Xc)},KV more rs->KV kvs vs->KV (Zd7 kvs more) (merged vs rs):=by
 intro more rs kvs vs r
 unfold KV at r
 induction r generalizing kvs vs with
 | nil=>intro q;exact q
 | @cons p q ps qs h t ih=>
  intro r0
  have e:KV (putK kvs p.1 p.2) (stored vs q.1 q.2):=by
   have:=r0.put p.1 h.2
   rw[←h.1];exact this
  exact ih e
theorem Zdg:∀(more kvs:List (Key×V)),(Zd7 kvs more).length≤kvs.length+more.length
 | [],kvs=>by show kvs.length≤kvs.length+0;omega
 | p :: r,kvs=>by
  have h1:=Zdg r (putK kvs p.1 p.2)
  have h2:=Zcv kvs p.1 p.2
  show(Zd7 (putK kvs p.1 p.2) r).length≤_
  rw[JH];omega
theorem Zgk{P:X4}{w:Qv}:∀{kvs:List (Key×V)} {ws:List (Xc×Xc)},VV (kvs.map λkv=>(kV kv.1,kv.2)) ws->∃rs,Carries (Wq P w) ws rs∧KV kvs rs
 | [],_,r=>by rw[V8]at r;cases r;exact⟨[],U9,.nil⟩
 | p :: kvs,_,r=>by
  rw[X6]at r
  cases r with
  | @cons a b as bs h t=>
   obtain⟨rs,c,q⟩:=Zgk (P:=P) (w:=w) t
   obtain⟨b1,b2⟩:=b
   exact⟨(p.1,b2) :: rs,⟨Zov h.1,rfl,c⟩,.cons ⟨rfl,h.2⟩ q⟩
noncomputable def Z53(trs:List (TE×TE)):TE:=λσ H Q=>∀p,H p=none->Zpg trs σ (upd H p (.dK [])) λps H2=>H2 p=some (.dK [])∧∃kvs:List (Key×V),ps=kvs.map (λkv=>(kV kv.1,kv.2))∧kvs.length≤15∧Q (.ref p) (upd H2 p (.dK (Zd7 [] kvs)))
theorem Zxe{X:Cx}{pos:Pos}{keys:List (Option Expr)}{values:List Expr}{trs:List (TE×TE)}(h:PPs X pos keys values trs)(hall:keys.all (·.isSome)=true)(hl:keys.length=values.length)(h0:keys≠[])
  (h15:keys.length≤15):PE X (.Dict keys values pos) (Z53 trs):=by
 intro pins s σ H Q I q
 have hn:=I.hok.fresh (XQ s.heap.objs.size)
 have I1:=I.laid (a:=s.heap.objs.size) (o:=.dK []) (h':=s.heap.push { cls:=.type "dict",data:=.dict #[] }) (t':=s.toks) (λ_ _ q=>Xh _ q) (XQ _) (Zr7 s.heap I.big)
 refine wpAny_Dict_walk (knd:=Wq X.prog X.w) hall hl h0 h15 (thn (h pins _ σ _ _ I1 (q _ hn)) λws s2 ⟨ps,H2,I2,rel,e,kvs,ep,lk,q2⟩=>?_)
 subst ep
 obtain⟨rs,c,rk⟩:=Zgk (P:=X.prog) (w:=X.w) rel
 obtain⟨z,hd,vs0,r0,dd⟩:=Zyj I2.hok e
 cases r0
 refine⟨rs,c,dd,λh' dd' hs=>⟨.ref s.heap.objs.size,_,?_,rfl,q2⟩⟩
 have hz:(Zd7 [] kvs).length≤Xi:=by
  have h1:=Zdg kvs []
  rw[List.length_nil]at h1
  rw[Qe];omega
 have he:∃q,h'.get? s.heap.objs.size=some q:=let⟨q,_,_,hq,_⟩:=dd';⟨q,hq⟩
 exact Zju I2 (by rw[e];exact U9) hs he (Zs1 hz hd (rk.merge .nil) dd')
structure M1(X:Cx)(o:Expr)(m:Str)(apos:Pos)(e:Expr)(cpos:Pos):Prop where
 base:Vd o m X.env (eval o X.env)=eval o X.env
 few:((Q6 cpos (Xj [e] X.env)).all (λx=>!x.1)&&(backToKw cpos (VL [] X.env)).all (λx=>x.1.isSome)
  &&decide (([e]:List Expr).length+([]:List Vb).length+(if([]:List Vb).isEmpty then 0 else 1)<30))=true
 line:(apos.endLine==cpos.line)=true
 trees:Q6 cpos (Xj [e] X.env)=[(false,eval e X.env)]
structure M2(X:Cx)(o:Expr)(m:Str)(apos:Pos)(e f:Expr)(cpos:Pos):Prop where
 base:Vd o m X.env (eval o X.env)=eval o X.env
 few:((Q6 cpos (Xj [e,f] X.env)).all (λx=>!x.1)&&(backToKw cpos (VL [] X.env)).all (λx=>x.1.isSome)
  &&decide (([e,f]:List Expr).length+([]:List Vb).length+(if([]:List Vb).isEmpty then 0 else 1)<30))=true
 line:(apos.endLine==cpos.line)=true
 trees:Q6 cpos (Xj [e,f] X.env)=[(false,eval e X.env),(false,eval f X.env)]
noncomputable def IsD(H:Hp)(a:Addr):Prop:=(∃kvs,Rd H a (.dK kvs))∨∃kvs,Rd H a (.dT kvs)
section
variable {X:Cx}{pins:List (Addr×Obj)}{σ:St}{H:Hp}{s:Xf}{a:Addr}{y d:V}{u r:Xc}{o:Option V}{A:Qt}{E:Xc->Xf->Prop}
end
section
variable {X:Cx}{o e f:Expr}{apos cpos:Pos}{td ty tx:TE}
end
variable {G:Xb}
noncomputable def Zf1:Xa->Option Key
 | .int i=>some (.inl i)
 | .str x=>some (.inr x)
 | _=>none
noncomputable def Zi0:List Xa->Option (List Key)
 | []=>some []
 | d :: ds=>(Zf1 d).bind λk=>(Zi0 ds).bind λks=>some (k :: ks)
noncomputable def Zh3:Xa->Option KY
 | .tuple ds=>(Zi0 ds).map .inr
 | d=>(Zf1 d).map .inl
noncomputable def Zn9:KY->Bool
 | .inl _=>false
 | .inr _=>true
theorem Zva(k:Key):Zf1 (Z0q k)=some k:=by cases k<;>rfl
theorem Zvf(ks:List Key):Zi0 (ks.map Z0q)=some ks:=by
 induction ks with
 | nil=>rfl
 | cons k ks ih=>rw[X6,Zi0,Zva,ih];rfl
theorem Z0t(k:KY):Zh3 (kyD k)=some k:=by
 cases k with
 | inl k=>cases k<;>rfl
 | inr ks=>show(Zi0 (ks.map Z0q)).map (V0:List Key->KY)=_;rw[Zvf];rfl
noncomputable def Ztj(k:KY):List KY->List Xa->Option Xa
 | [],_=>none
 | _ :: _,[]=>none
 | j :: ks,d :: ds=>if j=k then some d else Ztj k ks ds
noncomputable def Z40(k:KY)(x:Xa):List KY->List Xa->List Xa
 | [],ds=>ds
 | _ :: _,[]=>[]
 | j :: ks,d :: ds=>(if j=k then x else d) :: Z40 k x ks ds
noncomputable def Zs9(k:KY)(ks:List KY):Bool:=ks.any λj=>decide (j=k)
noncomputable def Zot(k:KY)(ks:List KY):List KY:=if Zs9 k ks=true then ks else ks ++ [k]
noncomputable def Zo4(k:KY)(x:Xa)(ks:List KY)(ds:List Xa):List Xa:=if Zs9 k ks=true then Z40 k x ks ds else ds ++ [x]
section
variable {H:Hp}{L:Addr->Prop}{κ:Type}[DecidableEq κ]{f:κ->KY}
noncomputable def Z56(G:Xb)(H:Hp)(L:Addr->Prop)(a:Option V)(b:Option Xa):Prop:=(∃v d,a=some v∧b=some d∧Da G H L v d)∨(a=none∧b=none)
theorem look(hf:∀a b,f a=f b->a=b)(k:κ)(kvs:List (κ×V)):∀ds,Das G H L (kvs.map (·.2)) ds->Z56 G H L (Zll kvs k) (Ztj (f k) (kvs.map λp=>f p.1) ds):=by
 induction kvs with
 | nil=>exact λds _=>.inr ⟨rfl,rfl⟩
 | cons p kvs ih=>
  intro ds h
  cases h with
  | cons h r=>
   rename_i d ds
   show Z56 G H L _ (if f p.1=f k then some d else Ztj (f k) (kvs.map λp=>f p.1) ds)
   by_cases e:p.1=k
   ·rw[Zek e,if_pos (congrArg f e)]
    exact .inl ⟨_,_,rfl,rfl,h⟩
   ·rw[Zei e,if_neg λz=>e (hf _ _ z)]
    exact ih _ r
theorem Z69(hf:∀a b,f a=f b->a=b)(k:κ)(kvs:List (κ×V)):(kvs.any λkv=>decide (kv.1=k))=Zs9 (f k) (kvs.map λp=>f p.1):=by
 unfold Zs9
 rw[List.any_map]
 refine congrArg (List.any kvs) (funext λp=>?_)
 exact decide_eq_decide.mpr ⟨congrArg f,hf _ _⟩
theorem Yal(k:κ)(v:V)(kvs:List (κ×V)):(kvs.map (λkv=>if kv.1=k then(kv.1,v)else kv)).map (λp=>f p.1)=kvs.map λp=>f p.1:=by
 rw[Q5]
 refine QR λp _=>?_
 show f (if p.1=k then(p.1,v)else p).1=f p.1
 by_cases c:p.1=k
 ·rw[if_pos c]
 ·rw[if_neg c]
theorem Yak(hf:∀a b,f a=f b->a=b)(k:κ){v:V}{x:Xa}(hv:Da G H L v x)(kvs:List (κ×V)):∀ds,Das G H L (kvs.map (·.2)) ds->Das G H L ((kvs.map (λkv=>if kv.1=k then(kv.1,v)else kv)).map (·.2)) (Z40 (f k) x (kvs.map λp=>f p.1) ds):=by
 induction kvs with
 | nil=>intro ds h;cases h;exact .nil
 | cons p kvs ih=>
  intro ds h
  cases h with
  | cons h r=>
   rename_i d ds
   refine .cons ?_ (ih _ r)
   show Da G H L (if p.1=k then(p.1,v)else p).2 (if f p.1=f k then x else d)
   by_cases e:p.1=k
   ·rw[if_pos e,if_pos (congrArg f e)];exact hv
   ·rw[if_neg e,if_neg λz=>e (hf _ _ z)];exact h
theorem Zk2(hf:∀a b,f a=f b->a=b)(k:κ)(v:V)(kvs:List (κ×V)):(putK kvs k v).map (λp=>f p.1)=Zot (f k) (kvs.map λp=>f p.1):=by
 unfold putK Zot
 rw[Z69 hf]
 cases c:Zs9 (f k) (kvs.map λp=>f p.1)with
 | true=>rw[if_pos rfl,if_pos rfl,Yal]
 | false=>rw[if_neg Xq,if_neg Xq,QT];rfl
theorem Zki(hf:∀a b,f a=f b->a=b)(k:κ){v:V}{x:Xa}(hv:Da G H L v x)(kvs:List (κ×V)){ds:List Xa}(h:Das G H L (kvs.map (·.2)) ds):Das G H L ((putK kvs k v).map (·.2)) (Zo4 (f k) x (kvs.map λp=>f p.1) ds):=by
 unfold putK Zo4
 rw[Z69 hf]
 cases c:Zs9 (f k) (kvs.map λp=>f p.1)with
 | true=>rw[if_pos rfl,if_pos rfl];exact Yak hf k hv kvs _ h
 | false=>rw[if_neg Xq,if_neg Xq,QT];exact h.snoc hv
end
theorem Zjq:∀a b:Key,(Uy a:KY)=Uy b->a=b:=λ_ _ h=>Sum.inl.inj h
theorem Zj1:∀a b:List Key,(V0 a:KY)=V0 b->a=b:=λ_ _ h=>V0.inj h
section
variable {H:Hp}{L:Addr->Prop}{y:V}{e:Xa}
theorem Da.key1{k:Key}(h:Da G H L y e)(hk:Zf1 e=some k):y=kV k:=by
 cases h with
 | int i=>cases hk;rfl
 | str x=>cases hk;rfl
 | exc _ _ _=>unfold exD Zf1 at hk;cases hk
 | fn _=>unfold fnD Zf1 at hk;cases hk
 | dic _ _ _ _=>unfold dcD Zf1 at hk;cases hk
 | _=>cases hk
theorem Das.keys{xs:List V}{ds:List Xa}(h:Das G H L xs ds):∀ks,Zi0 ds=some ks->xs=ks.map kV :=
 Das.ind (Q:=λxs ds=>∀ks,Zi0 ds=some ks->xs=ks.map kV) (λks h=>by cases h;rfl) (fun{x xs d ds} h _ ih ks hk=>by
  rw[Zi0]at hk
  obtain⟨k,h1,hk⟩:=bs hk
  obtain⟨ks',h2,hk⟩:=bs hk
  cases hk
  rw[h.key1 h1,ih _ h2];rfl) h
theorem Da.keyT{ks:List Key}(h:Da G H L y e)(hk:Zh3 e=some (.inr ks)):∃b,y= .ref b∧H b=some (.tup (ks.map kV)):=by
 cases h with
 | tup e1 r=>
  rw[Zh3]at hk
  obtain⟨ks',h1,h2⟩:=XM.mp hk
  cases h2
  exact⟨_,rfl,by rw[←r.keys _ h1];exact e1⟩
 | exc _ _ _=>unfold exD Zh3 Zf1 at hk;cases hk
 | fn _=>unfold fnD Zh3 Zf1 at hk;cases hk
 | dic _ _ _ _=>unfold dcD Zh3 Zf1 at hk;cases hk
 | _=>cases hk
theorem Da.keyS{k:Key}(h:Da G H L y e)(hk:Zh3 e=some (.inl k)):y=kV k:=by
 refine h.key1 ?_
 unfold Zh3 at hk
 split at hk
 ·obtain⟨_,_,z⟩:=XM.mp hk;cases z
 ·obtain⟨_,h1,z⟩:=XM.mp hk;cases z;exact h1
noncomputable def Zf4(k:KY):List (Xa×Xa)->Option Xa
 | []=>none
 | p :: r=>if Zh3 p.1=some k then some p.2 else Zf4 k r
theorem Zfo(k:KY)(ks:List KY):∀ds,Zf4 k ((ks.map kyD).zip ds)=Ztj k ks ds:=by
 induction ks with
 | nil=>intro ds;rfl
 | cons j ks ih=>
  intro ds
  cases ds with
  | nil=>rfl
  | cons d ds=>
   show(if Zh3 (kyD j)=some k then some d else Zf4 k ((ks.map kyD).zip ds))=if j=k then some d else Ztj k ks ds
   rw[Z0t,ih]
   by_cases c:j=k
   ·rw[if_pos c,if_pos (congrArg some c)]
   ·rw[if_neg c,if_neg λz=>c (Qz z)]
theorem Da.dget{x:V}{t:Bool}{kvs:List (Xa×Xa)}{k:KY}(h:Da G H L x (.dict ((.none,.bool t) :: kvs)))(hy:Da G H L y e)(hk:Zh3 e=some k)(ht:Zn9 k=t):∃a o,x= .ref a∧IsD H a∧DGet H a y o∧Z56 G H L o (Zf4 k kvs):=by
 generalize ed:Xa.dict ((.none,.bool t) :: kvs)=d at h
 cases h with
 | dic l r dk q=>
  rename_i a o t' ks xs ds
  unfold dcD at ed
  injection ed with ed
  injection ed with e1 e2
  injection e1 with _ e1
  injection e1 with e1
  subst e1 e2
  rw[Zfo]
  cases o with
  | lst _=>exact dk.elim
  | dK kv=>
   obtain⟨rfl,rfl,rfl⟩:=dk
   cases k with
   | inr _=>cases ht
   | inl k=>exact⟨a,_,rfl,.inl ⟨kv,r⟩,.inl ⟨kv,k,r,hy.keyS hk,rfl⟩,look Zjq k kv _ q⟩
  | dT kv=>
   obtain⟨rfl,rfl,rfl⟩:=dk
   cases k with
   | inl _=>cases ht
   | inr k=>
    obtain⟨b,hb,eb⟩:=hy.keyT hk
    exact⟨a,_,rfl,.inr ⟨kv,r⟩,.inr ⟨kv,k,b,r,hb,eb,rfl⟩,look Zj1 k kv _ q⟩
 | exc _ _ _=>unfold exD at ed;cases ed
 | fn _=>unfold fnD at ed;cases ed
 | _=>cases ed
end
variable {G:Xb}
section
variable {X:Cx}{io:List Nat}{p c p' c':Bool}{a b e f o:Expr}{ma mb m mi mo me mf:MEt}{pos pp apos cpos px:Pos}{i:Nat}{x:Str}
theorem hu1{n:Nat}(h:n+64<Ur):n+1<Ur:=Nat.lt_of_le_of_lt (Nat.add_le_add_left (by decide:1≤64) _) h
noncomputable def Zkp:Xa->Xa->Option OT:=λd e=>match d with
 | .dict ((.none,.bool t) :: kvs)=>(Zh3 e).bind λk=>if Zn9 k=t then(Zf4 k kvs).map OT.fz else none
 | _=>none
noncomputable def Z4n:Xa->Xa->(OT->Prop)->Prop:=λd e k=>∃r,Zkp d e=some r∧k r
noncomputable def Z6z:R2:=λx y H Q=>∃a v,x= .ref a∧DGet H a y (some v)∧Q v H
theorem Zrn:ByO Zkp Z4n:=λ_ _ r _ h hk=>⟨r,h,hk⟩
theorem Zy1:P2 G Z6z Z4n:=λH L x y d e k Q hx hy h kk=>by
 obtain⟨r,h,hk⟩:=h
 unfold Zkp at h
 split at h
 case h_2=>cases h
 rename_i t kvs
 obtain⟨ky,h1,h⟩:=bs h
 by_cases ht:Zn9 ky=t
 ·rw[if_pos ht]at h
  obtain⟨a,o,rfl,_,g,R⟩:=hx.dget hy h1 ht
  obtain⟨z,hz,rfl⟩:=XM.mp h
  rcases R with⟨v,d,rfl,hd,q⟩|⟨_,hd⟩
  ·rw[hz]at hd
   cases hd
   exact⟨a,v,rfl,g,kk H v (.fz z) [] (Same.refl _) (.fz (q.wide λa l _=>⟨.inl l,λm=>nomatch m⟩)) .nil (λa m=>nomatch m) hk⟩
  ·rw[hz]at hd;cases hd
 ·rw[if_neg ht]at h;cases h
theorem Zq7(hu:X.A.units+64<Ur)(ha:ME X io p c a ma)(hb:ME X io p' c' b mb)(hc:p'=true∨c=true:=by first|exact QG rfl|exact Qo rfl)(hs:Z6t b):ME X io (p&&p') (c&&c') (.Subscript a b pos) (Z1o Z4n ma mb):=by
 obtain⟨_,A,sa⟩:=ha
 obtain⟨_,B,sb⟩:=hb
 exact⟨_,Zve (hu1 hu) A B hs,Z46 (r:=Z6z) Zy1 sa sb hc⟩
theorem Rel.ownDc{C:MC G}{H:Hp}{σ:St}{δ:Zf}{fp:Fp}{ex:Addr->Prop}{t:Bool}{ks:List KY}{ds:List Xa}(R:Rel C io H σ δ fp ex)(hi:δ[i]? =some (some (.dc t ks ds))) :
  ∃a' ob xs,σ[i]? =some (some (.ref a'))∧H a'=some (MuO.ho ob)∧ob.dic t ks xs∧Das G H (Lf C fp ex) xs ds∧fp i=[a']:=by
 obtain⟨v,e,o⟩:=R.own i _ hi
 generalize hf:fp i=as at o
 cases o with
 | dc h k r=>exact⟨_,_,_,e,h,k,r,rfl⟩
theorem Rel.topD{C:MC G}{H:Hp}{σ:St}{δ:Zf}{fp:Fp}{ex:Addr->Prop}{t:Bool}{ks ks':List KY}{ds ds':List Xa}{a':Addr}{ob ob':MuO}{ys:List V}(R:Rel C io H σ δ fp ex)(hi:δ[i]? =some (some (.dc t ks ds)))(hv:σ[i]? =some (some (.ref a')))
  (hf:fp i=[a']) (hx:H a'=some ob.ho) (dk:ob'.dic t ks' ys) (o:Das G H (Lf C fp ex) ys ds') :
  Rel C io (upd H a' ob'.ho) σ (δ.set i (some (.dc t ks' ds'))) (fpu fp i [a']) ex∧Stp false H δ fp (upd H a' ob'.ho) (δ.set i (some (.dc t ks' ds'))) (fpu fp i [a']):=by
 have hm:a'∈fp i:=by rw[hf];exact .head _
 have ne':∀a,¬Foot fp a->a≠a':=λa h z=>h ⟨i,by rw[z];exact hm⟩
 have kp:∀b o,H b=some o->b≠a'->upd H a' ob'.ho b=some o:=λb o e n=>by rw[Zm n];exact e
 have sub:∀a,a∈[a']->a∈fp i:=λa m=>by rw[hf];exact m
 have o':Das G (upd H a' ob'.ho) (Lf C (fpu fp i [a']) (exu ex [])) ys ds':=by
  have f0:∀a,¬Foot fp a->¬Foot (fpu fp i [a']) a:=λa h z=>by
   rcases z.of_u with z|⟨j,_,z⟩
   ·exact h ⟨i,sub a z⟩
   ·exact h ⟨j,z⟩
  refine o.frame (λa zs l q=>⟨⟨f0 a l.1,λz=>l.2.1 (Za3.mp z),l.2.2⟩,?_⟩) λa zs q=>kp a _ q λz=>ImO.nm q (z▸hx)
  rcases q with q|⟨u,q⟩
  ·exact .inl (kp a _ q (ne' a l.1))
  ·exact .inr ⟨u,kp a _ q (ne' a l.1)⟩
 have key:=R.change (new:=[]) (as':=[a']) (t':=.dc t ks' ds') (H':=upd H a' ob'.ho) hi hv (λb o e nb=>kp b o e λz=>nb (by rw[z];exact hm)) (λb e=>by
   by_cases q:b=a'
   ·subst q;rw[Zq]at e;cases e
   ·rwa[Zm q]at e) (.dc Zq dk o') (Ze4 a') (λa m=>.inl (sub a m)) (λa m=>nomatch m)
 exact⟨key.1.drop λa z=>.inl z,key.2⟩
noncomputable def Z0v(i:Nat)(m mi:MEt):MSt:=λD δ=>m δ λr δ1=>match δ1[i]? with
 | some (some (.dc t ks ds))=>mi δ1 λn _=>match Zh3 n.data with
  | some k=>(Zn9 k=t∧ks.length<Xi)∧D.nx (δ1.set i (some (.dc t (Zot k ks) (Zo4 k r.data ks ds))))
  | none=>False
 | _=>False
theorem Zvk(i:Nat)(hu:X.A.units+64<Ur)(he:ME X io p true e m)(hj:ME X io true c a mi)(hN:X.N[i]? =some x:=by rfl)(hv:Vis X.env.scope x:=by first|exact QG rfl|exact Qo (QG rfl)|exact Qo (Qo rfl))(hd:(x==("__debug__" : Str))=false:=by decide)
  (hcd:(x==("__classdict__" : Str))=false:=by decide)
  (hs:Bc e (some (.Subscript (.Name x px) a pp)) pos.line X.env=pure false:=by rfl):MS X io (.Assign [.Subscript (.Name x px) a pp] e pos) (Z0v i m mi):=by
 obtain⟨_,A,s⟩:=he
 obtain⟨_,B,sj⟩:=hj
 refine⟨_,Zud (hu1 hu) (pv i hN hv hd hcd) B A hs,λC H σ δ fp ex D D' R h E=>?_⟩
 refine s C H σ δ fp ex _ _ R h λH1 v r δ1 fp1 new r1 h1=>?_
 have R1:=r1.base
 have q:=(r1.da R).wide (L':=Lf C fp1 ex) λa l _=>l rfl
 split at h1
 case h_2=>exact h1.elim
 rename_i t ks ds hi
 obtain⟨a',_,_,hv0,_⟩:=R1.ownDc hi
 refine⟨_,hv0,?_⟩
 refine sj.pureAfter R1 h1 λH2 w n R2 s2 q2 h2=>?_
 split at h2
 case h_2=>exact h2.elim
 rename_i k hk
 obtain⟨⟨ht,hl⟩,h2⟩:=h2
 obtain⟨a2,ob,xs,hv2,hx,dk,o,hf⟩:=R2.ownDc hi
 rw[hv0]at hv2
 cases hv2
 have q':=q.same s2
 have kpp:Kp H1 fp1 H2 fp1:=⟨λb o e _=>s2 _ _ e,λz=>(nomatch z),λa z=>.inl z,s2.al⟩
 cases ob with
 | lst _=>exact dk.elim
 | dK kv=>
  obtain⟨rfl,rfl,rfl⟩:=dk
  rw[Xg]at hl
  cases k with
  | inr _=>cases ht
  | inl k=>
   obtain⟨R3,S3⟩:=R2.topD (ob':=.dK (putK kv k v)) hi hv0 hf hx ⟨rfl,(Zk2 Zjq k v kv).symm,rfl⟩ (Zki Zjq k q' kv o)
   exact⟨a',_,rfl,.inl ⟨kv,k,hx,q2.keyS hk,hl,rfl⟩,E.nx _ σ _ _ R3 (r1.stp.kp.trans (Kp.trans kpp S3.kp)) h2⟩
 | dT kv=>
  obtain⟨rfl,rfl,rfl⟩:=dk
  rw[Xg]at hl
  cases k with
  | inl _=>cases ht
  | inr k=>
   obtain⟨b',hb,eb⟩:=q2.keyT hk
   obtain⟨R3,S3⟩:=R2.topD (ob':=.dT (putK kv k v)) hi hv0 hf hx ⟨rfl,(Zk2 Zj1 k v kv).symm,rfl⟩ (Zki Zj1 k q' kv o)
   exact⟨a',_,rfl,.inr ⟨kv,k,b',hx,hb,eb,hl,rfl⟩,E.nx _ σ _ _ R3 (r1.stp.kp.trans (Kp.trans kpp S3.kp)) h2⟩
noncomputable def Zio(i:Nat)(e j:FE):FS:=wE e λr δ1=>match δ1[i]? with
 | some (some (.dc t ks ds))=>wE j (λn _=>match Zh3 n.data with
  | some k=>if Zn9 k=t∧ks.length<Xi then .nx (δ1.set i (some (.dc t (Zot k ks) (Zo4 k r.data ks ds))))else .bad
  | none=>.bad) δ1
 | _=>.bad
theorem Zup{fa fb:FE}{st:Stmt}(h:MS X io st (Z0v i (o2 fa) (o2 fb))):MS X io st (oS (Zio i fa fb)):=h.weak λD δ h=>by
 refine(Zmm h).imp λr δ' z=>?_
 split at z
 case h_2=>exact z.elim
 rename_i q;(try rw[q])
 refine(Zmm z).imp λn δ2 z=>?_
 split at z
 case h_2=>exact z.elim
 rename_i k q2;(try rw[q2])
 exact Za8 z
end
variable {G:Xb}
noncomputable def J0:Xa->Xa->Option Xa:=λd e=>match d,e with| .str x,.str y=>if x.length+y.length≤Xi then some (.str (x ++ y))else none|_,_=>none
noncomputable def Zya:Xa->Xa->(Xa->Prop)->Prop:=λd e k=>∃r,J0 d e=some r∧k r
theorem Zdf:ByS J0 Zya:=λ_ _ r _ h hk=>⟨r,h,hk⟩
theorem Za1:P2s G (λx y H Q=>∃i j,x= .str i∧y= .str j∧i.length+j.length≤Xi∧Q (.str (i ++ j)) H) Zya:=λH L x y d e k Q hx hy h kk=>by
 obtain⟨r,h,hk⟩:=h
 unfold J0 at h
 split at h
 case h_2=>cases h
 rename_i i j
 cases hx
 cases hy
 by_cases c:i.length+j.length≤Xi
 ·rw[if_pos c]at h
  cases h
  exact⟨i,j,rfl,rfl,c,kk _ _ (.str _) hk⟩
 ·rw[if_neg c]at h;cases h
noncomputable def Zfv:Xa->Xa->Option OT:=λd e=>match d,e with| .str x,.int i=>if x.length≤Xi then(atI x.cps.toList i).map λc=>.fz (.str ⟨#[c]⟩)else none|_,_=>none
noncomputable def Z81:Xa->Xa->(OT->Prop)->Prop:=λd e k=>∃r,Zfv d e=some r∧k r
theorem Zj0:ByO Zfv Z81:=λ_ _ r _ h hk=>⟨r,h,hk⟩
theorem Zfd:P2 G (rIx G) Z81:=λH L x y d e k Q hx hy h kk=>by
 obtain⟨r,h,hk⟩:=h
 unfold Zfv at h
 split at h
 case h_2=>cases h
 rename_i z i
 cases hx
 cases hy
 by_cases c:z.length≤Xi
 ·rw[if_pos c]at h
  obtain⟨ch,h1,rfl⟩:=XM.mp h
  exact .inr (.inr ⟨z,i,ch,rfl,rfl,c,h1,kk H _ (.fz (.str ⟨#[ch]⟩)) [] (Same.refl _) (.fz (.str _)) .nil (λa m=>nomatch m) hk⟩)
 ·rw[if_neg c]at h;cases h
end L2
namespace L2
open PySem PySem.Spec PyProof.Rows PySem.W PySem.SeqAt
variable {G:Xb}
section
variable {prog:X4}{w:Qv}{A:Qt}{E:Xc->Xf->Prop}{s:Xf}
end
theorem UT.at{α β:Type}{R:α->β->Prop}{as:List α}{bs:List β}(h:PySem.Paired R as bs):∀{i:Nat} {y:β},bs[i]? =some y->∃x,as[i]? =some x∧R x y:=by
 induction h with
 | nil=>intro i y z;cases z
 | cons h t ih=>
  intro i y z
  cases i with
  | zero=>cases z;exact⟨_,rfl,h⟩
  | succ i=>exact ih z
end L2
namespace L2
open PySem PySem.Spec PyProof.Rows
variable {G:Xb}
noncomputable def Zil{α:Type}(xs:List α)(k:Nat)(y:α):List α:=xs.take k ++ y :: xs.drop k
noncomputable def Zv6:V->List V->Hp->VK->Prop:=λx vs H Q=>∃(l:Addr) (xs:List V) (i:Int) (y:V),x= .ref l∧vs=[.int i,y]∧H l=some (.lst xs)∧0≤i∧i≤xs.length∧xs.length<Xi∧Q .non (upd H l (.lst (Zil xs i.toNat y)))
theorem Zpx{X:Cx}:MtM X "list.insert" Zv6:=by
 intro pins s σ H x vs v us Q I rx rv h
 obtain⟨l,xs,i,y,rfl,rfl,hH,h0,h1,hz,q⟩:=h
 cases rx
 obtain⟨a,b,rfl,ra,rb⟩:=vals2 rv
 obtain⟨t,rfl⟩:=(show∃t,a=UL i t from ra)
 obtain⟨z,its,n,r,hl,e⟩:=I.lstM hH
 have hs:Xi=16777216:=Qe
 have fi:¬(!Builtin.List.listFitsIndex i)=true:=by
  have:Builtin.List.listFitsIndex i=true:=fitsIndex_both (by omega) (by omega)
  rw[this];exact Xq
 refine call_meets F.slot_list_insert ⟨_,e,rfl⟩ F.entry_list_insert (F.args_list_insert_3 _ _ _) (AutoListH.list_insert_list_int_val_1 l its.toArray n i t b fi (by rw[Xr];omega)) ⟨e,?_⟩
 refine⟨.non,_,I.lset (its':=Zil its i.toNat b) hH e ?_ ((r.take i.toNat).append (.cons rb (r.drop i.toNat))) ?_,rfl,q⟩
 ·have k:(if i<0 then(i+(its.toArray.size:Int)).toNat else min i.toNat its.toArray.size)=i.toNat:=by
   rw[if_neg (by omega),Xr];omega
  show((its.toArray.extract 0 (if i<0 then(i+(its.toArray.size:Int)).toNat else min i.toNat its.toArray.size)).push b ++ its.toArray.extract (if i<0 then(i+(its.toArray.size:Int)).toNat else min i.toNat its.toArray.size))=(Zil its i.toNat b).toArray
  rw[k]
  apply Array.toList_inj.mp
  unfold Zil
  simp[Array.toList_extract]
  exact List.take_of_length_le (by rw[Bq];exact XQ _)
 ·rw[Xo,JH,Bp,Bq];omega
theorem Owns.ins{H:Hp}{L:Addr->Prop}{x:V}{r:OT}(hr:Own G H L x r []):∀(k:Nat) {xs:List V} {ts:List OT} {as:List Addr},Owns G H L xs ts as->Owns G H L (Zil xs k x) (Zil ts k r) as
 | 0,_,_,_,h=>.cons hr h
 | k+1,_,_,_,.nil=>.cons hr .nil
 | k+1,_,_,_,.cons h t=>.cons h (Owns.ins hr k t)
section
variable {X:Cx}{io:List Nat}{p c:Bool}{e f:Expr}{mr:MAt}{pos apos cpos px:Pos}{x:Str}{st:Stmt}{ra:FA}
noncomputable def Zg3(i:Nat)(mr:MAt):MSt:=λD δ=>match δ[i]? with
 | some (some (.nd _))=>mr δ λrs δ1=>match OT.datas rs,δ1[i]? with
  | [.int k,d],some (some (.nd ts))=>(0≤k∧k≤ts.length∧ts.length<Xi)∧D.nx (δ1.set i (some (.nd (Zil ts k.toNat (.fz d)))))
  | _,_=>False
 | _=>False
theorem Zo3(i:Nat)(ha:MA X io p true [e,f] mr)(hN:X.N[i]? =some x:=by rfl)(hv:Vis X.env.scope x:=by first|exact QG rfl|exact Qo (QG rfl)|exact Qo (Qo rfl))(hd:(x==("__debug__" : Str))=false:=by decide)
  (hcd:(x==("__classdict__" : Str))=false:=by decide)
  (hbase:Vd (.Name x px) "insert" X.env (eval (.Name x px) X.env)=eval (.Name x px) X.env:=by rfl)
  (hfew:((Q6 cpos (Xj [e,f] X.env)).all (λx=>!x.1)&&(backToKw cpos (VL [] X.env)).all (λx=>x.1.isSome)
   &&decide ([e,f].length+([]:List Vb).length+(if([]:List Vb).isEmpty then 0 else 1)<30))=true:=by rfl)
  (hline:(apos.endLine==cpos.line)=true:=by rfl) (hs:Xj [e,f] X.env=(false,eval e X.env) :: Xj [f] X.env:=by rfl) (hplain:(Q6 cpos (Xj [f] X.env)).any (·.1)=false:=by rfl)
  (hsw:Bc (.Call (.Attribute (.Name x px) "insert" apos) [e,f] [] cpos) none pos.line X.env=pure false:=by rfl) :
  MS X io (.Expr (.Call (.Attribute (.Name x px) "insert" apos) [e,f] [] cpos) pos) (Zg3 i mr):=by
 obtain⟨_,A,s⟩:=ha
 refine⟨_,Zfa (Zoy Vp PySem.F.slot_list_insert PySem.F.type_list_insert Zpx (pv i hN hv hd hcd) A hbase hfew hline hs hplain) hsw,λC H σ δ fp ex D D' R h E=>?_⟩
 unfold Zg3 at h
 split at h
 case h_2=>exact h.elim
 rename_i ts0 hi0
 obtain⟨a',xs0,bs0,hv0,hx0,_,_⟩:=R.ownNd hi0
 refine⟨_,hv0,.inl ⟨rfl,xs0,.inl (.inl hx0)⟩,?_⟩
 refine s C H σ δ fp ex _ _ R h λH1 vs rs δ1 fp1 new r1 h1=>?_
 have q0:=r1.das R
 split at h1
 case h_2=>exact h1.elim
 rename_i k d ts1 ed hi1
 have R1:=r1.base
 obtain⟨a1,xs1,bs1,hv1,hx1,o1,hf1⟩:=R1.ownNd hi1
 rw[hv0]at hv1
 cases hv1
 rw[ed]at q0
 cases q0 with
 | cons qk q0=>
  cases q0 with
  | cons qd q0=>
   cases q0
   cases qk
   have q:=qd.wide (L':=Lf C fp1 ex) λa l _=>l rfl
   obtain⟨⟨k0,k1,k2⟩,h1⟩:=h1
   rw[←o1.length]at k1 k2
   refine⟨a',xs1,k,_,rfl,rfl,hx1,k0,k1,k2,?_⟩
   obtain⟨R2,S2⟩:=R1.top hi1 hv0 hf1 hx1 (Owns.ins (.fz q) k.toNat o1) (List.Sublist.refl _)
   exact E.nx _ σ _ _ R2 (r1.stp.kp.trans S2.kp) h1
noncomputable def Zdn(i:Nat)(as:FA):FS:=λδ=>match δ[i]? with
 | some (some (.nd _))=>match as δ with
  | some (rs,δ1)=>match OT.datas rs,δ1[i]? with
   | [.int k,d],some (some (.nd ts))=>if 0≤k∧k≤ts.length∧ts.length<Xi then .nx (δ1.set i (some (.nd (Zil ts k.toNat (.fz d)))))else .bad
   | _,_=>.bad
  | none=>.bad
 | _=>.bad
theorem Znc{i:Nat}(h:MS X io st (Zg3 i (o2 ra))):MS X io st (oS (Zdn i ra)):=h.weak λD δ h=>by
 unfold oS Zdn at h;unfold Zg3
 split at h
 case h_2=>exact h.elim
 rename_i q;(try rw[q])
 split at h
 case h_2=>exact h.elim
 rename_i rs δ1 er
 refine⟨rs,δ1,er,?_⟩
 split at h
 case h_2=>exact h.elim
 rename_i k d ts ed hi1
 rw[ed,hi1]
 exact Za8 h
end
noncomputable def Z62(o:Option (Option OT))(δ:Zf):Option (OT×Zf):=match o with|some (some (.fz d))=>some (.fz d,δ)|_=>none
theorem Zwd(d:Xa)(δ:Zf):Z62 (some (some (.fz d))) δ=some (.fz d,δ):=rfl
noncomputable def Z08(o:Option (Option OT))(δ:Zf):Option (OT×Zf):=match o with|some (some t)=>some (.fz t.data,δ)|_=>none
theorem Zws(t:OT)(δ:Zf):Z08 (some (some t)) δ=some (.fz t.data,δ):=rfl
theorem Zuo(i:Nat)(δ:Zf):Zc i δ=Z62 δ[i]? δ:=rfl
theorem Zw1(i:Nat)(δ:Zf):Za5 i δ=Z08 δ[i]? δ:=rfl
theorem Z9c(d:Xa)(δ:Zf):fC d δ=some (.fz d,δ):=rfl
theorem Zr3(g:Xa->Xa->Option Xa)(a b:FE)(δ:Zf):Zb g a b δ=(a δ).bind λp=>(b p.2).bind λq=>(g p.1.data q.1.data).bind λd=>some (.fz d,q.2):=rfl
theorem Zwb(g:Xa->Xa->Option OT)(a b:FE)(δ:Zf):Z9 g a b δ=(a δ).bind λp=>(b p.2).bind λq=>(g p.1.data q.1.data).bind λd=>some (d,q.2):=rfl
theorem Z68(g:Xa->Option Xa)(a:FE)(δ:Zf):fUn g a δ=(a δ).bind λp=>(g p.1.data).bind λd=>some (.fz d,p.2):=rfl
noncomputable def onB{α:Type}(d:Xa)(x y:Option α):Option α:=match d with| .bool true=>x| .bool false=>y|_=>none
theorem Z47{α:Type}(x y:Option α):onB (.bool true) x y=x:=rfl
theorem Z5l{α:Type}(x y:Option α):onB (.bool false) x y=y:=rfl
theorem Zoj(a b:FE)(δ:Zf):Zut a b δ=(a δ).bind λp=>onB p.1.data (b p.2) (some (.fz (.bool false),p.2)):=by
 unfold Zut onB
 cases a δ with
 | none=>rfl
 | some p=>first|rfl|(simp only[Xe];done)|(simp only[Xe];generalize p.1.data=d;cases d<;>first|rfl|(rename_i b;cases b<;>rfl))
theorem Z72(a b:FE)(δ:Zf):fOr a b δ=(a δ).bind λp=>onB p.1.data (some (.fz (.bool true),p.2)) (b p.2):=by
 unfold fOr onB
 cases a δ with
 | none=>rfl
 | some p=>first|rfl|(simp only[Xe];done)|(simp only[Xe];generalize p.1.data=d;cases d<;>first|rfl|(rename_i b;cases b<;>rfl))
theorem Z6y(t:FT)(a b:FE)(δ:Zf):fIf t a b δ=(t δ).bind λp=>if p.1=true then a p.2 else b p.2:=rfl
noncomputable def Z6h(t:OT)(δ:Zf):Option (Bool×Zf):=match t with| .fz (.bool b)=>some (b,δ)|_=>none
theorem Z03(b:Bool)(δ:Zf):Z6h (.fz (.bool b)) δ=some (b,δ):=rfl
theorem Z5x(e:FE)(δ:Zf):tV e δ=(e δ).bind λp=>Z6h p.1 p.2:=by
 unfold tV Z6h
 cases e δ with
 | none=>rfl
 | some p=>rfl
theorem Zy7(t:FT)(δ:Zf):tNo t δ=(t δ).bind λp=>some (!p.1,p.2):=rfl
theorem Ztv(t u:FT)(δ:Zf):tAn t u δ=(t δ).bind λp=>if p.1=true then u p.2 else some (false,p.2):=rfl
theorem Z1z(t u:FT)(δ:Zf):tO t u δ=(t δ).bind λp=>if p.1=true then some (true,p.2)else u p.2:=rfl
theorem Z4c(e:FE)(δ:Zf):tD e δ=(e δ).bind λp=>(Zrv p.1.data).bind λb=>some (b,p.2):=rfl
theorem Z35(δ:Zf):Zml δ=some (true,δ):=rfl
theorem Z6e(δ:Zf):Zk δ=some ([],δ):=rfl
theorem Zem(e:FE)(a:FA)(δ:Zf):Zd e a δ=(e δ).bind λp=>(a p.2).bind λq=>some (p.1 :: q.1,q.2):=rfl
theorem Zw2(a:FA)(δ:Zf):Zku a δ=(a δ).bind λp=>if p.1.length≤Xi then some (.fz (.tuple (OT.datas p.1)),p.2)else none:=rfl
theorem Zhb(a:FA)(δ:Zf):Zab a δ=(a δ).bind λp=>if p.1.length≤Xi then some (.nd p.1,p.2)else none:=rfl
theorem Z3s(a:FA)(δ:Zf):Z4l a δ=(a δ).bind λp=>if p.1.length≤Xi then some (.tp p.1,p.2)else none:=rfl
theorem Z3t(e:FE)(δ:Zf):Z4h e δ=(e δ).bind λp=>if Zaq p.1.data=true then some (.fz p.1.data,p.2)else none:=rfl
theorem Z0p(e:FE)(δ:Zf):Z2t e δ=(e δ).bind λp=>if Zvx p.1=true then some (p.1,p.2)else none:=rfl
noncomputable def okO(x:RF)(δ:Zf):Option (OT×Zf):=match x with| .ok r=>some (r,δ)|_=>none
theorem Zyi(r:OT)(δ:Zf):okO (.ok r) δ=some (r,δ):=rfl
theorem Zr5(F:FD)(a:FA)(δ:Zf):Ys F a δ=(a δ).bind λp=>okO (F (OT.datas p.1)) p.2:=by
 unfold Ys okO
 cases a δ with
 | none=>rfl
 | some p=>rfl
noncomputable def atO{α:Type}(o:Option (Option OT))(k:OT->Option α):Option α:=match o with|some (some t)=>k t|_=>none
theorem Z9e{α:Type}(t:OT)(k:OT->Option α):atO (some (some t)) k=k t:=rfl
theorem Z16(i:Nat)(F:FIO)(a:FA)(δ:Zf):Ztc i F a δ=atO δ[i]? λ_=>(a δ).bind λp=>atO p.2[i]? λt=>(F t (OT.datas p.1)).bind λq=>some (q.1,p.2.set i (some q.2)):=by
 unfold Ztc
 generalize δ[i]? =o
 rcases o with _|_|t
 ·rfl
 ·rfl
 ·show(a δ).bind _=(a δ).bind _
  cases a δ with
  | none=>rfl
  | some p=>
   show(λo:Option (Option OT)=>(match o with|some (some t)=>(F t (OT.datas p.1)).bind λq=>some (q.1,p.2.set i (some q.2))|_=>none)) p.2[i]? =atO p.2[i]? _
   generalize p.2[i]? =o
   rcases o with _|_|t<;>rfl
theorem Zvh(g:List Xa->Option Xa)(a:FA)(δ:Zf):Jb g a δ=(a δ).bind λp=>(g (OT.datas p.1)).bind λd=>some (.fz d,p.2):=rfl
theorem Z02(g:List Xa->Option OT)(a:FA)(δ:Zf):fBl g a δ=(a δ).bind λp=>(g (OT.datas p.1)).bind λd=>some (d,p.2):=rfl
theorem Z5y(T:String)(e:FE)(δ:Zf):Z6a T e δ=(e δ).bind λp=>if Z2z p.1.data=true then none else some (.fz (.bool (Z8u T p.1.data)),p.2):=rfl
theorem Z9l(δ:Zf):oN δ=some (none,δ):=rfl
noncomputable def asInt{α:Type}(d:Xa)(k:Int->Option α):Option α:=match d with| .int i=>k i|_=>none
theorem Zvb{α:Type}(i:Int)(k:Int->Option α):asInt (.int i) k=k i:=rfl
noncomputable def Zqf{α:Type}(d:Xa)(k:List Xa->Option α):Option α:=match d with| .list i=>k i|_=>none
theorem Zou{α:Type}(i:List Xa)(k:List Xa->Option α):Zqf (.list i) k=k i:=rfl
noncomputable def Zxb{α:Type}(d:Xa)(k:List Xa->Option α):Option α:=match d with| .tuple i=>k i|_=>none
theorem Z5b{α:Type}(i:List Xa)(k:List Xa->Option α):Zxb (.tuple i) k=k i:=rfl
theorem Z4y(e:FE)(δ:Zf):oI e δ=(e δ).bind λp=>asInt p.1.data λi=>some (some i,p.2):=by
 unfold oI asInt
 cases e δ with
 | none=>rfl
 | some p=>rfl
theorem Z1k(e:FE)(lo hi:FO)(δ:Zf):fSl e lo hi δ=(e δ).bind λp=>(lo p.2).bind λq=>(hi q.2).bind λr=>Zqf p.1.data λds=>some (.nd ((cutD ds q.1 r.1).map OT.fz),r.2):=by
 unfold fSl Zqf;rfl
theorem Zv3(e:FE)(δ:Zf):Zc2 e δ=(e δ).bind λp=>Zqf p.1.data λds=>some (ds,p.2):=by
 unfold Zc2 Zqf;rfl
theorem Z66(e:FE)(δ:Zf):iTp e δ=(e δ).bind λp=>Zxb p.1.data λds=>some (ds,p.2):=by
 unfold iTp Zxb;rfl
noncomputable def as1{α:Type}(ds:List Xa)(k:Int->Option α):Option α:=match ds with|[.int i]=>k i|_=>none
theorem Z3x{α:Type}(i:Int)(k:Int->Option α):as1 [.int i] k=k i:=rfl
noncomputable def as2{α:Type}(ds:List Xa)(k:Int->Int->Option α):Option α:=match ds with|[.int i,.int j]=>k i j|_=>none
theorem Z5g{α:Type}(i j:Int)(k:Int->Int->Option α):as2 [.int i,.int j] k=k i j:=rfl
theorem Zza(a:FA)(δ:Zf):iRa a δ=(a δ).bind λp=>as1 (OT.datas p.1) λj=>if rOk j=true then some (Zc7 0 j.toNat,p.2)else none:=by
 unfold iRa as1;rfl
theorem Zz5(a:FA)(δ:Zf):iRb a δ=(a δ).bind λp=>as2 (OT.datas p.1) λi j=>if(rOk i&&rOk j)=true then some (Zc7 i (j-i).toNat,p.2)else none:=by
 unfold iRb as2;rfl
theorem Z5f(a:FA)(δ:Zf):Z8h a δ=(a δ).bind λp=>as1 (OT.datas p.1) λj=>if rOk j=true∧j.toNat≤Xi then some (.nd ((Zc7 0 j.toNat).map OT.fz),p.2)else none:=by
 unfold Z8h as1;rfl
theorem Z6j(a b:FE)(δ:Zf):Z8l a b δ=(a δ).bind λp=>(b p.2).bind λq=>asInt q.1.data λk=>if rOk k=true∧k.toNat≤Xi then some (.nd (QC k.toNat (.fz p.1.data)),p.2)else none:=by
 unfold Z8l asInt;rfl
noncomputable def Z3w{α:Type}(ds:List Xa)(k:List Xa->List Xa->Option α):Option α:=match ds with|[.list i,.list j]=>k i j|_=>none
theorem Z7n{α:Type}(i j:List Xa)(k:List Xa->List Xa->Option α):Z3w [.list i,.list j] k=k i j:=rfl
theorem Z28(a:FA)(δ:Zf):Z1u a δ=(a δ).bind λp=>Z3w (OT.datas p.1) λas bs=>some (Zjc as bs,p.2):=by
 unfold Z1u Z3w;rfl
theorem Z7k(i:Nat)(d:Xa)(δ:Zf):gNm i d δ=some (δ.set i (some (.fz d))):=rfl
theorem Z5p(i:Nat)(d:Xa)(δ:Zf):Z93 i d δ=if Zaq d=true then some (δ.set i (some (.fz d)))else none:=rfl
theorem Z86(δ:Zf):gNl [] δ=some δ:=rfl
theorem Z8a(g:FG)(gs:FGs)(d:Xa)(r:List Xa)(δ:Zf):gCn g gs (d :: r) δ=(g d δ).bind (gs r):=rfl
theorem Z83(n:Nat)(gs:FGs)(ds:List Xa)(δ:Zf):gTp n gs (.tuple ds) δ=if ds.length=n then gs ds δ else none:=rfl
theorem Z7c(n:Nat)(gs:FGs)(ds:List Xa)(δ:Zf):gLs n gs (.list ds) δ=if ds.length=n then gs ds δ else none:=rfl
noncomputable def RS.thn(r:RS)(g:FS):RS:=match r with| .nx δ=>g δ|r=>r
theorem Zx9(δ:Zf)(g:FS):(RS.nx δ).thn g=g δ:=rfl
theorem Z2i(r:OT)(δ:Zf)(g:FS):(RS.rt r δ).thn g= .rt r δ:=rfl
theorem Z8k(δ:Zf)(g:FS):(RS.bk δ).thn g= .bk δ:=rfl
theorem Z7z(δ:Zf)(g:FS):(RS.ct δ).thn g= .ct δ:=rfl
theorem Z1c(c:Str)(δ:Zf)(g:FS):(RS.ex c δ).thn g= .ex c δ:=rfl
theorem Zjt(f g:FS)(δ:Zf):Zw f g δ=(f δ).thn g:=rfl
theorem Z7d(δ:Zf):fNx δ= .nx δ:=rfl
theorem Z4p(δ:Zf):Z9g δ= .bk δ:=rfl
theorem Z54(δ:Zf):Z91 δ= .ct δ:=rfl
theorem Z15(c:Str)(δ:Zf):Zae c δ= .ex c δ:=rfl
theorem Z3g(δ:Zf):Z43 δ= .rt (.fz .none) δ:=rfl
noncomputable def onO{α:Type}(o:Option (α×Zf))(k:α->Zf->RS):RS:=match o with|some (r,δ')=>k r δ'|none=>.bad
theorem Yo{α:Type}(r:α)(δ:Zf)(k:α->Zf->RS):onO (some (r,δ)) k=k r δ:=rfl
theorem Zcu(e:FE)(k:OT->Zf->RS)(δ:Zf):wE e k δ=onO (e δ) k:=by
 unfold wE onO
 cases e δ<;>rfl
noncomputable def onF(x:RF)(δ:Zf)(k:OT->Zf->RS):RS:=match x with| .ok r=>k r δ| .exn c=>.ex c δ| .bad=>.bad
theorem Zyw(r:OT)(δ:Zf)(k:OT->Zf->RS):onF (.ok r) δ k=k r δ:=rfl
theorem Zyq(c:Str)(δ:Zf)(k:OT->Zf->RS):onF (.exn c) δ k= .ex c δ:=rfl
theorem Zzh(F:FD)(a:FA)(k:OT->Zf->RS)(δ:Zf):wX F a k δ=onO (a δ) λrs δ1=>onF (F (OT.datas rs)) δ1 k:=by
 unfold wX onO onF
 cases a δ with
 | none=>rfl
 | some p=>rfl
theorem Znm(t:FT)(u w:FS)(δ:Zf):Wu t u w δ=onO (t δ) λb δ'=>if b=true then u δ' else w δ':=by
 unfold Wu onO
 cases t δ<;>rfl
theorem Zu2(it:FI)(g:FG)(u:FS)(δ:Zf):Zaw it g u δ=onO (it δ) λds δ1=>forLoop g u ds δ1:=by
 unfold Zaw onO
 cases it δ<;>rfl
theorem Z3q(r:OT)(δ:Zf):Zh6 r δ= .nx δ:=rfl
theorem Zwa(r:OT)(δ:Zf):Za2 r δ= .rt r δ:=rfl
theorem Z27(r:OT)(δ:Zf):Z44 r δ=if Zaq r.data=true then .rt (.fz r.data) δ else .bad:=rfl
theorem Zul(i:Nat)(r:OT)(δ:Zf):Wt i r δ= .nx (δ.set i (some (.fz r.data))):=rfl
theorem Zr2(i:Nat)(r:OT)(δ:Zf):Zli i r δ=if Zaq r.data=true then .nx (δ.set i (some (.fz r.data)))else .bad:=rfl
theorem Zqt(i:Nat)(r:OT)(δ:Zf):Jo i r δ= .nx (δ.set i (some r)):=rfl
noncomputable def onD(o:Option Zf):RS:=match o with|some δ=>.nx δ|none=>.bad
theorem Z29(δ:Zf):onD (some δ)= .nx δ:=rfl
theorem Z5j(g:FG)(r:OT)(δ:Zf):Z9m g r δ=onD (g r.data δ):=rfl
noncomputable def onT(o:Option (Option OT))(k:OT->RS):RS:=match o with|some (some t)=>k t|_=>.bad
theorem Z0j(t:OT)(k:OT->RS):onT (some (some t)) k=k t:=rfl
theorem Zrr(i:Nat)(δ:Zf):Zb7 i δ=onT δ[i]? λt=>.rt t (δ.set i none):=rfl
theorem Zl4(i:Nat)(u:FS)(δ:Zf):Zaz i u δ=onT δ[i]? λt=>u (δ.set i (some (.fz t.data))):=rfl
noncomputable def onN(o:Option (Option OT))(k:List OT->RS):RS:=match o with|some (some (.nd ts))=>k ts|_=>.bad
theorem Z17(t:List OT)(k:List OT->RS):onN (some (some (.nd t))) k=k t:=rfl
theorem Zlm(i:Nat)(e:FE)(δ:Zf):Yn i e δ=onN δ[i]? λ_=>onO (e δ) λr δ1=>onN δ1[i]? λts=>if ts.length<Xi then .nx (δ1.set i (some (.nd (ts ++ [.fz r.data]))))else .bad:=by
 unfold Yn
 generalize δ[i]? =o
 rcases o with _|_|(_|_|_|_)
 ·rfl
 ·rfl
 ·rfl
 ·show wE e _ δ=onO (e δ) _
  rw[Zcu]
  congr 1
 ·rfl
 ·rfl
theorem Zvw(i:Nat)(e:FE)(δ:Zf):Zk1 i e δ=onN δ[i]? λ_=>onO (e δ) λr δ1=>onN δ1[i]? λts=>if ts.length<Xi then .nx (δ1.set i (some (.nd (ts ++ [r]))))else .bad:=by
 unfold Zk1
 generalize δ[i]? =o
 rcases o with _|_|(_|_|_|_)
 ·rfl
 ·rfl
 ·rfl
 ·show wE e _ δ=onO (e δ) _
  rw[Zcu]
  congr 1
 ·rfl
 ·rfl
noncomputable def onI(d:Xa)(k:Int->RS):RS:=match d with| .int i=>k i|_=>.bad
theorem Z96(i:Int)(k:Int->RS):onI (.int i) k=k i:=rfl
noncomputable def onX(o:Option Nat)(k:Nat->RS):RS:=match o with|some i=>k i|_=>.bad
theorem Z9r(i:Nat)(k:Nat->RS):onX (some i) k=k i:=rfl
theorem Z5t(i:Nat)(e j:FE)(δ:Zf):Z73 i e j δ=onO (e δ) λr δ1=>onN δ1[i]? λts=>onO (j δ1) λn _=>onI n.data λk=>onX (ixN ts.length k) λj=>.nx (δ1.set i (some (.nd (ts.set j (.fz r.data))))):=by
 unfold Z73
 rw[Zcu]
 congr 1
 funext r δ1
 generalize δ1[i]? =o
 rcases o with _|_|(_|_|_|_)
 ·rfl
 ·rfl
 ·rfl
 ·show wE j _ δ1=onO (j δ1) _
  rw[Zcu]
  congr 1
  funext n δ2
  generalize n.data=d
  cases d<;>try rfl
  show(match ixN _ _ with|some j=>_|none=>_)=onX (ixN _ _) _
  generalize ixN _ _=x
  cases x<;>rfl
 ·rfl
 ·rfl
noncomputable def onU(o:Option OT)(k:List OT->RS):RS:=match o with|some (.nd ts)=>k ts|_=>.bad
theorem Yah(t:List OT)(k:List OT->RS):onU (some (.nd t)) k=k t:=rfl
noncomputable def onP(o:Option (Option OT))(k:List OT->RS):RS:=match o with|some (some (.tp ts))=>k ts|_=>.bad
theorem Yaj(t:List OT)(k:List OT->RS):onP (some (some (.tp t))) k=k t:=rfl
theorem Zx5(i c:Nat)(e:FE)(δ:Zf):Ztd i c e δ=onP δ[i]? λts=>onU ts[c]? λus=>onO (e δ) λr _=>if us.length<Xi then .nx (δ.set i (some (.tp (ts.set c (.nd (us ++ [.fz r.data]))))))else .bad:=by
 unfold Ztd
 generalize δ[i]? =o
 rcases o with _|_|(_|_|ts|_)
 ·rfl
 ·rfl
 ·rfl
 ·rfl
 ·show(match ts[c]? with|some (.nd us)=>wE e _ δ|_=>_)=onU ts[c]? _
  generalize ts[c]? =o
  rcases o with _|(_|_|_|_)
  ·rfl
  ·rfl
  ·show wE e _ δ=onO (e δ) _
   rw[Zcu]
  ·rfl
  ·rfl
 ·rfl
noncomputable def on2(ds:List Xa)(k:Xa->Xa->RS):RS:=match ds with|[d,e]=>k d e|_=>.bad
theorem Yaf(d e:Xa)(k:Xa->Xa->RS):on2 [d,e] k=k d e:=rfl
theorem Z4s(i j:Nat)(a:FA)(δ:Zf):Z8d i j a δ=onO (a δ) λrs δ1=>on2 (OT.datas rs) λd e=>.nx ((δ1.set i (some (.fz d))).set j (some (.fz e))):=by
 unfold Z8d onO on2
 cases a δ<;>rfl
theorem Zhm{np n:Nat}{S:FS}{ds:List Xa}(h:ds.length=np):Zag np n S ds=(S (Y9 n ds)).told:=by
 unfold Zag;rw[if_pos h]
theorem Zv0(δ:Zf):(RS.nx δ).told= .ok (.fz .none):=rfl
theorem Zqe(r:OT)(δ:Zf):(RS.rt r δ).told= .ok r:=rfl
theorem Zvz(c:Str)(δ:Zf):(RS.ex c δ).told= .exn c:=rfl
theorem Z74(i j:Int):Ja (.int i) (.int j)=some (.int (i+j)):=rfl
theorem Z94(i j:Int):gSb (.int i) (.int j)=some (.int (i-j)):=rfl
theorem Yax(i j:Int):gLt (.int i) (.int j)=some (.bool (decide (i<j))):=rfl
theorem Z92(i j:Int):gLe (.int i) (.int j)=some (.bool (decide (i≤j))):=rfl
theorem Z5a(i j:Int):gGt (.int i) (.int j)=some (.bool (decide (j<i))):=rfl
theorem Z3y(i j:Int):gGe (.int i) (.int j)=some (.bool (decide (j≤i))):=rfl
theorem Zth{i j:Int}(h:Zx1 i j=true):Zfp (.int i) (.int j)=some (.int (i*j)):=by
 unfold Zfp i2c;dsimp only;rw[if_pos h]
theorem Zw9{i j:Int}(h:Zze i j=true):J6 (.int i) (.int j)=some (.int (i.fdiv j)):=by
 unfold J6 i2c;dsimp only;rw[if_pos h]
theorem Z1d{i j:Int}(h:j≠0):J8 (.int i) (.int j)=some (.int (i.fmod j)):=by
 unfold J8 i2c Z8j;dsimp only;rw[if_pos (decide_eq_true h)]
theorem Z2r{x y:Int}(h:x.natAbs<2^64):Zx1 x y=true:=Zhq.mpr (.of_left (intBits_le_64 (by omega) (by omega)))
theorem Zz8{x y:Int}(h:y.natAbs<2^64):Zx1 x y=true:=Zhq.mpr (.of_right (intBits_le_64 (by omega) (by omega)))
theorem Zv8{n:Nat}{i j:Int}(h0:j≠0)(h:Bt n j)(hn:n≤9000:=by decide):Zze i j=true:=by
 obtain⟨h1,h2⟩:=DivOk.of (i:=i) h0 h hn
 unfold Zze
 rw[decide_eq_true h1,decide_eq_true h2];rfl
theorem Z37(i j:Int):gEq (.int i) (.int j)=some (.bool (decide (i=j))):=by
 show some (BP (i==j))=_
 rw[show(i==j)=decide (i=j)from rfl]
theorem Z5z(i j:Int):gNe (.int i) (.int j)=some (.bool (!decide (i=j))):=by
 show some (BP (!(i==j)))=_
 rw[show(i==j)=decide (i=j)from rfl]
theorem Z9n(d:Xa):gIs d .none=some (.bool (Zhy d)):=rfl
theorem Z3k(d:Xa):Z1i d .none=some (.bool (!Zhy d)):=rfl
theorem Z3v(ds:List Xa)(i:Int):gIx (.list ds) (.int i)=(atI ds i).bind λx=>some (.fz x):=rfl
theorem Z9y(ds:List Xa)(i:Int):gIx (.tuple ds) (.int i)=(atI ds i).bind λx=>some (.fz x):=rfl
theorem Z1r(ds:List Xa):Zai [.list ds]=some (.int ds.length):=rfl
theorem Z75(ds:List Xa):Zai [.tuple ds]=some (.int ds.length):=rfl
theorem Z8p(i:Int):Z5i [.int i]=some (.int (i.natAbs:Int)):=by
 show some (XJ (if i<0 then -i else i))=_
 congr 2;split<;>omega
theorem Z70(i j:Int):Yay [.int i,.int j]=some (.int (if j>i then j else i)):=rfl
theorem Z8o(i j:Int):Yaz [.int i,.int j]=some (.int (if j<i then j else i)):=rfl
theorem Z8b(i:Int):Z8s [.int i]=some (.int i):=rfl
theorem Z7t(b:Bool):Z8s [.bool b]=some (.int (if b then 1 else 0)):=rfl
theorem Zvp(ds:List Xa):Zpd [.list ds]=some (.nd (ds.map OT.fz)):=rfl
theorem Z6f(ds:List Xa):Zpd [.tuple ds]=some (.nd (ds.map OT.fz)):=rfl
theorem Z1j{ds es:List Xa}(h:ds.length+es.length≤Xi):Zqr (.list ds) (.list es)=some (.nd ((ds ++ es).map OT.fz)):=by
 unfold Zqr;dsimp only;rw[if_pos h]
theorem Z8w(i:Int):Z8x (.int i)=some (.int (-i)):=rfl
theorem Z71(b:Bool):Z78 (.bool b)=some (.bool (!b)):=rfl
theorem Z8e(b:Bool):Zrv (.bool b)=some b:=rfl
theorem Z8v(i:Int):Zrv (.int i)=some (i !=0):=rfl
theorem Z7i:Zrv .none=some false:=rfl
theorem Z63(ds:List Xa):Zrv (.list ds)=some (!ds.isEmpty):=rfl
theorem Zkn{gg:FG}{u:FS}{ds:List Xa}{δ:Zf}(I:Nat->Zf->Prop)(h0:I 0 δ)
  (turn:∀(i:Nat) (d:Xa) (δ:Zf),ds[i]? =some d->I i δ->∃δ1 δ2,gg d δ=some δ1∧(u δ1= .nx δ2∨u δ1= .ct δ2)∧I (i+1) δ2):∃δ',forLoop gg u ds δ= .nx δ'∧I ds.length δ':=by
 induction ds generalizing δ I with
 | nil=>exact⟨δ,rfl,h0⟩
 | cons d ds ih=>
  obtain⟨δ1,δ2,e1,e2,h1⟩:=turn 0 d δ rfl h0
  obtain⟨δ',e3,h3⟩:=ih (δ:=δ2) (λi δ=>I (i+1) δ) h1 λi d' δ hd hi=>turn (i+1) d' δ (by simpa using hd) hi
  refine⟨δ',?_,h3⟩
  rw[Zbu,e1]
  dsimp only
  rcases e2 with e2|e2<;>rw[e2]<;>exact e3
noncomputable def Goes(r:RS)(Q:Zf->Prop):Prop:=∃δ,(r= .nx δ∨r= .ct δ)∧Q δ
theorem Goes.nx{δ:Zf}{Q:Zf->Prop}(h:Q δ):Goes (.nx δ) Q:=⟨δ,.inl rfl,h⟩
theorem Goes.ct{δ:Zf}{Q:Zf->Prop}(h:Q δ):Goes (.ct δ) Q:=⟨δ,.inr rfl,h⟩
theorem Znj{α:Type}{me:FE}{cs:Zf}(mk:α->Xa)(f:α->OT):∀(xs:List α) (z:Option OT),(∀x∈xs,me (some (.fz (mk x)) :: cs)=some (f x,some (.fz (mk x)) :: cs)) ->
  ∃z',compLoop (gNm 0) Zml me (xs.map mk) (z :: cs)=some (xs.map f,z' :: cs)
 | [],z,_=>⟨z,rfl⟩
 | x :: xs,z,h=>by
  obtain⟨z',e⟩:=Znj mk f xs (some (.fz (mk x))) λy hy=>h y (.tail _ hy)
  refine⟨z',?_⟩
  rw[X6,compLoop]
  show(some (some (OT.fz (mk x)) :: cs)).bind _=_
  rw[Xe]
  show(some (true,some (OT.fz (mk x)) :: cs)).bind _=_
  rw[Xe,if_pos rfl,h x (.head _),Xe,e];rfl
theorem Zk3{α:Type}{t:FT}{me:FE}{cs:Zf}(mk:α->Xa)(p:α->Bool)(f:α->OT):∀(xs:List α) (z:Option OT),(∀x∈xs,t (some (.fz (mk x)) :: cs)=some (p x,some (.fz (mk x)) :: cs))->(∀x∈xs,p x=true->me (some (.fz (mk x)) :: cs)=some (f x,some (.fz (mk x)) :: cs)) ->
  ∃z',compLoop (gNm 0) t me (xs.map mk) (z :: cs)=some ((xs.filter p).map f,z' :: cs)
 | [],z,_,_=>⟨z,rfl⟩
 | x :: xs,z,ht,h=>by
  obtain⟨z',e⟩:=Zk3 mk p f xs (some (.fz (mk x))) (λy hy=>ht y (.tail _ hy)) λy hy=>h y (.tail _ hy)
  refine⟨z',?_⟩
  rw[X6,compLoop]
  show(some (some (OT.fz (mk x)) :: cs)).bind _=_
  rw[Xe,ht x (.head _),Xe]
  dsimp only
  by_cases hp:p x=true
  ·rw[if_pos hp,h x (.head _) hp,Xe,e,Vw hp];rfl
  ·rw[if_neg hp,e,Vx hp]
theorem Zj6{α:Type}{caps:List Nat}{it:FI}{me:FE}{cs δ δ1:Zf}(xs:List α)(mk:α->Xa)(f:α->OT)(hi:it δ=some (xs.map mk,δ1))(hz:xs.length≤Xi)(hb:blk 1 caps δ1=none :: cs)
  (h:∀x∈xs,me (some (.fz (mk x)) :: cs)=some (f x,some (.fz (mk x)) :: cs)):Jh 1 caps it (gNm 0) Zml me δ=some (.nd (xs.map f),δ1):=by
 unfold Jh
 rw[hi,Xe]
 dsimp only
 rw[if_pos (by rw[Xg];exact hz),hb]
 obtain⟨z',e⟩:=Znj (me:=me) (cs:=cs) mk f xs none h
 rw[e];rfl
theorem Zfh{α:Type}{caps:List Nat}{it:FI}{t:FT}{me:FE}{cs δ δ1:Zf}(xs:List α)(mk:α->Xa)(p:α->Bool)(f:α->OT)(hi:it δ=some (xs.map mk,δ1))(hz:xs.length≤Xi)(hb:blk 1 caps δ1=none :: cs)
  (ht:∀x∈xs,t (some (.fz (mk x)) :: cs)=some (p x,some (.fz (mk x)) :: cs)) (h:∀x∈xs,p x=true->me (some (.fz (mk x)) :: cs)=some (f x,some (.fz (mk x)) :: cs)):Jh 1 caps it (gNm 0) t me δ=some (.nd ((xs.filter p).map f),δ1):=by
 unfold Jh
 rw[hi,Xe]
 dsimp only
 rw[if_pos (by rw[Xg];exact hz),hb]
 obtain⟨z',e⟩:=Zk3 (t:=t) (me:=me) (cs:=cs) mk p f xs none ht h
 rw[e];rfl
theorem Z9a:(2≤Xi)=True:=by simp[Qe]
theorem Ya0:(1≤Xi)=True:=by simp[Qe]
theorem Yat:(0≤Xi)=True:=by simp
theorem Z4e:(3≤Xi)=True:=by simp[Qe]
theorem Zdy{α:Type}(f:α->Xa)(xs:List α):(xs.map λx=>OT.fz (f x)).map OT.data=xs.map f:=by
 rw[Q5];exact QR λx _=>OT.data_fz _
theorem Zvd{α:Type}{j:Int}{x:α}(h0:0≤j)(h1:j≤1000000):(if rOk j=true then some x else none)=some x:=if_pos (Zpj (by omega) h1)
theorem Zxi{α:Type}{i j:Int}{x:α}(h0:0≤i)(h1:i≤1000000)(h2:0≤j)(h3:j≤1000000):(if(rOk i&&rOk j)=true then some x else none)=some x:=if_pos (by rw[Zpj (by omega) h1,Zpj (by omega) h3];rfl)
theorem Zzi{r:RS}{k:Nat}(h:k≤1000000):(if k<Xi then r else .bad)=r:=if_pos (by rw[Qe];omega)
noncomputable def EvV(e:FE)(δ:Zf)(d:Xa):Prop:=∃t,e δ=some (t,δ)∧t.data=d
noncomputable def EvA(a:FA)(δ:Zf)(ds:List Xa):Prop:=∃ts,a δ=some (ts,δ)∧OT.datas ts=ds
noncomputable def EvT(t:FT)(δ:Zf)(b:Bool):Prop:=t δ=some (b,δ)
noncomputable def Told(F:FD)(ds:List Xa)(d:Xa):Prop:=∃t,F ds= .ok t∧t.data=d
section
variable {e a b:FE}{as:FA}{δ δ':Zf}{x y d:Xa}{xs ds:List Xa}{i j:Nat}{p q:Bool}{t u:FT}{S S':FS}{r:RS}
theorem EvV.cast{e:FE}{δ:Zf}{x y:Xa}(h:EvV e δ x)(k:x=y):EvV e δ y:=k▸h
theorem Za(h:δ[i]? =some (some (.fz d)):=by rfl):EvV (Zc i) δ d:=⟨_,by rw[Zuo,h,Zwd],OT.data_fz _⟩
theorem Ze5{t:OT}(h:δ[i]? =some (some t))(hd:t.data=d):EvV (Za5 i) δ d:=⟨_,by rw[Zw1,h,Zws],by rw[OT.data_fz,hd]⟩
theorem Z2:EvV (fC d) δ d:=⟨_,rfl,OT.data_fz _⟩
theorem Zn{g:Xa->Xa->Option Xa}(ha:EvV a δ x)(hb:EvV b δ y)(h:g x y=some d):EvV (Zb g a b) δ d:=by
 obtain⟨_,e1,d1⟩:=ha
 obtain⟨_,e2,d2⟩:=hb
 exact⟨_,by rw[Zr3,e1,Xe,e2,Xe,d1,d2,h,Xe],OT.data_fz _⟩
theorem Zcj{g:Xa->Xa->Option OT}{o:OT}(ha:EvV a δ x)(hb:EvV b δ y)(h:g x y=some o)(hd:o.data=d):EvV (Z9 g a b) δ d:=by
 obtain⟨_,e1,d1⟩:=ha
 obtain⟨_,e2,d2⟩:=hb
 exact⟨_,by rw[Zwb,e1,Xe,e2,Xe,d1,d2,h,Xe],hd⟩
theorem Z4m(ha:EvV a δ x)(hb:EvV b δ y)(h:gIx x y=some (.fz d)):EvV (Z9 gIx a b) δ d:=Zcj ha hb h (OT.data_fz _)
theorem W3{i j:Int}(ha:EvV a δ (.int i))(hb:EvV b δ (.int j)):EvV (Zb Ja a b) δ (.int (i+j)):=Zn ha hb rfl
theorem Zs6{i j:Int}(ha:EvV a δ (.int i))(hb:EvV b δ (.int j)):EvV (Zb gSb a b) δ (.int (i-j)):=Zn ha hb rfl
theorem Zqx(ha:EvV a δ (.bool true))(hb:EvV b δ d):EvV (Zut a b) δ d:=by
 obtain⟨_,e1,d1⟩:=ha
 obtain⟨_,e2,d2⟩:=hb
 exact⟨_,by rw[Zoj,e1,Xe,d1,Z47,e2],d2⟩
theorem Zrg(ha:EvV a δ (.bool false)):EvV (Zut a b) δ (.bool false):=by
 obtain⟨_,e1,d1⟩:=ha
 exact⟨_,by rw[Zoj,e1,Xe,d1,Z5l],OT.data_fz _⟩
theorem Zi:EvA Zk δ []:=⟨_,rfl,Zex⟩
theorem Ze(h:EvV e δ d)(k:EvA as δ ds):EvA (Zd e as) δ (d :: ds):=by
 obtain⟨_,e1,d1⟩:=h
 obtain⟨_,e2,d2⟩:=k
 exact⟨_,by rw[Zem,e1,Xe,e2,Xe],by rw[Zd0,d1,d2]⟩
theorem Yl{F:FD}(h:EvA as δ ds)(k:Told F ds d):EvV (Ys F as) δ d:=by
 obtain⟨_,e1,d1⟩:=h
 obtain⟨_,e2,d2⟩:=k
 exact⟨_,by rw[Zr5,e1,Xe,d1,e2,Zyi],d2⟩
theorem Zbt{g:List Xa->Option Xa}(h:EvA as δ ds)(k:g ds=some d):EvV (Jb g as) δ d:=by
 obtain⟨_,e1,d1⟩:=h
 exact⟨_,by rw[Zvh,e1,Xe,d1,k,Xe],OT.data_fz _⟩
theorem Z6l{g:List Xa->Option OT}{o:OT}(h:EvA as δ ds)(k:g ds=some o)(hd:o.data=d):EvV (fBl g as) δ d:=by
 obtain⟨_,e1,d1⟩:=h
 exact⟨_,by rw[Z02,e1,Xe,d1,k,Xe],hd⟩
theorem Zdd:∀ts:List OT,(OT.datas ts).length=ts.length
 | []=>by rw[Zex];rfl
 | t :: ts=>by rw[Zd0,JH,JH,Zdd ts]
theorem datas_map:∀ts:List OT,OT.datas ts=ts.map OT.data
 | []=>Zex
 | t :: ts=>by rw[Zd0,X6,datas_map ts]
theorem Z2w(h:EvA as δ ds)(hl:ds.length≤1000):EvV (Zku as) δ (.tuple ds):=by
 obtain⟨ts,e1,d1⟩:=h
 have:=Zdd ts
 rw[d1]at this
 exact⟨_,by rw[Zw2,e1,Xe,if_pos (by rw[Qe];show ts.length≤_;omega)],by rw[OT.data_fz];exact congrArg _ d1⟩
theorem Zc6(h:EvA as δ ds)(hl:ds.length≤1000):EvV (Zab as) δ (.list ds):=by
 obtain⟨ts,e1,d1⟩:=h
 have:=Zdd ts
 rw[d1]at this
 exact⟨_,by rw[Zhb,e1,Xe,if_pos (by rw[Qe];show ts.length≤_;omega)],by rw[OT.data_nd,←datas_map,d1]⟩
theorem Ze2{o:OT}{b:Bool}(h:o.data= .bool b):o= .fz (.bool b):=by
 cases o with
 | fz d=>rw[OT.data_fz]at h;rw[h]
 | nd ts=>rw[OT.data_nd]at h;cases h
 | tp ts=>rw[OT.data_tp]at h;cases h
 | dc _ _ _=>rw[OT.data_dc]at h;cases h
theorem Zax(h:EvV e δ (.bool p)):EvT (tV e) δ p:=by
 obtain⟨_,e1,d1⟩:=h
 unfold EvT
 rw[Z5x,e1,Xe,Ze2 d1,Z03]
theorem Z9x(h:EvV e δ d)(k:Zrv d=some p):EvT (tD e) δ p:=by
 obtain⟨_,e1,d1⟩:=h
 unfold EvT
 rw[Z4c,e1,Xe,d1,k,Xe]
theorem Zj4(h:EvV e δ (.bool p)):EvT (tD e) δ p:=Z9x h rfl
theorem Zgz(h:EvT t δ p):EvT (tNo t) δ (!p):=by
 unfold EvT at h⊢
 rw[Zy7,h,Xe]
theorem Zzm(h:EvT t δ true)(k:EvT u δ p):EvT (tAn t u) δ p:=by
 unfold EvT at h k⊢
 rw[Ztv,h,Xe,if_pos rfl,k]
theorem Zvv(h:EvT t δ false):EvT (tAn t u) δ false:=by
 unfold EvT at h⊢
 rw[Ztv,h,Xe,if_neg Xq]
theorem Zrx(h:EvT t δ false)(k:EvT u δ p):EvT (tO t u) δ p:=by
 unfold EvT at h k⊢
 rw[Z1z,h,Xe,if_neg Xq,k]
theorem Zpz(h:EvT t δ true):EvT (tO t u) δ true:=by
 unfold EvT at h⊢
 rw[Z1z,h,Xe,if_pos rfl]
theorem Zr(h:S δ= .nx δ')(k:S' δ'=r):Zw S S' δ=r:=by rw[Zjt,h,Zx9,k]
theorem Ze8{o:OT}(h:S δ= .rt o δ'):Zw S S' δ= .rt o δ':=by rw[Zjt,h,Z2i]
theorem Yb(h:EvV e δ d):wE e (Wt i) δ= .nx (δ.set i (some (.fz d))):=by
 obtain⟨_,e1,d1⟩:=h
 rw[Zcu,e1,Yo,Zul,d1]
theorem Z24(h:EvV e δ d):∃o,wE e Za2 δ= .rt o δ∧o.data=d:=by
 obtain⟨_,e1,d1⟩:=h
 exact⟨_,by rw[Zcu,e1,Yo,Zwa],d1⟩
theorem Wa(h:EvT t δ true)(k:S δ=r):Wu t S S' δ=r:=by
 unfold EvT at h
 rw[Znm,h,Yo,if_pos rfl,k]
theorem Z1(h:EvT t δ false)(k:S' δ=r):Wu t S S' δ=r:=by
 unfold EvT at h
 rw[Znm,h,Yo,if_neg (by decide),k]
theorem Zx0{F:FD}{k:OT->Zf->RS}(h:EvA as δ ds)(hF:Told F ds d)(hk:∀o,o.data=d->k o δ=r):wX F as k δ=r:=by
 obtain⟨_,e1,d1⟩:=h
 obtain⟨o,e2,d2⟩:=hF
 rw[Zzh,e1,Yo,d1,e2,Zyw,hk o d2]
theorem Zja{F:FD}{k:OT->Zf->RS}{c:Str}(h:EvA as δ ds)(hF:F ds= .exn c):wX F as k δ= .ex c δ:=by
 obtain⟨_,e1,d1⟩:=h
 rw[Zzh,e1,Yo,d1,hF,Zyq]
noncomputable def Zmn(S:FS)(δ:Zf)(d:Xa):Prop:=∃o δ',S δ= .rt o δ'∧o.data=d
theorem Zak(h:S δ= .nx δ')(k:Zmn S' δ' d):Zmn (Zw S S') δ d:=by
 obtain⟨o,δ2,e,hd⟩:=k
 exact⟨o,δ2,Zr h e,hd⟩
theorem Zkd(k:Zmn S δ d):Zmn (Zw S S') δ d:=by
 obtain⟨o,δ2,e,hd⟩:=k
 exact⟨o,δ2,Ze8 e,hd⟩
theorem Zbk(h:EvV e δ d):Zmn (wE e Za2) δ d:=by
 obtain⟨o,e1,hd⟩:=Z24 h
 exact⟨o,δ,e1,hd⟩
theorem Znp(h:EvT t δ true)(k:Zmn S δ d):Zmn (Wu t S S') δ d:=by
 obtain⟨o,δ2,e,hd⟩:=k
 exact⟨o,δ2,Wa h e,hd⟩
theorem Wb{np n:Nat}(hl:xs.length=np)(k:Zmn S (Y9 n xs) d):Told (Zag np n S) xs d:=by
 obtain⟨o,δ2,e,hd⟩:=k
 exact⟨o,by rw[Zhm hl,e,Zqe],hd⟩
noncomputable def EvO(o:FO)(δ:Zf)(l:Option Int):Prop:=o δ=some (l,δ)
theorem Zrp:EvO oN δ none:=rfl
theorem Zp1{i:Int}(h:EvV e δ (.int i)):EvO (oI e) δ (some i):=by
 obtain⟨_,e1,d1⟩:=h
 unfold EvO
 rw[Z4y,e1,Xe,d1,Zvb]
theorem Zny{lo hi:FO}{l h:Option Int}(he:EvV e δ (.list ds))(hl:EvO lo δ l)(hh:EvO hi δ h):EvV (fSl e lo hi) δ (.list (cutD ds l h)):=by
 obtain⟨_,e1,d1⟩:=he
 unfold EvO at hl hh
 exact⟨_,by rw[Z1k,e1,Xe,hl,Xe,hh,Xe,d1,Zou],by rw[OT.data_nd,OT.map_fz]⟩
theorem Zmp{es:List Xa}(ha:EvV a δ (.list ds))(hb:EvV b δ (.list es))(h:ds.length+es.length≤1000000):EvV (Z9 Zqr a b) δ (.list (ds ++ es)) :=
 Zcj ha hb (Z1j (by rw[Qe];omega)) (by rw[OT.data_nd,OT.map_fz])
noncomputable def EvI(it:FI)(δ:Zf)(ds:List Xa):Prop:=it δ=some (ds,δ)
theorem Zcf(h:EvV e δ (.list ds)):EvI (Zc2 e) δ ds:=by
 obtain⟨_,e1,d1⟩:=h
 unfold EvI
 rw[Zv3,e1,Xe,d1,Zou]
theorem Zdo{n:Nat}(h:EvA as δ [.int n])(hn:n≤1000000):EvI (iRa as) δ (Zc7 0 n):=by
 obtain⟨_,e1,d1⟩:=h
 unfold EvI
 rw[Zza,e1,Xe,d1,Z3x,Zvd (by omega) (by omega),VH]
theorem Zch{it:FI}{g:FG}(h:EvI it δ ds)(k:forLoop g S ds δ=r):Zaw it g S δ=r:=by
 unfold EvI at h
 rw[Zu2,h,Yo,k]
theorem Zjo{α:Type}{caps:List Nat}{it:FI}{me:FE}{cs:Zf}(xs:List α)(mk f:α->Xa)(hi:EvI it δ (xs.map mk))(hz:xs.length≤1000000)(hb:blk 1 caps δ=none :: cs)(h:∀x∈xs,EvV me (some (.fz (mk x)) :: cs) (f x)):EvV (Jh 1 caps it (gNm 0) Zml me) δ (.list (xs.map f)):=by
 have g:∀x,∃o:OT,x∈xs->me (some (.fz (mk x)) :: cs)=some (o,some (.fz (mk x)) :: cs)∧o.data=f x:=λx=>by
  by_cases c:x∈xs
  ·obtain⟨o,h1,h2⟩:=h x c
   exact⟨o,λ_=>⟨h1,h2⟩⟩
  ·exact⟨.fz .none,λz=>absurd z c⟩
 obtain⟨o,ho⟩:=Classical.axiomOfChoice g
 unfold EvI at hi
 refine⟨_,Zj6 (cs:=cs) xs mk o hi (by rw[Qe];omega) hb (λx hx=>(ho x hx).1),?_⟩
 rw[OT.data_nd,Q5]
 exact congrArg _ (QR λx hx=>(ho x hx).2)
theorem Zix{ts:List OT}(h:EvV e δ d)(hi:δ[i]? =some (some (.nd ts)))(hl:ts.length≤1000000):Yn i e δ= .nx (δ.set i (some (.nd (ts ++ [.fz d])))):=by
 obtain⟨_,e1,d1⟩:=h
 rw[Zlm,hi,Z17,e1,Yo,hi,Z17,Zzi hl,d1]
theorem Zco{o:OT}(h:e δ=some (o,δ)):wE e (Jo i) δ= .nx (δ.set i (some o)):=by rw[Zcu,h,Yo,Zqt]
theorem Zub{o:OT}(h:δ[i]? =some (some o))(hd:o.data=d):Zmn (Zb7 i) δ d:=⟨o,_,by rw[Zrr,h,Z0j],hd⟩
theorem Zig{o:OT}(h:δ[i]? =some (some o))(k:S (δ.set i (some (.fz o.data)))=r):Zaz i S δ=r:=by rw[Zl4,h,Z0j,k]
theorem Zi6{np n:Nat}(hl:xs.length=np)(k:S (Y9 n xs)= .nx δ'):Told (Zag np n S) xs .none:=⟨_,by rw[Zhm hl,k,Zv0],OT.data_fz _⟩
theorem Zbx{np n:Nat}{c:Str}(hl:xs.length=np)(k:S (Y9 n xs)= .ex c δ'):Zag np n S xs= .exn c:=by rw[Zhm hl,k,Zvz]
theorem Zar{c:Str}(h:S δ= .ex c δ'):Zw S S' δ= .ex c δ':=by rw[Zjt,h,Z1c]
theorem Told.ok{F:FD}{b:Bool}(h:Told F ds (.bool b)):F ds= .ok (.fz (.bool b)):=by
 obtain⟨o,e1,d1⟩:=h
 rw[e1,Ze2 d1]
theorem Zks{o:OT}{i:Int}(h:o.data= .int i):o= .fz (.int i):=by
 cases o with
 | fz d=>rw[OT.data_fz]at h;rw[h]
 | nd ts=>rw[OT.data_nd]at h;cases h
 | tp ts=>rw[OT.data_tp]at h;cases h
 | dc _ _ _=>rw[OT.data_dc]at h;cases h
theorem Told.int{F:FD}{i:Int}(h:Told F ds (.int i)):F ds= .ok (.fz (.int i)):=by
 obtain⟨o,e1,d1⟩:=h
 rw[e1,Zks d1]
theorem Zo6{o:OT}(h:o.data= .none):o= .fz .none:=by
 cases o with
 | fz d=>rw[OT.data_fz]at h;rw[h]
 | nd ts=>rw[OT.data_nd]at h;cases h
 | tp ts=>rw[OT.data_tp]at h;cases h
 | dc _ _ _=>rw[OT.data_dc]at h;cases h
theorem Told.of{F:FD}{o:OT}(h:F ds= .ok o)(hd:o.data=d):Told F ds d:=⟨o,h,hd⟩
end
section
variable {e a b:FE}{as:FA}{δ δ':Zf}{x y d:Xa}{xs ds:List Xa}{i j:Int}{k:Nat}{p q:Bool}{t u:FT}{S S':FS}{r:RS}{Q:Xa->Prop}
theorem Wn(ha:EvV a δ (.int i))(hb:EvV b δ (.int j))(h:j≠0):EvV (Zb J8 a b) δ (.int (i.fmod j)):=Zn ha hb (Z1d h)
theorem Z1n{i j:Int}(h:(decide (0<j)&&decide (j<18446744073709551616))=true):J6 (.int i) (.int j)=some (.int (i.fdiv j)):=by
 rw[Xz,decide_eq_true_eq,decide_eq_true_eq]at h
 exact Zw9 (Zv8 (n:=64) (by omega) (Bt.of_lt (by omega) (by omega)))
theorem Zdz(ha:EvV a δ (.int i))(hb:EvV b δ (.int j))(h:(decide (0<j)&&decide (j<18446744073709551616))=true:=by decide):EvV (Zb J6 a b) δ (.int (i.fdiv j)):=Zn ha hb (Z1n h)
theorem Zes(ha:EvV a δ (.int i))(hb:EvV b δ (.int j))(h:i.natAbs<2^64:=by decide):EvV (Zb Zfp a b) δ (.int (i*j)):=Zn ha hb (Zth (Z2r h))
theorem Zje(ha:EvV a δ (.int i))(hb:EvV b δ (.int j))(h:j.natAbs<2^64:=by decide):EvV (Zb Zfp a b) δ (.int (i*j)):=Zn ha hb (Zth (Zz8 h))
theorem Zg4(ha:EvV a δ (.int i))(hb:EvV b δ (.int j))(h:decide (i<j)=p):EvV (Zb gLt a b) δ (.bool p):=h▸Zn ha hb rfl
theorem Zm3(ha:EvV a δ (.int i))(hb:EvV b δ (.int j))(h:decide (j<i)=p):EvV (Zb gGt a b) δ (.bool p):=h▸Zn ha hb (Z5a _ _)
theorem Z1p(ha:EvV a δ (.int i))(hb:EvV b δ (.int j))(h:decide (j≤i)=p):EvV (Zb gGe a b) δ (.bool p):=h▸Zn ha hb (Z3y _ _)
theorem Zdq(ha:EvV a δ (.int i))(hb:EvV b δ (.int j))(h:decide (i=j)=p):EvV (Zb gEq a b) δ (.bool p):=h▸Zn ha hb (Z37 _ _)
theorem Z5n(ha:EvV a δ (.int i))(hb:EvV b δ (.int j))(h:(!decide (i=j))=p):EvV (Zb gNe a b) δ (.bool p):=h▸Zn ha hb (Z5z _ _)
theorem Zal{ds:List Xa}(h:EvV e δ (.list ds)):EvV (Jb Zai (Zd e Zk)) δ (.int ds.length):=Zbt (Ze h Zi) (Z1r ds)
theorem Zac(ha:EvV a δ (.list ds))(hb:EvV b δ (.int i))(h:atI ds i=some d):EvV (Z9 gIx a b) δ d:=Z4m ha hb (by rw[Z3v,h];rfl)
noncomputable def Zok(S:FS)(δ:Zf)(Q:Xa->Prop):Prop:=∃d,Zmn S δ d∧Q d
theorem Yr(h:S δ= .nx δ')(k:Zok S' δ' Q):Zok (Zw S S') δ Q:=k.imp λ_ k=>⟨Zak h k.1,k.2⟩
theorem Zdb(k:Zok S δ Q):Zok (Zw S S') δ Q:=k.imp λ_ k=>⟨Zkd k.1,k.2⟩
theorem Zf6(h:EvV e δ d)(k:Q d):Zok (wE e Za2) δ Q:=⟨d,Zbk h,k⟩
theorem Zg0(h:EvT t δ true)(k:Zok S δ Q):Zok (Wu t S S') δ Q:=k.imp λ_ k=>⟨Znp h k.1,k.2⟩
theorem Z3u{o:OT}(h:δ[k]? =some (some o))(hd:Q o.data):Zok (Zb7 k) δ Q:=⟨_,Zub h rfl,hd⟩
theorem Ziz{np n:Nat}(hl:xs.length=np)(h:Zok S (Y9 n xs) Q):∃d,Told (Zag np n S) xs d∧Q d:=h.imp λ_ k=>⟨Wb hl k.1,k.2⟩
theorem Zkb{it:FI}{g:FG}(I:Nat->Zf->Prop)(hi:EvI it δ ds)(h0:I 0 δ)(turn:∀(i:Nat) (d:Xa) (δ:Zf),ds[i]? =some d->I i δ->∃δ1 δ2,g d δ=some δ1∧(S δ1= .nx δ2∨S δ1= .ct δ2)∧I (i+1) δ2)(k:∀δ',I ds.length δ'->Zok S' δ' Q):Zok (Zw (Zaw it g S) S') δ Q:=by
 obtain⟨δ',e,h⟩:=Zkn I h0 turn
 exact Yr (Zch hi e) (k δ' h)
theorem Ziq{it:FI}{g:FG}(I:Nat->Zf->Prop)(hi:EvI it δ ds)(h0:I 0 δ)(turn:∀(i:Nat) (d:Xa) (δ:Zf),ds[i]? =some d->I i δ->∃δ1 δ2,g d δ=some δ1∧(S δ1= .nx δ2∨S δ1= .ct δ2)∧I (i+1) δ2)(k:∀δ',I ds.length δ'->Zmn S' δ' d):Zmn (Zw (Zaw it g S) S') δ d:=by
 obtain⟨δ',e,h⟩:=Zkn I h0 turn
 exact Zak (Zch hi e) (k δ' h)
theorem Zff{it:FI}{g:FG}(I:Nat->Zf->Prop)(hi:EvI it δ ds)(h0:I 0 δ)(turn:∀(i:Nat) (d:Xa) (δ:Zf),ds[i]? =some d->I i δ->∃δ1 δ2,g d δ=some δ1∧(S δ1= .nx δ2∨S δ1= .ct δ2)∧I (i+1) δ2):∃δ',Zaw it g S δ= .nx δ'∧I ds.length δ':=by
 obtain⟨δ',e,h⟩:=Zkn I h0 turn
 exact⟨δ',Zch hi e,h⟩
theorem Zxu{m n:Nat}(h:EvA as δ [.int m,.int n])(hm:m≤1000000)(hn:n≤1000000):EvI (iRb as) δ (Zc7 m (n-m)):=by
 obtain⟨_,e1,d1⟩:=h
 unfold EvI
 rw[Zz5,e1,Xe,d1,Z5g,Zxi (by omega) (by omega) (by omega) (by omega),show((n:Int)-(m:Int)).toNat=n-m by omega]
theorem Zd6:wE (Zab Zk) (Jo k) δ= .nx (δ.set k (some (.nd []))):=Zco (by rw[Zhb];rfl)
theorem Zm7{i:Int}(h:0<j):0≤i.fmod j:=by rw[Zlc h];exact Int.emod_nonneg _ (by omega)
theorem Zns{i:Int}(h:0<j):i.fmod j<j:=by rw[Zlc h];exact Int.emod_lt_of_pos _ h
theorem Wr(i:Int){n:Nat}(h:0<n):∃m:Nat,i.fmod (n:Int)=m∧m<n:=by
 have h0:=Zm7 (i:=i) (j:=n) (by omega)
 have h1:=Zns (i:=i) (j:=n) (by omega)
 exact⟨(i.fmod n).toNat,by omega,by omega⟩
theorem Zwm{es:List Xa}(h:EvA as δ ds)(hz:Zyo ds=some es):EvI (Zna as) δ es:=by
 obtain⟨_,e1,d1⟩:=h
 unfold EvI Zna
 rw[e1,Xe,d1,hz,Xe]
theorem Z2n{xs:List Str}{D c:Str}{h:FS}{δ2:Zf}(e:S δ= .ex c δ')(hc:(xs.contains c&&Zly c D)=true)(hh:h (δ'.set k (some (.fz (exD c))))= .nx δ2):Zu3 xs S D k h δ= .nx (δ2.set k none):=by
 unfold Zu3
 rw[e]
 dsimp only
 rw[if_pos hc,hh]
theorem Zsx{xs:List Str}{D x:Str}(ha:EvV a δ (exD x))(h:xs.contains x=true)(hd:Zly x D=p):EvV (Zjk xs D a) δ (.bool p):=by
 obtain⟨_,e1,d1⟩:=ha
 exact⟨_,by unfold Zjk;rw[e1,Xe,d1,show Zf5 (exD x)=some x from rfl,Xe,if_pos h],by rw[OT.data_fz,hd]⟩
theorem Ztz{xs Ds:List Str}{x:Str}(ha:EvV a δ (exD x))(h:xs.contains x=true)(hd:Ds.any (Zly x)=p):EvV (Zky xs Ds a) δ (.bool p):=by
 obtain⟨_,e1,d1⟩:=ha
 exact⟨_,by unfold Zky;rw[e1,Xe,d1,show Zf5 (exD x)=some x from rfl,Xe,if_pos h],by rw[OT.data_fz,hd]⟩
theorem Zkq{it:FI}{g gg:FG}{δ1:Zf}(I:Nat->Zf->Prop){J:Zf->Prop}(hg:gg d δ=some δ1)(hi:EvI it δ1 ds)(h0:I 0 δ1)(turn:∀(i:Nat) (d:Xa) (δ:Zf),ds[i]? =some d->I i δ->∃δ1 δ2,g d δ=some δ1∧(S δ1= .nx δ2∨S δ1= .ct δ2)∧I (i+1) δ2)(hJ:∀δ',I ds.length δ'->J δ'):∃δ1 δ2,gg d δ=some δ1∧(Zaw it g S δ1= .nx δ2∨Zaw it g S δ1= .ct δ2)∧J δ2:=by
 obtain⟨δ',e,h⟩:=Zkn I h0 turn
 exact⟨δ1,δ',hg,.inl (Zch hi e),hJ δ' h⟩
theorem Zmv{f g h:Int->Int->Bool}{c d:FE}{m n:Int}(ha:EvV a δ (.int i))(hb:EvV b δ (.int j))(hc:EvV c δ (.int m))(hd:EvV d δ (.int n)):EvV (Zey f g h a b c d) δ (.bool (f i j&&(g j m&&h m n))):=by
 obtain⟨_,e1,d1⟩:=ha
 obtain⟨_,e2,d2⟩:=hb
 obtain⟨_,e3,d3⟩:=hc
 obtain⟨_,e4,d4⟩:=hd
 have io:∀i,intOf (.int i)=some i:=λ_=>rfl
 unfold EvV Zey
 rw[e1,Xe,e2,Xe,d1,io,Xe,d2,io,Xe]
 cases f i j with
 | false=>exact⟨_,rfl,OT.data_fz _⟩
 | true=>
  rw[if_pos rfl,e3,Xe,d3,io,Xe]
  cases g j m with
  | false=>exact⟨_,rfl,OT.data_fz _⟩
  | true=>exact⟨_,by rw[if_pos rfl,e4,Xe,d4,io,Xe];rfl,OT.data_fz _⟩
theorem Zxt{a b:FE}{bs es:List Xa}{as:List Xa}(ha:EvV a δ (.list as))(hb:EvV b δ (.list bs))(hz:Zjc as bs=es):EvI (Zna (Zd a (Zd b Zk))) δ es:=Zwm (Ze ha (Ze hb Zi)) (congrArg some hz)
theorem Zru{α:Type}{caps:List Nat}{it:FI}{me:FE}{t:FT}{cs:Zf}(xs:List α)(mk:α->Xa)(pr:α->Bool)(hi:EvI it δ (xs.map mk))(hz:xs.length≤1000000)(hb:blk 1 caps δ=none :: cs)(ht:∀x∈xs,EvT t (some (.fz (mk x)) :: cs) (pr x))(h:∀x∈xs,pr x=true->me (some (.fz (mk x)) :: cs)=some (.fz (mk x),some (.fz (mk x)) :: cs)):EvV (Jh 1 caps it (gNm 0) t me) δ (.list ((xs.filter pr).map mk)):=by
 unfold EvI at hi
 refine⟨_,Zfh (cs:=cs) xs mk pr (λx=>.fz (mk x)) hi (by rw[Qe];omega) hb (λx hx=>ht x hx) h,?_⟩
 rw[OT.data_nd,Q5]
 exact congrArg _ (QR λx _=>OT.data_fz _)
theorem Told.none{F:FD}(h:Told F ds .none):F ds= .ok (.fz .none):=by
 obtain⟨o,e1,d1⟩:=h
 rw[e1,Zo6 d1]
end
end L2
namespace My
open PySem L2 PySem.Spec
noncomputable def Za6:FS :=
 (Zw (wE (Jb Z5i (Zd (Zc 0) Zk)) (Wt 0))
  (Zw (wE (Jb Z5i (Zd (Zc 1) Zk)) (Wt 1))
  (Zw (Zgm (tV (Zb gNe (Zc 1) (fC (.int 0)))) (Zw (wE (Zb J8 (Zc 0) (Zc 1)) (Wt 2))
  (Zw (wE (Zc 1) (Wt 0))
  (wE (Zc 2) (Wt 1)))))
  (wE (Zc 0) Za2))))
noncomputable def W8:FD:=Zag 2 3 Za6
noncomputable def Zfe:FS :=
 (Zw (wE (Ys W8 (Zd (Zc 0) (Zd (Zc 1) Zk))) (Wt 2))
  (Zw (Wu (tV (Zb gLt (Zc 1) (fC (.int 0))))
  (wE (fUn Z8x (Zc 2)) (Wt 2))
  fNx)
  (wE (Zku (Zd (Zb J6 (Zc 0) (Zc 2)) (Zd (Zb J6 (Zc 1) (Zc 2)) Zk))) Za2)))
noncomputable def Zfn:FD:=Zag 2 3 Zfe
noncomputable def Ze6:FS :=
 (wE (Zut (Z6a "int" (Zc 0)) (fUn Z78 (Z6a "bool" (Zc 0)))) Za2)
noncomputable def Zbi:FD:=Zag 1 1 Ze6
noncomputable def Zet:FS :=
 (Zw (Wu (tO (tNo (tD (Ys Zbi (Zd (Zc 0) Zk)))) (tO (tNo (tD (Ys Zbi (Zd (Zc 1) Zk)))) (tV (Zb gEq (Zc 1) (fC (.int 0))))))
  (Zae "NoNumber")
  fNx)
  (wE (Ys Zfn (Zd (Zc 0) (Zd (Zc 1) Zk))) Za2))
noncomputable def Zod:FD:=Zag 2 2 Zet
noncomputable def Zb4:FS :=
 (Zw (wE (fC (.int 1)) (Wt 1))
  (Zw (Zaw (Zc2 (Zc 0)) (gNm 2)
  (wE (Zb Zfp (Zb J6 (Zc 1) (Ys W8 (Zd (Zc 1) (Zd (Z9 gIx (Zc 2) (fC (.int 1))) Zk)))) (Z9 gIx (Zc 2) (fC (.int 1)))) (Wt 1)))
  (wE (Zc 1) Za2)))
noncomputable def Zb5:FD:=Zag 1 3 Zb4
noncomputable def Zcn:FS :=
 (Zw (wE (fC (.int 1)) (Wt 1))
  (Zw (Zaw (Zc2 (Zc 0)) (gNm 2)
  (wE (Ys Zb5 (Zd (Z9 Zqr (Zab (Zd (Zku (Zd (fC (.int 1)) (Zd (Zc 1) Zk))) Zk)) (Zc 2)) Zk)) (Wt 1)))
  (wE (Zc 1) Za2)))
noncomputable def Zjl:FD:=Zag 1 3 Zcn
noncomputable def Zec:FS :=
 (wE (Jh 1 [0] (Zc2 (Zc 1)) (gNm 0) Zml (Zb Zfp (Z9 gIx (Zc 0) (fC (.int 0))) (Zb J6 (Zc 1) (Z9 gIx (Zc 0) (fC (.int 1)))))) Za2)
noncomputable def Zef:FD:=Zag 2 2 Zec
noncomputable def Zdv:FS :=
 (wE (Jh 1 [0] (Zc2 (Zc 1)) (gNm 0) Zml (Ys Zef (Zd (Zc 1) (Zd (Zc 0) Zk)))) Za2)
noncomputable def Zln:FD:=Zag 2 2 Zdv
noncomputable def Zbj:FS :=
 (Zw (wE (Zab Zk) (Jo 1))
  (Zw (Zaw (iRa (Zd (Zc 0) Zk)) (gNm 2)
  (Zaw (iRb (Zd (Zb Ja (Zc 2) (fC (.int 1))) (Zd (Zc 0) Zk))) (gNm 3)
  (Yn 1 (Zku (Zd (Zc 2) (Zd (Zc 3) Zk))))))
  (Zb7 1)))
noncomputable def W0:FD:=Zag 1 4 Zbj
noncomputable def Zea(n:Nat):List (Nat×Nat):=(XX n).flatMap λi=>(XX (n-(i+1))).map λj=>(i,i+1+j)
noncomputable def ptD(p:Nat×Nat):Xa:=.tuple [.int p.1,.int p.2]
theorem Zgp{n:Nat}{p:Nat×Nat}(h:p∈Zea n):p.1<p.2∧p.2<n:=by
 unfold Zea at h
 obtain⟨i,hi,hp⟩:=List.mem_flatMap.mp h
 obtain⟨j,hj,rfl⟩:=QJ.mp hp
 have:=QD.mp hi
 have:=QD.mp hj
 dsimp only
 omega
noncomputable def Zcp(n i:Nat):List (Nat×Nat):=(XX i).flatMap λi=>(XX (n-(i+1))).map λj=>(i,i+1+j)
theorem Zeq(n:Nat):∀i,(Zcp n i).length≤i*n
 | 0=>by simp[Zcp]
 | i+1=>by
  have:=Zeq n i
  unfold Zcp at this⊢
  rw[List.range_succ,List.flatMap_append,Xo]
  simp only[List.flatMap_cons,List.flatMap_nil,XR,Xg,Qx]
  have e:(i+1)*n=i*n+n:=by rw[Nat.succ_mul]
  omega
theorem Zgh(n i:Nat):Zcp n (i+1)=Zcp n i ++ (XX (n-(i+1))).map λj=>(i,i+1+j):=by
 unfold Zcp;rw[List.range_succ,List.flatMap_append];simp
theorem Zjh(n:Nat)(hn:n≤1000):Told W0 [.int n] (.list ((Zea n).map ptD)):=by
 refine Wb rfl<|Zak Zd6<|Ziq (ds:=Zc7 0 n) (λi δ=>∃z1 z2,δ=[some (.fz (.int n)),some (.nd (((Zcp n i).map ptD).map OT.fz)),z1,z2]) (Zdo (Ze Za Zi) (by omega)) ⟨_,_,rfl⟩ (λi d δ hd h=>?_) λδ' h=>?_
 ·obtain⟨z1,z2,rfl⟩:=h
  obtain⟨hi,rfl⟩:=Za7 hd
  rw[Int.zero_add]
  have ln:=Zeq n i
  have l2:i*n≤999*1000:=Nat.mul_le_mul (by omega) hn
  refine Zkq (ds:=Zc7 ((i+1:Nat):Int) (n-(i+1))) (λj δ=>∃z,δ=[some (.fz (.int n)),some (.nd (((Zcp n i ++ (XX j).map λj=>(i,i+1+j)).map ptD).map OT.fz)),some (.fz (.int i)),z]) rfl (Zxu (m:=i+1) (Ze (EvV.cast (W3 Za Z2) rfl) (Ze Za Zi)) (by omega) (by omega)) ⟨z2,by rw[List.range_zero,V8,XR];rfl⟩ (λj d δ hd h=>?_) λδ' h=>?_
  ·obtain⟨z,rfl⟩:=h
   obtain⟨hj,rfl⟩:=Za7 hd
   refine⟨_,_,rfl,.inl (Zix (Z2w (Ze Za (Ze Za Zi)) (show 2≤1000 by decide)) rfl (by rw[Xg,Xg,Xo,Xg,Qx];omega)),some (.fz (.int (((i+1:Nat):Int)+j))),?_⟩
   rw[List.range_succ]
   simp only[QT,QH]
   rfl
  ·obtain⟨z,rfl⟩:=h
   rw[Jy,←Zgh]
   exact⟨_,_,rfl⟩
 ·obtain⟨z1,z2,rfl⟩:=h
  rw[Jy]
  exact Zub rfl (by rw[OT.data_nd,OT.map_fz];rfl)
end My
namespace My
open PySem L2 PySem.Spec
noncomputable def Zaf:FS :=
 (Zw (Wu (tV (Zb gLt (Zc 1) (Jb Zai (Zd (Zc 0) Zk))))
  (wE (Z9 gIx (Zc 0) (Zc 1)) Za2)
  fNx)
  (wE (fC (.int 0)) Za2))
noncomputable def Y6:FD:=Zag 2 2 Zaf
noncomputable def Zen:FS :=
 (Zw (Wu (tV (Zb gEq (Zb J8 (Zb J6 (Zc 0) (fC (.int 7))) (fC (.int 8))) (fC (.int 3))))
  (wE (Zb Ja (Zb Ja (Zc 2) (fC (.int 1))) (Zb J8 (Zb J6 (Zc 0) (fC (.int 56))) (Zb gSb (Zc 3) (Zc 2)))) Za2)
  fNx)
  (wE (Zb Ja (Zc 1) (Zb J8 (Zc 0) (Zb gSb (Zb Ja (Zc 2) (fC (.int 1))) (Zc 1)))) Za2))
noncomputable def Zm9:FD:=Zag 4 4 Zen
noncomputable def Zfl:FS :=
 (Zw (wE (Zb J8 (Zb Zfp (Zb Ja (Zb Ja (Zb J8 (Zc 0) (fC (.int 2147483629))) (Zb Zfp (fC (.int 9973)) (Zc 1))) (fC (.int 5))) (fC (.int 48271))) (fC (.int 2147483647))) (Wt 2))
  (Zw (wE (Zb J8 (Zb Zfp (Zc 2) (Zc 2)) (fC (.int 2147483587))) (Wt 2))
  (wE (Zb J6 (Zb J8 (Zb Zfp (Zb Ja (Zc 2) (Zb Zfp (fC (.int 7919)) (Zc 1))) (fC (.int 16807))) (fC (.int 2147483563))) (fC (.int 8))) Za2)))
noncomputable def Ze1:FD:=Zag 2 3 Zfl
noncomputable def Zc0:FS :=
 (Zw (wE (Zab Zk) (Jo 2))
  (Zw (wE (Zc 0) (Wt 3))
  (Zw (Zaw (iRa (Zd (Zc 1) Zk)) (gNm 4)
  (Zw (wE (Ys Ze1 (Zd (Zc 0) (Zd (Zc 4) Zk))) (Wt 5))
  (Zw (Wu (tV (Zb gGe (Zc 0) (Zb Zrw (fC (.int 10)) (fC (.int 18)))))
  (wE (Zb J8 (Zc 3) (fC (.int 720720))) (Wt 5))
  fNx)
  (Zw (wE (Zb J6 (Zc 3) (fC (.int 720720))) (Wt 3))
  (Yn 2 (Zc 5))))))
  (Zb7 2))))
noncomputable def Zkc:FD:=Zag 2 6 Zc0
noncomputable def Yz(p:List Int):Xa:=.list (p.map XJ)
theorem Zrt{p:List Int}{i:Int}(h0:0≤i)(h1:i<p.length):atI (p.map XJ) i=some (.int (p.getD i.toNat 0)):=by
 rw[Zk4 h0,Xm,Xk (by omega)]
 simp[Qn,Xk (show i.toNat<p.length by omega)]
theorem Zam{a b:FE}{δ:Zf}{p:List Int}{i:Int}(ha:EvV a δ (Yz p))(hb:EvV b δ (.int i))(h0:0≤i)(h1:i<p.length):EvV (Z9 gIx a b) δ (.int (p.getD i.toNat 0)):=Zac ha hb (Zrt h0 h1)
theorem Zge{a:FE}{δ:Zf}{p:List Int}(ha:EvV a δ (Yz p)):EvV (Jb Zai (Zd a Zk)) δ (.int p.length):=by
 have:=Zal (ds:=p.map XJ) ha
 rwa[Xg]at this
theorem Z5m:Zrw (.int 10) (.int 18)=some (.int 1000000000000000000):=rfl
theorem Zme(ns:List Int){k:Int}(h0:0≤k):∃c,Y6 [Yz ns,.int k]= .ok (.fz (.int c)):=by
 by_cases c:k<ns.length
 ·exact⟨_,Told.int<|Wb rfl<|Zkd (Znp (Zax (Zg4 Za (Zge Za) (decide_eq_true c))) (Zbk (Zam Za Za h0 c)))⟩
 ·exact⟨_,Told.int<|Wb rfl<|Zak (Z1 (Zax (Zg4 Za (Zge Za) (decide_eq_false c))) rfl) (Zbk Z2)⟩
theorem Zhw{i:Nat}{e:FE}{δ:Zf}{vs:List Int}{v:Int}(h:EvV e δ (.int v))(hi:δ[i]? =some (some (.nd (vs.map λv=>.fz (.int v)))))(hl:vs.length≤1000000):Yn i e δ= .nx (δ.set i (some (.nd ((vs ++ [v]).map λv=>.fz (.int v))))):=by
 rw[Zix h hi (by rw[Xg];exact hl),QT];rfl
theorem Zle(vs:List Int):(OT.nd (vs.map λv=>OT.fz (.int v))).data=Yz vs:=by rw[OT.data_nd,Zdy];rfl
end My
namespace L2
open PySem PySem.Spec PyProof.Rows
variable {G:Xb}
section
variable {X:Cx}{io:List Nat}{p c:Bool}{e a b:Expr}{es:List Expr}{m mj:MEt}{pos apos cpos px sp kp:Pos}{i:Nat}{x:Str}{fa fb:FE}{st:Stmt}
noncomputable def Zkx(i:Nat)(mj m:MEt):MSt:=λD δ=>match δ[i]? with
 | some (some (.nd ts))=>mj δ λn _=>match n.data with
  | .int k=>match ixN ts.length k with
   | some j=>match ts[j]? with
    | some (.nd us)=>m δ λr _=>us.length<Xi∧D.nx (δ.set i (some (.nd (ts.set j (.nd (us ++ [.fz r.data]))))))
    | _=>False
   | none=>False
  | _=>False
 | _=>False
theorem Zlg(i:Nat)(hj:ME X io true c a mj)(he:ME X io true true e m)(hPa:Zgy a:=by exact λ_ _=>rfl)(hN:X.N[i]? =some x:=by rfl)(hv:Vis X.env.scope x:=by first|exact QG rfl|exact Qo (QG rfl)|exact Qo (Qo rfl))(hd:(x==("__debug__" : Str))=false:=by decide)
  (hcd:(x==("__classdict__" : Str))=false:=by decide)
  (hbase:Vd (.Subscript (.Name x px) a sp) "append" X.env (eval (.Subscript (.Name x px) a sp) X.env)=eval (.Subscript (.Name x px) a sp) X.env:=by rfl)
  (hfew:((Q6 cpos (Xj [e] X.env)).all (λx=>!x.1)&&(backToKw cpos (VL [] X.env)).all (λx=>x.1.isSome)
   &&decide ([e].length+([]:List Vb).length+(if([]:List Vb).isEmpty then 0 else 1)<30))=true:=by rfl)
  (hline:(apos.endLine==cpos.line)=true:=by rfl) (hs:Xj [e] X.env=(false,eval e X.env) :: Xj [] X.env:=by rfl) (hplain:(Q6 cpos (Xj [] X.env)).any (·.1)=false:=by rfl)
  (hsw:Bc (.Call (.Attribute (.Subscript (.Name x px) a sp) "append" apos) [e] [] cpos) none pos.line X.env=pure false:=by rfl) :
  MS X io (.Expr (.Call (.Attribute (.Subscript (.Name x px) a sp) "append" apos) [e] [] cpos) pos) (Zkx i mj m):=by
 obtain⟨_,A,s⟩:=he
 obtain⟨_,B,sj⟩:=hj
 refine⟨_,Zfa (Zoy Vp PySem.F.slot_list_append PySem.F.type_list_append Ze7 (Zyp (Zq6 rfl) (pv i hN hv hd hcd) B hPa) (Yw A Zd8 hs) hbase hfew hline hs hplain) hsw,λC H σ δ fp ex D D' R h E=>?_⟩
 unfold Zkx at h
 split at h
 case h_2=>exact h.elim
 rename_i ts hi
 obtain⟨a',_,_,hv0,_⟩:=R.ownNd hi
 refine⟨_,hv0,?_⟩
 refine sj.pureAfter R h λH2 w n R2 s2 q2 h2=>?_
 obtain⟨k,rfl,h2⟩:=q2.intInv h2
 split at h2
 case h_2=>exact h2.elim
 rename_i j hj
 split at h2
 case h_2=>exact h2.elim
 rename_i us hus
 obtain⟨a2,xs2,bs2,hv2,hx2,o2,hf2⟩:=R2.ownNd hi
 rw[hv0]at hv2
 cases hv2
 obtain⟨xr,cr,hxr,orow,_⟩:=o2.get hus
 obtain⟨b',ws0,rfl,hb0⟩:∃b' ws0,xr=V.ref b'∧H2 b'=some (.lst ws0):=by
  cases orow with
  | nd h r=>exact⟨_,_,rfl,h⟩
 refine⟨a',xs2,k,V.ref b',rfl,rfl,.inl (.inl hx2),?_,?_⟩
 ·unfold atI
  rw[o2.length,hj]
  exact hxr
 refine⟨.inl ⟨rfl,ws0,.inl (.inl hb0)⟩,?_⟩
 refine s.pureAfter R2 h2 λH3 v r R3 s3 q h3=>?_
 obtain⟨a3,xs3,bs3,hv3,hx3,o3,hf3⟩:=R3.ownNd hi
 rw[hv0]at hv3
 cases hv3
 have exs:xs3=xs2:=by
  have:=s3 _ _ hx2
  rw[hx3]at this
  cases this;rfl
 subst exs
 obtain⟨xr3,cr3,hxr3,orow3,hsub3⟩:=o3.get hus
 rw[hxr]at hxr3
 cases hxr3
 have nd3:=R3.nd i
 rw[hf3]at nd3
 have hn3:=Qi.mp nd3
 cases orow3 with
 | nd hb r3=>
  rename_i ws3 bs4
  have hbm:b'∈bs3:=hsub3.subset (.head _)
  have hbf:b'∈fp i:=by rw[hf3];exact .tail _ hbm
  have hLb:¬Lf C fp ex b':=λl=>l.1 ⟨i,hbf⟩
  have q':=q.wide (L':=Lf C fp ex) λa l _=>l rfl
  obtain⟨as',oo,ss,_⟩:=Owns.deep (ws':=ws3 ++ [v]) (us':=us ++ [.fz r.data]) hb hLb (λcs hcs=>⟨cs,by have:=hcs.snoc (.fz q');simpa using this,List.Sublist.refl _⟩) o3 hn3.2 hxr hus
  refine⟨b',ws3,v,rfl,rfl,hb,by rw[r3.length];exact h3.1,?_⟩
  have hba:a'≠b':=λz=>hn3.1 (z▸hbm)
  have sub:∀a,a∈a' :: as'->a∈fp i:=λa m=>by
   rw[hf3]
   rcases Xn.mp m with rfl|m
   ·exact .head _
   ·exact .tail _ (ss.subset m)
  have kp:∀b o,H3 b=some o->b≠b'->upd H3 b' (.lst (ws3 ++ [v])) b=some o:=λb o e n=>by rw[Zm n];exact e
  have lw:∀a,Lf C fp ex a->upd H3 b' (.lst (ws3 ++ [v])) a≠none->Lf C (fpu fp i (a' :: as')) (exu ex []) a:=λa l _=>⟨λz=>by
   rcases z.of_u with z|⟨j,_,z⟩
   ·exact l.1 ⟨i,sub a z⟩
   ·exact l.1 ⟨j,z⟩,λz=>l.2.1 (Za3.mp z),l.2.2⟩
  obtain⟨R4,S4⟩:=R3.change (new:=[]) (as':=a' :: as') (t':=.nd (ts.set j (.nd (us ++ [.fz r.data])))) (H':=upd H3 b' (.lst (ws3 ++ [v]))) hi hv0 (λb o e nb=>kp b o e λz=>nb (by rw[z];exact hbf)) (λb e=>by
   by_cases q:b=b'
   ·subst q;rw[Zq]at e;cases e
   ·rwa[Zm q]at e) (.nd (by rw[Zm hba];exact hx3) (oo.wide lw)) (Qi.mpr ⟨λm=>hn3.1 (ss.subset m),hn3.2.sublist ss⟩) (λa m=>.inl (sub a m)) (λa m=>nomatch m)
  have k1:Kp H fp H3 fp:=⟨λb o e _=>s3 _ _ (s2 _ _ e),λz=>(nomatch z),λa z=>.inl z,λb e=>s2.al b (s3.al b e)⟩
  exact E.nx _ σ _ _ (R4.drop λa z=>.inl z) (k1.trans S4.kp) h3.2
noncomputable def Zgv(i:Nat)(j e:FE):FS:=λδ=>match δ[i]? with
 | some (some (.nd ts))=>wE j (λn _=>match n.data with
  | .int k=>match ixN ts.length k with
   | some j=>match ts[j]? with
    | some (.nd us)=>wE e (λr _=>if us.length<Xi then .nx (δ.set i (some (.nd (ts.set j (.nd (us ++ [.fz r.data]))))))else .bad) δ
    | _=>.bad
   | none=>.bad
  | _=>.bad) δ
 | _=>.bad
theorem Zk0(h:MS X io st (Zkx i (o2 fb) (o2 fa))):MS X io st (oS (Zgv i fb fa)):=h.weak λD δ h=>by
 unfold oS Zgv at h;unfold Zkx
 split at h
 case h_2=>exact h.elim
 rename_i q;(try rw[q]);(try dsimp only)
 refine(Zmm h).imp λn δ' z=>?_
 split at z
 case h_2=>exact z.elim
 rename_i k q1;(try rw[q1]);(try dsimp only)
 split at z
 case h_2=>exact z.elim
 rename_i j q2;(try rw[q2]);(try dsimp only)
 split at z
 case h_2=>exact z.elim
 rename_i us q3;(try rw[q3]);(try dsimp only)
 exact(Zmm z).imp λr δ' z=>Za8 z
end
variable {G:Xb}
section
variable {X:Cx}{io:List Nat}{p c p' c':Bool}{a b e:Expr}{ma mb m:MEt}{pos pp:Pos}{x:Str}
theorem Z2l{n:Int}{t:Tok}(hg:Gl X x)(hm:X.mg x=some (.int n t))(hdb:(x==("__debug__" : Str))=false:=by decide):ME X io true true (.Name x pos) (mC (.int n)) :=
 ⟨_,J5 (v:=.int n) hg hm ⟨t,rfl⟩ hdb,λC H σ δ fp ex K Q R h k=>k H (.int n) _ δ fp [] (.fz R (.refl _ _ _ _) (.int n)) h⟩
noncomputable def Ztl(ma mb:MEt):MEt:=λδ K=>ma δ λrk _=>∃k:Int,rk.data= .int k∧mb δ λrv _=>K (.dc false [.inl (.inl k)] [rv.data]) δ
theorem Zvr(ha:ME X io true c a ma)(hb:ME X io true true b mb):ME X io true true (.Dict [some a] [b] pos) (Ztl ma mb):=by
 obtain⟨_,A,sa⟩:=ha
 obtain⟨_,B,sb⟩:=hb
 refine⟨_,Zxe (Zso A B Zwt) rfl rfl (λz=>nomatch z) (show 1≤15 by decide),λC H σ δ fp ex K Q R h kk q hq=>?_⟩
 have s0:Same H (upd H q (.dK [])):=Z6 hq _
 have R0:Rel C io (upd H q (.dK [])) σ δ fp (exu ex [q]):=R.made s0 λa m=>by
  rw[Xl.mp m]
  exact⟨hq,by rw[Zq];exact Option.some_ne_none _⟩
 refine sa.pureAfter R0 h λH1 v r R1 s1 q1 h1=>?_
 obtain⟨k,hk,h1⟩:=h1
 rw[hk]at q1
 have hv:v= .int k:=by cases q1;rfl
 refine sb.pureAfter R1 h1 λH2 v2 r2 R2 s2 q2 h2=>?_
 have e2:H2 q=some (.dK []):=s2 _ _ (s1 _ _ Zq)
 refine⟨e2,[(.inl k,v2)],by rw[hv];rfl,show 1≤15 by decide,?_⟩
 have keep:∀b o,H2 b=some o->b≠q->upd H2 q (.dK (Zd7 [] [(.inl k,v2)])) b=some o:=λb o e n=>by rw[Zm n];exact e
 have sm:Same H (upd H2 q (.dK (Zd7 [] [(.inl k,v2)]))):=λb o e=>keep b o (s2 _ _ (s1 _ _ (s0 _ _ e))) λz=>by rw[z,hq]at e;cases e
 have d3:Da X.K (upd H2 q (.dK (Zd7 [] [(.inl k,v2)]))) (λa=>((true=true->Lf C fp ex a)∨H a=none)∧a∉[q]) v2 r2.data:=q2.frame (λa xs l e=>by
  have l:=l rfl
  have n:a≠q:=λz=>l.2.1 (.inr (Xl.mpr z))
  exact⟨⟨.inl λ_=>⟨l.1,λz=>l.2.1 (.inl z),l.2.2⟩,λm=>n (Xl.mp m)⟩,e.imp (λe=>keep a _ e n) λz=>z.imp λo e=>keep a _ e n⟩) λa xs e=>keep a _ e λz=>by
   rw[z,e2]at e
   cases xs<;>cases e
 exact kk _ _ _ δ fp [q] (RE.tree (H1:=H) R R (Stp.same (Same.refl H) λ_ z=>z) sm (Zdu hq) (Ze4 q) (.dc (o:=.dK [(.inl k,v2)]) Zq ⟨rfl,rfl,rfl⟩ (.cons d3 .nil))) h2
noncomputable def Zti(a b:FE):FE:=λδ=>(a δ).bind λp=>match p.1.data with
 | .int k=>(b δ).bind λq=>some (.dc false [.inl (.inl k)] [q.1.data],δ)
 | _=>none
theorem Zr1{fa fb:FE}(h:ME X io p c e (Ztl (o2 fa) (o2 fb))):ME X io p c e (o2 (Zti fa fb)):=h.weak λδ K z=>by
 obtain⟨r,δ',h,k⟩:=z
 obtain⟨⟨x,δ1⟩,h1,h⟩:=bs h
 dsimp only at h
 split at h
 case h_2=>cases h
 rename_i n hn
 obtain⟨⟨y,δ2⟩,h2,h⟩:=bs h
 cases h
 exact⟨x,δ1,h1,n,hn,y,δ2,h2,k⟩
end
variable {G:Xb}
noncomputable def Zf0:List Xa->Option (List Str)
 | []=>some []
 | .str x :: ds=>(Zf0 ds).map (x :: ·)
 | _ :: _=>none
theorem Zip:∀(ts:List Str),Zf0 (ts.map U0)=some ts
 | []=>rfl
 | t :: ts=>by rw[X6,Zf0,Zip ts];rfl
theorem Das.strs{H:Hp}{L:Addr->Prop}:∀{xs:List V} {ds:List Xa} {ts:List Str},Das G H L xs ds->Zf0 ds=some ts->xs=ts.map V.str
 | _,[],_,.nil,h=>by cases h;rfl
 | _,d :: ds,_,.cons h r,e=>by
  cases d with
  | str x=>
   rw[Zf0]at e
   obtain⟨ts,e1,rfl⟩:=XM.mp e
   cases h
   rw[r.strs e1];rfl
  | _=>cases e
theorem Zfj:∀{ts:List Str} {us:List Xc},Vals (ts.map V.str) us->∃l:List (Str×Tok),us=strValues l∧l.map (·.1)=ts
 | [],_,r=>by cases r;exact⟨[],rfl,rfl⟩
 | t :: ts,_,r=>by
  rw[X6]at r
  cases r with
  | cons h r=>
   obtain⟨k,rfl⟩:=h
   obtain⟨l,rfl,rfl⟩:=Zfj r
   exact⟨(t,k) :: l,rfl,rfl⟩
section
variable {X:Cx}{K:Xb}
noncomputable def rJoin(K:Xb):V->List V->Hp->VK->Prop:=λx vs H Q=>∃sep b ts,x= .str sep∧vs=[.ref b]∧SqL K H b (ts.map V.str)∧JoinOk sep ts=true∧Q (.str (PySem.Txt.join sep ts)) H
theorem Zuy(hK:X.K=K):MtR X "str.join" (rJoin K):=by
 intro pins s σ H x vs v us Q I rx rv h
 obtain⟨sep,b,ts,rfl,rfl,hb,ok,q⟩:=h
 obtain⟨t,rfl⟩:=rx
 obtain⟨u,rfl,ru⟩:=rv.one
 cases ru
 obtain⟨its,n,r,hl,o,e1,e2,e3,e4⟩:=I.lstQ hK hb
 obtain⟨l,rfl,hl2⟩:=Zfj r
 exact SC.join (l:=l) (texts:=ts) ⟨o,e1,e2,n,e4⟩ hl2 ok λt' k=>⟨.str _,H,I.tok k,⟨t',rfl⟩,q⟩
end
section
variable {X:Cx}{io:List Nat}{p c p' c':Bool}{o e:Expr}{es:List Expr}{mo:MEt}{mr:MAt}{apos cpos:Pos}{r:V->List V->Hp->VK->Prop}{name:Str}{id:String}
noncomputable def PMs(G:Xb)(r:V->List V->Hp->VK->Prop)(g:Str->List Xa->Option Xa):Prop:=∀(H:Hp) (L:Addr->Prop) (z:Str) (xs:List V) (ds:List Xa) (d:Xa) (Q:VK),Das G H L xs ds->g z ds=some d->(∀v,ScD v d->Q v H)->r (.str z) xs H Q
noncomputable def Z5w(g:Str->List Xa->Option Xa)(mo:MEt)(mr:MAt):MEt:=λδ K=>mo δ λro δ1=>∃z,ro.data= .str z∧mr δ1 λrs δ2=>∃d,g z (OT.datas rs)=some d∧K (.fz d) δ2
theorem Da.strInv{H:Hp}{L:Addr->Prop}{v:V}{z:Str}(h:Da G H L v (.str z)):v= .str z:=by cases h;rfl
theorem Yae{g:Str->List Xa->Option Xa}{to:TE}{t:TA}(P:PMs G r g)(so:SE G io p c to mo)(sa:SA G io p' c' t mr):SE G io (p&&p') true (tBM G "str" r to t) (Z5w g mo mr):=λC H σ δ fp ex K Q R h kk=>
 so C H σ δ fp ex _ _ R h λH1 v ro δ1 fp1 new1 r1 h1=>by
  obtain⟨z,hz,h1⟩:=h1
  have q:=r1.da R
  rw[hz]at q
  cases q.strInv
  exact⟨rfl,sa C H1 σ δ1 fp1 ex _ _ r1.base h1 λH2 vs rs δ2 fp2 new2 r2 h2=>by
   obtain⟨d,e,h2⟩:=h2
   exact P H2 _ z vs _ d _ (r2.das r1.base) e λv sc=>kk H2 v _ δ2 fp2 [] (.fz r2.base (r1.stp.trans r2.stp) sc.da) h2⟩
theorem Zxg{g:Str->List Xa->Option Xa}(P:PMs X.K r g)(slot:Slot "str" name id)(hty:typeOf (.builtin id)=pure (.type "method_descriptor"))(hm:MtR X id r)(ho:ME X io p c o mo)(ha:MA X io p' c' (e :: es) mr)
  (hbase:Vd o name X.env (eval o X.env)=eval o X.env:=by rfl)
  (hfew:((Q6 cpos (Xj (e :: es) X.env)).all (λx=>!x.1)&&(backToKw cpos (VL [] X.env)).all (λx=>x.1.isSome)
   &&decide ((e :: es).length+([]:List Vb).length+(if([]:List Vb).isEmpty then 0 else 1)<30))=true:=by rfl)
  (hline:(apos.endLine==cpos.line)=true:=by rfl) (hs:Xj (e :: es) X.env=(false,eval e X.env) :: Xj es X.env:=by rfl) (hplain:(Q6 cpos (Xj es X.env)).any (·.1)=false:=by rfl) :
  ME X io (p&&p') true (.Call (.Attribute o name apos) (e :: es) [] cpos) (Z5w g mo mr):=by
 obtain⟨_,O,so⟩:=ho
 obtain⟨_,A,sa⟩:=ha
 exact⟨_,Zoy PySem.F.plainAttrs_str slot hty hm O A hbase hfew hline hs hplain,Yae P so sa⟩
noncomputable def Zmc:Str->List Xa->Option Xa:=λz ds=>match ds with
 | [.list es]=>(Zf0 es).bind λts=>if JoinOk z ts=true then some (.str (PySem.Txt.join z ts))else none
 | _=>none
theorem Zt9:PMs G (rJoin G) Zmc:=λH L z xs ds d Q hx h kk=>by
 unfold Zmc at h
 split at h
 case h_2=>cases h
 rename_i es
 obtain⟨ts,h1,h⟩:=bs h
 split at h
 case isFalse=>cases h
 rename_i ok
 cases h
 cases hx with
 | cons q r0=>
  cases r0
  cases q with
  | lst l e r=>exact⟨z,_,ts,rfl,rfl,.inl (r.strs h1▸e),ok,kk _ (.str _)⟩
  | scr ks=>
   rename_i a ns
   cases ns with
   | nil=>cases h1;exact⟨z,_,[],rfl,rfl,ks.sq,ok,kk _ (.str _)⟩
   | cons n ns=>cases h1
noncomputable def Zuf(g:Str->List Xa->Option Xa)(o:FE)(a:FA):FE:=λδ=>(o δ).bind λp=>match p.1.data with
 | .str z=>(a p.2).bind λq=>(g z (OT.datas q.1)).bind λd=>some (.fz d,q.2)
 | _=>none
variable {fo:FE}{ra:FA}
theorem Zn5{g:Str->List Xa->Option Xa}(h:ME X io p c e (Z5w g (o2 fo) (o2 ra))):ME X io p c e (o2 (Zuf g fo ra)):=h.weak λδ K z=>by
 obtain⟨r,δ',h,k⟩:=z
 obtain⟨⟨x,δ1⟩,h1,h⟩:=bs h
 dsimp only at h
 split at h
 case h_2=>cases h
 rename_i z hz
 obtain⟨⟨y,δ2⟩,h2,h⟩:=bs h
 obtain⟨d,h3,h⟩:=bs h
 cases h
 exact⟨x,δ1,h1,z,hz,y,δ2,h2,_,h3,k⟩
end
variable {G:Xb}
noncomputable def Its(x:Str):It:=⟨λi _=>i<x.cps.size,λi H v H'=>H'=H∧∃c,x.cps[i]? =some c∧v= .str ⟨#[c]⟩,λi _=>x.cps.size≤i⟩
theorem Zmy{P:X4}{w:Qv}{K:Xb}{tg:Expr}(x:Str)(t:Tok)(it:Addr):Turn P w K tg (Its x) [it] it (λi h=>h.IsStrIter it "str_ascii_iterator" x t i) where
 mem:=by simp
 obj:=λi h st b hb=>by
  have e:b=it:=by simpa using hb
  subst e
  obtain⟨o,e,c,d⟩:=st
  exact⟨o,e,λv z=>by rw[d]at z;cases z⟩
 keep:=λi h h' st k=>by
  obtain⟨o,e,c,d⟩:=st
  exact⟨o,k it (by simp) o e,c,d⟩
 item:=by
  intro X hP hw hK hc i pins s σ H E I hf st hg
  subst hP hw hK
  obtain⟨f0,f1,f2,f3,f4,f5⟩:=hf it (by simp)
  have hx:x.cps[i]? =some x.cps[i]:=Vf hg
  refine wpAny_pyNext_ascii_item st hx λh' st' sb=>?_
  have I1:Inv X pins σ H { s with heap:=h',toks:=s.toks+1 }:=I.turned (λb o hb e=>(sb.2 b hb).trans e) f0 f1 f3 f4 f5
  obtain⟨o,e,c,d⟩:=id st'
  exact⟨_,rfl,Zpi (s:={ s with heap:=h',toks:=s.toks+1 }) e c d (by decide) ⟨.str ⟨#[x.cps[i]]⟩,H,I1,⟨_,rfl⟩,⟨rfl,_,hx,rfl⟩,st',λb hb=>(hf b hb).1⟩⟩
 done:=by
  intro X hP hw hK hc i pins s σ H E I hf st hg
  subst hP hw hK
  obtain⟨f0,f1,f2,f3,f4,f5⟩:=hf it (by simp)
  exact wpAny_pyNext_ascii_end (I.ok.hd hc) st (VD hg) λh' eb=>⟨rfl,I.turned (t':=s.toks) (λb o hb e=>eb b o hb e) f0 f1 f3 f4 f5⟩
 self:=λ_ _ _ _ _ st h=>wpAny_pyIter_striter_ascii st h
theorem Zmz{P:X4}{w:Qv}{K:Xb}{tg:Expr}(x:Str)(t:Tok)(it:Addr):Turn P w K tg (Its x) [it] it (λi h=>h.IsStrIter it "str_iterator" x t i) where
 mem:=by simp
 obj:=λi h st b hb=>by
  have e:b=it:=by simpa using hb
  subst e
  obtain⟨o,e,c,d⟩:=st
  exact⟨o,e,λv z=>by rw[d]at z;cases z⟩
 keep:=λi h h' st k=>by
  obtain⟨o,e,c,d⟩:=st
  exact⟨o,k it (by simp) o e,c,d⟩
 item:=by
  intro X hP hw hK hc i pins s σ H E I hf st hg
  subst hP hw hK
  obtain⟨f0,f1,f2,f3,f4,f5⟩:=hf it (by simp)
  have hx:x.cps[i]? =some x.cps[i]:=Vf hg
  refine wpAny_pyNext_wide_item st hx λh' st' sb=>?_
  have I1:Inv X pins σ H { s with heap:=h',toks:=s.toks+1 }:=I.turned (λb o hb e=>(sb.2 b hb).trans e) f0 f1 f3 f4 f5
  obtain⟨o,e,c,d⟩:=id st'
  exact⟨_,rfl,Zpi (s:={ s with heap:=h',toks:=s.toks+1 }) e c d (by decide) ⟨.str ⟨#[x.cps[i]]⟩,H,I1,⟨_,rfl⟩,⟨rfl,_,hx,rfl⟩,st',λb hb=>(hf b hb).1⟩⟩
 done:=by
  intro X hP hw hK hc i pins s σ H E I hf st hg
  subst hP hw hK
  obtain⟨f0,f1,f2,f3,f4,f5⟩:=hf it (by simp)
  exact wpAny_pyNext_wide_end (I.ok.hd hc) st (VD hg) λh' eb=>⟨rfl,I.turned (t':=s.toks) (λb o hb e=>eb b o hb e) f0 f1 f3 f4 f5⟩
 self:=λ_ _ _ _ _ st h=>wpAny_pyIter_striter_wide st h
section
variable {X:Cx}{io:List Nat}{p c:Bool}{e tg:Expr}{m:MEt}
noncomputable def Z6c(tl:TE):TI:=λσ H R=>tl σ H λx H1=>∃z,x= .str z∧R (Its z) H1
theorem Zyh{l:Expr}{tl:TE}(hl:PE X l tl):PI X tg l (Z6c tl):=by
 intro pins s σ H R I h
 refine thn (hl pins s σ H _ I h) λv s1 qz9=>?_
 obtain⟨x,H1,I1,r1,q1⟩:=qz9
 obtain⟨z,e,q⟩:=q1
 subst e
 obtain⟨t,rfl⟩:=r1
 have fp:∀b∈[s1.heap.objs.size],Zdi X pins H1 b:=λb hb=>by
  have e:b=s1.heap.objs.size:=by simpa using hb
  subst e
  exact I1.fpOk (XQ _) (I1.hok.fresh (XQ _))
 cases ha:z.cps.all (·<128)
 ·exact wpAny_pyIter_wide ha ⟨s1.heap.objs.size,[s1.heap.objs.size],_,_,H1,rfl,I1.kept (t':=s1.toks) λb o e=>Xh _ e,Zmz z t _,⟨_,Xy _ rfl,rfl,rfl⟩,fp,q⟩
 ·exact wpAny_pyIter_ascii ha ⟨s1.heap.objs.size,[s1.heap.objs.size],_,_,H1,rfl,I1.kept (t':=s1.toks) λb o e=>Xh _ e,Zmy z t _,⟨_,Xy _ rfl,rfl,rfl⟩,fp,q⟩
noncomputable def Zau(z:Str):List Xa:=z.cps.toList.map λc=>.str ⟨#[c]⟩
theorem Zqz{C:MC G}{fp:Fp}{ex:Addr->Prop}{H1:Hp}{z:Str}:IterOk C fp ex H1 true (Its z) (Zau z):=λH' _ i=>by
 unfold Zau
 rw[Xm,VN]
 refine⟨λd hd=>?_,λhd=>?_⟩
 ·obtain⟨c,hc,rfl⟩:=XM.mp hd
  refine⟨(JP.mp hc).1,λx H'' hy=>?_⟩
  obtain⟨rfl,c',hc',rfl⟩:=hy
  rw[hc]at hc'
  cases hc'
  exact⟨Same.refl _,.str _⟩
 ·exact Array.getElem?_eq_none_iff.mp (Option.map_eq_none_iff.mp hd)
noncomputable def iS(m:MEt):MIt:=λδ K=>m δ λr δ'=>match r.data with| .str z=>K (Zau z) δ'|_=>False
theorem Z2g(h:ME X io p c e m):MI X io p true tg e (iS m):=by
 obtain⟨_,A,s⟩:=h
 exact⟨_,Zyh A,λC H σ δ fp ex K' Q R h kk=>s C H σ δ fp ex _ _ R h λH1 v r δ1 fp1 new r1 h1=>by
  have q:=r1.da R
  generalize r.data=d at q h1
  split at h1
  case h_2=>exact h1.elim
  cases q.strInv
  exact⟨_,rfl,kk _ H1 _ δ1 fp1 r1.base r1.stp Zqz h1⟩⟩
noncomputable def Zx8(e:FE):FI:=λδ=>(e δ).bind λp=>match p.1.data with| .str z=>some (Zau z,p.2)|_=>none
theorem Zzo{fa:FE}(h:MI X io p c tg e (iS (o2 fa))):MI X io p c tg e (o2 (Zx8 fa)):=h.weak λδ K z=>by
 obtain⟨r,δ',h,k⟩:=z
 obtain⟨⟨x,δ1⟩,h1,h⟩:=bs h
 dsimp only at h
 split at h
 case h_2=>cases h
 rename_i z hz
 cases h
 refine⟨x,_,h1,?_⟩
 show match x.data with| .str z=>K (Zau z) _|_=>False
 rw[hz];exact k
noncomputable def Zav:List Xa->Option Xa:=λds=>match ds with|[.str z]=>if z.length≤Xi then some (.int z.length)else none|_=>none
noncomputable def Z0k:List Xa->(Xa->Prop)->Prop:=λds k=>∃d,Zav ds=some d∧k d
theorem Zd5:∀ds r k,Zav ds=some r->k r->Z0k ds k:=λds r k h hk=>⟨r,h,hk⟩
theorem Zbp:PNs G (λxs H Q=>∃z,xs=[.str z]∧z.length≤Xi∧Q (.int z.length) H) Z0k:=λH L xs ds k Q hx h kk=>by
 obtain⟨d,h,hk⟩:=h
 unfold Zav at h
 split at h
 case h_2=>cases h
 split at h
 case isFalse=>cases h
 rename_i z hz
 cases h
 cases hx with
 | cons q r0=>
  cases r0
  cases q.strInv
  exact⟨z,rfl,hz,kk _ _ (.int _) hk⟩
end
variable {G:Xb}
section
variable {X:Cx}
noncomputable def Z7f(neg:Bool):R2:=λy x H Q=>∃a o,x= .ref a∧DGet H a y o∧Q (.bl (if neg then !o.isSome else o.isSome)) H
theorem Znt(hu:X.A.units+64<Ur):OpR X (QL .NotIn) (Z7f true):=by
 intro pins s σ H y x iv u Q I ry rx h
 obtain⟨a,o,rfl,g,q⟩:=h
 cases rx
 exact Zt7 (hu1 hu) I g ry λs3 I3=>⟨.bl (!o.isSome),H,I3,rfl,q⟩
noncomputable def Zqm(neg:Bool):Xa->Xa->Option Xa:=λe d=>match d with
 | .dict ((.none,.bool t) :: kvs)=>(Zh3 e).bind λk=>if Zn9 k=t then some (.bool (if neg then !(Zf4 k kvs).isSome else(Zf4 k kvs).isSome))else none
 | _=>none
noncomputable def Z7q(neg:Bool):Xa->Xa->(Xa->Prop)->Prop:=λe d k=>∃r,Zqm neg e d=some r∧k r
theorem Z6x{neg:Bool}:ByS (Zqm neg) (Z7q neg):=λ_ _ r _ h hk=>⟨r,h,hk⟩
theorem Zyk{neg:Bool}:P2s G (Z7f neg) (Z7q neg):=λH L y x e d k Q hy hx h kk=>by
 obtain⟨r,h,hk⟩:=h
 unfold Zqm at h
 split at h
 case h_2=>cases h
 rename_i t kvs
 obtain⟨ky,h1,h⟩:=bs h
 by_cases ht:Zn9 ky=t
 ·rw[if_pos ht]at h
  cases h
  obtain⟨a,o,rfl,_,g,R⟩:=hx.dget hy h1 ht
  have eo:o.isSome=(Zf4 ky kvs).isSome:=by
   rcases R with⟨v,d,rfl,hd,_⟩|⟨rfl,hd⟩<;>rw[hd]<;>rfl
  exact⟨a,o,rfl,g,by rw[eo];exact kk _ _ (.bl _) hk⟩
 ·rw[if_neg ht]at h;cases h
noncomputable def Zp7:List Xa->Option Xa:=λds=>match ds with|[.dict ((.none,.bool false) :: kvs)]=>some (.int kvs.length)|_=>none
noncomputable def Z0d:List Xa->(Xa->Prop)->Prop:=λds k=>∃d,Zp7 ds=some d∧k d
theorem Zim:∀ds r k,Zp7 ds=some r->k r->Z0d ds k:=λds r k h hk=>⟨r,h,hk⟩
noncomputable def Zy9:List V->Hp->VK->Prop:=λxs H Q=>∃a kvs,xs=[.ref a]∧Rd H a (.dK kvs)∧Q (.int kvs.length) H
theorem Zbf:Zc1 X (.builtin "len") Zy9:=by
 intro pins s σ H xs us Q I rv h
 obtain⟨a,kvs,rfl,e,q⟩:=h
 obtain⟨u,rfl,ru⟩:=rv.one
 cases ru
 obtain⟨z,hd,vs,rel,dd⟩:=Zpy I.hok e
 refine call_len_dict hd dd (by rw[←rel.length];rw[Qe]at z;omega) ?_
 exact⟨.int kvs.length,H,I.tok _,⟨_,by rw[rel.length]⟩,q⟩
theorem Zeu:PNs G Zy9 Z0d:=λH L xs ds k Q hx h kk=>by
 obtain⟨d,h,hk⟩:=h
 unfold Zp7 at h
 split at h
 case h_2=>cases h
 rename_i kvs
 cases h
 cases hx with
 | cons q r0=>
  cases r0
  generalize ed:Xa.dict ((.none,.bool false) :: kvs)=d at q
  cases q with
  | dic l r dk qs=>
   rename_i a o t' ks xs ds
   unfold dcD at ed
   injection ed with ed
   injection ed with e1 e2
   injection e1 with _ e1
   injection e1 with e1
   subst e1 e2
   cases o with
   | lst _=>exact dk.elim
   | dT _=>exact nomatch dk.1
   | dK kv=>
    obtain⟨_,e1,e2⟩:=dk
    subst e1 e2
    refine⟨a,kv,rfl,r,?_⟩
    have hl:kv.length=(((kv.map λp=>(Uy p.1:KY)).map kyD).zip ds).length:=by
     have:=qs.length
     rw[Xg]at this
     rw[BW,Xg,Xg,←this,Nat.min_self]
    rw[hl]
    exact kk _ _ (.int _) hk
  | exc _ _ _=>unfold exD at ed;cases ed
  | fn _=>unfold fnD at ed;cases ed
  | _=>cases ed
noncomputable def Zs2:V->List V->Hp->VK->Prop:=λx vs H Q=>∃z y,x= .str z∧vs=[.str y]∧Q (.int (Builtin.Str.occurrences z y 0 z.length (z.length+1)).length) H
theorem Zkk:MtR X "str.count" Zs2:=by
 intro pins s σ H x vs v us Q I rx rv h
 obtain⟨z,y,rfl,rfl,q⟩:=h
 obtain⟨t,rfl⟩:=rx
 obtain⟨w,rfl,ru⟩:=rv.one
 obtain⟨u,rfl⟩:=ru
 exact call_gives F.slot_str_count (typeIs_str _ _ _) F.entry_str_count (F.args_str_count_2 _ _) (gives_str_count z y t u) ⟨.int _,H,I.tok _,⟨_,rfl⟩,q⟩
noncomputable def Zd2:Str->List Xa->Option Xa:=λz ds=>match ds with|[.str y]=>some (.int (Builtin.Str.occurrences z y 0 z.length (z.length+1)).length)|_=>none
theorem Zko:PMs G Zs2 Zd2:=λH L z xs ds d Q hx h kk=>by
 unfold Zd2 at h
 split at h
 case h_2=>cases h
 rename_i y
 cases h
 cases hx with
 | cons q r0=>
  cases r0
  cases q.strInv
  exact⟨z,y,rfl,rfl,kk _ (.int _)⟩
end
theorem noInt:typeLookup (.type "str") "__int__"=pure none:=by rw[typeLookup_type,builtinLookup_eq_fast];kernel_rfl
theorem Zqi:typeLookup (.type "str") "__index__"=pure none:=by rw[typeLookup_type,builtinLookup_eq_fast];kernel_rfl
theorem Zn3:typeLookup (.type "str") "__trunc__"=pure none:=by rw[typeLookup_type,builtinLookup_eq_fast];kernel_rfl
theorem Zyt{α:Type}{M:Model}{A:Qt}{Q:α->Xf->Prop}{E:Xc->Xf->Prop}{s:Xf}{a b:Sem α}(h:a=b)(k:XC M A b Q E s):XC M A a Q E s:=h▸k
theorem Zjd(t:Tok):Meets (VF.«int.__new__» ⟨[.type "int",.str ⟨#[48]⟩ t],[]⟩) (Made.int 0).spec :=
 Meets.of_wp λprog w A R s hs=>by
  obtain⟨hp,g,d,tk,os⟩:=s
  have f1:=F.conv_sub_int
  have f2:=F.madeHere_int
  have hT:(⟨hp,g,d,tk,os⟩:Xf).TypeIs (.str ⟨#[48]⟩ t) "str" :=rfl
  have f3:=noInt
  have f4:=Zqi
  have f5:=Zn3
  repeat (any_goals (first|assumption|wp_step))
  refine Zyt (b:=mkInt 0) (by kernel_rfl) ?_
  repeat (any_goals (first|assumption|wp_step))
  all_goals first|exact⟨_,rfl,hs⟩|skip
theorem Zjs(t:Tok):Meets (VF.«int.__new__» ⟨[.type "int",.str ⟨#[49]⟩ t],[]⟩) (Made.int 1).spec :=
 Meets.of_wp λprog w A R s hs=>by
  obtain⟨hp,g,d,tk,os⟩:=s
  have f1:=F.conv_sub_int
  have f2:=F.madeHere_int
  have hT:(⟨hp,g,d,tk,os⟩:Xf).TypeIs (.str ⟨#[49]⟩ t) "str" :=rfl
  have f3:=noInt
  have f4:=Zqi
  have f5:=Zn3
  repeat (any_goals (first|assumption|wp_step))
  refine Zyt (b:=mkInt 1) (by kernel_rfl) ?_
  repeat (any_goals (first|assumption|wp_step))
  all_goals first|exact⟨_,rfl,hs⟩|skip
noncomputable def Ztq:List V->Hp->VK->Prop:=λxs H Q=>(xs=[.str ⟨#[48]⟩]∧Q (.int 0) H)∨(xs=[.str ⟨#[49]⟩]∧Q (.int 1) H)
theorem Zl8{X:Cx}:Zc1 X (.type "int") Ztq:=by
 intro pins s σ H xs us Q I rv h
 rcases h with⟨rfl,q⟩|⟨rfl,q⟩
 ·obtain⟨u,rfl,t,rfl⟩:=rv.one
  exact call_int_1 (Zjd t) (show(Made.int 0).post _ s from⟨rfl,.int 0,H,I.tok _,⟨_,rfl⟩,q⟩)
 ·obtain⟨u,rfl,t,rfl⟩:=rv.one
  exact call_int_1 (Zjs t) (show(Made.int 1).post _ s from⟨rfl,.int 1,H,I.tok _,⟨_,rfl⟩,q⟩)
noncomputable def Zgl:List Xa->Option Xa:=λds=>match ds with
 | [.str z]=>if z=⟨#[48]⟩then some (.int 0)else if z=⟨#[49]⟩then some (.int 1)else none
 | _=>none
noncomputable def Zte:List Xa->(Xa->Prop)->Prop:=λds k=>∃d,Zgl ds=some d∧k d
theorem Zuu:∀ds r k,Zgl ds=some r->k r->Zte ds k:=λds r k h hk=>⟨r,h,hk⟩
theorem Zsp{G:Xb}:PNs G Ztq Zte:=λH L xs ds k Q hx h kk=>by
 obtain⟨d,h,hk⟩:=h
 unfold Zgl at h
 split at h
 case h_2=>cases h
 rename_i z
 cases hx with
 | cons q r0=>
  cases r0
  cases q.strInv
  split at h
  ·rename_i hz;subst hz;cases h
   exact .inl ⟨rfl,kk _ _ (.int _) hk⟩
  ·split at h
   ·rename_i hz;subst hz;cases h
    exact .inr ⟨rfl,kk _ _ (.int _) hk⟩
   ·cases h
variable {G:Xb}
section
variable {X:Cx}{io:List Nat}{p c:Bool}{a e:Expr}{ma:MEt}{pos p2:Pos}
noncomputable def Yaq:V->Option Int->Option Int->Hp->VK->Prop:=λx lo hi H Q=>∃z,x= .str z∧z.length≤Xi∧Q (.str (Q9 z lo hi)) H
theorem Z0m:SlR X Yaq:=by
 intro pins s σ H x v vl vu lo hi sl Q I rx hs pl pu h
 obtain⟨z,rfl,hz,q⟩:=h
 obtain⟨t,rfl⟩:=rx
 have fin:∀t' k,EP X pins σ Q (.str (Q9 z lo hi) t') { s with toks:=k }:=λt' k=>⟨.str _,H,I.tok k,⟨t',rfl⟩,q⟩
 obtain⟨o,e1,e2,e3⟩:=hs
 refine⟨"str",_,F.slot_str_getitem.lookup,typeIs_str _ _ _,?_⟩
 cases pl with
 | none=>cases pu with
  | none=>exact VJ (l:=none) (u:=none) (st:=none) ⟨o,e1,e2,e3⟩ rfl (post_val_or_str ⟨Xu (Vg z _ _) hz,fin⟩)
  | int j w=>exact VJ (l:=none) (u:=some (j,w)) (st:=none) ⟨o,e1,e2,e3⟩ rfl (post_val_or_str ⟨Xu (Vg z _ _) hz,fin⟩)
 | int i u=>cases pu with
  | none=>exact VJ (l:=some (i,u)) (u:=none) (st:=none) ⟨o,e1,e2,e3⟩ rfl (post_val_or_str ⟨Xu (Vg z _ _) hz,fin⟩)
  | int j w=>exact VJ (l:=some (i,u)) (u:=some (j,w)) (st:=none) ⟨o,e1,e2,e3⟩ rfl (post_val_or_str ⟨Xu (Vg z _ _) hz,fin⟩)
noncomputable def Z8n(m:MEt)(ml mh:MOt):MEt:=λδ K=>m δ λr δ1=>ml δ1 λlo δ2=>mh δ2 λhi δ3=>∃z,r.data= .str z∧z.length≤Xi∧K (.fz (.str (Q9 z lo hi))) δ3
theorem Zi3{lo hi:Option Expr}{ml mh:MOt}(ha:ME X io true c a ma)(hl:MO X io true lo ml)(hh:MO X io true hi mh):ME X io true true (.Subscript a (.Slice lo hi none p2) pos) (Z8n ma ml mh):=by
 obtain⟨_,A,s⟩:=ha
 obtain⟨_,B,sl⟩:=hl
 obtain⟨_,D,sh⟩:=hh
 refine⟨_,Zkh Z0m A B D,?_⟩
 intro C H σ δ fp ex K' Q R h k
 refine s C H σ δ fp ex _ _ R h λH1 v r δ1 fp1 new r1 h1=>?_
 refine sl C H1 σ δ1 fp1 ex _ _ r1.base h1 λH2 l δ2 fp2 R2 S2 h2=>?_
 refine sh C H2 σ δ2 fp2 ex _ _ R2 h2 λH3 u δ3 fp3 R3 S3 h3=>?_
 obtain⟨z,hz,hl,h3⟩:=h3
 have q:=r1.da R
 rw[hz]at q
 cases q.strInv
 exact⟨z,rfl,hl,k H3 _ _ δ3 fp3 [] (.fz R3 ((r1.stp.trans S2).trans S3) (.str _)) h3⟩
noncomputable def Zfq(e:FE)(lo hi:FO):FE:=λδ=>(e δ).bind λp=>(lo p.2).bind λq=>(hi q.2).bind λr=>match p.1.data with| .str z=>if z.length≤Xi then some (.fz (.str (Q9 z q.1 r.1)),r.2)else none|_=>none
theorem Zd9{fa:FE}{lo hi:FO}(h:ME X io p c e (Z8n (o2 fa) (o2 lo) (o2 hi))):ME X io p c e (o2 (Zfq fa lo hi)):=h.weak λδ K z=>by
 obtain⟨r,δ',h,k⟩:=z
 obtain⟨⟨x,δ1⟩,h1,h⟩:=bs h
 obtain⟨⟨y,δ2⟩,h2,h⟩:=bs h
 obtain⟨⟨w,δ3⟩,h3,h⟩:=bs h
 dsimp only at h
 split at h
 case h_2=>cases h
 rename_i z hz
 split at h
 case isFalse=>cases h
 rename_i hl
 cases h
 exact⟨x,δ1,h1,y,δ2,h2,w,_,h3,z,hz,hl,k⟩
end
variable {G:Xb}
noncomputable def Sg(z:Str)(t:Tok)(it:Addr)(i:Nat)(h:Heap):Prop:=h.IsStrIter it "str_ascii_iterator" z t i∨h.IsStrIter it "str_iterator" z t i
theorem Sg.keep{z:Str}{t:Tok}{it:Addr}{i:Nat}{h h':Heap}(q:Sg z t it i h)(k:∀o,h.get? it=some o->h'.get? it=some o):Sg z t it i h' :=
 q.imp (λ⟨o,a,b⟩=>⟨o,k o a,b⟩) λ⟨o,a,b⟩=>⟨o,k o a,b⟩
theorem Sg.obj{z:Str}{t:Tok}{it:Addr}{i:Nat}{h:Heap}(q:Sg z t it i h):∃o,h.get? it=some o∧∀v,o.data≠ .cell v:=by
 rcases q with⟨o,a,_,d⟩|⟨o,a,_,d⟩
 ·exact⟨o,a,λv z=>by rw[d]at z;cases z⟩
 ·exact⟨o,a,λv z=>by rw[d]at z;cases z⟩
section
variable {P:X4}{w:Qv}{A:Qt}{E:Xc->Xf->Prop}{s:Xf}
theorem Sg.next{z:Str}{t:Tok}{it:Addr}{i c:Nat}{Q:Xc->Xf->Prop}(q:Sg z t it i s.heap)(hx:z.cps[i]? =some c)(hQ:∀h',Sg z t it (i+1) h'->Bm it s.heap h'->Q (.str ⟨#[c]⟩ s.toks) { s with heap:=h',toks:=s.toks+1 }) :
  XC (X8 P w) A (Qa (.ref it)) Q E s :=
 q.elim (λq=>wpAny_nextOf_ascii_item q hx λh' a=>hQ h' (.inl a)) λq=>wpAny_nextOf_wide_item q hx λh' a=>hQ h' (.inr a)
theorem Sg.stop{z:Str}{t:Tok}{it:Addr}{i:Nat}{Q:Xc->Xf->Prop}(hh:A.handled=none)(q:Sg z t it i s.heap)(hx:z.cps[i]? =none)(hE:∀h' e,Heap.ExtBut it s.heap h'->(∃o,h'.get? e=some o∧o.cls= .type "StopIteration")->E (.ref e) { s with heap:=h' }) :
  XC (X8 P w) A (Qa (.ref it)) Q E s :=
 q.elim (λq=>wpAny_nextOf_ascii_end hh q hx hE) λq=>wpAny_nextOf_wide_end hh q hx hE
structure Ap(z TI TO i1 i2:Addr):Prop where
 a1:TI≠z
 a2:TO≠z
 a3:i1≠z
 a4:i2≠z
 a5:i1≠TO
 a6:i2≠TO
 a7:i1≠i2
 a8:TI≠TO
 a9:TI≠i1
 a10:TI≠i2
theorem Zux{z TI TO i1 i2:Addr}{a b:Xc}{x y:Str}{tx ty:Tok}{i c c':Nat}{Q:Xc->Xf->Prop}(D:Ap z TI TO i1 i2)
  (hz:Bw s.heap z TI TO .none) (hTI:QK s.heap TI (.ref i1) (.ref i2)) (hTO:QK s.heap TO a b) (h1:Sg x tx i1 i s.heap) (h2:Sg y ty i2 i s.heap) (e1:x.cps[i]? =some c) (e2:y.cps[i]? =some c')
  (hQ:∀h',Bw h' z TI TO (Vm s.heap.objs.size)->QK h' TO (.str ⟨#[c]⟩ s.toks) (.str ⟨#[c']⟩ (s.toks+1))->Sg x tx i1 (i+1) h'->Sg y ty i2 (i+1) h'->QK h' s.heap.objs.size (.str ⟨#[c]⟩ s.toks) (.str ⟨#[c']⟩ (s.toks+1)) ->
   (∀ c o,c∉[z,TO,i1,i2]->s.heap.get? c=some o->h'.get? c=some o)->Q (.ref s.heap.objs.size) { s with heap:=h',toks:=s.toks+2 }) :
  XC (X8 P w) A (VF.«zip.__next__» ⟨[.ref z],[]⟩) (λfin s'=>∃v,fin= .done (.ret v)∧Q v s') E s:=by
 have st:∀{b c:Addr} {h h':Heap},Bm b h h'->c≠b->∀o,h.get? c=some o->h'.get? c=some o:=λsb n o e=>sb.extBut _ _ n e
 show XC _ _ (field (.ref z) 2>>=_) _ _ _
 refine Xd (QB hz rfl (x:=.bool false) rfl ?_)
 show XC _ _ (field (.ref z) 3>>=_) _ _ _
 refine Xd (QB hz rfl (x:=.ref TI) rfl (Xd (Q4 hTI rfl ?_)))
 show XC _ _ (Qq (.ref z)>>=_) _ _ _
 refine Xd ?_
 unfold Qq
 refine Xd (QB hz rfl (x:=.none) rfl (XH ?_))
 simp only[if_true]
 refine Xd (wpAny_rule (Xd (QB hz rfl (x:=.ref TO) rfl (Xd (QQ hz (by simp) λh3 z3 b3=>?_)))))
 replace z3:Bw h3 z TI TO .ellipsis:=z3
 refine Xd ?_
 simp only[U3,List.zipIdx_nil,BZ,Ve]
 refine Xd (Xd (Vc ?_))
 show XC _ _ (Qa (.ref i1)>>=_) _ _ _
 refine Xd (Sg.next (s:={ s with heap:=h3 }) (h1.keep (st b3 D.a3)) e1 λh4 k4 b4=>XH ?_)
 have o4:QK h4 TO a b:=b4.extBut _ _ D.a5.symm (b3.extBut _ _ D.a2 hTO)
 refine Xd (Q4 o4 rfl (Xd (Zb1 (s:={ s with heap:=h4,toks:=s.toks+1 }) o4 λh5 o5 b5=>Xd (U7 (XH ?_)))))
 replace o5:QK h5 TO (.str ⟨#[c]⟩ s.toks) b:=o5
 refine Xd (Xd (Vc ?_))
 show XC _ _ (Qa (.ref i2)>>=_) _ _ _
 refine Xd (Sg.next (s:={ s with heap:=h5,toks:=s.toks+1 }) (((h2.keep (st b3 D.a4)).keep (st b4 D.a7.symm)).keep (st b5 D.a6)) e2 λh6 k6 b6=>XH ?_)
 have o6:QK h6 TO (.str ⟨#[c]⟩ s.toks) b:=b6.extBut _ _ D.a6.symm o5
 refine Xd (Q4 o6 rfl (Xd (Zb1 (s:={ s with heap:=h6,toks:=s.toks+1+1 }) o6 λh7 o7 b7=>Xd (U7 (XH (XH ?_))))))
 replace o7:QK h7 TO (.str ⟨#[c]⟩ s.toks) (.str ⟨#[c']⟩ (s.toks+1)):=o7
 refine Xd (Q4 o7 rfl (Xd (wpAny_newTuple ?_)))
 have sz:h7.objs.size=s.heap.objs.size:=by rw[b7.1,b6.1,b5.1,b4.1,b3.1]
 have z7:Bw h7 z TI TO .ellipsis:=b7.extBut _ _ D.a2.symm (b6.extBut _ _ D.a4.symm (b5.extBut _ _ D.a2.symm (b4.extBut _ _ D.a3.symm z3)))
 have t1:Sg x tx i1 (i+1) h7:=((k4.keep (st b5 D.a5)).keep (st b6 D.a7)).keep (st b7 D.a5)
 have t2:Sg y ty i2 (i+1) h7:=k6.keep (st b7 D.a6)
 have old:∀c o,c∉[z,TO,i1,i2]->s.heap.get? c=some o->h7.get? c=some o:=λc o n e=>by
  simp only[Xn,Q3,or_false,not_or]at n
  exact b7.extBut _ _ n.2.1 (b6.extBut _ _ n.2.2.2 (b5.extBut _ _ n.2.1 (b4.extBut _ _ n.2.2.1 (b3.extBut _ _ n.1 e))))
 show XC _ _ (JR (.ref z) (.ref h7.objs.size)>>=_) _ _ _
 refine Xd ?_
 unfold JR
 have zp:Bw (h7.push { cls:=.type "tuple",data:=.seq #[.str ⟨#[c]⟩ s.toks,.str ⟨#[c']⟩ (s.toks+1)] }) z TI TO .ellipsis:=Xh _ z7
 refine Xd (QQ zp (by simp) λh8 z8 b8=>?_)
 replace z8:Bw h8 z TI TO (Vm h7.objs.size):=z8
 refine QQ z8 (by simp) λh9 z9 b9=>?_
 replace z9:Bw h9 z TI TO (Vm h7.objs.size):=z9
 have up:∀c o,c≠z->h7.get? c=some o->h9.get? c=some o:=λc o n e=>b9.extBut _ _ n (b8.extBut _ _ n (Xh _ e))
 have nz:h7.objs.size≠z:=XN (XD z7)
 have p9:QK h9 h7.objs.size (.str ⟨#[c]⟩ s.toks) (.str ⟨#[c']⟩ (s.toks+1)):=b9.extBut _ _ nz (b8.extBut _ _ nz (Xy _ rfl))
 refine XH ⟨_,rfl,?_⟩
 show Q (.ref h7.objs.size) _
 rw[sz]at z9 p9⊢
 exact hQ h9 z9 (up _ _ D.a2 o7) (t1.keep λo e=>up _ o D.a3 e) (t2.keep λo e=>up _ o D.a4 e) p9 λc o n e=>up c o (λq=>n (by simp[q])) (old c o n e)
theorem Zz6{z TI TO i1 i2:Addr}{a b:Xc}{x y:Str}{tx ty:Tok}{i:Nat}{Q:PySem.Fin->Xf->Prop}(hh:A.handled=none)(D:Ap z TI TO i1 i2)
  (hz:Bw s.heap z TI TO .none) (hTI:QK s.heap TI (.ref i1) (.ref i2)) (hTO:QK s.heap TO a b) (h1:Sg x tx i1 i s.heap) (h2:Sg y ty i2 i s.heap) (he:x.cps[i]? =none∨y.cps[i]? =none)
  (hE:∀h' e t',(∀c o,c∉[z,TO,i1,i2]->s.heap.get? c=some o->h'.get? c=some o)->(∃o,h'.get? e=some o∧o.cls= .type "StopIteration")->E (.ref e) { s with heap:=h',toks:=t' }) :
  XC (X8 P w) A (VF.«zip.__next__» ⟨[.ref z],[]⟩) Q E s:=by
 have st:∀{b c:Addr} {h h':Heap},Bm b h h'->c≠b->∀o,h.get? c=some o->h'.get? c=some o:=λsb n o e=>sb.extBut _ _ n e
 show XC _ _ (field (.ref z) 2>>=_) _ _ _
 refine Xd (QB hz rfl (x:=.bool false) rfl ?_)
 show XC _ _ (field (.ref z) 3>>=_) _ _ _
 refine Xd (QB hz rfl (x:=.ref TI) rfl (Xd (Q4 hTI rfl ?_)))
 show XC _ _ (Qq (.ref z)>>=_) _ _ _
 refine Xd ?_
 unfold Qq
 refine Xd (QB hz rfl (x:=.none) rfl (XH ?_))
 simp only[if_true]
 refine Xd (wpAny_rule (Xd (QB hz rfl (x:=.ref TO) rfl (Xd (QQ hz (by simp) λh3 z3 b3=>?_)))))
 replace z3:Bw h3 z TI TO .ellipsis:=z3
 refine Xd ?_
 simp only[U3,List.zipIdx_nil,BZ,Ve]
 refine Xd (Xd (Vc ?_))
 show XC _ _ (Qa (.ref i1)>>=_) _ _ _
 cases e1:x.cps[i]? with
 | none=>
  refine Xd (Sg.stop (s:={ s with heap:=h3 }) hh (h1.keep (st b3 D.a3)) e1 λh4 e b4 he=>?_)
  obtain⟨oe,hoe,hce⟩:=he
  have z4:Bw h4 z TI TO .ellipsis:=b4 _ _ D.a3.symm z3
  have ez:e≠z:=λq=>by subst q;rw[z4]at hoe;cases hoe;simp at hce
  refine QQ z4 (by simp) λh5 _ b5=>hE h5 e s.toks (λc o n q=>?_) ⟨oe,b5.extBut _ _ ez hoe,hce⟩
  simp only[Xn,Q3,or_false,not_or]at n
  exact b5.extBut _ _ n.1 (b4 _ _ n.2.2.1 (b3.extBut _ _ n.1 q))
 | some c=>
  refine Xd (Sg.next (s:={ s with heap:=h3 }) (h1.keep (st b3 D.a3)) e1 λh4 k4 b4=>XH ?_)
  have o4:QK h4 TO a b:=b4.extBut _ _ D.a5.symm (b3.extBut _ _ D.a2 hTO)
  refine Xd (Q4 o4 rfl (Xd (Zb1 (s:={ s with heap:=h4,toks:=s.toks+1 }) o4 λh5 o5 b5=>Xd (U7 (XH ?_)))))
  refine Xd (Xd (Vc ?_))
  show XC _ _ (Qa (.ref i2)>>=_) _ _ _
  refine Xd (Sg.stop (s:={ s with heap:=h5,toks:=s.toks+1 }) hh (((h2.keep (st b3 D.a4)).keep (st b4 D.a7.symm)).keep (st b5 D.a6)) (he.resolve_left (by rw[e1];exact λq=>nomatch q)) λh6 e b6 he=>?_)
  obtain⟨oe,hoe,hce⟩:=he
  have z6:Bw h6 z TI TO .ellipsis:=b6 _ _ D.a4.symm (b5.extBut _ _ D.a2.symm (b4.extBut _ _ D.a3.symm z3))
  have ez:e≠z:=λq=>by subst q;rw[z6]at hoe;cases hoe;simp at hce
  refine QQ z6 (by simp) λh7 _ b7=>hE h7 e (s.toks+1) (λc o n q=>?_) ⟨oe,b7.extBut _ _ ez hoe,hce⟩
  simp only[Xn,Q3,or_false,not_or]at n
  exact b7.extBut _ _ n.1 (b6 _ _ n.2.2.2 (b5.extBut _ _ n.2.1 (b4.extBut _ _ n.2.2.1 (b3.extBut _ _ n.1 q))))
noncomputable abbrev yT1(h:Heap)(x:Str)(t:Tok):Heap:=h.push { cls:=.type (strIterType x),data:=.fields #[.str x t,.int 0 0] }
noncomputable abbrev yT2(h:Heap)(x y:Str)(t u:Tok):Heap:=yT1 (yT1 h x t) y u
noncomputable abbrev yT3(h:Heap)(x y:Str)(t u:Tok):Heap:=(yT2 h x y t u).push { cls:=.type "tuple",data:=.seq #[.ref h.objs.size,.ref (yT1 h x t).objs.size] }
noncomputable abbrev yT4(h:Heap)(x y:Str)(t u:Tok):Heap:=(yT3 h x y t u).push { cls:=.type "tuple",data:=.seq #[.none,.none] }
noncomputable abbrev yT5(h:Heap)(x y:Str)(t u:Tok):Heap:=(yT4 h x y t u).push { cls:=.type "zip",data:=.fields #[.none,.bool false,.bool false,.ref (yT2 h x y t u).objs.size,.ref (yT3 h x y t u).objs.size] }
theorem Zq2(x y:Str)(t u:Tok) :
  Meets (VF.«zip.__new__» ⟨[.type "zip",.str x t,.str y u],[]⟩) (λ_ R s=>R (.ok (.ret (.ref (yT4 s.heap x y t u).objs.size))) { s with heap:=yT5 s.heap x y t u }) :=
 .of_wp λprog w A R s h=>by
  obtain⟨hp,g,d,tk,os⟩:=s
  have hsub:=sub_zip
  wp_walk using wpAny_pyIter_strU
  exact⟨_,rfl,h⟩
theorem Sg.at{h:Heap}{x:Str}{t:Tok}{it:Addr}(e:h.get? it=some { cls:=.type (strIterType x),data:=.fields #[.str x t,.int 0 0] }):Sg x t it 0 h:=by
 unfold strIterType at e
 split at e
 ·exact .inl ⟨_,e,rfl,rfl⟩
 ·exact .inr ⟨_,e,rfl,rfl⟩
theorem Zmt{x y:Str}{t u:Tok}{Q:Xc->Xf->Prop}
  (h:∀h' n,n=s.heap.objs.size->Bw h' (n+4) (n+2) (n+3) .none->QK h' (n+2) (.ref n) (.ref (n+1))->QK h' (n+3) .none .none->Sg x t n 0 h'->Sg y u (n+1) 0 h' ->
   (∀ c o,s.heap.get? c=some o->h'.get? c=some o)->Q (.ref (n+4)) { s with heap:=h' }):XC (X8 P w) A (call (.type "zip") [.str x t,.str y u]) Q E s:=by
 refine callType_new F.called_zip (by decide) (F.typeCall_zip_2 _ _) (F.newCall_zip_2 _ _) (λobj=>F.args_object_init_3 obj _ _) F.entry_zip_new (Zq2 x y t u) ?_
 have e1:(yT1 s.heap x t).objs.size=s.heap.objs.size+1:=Qy ..
 have e2:(yT2 s.heap x y t u).objs.size=s.heap.objs.size+2:=by rw[Qy,e1]
 have e3:(yT3 s.heap x y t u).objs.size=s.heap.objs.size+3:=by rw[Qy,e2]
 have e4:(yT4 s.heap x y t u).objs.size=s.heap.objs.size+4:=by rw[Qy,e3]
 have up:∀{c o},(yT1 s.heap x t).get? c=some o->(yT5 s.heap x y t u).get? c=some o:=λx=>Xh _ (Xh _ (Xh _ (Xh _ x)))
 have p5:(yT5 s.heap x y t u).get? (yT4 s.heap x y t u).objs.size=some _:=Xy _ rfl
 have p4:(yT5 s.heap x y t u).get? (yT3 s.heap x y t u).objs.size=some _:=Xh _ (Xy _ rfl)
 have p3:(yT5 s.heap x y t u).get? (yT2 s.heap x y t u).objs.size=some _:=Xh _ (Xh _ (Xy _ rfl))
 have p2:(yT5 s.heap x y t u).get? (yT1 s.heap x t).objs.size=some _:=Xh _ (Xh _ (Xh _ (Xy _ rfl)))
 have p1:(yT5 s.heap x y t u).get? s.heap.objs.size=some _:=up (Xy _ rfl)
 show _∧_
 rw[e2,e3,e4]at p5
 rw[e1,e2]at p3
 rw[e3]at p4
 rw[e1]at p2
 rw[e4]
 exact⟨⟨_,p5,rfl⟩,h _ _ rfl p5 p3 p4 (.at p1) (.at p2) λc o x=>up (Xh _ x)⟩
theorem Zl2{z TI TO i1 i2:Addr}{a b:Xc}{x y:Str}{tx ty:Tok}{i c c':Nat}{Q:Option Xc->Xf->Prop}(D:Ap z TI TO i1 i2)
  (hz:Bw s.heap z TI TO .none) (hTI:QK s.heap TI (.ref i1) (.ref i2)) (hTO:QK s.heap TO a b) (h1:Sg x tx i1 i s.heap) (h2:Sg y ty i2 i s.heap) (e1:x.cps[i]? =some c) (e2:y.cps[i]? =some c')
  (hQ:∀h',Bw h' z TI TO (Vm s.heap.objs.size)->QK h' TO (.str ⟨#[c]⟩ s.toks) (.str ⟨#[c']⟩ (s.toks+1))->Sg x tx i1 (i+1) h'->Sg y ty i2 (i+1) h'->QK h' s.heap.objs.size (.str ⟨#[c]⟩ s.toks) (.str ⟨#[c']⟩ (s.toks+1)) ->
   (∀ c o,c∉[z,TO,i1,i2]->s.heap.get? c=some o->h'.get? c=some o)->Q (some (.ref s.heap.objs.size)) { s with heap:=h',toks:=s.toks+2 }):XC (X8 P w) A (Uh (.ref z)) Q E s:=by
 have hT:s.TypeIs (.ref z) "zip" :=⟨_,hz,rfl⟩
 unfold Uh
 exact Xd (wpAny_attempt (Bj (name:=Ua "__next__") hT Bx (Vs Bx hT F.entry_zip_next (Zux D hz hTI hTO h1 h2 e1 e2 λh' a1 a2 a3 a4 a5 a6=>XH (hQ h' a1 a2 a3 a4 a5 a6)) (U5 _))))
theorem Zoe{z TI TO i1 i2:Addr}{a b:Xc}{x y:Str}{tx ty:Tok}{i:Nat}{Q:Option Xc->Xf->Prop}(hh:A.handled=none)(D:Ap z TI TO i1 i2)
  (hz:Bw s.heap z TI TO .none) (hTI:QK s.heap TI (.ref i1) (.ref i2)) (hTO:QK s.heap TO a b) (h1:Sg x tx i1 i s.heap) (h2:Sg y ty i2 i s.heap) (he:x.cps[i]? =none∨y.cps[i]? =none)
  (hQ:∀h' t',(∀c o,c∉[z,TO,i1,i2]->s.heap.get? c=some o->h'.get? c=some o)->Q none { s with heap:=h',toks:=t' }):XC (X8 P w) A (Uh (.ref z)) Q E s:=by
 have hT:s.TypeIs (.ref z) "zip" :=⟨_,hz,rfl⟩
 unfold Uh
 refine Xd (wpAny_attempt (Bj (name:=Ua "__next__") hT Bx (Vs Bx hT F.entry_zip_next (Zz6 hh D hz hTI hTO h1 h2 he λh' e t' hk he=>?_) (U5 _))))
 obtain⟨o,ho,hc⟩:=he
 exact Xd (wpAny_isInstance (T :="StopIteration") (b:=true) ⟨o,ho,hc⟩ isSubtype_stop (XH (hQ _ _ hk)))
end
noncomputable def Z7x(x y:Str):It :=
 ⟨λi _=>i<x.cps.size∧i<y.cps.size,
   λi H v H'=>∃p c c',H p=none∧v= .ref p∧x.cps[i]? =some c∧y.cps[i]? =some c'∧H'=upd H p (.tup [.str ⟨#[c]⟩,.str ⟨#[c']⟩]),
   λi _=>x.cps.size≤i∨y.cps.size≤i⟩
noncomputable def Z61(x y:Str)(tx ty:Tok)(z TI TO i1 i2:Addr)(i:Nat)(h:Heap):Prop:=Bw h z TI TO .none∧QK h TI (.ref i1) (.ref i2)∧(∃x y,QK h TO x y)∧Sg x tx i1 i h∧Sg y ty i2 i h
theorem Znu{P:X4}{w:Qv}{K:Xb}{es:List Expr}{kk:Nat}{pos:Pos}{x y:Str}{tx ty:Tok}{z TI TO i1 i2:Addr}(D:Ap z TI TO i1 i2):Turn P w K (.Tuple es kk pos) (Z7x x y) [z,TI,TO,i1,i2] z (Z61 x y tx ty z TI TO i1 i2) where
 mem:=.head _
 obj:=λi h st=>by
  obtain⟨s1,s2,⟨_,_,s3⟩,s4,s5⟩:=st
  exact Zx3 ⟨_,s1,λv q=>by cases q⟩ ⟨_,s2,λv q=>by cases q⟩ ⟨_,s3,λv q=>by cases q⟩ s4.obj s5.obj
 keep:=λi h h' st k=>by
  obtain⟨s1,s2,⟨_,_,s3⟩,s4,s5⟩:=st
  have m2:TI∈[z,TI,TO,i1,i2]:=.tail _ (.head _)
  have m3:TO∈[z,TI,TO,i1,i2]:=.tail _ (.tail _ (.head _))
  have m4:i1∈[z,TI,TO,i1,i2]:=.tail _ (.tail _ (.tail _ (.head _)))
  have m5:i2∈[z,TI,TO,i1,i2]:=.tail _ (.tail _ (.tail _ (.tail _ (.head _))))
  exact⟨k z (.head _) _ s1,k TI m2 _ s2,⟨_,_,k TO m3 _ s3⟩,s4.keep (k i1 m4),s5.keep (k i2 m5)⟩
 item:=by
  intro X hP hw hK hc i pins s σ H E I hf st hg
  subst hP hw hK
  obtain⟨s1,s2,⟨x0,y0,s3⟩,s4,s5⟩:=st
  obtain⟨c1,ex⟩:∃c,x.cps[i]? =some c:=⟨_,Vf hg.1⟩
  obtain⟨c2,ey⟩:∃c,y.cps[i]? =some c:=⟨_,Vf hg.2⟩
  refine Zl2 D s1 s2 s3 s4 s5 ex ey λh' g1 g2 g3 g4 g5 g6=>?_
  refine⟨_,rfl,wpAny_letOwnedTupleGo_zip (s:={ s with heap:=h',toks:=s.toks+2 }) g1 λh2 z2 sb=>?_⟩
  have up:∀c o,c≠z->h'.get? c=some o->h2.get? c=some o:=λc o n e=>(sb.2 c n).trans e
  have kp:∀c o,c∉[z,TO,i1,i2]->s.heap.get? c=some o->h2.get? c=some o:=λc o n e=>up c o (λq=>n (q▸ .head _)) (g6 c o n e)
  have t5:=up _ _ (XN (XD s1)) g5
  have n3:=g3.keep (up i1 · D.a3)
  have n4:=g4.keep (up i2 · D.a4)
  obtain⟨f1,f2,f3,f4,f5⟩:(Zdi X pins H z∧Zdi X pins H TI∧Zdi X pins H TO∧Zdi X pins H i1∧Zdi X pins H i2):=⟨hf _ (.head _),hf _ (.tail _ (.head _)),hf _ (.tail _ (.tail _ (.head _))),hf _ (.tail _ (.tail _ (.tail _ (.head _)))),hf _ (.tail _ (.tail _ (.tail _ (.tail _ (.head _)))))⟩
  have I2:Inv X pins σ (upd H s.heap.objs.size (.tup [.str ⟨#[c1]⟩,.str ⟨#[c2]⟩])) { s with heap:=h2,toks:=s.toks+2 } :=
   (I.turnTup (ch:=[z,TO,i1,i2]) (xs:=[.str ⟨#[c1]⟩,.str ⟨#[c2]⟩]) (Ztr f1 f3 f4 f5) kp (Ztr ⟨_,z2⟩ ⟨_,up _ _ D.a2 g2⟩ (n3.obj.imp λ_ q=>q.1) (n4.obj.imp λ_ q=>q.1)) (XQ _) Ztu (.cons ⟨_,rfl⟩ (.cons ⟨_,rfl⟩ .nil)) ⟨_,t5,rfl,0,rfl⟩).kept (t':=s.toks+2) λ_ _ e=>e
  have lt:∀{c:Addr} {o:Obj},s.heap.get? c=some o->Zdi X pins H c->upd H s.heap.objs.size (.tup [.str ⟨#[c1]⟩,.str ⟨#[c2]⟩]) c=none:=λe f=>by rw[Zm (Xp (XD e))];exact f.1
  refine⟨.ref s.heap.objs.size,_,I2,rfl,⟨_,_,_,I.fresh,rfl,ex,ey,rfl⟩,⟨z2,kp TI _ (no4 D.a1 D.a8 D.a9 D.a10) s2,⟨_,_,up _ _ D.a2 g2⟩,n3,n4⟩,?_⟩
  obtain⟨o4,e4,_⟩:=s4.obj
  obtain⟨o5,e5,_⟩:=s5.obj
  exact Zx3 (lt s1 f1) (lt s2 f2) (lt s3 f3) (lt e4 f4) (lt e5 f5)
 done:=by
  intro X hP hw hK hc i pins s σ H E I hf st hg
  subst hP hw hK
  obtain⟨s1,s2,⟨x0,y0,s3⟩,s4,s5⟩:=st
  refine Zoe (I.ok.hd hc) D s1 s2 s3 s4 s5 (hg.imp (λq=>VD q) λq=>VD q) λh' t' k=>⟨rfl,?_⟩
  exact(I.turnAll (ch:=[z,TO,i1,i2]) (Ztr (hf _ (.head _)) (hf _ (.tail _ (.tail _ (.head _)))) (hf _ (.tail _ (.tail _ (.tail _ (.head _))))) (hf _ (.tail _ (.tail _ (.tail _ (.tail _ (.head _))))))) k).kept (t':=t') λ_ _ e=>e
 self:=λ_ _ _ _ _ st h=>wpAny_pyIter_zip st.1 h
theorem Ap.new(n:Nat):Ap (n+4) (n+2) (n+3) n (n+1):=⟨(by first|exact nn (by decide)|exact n0 (by decide)|exact(n0 (by decide)).symm|omega),(by first|exact nn (by decide)|exact n0 (by decide)|exact(n0 (by decide)).symm|omega),(by first|exact nn (by decide)|exact n0 (by decide)|exact(n0 (by decide)).symm|omega),(by first|exact nn (by decide)|exact n0 (by decide)|exact(n0 (by decide)).symm|omega),(by first|exact nn (by decide)|exact n0 (by decide)|exact(n0 (by decide)).symm|omega),(by first|exact nn (by decide)|exact n0 (by decide)|exact(n0 (by decide)).symm|omega),(by first|exact nn (by decide)|exact n0 (by decide)|exact(n0 (by decide)).symm|omega),(by first|exact nn (by decide)|exact n0 (by decide)|exact(n0 (by decide)).symm|omega),(by first|exact nn (by decide)|exact n0 (by decide)|exact(n0 (by decide)).symm|omega),(by first|exact nn (by decide)|exact n0 (by decide)|exact(n0 (by decide)).symm|omega)⟩
noncomputable def Z6n(ta:TA):TI:=λσ H R=>ta σ H λvs H1=>∃x y,vs=[.str x,.str y]∧R (Z7x x y) H1
theorem Zxk{X:Cx}{a b:Expr}{ta:TA}{p pos pt:Pos}{es:List Expr}{kk:Nat}(hg:Gl X "zip")(hm:X.mg "zip"=none)(hv:Qp "zip"=some (.type "zip"))(ha:PA X [a,b] ta)
  (he:Xj [a,b] X.env=(false,eval a X.env) :: Xj [b] X.env:=by rfl) (hpl:(Q6 pos (Xj [b] X.env)).any (·.1)=false:=by rfl) :
  PI X (.Tuple es kk pt) (.Call (.Name "zip" p) [a,b] [] pos) (Z6n ta):=by
 intro pins s σ H R I h
 refine Bb (Zc4 I hg hm hv ?_ (by decide) (by decide))
 refine JD (thn (ha pos pins s σ H _ I h) λus s1 q=>?_) he hpl
 obtain⟨vs,H1,I1,r1,x,y,e1,q⟩:=q
 subst e1
 obtain⟨u,u',rfl,⟨t,rfl⟩,⟨t',rfl⟩⟩:=vals2 r1
 refine Zmt λh' n en g1 g2 g3 g4 g5 g7=>?_
 have I2:Inv X pins σ H1 { s1 with heap:=h' }:=I1.kept (t':=s1.toks) g7
 refine wpAny_pyIter_zip (s:={ s1 with heap:=h' }) g1 ?_
 refine⟨_,[_,_,_,_,_],Z61 _ _ _ _ _ _ _ _ _,_,H1,rfl,I2,Znu (.new n),⟨g1,g2,⟨_,_,g3⟩,g4,g5⟩,?_,q⟩
 subst en
 have ok:∀k:Nat,Zdi X pins H1 (s1.heap.objs.size+k):=λk=>I1.fpOk (Vj _ _) (I1.hok.fresh (Vj _ _))
 exact Zx3 (ok 4) (ok 2) (ok 3) (ok 0) (ok 1)
section
variable {X:Cx}{io:List Nat}{p c:Bool}{a b:Expr}{mr:MAt}{ra:FA}
noncomputable def Zwv:List Xa->Option (List Xa):=λds=>match ds with|[.str x,.str y]=>some (Zjc (Zau x) (Zau y))|_=>none
noncomputable def iZS(mr:MAt):MIt:=λδ K=>mr δ λrs δ'=>∃es,Zwv (OT.datas rs)=some es∧K es δ'
theorem Zw3{p' pos pt:Pos}{es:List Expr}{kk:Nat}(hg:Gl X "zip")(hm:X.mg "zip"=none)(hv:Qp "zip"=some (.type "zip"))(ha:MA X io p c [a,b] mr)
  (he:Xj [a,b] X.env=(false,eval a X.env) :: Xj [b] X.env:=by rfl) (hpl:(Q6 pos (Xj [b] X.env)).any (·.1)=false:=by rfl):MI X io p c (.Tuple es kk pt) (.Call (.Name "zip" p') [a,b] [] pos) (iZS mr):=by
 obtain⟨_,A,s⟩:=ha
 refine⟨_,Zxk hg hm hv A he hpl,λC H σ δ fp ex K' Q R h kk=>s C H σ δ fp ex _ _ R h λH1 vs rs δ1 fp1 new r1 h1=>?_⟩
 have q:=r1.das R
 obtain⟨es,hz,h1⟩:=h1
 generalize OT.datas rs=ds at q hz
 unfold Zwv at hz
 split at hz
 case h_2=>cases hz
 rename_i x y
 cases hz
 cases q with
 | cons q1 q2=>
  cases q2 with
  | cons q2 q3=>
   cases q3
   cases q1.strInv
   cases q2.strInv
   refine⟨x,y,rfl,kk _ H1 _ δ1 fp1 r1.base r1.stp (λH' kp i=>?_) h1⟩
   have g:∀{x:Str} {d:Xa},(Zau x)[i]? =some d->∃c,x.cps[i]? =some c∧d= .str ⟨#[c]⟩:=fun{x d} h=>by
    unfold Zau at h
    rw[Xm,VN]at h
    obtain⟨c,hc,rfl⟩:=XM.mp h
    exact⟨c,hc,rfl⟩
   have l:∀x:Str,(Zau x).length=x.cps.size:=λx=>by unfold Zau;rw[Xg,By]
   refine⟨λd hd=>?_,λhd=>?_⟩
   ·obtain⟨u,v,hu,hv,rfl⟩:=Zhs hd
    obtain⟨c,hc,rfl⟩:=g hu
    obtain⟨c',hc',rfl⟩:=g hv
    refine⟨⟨(JP.mp hc).1,(JP.mp hc').1⟩,λv H'' hyl=>?_⟩
    obtain⟨t',c1,c2,ht,rfl,h1,h2,rfl⟩:=hyl
    cases hc.symm.trans h1
    cases hc'.symm.trans h2
    exact⟨Z6 ht _,.tup Zq (.cons (.str _) (.cons (.str _) .nil))⟩
   ·have:=Zis hd
    rw[l,l]at this
    exact this
noncomputable def Zph(a:FA):FI:=λδ=>(a δ).bind λp=>(Zwv (OT.datas p.1)).bind λds=>some (ds,p.2)
theorem Zur{tg e:Expr}(g:MI X io p c tg e (iZS (o2 ra))):MI X io p c tg e (o2 (Zph ra)):=g.weak λδ K h=>by
 obtain⟨r,δ',h,k⟩:=h
 obtain⟨⟨x,δ1⟩,h1,h⟩:=bs h
 obtain⟨ds,h2,h⟩:=bs h
 cases h
 exact⟨x,_,h1,_,h2,k⟩
end
variable {G:Xb}
noncomputable def stS(ks:List Str)(x:Str):List Str:=if x∈ks then ks else ks ++ [x]
noncomputable def Zho(xs:List Str):List Str:=xs.foldl stS []
theorem Zn6(ks:List Str)(x:Str):(stS ks x).length≤ks.length+1:=by
 unfold stS
 split
 ·exact Nat.le_succ _
 ·rw[Xo];exact XQ _
theorem Zqj{xs ks:List Str}(h:(ks ++ xs).Nodup):xs.foldl stS ks=ks ++ xs:=by
 induction xs generalizing ks with
 | nil=>rw[XR];rfl
 | cons x xs ih=>
  have hx:x∉ks:=λm=>(Bf.mp h).2.2 x m x (.head _) rfl
  have e:stS ks x=ks ++ [x]:=if_neg hx
  rw[V2,e,ih (by rw[QH];exact h),QH];rfl
theorem Zgq{xs:List Str}(h:xs.Nodup):Zho xs=xs:=Zqj (ks:=[]) h
section
variable {prog:X4}{w:Qv}{A:Qt}{R:Result->Xf->Prop}{I:Addr}{fp wr:List Addr}{n:Nat}{Pv:Nat->Xc->Prop}{St:Nat->Heap->Prop}
theorem Zzk(W:Walks prog w A.in1 I fp wr n Pv St)(S:Addr)(sf:S∉fp)(xs:List Str)(ln:xs.length=n)(lb:n+1<scanBound)(hv:∀i v,Pv i v->∃k t,v=Vu k t∧xs[i]? =some k) :
  ∀(m i:Nat) (s:Xf) (ks:List Str),n-i=m->i≤n->St i s.heap->s.heap.SetOf (strKind prog w) S (λk=>decide (k∈ks)) ks.length->ks.length≤i ->
  (∀ h' tk,h'.SetOf (strKind prog w) S (λk=>decide (k∈(xs.drop i).foldl stS ks)) ((xs.drop i).foldl stS ks).length->(∀b o,b∉wr->b≠S->s.heap.get? b=some o->h'.get? b=some o)->R (.ok (.ret .none)) { s with heap:=h',toks:=tk }) ->
  U8 (X8 prog w) A (.builtin "set.update.loop" ⟨[.ref S,.ref I],[]⟩) R s:=by
 have sw:S∉wr:=λh=>sf (W.sub _ h)
 intro m
 induction m with
 | zero=>
  intro i s ks em ei st hS lk r
  have en:i=n:=by omega
  refine codeAny_builtin F.entry_set_update_loop ?_;rw[Around.under_plainId F.plain_set_update_loop _]
  show XC _ A.in1 (Uh (.ref I)>>=_) _ _ _
  refine Xd (W.done s _ _ (en▸st) λh' tk kp=>?_)
  show XC _ A.in1 (ret Be) _ _ { s with heap:=h',toks:=tk }
  rw[Bl (by omega)]at r
  obtain⟨o,es,ep,t,ho,rest⟩:=hS
  exact XH (r h' tk ⟨o,es,ep,t,kp S _ sw ho,rest⟩ λb o nb _ e=>kp b o nb e)
 | succ m ih=>
  intro i s ks em ei st hS lk r
  have lt:i<n:=by omega
  refine codeAny_builtin F.entry_set_update_loop ?_;rw[Around.under_plainId F.plain_set_update_loop _]
  show XC _ A.in1 (Uh (.ref I)>>=_) _ _ _
  refine Xd (W.item i s _ _ lt st λv h' tk pv st' kp=>?_)
  obtain⟨k,t,rfl,ek⟩:=hv i v pv
  show XC _ A.in1 (holding [Vu k t] (setAdd S (.str k t))>>=_) _ _ { s with heap:=h',toks:=tk }
  have hS':h'.SetOf (strKind prog w) S (λk=>decide (k∈ks)) ks.length:=by
   obtain⟨o,es,ep,tb,ho,rest⟩:=hS
   exact⟨o,es,ep,tb,kp S _ sw ho,rest⟩
  refine Xd (wpAny_holding ?_)
  unfold setAdd
  refine wpAny_holding (Xd ((strKind prog w).pyHash (k:=k) (strKind_is _ _ _ _) ?_))
  refine wpAny_setAddHashed_of (knd:=strKind prog w) (s:={ s with heap:=h',toks:=tk+1 }) (strKind_is _ _ _ _) rfl hS' (by omega) λh2 sb hS2=>?_
  have hS3:h2.SetOf (strKind prog w) S (λx=>decide (x∈stS ks k)) (stS ks k).length:=by
   refine SetOf_congr hS2 (λx=>?_) ?_
   ·unfold stS
    by_cases c:k∈ks
    ·rw[if_pos c,←Bool.decide_or]
     exact decide_eq_decide.mpr ⟨λq=>q.elim id λe=>e▸c,.inl⟩
    ·rw[if_neg c,←Bool.decide_or]
     exact decide_eq_decide.mpr ⟨λq=>q.elim (λq=>Qk _ q) λe=>e▸Xw _ (.head _),λq=>(Qj.mp q).imp id λq=>Xl.mp q⟩
   ·unfold stS
    by_cases c:k∈ks
    ·rw[if_pos c,if_pos (decide_eq_true c)]
    ·rw[if_neg c,if_neg (λq=>c (of_decide_eq_true q)),Xo];rfl
  have k2:∀b o,b≠S->h'.get? b=some o->h2.get? b=some o:=λb o nS e=>by rw[sb.2 b nS];exact e
  have sl:=Zn6 ks k
  obtain⟨hi,e2⟩:=Xv.mp ek
  rw[QX hi,e2,V2]at r
  refine XH ⟨plainId_quiet F.plain_set_update_loop _,ih (i+1) _ (stS ks k) (by omega) lt (W.frame _ _ _ st' λb bf o e=>k2 b o (λh:b=S=>sf (by rw[←h];exact bf)) e) hS3 (by omega) λh3 tk3 hS3 kp3=>?_⟩
  exact r h3 tk3 hS3 λb o nb nS e=>kp3 b o nb nS (k2 b o nS (kp b o nb e))
end
section
variable {prog:X4}{w:Qv}{A:Qt}{E:Xc->Xf->Prop}{s:Xf}
theorem Zzb{l:Addr}{its:Array Xc}{xs:List Str}{led:Bool}{Q:Xc->Xf->Prop}(hh:A.handled=none)(hl:s.heap.IsList l its)(ln:xs.length=its.size)(lb:its.size+1<scanBound)
  (hv:∀(i:Nat) (v:Xc),its[i]? =some v->∃k t,v=Vu k t∧xs[i]? =some k)
  (q:∀h' tk,h'.SetOf (strKind prog w) s.heap.objs.size (λk=>decide (k∈Zho xs)) (Zho xs).length->(∀b o,b<s.heap.objs.size->s.heap.get? b=some o->h'.get? b=some o)->Q .none { s with heap:=h',toks:=tk }) :
  XC (X8 prog w) A (VF.«set.__init__» ⟨[Qu s.heap.objs.size,Qu l],[]⟩) (λfin s'=>∃v,fin= .done (.ret v)∧Q v s') E { s with heap:=s.heap.push { cls:=.type "set",dict:=none,data:=.set #[] 0 (.fresh 0 0 led) } }:=by
 obtain⟨ol,hol,hcl,nl,hdl⟩:=id hl
 obtain⟨ocls,odict,odata,oslots⟩:=ol
 simp only at hcl hdl
 subst hcl hdl
 have ho':(s.heap.push { cls:=.type "set",dict:=none,data:=.set #[] 0 (.fresh 0 0 led) }).get? l=some { cls:=.type "list",dict:=odict,data:=.seq its nl,slots:=oslots }:=Xh _ hol
 have gS:(s.heap.push { cls:=.type "set",dict:=none,data:=.set #[] 0 (.fresh 0 0 led) }).get? s.heap.objs.size=some { cls:=.type "set",dict:=none,data:=.set #[] 0 (.fresh 0 0 led) }:=Xy _ rfl
 have hT:Shared.TypeIs { s with heap:=s.heap.push { cls:=.type "set",dict:=none,data:=.set #[] 0 (.fresh 0 0 led) } } (.ref s.heap.objs.size) "set" :=⟨_,gS,rfl⟩
 have h1:=F.sub_list_set
 have h2:=F.sub_list_frozenset
 have h3:(Value.type "list"==Value.type "dict")=false:=by decide
 have hl1:(s.heap.push { cls:=.type "set",dict:=none,data:=.set #[] 0 (.fresh 0 0 led) }).IsList l its:=⟨_,ho',rfl,nl,rfl⟩
 unfold VF.«set.__init__» noKeywords Builtin.Frozenset.updateFrom
 generalize hPI:pyIter=PI
 wp_walk
 subst hPI
 refine wpAny_pyIter_list hl1 (Xd (wpAny_runValue ?_))
 have lS:l<s.heap.objs.size:=XD hol
 refine Zzk (Walks.list (by simpa using hh) _ l ?hne its) s.heap.objs.size ?sf xs ln lb hv its.size 0 _ [] (by omega) (JK _) ⟨⟨_,Xy _ rfl,rfl,rfl⟩,hl1.push _⟩ ?hS (XQ _) ?hR
 case hne=>rw[Qy];exact Xp (Nat.lt_succ_of_lt lS)
 case sf=>
  rw[Qy]
  intro m
  rcases Xn.mp m with e|m
  ·exact Xp (BR _) e
  ·exact XN lS (Xl.mp m)
 case hS=>exact SetOf_congr ((setObjOf_fresh (knd:=strKind prog w) led).setOf (Xh _ gS) (by unfold scanBound;omega)) (λk=>(decide_eq_false (λq=>nomatch q)).symm) rfl
 case hR=>
  intro h' tk hS kp
  refine XH ?_;show XC _ _ (ret Be) _ _ { s with heap:=h',toks:=tk }
  refine XH ⟨_,rfl,q h' tk hS λb o lb e=>?_⟩
  refine kp b o (λm=>?_) (Xp lb) (Xh _ (Xh _ e))
  rw[Qy]at m
  exact Xp (Nat.lt_succ_of_lt lb) (Xl.mp m)
theorem Zpm{l:Addr}{its:Array Xc}{xs:List Str}{Q:Xc->Xf->Prop}(hh:A.handled=none)(hl:s.heap.IsList l its)(ln:xs.length=its.size)(lb:its.size+1<scanBound)
  (hv:∀(i:Nat) (v:Xc),its[i]? =some v->∃k t,v=Vu k t∧xs[i]? =some k)
  (q:∀h' tk,h'.SetOf (strKind prog w) s.heap.objs.size (λk=>decide (k∈Zho xs)) (Zho xs).length->(∀b o,b<s.heap.objs.size->s.heap.get? b=some o->h'.get? b=some o)->Q (Qu s.heap.objs.size) { s with heap:=h',toks:=tk }) :
  XC (X8 prog w) A (call (.type "set") [Qu l]) Q E s:=by
 obtain⟨c,tl,e0⟩:=Vo.mro
 have e1:=Vo.made
 have e2:=Vo.sub
 refine wpAny_call (codeAny_of_tree ?_);show XC _ _ (callAny (.type "set") _) _ _ _
 refine XH ⟨Code.quiet_builtin _ (by decide +kernel),codeAny_builtin F.entry_type_call ?_⟩;rw[Qt.under_plain (weight_type_call_type "set" [Qu l] []) rfl]
 have e3:=Vo.notType
 have e4:=Vo.canCreate
 have e5:=F.typeCall_set_1 (Qu l)
 repeat any_goals first|assumption|wp_step
 refine Uw (code_set_new_1 (Qu l) (E:=E) (Q₁:=λobj s1=>∃led:Bool,obj=Qu s.heap.objs.size∧s1={ s with heap:=s.heap.push { cls:=.type "set",dict:=none,data:=.set #[] 0 (.fresh 0 0 led) } }) λled=>⟨led,rfl,rfl⟩) λr s1 r1=>?_
 cases r with
 | error e=>exact r1
 | ok fl=>
  cases fl with
  | ret obj=>
   obtain⟨led,rfl,rfl⟩:=r1
   have gS:(s.heap.push { cls:=.type "set",dict:=none,data:=.set #[] 0 (.fresh 0 0 led) }).get? s.heap.objs.size=some { cls:=.type "set",dict:=none,data:=.set #[] 0 (.fresh 0 0 led) }:=Xy _ rfl
   have hT:Shared.TypeIs { s with heap:=s.heap.push { cls:=.type "set",dict:=none,data:=.set #[] 0 (.fresh 0 0 led) } } (Qu s.heap.objs.size) "set" :=⟨_,gS,rfl⟩
   have e6:=Vo.init.lookup
   have e7:=Vo.init.bind (Qu s.heap.objs.size)
   repeat any_goals first|assumption|wp_step
   refine Uw (codeAny_call_builtin (R:=wants (λr s2=>r= .none∧∃h' tk,s2={ s with heap:=h',toks:=tk }∧h'.SetOf (strKind prog w) s.heap.objs.size (λk=>decide (k∈Zho xs)) (Zho xs).length∧∀b o,b<s.heap.objs.size->s.heap.get? b=some o->h'.get? b=some o) E) Vo.init.plain F.entry_set_init (check_set_init_1 hT ?_)) λr2 s2 hr2=>?_
   ·refine Qs (Zzb (by simpa using hh) hl ln lb hv (Q:=λr s2=>r= .none∧∃h' tk,s2={ s with heap:=h',toks:=tk }∧h'.SetOf (strKind prog w) s.heap.objs.size (λk=>decide (k∈Zho xs)) (Zho xs).length∧∀b o,b<s.heap.objs.size->s.heap.get? b=some o->h'.get? b=some o) λh' tk a1 a6=>⟨rfl,h',tk,rfl,a1,a6⟩) (λfin s' hf=>?_) λ_ _ x=>x
    obtain⟨v,rfl,hq⟩:=hf
    exact hq
   ·cases r2 with
    | error e=>exact hr2
    | ok fl2=>
     cases fl2 with
     | ret r=>
      obtain⟨rfl,h',tk,rfl,a1,a6⟩:=hr2
      repeat any_goals first|assumption|wp_step
      exact q h' tk a1 a6
     | _=>exact hr2.elim
  | _=>exact r1.elim
end
section
variable {X:Cx}{p c:Bool}{io:List Nat}{a e:Expr}{pos pos' pl pr:Pos}{t:TA}{mr:MAt}{ra:FA}
theorem Zjj{ts:List Str}{its:List Xc}(r:Vals (ts.map V.str) its):ts.length=its.length∧∀(i:Nat) (v:Xc),its[i]? =some v->∃k t,v=Vu k t∧ts[i]? =some k:=by
 refine⟨by rw[←r.length,Xg],λi v e=>?_⟩
 obtain⟨l,rfl,rfl⟩:=Zfj r
 have e:(l.map λq=>Vu q.1 q.2)[i]? =some v:=e
 rw[Xm]at e
 obtain⟨q,hq,rfl⟩:=XM.mp e
 exact⟨q.1,q.2,rfl,by rw[Xm,hq];rfl⟩
noncomputable def Z9b(K:Xb)(t:TA):TE:=λσ H Q=>t σ H λvs H1=>∃(l:Addr) (ts:List Str),vs=[.ref l]∧SqL K H1 l (ts.map V.str)∧ts.length<4095∧Q (.int (Zho ts).length) H1
theorem Zlq(hc:X.calm=true)(hgl:Gl X "len")(hml:X.mg "len"=none)(hvl:Qp "len"=some (.builtin "len"))(hg:Gl X "set")(hm:X.mg "set"=none)(hv:Qp "set"=some (.type "set"))(ha:PA X [a] t)
  (he:Xj [a] X.env=(false,eval a X.env) :: Xj [] X.env:=by rfl) (hpl:(Q6 pos' (Xj [] X.env)).any (·.1)=false:=by rfl)
  (he':Xj [.Call (.Name "set" pr) [a] [] pos'] X.env=(false,eval (.Call (.Name "set" pr) [a] [] pos') X.env) :: Xj [] X.env:=by rfl) (hpl':(Q6 pos (Xj [] X.env)).any (·.1)=false:=by rfl) :
  PE X (.Call (.Name "len" pl) [.Call (.Name "set" pr) [a] [] pos'] [] pos) (Z9b X.K t):=by
 intro pins s σ H Q I h
 refine Bb (Zc4 I hgl hml hvl ?_ (by decide) (by decide))
 refine PyProof.Rows.callWith_builtin1 ?_ he' hpl'
 rw[he']
 show XC _ _ (spliced ((false,eval (.Call (.Name "set" pr) [a] [] pos') X.env) :: Q6 pos (Xj [] X.env))) _ _ s
 have inner:XC (X8 X.prog X.w) X.A (eval (.Call (.Name "set" pr) [a] [] pos') X.env) (λu s2=>∃(S:Addr) (f:Str->Bool) (n:Nat) (H1:Hp),u=Qu S∧s2.heap.SetOf (strKind X.prog X.w) S f n∧Inv X pins σ H1 s2∧Q (.int n) H1) X.xe s:=by
  refine Bb (Zc4 I hg hm hv ?_ (by decide) (by decide))
  refine JD (thn (ha pos' pins s σ H _ I h) λus s1 qz=>?_) he hpl
  obtain⟨vs,H1,I1,r1,l,ts,rfl,hs,hb,q⟩:=qz
  obtain⟨u,rfl,ru⟩:=vals1 r1
  cases(show u=Qu l from ru)
  obtain⟨its,rv,pl,hz⟩:=I1.list hs
  obtain⟨ll,g⟩:=Zjj rv
  refine Zpm (its:=its.toArray) (I1.ok.hd hc) pl.isList (by simp[ll]) (by show _<4096;rw[Xr];omega) (λi v e=>g i v (by simpa using e)) λh' tk a1 a6=>?_
  exact⟨_,_,_,H1,rfl,a1,I1.kept (t':=tk) (λb u e=>a6 b u (XD e) e),q⟩
 refine Calls.spliced_cons (thn inner λu s2 qz=>?_)
 obtain⟨S,f,n,H1,rfl,⟨o,es,ep,tb,ho,hex,hd,_,_,hz,hf,hn⟩,I2,q⟩:=qz
 subst hn
 refine Calls.spliced_nil ?_
 have:es.size<4096:=hz
 exact call_len_set ho hex hd hf (by omega) ⟨.int es.size,H1,I2.kept (h':=s2.heap) (λb o e=>e),⟨_,rfl⟩,q⟩
noncomputable def Ze0:List Xa->Option Xa:=λds=>match ds with
 | [.list es]=>(Zf0 es).bind λts=>if ts.length<4095 then some (.int (Zho ts).length)else none
 | _=>none
noncomputable def Zkj(mr:MAt):MEt:=λδ K=>mr δ λrs δ'=>∃d,Ze0 (OT.datas rs)=some d∧K (.fz d) δ'
theorem Zev(hc:X.calm=true)(hgl:Gl X "len")(hml:X.mg "len"=none)(hvl:Qp "len"=some (.builtin "len"))(hg:Gl X "set")(hm:X.mg "set"=none)(hv:Qp "set"=some (.type "set"))(ha:MA X io p c [a] mr)
  (he:Xj [a] X.env=(false,eval a X.env) :: Xj [] X.env:=by rfl) (hpl:(Q6 pos' (Xj [] X.env)).any (·.1)=false:=by rfl)
  (he':Xj [.Call (.Name "set" pr) [a] [] pos'] X.env=(false,eval (.Call (.Name "set" pr) [a] [] pos') X.env) :: Xj [] X.env:=by rfl) (hpl':(Q6 pos (Xj [] X.env)).any (·.1)=false:=by rfl) :
  ME X io p true (.Call (.Name "len" pl) [.Call (.Name "set" pr) [a] [] pos'] [] pos) (Zkj mr):=by
 obtain⟨_,A,s⟩:=ha
 refine⟨_,Zlq hc hgl hml hvl hg hm hv A he hpl he' hpl',λC H σ δ fp ex K Q R h kk=>s C H σ δ fp ex _ _ R h λH1 vs rs δ1 fp1 new r1 h1=>?_⟩
 have q:=r1.das R
 obtain⟨d,h1,h2⟩:=h1
 generalize OT.datas rs=ds at q h1
 unfold Ze0 at h1
 split at h1
 case h_2=>cases h1
 obtain⟨ts,h3,h1⟩:=bs h1
 split at h1
 case isFalse=>cases h1
 rename_i ok
 cases h1
 have fin:Q (.int (Zho ts).length) H1:=kk _ _ _ δ1 fp1 [] (.fz r1.base r1.stp (.int _)) h2
 cases q with
 | cons q r0=>
  cases r0
  cases q with
  | lst l e r=>exact⟨_,ts,rfl,.inl (r.strs h3▸e),ok,fin⟩
  | scr ks=>
   rename_i a ns
   cases ns with
   | nil=>cases h3;exact⟨_,[],rfl,ks.sq,ok,fin⟩
   | cons n ns=>cases h3
noncomputable def Zcy(a:FA):FE:=λδ=>(a δ).bind λp=>(Ze0 (OT.datas p.1)).bind λd=>some (.fz d,p.2)
theorem Zdp(h:ME X io p c e (Zkj (o2 ra))):ME X io p c e (o2 (Zcy ra)):=h.weak λδ K h=>by
 obtain⟨r,δ',h,k⟩:=h
 obtain⟨⟨x,δ1⟩,h1,h⟩:=bs h
 obtain⟨d,h2,h⟩:=bs h
 cases h
 exact⟨x,_,h1,_,h2,k⟩
end
section
variable {X:Cx}{io:List Nat}{tg iter test:Expr}{rs:List Stmt}{mi:MIt}{g:MGt}{mt:MTt}{ur:MSt}{pos pi:Pos}{st:Stmt}{it:FI}{gg:FG}{t:FT}{r:FS}
end
section
variable {X:Cx}{io:List Nat}{e:Expr}{m:MEt}{fa:FE}{i:Nat}{pos pt:Pos}{st:Stmt}
noncomputable def Z0w(i:Nat)(m:MEt):MSt:=λD δ=>m δ λr _=>match δ[i]? with|some (some t)=>D.rt (.tp [.fz r.data,t]) (δ.set i none)|_=>False
theorem Zt5(i:Nat){x:Str}{px:Pos}{kk:Nat}(he:ME X io true true e m)(hio:i∉io:=by decide)(hN:X.N[i]? =some x:=by rfl)(hv:Vis X.env.scope x:=by first|exact QG rfl|exact Qo (QG rfl)|exact Qo (Qo rfl))(hd:(x==("__debug__" : Str))=false:=by decide)
  (hcd:(x==("__classdict__" : Str))=false:=by decide) (hs:Xj [e,.Name x px] X.env=(false,eval e X.env) :: Xj [.Name x px] X.env:=by rfl) (hs2:Xj [.Name x px] X.env=(false,eval (.Name x px) X.env) :: Xj [] X.env:=by rfl):MS X io (.Return (some (.Tuple [e,.Name x px] kk pt)) pos) (Z0w i m):=by
 obtain⟨_,A,s⟩:=he
 refine⟨_,Zqh (Zor (Yw A (Yw (pv i hN hv hd hcd) Zd8 hs2) hs)),λC H σ δ fp ex D D' R h E=>?_⟩
 refine s.pureAfter R h λH1 v r R1 s1 q h1=>?_
 split at h1
 case h_2=>exact h1.elim
 rename_i t hi
 obtain⟨v',e',o⟩:=R1.own i t hi
 refine⟨v',e',by show 2≤Xi;rw[Qe];decide,λa ha=>?_⟩
 have s2:=Z6 ha (.tup [v,v'])
 have R2:=R1.mk0 s2
 have lw:∀b,Lf C fp ex b->H1 b≠none->Lf C (fpu fp i []) (exu ex (fp i)) b:=λb l _=>⟨λz=>by
  rcases z.of_u with z|⟨j,_,z⟩
  ·exact nomatch z
  ·exact l.1 ⟨j,z⟩,λz=>z.elim l.2.1 λz=>l.1 ⟨i,z⟩,l.2.2⟩
 have hn:∀b∈fp i,C.H₀ b=none:=λb m=>by
  rcases R1.new i b m with z|z
  ·exact absurd z.1 hio
  ·exact z
 have ow:Own X.K (upd H1 a (.tup [v,v'])) (Lf C (fpu fp i []) (exu ex (fp i))) (.ref a) (.tp [.fz r.data,t]) ([] ++ (fp i ++ [])) :=
  .tp Zq (.cons (.fz ((q.wide λb l n=>lw b (l rfl) n).same s2)) (.cons ((o.wide lw).same s2) .nil))
 rw[List.nil_append,XR]at ow
 exact E.rt _ σ _ _ _ _ (fp i) (R2.take hi) ow (R1.nd i) hn h1
noncomputable def Zrh(i:Nat)(e:FE):FS:=wE e λr δ=>match δ[i]? with|some (some t)=>.rt (.tp [.fz r.data,t]) (δ.set i none)|_=>.bad
theorem Zt6(hp:∀δ r δ',fa δ=some (r,δ')->δ'=δ)(h:MS X io st (Z0w i (o2 fa))):MS X io st (oS (Zrh i fa)):=h.weak λD δ h=>by
 unfold oS Zrh wE at h
 split at h
 case h_2=>exact h.elim
 rename_i r δ' q
 have ed:=hp _ _ _ q
 subst ed
 refine⟨r,_,q,?_⟩
 dsimp only at h⊢
 split at h
 ·exact h
 ·exact h.elim
instance nx_fRetT:NoEx (Zrh i fa):=⟨λδ cn δ' h=>Znr (λr δ1 _ _ z=>by split at z<;>cases z) h⟩
end
section
variable {X:Cx}{io:List Nat}{x:Str}{pos:Pos}
theorem Zwo{n:Int}(hg:Gl X x)(hm:∃t,X.mg x=some (.int n t))(hdb:(x==("__debug__" : Str))=false:=by decide):ME X io true true (.Name x pos) (mC (.int n)):=by
 obtain⟨t,h⟩:=hm
 exact Z2l hg h hdb
end
end L2
namespace L2
theorem Zrq{i:Nat}{δ δ':Zf}{r:OT}(h:Zc i δ=some (r,δ')):δ'=δ:=by
 unfold Zc at h
 split at h
 ·cases h;rfl
 ·cases h
end L2
namespace L2
open PySem PySem.Spec PyProof.Rows
variable {G:Xb}
section
variable {X:Cx}
noncomputable def Z7e:R2:=λx y H Q=>∃a b ns ms,x= .ref a∧y= .ref b∧H a=some (.tup (ns.map V.int))∧H b=some (.tup (ms.map V.int))∧Q (.bl (ltI ns ms)) H
theorem Z1w(hu:X.A.units+64<Ur):OpR X (QL .Lt) Z7e:=by
 intro pins s σ H x y v u Q I rx ry h
 obtain⟨a,b,ns,ms,rfl,rfl,ha,hb,q⟩:=h
 cases rx
 cases ry
 obtain⟨its,r1,p1,_⟩:=I.tuple (.inl (.inl ha))
 obtain⟨its',r2,p2,_⟩:=I.tuple (.inl (.inl hb))
 obtain⟨⟨cls,dd,data,sl⟩,hl,hc,n,hd⟩:=p1
 obtain⟨⟨cls2,dd2,data2,sl2⟩,hl2,hc2,n2,hd2⟩:=p2
 simp only at hc hd hc2 hd2
 subst hc hd hc2 hd2
 exact richCompare_meets_room (op:=.Lt) ⟨_,hl,rfl⟩ ⟨_,hl2,rfl⟩ F.slot_tuple_lt F.entry_tuple_lt (F.args_tuple_lt_2 _ _) (Zl3 a b its.toArray its'.toArray n n2 dd dd2 sl sl2 (Zhf r1) (Zhf r2))
  ⟨hl,hl2,show Value.bool (ltI ns ms)≠Xc.notImplemented∧_ from⟨(λx=>nomatch x),⟨.bl (ltI ns ms),H,I,rfl,q⟩⟩⟩ (by omega)
noncomputable def Zz1:Xa->Xa->Option Xa:=λd e=>match d,e with
 | .tuple ds,.tuple es=>(Zlp ds).bind λns=>(Zlp es).bind λms=>some (.bool (ltI ns ms))
 | _,_=>none
noncomputable def Z7j:Xa->Xa->(Xa->Prop)->Prop:=λd e k=>∃r,Zz1 d e=some r∧k r
theorem Z42:ByS Zz1 Z7j:=λ_ _ r _ h hk=>⟨r,h,hk⟩
theorem Zpn{H:Hp}{L:Addr->Prop}{v:V}{ns:List Int}(h:Da G H L v (.tuple (ns.map XJ))):∃a,v= .ref a∧H a=some (.tup (ns.map V.int)):=by
 generalize e:Xa.tuple (ns.map XJ)=d at h
 cases h with
 | tup e1 r=>
  cases e
  exact⟨_,rfl,r.int_inv▸e1⟩
 | _=>cases e
theorem Z0y:P2s G Z7e Z7j:=λH L x y d e k Q hx hy h kk=>by
 obtain⟨r,h,hk⟩:=h
 unfold Zz1 at h
 split at h
 case h_2=>cases h
 obtain⟨ns,h1,h⟩:=bs h
 obtain⟨ms,h2,h⟩:=bs h
 cases h
 rw[Zg9 h1]at hx
 rw[Zg9 h2]at hy
 obtain⟨a,rfl,ha⟩:=Zpn hx
 obtain⟨b,rfl,hb⟩:=Zpn hy
 exact⟨a,b,ns,ms,rfl,rfl,ha,hb,kk _ _ (.bl _) hk⟩
end
variable {G:Xb}
noncomputable def Zqn(x:Str)(n:Int):Str:=⟨(QC n.toNat x.cps).foldl (· ++ ·) #[]⟩
theorem Zu4(c:Array Nat):∀(n:Nat) (a:Array Nat),((QC n c).foldl (· ++ ·) a).size=a.size+n*c.size:=by
 intro n
 induction n with
 | zero=>intro a;show a.size=_;omega
 | succ n ih=>
  intro a
  rw[List.replicate_succ,V2,ih,Array.size_append,Nat.succ_mul]
  omega
noncomputable def Zl0(x:Str)(n:Int):Bool:=decide (0≤n)&&decide (n≤64)&&decide (1≤x.length)&&decide (x.length≤64)
section
variable {X:Cx}
noncomputable def Z0o:R2:=λx y H Q=>∃i n,x= .str i∧y= .int n∧Zl0 i n=true∧Q (.str (Zqn i n)) H
theorem Zps:OpR X (Vn .Mult) Z0o:=by
 intro pins s σ H x y v u Q I rx ry h
 obtain⟨z,n,rfl,rfl,ok,q⟩:=h
 obtain⟨t,rfl⟩:=rx
 obtain⟨t',rfl⟩:=ry
 unfold Zl0 at ok
 rw[Xz,Xz,Xz,decide_eq_true_iff,decide_eq_true_iff,decide_eq_true_iff,decide_eq_true_iff]at ok
 obtain⟨⟨⟨o1,o2⟩,o3⟩,o4⟩:=ok
 have lm:z.length*n.toNat≤4096:=Xu (Nat.mul_le_mul o4 (show n.toNat≤64 by omega)) (by decide)
 refine P.mul_str (by rw[decide_eq_false (by omega),decide_eq_false (by omega)];rfl) (λh1 _=>?_) (λ_ _=>?_) ?_
 ·have:(64:Int)≤(2^63-1)/n:=by
   refine Int.le_ediv_of_mul_le (by omega) ?_
   omega
  omega
 ·unfold VF.Str.tooLong
  exact decide_eq_false (by rw[Qe];omega)
 ·have fin:∀tk,EP X pins σ Q (.str (Zqn z n) tk) s:=λtk=>⟨.str (Zqn z n),H,I,⟨_,rfl⟩,q⟩
  by_cases h1:n<1
  ·rw[if_pos h1]
   have e:n=0:=by omega
   subst e
   exact⟨by decide,.str (Zqn z 0),H,I.tok _,⟨_,rfl⟩,q⟩
  ·rw[if_neg h1]
   by_cases h2:n=1
   ·subst h2
    rw[if_pos (by rw[show((1:Int)==1)=true from rfl];rfl)]
    have e:Zqn z 1=z:=by
     unfold Zqn
     show Str.mk (#[] ++ z.cps)=z
     rw[Array.empty_append]
    have f:=fin t
    rw[e]at f
    exact f
   ·rw[if_neg (by
     rw[Bool.or_eq_true,beq_iff_eq,beq_iff_eq]
     omega)]
    exact⟨by
     show((QC n.toNat z.cps).foldl (· ++ ·) #[]).size≤Xi
     rw[Zu4,Qe,Nat.mul_comm]
     have:z.cps.size*n.toNat≤4096:=lm
     show 0+_≤_
     omega,.str (Zqn z n),H,I.tok _,⟨_,rfl⟩,q⟩
noncomputable def Zl7:Xa->Xa->Option Xa:=λd e=>match d,e with
 | .str x,.int n=>if Zl0 x n=true then some (.str (Zqn x n))else none
 | _,_=>none
noncomputable def Zyy:Xa->Xa->(Xa->Prop)->Prop:=λd e k=>∃r,Zl7 d e=some r∧k r
theorem Zs0:ByS Zl7 Zyy:=λ_ _ r _ h hk=>⟨r,h,hk⟩
theorem Zm6:P2s G Z0o Zyy:=λH L x y d e k Q hx hy h kk=>by
 obtain⟨r,h,hk⟩:=h
 unfold Zl7 at h
 split at h
 case h_2=>cases h
 split at h
 case isFalse=>cases h
 rename_i ok
 cases h
 cases hx.strInv
 cases hy
 exact⟨_,_,rfl,rfl,ok,kk _ _ (.str _) hk⟩
end
theorem Zs8(l:List Nat)(c i:Nat)(hi:i<l.length):Builtin.Str.subAt ⟨l.toArray⟩ ⟨#[c]⟩ i=decide (l[i]? =some c):=by
 unfold Builtin.Str.subAt
 show(l.toArray.extract i (i+1)==#[c])=_
 have e:l.toArray.extract i (i+1)=#[l[i]]:=by
  apply Array.toList_inj.mp
  rw[Array.toList_extract]
  show(l.drop i).take (i+1-i)=[l[i]]
  rw[Nat.add_sub_cancel_left,QX hi];rfl
 rw[e,Xk hi]
 by_cases q:l[i]=c
 ·rw[q,decide_eq_true rfl];exact beq_self_eq_true _
 ·rw[decide_eq_false λz=>q (Qz z)]
  exact beq_eq_false_iff_ne.mpr λz=>q (by
   have:=congrArg Array.toList z
   exact(Ub this).1)
theorem Zvc(l:List Nat)(c:Nat):∀(m a:Nat) (st:Array Nat×Nat),a+m=l.length+1->st.2≤a->st.1.size≤a->(forIn (List.range' a m) st (StrLaws.occBody ⟨l.toArray⟩ ⟨#[c]⟩ l.length (l.length+1))).run.fst.size=st.1.size+(l.drop a).countP (·==c):=by
 intro m
 induction m with
 | zero=>
  intro a st h _ _
  rw[Bl (by omega)];rfl
 | succ m ih=>
  intro a st h h1 h2
  rw[List.range'_succ,BZ]
  unfold StrLaws.occBody
  by_cases ha:a<l.length
  ·by_cases q:l[a]? =some c
   ·rw[if_pos ⟨⟨⟨by omega,h1⟩,(show a+1≤l.length by omega)⟩,by rw[Zs8 l c a ha];exact decide_eq_true q⟩]
    refine(ih (a+1) (st.1.push a,a+1) ((Nat.succ_add a m).trans h) (XQ _) (by rw[Array.size_push];exact Vh h2)).trans ?_
    obtain⟨_,e⟩:=Xv.mp q
    rw[Array.size_push,QX ha,e,List.countP_cons_of_pos (by exact beq_self_eq_true c)]
    omega
   ·rw[if_neg λz=>q (of_decide_eq_true (by rw[←Zs8 l c a ha];exact z.2))]
    refine(ih (a+1) (st.1,st.2) ((Nat.succ_add a m).trans h) (VG h1) (VG h2)).trans ?_
    rw[QX ha,List.countP_cons_of_neg (by
     intro z
     exact q (by rw[Xk ha,eq_of_beq z]))]
  ·rw[if_neg λz=>ha z.1.2]
   refine(ih (a+1) (st.1,st.2) ((Nat.succ_add a m).trans h) (VG h1) (VG h2)).trans ?_
   rw[Bl (Um.mp ha),Bl (VG (Um.mp ha))]
theorem Zrc(l:List Nat)(c:Nat):Zd2 ⟨l.toArray⟩ [.str ⟨#[c]⟩]=some (.int ((l.countP (·==c):Nat):Int)):=by
 show some (XJ _)=_
 have e:(Str.mk l.toArray).length=l.length:=Xr ..
 rw[e,StrLaws.occ_eq,By]
 have:=Zvc l c (l.length+1-0) 0 (#[],0) (by omega) (XQ _) (XQ _)
 rw[this,Ue]
 exact congrArg (λn:Nat=>some (XJ (n:Int))) (Nat.zero_add _)
end L2
namespace My
open PySem L2 PySem.Spec
noncomputable def xsL:List Str:=["NoWeb"]
noncomputable def J7:FS :=
 (Zw (wE (Zb J8 (Zc 0) (Zb Zfp (Zb Zrw (fC (.int 10)) (fC (.int 45))) (Zb Zrw (fC (.int 10)) (fC (.int 45))))) (Wt 0))
  (Zw (wE (Zab Zk) (Jo 3))
  (Zw (wE (Zb gSb (Zc 0) (Zb Zrw (fC (.int 10)) (fC (.int 18)))) (Wt 4))
  (Zw (Zaw (iRa (Zd (Zc 1) Zk)) (gNm 5)
  (Zw (wE (Zb J8 (Zb Zfp (Zb Ja (Zb Ja (Zc 0) (Zb Zfp (fC (.int 977)) (Zc 5))) (fC (.int 1))) (fC (.int 48271))) (fC (.int 2147483647))) (Wt 6))
  (Zw (wE (Zb J8 (Zb Zfp (Zc 6) (Zc 6)) (fC (.int 2147483629))) (Wt 6))
  (Zw (wE (Zb J6 (Zb J8 (Zb Zfp (Zb Ja (Zc 6) (Zb Zfp (fC (.int 40692)) (Zb Ja (Zc 5) (fC (.int 3))))) (fC (.int 69621))) (fC (.int 2147483563))) (fC (.int 8))) (Wt 6))
  (Zw (Wu (tV (Zb gGe (Zc 0) (Zb Zrw (fC (.int 10)) (fC (.int 18)))))
  (Zw (wE (Zc 4) (Wt 6))
  (wE (Zb J6 (Zc 4) (Zc 2)) (Wt 4)))
  fNx)
  (Yn 3 (Zb J8 (Zc 6) (Zc 2))))))))
  (Zb7 3)))))
noncomputable def Z4:FD:=Zag 3 7 J7
noncomputable def Zbe:FS :=
 (Zw (wE (Ys Z4 (Zd (Zc 0) (Zd (fC (.int 50)) (Zd (fC (.int 60)) Zk)))) (Wt 1))
  (Zw (wE (Zb J8 (Z9 gIx (Zc 1) (fC (.int 0))) (fC (.int 8))) (Wt 2))
  (Zw (wE (Zab (Zd (Zuf Zmc (fC (.str "")) (Zd (Jh 1 [1] (iRa (Zd (Zc 2) Zk)) (gNm 0) Zml (Z9 Zfv (fC (.str "01")) (Zb J8 (Zb J6 (Z9 gIx (Zc 1) (Zb Ja (fC (.int 40)) (Zc 0))) (fC (.int 7))) (fC (.int 2))))) Zk)) Zk)) (Jo 3))
  (Zw (Zaw (iRb (Zd (fC (.int 1)) (Zd (Zb Ja (fC (.int 1)) (Zb J8 (Z9 gIx (Zc 1) (fC (.int 1))) (fC (.int 10)))) Zk))) (gNm 4)
  (Zw (wE (Z9 gIx (Za5 3) (Zb J8 (Z9 gIx (Zc 1) (Zb Ja (fC (.int 2)) (Zc 4))) (Jb Zai (Zd (Za5 3) Zk)))) (Zli 5))
  (Zw (wE (Zab (Zd (Z9 gIx (Zc 1) (Zb Ja (fC (.int 12)) (Zc 4))) Zk)) (Jo 6))
  (Zw (Wu (tV (Zb gEq (Zb J8 (Z9 gIx (Zc 1) (Zb Ja (fC (.int 22)) (Zc 4))) (fC (.int 6))) (fC (.int 1))))
  (Yn 6 (Zb J6 (Z9 gIx (Zc 1) (Zb Ja (fC (.int 22)) (Zc 4))) (fC (.int 6))))
  fNx)
  (Zw (Zaz 6 (Zaw (Zc2 (Zc 6)) (gNm 7)
  (Wu (tV (Zb gGt (Zc 2) (fC (.int 0))))
  (Zw (wE (Zb J8 (Zc 7) (Zc 2)) (Wt 8))
  (wE (Zb J0 (Zb J0 (Zfq (Zc 5) oN (oI (Zc 8))) (Z9 Zfv (fC (.str "10")) (Jb Zgl (Zd (Z9 Zfv (Zc 5) (Zc 8)) Zk)))) (Zfq (Zc 5) (oI (Zb Ja (Zc 8) (fC (.int 1)))) oN)) (Wt 5)))
  fNx)))
  (Wu (tV (Zb (Zfr true) (Zc 5) (Za5 3)))
  (Zdn 3 (Zd (Zb J8 (Z9 gIx (Zc 1) (Zb Ja (fC (.int 32)) (Zc 4))) (Zb Ja (Jb Zai (Zd (Za5 3) Zk)) (fC (.int 1)))) (Zd (Zc 5) Zk)))
  fNx))))))
  (Zb7 3)))))
noncomputable def Ws:FD:=Zag 1 9 Zbe
noncomputable def Zan:FS :=
 (wE (Jb Zai (Zd (Jh 1 [0,1] (iRa (Zd (Jb Zav (Zd (Zc 0) Zk)) Zk)) (gNm 0) (tV (Zb gNe (Z9 Zfv (Zc 1) (Zc 0)) (Z9 Zfv (Zc 2) (Zc 0)))) (Zc 0)) Zk)) Za2)
noncomputable def Wm:FD:=Zag 2 2 Zan
noncomputable def Zbc:FS :=
 (Zw (wE (Zab Zk) (Jo 1))
  (Zw (Zaw (iRa (Zd (Jb Zai (Zd (Zc 0) Zk)) Zk)) (gNm 2)
  (Za0 1 (Jh 1 [2,0] (iRb (Zd (Zb Ja (Zc 2) (fC (.int 1))) (Zd (Jb Zai (Zd (Zc 0) Zk)) Zk))) (gNm 0) (tV (Zb gEq (Ys Wm (Zd (Z9 gIx (Zc 2) (Zc 1)) (Zd (Z9 gIx (Zc 2) (Zc 0)) Zk))) (fC (.int 1)))) (Zku (Zd (Zc 1) (Zd (Zc 0) Zk))))))
  (Zb7 1)))
noncomputable def Jr:FD:=Zag 1 3 Zbc
noncomputable def Zad:FS :=
 (Zw (Wu (tO (tV (Zb gLt (Jb Zai (Zd (Zc 0) Zk)) (fC (.int 1)))) (tV (Zb gGt (Jb Zai (Zd (Zc 0) Zk)) (fC (.int 10)))))
  (wE (fC (.bool false)) Za2)
  fNx)
  (Zw (Zaw (iRa (Zd (Jb Zai (Zd (Zc 0) Zk)) Zk)) (gNm 1)
  (Zw (Wu (tO (tV (Zb gNe (Jb Zav (Zd (Z9 gIx (Zc 0) (Zc 1)) Zk)) (Jb Zav (Zd (Z9 gIx (Zc 0) (fC (.int 0))) Zk)))) (tV (Zb (Zfr false) (Z9 gIx (Zc 0) (Zc 1)) (fSl (Zc 0) oN (oI (Zc 1))))))
  (wE (fC (.bool false)) Za2)
  fNx)
  (Zaw (Zx8 (Z9 gIx (Zc 0) (Zc 1))) (gNm 2)
  (Wu (tAn (tV (Zb gNe (Zc 2) (fC (.str "0")))) (tV (Zb gNe (Zc 2) (fC (.str "1")))))
  (wE (fC (.bool false)) Za2)
  fNx))))
  (Zw (wE (Zab (Zd (fC (.int 0)) Zk)) (Jo 3))
  (Zw (Zaw (iRa (Zd (Jb Zai (Zd (Zc 0) Zk)) Zk)) (gNm 4)
  (Zaw (Zc2 (Ys Jr (Zd (Zc 0) Zk))) (gTp 2 (gCn (gNm 5) (gCn (gNm 6) gNl)))
  (Wu (tV (Zb gNe (Zb (Zfr false) (Zc 5) (Za5 3)) (Zb (Zfr false) (Zc 6) (Za5 3))))
  (Za0 3 (Jh 1 [3] (iTp (Zku (Zd (Zc 5) (Zd (Zc 6) Zk)))) (gNm 0) (tV (Zb (Zfr true) (Zc 0) (Za5 1))) (Zc 0)))
  fNx)))
  (wE (Zb gEq (Jb Zai (Zd (Za5 3) Zk)) (Jb Zai (Zd (Zc 0) Zk))) Za2)))))
noncomputable def Yi:FD:=Zag 1 7 Zad
noncomputable def Jp:FS :=
 (wE (Zeb (λi j=>decide (i≤j)) (λi j=>decide (i≤j)) (fC (.int 1)) (Zc 0) (fC (.int 10))) Za2)
noncomputable def Zv:FD:=Zag 1 1 Jp
noncomputable def Zcl:FS :=
 (wE (Zut (Zb gEq (Jb Zav (Zd (Zc 0) Zk)) (Zc 1)) (Zb gEq (Zb Ja (Zuf Zd2 (Zc 0) (Zd (fC (.str "0")) Zk)) (Zuf Zd2 (Zc 0) (Zd (fC (.str "1")) Zk))) (Zc 1))) Za2)
noncomputable def Y5:FD:=Zag 2 2 Zcl
noncomputable def W4:FS :=
 (Zw (Wu (tO (tNo (tD (Ys Zv (Zd (Jb Zai (Zd (Zc 0) Zk)) Zk)))) (tV (Zb gLt (Zcy (Zd (Zc 0) Zk)) (Jb Zai (Zd (Zc 0) Zk)))))
  (Zae "NoWeb")
  fNx)
  (Zaw (Zc2 (Zc 0)) (gNm 1)
  (Wu (tNo (tD (Ys Y5 (Zd (Zc 1) (Zd (Jb Zav (Zd (Z9 gIx (Zc 0) (fC (.int 0))) Zk)) Zk)))))
  (Zae "NoWeb")
  fNx)))
noncomputable def Yh:FD:=Zag 1 2 W4
noncomputable def Jz:FS :=
 (wE (Jb Zai (Zd (Jh 2 [] (Zph (Zd (Zc 0) (Zd (Zc 1) Zk))) (gTp 2 (gCn (gNm 0) (gCn (gNm 1) gNl))) (tV (Zb gNe (Zc 0) (Zc 1))) (Zc 0)) Zk)) Za2)
noncomputable def Yx:FD:=Zag 2 2 Jz
noncomputable def J9:FS :=
 (Zw (wE (Jh 1 [] (iRa (Zd (Zc 0) Zk)) (gNm 0) Zml (Zab Zk)) (Jo 2))
  (Zw (Zaw (Zc2 (Zc 1)) (gTp 2 (gCn (gNm 3) (gCn (gNm 4) gNl)))
  (Zw (Zgv 2 (Zc 3) (Zc 4))
  (Zgv 2 (Zc 4) (Zc 3))))
  (Zb7 2)))
noncomputable def W2:FD:=Zag 2 5 J9
noncomputable def Zbd:FS :=
 (Zw (Zaw (Zna (Zd (Zc 0) (Zd (fSl (Zc 0) (oI (fC (.int 1))) oN) Zk))) (gTp 2 (gCn (gNm 1) (gCn (gNm 2) gNl)))
  (Wu (tNo (tV (Zb Zz1 (Zc 1) (Zc 2))))
  (wE (fC (.bool false)) Za2)
  fNx))
  (wE (fC (.bool true)) Za2))
noncomputable def Jt:FD:=Zag 1 3 Zbd
noncomputable def W6:FS :=
 (Zw (Wu (tNo (tD (Ys Zv (Zd (Zc 0) Zk))))
  (Zae "NoWeb")
  fNx)
  (Zw (Zaw (Zc2 (Zc 1)) (gTp 2 (gCn (gNm 2) (gCn (gNm 3) gNl)))
  (Wu (tNo (tV (Zey (λi j=>decide (i≤j)) (λi j=>decide (i<j)) (λi j=>decide (i<j)) (fC (.int 0)) (Zc 2) (Zc 3) (Zc 0))))
  (Zae "NoWeb")
  fNx))
  (Wu (tNo (tD (Ys Jt (Zd (Zc 1) Zk))))
  (Zae "NoWeb")
  fNx)))
noncomputable def Y7:FD:=Zag 2 4 W6
noncomputable def Zas:FS :=
 (Zw (wE (Zti (Zc 1) (fC (.int 0))) (Jo 2))
  (Zw (wE (Zab (Zd (Zc 1) Zk)) (Wt 3))
  (Zw (Zgm (tV (Zb gGt (Jb Zai (Zd (Zc 3) Zk)) (fC (.int 0)))) (Zw (wE (Zab Zk) (Jo 4))
  (Zw (Zaw (Zc2 (Zc 3)) (gNm 5)
  (Zaw (Zc2 (Z9 gIx (Zc 0) (Zc 5))) (gNm 6)
  (Wu (tV (Zb (Zqm true) (Zc 6) (Za5 2)))
  (Zw (Zio 2 (Zb Ja (Z9 Zkp (Za5 2) (Zc 5)) (fC (.int 1))) (Zc 6))
  (Yn 4 (Zc 6)))
  fNx)))
  (Zaz 4 (wE (Zc 4) (Wt 3))))))
  (Zb7 2))))
noncomputable def Jf:FD:=Zag 2 7 Zas
noncomputable def J1:FS :=
 (Zw (wX Y7 (Zd (Zc 0) (Zd (Zc 1) Zk)) Zh6)
  (Zw (wE (Ys W2 (Zd (Zc 0) (Zd (Zc 1) Zk))) (Wt 2))
  (Zw (wE (Zab Zk) (Jo 3))
  (Zw (Zaw (iRa (Zd (Zc 0) Zk)) (gNm 4)
  (Zw (wE (Ys Jf (Zd (Zc 2) (Zd (Zc 4) Zk))) (Wt 5))
  (Zw (Wu (tV (Zb gLt (Jb Zp7 (Zd (Zc 5) Zk)) (Zc 0)))
  (Zae "NoWeb")
  fNx)
  (Yn 3 (Jh 1 [5] (iRa (Zd (Zc 0) Zk)) (gNm 0) Zml (Z9 Zkp (Zc 1) (Zc 0)))))))
  (Zb7 3)))))
noncomputable def Yp:FD:=Zag 2 6 J1
noncomputable def Yv:FS :=
 (Zw (wX Yh (Zd (Zc 0) Zk) Zh6)
  (Zw (wE (Jb Zai (Zd (Zc 0) Zk)) (Wt 1))
  (Zw (wE (Jh 2 [0] (Zc2 (Ys W0 (Zd (Zc 1) Zk))) (gTp 2 (gCn (gNm 0) (gCn (gNm 1) gNl))) (tV (Zb gEq (Ys Yx (Zd (Z9 gIx (Zc 2) (Zc 0)) (Zd (Z9 gIx (Zc 2) (Zc 1)) Zk))) (fC (.int 1)))) (Zku (Zd (Zc 0) (Zd (Zc 1) Zk)))) (Jo 2))
  (Zw (wX Yp (Zd (Zc 1) (Zd (Za5 2) Zk)) Zh6)
  (Zrh 2 (Zc 1))))))
noncomputable def Zo:FD:=Zag 1 3 Yv
noncomputable def Zaa:FS :=
 (Zw (wE (Zab Zk) (Jo 1))
  (Zw (Zu3 xsL (wX Zo (Zd (Zc 0) Zk) Zh6) "CutError" 2 (Zw (wE (Zab (Zd (Zjk xsL "NoWeb" (Zc 2)) (Zd (Zjk xsL "ValueError" (Zc 2)) Zk))) (Jo 1))
  (Yn 1 (Zky xsL ["NoCut","NoName","NoNumber","NoOrder","NoPoint","NoRow","NoTable","NoText","TooMany"] (Zc 2)))))
  (Zb7 1)))
noncomputable def W9:FD:=Zag 1 3 Zaa
noncomputable def Zap:FS :=
 (Zw (wE (Zb J8 (Z9 gIx (Zc 1) (fC (.int 0))) (Jb Zai (Zd (Zc 0) Zk))) (Wt 2))
  (Zw (wE (Zb J8 (Z9 gIx (Zc 1) (fC (.int 1))) (Zb Ja (Jb Zav (Zd (Z9 gIx (Zc 0) (Zc 2)) Zk)) (fC (.int 1)))) (Wt 3))
  (Zw (wE (Z9 gIx (Zc 0) (Zc 2)) (Wt 4))
  (Zw (wE (Zb J8 (Z9 gIx (Zc 1) (fC (.int 2))) (fC (.int 9))) (Wt 5))
  (Zw (wE (Zab (Zd (Zc 4) Zk)) (Wt 6))
  (Zw (Wu (tV (Zb gEq (Zc 5) (fC (.int 2))))
  (wE (Zab (Zd (Zc 4) (Zd (Zc 4) Zk))) (Wt 6))
  fNx)
  (Zw (Wu (tV (Zb gEq (Zc 5) (fC (.int 3))))
  (wE (Zab (Zd (Zb J0 (Zb J0 (Zfq (Zc 4) oN (oI (Zc 3))) (Z9 Zfv (fC (.str "01")) (Zb J8 (Z9 gIx (Zc 1) (fC (.int 3))) (fC (.int 2))))) (Zfq (Zc 4) (oI (Zc 3)) oN)) Zk)) (Wt 6))
  fNx)
  (Zw (Wu (tV (Zb gEq (Zc 5) (fC (.int 4))))
  (wE (Zab (Zd (Zb J0 (Zfq (Zc 4) oN (oI (Zc 3))) (Zfq (Zc 4) (oI (Zb Ja (Zc 3) (fC (.int 1)))) oN)) Zk)) (Wt 6))
  fNx)
  (Zw (Wu (tV (Zb gEq (Zc 5) (fC (.int 5))))
  (wE (Zab (Zd (Zb J0 (Zb J0 (Zfq (Zc 4) oN (oI (Zc 3))) (Z9 Zfv (fC (.str "2O lo,-")) (Zb J8 (Z9 gIx (Zc 1) (fC (.int 3))) (fC (.int 7))))) (Zfq (Zc 4) (oI (Zb Ja (Zc 3) (fC (.int 1)))) oN)) Zk)) (Wt 6))
  fNx)
  (Zw (Wu (tV (Zb gEq (Zc 5) (fC (.int 6))))
  (wE (Zab Zk) (Wt 6))
  fNx)
  (Zw (Wu (tV (Zb gEq (Zc 5) (fC (.int 7))))
  (wE (Zab (Zd (Zb J0 (Zc 4) (fC (.str " "))) Zk)) (Wt 6))
  fNx)
  (Zw (Wu (tV (Zb gEq (Zc 5) (fC (.int 1))))
  (wE (Zab Zk) Za2)
  fNx)
  (Zw (Wu (tV (Zb gEq (Zc 5) (fC (.int 8))))
  (wE (Jh 1 [] (iRa (Zd (Zb Ja (fC (.int 10)) (Zb J8 (Z9 gIx (Zc 1) (fC (.int 3))) (fC (.int 2)))) Zk)) (gNm 0) Zml (Zb J0 (Zb Zl7 (fC (.str "0")) (Zc 0)) (Zb Zl7 (fC (.str "1")) (Zb gSb (fC (.int 10)) (Zc 0))))) Za2)
  fNx)
  (wE (Z9 Zqr (Z9 Zqr (fSl (Zc 0) oN (oI (Zc 2))) (Zc 6)) (fSl (Zc 0) (oI (Zb Ja (Zc 2) (fC (.int 1)))) oN)) Za2))))))))))))))
noncomputable def Wh:FD:=Zag 2 7 Zap
noncomputable def Zgu:FS :=
 (Zw (Zaw (Zc2 (Z9 Zqr (fSl (Zc 0) (oI (fC (.int 1))) (oI (fC (.int 8)))) (Zab (Zd (Ys Y6 (Zd (Zc 0) (Zd (fC (.int 0)) Zk))) Zk)))) (gNm 1)
  (Zw (wE (Ys Wh (Zd (Ys Ws (Zd (Zc 1) Zk)) (Zd (Ys Z4 (Zd (Zb J6 (Zc 1) (fC (.int 7))) (Zd (fC (.int 4)) (Zd (fC (.int 2520)) Zk)))) Zk))) (Wt 2))
  (Zw (wE (Zab Zk) (Wt 3))
  (Zw (Wu (tNo (tD (Ys Yi (Zd (Zc 2) Zk))))
  (wE (Zab (Zd (fC (.bool true)) (Zd (fC (.bool true)) (Zd (fC (.bool false)) Zk)))) (Wt 3))
  fNx)
  (Zw (wE (fBl Zpd (Zd (Zc 2) Zk)) (Wt 4))
  (Wu (tO (tV (Zb gNe (Ys W9 (Zd (Zc 4) Zk)) (Zc 3))) (tV (Zb gNe (Zc 4) (Zc 2))))
  (wE (fC (.bool false)) Za2)
  fNx))))))
  (wE (fC (.bool true)) Za2))
noncomputable def Zgr:FD:=Zag 1 5 Zgu
end My
namespace My
open PySem L2 PySem.Spec
inductive Rch(E:Nat->Nat->Prop)(s:Nat):Nat->Prop
 | refl:Rch E s s
 | step {k m:Nat}:Rch E s k->E k m->Rch E s m
theorem Rch.trans{E:Nat->Nat->Prop}{a b c:Nat}(h:Rch E a b)(k:Rch E b c):Rch E a c:=by
 induction k with
 | refl=>exact h
 | step _ e ih=>exact .step ih e
theorem Rch.symm{E:Nat->Nat->Prop}(hs:∀a b,E a b->E b a){a b:Nat}(h:Rch E a b):Rch E b a:=by
 induction h with
 | refl=>exact .refl
 | step _ e ih=>exact Rch.trans (.step .refl (hs _ _ e)) ih
theorem Rch.closed{E:Nat->Nat->Prop}{s:Nat}{ks:List Nat}(h0:s∈ks)(hc:∀k∈ks,∀m,E k m->m∈ks){m:Nat}(h:Rch E s m):m∈ks:=by
 induction h with
 | refl=>exact h0
 | step _ e ih=>exact hc _ ih _ e
theorem Zby{ks:List Nat}{n:Nat}(hd:ks.Nodup)(hl:∀k∈ks,k<n):ks.length≤n:=by
 have:=hd.length_le_of_subset (l₂:=XX n) λk m=>QD.mpr (hl k m)
 rwa[Qx]at this
theorem Zs3{ks:List Nat}{n:Nat}(hd:ks.Nodup)(hl:∀k∈ks,k<n)(h:n≤ks.length):∀k<n,k∈ks:=by
 intro k hk
 refine Classical.byContradiction λc=>?_
 have hd':(k :: ks).Nodup:=Qi.mpr ⟨c,hd⟩
 have:=Zby (n:=n) hd' λm hm=>(Xn.mp hm).elim (λe=>e▸hk) (hl m)
 rw[JH]at this
 omega
theorem Zoq{ks:List Nat}{n:Nat}(h:∀k<n,k∈ks):n≤ks.length:=by
 have:=(List.nodup_range (n:=n)).length_le_of_subset (l₂:=ks) λk m=>h k (QD.mp m)
 rwa[Qx]at this
noncomputable def kI(k:Nat):KY:=.inl (.inl (k:Int))
noncomputable def dI(k:Nat):Xa:=.int (k:Int)
theorem Ztx{a b:Nat}(h:kI a=kI b):a=b:=Int.ofNat.inj (Sum.inl.inj (Sum.inl.inj h))
theorem Zog(k:Nat):Zh3 (dI k)=some (kI k):=rfl
noncomputable def Z7y(vs:List Xa):Prop:=∀v∈vs,∃i:Int,v= .int i
theorem Zmw{m:Nat}:∀{ks:List Nat} {vs:List Xa},vs.length=ks.length->(m∈ks->∃v∈vs,Ztj (kI m) (ks.map kI) vs=some v)∧(m∉ks->Ztj (kI m) (ks.map kI) vs=none):=by
 intro ks
 induction ks with
 | nil=>exact λ_=>⟨(λh=>nomatch h),λ_=>rfl⟩
 | cons k ks ih=>
  intro vs hl
  cases vs with
  | nil=>cases hl
  | cons v vs=>
   obtain⟨i1,i2⟩:=ih (Nat.succ.inj hl)
   rw[X6,Ztj]
   by_cases c:k=m
   ·subst c
    rw[if_pos rfl]
    exact⟨λ_=>⟨v,.head _,rfl⟩,λh=>absurd (.head _) h⟩
   ·rw[if_neg λe=>c (Ztx e)]
    refine⟨λh=>?_,λh=>i2 λz=>h (.tail _ z)⟩
    obtain⟨w,hw,e⟩:=i1 ((Xn.mp h).resolve_left λe=>c e.symm)
    exact⟨w,.tail _ hw,e⟩
theorem Zzr{m:Nat}{ks:List Nat}(h:m∉ks):Zs9 (kI m) (ks.map kI)=false:=by
 unfold Zs9
 rw[List.any_map]
 refine List.any_eq_false.mpr λk hk e=>?_
 exact h (Ztx (of_decide_eq_true e)▸hk)
theorem Zst{a b:FE}{δ:Zf}{x y d:Xa}(ha:EvV a δ x)(hb:EvV b δ y)(h:Zkp x y=some (.fz d)):EvV (Z9 Zkp a b) δ d:=Zcj ha hb h (OT.data_fz _)
theorem Zz3{m:Nat}{ks:List Nat}{vs:List Xa}(hl:vs.length=ks.length)(hv:Z7y vs)(hm:m∈ks):∃i:Int,Zkp (dcD false (ks.map kI) vs) (dI m)=some (.fz (.int i)):=by
 obtain⟨v,hm2,e⟩:=(Zmw hl).1 hm
 obtain⟨i,rfl⟩:=hv v hm2
 refine⟨i,?_⟩
 show((Zh3 (dI m)).bind λk=>if Zn9 k=false then(Zf4 k _).map OT.fz else none)=_
 rw[Zog,Xe,if_pos (show Zn9 (kI m)=false from rfl),Zfo,e];rfl
theorem Z58{m:Nat}{ks:List Nat}{vs:List Xa}(hl:vs.length=ks.length):Zqm true (dI m) (dcD false (ks.map kI) vs)=some (.bool (!decide (m∈ks))):=by
 show((Zh3 (dI m)).bind λk=>if Zn9 k=false then some (BP (!(Zf4 k _).isSome))else none)=_
 rw[Zog,Xe,if_pos (show Zn9 (kI m)=false from rfl),Zfo]
 by_cases c:m∈ks
 ·obtain⟨v,_,e⟩:=(Zmw hl).1 c
  rw[e,decide_eq_true c];rfl
 ·rw[(Zmw hl).2 c,decide_eq_false c];rfl
theorem Zsf{e j:FE}{δ:Zf}{i:Nat}{d:Xa}{ks:List Nat}{vs:List Xa}{m:Nat}(he:EvV e δ d)(hi:δ[i]? =some (some (.dc false (ks.map kI) vs)))(hj:EvV j δ (dI m))(hl:ks.length<1000000)(hm:m∉ks) :
  Zio i e j δ= .nx (δ.set i (some (.dc false ((ks ++ [m]).map kI) (vs ++ [d])))):=by
 obtain⟨t1,e1,d1⟩:=he
 obtain⟨t2,e2,d2⟩:=hj
 unfold Zio
 rw[Zcu,e1,Yo,hi]
 dsimp only
 rw[Zcu,e2,Yo,d1,d2,Zog]
 dsimp only
 rw[if_pos ⟨rfl,by rw[Qe,Xg];omega⟩]
 unfold Zot Zo4
 rw[Zzr hm,if_neg Xq,if_neg Xq,QT];rfl
noncomputable def eB(bs:Xa)(s:Nat)(ks:List Nat)(vs:List Xa)(ed:List Nat)(o4 o5 o6:Option OT):Zf:=[some (.fz bs),some (.fz (dI s)),some (.dc false (ks.map kI) vs),some (.fz (.list (ed.map dI))),o4,o5,o6]
noncomputable def lsO(ns:List Nat):OT:=.nd ((ns.map dI).map OT.fz)
theorem Zel(b:List Nat)(m:Nat):lsO (b ++ [m])= .nd ((b.map dI).map OT.fz ++ [OT.fz (dI m)]):=by
 unfold lsO
 rw[QT,QT];rfl
structure Met(E:Nat->Nat->Prop)(n s:Nat)(ks:List Nat)(vs:List Xa):Prop where
 nd:ks.Nodup
 st:s∈ks
 lt:∀k∈ks,k<n
 rch:∀k∈ks,Rch E s k
 len:vs.length=ks.length
 iv:Z7y vs
section
variable {E:Nat->Nat->Prop}{n s:Nat}{nb:Nat->List Nat}{bs:Xa}
theorem Zmg{ks ks0 bey ed:List Nat}{vs:List Xa}{p m:Nat}(hn:n≤10)(M:Met E n s ks vs)(hk:ks=ks0 ++ bey)(hp:p∈ks)(hm:m<n)(he:E p m) :
  ∃ks' bey' vs' o,Met E n s ks' vs'∧m∈ks'∧(∃t,ks'=ks ++ t∧bey'=bey ++ t)∧
   (Wu (tV (Zb (Zqm true) (Zc 6) (Za5 2))) (Zw (Zio 2 (Zb Ja (Z9 Zkp (Za5 2) (Zc 5)) (fC (.int 1))) (Zc 6)) (Yn 4 (Zc 6))) fNx) (eB bs s ks vs ed (some (lsO bey)) (some (.fz (dI p))) (some (.fz (dI m))))= .nx (eB bs s ks' vs' ed (some (lsO bey')) (some (.fz (dI p))) o):=by
 have e2:EvV (Za5 2) (eB bs s ks vs ed (some (lsO bey)) (some (.fz (dI p))) (some (.fz (dI m)))) (dcD false (ks.map kI) vs):=Ze5 rfl (OT.data_dc _ _ _)
 have t:EvT (tV (Zb (Zqm true) (Zc 6) (Za5 2))) (eB bs s ks vs ed (some (lsO bey)) (some (.fz (dI p))) (some (.fz (dI m)))) (!decide (m∈ks)):=Zax (Zn (Za rfl) e2 (Z58 M.len))
 by_cases c:m∈ks
 ·rw[decide_eq_true c]at t
  exact⟨ks,bey,vs,_,M,c,⟨[],(XR _).symm,(XR _).symm⟩,Z1 t rfl⟩
 ·rw[decide_eq_false c]at t
  obtain⟨i,hi⟩:=Zz3 M.len M.iv hp
  have lk:=Zby M.nd M.lt
  refine⟨ks ++ [m],bey ++ [m],vs ++ [.int (i+1)],some (.fz (dI m)),⟨?_,Qk _ M.st,?_,?_,?_,?_⟩,Xw _ (.head _),⟨[m],rfl,rfl⟩,Wa t (Zr (Zsf (W3 (Zst e2 (Za rfl) hi) Z2) rfl (Za rfl) (by omega) c) ?_)⟩
  ·exact Bf.mpr ⟨M.nd,Qi.mpr ⟨(λz=>nomatch z),.nil⟩,λa ha b hb e=>c (by rw[←Xl.mp hb,←e];exact ha)⟩
  ·exact λk hk=>(Qj.mp hk).elim (M.lt k) λq=>Xl.mp q▸hm
  ·exact λk hk=>(Qj.mp hk).elim (M.rch k) λq=>Xl.mp q▸ .step (M.rch p hp) he
  ·rw[Xo,Xo,M.len];rfl
  ·exact λv hv=>(Qj.mp hv).elim (M.iv v) λq=>⟨_,Xl.mp q⟩
  ·refine(Zix (ts:=(bey.map dI).map OT.fz) (Za rfl) rfl (by rw[Xg,Xg];rw[hk,Xo]at lk;omega)).trans ?_
   rw[Zel];rfl
theorem Zlw{ks ks0 bey ed:List Nat}{vs:List Xa}{p:Nat}{o6:Option OT}{bd:List Xa}(hn:n≤10)(hE:∀m∈nb p,m<n∧E p m)(hbs:bs= .list bd)(hbd:bd[p]? =some (.list ((nb p).map dI)))(M:Met E n s ks vs)(hk:ks=ks0 ++ bey)(hp:p∈ks) :
  ∃bey' vs' o,Met E n s (ks0 ++ bey') vs'∧(∀m∈nb p,m∈ks0 ++ bey')∧(∃t,bey'=bey ++ t)∧
   (Zaw (Zc2 (Z9 gIx (Zc 0) (Zc 5))) (gNm 6) (Wu (tV (Zb (Zqm true) (Zc 6) (Za5 2))) (Zw (Zio 2 (Zb Ja (Z9 Zkp (Za5 2) (Zc 5)) (fC (.int 1))) (Zc 6)) (Yn 4 (Zc 6))) fNx)) (eB bs s ks vs ed (some (lsO bey)) (some (.fz (dI p))) o6)= .nx (eB bs s (ks0 ++ bey') vs' ed (some (lsO bey')) (some (.fz (dI p))) o):=by
 refine Exists.elim (Zff (δ:=eB bs s ks vs ed (some (lsO bey)) (some (.fz (dI p))) o6) (it:=Zc2 (Z9 gIx (Zc 0) (Zc 5))) (g:=gNm 6) (S:=Wu (tV (Zb (Zqm true) (Zc 6) (Za5 2))) (Zw (Zio 2 (Zb Ja (Z9 Zkp (Za5 2) (Zc 5)) (fC (.int 1))) (Zc 6)) (Yn 4 (Zc 6))) fNx)
  (λi δ=>∃bey' vs' o,δ=eB bs s (ks0 ++ bey') vs' ed (some (lsO bey')) (some (.fz (dI p))) o∧Met E n s (ks0 ++ bey') vs'∧p∈ks0 ++ bey'∧(∃t,bey'=bey ++ t)∧∀j m,j<i->(nb p)[j]? =some m->m∈ks0 ++ bey')
  (Zcf (ds:=(nb p).map dI) (Zac (ds:=bd) (i:=p) (hbs▸Za rfl) (Za rfl) (Zdm hbd))) ⟨bey,vs,o6,by rw[hk],hk▸M,hk▸hp,⟨[],(XR _).symm⟩,λj m z=>absurd z (V6 _)⟩ (λi d δ hd h=>?turn)) λδ' z=>?fin
 case fin=>
  obtain⟨e,bey',vs',o,rfl,M',hp',⟨t,ht⟩,hc⟩:=z
  rw[Xg]at hc
  exact⟨bey',vs',o,M',λm hm=>by
   obtain⟨j,hj,e⟩:=Vk hm
   exact hc j m hj (by rw[Xk hj,e]),⟨t,ht⟩,e⟩
 case turn=>
  obtain⟨bey',vs',o,rfl,M',hp',⟨t,ht⟩,hc⟩:=h
  rw[Xm]at hd
  obtain⟨m,hm,rfl⟩:=XM.mp hd
  obtain⟨lm,em⟩:=hE m (QW hm)
  obtain⟨ks2,bey2,vs2,o2,M2,m2,⟨t2,h1,h2⟩,run⟩:=Zmg (bs:=bs) (ed:=ed) hn M' rfl hp' lm em
  have e2:ks2=ks0 ++ bey2:=by rw[h1,h2,QH]
  rw[e2]at M2 m2 run
  refine⟨_,_,rfl,.inl run,bey2,vs2,o2,rfl,M2,?_,⟨t ++ t2,by rw[h2,ht,QH]⟩,λj k hj hk=>?_⟩
  ·rw[←e2,h1];exact Qk _ hp'
  ·rcases QM.mp hj with hj|rfl
   ·rw[←e2,h1];exact Qk _ (hc j k hj hk)
   ·rw[hm]at hk;cases hk;exact m2
end
noncomputable def Nb(nb:Nat->List Nat):Nat->Nat->Prop:=λp m=>m∈nb p
structure Web(n:Nat)(nb:Nat->List Nat)(bs:Xa):Prop where
 le:n≤10
 lt:∀p m,m∈nb p->m<n
 bs:∃bd,bs= .list bd∧∀p<n,bd[p]? =some (.list ((nb p).map dI))
noncomputable def inB:FS:=Zaw (Zc2 (Z9 gIx (Zc 0) (Zc 5))) (gNm 6) (Wu (tV (Zb (Zqm true) (Zc 6) (Za5 2))) (Zw (Zio 2 (Zb Ja (Z9 Zkp (Za5 2) (Zc 5)) (fC (.int 1))) (Zc 6)) (Yn 4 (Zc 6))) fNx)
noncomputable def Z1e:FS:=Zw (wE (Zab Zk) (Jo 4)) (Zw (Zaw (Zc2 (Zc 3)) (gNm 5) inB) (Zaz 4 (wE (Zc 4) (Wt 3))))
noncomputable def Zuv:FT:=tV (Zb gGt (Jb Zai (Zd (Zc 3) Zk)) (fC (.int 0)))
section
variable {n s:Nat}{nb:Nat->List Nat}{bs:Xa}
theorem Zum(W:Web n nb bs){ks ed:List Nat}{vs:List Xa}{o4 o5 o6:Option OT}(M:Met (Nb nb) n s ks vs)(hed:∀p∈ed,p∈ks) :
  ∃bey vs' o4' o5' o6',Met (Nb nb) n s (ks ++ bey) vs'∧(∀p∈ed,∀m∈nb p,m∈ks ++ bey)∧Z1e (eB bs s ks vs ed o4 o5 o6)= .nx (eB bs s (ks ++ bey) vs' bey o4' o5' o6'):=by
 obtain⟨bd,hbs,hbd⟩:=W.bs
 refine Exists.elim (Zff (δ:=eB bs s ks vs ed (some (.nd [])) o5 o6) (it:=Zc2 (Zc 3)) (g:=gNm 5) (S:=inB)
  (λi δ=>∃bey vs' o5 o6,δ=eB bs s (ks ++ bey) vs' ed (some (lsO bey)) o5 o6∧Met (Nb nb) n s (ks ++ bey) vs'∧∀j p,j<i->ed[j]? =some p->∀m∈nb p,m∈ks ++ bey)
  (Zcf (ds:=ed.map dI) (Za rfl)) ⟨[],vs,o5,o6,by rw[XR];rfl,by rw[XR];exact M,λj m z=>absurd z (V6 _)⟩ (λi d δ hd h=>?turn)) λδ' z=>?fin
 case fin=>
  obtain⟨e,bey,vs',o5',o6',rfl,M',hc⟩:=z
  rw[Xg]at hc
  refine⟨bey,vs',some (.fz (.list (bey.map dI))),o5',o6',M',λp hp=>?_,Zr Zd6 (Zr e (Zig (o:=lsO bey) rfl ?_))⟩
  ·obtain⟨j,hj,e⟩:=Vk hp
   exact hc j p hj (by rw[Xk hj,e])
  ·have hd:(lsO bey).data= .list (bey.map dI):=by unfold lsO;rw[OT.data_nd,OT.map_fz]
   rw[hd]
   exact Yb (Za rfl)
 case turn=>
  obtain⟨bey,vs',o5,o6,rfl,M',hc⟩:=h
  rw[Xm]at hd
  obtain⟨p,hp,rfl⟩:=XM.mp hd
  have pk:p∈ks ++ bey:=Qk _ (hed p (QW hp))
  obtain⟨bey',vs2,o,M2,m2,⟨t,ht⟩,run⟩:=Zlw (ed:=ed) (o6:=o6) W.le (λm hm=>⟨W.lt p m hm,hm⟩) hbs (hbd p (M'.lt p pk)) M' rfl pk
  refine⟨_,_,rfl,.inl run,bey',vs2,_,o,rfl,M2,λj k hj hk m hm=>?_⟩
  rcases QM.mp hj with hj|rfl
  ·rw[ht,←QH];exact Qk _ (hc j k hj hk m hm)
  ·rw[hp]at hk;cases hk;exact m2 m hm
theorem Zjy{ks ed:List Nat}{vs:List Xa}{o4 o5 o6:Option OT}:Zuv (eB bs s ks vs ed o4 o5 o6)=some (decide (0<ed.length),eB bs s ks vs ed o4 o5 o6):=by
 refine Zax (Zm3 (Zal (ds:=ed.map dI) (Za rfl)) Z2 ?_)
 rw[Xg]
 exact decide_eq_decide.mpr ⟨λh=>by omega,λh=>by omega⟩
theorem Zvu{t:FT}{u:FS}{k:Nat}{δ δ2:Zf}(h:t δ=some (true,δ))(g:u δ= .nx δ2):whileLoop t u (k+1) δ=whileLoop t u k δ2:=by
 rw[whileLoop,h]
 dsimp only
 rw[if_pos rfl,g]
theorem Zmr{t:FT}{u:FS}{k:Nat}{δ:Zf}(h:t δ=some (false,δ)):whileLoop t u (k+1) δ= .nx δ:=by
 rw[whileLoop,h];rfl
theorem Zw5(W:Web n nb bs)(N:Nat):∀{ks ed:List Nat} {vs:List Xa} {o4 o5 o6:Option OT},Met (Nb nb) n s ks vs->(∀p∈ed,p∈ks)->(∀k∈ks,k∉ed->∀m∈nb k,m∈ks)->2*(n-ks.length)+(if ed=[]then 0 else 1)≤N ->
  ∃f ks' vs' o3 o4' o5' o6',whileLoop Zuv Z1e f (eB bs s ks vs ed o4 o5 o6)= .nx (eB bs s ks' vs' o3 o4' o5' o6')∧Met (Nb nb) n s ks' vs'∧∀k∈ks',∀m∈nb k,m∈ks':=by
 induction N with
 | zero=>
  intro ks ed vs o4 o5 o6 M hed hc hN
  have e:ed=[]:=Classical.byContradiction λc=>by rw[if_neg c]at hN;omega
  subst e
  exact⟨1,ks,vs,_,_,_,_,Zmr Zjy,M,λk hk=>hc k hk λz=>nomatch z⟩
 | succ N ih=>
  intro ks ed vs o4 o5 o6 M hed hc hN
  by_cases e:ed=[]
  ·subst e
   exact⟨1,ks,vs,_,_,_,_,Zmr Zjy,M,λk hk=>hc k hk λz=>nomatch z⟩
  ·rw[if_neg e]at hN
   obtain⟨bey,vs',p4,p5,p6,M',m',run⟩:=Zum (o4:=o4) (o5:=o5) (o6:=o6) W M hed
   have ll:=Zby M'.nd M'.lt
   rw[Xo]at ll
   have tt:Zuv (eB bs s ks vs ed o4 o5 o6)=some (true,eB bs s ks vs ed o4 o5 o6):=by
    rw[Zjy,decide_eq_true (List.length_pos_iff.mpr e)]
   have c1:∀k∈ks ++ bey,k∉bey->∀m∈nb k,m∈ks ++ bey:=λk hk hb m hm=>by
    have k0:k∈ks:=(Qj.mp hk).resolve_right hb
    by_cases ke:k∈ed
    ·exact m' k ke m hm
    ·exact Qk _ (hc k k0 ke m hm)
   have c2:2*(n-(ks ++ bey).length)+(if bey=[]then 0 else 1)≤N:=by
    rw[Xo]
    by_cases b:bey=[]
    ·rw[if_pos b,b];show 2*(n-(ks.length+0))+0≤N;omega
    ·rw[if_neg b]
     have:=List.length_pos_iff.mpr b
     omega
   obtain⟨f,ks',vs2,o3,q4,q5,q6,h1,h2,h3⟩:=ih (ks:=ks ++ bey) (ed:=bey) (o4:=p4) (o5:=p5) (o6:=p6) M' (λp hp=>Xw _ hp) c1 c2
   exact⟨f+1,ks',vs2,o3,q4,q5,q6,(Zvu tt run).trans h1,h2,h3⟩
theorem Zde(W:Web n nb bs)(hs:s<n):∃ks vs,Told Jf [bs,dI s] (dcD false (ks.map kI) vs)∧Met (Nb nb) n s ks vs∧∀m,m∈ks↔Rch (Nb nb) s m:=by
 have M0:Met (Nb nb) n s [s] [.int 0]:=⟨Qi.mpr ⟨(λz=>nomatch z),.nil⟩,.head _,λk hk=>Xl.mp hk▸hs,λk hk=>Xl.mp hk▸ .refl,rfl,λv hv=>⟨0,Xl.mp hv⟩⟩
 obtain⟨f,ks,vs,o3,o4,o5,o6,run,M,cl⟩:=Zw5 (ed:=[s]) (o4:=none) (o5:=none) (o6:=none) W _ M0 (λp hp=>hp) (λk hk hn=>absurd hk hn) (XQ _)
 refine⟨ks,vs,Wb rfl<|Zak (δ':=[some (.fz bs),some (.fz (dI s)),some (.dc false [kI s] [.int 0]),none,none,none,none]) ?_<|Zak (Yb (Zc6 (ds:=[dI s]) (Ze (Za rfl) Zi) (show 1≤1000 by decide)))<|Zak (Znz f run (λz=>nomatch z)) (Zub (o:=.dc false (ks.map kI) vs) rfl (OT.data_dc _ _ _)),M,λm=>⟨M.rch m,Rch.closed M.st cl⟩⟩
 rfl
end
theorem Zlv{f g:Int->Int->Bool}{a b c:FE}{δ:Zf}{i j k:Int}(ha:EvV a δ (.int i))(hb:EvV b δ (.int j))(hc:EvV c δ (.int k))(h:f i j=true)(hg:g j k=true):EvV (Zeb f g a b c) δ (.bool true):=by
 obtain⟨_,e1,d1⟩:=ha
 obtain⟨_,e2,d2⟩:=hb
 obtain⟨_,e3,d3⟩:=hc
 refine⟨.fz (.bool true),?_,OT.data_fz _⟩
 unfold Zeb
 rw[e1,Xe,e2,Xe]
 dsimp only
 rw[d1,d2]
 dsimp only
 rw[if_pos h,e3,Xe,d3]
 dsimp only
 rw[hg]
theorem Zao{n:Nat}(h1:1≤n)(h2:n≤10):Told Zv [dI n] (.bool true) :=
 Wb rfl (Zbk (Zlv Z2 (Za rfl) Z2 (decide_eq_true (show(1:Int)≤n by omega)) (decide_eq_true (show(n:Int)≤10 by omega))))
theorem Zss(n:Nat):Zc7 0 n=(XX n).map dI:=QR λi _=>by
 show XJ (0+(i:Int))=_
 rw[Int.zero_add];rfl
noncomputable def nbR(rs:List (Nat×Nat))(p:Nat):List Nat:=rs.flatMap λr=>if r.1=p then[r.2]else if r.2=p then[r.1]else[]
theorem Zsb(rs:List (Nat×Nat))(r:Nat×Nat)(p:Nat):nbR (rs ++ [r]) p=nbR rs p ++ (if r.1=p then[r.2]else if r.2=p then[r.1]else[]):=by
 unfold nbR
 rw[List.flatMap_append,List.flatMap_cons,List.flatMap_nil,XR]
theorem Zfk{rs:List (Nat×Nat)}{p m:Nat}:m∈nbR rs p↔(p,m)∈rs∨(m,p)∈rs:=by
 unfold nbR
 rw[List.mem_flatMap]
 constructor
 ·intro h
  obtain⟨⟨a,b⟩,hr,hm⟩:=h
  dsimp only at hm
  split at hm
  ·rename_i e;subst e;rw[Xl.mp hm];exact .inl hr
  ·split at hm
   ·rename_i e;subst e;rw[Xl.mp hm];exact .inr hr
   ·cases hm
 ·intro h
  rcases h with h|h
  ·exact⟨_,h,by dsimp only;rw[if_pos rfl];exact .head _⟩
  ·refine⟨_,h,?_⟩
   dsimp only
   split
   ·rename_i e;subst e;exact .head _
   ·rw[if_pos rfl];exact .head _
theorem set_range{f:Nat->OT}{n a:Nat}{v:OT}:((XX n).map f).set a v=(XX n).map λp=>if p=a then v else f p:=by
 refine List.ext_getElem? λi=>?_
 rw[List.getElem?_set,Xm,Xm,Xg,Qx]
 by_cases c:i<n
 ·rw[BL c]
  by_cases e:a=i
  ·subst e;rw[if_pos rfl,if_pos c];show _=some (if _ then _ else _);rw[if_pos rfl]
  ·rw[if_neg e];show _=some (if _ then _ else _);rw[if_neg λz=>e z.symm];rfl
 ·rw[List.getElem?_eq_none (by rw[Qx];omega)]
  split
  ·split
   ·omega
   ·rfl
  ·rfl
theorem Zld{j e:FE}{δ:Zf}{i k:Nat}{ts us:List OT}{d:Xa}(hi:δ[i]? =some (some (.nd ts)))(hj:EvV j δ (dI k))(ht:ts[k]? =some (.nd us))(he:EvV e δ d)(hl:us.length≤1000000):Zgv i j e δ= .nx (δ.set i (some (.nd (ts.set k (.nd (us ++ [.fz d])))))):=by
 obtain⟨t1,e1,d1⟩:=hj
 obtain⟨t2,e2,d2⟩:=he
 have hk:k<ts.length:=(Xv.mp ht).1
 have hx:ixN ts.length (k:Int)=some k:=Zs7 hk
 unfold Zgv
 rw[hi]
 dsimp only
 rw[Zcu,e1,Yo,d1]
 show(match ixN ts.length (k:Int)with|some j=>_|none=>_)=_
 rw[hx]
 dsimp only
 rw[ht]
 dsimp only
 rw[Zcu,e2,Yo,d2,if_pos (by rw[Qe];omega)]
noncomputable def bO(rs:List (Nat×Nat))(n:Nat):OT:=.nd ((XX n).map λp=>lsO (nbR rs p))
theorem Zv5(rs:List (Nat×Nat))(p:Nat):(nbR rs p).length≤rs.length:=by
 unfold nbR
 induction rs with
 | nil=>exact XQ _
 | cons r rs ih=>
  rw[List.flatMap_cons,Xo,JH]
  have:(if r.1=p then[r.2]else if r.2=p then[r.1]else[]).length≤1:=by
   split
   ·exact XQ _
   ·split
    ·exact XQ _
    ·exact JK _
  omega
theorem Zi4{n:Nat}{rs:List (Nat×Nat)}(hn:n≤10)(hr:∀r∈rs,r.1<r.2∧r.2<n)(hl:rs.length≤1000):Told W2 [dI n,.list (rs.map ptD)] (.list ((XX n).map λp=>.list ((nbR rs p).map dI))):=by
 have h0:wE (Jh 1 [] (iRa (Zd (Zc 0) Zk)) (gNm 0) Zml (Zab Zk)) (Jo 2) (Y9 5 [dI n,.list (rs.map ptD)])= .nx [some (.fz (dI n)),some (.fz (.list (rs.map ptD))),some (bO [] n),none,none]:=by
  refine(Zco (o:=.nd ((XX n).map λ_=>.nd [])) (Zj6 (cs:=[]) (XX n) dI _ (hi:=?_) (by rw[Qx,Qe];omega) rfl λx _=>rfl)).trans rfl
  rw[←Zss]
  exact Zdo (Ze (Za rfl) Zi) (by omega)
 refine Wb rfl<|Zak h0<|Ziq (ds:=rs.map ptD) (λi δ=>∃z3 z4,δ=[some (.fz (dI n)),some (.fz (.list (rs.map ptD))),some (bO (rs.take i) n),z3,z4]) (Zcf (Za rfl)) ⟨_,_,by rw[List.take_zero]⟩ (λi d δ hd h=>?_) λδ' h=>?_
 ·obtain⟨z3,z4,rfl⟩:=h
  rw[Xm]at hd
  obtain⟨⟨a,b⟩,hab,rfl⟩:=XM.mp hd
  obtain⟨l1,l2⟩:=hr _ (QW hab)
  have l1:a<b:=l1
  have l2:b<n:=l2
  have tk:rs.take (i+1)=rs.take i ++ [(a,b)]:=by rw[List.take_succ,hab];rfl
  have nl:∀p,(nbR (rs.take i) p).length≤1000:=λp=>by
   have h1:=Zv5 (rs.take i) p
   have h2:(rs.take i).length≤rs.length:=by rw[Bp];exact Nat.min_le_right _ _
   omega
  have s1:=Zld (i:=2) (j:=Zc 3) (e:=Zc 4) (δ:=[some (.fz (dI n)),some (.fz (.list (rs.map ptD))),some (bO (rs.take i) n),some (.fz (dI a)),some (.fz (dI b))]) (k:=a) (us:=((nbR (rs.take i) a).map dI).map OT.fz) (d:=dI b) rfl (Za rfl) (by rw[Xm,BL (by omega)];rfl) (Za rfl) (by rw[Xg,Xg];have:=nl a;omega)
  rw[set_range]at s1
  have s2:=Zld (i:=2) (j:=Zc 4) (e:=Zc 3) (δ:=[some (.fz (dI n)),some (.fz (.list (rs.map ptD))),some (.nd ((XX n).map λp=>if p=a then OT.nd (((nbR (rs.take i) a).map dI).map OT.fz ++ [.fz (dI b)])else lsO (nbR (rs.take i) p))),some (.fz (dI a)),some (.fz (dI b))]) (k:=b) (us:=((nbR (rs.take i) b).map dI).map OT.fz) (d:=dI a) rfl (Za rfl) (by rw[Xm,BL (by omega)];show some (if b=a then _ else _)=_;rw[if_neg (by omega)];rfl) (Za rfl) (by rw[Xg,Xg];have:=nl b;omega)
  rw[set_range]at s2
  refine⟨_,_,rfl,.inl (Zr s1 s2),some (.fz (dI a)),some (.fz (dI b)),?_⟩
  have e:((XX n).map λp=>if p=b then OT.nd (((nbR (rs.take i) b).map dI).map OT.fz ++ [.fz (dI a)])else if p=a then OT.nd (((nbR (rs.take i) a).map dI).map OT.fz ++ [.fz (dI b)])else lsO (nbR (rs.take i) p))=(XX n).map λp=>lsO (nbR (rs.take (i+1)) p):=QR λp _=>by
   rw[tk,Zsb]
   by_cases c1:p=b
   ·subst c1;rw[if_pos rfl];dsimp only;rw[if_neg (by omega),if_pos rfl,Zel]
   ·rw[if_neg c1]
    by_cases c2:p=a
    ·subst c2;rw[if_pos rfl];dsimp only;rw[if_pos rfl,Zel]
    ·rw[if_neg c2];dsimp only;rw[if_neg λz=>c2 z.symm,if_neg λz=>c1 z.symm,XR]
  unfold bO
  rw[←e];rfl
 ·obtain⟨z3,z4,rfl⟩:=h
  refine Zub (o:=bO rs n) (by rw[Xg,List.take_length];rfl) ?_
  unfold bO
  rw[OT.data_nd,Q5]
  refine congrArg _ (QR λp _=>?_)
  show(lsO (nbR rs p)).data=_
  unfold lsO
  rw[OT.data_nd,OT.map_fz]
theorem Zsy{n:Nat}{rs:List (Nat×Nat)}(hn:n≤10)(hr:∀r∈rs,r.1<r.2∧r.2<n):Web n (nbR rs) (.list ((XX n).map λp=>.list ((nbR rs p).map dI))) :=
 ⟨hn,λp m h=>by
  rcases Zfk.mp h with h|h
  ·exact(hr _ h).2
  ·have:=hr _ h;dsimp only at this;omega,_,rfl,λp hp=>by rw[Xm,BL hp];rfl⟩
noncomputable def rI(r:Nat×Nat):List Int:=[(r.1:Int),(r.2:Int)]
structure Roads(n:Nat)(rs:List (Nat×Nat)):Prop where
 n1:1≤n
 n10:n≤10
 ok:∀r∈rs,r.1<r.2∧r.2<n
 ris:∀(i:Nat) (r r':Nat×Nat),rs[i]? =some r->rs[i+1]? =some r'->ltI (rI r) (rI r')=true
 len:rs.length≤1000
theorem Zzw(ds:List Xa):cutD ds (some 1) none=ds.drop 1:=by
 unfold cutD
 have e:HT.sIx ds.length 0 (some 1)=min 1 ds.length:=HT.sIx_nat _ _ 1
 rw[e,HT.sIx_none]
 cases ds with
 | nil=>rfl
 | cons d ds=>
  rw[JH,Nat.min_eq_left (by omega),List.drop_succ_cons,Ue]
  exact List.take_of_length_le (by omega)
theorem Zx6(r r':Nat×Nat):Zz1 (ptD r) (ptD r')=some (.bool (ltI (rI r) (rI r'))):=rfl
theorem Zi7{n:Nat}{rs:List (Nat×Nat)}(R:Roads n rs):Told Jt [.list (rs.map ptD)] (.bool true):=by
 refine Wb rfl<|Ziq (ds:=Zjc (rs.map ptD) ((rs.map ptD).drop 1)) (λi δ=>∃z1 z2,δ=[some (.fz (.list (rs.map ptD))),z1,z2]) (Zxt (Za rfl) ((Zny (Za rfl) (Zp1 Z2) Zrp).cast (by rw[Zzw])) rfl) ⟨_,_,rfl⟩ (λi d δ hd h=>?_) λδ' h=>?_
 ·obtain⟨z1,z2,rfl⟩:=h
  obtain⟨x,y,hx,hy,rfl⟩:=Zhs hd
  rw[Xm]at hx
  rw[List.getElem?_drop,Xm]at hy
  obtain⟨r,hr,rfl⟩:=XM.mp hx
  obtain⟨r',hr',rfl⟩:=XM.mp hy
  have hl:=R.ris i r r' hr (by rw[Nat.add_comm];exact hr')
  exact⟨_,_,rfl,.inl (Z1 (Zgz (p:=true) (Zax (Zn (Za rfl) (Za rfl) (by rw[Zx6,hl])))) rfl),some (.fz (ptD r)),some (.fz (ptD r')),rfl⟩
 ·obtain⟨z1,z2,rfl⟩:=h
  exact Zbk Z2
theorem Zb8{n:Nat}{rs:List (Nat×Nat)}(R:Roads n rs):Told Y7 [dI n,.list (rs.map ptD)] .none:=by
 refine Exists.elim (Zff (δ:=[some (.fz (dI n)),some (.fz (.list (rs.map ptD))),none,none]) (it:=Zc2 (Zc 1)) (g:=gTp 2 (gCn (gNm 2) (gCn (gNm 3) gNl))) (S:=Wu (tNo (tV (Zey (λi j=>decide (i≤j)) (λi j=>decide (i<j)) (λi j=>decide (i<j)) (fC (.int 0)) (Zc 2) (Zc 3) (Zc 0)))) (Zae "NoWeb") fNx)
  (λi δ=>∃z1 z2,δ=[some (.fz (dI n)),some (.fz (.list (rs.map ptD))),z1,z2]) (Zcf (ds:=rs.map ptD) (Za rfl)) ⟨_,_,rfl⟩ (λi d δ hd h=>?turn)) λδ' z=>?fin
 case turn=>
  obtain⟨z1,z2,rfl⟩:=h
  rw[Xm]at hd
  obtain⟨⟨a,b⟩,hr,rfl⟩:=XM.mp hd
  obtain⟨l1,l2⟩:=R.ok _ (QW hr)
  have l1:a<b:=l1
  have l2:b<n:=l2
  refine⟨_,_,rfl,.inl (Z1 (Zgz (p:=true) (Zax ((Zmv Z2 (Za rfl) (Za rfl) (Za rfl)).cast ?_))) rfl),some (.fz (dI a)),some (.fz (dI b)),rfl⟩
  rw[decide_eq_true (show(0:Int)≤a by omega),decide_eq_true (show(a:Int)<b by omega),decide_eq_true (show(b:Int)<n by omega)];rfl
 case fin=>
  obtain⟨e,z1,z2,rfl⟩:=z
  exact Zi6 rfl (Zr (Z1 (Zgz (p:=true) (Zj4 (Yl (Ze (Za rfl) Zi) (Zao R.n1 R.n10)))) rfl) (Zr e (Z1 (Zgz (p:=true) (Zj4 (Yl (Ze (Za rfl) Zi) (Zi7 R)))) rfl)))
noncomputable def Z0r(n:Nat)(rs:List (Nat×Nat)):Prop:=∀m<n,Rch (Nb (nbR rs)) 0 m
noncomputable def bsD(n:Nat)(rs:List (Nat×Nat)):Xa:=.list ((XX n).map λp=>.list ((nbR rs p).map dI))
theorem Zvn{rs:List (Nat×Nat)}(a b:Nat)(h:Nb (nbR rs) a b):Nb (nbR rs) b a:=Zfk.mpr (Zfk.mp h).symm
theorem Zn7{ks:List Nat}{vs:List Xa}(h:vs.length=ks.length):Zp7 [dcD false (ks.map kI) vs]=some (.int ks.length):=by
 show some (XJ (((ks.map kI).map kyD).zip vs).length)=_
 rw[BW,Xg,Xg,h,Nat.min_self]
theorem Ztk{g:FG}{u:FS}{d:Xa}{ds:List Xa}{δ δ1 δ2:Zf}{c:Str}(h:g d δ=some δ1)(k:u δ1= .ex c δ2):forLoop g u (d :: ds) δ= .ex c δ2:=by
 rw[forLoop,h]
 dsimp only
 rw[k]
theorem Zjb{n:Nat}{rs:List (Nat×Nat)}(R:Roads n rs)(hc:Z0r n rs):∃d,Told Yp [dI n,.list (rs.map ptD)] d:=by
 have W:=Zsy R.n10 R.ok
 have key:∃d,Told Yp [dI n,.list (rs.map ptD)] d∧True:=by
  refine Ziz rfl<|Yr (Zx0 (Ze (Za rfl) (Ze (Za rfl) Zi)) (Zb8 R) λ_ _=>rfl)<|Yr (Yb (Yl (Ze (Za rfl) (Ze (Za rfl) Zi)) (Zi4 R.n10 R.ok R.len)))<|Yr Zd6<|
   Zkb (ds:=Zc7 0 n) (λi δ=>∃rows z4 z5,δ=[some (.fz (dI n)),some (.fz (.list (rs.map ptD))),some (.fz (bsD n rs)),some (.nd rows),z4,z5]∧rows.length≤i) (Zdo (Ze (Za rfl) Zi) (by have:=R.n10;omega)) ⟨[],_,_,rfl,XQ _⟩ (λi d δ hd h=>?_) λδ' h=>?_
  ·obtain⟨rows,z4,z5,rfl,hl⟩:=h
   obtain⟨hi,e⟩:=Za7 hd
   rw[Int.zero_add]at e
   subst e
   obtain⟨ks,vs,T,M,hk⟩:=Zde W hi
   have full:∀m<n,m∈ks:=λm hm=>(hk m).mpr (Rch.trans (Rch.symm Zvn (hc i hi)) (hc m hm))
   have ln:ks.length=n:=Nat.le_antisymm (Zby M.nd M.lt) (Zoq full)
   obtain⟨f,hf⟩:∃f:Nat->Xa,∀x∈XX n,Zkp (dcD false (ks.map kI) vs) (dI x)=some (.fz (f x)):=by
    have:∀x,∃d,x∈XX n->Zkp (dcD false (ks.map kI) vs) (dI x)=some (.fz d):=λx=>by
     by_cases c:x∈XX n
     ·obtain⟨j,hj⟩:=Zz3 M.len M.iv (full x (QD.mp c))
      exact⟨_,λ_=>hj⟩
     ·exact⟨.none,λz=>absurd z c⟩
    exact⟨λx=>Uo (this x),λx hx=>UW (this x) hx⟩
   refine⟨_,_,rfl,.inl (Zr (Yb (Yl (Ze (Za rfl) (Ze (Za rfl) Zi)) T)) (Zr (Z1 (Zax (Zg4 (Zbt (Ze (Za rfl) Zi) (Zn7 M.len)) (Za rfl) (decide_eq_false (by rw[ln];omega)))) rfl) (Zix (ts:=rows) (Zjo (cs:=[some (.fz (dcD false (ks.map kI) vs))]) (XX n) dI f ?_ (by rw[Qx];have:=R.n10;omega) rfl λx hx=>Zst (Za rfl) (Za rfl) (hf x hx)) rfl (by have:=R.n10;omega)))),_,_,_,rfl,?_⟩
   ·rw[←Zss]
    exact Zdo (Ze (Za rfl) Zi) (by have:=R.n10;omega)
   ·rw[Xo];exact Vh hl
  ·obtain⟨rows,z4,z5,rfl,_⟩:=h
   exact Z3u rfl trivial
 exact key.imp λ_ h=>h.1
theorem Zj3{n:Nat}{rs:List (Nat×Nat)}(R:Roads n rs)(hc:¬Z0r n rs):Yp [dI n,.list (rs.map ptD)]= .exn "NoWeb" :=by
 have W:=Zsy R.n10 R.ok
 obtain⟨k,rfl⟩:∃k,n=k+1:=⟨n-1,by have:=R.n1;omega⟩
 obtain⟨ks,vs,T,M,hk⟩:=Zde W (s:=0) (by omega)
 have lt:ks.length<k+1:=Nat.lt_of_not_le λz=>hc λm hm=>(hk m).mp (Zs3 M.nd M.lt z m hm)
 have er:Zc7 0 (k+1)=dI 0 :: Zc7 1 k:=Zo2 0 k
 exact Zbx rfl (Zr (Zx0 (Ze (Za rfl) (Ze (Za rfl) Zi)) (Zb8 R) λ_ _=>rfl)<|Zr (Yb (Yl (Ze (Za rfl) (Ze (Za rfl) Zi)) (Zi4 R.n10 R.ok R.len)))<|Zr Zd6<|Zar (Zch (Zdo (n:=k+1) (Ze (Za rfl) Zi) (by have:=R.n10;omega))
  ((congrArg (λl=>forLoop _ _ l _) er).trans (Ztk rfl (Zr (Yb (Yl (Ze (Za rfl) (Ze (Za rfl) Zi)) T)) (Zar (Wa (Zax (Zg4 (Zbt (Ze (Za rfl) Zi) (Zn7 M.len)) (Za rfl) (decide_eq_true (by omega)))) rfl)))))))
theorem Zm1(neg:Bool)(x:Int)(p:List Int):Zfr neg (.int x) (Yz p)=some (.bool (if neg then !decide (x∈p)else decide (x∈p))):=by
 have e:memS (.int x) (p.map XJ)=decide (x∈p):=by
  unfold memS
  rw[List.any_map]
  rw[Bool.eq_iff_iff,List.any_eq_true,decide_eq_true_eq]
  constructor
  ·rintro⟨y,hy,h⟩
   have:(y==x)=true:=h
   rw[←eq_of_beq this];exact hy
  ·intro h
   exact⟨x,h,(show(x==x)=true from beq_self_eq_true x)⟩
 have s:(p.map XJ).all scD=true:=by
  rw[Q7]
  intro d hd
  obtain⟨y,_,rfl⟩:=QJ.mp hd
  rfl
 show(if(scD (.int x)&&(p.map XJ).all scD)=true then some (BP (if neg then !memS (.int x) (p.map XJ)else memS (.int x) (p.map XJ)))else none)=_
 rw[s,e];rfl
theorem Zwn{a:Nat}{ns:List Nat}(neg:Bool):Zfr neg (dI a) (.list (ns.map dI))=some (.bool (if neg then !decide (a∈ns)else decide (a∈ns))):=by
 have h:=Zm1 neg (a:Int) (ns.map λk:Nat=>(k:Int))
 have e:decide ((a:Int)∈ns.map λk:Nat=>(k:Int))=decide (a∈ns):=decide_eq_decide.mpr ⟨λh=>by
  obtain⟨k,hk,e⟩:=QJ.mp h
  exact Int.ofNat.inj e▸hk,λh=>QJ.mpr ⟨a,h,rfl⟩⟩
 rw[e]at h
 refine Eq.trans ?_ h
 show Zfr neg (.int a) (.list _)=Zfr neg (.int a) (.list ((ns.map λk:Nat=>(k:Int)).map XJ))
 rw[Q5];rfl
structure Z2a(n:Nat)(rs:List (Nat×Nat))(ns:List Nat):Prop where
 nd:ns.Nodup
 z:0∈ns
 lt:∀k∈ns,k<n
 rch:∀k∈ns,Rch (Nb (nbR rs)) 0 k
noncomputable def Clo(rs:List (Nat×Nat))(ns:List Nat):Prop:=∀r∈rs,r.1∈ns↔r.2∈ns
noncomputable def eG(ws:Xa)(o1 o2:Option OT)(ns:List Nat)(o4 o5 o6:Option OT):Zf:=[some (.fz ws),o1,o2,some (lsO ns),o4,o5,o6]
noncomputable def Z95:FS:=Wu (tV (Zb gNe (Zb (Zfr false) (Zc 5) (Za5 3)) (Zb (Zfr false) (Zc 6) (Za5 3)))) (Za0 3 (Jh 1 [3] (iTp (Zku (Zd (Zc 5) (Zd (Zc 6) Zk)))) (gNm 0) (tV (Zb (Zfr true) (Zc 0) (Za5 1))) (Zc 0))) fNx
theorem Zhj(ns:List Nat):(lsO ns).data= .list (ns.map dI):=by unfold lsO;rw[OT.data_nd,OT.map_fz]
theorem Znb{e:FE}{δ:Zf}{i m:Nat}{ns:List Nat}(h:e δ=some (.nd [.fz (dI m)],δ))(hi:δ[i]? =some (some (lsO ns)))(hl:ns.length≤1000):Za0 i e δ= .nx (δ.set i (some (lsO (ns ++ [m])))):=by
 unfold lsO at hi
 unfold Za0
 rw[hi]
 dsimp only
 rw[Zcu,h,Yo,hi]
 dsimp only
 rw[if_pos (by rw[Qe,Xg,Xg];show _+1≤_;omega),Zel];rfl
theorem Zr6{n:Nat}{rs:List (Nat×Nat)}{ns:List Nat}{a b:Nat}{ws:Xa}{o1 o2 o4:Option OT}(hn:n≤10)(C:Z2a n rs ns)(hr:(a,b)∈rs)(ha:a<n)(hb:b<n) :
  ∃u,Z2a n rs (ns ++ u)∧(u=[]↔(a∈ns↔b∈ns))∧Z95 (eG ws o1 o2 ns o4 (some (.fz (dI a))) (some (.fz (dI b))))= .nx (eG ws o1 o2 (ns ++ u) o4 (some (.fz (dI a))) (some (.fz (dI b)))):=by
 have ll:=Zby C.nd C.lt
 have e2:EvV (Za5 3) (eG ws o1 o2 ns o4 (some (.fz (dI a))) (some (.fz (dI b)))) (.list (ns.map dI)):=Ze5 rfl (Zhj ns)
 have t:=Zax (Zn (g:=gNe) (Zn (Za (i:=5) rfl) e2 (Zwn false)) (Zn (Za (i:=6) rfl) e2 (Zwn false)) (d:=.bool (!decide (decide (a∈ns)=decide (b∈ns)))) (by cases decide (a∈ns)<;>cases decide (b∈ns)<;>rfl))
 have add:∀{x y:Nat},(x,y)∈rs∨(y,x)∈rs->x∈ns->y∉ns->y<n->Z2a n rs (ns ++ [y]):=fun{x y} h hx hy hl=>⟨Bf.mpr ⟨C.nd,Qi.mpr ⟨(λz=>nomatch z),.nil⟩,λp hp q hq e=>hy (by rw[←Xl.mp hq,←e];exact hp)⟩,Qk _ C.z,λk hk=>(Qj.mp hk).elim (C.lt k) λq=>Xl.mp q▸hl,λk hk=>(Qj.mp hk).elim (C.rch k) λq=>Xl.mp q▸ .step (C.rch x hx) (Zfk.mpr h)⟩
 have cmp:Jh 1 [3] (iTp (Zku (Zd (Zc 5) (Zd (Zc 6) Zk)))) (gNm 0) (tV (Zb (Zfr true) (Zc 0) (Za5 1))) (Zc 0) (eG ws o1 o2 ns o4 (some (.fz (dI a))) (some (.fz (dI b))))=some (.nd (([a,b].filter λx=>!decide (x∈ns)).map λx=>.fz (dI x)),eG ws o1 o2 ns o4 (some (.fz (dI a))) (some (.fz (dI b)))) :=
  Zfh (cs:=[some (lsO ns)]) [a,b] dI (λx=>!decide (x∈ns)) (λx=>.fz (dI x)) rfl (by rw[Qe];show 2≤16777216;decide) rfl (λx _=>Zax (Zn (Za rfl) (Ze5 (i:=1) rfl (Zhj ns)) (Zwn true))) λx _ _=>rfl
 by_cases ca:a∈ns
 ·by_cases cb:b∈ns
  ·rw[decide_eq_true ca,decide_eq_true cb]at t
   exact⟨[],by rw[XR];exact C,⟨λ_=>⟨λ_=>cb,λ_=>ca⟩,λ_=>rfl⟩,(Z1 t rfl).trans (by rw[XR];rfl)⟩
  ·rw[decide_eq_true ca,decide_eq_false cb]at t
   have f:([a,b].filter λx=>!decide (x∈ns))=[b]:=by rw[Vx (by simpa using ca),Vw (by simpa using cb)];rfl
   rw[f]at cmp
   exact⟨[b],add (.inl hr) ca cb hb,⟨(λz=>nomatch z),λz=>absurd (z.mp ca) cb⟩,Wa t ((Znb cmp rfl (by omega)).trans rfl)⟩
 ·by_cases cb:b∈ns
  ·rw[decide_eq_false ca,decide_eq_true cb]at t
   have f:([a,b].filter λx=>!decide (x∈ns))=[a]:=by rw[Vw (by simpa using ca),Vx (by simpa using cb)];rfl
   rw[f]at cmp
   exact⟨[a],add (.inr hr) cb ca ha,⟨(λz=>nomatch z),λz=>absurd (z.mpr cb) ca⟩,Wa t ((Znb cmp rfl (by omega)).trans rfl)⟩
  ·rw[decide_eq_false ca,decide_eq_false cb]at t
   exact⟨[],by rw[XR];exact C,⟨λ_=>⟨λz=>absurd z ca,λz=>absurd z cb⟩,λ_=>rfl⟩,(Z1 t rfl).trans (by rw[XR];rfl)⟩
noncomputable def mkW(l:List Nat):Str:=⟨l.toArray⟩
noncomputable def wD(l:List Nat):Xa:=.str (mkW l)
noncomputable def Z3p:Nat->List (List Nat)
 | 0=>[[]]
 | k+1=>(Z3p k).flatMap λl=>[48 :: l,49 :: l]
noncomputable def OkL(k:Nat)(l:List Nat):Prop:=l.length=k∧∀c∈l,c=48∨c=49
theorem Zk7:∀{k:Nat} {l:List Nat},OkL k l->l∈Z3p k:=by
 intro k
 induction k with
 | zero=>
  intro l h
  rw[List.length_eq_zero_iff.mp h.1];exact .head _
 | succ k ih=>
  intro l h
  cases l with
  | nil=>exact absurd h.1 (by simp)
  | cons c l=>
   refine List.mem_flatMap.mpr ⟨l,ih ⟨Nat.succ.inj h.1,λc hc=>h.2 c (.tail _ hc)⟩,?_⟩
   rcases h.2 c (.head _)with rfl|rfl
   ·exact .head _
   ·exact .tail _ (.head _)
noncomputable def okB(k:Nat)(l:List Nat):Bool:=decide (l.length=k)&&l.all λc=>decide (c=48∨c=49)
theorem Z1g{k:Nat}{l:List Nat}(h:okB k l=true):OkL k l:=by
 unfold okB at h
 rw[Xz,decide_eq_true_iff,Q7]at h
 exact⟨h.1,λc hc=>of_decide_eq_true (h.2 c hc)⟩
noncomputable def Z9f(k:Nat)(l:List Nat):Bool:=match Zd2 (mkW l) [.str "0"],Zd2 (mkW l) [.str "1"]with|some (.int a),some (.int b)=>decide (a+b=k)|_,_=>false
noncomputable def Z8z(l:List Nat):Bool:=match Zmc "" [.list (l.map λc=>wD [c])]with|some (.str v)=>decide (v=mkW l)|_=>false
noncomputable def Z0z(l:List Nat)(at':Nat):Option Xa :=
 (Zfv (wD l) (.int at')).bind λo=>(Zgl [o.data]).bind λi=>(Zfv (.str "10") i).bind λc=>(J0 (.str (Q9 (mkW l) none (some (at':Int)))) c.data).bind λx=>J0 x (.str (Q9 (mkW l) (some ((at':Int)+1)) none))
noncomputable def Z79(k:Nat)(l:List Nat)(at':Nat):Bool:=match Z0z l at' with|some (.str v)=>okB k v.cps.toList|_=>false
theorem Z9q:((XX 8).all λk=>(Z3p k).all λl=>Z9f k l&&Z8z l)=true:=by decide +kernel
theorem Yab:((XX 8).all λk=>(Z3p k).all λl=>(XX k).all λi=>Z79 k l i)=true:=by decide +kernel
theorem Z7v:Zrw (.int 10) (.int 45)=some (.int 1000000000000000000000000000000000000000000000):=rfl
theorem Z9h:Zfp (.int 1000000000000000000000000000000000000000000000) (.int 1000000000000000000000000000000000000000000000)=some (.int 1000000000000000000000000000000000000000000000000000000000000000000000000000000000000000000):=rfl
theorem Zkm(c:Int)(m:Nat)(b:Int)(hm:m≤1000)(hb:(decide (0<b)&&decide (b<18446744073709551616))=true):∃vs:List Int,Told Z4 [.int c,.int m,.int b] (Yz vs)∧vs.length=m:=by
 have b0:b≠0:=λe=>by rw[e]at hb;exact absurd hb (by decide)
 have key:∃d,Told Z4 [.int c,.int m,.int b] d∧∃vs,d=Yz vs∧vs.length=m :=
  Ziz rfl<|Yr (Yb (Wn Za (Zn (Zn Z2 Z2 Z7v) (Zn Z2 Z2 Z7v) Z9h) (by decide)))<|Yr Zd6<|Yr (Yb (Zs6 Za (Zn Z2 Z2 Z5m)))<|Zkb (ds:=Zc7 0 m) (λi δ=>∃(vs:List Int) (c x:Int) (z1 z2:Option OT),δ=[some (.fz (.int c)),some (.fz (.int m)),some (.fz (.int b)),some (.nd (vs.map λv=>.fz (.int v))),some (.fz (.int x)),z1,z2]∧vs.length=i)
   (Zdo (n:=m) (Ze Za Zi) (by omega)) ⟨[],_,_,none,none,rfl,rfl⟩ (λi d δ hd q91=>by
    obtain⟨vs,c,x,z1,z2,e,hl⟩:=q91
    subst e
    obtain⟨hi,rfl⟩:=Za7 hd
    have n0:=Zm7 (i:=(c+977*(0+(i:Int))+1)*48271) (j:=2147483647) (by decide)
    have n1:=Zns (i:=(c+977*(0+(i:Int))+1)*48271) (j:=2147483647) (by decide)
    have a1:∀z2,wE (Zb J8 (Zb Zfp (Zb Ja (Zb Ja (Zc 0) (Zb Zfp (fC (.int 977)) (Zc 5))) (fC (.int 1))) (fC (.int 48271))) (fC (.int 2147483647))) (Wt 6) [some (.fz (.int c)),some (.fz (.int m)),some (.fz (.int b)),some (.nd (vs.map λv=>.fz (.int v))),some (.fz (.int x)),some (.fz (.int (0+(i:Int)))),z2]= .nx _:=λz2=>Yb (Wn (Zje (W3 (W3 Za (Zes Z2 Za)) Z2) Z2) Z2 (by decide))
    by_cases q:1000000000000000000≤c
    ·exact⟨_,_,rfl,.inl (Zr (a1 z2)<|Zr (Yb (Wn (Zes Za Za (by omega)) Z2 (by decide)))<|Zr (Yb (Zdz (Wn (Zje (W3 Za (Zes Z2 (W3 Za Z2))) Z2) Z2 (by decide)) Z2))<|
      Zr (Wa (Zax (Z1p Za (Zn Z2 Z2 Z5m) (decide_eq_true q))) (Zr (Yb Za) (Yb (Zdz Za Za hb))))<|
      (Zhw (vs:=vs) (Wn Za Za b0) rfl (by omega))),_,_,_,_,_,rfl,by rw[Xo,hl];rfl⟩
    ·exact⟨_,_,rfl,.inl (Zr (a1 z2)<|Zr (Yb (Wn (Zes Za Za (by omega)) Z2 (by decide)))<|Zr (Yb (Zdz (Wn (Zje (W3 Za (Zes Z2 (W3 Za Z2))) Z2) Z2 (by decide)) Z2))<|
      Zr (Z1 (Zax (Z1p Za (Zn Z2 Z2 Z5m) (decide_eq_false q))) rfl)<|
      (Zhw (vs:=vs) (Wn Za Za b0) rfl (by omega))),_,_,_,_,_,rfl,by rw[Xo,hl];rfl⟩)
   λδ' q92=>by
    obtain⟨vs,c,x,z1,z2,e,hl⟩:=q92
    subst e
    rw[Jy]at hl
    exact Z3u rfl ⟨vs,Zle vs,hl⟩
 obtain⟨d,h,vs,rfl,hl⟩:=key
 exact⟨vs,h,hl⟩
theorem Zow(c:Int):∃vs:List Int,Told Z4 [.int c,.int 50,.int 60] (Yz vs)∧vs.length=50:=Zkm c 50 60 (by decide) (by decide)
structure Wds(k:Nat)(ls:List (List Nat)):Prop where
 k8:k<8
 ok:∀l∈ls,OkL k l
 nd:ls.Nodup
 l1:1≤ls.length
 l10:ls.length≤10
noncomputable def wsO(ls:List (List Nat)):OT:=.nd ((ls.map wD).map OT.fz)
theorem Zkv(ls:List (List Nat)):(wsO ls).data= .list (ls.map wD):=by unfold wsO;rw[OT.data_nd,OT.map_fz]
theorem Zah{a b:List Nat}(h:mkW a=mkW b):a=b:=by
 have:=congrArg (λz:Str=>z.cps.toList) h
 exact this
theorem Z4t{a:List Nat}{ls:List (List Nat)}:Zfr true (wD a) (.list (ls.map wD))=some (.bool (!decide (a∈ls))):=by
 have e:memS (wD a) (ls.map wD)=decide (a∈ls):=by
  unfold memS
  rw[List.any_map,Bool.eq_iff_iff,List.any_eq_true,decide_eq_true_eq]
  constructor
  ·intro h
   obtain⟨y,hy,h⟩:=h
   have:(mkW y==mkW a)=true:=h
   rw[←Zah (eq_of_beq this)];exact hy
  ·exact λh=>⟨a,h,show(mkW a==mkW a)=true from beq_self_eq_true _⟩
 unfold Zfr
 show(if _ then _ else _)=_
 rw[if_pos (by
  rw[Xz]
  refine⟨rfl,Q7.mpr λd hd=>?_⟩
  obtain⟨l,_,rfl⟩:=QJ.mp hd
  rfl),if_pos rfl,e]
theorem Zxf{e:FE}{δ:Zf}{i:Nat}{d:Xa}(h:EvV e δ d)(hf:Zaq d=true):wE e (Zli i) δ= .nx (δ.set i (some (.fz d))):=by
 obtain⟨t,e1,d1⟩:=h
 rw[Zcu,e1,Yo,Zr2,d1,if_pos hf]
theorem Zsr{g:Str->List Xa->Option Xa}{o:FE}{as:FA}{δ:Zf}{z:Str}{ds:List Xa}{d:Xa}(ho:EvV o δ (.str z))(ha:EvA as δ ds)(h:g z ds=some d):Zuf g o as δ=some (.fz d,δ):=by
 obtain⟨t,e1,d1⟩:=ho
 obtain⟨ts,e2,d2⟩:=ha
 unfold Zuf
 rw[e1,Xe]
 dsimp only
 rw[d1]
 dsimp only
 rw[e2,Xe,d2,h];rfl
theorem Z77{e:FE}{δ:Zf}{d:Xa}(h:e δ=some (.fz d,δ)):Zab (Zd e Zk) δ=some (.nd [.fz d],δ):=by
 rw[Zhb,Zem,h];rfl
theorem Zpq{as:FA}{δ:Zf}{i k:Nat}{ts:List OT}{d:Xa}(ha:EvA as δ [dI k,d])(hi:δ[i]? =some (some (.nd ts)))(hk:k≤ts.length)(hl:ts.length≤1000000):Zdn i as δ= .nx (δ.set i (some (.nd (Zil ts k (.fz d))))):=by
 obtain⟨rs,e1,d1⟩:=ha
 unfold Zdn
 rw[hi]
 dsimp only
 rw[e1]
 dsimp only
 rw[d1,hi]
 show(if _ then _ else _)=_
 rw[if_pos ⟨Int.natCast_nonneg _,by omega,by rw[Qe];omega⟩];rfl
theorem Zii{e:FE}{lo hi:FO}{δ:Zf}{z:Str}{l h:Option Int}(he:EvV e δ (.str z))(hl:EvO lo δ l)(hh:EvO hi δ h)(hz:z.length≤1000000):EvV (Zfq e lo hi) δ (.str (Q9 z l h)):=by
 obtain⟨t,e1,d1⟩:=he
 unfold EvO at hl hh
 refine⟨.fz (.str (Q9 z l h)),?_,OT.data_fz _⟩
 unfold Zfq
 rw[e1,Xe]
 dsimp only
 rw[hl,Xe]
 dsimp only
 rw[hh,Xe]
 dsimp only
 rw[d1]
 dsimp only
 rw[if_pos (by rw[Qe];omega)]
noncomputable def Zsa:FE:=Zb J0 (Zb J0 (Zfq (Zc 5) oN (oI (Zc 8))) (Z9 Zfv (fC (.str "10")) (Jb Zgl (Zd (Z9 Zfv (Zc 5) (Zc 8)) Zk)))) (Zfq (Zc 5) (oI (Zb Ja (Zc 8) (fC (.int 1)))) oN)
theorem Zxd{k i:Nat}{l:List Nat}{δ:Zf}(hk:k<8)(ho:OkL k l)(hi:i<k)(h5:δ[5]? =some (some (.fz (wD l))))(h8:δ[8]? =some (some (.fz (dI i)))):∃l',OkL k l'∧EvV Zsa δ (wD l'):=by
 have c:=Q7.mp (Q7.mp (Q7.mp Yab k (QD.mpr hk)) l (Zk7 ho)) i (QD.mpr hi)
 unfold Z79 at c
 split at c
 case h_2=>cases c
 rename_i v hf
 refine⟨v.cps.toList,Z1g c,?_⟩
 have lw:(mkW l).length≤1000000:=by show l.toArray.size≤_;rw[Xr,ho.1];omega
 unfold Z0z at hf
 obtain⟨o,h1,hf⟩:=bs hf
 obtain⟨j,h2,hf⟩:=bs hf
 obtain⟨c2,h3,hf⟩:=bs hf
 obtain⟨x,h4,hf⟩:=bs hf
 exact Zn (Zn (Zii (Za h5) Zrp (Zp1 (Za h8)) lw) (Zcj Z2 (Zbt (Ze (Zcj (Za h5) (Za h8) h1 rfl) Zi) h2) h3 rfl) h4) (Zii (Za h5) (Zp1 (W3 (Za h8) Z2)) Zrp lw) hf
theorem Zu1{k:Nat}{l:List Nat}(hk:k<8)(ho:OkL k l):Zmc "" [.list (l.map λc=>wD [c])]=some (wD l):=by
 have c:=Q7.mp (Q7.mp Z9q k (QD.mpr hk)) l (Zk7 ho)
 rw[Xz]at c
 have c:=c.2
 unfold Z8z at c
 split at c
 case h_2=>cases c
 rename_i v h
 rw[h,of_decide_eq_true c];rfl
noncomputable def eW(c:Int)(vs:List Int)(k:Nat)(ls:List (List Nat))(o4 o5 o6 o7 o8:Option OT):Zf:=[some (.fz (.int c)),some (.fz (Yz vs)),some (.fz (dI k)),some (wsO ls),o4,o5,o6,o7,o8]
theorem Zpf{e:FE}{δ:Zf}{i:Int}(h:EvV e δ (.int i)):e δ=some (.fz (.int i),δ):=by
 obtain⟨t,e1,d1⟩:=h
 rw[e1,Zks d1]
theorem obN{n:Nat}(h:0<n):(n:Int)≠0:=by omega
theorem Zgd{m j:Nat}(hj:j≤9)(hm:m≤40):m+j<50:=Nat.lt_of_le_of_lt (Bu hm hj) (by decide)
theorem Zgi{vs:List Int}{δ:Zf}{m j:Nat}(hl:vs.length=50)(h1:δ[1]? =some (some (.fz (Yz vs))))(h4:δ[4]? =some (some (.fz (dI j))))(hm:m+j<50):EvV (Z9 gIx (Zc 1) (Zb Ja (fC (.int m)) (Zc 4))) δ (.int (vs.getD (m+j) 0)):=by
 have:=Zam (p:=vs) (i:=(m:Int)+(j:Int)) (Za (i:=1) h1) (W3 Z2 (Za (i:=4) h4)) (by omega) (by omega)
 exact this.cast (by rw[show((m:Int)+(j:Int)).toNat=m+j by omega])
theorem Zqv{c:Int}{vs:List Int}{k:Nat}{ls:List (List Nat)}{o4 o7 o8:Option OT}{l:List Nat}{ts:List Int}(hk:k<8)(ho:OkL k l) :
  ∃l' o7' o8',OkL k l'∧Zaz 6 (Zaw (Zc2 (Zc 6)) (gNm 7) (Wu (tV (Zb gGt (Zc 2) (fC (.int 0)))) (Zw (wE (Zb J8 (Zc 7) (Zc 2)) (Wt 8)) (wE Zsa (Wt 5))) fNx)) (eW c vs k ls o4 (some (.fz (wD l))) (some (.nd (ts.map λv=>.fz (.int v)))) o7 o8)= .nx (eW c vs k ls o4 (some (.fz (wD l'))) (some (.fz (Yz ts))) o7' o8'):=by
 refine Exists.elim (Zff (δ:=eW c vs k ls o4 (some (.fz (wD l))) (some (.fz (Yz ts))) o7 o8) (it:=Zc2 (Zc 6)) (g:=gNm 7) (S:=Wu (tV (Zb gGt (Zc 2) (fC (.int 0)))) (Zw (wE (Zb J8 (Zc 7) (Zc 2)) (Wt 8)) (wE Zsa (Wt 5))) fNx)
  (λi δ=>∃l' o7 o8,δ=eW c vs k ls o4 (some (.fz (wD l'))) (some (.fz (Yz ts))) o7 o8∧OkL k l') (Zcf (ds:=ts.map XJ) (Za rfl)) ⟨l,o7,o8,rfl,ho⟩ (λi d δ hd h=>?turn)) λδ' z=>?fin
 case fin=>
  obtain⟨e,l',o7',o8',rfl,h'⟩:=z
  exact⟨l',o7',o8',h',Zig (o:=.nd (ts.map λv=>.fz (.int v))) rfl (by rw[Zle];exact e)⟩
 case turn=>
  obtain⟨l',o7',o8',rfl,h'⟩:=h
  rw[Xm]at hd
  obtain⟨x,_,rfl⟩:=XM.mp hd
  by_cases z:0<k
  ·obtain⟨m,hm,lm⟩:=Wr x z
   obtain⟨l2,h2,e2⟩:=Zxd (δ:=eW c vs k ls o4 (some (.fz (wD l'))) (some (.fz (Yz ts))) (some (.fz (.int x))) (some (.fz (dI m)))) hk h' lm rfl rfl
   exact⟨_,_,rfl,.inl (Wa (Zax (Zm3 (Za rfl) Z2 (decide_eq_true (show(0:Int)<k by omega)))) (Zr (δ':=eW c vs k ls o4 (some (.fz (wD l'))) (some (.fz (Yz ts))) (some (.fz (.int x))) (some (.fz (dI m)))) ((Yb (d:=dI m) ((Wn (Za rfl) (Za rfl) (by omega)).cast (by rw[hm];rfl))).trans rfl) (Yb e2))),l2,_,_,rfl,h2⟩
  ·exact⟨_,_,rfl,.inl (Z1 (Zax (Zm3 (Za rfl) Z2 (decide_eq_false (show¬(0:Int)<k by omega)))) rfl),l',_,_,rfl,h'⟩
theorem Zys{k j:Nat}{ls:List (List Nat)}{l:List Nat}(W:Wds k ls)(hj:j≤ls.length)(hl:l∉ls)(ho:OkL k l)(h10:ls.length≤9):Wds k (Zil ls j l)∧(Zil ls j l).length=ls.length+1∧Zil ((ls.map wD).map OT.fz) j (.fz (wD l))=((Zil ls j l).map wD).map OT.fz:=by
 have pm:(Zil ls j l).Perm (l :: ls):=by
  unfold Zil
  refine List.perm_middle.trans ?_
  rw[List.take_append_drop]
 have le:=pm.length_eq
 rw[JH]at le
 refine⟨⟨W.k8,λx hx=>(Xn.mp (pm.mem_iff.mp hx)).elim (λe=>e▸ho) (W.ok x),pm.nodup_iff.mpr (Qi.mpr ⟨hl,W.nd⟩),by omega,by omega⟩,le,?_⟩
 unfold Zil
 rw[QT,QT,X6,X6,Uz,Uz,List.map_drop,List.map_drop]
noncomputable def Z32:FS:=Zw (wE (Z9 gIx (Za5 3) (Zb J8 (Z9 gIx (Zc 1) (Zb Ja (fC (.int 2)) (Zc 4))) (Jb Zai (Zd (Za5 3) Zk)))) (Zli 5))
  (Zw (wE (Zab (Zd (Z9 gIx (Zc 1) (Zb Ja (fC (.int 12)) (Zc 4))) Zk)) (Jo 6))
  (Zw (Wu (tV (Zb gEq (Zb J8 (Z9 gIx (Zc 1) (Zb Ja (fC (.int 22)) (Zc 4))) (fC (.int 6))) (fC (.int 1))))
  (Yn 6 (Zb J6 (Z9 gIx (Zc 1) (Zb Ja (fC (.int 22)) (Zc 4))) (fC (.int 6))))
  fNx)
  (Zw (Zaz 6 (Zaw (Zc2 (Zc 6)) (gNm 7) (Wu (tV (Zb gGt (Zc 2) (fC (.int 0)))) (Zw (wE (Zb J8 (Zc 7) (Zc 2)) (Wt 8)) (wE Zsa (Wt 5))) fNx)))
  (Wu (tV (Zb (Zfr true) (Zc 5) (Za5 3)))
  (Zdn 3 (Zd (Zb J8 (Z9 gIx (Zc 1) (Zb Ja (fC (.int 32)) (Zc 4))) (Zb Ja (Jb Zai (Zd (Za5 3) Zk)) (fC (.int 1)))) (Zd (Zc 5) Zk)))
  fNx))))
theorem Zwz{c:Int}{vs:List Int}{k j:Nat}{ls:List (List Nat)}{o5 o6 o7 o8:Option OT}(hl:vs.length=50)(W:Wds k ls)(hj:j≤9)(h9:ls.length≤9) :
  ∃ls' o5' o6' o7' o8',Wds k ls'∧ls'.length≤ls.length+1∧Z32 (eW c vs k ls (some (.fz (dI j))) o5 o6 o7 o8)= .nx (eW c vs k ls' (some (.fz (dI j))) o5' o6' o7' o8'):=by
 have l1:=W.l1
 obtain⟨m,hm,lm⟩:=Wr (vs.getD (2+j) 0) l1
 obtain⟨l,hlm⟩:∃l,ls[m]? =some l:=⟨_,Xk lm⟩
 have ol:=W.ok l (QW hlm)
 have own:∀{δ:Zf},δ[3]? =some (some (wsO ls))->EvV (Za5 3) δ (.list (ls.map wD)):=λh=>Ze5 h (Zkv ls)
 have len:∀{δ:Zf},δ[3]? =some (some (wsO ls))->EvV (Jb Zai (Zd (Za5 3) Zk)) δ (.int ls.length):=λh=>(Zal (own h)).cast (by rw[Xg])
 have a1:wE (Z9 gIx (Za5 3) (Zb J8 (Z9 gIx (Zc 1) (Zb Ja (fC (.int 2)) (Zc 4))) (Jb Zai (Zd (Za5 3) Zk)))) (Zli 5) (eW c vs k ls (some (.fz (dI j))) o5 o6 o7 o8)= .nx (eW c vs k ls (some (.fz (dI j))) (some (.fz (wD l))) o6 o7 o8) :=
  (Zxf (Zac (d:=wD l) (i:=(m:Int)) (own rfl) ((Wn (Zgi (m:=2) hl rfl rfl (Zgd hj (by decide))) (len rfl) (obN l1)).cast (by rw[hm])) (Zdm (by rw[Xm,hlm];rfl))) rfl).trans rfl
 have a2:wE (Zab (Zd (Z9 gIx (Zc 1) (Zb Ja (fC (.int 12)) (Zc 4))) Zk)) (Jo 6) (eW c vs k ls (some (.fz (dI j))) (some (.fz (wD l))) o6 o7 o8)= .nx (eW c vs k ls (some (.fz (dI j))) (some (.fz (wD l))) (some (.nd ([vs.getD (12+j) 0].map λv=>.fz (.int v)))) o7 o8) :=
  (Zco (Z77 (Zpf (Zgi (m:=12) hl rfl rfl (Zgd hj (by decide)))))).trans rfl
 obtain⟨ts,a3⟩:∃ts:List Int,(Wu (tV (Zb gEq (Zb J8 (Z9 gIx (Zc 1) (Zb Ja (fC (.int 22)) (Zc 4))) (fC (.int 6))) (fC (.int 1))))
  (Yn 6 (Zb J6 (Z9 gIx (Zc 1) (Zb Ja (fC (.int 22)) (Zc 4))) (fC (.int 6)))) fNx) (eW c vs k ls (some (.fz (dI j))) (some (.fz (wD l))) (some (.nd ([vs.getD (12+j) 0].map λv=>.fz (.int v)))) o7 o8)= .nx (eW c vs k ls (some (.fz (dI j))) (some (.fz (wD l))) (some (.nd (ts.map λv=>.fz (.int v)))) o7 o8):=by
  by_cases q:(vs.getD (22+j) 0).fmod 6=1
  ·exact⟨_,Wa (Zax (Zdq (Wn (Zgi (m:=22) hl rfl rfl (Zgd hj (by decide))) Z2 (by decide)) Z2 (decide_eq_true q))) ((Zhw (vs:=[vs.getD (12+j) 0]) (Zdz (Zgi (m:=22) hl rfl rfl (Zgd hj (by decide))) Z2) rfl (show 1≤1000000 by decide)).trans rfl)⟩
  ·exact⟨_,Z1 (Zax (Zdq (Wn (Zgi (m:=22) hl rfl rfl (Zgd hj (by decide))) Z2 (by decide)) Z2 (decide_eq_false q))) rfl⟩
 obtain⟨l',o7',o8',ol',a4⟩:=Zqv (c:=c) (vs:=vs) (ls:=ls) (o4:=some (.fz (dI j))) (o7:=o7) (o8:=o8) (ts:=ts) W.k8 ol
 have t:=Zax (Zn (g:=Zfr true) (Za (i:=5) (δ:=eW c vs k ls (some (.fz (dI j))) (some (.fz (wD l'))) (some (.fz (Yz ts))) o7' o8') rfl) (own rfl) Z4t)
 by_cases q:l'∈ls
 ·rw[decide_eq_true q]at t
  exact⟨ls,_,_,_,_,W,Nat.le_succ _,Zr a1 (Zr a2 (Zr a3 (Zr a4 (Z1 t rfl))))⟩
 ·rw[decide_eq_false q]at t
  obtain⟨p,hp,lp⟩:=Wr (vs.getD (32+j) 0) (Nat.succ_pos ls.length)
  obtain⟨W',le,em⟩:=Zys W (j:=p) (by omega) q ol' h9
  refine⟨Zil ls p l',some (.fz (wD l')),some (.fz (Yz ts)),o7',o8',W',by omega,Zr a1 (Zr a2 (Zr a3 (Zr a4 (Wa t ((Zpq (k:=p) (ts:=(ls.map wD).map OT.fz) (d:=wD l') (Ze ((Wn (Zgi (m:=32) hl rfl rfl (Zgd hj (by decide))) (W3 (len rfl) Z2) (by omega)).cast ?_) (Ze (Za rfl) Zi)) rfl (by rw[Xg,Xg];omega) (by rw[Xg,Xg];omega)).trans ?_)))))⟩
  ·exact congrArg XJ hp
  ·rw[em];rfl
theorem Zom(x:Int):∃b:Nat,(b=48∨b=49)∧Zfv (.str "01") (.int (x.fmod 2))=some (.fz (wD [b])):=by
 obtain⟨m,hm,lm⟩:=Wr x (n:=2) (by decide)
 have hm:x.fmod 2=m:=hm
 rw[hm]
 rcases(show m=0∨m=1 by omega)with rfl|rfl
 ·exact⟨48,.inl rfl,rfl⟩
 ·exact⟨49,.inr rfl,rfl⟩
theorem Z8c{x k:Nat}{vs:List Int}(hl:vs.length=50)(k8:k<8)(hx:x<k):0≤(40:Int)+x∧(40:Int)+x<vs.length:=by omega
theorem Z9j(x:Nat):((40:Int)+(x:Int)).toNat=40+x:=by omega
theorem b9{i t:Nat}(hi:i<1+t-1)(t10:t<10):1+i≤9:=by omega
theorem Zsl(c:Int):∃k ls,Told Ws [.int c] (.list (ls.map wD))∧Wds k ls:=by
 obtain⟨vs,T,hl⟩:=Zow c
 obtain⟨k,hk,k8⟩:=Wr (vs.getD 0 0) (n:=8) (by decide)
 obtain⟨t,ht,t10⟩:=Wr (vs.getD 1 0) (n:=10) (by decide)
 have hk:(vs.getD 0 0).fmod 8=k:=hk
 have ht:(vs.getD 1 0).fmod 10=t:=ht
 obtain⟨f,hf⟩:∃f:Nat->Nat,∀x,(f x=48∨f x=49)∧Zfv (.str "01") (.int (((vs.getD (40+x) 0).fdiv 7).fmod 2))=some (.fz (wD [f x])):=⟨λx=>Uo (Zom ((vs.getD (40+x) 0).fdiv 7)),λx=>UW (Zom ((vs.getD (40+x) 0).fdiv 7))⟩
 have ol:OkL k ((XX k).map f):=⟨by rw[Xg,Qx],λc hc=>by
  obtain⟨x,_,rfl⟩:=QJ.mp hc
  exact(hf x).1⟩
 have j:Zmc "" [.list ((XX k).map λx=>wD [f x])]=some (wD ((XX k).map f)):=by
  have:=Zu1 k8 ol
  rw[Q5]at this
  exact this
 have cm:∀{δ:Zf},δ[1]? =some (some (.fz (Yz vs)))->δ[2]? =some (some (.fz (dI k)))->blk 1 [1] δ=[none,some (.fz (Yz vs))]->EvV (Jh 1 [1] (iRa (Zd (Zc 2) Zk)) (gNm 0) Zml (Z9 Zfv (fC (.str "01")) (Zb J8 (Zb J6 (Z9 gIx (Zc 1) (Zb Ja (fC (.int 40)) (Zc 0))) (fC (.int 7))) (fC (.int 2))))) δ (.list ((XX k).map λx=>wD [f x])):=λh1 h2 hb=>
  Zjo (cs:=[some (.fz (Yz vs))]) (XX k) dI (λx=>wD [f x]) (by rw[←Zss];exact Zdo (Ze (Za h2) Zi) (Xu (Bo k8) (by decide))) (by rw[Qx];exact Xu (Bo k8) (by decide)) hb λx hx=>by
   have hx:=QD.mp hx
   have e:=Zam (p:=vs) (i:=(40:Int)+(x:Int)) (δ:=[some (.fz (dI x)),some (.fz (Yz vs))]) (Za (i:=1) rfl) (W3 Z2 (Za (i:=0) rfl)) (Z8c hl k8 hx).1 (Z8c hl k8 hx).2
   exact Zcj Z2 (Wn (Zdz (e.cast (by rw[Z9j x])) Z2) Z2 (by decide)) (hf x).2 (OT.data_fz _)
 have key:∃d,Told Ws [.int c] d∧∃ls,d= .list (ls.map wD)∧Wds k ls:=by
  refine Ziz rfl<|Yr (Yb (Yl (Ze (Za rfl) (Ze Z2 (Ze Z2 Zi))) T))<|Yr (Yb (d:=dI k) ((Wn (Zam (p:=vs) (i:=0) (Za rfl) Z2 (by decide) (by rw[hl];decide)) Z2 (by decide)).cast (congrArg XJ hk)))<|
   Yr (δ':=eW c vs k [(XX k).map f] none none none none none) ((Zco (Z77 (Zsr Z2 (Ze (cm rfl rfl rfl) Zi) j))).trans rfl)<|
   Zkb (ds:=Zc7 1 (1+t-1)) (λi δ=>∃ls o4 o5 o6 o7 o8,δ=eW c vs k ls o4 o5 o6 o7 o8∧Wds k ls∧ls.length≤i+1) (Zxu (m:=1) (n:=1+t) (Ze Z2 (Ze ((W3 Z2 (Wn (Zam (p:=vs) (i:=1) (Za rfl) Z2 (by decide) (by rw[hl];decide)) Z2 (by decide))).cast ?_) Zi)) (by decide) (Xu (Nat.add_le_add_left (Bo t10) 1) (by decide)))
   ⟨_,_,_,_,_,_,rfl,⟨k8,λl h=>Xl.mp h▸ol,Qi.mpr ⟨(λz=>nomatch z),.nil⟩,XQ _,show 1≤10 by decide⟩,XQ _⟩ (λi d δ hd h=>?_) λδ' h=>?_
  ·show XJ (1+(vs.getD 1 0).fmod 10)=XJ ((1+t:Nat):Int)
   rw[ht];rfl
  ·obtain⟨ls,o4,o5,o6,o7,o8,rfl,W,le⟩:=h
   obtain⟨hi,e⟩:=Za7 hd
   have e:d=dI (1+i):=e.trans (congrArg XJ (by omega))
   subst e
   obtain⟨ls',p5,p6,p7,p8,W',le',run⟩:=Zwz (c:=c) (o5:=o5) (o6:=o6) (o7:=o7) (o8:=o8) (j:=1+i) hl W (b9 hi t10) (Xu le (Nat.add_comm 1 i▸b9 hi t10))
   exact⟨_,_,rfl,.inl run,ls',_,_,_,_,_,rfl,W',Xu le' (Vh le)⟩
  ·obtain⟨ls,o4,o5,o6,o7,o8,rfl,W,le⟩:=h
   exact Z3u (o:=wsO ls) rfl ⟨ls,Zkv ls,W⟩
 obtain⟨d,T2,ls,rfl,W⟩:=key
 exact⟨k,ls,T2,W⟩
theorem Zqd{e:FE}{δ:Zf}{i:Nat}{ts rs:List OT}{ds:List Xa}(h:e δ=some (.nd rs,δ))(hd:OT.datas rs=ds)(hi:δ[i]? =some (some (.nd ts)))(hl:ts.length+ds.length≤1000000):Za0 i e δ= .nx (δ.set i (some (.nd (ts ++ ds.map OT.fz)))):=by
 unfold Za0
 rw[hi]
 dsimp only
 rw[Zcu,h,Yo,hi]
 dsimp only
 have lr:rs.length=ds.length:=by rw[←hd,Zdd]
 rw[if_pos (by rw[Qe,lr];omega),hd]
theorem Z6b{α:Type}{t:FT}{me:FE}{cs:Zf}(x1 x2:α->Xa)(p:α->Bool)(f:α->OT):∀(xs:List α) (z0 z1:Option OT),(∀x∈xs,t (some (.fz (x1 x)) :: some (.fz (x2 x)) :: cs)=some (p x,some (.fz (x1 x)) :: some (.fz (x2 x)) :: cs))->(∀x∈xs,p x=true->me (some (.fz (x1 x)) :: some (.fz (x2 x)) :: cs)=some (f x,some (.fz (x1 x)) :: some (.fz (x2 x)) :: cs)) ->
  ∃z0' z1',compLoop (gTp 2 (gCn (gNm 0) (gCn (gNm 1) gNl))) t me (xs.map λx=>.tuple [x1 x,x2 x]) (z0 :: z1 :: cs)=some ((xs.filter p).map f,z0' :: z1' :: cs):=by
 intro xs
 induction xs with
 | nil=>exact λz0 z1 _ _=>⟨z0,z1,rfl⟩
 | cons x xs ih=>
  intro z0 z1 ht hm
  obtain⟨y0,y1,e⟩:=ih (some (.fz (x1 x))) (some (.fz (x2 x))) (λy hy=>ht y (.tail _ hy)) λy hy=>hm y (.tail _ hy)
  refine⟨y0,y1,?_⟩
  rw[X6,compLoop]
  show((t (some (.fz (x1 x)) :: some (.fz (x2 x)) :: cs)).bind _)=_
  rw[ht x (.head _),Xe]
  dsimp only
  cases hp:p x with
  | true=>rw[if_pos rfl,hm x (.head _) hp,Xe,Vw hp,X6];dsimp only;rw[e];rfl
  | false=>rw[if_neg Xq,Vx (by rw[hp];exact Xq)];exact e
theorem Ztg{α:Type}{caps:List Nat}{it:FI}{t:FT}{me:FE}{cs δ:Zf}(xs:List α)(x1 x2:α->Xa)(p:α->Bool)(f:α->OT)(hi:EvI it δ (xs.map λx=>.tuple [x1 x,x2 x]))(hz:xs.length≤1000000)(hb:blk 2 caps δ=none :: none :: cs)
  (ht:∀x∈xs,t (some (.fz (x1 x)) :: some (.fz (x2 x)) :: cs)=some (p x,some (.fz (x1 x)) :: some (.fz (x2 x)) :: cs)) (hm:∀x∈xs,p x=true->me (some (.fz (x1 x)) :: some (.fz (x2 x)) :: cs)=some (f x,some (.fz (x1 x)) :: some (.fz (x2 x)) :: cs)) :
  Jh 2 caps it (gTp 2 (gCn (gNm 0) (gCn (gNm 1) gNl))) t me δ=some (.nd ((xs.filter p).map f),δ):=by
 obtain⟨z0,z1,e⟩:=Z6b x1 x2 p f xs none none ht hm
 unfold EvI at hi
 unfold Jh
 rw[hi,Xe]
 dsimp only
 rw[if_pos (by rw[Qe,Xg];omega),hb,e];rfl
noncomputable def unl(a b:List Nat):Nat:=((a.zip b).filter λq=>q.1 !=q.2).length
theorem Z5k{l:List Nat}(h:∀c∈l,c=48∨c=49):Sh 0 (wD l):=⟨by
 show JB (.str (mkW l))=true
 rw[JB]
 unfold Xa.strOk
 rw[Array.all_eq_true_iff_forall_mem]
 intro c m
 rcases h c (List.mem_toArray.mp m)with rfl|rfl<;>rfl,Nat.le_of_eq rfl⟩
theorem Zpp{x y:Nat}(hx:x=48∨x=49)(hy:y=48∨y=49):gNe (wD [x]) (wD [y])=some (.bool (x !=y)):=by
 have s:∀{x:Nat},(x=48∨x=49)->Vz (wD [x])=true:=λh=>((Z5k λc hc=>Xl.mp hc▸h).shp (by omega)).ok
 unfold gNe
 rw[if_pos (by rw[s hx,s hy];rfl)]
 refine congrArg (λb=>some (BP (!b))) ?_
 by_cases c:x=y
 ·subst c
  rw[Zha (show Z5 (wD [x])=true by unfold wD;rw[Z5])]
  exact(beq_self_eq_true x).symm
 ·rw[Ztt (show Z5 (wD [x])=true by unfold wD;rw[Z5]) (show Z5 (wD [y])=true by unfold wD;rw[Z5]) λe=>c (by
   have:=Zah (Vq e)
   exact(Ub this).1)]
  exact(beq_eq_false_iff_ne.mpr c).symm
theorem Zni{k:Nat}{l:List Nat}(h:OkL k l)(hk:k<16):Zav [wD l]=some (.int k):=by
 unfold Zav wD
 show(if(mkW l).length≤Xi then _ else _)=_
 have e:(mkW l).length=k:=by show l.toArray.size=k;rw[Xr,h.1]
 rw[e,if_pos (by rw[Qe];omega)]
theorem Ztp{k i:Nat}{l:List Nat}(h:OkL k l)(hk:k<16)(hi:i<k):Zfv (wD l) (dI i)=some (.fz (wD [l.getD i 0])):=by
 show(if(mkW l).length≤Xi then _ else _)=_
 have e:(mkW l).length=k:=by show l.toArray.size=k;rw[Xr,h.1]
 rw[e,if_pos (by rw[Qe];omega)]
 have hl:i<l.length:=by rw[h.1];exact hi
 have a:atI (mkW l).cps.toList (i:Int)=some (l.getD i 0):=Zdm (by show l[i]? =_;rw[Xk hl,Qn,Xk hl];rfl)
 rw[a];rfl
theorem Zng{k i:Nat}{l:List Nat}(h:OkL k l)(hi:i<k):l.getD i 0=48∨l.getD i 0=49:=by
 have hl:i<l.length:=by rw[h.1];exact hi
 rw[Qn,Xk hl]
 exact h.2 _ (VR hl)
theorem Znv{k:Nat}{a b:List Nat}(ha:OkL k a)(hb:OkL k b)(hk:k<16):Told Yx [wD a,wD b] (.int (unl a b)):=by
 have zl:(a.zip b).length≤15:=by rw[BW,ha.1,hb.1,Nat.min_self];omega
 have z:EvI (Zph (Zd (Zc 0) (Zd (Zc 1) Zk))) (Y9 2 [wD a,wD b]) ((a.zip b).map λq=>.tuple [wD [q.1],wD [q.2]]):=by
  have e:Zjc (Zau (mkW a)) (Zau (mkW b))=(a.zip b).map λq=>.tuple [wD [q.1],wD [q.2]]:=by
   show((a.map λc=>wD [c]).zip (b.map λc=>wD [c])).map _=_
   rw[List.zip_map,Q5];rfl
  rw[←e];rfl
 refine Wb rfl (Zbk ((Zal (ds:=((a.zip b).filter λq=>q.1 !=q.2).map λq=>wD [q.1]) ⟨_,Ztg (cs:=[]) (a.zip b) (λq=>wD [q.1]) (λq=>wD [q.2]) (λq=>q.1 !=q.2) (λq=>.fz (wD [q.1])) z (by omega) rfl (λq hq=>?_) λq _ _=>rfl,?_⟩).cast (by rw[Xg];rfl)))
 ·obtain⟨h1,h2⟩:=List.of_mem_zip hq
  exact Zax (Zn (Za rfl) (Za rfl) (Zpp (ha.2 _ h1) (hb.2 _ h2)))
 ·rw[OT.data_nd,Zdy]
theorem Zm8{a b:List Nat}{k:Nat}(ha:a.length=k)(hb:b.length=k):a.zip b=(XX k).map λi=>(a.getD i 0,b.getD i 0):=by
 refine List.ext_getElem? λi=>?_
 rw[Xm]
 by_cases c:i<k
 ·rw[BL c,Xk (by rw[BW];omega),List.getElem_zip]
  show _=some (a.getD i 0,b.getD i 0)
  rw[Qn,Xk (by omega),Qn,Xk (by omega)];rfl
 ·rw[List.getElem?_eq_none (by rw[BW];omega),List.getElem?_eq_none (by rw[Qx];omega)];rfl
theorem Zhz{k:Nat}{a b:List Nat}(ha:OkL k a)(hb:OkL k b)(hk:k<16):Told Wm [wD a,wD b] (.int (unl a b)):=by
 refine Wb rfl (Zbk ((Zal (Zru (cs:=[some (.fz (wD a)),some (.fz (wD b))]) (XX k) dI (λi=>a.getD i 0 !=b.getD i 0) ?_ (by rw[Qx];omega) rfl (λi hi=>?_) λi _ _=>rfl)).cast ?_))
 ·rw[←Zss]
  exact Zdo (Ze (Zbt (Ze (Za rfl) Zi) (Zni ha hk)) Zi) (by omega)
 ·have hi:=QD.mp hi
  exact Zax (Zn (Zcj (Za (i:=1) rfl) (Za (i:=0) rfl) (Ztp ha hk hi) (OT.data_fz _)) (Zcj (Za (i:=2) rfl) (Za (i:=0) rfl) (Ztp hb hk hi) (OT.data_fz _)) (Zpp (Zng ha hi) (Zng hb hi)))
 ·unfold unl
  rw[Xg,Zm8 ha.1 hb.1,List.filter_map,Xg];rfl
structure Wgd(k:Nat)(ls:List (List Nat)):Prop where
 k16:k<16
 ok:∀l∈ls,OkL k l
 nd:ls.Nodup
 l1:1≤ls.length
 l10:ls.length≤10
noncomputable def isR(ls:List (List Nat))(p:Nat×Nat):Bool:=decide (unl (ls.getD p.1 []) (ls.getD p.2 [])=1)
noncomputable def rsW(ls:List (List Nat)):List (Nat×Nat):=(Zea ls.length).filter (isR ls)
theorem Zgn:∀n<11,((Zea n).length≤100∧(Zea n).Pairwise λr r'=>ltI (rI r) (rI r')=true):=by decide +kernel
theorem Zug{α:Type}{P:α->α->Prop}{xs:List α}(h:xs.Pairwise P){i:Nat}{a b:α}(ha:xs[i]? =some a)(hb:xs[i+1]? =some b):P a b:=by
 obtain⟨h1,e1⟩:=Xv.mp ha
 obtain⟨h2,e2⟩:=Xv.mp hb
 have:=Uu.mp h i (i+1) h1 h2 (BR _)
 rw[e1,e2]at this
 exact this
theorem Zhu{k:Nat}{ls:List (List Nat)}(W:Wgd k ls):Roads ls.length (rsW ls):=by
 obtain⟨h1,h2⟩:=Zgn ls.length (Nat.lt_succ_of_le W.l10)
 refine⟨W.l1,W.l10,λr hr=>Zgp (List.mem_filter.mp hr).1,λi r r' ha hb=>Zug (List.Pairwise.filter _ h2) ha hb,?_⟩
 have:(rsW ls).length≤(Zea ls.length).length:=List.length_filter_le _ _
 omega
theorem Zez{k:Nat}{ls:List (List Nat)}(W:Wgd k ls){i:Nat}(hi:i<ls.length):OkL k (ls.getD i [])∧atI (ls.map wD) (i:Int)=some (wD (ls.getD i [])):=by
 have e:ls.getD i []=ls[i]:=by rw[Qn,Xk hi];rfl
 rw[e]
 exact⟨W.ok _ (VR hi),Zdm (by rw[Xm,Xk hi];rfl)⟩
theorem Zik{k:Nat}{ls:List (List Nat)}(W:Wgd k ls):Told Jr [.list (ls.map wD)] (.list ((rsW ls).map ptD)):=by
 have l10:=W.l10
 have len:∀{δ:Zf} {i:Nat},δ[i]? =some (some (.fz (.list (ls.map wD))))->EvV (Jb Zai (Zd (Zc i) Zk)) δ (.int ls.length):=λh=>(Zal (Za h)).cast (by rw[Xg])
 refine Wb rfl<|Zak Zd6<|Ziq (ds:=Zc7 0 ls.length) (λi δ=>∃z,δ=[some (.fz (.list (ls.map wD))),some (.nd ((((Zcp ls.length i).filter (isR ls)).map ptD).map OT.fz)),z]) (Zdo (Ze (len rfl) Zi) (by omega)) ⟨_,rfl⟩ (λi d δ hd h=>?_) λδ' h=>?_
 ·obtain⟨z,rfl⟩:=h
  obtain⟨hi,e⟩:=Za7 hd
  rw[Int.zero_add]at e
  subst e
  have hi2:EvI (iRb (Zd (Zb Ja (Zc 2) (fC (.int 1))) (Zd (Jb Zai (Zd (Zc 0) Zk)) Zk))) [some (.fz (.list (ls.map wD))),some (.nd ((((Zcp ls.length i).filter (isR ls)).map ptD).map OT.fz)),some (.fz (dI i))] ((XX (ls.length-(i+1))).map λj=>dI (i+1+j)):=by
   have:=Zxu (m:=i+1) (n:=ls.length) (δ:=[some (.fz (.list (ls.map wD))),some (.nd ((((Zcp ls.length i).filter (isR ls)).map ptD).map OT.fz)),some (.fz (dI i))]) (as:=Zd (Zb Ja (Zc 2) (fC (.int 1))) (Zd (Jb Zai (Zd (Zc 0) Zk)) Zk)) (Ze ((W3 (Za rfl) Z2).cast (congrArg XJ (by omega))) (Ze (len rfl) Zi)) (by omega) (by omega)
   refine this.trans (congrArg (λl=>some (l,_)) ?_)
   exact QR λj _=>congrArg XJ (by omega)
  have cmp:=Zfh (δ:=[some (.fz (.list (ls.map wD))),some (.nd ((((Zcp ls.length i).filter (isR ls)).map ptD).map OT.fz)),some (.fz (dI i))]) (δ1:=[some (.fz (.list (ls.map wD))),some (.nd ((((Zcp ls.length i).filter (isR ls)).map ptD).map OT.fz)),some (.fz (dI i))]) (caps:=[2,0]) (cs:=[some (.fz (dI i)),some (.fz (.list (ls.map wD)))])
   (t:=tV (Zb gEq (Ys Wm (Zd (Z9 gIx (Zc 2) (Zc 1)) (Zd (Z9 gIx (Zc 2) (Zc 0)) Zk))) (fC (.int 1)))) (me:=Zku (Zd (Zc 1) (Zd (Zc 0) Zk)))
   (XX (ls.length-(i+1))) (λj=>dI (i+1+j)) (λj=>isR ls (i,i+1+j)) (λj=>.fz (ptD (i,i+1+j))) hi2 (by rw[Qe,Qx];omega) rfl (λj hj=>by
    have hj:=QD.mp hj
    obtain⟨o1,a1⟩:=Zez W (i:=i) hi
    obtain⟨o2,a2⟩:=Zez W (i:=i+1+j) (by omega)
    refine Zax ((Zdq (Yl (Ze (Zac (Za (i:=2) rfl) (Za (i:=1) rfl) a1) (Ze (Zac (Za (i:=2) rfl) (Za (i:=0) rfl) a2) Zi)) (Zhz o1 o2 W.k16)) Z2 rfl).cast (congrArg BP ?_))
    show decide (((unl (ls.getD i []) (ls.getD (i+1+j) []):Nat):Int)=1)=decide (unl (ls.getD i []) (ls.getD (i+1+j) [])=1)
    exact decide_eq_decide.mpr ⟨λh=>by omega,λh=>by omega⟩) λj _ _=>rfl
  have l2:(Zcp ls.length i).length≤1000:=Xu (Zeq _ _) (Xu (Nat.mul_le_mul (Bo (X5 hi l10)) l10) (by decide))
  have l3:=List.length_filter_le (isR ls) (Zcp ls.length i)
  have l4:=List.length_filter_le (λj=>isR ls (i,i+1+j)) (XX (ls.length-(i+1)))
  rw[Qx]at l4
  refine⟨_,_,rfl,.inl (Zqd (ds:=((XX (ls.length-(i+1))).filter λj=>isR ls (i,i+1+j)).map λj=>ptD (i,i+1+j)) cmp ?_ rfl ?_),some (.fz (dI i)),?_⟩
  ·rw[datas_map,Zdy]
  ·rw[Xg,Xg,Xg];omega
  ·show[_,some (OT.nd _),_]=[_,some (OT.nd _),_]
   have e2:(((XX (ls.length-(i+1))).filter (isR ls∘ λj=>(i,i+1+j))).map λj=>(i,i+1+j)).map ptD=((XX (ls.length-(i+1))).filter λj=>isR ls (i,i+1+j)).map λj=>ptD (i,i+1+j):=by rw[Q5];rfl
   rw[Zgh,List.filter_append,List.filter_map,QT,QT,e2];rfl
 ·obtain⟨z,rfl⟩:=h
  refine Zub rfl ?_
  rw[OT.data_nd,OT.map_fz,Jy];rfl
theorem Z0n(l:List Nat):l.countP (·==48)+l.countP (·==49)=l.countP λc=>c==48||c==49:=by
 induction l with
 | nil=>rfl
 | cons x l ih=>
  rw[List.countP_cons,List.countP_cons,List.countP_cons,←ih]
  by_cases a:x=48
  ·rw[if_pos (beq_iff_eq.mpr a),if_neg (by rw[a];decide),if_pos (by rw[a];rfl),Nat.succ_add];rfl
  ·have a':(x==48)=false:=beq_eq_false_iff_ne.mpr a
   by_cases b:x=49
   ·rw[if_neg (by rw[a'];decide),if_pos (beq_iff_eq.mpr b),if_pos (by rw[b];rfl)];rfl
   ·have b':(x==49)=false:=beq_eq_false_iff_ne.mpr b
    rw[if_neg (by rw[a'];decide),if_neg (by rw[b'];decide),if_neg (by rw[a',b'];decide)];rfl
theorem Zzt(l:List Nat):l.countP (·==48)+l.countP (·==49)≤l.length∧(l.countP (·==48)+l.countP (·==49)=l.length↔∀c∈l,c=48∨c=49):=by
 rw[Z0n]
 refine⟨List.countP_le_length,List.countP_eq_length.trans ⟨λh c hc=>?_,λh c hc=>?_⟩⟩
 ·rcases Bool.or_eq_true_iff.mp (h c hc)with q|q
  ·exact .inl (beq_iff_eq.mp q)
  ·exact .inr (beq_iff_eq.mp q)
 ·rcases h c hc with q|q<;>rw[q]<;>rfl
theorem Zkr{m:Nat}{l:List Nat}(hl:l.length≤100):∃b,Told Y5 [wD l,dI m] (.bool b)∧(b=true↔OkL m l):=by
 have ll:Zav [wD l]=some (.int l.length):=by
  show(if(mkW l).length≤Xi then _ else _)=_
  have e:(mkW l).length=l.length:=Xr ..
  rw[e,if_pos (by rw[Qe];omega)]
 have ct:∀{δ:Zf} {c:Nat},δ[0]? =some (some (.fz (wD l)))->EvV (Zuf Zd2 (Zc 0) (Zd (fC (.str ⟨#[c]⟩)) Zk)) δ (.int ((l.countP (·==c):Nat):Int)):=λh=>⟨_,Zsr (Za h) (Ze Z2 Zi) (Zrc l _),OT.data_fz _⟩
 have e1:EvV (Zb gEq (Jb Zav (Zd (Zc 0) Zk)) (Zc 1)) (Y9 2 [wD l,dI m]) (.bool (decide ((l.length:Int)=m))):=Zdq (Zbt (Ze (Za rfl) Zi) ll) (Za rfl) rfl
 obtain⟨c1,c2⟩:=Zzt l
 by_cases h:l.length=m
 ·rw[decide_eq_true (by omega)]at e1
  refine⟨_,Wb rfl (Zbk (Zqx e1 (Zdq (W3 (ct (c:=48) rfl) (ct (c:=49) rfl)) (Za rfl) rfl))),?_⟩
  rw[decide_eq_true_iff]
  constructor
  ·exact λq=>⟨h,c2.mp (by omega)⟩
  ·exact λq=>by have:=c2.mpr q.2;omega
 ·rw[decide_eq_false (by omega)]at e1
  exact⟨false,Wb rfl (Zbk (Zrg e1)),(λz=>nomatch z),λq=>absurd q.1 h⟩
theorem Zlz{k:Nat}{l:List Nat}(ho:OkL k l)(hk:k<16):Told Y5 [wD l,dI k] (.bool true):=by
 obtain⟨b,T,h⟩:=Zkr (m:=k) (l:=l) (by rw[ho.1];omega)
 rwa[h.mpr ho]at T
theorem Zmx(ls:List (List Nat)):Zf0 (ls.map wD)=some (ls.map mkW):=by
 have:=Zip (ls.map mkW)
 rw[Q5]at this
 exact this
theorem Zce{k:Nat}{ls:List (List Nat)}(W:Wgd k ls):Told Yh [.list (ls.map wD)] .none:=by
 have l10:=W.l10
 have l1:=W.l1
 have len:∀{δ:Zf},δ[0]? =some (some (.fz (.list (ls.map wD))))->EvV (Jb Zai (Zd (Zc 0) Zk)) δ (.int ls.length):=λh=>(Zal (Za h)).cast (by rw[Xg])
 have nd:(ls.map mkW).Nodup:=List.pairwise_map.mpr (W.nd.imp λh e=>h (Zah e))
 have ss:Ze0 [.list (ls.map wD)]=some (.int ls.length):=by
  show((Zf0 (ls.map wD)).bind λts=>if ts.length<4095 then some (XJ (Zho ts).length)else none)=_
  rw[Zmx,Xe,if_pos (by rw[Xg];omega),Zgq nd,Xg]
 have ls1:EvV (Zcy (Zd (Zc 0) Zk)) (Y9 2 [.list (ls.map wD)]) (.int ls.length):=by
  refine⟨.fz (.int ls.length),?_,OT.data_fz _⟩
  show(Ze0 [.list (ls.map wD)]).bind _=_
  rw[ss];rfl
 obtain⟨o0,a0⟩:=Zez W (i:=0) (by omega)
 refine Exists.elim (Zff (δ:=[some (.fz (.list (ls.map wD))),none]) (it:=Zc2 (Zc 0)) (g:=gNm 1) (S:=Wu (tNo (tD (Ys Y5 (Zd (Zc 1) (Zd (Jb Zav (Zd (Z9 gIx (Zc 0) (fC (.int 0))) Zk)) Zk))))) (Zae "NoWeb") fNx)
  (λi δ=>∃z,δ=[some (.fz (.list (ls.map wD))),z]) (Zcf (ds:=ls.map wD) (Za rfl)) ⟨_,rfl⟩ (λi d δ hd h=>?turn)) λδ' z=>?fin
 case turn=>
  obtain⟨z,rfl⟩:=h
  rw[Xm]at hd
  obtain⟨l,hl,rfl⟩:=XM.mp hd
  exact⟨_,_,rfl,.inl (Z1 (Zgz (p:=true) (Zj4 (Yl (Ze (Za rfl) (Ze (Zbt (Ze (Zac (Za rfl) Z2 a0) Zi) (Zni o0 W.k16)) Zi)) (Zlz (W.ok l (QW hl)) W.k16)))) rfl),some (.fz (wD l)),rfl⟩
 case fin=>
  obtain⟨e,z,rfl⟩:=z
  exact Zi6 rfl (Zr (Z1 (Zrx (Zgz (p:=true) (Zj4 (Yl (Ze (len rfl) Zi) (Zao l1 l10)))) (Zax (Zg4 ls1 (len rfl) (decide_eq_false (Int.lt_irrefl _))))) rfl) e)
noncomputable def wwO(ls:List (List Nat)):OT:=.tp [.fz (dI ls.length),.nd (((rsW ls).map ptD).map OT.fz)]
theorem Zs4{k:Nat}{ls:List (List Nat)}(W:Wgd k ls):wE (Jh 2 [0] (Zc2 (Ys W0 (Zd (Zc 1) Zk))) (gTp 2 (gCn (gNm 0) (gCn (gNm 1) gNl))) (tV (Zb gEq (Ys Yx (Zd (Z9 gIx (Zc 2) (Zc 0)) (Zd (Z9 gIx (Zc 2) (Zc 1)) Zk))) (fC (.int 1)))) (Zku (Zd (Zc 0) (Zd (Zc 1) Zk)))) (Jo 2) [some (.fz (.list (ls.map wD))),some (.fz (dI ls.length)),none]= .nx [some (.fz (.list (ls.map wD))),some (.fz (dI ls.length)),some (.nd (((rsW ls).map ptD).map OT.fz))]:=by
 obtain⟨h1,_⟩:=Zgn ls.length (Nat.lt_succ_of_le W.l10)
 have l10:=W.l10
 refine(Zco (Ztg (cs:=[some (.fz (.list (ls.map wD)))]) (Zea ls.length) (λp=>dI p.1) (λp=>dI p.2) (isR ls) (λp=>.fz (ptD p)) (Zcf (Yl (Ze (Za rfl) Zi) (Zjh _ (by omega)))) (by omega) rfl (λp hp=>?_) λp _ _=>rfl)).trans ?_
 ·obtain⟨p1,p2⟩:=Zgp hp
  obtain⟨o1,a1⟩:=Zez W (i:=p.1) (by omega)
  obtain⟨o2,a2⟩:=Zez W (i:=p.2) p2
  refine Zax ((Zdq (Yl (Ze (Zac (Za (i:=2) rfl) (Za (i:=0) rfl) a1) (Ze (Zac (Za (i:=2) rfl) (Za (i:=1) rfl) a2) Zi)) (Znv o1 o2 W.k16)) Z2 rfl).cast (congrArg BP ?_))
  exact decide_eq_decide.mpr ⟨λh=>by omega,λh=>by omega⟩
 ·rw[Q5];rfl
theorem Z5r{k:Nat}{ls:List (List Nat)}(W:Wgd k ls)(hc:Z0r ls.length (rsW ls)):Zo [.list (ls.map wD)]= .ok (wwO ls):=by
 obtain⟨d,T⟩:=Zjb (Zhu W) hc
 have e:Yv (Y9 3 [.list (ls.map wD)])= .rt (wwO ls) [some (.fz (.list (ls.map wD))),some (.fz (dI ls.length)),none] :=
  Zr (Zx0 (Ze (Za rfl) Zi) (Zce W) λ_ _=>rfl)<|Zr (Yb (d:=dI ls.length) ((Zal (Za rfl)).cast (by rw[Xg];rfl)))<|Zr (Zs4 W)<|Zr (Zx0 (Ze (Za rfl) (Ze (Ze5 rfl (by rw[OT.data_nd,OT.map_fz])) Zi)) T λ_ _=>rfl) rfl
 unfold Zo
 rw[Zhm (show[Ul (ls.map wD)].length=1 from rfl),e,Zqe]
theorem Z4a{k:Nat}{ls:List (List Nat)}(W:Wgd k ls)(hc:¬Z0r ls.length (rsW ls)):Zo [.list (ls.map wD)]= .exn "NoWeb" :=
 Zbx rfl (Zr (Zx0 (Ze (Za rfl) Zi) (Zce W) λ_ _=>rfl)<|Zr (Yb (d:=dI ls.length) ((Zal (Za rfl)).cast (by rw[Xg];rfl)))<|Zr (Zs4 W)<|Zar (Zja (Ze (Za rfl) (Ze (Ze5 rfl (by rw[OT.data_nd,OT.map_fz])) Zi)) (Zj3 (Zhu W) hc)))
theorem Zvo:∀(xs ks:List Str),(xs.foldl stS ks).length≤ks.length+xs.length∧((xs.foldl stS ks).length=ks.length+xs.length->ks.Nodup->(ks ++ xs).Nodup):=by
 intro xs
 induction xs with
 | nil=>exact λks=>⟨XQ _,λ_ h=>by rw[XR];exact h⟩
 | cons x xs ih=>
  intro ks
  obtain⟨i1,i2⟩:=ih (stS ks x)
  have sl:=Zn6 ks x
  rw[V2,JH]
  refine⟨by omega,λh hd=>?_⟩
  by_cases c:x∈ks
  ·have e:stS ks x=ks:=if_pos c
   rw[e]at i1
   rw[e]at h
   omega
  ·have e:stS ks x=ks ++ [x]:=if_neg c
   rw[e]at i2
   rw[e]at h
   have:=i2 (by rw[h,Xo];show ks.length+(xs.length+1)=ks.length+1+xs.length;omega) (Bf.mpr ⟨hd,Qi.mpr ⟨(λz=>nomatch z),.nil⟩,λa ha b hb q=>c (by rw[←Xl.mp hb,←q];exact ha)⟩)
   rw[QH]at this
   exact this
theorem Zyr{xs:List Str}(h:¬xs.Nodup):(Zho xs).length<xs.length:=by
 obtain⟨i1,i2⟩:=Zvo xs []
 refine Nat.lt_of_le_of_ne (by unfold Zho;have:(xs.foldl stS []).length≤0+xs.length:=i1;omega) λe=>h ?_
 exact i2 (by show _=0+xs.length;rw[Nat.zero_add];exact e) .nil
theorem Zry{g:FG}{u:FS}{c:Str}{I:Zf->Prop}{P:Xa->Prop}:∀(ds:List Xa) (δ:Zf),I δ->(∀d∈ds,∀δ,I δ->∃δ1,g d δ=some δ1∧((P d∧∃δ2,u δ1= .nx δ2∧I δ2)∨(¬P d∧∃δ2,u δ1= .ex c δ2))) ->
  ((∀ d∈ds,P d)∧∃δ',forLoop g u ds δ= .nx δ'∧I δ')∨((¬∀d∈ds,P d)∧∃δ',forLoop g u ds δ= .ex c δ'):=by
 intro ds
 induction ds with
 | nil=>exact λδ h _=>.inl ⟨λd hd=>(nomatch hd),δ,rfl,h⟩
 | cons d ds ih=>
  intro δ h t
  obtain⟨δ1,hg,h1|h1⟩:=t d (.head _) δ h
  ·obtain⟨p,δ2,hu,h2⟩:=h1
   have e:forLoop g u (d :: ds) δ=forLoop g u ds δ2:=by
    rw[forLoop,hg]
    dsimp only
    rw[hu]
   rcases ih δ2 h2 (λd hd=>t d (.tail _ hd))with⟨q,δ',r,i⟩|⟨q,δ',r⟩
   ·exact .inl ⟨λx hx=>(Xn.mp hx).elim (λz=>z▸p) (q x),δ',e.trans r,i⟩
   ·exact .inr ⟨λz=>q λx hx=>z x (.tail _ hx),δ',e.trans r⟩
  ·obtain⟨p,δ2,hu⟩:=h1
   exact .inr ⟨λz=>p (z d (.head _)),δ2,Ztk hg hu⟩
theorem Zpk{f g:Int->Int->Bool}{a b c:FE}{δ:Zf}{i j k:Int}(ha:EvV a δ (.int i))(hb:EvV b δ (.int j))(hc:EvV c δ (.int k)):EvV (Zeb f g a b c) δ (.bool (f i j&&g j k)):=by
 cases h:f i j with
 | true=>
  obtain⟨_,e1,d1⟩:=ha
  obtain⟨_,e2,d2⟩:=hb
  obtain⟨_,e3,d3⟩:=hc
  refine⟨.fz (.bool (g j k)),?_,OT.data_fz _⟩
  unfold Zeb
  rw[e1,Xe,e2,Xe]
  dsimp only
  rw[d1,d2]
  dsimp only
  rw[if_pos h,e3,Xe,d3]
 | false=>
  obtain⟨_,e1,d1⟩:=ha
  obtain⟨_,e2,d2⟩:=hb
  refine⟨.fz (.bool false),?_,OT.data_fz _⟩
  unfold Zeb
  rw[e1,Xe,e2,Xe]
  dsimp only
  rw[d1,d2]
  dsimp only
  rw[if_neg (by rw[h];exact Xq)]
theorem Zj5(n:Nat):Told Zv [dI n] (.bool (decide (1≤n∧n≤10))):=by
 refine Wb rfl (Zbk ((Zpk Z2 (Za rfl) Z2).cast (congrArg BP ?_)))
 show(decide ((1:Int)≤n)&&decide ((n:Int)≤10))=_
 rw[←Bool.decide_and]
 exact decide_eq_decide.mpr ⟨λh=>by omega,λh=>by omega⟩
structure Bds(ls:List (List Nat)):Prop where
 n:ls.length≤100
 l:∀l∈ls,l.length≤15∧∀c∈l,c<128
structure Srt(ls:List (List Nat)):Prop where
 n1:1≤ls.length
 n10:ls.length≤10
 nd:ls.Nodup
 ok:∀l∈ls,OkL (ls.getD 0 []).length l
theorem Srt.wgd{ls:List (List Nat)}(B:Bds ls)(h:Srt ls):Wgd (ls.getD 0 []).length ls:=by
 refine⟨?_,h.ok,h.nd,h.n1,h.n10⟩
 have n1:=h.n1
 have e:ls.getD 0 []=ls[0]:=by rw[Qn,Xk (by omega)];rfl
 rw[e]
 have:=(B.l _ (VR (show 0<ls.length by omega))).1
 omega
theorem Zi5{ls:List (List Nat)}(B:Bds ls)(h:¬Srt ls):Yh [.list (ls.map wD)]= .exn "NoWeb" :=by
 have bn:=B.n
 have len:∀{δ:Zf},δ[0]? =some (some (.fz (.list (ls.map wD))))->EvV (Jb Zai (Zd (Zc 0) Zk)) δ (.int ls.length):=λh=>(Zal (Za h)).cast (by rw[Xg])
 have pc:=Zgz (Zj4 (Yl (δ:=Y9 2 [.list (ls.map wD)]) (as:=Zd (Jb Zai (Zd (Zc 0) Zk)) Zk) (Ze (len rfl) Zi) (Zj5 ls.length)))
 by_cases c1:1≤ls.length∧ls.length≤10
 ·rw[decide_eq_true c1]at pc
  have ss:Ze0 [.list (ls.map wD)]=some (.int (Zho (ls.map mkW)).length):=by
   show((Zf0 (ls.map wD)).bind λts=>if ts.length<4095 then some (XJ (Zho ts).length)else none)=_
   rw[Zmx,Xe,if_pos (by rw[Xg];omega)]
  have ls1:EvV (Zcy (Zd (Zc 0) Zk)) (Y9 2 [.list (ls.map wD)]) (.int (Zho (ls.map mkW)).length):=by
   refine⟨.fz (.int (Zho (ls.map mkW)).length),?_,OT.data_fz _⟩
   show(Ze0 [.list (ls.map wD)]).bind _=_
   rw[ss];rfl
  by_cases c2:ls.Nodup
  ·have nd:(ls.map mkW).Nodup:=List.pairwise_map.mpr (c2.imp λh e=>h (Zah e))
   have e0:ls.getD 0 []=ls[0]:=by rw[Qn,Xk (by omega)];rfl
   have a0:atI (ls.map wD) ((0:Nat):Int)=some (wD (ls.getD 0 [])):=Zdm (by rw[e0,Xm,Xk (by omega)];rfl)
   have l0:Zav [wD (ls.getD 0 [])]=some (dI (ls.getD 0 []).length):=by
    show(if(mkW (ls.getD 0 [])).length≤Xi then _ else _)=_
    have e:(mkW (ls.getD 0 [])).length=(ls.getD 0 []).length:=Xr ..
    have:=(B.l _ (VR (show 0<ls.length by omega))).1
    rw[e,if_pos (by rw[Qe,e0];omega)];rfl
   rw[Zgq nd,Xg]at ls1
   have first:(Wu (tO (tNo (tD (Ys Zv (Zd (Jb Zai (Zd (Zc 0) Zk)) Zk)))) (tV (Zb gLt (Zcy (Zd (Zc 0) Zk)) (Jb Zai (Zd (Zc 0) Zk))))) (Zae "NoWeb") fNx) (Y9 2 [.list (ls.map wD)])= .nx (Y9 2 [.list (ls.map wD)]):=Z1 (Zrx pc (Zax (Zg4 ls1 (len rfl) (decide_eq_false (Int.lt_irrefl _))))) rfl
   rcases Zry (g:=gNm 1) (u:=Wu (tNo (tD (Ys Y5 (Zd (Zc 1) (Zd (Jb Zav (Zd (Z9 gIx (Zc 0) (fC (.int 0))) Zk)) Zk))))) (Zae "NoWeb") fNx) (c :="NoWeb") (I:=λδ=>∃z,δ=[some (.fz (.list (ls.map wD))),z]) (P:=λd=>∃l,d=wD l∧OkL (ls.getD 0 []).length l) (ls.map wD) (Y9 2 [.list (ls.map wD)]) ⟨_,rfl⟩ (λd hd δ hI=>by
    obtain⟨z,rfl⟩:=hI
    obtain⟨l,hl,rfl⟩:=QJ.mp hd
    obtain⟨b,T,hb⟩:=Zkr (m:=(ls.getD 0 []).length) (l:=l) (by have:=(B.l l hl).1;omega)
    have t:=Zgz (Zj4 (Yl (δ:=[some (.fz (.list (ls.map wD))),some (.fz (wD l))]) (as:=Zd (Zc 1) (Zd (Jb Zav (Zd (Z9 gIx (Zc 0) (fC (.int 0))) Zk)) Zk)) (Ze (Za rfl) (Ze (Zbt (Ze (Zac (Za rfl) Z2 a0) Zi) l0) Zi)) T))
    cases b with
    | true=>exact⟨_,rfl,.inl ⟨⟨l,rfl,hb.mp rfl⟩,_,Z1 t rfl,_,rfl⟩⟩
    | false=>exact⟨_,rfl,.inr ⟨λq=>by
      obtain⟨l',e,o⟩:=q
      rw[←Zah (Vq e)]at o
      exact Xq (hb.mpr o),_,Wa t rfl⟩⟩)with⟨q,_⟩|⟨_,δ',r⟩
   ·refine absurd ⟨c1.1,c1.2,c2,λl hl=>?_⟩ h
    obtain⟨l',e,o⟩:=q (wD l) (QJ.mpr ⟨l,hl,rfl⟩)
    rw[Zah (Vq e)];exact o
   ·exact Zbx rfl (Zr first (Zch (Zcf (Za rfl)) r))
  ·have nd:¬(ls.map mkW).Nodup:=λz=>c2 ((List.pairwise_map.mp z).imp λh e=>h (by rw[e]))
   have:=Zyr nd
   rw[Xg]at this
   exact Zbx rfl (Zar (Wa (Zrx pc (Zax (Zg4 ls1 (len rfl) (decide_eq_true (by omega))))) rfl))
 ·rw[decide_eq_false c1]at pc
  exact Zbx rfl (Zar (Wa (Zpz pc) rfl))
theorem Z06{ls:List (List Nat)}(B:Bds ls)(h:¬Srt ls):Zo [.list (ls.map wD)]= .exn "NoWeb" :=
 Zbx rfl (Zar (Zja (Ze (Za rfl) Zi) (Zi5 B h)))
theorem Ziv{g:FG}{u:FS}{I:Zf->Prop}{P:Xa->Prop}:∀(ds:List Xa) (δ:Zf),I δ->(∀d∈ds,∀δ,I δ->∃δ1,g d δ=some δ1∧((P d∧∃δ2,u δ1= .nx δ2∧I δ2)∨(¬P d∧∃o δ2,u δ1= .rt o δ2∧o.data= .bool false))) ->
  ((∀ d∈ds,P d)∧∃δ',forLoop g u ds δ= .nx δ'∧I δ')∨((¬∀d∈ds,P d)∧∃o δ',forLoop g u ds δ= .rt o δ'∧o.data= .bool false):=by
 intro ds
 induction ds with
 | nil=>exact λδ h _=>.inl ⟨λd hd=>(nomatch hd),δ,rfl,h⟩
 | cons d ds ih=>
  intro δ h t
  obtain⟨δ1,hg,h1|h1⟩:=t d (.head _) δ h
  ·obtain⟨p,δ2,hu,h2⟩:=h1
   have e:forLoop g u (d :: ds) δ=forLoop g u ds δ2:=by
    rw[forLoop,hg]
    dsimp only
    rw[hu]
   rcases ih δ2 h2 (λd hd=>t d (.tail _ hd))with⟨q,δ',r,i⟩|⟨q,o,δ',r,ho⟩
   ·exact .inl ⟨λx hx=>(Xn.mp hx).elim (λz=>z▸p) (q x),δ',e.trans r,i⟩
   ·exact .inr ⟨λz=>q λx hx=>z x (.tail _ hx),o,δ',e.trans r,ho⟩
  ·obtain⟨p,o,δ2,hu,ho⟩:=h1
   refine .inr ⟨λz=>p (z d (.head _)),o,δ2,?_,ho⟩
   rw[forLoop,hg]
   dsimp only
   rw[hu]
theorem Z2c{l:List Nat}(h:∀c∈l,c<128):Sh 0 (wD l):=⟨by
 show JB (.str (mkW l))=true
 rw[JB]
 unfold Xa.strOk
 rw[Array.all_eq_true_iff_forall_mem]
 intro c m
 have:=h c (List.mem_toArray.mp m)
 exact decide_eq_true (by omega),Nat.le_of_eq rfl⟩
theorem Zk8{x y:Nat}(hx:x<128)(hy:y<128):gNe (wD [x]) (wD [y])=some (.bool (x !=y)):=by
 have s:∀{x:Nat},x<128->Vz (wD [x])=true:=λh=>((Z2c λc hc=>Xl.mp hc▸h).shp (by omega)).ok
 unfold gNe
 rw[if_pos (by rw[s hx,s hy];rfl)]
 refine congrArg (λb=>some (BP (!b))) ?_
 by_cases c:x=y
 ·subst c
  rw[Zha (show Z5 (wD [x])=true by unfold wD;rw[Z5])]
  exact(beq_self_eq_true x).symm
 ·rw[Ztt (show Z5 (wD [x])=true by unfold wD;rw[Z5]) (show Z5 (wD [y])=true by unfold wD;rw[Z5]) λe=>c (by
   have:=Zah (Vq e)
   exact(Ub this).1)]
  exact(beq_eq_false_iff_ne.mpr c).symm
theorem Z30{a:List Nat}{ls:List (List Nat)}:Zfr false (wD a) (.list (ls.map wD))=some (.bool (decide (a∈ls))):=by
 have e:memS (wD a) (ls.map wD)=decide (a∈ls):=by
  unfold memS
  rw[List.any_map,Bool.eq_iff_iff,List.any_eq_true,decide_eq_true_eq]
  constructor
  ·intro h
   obtain⟨y,hy,h⟩:=h
   have:(mkW y==mkW a)=true:=h
   rw[←Zah (eq_of_beq this)];exact hy
  ·exact λh=>⟨a,h,show(mkW a==mkW a)=true from beq_self_eq_true _⟩
 unfold Zfr
 show(if _ then _ else _)=_
 rw[if_pos (by
  rw[Xz]
  refine⟨rfl,Q7.mpr λd hd=>?_⟩
  obtain⟨l,_,rfl⟩:=QJ.mp hd
  rfl),if_neg Xq,e]
theorem Zf9{ls:List (List Nat)}:ls.Nodup↔∀k<ls.length,ls.getD k []∉ls.take k:=by
 have g:∀{k},k<ls.length->ls[k]? =some (ls.getD k []):=λh=>by rw[Qn,Xk h];rfl
 constructor
 ·intro h k hk m
  obtain⟨j,hj,e⟩:=Vk m
  rw[Bp]at hj
  rw[List.getElem_take]at e
  have hne:=Uu.mp h j k (by omega) hk (by omega)
  have e2:=g hk
  rw[Xk hk]at e2
  exact hne (e.trans (Qz e2).symm)
 ·intro h
  refine Uu.mpr λi j hi hj lt e=>h j hj ?_
  have e2:=g hj
  rw[Xk hj]at e2
  rw[←Qz e2,←e]
  exact List.mem_iff_getElem.mpr ⟨i,by rw[Bp];omega,by rw[List.getElem_take]⟩
theorem Zqg(ds:List Xa){k:Nat}(h:k≤ds.length):cutD ds none (some (k:Int))=ds.take k:=by
 unfold cutD
 rw[HT.sIx_nat,HT.sIx_none,Ue,Nat.sub_zero,Nat.min_eq_left h]
theorem Zwh{l:List Nat}(hl:l.length≤100):Zav [wD l]=some (.int l.length):=by
 show(if(mkW l).length≤Xi then _ else _)=_
 have e:(mkW l).length=l.length:=Xr ..
 rw[e,if_pos (by rw[Qe];omega)]
theorem atW{ls:List (List Nat)}{i:Nat}(hi:i<ls.length):ls.getD i []∈ls∧atI (ls.map wD) (i:Int)=some (wD (ls.getD i [])):=by
 have e:ls.getD i []=ls[i]:=by rw[Qn,Xk hi];rfl
 rw[e]
 exact⟨VR hi,Zdm (by rw[Xm,Xk hi];rfl)⟩
noncomputable def sgB:FS:=Zaw (Zx8 (Z9 gIx (Zc 0) (Zc 1))) (gNm 2) (Wu (tAn (tV (Zb gNe (Zc 2) (fC (.str "0")))) (tV (Zb gNe (Zc 2) (fC (.str "1"))))) (wE (fC (.bool false)) Za2) fNx)
noncomputable def wdB:FS:=Zw (Wu (tO (tV (Zb gNe (Jb Zav (Zd (Z9 gIx (Zc 0) (Zc 1)) Zk)) (Jb Zav (Zd (Z9 gIx (Zc 0) (fC (.int 0))) Zk)))) (tV (Zb (Zfr false) (Z9 gIx (Zc 0) (Zc 1)) (fSl (Zc 0) oN (oI (Zc 1)))))) (wE (fC (.bool false)) Za2) fNx) sgB
noncomputable def e7(ws:Xa)(o1 o2:Option OT):Zf:=[some (.fz ws),o1,o2,none,none,none,none]
theorem Zr4{ls:List (List Nat)}(B:Bds ls){k:Nat}{o2:Option OT}(hk:k<ls.length) :
  ((∀ c∈ls.getD k [],c=48∨c=49)∧∃o2',sgB (e7 (.list (ls.map wD)) (some (.fz (dI k))) o2)= .nx (e7 (.list (ls.map wD)) (some (.fz (dI k))) o2'))∨((¬∀c∈ls.getD k [],c=48∨c=49)∧∃o δ',sgB (e7 (.list (ls.map wD)) (some (.fz (dI k))) o2)= .rt o δ'∧o.data= .bool false):=by
 obtain⟨hm,ha⟩:=atW hk
 have it:EvI (Zx8 (Z9 gIx (Zc 0) (Zc 1))) (e7 (.list (ls.map wD)) (some (.fz (dI k))) o2) ((ls.getD k []).map λc=>wD [c]):=by
  obtain⟨t,e1,d1⟩:=Zac (δ:=e7 (.list (ls.map wD)) (some (.fz (dI k))) o2) (Za (i:=0) rfl) (Za (i:=1) rfl) ha
  unfold EvI Zx8
  rw[e1,Xe]
  dsimp only
  rw[d1];rfl
 have bc:=(B.l _ hm).2
 rcases Ziv (g:=gNm 2) (u:=Wu (tAn (tV (Zb gNe (Zc 2) (fC (.str "0")))) (tV (Zb gNe (Zc 2) (fC (.str "1"))))) (wE (fC (.bool false)) Za2) fNx) (I:=λδ=>∃o2,δ=e7 (.list (ls.map wD)) (some (.fz (dI k))) o2) (P:=λd=>∃c:Nat,d=wD [c]∧(c=48∨c=49)) ((ls.getD k []).map λc=>wD [c]) (e7 (.list (ls.map wD)) (some (.fz (dI k))) o2) ⟨_,rfl⟩ (λd hd δ hI=>by
  obtain⟨o,rfl⟩:=hI
  obtain⟨c,hc,rfl⟩:=QJ.mp hd
  have lc:=bc c hc
  have t1:EvT (tV (Zb gNe (Zc 2) (fC (.str "0")))) (e7 (.list (ls.map wD)) (some (.fz (dI k))) (some (.fz (wD [c])))) (c !=48):=Zax (Zn (Za (i:=2) rfl) (Z2 (d:=wD [48])) (Zk8 lc (by decide)))
  have t2:EvT (tV (Zb gNe (Zc 2) (fC (.str "1")))) (e7 (.list (ls.map wD)) (some (.fz (dI k))) (some (.fz (wD [c])))) (c !=49):=Zax (Zn (Za (i:=2) rfl) (Z2 (d:=wD [49])) (Zk8 lc (by decide)))
  by_cases c0:c=48
  ·subst c0
   exact⟨_,rfl,.inl ⟨⟨48,rfl,.inl rfl⟩,_,Z1 (Zvv t1) rfl,_,rfl⟩⟩
  ·rw[show(c !=48)=true from bne_iff_ne.mpr c0]at t1
   by_cases c1:c=49
   ·subst c1
    exact⟨_,rfl,.inl ⟨⟨49,rfl,.inr rfl⟩,_,Z1 (Zzm t1 t2) rfl,_,rfl⟩⟩
   ·rw[show(c !=49)=true from bne_iff_ne.mpr c1]at t2
    exact⟨_,rfl,.inr ⟨λq=>by
     obtain⟨c',e,h⟩:=q
     have e:=(Ub (Zah (Vq e))).1
     rw[←e]at h
     exact h.elim c0 c1,.fz (.bool false),_,Wa (Zzm t1 t2) rfl,OT.data_fz _⟩⟩)with⟨q,δ',r,o,rfl⟩|⟨q,o,δ',r,ho⟩
 ·refine .inl ⟨λc hc=>?_,o,Zch it r⟩
  obtain⟨c',e,h⟩:=q (wD [c]) (QJ.mpr ⟨c,hc,rfl⟩)
  rw[(Ub (Zah (Vq e))).1];exact h
 ·refine .inr ⟨λz=>q λd hd=>?_,o,δ',Zch it r,ho⟩
  obtain⟨c,hc,rfl⟩:=QJ.mp hd
  exact⟨c,rfl,z c hc⟩
theorem Zm0{ls:List (List Nat)}(B:Bds ls){k:Nat}{o2:Option OT}(hk:k<ls.length) :
  ((OkL (ls.getD 0 []).length (ls.getD k [])∧ls.getD k []∉ls.take k)∧∃o2',wdB (e7 (.list (ls.map wD)) (some (.fz (dI k))) o2)= .nx (e7 (.list (ls.map wD)) (some (.fz (dI k))) o2'))∨(¬(OkL (ls.getD 0 []).length (ls.getD k [])∧ls.getD k []∉ls.take k)∧∃o δ',wdB (e7 (.list (ls.map wD)) (some (.fz (dI k))) o2)= .rt o δ'∧o.data= .bool false):=by
 obtain⟨hm,ha⟩:=atW hk
 obtain⟨hm0,ha0⟩:=atW (ls:=ls) (i:=0) (by omega)
 have b1:=(B.l _ hm).1
 have b0:=(B.l _ hm0).1
 have ek:EvV (Z9 gIx (Zc 0) (Zc 1)) (e7 (.list (ls.map wD)) (some (.fz (dI k))) o2) (wD (ls.getD k [])):=Zac (Za (i:=0) rfl) (Za (i:=1) rfl) ha
 have t1:=Zax (Z5n (Zbt (Ze ek Zi) (Zwh (by omega))) (Zbt (Ze (Zac (δ:=e7 (.list (ls.map wD)) (some (.fz (dI k))) o2) (Za (i:=0) rfl) Z2 ha0) Zi) (Zwh (by omega))) rfl)
 have t2:=Zax (Zn ek ((Zny (δ:=e7 (.list (ls.map wD)) (some (.fz (dI k))) o2) (Za (i:=0) rfl) Zrp (Zp1 (Za (i:=1) rfl))).cast (by rw[Zqg _ (by rw[Xg];omega),←Uz])) (Z30 (a:=ls.getD k []) (ls:=ls.take k)))
 have rf:∀{δ:Zf},∃o δ',wE (fC (.bool false)) Za2 δ= .rt o δ'∧o.data= .bool false:=fun{δ}=>⟨_,δ,rfl,OT.data_fz _⟩
 by_cases c1:(ls.getD k []).length=(ls.getD 0 []).length
 ·rw[decide_eq_true (show(((ls.getD k []).length:Nat):Int)=((ls.getD 0 []).length:Nat) by omega)]at t1
  by_cases c2:ls.getD k []∈ls.take k
  ·rw[decide_eq_true c2]at t2
   exact .inr ⟨λq=>q.2 c2,.fz (.bool false),_,Ze8 (Wa (Zrx t1 t2) rfl),OT.data_fz _⟩
  ·rw[decide_eq_false c2]at t2
   rcases Zr4 B (o2:=o2) hk with⟨q,o,r⟩|⟨q,o,δ',r,ho⟩
   ·exact .inl ⟨⟨⟨c1,q⟩,c2⟩,o,Zr (Z1 (Zrx t1 t2) rfl) r⟩
   ·exact .inr ⟨λz=>q z.1.2,o,δ',Zr (Z1 (Zrx t1 t2) rfl) r,ho⟩
 ·rw[decide_eq_false (show¬(((ls.getD k []).length:Nat):Int)=((ls.getD 0 []).length:Nat) by omega)]at t1
  exact .inr ⟨λq=>c1 q.1.1,.fz (.bool false),_,Ze8 (Wa (Zpz t1) rfl),OT.data_fz _⟩
noncomputable def Good(ls:List (List Nat)):Prop:=Srt ls∧Z0r ls.length (rsW ls)
theorem Zl5{ls:List (List Nat)}(B:Bds ls):∃b,Told Yi [.list (ls.map wD)] (.bool b)∧(b=true↔Good ls):=by
 have bn:=B.n
 have len:∀{δ:Zf},δ[0]? =some (some (.fz (.list (ls.map wD))))->EvV (Jb Zai (Zd (Zc 0) Zk)) δ (.int ls.length):=λh=>(Zal (Za h)).cast (by rw[Xg])
 have key:∃d,Told Yi [.list (ls.map wD)] d∧∃b,d= .bool b∧(b=true↔Good ls):=by
  by_cases c1:ls.length<1
  ·exact Ziz rfl (Zdb (Zg0 (Zpz (Zax (Zg4 (len rfl) Z2 (decide_eq_true (Int.ofNat_lt.mpr c1))))) (Zf6 Z2 ⟨false,rfl,(λz=>nomatch z),λg=>absurd g.1.n1 (Nat.not_le.mpr c1)⟩)))
  have t1:=Zax (Zg4 (len (δ:=Y9 7 [.list (ls.map wD)]) rfl) (Z2 (d:=.int 1)) (decide_eq_false λz=>c1 (Int.ofNat_lt.mp z)))
  by_cases c2:10<ls.length
  ·exact Ziz rfl (Zdb (Zg0 (Zrx t1 (Zax (Zm3 (len rfl) Z2 (decide_eq_true (Int.ofNat_lt.mpr c2))))) (Zf6 Z2 ⟨false,rfl,(λz=>nomatch z),λg=>absurd g.1.n10 (Nat.not_le.mpr c2)⟩)))
  have f1:(Wu (tO (tV (Zb gLt (Jb Zai (Zd (Zc 0) Zk)) (fC (.int 1)))) (tV (Zb gGt (Jb Zai (Zd (Zc 0) Zk)) (fC (.int 10))))) (wE (fC (.bool false)) Za2) fNx) (Y9 7 [.list (ls.map wD)])= .nx (Y9 7 [.list (ls.map wD)]):=Z1 (Zrx t1 (Zax (Zm3 (len rfl) Z2 (decide_eq_false λz=>c2 (Int.ofNat_lt.mp z))))) rfl
  rcases Ziv (g:=gNm 1) (u:=wdB) (I:=λδ=>∃o1 o2,δ=e7 (.list (ls.map wD)) o1 o2) (P:=λd=>∃k,d=dI k∧OkL (ls.getD 0 []).length (ls.getD k [])∧ls.getD k []∉ls.take k) (Zc7 0 ls.length) (Y9 7 [.list (ls.map wD)]) ⟨none,none,rfl⟩ (λd hd δ hI=>by
   obtain⟨o1,o2,rfl⟩:=hI
   rw[Zss]at hd
   obtain⟨k,hk,rfl⟩:=QJ.mp hd
   rcases Zm0 B (o2:=o2) (QD.mp hk)with⟨q,o,r⟩|⟨q,o,δ',r,ho⟩
   ·exact⟨_,rfl,.inl ⟨⟨k,rfl,q⟩,_,r,_,_,rfl⟩⟩
   ·exact⟨_,rfl,.inr ⟨λz=>by
     obtain⟨k',e,h⟩:=z
     have e:k=k':=Int.ofNat.inj (PyData.int.inj e)
     rw[←e]at h
     exact q h,o,δ',r,ho⟩⟩)with⟨q,δ',r,o1,o2,rfl⟩|⟨q,o,δ',r,ho⟩
  ·have S:Srt ls:=by
    have q2:∀k<ls.length,OkL (ls.getD 0 []).length (ls.getD k [])∧ls.getD k []∉ls.take k:=λk hk=>by
     obtain⟨k',e,h⟩:=q (dI k) (by rw[Zss];exact QJ.mpr ⟨k,QD.mpr hk,rfl⟩)
     have e:k=k':=Int.ofNat.inj (PyData.int.inj e)
     rw[e];exact h
    refine⟨Um.mp c1,Um.mp c2,Zf9.mpr λk hk=>(q2 k hk).2,λl hl=>?_⟩
    obtain⟨k,hk,e⟩:=Vk hl
    have:=(q2 k hk).1
    rw[Qn (i:=k),Xk hk,e]at this
    exact this
   have W:=S.wgd B
   have R:=Zhu W
   refine Ziz rfl<|Yr f1<|Yr (Zch (Zdo (Ze (len rfl) Zi) (Xu bn (by decide))) r)<|Yr (δ':=eG (.list (ls.map wD)) o1 o2 [0] none none none) (Zco (o:=lsO [0]) rfl)<|
    Zkb (ds:=Zc7 0 ls.length) (λi δ=>∃ns o4 o5 o6,δ=eG (.list (ls.map wD)) o1 o2 ns o4 o5 o6∧Z2a ls.length (rsW ls) ns∧(Clo (rsW ls) ns∨i+1≤ns.length)) (Zdo (Ze (len rfl) Zi) (Xu bn (by decide))) ⟨[0],_,_,_,rfl,⟨Qi.mpr ⟨(λz=>nomatch z),.nil⟩,.head _,λk hk=>by rw[Xl.mp hk];exact R.n1,λk hk=>by rw[Xl.mp hk];exact .refl⟩,.inr (XQ _)⟩ (λi d δ hd h=>?_) λδ' h=>?_
   ·obtain⟨ns,o4,o5,o6,rfl,C,hc⟩:=h
    refine Zkq (ds:=(rsW ls).map ptD) (δ1:=eG (.list (ls.map wD)) o1 o2 ns (some (.fz d)) o5 o6) (λi δ=>∃u o5 o6,δ=eG (.list (ls.map wD)) o1 o2 (ns ++ u) (some (.fz d)) o5 o6∧Z2a ls.length (rsW ls) (ns ++ u)∧(u=[]->∀(j:Nat) r,j<i->(rsW ls)[j]? =some r->(r.1∈ns↔r.2∈ns))∧(Clo (rsW ls) ns->u=[])) rfl (Zcf (Yl (Ze (Za rfl) Zi) (Zik W))) ⟨[],o5,o6,by rw[XR],by rw[XR];exact C,λ_ j r z=>absurd z (V6 _),λ_=>rfl⟩ (λj d2 δ hd2 h=>?_) λδ' h=>?_
    ·obtain⟨u,o5,o6,rfl,C',h1,h2⟩:=h
     rw[Xm]at hd2
     obtain⟨⟨a,b⟩,hr,rfl⟩:=XM.mp hd2
     have hm:=QW hr
     obtain⟨l1,l2⟩:=R.ok _ hm
     have l1:a<b:=l1
     have l2:b<ls.length:=l2
     obtain⟨v,C2,hv,run⟩:=Zr6 (ws:=.list (ls.map wD)) (o1:=o1) (o2:=o2) (o4:=some (.fz d)) R.n10 C' hm (Vi l1 l2) l2
     refine⟨_,_,rfl,.inl run,u ++ v,_,_,by rw[←QH],by rw[←QH];exact C2,λe k r hk hkr=>?_,λhcl=>?_⟩
     ·obtain⟨e1,e2⟩:=List.append_eq_nil_iff.mp e
      rcases QM.mp hk with hk|rfl
      ·exact h1 e1 k r hk hkr
      ·rw[hr]at hkr
       cases hkr
       have:=hv.mp e2
       rw[e1,XR]at this
       exact this
     ·have e1:=h2 hcl
      have e2:v=[]:=hv.mpr (by rw[e1,XR];exact hcl _ hm)
      rw[e1,e2];rfl
    ·obtain⟨u,o5,o6,rfl,C',h1,h2⟩:=h
     rw[Xg]at h1
     refine⟨ns ++ u,_,_,_,rfl,C',?_⟩
     by_cases e:u=[]
     ·rw[e,XR]
      refine .inl λr hr=>?_
      obtain⟨j,hj,ej⟩:=Vk hr
      exact h1 e j r hj (by rw[Xk hj,ej])
     ·rcases hc with hc|hc
      ·exact absurd (h2 hc) e
      ·have:=List.length_pos_iff.mpr e
       exact .inr (by rw[Xo];exact Bu hc this)
   ·obtain⟨ns,o4,o5,o6,rfl,C,hc⟩:=h
    rw[Jy]at hc
    have ll:=Zby C.nd C.lt
    have cl:Clo (rsW ls) ns:=hc.resolve_right (Nat.not_le.mpr (Nat.lt_succ_of_le ll))
    refine Zf6 (Zdq (Zal (Ze5 rfl (Zhj ns))) (len rfl) rfl) ⟨_,rfl,?_⟩
    rw[decide_eq_true_iff,Xg]
    constructor
    ·exact λh=>⟨S,λm hm=>C.rch m (Zs3 C.nd C.lt (by omega) m hm)⟩
    ·intro h
     have:∀m<ls.length,m∈ns:=λm hm=>Rch.closed C.z (λk hk m hm=>by
      rcases Zfk.mp hm with q|q
      ·exact(cl _ q).mp hk
      ·exact(cl _ q).mpr hk) (h.2 m hm)
     have:=Zoq this
     omega
  ·refine Ziz rfl<|Yr f1<|Zdb ⟨.bool false,⟨o,δ',Zch (Zdo (Ze (len rfl) Zi) (Xu bn (by decide))) r,ho⟩,false,rfl,(λz=>nomatch z),λg=>?_⟩
   refine absurd (λd hd=>?_) q
   rw[Zss]at hd
   obtain⟨k,hk,rfl⟩:=QJ.mp hd
   have hk:=QD.mp hk
   exact⟨k,rfl,g.1.ok _ (atW hk).1,Zf9.mp g.1.nd k hk⟩
 obtain⟨d,T,b,rfl,h⟩:=key
 exact⟨b,T,h⟩
noncomputable def Z3i(b:Bool):Xa:=if b=true then .list []else .list [.bool true,.bool true,.bool false]
theorem Zsd{ls:List (List Nat)}(B:Bds ls){b:Bool}(h:b=true↔Good ls):Told W9 [.list (ls.map wD)] (Z3i b):=by
 cases b with
 | true=>
  obtain⟨S,hc⟩:=h.mp rfl
  refine Wb rfl<|Zak Zd6<|Zak (δ':=[some (.fz (.list (ls.map wD))),some (.nd []),none]) ?_ (Zub (o:=.nd []) rfl (by rw[OT.data_nd];rfl))
  have e:wX Zo (Zd (Zc 0) Zk) Zh6 [some (.fz (.list (ls.map wD))),some (.nd []),none]= .nx [some (.fz (.list (ls.map wD))),some (.nd []),none]:=Zx0 (Ze (Za rfl) Zi) (.of (Z5r (S.wgd B) hc) rfl) λ_ _=>rfl
  show Zu3 xsL _ "CutError" 2 _ [some (.fz (.list (ls.map wD))),some (.nd []),none]=_
  unfold Zu3
  rw[e]
 | false=>
  have ng:¬Good ls:=λg=>Xq (h.mpr g)
  have ex:Zo [.list (ls.map wD)]= .exn "NoWeb" :=by
   by_cases s:Srt ls
   ·exact Z4a (s.wgd B) λc=>ng ⟨s,c⟩
   ·exact Z06 B s
  refine Wb rfl<|Zak Zd6<|Zak (Z2n (c :="NoWeb") (δ2:=[some (.fz (.list (ls.map wD))),some (.nd [.fz (.bool true),.fz (.bool true),.fz (.bool false)]),some (.fz (exD "NoWeb"))]) (Zja (Ze (Za rfl) Zi) ex) (by decide +kernel) ?_) (Zub (o:=.nd [.fz (.bool true),.fz (.bool true),.fz (.bool false)]) rfl (by rw[OT.data_nd,X6,X6,X6,V8,OT.data_fz,OT.data_fz];rfl))
  have b1:∀{δ:Zf},δ[2]? =some (some (.fz (exD "NoWeb")))->EvV (Zjk xsL "NoWeb" (Zc 2)) δ (.bool true):=λh=>Zsx (x :="NoWeb") (Za h) (by decide +kernel) (by decide +kernel)
  have b2:∀{δ:Zf},δ[2]? =some (some (.fz (exD "NoWeb")))->EvV (Zjk xsL "ValueError" (Zc 2)) δ (.bool true):=λh=>Zsx (x :="NoWeb") (Za h) (by decide +kernel) (by decide +kernel)
  have bq:∀{e:FE} {δ:Zf} {b:Bool},EvV e δ (.bool b)->e δ=some (.fz (.bool b),δ):=λh=>by
   obtain⟨t,e1,d1⟩:=h
   rw[e1,Ze2 d1]
  refine Zr (δ':=[some (.fz (.list (ls.map wD))),some (.nd [.fz (.bool true),.fz (.bool true)]),some (.fz (exD "NoWeb"))]) ((Zco (o:=.nd [.fz (.bool true),.fz (.bool true)]) ?_).trans rfl) ((Zix (ts:=[.fz (.bool true),.fz (.bool true)]) (Ztz (x :="NoWeb") (p:=false) (Za rfl) (by decide +kernel) (by decide +kernel)) rfl (show 2≤1000000 by decide)).trans rfl)
  rw[Zhb,Zem,bq (b1 rfl),Xe]
  dsimp only
  rw[Zem,bq (b2 rfl)];rfl
noncomputable def Sg(l:List Nat):Prop:=l.length≤15∧∀c∈l,c<128
theorem Zue(a b:List Nat):mkW a ++ mkW b=mkW (a ++ b):=by
 show Str.mk (a.toArray ++ b.toArray)=Str.mk (a ++ b).toArray
 rw[List.append_toArray]
theorem Zct{a b:List Nat}(h:a.length+b.length≤1000):J0 (wD a) (wD b)=some (wD (a ++ b)):=by
 show(if(mkW a).length+(mkW b).length≤Xi then some (U0 (mkW a ++ mkW b))else none)=_
 have e:∀l:List Nat,(mkW l).length=l.length:=λl=>Xr ..
 rw[e,e,if_pos (by rw[Qe];omega),Zue];rfl
theorem Zh0{l:List Nat}(lo hi:Option Int)(h:∀c∈l,c<128):∃l',U0 (Q9 (mkW l) lo hi)=wD l'∧l'.length≤l.length∧∀c∈l',c<128:=by
 refine⟨(Q9 (mkW l) lo hi).cps.toList,?_,?_,λc hc=>?_⟩
 ·unfold wD mkW
  exact congrArg (λz:Array Nat=>U0 ⟨z⟩) (Array.toArray_toList ..).symm
 ·have:=Vg (mkW l) lo hi
  rw[By]
  refine Xu this (Nat.le_of_eq ?_)
  exact Xr ..
 ·unfold Q9 at hc
  split at hc
  ·exact h c hc
  ·obtain⟨i,_,hi⟩:=Uc.mp hc
   exact h c (QW (i:=i) (by
    have:(mkW l).cps[i]? =some c:=hi
    rw[←VN]at this
    exact this))
theorem Zty(x:Int):∃b:Nat,b<128∧Zfv (.str "2O lo,-") (.int (x.fmod 7))=some (.fz (wD [b])):=by
 obtain⟨m,hm,lm⟩:=Wr x (n:=7) (by decide)
 have hm:x.fmod 7=m:=hm
 rw[hm]
 rcases QM.mp lm with lm|rfl
 rcases QM.mp lm with lm|rfl
 rcases QM.mp lm with lm|rfl
 rcases QM.mp lm with lm|rfl
 rcases QM.mp lm with lm|rfl
 rcases QM.mp lm with lm|rfl
 ·cases Nat.lt_one_iff.mp lm
  exact⟨50,by decide,rfl⟩
 ·exact⟨79,by decide,rfl⟩
 ·exact⟨32,by decide,rfl⟩
 ·exact⟨108,by decide,rfl⟩
 ·exact⟨111,by decide,rfl⟩
 ·exact⟨44,by decide,rfl⟩
 ·exact⟨45,by decide,rfl⟩
theorem Zw4(c:Nat):∀(n:Nat) (a:Array Nat),(QC n #[c]).foldl (· ++ ·) a=a ++ (QC n c).toArray:=by
 intro n
 induction n with
 | zero=>intro a;show a=a ++ #[];rw[Array.append_empty]
 | succ n ih=>
  intro a
  rw[List.replicate_succ,V2,ih,List.replicate_succ]
  apply Array.toList_inj.mp
  rw[Array.toList_append,Array.toList_append,Array.toList_append,QH];rfl
theorem Zm5(c k:Nat)(hk:k≤64):Zl7 (wD [c]) (dI k)=some (wD (QC k c)):=by
 show(if Zl0 (mkW [c]) (k:Int)=true then some (U0 (Zqn (mkW [c]) (k:Int)))else none)=_
 have o:Zl0 (mkW [c]) (k:Int)=true:=by
  unfold Zl0
  rw[decide_eq_true (show(0:Int)≤k by omega),decide_eq_true (show(k:Int)≤64 by omega)];rfl
 rw[if_pos o]
 unfold Zqn
 rw[VH]
 refine congrArg (λz:Array Nat=>some (U0 ⟨z⟩)) ?_
 refine(Zw4 c k #[]).trans ?_
 rw[Array.empty_append]
noncomputable def eS(ls:List (List Nat))(vs:List Int)(a h:Nat)(w:List Nat)(way:Int)(sm:List (List Nat)):Zf:=[some (.fz (.list (ls.map wD))),some (.fz (Yz vs)),some (.fz (dI a)),some (.fz (dI h)),some (.fz (wD w)),some (.fz (.int way)),some (.fz (.list (sm.map wD)))]
noncomputable def Sm(sm:List (List Nat)):Prop:=sm.length≤2∧∀l∈sm,Sg l
theorem Zb0{ls sm:List (List Nat)}{vs:List Int}{a h:Nat}{w:List Nat}{way:Int}{c:Int}{e:FE}(hs:Sm sm)(he:∃sm',Sm sm'∧EvV e (eS ls vs a h w way sm) (.list (sm'.map wD))) :
  ∃sm',Sm sm'∧Wu (tV (Zb gEq (Zc 5) (fC (.int c)))) (wE e (Wt 6)) fNx (eS ls vs a h w way sm)= .nx (eS ls vs a h w way sm'):=by
 by_cases q:way=c
 ·obtain⟨sm',h1,h2⟩:=he
  exact⟨sm',h1,Wa (Zax (Zdq (Za rfl) Z2 (decide_eq_true q))) (Yb h2)⟩
 ·exact⟨sm,hs,Z1 (Zax (Zdq (Za rfl) Z2 (decide_eq_false q))) rfl⟩
theorem Zg5{e:FE}{δ:Zf}{l:List Nat}(h:EvV e δ (wD l))(hs:Sg l):∃sm',Sm sm'∧EvV (Zab (Zd e Zk)) δ (.list (sm'.map wD)):=⟨[l],⟨show 1≤2 by decide,λx hx=>Xl.mp hx▸hs⟩,Zc6 (ds:=[wD l]) (Ze h Zi) (show 1≤1000 by decide)⟩
theorem ix4{vs:List Int}(hv:vs.length=4){i:Nat}(hi:i<4):(0:Int)≤i∧(i:Int)<vs.length:=by omega
theorem ob1{a:Nat}(h:a≤7):a+1≤15:=Xu (Vh h) (by decide)
theorem ob2{a b:Nat}(ha:a≤7)(hb:b≤7):a+b≤15:=Xu (Bu ha hb) (by decide)
theorem ob3{a b:Nat}(ha:a≤7)(hb:b≤7):a+1+b≤15:=Xu (Bu (Vh ha) hb) (by decide)
theorem obK{a:Nat}(h:a≤15):a≤1000:=Xu h (by decide)
theorem obT{z:Nat}(h:z<2):10+z≤11:=Nat.add_le_add_left (Nat.lt_succ_iff.mp h) 10
theorem obI{z i:Nat}(h:z<2)(hi:i<10+z):i≤10:=Nat.lt_succ_iff.mp (X5 hi (obT h))
theorem obS{i:Nat}(h:i≤10):(10:Int)-(i:Int)=((10-i:Nat):Int):=by omega
theorem obR{i:Nat}(h:i≤10):i+(10-i)≤10:=by omega
theorem Zqc{k:Nat}{ls:List (List Nat)}(W:Wds k ls){vs:List Int}(hv:vs.length=4):∃ls',Told Wh [.list (ls.map wD),Yz vs] (.list (ls'.map wD))∧Bds ls':=by
 have l1:=W.l1
 have l10:=W.l10
 have k8:=W.k8
 obtain⟨a,ha,la⟩:=Wr (vs.getD 0 0) (n:=ls.length) l1
 obtain⟨hm,hat⟩:=atW (ls:=ls) la
 obtain⟨w,hw⟩:∃w,w=ls.getD a []:=⟨_,rfl⟩
 rw[←hw]at hm hat
 have ow:=W.ok w hm
 have wl:w.length=k:=ow.1
 have w7:w.length≤7:=wl▸Nat.lt_succ_iff.mp k8
 have w15:w.length≤15:=Xu w7 (by decide)
 have wc:∀c∈w,c<128:=λc hc=>by rcases ow.2 c hc with rfl|rfl<;>decide
 obtain⟨h,hh,lh⟩:=Wr (vs.getD 1 0) (n:=w.length+1) (Nat.succ_pos _)
 obtain⟨way,hway⟩:∃way,way=(vs.getD 2 0).fmod 9:=⟨_,rfl⟩
 have rw':∀{δ:Zf} {i:Nat},δ[1]? =some (some (.fz (Yz vs)))->i<4->EvV (Z9 gIx (Zc 1) (fC (.int i))) δ (.int (vs.getD i 0)):=fun{δ i} h hi=>Zam (p:=vs) (i:=(i:Int)) (Za h) Z2 (ix4 hv hi).1 (ix4 hv hi).2
 have len:∀{δ:Zf},δ[0]? =some (some (.fz (.list (ls.map wD))))->EvV (Jb Zai (Zd (Zc 0) Zk)) δ (.int ls.length):=λh=>(Zal (Za h)).cast (by rw[Xg])
 obtain⟨b3,hb3,g3⟩:=Zom (vs.getD 3 0)
 obtain⟨b5,hb5,g5⟩:=Zty (vs.getD 3 0)
 have b3':b3<128:=by rcases hb3 with rfl|rfl<;>decide
 obtain⟨p1,e1,q1,r1⟩:=Zh0 (l:=w) none (some (h:Int)) wc
 obtain⟨p2,e2,q2,r2⟩:=Zh0 (l:=w) (some (h:Int)) none wc
 obtain⟨p3,e3,q3,r3⟩:=Zh0 (l:=w) (some ((h:Int)+1)) none wc
 have q1:=Xu q1 w7
 have q2:=Xu q2 w7
 have q3:=Xu q3 w7
 have mw:(mkW w).length≤1000000:=by show w.toArray.size≤_;rw[Xr];exact Xu w7 (by decide)
 have s1:∀{sm:List (List Nat)},EvV (Zfq (Zc 4) oN (oI (Zc 3))) (eS ls vs a h w way sm) (wD p1):=fun{sm}=>(Zii (Za (i:=4) rfl) Zrp (Zp1 (Za (i:=3) rfl)) mw).cast e1
 have s2:∀{sm:List (List Nat)},EvV (Zfq (Zc 4) (oI (Zc 3)) oN) (eS ls vs a h w way sm) (wD p2):=fun{sm}=>(Zii (Za (i:=4) rfl) (Zp1 (Za (i:=3) rfl)) Zrp mw).cast e2
 have s3:∀{sm:List (List Nat)},EvV (Zfq (Zc 4) (oI (Zb Ja (Zc 3) (fC (.int 1)))) oN) (eS ls vs a h w way sm) (wD p3):=fun{sm}=>(Zii (Za (i:=4) rfl) (Zp1 (W3 (Za (i:=3) rfl) Z2)) Zrp mw).cast e3
 have ap:∀{x y:List Nat},(∀c∈x,c<128)->(∀c∈y,c<128)->∀c∈x ++ y,c<128:=λhx hy c hc=>(Qj.mp hc).elim (hx c) (hy c)
 have sg:∀{b:Nat},b<128->∀c∈[b],c<128:=λhb c hc=>Xl.mp hc▸hb
 obtain⟨m2,h2,t2⟩:=Zb0 (ls:=ls) (vs:=vs) (a:=a) (h:=h) (w:=w) (way:=way) (sm:=[w]) (c:=2) (e:=Zab (Zd (Zc 4) (Zd (Zc 4) Zk))) ⟨show 1≤2 by decide,λx hx=>Xl.mp hx▸⟨w15,wc⟩⟩ ⟨[w,w],⟨show 2≤2 by decide,λx hx=>by
  have:x=w:=by simpa using hx
  rw[this];exact⟨w15,wc⟩⟩,Zc6 (ds:=[wD w,wD w]) (Ze (Za rfl) (Ze (Za rfl) Zi)) (show 2≤1000 by decide)⟩
 obtain⟨m3,h3,t3⟩:=Zb0 (ls:=ls) (vs:=vs) (a:=a) (h:=h) (w:=w) (way:=way) (c:=3) (e:=Zab (Zd (Zb J0 (Zb J0 (Zfq (Zc 4) oN (oI (Zc 3))) (Z9 Zfv (fC (.str "01")) (Zb J8 (Z9 gIx (Zc 1) (fC (.int 3))) (fC (.int 2))))) (Zfq (Zc 4) (oI (Zc 3)) oN)) Zk)) h2 (Zg5 (l:=p1 ++ [b3] ++ p2) (Zn (Zn s1 (Zcj Z2 (Wn (rw' (i:=3) rfl (by decide)) Z2 (by decide)) g3 (OT.data_fz _)) (Zct (show p1.length+1≤1000 from obK (ob1 q1)))) s2 (Zct (by rw[Xo];exact(show p1.length+1+p2.length≤1000 from obK (ob3 q1 q2))))) ⟨by rw[Xo,Xo];exact(show p1.length+1+p2.length≤15 from ob3 q1 q2),ap (ap r1 (sg b3')) r2⟩)
 obtain⟨m4,h4,t4⟩:=Zb0 (ls:=ls) (vs:=vs) (a:=a) (h:=h) (w:=w) (way:=way) (c:=4) (e:=Zab (Zd (Zb J0 (Zfq (Zc 4) oN (oI (Zc 3))) (Zfq (Zc 4) (oI (Zb Ja (Zc 3) (fC (.int 1)))) oN)) Zk)) h3 (Zg5 (l:=p1 ++ p3) (Zn s1 s3 (Zct (obK (ob2 q1 q3)))) ⟨by rw[Xo];exact ob2 q1 q3,ap r1 r3⟩)
 obtain⟨m5,h5,t5⟩:=Zb0 (ls:=ls) (vs:=vs) (a:=a) (h:=h) (w:=w) (way:=way) (c:=5) (e:=Zab (Zd (Zb J0 (Zb J0 (Zfq (Zc 4) oN (oI (Zc 3))) (Z9 Zfv (fC (.str "2O lo,-")) (Zb J8 (Z9 gIx (Zc 1) (fC (.int 3))) (fC (.int 7))))) (Zfq (Zc 4) (oI (Zb Ja (Zc 3) (fC (.int 1)))) oN)) Zk)) h4 (Zg5 (l:=p1 ++ [b5] ++ p3) (Zn (Zn s1 (Zcj Z2 (Wn (rw' (i:=3) rfl (by decide)) Z2 (by decide)) g5 (OT.data_fz _)) (Zct (show p1.length+1≤1000 from obK (ob1 q1)))) s3 (Zct (by rw[Xo];exact(show p1.length+1+p3.length≤1000 from obK (ob3 q1 q3))))) ⟨by rw[Xo,Xo];exact(show p1.length+1+p3.length≤15 from ob3 q1 q3),ap (ap r1 (sg hb5)) r3⟩)
 obtain⟨m6,h6,t6⟩:=Zb0 (ls:=ls) (vs:=vs) (a:=a) (h:=h) (w:=w) (way:=way) (c:=6) (e:=Zab Zk) h5 ⟨[],⟨JK _,λx hx=>nomatch hx⟩,Zc6 Zi (JK _)⟩
 obtain⟨m7,h7,t7⟩:=Zb0 (ls:=ls) (vs:=vs) (a:=a) (h:=h) (w:=w) (way:=way) (c:=7) (e:=Zab (Zd (Zb J0 (Zc 4) (fC (.str " "))) Zk)) h6 (Zg5 (l:=w ++ [32]) (Zn (Za rfl) (Z2 (d:=wD [32])) (Zct (show w.length+1≤1000 from obK (ob1 w7)))) ⟨by rw[Xo];exact(show w.length+1≤15 from ob1 w7),ap wc (sg (by decide))⟩)
 have key:∃d,Told Wh [.list (ls.map wD),Yz vs] d∧∃ls',d= .list (ls'.map wD)∧Bds ls':=by
  refine Ziz rfl<|Yr (Yb (d:=dI a) ((Wn (rw' (i:=0) rfl (by decide)) (len rfl) (obN l1)).cast (congrArg XJ ha)))<|Yr (Yb (d:=dI h) ((Wn (rw' (i:=1) rfl (by decide)) (W3 (Zbt (Ze (Zac (Za rfl) (Za rfl) hat) Zi) (Zwh (Xu w7 (by decide)))) Z2) (obN (Nat.succ_pos w.length))).cast (congrArg XJ hh)))<|Yr (Yb (Zac (Za rfl) (Za rfl) hat))<|Yr (Yb (d:=.int way) ((Wn (rw' (i:=2) rfl (by decide)) Z2 (by decide)).cast (by rw[hway])))<|
   Yr (δ':=eS ls vs a h w way [w]) (Yb (Zc6 (ds:=[wD w]) (Ze (Za rfl) Zi) (show 1≤1000 by decide)))<|Yr t2<|Yr t3<|Yr t4<|Yr t5<|Yr t6<|Yr t7 ?_
  by_cases c1:way=1
  ·exact Zdb (Zg0 (Zax (Zdq (Za rfl) Z2 (decide_eq_true c1))) (Zf6 (Zc6 Zi (JK _)) ⟨[],rfl,⟨JK _,λx hx=>nomatch hx⟩⟩))
  refine Yr (Z1 (Zax (Zdq (Za rfl) Z2 (decide_eq_false c1))) rfl) ?_
  by_cases c8:way=8
  ·obtain⟨z,hz,lz⟩:=Wr (vs.getD 3 0) (n:=2) (by decide)
   have hz:(vs.getD 3 0).fmod 2=z:=hz
   refine Zdb (Zg0 (Zax (Zdq (Za rfl) Z2 (decide_eq_true c8))) (Zf6 (Zjo (cs:=[]) (XX (10+z)) dI (λi=>wD (QC i 48 ++ QC (10-i) 49)) ?_ (by rw[Qx];exact Xu (obT lz) (by decide)) rfl λi hi=>?_) ⟨(XX (10+z)).map λi=>QC i 48 ++ QC (10-i) 49,by rw[Q5];rfl,⟨by rw[Xg,Qx];exact Xu (obT lz) (by decide),λl hl=>?_⟩⟩))
   ·rw[←Zss]
    refine Zdo (n:=10+z) (Ze ((W3 Z2 (Wn (rw' (i:=3) rfl (by decide)) Z2 (by decide))).cast ?_) Zi) (Xu (obT lz) (by decide))
    show XJ (10+(vs.getD 3 0).fmod 2)=XJ ((10+z:Nat):Int)
    rw[hz];rfl
   ·have hi:=QD.mp hi
    have i10:=obI lz hi
    exact Zn (Zn (Z2 (d:=wD [48])) (Za rfl) (Zm5 48 i (Xu i10 (by decide)))) (Zn (Z2 (d:=wD [49])) ((Zs6 Z2 (Za rfl)).cast (show XJ (10-(i:Int))=dI (10-i)from congrArg _ (obS i10))) (Zm5 49 (10-i) (Xu (Nat.sub_le _ _) (by decide)))) (Zct (by rw[JF,JF];exact Xu (obR i10) (by decide)))
   ·obtain⟨i,hi,rfl⟩:=QJ.mp hl
    have hi:=QD.mp hi
    refine⟨by rw[Xo,JF,JF];exact Xu (obR (obI lz hi)) (by decide),λc hc=>?_⟩
    rcases Qj.mp hc with q|q
    ·rw[List.eq_of_mem_replicate q];decide
    ·rw[List.eq_of_mem_replicate q];decide
  refine Yr (Z1 (Zax (Zdq (Za rfl) Z2 (decide_eq_false c8))) rfl) ?_
  have s7:=h7.1
  have d1:(ls.take a).length≤10:=by rw[Bp];exact Xu (Nat.min_le_right _ _) l10
  have d2:(ls.drop (a+1)).length≤10:=by rw[Bq];exact Xu (Nat.sub_le _ _) l10
  have x1:EvV (fSl (Zc 0) oN (oI (Zc 2))) (eS ls vs a h w way m7) (.list ((ls.take a).map wD)):=(Zny (Za (i:=0) rfl) Zrp (Zp1 (Za (i:=2) rfl))).cast (by rw[Zqg _ (by rw[Xg];exact Bo la),←Uz])
  have x2:EvV (fSl (Zc 0) (oI (Zb Ja (Zc 2) (fC (.int 1)))) oN) (eS ls vs a h w way m7) (.list ((ls.drop (a+1)).map wD)):=(Zny (Za (i:=0) rfl) (Zp1 (W3 (Za (i:=2) rfl) Z2)) Zrp).cast (by
   show Ul (cutD (ls.map wD) (some (((a+1:Nat)):Int)) none)=_
   unfold cutD
   rw[HT.sIx_nat,HT.sIx_none,Xg,Nat.min_eq_left (show a+1≤ls.length from la),List.take_of_length_le (by rw[Bq,Xg];exact XQ _),←List.map_drop])
  refine Zf6 (Zmp (Zmp x1 (Za rfl) (by rw[Xg,Xg];exact Xu (Bu d1 s7) (by decide))) x2 (by rw[Xo,Xg,Xg,Xg];exact Xu (Bu (Bu d1 s7) d2) (by decide))) ⟨ls.take a ++ m7 ++ ls.drop (a+1),by rw[QT,QT],⟨by rw[Xo,Xo];exact Xu (Bu (Bu d1 s7) d2) (by decide),λl hl=>?_⟩⟩
  have old:∀l∈ls,l.length≤15∧∀c∈l,c<128:=λl hl=>⟨by rw[(W.ok l hl).1];exact Xu (Bo k8) (by decide),λc hc=>by rcases(W.ok l hl).2 c hc with rfl|rfl<;>decide⟩
  rcases Qj.mp hl with q|q
  ·rcases Qj.mp q with q|q
   ·exact old l (List.mem_of_mem_take q)
   ·exact h7.2 l q
  ·exact old l (List.mem_of_mem_drop q)
 obtain⟨d,T,ls',rfl,B⟩:=key
 exact⟨ls',T,B⟩
theorem Zsi(l:List Int)(lo hi:Option Int):∃l':List Int,cutD (l.map XJ) lo hi=l'.map XJ∧l'.length≤l.length:=by
 refine⟨(l.drop (HT.sIx l.length 0 lo)).take (HT.sIx l.length l.length hi-HT.sIx l.length 0 lo),?_,?_⟩
 ·unfold cutD
  rw[Xg,Uz,List.map_drop]
 ·rw[Bp,Bq];omega
theorem Z1l{e:FE}{δ:Zf}{lo hi:FO}{l h:Option Int}{p:List Int}(he:EvV e δ (Yz p))(hl:EvO lo δ l)(hh:EvO hi δ h):∃q,EvV (fSl e lo hi) δ (Yz q)∧q.length≤p.length:=by
 obtain⟨q,e1,e2⟩:=Zsi p l h
 refine⟨q,?_,e2⟩
 have:=Zny (ds:=p.map XJ) he hl hh
 rwa[e1]at this
theorem Zxh{a b:FE}{δ:Zf}{p q:List Int}(ha:EvV a δ (Yz p))(hb:EvV b δ (Yz q))(hl:p.length+q.length≤1000000):EvV (Z9 Zqr a b) δ (Yz (p ++ q)):=by
 refine(Zmp (ds:=p.map XJ) (es:=q.map XJ) ha hb (by rw[Xg,Xg];exact hl)).cast ?_
 unfold Yz
 rw[QT]
theorem Zzy{ds:List Xa}(h:∀d∈ds,Z5 d=true):Zbs ds=true:=by
 induction ds with
 | nil=>rfl
 | cons d ds ih=>rw[Zbs,h d (.head _),ih λe he=>h e (.tail _ he)];rfl
theorem Zp4{d:Xa}{n:Nat}(h:Sh n d)(hn:n≤64)(hp:Z5 d=true):gEq d d=some (.bool true)∧gNe d d=some (.bool false):=by
 have s:=(h.shp hn).ok
 unfold gEq gNe
 rw[if_pos (by rw[s];rfl),if_pos (by rw[s];rfl),Zha hp]
 exact⟨rfl,rfl⟩
theorem Z2m(b:Bool):gNe (Z3i b) (Z3i b)=some (.bool false):=by
 have sb:∀b:Bool,Sh 0 (.bool b):=λb=>⟨rfl,Nat.le_of_eq rfl⟩
 cases b with
 | true=>exact(Zp4 (d:=.list []) (Zjf (n:=0) λd hd=>nomatch hd) (by decide) (by rw[Z5];rfl)).2
 | false=>
  have h:Sh 1 (.list [.bool true,.bool true,.bool false]):=Zjf (n:=0) λd hd=>by
   rcases Xn.mp hd with rfl|hd
   ·exact sb _
   ·rcases Xn.mp hd with rfl|hd
    ·exact sb _
    ·rw[Xl.mp hd];exact sb _
  show gNe (.list [.bool true,.bool true,.bool false]) (.list [.bool true,.bool true,.bool false])=_
  unfold gNe
  rw[if_pos (by rw[(h.shp (by decide)).ok];rfl)]
  exact congrArg (λb=>some (BP (!b))) (PySem.SeqAt.eqv_refl _ h.1)
theorem Z6r{ls:List (List Nat)}(B:Bds ls):gNe (.list (ls.map wD)) (.list (ls.map wD))=some (.bool false):=by
 refine(Zp4 (Zjf (n:=0) λd hd=>?_) (by decide) ?_).2
 ·obtain⟨l,hl,rfl⟩:=QJ.mp hd
  exact Z2c (B.l l hl).2
 ·rw[Z5]
  refine Zzy λd hd=>?_
  obtain⟨l,hl,rfl⟩:=QJ.mp hd
  unfold wD;rw[Z5]
theorem Zrf(ns:List Int)(hl:ns.length≤63):Zgr [.list (ns.map XJ)]= .ok (.fz (.bool true)):=by
 obtain⟨c0,T0⟩:=Zme ns (k:=0) (by decide)
 obtain⟨q,eq,ql⟩:=Z1l (e:=Zc 0) (δ:=Y9 5 [Yz ns]) (p:=ns) (Za rfl) (Zp1 (Z2 (d:=.int 1))) (Zp1 (Z2 (d:=.int 8)))
 have e1:EvV (Zab (Zd (Ys Y6 (Zd (Zc 0) (Zd (fC (.int 0)) Zk))) Zk)) (Y9 5 [Yz ns]) (Yz [c0]):=Zc6 (ds:=[.int c0]) (Ze (Yl (Ze (Za rfl) (Ze Z2 Zi)) (.of T0 (OT.data_fz _))) Zi) (show 1≤1000 by decide)
 have e2:=Zxh eq e1 (by show q.length+1≤1000000;omega)
 obtain⟨cs,hcs⟩:∃cs,cs=q ++ [c0]:=⟨_,rfl⟩
 rw[←hcs]at e2
 refine Told.ok<|Wb rfl<|Ziq (ds:=cs.map XJ) (λi δ=>∃z1 z2 z3 z4,δ=[some (.fz (Yz ns)),z1,z2,z3,z4]) (Zcf e2) ⟨_,_,_,_,rfl⟩ (λi d δ hd h=>?_) λδ' h=>?_
 ·obtain⟨z1,z2,z3,z4,rfl⟩:=h
  rw[Xm]at hd
  obtain⟨c,_,rfl⟩:=XM.mp hd
  obtain⟨k,ls,Td,W⟩:=Zsl c
  obtain⟨vs,Tn,hv⟩:=Zkm (c.fdiv 7) 4 2520 (by decide) (by decide)
  obtain⟨ls',Ts,B⟩:=Zqc W hv
  obtain⟨b,Tg,hb⟩:=Zl5 B
  have iff':(Wu (tNo (tD (Ys Yi (Zd (Zc 2) Zk)))) (wE (Zab (Zd (fC (.bool true)) (Zd (fC (.bool true)) (Zd (fC (.bool false)) Zk)))) (Wt 3)) fNx) [some (.fz (Yz ns)),some (.fz (.int c)),some (.fz (.list (ls'.map wD))),some (.fz (.list [])),z4]= .nx [some (.fz (Yz ns)),some (.fz (.int c)),some (.fz (.list (ls'.map wD))),some (.fz (Z3i b)),z4]:=by
   have t:=Zgz (Zj4 (Yl (δ:=[some (.fz (Yz ns)),some (.fz (.int c)),some (.fz (.list (ls'.map wD))),some (.fz (.list [])),z4]) (as:=Zd (Zc 2) Zk) (Ze (Za rfl) Zi) Tg))
   cases b with
   | true=>exact Z1 t rfl
   | false=>exact Wa t (Yb (Zc6 (ds:=[.bool true,.bool true,.bool false]) (Ze Z2 (Ze Z2 (Ze Z2 Zi))) (show 3≤1000 by decide)))
  exact⟨_,_,rfl,.inl (Zr (Yb (Yl (Ze (Yl (Ze (Za rfl) Zi) Td) (Ze (Yl (Ze (Zdz (Za rfl) Z2) (Ze Z2 (Ze Z2 Zi))) Tn) Zi)) Ts))<|Zr (Yb (Zc6 (ds:=[]) Zi (JK _)))<|Zr iff'<|Zr (Yb (Z6l (Ze (Za rfl) Zi) (Zvp _) (by rw[OT.data_nd,OT.map_fz]))) (Z1 (Zrx (Zax (Zn (Yl (Ze (Za rfl) Zi) (Zsd B hb)) (Za rfl) (Z2m b))) (Zax (Zn (Za rfl) (Za rfl) (Z6r B)))) rfl)),_,_,_,_,rfl⟩
 ·obtain⟨z1,z2,z3,z4,rfl⟩:=h
  exact Zbk Z2
end My
namespace My
open PySem L2 PySem.Spec
theorem Zqq{P:List Xc->Prop}(h:∀a0,P [a0]):∀us:List Xc,us.length=1->P us:=λus hl=>by
 rcases us with _|⟨a0,us⟩
 ·exact absurd hl (by simp)
 rcases us with _|⟨b,us⟩
 ·exact h a0
 ·exact absurd hl (by simp)
theorem Zq9{P:List Xc->Prop}(h:∀a0 a1,P [a0,a1]):∀us:List Xc,us.length=2->P us:=λus hl=>by
 rcases us with _|⟨a0,us⟩
 ·exact absurd hl (by simp)
 rcases us with _|⟨a1,us⟩
 ·exact absurd hl (by simp)
 rcases us with _|⟨b,us⟩
 ·exact h a0 a1
 ·exact absurd hl (by simp)
theorem Yau{P:List Xc->Prop}(h:∀a0 a1 a2,P [a0,a1,a2]):∀us:List Xc,us.length=3->P us:=λus hl=>by
 rcases us with _|⟨a0,us⟩
 ·exact absurd hl (by simp)
 rcases us with _|⟨a1,us⟩
 ·exact absurd hl (by simp)
 rcases us with _|⟨a2,us⟩
 ·exact absurd hl (by simp)
 rcases us with _|⟨b,us⟩
 ·exact h a0 a1 a2
 ·exact absurd hl (by simp)
noncomputable def top(i:Nat):Stmt:=PySem.Challenge.pw_farcuts_k64_no_web_of_words.main.body.getD i (.Pass ⟨0,0,0,0⟩)
noncomputable abbrev Wj:Stmt:=top 28
noncomputable abbrev Wf:Stmt:=top 29
noncomputable abbrev Jd:Stmt:=top 30
noncomputable abbrev Wv:Stmt:=top 31
noncomputable abbrev Jg:Stmt:=top 32
noncomputable abbrev Wk:Stmt:=top 35
noncomputable abbrev Yg:Stmt:=top 14
noncomputable abbrev Zat:Stmt:=top 23
noncomputable abbrev We:Stmt:=top 24
noncomputable abbrev Jv:Stmt:=top 15
noncomputable abbrev Y0:Stmt:=top 25
noncomputable abbrev Wi:Stmt:=top 20
noncomputable abbrev Je:Stmt:=top 17
noncomputable abbrev Wl:Stmt:=top 19
noncomputable abbrev Wz:Stmt:=top 21
noncomputable abbrev Jx:Stmt:=top 22
noncomputable abbrev Y4:Stmt:=top 26
noncomputable abbrev Wc:Stmt:=top 33
noncomputable abbrev Wy:Stmt:=top 34
noncomputable abbrev Zed:Stmt:=top 36
set_option genInjectivity false in
set_option genSizeOfSpec false in
structure Txt(K:Xb)(mg:Str->Option Xc)(f:Nat->Addr)(fd:Nat->Qc)(cls:Nat->Addr):Prop where
 F_law_cell_at:Fun K "_law_cell_at" "_law_cell_at" Wj (f 0) (fd 0)
 b_law_cell_at:Binds K (fd 0) ["script","k"] []
 m_law_cell_at:mg "_law_cell_at"=some (.ref (f 0))
 F_law_numbers:Fun K "_law_numbers" "_law_numbers" Wf (f 1) (fd 1)
 b_law_numbers:Binds K (fd 1) ["cell","many","base"] []
 m_law_numbers:mg "_law_numbers"=some (.ref (f 1))
 F_law_drawn:Fun K "_law_drawn" "_law_drawn" Jd (f 2) (fd 2)
 b_law_drawn:Binds K (fd 2) ["cell"] []
 m_law_drawn:mg "_law_drawn"=some (.ref (f 2))
 F_law_unlike:Fun K "_law_unlike" "_law_unlike" Wv (f 3) (fd 3)
 b_law_unlike:Binds K (fd 3) ["one","other"] []
 m_law_unlike:mg "_law_unlike"=some (.ref (f 3))
 F_law_roads:Fun K "_law_roads" "_law_roads" Jg (f 4) (fd 4)
 b_law_roads:Binds K (fd 4) ["words"] []
 m_law_roads:mg "_law_roads"=some (.ref (f 4))
 F_law_is_good:Fun K "_law_is_good" "_law_is_good" Wk (f 5) (fd 5)
 b_law_is_good:Binds K (fd 5) ["words"] []
 m_law_is_good:mg "_law_is_good"=some (.ref (f 5))
 F_is_point_count:Fun K "is_point_count" "is_point_count" Yg (f 6) (fd 6)
 b_is_point_count:Binds K (fd 6) ["n"] []
 m_is_point_count:mg "is_point_count"=some (.ref (f 6))
 F_is_word:Fun K "is_word" "is_word" Zat (f 7) (fd 7)
 b_is_word:Binds K (fd 7) ["text","length"] []
 m_is_word:mg "is_word"=some (.ref (f 7))
 F_check_words:Fun K "check_words" "check_words" We (f 8) (fd 8)
 b_check_words:Binds K (fd 8) ["words"] []
 m_check_words:mg "check_words"=some (.ref (f 8))
 F_pairs_of:Fun K "pairs_of" "pairs_of" Jv (f 9) (fd 9)
 b_pairs_of:Binds K (fd 9) ["n"] []
 m_pairs_of:mg "pairs_of"=some (.ref (f 9))
 F_unlike_signs:Fun K "unlike_signs" "unlike_signs" Y0 (f 10) (fd 10)
 b_unlike_signs:Binds K (fd 10) ["word","other"] []
 m_unlike_signs:mg "unlike_signs"=some (.ref (f 10))
 F_beside_each:Fun K "beside_each" "beside_each" Wi (f 11) (fd 11)
 b_beside_each:Binds K (fd 11) ["n","roads"] []
 m_beside_each:mg "beside_each"=some (.ref (f 11))
 F_is_rising:Fun K "is_rising" "is_rising" Je (f 12) (fd 12)
 b_is_rising:Binds K (fd 12) ["things"] []
 m_is_rising:mg "is_rising"=some (.ref (f 12))
 F_check_roads:Fun K "check_roads" "check_roads" Wl (f 13) (fd 13)
 b_check_roads:Binds K (fd 13) ["n","roads"] []
 m_check_roads:mg "check_roads"=some (.ref (f 13))
 F_steps_from:Fun K "steps_from" "steps_from" Wz (f 14) (fd 14)
 b_steps_from:Binds K (fd 14) ["beside","start"] []
 m_steps_from:mg "steps_from"=some (.ref (f 14))
 F_web_rows:Fun K "web_rows" "web_rows" Jx (f 15) (fd 15)
 b_web_rows:Binds K (fd 15) ["n","roads"] []
 m_web_rows:mg "web_rows"=some (.ref (f 15))
 F_web_of_words:Fun K "web_of_words" "web_of_words" Y4 (f 16) (fd 16)
 b_web_of_words:Binds K (fd 16) ["words"] []
 m_web_of_words:mg "web_of_words"=some (.ref (f 16))
 F_law_refused:Fun K "_law_refused" "_law_refused" Wc (f 17) (fd 17)
 b_law_refused:Binds K (fd 17) ["words"] []
 m_law_refused:mg "_law_refused"=some (.ref (f 17))
 F_law_spoilt:Fun K "_law_spoilt" "_law_spoilt" Wy (f 18) (fd 18)
 b_law_spoilt:Binds K (fd 18) ["words","row"] []
 m_law_spoilt:mg "_law_spoilt"=some (.ref (f 18))
 F_law:Fun K "law" "law" Zed (f 19) (fd 19)
 b_law:Binds K (fd 19) ["script"] []
 m_law:mg "law"=some (.ref (f 19))
 g_MOST_POINTS:∃t,mg "MOST_POINTS"=some (.int 10 t)
 z_ValueError:mg "ValueError"=none
 z_int:mg "int"=none
 z_isinstance:mg "isinstance"=none
 z_len:mg "len"=none
 z_list:mg "list"=none
 z_range:mg "range"=none
 z_set:mg "set"=none
 z_zip:mg "zip"=none
 mC_CutError:mg "CutError"=some (.ref (cls 0))
 ca_CutError:BV K "CutError" (cls 0)
 mC_NoCut:mg "NoCut"=some (.ref (cls 1))
 ca_NoCut:BV K "NoCut" (cls 1)
 mC_NoName:mg "NoName"=some (.ref (cls 2))
 ca_NoName:BV K "NoName" (cls 2)
 mC_NoNumber:mg "NoNumber"=some (.ref (cls 3))
 ca_NoNumber:BV K "NoNumber" (cls 3)
 mC_NoOrder:mg "NoOrder"=some (.ref (cls 4))
 ca_NoOrder:BV K "NoOrder" (cls 4)
 mC_NoPoint:mg "NoPoint"=some (.ref (cls 5))
 ca_NoPoint:BV K "NoPoint" (cls 5)
 mC_NoRow:mg "NoRow"=some (.ref (cls 6))
 ca_NoRow:BV K "NoRow" (cls 6)
 mC_NoTable:mg "NoTable"=some (.ref (cls 7))
 ca_NoTable:BV K "NoTable" (cls 7)
 mC_NoText:mg "NoText"=some (.ref (cls 8))
 ca_NoText:BV K "NoText" (cls 8)
 mC_NoWeb:mg "NoWeb"=some (.ref (cls 9))
 ca_NoWeb:BV K "NoWeb" (cls 9)
 mC_TooMany:mg "TooMany"=some (.ref (cls 10))
 ca_TooMany:BV K "TooMany" (cls 10)
 r_CutError:Zjg K (cls 0)
 r_NoWeb:Zjg K (cls 9)
 x_NoWeb_ga:QZ K (.ref (cls 9)) "__getattribute__"=some (some (.builtin "BaseException.__getattribute__"))
 x_NoWeb_gt:QZ K (.ref (cls 9)) "__getattr__"=some none
 x_NoWeb_cl:QZ K (.ref (cls 9)) "__class__"=some (some (.builtin "object.__class__"))
 x_NoWeb_isB:JL K (.ref (cls 9)) (.type "BaseException")=some true
 x_NoWeb_isO:JL K (.ref (cls 9)) (.type "object")=some true
 x_NoWeb_isC:PySem.W.isClsIn K (cls 9)=true
 x_NoWeb_k1:Qg K (.ref (cls 9)) (.type "int")=some false
 x_NoWeb_k2:Qg K (.ref (cls 9)) (.type "bool")=some false
 x_NoWeb_k3:Qg K (.ref (cls 9)) (.type "str")=some false
 x_NoWeb_k4:Qg K (.ref (cls 9)) (.type "list")=some false
 x_NoWeb_k5:Qg K (.ref (cls 9)) (.type "tuple")=some false
 u_NoWeb_CutError:JL K (.ref (cls 9)) (.ref (cls 0))=some true
 kt_NoWeb_NoWeb:Qg K (.ref (cls 9)) (.ref (cls 9))=some true
 kt_NoWeb_ValueError:Qg K (.ref (cls 9)) (.type "ValueError")=some true
 ka_NoWeb_0:Vv K (.ref (cls 9)) [.ref (cls 1),.ref (cls 2),.ref (cls 3),.ref (cls 4),.ref (cls 5),.ref (cls 6),.ref (cls 7),.ref (cls 8),.ref (cls 10)]=some false
theorem Txt.x_NoWeb{K:Xb}{mg:Str->Option Xc}{f:Nat->Addr}{fd:Nat->Qc}{cls:Nat->Addr}(T:Txt K mg f fd cls):Zb6 K (cls 9):=⟨T.x_NoWeb_ga,T.x_NoWeb_gt,T.x_NoWeb_cl,T.x_NoWeb_isB,T.x_NoWeb_isO,T.x_NoWeb_isC,T.x_NoWeb_k1,T.x_NoWeb_k2,T.x_NoWeb_k3,T.x_NoWeb_k4,T.x_NoWeb_k5⟩
theorem Txt.kx_NoWeb{K:Xb}{mg:Str->Option Xc}{f:Nat->Addr}{fd:Nat->Qc}{cls:Nat->Addr}(T:Txt K mg f fd cls):∀x∈xsL,∃C,BV K x C∧Qg K (.ref C) (.ref (cls 9))=some (Zly x "NoWeb"):=λx hx=>by
 simp only[xsL,Xn,Q3,or_false]at hx
 rcases hx with rfl
 ·exact⟨_,T.ca_NoWeb,T.kt_NoWeb_NoWeb.trans (congrArg some (by decide +kernel))⟩
theorem Txt.kx_ValueError{K:Xb}{mg:Str->Option Xc}{f:Nat->Addr}{fd:Nat->Qc}{cls:Nat->Addr}(T:Txt K mg f fd cls):∀x∈xsL,∃C,BV K x C∧Qg K (.ref C) (.type "ValueError")=some (Zly x "ValueError"):=λx hx=>by
 simp only[xsL,Xn,Q3,or_false]at hx
 rcases hx with rfl
 ·exact⟨_,T.ca_NoWeb,T.kt_NoWeb_ValueError.trans (congrArg some (by decide +kernel))⟩
theorem Txt.kxt_0{K:Xb}{mg:Str->Option Xc}{f:Nat->Addr}{fd:Nat->Qc}{cls:Nat->Addr}(T:Txt K mg f fd cls):∀x∈xsL,∃C,BV K x C∧Vv K (.ref C) [.ref (cls 1),.ref (cls 2),.ref (cls 3),.ref (cls 4),.ref (cls 5),.ref (cls 6),.ref (cls 7),.ref (cls 8),.ref (cls 10)]=some ((["NoCut","NoName","NoNumber","NoOrder","NoPoint","NoRow","NoTable","NoText","TooMany"]:List Str).any (Zly x)):=λx hx=>by
 simp only[xsL,Xn,Q3,or_false]at hx
 rcases hx with rfl
 ·exact⟨_,T.ca_NoWeb,T.ka_NoWeb_0.trans (congrArg some (by decide +kernel))⟩
theorem Txt.ku_CutError{K:Xb}{mg:Str->Option Xc}{f:Nat->Addr}{fd:Nat->Qc}{cls:Nat->Addr}(T:Txt K mg f fd cls):∀x∈xsL,Zly x "CutError"=true->∃C,BV K x C∧Zb6 K C∧JL K (.ref C) (.ref (cls 0))=some true:=λx hx=>by
 simp only[xsL,Xn,Q3,or_false]at hx
 rcases hx with rfl
 ·exact λ_=>⟨_,T.ca_NoWeb,T.x_NoWeb,T.u_NoWeb_CutError⟩
section
variable {P:X4}{w:Qv}{K:Xb}{mg:Str->Option Xc}{base:Heap}
theorem Zf2:Z0 ["script","k"] ["script","k"] (Zh Wj):=⟨rfl,rfl,rfl,by decide +kernel,rfl,by decide +kernel,by decide +kernel⟩
theorem Zfz{f:Nat->Addr}{fd:Nat->Qc}{cls:Nat->Addr}(T:Txt K mg f fd cls):FnOk P w K mg base CX0 1 (f 0) (fd 0) ["script","k"] (spD K (sD Y6)):=by
 refine Ww T.F_law_cell_at Zf2 (S:=Zaf) rfl rfl (λcdv A outer s H E hr=>?_)
 have hu:=hr.units
 exact(xsq (xif (xlt (xv 1) (xln T.z_len (xa1 (xv 0)))) (Zg (xrt (xix (xv 0) (xv 1)))) xnl) (Zg (xrt xci)))
theorem Zx:Z0 ["cell","many","base","row","rest","k","stir"] ["cell","many","base"] (Zh Wf):=⟨rfl,rfl,rfl,by decide +kernel,rfl,by decide +kernel,by decide +kernel⟩
theorem Zck{f:Nat->Addr}{fd:Nat->Qc}{cls:Nat->Addr}(T:Txt K mg f fd cls):FnOk P w K mg base CX0 1 (f 1) (fd 1) ["cell","many","base"] (spD K (sD Z4)):=by
 refine Ww T.F_law_numbers Zx (S:=J7) rfl rfl (λcdv A outer s H E hr=>?_)
 have hu:=hr.units
 exact(xsq (xst 0 Zx.nd (Zh4 (xv 0) (Zx2 (Z3f xci xci) (Z3f xci xci)))) (xsq (xso 3 Zx.nd (xls xa0)) (xsq (xst 4 Zx.nd (Z64 (xv 0) (Z3f xci xci))) (xsq (xfr Qm rfl (Zcq (Yc (by rfl) T.z_range (xa1 (xv 1)))) (xg 5 Zx.nd) (xsq (xst 6 Zx.nd (Zh4 (Zx2 (Zfs (Zfs (xv 0) (Zx2 xci (xv 5))) xci) xci) xci)) (xsq (xst 6 Zx.nd (Zh4 (Zx2 (xv 6) (xv 6)) xci)) (xsq (xst 6 Zx.nd (Zy4 (Zh4 (Zx2 (Zfs (xv 6) (Zx2 xci (Zfs (xv 5) xci))) xci) xci) xci)) (xsq (xif (xge (xv 0) (Z3f xci xci)) (xsq (xst 6 Zx.nd (xv 4)) (Zg (xst 4 Zx.nd (Zy4 (xv 4) (xv 2))))) xnl) (Zg (Jl (Jm 3 (Zh4 (xv 6) (xv 2)))))))))) (Zg (Zbn (Zbh 3)))))))
theorem Z8:Z0 ["cell","row","size","words","k","word","turn","number","at"] ["cell"] (Zh Jd):=⟨rfl,rfl,rfl,by decide +kernel,rfl,by decide +kernel,by decide +kernel⟩
theorem Zif{f:Nat->Addr}{fd:Nat->Qc}{cls:Nat->Addr}(T:Txt K mg f fd cls):FnOk P w K mg base CX0 2 (f 2) (fd 2) ["cell"] (spD K (sD Ws)):=by
 have G_law_numbers:=Zck (P:=P) (w:=w) (base:=base) T
 refine Ww T.F_law_drawn Z8 (S:=Zbe) rfl rfl (λcdv A outer s H E hr=>?_)
 have hu:=hr.units
 exact(xsq (Zgc (Zga (i:=1) Z8.nd rfl (Qo rfl) (xcl G_law_numbers (hr.mono (by decide)) T.m_law_numbers T.F_law_numbers.kp T.b_law_numbers (Zj (xv 0) (Zj xci (xa1 xci)))))) (xsq (xst 2 Z8.nd (Zh4 (xix (xv 1) xci) xci)) (xsq (xso 3 Z8.nd (xls (xa1 (Zn5 (Zxg Zt9 F.slot_str_join F.type_str_join (Zuy rfl) (Zeh Zbb) (xa1 (Zay (Zcz (own:=["at"]) (caps:=[1]) (N':=["at","row"]) (by exact⟨rfl,by decide +kernel,rfl,by decide +kernel,rfl,rfl⟩) (by rfl) (by decide) (Zcq (Yc (by rfl) T.z_range (xa1 (xv 2)))) (λ_ _ _ _ _=>(xg 0 (by show JZ (["at","row"]:List Str);decide +kernel))) (λ_ _ _ _ _=>(Zdt Zdx)) (λ_ _ _ _ _=>(Zcw (J3 Zj0 (Zts (Zbw rfl) Zfd (Zeh Zbb) (Zh4 (Zy4 (xix (xv 1) (Zfs xci (xv 0))) xci) xci) (hs:=λ_ _=>rfl))))))))))))) (xsq (xfr Qm rfl (Zu0 (Zfi (by rfl) T.z_range (Zj xci (xa1 (Zfs xci (Zh4 (xix (xv 1) xci) xci)))))) (xg 4 Z8.nd) (xsq (Zww (Zvj (i:=5) Z8.nd rfl (QG rfl) (xix (xo 3) (Zh4 (xix (xv 1) (Zfs xci (xv 4))) (xln T.z_len (xa1 (xo 3))))))) (xsq (xso 6 Z8.nd (xls (xa1 (xix (xv 1) (Zfs xci (xv 4)))))) (xsq (xif (xeq hu (Zh4 (xix (xv 1) (Zfs xci (xv 4))) xci) xci) (Zg (Jl (Jm 6 (Zy4 (xix (xv 1) (Zfs xci (xv 4))) xci)))) xnl) (xsq (Zh5 (Zin 6 (xfr Qm rfl (xil (xv 6)) (xg 7 Z8.nd) (Zg (xif (xgt (xv 2) xci) (xsq (xst 8 Z8.nd (Zh4 (xv 7) (xv 2))) (Zg (xst 5 Z8.nd (Yd Zdf (Zbr Wg Za1 (Yd Zdf (Zbr Wg Za1 (Zd9 (Zi3 (xv 5) (Js Jq) (W5 (W7 (xv 8))))) (Zcw (J3 Zj0 (Zts (Zbw rfl) Zfd (Zeh Zbb) (J2 Zuu (Z4u Zsp Zl8 (by rfl) T.z_int L2.B.boot_int (xa1 (Zcw (J3 Zj0 (Zts (Zbw rfl) Zfd (xv 5) (xv 8) (hs:=λ_ _=>rfl))))))) (hs:=λ_ _=>rfl)))))) (Zd9 (Zi3 (xv 5) (W5 (W7 (Zfs (xv 8) xci))) (Js Jq)))))))) xnl))))) (Zg (xif (Zb9 Zoc (Zcc (Zit rfl) Zpl (xv 5) (xo 3) (hm:=(by with_unfolding_all rfl)))) (Zg (Znc (Zo3 3 (Zj (Zh4 (xix (xv 1) (Zfs xci (xv 4))) (Zfs (xln T.z_len (xa1 (xo 3))) xci)) (xa1 (xv 5)))))) xnl))))))) (Zg (Zbn (Zbh 3)))))))
theorem Zhx:Z0 ["one","other"] ["one","other"] (Zh Wv):=⟨rfl,rfl,rfl,by decide +kernel,rfl,by decide +kernel,by decide +kernel⟩
theorem Zg1{f:Nat->Addr}{fd:Nat->Qc}{cls:Nat->Addr}(T:Txt K mg f fd cls):FnOk P w K mg base CX0 1 (f 3) (fd 3) ["one","other"] (spD K (sD Wm)):=by
 refine Ww T.F_law_unlike Zhx (S:=Zan) rfl rfl (λcdv A outer s H E hr=>?_)
 have hu:=hr.units
 exact(Zg (xrt (xln T.z_len (xa1 (Zay (Zcz (own:=["at"]) (caps:=[0,1]) (N':=["at","one","other"]) (by exact⟨rfl,by decide +kernel,rfl,by decide +kernel,rfl,rfl⟩) (by rfl) (by decide) (Zcq (Yc (by rfl) T.z_range (xa1 (J2 Zd5 (Zc3 Zbp Yt (by rfl) T.z_len L2.B.boot_len (xa1 (xv 0))))))) (λ_ _ _ _ _=>(xg 0 (by show JZ (["at","one","other"]:List Str);decide +kernel))) (λ_ _ _ _ _=>(Zdl (xne hu (Zcw (J3 Zj0 (Zts (Zbw rfl) Zfd (xv 1) (xv 0) (hs:=λ_ _=>rfl)))) (Zcw (J3 Zj0 (Zts (Zbw rfl) Zfd (xv 2) (xv 0) (hs:=λ_ _=>rfl))))))) (λ_ _ _ _ _=>(xv 0))))))))
theorem Zbl:Z0 ["words","roads","a"] ["words"] (Zh Jg):=⟨rfl,rfl,rfl,by decide +kernel,rfl,by decide +kernel,by decide +kernel⟩
theorem Zi1{f:Nat->Addr}{fd:Nat->Qc}{cls:Nat->Addr}(T:Txt K mg f fd cls):FnOk P w K mg base CX0 2 (f 4) (fd 4) ["words"] (spD K (sD Jr)):=by
 have G_law_unlike:=Zg1 (P:=P) (w:=w) (base:=base) T
 refine Ww T.F_law_roads Zbl (S:=Zbc) rfl rfl (λcdv A outer s H E hr=>?_)
 have hu:=hr.units
 exact(xsq (xso 1 Zbl.nd (xls xa0)) (xsq (xfr Qm rfl (Zcq (Yc (by rfl) T.z_range (xa1 (xln T.z_len (xa1 (xv 0)))))) (xg 2 Zbl.nd) (Zg (Zh7 (Zir 1 (Zay (Zcz (own:=["b"]) (caps:=[2,0]) (N':=["b","a","words"]) (by exact⟨rfl,by decide +kernel,rfl,by decide +kernel,rfl,rfl⟩) (by rfl) (by decide) (Zu0 (Zfi (by rfl) T.z_range (Zj (Zfs (xv 2) xci) (xa1 (xln T.z_len (xa1 (xv 0))))))) (λ_ _ _ _ _=>(xg 0 (by show JZ (["b","a","words"]:List Str);decide +kernel))) (λ_ _ _ _ _=>(Zdl (xeq hu (xcl G_law_unlike (hr.mono (by decide)) T.m_law_unlike T.F_law_unlike.kp T.b_law_unlike (Zj (xix (xv 2) (xv 1)) (xa1 (xix (xv 2) (xv 0))))) xci))) (λ_ _ _ _ _=>(xtp (Zj (xv 1) (xa1 (xv 0))))))))))) (Zg (Zbn (Zbh 1)))))
theorem Ym:Z0 ["words","k","sign","come","turn","a","b"] ["words"] (Zh Wk):=⟨rfl,rfl,rfl,by decide +kernel,rfl,by decide +kernel,by decide +kernel⟩
theorem Zfy{f:Nat->Addr}{fd:Nat->Qc}{cls:Nat->Addr}(T:Txt K mg f fd cls):FnOk P w K mg base CX0 3 (f 5) (fd 5) ["words"] (spD K (sD Yi)):=by
 have G_law_roads:=Zi1 (P:=P) (w:=w) (base:=base) T
 refine Ww T.F_law_is_good Ym (S:=Zad) rfl rfl (λcdv A outer s H E hr=>?_)
 have hu:=hr.units
 exact(xsq (xif (MW.mt (Zmk (Zlt (xlt (xln T.z_len (xa1 (xv 0))) xci) (Zgf (xgt (xln T.z_len (xa1 (xv 0))) xci))))) (Zg (xrt (Zeh Zfx))) xnl) (xsq (xfr Qm rfl (Zcq (Yc (by rfl) T.z_range (xa1 (xln T.z_len (xa1 (xv 0)))))) (xg 1 Ym.nd) (xsq (xif (MW.mt (Zmk (Zlt (xne hu (J2 Zd5 (Zc3 Zbp Yt (by rfl) T.z_len L2.B.boot_len (xa1 (xix (xv 0) (xv 1))))) (J2 Zd5 (Zc3 Zbp Yt (by rfl) T.z_len L2.B.boot_len (xa1 (xix (xv 0) xci))))) (Zgf (Zb9 Zoc (Zcc (Zpw rfl) Zpl (xix (xv 0) (xv 1)) (Zmq (Zo8 (xv 0) (Js Jq) (W5 (W7 (xv 1))))) (hm:=(by with_unfolding_all rfl)))))))) (Zg (xrt (Zeh Zfx))) xnl) (Zg (xfr Qm rfl (Zzo (Z2g (xix (xv 0) (xv 1)))) (xg 2 Ym.nd) (Zg (xif (MW.mt (Z0f (Zzl (xne hu (xv 2) (Zeh Zbb)) (Zwu (xne hu (xv 2) (Zeh Zbb)))))) (Zg (xrt (Zeh Zfx))) xnl)))))) (xsq (Zpt (Zpr (i:=3) Ym.nd rfl (Qo rfl) (xls (xa1 xci)))) (xsq (xfr Qm rfl (Zcq (Yc (by rfl) T.z_range (xa1 (xln T.z_len (xa1 (xv 0)))))) (xg 4 Ym.nd) (Zg (xfr Qm rfl (xil (xcl G_law_roads (hr.mono (by decide)) T.m_law_roads T.F_law_roads.kp T.b_law_roads (xa1 (xv 0)))) (xg2 rfl (xg 5 Ym.nd) (xg 6 Ym.nd)) (Zg (xif (xne hu (Yd Zoc (Znk (Zpw rfl) Zpl (xv 5) (xo 3) (hm:=(by with_unfolding_all rfl)))) (Yd Zoc (Znk (Zpw rfl) Zpl (xv 6) (xo 3) (hm:=(by with_unfolding_all rfl))))) (Zg (Zh7 (Zir 3 (Zay (Zcz (own:=["one"]) (caps:=[3]) (N':=["one","come"]) (by exact⟨rfl,by decide +kernel,rfl,by decide +kernel,rfl,rfl⟩) (by rfl) (by decide) (Zy6 (Zzn (xtp (Zj (xv 5) (xa1 (xv 6)))))) (λ_ _ _ _ _=>(xg 0 (by show JZ (["one","come"]:List Str);decide +kernel))) (λ_ _ _ _ _=>(Zdl (Zb9 Zoc (Zcc (Zit rfl) Zpl (xv 0) (xo 1) (hm:=(by with_unfolding_all rfl)))))) (λ_ _ _ _ _=>(xv 0))))))) xnl))))) (Zg (xrt (Yd Z3e (Znk (Zkw hu) Zr9 (xln T.z_len (xa1 (xo 3))) (xln T.z_len (xa1 (xv 0))) (hm:=(Zcx _))))))))))
theorem Zdk:Z0 ["n"] ["n"] (Zh Yg):=⟨rfl,rfl,rfl,by decide +kernel,rfl,by decide +kernel,by decide +kernel⟩
theorem Wd{f:Nat->Addr}{fd:Nat->Qc}{cls:Nat->Addr}(T:Txt K mg f fd cls):FnOk P w K mg base CX0 1 (f 6) (fd 6) ["n"] (spD K (sD Zv)):=by
 refine Ww T.F_is_point_count Zdk (S:=Jp) rfl rfl (λcdv A outer s H E hr=>?_)
 have hu:=hr.units
 exact(Zg (xrt (Zrd (Zui Zlo Zlo xci (xv 0) (Zeh (Zwo (by rfl) T.g_MOST_POINTS))))))
theorem Zls:Z0 ["text","length"] ["text","length"] (Zh Zat):=⟨rfl,rfl,rfl,by decide +kernel,rfl,by decide +kernel,by decide +kernel⟩
theorem Zgb{f:Nat->Addr}{fd:Nat->Qc}{cls:Nat->Addr}(T:Txt K mg f fd cls):FnOk P w K mg base CX0 1 (f 7) (fd 7) ["text","length"] (spD K (sD Y5)):=by
 refine Ww T.F_is_word Zls (S:=Zcl) rfl rfl (λcdv A outer s H E hr=>?_)
 have hu:=hr.units
 exact(Zg (xrt (Zt0 (Z4q (Yd Z3e (Znk (Zkw hu) Zr9 (J2 Zd5 (Zc3 Zbp Yt (by rfl) T.z_len L2.B.boot_len (xa1 (xv 0)))) (xv 1) (hm:=(Zcx _)))) (Z5h (Yd Z3e (Znk (Zkw hu) Zr9 (Zfs (Zn5 (Zxg Zko F.slot_str_count F.type_str_count Zkk (xv 0) (xa1 (Zeh Zbb)))) (Zn5 (Zxg Zko F.slot_str_count F.type_str_count Zkk (xv 0) (xa1 (Zeh Zbb))))) (xv 1) (hm:=(Zcx _)))))))))
theorem Ji:Z0 ["words","word"] ["words"] (Zh We):=⟨rfl,rfl,rfl,by decide +kernel,rfl,by decide +kernel,by decide +kernel⟩
theorem Zcm{f:Nat->Addr}{fd:Nat->Qc}{cls:Nat->Addr}(T:Txt K mg f fd cls):FnOk P w K mg base CX0 2 (f 8) (fd 8) ["words"] (spD K (sD Yh)):=by
 have G_is_point_count:=Wd (P:=P) (w:=w) (base:=base) T
 have G_is_word:=Zgb (P:=P) (w:=w) (base:=base) T
 refine Ww T.F_check_words Ji (S:=W4) rfl rfl (λcdv A outer s H E hr=>?_)
 have hu:=hr.units
 exact(xsq (xif (MW.mt (Zmk (Zlt (xno (Za9 (Zba (xcl G_is_point_count (hr.mono (by decide)) T.m_is_point_count T.F_is_point_count.kp T.b_is_point_count (xa1 (xln T.z_len (xa1 (xv 0))))) (λ_=>rfl)))) (Zgf (xlt (Zdp (Zev (by rfl) (by rfl) T.z_len L2.B.boot_len (by rfl) T.z_set L2.B.boot_set (xa1 (xv 0)))) (xln T.z_len (xa1 (xv 0)))))))) (Zg Y8) xnl) (Zg (xfr Qm rfl (xil (xv 0)) (xg 1 Ji.nd) (Zg (xif (xno (Za9 (Zba (xcl G_is_word (hr.mono (by decide)) T.m_is_word T.F_is_word.kp T.b_is_word (Zj (xv 1) (xa1 (J2 Zd5 (Zc3 Zbp Yt (by rfl) T.z_len L2.B.boot_len (xa1 (xix (xv 0) xci))))))) (λ_=>rfl)))) (Zg Y8) xnl)))))
theorem Zbg{f:Nat->Addr}{fd:Nat->Qc}{cls:Nat->Addr}(T:Txt K mg f fd cls):FnOk P w K mg base (CX1 P w) 2 (f 8) (fd 8) ["words"] (spX K (sX K Yh)):=by
 have G_is_point_count:=Wd (P:=P) (w:=w) (base:=base) T
 have G_is_word:=Zgb (P:=P) (w:=w) (base:=base) T
 refine Zlf T.F_check_words Ji (S:=W4) rfl rfl (λcdv A outer s H E hr=>?_)
 have hu:=hr.units
 exact(Zaj (Zmd (Zlu (MW.mt (Zmk (Zlt (xno (Za9 (Zba (xcl G_is_point_count (hr.mono (by decide)) T.m_is_point_count T.F_is_point_count.kp T.b_is_point_count (xa1 (xln T.z_len (xa1 (xv 0))))) (λ_=>rfl)))) (Zgf (xlt (Zdp (Zev (by rfl) (by rfl) T.z_len L2.B.boot_len (by rfl) T.z_set L2.B.boot_set (xa1 (xv 0)))) (xln T.z_len (xa1 (xv 0)))))))) (J4 (Zb3 T.ca_NoWeb (Zb2 rfl hr.hd (by rfl) T.mC_NoWeb T.r_NoWeb))) (Zdc _))) (xif (MW.mt (Zmk (Zlt (xno (Za9 (Zba (xcl G_is_point_count (hr.mono (by decide)) T.m_is_point_count T.F_is_point_count.kp T.b_is_point_count (xa1 (xln T.z_len (xa1 (xv 0))))) (λ_=>rfl)))) (Zgf (xlt (Zdp (Zev (by rfl) (by rfl) T.z_len L2.B.boot_len (by rfl) T.z_set L2.B.boot_set (xa1 (xv 0)))) (xln T.z_len (xa1 (xv 0)))))))) (Zg Y8) xnl) (J4 (Zob (Zpe rfl (xil (xv 0)) (xg 1 Ji.nd) (Zg (xif (xno (Za9 (Zba (xcl G_is_word (hr.mono (by decide)) T.m_is_word T.F_is_word.kp T.b_is_word (Zj (xv 1) (xa1 (J2 Zd5 (Zc3 Zbp Yt (by rfl) T.z_len L2.B.boot_len (xa1 (xix (xv 0) xci))))))) (λ_=>rfl)))) (Zg Y8) xnl)) (J4 (Zmd (Zlu (xno (Za9 (Zba (xcl G_is_word (hr.mono (by decide)) T.m_is_word T.F_is_word.kp T.b_is_word (Zj (xv 1) (xa1 (J2 Zd5 (Zc3 Zbp Yt (by rfl) T.z_len L2.B.boot_len (xa1 (xix (xv 0) xci))))))) (λ_=>rfl)))) (J4 (Zb3 T.ca_NoWeb (Zb2 rfl hr.hd (by rfl) T.mC_NoWeb T.r_NoWeb))) (Zdc _))))))))
theorem Za4:Z0 ["n","pairs","i","j"] ["n"] (Zh Jv):=⟨rfl,rfl,rfl,by decide +kernel,rfl,by decide +kernel,by decide +kernel⟩
theorem Zer{f:Nat->Addr}{fd:Nat->Qc}{cls:Nat->Addr}(T:Txt K mg f fd cls):FnOk P w K mg base CX0 1 (f 9) (fd 9) ["n"] (spD K (sD W0)):=by
 refine Ww T.F_pairs_of Za4 (S:=Zbj) rfl rfl (λcdv A outer s H E hr=>?_)
 have hu:=hr.units
 exact(xsq (xso 1 Za4.nd (xls xa0)) (xsq (xfr Qm rfl (Zcq (Yc (by rfl) T.z_range (xa1 (xv 0)))) (xg 2 Za4.nd) (Zg (xfr Qm rfl (Zu0 (Zfi (by rfl) T.z_range (Zj (Zfs (xv 2) xci) (xa1 (xv 0))))) (xg 3 Za4.nd) (Zg (Jl (Jm 1 (xtp (Zj (xv 2) (xa1 (xv 3)))))))))) (Zg (Zbn (Zbh 1)))))
theorem Zfc:Z0 ["word","other"] ["word","other"] (Zh Y0):=⟨rfl,rfl,rfl,by decide +kernel,rfl,by decide +kernel,by decide +kernel⟩
theorem Zbv{f:Nat->Addr}{fd:Nat->Qc}{cls:Nat->Addr}(T:Txt K mg f fd cls):FnOk P w K mg base CX0 1 (f 10) (fd 10) ["word","other"] (spD K (sD Yx)):=by
 refine Ww T.F_unlike_signs Zfc (S:=Jz) rfl rfl (λcdv A outer s H E hr=>?_)
 have hu:=hr.units
 exact(Zg (xrt (xln T.z_len (xa1 (Zay (Zcz (own:=["sign","beside"]) (caps:=[]) (N':=["sign","beside"]) (by exact⟨rfl,by decide +kernel,rfl,by decide +kernel,rfl,rfl⟩) (by rfl) (by decide) (Zur (Zw3 (by rfl) T.z_zip L2.B.boot_zip (Zj (xv 0) (xa1 (xv 1))))) (λ_ _ _ _ _=>(xg2 rfl (xg 0 (by show JZ (["sign","beside"]:List Str);decide +kernel)) (xg 1 (by show JZ (["sign","beside"]:List Str);decide +kernel)))) (λ_ _ _ _ _=>(Zdl (xne hu (xv 0) (xv 1)))) (λ_ _ _ _ _=>(xv 0))))))))
theorem Jj:Z0 ["n","roads","beside","a","b"] ["n","roads"] (Zh Wi):=⟨rfl,rfl,rfl,by decide +kernel,rfl,by decide +kernel,by decide +kernel⟩
theorem Zca{f:Nat->Addr}{fd:Nat->Qc}{cls:Nat->Addr}(T:Txt K mg f fd cls):FnOk P w K mg base CX0 1 (f 11) (fd 11) ["n","roads"] (spD K (sD W2)):=by
 refine Ww T.F_beside_each Jj (S:=J9) rfl rfl (λcdv A outer s H E hr=>?_)
 have hu:=hr.units
 exact(xsq (Zhr (Zds (i:=2) (own:=["point"]) (caps:=[]) (N':=["point"]) true Jj.nd rfl (QG rfl) (by exact⟨rfl,by decide +kernel,rfl,by decide +kernel,rfl,rfl⟩) (by rfl) (by decide) (Zcq (Yc (by rfl) T.z_range (xa1 (xv 0)))) (λ_ _ _ _ _=>(xg 0 (by show JZ (["point"]:List Str);decide +kernel))) (λ_ _ _ _ _=>(Zdt Zdx)) (λ_ _ _ _ _=>(xls xa0)))) (xsq (xfr Qm rfl (xil (xv 1)) (xg2 rfl (xg 3 Jj.nd) (xg 4 Jj.nd)) (xsq (Zk0 (Zlg 2 (xv 3) (xv 4))) (Zg (Zk0 (Zlg 2 (xv 4) (xv 3)))))) (Zg (Zbn (Zbh 2)))))
theorem Zbq:Z0 ["things","one","behind"] ["things"] (Zh Je):=⟨rfl,rfl,rfl,by decide +kernel,rfl,by decide +kernel,by decide +kernel⟩
theorem Zd3{f:Nat->Addr}{fd:Nat->Qc}{cls:Nat->Addr}(T:Txt K mg f fd cls):FnOk P w K mg base CX0 1 (f 12) (fd 12) ["things"] (spD K (sD Jt)):=by
 refine Ww T.F_is_rising Zbq (S:=Zbd) rfl rfl (λcdv A outer s H E hr=>?_)
 have hu:=hr.units
 exact(xsq (xfr Qm rfl (Zwg (Zxw (by rfl) T.z_zip L2.B.boot_zip (Zj (xv 0) (xa1 (Zmq (Zo8 (xv 0) (W5 (W7 xci)) (Js Jq))))))) (xg2 rfl (xg 1 Zbq.nd) (xg 2 Zbq.nd)) (Zg (xif (xno (Zb9 Z42 (Zcc (Z1w hu) Z0y (xv 1) (xv 2) (hm:=(Zcx _))))) (Zg (xrt (Zeh Zfx))) xnl))) (Zg (xrt (Zeh Zfx))))
theorem Z7:Z0 ["n","roads","a","b"] ["n","roads"] (Zh Wl):=⟨rfl,rfl,rfl,by decide +kernel,rfl,by decide +kernel,by decide +kernel⟩
theorem Zcg{f:Nat->Addr}{fd:Nat->Qc}{cls:Nat->Addr}(T:Txt K mg f fd cls):FnOk P w K mg base CX0 2 (f 13) (fd 13) ["n","roads"] (spD K (sD Y7)):=by
 have G_is_point_count:=Wd (P:=P) (w:=w) (base:=base) T
 have G_is_rising:=Zd3 (P:=P) (w:=w) (base:=base) T
 refine Ww T.F_check_roads Z7 (S:=W6) rfl rfl (λcdv A outer s H E hr=>?_)
 have hu:=hr.units
 exact(xsq (xif (xno (Za9 (Zba (xcl G_is_point_count (hr.mono (by decide)) T.m_is_point_count T.F_is_point_count.kp T.b_is_point_count (xa1 (xv 0))) (λ_=>rfl)))) (Zg Y8) xnl) (xsq (xfr Qm rfl (xil (xv 1)) (xg2 rfl (xg 2 Z7.nd) (xg 3 Z7.nd)) (Zg (xif (xno (Zc8 (Zc9 Zlo Zhl Zhl xci (xv 2) (xv 3) (xv 0)))) (Zg Y8) xnl))) (Zg (xif (xno (Za9 (Zba (xcl G_is_rising (hr.mono (by decide)) T.m_is_rising T.F_is_rising.kp T.b_is_rising (xa1 (xv 1))) (λ_=>rfl)))) (Zg Y8) xnl))))
theorem Zbm{f:Nat->Addr}{fd:Nat->Qc}{cls:Nat->Addr}(T:Txt K mg f fd cls):FnOk P w K mg base (CX1 P w) 2 (f 13) (fd 13) ["n","roads"] (spX K (sX K Y7)):=by
 have G_is_point_count:=Wd (P:=P) (w:=w) (base:=base) T
 have G_is_rising:=Zd3 (P:=P) (w:=w) (base:=base) T
 refine Zlf T.F_check_roads Z7 (S:=W6) rfl rfl (λcdv A outer s H E hr=>?_)
 have hu:=hr.units
 exact(Zaj (Zmd (Zlu (xno (Za9 (Zba (xcl G_is_point_count (hr.mono (by decide)) T.m_is_point_count T.F_is_point_count.kp T.b_is_point_count (xa1 (xv 0))) (λ_=>rfl)))) (J4 (Zb3 T.ca_NoWeb (Zb2 rfl hr.hd (by rfl) T.mC_NoWeb T.r_NoWeb))) (Zdc _))) (xif (xno (Za9 (Zba (xcl G_is_point_count (hr.mono (by decide)) T.m_is_point_count T.F_is_point_count.kp T.b_is_point_count (xa1 (xv 0))) (λ_=>rfl)))) (Zg Y8) xnl) (Zaj (Zob (Zpe rfl (xil (xv 1)) (xg2 rfl (xg 2 Z7.nd) (xg 3 Z7.nd)) (Zg (xif (xno (Zc8 (Zc9 Zlo Zhl Zhl xci (xv 2) (xv 3) (xv 0)))) (Zg Y8) xnl)) (J4 (Zmd (Zlu (xno (Zc8 (Zc9 Zlo Zhl Zhl xci (xv 2) (xv 3) (xv 0)))) (J4 (Zb3 T.ca_NoWeb (Zb2 rfl hr.hd (by rfl) T.mC_NoWeb T.r_NoWeb))) (Zdc _)))))) (xfr Qm rfl (xil (xv 1)) (xg2 rfl (xg 2 Z7.nd) (xg 3 Z7.nd)) (Zg (xif (xno (Zc8 (Zc9 Zlo Zhl Zhl xci (xv 2) (xv 3) (xv 0)))) (Zg Y8) xnl))) (J4 (Zmd (Zlu (xno (Za9 (Zba (xcl G_is_rising (hr.mono (by decide)) T.m_is_rising T.F_is_rising.kp T.b_is_rising (xa1 (xv 1))) (λ_=>rfl)))) (J4 (Zb3 T.ca_NoWeb (Zb2 rfl hr.hd (by rfl) T.mC_NoWeb T.r_NoWeb))) (Zdc _))))))
theorem Yu:Z0 ["beside","start","steps","edge","beyond","point","other"] ["beside","start"] (Zh Wz):=⟨rfl,rfl,rfl,by decide +kernel,rfl,by decide +kernel,by decide +kernel⟩
theorem Zc5{f:Nat->Addr}{fd:Nat->Qc}{cls:Nat->Addr}(T:Txt K mg f fd cls):FnOk P w K mg base CX0 1 (f 14) (fd 14) ["beside","start"] (spD K (sD Jf)):=by
 refine Ww T.F_steps_from Yu (S:=Zas) rfl rfl (λcdv A outer s H E hr=>?_)
 have hu:=hr.units
 exact(xsq (xso 2 Yu.nd (Zr1 (Zvr (xv 1) xci))) (xsq (xst 3 Yu.nd (xls (xa1 (xv 1)))) (xsq (Zqu (Zrj Qm (xgt (xln T.z_len (xa1 (xv 3))) xci) (xsq (xso 4 Yu.nd (xls xa0)) (xsq (xfr Qm rfl (xil (xv 3)) (xg 5 Yu.nd) (Zg (xfr Qm rfl (xil (xix (xv 0) (xv 5))) (xg 6 Yu.nd) (Zg (xif (Zb9 Z6x (Zcc (Znt hu) Zyk (xv 6) (xo 2) (hm:=(by with_unfolding_all rfl)))) (xsq (Zup (Zvk 2 hu (Zfs (Zcw (J3 Zrn (Zq7 hu (xo 2) (xv 5) (hs:=λ_ _=>rfl)))) xci) (xv 6))) (Zg (Jl (Jm 4 (xv 6))))) xnl))))) (Zg (Zh5 (Zin 4 (xst 3 Yu.nd (xv 4))))))))) (Zg (Zbn (Zbh 2))))))
theorem Zz:Z0 ["n","roads","beside","rows","start","steps"] ["n","roads"] (Zh Jx):=⟨rfl,rfl,rfl,by decide +kernel,rfl,by decide +kernel,by decide +kernel⟩
theorem Zeo{f:Nat->Addr}{fd:Nat->Qc}{cls:Nat->Addr}(T:Txt K mg f fd cls):FnOk P w K mg base CX0 3 (f 15) (fd 15) ["n","roads"] (spD K (sD Yp)):=by
 have G_beside_each:=Zca (P:=P) (w:=w) (base:=base) T
 have G_check_roads:=Zcg (P:=P) (w:=w) (base:=base) T
 have GX_check_roads:=Zbm (P:=P) (w:=w) (base:=base) T
 have G_steps_from:=Zc5 (P:=P) (w:=w) (base:=base) T
 refine Ww T.F_web_rows Zz (S:=J1) rfl rfl (λcdv A outer s H E hr=>?_)
 have hu:=hr.units
 exact(xsq (Zv4 (Zcs (Zcr (xcl G_check_roads (hr.mono (by decide)) T.m_check_roads T.F_check_roads.kp T.b_check_roads (Zj (xv 0) (xa1 (xv 1))))))) (xsq (xst 2 Zz.nd (xcl G_beside_each (hr.mono (by decide)) T.m_beside_each T.F_beside_each.kp T.b_beside_each (Zj (xv 0) (xa1 (xv 1))))) (xsq (xso 3 Zz.nd (xls xa0)) (xsq (xfr Qm rfl (Zcq (Yc (by rfl) T.z_range (xa1 (xv 0)))) (xg 4 Zz.nd) (xsq (Zgc (Zga (i:=5) Zz.nd rfl (Qo rfl) (xcl G_steps_from (hr.mono (by decide)) T.m_steps_from T.F_steps_from.kp T.b_steps_from (Zj (xv 2) (xa1 (xv 4)))))) (xsq (xif (xlt (J2 Zim (Zc3 Zeu Zbf (by rfl) T.z_len L2.B.boot_len (xa1 (xv 5)))) (xv 0)) (Zg Y8) xnl) (Zg (Jl (Jm 3 (Zay (Zcz (own:=["point"]) (caps:=[5]) (N':=["point","steps"]) (by exact⟨rfl,by decide +kernel,rfl,by decide +kernel,rfl,rfl⟩) (by rfl) (by decide) (Zcq (Yc (by rfl) T.z_range (xa1 (xv 0)))) (λ_ _ _ _ _=>(xg 0 (by show JZ (["point","steps"]:List Str);decide +kernel))) (λ_ _ _ _ _=>(Zdt Zdx)) (λ_ _ _ _ _=>(Zcw (J3 Zrn (Zq7 hu (xv 1) (xv 0) (hs:=λ_ _=>rfl))))))))))))) (Zg (Zbn (Zbh 3)))))))
theorem Zd1{f:Nat->Addr}{fd:Nat->Qc}{cls:Nat->Addr}(T:Txt K mg f fd cls):FnOk P w K mg base (CX1 P w) 3 (f 15) (fd 15) ["n","roads"] (spX K (sX K Yp)):=by
 have G_beside_each:=Zca (P:=P) (w:=w) (base:=base) T
 have G_check_roads:=Zcg (P:=P) (w:=w) (base:=base) T
 have GX_check_roads:=Zbm (P:=P) (w:=w) (base:=base) T
 have G_steps_from:=Zc5 (P:=P) (w:=w) (base:=base) T
 refine Zlf T.F_web_rows Zz (S:=J1) rfl rfl (λcdv A outer s H E hr=>?_)
 have hu:=hr.units
 exact(Zaj (Zgx (Zg7 (Zhg GX_check_roads (hr.mono (by decide)) (by rfl) T.m_check_roads T.F_check_roads.kp T.b_check_roads (Zj (xv 0) (xa1 (xv 1)))))) (Zv4 (Zcs (Zcr (xcl G_check_roads (hr.mono (by decide)) T.m_check_roads T.F_check_roads.kp T.b_check_roads (Zj (xv 0) (xa1 (xv 1))))))) (Zaj (Zo5 _) (xst 2 Zz.nd (xcl G_beside_each (hr.mono (by decide)) T.m_beside_each T.F_beside_each.kp T.b_beside_each (Zj (xv 0) (xa1 (xv 1))))) (Zaj (Zo5 _) (xso 3 Zz.nd (xls xa0)) (Zaj (Zob (Zpe rfl (Zcq (Yc (by rfl) T.z_range (xa1 (xv 0)))) (xg 4 Zz.nd) (xsq (Zgc (Zga (i:=5) Zz.nd rfl (Qo rfl) (xcl G_steps_from (hr.mono (by decide)) T.m_steps_from T.F_steps_from.kp T.b_steps_from (Zj (xv 2) (xa1 (xv 4)))))) (xsq (xif (xlt (J2 Zim (Zc3 Zeu Zbf (by rfl) T.z_len L2.B.boot_len (xa1 (xv 5)))) (xv 0)) (Zg Y8) xnl) (Zg (Jl (Jm 3 (Zay (Zcz (own:=["point"]) (caps:=[5]) (N':=["point","steps"]) (by exact⟨rfl,by decide +kernel,rfl,by decide +kernel,rfl,rfl⟩) (by rfl) (by decide) (Zcq (Yc (by rfl) T.z_range (xa1 (xv 0)))) (λ_ _ _ _ _=>(xg 0 (by show JZ (["point","steps"]:List Str);decide +kernel))) (λ_ _ _ _ _=>(Zdt Zdx)) (λ_ _ _ _ _=>(Zcw (J3 Zrn (Zq7 hu (xv 1) (xv 0) (hs:=λ_ _=>rfl)))))))))))) (Zaj (Zo5 _) (Zgc (Zga (i:=5) Zz.nd rfl (Qo rfl) (xcl G_steps_from (hr.mono (by decide)) T.m_steps_from T.F_steps_from.kp T.b_steps_from (Zj (xv 2) (xa1 (xv 4)))))) (Zaj (Zmd (Zlu (xlt (J2 Zim (Zc3 Zeu Zbf (by rfl) T.z_len L2.B.boot_len (xa1 (xv 5)))) (xv 0)) (J4 (Zb3 T.ca_NoWeb (Zb2 rfl hr.hd (by rfl) T.mC_NoWeb T.r_NoWeb))) (Zdc _))) (xif (xlt (J2 Zim (Zc3 Zeu Zbf (by rfl) T.z_len L2.B.boot_len (xa1 (xv 5)))) (xv 0)) (Zg Y8) xnl) (Zdc _))))) (xfr Qm rfl (Zcq (Yc (by rfl) T.z_range (xa1 (xv 0)))) (xg 4 Zz.nd) (xsq (Zgc (Zga (i:=5) Zz.nd rfl (Qo rfl) (xcl G_steps_from (hr.mono (by decide)) T.m_steps_from T.F_steps_from.kp T.b_steps_from (Zj (xv 2) (xa1 (xv 4)))))) (xsq (xif (xlt (J2 Zim (Zc3 Zeu Zbf (by rfl) T.z_len L2.B.boot_len (xa1 (xv 5)))) (xv 0)) (Zg Y8) xnl) (Zg (Jl (Jm 3 (Zay (Zcz (own:=["point"]) (caps:=[5]) (N':=["point","steps"]) (by exact⟨rfl,by decide +kernel,rfl,by decide +kernel,rfl,rfl⟩) (by rfl) (by decide) (Zcq (Yc (by rfl) T.z_range (xa1 (xv 0)))) (λ_ _ _ _ _=>(xg 0 (by show JZ (["point","steps"]:List Str);decide +kernel))) (λ_ _ _ _ _=>(Zdt Zdx)) (λ_ _ _ _ _=>(Zcw (J3 Zrn (Zq7 hu (xv 1) (xv 0) (hs:=λ_ _=>rfl))))))))))))) (Zdc _)))))
theorem Yq:Z0 ["words","n","roads"] ["words"] (Zh Y4):=⟨rfl,rfl,rfl,by decide +kernel,rfl,by decide +kernel,by decide +kernel⟩
theorem Zew{f:Nat->Addr}{fd:Nat->Qc}{cls:Nat->Addr}(T:Txt K mg f fd cls):FnOk P w K mg base CX0 4 (f 16) (fd 16) ["words"] (spD K (sD Zo)):=by
 have G_check_words:=Zcm (P:=P) (w:=w) (base:=base) T
 have GX_check_words:=Zbg (P:=P) (w:=w) (base:=base) T
 have G_pairs_of:=Zer (P:=P) (w:=w) (base:=base) T
 have G_unlike_signs:=Zbv (P:=P) (w:=w) (base:=base) T
 have G_web_rows:=Zeo (P:=P) (w:=w) (base:=base) T
 have GX_web_rows:=Zd1 (P:=P) (w:=w) (base:=base) T
 refine Ww T.F_web_of_words Yq (S:=Yv) rfl rfl (λcdv A outer s H E hr=>?_)
 have hu:=hr.units
 exact(xsq (Zv4 (Zcs (Zcr (xcl G_check_words (hr.mono (by decide)) T.m_check_words T.F_check_words.kp T.b_check_words (xa1 (xv 0)))))) (xsq (xst 1 Yq.nd (xln T.z_len (xa1 (xv 0)))) (xsq (Zhr (Zds (i:=2) (own:=["i","j"]) (caps:=[0]) (N':=["i","j","words"]) true Yq.nd rfl (QG rfl) (by exact⟨rfl,by decide +kernel,rfl,by decide +kernel,rfl,rfl⟩) (by rfl) (by decide) (xil (xcl G_pairs_of (hr.mono (by decide)) T.m_pairs_of T.F_pairs_of.kp T.b_pairs_of (xa1 (xv 1)))) (λ_ _ _ _ _=>(xg2 rfl (xg 0 (by show JZ (["i","j","words"]:List Str);decide +kernel)) (xg 1 (by show JZ (["i","j","words"]:List Str);decide +kernel)))) (λ_ _ _ _ _=>(Zdl (xeq hu (xcl G_unlike_signs (hr.mono (by decide)) T.m_unlike_signs T.F_unlike_signs.kp T.b_unlike_signs (Zj (xix (xv 2) (xv 0)) (xa1 (xix (xv 2) (xv 1))))) xci))) (λ_ _ _ _ _=>(xtp (Zj (xv 0) (xa1 (xv 1))))))) (xsq (Zv4 (Zcs (Zcr (xcl G_web_rows (hr.mono (by decide)) T.m_web_rows T.F_web_rows.kp T.b_web_rows (Zj (xv 1) (xa1 (xo 2))))))) (Zg (Zt6 (λ_ _ _ h=>Zrq h) (Zt5 2 (xv 1))))))))
theorem Zeg{f:Nat->Addr}{fd:Nat->Qc}{cls:Nat->Addr}(T:Txt K mg f fd cls):FnOk P w K mg base (CX1 P w) 4 (f 16) (fd 16) ["words"] (spX K (sX K Zo)):=by
 have G_check_words:=Zcm (P:=P) (w:=w) (base:=base) T
 have GX_check_words:=Zbg (P:=P) (w:=w) (base:=base) T
 have G_pairs_of:=Zer (P:=P) (w:=w) (base:=base) T
 have G_unlike_signs:=Zbv (P:=P) (w:=w) (base:=base) T
 have G_web_rows:=Zeo (P:=P) (w:=w) (base:=base) T
 have GX_web_rows:=Zd1 (P:=P) (w:=w) (base:=base) T
 refine Zlf T.F_web_of_words Yq (S:=Yv) rfl rfl (λcdv A outer s H E hr=>?_)
 have hu:=hr.units
 exact(Zaj (Zgx (Zg7 (Zhg GX_check_words (hr.mono (by decide)) (by rfl) T.m_check_words T.F_check_words.kp T.b_check_words (xa1 (xv 0))))) (Zv4 (Zcs (Zcr (xcl G_check_words (hr.mono (by decide)) T.m_check_words T.F_check_words.kp T.b_check_words (xa1 (xv 0)))))) (Zaj (Zo5 _) (xst 1 Yq.nd (xln T.z_len (xa1 (xv 0)))) (Zaj (Zo5 _) (Zhr (Zds (i:=2) (own:=["i","j"]) (caps:=[0]) (N':=["i","j","words"]) true Yq.nd rfl (QG rfl) (by exact⟨rfl,by decide +kernel,rfl,by decide +kernel,rfl,rfl⟩) (by rfl) (by decide) (xil (xcl G_pairs_of (hr.mono (by decide)) T.m_pairs_of T.F_pairs_of.kp T.b_pairs_of (xa1 (xv 1)))) (λ_ _ _ _ _=>(xg2 rfl (xg 0 (by show JZ (["i","j","words"]:List Str);decide +kernel)) (xg 1 (by show JZ (["i","j","words"]:List Str);decide +kernel)))) (λ_ _ _ _ _=>(Zdl (xeq hu (xcl G_unlike_signs (hr.mono (by decide)) T.m_unlike_signs T.F_unlike_signs.kp T.b_unlike_signs (Zj (xix (xv 2) (xv 0)) (xa1 (xix (xv 2) (xv 1))))) xci))) (λ_ _ _ _ _=>(xtp (Zj (xv 0) (xa1 (xv 1))))))) (Zaj (Zgx (Zg7 (Zhg GX_web_rows (hr.mono (by decide)) (by rfl) T.m_web_rows T.F_web_rows.kp T.b_web_rows (Zj (xv 1) (xa1 (xo 2)))))) (Zv4 (Zcs (Zcr (xcl G_web_rows (hr.mono (by decide)) T.m_web_rows T.F_web_rows.kp T.b_web_rows (Zj (xv 1) (xa1 (xo 2))))))) (Zdc _)))))
theorem Jk:Z0 ["words","told","e"] ["words"] (Zh Wc):=⟨rfl,rfl,rfl,by decide +kernel,rfl,by decide +kernel,by decide +kernel⟩
theorem Zfw{f:Nat->Addr}{fd:Nat->Qc}{cls:Nat->Addr}(T:Txt K mg f fd cls):FnOk P w K mg base CX0 5 (f 17) (fd 17) ["words"] (spD K (sD W9)):=by
 have G_web_of_words:=Zew (P:=P) (w:=w) (base:=base) T
 have GX_web_of_words:=Zeg (P:=P) (w:=w) (base:=base) T
 refine Ww T.F_law_refused Jk (S:=Zaa) rfl rfl (λcdv A outer s H E hr=>?_)
 have hu:=hr.units
 exact(xsq (xso 1 Jk.nd (xls xa0)) (xsq (Z22 T.ku_CutError (Zyb (i:=2) Jk.nd rfl rfl (by rfl) T.mC_CutError T.r_CutError (Zg (Zv4 (Zcs (Zcr (xcl G_web_of_words (hr.mono (by decide)) T.m_web_of_words T.F_web_of_words.kp T.b_web_of_words (xa1 (xv 0))))))) (J4 (Zgx (Zg7 (Zhg GX_web_of_words (hr.mono (by decide)) (by rfl) T.m_web_of_words T.F_web_of_words.kp T.b_web_of_words (xa1 (xv 0)))))) (λ_=>(xsq (xso 1 Jk.nd (xls (Zj (Zpo T.kx_NoWeb (Zsw (J5 (v:=.ref (cls 9)) (by rfl) T.mC_NoWeb rfl) (.own _) (by rfl) T.z_isinstance L2.B.boot_isinstance (xv 2))) (xa1 (Zpo T.kx_ValueError (Zsw (Zvg (v:=.ty "ValueError") (by rfl) T.z_ValueError PyProof.Rows.Boot.«ValueError» rfl) (.ty _) (by rfl) T.z_isinstance L2.B.boot_isinstance (xv 2))))))) (Zg (Jl (Jm 1 (Zrz T.kxt_0 (Zxn (Yw (J5 (v:=.ref (cls 1)) (by rfl) T.mC_NoCut rfl) (Yw (J5 (v:=.ref (cls 2)) (by rfl) T.mC_NoName rfl) (Yw (J5 (v:=.ref (cls 3)) (by rfl) T.mC_NoNumber rfl) (Yw (J5 (v:=.ref (cls 4)) (by rfl) T.mC_NoOrder rfl) (Yw (J5 (v:=.ref (cls 5)) (by rfl) T.mC_NoPoint rfl) (Yw (J5 (v:=.ref (cls 6)) (by rfl) T.mC_NoRow rfl) (Yw (J5 (v:=.ref (cls 7)) (by rfl) T.mC_NoTable rfl) (Yw (J5 (v:=.ref (cls 8)) (by rfl) T.mC_NoText rfl) (Yw (J5 (v:=.ref (cls 10)) (by rfl) T.mC_TooMany rfl) Zd8))))))))) (λ_ _ _ h=>h) (.cons (.own _) (.cons (.own _) (.cons (.own _) (.cons (.own _) (.cons (.own _) (.cons (.own _) (.cons (.own _) (.cons (.own _) (.cons (.own _) .nil))))))))) (by show 9≤Xi;decide) (by rfl) T.z_isinstance L2.B.boot_isinstance (xv 2)))))))))) (Zg (Zbn (Zbh 1)))))
theorem Zt:Z0 ["words","row","at","here","word","way","some"] ["words","row"] (Zh Wy):=⟨rfl,rfl,rfl,by decide +kernel,rfl,by decide +kernel,by decide +kernel⟩
theorem Zht{f:Nat->Addr}{fd:Nat->Qc}{cls:Nat->Addr}(T:Txt K mg f fd cls):FnOk P w K mg base CX0 1 (f 18) (fd 18) ["words","row"] (spD K (sD Wh)):=by
 refine Ww T.F_law_spoilt Zt (S:=Zap) rfl rfl (λcdv A outer s H E hr=>?_)
 have hu:=hr.units
 exact(xsq (xst 2 Zt.nd (Zh4 (xix (xv 1) xci) (xln T.z_len (xa1 (xv 0))))) (xsq (xst 3 Zt.nd (Zh4 (xix (xv 1) xci) (Zfs (J2 Zd5 (Zc3 Zbp Yt (by rfl) T.z_len L2.B.boot_len (xa1 (xix (xv 0) (xv 2))))) xci))) (xsq (xst 4 Zt.nd (xix (xv 0) (xv 2))) (xsq (xst 5 Zt.nd (Zh4 (xix (xv 1) xci) xci)) (xsq (xst 6 Zt.nd (xls (xa1 (xv 4)))) (xsq (xif (xeq hu (xv 5) xci) (Zg (xst 6 Zt.nd (xls (Zj (xv 4) (xa1 (xv 4)))))) xnl) (xsq (xif (xeq hu (xv 5) xci) (Zg (xst 6 Zt.nd (xls (xa1 (Yd Zdf (Zbr Wg Za1 (Yd Zdf (Zbr Wg Za1 (Zd9 (Zi3 (xv 4) (Js Jq) (W5 (W7 (xv 3))))) (Zcw (J3 Zj0 (Zts (Zbw rfl) Zfd (Zeh Zbb) (Zh4 (xix (xv 1) xci) xci) (hs:=λ_ _=>rfl)))))) (Zd9 (Zi3 (xv 4) (W5 (W7 (xv 3))) (Js Jq))))))))) xnl) (xsq (xif (xeq hu (xv 5) xci) (Zg (xst 6 Zt.nd (xls (xa1 (Yd Zdf (Zbr Wg Za1 (Zd9 (Zi3 (xv 4) (Js Jq) (W5 (W7 (xv 3))))) (Zd9 (Zi3 (xv 4) (W5 (W7 (Zfs (xv 3) xci))) (Js Jq))))))))) xnl) (xsq (xif (xeq hu (xv 5) xci) (Zg (xst 6 Zt.nd (xls (xa1 (Yd Zdf (Zbr Wg Za1 (Yd Zdf (Zbr Wg Za1 (Zd9 (Zi3 (xv 4) (Js Jq) (W5 (W7 (xv 3))))) (Zcw (J3 Zj0 (Zts (Zbw rfl) Zfd (Zeh Zbb) (Zh4 (xix (xv 1) xci) xci) (hs:=λ_ _=>rfl)))))) (Zd9 (Zi3 (xv 4) (W5 (W7 (Zfs (xv 3) xci))) (Js Jq))))))))) xnl) (xsq (xif (xeq hu (xv 5) xci) (Zg (xst 6 Zt.nd (xls xa0))) xnl) (xsq (xif (xeq hu (xv 5) xci) (Zg (xst 6 Zt.nd (xls (xa1 (Yd Zdf (Zbr Wg Za1 (xv 4) (Zeh Zbb))))))) xnl) (xsq (xif (xeq hu (xv 5) xci) (Zg (xrt (xls xa0))) xnl) (xsq (xif (xeq hu (xv 5) xci) (Zg (xrt (Zay (Zcz (own:=["k"]) (caps:=[]) (N':=["k"]) (by exact⟨rfl,by decide +kernel,rfl,by decide +kernel,rfl,rfl⟩) (by rfl) (by decide) (Zcq (Yc (by rfl) T.z_range (xa1 (Zfs xci (Zh4 (xix (xv 1) xci) xci))))) (λ_ _ _ _ _=>(xg 0 (by show JZ (["k"]:List Str);decide +kernel))) (λ_ _ _ _ _=>(Zdt Zdx)) (λ_ _ _ _ _=>(Yd Zdf (Zbr Wg Za1 (Yd Zs0 (Zbr Zps Zm6 (Zeh Zbb) (xv 0))) (Yd Zs0 (Zbr Zps Zm6 (Zeh Zbb) (Z64 xci (xv 0))))))))))) xnl) (Zg (xrt (Zcw (J3 Zwe (Z5o (Zjp rfl) Zox (Zcw (J3 Zwe (Z5o (Zjp rfl) Zox (Zmq (Zo8 (xv 0) (Js Jq) (W5 (W7 (xv 2))))) (xv 6)))) (Zmq (Zo8 (xv 0) (W5 (W7 (Zfs (xv 2) xci))) (Js Jq)))))))))))))))))))))
theorem Zf8:Z0 ["script","cell","words","due","handed"] ["script"] (Zh Zed):=⟨rfl,rfl,rfl,by decide +kernel,rfl,by decide +kernel,by decide +kernel⟩
theorem Z1m{f:Nat->Addr}{fd:Nat->Qc}{cls:Nat->Addr}(T:Txt K mg f fd cls):FnOk P w K mg base CX0 6 (f 19) (fd 19) ["script"] (spD K (sD Zgr)):=by
 have G_law_cell_at:=Zfz (P:=P) (w:=w) (base:=base) T
 have G_law_drawn:=Zif (P:=P) (w:=w) (base:=base) T
 have G_law_is_good:=Zfy (P:=P) (w:=w) (base:=base) T
 have G_law_numbers:=Zck (P:=P) (w:=w) (base:=base) T
 have G_law_refused:=Zfw (P:=P) (w:=w) (base:=base) T
 have G_law_spoilt:=Zht (P:=P) (w:=w) (base:=base) T
 refine Ww T.F_law Zf8 (S:=Zgu) rfl rfl (λcdv A outer s H E hr=>?_)
 have hu:=hr.units
 exact(xsq (xfr Qm rfl (xil (Zcw (J3 Zwe (Z5o (Zjp rfl) Zox (Zmq (Zo8 (xv 0) (W5 (W7 xci)) (W5 (W7 xci)))) (xls (xa1 (xcl G_law_cell_at (hr.mono (by decide)) T.m_law_cell_at T.F_law_cell_at.kp T.b_law_cell_at (Zj (xv 0) (xa1 xci))))))))) (xg 1 Zf8.nd) (xsq (xst 2 Zf8.nd (xcl G_law_spoilt (hr.mono (by decide)) T.m_law_spoilt T.F_law_spoilt.kp T.b_law_spoilt (Zj (xcl G_law_drawn (hr.mono (by decide)) T.m_law_drawn T.F_law_drawn.kp T.b_law_drawn (xa1 (xv 1))) (xa1 (xcl G_law_numbers (hr.mono (by decide)) T.m_law_numbers T.F_law_numbers.kp T.b_law_numbers (Zj (Zy4 (xv 1) xci) (Zj xci (xa1 xci)))))))) (xsq (xst 3 Zf8.nd (xls xa0)) (xsq (xif (xno (Za9 (Zba (xcl G_law_is_good (hr.mono (by decide)) T.m_law_is_good T.F_law_is_good.kp T.b_law_is_good (xa1 (xv 2))) (λ_=>rfl)))) (Zg (xst 3 Zf8.nd (xls (Zj (Zeh Zfx) (Zj (Zeh Zfx) (xa1 (Zeh Zfx))))))) xnl) (xsq (xst 4 Zf8.nd (Z6v Zz0 (Yad Zwr (Zmi rfl) (by rfl) T.z_list L2.B.boot_list (xa1 (xv 2))))) (Zg (xif (MW.mt (Zmk (Zlt (xne hu (xcl G_law_refused (hr.mono (by decide)) T.m_law_refused T.F_law_refused.kp T.b_law_refused (xa1 (xv 4))) (xv 3)) (Zgf (xne hu (xv 4) (xv 2)))))) (Zg (xrt (Zeh Zfx))) xnl))))))) (Zg (xrt (Zeh Zfx))))
theorem Zv1{f:Nat->Addr}{fd:Nat->Qc}{cls:Nat->Addr}(T:Txt K mg f fd cls):FnOk P w K mg base CX0 6 (f 19) (fd 19) ["script"] (spD K Zy3):=(Z1m T).imp λvs H Q E q=>by
 obtain⟨L,ds,k,h1,⟨ns,e,hl,hk⟩,h3⟩:=q
 exact⟨L,ds,k,h1,⟨_,by rw[e];exact Zrf ns hl,hk⟩,h3⟩
end
theorem Z0u{l:PySem.W.OpenLaw}{w:Qv}{K:Xb}{h:Heap}{mg:Str->Option Xc}{fa:Addr}{t_MOST_POINTS:Tok}{C_CutError:Addr}{C_NoCut:Addr}{C_NoName:Addr}{C_NoNumber:Addr}{C_NoOrder:Addr}{C_NoPoint:Addr}{C_NoRow:Addr}{C_NoTable:Addr}{C_NoText:Addr}{C_NoWeb:Addr}{C_TooMany:Addr}(X:K.In h)(G:h.Ns Xx mg)(hfa:mg "law"=some (.ref fa))
  {f1:Addr} {od1 an1:Option Addr} {sl1:Array (Option Xc)} {oc1 kV1 dc1 pm1 cd1 ct1:Xc}
  {f2:Addr} {od2 an2:Option Addr} {sl2:Array (Option Xc)} {oc2 kV2 dc2 pm2 cd2 ct2:Xc}
  {f3:Addr} {od3 an3:Option Addr} {sl3:Array (Option Xc)} {oc3 kV3 dc3 pm3 cd3 ct3:Xc}
  {f4:Addr} {od4 an4:Option Addr} {sl4:Array (Option Xc)} {oc4 kV4 dc4 pm4 cd4 ct4:Xc}
  {f5:Addr} {od5 an5:Option Addr} {sl5:Array (Option Xc)} {oc5 kV5 dc5 pm5 cd5 ct5:Xc}
  {f6:Addr} {od6 an6:Option Addr} {sl6:Array (Option Xc)} {oc6 kV6 dc6 pm6 cd6 ct6:Xc}
  {f7:Addr} {od7 an7:Option Addr} {sl7:Array (Option Xc)} {oc7 kV7 dc7 pm7 cd7 ct7:Xc}
  {f8:Addr} {od8 an8:Option Addr} {sl8:Array (Option Xc)} {oc8 kV8 dc8 pm8 cd8 ct8:Xc}
  {f9:Addr} {od9 an9:Option Addr} {sl9:Array (Option Xc)} {oc9 kV9 dc9 pm9 cd9 ct9:Xc}
  {f10:Addr} {od10 an10:Option Addr} {sl10:Array (Option Xc)} {oc10 kV10 dc10 pm10 cd10 ct10:Xc}
  {f11:Addr} {od11 an11:Option Addr} {sl11:Array (Option Xc)} {oc11 kV11 dc11 pm11 cd11 ct11:Xc}
  {f12:Addr} {od12 an12:Option Addr} {sl12:Array (Option Xc)} {oc12 kV12 dc12 pm12 cd12 ct12:Xc}
  {f13:Addr} {od13 an13:Option Addr} {sl13:Array (Option Xc)} {oc13 kV13 dc13 pm13 cd13 ct13:Xc}
  {f14:Addr} {od14 an14:Option Addr} {sl14:Array (Option Xc)} {oc14 kV14 dc14 pm14 cd14 ct14:Xc}
  {f15:Addr} {od15 an15:Option Addr} {sl15:Array (Option Xc)} {oc15 kV15 dc15 pm15 cd15 ct15:Xc}
  {f16:Addr} {od16 an16:Option Addr} {sl16:Array (Option Xc)} {oc16 kV16 dc16 pm16 cd16 ct16:Xc}
  {f17:Addr} {od17 an17:Option Addr} {sl17:Array (Option Xc)} {oc17 kV17 dc17 pm17 cd17 ct17:Xc}
  {f18:Addr} {od18 an18:Option Addr} {sl18:Array (Option Xc)} {oc18 kV18 dc18 pm18 cd18 ct18:Xc}
  {f19:Addr} {od19 an19:Option Addr} {sl19:Array (Option Xc)} {oc19 kV19 dc19 pm19 cd19 ct19:Xc}
  {f20:Addr} {od20 an20:Option Addr} {sl20:Array (Option Xc)} {oc20 kV20 dc20 pm20 cd20 ct20:Xc}
  (a1:XF K Xx "_law_cell_at"=some (some (.ref f1))) (l1:K.lookup f1=some ⟨oc1,od1,.func (Qh "_law_cell_at" "_law_cell_at" (Z3 Wj) (Zu Wj) (Zh Wj) .none kV1 dc1 pm1 an1 cd1 ct1),sl1⟩) (c1:Ql K cd1 "_law_cell_at"=true) (k1:X7 K (.ref f1)=true)
  (a2:XF K Xx "_law_numbers"=some (some (.ref f2))) (l2:K.lookup f2=some ⟨oc2,od2,.func (Qh "_law_numbers" "_law_numbers" (Z3 Wf) (Zu Wf) (Zh Wf) .none kV2 dc2 pm2 an2 cd2 ct2),sl2⟩) (c2:Ql K cd2 "_law_numbers"=true) (k2:X7 K (.ref f2)=true)
  (a3:XF K Xx "_law_drawn"=some (some (.ref f3))) (l3:K.lookup f3=some ⟨oc3,od3,.func (Qh "_law_drawn" "_law_drawn" (Z3 Jd) (Zu Jd) (Zh Jd) .none kV3 dc3 pm3 an3 cd3 ct3),sl3⟩) (c3:Ql K cd3 "_law_drawn"=true) (k3:X7 K (.ref f3)=true)
  (a4:XF K Xx "_law_unlike"=some (some (.ref f4))) (l4:K.lookup f4=some ⟨oc4,od4,.func (Qh "_law_unlike" "_law_unlike" (Z3 Wv) (Zu Wv) (Zh Wv) .none kV4 dc4 pm4 an4 cd4 ct4),sl4⟩) (c4:Ql K cd4 "_law_unlike"=true) (k4:X7 K (.ref f4)=true)
  (a5:XF K Xx "_law_roads"=some (some (.ref f5))) (l5:K.lookup f5=some ⟨oc5,od5,.func (Qh "_law_roads" "_law_roads" (Z3 Jg) (Zu Jg) (Zh Jg) .none kV5 dc5 pm5 an5 cd5 ct5),sl5⟩) (c5:Ql K cd5 "_law_roads"=true) (k5:X7 K (.ref f5)=true)
  (a6:XF K Xx "_law_is_good"=some (some (.ref f6))) (l6:K.lookup f6=some ⟨oc6,od6,.func (Qh "_law_is_good" "_law_is_good" (Z3 Wk) (Zu Wk) (Zh Wk) .none kV6 dc6 pm6 an6 cd6 ct6),sl6⟩) (c6:Ql K cd6 "_law_is_good"=true) (k6:X7 K (.ref f6)=true)
  (a7:XF K Xx "is_point_count"=some (some (.ref f7))) (l7:K.lookup f7=some ⟨oc7,od7,.func (Qh "is_point_count" "is_point_count" (Z3 Yg) (Zu Yg) (Zh Yg) .none kV7 dc7 pm7 an7 cd7 ct7),sl7⟩) (c7:Ql K cd7 "is_point_count"=true) (k7:X7 K (.ref f7)=true)
  (a8:XF K Xx "is_word"=some (some (.ref f8))) (l8:K.lookup f8=some ⟨oc8,od8,.func (Qh "is_word" "is_word" (Z3 Zat) (Zu Zat) (Zh Zat) .none kV8 dc8 pm8 an8 cd8 ct8),sl8⟩) (c8:Ql K cd8 "is_word"=true) (k8:X7 K (.ref f8)=true)
  (a9:XF K Xx "check_words"=some (some (.ref f9))) (l9:K.lookup f9=some ⟨oc9,od9,.func (Qh "check_words" "check_words" (Z3 We) (Zu We) (Zh We) .none kV9 dc9 pm9 an9 cd9 ct9),sl9⟩) (c9:Ql K cd9 "check_words"=true) (k9:X7 K (.ref f9)=true)
  (a10:XF K Xx "pairs_of"=some (some (.ref f10))) (l10:K.lookup f10=some ⟨oc10,od10,.func (Qh "pairs_of" "pairs_of" (Z3 Jv) (Zu Jv) (Zh Jv) .none kV10 dc10 pm10 an10 cd10 ct10),sl10⟩) (c10:Ql K cd10 "pairs_of"=true) (k10:X7 K (.ref f10)=true)
  (a11:XF K Xx "unlike_signs"=some (some (.ref f11))) (l11:K.lookup f11=some ⟨oc11,od11,.func (Qh "unlike_signs" "unlike_signs" (Z3 Y0) (Zu Y0) (Zh Y0) .none kV11 dc11 pm11 an11 cd11 ct11),sl11⟩) (c11:Ql K cd11 "unlike_signs"=true) (k11:X7 K (.ref f11)=true)
  (a12:XF K Xx "beside_each"=some (some (.ref f12))) (l12:K.lookup f12=some ⟨oc12,od12,.func (Qh "beside_each" "beside_each" (Z3 Wi) (Zu Wi) (Zh Wi) .none kV12 dc12 pm12 an12 cd12 ct12),sl12⟩) (c12:Ql K cd12 "beside_each"=true) (k12:X7 K (.ref f12)=true)
  (a13:XF K Xx "is_rising"=some (some (.ref f13))) (l13:K.lookup f13=some ⟨oc13,od13,.func (Qh "is_rising" "is_rising" (Z3 Je) (Zu Je) (Zh Je) .none kV13 dc13 pm13 an13 cd13 ct13),sl13⟩) (c13:Ql K cd13 "is_rising"=true) (k13:X7 K (.ref f13)=true)
  (a14:XF K Xx "check_roads"=some (some (.ref f14))) (l14:K.lookup f14=some ⟨oc14,od14,.func (Qh "check_roads" "check_roads" (Z3 Wl) (Zu Wl) (Zh Wl) .none kV14 dc14 pm14 an14 cd14 ct14),sl14⟩) (c14:Ql K cd14 "check_roads"=true) (k14:X7 K (.ref f14)=true)
  (a15:XF K Xx "steps_from"=some (some (.ref f15))) (l15:K.lookup f15=some ⟨oc15,od15,.func (Qh "steps_from" "steps_from" (Z3 Wz) (Zu Wz) (Zh Wz) .none kV15 dc15 pm15 an15 cd15 ct15),sl15⟩) (c15:Ql K cd15 "steps_from"=true) (k15:X7 K (.ref f15)=true)
  (a16:XF K Xx "web_rows"=some (some (.ref f16))) (l16:K.lookup f16=some ⟨oc16,od16,.func (Qh "web_rows" "web_rows" (Z3 Jx) (Zu Jx) (Zh Jx) .none kV16 dc16 pm16 an16 cd16 ct16),sl16⟩) (c16:Ql K cd16 "web_rows"=true) (k16:X7 K (.ref f16)=true)
  (a17:XF K Xx "web_of_words"=some (some (.ref f17))) (l17:K.lookup f17=some ⟨oc17,od17,.func (Qh "web_of_words" "web_of_words" (Z3 Y4) (Zu Y4) (Zh Y4) .none kV17 dc17 pm17 an17 cd17 ct17),sl17⟩) (c17:Ql K cd17 "web_of_words"=true) (k17:X7 K (.ref f17)=true)
  (a18:XF K Xx "_law_refused"=some (some (.ref f18))) (l18:K.lookup f18=some ⟨oc18,od18,.func (Qh "_law_refused" "_law_refused" (Z3 Wc) (Zu Wc) (Zh Wc) .none kV18 dc18 pm18 an18 cd18 ct18),sl18⟩) (c18:Ql K cd18 "_law_refused"=true) (k18:X7 K (.ref f18)=true)
  (a19:XF K Xx "_law_spoilt"=some (some (.ref f19))) (l19:K.lookup f19=some ⟨oc19,od19,.func (Qh "_law_spoilt" "_law_spoilt" (Z3 Wy) (Zu Wy) (Zh Wy) .none kV19 dc19 pm19 an19 cd19 ct19),sl19⟩) (c19:Ql K cd19 "_law_spoilt"=true) (k19:X7 K (.ref f19)=true)
  (a20:XF K Xx "law"=some (some (.ref f20))) (l20:K.lookup f20=some ⟨oc20,od20,.func (Qh "law" "law" (Z3 Zed) (Zu Zed) (Zh Zed) .none kV20 dc20 pm20 an20 cd20 ct20),sl20⟩) (c20:Ql K cd20 "law"=true) (k20:X7 K (.ref f20)=true)
  (z_ValueError:XF K Xx "ValueError"=some none)
  (z_int:XF K Xx "int"=some none)
  (z_isinstance:XF K Xx "isinstance"=some none)
  (z_len:XF K Xx "len"=some none)
  (z_list:XF K Xx "list"=some none)
  (z_range:XF K Xx "range"=some none)
  (z_set:XF K Xx "set"=some none)
  (z_zip:XF K Xx "zip"=some none)
  (gc_MOST_POINTS:XF K Xx "MOST_POINTS"=some (some (.int 10 t_MOST_POINTS)))
  (cc_CutError:XF K Xx "CutError"=some (some (.ref C_CutError)))
  (cc_NoCut:XF K Xx "NoCut"=some (some (.ref C_NoCut)))
  (cc_NoName:XF K Xx "NoName"=some (some (.ref C_NoName)))
  (cc_NoNumber:XF K Xx "NoNumber"=some (some (.ref C_NoNumber)))
  (cc_NoOrder:XF K Xx "NoOrder"=some (some (.ref C_NoOrder)))
  (cc_NoPoint:XF K Xx "NoPoint"=some (some (.ref C_NoPoint)))
  (cc_NoRow:XF K Xx "NoRow"=some (some (.ref C_NoRow)))
  (cc_NoTable:XF K Xx "NoTable"=some (some (.ref C_NoTable)))
  (cc_NoText:XF K Xx "NoText"=some (some (.ref C_NoText)))
  (cc_NoWeb:XF K Xx "NoWeb"=some (some (.ref C_NoWeb)))
  (cc_TooMany:XF K Xx "TooMany"=some (some (.ref C_TooMany)))
  (r_CutError:Zjg K C_CutError)
  (r_NoWeb:Zjg K C_NoWeb)
  (x_NoWeb_ga:QZ K (.ref C_NoWeb) "__getattribute__"=some (some (.builtin "BaseException.__getattribute__")))
  (x_NoWeb_gt:QZ K (.ref C_NoWeb) "__getattr__"=some none)
  (x_NoWeb_cl:QZ K (.ref C_NoWeb) "__class__"=some (some (.builtin "object.__class__")))
  (x_NoWeb_isB:JL K (.ref C_NoWeb) (.type "BaseException")=some true)
  (x_NoWeb_isO:JL K (.ref C_NoWeb) (.type "object")=some true)
  (x_NoWeb_isC:PySem.W.isClsIn K C_NoWeb=true)
  (x_NoWeb_k1:Qg K (.ref C_NoWeb) (.type "int")=some false)
  (x_NoWeb_k2:Qg K (.ref C_NoWeb) (.type "bool")=some false)
  (x_NoWeb_k3:Qg K (.ref C_NoWeb) (.type "str")=some false)
  (x_NoWeb_k4:Qg K (.ref C_NoWeb) (.type "list")=some false)
  (x_NoWeb_k5:Qg K (.ref C_NoWeb) (.type "tuple")=some false)
  (u_NoWeb_CutError:JL K (.ref C_NoWeb) (.ref C_CutError)=some true)
  (kt_NoWeb_NoWeb:Qg K (.ref C_NoWeb) (.ref C_NoWeb)=some true)
  (kt_NoWeb_ValueError:Qg K (.ref C_NoWeb) (.type "ValueError")=some true)
  (ka_NoWeb_0:Vv K (.ref C_NoWeb) [.ref C_NoCut,.ref C_NoName,.ref C_NoNumber,.ref C_NoOrder,.ref C_NoPoint,.ref C_NoRow,.ref C_NoTable,.ref C_NoText,.ref C_TooMany]=some false)
  :∃fd:Qc,(∀(s:Xf) (v:Xc),BindsTo s fd ⟨[v],[]⟩ [("script",v)])∧∀base:Heap,K.In base->base.Ns Xx mg->FnOk l.prog w K mg base CX0 6 fa fd ["script"] (spD K Zy3):=by
 have e:=hfa.symm.trans (X3 X G a20)
 cases e
 have F1:=Wx (st:=Wj) l1 c1 k1
 have b1:=F1.binds (ps:=["script","k"]) λ_ _ _ _ _ _ us hl=>Zq9 (P:=λus=>Qw _ { pos:=us }=pure (JX _ us)) (λ_ _=>rfl) us hl
 have F2:=Wx (st:=Wf) l2 c2 k2
 have b2:=F2.binds (ps:=["cell","many","base"]) λ_ _ _ _ _ _ us hl=>Yau (P:=λus=>Qw _ { pos:=us }=pure (JX _ us)) (λ_ _ _=>rfl) us hl
 have F3:=Wx (st:=Jd) l3 c3 k3
 have b3:=F3.binds (ps:=["cell"]) λ_ _ _ _ _ _ us hl=>Zqq (P:=λus=>Qw _ { pos:=us }=pure (JX _ us)) (λ_=>rfl) us hl
 have F4:=Wx (st:=Wv) l4 c4 k4
 have b4:=F4.binds (ps:=["one","other"]) λ_ _ _ _ _ _ us hl=>Zq9 (P:=λus=>Qw _ { pos:=us }=pure (JX _ us)) (λ_ _=>rfl) us hl
 have F5:=Wx (st:=Jg) l5 c5 k5
 have b5:=F5.binds (ps:=["words"]) λ_ _ _ _ _ _ us hl=>Zqq (P:=λus=>Qw _ { pos:=us }=pure (JX _ us)) (λ_=>rfl) us hl
 have F6:=Wx (st:=Wk) l6 c6 k6
 have b6:=F6.binds (ps:=["words"]) λ_ _ _ _ _ _ us hl=>Zqq (P:=λus=>Qw _ { pos:=us }=pure (JX _ us)) (λ_=>rfl) us hl
 have F7:=Wx (st:=Yg) l7 c7 k7
 have b7:=F7.binds (ps:=["n"]) λ_ _ _ _ _ _ us hl=>Zqq (P:=λus=>Qw _ { pos:=us }=pure (JX _ us)) (λ_=>rfl) us hl
 have F8:=Wx (st:=Zat) l8 c8 k8
 have b8:=F8.binds (ps:=["text","length"]) λ_ _ _ _ _ _ us hl=>Zq9 (P:=λus=>Qw _ { pos:=us }=pure (JX _ us)) (λ_ _=>rfl) us hl
 have F9:=Wx (st:=We) l9 c9 k9
 have b9:=F9.binds (ps:=["words"]) λ_ _ _ _ _ _ us hl=>Zqq (P:=λus=>Qw _ { pos:=us }=pure (JX _ us)) (λ_=>rfl) us hl
 have F10:=Wx (st:=Jv) l10 c10 k10
 have b10:=F10.binds (ps:=["n"]) λ_ _ _ _ _ _ us hl=>Zqq (P:=λus=>Qw _ { pos:=us }=pure (JX _ us)) (λ_=>rfl) us hl
 have F11:=Wx (st:=Y0) l11 c11 k11
 have b11:=F11.binds (ps:=["word","other"]) λ_ _ _ _ _ _ us hl=>Zq9 (P:=λus=>Qw _ { pos:=us }=pure (JX _ us)) (λ_ _=>rfl) us hl
 have F12:=Wx (st:=Wi) l12 c12 k12
 have b12:=F12.binds (ps:=["n","roads"]) λ_ _ _ _ _ _ us hl=>Zq9 (P:=λus=>Qw _ { pos:=us }=pure (JX _ us)) (λ_ _=>rfl) us hl
 have F13:=Wx (st:=Je) l13 c13 k13
 have b13:=F13.binds (ps:=["things"]) λ_ _ _ _ _ _ us hl=>Zqq (P:=λus=>Qw _ { pos:=us }=pure (JX _ us)) (λ_=>rfl) us hl
 have F14:=Wx (st:=Wl) l14 c14 k14
 have b14:=F14.binds (ps:=["n","roads"]) λ_ _ _ _ _ _ us hl=>Zq9 (P:=λus=>Qw _ { pos:=us }=pure (JX _ us)) (λ_ _=>rfl) us hl
 have F15:=Wx (st:=Wz) l15 c15 k15
 have b15:=F15.binds (ps:=["beside","start"]) λ_ _ _ _ _ _ us hl=>Zq9 (P:=λus=>Qw _ { pos:=us }=pure (JX _ us)) (λ_ _=>rfl) us hl
 have F16:=Wx (st:=Jx) l16 c16 k16
 have b16:=F16.binds (ps:=["n","roads"]) λ_ _ _ _ _ _ us hl=>Zq9 (P:=λus=>Qw _ { pos:=us }=pure (JX _ us)) (λ_ _=>rfl) us hl
 have F17:=Wx (st:=Y4) l17 c17 k17
 have b17:=F17.binds (ps:=["words"]) λ_ _ _ _ _ _ us hl=>Zqq (P:=λus=>Qw _ { pos:=us }=pure (JX _ us)) (λ_=>rfl) us hl
 have F18:=Wx (st:=Wc) l18 c18 k18
 have b18:=F18.binds (ps:=["words"]) λ_ _ _ _ _ _ us hl=>Zqq (P:=λus=>Qw _ { pos:=us }=pure (JX _ us)) (λ_=>rfl) us hl
 have F19:=Wx (st:=Wy) l19 c19 k19
 have b19:=F19.binds (ps:=["words","row"]) λ_ _ _ _ _ _ us hl=>Zq9 (P:=λus=>Qw _ { pos:=us }=pure (JX _ us)) (λ_ _=>rfl) us hl
 have F20:=Wx (st:=Zed) l20 c20 k20
 have b20:=F20.binds (ps:=["script"]) λ_ _ _ _ _ _ us hl=>Zqq (P:=λus=>Qw _ { pos:=us }=pure (JX _ us)) (λ_=>rfl) us hl
 have T:Txt K mg (λk=>[_,_,_,_,_,_,_,_,_,_,_,_,_,_,_,_,_,_,_,_].getD k 0) (λk=>[_,_,_,_,_,_,_,_,_,_,_,_,_,_,_,_,_,_,_,_].getD k (Qh "law" "law" (Z3 Zed) (Zu Zed) (Zh Zed) .none kV20 dc20 pm20 an20 cd20 ct20)) (λk=>[C_CutError,C_NoCut,C_NoName,C_NoNumber,C_NoOrder,C_NoPoint,C_NoRow,C_NoTable,C_NoText,C_NoWeb,C_TooMany].getD k 0):={ F_law_cell_at:=F1,b_law_cell_at:=b1,m_law_cell_at:=X3 X G a1,F_law_numbers:=F2,b_law_numbers:=b2,m_law_numbers:=X3 X G a2,F_law_drawn:=F3,b_law_drawn:=b3,m_law_drawn:=X3 X G a3,F_law_unlike:=F4,b_law_unlike:=b4,m_law_unlike:=X3 X G a4,F_law_roads:=F5,b_law_roads:=b5,m_law_roads:=X3 X G a5,F_law_is_good:=F6,b_law_is_good:=b6,m_law_is_good:=X3 X G a6,F_is_point_count:=F7,b_is_point_count:=b7,m_is_point_count:=X3 X G a7,F_is_word:=F8,b_is_word:=b8,m_is_word:=X3 X G a8,F_check_words:=F9,b_check_words:=b9,m_check_words:=X3 X G a9,F_pairs_of:=F10,b_pairs_of:=b10,m_pairs_of:=X3 X G a10,F_unlike_signs:=F11,b_unlike_signs:=b11,m_unlike_signs:=X3 X G a11,F_beside_each:=F12,b_beside_each:=b12,m_beside_each:=X3 X G a12,F_is_rising:=F13,b_is_rising:=b13,m_is_rising:=X3 X G a13,F_check_roads:=F14,b_check_roads:=b14,m_check_roads:=X3 X G a14,F_steps_from:=F15,b_steps_from:=b15,m_steps_from:=X3 X G a15,F_web_rows:=F16,b_web_rows:=b16,m_web_rows:=X3 X G a16,F_web_of_words:=F17,b_web_of_words:=b17,m_web_of_words:=X3 X G a17,F_law_refused:=F18,b_law_refused:=b18,m_law_refused:=X3 X G a18,F_law_spoilt:=F19,b_law_spoilt:=b19,m_law_spoilt:=X3 X G a19,F_law:=F20,b_law:=b20,m_law:=X3 X G a20,g_MOST_POINTS:=⟨t_MOST_POINTS,X3 X G gc_MOST_POINTS⟩,z_ValueError:=JS X G z_ValueError,z_int:=JS X G z_int,z_isinstance:=JS X G z_isinstance,z_len:=JS X G z_len,z_list:=JS X G z_list,z_range:=JS X G z_range,z_set:=JS X G z_set,z_zip:=JS X G z_zip,mC_CutError:=X3 X G cc_CutError,ca_CutError:=cc_CutError,mC_NoCut:=X3 X G cc_NoCut,ca_NoCut:=cc_NoCut,mC_NoName:=X3 X G cc_NoName,ca_NoName:=cc_NoName,mC_NoNumber:=X3 X G cc_NoNumber,ca_NoNumber:=cc_NoNumber,mC_NoOrder:=X3 X G cc_NoOrder,ca_NoOrder:=cc_NoOrder,mC_NoPoint:=X3 X G cc_NoPoint,ca_NoPoint:=cc_NoPoint,mC_NoRow:=X3 X G cc_NoRow,ca_NoRow:=cc_NoRow,mC_NoTable:=X3 X G cc_NoTable,ca_NoTable:=cc_NoTable,mC_NoText:=X3 X G cc_NoText,ca_NoText:=cc_NoText,mC_NoWeb:=X3 X G cc_NoWeb,ca_NoWeb:=cc_NoWeb,mC_TooMany:=X3 X G cc_TooMany,ca_TooMany:=cc_TooMany,r_CutError:=r_CutError,r_NoWeb:=r_NoWeb,x_NoWeb_ga:=x_NoWeb_ga,x_NoWeb_gt:=x_NoWeb_gt,x_NoWeb_cl:=x_NoWeb_cl,x_NoWeb_isB:=x_NoWeb_isB,x_NoWeb_isO:=x_NoWeb_isO,x_NoWeb_isC:=x_NoWeb_isC,x_NoWeb_k1:=x_NoWeb_k1,x_NoWeb_k2:=x_NoWeb_k2,x_NoWeb_k3:=x_NoWeb_k3,x_NoWeb_k4:=x_NoWeb_k4,x_NoWeb_k5:=x_NoWeb_k5,u_NoWeb_CutError:=u_NoWeb_CutError,kt_NoWeb_NoWeb:=kt_NoWeb_NoWeb,kt_NoWeb_ValueError:=kt_NoWeb_ValueError,ka_NoWeb_0:=ka_NoWeb_0 }
 exact⟨Qh "law" "law" (Z3 Zed) (Zu Zed) (Zh Zed) .none kV20 dc20 pm20 an20 cd20 ct20,λs v=>.of_eq rfl,λbase _ _=>Zv1 (P:=l.prog) (w:=w) (base:=base) T⟩
theorem walk{l:PySem.W.OpenLaw}{q:X4}{loose:List Str}{XP:(Str->Option Xc)->Heap->Prop}{YP:Qv->Heap->Prop}{d:DefRec}{K:Params->Xb}(hn:l.most=some 63)(hdf:d.params.defaults=[])
  (hY:∀(w:Qv) (h:Heap),YP w h->(K w.params).In h)
  (F:∀(w:Qv) (mg:Str->Option Xc) (fa:Addr) (h:Heap),(K w.params).In h->h.Ns Xx mg->mg d.name=some (.ref fa) ->
   ∃fd:Qc,(∀(s:Xf) (u:Xc),BindsTo s fd ⟨[u],[]⟩ [("script",u)])∧∀base:Heap,(K w.params).In base->base.Ns Xx mg->FnOk l.prog w (K w.params) mg base CX0 6 fa fd ["script"] (spD (K w.params) Zy3)) :
  PySem.W.WalkO q loose XP YP l.row.toRowW d [] (λf vs=>PySem.call f vs) :=
 L2.Zvm (n:=63) (k:=6) (x :="script") (CX:=λ_=>CX0) (sp:=λw=>spD (K w.params) Zy3) hn (by decide) hdf ⟨rfl,by decide,by decide⟩ hY F (λ_ _ a ns hl _ hS=>Z1t hl hS) λ_ _ _ _ _ z=>z
end My
open PySem PySem.W PyProof.Rows
set_option maxRecDepth 100000 in
set_option maxHeartbeats 0 in
theorem PySem.Challenge.cw_farcuts_k64_no_web_of_words_holds : PySem.Challenge.rw_farcuts_k64_no_web_of_words.Holds := by
 w_on;o_law;k_head;(case hw=>w_witness2)
 k_fill
 refine My.walk (l:=PySem.Challenge.rw_farcuts_k64_no_web_of_words) rfl rfl (λw h Y=>PySem.W.kIn_of Y) ?F
 case F=>
  intro w mg fa h KX G hmg
  refine' My.Z0u KX G hmg ?a1 ?l1 ?c1 ?k1 ?a2 ?l2 ?c2 ?k2 ?a3 ?l3 ?c3 ?k3 ?a4 ?l4 ?c4 ?k4 ?a5 ?l5 ?c5 ?k5 ?a6 ?l6 ?c6 ?k6 ?a7 ?l7 ?c7 ?k7 ?a8 ?l8 ?c8 ?k8 ?a9 ?l9 ?c9 ?k9 ?a10 ?l10 ?c10 ?k10 ?a11 ?l11 ?c11 ?k11 ?a12 ?l12 ?c12 ?k12 ?a13 ?l13 ?c13 ?k13 ?a14 ?l14 ?c14 ?k14 ?a15 ?l15 ?c15 ?k15 ?a16 ?l16 ?c16 ?k16 ?a17 ?l17 ?c17 ?k17 ?a18 ?l18 ?c18 ?k18 ?a19 ?l19 ?c19 ?k19 ?a20 ?l20 ?c20 ?k20 ?z_ValueError ?z_int ?z_isinstance ?z_len ?z_list ?z_range ?z_set ?z_zip ?gc_MOST_POINTS ?cc_CutError ?cc_NoCut ?cc_NoName ?cc_NoNumber ?cc_NoOrder ?cc_NoPoint ?cc_NoRow ?cc_NoTable ?cc_NoText ?cc_NoWeb ?cc_TooMany ?r_CutError ?r_NoWeb ?x_NoWeb_ga ?x_NoWeb_gt ?x_NoWeb_cl ?x_NoWeb_isB ?x_NoWeb_isO ?x_NoWeb_isC ?x_NoWeb_k1 ?x_NoWeb_k2 ?x_NoWeb_k3 ?x_NoWeb_k4 ?x_NoWeb_k5 ?u_NoWeb_CutError ?kt_NoWeb_NoWeb ?kt_NoWeb_ValueError ?ka_NoWeb_0
  (case a1=>k_is)
  (case l1=>k_is)
  (case c1=>k_is)
  (case k1=>k_is)
  (case a2=>k_is)
  (case l2=>k_is)
  (case c2=>k_is)
  (case k2=>k_is)
  (case a3=>k_is)
  (case l3=>k_is)
  (case c3=>k_is)
  (case k3=>k_is)
  (case a4=>k_is)
  (case l4=>k_is)
  (case c4=>k_is)
  (case k4=>k_is)
  (case a5=>k_is)
  (case l5=>k_is)
  (case c5=>k_is)
  (case k5=>k_is)
  (case a6=>k_is)
  (case l6=>k_is)
  (case c6=>k_is)
  (case k6=>k_is)
  (case a7=>k_is)
  (case l7=>k_is)
  (case c7=>k_is)
  (case k7=>k_is)
  (case a8=>k_is)
  (case l8=>k_is)
  (case c8=>k_is)
  (case k8=>k_is)
  (case a9=>k_is)
  (case l9=>k_is)
  (case c9=>k_is)
  (case k9=>k_is)
  (case a10=>k_is)
  (case l10=>k_is)
  (case c10=>k_is)
  (case k10=>k_is)
  (case a11=>k_is)
  (case l11=>k_is)
  (case c11=>k_is)
  (case k11=>k_is)
  (case a12=>k_is)
  (case l12=>k_is)
  (case c12=>k_is)
  (case k12=>k_is)
  (case a13=>k_is)
  (case l13=>k_is)
  (case c13=>k_is)
  (case k13=>k_is)
  (case a14=>k_is)
  (case l14=>k_is)
  (case c14=>k_is)
  (case k14=>k_is)
  (case a15=>k_is)
  (case l15=>k_is)
  (case c15=>k_is)
  (case k15=>k_is)
  (case a16=>k_is)
  (case l16=>k_is)
  (case c16=>k_is)
  (case k16=>k_is)
  (case a17=>k_is)
  (case l17=>k_is)
  (case c17=>k_is)
  (case k17=>k_is)
  (case a18=>k_is)
  (case l18=>k_is)
  (case c18=>k_is)
  (case k18=>k_is)
  (case a19=>k_is)
  (case l19=>k_is)
  (case c19=>k_is)
  (case k19=>k_is)
  (case a20=>k_is)
  (case l20=>k_is)
  (case c20=>k_is)
  (case k20=>k_is)
  (case z_ValueError=>k_is)
  (case z_int=>k_is)
  (case z_isinstance=>k_is)
  (case z_len=>k_is)
  (case z_list=>k_is)
  (case z_range=>k_is)
  (case z_set=>k_is)
  (case z_zip=>k_is)
  (case gc_MOST_POINTS=>k_is)
  (case cc_CutError=>k_is)
  (case cc_NoCut=>k_is)
  (case cc_NoName=>k_is)
  (case cc_NoNumber=>k_is)
  (case cc_NoOrder=>k_is)
  (case cc_NoPoint=>k_is)
  (case cc_NoRow=>k_is)
  (case cc_NoTable=>k_is)
  (case cc_NoText=>k_is)
  (case cc_NoWeb=>k_is)
  (case cc_TooMany=>k_is)
  (case r_CutError=>show Uk _ _ _ _=true;k_exc)
  (case r_NoWeb=>show Uk _ _ _ _=true;k_exc)
  (case x_NoWeb_ga=>k_is)
  (case x_NoWeb_gt=>k_is)
  (case x_NoWeb_cl=>k_is)
  (case x_NoWeb_isB=>k_is)
  (case x_NoWeb_isO=>k_is)
  (case x_NoWeb_isC=>k_is)
  (case x_NoWeb_k1=>kit_is)
  (case x_NoWeb_k2=>kit_is)
  (case x_NoWeb_k3=>kit_is)
  (case x_NoWeb_k4=>kit_is)
  (case x_NoWeb_k5=>kit_is)
  (case u_NoWeb_CutError=>k_is)
  (case kt_NoWeb_NoWeb=>kit_is)
  (case kt_NoWeb_ValueError=>kit_is)
  (case ka_NoWeb_0=>kit_is)
#print axioms PySem.Challenge.cw_farcuts_k64_no_web_of_words_holds
