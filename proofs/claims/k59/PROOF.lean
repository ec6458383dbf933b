import PyProof.Rows.All
import Wide.All
import OpenK.AllK
import Wide.FinOn
import PyProof.EqAt
import PyProof.EqKinds
import PyProof.TupleCall
import PyProof.P3In
import PyProof.ZipIter
import PyProof.ListRange
import PyProof.SetRoads
import PyProof.Rows.SetFrom
import PyProof.Rows.SeqMore2
import KE.RegKIsAll
import PyProof.StrWalks
import PyProof.EnumMake
import PyProof.Conv_int
import PyProof.Conv_int_bool
import PyProof.StrBlockI
import PyProof.Draws
import PySem.Challenge.RW_farcuts_k59_steps_of_webs
set_option Elab.async false
set_option linter.all false
set_option maxRecDepth 100000
set_option genSizeOfSpec false
set_option genInjectivity false
/-! THE HAND LAYER, for ints, bools, texts, own classes, LISTS and tuples (index, slices, in, append, pop ..), calls, loops. Paste it whole ahead of your own text; what your proof does not reach may be deleted. -/
open Array renaming length_toList->Xp,getElem?_toList->Qd,getElem?_eq_getElem->QW,getElem?_eq_some_iff->Vd,getD_eq_getD_getElem?->VD
open Bool renaming false_ne_true->Xw,false_eq_true->XC,and_eq_true->XN,eq_false_iff->BJ,not_true->BX
open Classical renaming axiomOfChoice->Vp,byContradiction->VG
open False renaming elim->Vc
open ForInStep renaming yield->Bg
open Int renaming toNat_natCast->BK,zero_add->U6
open Int.ofNat renaming inj->Uh
open List renaming length_map->Xe,getElem?_eq_some_iff->Xi,getElem?_map->Xj,getElem?_eq_getElem->Xl,mem_singleton->Xm,mem_cons->Xn,getD_eq_getElem?_getD->Xq,mem_append_right->Xy,range->Xz,size_toArray->XF,mem_map->XR,length_range->XX,length_append->X6,mem_append_left->X7,mem_of_getElem?->X8,mem_append->Qc,map_congr_left->Qe,map_cons->Qg,replicate->Qi,nodup_cons->Qk,map_map->Qq,append_nil->Qt,mem_range->Qx,map_append->Qy,getElem?_set_ne->Qz,filterMap_cons->QQ,getElem?_set_self->QR,length_cons->QX,append_assoc->QZ,lookup_cons->Q8,getElem?_range->JG,getElem?_append_right->JL,getElem?_eq_none_iff->JW,pairwise_iff_getElem->Bl,pairwise_cons->Br,length_take->Va,Nodup->Ve,getElem?_eq_none->Vf,getElem?_append_left->Vj,length_set->Vl,length_nil->Vm,nodup_append->Vn,replicate_succ->Vs,getElem_mem->Vt,zip->Vx,mem_filter->Vy,length_replicate->VB,getElem?_of_mem->VM,length_drop->VR,all_eq_true->V0,drop_eq_getElem_cons->V2,any_cons->V5,find?_cons->V6,pairwise_singleton->Ua,getElem?_nil->Ue,flatten_cons->Ug,not_mem_nil->Ur,isEmpty_nil->Us,mem_cons_of_mem->Ux,toArray->U4,mem_filterMap->U8,mem_cons_self->U9
open Nat renaming ne_of_lt->Xo,le_refl->XD,ne_of_gt->X3,lt_of_lt_of_le->Qj,le_trans->Qs,zero_le->QH,lt_succ_self->QL,lt_irrefl->Q9,not_lt_zero->JQ,lt_succ_of_lt->Ba,lt_or_ge->Bc,le_of_lt->Bu,lt_trans->BW,le_add_right->Vb,lt_of_succ_lt_succ->Vw,lt_succ_iff->Vz,succ_pos->Ui,lt_trichotomy->Uj,succ_le_succ->Uv
open Ne renaming symm->BL
open Option renaming bind_some->Xh,map_eq_some_iff->XQ,some->Bs,some_ne_none->Uy
open Option.some renaming inj->QB
open Or renaming inr->Qp,inl->QF
open PyProof.Rows renaming callWith_type1->Bw,seqObj->VN
open PySem renaming PyData->Xa,wpAny_bind->Xb,Value->Xc,Shared->Xf,wpAny_pure->Xk,sizeLine->Xr,starEach->Xv,wpAny->Xx,Program->X4,model->X5,mainGlobals->Qa,sizeLine_eq->Qh,World->Qm,Around->Qn,bootBuiltins->Qo,wpAny_mono->QC,FuncData->QD,SetTable->QV,wpAny_setField_rec->Q5,compareOp->Q6,bindArgs->JD,wpAny_setState_of->JH,wpAny_newObj_type->JK,rawInt->JN,wpAny_callSpecial?_slot->JP,wpAny_field->JR,assignEach->JS,wpAny_passesOwn->JT,wpAny_call_entry->JX,wpAny_seqItems->Bd,backTo->Bf,mem_of_lookup->Bj,cellsFrom->Bm,sliceBounds->Bq,swapsWith->Bx,wpAny_holding->By,NameKind->BP,wpAny_truthy_bool->BR,foldedSetIterable->BV,IsPair->Vg,attributeBase->Vh,pushCells->Vi,wpAny_Call_Name_kw->Vk,Builtin->Vo,cLine->Vu,codeAny_builtin->VJ,sysModules->V3,Keyword->V7,wpAny_setEntries_of->V8,pyNext->V9,binaryOp->Uc,wpAny_loadPart_at->Ut,firstArgMember->Uu,Apart->UJ,assign->UL,wpAny_attempt->UW,codeAny->U0,behindInMarks->U3,keywordEach->U5
open PySem.Around renaming under_plainId->VH
open PySem.Builtin.Int renaming intBits->Ul
open PySem.Builtin.List renaming listTooLong->UG
open PySem.Builtin.SmallTypes renaming nextOf->Q3,ownedTupleIsFree->Bp
open PySem.F renaming plainAttrs_list->Bv,called_set->V4
open PySem.Heap renaming get?_push_of_some->Xg,lt_size->XH,get?_push_size->XJ,size_push->QG,SameBut->Bk,get?_update_self->Uo
open PySem.Heap.SameBut renaming update->JM
open PySem.NameKind renaming free->Q7,cell->Bo
open PySem.Obj renaming mapSeq->Vr
open PySem.PassesOwn renaming never->Qv
open PySem.PyData renaming int->XM,eqv->JV,canLay0->BZ,canLayAll0->Ub,list->Uq
open PySem.SeqAt renaming EqAt->Bh,canLay_of_shaped->Ud,shaped->UT
open PySem.SetTable renaming below->Qw,runEnd->Q4,insertAt->JF,bits->Be,Probe->Vq,leap->VP,turns->Uz,fits->U7
open PySem.SetTable.layClean renaming free->VL
open PySem.Str renaming ofString->V1
open PySem.Value renaming ref->Xu,none->QK,int->Um
open PySem.W renaming Frag->Xd,nsIn->Ql,keepIn->Qu,fnOf->QJ,kitOne->QM,mg_none_of->QS,codeIn->QT,mg_of->Q0,kia_one->JB,findIn->JC,Looks->JZ,hideAll->Bb,hideAll_none->VF,subIn->Uk,of_hideAll->UV
open Sum renaming inr->Uw
open True renaming intro->Vv
namespace L2
open PySem PySem.Spec PyProof.Rows
noncomputable abbrev Key:=Sum Int Str
noncomputable def Zk8:Key->Xc->Bool
 | .inl k,v=>Xc.isInt k v
 | .inr x,v=>Value.isStrOf x v
noncomputable def Yay(w:Qm):Key->Int
 | .inl k=>hashInt k
 | .inr x=>hashStr w x
theorem Yl:∀{k:Key} {v:Xc},Zk8 k v=true->(∃i t,k=Sum.inl i∧v=Um i t)∨(∃x t,k=Uw x∧v=Value.str x t)
 | .inl i,v,h=>by
  obtain⟨t,e⟩:=Value.isInt_shape (k:=i) (v:=v) h
  exact .inl ⟨i,t,rfl,e⟩
 | .inr x,v,h=>by
  obtain⟨t,e⟩:=Xc.isStrOf_shape (x:=x) (v:=v) h
  exact .inr ⟨x,t,rfl,e⟩
theorem Znq(i:Int)(t:Tok):Zk8 (.inl i) (.int i t)=true:=by simp[Zk8,Xc.isInt]
theorem Zon(x:Str)(t:Tok):Zk8 (.inr x) (.str x t)=true:=by simp[Zk8,Value.isStrOf]
theorem Zzq(a b:Int):decide ((Sum.inl a:Key)=Sum.inl b)=(a==b):=by
 by_cases e:a=b
 ·subst e;simp
 ·have h:¬(Sum.inl a:Key)=Sum.inl b:=λq=>e (Sum.inl.inj q)
  rw[decide_eq_false h]
  exact(beq_eq_false_iff_ne.mpr e).symm
theorem Zyo(a b:Str):decide ((Uw a:Key)=Uw b)=decide (a=b):=by
 by_cases e:a=b
 ·subst e;simp
 ·have h:¬(Uw a:Key)=Uw b:=λq=>e (Uw.inj q)
  rw[decide_eq_false h,decide_eq_false e]
theorem Z0e(a:Int)(b:Str):decide ((Sum.inl a:Key)=Uw b)=false:=decide_eq_false (λq=>nomatch q)
theorem Z2x(a:Str)(b:Int):decide ((Uw a:Key)=Sum.inl b)=false:=decide_eq_false (λq=>nomatch q)
noncomputable def Y4(prog:X4)(w:Qm):PySem.KeyKind prog w Key where
 is:=Zk8
 hash:=Yay w
 inj:=λv a b ha hb=>by
  rcases Yl ha with⟨i,t,rfl,rfl⟩|⟨x,t,rfl,rfl⟩
  ·rcases Yl hb with⟨j,u,rfl,e⟩|⟨y,u,rfl,e⟩
   ·injection e with e1 _;rw[e1]
   ·exact nomatch e
  ·rcases Yl hb with⟨j,u,rfl,e⟩|⟨y,u,rfl,e⟩
   ·exact nomatch e
   ·injection e with e1 _;rw[e1]
 byValue:=λk v h=>by
  rcases Yl h with⟨i,t,rfl,rfl⟩|⟨x,t,rfl,rfl⟩<;>rfl
 pyHash:=λhv h=>by
  rcases Yl hv with⟨i,t,rfl,rfl⟩|⟨x,t,rfl,rfl⟩
  ·exact wpAny_pyHash_int h
  ·exact wpAny_pyHash_str h
 eqBool:=λhu hv h=>by
  rcases Yl hu with⟨i,t,rfl,rfl⟩|⟨x,t,rfl,rfl⟩
  ·rcases Yl hv with⟨j,u,rfl,rfl⟩|⟨y,u,rfl,rfl⟩
   ·rw[Zzq]at h;exact wpAny_eqBool_int h
   ·rw[Z0e]at h;exact SeqAt.EqAt.int_str i t y u _ _ _ _ h
  ·rcases Yl hv with⟨j,u,rfl,rfl⟩|⟨y,u,rfl,rfl⟩
   ·rw[Z2x]at h;exact SeqAt.EqAt.str_int x t j u _ _ _ _ h
   ·rw[Zyo]at h;exact wpAny_eqBool_str h
 «strs»:=λk x t v h=>by
  rcases Yl h with⟨i,u,rfl,e⟩|⟨y,u,rfl,e⟩
  ·exact nomatch e
  ·injection e with e1 _
   subst e1
   cases v<;>rfl
theorem Zhy(prog:X4)(w:Qm)(i:Int)(t:Tok):(Y4 prog w).is (.inl i) (.int i t)=true:=Znq i t
theorem Zh6(prog:X4)(w:Qm)(x:Str)(t:Tok):(Y4 prog w).is (.inr x) (.str x t)=true:=Zon x t
inductive V where
 | non|bl (b:Bool)|int (i:Int)|str (x:Str)|byt (b:Array UInt8)|flt (b:UInt64)|ref (a:Addr)|ty (n:String)
 deriving DecidableEq
noncomputable def RelV:V->Xc->Prop
 | .non,u=>u=QK
 | .bl b,u=>u=Value.bool b
 | .int i,u=>∃t,u=Um i t
 | .str x,u=>∃t,u=Value.str x t
 | .byt b,u=>∃t,u=Xc.bytes b t
 | .flt b,u=>∃t,u=Xc.float b t
 | .ref a,u=>u=Xu a
 | .ty n,u=>u=Value.type n
noncomputable abbrev Vals:List V->List Xc->Prop:=Paired RelV
theorem Vals.length{xs:List V}{us:List Xc}(r:Vals xs us):xs.length=us.length:=Paired.length r
theorem Vals.get{xs:List V}{us:List Xc}{i:Nat}{x:V}(h:Vals xs us)(e:xs[i]? =some x):∃u,us[i]? =some u∧RelV x u:=by
 induction h generalizing i with
 | nil=>exact(Uy _ (e.symm.trans Ue)).elim
 | cons r t ih=>
  cases i with
  | zero=>exact⟨_,rfl,QB e▸r⟩
  | succ i=>exact ih e
theorem Vals.set{x:V}{u:Xc}(r:RelV x u){xs:List V}{us:List Xc}(i:Nat)(h:Vals xs us):Vals (xs.set i x) (us.set i u):=by
 induction h generalizing i with
 | nil=>exact .nil
 | cons q t ih=>
  cases i with
  | zero=>exact .cons r t
  | succ i=>exact .cons q (ih i)
theorem Vals.append{xs ys:List V}{us ws:List Xc}(h:Vals xs us)(s:Vals ys ws):Vals (xs ++ ys) (us ++ ws):=by
 induction h with
 | nil=>exact s
 | cons r t ih=>exact .cons r ih
theorem Vals.take{xs:List V}{us:List Xc}(n:Nat)(h:Vals xs us):Vals (xs.take n) (us.take n):=by
 induction h generalizing n with
 | nil=>rw[List.take_nil,List.take_nil];exact .nil
 | cons r t ih=>
  cases n with
  | zero=>exact .nil
  | succ n=>exact .cons r (ih n)
theorem Vals.drop{xs:List V}{us:List Xc}(n:Nat)(h:Vals xs us):Vals (xs.drop n) (us.drop n):=by
 induction h generalizing n with
 | nil=>rw[List.drop_nil,List.drop_nil];exact .nil
 | cons r t ih=>
  cases n with
  | zero=>exact .cons r t
  | succ n=>exact ih n
noncomputable def RelO:Option V->Option Xc->Prop
 | some v,some u=>RelV v u
 | none,none=>True
 | _,_=>False
noncomputable def KV{κ:Type}:List (κ×V)->List (κ×Xc)->Prop:=Paired λ(p:κ×V) (q:κ×Xc)=>p.1=q.1∧RelV p.2 q.2
noncomputable def kV:Key->V
 | .inl i=>.int i
 | .inr x=>.str x
inductive HO where
  | lst (xs:List V)
  | tup (xs:List V)
  | dK (kvs:List (Key×V))|dT (kvs:List (List Key×V))
  | set (S:Int->Bool) (n:Nat)
  | ins (C dx:Addr) (fs:List (Str×V))
  | own (x:Addr)
  | xd (fs:List (Str×V))
  | met (f x:Addr)
  | rng (lo hi:Int)
  | frz (o:Obj) (u:HO)
  | tbl (ps:Array Xc)
  | ext (φ:Heap->Prop)
noncomputable abbrev Hp:=Addr->Option HO
noncomputable def upd(H:Hp)(a:Addr)(o:HO):Hp:=λb=>if b=a then some o else H b
theorem Zm{H:Hp}{a:Addr}{o:HO}:upd H a o a=some o:=by unfold upd;rw[if_pos rfl]
theorem Zi{H:Hp}{a b:Addr}{o:HO}(h:b≠a):upd H a o b=H b:=by unfold upd;rw[if_neg h]
theorem Z7k{H:Hp}{a b:Addr}{o u:HO}(h:H a=some o)(h':H b=some u)(d:o≠u):a≠b:=by
 intro e;subst e;rw[h]at h';exact d (QB h')
theorem Yd{H:Hp}{a b:Addr}{o:HO}(h:H a=some o)(h':H b=none):a≠b:=by
 intro e;subst e;rw[h]at h';cases h'
section
variable (P:X4)(w:Qm)
noncomputable def ObjOk(H:Hp)(h:Heap)(a:Addr):HO->Prop
 | .lst xs=>xs.length≤Xr∧∃(its:List Xc) (n:Nat),Vals xs its∧h.get? a=some { cls:=.type "list",data:=.seq its.toArray n }
 | .tup xs=>xs.length≤Xr∧∃its:List Xc,Vals xs its∧IsTup h a its.toArray
 | .dK kvs=>kvs.length≤Xr∧(a==V3)=false∧∃vs,KV kvs vs∧h.DictOf (Y4 P w) a vs
 | .dT kvs=>kvs.length≤Xr∧(a==V3)=false∧∃xs:List (List Key×Addr×Xc),
   Paired (λ(p:List Key×V) (q:List Key×Addr×Xc)=>p.1=q.1∧H q.2.1=some (.tup (p.1.map kV))∧RelV p.2 q.2.2) kvs xs∧
   ∃o es ep,h.get? a=some o∧o.ExactDict∧o.data= .dict es ep∧es.toList=xs.map (entryOfKey (tupleKind (Y4 P w)))∧(xs.map (·.1)).Nodup
 | .set S n=>h.SetOf (intKind P w) a S n
 | .ins C dx fs=>H dx=some (.own a)∧fs.length≤1000∧dx≠a∧h.get? a=some (PySem.W.instObj C dx)∧
   ∃mA,h.Ns1 dx mA∧(∀f,RelO (fs.lookup f) (mA f))∧PySem.Within mA (fs.map (·.1))
 | .own _=>∃o,h.get? a=some o
 | .xd fs=>∃mA,h.Ns1 a mA∧∀f,RelO (fs.lookup f) (mA f)
 | .rng lo hi=>∃t u v,h.get? a=some { cls:=.type "range",data:=.fields #[.int lo t,.int hi u,.int 1 v] }
 | .frz o u=>h.get? a=some o∧ObjOk H h a u
 | .tbl ps=>h.get? a=some { cls:=.none,data:=.fields ps }
 | .met f x=>h.get? a=some (PySem.W.methodObj (.ref f) (.ref x))
 | .ext φ=>φ h∧(∃o,h.get? a=some o)∧∀h1 h2:Heap,φ h1->(∀o,h1.get? a=some o->h2.get? a=some o)->φ h2
noncomputable def HOk(H:Hp)(h:Heap):Prop:=∀a o,H a=some o->ObjOk P w H h a o
end
section
variable {P:X4}{w:Qm}{H H':Hp}{h h':Heap}{a:Addr}{o:HO}
theorem ObjOk.lt(x:ObjOk P w H h a o):a<h.objs.size:=by
 cases o with
 | lst xs=>obtain⟨_,_,_,_,e⟩:=x;exact XH e
 | tup xs=>obtain⟨_,_,_,p⟩:=x;exact p.lt
 | dK kvs=>obtain⟨_,_,_,_,o,_,_,e,_⟩:=x;exact XH e
 | dT kvs=>obtain⟨_,_,_,_,o,_,_,e,_⟩:=x;exact XH e
 | set S n=>obtain⟨o,_,_,_,e,_⟩:=x;exact XH e
 | ins C dx fs=>obtain⟨_,_,_,e,_⟩:=x;exact XH e
 | own y=>obtain⟨_,e⟩:=x;exact XH e
 | xd fs=>obtain⟨_,⟨_,_,_,e,_⟩,_⟩:=x;exact XH e
 | rng lo hi=>obtain⟨_,_,_,e⟩:=x;exact XH e
 | frz ob u=>obtain⟨e,_⟩:=x;exact XH e
 | tbl ps=>exact XH (show h.get? a=some _ from x)
 | met f y=>exact XH (show h.get? a=some _ from x)
 | ext φ=>obtain⟨_,⟨_,e⟩,_⟩:=x;exact XH e
theorem Paired.mapP{α β:Type}{F G:α->β->Prop}{l₁:List α}{l₂:List β}(h:Paired F l₁ l₂)(f:∀a b,F a b->G a b):Paired G l₁ l₂:=by
 induction h with
 | nil=>exact .nil
 | cons r t ih=>exact .cons (f _ _ r) ih
theorem ObjOk.stay(x:ObjOk P w H h a o)(k:∀b u,(b=a∨H b=some (.own a))->h.get? b=some u->h'.get? b=some u)
  (ho:∀b,H b=some (.own a)->H' b=some (.own a)) (ht:∀b xs,H b=some (.tup xs)->H' b=some (.tup xs)):ObjOk P w H' h' a o:=by
 induction o with
 | lst xs=>obtain⟨z,its,n,r,e⟩:=x;exact⟨z,its,n,r,k _ _ (.inl rfl) e⟩
 | tup xs=>obtain⟨z,its,r,ob,e,c⟩:=x;exact⟨z,its,r,ob,k _ _ (.inl rfl) e,c⟩
 | dK kvs=>obtain⟨z,y,vs,r,ob,es,ep,e,c⟩:=x;exact⟨z,y,vs,r,ob,es,ep,k _ _ (.inl rfl) e,c⟩
 | dT kvs=>
  obtain⟨z,y,xs,r,ob,es,ep,e,c⟩:=x
  exact⟨z,y,xs,Paired.mapP r λp q z=>⟨z.1,ht _ _ z.2.1,z.2.2⟩,ob,es,ep,k _ _ (.inl rfl) e,c⟩
 | set S n=>obtain⟨ob,es,ep,t,e,c⟩:=x;exact⟨ob,es,ep,t,k _ _ (.inl rfl) e,c⟩
 | ins C dx fs=>
  obtain⟨d,z,ne,e,mA,⟨od,es,ep,e2,c⟩,r⟩:=x
  exact⟨ho _ d,z,ne,k _ _ (.inl rfl) e,mA,⟨od,es,ep,k _ _ (.inr d) e2,c⟩,r⟩
 | own y=>obtain⟨ob,e⟩:=x;exact⟨ob,k _ _ (.inl rfl) e⟩
 | xd fs=>obtain⟨mA,⟨od,es,ep,e,c⟩,r⟩:=x;exact⟨mA,⟨od,es,ep,k _ _ (.inl rfl) e,c⟩,r⟩
 | rng lo hi=>obtain⟨t,u,v,e⟩:=x;exact⟨t,u,v,k _ _ (.inl rfl) e⟩
 | frz ob u ih=>obtain⟨e,q⟩:=x;exact⟨k _ _ (.inl rfl) e,ih q⟩
 | tbl ps=>
  have e:h.get? a=some { cls:=.none,data:=.fields ps }:=x
  show h'.get? a=some { cls:=.none,data:=.fields ps }
  exact k a _ (.inl rfl) e
 | met f y=>
  have e:h.get? a=some (PySem.W.methodObj (.ref f) (.ref y)):=x
  show h'.get? a=some (PySem.W.methodObj (.ref f) (.ref y))
  exact k a _ (.inl rfl) e
 | ext φ=>obtain⟨p,⟨o,e⟩,st⟩:=x;exact⟨st _ _ p λo q=>k _ _ (.inl rfl) q,⟨o,k _ _ (.inl rfl) e⟩,st⟩
theorem HOk.lt(x:HOk P w H h)(e:H a=some o):a<h.objs.size:=(x a o e).lt
theorem HOk.fresh(x:HOk P w H h)(e:h.objs.size≤a):H a=none:=by
 cases q:H a with
 | none=>rfl
 | some u=>exact absurd (Qj (x.lt q) e) (Q9 _)
theorem HOk.kept(x:HOk P w H h)(k:∀b u,h.get? b=some u->h'.get? b=some u):HOk P w H h':=λa o e=>
 (x a o e).stay (λb u _ q=>k b u q) (λ_ q=>q) λ_ _ q=>q
theorem HOk.laid(x:HOk P w H h)(k:∀b u,h.get? b=some u->h'.get? b=some u)(hp:h.objs.size≤a)(new:ObjOk P w (upd H a o) h' a o):HOk P w (upd H a o) h':=λb u e=>by
 have hn:=x.fresh hp
 by_cases hb:b=a
 ·subst hb;rw[Zm]at e;cases e;exact new
 ·rw[Zi hb]at e
  exact(x b u e).stay (λc v _ q=>k c v q) (λc q=>by rw[Zi (Yd q hn)];exact q) λc xs q=>by rw[Zi (Yd q hn)];exact q
end
noncomputable def Rd(H:Hp)(a:Addr)(u:HO):Prop:=H a=some u∨∃o,H a=some (.frz o u)
theorem Rd.ok{P:X4}{w:Qm}{H:Hp}{h:Heap}{a:Addr}{u:HO}(r:Rd H a u)(x:HOk P w H h):ObjOk P w H h a u:=by
 rcases r with r|⟨o,r⟩
 ·exact x a u r
 ·obtain⟨_,q⟩:=x a _ r
  exact q
noncomputable def Mut:Option HO->Prop
 | some (.lst _)=>True
 | some (.dK _)=>True
 | some (.dT _)=>True
 | some (.set _ _)=>True
 | some (.ins _ _ _)=>True
 | some (.ext _)=>True
 | _=>False
section
variable {P:X4}{w:Qm}{H:Hp}{h h':Heap}{x e:Addr}{o':HO}
theorem HOk.write(ok:HOk P w H h)(mu:Mut (H x))(he:e=x∨H e=some (.own x))(k:∀b u,b≠e->h.get? b=some u->h'.get? b=some u)(heo:∃u,h'.get? e=some u)
  (new:ObjOk P w (upd H x o') h' x o'):HOk P w (upd H x o') h':=λb u q=>by
 have nown:∀c y,H c=some (.own y)->c≠x:=λc y r z=>by subst z;rw[r]at mu;exact mu
 have ntup:∀c xs,H c=some (.tup xs)->c≠x:=λc xs r z=>by subst z;rw[r]at mu;exact mu
 by_cases hb:b=x
 ·subst hb;rw[Zm]at q;cases q;exact new
 ·rw[Zi hb]at q
  by_cases hbe:b=e
  ·have q':H b=some (.own x):=by
    rcases he with z|z
    ·exact absurd (hbe.trans z) hb
    ·rw[hbe];exact z
   rw[q]at q';cases q'
   obtain⟨v,hv⟩:=heo
   exact⟨v,by rw[hbe];exact hv⟩
  ·refine(ok b u q).stay (λc v hc r=>k c v ?_ r) (λc r=>by rw[Zi (nown c b r)];exact r) λc xs r=>by rw[Zi (ntup c xs r)];exact r
   rcases hc with rfl|hc
   ·exact hbe
   ·rintro rfl
    rcases he with z|z
    ·exact nown c b hc z
    ·rw[hc]at z;cases z;exact hb rfl
end
structure Un(fs ex:List Addr)(H H':Hp)(h h':Heap):Prop where
 keep:∀b o,h.get? b=some o->H b=none->b∉fs->b∉ex->h'.get? b=some o
 slot:∀b o,h.get? b=some o->H b=none->b∈fs->b∉ex->∃sl,h'.get? b=some { o with slots:=sl }
 free:∀b o,h.get? b=some o->H b=none->b∉ex->H' b=none
 there:∀b o,h.get? b=some o->b∉ex->∃o',h'.get? b=some o'
 tups:∀b xs,H b=some (.tup xs)->H' b=some (.tup xs)
 frzs:∀b o u,H b=some (.frz o u)->H' b=some (.frz o u)
 tbls:∀b ps,H b=some (.tbl ps)->∃more,H' b=some (.tbl (ps ++ more))
section
variable {fs fs' ex ex':List Addr}{H H1 H2:Hp}{h h1 h2 h':Heap}{a x e:Addr}{o:HO}
theorem Un.any(u:Un fs ex H H1 h h1){b:Addr}{ob:Obj}(q:h.get? b=some ob)(n:H b=none)(hx:b∉ex):∃sl,h1.get? b=some { ob with slots:=sl }:=by
 by_cases hb:b∈fs
 ·exact u.slot b ob q n hb hx
 ·exact⟨ob.slots,u.keep b ob q n hb hx⟩
theorem Un.kept(k:∀b u,h.get? b=some u->h'.get? b=some u):Un fs ex H H h h' :=
 ⟨λb ob q _ _ _=>k b ob q,λb ob q _ _ _=>⟨ob.slots,k b ob q⟩,λ_ _ _ n _=>n,λb ob q _=>⟨ob,k b ob q⟩,λ_ _ q=>q,λ_ _ _ q=>q,λ_ ps q=>⟨#[],by rw[q];simp⟩⟩
theorem Un.refl:Un fs ex H H h h:=Un.kept λ_ _ q=>q
theorem Un.laid(k:∀b u,h.get? b=some u->h'.get? b=some u)(hp:h.objs.size≤a)(hn:H a=none):Un fs ex H (upd H a o) h h' where
 keep:=λb u q _ _ _=>k b u q
 slot:=λb u q _ _ _=>⟨u.slots,k b u q⟩
 free:=λb u q n _=>by rw[Zi (Xo (Qj (XH q) hp))];exact n
 there:=λb u q _=>⟨u,k b u q⟩
 tups:=λb xs q=>by rw[Zi (Yd q hn)];exact q
 frzs:=λb u xs q=>by rw[Zi (Yd q hn)];exact q
 tbls:=λb ps q=>⟨#[],by rw[Zi (Yd q hn),q];simp⟩
theorem Un.write(mu:Mut (H x))(he:e=x∨H e=some (.own x))(k:∀b u,b≠e->h.get? b=some u->h'.get? b=some u)(heo:∃u,h'.get? e=some u):Un fs ex H (upd H x o) h h':=by
 have hx:∀b,H b=none->b≠x:=λb n z=>by subst z;rw[n]at mu;exact mu
 have hb:∀b,H b=none->b≠e:=λb n z=>by
  subst z
  rcases he with r|r
  ·exact hx b n r
  ·rw[n]at r;cases r
 have hm:∀b u,H b=some u->¬Mut (some u)->b≠x:=λb u q nm z=>by subst z;rw[q]at mu;exact nm mu
 refine⟨λb u q n _ _=>k b u (hb b n) q,λb u q n _ _=>⟨u.slots,k b u (hb b n) q⟩,λb u q n _=>by rw[Zi (hx b n)];exact n,λb u q _=>?_,
  λb xs q=>by rw[Zi (hm b _ q λz=>z)];exact q,λb u xs q=>by rw[Zi (hm b _ q λz=>z)];exact q,λb ps q=>⟨#[],by rw[Zi (hm b _ q λz=>z),q];simp⟩⟩
 by_cases hbe:b=e
 ·subst hbe;exact heo
 ·exact⟨u,k b u hbe q⟩
end
noncomputable def trk(h:Heap)(H:Hp):List Addr:=(Xz h.objs.size).filter λa=>(H a).isSome
noncomputable def Zps(h:Heap)(H:Hp):Heap:=Bb h (trk h H)
theorem Zok(h:Heap)(H:Hp):(Zps h H).objs.size=h.objs.size:=PySem.W.hideAll_size _ _
theorem Zqp{h:Heap}{H:Hp}{b:Addr}{o:Obj}(e:h.get? b=some o)(n:H b=none):(Zps h H).get? b=some o :=
 PySem.W.hideAll_get _ e λhm=>by
  have q:(H b).isSome=true:=(Vy.mp hm).2
  rw[n]at q;simp at q
theorem Zx2{h:Heap}{H:Hp}{b:Addr}{o:Obj}(e:(Zps h H).get? b=some o):h.get? b=some o∧H b=none:=by
 have e':h.get? b=some o:=UV (trk h H) e
 refine⟨e',?_⟩
 cases q:H b with
 | none=>rfl
 | some x=>
  have hm:b∈trk h H:=Vy.mpr ⟨Qx.mpr (XH e'),by simp[q]⟩
  have z:(Zps h H).get? b=none:=VF (trk h H) hm
  rw[z]at e;cases e
noncomputable def Zw9(g h:Heap)(L:Addr):List (Addr×Obj):=(Xz h.objs.size).filterMap λa=>if a=L∨(g.get? a).isSome=true then none else(h.get? a).map λo=>(a,o)
noncomputable def rest(g h:Heap)(L d:Addr):List (Addr×Obj):=(Zw9 g h L).filter λp=>decide (p.1≠d)
structure Mod(K:Xd)(mg:Str->Option Xc)(base:Heap):Prop where
 kin:K.In base
 glob:base.Ns Qa mg
 blt:∃mb,base.Ns builtinsNs mb∧∀x:Str,x≠"__name__" ->mb x=Qo x
 nolimit:base.NoLimit
set_option genInjectivity false in
structure Cx where
 prog:X4
 w:Qm
 K:Xd
 mg:Str->Option Xc
 base:Heap
 A:Qn
 N:List Str
 s₀:Xf
 H₀:Hp
 env:Env
 outer:List Env
 stack:List Env
 ex:List Addr
 fn:Str->Bool
 calm:Bool
 pn:List (Addr×Obj)
 xe:Xc->Xf->Prop
noncomputable def frs(l:List Env):List Addr:=l.filterMap (·.frame)
noncomputable abbrev Cx.fs(X:Cx):List Addr:=frs X.outer
noncomputable def Vis(sc:Scope)(x:Str):Prop:=sc.names.lookup x=some .local∨sc.names.lookup x=some .cell∨sc.names.lookup x=some .free
noncomputable def Loc(sc:Scope)(x:Str):Prop:=sc.names.lookup x=some .local∨sc.names.lookup x=some .cell
noncomputable def Look(env:Env)(h:Heap)(m:Str->Option Xc)(x:Str)(u:Xc):Prop :=
 (env.kindOf x=some .local∧m x=some u)∨((env.kindOf x=some .cell∨env.kindOf x=some .free)∧∃c,env.cells.lookup x=some c∧h.IsCell c (some u))
structure Cx.Ok(X:Cx):Prop where
 mod:Mod X.K X.mg X.base
 kind:X.env.scope.kind= .function
 glob:X.env.globals=Qa
 blt:X.env.builtins=builtinsNs
 above:X.s₀.heap.objs.size≤X.env.locals
 inj:∀x y c,X.env.cells.lookup x=some c->X.env.cells.lookup y=some c->x=y
 has:∀x,(X.env.kindOf x=some .cell∨X.env.kindOf x=some .free)->∃c,X.env.cells.lookup x=some c
 cab:∀x c,X.fn x=true->X.env.cells.lookup x=some c->X.s₀.heap.objs.size≤c
 hd:X.calm=true->X.A.handled=none
 frames:X.A.frames=some X.stack
 stk:X.stack=X.outer∨(X.stack=X.env :: X.outer∧X.env.frame=some X.env.locals)
 exf:∀b∈X.ex,b≠X.env.locals∧∀x c,X.env.cells.lookup x=some c->c≠b
 bs:∀b o,X.base.get? b=some o->X.s₀.heap.get? b=some o∧X.H₀ b=none
 bsz:X.base.objs.size≤X.s₀.heap.objs.size
 noex:∀b o,X.base.get? b=some o->b∉X.ex
 exfs:∀b∈X.ex,b∉X.fs
 funs:X.s₀.heap.FunFrames X.base X.outer
 frf:∀b∈X.fs,X.H₀ b=none
structure Inv(X:Cx)(pins:List (Addr×Obj))(σ:List (Option V))(H:Hp)(s:Xf):Prop where
 ok:X.Ok
 os:s.os=X.s₀.os
 bare:AllBare s.gens
 base:Un X.fs X.ex X.H₀ H X.s₀.heap s.heap
 loc:∃m,s.heap.Ns X.env.locals m∧∀(i:Nat) (x:Str) (v:V),X.N[i]? =some x->σ[i]? =some (some v)->Vis X.env.scope x->∃u,RelV v u∧Look X.env s.heap m x u
 cell:∀x c,X.env.cells.lookup x=some c->∃v,s.heap.IsCell c v
 free:H X.env.locals=none
 freeC:∀x c,X.env.cells.lookup x=some c->H c=none
 pin:∀p∈X.pn ++ pins,s.heap.get? p.1=some p.2∧H p.1=none∧p.1≠X.env.locals∧p.1∉X.fs∧∀v,p.2.data≠ .cell v
 hok:HOk X.prog X.w H s.heap
 len:σ.length=X.N.length
section
variable {X:Cx}{pins:List (Addr×Obj)}{σ:List (Option V)}{H H':Hp}{s:Xf}{h':Heap}
theorem Cx.Ok.nofr(ok:X.Ok){b:Addr}{o:Obj}(e:X.base.get? b=some o):b∉X.fs:=λhb=>by
 have:=(ok.funs.mem hb).1
 rw[e]at this;cases this
theorem Inv.bs(I:Inv X pins σ H s):∀b o,X.base.get? b=some o->s.heap.get? b=some o∧H b=none:=λb o e=>
 ⟨I.base.keep b o (I.ok.bs b o e).1 (I.ok.bs b o e).2 (I.ok.nofr e) (I.ok.noex b o e),I.base.free b o (I.ok.bs b o e).1 (I.ok.bs b o e).2 (I.ok.noex b o e)⟩
theorem Inv.bk(I:Inv X pins σ H s):∀b o,X.base.get? b=some o->s.heap.get? b=some o:=λb o e=>(I.bs b o e).1
theorem Inv.mod(I:Inv X pins σ H s):Mod X.K X.mg X.base:=I.ok.mod
theorem Inv.kIn(I:Inv X pins σ H s):X.K.In s.heap:=I.ok.mod.kin.keeps I.bk
theorem Inv.lt(I:Inv X pins σ H s):X.env.locals<s.heap.objs.size:=let⟨_,hn,_⟩:=I.loc;hn.lt
theorem Inv.sz(I:Inv X pins σ H s):X.s₀.heap.objs.size≤s.heap.objs.size:=Qs I.ok.above (Bu I.lt)
theorem Inv.nofs(I:Inv X pins σ H s){a:Addr}(h:s.heap.objs.size≤a):a∉X.fs:=λhb=>by
 obtain⟨_,o,ho,_⟩:=I.ok.funs.mem hb
 exact absurd (Qj (XH ho) (Qs I.sz h)) (Q9 _)
theorem Inv.cne(I:Inv X pins σ H s):∀x c,X.env.cells.lookup x=some c->c≠X.env.locals:=λx c e z=>by
 obtain⟨v,o,ho,hd⟩:=I.cell x c e
 obtain⟨m,⟨o',es,ep,ho',hd',_⟩,_⟩:=I.loc
 rw[z,ho']at ho;cases ho;rw[hd']at hd;cases hd
theorem Inv.funs(I:Inv X pins σ H s):s.heap.FunFrames X.base X.outer:=by
 have all:∀(l:List Env),(∀b∈frs l,b∈X.fs)->X.s₀.heap.FunFrames X.base l->s.heap.FunFrames X.base l:=by
  intro l
  induction l with
  | nil=>intro _ _;trivial
  | cons env r ih=>
   intro hs hl
   obtain⟨hk,⟨L,o,hf,hn,ho,hd⟩,hr⟩:=hl
   have hL:L∈X.fs:=hs L (by unfold frs;rw[QQ,hf];exact U9)
   obtain⟨sl,e⟩:=I.base.slot L o ho (I.ok.frf L hL) hL λz=>I.ok.exfs L z hL
   exact⟨hk,⟨L,_,hf,hn,e,hd⟩,ih (λb hb=>hs b (by unfold frs;rw[QQ,hf];exact Ux _ hb)) hr⟩
 exact all X.outer (λ_ hb=>hb) I.ok.funs
theorem Inv.stack(I:Inv X pins σ H s):s.heap.FunFrames X.base X.stack:=by
 rcases I.ok.stk with e|⟨e,hf⟩
 ·rw[e];exact I.funs
 ·rw[e]
  obtain⟨m,hn,_⟩:=I.loc
  refine .cons (by rw[I.ok.kind];decide) hf hn ?_ I.funs
  exact Heap.get?_none_of_le (Qs I.ok.bsz I.ok.above)
theorem Inv.stkSub(I:Inv X pins σ H s):∀b∈frs X.stack,b∈X.env.locals :: X.fs:=λb hb=>by
 rcases I.ok.stk with e|⟨e,hf⟩
 ·rw[e]at hb;exact Ux _ hb
 ·rw[e]at hb
  unfold frs at hb
  rw[QQ,hf]at hb
  exact hb
theorem Inv.stkFree(I:Inv X pins σ H s):∀b∈frs X.stack,H b=none:=λb hb=>by
 rcases Xn.mp (I.stkSub b hb)with e|hb
 ·rw[e];exact I.free
 ·obtain⟨_,o,ho,_⟩:=I.ok.funs.mem hb
  exact I.base.free b o ho (I.ok.frf b hb) λz=>I.ok.exfs b z hb
theorem Inv.step{g':Array GenState}{t':Nat}{d':Drawn}{ch:List Addr}(I:Inv X pins σ H s)
  (hch:∀b∈ch,(b∈X.ex∨X.s₀.heap.objs.size≤b)∧b≠X.env.locals∧(∀x c,X.env.cells.lookup x=some c->c≠b)∧∀p∈X.pn ++ pins,p.1≠b)
  (keep:∀b o,b≠X.env.locals->b∉X.fs->b∉ch->s.heap.get? b=some o->H b=none->h'.get? b=some o)
  (slot:∀b o,b≠X.env.locals->b∈X.fs->b∉ch->s.heap.get? b=some o->H b=none->∃sl,h'.get? b=some { o with slots:=sl }) (free:∀b o,b∉ch->s.heap.get? b=some o->H b=none->H' b=none)
  (there:∀b o,b∉ch->s.heap.get? b=some o->∃o',h'.get? b=some o')
  (tups:∀b xs,H b=some (.tup xs)->H' b=some (.tup xs)) (frzs:∀b o u,H b=some (.frz o u)->H' b=some (.frz o u)) (tbls:∀b ps,H b=some (.tbl ps)->∃more,H' b=some (.tbl (ps ++ more)))
  (ns:∀m,s.heap.Ns X.env.locals m->h'.Ns X.env.locals m) (hok:HOk X.prog X.w H' h') (hg:AllBare g') :
  Inv X pins σ H' { s with heap:=h',gens:=g',drawn:=d',toks:=t' }:=by
 have neL:∀b o,X.s₀.heap.get? b=some o->b≠X.env.locals:=λb o e=>Xo (Qj (XH e) I.ok.above)
 have neC:∀b o,X.s₀.heap.get? b=some o->b∉X.ex->b∉ch:=λb o e hx hb=>by
  rcases(hch b hb).1 with z|z
  ·exact hx z
  ·exact absurd (Qj (XH e) z) (Q9 _)
 have cellK:∀x c,X.env.cells.lookup x=some c->∀v,s.heap.IsCell c v->h'.IsCell c v:=λx c e v ⟨o,ho,hd⟩=>by
  have nch:c∉ch:=λz=>(hch c z).2.2.1 x c e rfl
  by_cases hc:c∈X.fs
  ·obtain⟨sl,q⟩:=slot c o (I.cne x c e) hc nch ho (I.freeC x c e)
   exact⟨_,q,hd⟩
  ·exact⟨o,keep c o (I.cne x c e) hc nch ho (I.freeC x c e),hd⟩
 refine⟨I.ok,I.os,hg,⟨λb o e n hb hx=>?_,λb o e n hb hx=>?_,λb o e n hx=>?_,λb o e hx=>?_,λb xs e=>tups b xs (I.base.tups b xs e),λb o xs e=>frzs b o xs (I.base.frzs b o xs e),λb ps e=>?_⟩,?_,λx c e=>?_,?_,λx c e=>?_,λp hp=>?_,hok,I.len⟩
 ·exact keep b o (neL b o e) hb (neC b o e hx) (I.base.keep b o e n hb hx) (I.base.free b o e n hx)
 ·obtain⟨sl,e1⟩:=I.base.slot b o e n hb hx
  obtain⟨sl',e2⟩:=slot b _ (neL b o e) hb (neC b o e hx) e1 (I.base.free b o e n hx)
  exact⟨sl',e2⟩
 ·obtain⟨o',e1⟩:=I.base.there b o e hx
  exact free b o' (neC b o e hx) e1 (I.base.free b o e n hx)
 ·obtain⟨o',e1⟩:=I.base.there b o e hx
  exact there b o' (neC b o e hx) e1
 ·obtain⟨m1,e1⟩:=I.base.tbls b ps e
  obtain⟨m2,e2⟩:=tbls b _ e1
  exact⟨m1 ++ m2,by rw[e2,Array.append_assoc]⟩
 ·obtain⟨m,hn,hl⟩:=I.loc
  refine⟨m,ns m hn,λi x v e1 e2 e3=>?_⟩
  obtain⟨u,r,l⟩:=hl i x v e1 e2 e3
  refine⟨u,r,?_⟩
  rcases l with l|⟨k,c,e,z⟩
  ·exact .inl l
  ·exact .inr ⟨k,c,e,cellK x c e _ z⟩
 ·obtain⟨v,z⟩:=I.cell x c e
  exact⟨v,cellK x c e v z⟩
 ·obtain⟨m,⟨o,_,_,ho,_⟩,_⟩:=I.loc
  exact free _ o (λz=>(hch _ z).2.1 rfl) ho I.free
 ·obtain⟨v,o,ho,hd⟩:=I.cell x c e
  exact free c o (λz=>(hch c z).2.2.1 x c e rfl) ho (I.freeC x c e)
 ·obtain⟨e,n,ne,nf,d⟩:=I.pin p hp
  have nch:p.1∉ch:=λz=>(hch p.1 z).2.2.2 p hp rfl
  exact⟨keep p.1 p.2 ne nf nch e n,free p.1 p.2 nch e n,ne,nf,d⟩
theorem Inv.un{t':Nat}(I:Inv X pins σ H s)(u:Un X.fs [] H H' s.heap h')(hok:HOk X.prog X.w H' h'):Inv X pins σ H' { s with heap:=h',toks:=t' }:=by
 obtain⟨m,⟨o,es,ep,ho,r⟩,_⟩:=id I.loc
 obtain⟨sl,hL⟩:=u.any ho I.free (by simp)
 exact I.step (g':=s.gens) (d':=s.drawn) (ch:=[]) (λ_ z=>nomatch z) (λb o _ hb _ e n=>u.keep b o e n hb (by simp)) (λb o _ hb _ e n=>u.slot b o e n hb (by simp)) (λb o _ e n=>u.free b o e n (by simp)) (λb o _ e=>u.there b o e (by simp)) u.tups u.frzs u.tbls (λm' hm=>by
  obtain⟨o',es',ep',ho',r'⟩:=hm
  rw[ho]at ho';cases ho'
  exact⟨_,es',ep',hL,r'⟩) hok I.bare
theorem Inv.call{g':Array GenState}{t':Nat}{d':Drawn}{ch:List Addr}(I:Inv X pins σ H s)(u:Un (frs X.stack) ch H H' s.heap h')(hok:HOk X.prog X.w H' h')(hg:AllBare g')
  (hch:∀b∈ch,(b∈X.ex∨X.s₀.heap.objs.size≤b)∧b≠X.env.locals∧(∀x c,X.env.cells.lookup x=some c->c≠b)∧∀p∈X.pn ++ pins,p.1≠b) :
  Inv X pins σ H' { s with heap:=h',gens:=g',drawn:=d',toks:=t' }:=by
 obtain⟨m,⟨o,es,ep,ho,r⟩,_⟩:=id I.loc
 obtain⟨sl,hL⟩:=u.any ho I.free λz=>(hch _ z).2.1 rfl
 exact I.step (ch:=ch) hch (λb o hL hb hc e n=>u.keep b o e n (λz=>(Xn.mp (I.stkSub b z)).elim hL hb) hc) (λb o _ _ hc e n=>u.any e n hc) (λb o hc e n=>u.free b o e n hc) (λb o hc e=>u.there b o e hc) u.tups u.frzs u.tbls (λm' hm=>by
  obtain⟨o',es',ep',ho',r'⟩:=hm
  rw[ho]at ho';cases ho'
  exact⟨_,es',ep',hL,r'⟩) hok hg
theorem Inv.turned{t':Nat}{it:Addr}(I:Inv X pins σ H s)(k:∀b o,b≠it->s.heap.get? b=some o->h'.get? b=some o)(hn:H it=none)(hL:it≠X.env.locals)
  (h1:it∈X.ex∨X.s₀.heap.objs.size≤it) (h2:∀x c,X.env.cells.lookup x=some c->c≠it) (h3:∀p∈X.pn ++ pins,p.1≠it):Inv X pins σ H { s with heap:=h',toks:=t' }:=by
 have nit:∀b u,H b=some u->b≠it:=λb u e z=>by rw[z,hn]at e;cases e
 refine I.step (g':=s.gens) (d':=s.drawn) (ch:=[it]) (λb hb=>?_) (λb o _ _ hc e _=>k b o (λz=>hc (by simp[z])) e) (λb o _ _ hc e _=>⟨o.slots,k b o (λz=>hc (by simp[z])) e⟩) (λ_ _ _ _ n=>n)
  (λb o hc e=>⟨o,k b o (λz=>hc (by simp[z])) e⟩) (λ_ _ e=>e) (λ_ _ _ e=>e) (λb ps e=>⟨#[],by rw[e];simp⟩) (λm hm=>?_) (λb u e=>?_) I.bare
 ·have e:b=it:=by simpa using hb
  subst e
  exact⟨h1,hL,h2,h3⟩
 ·obtain⟨o,es,ep,ho,r⟩:=hm
  exact⟨o,es,ep,k _ o (BL hL) ho,r⟩
 ·refine(I.hok b u e).stay (λc v hc q=>k c v ?_ q) (λ_ q=>q) λ_ _ q=>q
  rcases hc with z|z
  ·rw[z];exact nit b u e
  ·exact nit c _ z
theorem Inv.tok(I:Inv X pins σ H s)(t:Nat):Inv X pins σ H { s with toks:=t }:=I.un (h':=s.heap) (t':=t) Un.refl I.hok
theorem Inv.kept{t':Nat}(I:Inv X pins σ H s)(k:∀b u,s.heap.get? b=some u->h'.get? b=some u):Inv X pins σ H { s with heap:=h',toks:=t' }:=I.un (Un.kept k) (I.hok.kept k)
theorem Inv.laid{a:Addr}{o:HO}{t':Nat}(I:Inv X pins σ H s)(k:∀b u,s.heap.get? b=some u->h'.get? b=some u)(hp:s.heap.objs.size≤a)(new:ObjOk X.prog X.w (upd H a o) h' a o) :
  Inv X pins σ (upd H a o) { s with heap:=h',toks:=t' }:=I.un (Un.laid k hp (I.hok.fresh hp)) (I.hok.laid k hp new)
theorem Inv.write{x e:Addr}{o:HO}{t':Nat}(I:Inv X pins σ H s)(mu:Mut (H x))(he:e=x∨H e=some (.own x))(k:∀b u,b≠e->s.heap.get? b=some u->h'.get? b=some u)(heo:∃u,h'.get? e=some u)
  (new:ObjOk X.prog X.w (upd H x o) h' x o):Inv X pins σ (upd H x o) { s with heap:=h',toks:=t' }:=I.un (Un.write mu he k heo) (I.hok.write mu he k heo new)
theorem Inv.pins_of{pins':List (Addr×Obj)}(I:Inv X pins σ H s)(h:∀p∈pins',s.heap.get? p.1=some p.2∧H p.1=none∧p.1≠X.env.locals∧p.1∉X.fs∧∀v,p.2.data≠ .cell v):Inv X pins' σ H s :=
 ⟨I.ok,I.os,I.bare,I.base,I.loc,I.cell,I.free,I.freeC,λp hp=>(Qc.mp hp).elim (λz=>I.pin p (X7 _ z)) (h p),I.hok,I.len⟩
theorem Zi6{N:List Str}(hN:N.Nodup){i j:Nat}{x:Str}(a:N[i]? =some x)(b:N[j]? =some x):i=j:=by
 obtain⟨h1,e1⟩:=Xi.mp a
 obtain⟨h2,e2⟩:=Xi.mp b
 exact(List.getElem_inj hN).mp (e1.trans e2.symm)
theorem Zgf{M:Model}{A:Qn}{E:Xc->Xf->Prop}{i:Nat}{x:Str}{v:V}{u:Xc}{Q:Unit->Xf->Prop}(I:Inv X pins σ H s)(hN:X.N.Nodup)(hi:X.N[i]? =some x)(hx:Loc X.env.scope x)(r:RelV v u)
  (h:∀s',Inv X pins (σ.set i (some v)) H s'->(∃a,Bk a s.heap s'.heap∧(a=X.env.locals∨X.env.cells.lookup x=some a))->Q () s') (hf:X.fn x=true∨X.env.scope.names.lookup x=some .local:=by first|exact .inl rfl|exact .inr rfl|assumption):Xx M A (storeName X.env x u) Q E s:=by
 obtain⟨m,hn,hl⟩:=id I.loc
 have hcls:(X.env.scope.kind== .class||(X.env.scope.kind== .module&&X.env.locals !=X.env.globals))=false:=by rw[I.ok.kind];rfl
 have hiσ:i<σ.length:=by rw[I.len];exact(Xi.mp hi).1
 have cne:=I.cne
 have tracked:∀{a:Addr} {h':Heap},(∃o,s.heap.get? a=some o∧H a=none)->Bk a s.heap h'->HOk X.prog X.w H h':=fun{a h'} ha hs b ob e=>by
  obtain⟨_,_,hfree⟩:=ha
  refine(I.hok b ob e).stay (λc w' hc q=>(hs.2 c ?_).trans q) (λ_ q=>q) λ_ _ q=>q
  rintro rfl
  rcases hc with rfl|hc
  ·rw[hfree]at e;cases e
  ·rw[hfree]at hc;cases hc
 rcases hx with hk|hk
 ·refine wpAny_storeName_local hk hn (λh' hn' hs=>?_) hcls
  obtain⟨oL,_,_,hoL,_⟩:=id hn
  refine h _ ⟨I.ok,I.os,I.bare,⟨λb o e n hb hx=>?_,λb o e n hb hx=>?_,I.base.free,λb o e hx=>?_,I.base.tups,I.base.frzs,I.base.tbls⟩,⟨_,hn',λj y v' e1 e2 e3=>?_⟩,λy c e=>?_,I.free,I.freeC,λp hp=>?_,tracked ⟨oL,hoL,I.free⟩ hs,by simpa using I.len⟩ ⟨_,hs,.inl rfl⟩
  ·exact(hs.2 b (Xo (Qj (XH e) I.ok.above))).trans (I.base.keep b o e n hb hx)
  ·obtain⟨sl,e1⟩:=I.base.slot b o e n hb hx
   exact⟨sl,(hs.2 b (Xo (Qj (XH e) I.ok.above))).trans e1⟩
  ·obtain⟨o',e1⟩:=I.base.there b o e hx
   exact⟨o',(hs.2 b (Xo (Qj (XH e) I.ok.above))).trans e1⟩
  ·by_cases hj:j=i
   ·subst hj
    rw[hi]at e1;cases e1
    rw[QR hiσ]at e2
    cases e2
    exact⟨u,r,.inl ⟨hk,by simp⟩⟩
   ·rw[Qz (BL hj)]at e2
    obtain⟨u',r',q⟩:=hl j y v' e1 e2 e3
    refine⟨u',r',?_⟩
    rcases q with⟨k,e⟩|⟨k,c,e,z⟩
    ·refine .inl ⟨k,?_⟩
     have:y≠x:=λe=>hj (Zi6 hN e1 (e▸hi))
     simp[this,e]
    ·exact .inr ⟨k,c,e,z.sameBut hs (cne y c e)⟩
  ·obtain⟨w',z⟩:=I.cell y c e
   exact⟨w',z.sameBut hs (cne y c e)⟩
  ·obtain⟨e,n,ne,nf,d⟩:=I.pin p hp
   exact⟨(hs.2 p.1 ne).trans e,n,ne,nf,d⟩
 ·have hfn:X.fn x=true:=by
   rcases hf with z|z
   ·exact z
   ·rw[z]at hk;cases hk
  obtain⟨c,hc⟩:=I.ok.has x (.inl hk)
  obtain⟨w',z⟩:=I.cell x c hc
  refine wpAny_storeName_cell I.ok.kind hk hc z (λh' hc' hs=>?_)
  obtain⟨oc,hoc,hocd⟩:=id z
  refine h { s with heap:=h' } ⟨I.ok,I.os,I.bare,⟨λb o e n hb hx=>?_,λb o e n hb hx=>?_,I.base.free,λb o e hx=>?_,I.base.tups,I.base.frzs,I.base.tbls⟩,⟨m,hn.sameBut hs (BL (cne x c hc)),λj y v' e1 e2 e3=>?_⟩,λy c' e=>?_,I.free,I.freeC,λp hp=>?_,tracked ⟨oc,hoc,I.freeC x c hc⟩ hs,by simpa using I.len⟩ ⟨c,hs,.inr hc⟩
  ·exact(hs.2 b (Xo (Qj (XH e) (I.ok.cab x c hfn hc)))).trans (I.base.keep b o e n hb hx)
  ·obtain⟨sl,e1⟩:=I.base.slot b o e n hb hx
   exact⟨sl,(hs.2 b (Xo (Qj (XH e) (I.ok.cab x c hfn hc)))).trans e1⟩
  ·obtain⟨o',e1⟩:=I.base.there b o e hx
   exact⟨o',(hs.2 b (Xo (Qj (XH e) (I.ok.cab x c hfn hc)))).trans e1⟩
  ·by_cases hj:j=i
   ·subst hj
    rw[hi]at e1;cases e1
    rw[QR hiσ]at e2
    cases e2
    exact⟨u,r,.inr ⟨.inl hk,c,hc,hc'⟩⟩
   ·rw[Qz (BL hj)]at e2
    obtain⟨u',r',q⟩:=hl j y v' e1 e2 e3
    refine⟨u',r',?_⟩
    rcases q with q|⟨k,c',e,z'⟩
    ·exact .inl q
    ·refine .inr ⟨k,c',e,z'.sameBut hs ?_⟩
     rintro rfl
     exact hj (Zi6 hN e1 (I.ok.inj _ _ _ e hc▸hi))
  ·by_cases hcc:c'=c
   ·subst hcc;exact⟨_,hc'⟩
   ·obtain⟨w2,z2⟩:=I.cell y c' e
    exact⟨w2,z2.sameBut hs hcc⟩
  ·obtain⟨e,n,ne,nf,d⟩:=I.pin p hp
   refine⟨(hs.2 p.1 ?_).trans e,n,ne,nf,d⟩
   intro q
   rw[q,hoc]at e
   have q':oc=p.2:=QB e
   exact d w' (by rw[←q'];exact hocd)
theorem Ziv{M:Model}{A:Qn}{E:Xc->Xf->Prop}{i:Nat}{x:Str}{v:V}{u:Xc}{Q:Unit->Xf->Prop}(I:Inv X pins σ H s)(hN:X.N.Nodup)(hi:X.N[i]? =some x)(hx:Loc X.env.scope x)(r:RelV v u)
  (h:∀s',Inv X pins (σ.set i (some v)) H s'->Q () s') (hf:X.fn x=true∨X.env.scope.names.lookup x=some .local:=by first|exact .inl rfl|exact .inr rfl|assumption):Xx M A (storeName X.env x u) Q E s :=
 Zgf I hN hi hx r (λs' I' _=>h s' I') hf
theorem Inv.call'{s':Xf}{ch:List Addr}(I:Inv X pins σ H s)(ho:s'.os=s.os)(u:Un (frs X.stack) ch H H' s.heap s'.heap)(hok:HOk X.prog X.w H' s'.heap)(hg:AllBare s'.gens)
  (hch:∀b∈ch,(b∈X.ex∨X.s₀.heap.objs.size≤b)∧b≠X.env.locals∧(∀x c,X.env.cells.lookup x=some c->c≠b)∧∀p∈X.pn ++ pins,p.1≠b):Inv X pins σ H' s':=by
 obtain⟨h',g',d',t',o'⟩:=s'
 have e:o'=s.os:=ho
 subst e
 exact I.call (g':=g') (t':=t') (d':=d') u hok hg hch
end
noncomputable abbrev XK:=Xc->Option Addr->Hp->Prop
noncomputable abbrev St:=List (Option V)
noncomputable abbrev VK:=V->Hp->Prop
noncomputable abbrev TE:=St->Hp->VK->Prop
noncomputable abbrev TT:=St->Hp->(Bool->Hp->Prop)->Prop
noncomputable abbrev TA:=St->Hp->(List V->Hp->Prop)->Prop
set_option genInjectivity false in
structure Ends where
 nx:St->Hp->Prop
 rt:VK
 bk:St->Hp->Prop:=λ_ _=>False
 ct:St->Hp->Prop:=λ_ _=>False
noncomputable abbrev TS:=Ends->St->Hp->Prop
noncomputable def EP(X:Cx)(pins:List (Addr×Obj))(σ:St)(Q:VK)(u:Xc)(s':Xf):Prop:=∃v H',Inv X pins σ H' s'∧RelV v u∧Q v H'
noncomputable def TP(X:Cx)(pins:List (Addr×Obj))(σ:St)(Q:Bool->Hp->Prop)(b:Bool)(s':Xf):Prop:=∃H',Inv X pins σ H' s'∧Q b H'
noncomputable def AP(X:Cx)(pins:List (Addr×Obj))(σ:St)(Q:List V->Hp->Prop)(us:List Xc)(s':Xf):Prop:=∃vs H',Inv X pins σ H' s'∧Vals vs us∧Q vs H'
noncomputable def SP(X:Cx)(pins:List (Addr×Obj))(D:Ends)(f:Flow)(s':Xf):Prop :=
 match f with
 | .next=>∃σ' H',Inv X pins σ' H' s'∧D.nx σ' H'
 | .brk=>∃σ' H',Inv X pins σ' H' s'∧D.bk σ' H'
 | .cont=>∃σ' H',Inv X pins σ' H' s'∧D.ct σ' H'
 | .ret u=>∃v σ' H',Inv X pins σ' H' s'∧RelV v u∧D.rt v H'
noncomputable def PE(X:Cx)(e:Expr)(t:TE):Prop :=
 ∀(pins:List (Addr×Obj)) (s:Xf) (σ:St) (H:Hp) (Q:VK),Inv X pins σ H s->t σ H Q->Xx (X5 X.prog X.w) X.A (eval e X.env) (EP X pins σ Q) X.xe s
noncomputable def PT(X:Cx)(e:Expr)(t:TT):Prop :=
 ∀(pins:List (Addr×Obj)) (s:Xf) (σ:St) (H:Hp) (Q:Bool->Hp->Prop),Inv X pins σ H s->t σ H Q->Xx (X5 X.prog X.w) X.A (isTrue e X.env (eval e X.env)) (TP X pins σ Q) X.xe s
noncomputable def PW(X:Cx)(e:Expr)(t:TT):Prop :=
 ∀(whole:Sem Xc) (pins:List (Addr×Obj)) (s:Xf) (σ:St) (H:Hp) (Q:Bool->Hp->Prop),Inv X pins σ H s->t σ H Q->Xx (X5 X.prog X.w) X.A (isTrue e X.env whole) (TP X pins σ Q) X.xe s
theorem PW.pt{X:Cx}{e:Expr}{t:TT}(h:PW X e t):PT X e t:=h _
noncomputable def PA(X:Cx)(es:List Expr)(t:TA):Prop :=
 ∀(pos:Pos) (pins:List (Addr×Obj)) (s:Xf) (σ:St) (H:Hp) (Q:List V->Hp->Prop),Inv X pins σ H s->t σ H Q->Xx (X5 X.prog X.w) X.A (spliced (Bf pos (Xv es X.env))) (AP X pins σ Q) X.xe s
noncomputable def PS(X:Cx)(st:Stmt)(t:TS):Prop :=
 ∀(pins:List (Addr×Obj)) (s:Xf) (σ:St) (H:Hp) (D:Ends),Inv X pins σ H s->t D σ H->Xx (X5 X.prog X.w) X.A (exec st X.env) (SP X pins D) X.xe s
noncomputable def PSs(X:Cx)(st:List Stmt)(t:TS):Prop :=
 ∀(pins:List (Addr×Obj)) (s:Xf) (σ:St) (H:Hp) (D:Ends),Inv X pins σ H s->t D σ H->Xx (X5 X.prog X.w) X.A (execs st X.env) (SP X pins D) X.xe s
theorem thn{α:Type}{t:Sem α}{Q Q':α->Xf->Prop}{M:Model}{A:Qn}{E:Xc->Xf->Prop}{s:Xf}(h:Xx M A t Q E s)(hQ:∀a s,Q a s->Q' a s):Xx M A t Q' E s:=QC h hQ λ_ _ x=>x
section
variable {X:Cx}
noncomputable def Z81(i:Nat):TE:=λσ H Q=>∃v,σ[i]? =some (some v)∧Q v H
noncomputable def tC(v:V):TE:=λ_ H Q=>Q v H
theorem Zy6{i:Nat}{x:Str}{pos:Pos}(hN:X.N[i]? =some x)(hv:Vis X.env.scope x)(hd:(x==("__debug__" : Str))=false:=by decide)(hcd:(x==("__classdict__" : Str))=false:=by decide):PE X (.Name x pos) (Z81 i):=by
 intro pins s σ H Q I h
 obtain⟨v,e,h⟩:=h
 obtain⟨m,hn,hl⟩:=I.loc
 obtain⟨u,r,l⟩:=hl i x v hN e hv
 have fin:EP X pins σ Q u s:=⟨v,H,I,r,h⟩
 rcases l with⟨hk,hm⟩|⟨hk,c,hc,hcell⟩
 ·exact wpAny_Name (wpAny_loadName_local I.ok.kind hk hn hm fin) hd
 ·rcases hk with hk|hk
  ·exact wpAny_Name (wpAny_loadName_cell I.ok.kind hk hc hcell fin) hd
  ·exact wpAny_Name (wpAny_loadName_free I.ok.kind hk hc hcell fin hcd) hd
theorem Z0l{i j pos}:PE X (.Constant (.int i) j pos) (tC (.int i)):=λ_ _ _ H _ I h=>wpAny_Constant_int ⟨.int i,H,I.tok _,⟨_,rfl⟩,h⟩
theorem Z7r{b j pos}:PE X (.Constant (.bool b) j pos) (tC (.bl b)):=λ_ _ _ H _ I h=>Constant_bool ⟨.bl b,H,I,rfl,h⟩
theorem Zzv{j pos}:PE X (.Constant .none j pos) (tC .non):=λ_ _ _ H _ I h=>Constant_none ⟨.non,H,I,rfl,h⟩
noncomputable def Gl(X:Cx)(x:Str):Prop:=X.env.kindOf x=some .globalImplicit
theorem Zfw{E:Xc->Xf->Prop}{pins:List (Addr×Obj)}{s:Xf}{σ:St}{H:Hp}{x:Str}{u:Xc}{pos:Pos}{Q:Xc->Xf->Prop}(I:Inv X pins σ H s)(hg:Gl X x)(hm:X.mg x=some u)(h:Q u s)
  (hd:(x==("__debug__" : Str))=false:=by decide):Xx (X5 X.prog X.w) X.A (eval (.Name x pos) X.env) Q E s :=
 Calls.Name_function_global I.ok.kind hg (Calls.loadGlobal_global (by rw[I.ok.glob];exact I.mod.glob.keeps I.bk) hm h) hd
theorem Zcj{E:Xc->Xf->Prop}{pins:List (Addr×Obj)}{s:Xf}{σ:St}{H:Hp}{x:Str}{u:Xc}{pos:Pos}{Q:Xc->Xf->Prop}(I:Inv X pins σ H s)(hg:Gl X x)(hm:X.mg x=none)(hv:Qo x=some u)(h:Q u s)
  (hn:x≠"__name__" :=by decide) (hd:(x==("__debug__" : Str))=false:=by decide):Xx (X5 X.prog X.w) X.A (eval (.Name x pos) X.env) Q E s:=by
 obtain⟨mb,h1,h2⟩:=I.mod.blt
 exact Calls.Name_function_global I.ok.kind hg (Calls.loadGlobal_builtin (by rw[I.ok.glob];exact I.mod.glob.keeps I.bk) hm (by rw[I.ok.blt];exact h1.keeps I.bk) ((h2 x hn).trans hv) h) hd
theorem Zxb{x:Str}{v:V}{u:Xc}{pos:Pos}(hg:Gl X x)(hm:X.mg x=some u)(r:RelV v u)(hd:(x==("__debug__" : Str))=false:=by decide):PE X (.Name x pos) (tC v) :=
 λ_ _ _ H _ I h=>Zfw I hg hm ⟨v,H,I,r,h⟩ hd
theorem Zt4{x:Str}{v:V}{u:Xc}{pos:Pos}(hg:Gl X x)(hm:X.mg x=none)(hv:Qo x=some u)(r:RelV v u)(hn:x≠"__name__" :=by decide)(hd:(x==("__debug__" : Str))=false:=by decide):PE X (.Name x pos) (tC v) :=
 λ_ _ _ H _ I h=>Zcj I hg hm hv ⟨v,H,I,r,h⟩ hn hd
noncomputable def t2I(ta tb:TE)(k:Int->Int->Hp->Prop):St->Hp->Prop:=λσ H=>ta σ H λx H1=>tb σ H1 λy H2=>∃i j,x= .int i∧y= .int j∧k i j H2
variable {a b:Expr}{ta tb:TE}{pos:Pos}
noncomputable def Zym(p:Int->Int->Bool)(ta tb:TE):TE:=λσ H Q=>t2I ta tb (λi j H2=>Q (.bl (p i j)) H2) σ H
noncomputable abbrev tLt:TE->TE->TE:=Zym λi j=>decide (i<j)
noncomputable abbrev tLe:TE->TE->TE:=Zym λi j=>decide (i≤j)
noncomputable abbrev tGt:TE->TE->TE:=Zym λi j=>decide (j<i)
noncomputable abbrev tGe:TE->TE->TE:=Zym λi j=>decide (j≤i)
noncomputable abbrev Yb8:TE->TE->TE:=Zym λi j=>decide (i=j)
noncomputable abbrev Yb9:TE->TE->TE:=Zym λi j=>!decide (i=j)
noncomputable def tB(t:TE):TT:=λσ H Q=>t σ H λx H1=>∃c,x= .bl c∧Q c H1
variable {tA tB':TT}{rest:List Expr}
noncomputable def Ybk(t u:TT):TT:=λσ H Q=>t σ H λc H1=>if c=true then u σ H1 Q else Q false H1
noncomputable def tOr(t u:TT):TT:=λσ H Q=>t σ H λc H1=>if c=true then Q true H1 else u σ H1 Q
noncomputable def Yb2(t:TT):TT:=λσ H Q=>t σ H λc H1=>Q (!c) H1
theorem Zv8(ha:PT X a tA):PW X (.BoolOp .And [a] pos) tA:=by
 intro wh pins s σ H Q I h
 refine isTrue_and (thn (ha pins s σ H Q I h) λc s1 e=>?_)
 cases c with
 | true=>exact isTrue_and_nil e
 | false=>exact e
theorem Z1e(ha:PT X a tA):PW X (.BoolOp .Or [a] pos) tA:=by
 intro wh pins s σ H Q I h
 refine isTrue_or (thn (ha pins s σ H Q I h) λc s1 e=>?_)
 cases c with
 | false=>exact isTrue_or_nil e
 | true=>exact e
theorem Z0i(ha:PT X a tA)(hb:PW X (.BoolOp .And (b :: rest) pos) tB'):PW X (.BoolOp .And (a :: b :: rest) pos) (Ybk tA tB'):=by
 intro wh pins s σ H Q I h
 refine isTrue_and (thn (ha pins s σ H _ I h) λc s1 qz9=>?_)
 obtain⟨H1,I1,q1⟩:=qz9
 cases c with
 | true=>exact hb wh pins s1 σ H1 Q I1 q1
 | false=>exact⟨H1,I1,q1⟩
theorem Z72(ha:PT X a tA)(hb:PW X (.BoolOp .Or (b :: rest) pos) tB'):PW X (.BoolOp .Or (a :: b :: rest) pos) (tOr tA tB'):=by
 intro wh pins s σ H Q I h
 refine isTrue_or (thn (ha pins s σ H _ I h) λc s1 qz9=>?_)
 obtain⟨H1,I1,q1⟩:=qz9
 cases c with
 | true=>exact⟨H1,I1,q1⟩
 | false=>exact hb wh pins s1 σ H1 Q I1 q1
theorem Z3a(ha:PT X a tA):PT X (.UnaryOp .Not a pos) (Yb2 tA):=by
 intro pins s σ H Q I h
 exact isTrue_not (ha pins s σ H (λc H1=>Q (!c) H1) I h)
noncomputable def Z6k(ta tb:TE):TE:=λσ H Q=>ta σ H λx H1=>∃c,x= .bl c∧if c=true then tb σ H1 Q else Q (.bl false) H1
noncomputable def Z6r(ta:TE):TE:=λσ H Q=>ta σ H λx H1=>∃c,x= .bl c∧Q (.bl (!c)) H1
theorem Z0m{op}{t:TE}(h:PE X a t):PE X (.BoolOp op [a] pos) t:=λpins s σ H Q I hw=>BoolOp_one (h pins s σ H Q I hw)
theorem Z23(ha:PE X a ta)(hb:PE X (.BoolOp .And (b :: rest) pos) tb):PE X (.BoolOp .And (a :: b :: rest) pos) (Z6k ta tb):=by
 intro pins s σ H Q I h
 refine BoolOp_and (thn (ha pins s σ H _ I h) λv s1 qz9=>?_)
 obtain⟨x,H1,I1,r1,q1⟩:=qz9
 obtain⟨c,rfl,q1⟩:=q1
 cases r1
 refine BR ?_
 cases c with
 | true=>exact hb pins s1 σ H1 Q I1 q1
 | false=>exact⟨.bl false,H1,I1,rfl,q1⟩
theorem Zyt(ha:PE X a ta):PE X (.UnaryOp .Not a pos) (Z6r ta):=by
 intro pins s σ H Q I h
 refine UnaryOp_ (thn (ha pins s σ H _ I h) λv s1 qz9=>?_)
 obtain⟨x,H1,I1,r1,q1⟩:=qz9
 obtain⟨c,rfl,q1⟩:=q1
 cases r1
 exact not_of (BR ⟨.bl (!c),H1,I1,rfl,q1⟩)
end
noncomputable def SqL(K:Xd)(H:Hp)(a:Addr)(xs:List V):Prop :=
 Rd H a (.lst xs)∨
  ∃(o:Obj) (its:Array Xc) (n:Nat),K.lookup a=some o∧o.cls= .type "list"∧o.dict=none∧o.data= .seq its n∧its.size≤Xr∧Vals xs its.toList
noncomputable def SqT(K:Xd)(H:Hp)(a:Addr)(xs:List V):Prop :=
 Rd H a (.tup xs)∨
  ∃(o:Obj) (its:Array Xc) (n:Nat),K.lookup a=some o∧o.cls= .type "tuple"∧o.data= .seq its n∧its.size≤Xr∧Vals xs its.toList
noncomputable def Yag:Xc->Option V
 | .none=>some .non
 | .bool b=>some (.bl b)
 | .int i _=>some (.int i)
 | .str x _=>some (.str x)
 | .bytes b _=>some (.byt b)
 | .float b _=>some (.flt b)
 | .ref a=>some (.ref a)
 | .type n=>some (.ty n)
 | _=>none
theorem RelV.abs{x:V}{u:Xc}(r:RelV x u):Yag u=some x:=by
 cases x with
 | non=>cases r;rfl
 | bl _=>cases r;rfl
 | int _=>obtain⟨t,rfl⟩:=r;rfl
 | str _=>obtain⟨t,rfl⟩:=r;rfl
 | byt _=>obtain⟨t,rfl⟩:=r;rfl
 | flt _=>obtain⟨t,rfl⟩:=r;rfl
 | ref _=>cases r;rfl
 | ty _=>cases r;rfl
theorem RelV.inj{x y:V}{u:Xc}(r:RelV x u)(q:RelV y u):x=y:=QB (r.abs.symm.trans q.abs)
theorem Vals.inj{xs ys:List V}{us:List Xc}(h:Vals xs us)(k:Vals ys us):xs=ys:=by
 induction h generalizing ys with
 | nil=>cases k;rfl
 | cons r t ih=>
  cases k with
  | cons r' t'=>rw[r.inj r',ih t']
section
variable {X:Cx}{pins:List (Addr×Obj)}{σ:St}{H:Hp}{s:Xf}{a:Addr}{xs ys:List V}
theorem Inv.list(I:Inv X pins σ H s)(h:SqL X.K H a xs):∃its:List Xc,Vals xs its∧PlainL s.heap a its.toArray∧xs.length≤Xr:=by
 rcases h with h|⟨o,its,n,hk,hc,hd,hs,hz,r⟩
 ·obtain⟨z,its,n,r,e⟩:=h.ok I.hok
  exact⟨its,r,⟨_,n,e,rfl,rfl,rfl⟩,z⟩
 ·refine⟨its.toList,r,⟨o,n,I.kIn a o hk,hc,hd,by simpa using hs⟩,?_⟩
  have e:=r.length
  simp only[Xp]at e
  omega
theorem Inv.tuple(I:Inv X pins σ H s)(h:SqT X.K H a xs):∃its:List Xc,Vals xs its∧IsTup s.heap a its.toArray∧xs.length≤Xr:=by
 rcases h with h|⟨o,its,n,hk,hc,hs,hz,r⟩
 ·obtain⟨z,its,r,p⟩:=h.ok I.hok
  exact⟨its,r,p,z⟩
 ·refine⟨its.toList,r,⟨o,I.kIn a o hk,hc,n,by simpa using hs⟩,?_⟩
  have e:=r.length
  simp only[Xp]at e
  omega
theorem Inv.list_inj(I:Inv X pins σ H s)(h:SqL X.K H a xs)(h':SqL X.K H a ys):xs=ys:=by
 obtain⟨its,r,⟨o,n,e,_,_,d⟩,_⟩:=I.list h
 obtain⟨its',r',⟨o',n',e',_,_,d'⟩,_⟩:=I.list h'
 rw[e]at e';cases e'
 rw[d]at d'
 injection d' with d1 _
 have:its=its':=by simpa using congrArg Array.toList d1
 subst this
 exact r.inj r'
end
noncomputable abbrev Cx.wish(X:Cx)(E:Xc->Xf->Prop):Cx:={ X with xe:=E }
noncomputable abbrev Cx.nox(X:Cx):Cx:=X.wish λ_ _=>False
theorem Cx.Ok.wish{X:Cx}(ok:X.Ok)(E:Xc->Xf->Prop):(X.wish E).Ok :=
 ⟨ok.mod,ok.kind,ok.glob,ok.blt,ok.above,ok.inj,ok.has,ok.cab,ok.hd,ok.frames,ok.stk,ok.exf,ok.bs,ok.bsz,ok.noex,ok.exfs,ok.funs,ok.frf⟩
theorem Cx.Ok.unwish{X:Cx}{E:Xc->Xf->Prop}(ok:(X.wish E).Ok):X.Ok :=
 ⟨ok.mod,ok.kind,ok.glob,ok.blt,ok.above,ok.inj,ok.has,ok.cab,ok.hd,ok.frames,ok.stk,ok.exf,ok.bs,ok.bsz,ok.noex,ok.exfs,ok.funs,ok.frf⟩
section
variable {X:Cx}{pins:List (Addr×Obj)}{σ:St}{H:Hp}{s:Xf}{E:Xc->Xf->Prop}
theorem Inv.wish(I:Inv X pins σ H s)(E:Xc->Xf->Prop):Inv (X.wish E) pins σ H s:=⟨I.ok.wish E,I.os,I.bare,I.base,I.loc,I.cell,I.free,I.freeC,I.pin,I.hok,I.len⟩
theorem Inv.unwish(I:Inv (X.wish E) pins σ H s):Inv X pins σ H s:=⟨I.ok.unwish,I.os,I.bare,I.base,I.loc,I.cell,I.free,I.freeC,I.pin,I.hok,I.len⟩
theorem SP.unwish{D:Ends}{f:Flow}{s':Xf}(h:SP (X.wish E) pins D f s'):SP X pins D f s':=by
 cases f with
 | next=>obtain⟨σ',H',I,q⟩:=h;exact⟨σ',H',I.unwish,q⟩
 | brk=>obtain⟨σ',H',I,q⟩:=h;exact⟨σ',H',I.unwish,q⟩
 | cont=>obtain⟨σ',H',I,q⟩:=h;exact⟨σ',H',I.unwish,q⟩
 | ret u=>obtain⟨v,σ',H',I,r,q⟩:=h;exact⟨v,σ',H',I.unwish,r,q⟩
theorem PSs.nox{st:List Stmt}{t:TS}(h:PSs X.nox st t):PSs X st t:=λpins s σ H D I hw=>
 QC (h pins s σ H D (I.wish _) hw) (λ_ _ q=>q.unwish) λ_ _ z=>Vc z
end
section
variable {X:Cx}{st:Stmt}{rest:List Stmt}{t u:TS}{e:Expr}{te:TE}{pos:Pos}
noncomputable def Z5h:TS:=λD σ H=>D.nx σ H
noncomputable def Yb0(t u:TS):TS:=λD σ H=>t { D with nx:=u D } σ H
theorem Zux:PSs X [] Z5h:=λ_ _ σ H _ I h=>wpAny_execs_nil ⟨σ,H,I,h⟩
theorem Zrh(h1:PS X st t)(h2:PSs X rest u):PSs X (st :: rest) (Yb0 t u):=by
 intro pins s σ H D I h
 refine wpAny_execs_cons (thn (h1 pins s σ H { D with nx:=u D } I h) λf s1 q=>?_)
 cases f with
 | next=>
  obtain⟨σ',H',I',q⟩:=q
  exact h2 pins s1 σ' H' D I' q
 | ret v=>exact q
 | brk=>exact q
 | cont=>exact q
theorem Zt5(h1:PS X st t):PSs X [st] t:=by
 intro pins s σ H D I h
 refine wpAny_execs_cons (thn (h1 pins s σ H D I h) λf s1 q=>?_)
 cases f with
 | next=>exact wpAny_execs_nil q
 | ret v=>exact q
 | brk=>exact q
 | cont=>exact q
theorem Inv.quiet{pins:List (Addr×Obj)}{σ:St}{H:Hp}{s:Xf}(I:Inv X pins σ H s):interactive X.env=false:=by simp[interactive,I.ok.kind]
noncomputable def Z6u(te:TE):TS:=λD σ H=>te σ H λ_ H1=>D.nx σ H1
theorem Zbq(he:PE X e te)(hs:Bx e none pos.line X.env=pure false:=by rfl):PS X (.Expr e pos) (Z6u te):=by
 intro pins s σ H D I h
 refine wpAny_Expr_any (thn (he pins s σ H _ I h) λv s1 qz9=>?_) I.quiet hs
 obtain⟨x,H1,I1,r1,q1⟩:=qz9
 exact⟨σ,H1,I1,q1⟩
noncomputable def Yas(te:TE):TS:=λD σ H=>te σ H D.rt
theorem Ztb(he:PE X e te):PS X (.Return (some e) pos) (Yas te):=by
 intro pins s σ H D I h
 refine wpAny_Return_some (thn (he pins s σ H _ I h) λv s1 qz9=>?_)
 obtain⟨x,H1,I1,r1,q1⟩:=qz9
 exact⟨x,σ,H1,I1,r1,q1⟩
noncomputable def Yaf(c:TT)(t u:TS):TS:=λD σ H=>c σ H λb H1=>if b=true then t D σ H1 else u D σ H1
theorem Z62{c:Expr}{a b:List Stmt}{tc:TT}(hc:PT X c tc)(ha:PSs X a t)(hb:PSs X b u):PS X (.If c a b pos) (Yaf tc t u):=by
 intro pins s σ H D I h
 refine wpAny_If (thn (hc pins s σ H _ I h) λd s1 qz9=>?_)
 obtain⟨H1,I1,q1⟩:=qz9
 cases d with
 | true=>exact ha pins s1 σ H1 D I1 q1
 | false=>exact hb pins s1 σ H1 D I1 q1
noncomputable def Z1u:TS:=λ_ _ _=>False
theorem Zrt:PS X st Z1u:=λ_ _ _ _ _ _ h=>h.elim
end
noncomputable abbrev TG:=V->St->Hp->(St->Hp->Prop)->Prop
noncomputable abbrev TGs:=List V->St->Hp->(St->Hp->Prop)->Prop
noncomputable def PG(X:Cx)(target:Expr)(t:TG):Prop :=
 ∀(pins:List (Addr×Obj)) (s:Xf) (σ:St) (H:Hp) (v:V) (u:Xc) (Q:St->Hp->Prop),Inv X pins σ H s->RelV v u->t v σ H Q ->
  Xx (X5 X.prog X.w) X.A (UL target X.env u) (λ_ s'=>∃σ' H',Inv X pins σ' H' s'∧Q σ' H') X.xe s
noncomputable def PGs(X:Cx)(ts:List Expr)(t:TGs):Prop :=
 ∀(pins:List (Addr×Obj)) (s:Xf) (σ:St) (H:Hp) (vs:List V) (us:List Xc) (Q:St->Hp->Prop),Inv X pins σ H s->Vals vs us->t vs σ H Q ->
  Xx (X5 X.prog X.w) X.A (assignInOrder ((JS ts X.env).map (·.2)) us) (λ_ s'=>∃σ' H',Inv X pins σ' H' s'∧Q σ' H') X.xe s
noncomputable abbrev Z43:=V->V->V->Hp->(Hp->Prop)->Prop
noncomputable def Z8o(X:Cx)(t:Z43):Prop :=
 ∀(pins:List (Addr×Obj)) (s:Xf) (σ:St) (H:Hp) (o i v:V) (ov iv u:Xc) (Q:Hp->Prop),Inv X pins σ H s->RelV o ov->RelV i iv->RelV v u->t o i v H Q ->
  Xx (X5 X.prog X.w) X.A (setItem ov iv u) (λ_ s'=>∃H',Inv X pins σ H' s'∧Q H') X.xe s
noncomputable abbrev TIp:=V->V->Hp->VK->Prop
section
variable {X:Cx}{pos:Pos}
noncomputable def Znf(i:Nat):TG:=λv σ H Q=>Q (σ.set i (some v)) H
theorem Zn7{i:Nat}{x:Str}(hN:X.N.Nodup)(hi:X.N[i]? =some x)(hx:Loc X.env.scope x)(hf:X.fn x=true∨X.env.scope.names.lookup x=some .local:=by first|exact .inl rfl|exact .inr rfl|assumption):PG X (.Name x pos) (Znf i):=by
 intro pins s σ H v u Q I r h
 exact wpAny_assign_Name (Ziv I hN hi hx r (λs' I'=>⟨_,H,I',h⟩) hf)
noncomputable def Ybj:TGs:=λvs σ H Q=>vs=[]∧Q σ H
noncomputable def Z46(t:TG)(u:TGs):TGs:=λvs σ H Q=>∃v r,vs=v :: r∧t v σ H λσ' H'=>u r σ' H' Q
theorem Zvq:PGs X [] Ybj:=by
 intro pins s σ H vs us Q I r h
 obtain⟨e,h⟩:=h
 subst e
 cases r
 exact assignInOrder_nil ⟨σ,H,I,h⟩
theorem Zjf{e:Expr}{es:List Expr}{t:TG}{u:TGs}(h1:PG X e t)(h2:PGs X es u)
  (hs:(JS (e :: es) X.env).map (·.2)=UL e X.env :: (JS es X.env).map (·.2):=by rfl):PGs X (e :: es) (Z46 t u):=by
 intro pins s σ H vs us Q I r h
 obtain⟨v,vr,e1,h⟩:=h
 subst e1
 cases r with
 | cons r rr=>
  rw[hs]
  refine assignInOrder_cons (thn (h1 pins s σ H _ _ _ I r h) λ_ s1 qz9=>?_)
  obtain⟨σ1,H1,I1,q1⟩:=qz9
  exact h2 pins s1 σ1 H1 _ _ Q I1 rr q1
noncomputable def Ya1(K:Xd)(n:Nat)(t:TGs):TG:=λv σ H Q=>∃a xs,v= .ref a∧SqT K H a xs∧xs.length=n∧t xs σ H Q
theorem Z3f{es:List Expr}{k:Nat}{t:TGs}{n:Nat}(hc:X.calm=true)(h:PGs X es t)
  (hn:(JS es X.env).length=n:=by rfl) (hst:(JS es X.env).findIdx? (·.1)=none:=by rfl):PG X (.Tuple es k pos) (Ya1 X.K n t):=by
 intro pins s σ H v u Q I r hw
 obtain⟨a,xs,e1,hq,hl,hw⟩:=hw
 subst e1
 cases r
 obtain⟨its,rv,ht,hz⟩:=I.tuple hq
 refine assign_Tuple_tuple (I.ok.hd hc) ht (by simp[hn,←hl,rv.length]) hst λh' hx=>?_
 have I1:Inv X pins σ H { s with heap:=h' }:=I.kept (t':=s.toks) λb o e=>hx b o (Xo (XH e)) e
 exact h pins _ σ H xs _ Q I1 (by simpa using rv) hw
noncomputable def Z9y(to ti:TE)(t:Z43):TG:=λv σ H Q=>to σ H λo H1=>ti σ H1 λi H2=>t o i v H2 λH3=>Q σ H3
theorem Z3p{o i:Expr}{to ti:TE}{t:Z43}(ho:PE X o to)(hi:PE X i ti)(hs:Z8o X t)
  (ha:∀v,UL (.Subscript o i pos) X.env v=(do
   let ov←holding [v] (eval o X.env)
   let iv←holding [v,ov] (eval i X.env)
   standAt pos
   holding [v,ov,iv] (setItem ov iv v)
   release [v,ov,iv] []):=by intro _;rfl):PG X (.Subscript o i pos) (Z9y to ti t):=by
 intro pins s σ H v u Q I r h
 rw[ha]
 refine Xb (By (thn (ho pins s σ H _ I h) λov s1 qz9=>?_))
 obtain⟨x,H1,I1,r1,q1⟩:=qz9
 refine Xb (By (thn (hi pins s1 σ H1 _ I1 q1) λiv s2 qz9=>?_))
 obtain⟨y,H2,I2,r2,q2⟩:=qz9
 refine Xb (wpAny_standAt (Xb (By (thn (hs pins s2 σ H2 x y v ov iv u _ I2 r1 r2 r q2) λ_ s3 qz9=>?_))))
 obtain⟨H3,I3,q3⟩:=qz9
 exact wpAny_release ⟨σ,H3,I3,q3⟩
noncomputable def Zy2(te:TE)(g:TG):TS:=λD σ H=>te σ H λx H1=>g x σ H1 D.nx
theorem Z3y{tg e:Expr}{te:TE}{g:TG}(he:PE X e te)(hg:PG X tg g)(hs:swapsWithSole [tg] e pos.line X.env=pure false:=by rfl)(hw:swappedStores [tg] e X.env=pure none:=by rfl)
  (h1:(JS [tg] X.env).map (·.2)=[UL tg X.env]:=by rfl):PS X (.Assign [tg] e pos) (Zy2 te g):=by
 intro pins s σ H D I h
 refine wpAny_Assign_stores (thn (he pins s σ H _ I h) λv s1 qz9=>?_) hs hw
 obtain⟨x,H1,I1,r1,q1⟩:=qz9
 rw[h1]
 exact thn (hg pins s1 σ H1 x v _ I1 r1 q1) λ_ s2 q=>q
theorem Zsc{i:Nat}{x:Str}{e:Expr}{te:TE}{pos':Pos}(hN:X.N.Nodup)(hi:X.N[i]? =some x)(hx:Loc X.env.scope x)(he:PE X e te)(hs:Bx e (some (.Name x pos')) pos.line X.env=pure false:=by rfl)(hf:X.fn x=true∨X.env.scope.names.lookup x=some .local:=by first|exact .inl rfl|exact .inr rfl|assumption) :
  PS X (.Assign [.Name x pos'] e pos) (Zy2 te (Znf i)):=by
 intro pins s σ H D I h
 refine wpAny_Assign_Name (thn (he pins s σ H _ I h) λv s1 qz9=>?_) hs
 obtain⟨y,H1,I1,r1,q1⟩:=qz9
 exact Ziv I1 hN hi hx r1 (λs2 I2=>⟨_,H1,I2,q1⟩) hf
end
section
variable {X:Cx}{pos:Pos}
noncomputable def Z0k(c:TT)(tb:TS):TS:=λD σ H=>∃W:Nat->St->Hp->Prop,(∃m,W m σ H)∧∀m σ H,W m σ H ->
 c σ H λb H1=>if b=true then∃N:St->Hp->Prop,(∀σ' H',N σ' H'->∃m',m'<m∧W m' σ' H')∧tb { D with nx:=N,ct:=N,bk:=D.nx } σ H1 else D.nx σ H1
theorem Zpp{c:Expr}{body:List Stmt}{tc:TT}{tb:TS}(hp:PassesOwn (X5 X.prog X.w) X.A X.env X.xe)(hc:PT X c tc)(hb:PSs X body tb):PS X (.While c body [] pos) (Z0k tc tb):=by
 intro pins s σ H D I h
 obtain⟨W,⟨m0,w0⟩,turn⟩:=h
 refine wpAny_While (codeAny_whileLoop (λn s'=>∃σ' H',Inv X pins σ' H' s'∧W n σ' H') ?_ m0 ⟨σ,H,I,w0⟩)
 rintro n s1 ⟨σ1,H1,I1,w1⟩
 refine JT hp (thn (hc pins s1 σ1 H1 _ I1 (turn n σ1 H1 w1)) λb s2 qz9=>?_)
 obtain⟨H2,I2,q2⟩:=qz9
 cases b with
 | true=>
  obtain⟨N,hN,q2⟩:=q2
  rw[if_pos rfl]
  refine JT hp (thn (hb pins s2 σ1 H2 _ I2 q2) λf s3 q3=>?_)
  cases f with
  | next=>
   obtain⟨σ3,H3,I3,n3⟩:=q3
   obtain⟨m',hm,w3⟩:=hN σ3 H3 n3
   exact⟨m',hm,σ3,H3,I3,w3⟩
  | cont=>
   obtain⟨σ3,H3,I3,n3⟩:=q3
   obtain⟨m',hm,w3⟩:=hN σ3 H3 n3
   exact⟨m',hm,σ3,H3,I3,w3⟩
  | brk=>exact q3
  | ret v=>exact q3
 | false=>
  rw[if_neg Xw]
  exact wpAny_execs_nil ⟨σ1,H2,I2,q2⟩
end
set_option genInjectivity false in
structure It where
 go:Nat->Hp->Prop
 yld:Nat->Hp->V->Hp->Prop
 stop:Nat->Hp->Prop
noncomputable def Zei(X:Cx)(pins:List (Addr×Obj))(H:Hp)(b:Addr):Prop :=
 H b=none∧b≠X.env.locals∧b∉X.fs∧(b∈X.ex∨X.s₀.heap.objs.size≤b)∧(∀x c,X.env.cells.lookup x=some c->c≠b)∧∀p∈X.pn ++ pins,p.1≠b
theorem Inv.fpOk{X:Cx}{pins:List (Addr×Obj)}{σ:St}{H H':Hp}{s:Xf}{b:Addr}(I:Inv X pins σ H s)(hb:s.heap.objs.size≤b)(hn:H' b=none):Zei X pins H' b:=by
 refine⟨hn,X3 (Qj I.lt hb),I.nofs hb,.inr (Qs I.sz hb),λx c e z=>?_,λp hp z=>?_⟩
 ·obtain⟨v,q⟩:=I.cell x c e
  exact absurd (Qj q.lt (by rw[z];exact hb)) (Q9 _)
 ·exact absurd (Qj (XH (I.pin p hp).1) (by rw[z];exact hb)) (Q9 _)
structure Turn(P:X4)(w:Qm)(K:Xd)(tg:Expr)(J:It)(fp:List Addr)(it:Addr)(tn:Nat->Heap->Prop):Prop where
 mem:it∈fp
 obj:∀i h,tn i h->∀b∈fp,∃o,h.get? b=some o∧∀v,o.data≠ .cell v
 keep:∀i h h',tn i h->(∀b∈fp,∀o,h.get? b=some o->h'.get? b=some o)->tn i h'
 item:∀(X:Cx),X.prog=P->X.w=w->X.K=K->X.calm=true->∀(i:Nat) (pins:List (Addr×Obj)) (s:Xf) (σ:St) (H:Hp) (E:Xc->Xf->Prop),Inv X pins σ H s->(∀b∈fp,Zei X pins H b)->tn i s.heap->J.go i H ->
  Xx (X5 P w) X.A (V9 (.ref it)) (λr s1=>∃u,r=some u∧
   Xx (X5 P w) X.A (letOwnedTupleGo tg (.ref it) u) (λ_ s2=>∃x H',Inv X pins σ H' s2∧RelV x u∧J.yld i H x H'∧tn (i+1) s2.heap∧∀b∈fp,H' b=none) E s1) E s
 done:∀(X:Cx),X.prog=P->X.w=w->X.K=K->X.calm=true->∀(i:Nat) (pins:List (Addr×Obj)) (s:Xf) (σ:St) (H:Hp) (E:Xc->Xf->Prop),Inv X pins σ H s->(∀b∈fp,Zei X pins H b)->tn i s.heap->J.stop i H ->
  Xx (X5 P w) X.A (V9 (.ref it)) (λr s1=>r=none∧Inv X pins σ H s1) E s
 self:∀(A:Qn) (i:Nat) (s:Xf) (Q:Xc->Xf->Prop) (E:Xc->Xf->Prop),tn i s.heap->Q (.ref it) s->Xx (X5 P w) A (pyIter (.ref it)) Q E s
noncomputable abbrev TI:=St->Hp->(It->Hp->Prop)->Prop
noncomputable def PIE(X:Cx)(pins:List (Addr×Obj))(σ:St)(tg:Expr)(R:It->Hp->Prop)(itv:Xc)(s2:Xf):Prop :=
 ∃(it:Addr) (fp:List Addr) (tn:Nat->Heap->Prop) (J:It) (H':Hp),itv= .ref it∧Inv X pins σ H' s2∧Turn X.prog X.w X.K tg J fp it tn∧tn 0 s2.heap∧(∀b∈fp,Zei X pins H' b)∧R J H'
noncomputable def PI(X:Cx)(tg iter:Expr)(wi:TI):Prop :=
 ∀(pins:List (Addr×Obj)) (s:Xf) (σ:St) (H:Hp) (R:It->Hp->Prop),Inv X pins σ H s->wi σ H R ->
  Xx (X5 X.prog X.w) X.A (eval iter X.env) (λv s1=>Xx (X5 X.prog X.w) X.A (pyIter v) (PIE X pins σ tg R) X.xe s1) X.xe s
theorem Zzb{M:Model}{A:Qn}{E:Xc->Xf->Prop}{s:Xf}{tg:Expr}{it:Addr}{u:Xc}{o:Obj}{n:String}{vs:Array Xc}{Q:Unit->Xf->Prop}(ho:s.heap.get? it=some o)(hc:o.cls= .type n)(hd:o.data= .fields vs)
  (hn:["enumerate","zip","dict_itemiterator","dict_reverseitemiterator","odict_iterator","itertools.zip_longest","itertools.pairwise"].contains n=false) (hQ:Q () s):Xx M A (letOwnedTupleGo tg (.ref it) u) Q E s:=by
 unfold letOwnedTupleGo
 cases tg<;>first
  | exact Xk hQ
  | (cases u<;>first
    | exact Xk hQ
    | (refine Xb (wpAny_load ho ?_)
       rw[hc,hd]
       show Xx M A (if(["enumerate","zip","dict_itemiterator","dict_reverseitemiterator","odict_iterator","itertools.zip_longest","itertools.pairwise"].contains n&&vs[0]? ==some (JN _))=true then _ else _) Q E s
       rw[if_neg (by intro h;rw[hn,Bool.false_and]at h;cases h)]
       exact Xk hQ))
noncomputable def Itl(K:Xd)(a:Addr):It :=
 ⟨λi H=>∃xs x,SqL K H a xs∧xs[i]? =some x,λi H x H'=>H'=H∧∀xs,SqL K H a xs->xs[i]? =some x,λi H=>∃xs,SqL K H a xs∧xs.length≤i⟩
noncomputable def Itr(lo:Int)(n:Nat):It:=⟨λi _=>i<n,λi H x H'=>H'=H∧x= .int (lo+i),λi _=>n≤i⟩
theorem Zoz{P:X4}{w:Qm}{K:Xd}{tg:Expr}(a it:Addr):Turn P w K tg (Itl K a) [it] it (λi h=>h.IsListIter it a i) where
 mem:=by simp
 obj:=λi h st b hb=>by
  have e:b=it:=by simpa using hb
  subst e
  obtain⟨o,e,c,d⟩:=st
  exact⟨o,e,λv z=>by rw[d]at z;cases z⟩
 keep:=λi h h' st k=>st.at λo e=>k it (by simp) o e
 item:=by
  intro X hP hw hK hc i pins s σ H E I hf st hg
  subst hP hw hK
  obtain⟨xs,x,hq,hx⟩:=hg
  obtain⟨its,rv,p,hz⟩:=I.list hq
  obtain⟨u,hu,ru⟩:=rv.get hx
  obtain⟨f0,f1,f2,f3,f4,f5⟩:=hf it (by simp)
  refine wpAny_pyNext_list_item st p.isList (x:=u) (by simpa using hu) λh' st' sb=>?_
  have I1:Inv X pins σ H { s with heap:=h' }:=I.turned (t':=s.toks) (λb o hb e=>(sb.2 b hb).trans e) f0 f1 f3 f4 f5
  obtain⟨o,e,c,d⟩:=id st'
  exact⟨u,rfl,Zzb (s:={ s with heap:=h' }) e c d (by decide) ⟨x,H,I1,ru,⟨rfl,λys hy=>by rw[I.list_inj hy hq];exact hx⟩,st',λb hb=>(hf b hb).1⟩⟩
 done:=by
  intro X hP hw hK hc i pins s σ H E I hf st hg
  subst hP hw hK
  obtain⟨xs,hq,hx⟩:=hg
  obtain⟨its,rv,p,hz⟩:=I.list hq
  obtain⟨f0,f1,f2,f3,f4,f5⟩:=hf it (by simp)
  have hl:=rv.length
  exact wpAny_pyNext_list_end (I.ok.hd hc) st p.isList (by simp;omega) λh' eb=>⟨rfl,I.turned (t':=s.toks) (λb o hb e=>eb b o hb e) f0 f1 f3 f4 f5⟩
 self:=λ_ _ _ _ _ st h=>wpAny_pyIter_listiter st h
theorem Zkx{P:X4}{w:Qm}{K:Xd}{tg:Expr}(it:Addr)(lo:Int)(n:Nat):Turn P w K tg (Itr lo n) [it] it (λi h=>IsRangeIter h it (lo+(i:Nat)*1) ((n:Int)-(i:Nat)) 1) where
 mem:=by simp
 obj:=λi h st b hb=>by
  have e:b=it:=by simpa using hb
  subst e
  exact⟨_,st,λv z=>by
   have z':Data.fields _=Data.cell v:=z
   cases z'⟩
 keep:=λi h h' st k=>k it (by simp) _ st
 item:=by
  intro X hP hw hK hc i pins s σ H E I hf st hg
  subst hP hw hK
  obtain⟨f0,f1,f2,f3,f4,f5⟩:=hf it (by simp)
  have W:=Walks.range (prog:=X.prog) (w:=X.w) (I.ok.hd hc) it lo 1 n
  refine W.item i s _ _ hg st λv h' tk hv st' kk=>?_
  obtain⟨t,rfl⟩:=hv
  have I1:Inv X pins σ H { s with heap:=h',toks:=tk }:=I.turned (λb o hb e=>kk b o (by simpa using hb) e) f0 f1 f3 f4 f5
  refine⟨_,rfl,Zzb (s:={ s with heap:=h',toks:=tk }) (n :="range_iterator") st' rfl rfl (by decide) ⟨.int (lo+i),H,I1,⟨t,?_⟩,⟨rfl,rfl⟩,st',λb hb=>(hf b hb).1⟩⟩
  rw[Int.mul_one]
 done:=by
  intro X hP hw hK hc i pins s σ H E I hf st hg
  subst hP hw hK
  obtain⟨f0,f1,f2,f3,f4,f5⟩:=hf it (by simp)
  exact wpAny_pyNext_range_end (I.ok.hd hc) st (by have:n≤i:=hg;omega) λh' eb=>⟨rfl,I.turned (t':=s.toks) (λb o hb e=>eb b o hb e) f0 f1 f3 f4 f5⟩
 self:=λ_ _ _ _ _ st h=>wpAny_pyIter_rangeiter st h
section
variable {X:Cx}{tg:Expr}
noncomputable def Z2p(K:Xd)(tl:TE):TI:=λσ H R=>tl σ H λx H1=>∃a,x= .ref a∧(∃xs,SqL K H1 a xs)∧R (Itl K a) H1
theorem Zug{l:Expr}{tl:TE}(hl:PE X l tl):PI X tg l (Z2p X.K tl):=by
 intro pins s σ H R I h
 refine thn (hl pins s σ H _ I h) λv s1 qz9=>?_
 obtain⟨x,H1,I1,r1,q1⟩:=qz9
 obtain⟨a,e,⟨xs,hq⟩,q⟩:=q1
 subst e
 cases r1
 obtain⟨its,rv,p,hz⟩:=I1.list hq
 refine wpAny_pyIter_list p.isList ?_
 refine⟨s1.heap.objs.size,[s1.heap.objs.size],_,_,H1,rfl,I1.kept (t':=s1.toks) λb o e=>Xg _ e,Zoz a _,⟨_,XJ _ rfl,rfl,rfl⟩,λb hb=>?_,q⟩
 have e:b=s1.heap.objs.size:=by simpa using hb
 subst e
 exact I1.fpOk (XD _) (I1.hok.fresh (XD _))
theorem Ziy{pins:List (Addr×Obj)}{σ:St}{H:Hp}{s:Xf}{R:It->Hp->Prop}{E:Xc->Xf->Prop}{lo hi:Int}{t u v:Tok}{tk:Nat}(I:Inv X pins σ H s)(h1:-(2^62)≤lo)(h2:lo<2^62)(h3:-(2^62)≤hi)(h4:hi<2^62)
  (q:R (Itr lo (hi-lo).toNat) H):Xx (X5 X.prog X.w) X.A (pyIter (.ref s.heap.objs.size)) (PIE X pins σ tg R) E { s with heap:=s.heap.push { cls:=.type "range",data:=.fields #[.int lo t,.int hi u,.int 1 v] },toks:=tk }:=by
 refine wpAny_pyIter_range (IsRange.new ..) (small_one h1 h2 h3 h4) ?_
 have I1:Inv X pins σ H { s with heap:=s.heap.push { cls:=.type "range",data:=.fields #[.int lo t,.int hi u,.int 1 v] },toks:=tk }:=I.kept λb o e=>Xg _ e
 refine⟨(s.heap.push { cls:=.type "range",data:=.fields #[.int lo t,.int hi u,.int 1 v] }).objs.size,[(s.heap.push { cls:=.type "range",data:=.fields #[.int lo t,.int hi u,.int 1 v] }).objs.size],_,_,H,rfl,
  I1.kept (t':=tk) λb o e=>Xg _ e,Zkx _ lo (hi-lo).toNat,?_,λb hb=>?_,q⟩
 ·have e1:lo+((0:Nat):Int)*1=lo:=by simp
  have e2:(((hi-lo).toNat:Nat):Int)-((0:Nat):Int)=Builtin.Range.rangeSize lo hi 1:=by rw[rangeSize_one];split<;>omega
  show IsRangeIter _ _ (lo+((0:Nat):Int)*1) ((((hi-lo).toNat:Nat):Int)-((0:Nat):Int)) 1
  rw[e1,e2]
  exact XJ _ rfl
 ·have e:b=(s.heap.push { cls:=.type "range",data:=.fields #[.int lo t,.int hi u,.int 1 v] }).objs.size:=by simpa using hb
  subst e
  exact I1.fpOk (XD _) (I1.hok.fresh (XD _))
noncomputable def Z6w(ta:TA):TI:=λσ H R=>ta σ H λvs H1=>∃j:Int,vs=[.int j]∧-(2^62)≤j∧j<2^62∧R (Itr 0 j.toNat) H1
noncomputable def Z70(ta:TA):TI:=λσ H R=>ta σ H λvs H1=>∃i j:Int,vs=[.int i,.int j]∧(-(2^62)≤i∧i<2^62∧-(2^62)≤j∧j<2^62)∧R (Itr i (j-i).toNat) H1
theorem Zn1{a:Expr}{ta:TA}{p pos:Pos}(hg:Gl X "range")(hm:X.mg "range"=none)(ha:PA X [a] ta)(hs:Xv [a] X.env=[(false,eval a X.env)]:=by rfl):PI X tg (.Call (.Name "range" p) [a] [] pos) (Z6w ta):=by
 intro pins s σ H R I h
 refine Call_ (Zcj I hg hm boot_range (Bw (thn (ha pos pins s σ H _ I h) λus s1 qz9=>?_) hs rfl))
 obtain⟨vs,H1,I1,r1,q1⟩:=qz9
 obtain⟨j,e,q1,q2,q⟩:=q1
 subst e
 cases r1 with
 | cons r rr=>
  cases rr
  obtain⟨t,rfl⟩:=r
  exact call_range_1 (Ziy I1 (by omega) (by omega) q1 q2 (by simpa using q))
theorem Zna{a b:Expr}{ta:TA}{p pos:Pos}(hg:Gl X "range")(hm:X.mg "range"=none)(ha:PA X [a,b] ta)(hs:Xv [a,b] X.env=[(false,eval a X.env),(false,eval b X.env)]:=by rfl)(hs2:Xv [b] X.env=[(false,eval b X.env)]:=by rfl) :
  PI X tg (.Call (.Name "range" p) [a,b] [] pos) (Z70 ta):=by
 intro pins s σ H R I h
 refine Call_ (Zcj I hg hm boot_range (Bw (thn (ha pos pins s σ H _ I h) λus s1 ⟨vs,H1,I1,r1,q1⟩=>?_) (by rw[hs,hs2]) (by rw[hs2];rfl)))
 obtain⟨i,j,e,⟨q1,q2,q3,q4⟩,q⟩:=q1
 subst e
 cases r1 with
 | cons r rr=>
  cases rr with
  | cons r' rr=>
   cases rr
   obtain⟨t,rfl⟩:=r
   obtain⟨t',rfl⟩:=r'
   exact call_range_2 (Ziy I1 q1 q2 q3 q4 q)
noncomputable def Ya8(wi:TI)(g:TG)(tb:TS):TS:=λD σ H=>wi σ H λJ H1=>∃W:Nat->Nat->St->Hp->Prop,(∃m,W 0 m σ H1)∧∀i m σ H,W i m σ H ->
 (J.stop i H∧D.nx σ H)∨(J.go i H∧∃N:St->Hp->Prop,(∀σ' H',N σ' H'->∃m',m'<m∧W (i+1) m' σ' H')∧∀x H',J.yld i H x H'->g x σ H' λσ2 H2=>tb { D with nx:=N,ct:=N,bk:=D.nx } σ2 H2)
noncomputable def Ze7(fp:List Addr)(h:Heap):List (Addr×Obj):=fp.filterMap λb=>(h.get? b).map λo=>(b,o)
theorem Wu{fp:List Addr}{h:Heap}{b:Addr}{o:Obj}(hb:b∈fp)(e:h.get? b=some o):(b,o)∈Ze7 fp h:=U8.mpr ⟨b,hb,by rw[e];rfl⟩
theorem Zmr{fp:List Addr}{h:Heap}{p:Addr×Obj}(hp:p∈Ze7 fp h):p.1∈fp∧h.get? p.1=some p.2:=by
 obtain⟨b,hb,e⟩:=U8.mp hp
 cases q:h.get? b with
 | none=>rw[q]at e;cases e
 | some o=>
  rw[q]at e
  have e':(b,o)=p:=QB e
  subst e'
  exact⟨hb,q⟩
theorem Inv.pinned{pins:List (Addr×Obj)}{σ:St}{H:Hp}{s:Xf}{fp:List Addr}(I:Inv X pins σ H s)(hf:∀b∈fp,Zei X pins H b)(ho:∀b∈fp,∃o,s.heap.get? b=some o∧∀v,o.data≠ .cell v):Inv X (pins ++ Ze7 fp s.heap) σ H s :=
 I.pins_of λp hp=>(Qc.mp hp).elim (λz=>I.pin p (Xy _ z)) λz=>by
  obtain⟨hb,e⟩:=Zmr z
  obtain⟨f0,f1,f2,_⟩:=hf p.1 hb
  obtain⟨o,e',d⟩:=ho p.1 hb
  rw[e]at e';cases e'
  exact⟨e,f0,f1,f2,d⟩
theorem Inv.unpinned{pins pl:List (Addr×Obj)}{σ:St}{H:Hp}{s:Xf}(I:Inv X (pins ++ pl) σ H s):Inv X pins σ H s:=I.pins_of λp hp=>I.pin p (Xy _ (X7 _ hp))
theorem Z2w{iter:Expr}{body:List Stmt}{wi:TI}{g:TG}{tb:TS}{pos:Pos}(hp:PassesOwn (X5 X.prog X.w) X.A X.env X.xe)(hc:X.calm=true)(hi:PI X tg iter wi)(hg:PG X tg g)(hb:PSs X body tb)
  (hs:∀x,BV iter X.env x=pure x:=by intro _;rfl):PS X (.For tg iter body [] pos) (Ya8 wi g tb):=by
 intro pins s σ H D I h
 refine wpAny_For (thn (hi pins s σ H _ I h) λv s1 h1=>thn h1 λitv s2 h2=>?_) hs
 obtain⟨it,fp,tn,J,H2,e,I2,T,st2,f2,W,⟨m0,w0⟩,turn⟩:=h2
 subst e
 -- what stays true of the iterator's objects through the loop
 have stat:∀{H':Hp},(∀b∈fp,H' b=none)->∀b∈fp,Zei X pins H' b:=λhn b hb=>⟨hn b hb,(f2 b hb).2⟩
 refine codeAny_forLoop_any (λn s'=>∃i σ' H',Inv X pins σ' H' s'∧tn i s'.heap∧(∀b∈fp,H' b=none)∧W i n σ' H') ?_ m0 ⟨0,σ,H2,I2,st2,λb hb=>(f2 b hb).1,w0⟩
 rintro n s3 ⟨i,σ3,H3,I3,st3,fr3,w3⟩
 rcases turn i n σ3 H3 w3 with⟨stop,qn⟩|⟨go,N,hN,step⟩
 ·refine JT hp (thn (T.done X rfl rfl rfl hc i pins s3 σ3 H3 X.xe I3 (stat fr3) st3 stop) λr s4 qz9=>?_)
  obtain⟨hr,I4⟩:=qz9
  subst hr
  exact wpAny_execs_nil ⟨σ3,H3,I4,qn⟩
 ·refine JT hp (thn (T.item X rfl rfl rfl hc i pins s3 σ3 H3 X.xe I3 (stat fr3) st3 go) λr s4 qz9=>?_)
  obtain⟨u,hr,h4⟩:=qz9
  subst hr
  refine JT hp (thn h4 λ_ s5 qz9=>?_)
  obtain⟨x,H5,I5,r5,y5,st5,fr5⟩:=qz9
  have I5':=I5.pinned (stat fr5) (T.obj _ _ st5)
  refine JT hp (thn (hg _ s5 σ3 H5 x u _ I5' r5 (step x H5 y5)) λ_ s6 qz9=>?_)
  obtain⟨σ6,H6,I6,q6⟩:=qz9
  refine JT hp (thn (hb _ s6 σ6 H6 _ I6 q6) λf s7 q7=>?_)
  have again:∀{σ7:St} {H7:Hp},Inv X (pins ++ Ze7 fp s5.heap) σ7 H7 s7->N σ7 H7->∃m,m<n∧∃i σ' H',Inv X pins σ' H' s7∧tn i s7.heap∧(∀b∈fp,H' b=none)∧W i m σ' H':=fun{σ7 H7} I7 n7=>by
   obtain⟨m',hm,w7⟩:=hN σ7 H7 n7
   refine⟨m',hm,i+1,σ7,H7,I7.unpinned,T.keep _ _ _ st5 λb hb o e=>(I7.pin (b,o) (Xy _ (Xy _ (Wu hb e)))).1,λb hb=>?_,w7⟩
   obtain⟨o,e,d⟩:=T.obj _ _ st5 b hb
   exact(I7.pin (b,o) (Xy _ (Xy _ (Wu hb e)))).2.1
  cases f with
  | next=>obtain⟨σ7,H7,I7,n7⟩:=q7;exact again I7 n7
  | cont=>obtain⟨σ7,H7,I7,n7⟩:=q7;exact again I7 n7
  | brk=>obtain⟨σ7,H7,I7,q7⟩:=q7;exact⟨σ7,H7,I7.unpinned,q7⟩
  | ret v=>obtain⟨x7,σ7,H7,I7,r7,q7⟩:=q7;exact⟨x7,σ7,H7,I7.unpinned,r7,q7⟩
end
noncomputable abbrev R2:=V->V->Hp->VK->Prop
noncomputable def OpR(X:Cx)(f:Xc->Xc->Sem Xc)(r:R2):Prop :=
 ∀(pins:List (Addr×Obj)) (s:Xf) (σ:St) (H:Hp) (x y:V) (v u:Xc) (Q:VK),Inv X pins σ H s->RelV x v->RelV y u->r x y H Q ->
  Xx (X5 X.prog X.w) X.A (f v u) (EP X pins σ Q) X.xe s
noncomputable def UnR(X:Cx)(f:Xc->Sem Xc)(r:V->Hp->VK->Prop):Prop :=
 ∀(pins:List (Addr×Obj)) (s:Xf) (σ:St) (H:Hp) (x:V) (v:Xc) (Q:VK),Inv X pins σ H s->RelV x v->r x H Q ->
  Xx (X5 X.prog X.w) X.A (f v) (EP X pins σ Q) X.xe s
noncomputable def Zbu(X:Cx)(f:Xc)(r:List V->Hp->VK->Prop):Prop :=
 ∀(pins:List (Addr×Obj)) (s:Xf) (σ:St) (H:Hp) (xs:List V) (us:List Xc) (Q:VK),Inv X pins σ H s->Vals xs us->r xs H Q ->
  Xx (X5 X.prog X.w) X.A (call f us) (EP X pins σ Q) X.xe s
noncomputable def Yah(X:Cx)(r:V->Hp->(Bool->Hp->Prop)->Prop):Prop :=
 ∀(pins:List (Addr×Obj)) (s:Xf) (σ:St) (H:Hp) (x:V) (v:Xc) (Q:Bool->Hp->Prop),Inv X pins σ H s->RelV x v->r x H Q ->
  Xx (X5 X.prog X.w) X.A (truthy v) (TP X pins σ Q) X.xe s
noncomputable def tOp(r:R2)(ta tb:TE):TE:=λσ H Q=>ta σ H λx H1=>tb σ H1 λy H2=>r x y H2 Q
noncomputable def tUn(r:V->Hp->VK->Prop)(ta:TE):TE:=λσ H Q=>ta σ H λx H1=>r x H1 Q
noncomputable def rI(C:Int->Int->Prop)(g:Int->Int->V):R2:=λx y H Q=>∃i j,x= .int i∧y= .int j∧C i j∧Q (g i j) H
noncomputable def rI0(g:Int->Int->V):R2:=λx y H Q=>∃i j,x= .int i∧y= .int j∧Q (g i j) H
noncomputable def rU(g:Int->V):V->Hp->VK->Prop:=λx H Q=>∃i,x= .int i∧Q (g i) H
section
variable {X:Cx}{a b c:Expr}{ta tb tc:TE}{pos:Pos}
theorem Z4z(ha:PE X a ta)(hb:PE X b tb){pins:List (Addr×Obj)}{s:Xf}{σ:St}{H:Hp}{R:V->V->Hp->Prop}(I:Inv X pins σ H s)
  (h:ta σ H λx H1=>tb σ H1 λy H2=>R x y H2) {Q:Xc->Xf->Prop} {f:Xc->Xc->Sem Xc}
  (hf:∀v u s2 x y H2,Inv X pins σ H2 s2->RelV x v->RelV y u->R x y H2->Xx (X5 X.prog X.w) X.A (f v u) Q X.xe s2) :
  Xx (X5 X.prog X.w) X.A (eval a X.env) (λv s₁=>Xx (X5 X.prog X.w) X.A (eval b X.env) (λu s₂=>Xx (X5 X.prog X.w) X.A (f v u) Q X.xe s₂) X.xe s₁) X.xe s:=by
 refine thn (ha pins s σ H _ I h) λv s1 qz9=>?_
 obtain⟨x,H1,I1,r1,q1⟩:=qz9
 refine thn (hb pins s1 σ H1 _ I1 q1) λu s2 qz9=>?_
 obtain⟨y,H2,I2,r2,q2⟩:=qz9
 exact hf v u s2 x y H2 I2 r1 r2 q2
theorem Zx6{op:Operator}{r:R2}(ho:OpR X (Uc op) r)(ha:PE X a ta)(hb:PE X b tb):PE X (.BinOp a op b pos) (tOp r ta tb):=by
 intro pins s σ H Q I h
 exact wpAny_BinOp (Z4z ha hb I h λv u s2 x y H2 I2 rx ry q=>ho pins s2 σ H2 x y v u Q I2 rx ry q)
theorem Z6n{op:UnaryOp}{r:V->Hp->VK->Prop}(ho:UnR X (unaryOp op) r)(ha:PE X a ta):PE X (.UnaryOp op a pos) (tUn r ta):=by
 intro pins s σ H Q I h
 refine UnaryOp_ (thn (ha pins s σ H _ I h) λv s1 qz9=>?_)
 obtain⟨x,H1,I1,r1,q1⟩:=qz9
 exact ho pins s1 σ H1 x v Q I1 r1 q1
theorem opI{f:Xc->Xc->Sem Xc}{C:Int->Int->Prop}{g:Int->Int->Int}
  (rule:∀(i j:Int) (t u:Tok) (s:Xf) (Q:Xc->Xf->Prop) (E:Xc->Xf->Prop),C i j->Q (.int (g i j) s.toks) { s with toks:=s.toks+1 }->Xx (X5 X.prog X.w) X.A (f (.int i t) (.int j u)) Q E s) :
  OpR X f (rI C λi j=>.int (g i j)):=by
 intro pins s σ H x y v u Q I rx ry h
 obtain⟨i,j,rfl,rfl,hc,q⟩:=h
 obtain⟨t,rfl⟩:=rx
 obtain⟨t',rfl⟩:=ry
 exact rule i j t t' s _ _ hc ⟨.int (g i j),H,I.tok _,⟨_,rfl⟩,q⟩
theorem Z9o{f:Xc->Xc->Sem Xc}{g:Int->Int->Int}
  (rule:∀(i j:Int) (t u:Tok) (s:Xf) (Q:Xc->Xf->Prop) (E:Xc->Xf->Prop),Q (.int (g i j) s.toks) { s with toks:=s.toks+1 }->Xx (X5 X.prog X.w) X.A (f (.int i t) (.int j u)) Q E s) :
  OpR X f (rI0 λi j=>.int (g i j)):=by
 intro pins s σ H x y v u Q I rx ry h
 obtain⟨i,j,rfl,rfl,q⟩:=h
 obtain⟨t,rfl⟩:=rx
 obtain⟨t',rfl⟩:=ry
 exact rule i j t t' s _ _ ⟨.int (g i j),H,I.tok _,⟨_,rfl⟩,q⟩
theorem Z35{f:Xc->Xc->Sem Xc}{g:Int->Int->Bool}
  (rule:∀(i j:Int) (t u:Tok) (s:Xf) (Q:Xc->Xf->Prop) (E:Xc->Xf->Prop),Q (.bool (g i j)) s->Xx (X5 X.prog X.w) X.A (f (.int i t) (.int j u)) Q E s) :
  OpR X f (rI0 λi j=>.bl (g i j)):=by
 intro pins s σ H x y v u Q I rx ry h
 obtain⟨i,j,rfl,rfl,q⟩:=h
 obtain⟨t,rfl⟩:=rx
 obtain⟨t',rfl⟩:=ry
 exact rule i j t t' s _ _ ⟨.bl (g i j),H,I,rfl,q⟩
noncomputable def Z36(i j:Int):Prop:=0≤j∧j≤1000000∧i.natAbs<2^64
noncomputable def CMul(i j:Int):Prop:=(-(2^64)<i∧i<2^64)∨(-(2^64)<j∧j<2^64)
theorem CMul.ok{i j:Int}(h:CMul i j):IntMulOk i j:=by
 rcases h with⟨h1,h2⟩|⟨h1,h2⟩
 ·exact .of_left (intBits_le_64 h1 h2)
 ·exact .of_right (intBits_le_64 h1 h2)
theorem Z2g:OpR X (Uc .Add) (rI0 λi j=>.int (i+j)):=Z9o λ_ _ _ _ _ _ _ q=>add_int q
theorem Zzh:OpR X (Uc .Sub) (rI0 λi j=>.int (i-j)):=Z9o λ_ _ _ _ _ _ _ q=>sub_int q
theorem Zxf:OpR X (Uc .Mod) (rI (λ_ j=>j≠0) λi j=>.int (i.fmod j)):=opI λ_ _ _ _ _ _ _ hc q=>mod_int' hc q
theorem Z0n:OpR X (Uc .Pow) (rI Z36 λi j=>.int (i^j.toNat)):=opI λ_ _ _ _ _ _ _ hc q=>pow_int_small hc.1 hc.2.1 hc.2.2 q
theorem unI{f:Xc->Sem Xc}{g:Int->Int}
  (rule:∀(i:Int) (t:Tok) (s:Xf) (Q:Xc->Xf->Prop) (E:Xc->Xf->Prop),Q (.int (g i) s.toks) { s with toks:=s.toks+1 }->Xx (X5 X.prog X.w) X.A (f (.int i t)) Q E s) :
  UnR X f (rU λi=>.int (g i)):=by
 intro pins s σ H x v Q I rx h
 obtain⟨i,rfl,q⟩:=h
 obtain⟨t,rfl⟩:=rx
 exact rule i t s _ _ ⟨.int (g i),H,I.tok _,⟨_,rfl⟩,q⟩
theorem Zzd:UnR X (unaryOp .USub) (rU λi=>.int (-i)):=unI λ_ _ _ _ _ q=>neg_int q
end
section
variable {X:Cx}{a b c:Expr}{ta tb tc:TE}{pos:Pos}
theorem Z0h{pins:List (Addr×Obj)}{σ:St}{H:Hp}{s:Xf}{Q:VK}{k k':Bool}(I:Inv X pins σ H s)(q:Q (.bl k) H)(e:k=k'):EP X pins σ Q (.bool k') s:=by
 subst e
 exact⟨.bl k,H,I,rfl,q⟩
theorem Zfg:OpR X (Q6 .Lt) (rI0 λi j=>.bl (decide (i<j))):=Z35 λ_ _ _ _ _ _ _ q=>lt_int q
theorem Zko:OpR X (Q6 .LtE) (rI0 λi j=>.bl (decide (i≤j))):=Z35 λ_ _ _ _ _ _ _ q=>le_int q
theorem Z4x:OpR X (Q6 .Gt) (rI0 λi j=>.bl (decide (j<i))):=Z35 λ_ _ _ _ _ _ _ q=>gt_int q
theorem Z5e:OpR X (Q6 .GtE) (rI0 λi j=>.bl (decide (j≤i))):=Z35 λ_ _ _ _ _ _ _ q=>ge_int q
theorem Zy1:OpR X (Q6 .Is) (λx y H Q=>y= .non∧Q (.bl (decide (x= .non))) H):=by
 intro pins s σ H x y v u Q I rx ry h
 obtain⟨rfl,q⟩:=h
 cases ry
 refine is_none_gen (Z0h I q ?_)
 cases x<;>first
  | (cases rx;rfl)
  | (obtain⟨t,rfl⟩:=rx;rfl)
theorem Za1(b:Expr){op:CmpOp}(h:op≠ .In:=by decide)(h2:op≠ .NotIn:=by decide):U3 op b=false:=by
 have e1:(op==CmpOp.In)=false:=by cases op<;>first|rfl|exact absurd rfl h
 have e2:(op==CmpOp.NotIn)=false:=by cases op<;>first|rfl|exact absurd rfl h2
 cases b<;>simp[U3,e1,e2]
theorem Zww{op:CmpOp}{r:R2}(ho:OpR X (Q6 op) r)(ha:PE X a ta)(hb:PE X b tb)(hm:U3 op b=false):PE X (.Compare a [op] [b] pos) (tOp r ta tb):=by
 intro pins s σ H Q I h
 exact wpAny_Compare1 (Z4z ha hb I h λv u s2 x y H2 I2 rx ry q=>ho pins s2 σ H2 x y v u Q I2 rx ry q) hm
noncomputable def Zu9(t:TE):TT:=λσ H Q=>t σ H λx H'=>∃k,x= .bl k∧Q k H'
theorem Zyb{op:CmpOp}{r:R2}(ho:OpR X (Q6 op) r)(ha:PE X a ta)(hb:PE X b tb)(hm:U3 op b=false):PT X (.Compare a [op] [b] pos) (Zu9 (tOp r ta tb)):=by
 intro pins s σ H Q I h
 refine wpAny_isTrue_Compare1 (thn (ha pins s σ H _ I h) λv s1 ⟨x,H1,I1,r1,q1⟩=>thn (hb pins s1 σ H1 _ I1 q1) λu s2 ⟨y,H2,I2,r2,q2⟩=>
  thn (ho pins s2 σ H2 x y v u _ I2 r1 r2 q2) λc s3 ⟨z,H3,I3,r3,k,e,q3⟩=>?_) hm
 subst e
 cases r3
 exact BR ⟨H3,I3,q3⟩
noncomputable def Zsd(r r':R2)(ta tb tc:TE):TE:=λσ H Q=>ta σ H λx H1=>tb σ H1 λy H2=>r x y H2 λz H3=>∃k,z= .bl k∧
 (if k=true then tc σ H3 λw' H4=>r' y w' H4 Q else Q (.bl false) H3)
theorem Zrp{op op':CmpOp}{r r':R2}(ho:OpR X (Q6 op) r)(ho':OpR X (Q6 op') r')(ha:PE X a ta)(hb:PE X b tb)(hc:PE X c tc)
  (hm:lastMarks [op,op'] [b,c]=false:=by with_unfolding_all rfl):PE X (.Compare a [op,op'] [b,c] pos) (Zsd r r' ta tb tc):=by
 intro pins s σ H Q I h
 refine Compare_chain (thn (ha pins s σ H _ I h) λv s1 ⟨x,H1,I1,r1,q1⟩=>chain_link (thn (hb pins s1 σ H1 _ I1 q1) λu s2 ⟨y,H2,I2,r2,q2⟩=>
  thn (ho pins s2 σ H2 x y v u _ I2 r1 r2 q2) λd s3 ⟨z,H3,I3,r3,k,e,q3⟩=>?_)) hm
 subst e
 cases r3
 refine BR ?_
 cases k with
 | false=>exact ite_ff ⟨.bl false,H3,I3,rfl,q3⟩
 | true=>exact ite_tt (chain_last (thn (hc pins s3 σ H3 _ I3 q3) λw' s4 ⟨z',H4,I4,r4,q4⟩=>ho' pins s4 σ H4 y z' u w' Q I4 r2 r4 q4))
noncomputable def Z6x(K:Xd)(x:V)(H:Hp)(k:Bool):Prop :=
 match x with
 | .non=>k=false
 | .bl b=>k=b
 | .int i=>k=(i !=0)
 | .str y=>y.length≤Xr∧k=((y.length:Int) !=0)
 | .byt y=>y.size≤Xr∧k=((y.size:Int) !=0)
 | .ref p=>(∃xs,SqL K H p xs∧k= !xs.isEmpty)∨(∃xs,SqT K H p xs∧k= !xs.isEmpty)∨∃kvs,H p=some (.dK kvs)∧k= !kvs.isEmpty
 | _=>False
theorem Zkr{κ:Type}{kvs:List (κ×V)}{vs:List (κ×Xc)}(r:KV kvs vs):(!vs.isEmpty)= !kvs.isEmpty:=by
 cases r<;>rfl
theorem Zem{xs:List V}{its:List Xc}(r:Vals xs its):(!its.toArray.isEmpty)= !xs.isEmpty:=by
 cases r<;>simp
theorem Ze8:(Xr:Nat)<2^63:=by rw[Qh];decide
theorem Zzx:Yah X (λx H Q=>∃k,Z6x X.K x H k∧Q k H):=by
 intro pins s σ H x v Q I rx h
 obtain⟨k,e,q⟩:=h
 have hl:=Ze8
 have hs:Xr=16777216:=Qh
 cases x with
 | non=>
  cases rx
  have e':k=false:=e
  subst e'
  exact truthy_none ⟨H,I,q⟩
 | bl b=>
  cases rx
  have e':k=b:=e
  subst e'
  exact BR ⟨H,I,q⟩
 | int i=>
  obtain⟨t,rfl⟩:=rx
  have e':k=(i !=0):=e
  subst e'
  exact PySem.P.truthy_int ⟨H,I,q⟩
 | str y=>
  obtain⟨t,rfl⟩:=rx
  obtain⟨hy,e'⟩:y.length≤Xr∧k=((y.length:Int) !=0):=e
  subst e'
  exact PySem.P.truthy_str (by omega) ⟨H,I.tok _,q⟩
 | byt y=>
  obtain⟨t,rfl⟩:=rx
  obtain⟨hy,e'⟩:y.size≤Xr∧k=((y.size:Int) !=0):=e
  subst e'
  exact PySem.W.truthy_bytes (by omega) ⟨H,I.tok _,q⟩
 | ref p=>
  cases rx
  have e':(∃xs,SqL X.K H p xs∧k= !xs.isEmpty)∨(∃xs,SqT X.K H p xs∧k= !xs.isEmpty)∨∃kvs,H p=some (.dK kvs)∧k= !kvs.isEmpty:=e
  rcases e' with⟨xs,hx,e'⟩|⟨xs,hx,e'⟩|⟨kvs,hx,e'⟩
  ·subst e'
   obtain⟨its,r,pl,hz⟩:=I.list hx
   have hlen:=r.length
   exact wpAny_truthy_list pl.isList (by simp only[XF];omega) ⟨H,I.tok _,by rw[Zem r];exact q⟩
  ·subst e'
   obtain⟨its,r,pl,hz⟩:=I.tuple hx
   have hlen:=r.length
   exact truthy_tuple pl (by simp only[XF];omega) ⟨H,I.tok _,by rw[Zem r];exact q⟩
  ·subst e'
   obtain⟨hz,hS,vs,r,m⟩:kvs.length≤Xr∧(p==V3)=false∧∃vs,KV kvs vs∧s.heap.DictOf (Y4 X.prog X.w) p vs:=I.hok p _ hx
   have hlen:kvs.length=vs.length:=Paired.length r
   exact wpAny_truthy_dict hS m (by omega) ⟨H,I.tok _,by rw[Zkr r];exact q⟩
 | _=>exact(show False from e).elim
theorem Zru(ha:PE X a ta)(he:∀whole,isTrue a X.env whole=(do let v←whole;standAt a.pos;holding [v] (truthy v))) :
  PT X a (λσ H Q=>ta σ H λx H'=>∃k,Z6x X.K x H' k∧Q k H'):=by
 intro pins s σ H Q I h
 refine isTrue_plain (thn (ha pins s σ H _ I h) λv s1 qz9=>?_) (he _)
 obtain⟨x,H1,I1,r1,q1⟩:=qz9
 exact Zzx pins s1 σ H1 x v Q I1 r1 q1
theorem vals1{x:V}{us:List Xc}(r:Vals [x] us):∃u,us=[u]∧RelV x u:=by
 cases r with
 | cons r1 r2=>cases r2;exact⟨_,rfl,r1⟩
theorem vals2{x y:V}{us:List Xc}(r:Vals [x,y] us):∃u w',us=[u,w']∧RelV x u∧RelV y w':=by
 cases r with
 | cons r1 r2=>
  cases r2 with
  | cons r3 r4=>cases r4;exact⟨_,_,rfl,r1,r3⟩
theorem Zp9:Zbu X (.builtin "abs") (λxs H Q=>∃i,xs=[.int i]∧Q (.int (if i<0 then -i else i)) H):=by
 intro pins s σ H xs us Q I r h
 obtain⟨i,rfl,q⟩:=h
 obtain⟨u,rfl,t,rfl⟩:=vals1 r
 exact call_abs_int λu tk=>⟨.int (if i<0 then -i else i),H,I.tok _,⟨_,rfl⟩,q⟩
theorem Znx(hc:X.calm=true):Zbu X (.builtin "max") (λxs H Q=>∃i j,xs=[.int i,.int j]∧Q (.int (if j>i then j else i)) H):=by
 intro pins s σ H xs us Q I r h
 obtain⟨i,j,rfl,q⟩:=h
 obtain⟨u,w',rfl,⟨t,rfl⟩,⟨t',rfl⟩⟩:=vals2 r
 refine max_two_ints (I.ok.hd hc) λh' tk k=>⟨_,H,I.kept k,?_,q⟩
 by_cases hj:j>i
 ·rw[if_pos hj,if_pos hj];exact⟨_,rfl⟩
 ·rw[if_neg hj,if_neg hj];exact⟨_,rfl⟩
theorem Zl5(hc:X.calm=true):Zbu X (.builtin "min") (λxs H Q=>∃i j,xs=[.int i,.int j]∧Q (.int (if j<i then j else i)) H):=by
 intro pins s σ H xs us Q I r h
 obtain⟨i,j,rfl,q⟩:=h
 obtain⟨u,w',rfl,⟨t,rfl⟩,⟨t',rfl⟩⟩:=vals2 r
 refine min_two_ints (I.ok.hd hc) λh' tk k=>⟨_,H,I.kept k,?_,q⟩
 by_cases hj:j<i
 ·rw[if_pos hj,if_pos hj];exact⟨_,rfl⟩
 ·rw[if_neg hj,if_neg hj];exact⟨_,rfl⟩
end
structure ObjM(h:Heap)(x dx C:Addr)(mA:Str->Option Xc):Prop where
 obj:h.get? x=some (PySem.W.instObj C dx)
 ns:h.Ns1 dx mA
 ne:dx≠x
theorem Zma{h:Heap}{dx:Addr}{mA:Str->Option Xc}(n:h.Ns1 dx mA):∃od,h.get? dx=some od∧∀name,PySem.W.lookIn name od=some (mA name):=by
 obtain⟨o,es,ep,ho,hd,hk,_,hm⟩:=n
 refine⟨o,ho,λname=>?_⟩
 have e:=hm name
 unfold nsFind findBy at e
 rw[←Array.find?_toList]at e
 unfold PySem.W.lookIn
 rw[hd]
 dsimp only
 split
 ·rename_i y q
  rw[q]at e
  exact congrArg some e
 ·rename_i q
  rw[q]at e
  have a:es.toList.any (·.refKey)=false:=by
   rw[List.any_eq_false]
   intro y hy
   obtain⟨z,t,hkey⟩:=hk y (Array.mem_toList_iff.mp hy)
   simp[DictEntry.refKey,hkey]
  have a':¬es.toList.any (·.refKey)=true:=by rw[a];exact Xw
  rw[if_neg a']
  exact congrArg some e
theorem ObjM.look{h:Heap}{x dx C:Addr}{mA:Str->Option Xc}(I:ObjM h x dx C mA):∃od,PySem.W.InstAt h x (PySem.W.instObj C dx) C (some od)∧∀name,PySem.W.lookIn name od=some (mA name) :=
 let⟨od,ho,hl⟩:=Zma I.ns
 ⟨od,⟨I.obj,rfl,rfl,ho⟩,hl⟩
section
variable {prog:X4}{w:Qm}{A:Qn}{E:Xc->Xf->Prop}{s:Xf}{K:Xd}{x dx C f:Addr}{mA:Str->Option Xc}{name:Str}{v:Xc}
end
theorem RelO.some_of{v:V}{o:Option Xc}(r:RelO (some v) o):∃u,o=some u∧RelV v u:=by
 cases o with
 | none=>exact(show False from r).elim
 | some u=>exact⟨u,rfl,r⟩
section
variable {P:X4}{w:Qm}{H H':Hp}{h h':Heap}{a C dx:Addr}{fs fs':List (Str×V)}
theorem Zwt(hok:HOk P w H h)(e:H a=some (.ins C dx fs)):∃mA,ObjM h a dx C mA∧(∀f,RelO (fs.lookup f) (mA f))∧PySem.Within mA (fs.map (·.1))∧fs.length≤1000∧H dx=some (.own a):=by
 obtain⟨d,z,ne,ob,mA,n,r,q⟩:=(show ObjOk P w H h a (.ins C dx fs)from hok a _ e)
 exact⟨mA,⟨ob,n,ne⟩,r,q,z,d⟩
end
structure Cls(K:Xd)(C:Addr):Prop where
 pg:PySem.W.plainGet K C Str.empty=true
 hd:PySem.W.hasDictIn K C=true
 po:PySem.W.plainOver K C=true
 sa:JC K (.ref C) "__setattr__"=some (some (.builtin "object.__setattr__"))
theorem Cls.get{K:Xd}{C:Addr}(c:Cls K C)(f:Str):PySem.W.plainGet K C f=true:=c.pg
structure Con(K:Xd)(C:Addr)(f:Str)(v:V)(u:Xc):Prop where
 at_:JC K (.ref C) f=some (some u)
 rel:RelV v u
 get:PySem.W.specialIn K u "__get__"=some none
 cp:PySem.W.copiedNames.contains f=false
structure Meth(K:Xd)(C:Addr)(m:Str)(f:Addr):Prop where
 at_:JC K (.ref C) m=some (some (.ref f))
 fn:PySem.W.isFn K (.ref f)=true
 kp:Qu K (.ref f)=true
section
variable {X:Cx}{pins:List (Addr×Obj)}{σ:St}{H:Hp}{s:Xf}{a C dx:Addr}{fs:List (Str×V)}{f:Str}{v:V}{A:Qn}{E:Xc->Xf->Prop}
end
section
variable {X:Cx}{o e value:Expr}{f:Str}{pos pos' tpos:Pos}{ta tv:TE}
end
section
variable {X:Cx}{pins:List (Addr×Obj)}{σ:St}{H:Hp}{s:Xf}{A:Qn}{E:Xc->Xf->Prop}{Q:Xc->Xf->Prop}{c:Xc}{b:Bool}
inductive Zle(K:Xd)(H:Hp):V->Xc->Prop where
 | non:Zle K H .non (.type "NoneType")
 | bl (x:Bool):Zle K H (.bl x) (.type "bool")
 | int (i:Int):Zle K H (.int i) (.type "int")
 | str (x:Str):Zle K H (.str x) (.type "str")
 | flt (x:UInt64):Zle K H (.flt x) (.type "float")
 | lst {a:Addr} {xs:List V} (e:H a=some (.lst xs)):Zle K H (.ref a) (.type "list")
 | frz {a:Addr} {o:Obj} {xs:List V} (e:H a=some (.frz o (.lst xs))):Zle K H (.ref a) (.type "list")
 | tup {a:Addr} {xs:List V} (e:H a=some (.tup xs)):Zle K H (.ref a) (.type "tuple")
 | dK {a:Addr} {kvs:List (Key×V)} (e:H a=some (.dK kvs)):Zle K H (.ref a) (.type "dict")
 | dT {a:Addr} {kvs:List (List Key×V)} (e:H a=some (.dT kvs)):Zle K H (.ref a) (.type "dict")
 | ins {a C dx:Addr} {fs:List (Str×V)} (e:H a=some (.ins C dx fs)) (cl:Cls K C) (ha:JC K (.ref C) "__class__"=some (some (.builtin "object.__class__")))
   (hn:PySem.W.specialIn K (.builtin "object.__class__") "__get__"=some (some (.builtin "getset_descriptor.__get__"))) (htk:PySem.W.takesIn K (.builtin "object.__class__")=some true)
   (hm:PySem.W.mroIn K C (.type "object")=some true):Zle K H (.ref a) (.ref C)
theorem Ww{x:V}{u t:Xc}(I:Inv X pins σ H s)(rx:RelV x u)(ty:Zle X.K H x t)(e:QM X.K t c=some b)(h:∀tk,Q (.bool b) { s with toks:=tk }) :
  Xx (X5 X.prog X.w) A (call (.builtin "isinstance") [u,c]) Q E s:=by
 cases ty with
 | non=>cases(show u=QK from rx);exact JB PySem.W.kitx_none I.kIn Vv e (λz=>nomatch z) h
 | bl y=>cases(show u=Value.bool y from rx);exact JB PySem.W.kitx_bool I.kIn Vv e (λz=>nomatch z) h
 | int i=>obtain⟨t,q⟩:=(show∃t,u=Um i t from rx);cases q;exact JB PySem.W.kitx_int I.kIn Vv e (λz=>nomatch z) h
 | str y=>obtain⟨t,q⟩:=(show∃t,u=Value.str y t from rx);cases q;exact JB PySem.W.kitx_str I.kIn Vv e (λz=>nomatch z) h
 | flt y=>obtain⟨t,q⟩:=(show∃t,u=Xc.float y t from rx);cases q;exact JB PySem.W.kitx_float I.kIn Vv e (λz=>nomatch z) h
 | @lst a xs ea=>
  cases(show u=Xu a from rx)
  obtain⟨_,_,n,_,h1⟩:=(show ObjOk X.prog X.w H s.heap a (.lst xs)from I.hok a _ ea)
  exact JB PySem.W.kitx_list I.kIn ⟨_,h1,rfl⟩ e (λz=>nomatch z) h
 | @frz a ob xs ea=>
  cases(show u=Xu a from rx)
  obtain⟨_,_,_,n,_,h1⟩:=(show ObjOk X.prog X.w H s.heap a (.frz ob (.lst xs))from I.hok a _ ea)
  exact JB PySem.W.kitx_list I.kIn ⟨_,h1,rfl⟩ e (λz=>nomatch z) h
 | @tup a xs ea=>
  cases(show u=Xu a from rx)
  obtain⟨_,_,_,p⟩:=(show ObjOk X.prog X.w H s.heap a (.tup xs)from I.hok a _ ea)
  obtain⟨o,h1,h2,_⟩:=p
  exact JB PySem.W.kitx_tuple I.kIn ⟨o,h1,h2⟩ e (λz=>nomatch z) h
 | @dK a kvs ea=>
  cases(show u=Xu a from rx)
  obtain⟨_,_,vs,_,p⟩:=(show ObjOk X.prog X.w H s.heap a (.dK kvs)from I.hok a _ ea)
  obtain⟨o,es,ep,h1,h2,_⟩:=p
  exact JB PySem.W.kitx_dict I.kIn ⟨o,h1,h2.1⟩ e (λz=>nomatch z) h
 | @dT a kvs ea=>
  cases(show u=Xu a from rx)
  obtain⟨_,_,xs,_,o,es,ep,h1,h2,_⟩:=(show ObjOk X.prog X.w H s.heap a (.dT kvs)from I.hok a _ ea)
  exact JB PySem.W.kitx_dict I.kIn ⟨o,h1,h2.1⟩ e (λz=>nomatch z) h
 | @ins a C dx fs ea cl ha hn htk hm=>
  cases(show u=Xu a from rx)
  obtain⟨mA,O,_⟩:=Zwt I.hok ea
  obtain⟨od,J,_⟩:=O.look
  exact JB (PySem.W.kitx_own (cl.get _) cl.hd ha hn htk hm) I.kIn J e (λz=>nomatch z) h
end
structure Room(k:Nat)(A:Qn):Prop where
 hd:A.handled=none
 dp:A.depth+3*k+5<recursionLimit
 un:A.units+16*k+200<Vu
theorem Room.mono{j k:Nat}{A:Qn}(r:Room k A)(h:j≤k):Room j A:=⟨r.hd,by have:=r.dp;omega,by have:=r.un;omega⟩
theorem Room.deeper{k:Nat}{A:Qn}(r:Room (k+1) A)(env:Env):Room k (A.deeper env) :=
 ⟨r.hd,by have:=r.dp;show A.depth+1+3*k+5<_;omega,by have:=r.un;show A.units+3+16*k+200<_;omega⟩
theorem Room.depth{k:Nat}{A:Qn}(r:Room k A):A.depth<recursionLimit:=by have:=r.dp;omega
theorem Room.units{k:Nat}{A:Qn}(r:Room k A):A.units+64<Vu:=by have:=r.un;omega
noncomputable def Ybu:TA:=λ_ H Q=>Q [] H
noncomputable def Z52(ta:TE)(tr:TA):TA:=λσ H Q=>ta σ H λx H1=>tr σ H1 λxs H2=>Q (x :: xs) H2
section
variable {X:Cx}{e:Expr}{es:List Expr}{te:TE}{t:TA}{pos:Pos}
theorem Zdi:PA X [] Ybu:=λ_ _ _ _ H Q I h=>Calls.spliced_nil ⟨[],H,I,.nil,h⟩
theorem Zac(ha:PE X e te)(hr:PA X es t)(hs:Xv (e :: es) X.env=(false,eval e X.env) :: Xv es X.env:=by rfl):PA X (e :: es) (Z52 te t):=by
 intro pos pins s σ H Q I h
 rw[hs]
 show Xx _ _ (spliced ((false,eval e X.env) :: Bf pos (Xv es X.env))) _ _ s
 refine Calls.spliced_cons (thn (ha pins s σ H _ I h) λu s1 qz9=>?_)
 obtain⟨x,H1,I1,r1,q1⟩:=qz9
 refine thn (hr pos pins s1 σ H1 _ I1 q1) λus s2 qz9=>?_
 obtain⟨xs,H2,I2,r2,q2⟩:=qz9
 exact⟨x :: xs,H2,I2,.cons r1 r2,q2⟩
noncomputable def Yai(t:TA):TE:=λσ H Q=>t σ H λxs H1=>xs.length≤Xr∧∀p,H1 p=none->Q (.ref p) (upd H1 p (.tup xs))
noncomputable def Yap(t:TA):TE:=λσ H Q=>t σ H λxs H1=>xs.length≤Xr∧∀p,H1 p=none->Q (.ref p) (upd H1 p (.lst xs))
theorem Zza{x1}(h:PA X es t):PE X (.Tuple es x1 pos) (Yai t):=by
 intro pins s σ H Q I hq
 refine wpAny_Tuple_spliced (thn (h pos pins s σ H _ I hq) λus s1 ⟨xs,H1,I1,r,z,q⟩=>⟨by rw[←r.length];exact z,?_⟩)
 have hf:H1 s1.heap.objs.size=none:=I1.hok.fresh (XD _)
 refine⟨.ref s1.heap.objs.size,upd H1 s1.heap.objs.size (.tup xs),I1.laid (t':=s1.toks) (λb u e=>Xg _ e) (XD _) ?_,rfl,q _ hf⟩
 exact⟨z,us,r,⟨_,XJ _ rfl,rfl,_,rfl⟩⟩
theorem Zsf(h:PA X es t):PE X (.List es pos) (Yap t):=by
 intro pins s σ H Q I hq
 refine wpAny_List_spliced (thn (h pos pins s σ H _ I hq) λus s1 ⟨xs,H1,I1,r,z,q⟩=>⟨by rw[←r.length];exact z,?_⟩)
 have hf:H1 s1.heap.objs.size=none:=I1.hok.fresh (XD _)
 refine⟨.ref s1.heap.objs.size,upd H1 s1.heap.objs.size (.lst xs),I1.laid (t':=s1.toks) (λb u e=>Xg _ e) (XD _) ?_,rfl,q _ hf⟩
 exact⟨z,us,0,r,XJ _ rfl⟩
end
noncomputable abbrev Sp:=List V->Hp->VK->XK->Prop
noncomputable abbrev CXT:=List Env->Hp->Xf->XK->Xc->Xf->Prop
structure Z4h(P:X4)(w:Qm)(K:Xd)(mg:Str->Option Xc)(base:Heap)(A:Qn)(outer:List Env)(s:Xf)(H:Hp):Prop where
 frames:A.frames=some outer
 mod:Mod K mg base
 bs:∀b o,base.get? b=some o->s.heap.get? b=some o∧H b=none
 bsz:base.objs.size≤s.heap.objs.size
 funs:s.heap.FunFrames base outer
 frf:∀b∈frs outer,H b=none
 hok:HOk P w H s.heap
 bare:AllBare s.gens
noncomputable def CE(outer:List Env)(P:X4)(w:Qm)(H:Hp)(s:Xf)(Q:VK)(u:Xc)(s':Xf):Prop :=
 ∃v H',s'.os=s.os∧AllBare s'.gens∧Un (frs outer) [] H H' s.heap s'.heap∧HOk P w H' s'.heap∧RelV v u∧Q v H'
noncomputable def CR(CX:CXT)(outer:List Env)(P:X4)(w:Qm)(H:Hp)(s:Xf)(Q:VK)(E:XK)(r:Result)(s':Xf):Prop :=
 match r with
 | .ok (.ret u)=>CE outer P w H s Q u s'
 | .ok _=>False
 | .error e=>CX outer H s E e s'
structure FnOk(P:X4)(w:Qm)(K:Xd)(mg:Str->Option Xc)(base:Heap)(CX:CXT)(k:Nat)(f:Addr)(fd:QD)(ps:List Str)(sp:Sp):Prop where
 len:∀vs H Q E,sp vs H Q E->vs.length=ps.length
 run:∀(A:Qn) (outer:List Env) (s:Xf) (H:Hp) (args:Args) (us:List Xc) (vs:List V) (Q:VK) (E:XK),Room k A->Z4h P w K mg base A outer s H->BindsTo s fd args (ps.zip us)->Vals vs us->sp vs H Q E ->
  U0 (X5 P w) A (.call (.ref f) args) (CR CX outer P w H s Q E) s
theorem FnOk.imp{P:X4}{w:Qm}{K:Xd}{mg:Str->Option Xc}{base:Heap}{CX:CXT}{k:Nat}{f:Addr}{fd:QD}{ps:List Str}{sp sp':Sp}(F:FnOk P w K mg base CX k f fd ps sp)
  (h:∀vs H Q E,sp' vs H Q E->sp vs H Q E):FnOk P w K mg base CX k f fd ps sp' :=
 ⟨λvs H Q E q=>F.len vs H Q E (h _ _ _ _ q),λA outer s H args us vs Q E hr he hb hv hs=>F.run A outer s H args us vs Q E hr he hb hv (h _ _ _ _ hs)⟩
section
variable {X:Cx}{pins:List (Addr×Obj)}{σ:St}{H:Hp}{s s':Xf}
theorem Inv.env0(I:Inv X pins σ H s):Z4h X.prog X.w X.K X.mg X.base X.A X.stack s H :=
 ⟨I.ok.frames,I.ok.mod,I.bs,Qs I.ok.bsz I.sz,I.stack,I.stkFree,I.hok,I.bare⟩
theorem Inv.after{Q:VK}{u:Xc}(I:Inv X pins σ H s)(h:CE X.stack X.prog X.w H s Q u s'):EP X pins σ Q u s':=by
 obtain⟨v,H',os,bare,un,hok,r,q⟩:=h
 obtain⟨hh,g,d,t,os'⟩:=s'
 obtain rfl:os'=s.os:=os
 exact⟨v,H',I.call (h':=hh) (g':=g) (d':=d) (t':=t) (ch:=[]) un hok bare (λb z=>absurd z (by simp)),r,q⟩
end
noncomputable def Zyu(sp:Sp)(dvs:List V)(E:XK)(t:TA):TE:=λσ H Q=>t σ H λvs H1=>sp (vs ++ dvs) H1 Q E
noncomputable def Binds(K:Xd)(fd:QD)(ps:List Str)(ds:List Xc):Prop :=
 ∀(s:Xf) (us:List Xc),K.In s.heap->(us ++ ds).length=ps.length->BindsTo s fd ⟨us,[]⟩ (ps.zip (us ++ ds))
theorem Binds.all{K:Xd}{fd:QD}{ps:List Str}(h:∀us:List Xc,us.length=ps.length->bindArgs fd ⟨us,[]⟩=pure (ps.zip us)):Binds K fd ps []:=λs us _ hl=>by
 rw[Qt]at hl⊢
 exact .of_eq (h us hl)
noncomputable def Zjz(CX:CXT)(X:Cx)(E:XK):Prop:=∀(pins:List (Addr×Obj)) (σ:St) (H:Hp) (s:Xf) (e:Xc) (s':Xf),Inv X pins σ H s->CX X.stack H s E e s'->X.xe e s'
section
variable {X:Cx}{CX:CXT}{k:Nat}{f C:Addr}{fd:QD}{ps:List Str}{sp:Sp}{dvs:List V}{ds:List Xc}{E:XK}{x m:Str}{p pos apos:Pos}{e o:Expr}{es:List Expr}{ta:TE}{t:TA}
theorem Zz2{pins:List (Addr×Obj)}{σ:St}{H:Hp}{s:Xf}{Q:VK}{us:List Xc}{vs:List V}(F:FnOk X.prog X.w X.K X.mg X.base CX k f fd ps sp)(hr:Room k X.A)(hb:Binds X.K fd ps ds)(hd:Vals dvs ds)(hx:Zjz CX X E)
  (I:Inv X pins σ H s) (r:Vals vs us) (h:sp (vs ++ dvs) H Q E):Xx (X5 X.prog X.w) X.A (call (.ref f) us) (EP X pins σ Q) X.xe s:=by
 have r2:Vals (vs ++ dvs) (us ++ ds):=r.append hd
 have hl:(us ++ ds).length=ps.length:=by rw[←r2.length];exact F.len _ _ _ _ h
 refine wpAny_call (codeAny_mono (F.run X.A X.stack s H ⟨us,[]⟩ (us ++ ds) (vs ++ dvs) Q E hr I.env0 (hb s us I.kIn hl) r2 h) λr s' hq=>?_)
 cases r with
 | error e=>exact hx pins σ H s e s' I hq
 | ok fl=>
  cases fl with
  | ret u=>exact I.after hq
  | next=>exact Vc hq
  | brk=>exact Vc hq
  | cont=>exact Vc hq
theorem Ztw(F:FnOk X.prog X.w X.K X.mg X.base CX k f fd ps sp)(hr:Room k X.A)(hg:Gl X x)(hm:X.mg x=some (.ref f))(hk:Qu X.K (.ref f)=true)(hb:Binds X.K fd ps ds)(hd:Vals dvs ds)(hx:Zjz CX X E)
  (ha:PA X (e :: es) t) (hdb:(x==("__debug__" : Str))=false:=by decide) (he:Xv (e :: es) X.env=(false,eval e X.env) :: Xv es X.env:=by rfl) (hpl:(Bf pos (Xv es X.env)).any (·.1)=false:=by rfl) :
  PE X (.Call (.Name x p) (e :: es) [] pos) (Zyu sp dvs E t):=by
 intro pins s σ H Q I h
 refine Vk (Zfw I hg hm ?_ hdb)
 refine PySem.W.callWith_K (h₀:=X.base) I.ok.mod.kin hk (thn (ha pos pins s σ H _ I h) λus s1 qz9=>?_) he hpl
 obtain⟨vs,H1,I1,r,q⟩:=qz9
 refine⟨I1.kIn,?_⟩
 exact Zz2 F hr hb hd hx I1 r q
structure Mk(K:Xd)(C f:Addr):Prop where
 makes:PySem.W.makesIn K C=true
 init:JC K (.ref C) "__init__"=some (some (.ref f))
 fn:PySem.W.isFn K (.ref f)=true
 kp:Qu K (.ref C)=true
end
section
variable {X:Cx}{CX:CXT}{k:Nat}{f C:Addr}{fd:QD}{ps ks:List Str}{sp:Sp}{E:XK}{x m:Str}{p pos apos kpos:Pos}{e o:Expr}{es:List Expr}{kws:List V7}{te ta:TE}{t tk:TA}{nm:Option Str}
structure Z8s(K:Xd)(fd:QD)(ps ks:List Str)(g:List Xc->List Xc->List Xc)(gV:List V->List V->List V):Prop where
 to:∀(s:Xf) (us ws:List Xc),K.In s.heap->(g us ws).length=ps.length->BindsTo s fd ⟨us,ks.zip ws⟩ (ps.zip (g us ws))
 rel:∀{vs:List V} {us:List Xc} {zs:List V} {ws:List Xc},Vals vs us->Vals zs ws->Vals (gV vs zs) (g us ws)
variable {g:List Xc->List Xc->List Xc}{gV:List V->List V->List V}
end
structure Yc(N P:List Str)(sc:Scope):Prop where
 kind:sc.kind= .function
 co:sc.isCoroutine=false
 gen:sc.isGenerator=false
 nd:N.Nodup
 pre:N.take P.length=P
 par:∀x∈P,sc.names.lookup x=some .local∨sc.names.lookup x=some .cell
 nofree:∀y∈sc.names,y.2≠ .free
theorem Zgu{kindOf:Str->Option BP}{x:Str}:∀{binds:List (Str×Xc)} {m:Str->Option Xc},(∀v,(x,v)∉binds)->bindL kindOf binds m x=m x
 | [],_,_=>rfl
 | (n,v) :: r,m,h=>by
  unfold bindL
  rw[Zgu λw hw=>h w (Ux _ hw)]
  split
  ·have:x≠n:=by rintro rfl;exact h v U9
   simp[this]
  ·rfl
theorem Zg2{kindOf:Str->Option BP}{x:Str}:∀{binds:List (Str×Xc)} {m:Str->Option Xc},(∀v,(x,v)∉binds)->bindC kindOf binds m x=m x
 | [],_,_=>rfl
 | (n,v) :: r,m,h=>by
  unfold bindC
  rw[Zg2 λw hw=>h w (Ux _ hw)]
  split
  ·rfl
  ·have:x≠n:=by rintro rfl;exact h v U9
   simp[this]
theorem Zhb{kindOf:Str->Option BP}{x:Str}{v:Xc}:∀{P:List Str} {vs:List Xc} {i:Nat} {m:Str->Option Xc},P.Nodup->P[i]? =some x->vs[i]? =some v->kindOf x=some .local ->
  bindL kindOf (P.zip vs) m x=some v
 | [],_,_,_,_,h,_,_=>by simp at h
 | _ :: _,[],_,_,_,_,h,_=>by simp at h
 | p :: P,w :: vs,0,m,nd,h1,h2,hk=>by
  simp at h1 h2;subst h1;subst h2
  show bindL kindOf ((p,w) :: P.zip vs) m p=_
  unfold bindL
  rw[Zgu λv hv=>(Qk.mp nd).1 (List.of_mem_zip hv).1,if_pos hk]
  simp
 | p :: P,w :: vs,i+1,m,nd,h1,h2,hk=>by
  show bindL kindOf ((p,w) :: P.zip vs) m x=_
  unfold bindL
  exact Zhb (i:=i) (Qk.mp nd).2 (by simpa using h1) (by simpa using h2) hk
theorem Zhf{kindOf:Str->Option BP}{x:Str}{v:Xc}:∀{P:List Str} {vs:List Xc} {i:Nat} {m:Str->Option Xc},P.Nodup->P[i]? =some x->vs[i]? =some v->kindOf x≠some .local ->
  bindC kindOf (P.zip vs) m x=some v
 | [],_,_,_,_,h,_,_=>by simp at h
 | _ :: _,[],_,_,_,_,h,_=>by simp at h
 | p :: P,w :: vs,0,m,nd,h1,h2,hk=>by
  simp at h1 h2;subst h1;subst h2
  show bindC kindOf ((p,w) :: P.zip vs) m p=_
  unfold bindC
  rw[Zg2 λv hv=>(Qk.mp nd).1 (List.of_mem_zip hv).1,if_neg hk]
  simp
 | p :: P,w :: vs,i+1,m,nd,h1,h2,hk=>by
  show bindC kindOf ((p,w) :: P.zip vs) m x=_
  unfold bindC
  exact Zhf (i:=i) (Qk.mp nd).2 (by simpa using h1) (by simpa using h2) hk
noncomputable def start(N:List Str)(vs:List V):St:=vs.map some ++ Qi (N.length-vs.length) none
noncomputable def Zpe(CX:CXT)(P:X4)(w:Qm)(K:Xd)(mg:Str->Option Xc)(base:Heap)(N:List Str)(qual:Str)(scope:Scope)(f:Addr)(cd:Xc)(A:Qn)(outer:List Env)(s:Xf)(H:Hp)(E:XK):Cx where
 prog:=P
 w:=w
 K:=K
 mg:=mg
 base:=base
 A:=A.deeper (envOfC qual scope s.heap.objs.size f cd)
 N:=N
 s₀:=s
 H₀:=H
 env:=envOfC qual scope s.heap.objs.size f cd
 outer:=outer
 stack:=envOfC qual scope s.heap.objs.size f cd :: outer
 ex:=[]
 calm:=true
 fn:=λ_=>true
 pn:=[]
 xe:=λe s'=>Xx (X5 P w) (A.deeper (envOfC qual scope s.heap.objs.size f cd)) (leaving (envOfC qual scope s.heap.objs.size f cd) e) (λ_ s''=>CX outer H s E e s'') (λe' s''=>CX outer H s E e' s'') s'
theorem Zjw{sc:Scope}{n:Nat}{x:Str}(h:sc.names.lookup x=some .cell):∃c,(Bm n sc.names []).lookup x=some c:=by
 have q:=PySem.W.cellsFrom_some sc.names n [] (.inl h)
 exact Option.isSome_iff_exists.mp q
theorem Zoo{CX:CXT}{P:X4}{w:Qm}{K:Xd}{mg:Str->Option Xc}{base:Heap}{N ps:List Str}{qual:Str}{scope:Scope}{f:Addr}{cd:Xc}{A:Qn}{outer:List Env}{s s1:Xf}{H:Hp}{E:XK}{us:List Xc}{vs:List V}
  (S:Yc N ps scope) (hd:A.handled=none) (e0:Z4h P w K mg base A outer s H) (hl:vs.length=ps.length) (r:Vals vs us)
  (x:InCallC s s.heap.objs.size (bindL (envOfC qual scope s.heap.objs.size f cd).kindOf (ps.zip us) λ_=>none) (Bm (s.heap.objs.size+1) scope.names []) (bindC (envOfC qual scope s.heap.objs.size f cd).kindOf (ps.zip us) λ_=>none) s1) :
  Inv (Zpe CX P w K mg base N qual scope f cd A outer s H E) [] (start N vs) H s1:=by
 have hpl:ps.length≤N.length:=by have:=congrArg List.length S.pre;rw[Va]at this;omega
 obtain⟨h1,tk,rfl,hk⟩:=x.done
 have noA:∀b:Addr,b∉(Zpe CX P w K mg base N qual scope f cd A outer s H E).ex:=λb z=>absurd (show b∈([]:List Addr)from z) (by simp)
 refine⟨⟨e0.mod,S.kind,rfl,rfl,XD _,λy z c h1 h2=>?_,λy hy=>?_,λy c _ h=>?_,λ_=>hd,Qn.frames_deeper e0.frames,.inr ⟨rfl,rfl⟩,λb z=>absurd z (noA b),e0.bs,e0.bsz,λb _ _=>noA b,λb z=>absurd z (noA b),e0.funs,e0.frf⟩,
  rfl,e0.bare,Un.kept hk,⟨_,x.toInCall.ns,λi y v h1 h2 h3=>?_⟩,λy c h=>⟨_,x.cell y c h⟩,e0.hok.fresh (XD _),λy c h=>?_,λp hp=>absurd (show p∈([]:List (Addr×Obj))from hp) (by simp),e0.hok.kept hk,?_⟩
 ·exact name_of_addr x.apart (Bj h1) (Bj h2)
 ·have hy:scope.names.lookup y=some .cell∨scope.names.lookup y=some .free:=hy
  rcases hy with hy|hy
  ·exact Zjw hy
  ·exact absurd rfl (S.nofree _ (Bj hy))
 ·exact Bu (x.above y c (Bj h))
 ·have hi:i<vs.length:=by
   unfold start at h2
   by_cases hi:i<vs.length
   ·exact hi
   ·rw[JL (by simpa using hi)]at h2
    rw[List.getElem?_replicate]at h2
    split at h2<;>cases h2
  have ha:vs[i]? =some v:=by
   unfold start at h2
   rw[Vj (by simpa using hi),Xj]at h2
   cases e:vs[i]? with
   | none=>rw[e]at h2;cases h2
   | some a=>rw[e]at h2;cases h2;rfl
  obtain⟨u,hu,rv⟩:=r.get ha
  have hp:ps[i]? =some y:=by
   rw[←S.pre,List.getElem?_take_of_lt (by omega)];exact h1
  have ndP:ps.Nodup:=by rw[←S.pre];exact S.nd.sublist (List.take_sublist _ _)
  refine⟨u,rv,?_⟩
  rcases S.par y (X8 hp)with k|k
  ·exact .inl ⟨k,Zhb ndP hp hu k⟩
  ·obtain⟨c,e⟩:=Zjw (n:=s.heap.objs.size+1) k
   refine .inr ⟨.inl k,c,e,?_⟩
   have q:=x.cell y c e
   rw[Zhf ndP hp hu (by show scope.names.lookup y≠_;rw[k];decide)]at q
   exact q
 ·exact e0.hok.fresh (Bu (x.above y c (Bj h)))
 ·unfold start
  show _=N.length
  rw[X6,Xe,VB]
  omega
theorem Zzo{CX:CXT}{P:X4}{w:Qm}{K:Xd}{mg:Str->Option Xc}{base:Heap}{k:Nat}{f:Addr}{name qual:Str}{params:Arguments}{body:List Stmt}{scope:Scope}{dV kV doc pm cdv ct oc:Xc}{an od:Option Addr}
  {osl:Array (Option Xc)} {N ps:List Str} {sp:Sp} (lk:K.lookup f=some ⟨oc,od,.func (QJ name qual params body scope dV kV doc pm an cdv ct),osl⟩) (hcd:QT K cdv qual=true) (S:Yc N ps scope)
  (len:∀vs H Q E,sp vs H Q E->vs.length=ps.length)
  (hbody:∀(A:Qn) (outer:List Env) (s:Xf) (H:Hp) (vs:List V) (Q:VK) (E:XK),Room k (A.deeper (envOfC qual scope s.heap.objs.size f cdv))->sp vs H Q E ->
   ∃t,PSs (Zpe CX P w K mg base N qual scope f cdv A outer s H E) body t∧t { nx:=λ_ H'=>Q .non H',rt:=Q } (start N vs) H) :
  FnOk P w K mg base CX (k+1) f (QJ name qual params body scope dV kV doc pm an cdv ct) ps sp:=by
 refine⟨len,λA outer s H args us vs Q E hr e0 hb r hsp=>?_⟩
 have hl:=len _ _ _ _ hsp
 have KX:K.In s.heap:=e0.mod.kin.keeps λb o e=>(e0.bs b o e).1
 have lim:s.heap.NoLimit:=e0.mod.nolimit.keeps λb o e=>(e0.bs b o e).1
 have hkind:∀y∈ps.zip us,scope.names.lookup y.1=some .local∨(scope.names.lookup y.1=some .cell∧((Bm (s.heap.objs.size+1) scope.names []).lookup y.1).isSome=true):=λ⟨n,v⟩ hy=>by
  rcases S.par n (List.of_mem_zip hy).1 with q|q
  ·exact .inl q
  ·exact .inr ⟨q,PySem.W.cellsFrom_some _ _ _ (.inl q)⟩
 refine codeAny_call_function hr.depth (KX _ _ lk) rfl S.co S.gen rfl (PySem.W.codeRec_of KX hcd) (hb _ _ _ _ ?_)
 refine wpAny_newFunctionEnv_cells S.kind hkind λenv he s1 x=>?_
 subst he
 refine⟨lim.keeps x.toInCall.keep,codeAny_func ?_⟩
 obtain⟨t,ht,hq⟩:=hbody A outer s H vs Q E (hr.deeper _) hsp
 have I:Inv (Zpe CX P w K mg base N qual scope f cdv A outer s H E) [] (start N vs) H s1:=Zoo S hr.hd e0 hl r x
 refine QC (ht [] s1 (start N vs) H _ I hq) (λfl s' hs=>?_) λe s' hs=>hs
 have fin:∀{σ':St} {H':Hp} {v:V} {u:Xc},Inv (Zpe CX P w K mg base N qual scope f cdv A outer s H E) [] σ' H' s'->RelV v u->Q v H'->CE outer P w H s Q u s' :=
  fun{σ' H' v u} J rv q=>⟨v,H',J.os,J.bare,J.base,J.hok,rv,q⟩
 cases fl with
 | ret u=>
  obtain⟨v,σ',H',J,rv,q⟩:=hs
  exact fin J rv q
 | next=>
  obtain⟨σ',H',J,q⟩:=hs
  exact fin (v:=V.non) (u:=QK) J rfl q
 | brk=>
  obtain⟨_,_,_,q⟩:=hs
  exact Vc q
 | cont=>
  obtain⟨_,_,_,q⟩:=hs
  exact Vc q
section
variable {X:Cx}{x:Str}{p pos:Pos}{e:Expr}{es:List Expr}{t:TA}{id T:String}{r:List V->Hp->VK->Prop}
noncomputable def tCB(r:List V->Hp->VK->Prop)(t:TA):TE:=λσ H Q=>t σ H λvs H1=>r vs H1 Q
theorem Zjs(hc:Zbu X (.builtin id) r)(hg:Gl X x)(hm:X.mg x=none)(hv:Qo x=some (.builtin id))(ha:PA X (e :: es) t)(hn:x≠"__name__" :=by decide)(hdb:(x==("__debug__" : Str))=false:=by decide)
  (he:Xv (e :: es) X.env=(false,eval e X.env) :: Xv es X.env:=by rfl) (hpl:(Bf pos (Xv es X.env)).any (·.1)=false:=by rfl):PE X (.Call (.Name x p) (e :: es) [] pos) (tCB r t):=by
 intro pins s σ H Q I h
 refine Vk (Zcj I hg hm hv ?_ hn hdb)
 refine PyProof.Rows.callWith_builtin1 (thn (ha pos pins s σ H _ I h) λus s1 qz9=>?_) he hpl
 obtain⟨vs,H1,I1,r1,q1⟩:=qz9
 exact hc pins s1 σ H1 vs us Q I1 r1 q1
theorem Zod(hc:Zbu X (.type T) r)(hg:Gl X x)(hm:X.mg x=none)(hv:Qo x=some (.type T))(ha:PA X (e :: es) t)(hn:x≠"__name__" :=by decide)(hdb:(x==("__debug__" : Str))=false:=by decide)
  (he:Xv (e :: es) X.env=(false,eval e X.env) :: Xv es X.env:=by rfl) (hpl:(Bf pos (Xv es X.env)).any (·.1)=false:=by rfl):PE X (.Call (.Name x p) (e :: es) [] pos) (tCB r t):=by
 intro pins s σ H Q I h
 refine Vk (Zcj I hg hm hv ?_ hn hdb)
 refine Bw (thn (ha pos pins s σ H _ I h) λus s1 qz9=>?_) he hpl
 obtain⟨vs,H1,I1,r1,q1⟩:=qz9
 exact hc pins s1 σ H1 vs us Q I1 r1 q1
end
end L2
namespace HT
open PySem PyProof.Rows
section
open PySem.SeqAt
open PySem.AutoSeq1 (wpAny_loadPart')
open PySem.MeetsSeq PySem.MeetsSeq2 PySem.MeetsSeq3
end
section
variable {prog:X4}{w:Qm}{A:Qn}{E:Xc->Xf->Prop}{s:Xf}
noncomputable def sIx(n d:Nat):Option Int->Nat
 | none=>d
 | some v=>if v<0 then(v+(n:Int)).toNat else min v.toNat n
theorem sIx_none(n d:Nat):sIx n d none=d:=rfl
theorem sIx_nat(n d k:Nat):sIx n d (some (k:Int))=min k n:=by
 show(if(k:Int)<0 then((k:Int)+(n:Int)).toNat else min (k:Int).toNat n)=min k n
 rw[if_neg (by omega),BK]
end
end HT
namespace L2
open PySem PySem.Spec PyProof.Rows
noncomputable abbrev TO:=St->Hp->(Option Int->Hp->Prop)->Prop
noncomputable def PO(X:Cx)(e:Option Expr)(t:TO):Prop :=
 ∀(pins:List (Addr×Obj)) (s:Xf) (σ:St) (H:Hp) (Q:Option Int->Hp->Prop),Inv X pins σ H s->t σ H Q ->
  Xx (X5 X.prog X.w) X.A (evalPart e X.env) (λu s'=>∃o H',Inv X pins σ H' s'∧IsPart u o∧Q o H') X.xe s
noncomputable def Zui:TO:=λ_ H Q=>Q none H
noncomputable def Z6e(t:TE):TO:=λσ H Q=>t σ H λx H1=>∃i,x= .int i∧Q (some i) H1
section
variable {X:Cx}{e:Expr}{te:TE}{lo hi:Option Expr}{tl th:TO}{pos p2:Pos}
theorem Zur:PO X none Zui:=by
 intro pins s σ H Q I h
 rw[evalPart_none]
 exact Xk ⟨none,H,I,.none,h⟩
theorem Zv4(h:PE X e te):PO X (some e) (Z6e te):=by
 intro pins s σ H Q I hw
 rw[evalPart_some]
 refine thn (h pins s σ H _ I hw) λu s1 qz9=>?_
 obtain⟨x,H1,I1,r1,q1⟩:=qz9
 obtain⟨i,rfl,q⟩:=q1
 obtain⟨t,rfl⟩:=r1
 exact⟨some i,H1,I1,.int i t,q⟩
noncomputable def SlR(X:Cx)(r:V->Option Int->Option Int->Hp->VK->Prop):Prop :=
 ∀(pins:List (Addr×Obj)) (s:Xf) (σ:St) (H:Hp) (x:V) (v vl vu:Xc) (lo hi:Option Int) (sl:Addr) (Q:VK),Inv X pins σ H s->RelV x v->s.heap.IsSliceOf sl vl vu .none->IsPart vl lo->IsPart vu hi->r x lo hi H Q ->
  ∃T id,typeLookup (.type T) "__getitem__"=pure (some (.builtin id))∧s.TypeIs v T∧Xx (X5 X.prog X.w) X.A (getItem v (.ref sl)) (EP X pins σ Q) X.xe s
noncomputable def tSl(r:V->Option Int->Option Int->Hp->VK->Prop)(te:TE)(tl th:TO):TE:=λσ H Q=>te σ H λx H1=>tl σ H1 λl H2=>th σ H2 λu H3=>r x l u H3 Q
theorem Zqs{r:V->Option Int->Option Int->Hp->VK->Prop}(hr:SlR X r)(he:PE X e te)(hl:PO X lo tl)(hu:PO X hi th):PE X (.Subscript e (.Slice lo hi none p2) pos) (tSl r te tl th):=by
 intro pins s σ H Q I h
 refine Subscript_ (thn (he pins s σ H _ I h) λv s1 qz9=>?_)
 obtain⟨x,H1,I1,r1,q1⟩:=qz9
 refine wpAny_Slice (thn (hl pins s1 σ H1 _ I1 q1) λvl s2 qz9=>?_)
 obtain⟨l,H2,I2,pl,q2⟩:=qz9
 refine thn (hu pins s2 σ H2 _ I2 q2) λvu s3 qz9=>?_
 obtain⟨u,H3,I3,pu,q3⟩:=qz9
 rw[evalPart_none]
 refine Xk ?_
 have I4:Inv X pins σ H3 { s3 with heap:=s3.heap.push { cls:=.type "slice",data:=.fields #[vl,vu,.none] } }:=I3.kept (t':=s3.toks) λb ob q=>Xg _ q
 obtain⟨T,id,hT,ht,hg⟩:=hr pins { s3 with heap:=s3.heap.push { cls:=.type "slice",data:=.fields #[vl,vu,.none] } } σ H3 x v vl vu l u s3.heap.objs.size Q I4 r1 (Heap.IsSliceOf.new ..) pl pu q3
 show Xx (X5 X.prog X.w) X.A (subscriptTail e (.Slice lo hi none p2) v (.ref s3.heap.objs.size)) (EP X pins σ Q) X.xe { s3 with heap:=s3.heap.push { cls:=.type "slice",data:=.fields #[vl,vu,.none] } }
 exact tail_any (ops:=[.ref s3.heap.objs.size,v]) ht hT hg (by with_unfolding_all rfl)
noncomputable def Zyg(xs:List V)(lo hi:Option Int):List V:=(xs.drop (HT.sIx xs.length 0 lo)).take (HT.sIx xs.length xs.length hi-HT.sIx xs.length 0 lo)
theorem Zhm(xs:List V)(lo hi:Option Int):(Zyg xs lo hi).length≤xs.length:=by
 unfold Zyg
 rw[Va,VR]
 omega
end
noncomputable def ixN(n:Nat)(i:Int):Option Nat:=if 0≤i then(if i<n then some i.toNat else none)else if -(n:Int)≤i then some (i+n).toNat else none
noncomputable def atI{α:Type}(xs:List α)(i:Int):Option α:=(ixN xs.length i).bind λj=>xs[j]?
theorem Zhl{n:Nat}{i:Int}{j:Nat}(h:ixN n i=some j):seqIndex? i n=some j∧j<n∧-(n:Int)≤i∧i<n:=by
 unfold ixN at h
 by_cases h0:0≤i
 ·rw[if_pos h0]at h
  by_cases h1:i<n
  ·rw[if_pos h1]at h
   have e:i.toNat=j:=QB h
   exact⟨by rw[seqIndex_of h0 h1,e],by omega,by omega,h1⟩
  ·rw[if_neg h1]at h;cases h
 ·rw[if_neg h0]at h
  by_cases h1:-(n:Int)≤i
  ·rw[if_pos h1]at h
   have e:(i+n).toNat=j:=QB h
   exact⟨by rw[seqIndex_neg (by omega) h1,e],by omega,h1,by omega⟩
  ·rw[if_neg h1]at h;cases h
theorem Zhk{α:Type}{xs:List α}{i:Int}{v:α}(h:atI xs i=some v):∃j,seqIndex? i xs.length=some j∧xs[j]? =some v∧j<xs.length∧-(xs.length:Int)≤i∧i<xs.length:=by
 unfold atI at h
 cases e:ixN xs.length i with
 | none=>rw[e]at h;cases h
 | some j=>
  rw[e]at h
  obtain⟨h1,h2,h3,h4⟩:=Zhl e
  exact⟨j,h1,h,h2,h3,h4⟩
theorem Zb8{α:Type}{xs:List α}{j:Nat}{v:α}(h:xs[j]? =some v):atI xs (j:Int)=some v:=by
 have hj:j<xs.length:=(Xi.mp h).1
 have e:ixN xs.length (j:Int)=some j:=by
  unfold ixN
  rw[if_pos (by omega),if_pos (by omega)];simp
 unfold atI;rw[e];exact h
theorem Zrz{α:Type}(xs:List α)(v:α):atI (xs ++ [v]) (-1)=some v:=by
 have hl:(xs ++ [v]).length=xs.length+1:=by simp
 have e:ixN (xs ++ [v]).length (-1)=some xs.length:=by
  unfold ixN
  rw[hl,if_neg (by decide),if_pos (by omega)]
  congr 1
  omega
 unfold atI
 rw[e]
 show(xs ++ [v])[xs.length]? =some v
 simp
noncomputable def Zdo(b:Expr):Prop:=∀o i,subscripted b false o i=operate [o,i] (getItem o i)
noncomputable def IxR(X:Cx)(r:R2):Prop :=
 ∀(value slice:Expr) (pins:List (Addr×Obj)) (s:Xf) (σ:St) (H:Hp) (x y:V) (v u:Xc) (Q:VK),Inv X pins σ H s->RelV x v->RelV y u->r x y H Q ->
  subscripted slice false v u=operate [v,u] (getItem v u)->Xx (X5 X.prog X.w) X.A (subscriptTail value slice v u) (EP X pins σ Q) X.xe s
noncomputable def MtR(X:Cx)(id:String)(r:V->List V->Hp->VK->Prop):Prop :=
 ∀(pins:List (Addr×Obj)) (s:Xf) (σ:St) (H:Hp) (x:V) (xs:List V) (v:Xc) (us:List Xc) (Q:VK),Inv X pins σ H s->RelV x v->Vals xs us->r x xs H Q ->
  Xx (X5 X.prog X.w) X.A (call (.builtin id) (v :: us)) (EP X pins σ Q) X.xe s
section
variable {X:Cx}{a b:Expr}{ta tb:TE}{pos:Pos}
theorem IxR.or{r r':R2}(h:IxR X r)(h':IxR X r'):IxR X (λx y H Q=>r x y H Q∨r' x y H Q):=by
 intro value slice pins s σ H x y v u Q I rx ry q hs
 rcases q with q|q
 ·exact h value slice pins s σ H x y v u Q I rx ry q hs
 ·exact h' value slice pins s σ H x y v u Q I rx ry q hs
theorem Zwm{r:R2}(hr:IxR X r)(ha:PE X a ta)(hb:PE X b tb)(hs:Zdo b):PE X (.Subscript a b pos) (tOp r ta tb):=by
 intro pins s σ H Q I h
 exact Subscript_ (Z4z ha hb I h λv u s2 x y H2 I2 rx ry q=>hr a b pins s2 σ H2 x y v u Q I2 rx ry q (hs _ _))
noncomputable def Z71(K:Xd):R2:=λx y H Q=>∃p xs i v,x= .ref p∧y= .int i∧SqL K H p xs∧atI xs i=some v∧Q v H
noncomputable def Z92(K:Xd):R2:=λx y H Q=>∃p xs i v,x= .ref p∧y= .int i∧SqT K H p xs∧atI xs i=some v∧Q v H
noncomputable def Z90:R2:=λx y H Q=>∃z i c,x= .str z∧y= .int i∧z.length≤Xr∧atI z.cps.toList i=some c∧Q (.str ⟨#[c]⟩) H
theorem Zo2:IxR X (Z71 X.K):=by
 intro value slice pins s σ H x y v u Q I rx ry h hs
 obtain⟨p,xs,i,z,rfl,rfl,hq,he,q⟩:=h
 cases rx
 obtain⟨t,rfl⟩:=ry
 obtain⟨its,r,pl,hz⟩:=I.list hq
 obtain⟨j,h1,h2,h3,h4,h5⟩:=Zhk he
 obtain⟨w,ew,rw'⟩:=r.get h2
 have hl:=r.length
 have hn:=Ze8
 have fin:EP X pins σ Q w s:=⟨z,H,I,rw',q⟩
 by_cases h0:0≤i
 ·have hj:i.toNat=j:=by
   rw[seqIndex_of h0 h5]at h1
   exact QB h1
  exact item_listR pl.isList h0 (by omega) (by rw[hj];simpa using ew) fin hs
 ·have hj:(i+(its.toArray.size:Int)).toNat=j:=by
   rw[seqIndex_neg (by omega) h4]at h1
   rw[XF,←hl]
   exact QB h1
  exact subscriptTail_builtinR (x:=w) pl.isList.typeIs slot_list_getitem.lookup
   (wpAny_getItem_list_neg (Q:=λr s'=>r=w∧EP X pins σ Q r s') pl.isList (by omega) (by rw[XF]<;>omega) (by omega) (by rw[hj];simpa using ew) ⟨rfl,fin⟩) hs
theorem Zze:IxR X (Z92 X.K):=by
 intro value slice pins s σ H x y v u Q I rx ry h hs
 obtain⟨p,xs,i,z,rfl,rfl,hq,he,q⟩:=h
 cases rx
 obtain⟨t,rfl⟩:=ry
 obtain⟨its,r,pl,hz⟩:=I.tuple hq
 obtain⟨j,h1,h2,h3,h4,h5⟩:=Zhk he
 obtain⟨w,ew,rw'⟩:=r.get h2
 have hl:=r.length
 have hn:=Ze8
 have fin:EP X pins σ Q w s:=⟨z,H,I,rw',q⟩
 exact subscriptTail_builtinR (x:=w) pl.typeIs slot_tuple_getitem.lookup
  (getItem_tuple (j:=j) (Q:=λr s'=>r=w∧EP X pins σ Q r s') pl (by omega) (by omega) (by rw[XF,←hl];exact h1) (by simpa using ew) ⟨rfl,fin⟩) hs
theorem Zy0:IxR X Z90:=by
 intro value slice pins s σ H x y v u Q I rx ry h hs
 obtain⟨z,i,c,rfl,rfl,hz,he,q⟩:=h
 obtain⟨t,rfl⟩:=rx
 obtain⟨t',rfl⟩:=ry
 obtain⟨j,h1,h2,h3,h4,h5⟩:=Zhk he
 have hl:z.cps.toList.length=z.length:=by simp[Str.length]
 rw[hl]at h1 h4 h5
 have hn:=Ze8
 exact tail_any (typeIs_str s z t) slot_str_getitem.lookup (getItem_str (c:=c) (by
  have e1:decide (i< -(2^63:Int))=false:=decide_eq_false (by omega)
  have e2:decide (i≥2^63)=false:=decide_eq_false (by omega)
  rw[e1,e2,Bool.or_false]) (by rw[h1];simpa using h2) ⟨.str ⟨#[c]⟩,H,I.tok _,⟨_,rfl⟩,q⟩) hs
noncomputable def rIx(K:Xd):R2:=λx y H Q=>Z71 K x y H Q∨Z92 K x y H Q∨Z90 x y H Q
theorem Zz8:IxR X (rIx X.K):=Zo2.or (Zze.or Zy0)
theorem Zkn(its:List Xc)(n j:Nat)(u:Xc):Vr (·.setIfInBounds j u) { cls:=.type "list",data:=.seq its.toArray n }={ cls:=.type "list",data:=.seq (its.set j u).toArray n }:=by
 simp[Vr]
theorem Inv.lst{pins:List (Addr×Obj)}{σ:St}{H:Hp}{s:Xf}{p:Addr}{xs:List V}(I:Inv X pins σ H s)(h:H p=some (.lst xs)) :
  ∃(its:List Xc) (n:Nat),Vals xs its∧s.heap.get? p=some { cls:=.type "list",data:=.seq its.toArray n }∧xs.length≤Xr:=by
 obtain⟨z,its,n,r,e⟩:=I.hok p _ h
 exact⟨its,n,r,e,z⟩
theorem Inv.lstUpd{pins:List (Addr×Obj)}{σ:St}{H:Hp}{s:Xf}{p:Addr}{xs ys:List V}{its its':List Xc}{n n':Nat}{f:Obj->Obj}(I:Inv X pins σ H s)(h:H p=some (.lst xs))
  (ho:s.heap.get? p=some { cls:=.type "list",data:=.seq its.toArray n }) (hf:f { cls:=.type "list",data:=.seq its.toArray n }={ cls:=.type "list",data:=.seq its'.toArray n' }) (r:Vals ys its') (hz:ys.length≤Xr) (t:Nat) :
  Inv X pins σ (upd H p (.lst ys)) { s with heap:=s.heap.update p f,toks:=t }:=by
 have e:(s.heap.update p f).get? p=some { cls:=.type "list",data:=.seq its'.toArray n' }:=by
  rw[Uo f ho (by rw[hf]<;>rfl),hf]
 refine I.write (x:=p) (e:=p) (by rw[h];trivial) (.inl rfl) (λb u hb q=>(Heap.get?_update_other _ _ (BL hb)).trans q) ⟨_,e⟩ ?_
 exact⟨hz,its',n',r,e⟩
noncomputable def Zzk:V->V->V->Hp->(Hp->Prop)->Prop:=λo i v H Q=>∃p xs k j,o= .ref p∧i= .int k∧H p=some (.lst xs)∧ixN xs.length k=some j∧Q (upd H p (.lst (xs.set j v)))
theorem set_list:Z8o X Zzk:=by
 intro pins s σ H o i v ov iv u Q I ro ri rv h
 obtain⟨p,xs,k,j,rfl,rfl,hp,hj,q⟩:=h
 cases ro
 obtain⟨t,rfl⟩:=ri
 obtain⟨its,n,r,ho,hz⟩:=I.lst hp
 obtain⟨h1,h2,h3,h4⟩:=Zhl hj
 have hl:=r.length
 have hn:=Ze8
 have I':Inv X pins σ (upd H p (.lst (xs.set j v))) { s with heap:=s.heap.update p (Vr (·.setIfInBounds j u)) } :=
  I.lstUpd hp ho (Zkn its n j u) (r.set rv j) (by rw[Vl];exact hz) s.toks
 by_cases h0:0≤k
 ·have hk:k.toNat=j:=by
   rw[seqIndex_of h0 h4]at h1
   exact QB h1
  exact PySem.W.ki_setAt ho h0 (by omega) (by rw[XF,←hl];exact h4) (by rw[hk];exact⟨_,I',q⟩)
 ·have hk:(k+(its.toArray.size:Int)).toNat=j:=by
   rw[seqIndex_neg (by omega) h3]at h1
   rw[XF,←hl]
   exact QB h1
  exact PySem.W.ki_setBack ho (by omega) (by rw[XF,←hl];exact h3) (by omega) (by rw[hk];exact⟨_,I',q⟩)
theorem Zgq(lo hi:Option Int)(n:Nat):(Bq lo hi none n).1=((HT.sIx n 0 lo:Nat):Int)∧(Bq lo hi none n).2.1=((HT.sIx n n hi:Nat):Int)∧(Bq lo hi none n).2.2=1:=by
 refine⟨?_,?_,rfl⟩
 ·cases lo with
  | none=>simp[Bq,HT.sIx]
  | some i=>
   simp only[Bq,HT.sIx,Option.getD_none,show(1:Int)>0 by decide,if_true]
   by_cases h:i<0
   ·simp only[h,if_true]<;>omega
   ·simp only[h,if_false]<;>omega
 ·cases hi with
  | none=>simp[Bq,HT.sIx]
  | some i=>
   simp only[Bq,HT.sIx,Option.getD_none,show(1:Int)>0 by decide,if_true]
   by_cases h:i<0
   ·simp only[h,if_true]<;>omega
   ·simp only[h,if_false]<;>omega
theorem Zfl(its:List Xc)(lo hi:Option Int):slicePick its.toArray lo hi none=((its.drop (HT.sIx its.length 0 lo)).take (HT.sIx its.length its.length hi-HT.sIx its.length 0 lo)).toArray:=by
 obtain⟨h1,h2,h3⟩:=Zgq lo hi its.toArray.size
 unfold slicePick
 rw[h1,h2,h3]
 simp only[sliceRange_one,pick_run,XF]<;>rfl
noncomputable def Z8t(K:Xd):V->Option Int->Option Int->Hp->VK->Prop:=λx lo hi H Q=>∃a xs,x= .ref a∧SqL K H a xs∧∀p,H p=none->Q (.ref p) (upd H p (.lst (Zyg xs lo hi)))
theorem Zxv:SlR X (Z8t X.K):=by
 intro pins s σ H x v vl vu lo hi sl Q I rx hs pl pu h
 obtain⟨a,xs,rfl,hx,q⟩:=h
 cases rx
 obtain⟨its,r,ht,hz⟩:=I.list hx
 have hlen:=r.length
 refine⟨"list",_,slot_list_getitem.lookup,ht.isList.typeIs,?_⟩
 refine wpAny_getItem_list_slice ht.isList hs pl pu .none (by simp) ?_ (by rw[XF]<;>omega)
 rw[Zfl,←hlen]
 refine⟨.ref s.heap.objs.size,_,I.laid (t':=s.toks) (o:=.lst (Zyg xs lo hi)) (λb ob q=>Xg _ q) (XD _) ?_,rfl,q _ (I.hok.fresh (XD _))⟩
 exact⟨Qs (Zhm xs lo hi) hz,_,0,(r.drop (HT.sIx xs.length 0 lo)).take (HT.sIx xs.length xs.length hi-HT.sIx xs.length 0 lo),XJ _ rfl⟩
noncomputable def Zc7:V->Bool
 | .non=>true
 | .bl _=>true
 | .int _=>true
 | .str _=>true
 | _=>false
noncomputable def eqV:V->V->Bool
 | .non,.non=>true
 | .bl a,.bl b=>a==b
 | .bl a,.int b=>(if a then 1 else 0)==b
 | .int a,.bl b=>a==(if b then 1 else 0)
 | .int a,.int b=>a==b
 | .str a,.str b=>a==b
 | _,_=>false
theorem Z1p{A:Qn}{s:Xf}{y x:V}{u v:Xc}(ry:RelV y u)(rx:RelV x v)(fy:Zc7 y=true)(fx:Zc7 x=true):Bh A s u v (eqV y x):=by
 cases y with
 | non=>
  cases ry
  cases x with
  | non=>cases rx;exact Bh.same _
  | bl b=>cases rx;exact Bh.none_bool b
  | int b=>obtain⟨t,rfl⟩:=rx;exact Bh.none_int b t
  | str b=>obtain⟨t,rfl⟩:=rx;exact Bh.none_str b t
  | _=>exact absurd (show false=true from fx) Xw
 | bl a=>
  cases ry
  cases x with
  | non=>cases rx;exact Bh.bool_none a
  | bl b=>cases rx;exact Bh.bool_bool a b
  | int b=>obtain⟨t,rfl⟩:=rx;exact Bh.bool_int a b t
  | str b=>obtain⟨t,rfl⟩:=rx;exact Bh.bool_str a b t
  | _=>exact absurd (show false=true from fx) Xw
 | int a=>
  obtain⟨t',rfl⟩:=ry
  cases x with
  | non=>cases rx;exact Bh.int_none a t'
  | bl b=>cases rx;exact Bh.int_bool a t' b
  | int b=>obtain⟨t,rfl⟩:=rx;exact Bh.int_int a t' b t
  | str b=>obtain⟨t,rfl⟩:=rx;exact SeqAt.EqAt.int_str a t' b t
  | _=>exact absurd (show false=true from fx) Xw
 | str a=>
  obtain⟨t',rfl⟩:=ry
  cases x with
  | non=>cases rx;exact Bh.str_none a t'
  | bl b=>cases rx;exact Bh.str_bool a t' b
  | int b=>obtain⟨t,rfl⟩:=rx;exact SeqAt.EqAt.str_int a t' b t
  | str b=>obtain⟨t,rfl⟩:=rx;exact Bh.str_str a t' b t
  | _=>exact absurd (show false=true from fx) Xw
 | _=>exact absurd (show false=true from fy) Xw
noncomputable def eqU(x:V)(u:Xc):Bool:=match u with
 | .none=>eqV .non x
 | .bool b=>eqV (.bl b) x
 | .int i _=>eqV (.int i) x
 | .str z _=>eqV (.str z) x
 | _=>false
theorem Zs7{x y:V}{u:Xc}(r:RelV y u)(f:Zc7 y=true):eqU x u=eqV y x:=by
 cases y with
 | non=>cases r;rfl
 | bl b=>cases r;rfl
 | int i=>obtain⟨t,rfl⟩:=r;rfl
 | str z=>obtain⟨t,rfl⟩:=r;rfl
 | _=>exact absurd (show false=true from f) Xw
theorem Zof{x:V}{xs:List V}{us:List Xc}(h:Vals xs us)(f:xs.all Zc7=true):us.any (eqU x)=xs.any λy=>eqV y x:=by
 induction h with
 | nil=>rfl
 | cons r t ih=>
  rw[List.all_cons,XN]at f
  rw[V5,V5,Zs7 r f.1,ih f.2]
theorem Zjg{A:Qn}{s:Xf}{x:V}{v:Xc}(rx:RelV x v)(fx:Zc7 x=true){xs:List V}{us:List Xc}(h:Vals xs us)(f:xs.all Zc7=true):∀u∈us,Bh A s u v (eqU x u):=by
 induction h with
 | nil=>intro u hu;cases hu
 | cons r t ih=>
  intro u' hu
  rw[List.all_cons,XN]at f
  rcases Xn.mp hu with rfl|hu
  ·rw[Zs7 r f.1];exact Z1p r rx f.1 fx
  ·exact ih f.2 u' hu
noncomputable def inV(x:V)(xs:List V):Bool:=xs.any λy=>eqV y x
noncomputable def rIn(K:Xd)(neg:Bool):R2:=λx y H Q=>∃p xs,y= .ref p∧(SqL K H p xs∨SqT K H p xs)∧Zc7 x=true∧xs.all Zc7=true∧Q (.bl (if neg then !inV x xs else inV x xs)) H
theorem Zmu:OpR X (Q6 .In) (rIn X.K false):=by
 intro pins s σ H x y v u Q I rx ry h
 obtain⟨p,xs,rfl,hq,fx,fs,q⟩:=h
 cases ry
 rcases hq with hq|hq
 ·obtain⟨its,r,pl,hz⟩:=I.list hq
  refine SeqAt.in_listAt (eqU x) pl.isList (λw hw=>Zjg rx fx r fs w (by simpa using hw)) ⟨.bl _,H,I,rfl,?_⟩
  rw[show its.toArray.any (eqU x)=its.any (eqU x) by simp,Zof r fs]
  exact q
 ·obtain⟨its,r,pl,hz⟩:=I.tuple hq
  refine SeqAt.in_tupleAt (eqU x) pl (λw hw=>Zjg rx fx r fs w (by simpa using hw)) ⟨.bl _,H,I,rfl,?_⟩
  rw[show its.toArray.any (eqU x)=its.any (eqU x) by simp,Zof r fs]
  exact q
theorem Zge:Zbu X (.builtin "len") (λxs H Q=>∃p ys,xs=[.ref p]∧(SqL X.K H p ys∨SqT X.K H p ys)∧Q (.int ys.length) H):=by
 intro pins s σ H xs us Q I r h
 obtain⟨p,ys,rfl,hq,q⟩:=h
 obtain⟨u,rfl,rx⟩:=vals1 r
 cases rx
 have hn:=Ze8
 rcases hq with hq|hq
 ·obtain⟨its,r',pl,hz⟩:=I.list hq
  have hlen:=r'.length
  exact Calls.call_len_list pl.isList (by simp only[XF]<;>omega) ⟨.int ys.length,H,I.tok _,⟨s.toks+1,by rw[XF,hlen]⟩,q⟩
 ·obtain⟨its,r',pl,hz⟩:=I.tuple hq
  have hlen:=r'.length
  exact len_tuple pl (by simp only[XF]<;>omega) ⟨.int ys.length,H,I.tok _,⟨s.toks+1,by rw[XF,hlen]⟩,q⟩
theorem Zha:Zbu X (.type "list") (λxs H Q=>∃p ys,xs=[.ref p]∧(SqL X.K H p ys∨SqT X.K H p ys)∧∀l,H l=none->Q (.ref l) (upd H l (.lst ys))):=by
 intro pins s σ H xs us Q I r h
 obtain⟨p,ys,rfl,hq,q⟩:=h
 obtain⟨u,rfl,rx⟩:=vals1 r
 cases rx
 have fin:∀(its:List Xc),Vals ys its->ys.length≤Xr->∀(h':Heap) (c':Nat),(∀b o',s.heap.get? b=some o'->h'.get? b=some o') ->
   h'.get? s.heap.objs.size=some { cls:=.type "list",dict:=none,data:=.seq its.toArray c',slots:=#[] }->EP X pins σ Q (.ref s.heap.objs.size) { s with heap:=h' }:=λits r' hz h' c' kp e=>
  ⟨.ref s.heap.objs.size,_,I.laid (t':=s.toks) kp (XD _) (show ObjOk X.prog X.w _ h' _ (.lst ys)from⟨hz,its,c',r',e⟩),rfl,q _ (I.hok.fresh (XD _))⟩
 rcases hq with hq|hq
 ·obtain⟨its,r',pl,hz⟩:=I.list hq
  have hlen:=r'.length
  obtain⟨o,ho,hc,n,hd⟩:=pl.isList
  exact call_list_seq p (.inl rfl) ho hc hd (λh' c' kp e=>fin its r' hz h' c' kp e) (by simp only[XF]<;>omega)
 ·obtain⟨its,r',pl,hz⟩:=I.tuple hq
  have hlen:=r'.length
  obtain⟨o,ho,hc,n,hd⟩:=pl
  exact call_list_seq p (.inr rfl) ho hc hd (λh' c' kp e=>fin its r' hz h' c' kp e) (by simp only[XF]<;>omega)
noncomputable def tyV(K:Xd)(T:String)(x:V)(H:Hp):Prop:=match x with
 | .str _=>T="str"
 | .int _=>T="int"
 | .ref p=>(T="list"∧∃xs,SqL K H p xs)∨(T="tuple"∧∃o,K.lookup p=some o∧o.cls= .type "tuple"∧o.dict=none)∨
   (T="dict"∧((∃kvs,H p=some (.dK kvs))∨∃kvs,H p=some (.dT kvs)))∨(T="set"∧∃S n,H p=some (.set S n))
 | _=>False
theorem Zsy{pins:List (Addr×Obj)}{σ:St}{H:Hp}{s:Xf}{T:String}{x:V}{v:Xc}(I:Inv X pins σ H s)(r:RelV x v)(ty:tyV X.K T x H) :
  s.TypeIs v T∧∀a,v= .ref a->∃ob,s.heap.get? a=some ob∧ob.dict=none:=by
 cases x with
 | str z=>
  obtain⟨t,rfl⟩:=r
  cases(show T="str"from ty)
  exact⟨typeIs_str s z t,λ_ e=>nomatch e⟩
 | int i=>
  obtain⟨t,rfl⟩:=r
  cases(show T="int"from ty)
  exact⟨typeIs_int s i t,λ_ e=>nomatch e⟩
 | ref p=>
  cases r
  rcases ty with⟨rfl,xs,hq⟩|⟨rfl,o,hk,hc,hd⟩|⟨rfl,hk⟩|⟨rfl,S,n,hk⟩
  ·obtain⟨its,_,pl,_⟩:=I.list hq
   refine⟨pl.isList.typeIs,λa e=>?_⟩
   cases e
   obtain⟨o,n,e,c,hd,_⟩:=pl
   exact⟨o,e,hd⟩
  ·refine⟨⟨o,I.kIn p o hk,hc⟩,λa e=>?_⟩
   cases e
   exact⟨o,I.kIn _ o hk,hd⟩
  ·have z:∃o,s.heap.get? p=some o∧o.ExactDict:=by
    rcases hk with⟨kvs,hk⟩|⟨kvs,hk⟩
    ·obtain⟨_,_,_,_,o,_,_,e,ex,_⟩:=I.hok p _ hk
     exact⟨o,e,ex⟩
    ·obtain⟨_,_,_,_,o,_,_,e,ex,_⟩:=I.hok p _ hk
     exact⟨o,e,ex⟩
   obtain⟨o,e,ex⟩:=z
   refine⟨⟨o,e,ex.1⟩,λa e2=>?_⟩
   cases e2
   exact⟨o,e,ex.2.1⟩
  ·obtain⟨o,_,_,_,e,ex,_⟩:=I.hok p _ hk
   refine⟨⟨o,e,ex.1⟩,λa e2=>?_⟩
   cases e2
   exact⟨o,e,ex.2.1⟩
 | _=>exact Vc ty
noncomputable def Ya7(K:Xd)(T:String)(r:V->List V->Hp->VK->Prop)(to:TE):TE:=λσ H Q=>to σ H λx H1=>tyV K T x H1∧r x [] H1 Q
noncomputable def tBM(K:Xd)(T:String)(r:V->List V->Hp->VK->Prop)(to:TE)(t:TA):TE:=λσ H Q=>to σ H λx H1=>tyV K T x H1∧t σ H1 λxs H2=>r x xs H2 Q
variable {o e:Expr}{es:List Expr}{to:TE}{t:TA}{name:Str}{apos cpos:Pos}{T id:String}{r:V->List V->Hp->VK->Prop}
theorem Zss(pa:PlainAttrs T)(slot:Slot T name id)(hty:typeOf (.builtin id)=pure (.type "method_descriptor"))(hm:MtR X id r)(ho:PE X o to)
  (hbase:Vh o name X.env (eval o X.env)=eval o X.env:=by rfl) (hline:(apos.endLine==cpos.line)=true:=by rfl):PE X (.Call (.Attribute o name apos) [] [] cpos) (Ya7 X.K T r to):=by
 intro pins s σ H Q I h
 refine wpAny_Call_method0_late hbase hline (thn (ho pins s σ H _ I h) λv s1 qz9=>?_)
 obtain⟨x,H1,I1,r1,ty,q1⟩:=qz9
 obtain⟨h1,h2⟩:=Zsy I1 r1 ty
 exact⟨T,id,pa,slot,hty,h1,h2,Calls.callWith_builtin rfl (PySem.evalArgs_none (hm pins s1 σ H1 x [] v [] Q I1 r1 .nil q1))⟩
theorem Zqd(pa:PlainAttrs T)(slot:Slot T name id)(hty:typeOf (.builtin id)=pure (.type "method_descriptor"))(hm:MtR X id r)(ho:PE X o to)(ha:PA X (e :: es) t)
  (hbase:Vh o name X.env (eval o X.env)=eval o X.env:=by rfl)
  (hfew:((Bf cpos (Xv (e :: es) X.env)).all (λx=>!x.1)&&(backToKw cpos (U5 [] X.env)).all (λx=>x.1.isSome)
   &&decide ((e :: es).length+([]:List V7).length+(if([]:List V7).isEmpty then 0 else 1)<30))=true:=by rfl)
  (hline:(apos.endLine==cpos.line)=true:=by rfl) (hs:Xv (e :: es) X.env=(false,eval e X.env) :: Xv es X.env:=by rfl) (hplain:(Bf cpos (Xv es X.env)).any (·.1)=false:=by rfl) :
  PE X (.Call (.Attribute o name apos) (e :: es) [] cpos) (tBM X.K T r to t):=by
 intro pins s σ H Q I h
 refine wpAny_Call_method_late hbase hfew hline rfl (thn (ho pins s σ H _ I h) λv s1 qz9=>?_)
 obtain⟨x,H1,I1,r1,ty,q1⟩:=qz9
 obtain⟨h1,h2⟩:=Zsy I1 r1 ty
 refine⟨T,id,pa,slot,hty,h1,h2,?_⟩
 have hA:=ha cpos pins s1 σ H1 _ I1 q1
 rw[hs]at hA⊢
 refine Calls.callWith_builtin (by show(false||(Bf cpos (Xv es X.env)).any (·.1))=false;rw[hplain]<;>rfl) (Calls.evalArgs_plain ?_)
 refine thn hA λus s2 qz9=>?_
 obtain⟨vs,H2,I2,r2,q2⟩:=qz9
 exact hm pins s2 σ H2 x vs v us Q I2 r1 r2 q2
end
noncomputable def MtM(X:Cx)(id:String)(r:V->List V->Hp->VK->Prop):Prop :=
 ∀(pins:List (Addr×Obj)) (s:Xf) (σ:St) (H:Hp) (x:V) (xs:List V) (v:Xc) (us:List Xc) (Q:VK),Inv X pins σ H s->RelV x v->Vals xs us->r x xs H Q ->
  Xx (X5 X.prog X.w) X.A (call (.builtin id) (v :: us)) (EP X pins σ Q) X.xe s
theorem Vals.one{x:V}{us:List Xc}(h:Vals [x] us):∃u,us=[u]∧RelV x u:=by
 cases h with
 | cons r t=>cases t;exact⟨_,rfl,r⟩
theorem Vals.zero:∀{us:List Xc},Vals [] us->us=[]
 | _,.nil=>rfl
theorem Vals.eraseIdx:∀{xs:List V} {us:List Xc} (i:Nat),Vals xs us->Vals (xs.eraseIdx i) (us.eraseIdx i)
 | _,_,_,.nil=>.nil
 | _,_,0,.cons _ t=>t
 | _,_,i+1,.cons r t=>.cons r (Vals.eraseIdx i t)
theorem Vals.rep{xs:List V}{us:List Xc}(h:Vals xs us):∀k:Nat,Vals (Qi k xs).flatten (Qi k us).flatten
 | 0=>.nil
 | k+1=>by
  rw[Vs,Vs,Ug,Ug]
  exact Vals.append h (Vals.rep h k)
theorem Zgo{α:Type}:∀(l:List α) (i:Nat),(l.eraseIdx i).length≤l.length
 | [],_=>XD _
 | _ :: _,0=>Nat.le_succ _
 | _ :: r,i+1=>Uv (Zgo r i)
theorem foldl_rep(its:List Xc):∀(k:Nat) (acc:List Xc),
  List.foldl (λx1 x2=>x1 ++ x2) acc.toArray (Qi k its.toArray)=(acc ++ (Qi k its).flatten).toArray
 | 0,acc=>by simp
 | k+1,acc=>by
  have e:acc.toArray ++ its.toArray=(acc ++ its).toArray:=by simp
  have e2:(acc ++ its) ++ (Qi k its).flatten=acc ++ (Qi (k+1) its).flatten:=by
   rw[Vs,Ug,QZ]
  rw[←e2,←foldl_rep its k (acc ++ its),←e,Vs,List.foldl_cons]
section
variable {X:Cx}{pins:List (Addr×Obj)}{σ:St}{H:Hp}{s:Xf}{l b:Addr}{xs ys zs:List V}
theorem Inv.lset{its its':List Xc}{n:Nat}{f:Array Xc->Array Xc}{t':Nat}(I:Inv X pins σ H s)(hH:H l=some (.lst xs))
  (e:s.heap.get? l=some { cls:=.type "list",data:=.seq its.toArray n }) (hf:f its.toArray=its'.toArray) (hv:Vals ys its') (hz:ys.length≤Xr) :
  Inv X pins σ (upd H l (.lst ys)) { s with heap:=s.heap.update l (Vr f),toks:=t' }:=by
 have q:=PySem.IsL.update e f
 rw[hf]at q
 refine I.write (x:=l) (e:=l) (by rw[hH];exact trivial) (.inl rfl) (λb' u hb hu=>(Heap.get?_update_other s.heap (Vr f) (BL hb)).trans hu) ⟨_,q⟩ ?_
 exact⟨hz,its',_,hv,q⟩
theorem Inv.lnew{its:List Xc}{t':Nat}(I:Inv X pins σ H s)(hv:Vals ys its)(hz:ys.length≤Xr) :
  Inv X pins σ (upd H s.heap.objs.size (.lst ys)) { s with heap:=s.heap.push { cls:=.type "list",data:=.seq its.toArray },toks:=t' } :=
 I.laid (λ_ _ q=>Xg _ q) (XD _) ⟨hz,its,0,hv,XJ _ rfl⟩
theorem Inv.fresh(I:Inv X pins σ H s):H s.heap.objs.size=none:=I.hok.fresh (XD _)
theorem Inv.lstM(I:Inv X pins σ H s)(hH:H l=some (.lst xs)):xs.length≤Xr∧∃(its:List Xc) (n:Nat),Vals xs its∧xs.length=its.length∧s.heap.get? l=some { cls:=.type "list",data:=.seq its.toArray n }:=by
 obtain⟨z,its,n,r,e⟩:=I.hok l _ hH
 exact⟨z,its,n,r,r.length,e⟩
theorem Zq0{n:Nat}(h:n≤Xr):UG n=false:=by
 unfold UG
 exact decide_eq_false (by omega)
end
section
variable {X:Cx}
noncomputable def Zvn:V->List V->Hp->VK->Prop:=λx vs H Q=>∃l xs y,x= .ref l∧vs=[y]∧H l=some (.lst xs)∧xs.length<Xr∧Q .non (upd H l (.lst (xs ++ [y])))
theorem Za6:MtM X "list.append" Zvn:=by
 intro pins s σ H x vs v us Q I rx rv h
 obtain⟨l,xs,y,rfl,rfl,hH,hz,q⟩:=h
 cases rx
 obtain⟨u,rfl,ru⟩:=rv.one
 obtain⟨z,its,n,r,hl,e⟩:=I.lstM hH
 refine call_meets F.slot_list_append ⟨_,e,rfl⟩ F.entry_list_append (F.args_list_append_2 _ _) (PySem.list_append l its.toArray n u (by rw[XF];omega)) ⟨e,?_⟩
 refine⟨.non,_,I.lset (its':=its ++ [u]) hH e (by simp) (r.append (.cons ru .nil)) ?_,rfl,q⟩
 rw[X6,List.length_singleton]
 omega
noncomputable def Z3e:V->List V->Hp->VK->Prop:=λx vs H Q=>∃l xs i k y,x= .ref l∧vs=[.int i]∧H l=some (.lst xs)∧-(2^63)≤i∧i<2^63∧seqIndex? i xs.length=some k∧xs[k]? =some y∧Q y (upd H l (.lst (xs.eraseIdx k)))
theorem Zpy:MtM X "list.pop" Z3e:=by
 intro pins s σ H x vs v us Q I rx rv h
 obtain⟨l,xs,i,k,y,rfl,rfl,hH,h1,h2,hk,hy,q⟩:=h
 cases rx
 obtain⟨u,rfl,ru⟩:=rv.one
 obtain⟨t,rfl⟩:=ru
 obtain⟨z,its,n,r,hl,e⟩:=I.lstM hH
 obtain⟨w,hw,rw'⟩:=r.get hy
 refine call_meets F.slot_list_pop ⟨_,e,rfl⟩ F.entry_list_pop (F.args_list_pop_2 _ _)
  (MeetsSeq.list_pop_at l its.toArray n i t k w (fitsIndex_both h1 h2) (by rw[XF,←hl];exact hk) (by rw[←Qd];exact hw) (by rw[XF];omega)) ⟨e,?_⟩
 refine⟨y,_,I.lset (its':=its.eraseIdx k) hH e ?_ (r.eraseIdx k) ?_,rw',q⟩
 ·show its.toArray.eraseIdxIfInBounds k=(its.eraseIdx k).toArray
  rw[List.eraseIdxIfInBounds_toArray]
 ·have:=Zgo xs k
  omega
noncomputable def Z2i:V->List V->Hp->VK->Prop:=λx vs H Q=>∃l xs,x= .ref l∧vs=[]∧H l=some (.lst xs)∧Q .non (upd H l (.lst []))
theorem Zjb:MtM X "list.clear" Z2i:=by
 intro pins s σ H x vs v us Q I rx rv h
 obtain⟨l,xs,rfl,rfl,hH,q⟩:=h
 cases rx
 have hus:=rv.zero
 subst hus
 obtain⟨z,its,n,r,hl,e⟩:=I.lstM hH
 refine call_meets F.slot_list_clear ⟨_,e,rfl⟩ F.entry_list_clear (F.args_list_clear_1 _) (AutoSeq1.list_clear_list_0 l its.toArray n (by rw[XF];omega)) ⟨e,?_⟩
 exact⟨.non,_,I.lset (its':=[]) (ys:=[]) hH e rfl .nil (QH _),rfl,q⟩
noncomputable def Yb5:R2:=λx y H Q=>∃l k xs,x= .ref l∧y= .int k∧H l=some (.lst xs)∧-(2^63)≤k∧k<2^63∧xs.length*k.toNat≤Xr∧
 ∀p,H p=none->Q (.ref p) (upd H p (.lst (Qi k.toNat xs).flatten))
theorem len_rep{α:Type}(xs:List α)(k:Nat):(Qi k xs).flatten.length=k*xs.length:=by
 induction k with
 | zero=>simp
 | succ k ih=>rw[Vs,Ug,X6,ih,Nat.succ_mul,Nat.add_comm]
theorem Z27:OpR X (Uc .Mult) Yb5:=by
 intro pins s σ H x y v u Q I rx ry h
 obtain⟨l,k,xs,rfl,rfl,hH,h1,h2,hz,q⟩:=h
 cases rx
 obtain⟨t,rfl⟩:=ry
 obtain⟨z,its,n,r,hl,e⟩:=I.lstM hH
 have hlen:its.toArray.size*k.toNat≤Xr:=by rw[XF,←hl];exact hz
 have hcap:¬its.toArray.size*k.toNat>(2^63-1)/8:=by
  have:(Xr:Nat)≤(2^63-1)/8:=by decide
  omega
 have hfit:¬(!Vo.List.listFitsIndex k)=true:=by
  rw[fitsIndex_both h1 h2]
  exact Xw
 have hlong:¬UG (its.toArray.size*k.toNat)=true:=by
  rw[Zq0 hlen]
  exact Xw
 have hnew:List.foldl (λx1 x2=>x1 ++ x2) #[] (Qi (if its.toArray.isEmpty=true then 0 else k.toNat) its.toArray)=(Qi k.toNat its).flatten.toArray:=by
  have f0:∀m:Nat,List.foldl (λx1 x2=>x1 ++ x2) #[] (Qi m its.toArray)=(Qi m its).flatten.toArray:=λm=>by
   have:=foldl_rep its m []
   rw[List.nil_append]at this
   exact this
  rw[f0]
  cases its with
  | nil=>simp
  | cons a r'=>rw[if_neg (by simp)]
 refine wpAny_binaryOp_repeat_ref (T :="list") (U :="int") (by decide) ⟨_,e,rfl⟩ (λs'=>typeIs_int s' k t) noFill_list_mul F.fills_int_mul F.slot_int_rmul repeat_list F.slot_int_index.lookup
  (call_meets F.slot_int_rmul (typeIs_int s k t) F.entry_int_rmul (F.args_int_rmul_2 _ _) (int___rmul___int_list k t l its.toArray n)
   ⟨e,rfl,⟨_,e,rfl⟩,call_meets F.slot_list_mul ⟨_,e,rfl⟩ F.entry_list_mul (F.args_list_mul_2 _ _) (AutoListH.list___mul___list_int_3 l its.toArray n k t hfit hcap hlong) ⟨e,?_⟩⟩)
 rw[hnew]
 exact⟨.ref _,_,I.lnew (t':=s.toks) (r.rep k.toNat) (by rw[len_rep,Nat.mul_comm];exact hz),rfl,q _ I.fresh⟩
end
section
variable {prog:X4}{w:Qm}{A:Qn}{E:Xc->Xf->Prop}{s:Xf}
end
section
variable {X:Cx}
end
end L2
namespace Att
open PySem PySem.W PySem.Calls PyProof.Rows
theorem Zc8{P:Params}{h:Heap}:∀(ns:List Int) (vs:List Xc),WellAll P h vs (ns.map WData.int)->IntsAre vs ns:=by
 intro ns
 induction ns with
 | nil=>
  intro vs w
  rw[List.map_nil]at w
  cases w
  exact .nil
 | cons n ns ih=>
  intro vs w
  rw[Qg]at w
  cases w with
  | cons a b=>
   cases a
   exact .cons _ _ (ih _ b)
theorem Zm2{l:OpenLaw}{n:Nat}(hn:l.most=some n){P:Params}{h:Heap}{args:List WData}{vals:List Xc}
  (hpre:l.row.toRowW.claim.pre args=true) (hwl:WellAll P h vals args) :
  ∃a vs ns,vals=[Xu a]∧args=[WData.list (ns.map WData.int)]∧h.get? a=some { cls:=.type "list",data:=.seq vs.toArray }∧IntsAre vs ns∧ns.length≤n:=by
 have hsh:WShape.hasAll [] args [.list .int]=true:=(pre_splitW hpre).1
 have hc:l.pre.holds [] { args:=args }=true:=(pre_splitW hpre).2
 obtain⟨d,r,rfl,h1,h2⟩:=hasAllW_cons hsh
 obtain rfl:=hasAllW_nil h2
 obtain⟨xs,rfl,h3⟩:=hasW_list h1
 obtain⟨ns,rfl⟩:=items_int h3
 have hlen:ns.length≤n:=by
  unfold OpenLaw.pre at hc
  have h4:(WTm.not (.lt (.lit (.int (n:Int))) (.len (.arg 0)))).holds [] { args:=[.list (ns.map .int)] }=true:=by
   have h4:=(holds_andW hc).1
   rw[hn]at h4
   exact h4
  have h5:=condW_of h4 (w_not (w_lt w_lit (w_len_list (w_arg rfl))))
  rw[Xe]at h5
  refine Nat.le_of_not_lt λq=>?_
  have q':(n:Int)<((ns.length:Nat):Int):=by omega
  first
   | (rw[decide_eq_true q']at h5;exact absurd h5 (by decide))
   | (simp at h5;omega)
 cases hwl with
 | cons w1 w2=>
  cases w2
  cases w1 with
  | list ho hall=>exact⟨_,_,ns,rfl,rfl,ho,Zc8 ns _ hall,hlen⟩
theorem Zlu(l:OpenLaw)(args:List WData):l.row.toRowW.claim.post args (.bool true) args=true :=
 postW_of (r:=l.row.toRowW) (X:=(true==true))
  (show WShape.has [] (.bool true) .bool=true by first|rfl|decide|simp[WShape.has,WShape.arms,WShape.armsAll])
  (show(WTm.eq .res (.lit (.bool true))).value [] { args:=args,res:=some (.bool true),after:=args }=some (.bool (true==true))from w_eq_bool (w_res rfl) w_lit) rfl
theorem attach_call{l:OpenLaw}{n:Nat}{q:X4}{loose:List Str}{XP:(Str->Option Xc)->Heap->Prop}{YP:Qm->Heap->Prop}{d:DefRec}
  (hn:l.most=some n) (hdf:d.params.defaults=[])
  (call:∀(w:Qm) (s₀ s₁:Xf) (mg mb:Str->Option Xc) (fa:Addr) (o:Obj) (pm cd doc:Xc) (a:Addr) (vs:List Xc) (ns:List Int),
   Ground q loose [] XP w s₀ mg mb s₁.heap->YP w s₁.heap ->
   s₁.heap.get? fa=some o->o.data= .func (docDef d.name d.params d.body d.scope pm cd doc)->s₁.heap.CodeRec cd d.name->mg d.name=some (.ref fa) ->
   s₁.heap.get? a=some { cls:=.type "list",data:=.seq vs.toArray }->IntsAre vs ns->ns.length≤n->s₁.gens=#[] ->
   U0 (X5 l.prog w) callerA (.call (.ref fa) ⟨[.ref a],[]⟩) (λr s'=>r= .ok (.ret (.bool true))∧OldK s₁.heap s'.heap∧s'.os=s₁.os∧AllBare s'.gens) s₁) :
  WalkO q loose XP YP l.row.toRowW d [] (λf vs=>PySem.call f vs):=by
 intro w s₀ s₁ mg mb G Y fa o pm cd doc dV kV ho hd hcd hD hmg hg args vals as hpre hlay hrd hwl hlo
 obtain rfl:dV= .none:=Dflts.none hD hdf
 obtain rfl:kV= .none:=Dflts.noKw hD
 obtain⟨a,vs,ns,rfl,rfl,hobj,hints,hlen⟩:=Zm2 hn hpre hwl
 refine enter_call (codeAny_mono (call w s₀ s₁ mg mb fa o pm cd doc a vs ns G Y ho (fd_plain hd) hcd hmg hobj hints hlen hg) λr s' hq=>?_)
 obtain⟨rfl,h2,h3,h4⟩:=hq
 exact⟨.inl ⟨.bool true,.bool true,[],rfl,λ_=>rfl,.bool true,Zlu l _,λ_=>⟨List.Pairwise.nil,λ_ hm=>(nomatch hm)⟩⟩,h2,h3,h4⟩
section
variable {prog:X4}{w:Qm}{A:Qn}{E:Xc->Xf->Prop}{s:Xf}{K:Frag}
end
end Att
namespace L2
open PySem PySem.Spec PyProof.Rows
theorem Zlm{vs:List Xc}{ns:List Int}(h:IntsAre vs ns):Vals (ns.map V.int) vs:=by
 induction h with
 | nil=>exact .nil
 | cons n t h ih=>exact .cons ⟨t,rfl⟩ ih
noncomputable def Only(H:Hp):Prop:=∀b,H b=none∨∃o xs,H b=some (.frz o (.lst xs))
theorem Zrf{P:X4}{w:Qm}{K:Xd}{mg mb:Str->Option Xc}{CX:CXT}{k:Nat}{fa a:Addr}{fd:QD}{x:Str}{sp:Sp}{s₁:Xf}{vs:List Xc}{ns:List Int}
  (KX:K.In s₁.heap) (hns:s₁.heap.Ns Qa mg) (hb:s₁.heap.Ns builtinsNs mb) (hbb:∀x:Str,x≠"__name__" ->mb x=Qo x) (hlim:s₁.heap.NoLimit) (hg:s₁.gens=#[])
  (ha:s₁.heap.get? a=some { cls:=.type "list",data:=.seq vs.toArray }) (hi:IntsAre vs ns) (hl:ns.length≤Xr) (hr:Room k callerA)
  (F:∀base:Heap,K.In base->base.Ns Qa mg->FnOk P w K mg base CX k fa fd [x] sp) (hbind:∀(s:Xf) (u:Xc),BindsTo s fd ⟨[u],[]⟩ [(x,u)])
  (hsp:∀H:Hp,Only H->SqL K H a (ns.map V.int)->sp [.ref a] H (λv _=>v= .bl true) λ_ _ _=>False)
  (hCX:∀H e s',CX [] H s₁ (λ_ _ _=>False) e s'->False) :
  U0 (X5 P w) callerA (.call (.ref fa) ⟨[.ref a],[]⟩) (λr s'=>r= .ok (.ret (.bool true))∧OldK s₁.heap s'.heap∧s'.os=s₁.os∧AllBare s'.gens) s₁:=by
 have rv:=Zlm hi
 have lenV:=hi.length
 -- from an abstract heap in which nothing but the script may be tracked
 have core:∀H:Hp,Only H->SqL K H a (ns.map V.int)->HOk P w H s₁.heap->(∀b,H b≠none->b=a)->(H a≠none->K.lookup a=none) ->
   U0 (X5 P w) callerA (.call (.ref fa) ⟨[.ref a],[]⟩) (λr s'=>r= .ok (.ret (.bool true))∧OldK s₁.heap s'.heap∧s'.os=s₁.os∧AllBare s'.gens) s₁:=by
  intro H hO hS hok hA hK
  have base_of:∀{b:Addr} {o:Obj},s₁.heap.get? b=some o->H b=none->(Zps s₁.heap H).get? b=some o:=λe n=>Zqp e n
  have noA:∀{b:Addr} {o:Obj} {es:Array DictEntry} {ep:Nat},s₁.heap.get? b=some o->o.data= .dict es ep->H b=none:=fun{b o es ep} e d=>by
   cases q:H b with
   | none=>rfl
   | some u=>
    have e':b=a:=hA b (by rw[q];simp)
    subst e'
    rw[ha]at e;cases e
    have d':Data.seq vs.toArray _=Data.dict es ep:=d
    cases d'
  have nsK:∀{b:Addr} {m:Str->Option Xc},s₁.heap.Ns b m->(Zps s₁.heap H).Ns b m:=fun{b m} ⟨o,es,ep,e,d,r⟩=>⟨o,es,ep,base_of e (noA e d),d,r⟩
  have hKb:K.In (Zps s₁.heap H):=λb o e=>base_of (KX b o e) (by
   cases q:H b with
   | none=>rfl
   | some u=>
    have e':b=a:=hA b (by rw[q];simp)
    subst e'
    rw[hK (by rw[q];simp)]at e;cases e)
  have hM:Mod K mg (Zps s₁.heap H):=⟨hKb,nsK hns,⟨mb,nsK hb,hbb⟩,let⟨mc,h1,h2⟩:=hlim;⟨mc,nsK h1,h2⟩⟩
  have e0:Z4h P w K mg (Zps s₁.heap H) callerA [] s₁ H:=⟨rfl,hM,λb o e=>Zx2 e,Nat.le_of_eq (Zok _ _),trivial,λb hb=>absurd (show b∈([]:List Addr)from hb) (by simp),hok,.of_eq hg⟩
  refine codeAny_mono ((F _ hKb (nsK hns)).run callerA [] s₁ H ⟨[.ref a],[]⟩ [.ref a] [.ref a] _ _ hr e0 (hbind s₁ (.ref a)) (.cons rfl .nil) (hsp H hO hS)) λr s' h=>?_
  cases r with
  | error e=>exact(hCX H e s' h).elim
  | ok fl=>
   cases fl with
   | next=>exact Vc h
   | brk=>exact Vc h
   | cont=>exact Vc h
   | ret u=>
    obtain⟨v,H',os,bare,un,hok',r',q⟩:=h
    have q':v= .bl true:=q
    subst q'
    obtain rfl:u=Value.bool true:=r'
    refine⟨rfl,OldK.of_keep λb o e=>?_,os,bare⟩
    cases q:H b with
    | none=>exact un.keep b o e q (by intro z;exact absurd (show b∈([]:List Addr)from z) (by simp)) (by simp)
    | some u=>
     rcases hO b with z|⟨ob,xs,z⟩
     ·rw[q]at z;cases z
     ·have z2:=un.frzs b ob _ z
      obtain⟨e1,_⟩:=hok b _ z
      obtain⟨e2,_⟩:=hok' b _ z2
      rw[e]at e1;cases e1
      exact e2
 cases hk:K.lookup a with
 | some o=>
  -- the script is one of the module's own objects
  have e:=KX a o hk
  rw[ha]at e
  cases e
  refine core (λ_=>none) (λ_=>.inl rfl) (.inr ⟨_,vs.toArray,_,hk,rfl,rfl,rfl,by rw[XF,lenV];exact hl,by simpa using rv⟩) (λb u z=>by have z':(none:Option HO)=some u:=z;cases z') (λb z=>absurd rfl z) λz=>absurd rfl z
 | none=>
  refine core (λb=>if b=a then some (.frz { cls:=.type "list",data:=.seq vs.toArray } (.lst (ns.map V.int)))else none) (λb=>?_) (.inl (.inr ⟨{ cls:=.type "list",data:=.seq vs.toArray },if_pos rfl⟩)) (λb u z=>?_) (λb z=>?_) λ_=>hk
  ·by_cases hb:b=a
   ·exact .inr ⟨_,_,if_pos hb⟩
   ·exact .inl (if_neg hb)
  ·by_cases hb:b=a
   ·have z':=(if_pos hb).symm.trans z
    cases z'
    subst hb
    exact⟨ha,by rw[Xe];exact hl,vs,_,rv,ha⟩
   ·have z':=(if_neg hb).symm.trans z
    cases z'
  ·by_cases hb:b=a
   ·exact hb
   ·exact absurd (if_neg hb) z
noncomputable abbrev KOf{K:Xd}{h:Heap}(_:K.In h):Xd:=K
theorem Zwa{l:PySem.W.OpenLaw}{n k:Nat}{q:X4}{loose:List Str}{XP:(Str->Option Xc)->Heap->Prop}{YP:Qm->Heap->Prop}{d:DefRec}{K:Params->Xd}{CX:Qm->CXT}{sp:Qm->Sp}{x:Str}
  (hn:l.most=some n) (hn2:n≤Xr) (hdf:d.params.defaults=[]) (hr:Room k callerA)
  (hY:∀(w:Qm) (h:Heap),YP w h->(K w.params).In h)
  (F:∀(w:Qm) (mg:Str->Option Xc) (fa:Addr) (h:Heap),(K w.params).In h->h.Ns Qa mg->mg d.name=some (.ref fa) ->
   ∃fd:QD,(∀(s:Xf) (u:Xc),BindsTo s fd ⟨[u],[]⟩ [(x,u)])∧
    ∀base:Heap,(K w.params).In base->base.Ns Qa mg->FnOk l.prog w (K w.params) mg base (CX w) k fa fd [x] (sp w))
  (hsp:∀(w:Qm) (H:Hp) (a:Addr) (ns:List Int),ns.length≤n->Only H->SqL (K w.params) H a (ns.map V.int)->sp w [.ref a] H (λv _=>v= .bl true) λ_ _ _=>False)
  (hCX:∀(w:Qm) (H:Hp) (s:Xf) (e:Xc) (s':Xf),CX w [] H s (λ_ _ _=>False) e s'->False) :
  PySem.W.WalkO q loose XP YP l.row.toRowW d [] (λf vs=>PySem.call f vs):=by
 refine Att.attach_call hn hdf λw s₀ s₁ mg mb fa o pm cd doc a vs ns G Y ho hd hcd hmg hobj hints hlen hg=>?_
 have KX:=hY w _ Y
 obtain⟨fd,hb,hF⟩:=F w mg fa _ KX G.T.g hmg
 exact Zrf KX G.T.g G.T.b G.T.builtins G.T.nolimit hg hobj hints (Qs hlen hn2) hr hF hb (λH hO hS=>hsp w H a ns hlen hO hS) λH e s'=>hCX w H s₁ e s'
noncomputable def Ye(s:Stmt):Arguments:=match s with
 | .FunctionDef _ a _ _ _ _ _ _ _ _=>a
 | _=>{ posonlyargs:=[],args:=[],vararg:=none,kwonlyargs:=[],kw_defaults:=[],kwarg:=none,defaults:=[] }
noncomputable def Zx(s:Stmt):List Stmt:=match s with
 | .FunctionDef _ _ b _ _ _ _ _ _ _=>b
 | _=>[]
noncomputable def Zg(s:Stmt):Scope:=match s with
 | .FunctionDef _ _ _ _ _ _ sc _ _ _=>sc
 | _=>{ kind:=.function,names:=[],isGenerator:=false,isCoroutine:=false }
noncomputable abbrev CX0:CXT:=λ_ _ _ _ _ _=>False
noncomputable abbrev E0:XK:=λ_ _ _=>False
theorem Z4y{X:Cx}:Zjz CX0 X E0:=λ_ _ _ _ _ _ _ h=>h.elim
structure Fun(K:Xd)(x qual:Str)(st:Stmt)(f:Addr)(fd:QD):Prop where
 ex:∃(oc:Xc) (od:Option Addr) (kV doc pm:Xc) (an:Option Addr) (cdv ct:Xc) (osl:Array (Option Xc)),
  fd=QJ x qual (Ye st) (Zx st) (Zg st) .none kV doc pm an cdv ct∧K.lookup f=some ⟨oc,od,.func fd,osl⟩∧QT K cdv qual=true
 kp:Qu K (.ref f)=true
section
variable {P:X4}{w:Qm}{K:Xd}{mg:Str->Option Xc}{base:Heap}
theorem Fun.ok{x qual:Str}{st:Stmt}{f:Addr}{fd:QD}{N ps:List Str}{k:Nat}{sp:Sp}(F:Fun K x qual st f fd)(S:Yc N ps (Zg st))(len:∀vs H Q E,sp vs H Q E->vs.length=ps.length)
  (hbody:∀(cdv:Xc) (A:Qn) (outer:List Env) (s:Xf) (H:Hp) (vs:List V) (Q:VK) (E:XK),Room k (A.deeper (envOfC qual (Zg st) s.heap.objs.size f cdv))->sp vs H Q E ->
   ∃t,PSs (Zpe CX0 P w K mg base N qual (Zg st) f cdv A outer s H E).nox (Zx st) t∧t { nx:=λ_ H'=>Q .non H',rt:=Q } (start N vs) H):FnOk P w K mg base CX0 (k+1) f fd ps sp:=by
 obtain⟨oc,od,kV,doc,pm,an,cdv,ct,osl,rfl,lk,hcd⟩:=F.ex
 refine Zzo lk hcd S len λA outer s H vs Q E hr hsp=>?_
 obtain⟨t,h,q⟩:=hbody cdv A outer s H vs Q E hr hsp
 exact⟨t,h.nox,q⟩
theorem Fun.binds{x qual:Str}{st:Stmt}{f:Addr}{fd:QD}{ps:List Str}(F:Fun K x qual st f fd)
  (h:∀(kV doc pm:Xc) (an:Option Addr) (cdv ct:Xc) (us:List Xc),us.length=ps.length->bindArgs (QJ x qual (Ye st) (Zx st) (Zg st) .none kV doc pm an cdv ct) ⟨us,[]⟩=pure (ps.zip us)):Binds K fd ps []:=by
 obtain⟨oc,od,kV,doc,pm,an,cdv,ct,osl,rfl,lk,hcd⟩:=F.ex
 exact .all (h kV doc pm an cdv ct)
theorem Jb{x qual:Str}{st:Stmt}{f:Addr}{oc:Xc}{od an:Option Addr}{osl:Array (Option Xc)}{kV doc pm cdv ct:Xc}(l:K.lookup f=some ⟨oc,od,.func (QJ x qual (Ye st) (Zx st) (Zg st) .none kV doc pm an cdv ct),osl⟩)
  (c:QT K cdv qual=true) (k:Qu K (.ref f)=true):Fun K x qual st f (QJ x qual (Ye st) (Zx st) (Zg st) .none kV doc pm an cdv ct):=⟨⟨oc,od,kV,doc,pm,an,cdv,ct,osl,rfl,l,c⟩,k⟩
end
section
variable {X:Cx}
theorem pv(i:Nat){x:Str}{pos:Pos}(hN:X.N[i]? =some x:=by rfl)(hv:Vis X.env.scope x:=by first|exact QF rfl|exact Qp (QF rfl)|exact Qp (Qp rfl))(hd:(x==("__debug__" : Str))=false:=by decide)
  (hcd:(x==("__classdict__" : Str))=false:=by decide):PE X (.Name x pos) (Z81 i):=Zy6 hN hv hd hcd
end
noncomputable def Same(H H':Hp):Prop:=∀b o,H b=some o->H' b=some o
theorem Same.refl(H:Hp):Same H H:=λ_ _ h=>h
theorem Same.trans{H H1 H2:Hp}(a:Same H H1)(b:Same H1 H2):Same H H2:=λc o h=>b c o (a c o h)
theorem Same.free{H H':Hp}(e:Same H H'){l:Addr}(h:H' l=Option.none):H l=Option.none:=by
 cases q:H l with
 | none=>rfl
 | some o=>
  rw[e l o q]at h
  cases h
end L2
set_option maxHeartbeats 4000000
namespace L2
open PySem PySem.Spec PyProof.Rows
noncomputable def Bt(n:Nat)(x:Int):Prop:=x.natAbs<2^n
theorem Bt.of_lt{m:Nat}{x:Int}(h1:-(2^m)<x)(h2:x<2^m):Bt m x:=by
 unfold Bt
 have e:((2^m:Nat):Int)=2^m:=by simp
 omega
noncomputable def DivOk(_ j:Int):Prop:=j≠0∧j.natAbs.log2<9000
theorem DivOk.of{i j:Int}{n:Nat}(h0:j≠0)(h:Bt n j)(hn:n≤9000:=by decide):DivOk i j:=by
 refine⟨h0,?_⟩
 have hp:j.natAbs≠0:=by omega
 have:=(Nat.log2_lt hp).mpr h
 omega
section
variable {X:Cx}
theorem Zuo:OpR X (Uc .Mult) (rI IntMulOk λi j=>.int (i*j)):=opI λ_ _ _ _ _ _ _ hc q=>mul_int q hc
theorem Zqg:OpR X (Uc .FloorDiv) (rI DivOk λi j=>.int (i.fdiv j)):=opI λ_ _ _ _ _ _ _ hc q=>floordiv_int hc.1 q (.inl (PyProof.noPylong_of_log2 hc.2))
theorem Zt2:OpR X (Uc .Pow) (rI Z36 λi j=>.int (i^j.toNat)):=Z0n
end
theorem Zd2(elt target iter:Expr)(ifs:List Expr)(scope:Scope)(pos:Pos)(it acc:Xc)(env:Env) :
  compTurn (.ListComp elt [⟨target,iter,ifs,0⟩] scope pos) 0 it acc env=(standAt iter.pos>>= λ_=>V9 it>>= λr=>match r with
   | none=>pure (.done .next)
   | some v=>letOwnedTupleGo target it v>>= λ_=>UL target env v>>= λ_=>
    (forIn ifs true λc r=>if r=true then do let ok←isTrue c env (eval c env);pure (Bg ok)else pure (Bg r))>>= λok=>
     if ok=true then((eval elt env>>= λx=>call (.builtin "list.append") [acc,x]>>= λ_=>pure ())>>= λ_=>
      again (.compLoop (.ListComp elt [⟨target,iter,ifs,0⟩] scope pos) 0 it acc env))
     else again (.compLoop (.ListComp elt [⟨target,iter,ifs,0⟩] scope pos) 0 it acc env)):=by rfl
theorem Zgs{prog:X4}{w:Qm}{A:Qn}{R:Result->Xf->Prop}{s:Xf}{elt target iter:Expr}{ifs:List Expr}{scope:Scope}{pos:Pos}{it acc:Xc}{env:Env}(I:Nat->Xf->Prop)
  (turn:∀n s,I n s->Xx (X5 prog w) A (V9 it) (λr s₁=>match r with
   | none=>R (.ok .next) s₁
   | some v=>Xx (X5 prog w) A (letOwnedTupleGo target it v) (λ_ s₁=>Xx (X5 prog w) A (UL target env v) (λ_ s₂=>
     Xx (X5 prog w) A (forIn ifs true λc r=>if r=true then do let ok←isTrue c env (eval c env);pure (Bg ok)else pure (Bg r)) (λok s₃=>
      if ok=true then Xx (X5 prog w) A (eval elt env) (λx s₄=>
       Xx (X5 prog w) A (call (.builtin "list.append") [acc,x]) (λ_ s₅=>∃m,m<n∧I m s₅) (notedBy (X5 prog w) A env λe s'=>R (.error e) s') s₄) (notedBy (X5 prog w) A env λe s'=>R (.error e) s') s₃
      else∃m,m<n∧I m s₃) (notedBy (X5 prog w) A env λe s'=>R (.error e) s') s₂) (notedBy (X5 prog w) A env λe s'=>R (.error e) s') s₁) (notedBy (X5 prog w) A env λe s'=>R (.error e) s') s₁) (notedBy (X5 prog w) A env λe s'=>R (.error e) s') s)
  (n:Nat) (h:I n s) :
  U0 (X5 prog w) A (.compLoop (.ListComp elt [⟨target,iter,ifs,0⟩] scope pos) 0 it acc env) R s:=by
 refine codeAny_loop rfl I (λn s hI=>?_) n h
 show Xx _ A ((compTurn (.ListComp elt [⟨target,iter,ifs,0⟩] scope pos) 0 it acc env).onRaise (λx=>do noteFrame x env;theTreesLotGoes x)) _ _ s
 refine wpAny_noted ?_
 rw[Zd2]
 refine Xb (wpAny_standAt (Xb (QC (turn n s hI) (λr s₁ h₁=>?_) λ_ _ h'=>h')))
 cases r with
 | none=>exact Xk h₁
 | some v=>
  refine Xb (QC h₁ (λ_ s₂ h₂=>?_) λ_ _ h'=>h')
  refine Xb (QC h₂ (λ_ s₂ h₂=>Xb (QC h₂ (λok s₃ h₃=>?_) λ_ _ h'=>h')) λ_ _ h'=>h')
  cases ok with
  | false=>exact Xk ⟨rfl,h₃⟩
  | true=>
   exact Xb (Xb (QC h₃ (λx s₄ h₄=>Xb (QC h₄ (λ_ s₅ h₅=>Xk (Xk ⟨rfl,h₅⟩)) λ_ _ h'=>h')) λ_ _ h'=>h'))
noncomputable def Zdy(env:Env):List (Str×BP)->List (Str×Addr)->List (Str×Addr)
 | [],acc=>acc
 | (n,k) :: r,acc=>if k== .free then Zdy env r ((n,(env.cells.lookup n).getD 0) :: acc)else Zdy env r acc
theorem Zf0{env:Env}:∀(names:List (Str×BP)) (acc:List (Str×Addr)),(∀y∈names,y.2= .free->∃c,env.cells.lookup y.1=some c) ->
  (forIn names acc (λ(y:Str×BP) cs=>(if y.2== .free then(cellOf env y.1>>= λc=>pure (Bg ((y.1,c) :: cs)))else pure (Bg cs):Sem (ForInStep (List (Str×Addr))))))=pure (Zdy env names acc)
 | [],acc,_=>by rw[List.forIn_nil];rfl
 | (n,k) :: r,acc,h=>by
  by_cases hk:k= .free
  ·subst hk
   obtain⟨c,hc⟩:=h (n,.free) (.head _) rfl
   have hc':env.cells.lookup n=some c:=hc
   have e:=Zf0 (env:=env) r ((n,c) :: acc) λy hy=>h y (.tail _ hy)
   have ec:cellOf env n=pure c:=by
    unfold cellOf
    rw[hc']
   rw[List.forIn_cons]
   simp only[beq_self_eq_true,if_true]
   rw[ec]
   simp only[Zdy,beq_self_eq_true,if_true,hc',Option.getD_some]
   exact e
  ·have e:=Zf0 (env:=env) r acc λy hy=>h y (.tail _ hy)
   have hb:(k==Q7)=false:=by simpa using hk
   rw[List.forIn_cons]
   simp only[Zdy,hb,XC,if_false]
   exact e
theorem Zaq{scope:Scope}{env:Env}(h:∀y∈scope.names,y.2= .free->∃c,env.cells.lookup y.1=some c):closureFor scope env=pure (Zdy env scope.names []):=by
 have e:=Zf0 scope.names [] h
 have e':(forIn scope.names ([]:List (Str×Addr)) (λ(y:Str×BP) cs=>(match y with|(name,kind)=>do
   if kind== .free then do let a←cellOf env name;pure (Bg ((name,a) :: cs))else pure (Bg cs):Sem (ForInStep (List (Str×Addr))))))=pure (Zdy env scope.names []):=e
 exact congrArg (λ(m:Sem (List (Str×Addr)))=>m>>= λx=>pure x) e'
theorem Zfv{env:Env}:∀(names:List (Str×BP)) (acc:List (Str×Addr)),(∀y∈names,y.2= .free->∃c,env.cells.lookup y.1=some c) ->
  ∀n c,(n,c)∈Zdy env names acc->(n,c)∈acc∨((n,Q7)∈names∧env.cells.lookup n=some c)
 | [],acc,_,n,c,h=>.inl h
 | (m,k) :: r,acc,h,n,c,hm=>by
  by_cases hk:k= .free
  ·subst hk
   obtain⟨d,hd⟩:=h (m,.free) (.head _) rfl
   have hd':env.cells.lookup m=some d:=hd
   simp only[Zdy,beq_self_eq_true,if_true,hd',Option.getD_some]at hm
   rcases Zfv r _ (λy hy=>h y (.tail _ hy)) n c hm with z|⟨z1,z2⟩
   ·rcases Xn.mp z with z|z
    ·cases z;exact .inr ⟨.head _,hd'⟩
    ·exact .inl z
   ·exact .inr ⟨.tail _ z1,z2⟩
  ·have hb:(k==Q7)=false:=by simpa using hk
   simp only[Zdy,hb,XC,if_false]at hm
   refine(Zfv r _ (λy hy=>h y (.tail _ hy)) n c hm).imp id λqz9=>?_
   obtain⟨z1,z2⟩:=qz9
   exact⟨.tail _ z1,z2⟩
theorem Zfk{env:Env}:∀(names:List (Str×BP)) (acc:List (Str×Addr)),∀p∈acc,p∈Zdy env names acc
 | [],_,_,h=>h
 | (m,k) :: r,acc,p,h=>by
  unfold Zdy
  split
  ·exact Zfk r _ p (.tail _ h)
  ·exact Zfk r _ p h
theorem Zfb{env:Env}:∀(names:List (Str×BP)) (acc:List (Str×Addr)) (n:Str),(n,Q7)∈names->∃c,(n,c)∈Zdy env names acc
 | [],_,_,h=>nomatch h
 | (m,k) :: r,acc,n,h=>by
  rcases Xn.mp h with z|z
  ·cases z
   exact⟨_,by
    simp only[Zdy,beq_self_eq_true,if_true]
    exact Zfk _ _ _ (.head _)⟩
  ·unfold Zdy
   split
   ·exact Zfb r _ n z
   ·exact Zfb r _ n z
theorem Zb2{env:Env}(inj:∀x y c,env.cells.lookup x=some c->env.cells.lookup y=some c->x=y):∀(names:List (Str×BP)) (acc:List (Str×Addr)),
  (∀ y∈names,y.2= .free->∃c,env.cells.lookup y.1=some c)->(names.map (·.1)).Nodup->(∀p∈acc,env.cells.lookup p.1=some p.2)->(∀p∈acc,p.1∉names.map (·.1))->(acc.Pairwise λx y=>x.2≠y.2) ->
  (Zdy env names acc).Pairwise λx y=>x.2≠y.2
 | [],_,_,_,_,_,h=>h
 | (m,k) :: r,acc,hf,hn,ha,hd,hp=>by
  rw[Qg,Qk]at hn
  have hf':∀y∈r,y.2= .free->∃c,env.cells.lookup y.1=some c:=λy hy=>hf y (.tail _ hy)
  have hd':∀p∈acc,p.1∉r.map (·.1):=λp hp z=>hd p hp (by rw[Qg];exact .tail _ z)
  by_cases hk:k= .free
  ·subst hk
   obtain⟨d,hd0⟩:=hf (m,.free) (.head _) rfl
   have hd1:env.cells.lookup m=some d:=hd0
   simp only[Zdy,beq_self_eq_true,if_true,hd1,Option.getD_some]
   refine Zb2 inj r _ hf' hn.2 (λp hp'=>?_) (λp hp'=>?_) (Br.mpr ⟨λp hp' z=>?_,hp⟩)
   ·rcases Xn.mp hp' with rfl|hp'
    ·exact hd1
    ·exact ha p hp'
   ·rcases Xn.mp hp' with rfl|hp'
    ·exact hn.1
    ·exact hd' p hp'
   ·have e:m=p.1:=inj m p.1 d hd1 (by rw[ha p hp',←z])
    exact hd p hp' (by rw[Qg,←e];exact .head _)
  ·have hb:(k==Q7)=false:=by simpa using hk
   simp only[Zdy,hb,XC,if_false]
   exact Zb2 inj r _ hf' hn.2 ha hd' hp
structure Zkt(h:Heap)(lo:Nat)(names:List (Str×BP))(acc cs:List (Str×Addr)):Prop where
 mem:∀n c,(n,c)∈cs->(n,c)∈acc∨(h.IsCell c none∧lo≤c∧(n,Bo)∈names)
 has:∀n,(n,Bo)∈names->∃c,(n,c)∈cs
 old:∀p∈acc,p∈cs
theorem Zb6:∀(names:List (Str×BP)) (h:Heap) (lo:Nat) (acc:List (Str×Addr)),lo≤h.objs.size->Zkt (Vi h names) lo names acc (Bm h.objs.size names acc)
 | [],_,_,_,_=>⟨λ_ _ m=>.inl m,(λ_ m=>nomatch m),λ_ m=>m⟩
 | (name,kind) :: r,h,lo,acc,hlo=>by
  by_cases hk:(kind==Bo)=true
  ·have ek:kind= .cell:=by simpa using hk
   subst ek
   have ih:=Zb6 r (h.push { cls:=.type "cell",data:=.cell none }) lo ((name,h.objs.size) :: acc) (by rw[QG];omega)
   rw[QG]at ih
   have e1:Bm h.objs.size ((name,.cell) :: r) acc=Bm (h.objs.size+1) r ((name,h.objs.size) :: acc):=by
    rw[Bm,if_pos hk]
   have e2:Vi h ((name,.cell) :: r)=Vi (h.push { cls:=.type "cell",data:=.cell none }) r:=by
    rw[Vi,if_pos hk]
   rw[e1,e2]
   refine⟨λn c m=>?_,λn m=>?_,λp m=>ih.old p (.tail _ m)⟩
   ·rcases ih.mem n c m with z|⟨z1,z2,z3⟩
    ·rcases Xn.mp z with z|z
     ·cases z
      exact .inr ⟨⟨_,pushCells_keeps _ _ _ _ (XJ _ rfl),rfl⟩,hlo,.head _⟩
     ·exact .inl z
    ·exact .inr ⟨z1,z2,.tail _ z3⟩
   ·rcases Xn.mp m with z|z
    ·cases z
     exact⟨_,ih.old _ (.head _)⟩
    ·exact ih.has n z
  ·have ih:=Zb6 r h lo acc hlo
   have e1:Bm h.objs.size ((name,kind) :: r) acc=Bm h.objs.size r acc:=by
    rw[Bm,if_neg hk]
   have e2:Vi h ((name,kind) :: r)=Vi h r:=by
    rw[Vi,if_neg hk]
   rw[e1,e2]
   refine⟨λn c m=>(ih.mem n c m).imp id λ⟨z1,z2,z3⟩=>⟨z1,z2,.tail _ z3⟩,λn m=>?_,ih.old⟩
   rcases Xn.mp m with z|z
   ·cases z
    exact absurd rfl hk
   ·exact ih.has n z
theorem Zdv(names:List (Str×BP)):∀(h:Heap) (acc:List (Str×Addr)),(acc.Pairwise λx y=>x.2≠y.2)->(∀p∈acc,p.2<h.objs.size)->(Bm h.objs.size names acc).Pairwise λx y=>x.2≠y.2:=by
 induction names with
 | nil=>intro h acc ha _;exact ha
 | cons y r ih=>
  intro h acc ha hb
  obtain⟨name,kind⟩:=y
  unfold Bm
  split
  ·have:=ih (h.push { cls:=.type "cell",data:=.cell none }) ((name,h.objs.size) :: acc) (Br.mpr ⟨λp hp=>X3 (hb p hp),ha⟩) (λp hp=>by
    rw[QG]
    rcases Xn.mp hp with rfl|hp
    ·exact QL _
    ·exact Ba (hb p hp))
   rwa[QG]at this
  ·exact ih h acc ha hb
theorem Zeb{M:Model}{A:Qn}{E:Xc->Xf->Prop}{s:Xf}{scope:Scope}{globals:Addr}{cl:List (Str×Addr)}{qual:Str}{env:Env}{Q:Env->Xf->Prop}
  (hQ:Q (newEnv scope s.heap.objs.size globals (Bm (s.heap.objs.size+1) scope.names cl) qual none .none (some env) builtinsNs)
   { s with heap:=Vi (s.heap.push { cls:=.type "dict",data:=.dict #[] }) scope.names }) :
  Xx M A (newFunctionEnv scope globals cl [] qual none .none (some env)) Q E s:=by
 simp only[newFunctionEnv,Option.isSome_some,if_true]
 refine Xb (wpAny_alloc ?_)
 refine Xb (wpAny_layCells _ (λname kind cells=>by cases hkc:kind==Bo<;>simp[hkc]) _ _ _ _ ?_)
 rw[show({ s with heap:=s.heap.push { cls:=.type "dict",data:=.dict #[] } }:Xf).heap.objs.size=s.heap.objs.size+1 from QG ..]
 rw[List.forIn_nil]
 exact Xb (Xk (Xk hQ))
noncomputable def Y0(X:Cx)(N':List Str)(sc:Scope)(C:Addr)(cells:List (Str×Addr))(s₂:Xf)(H₂:Hp)(fp:List Addr):Cx :=
 { X with N:=N',s₀:=s₂,H₀:=H₂,env:=compEnvC sc cells C X.env,outer:=X.stack,stack:=X.stack,ex:=fp,fn:=λx=>sc.names.lookup x==some .cell,pn:=[],xe:=λ_ _=>False }
theorem Zan{env:Env}:∀{names:List (Str×BP)} {x:Str} {k:BP},names.lookup x=some k ->
  (names.map λ(n,k)=>if(k==Q7&&env.scope.kind== .function&&env.kindOf n==some .cell)then(n,Bo)else(n,k)).lookup x=
   some (if(k==Q7&&env.scope.kind== .function&&env.kindOf x==some .cell)then Bo else k)
 | [],_,_,h=>by simp at h
 | (n,k') :: r,x,k,h=>by
  have ih:=@Zan env r x k
  show List.lookup x ((if(k'==Q7&&env.scope.kind== .function&&env.kindOf n==some .cell)=true then(n,Bo)else(n,k')) :: _)=_
  cases hx:x==n with
  | true=>
   simp only[Q8,hx]at h
   cases h
   have e:=beq_iff_eq.mp hx
   subst e
   split<;>simp[Q8]
  | false=>
   simp only[Q8,hx]at h
   split
   ·simp only[Q8,hx];exact ih h
   ·simp only[Q8,hx];exact ih h
theorem Zcm{env:Env}:∀{names:List (Str×BP)} {x:Str},names.lookup x=none ->
  (names.map λ(n,k)=>if(k==Q7&&env.scope.kind== .function&&env.kindOf n==some .cell)then(n,Bo)else(n,k)).lookup x=none
 | [],_,_=>rfl
 | (n,k') :: r,x,h=>by
  have ih:=@Zcm env r x
  show List.lookup x ((if(k'==Q7&&env.scope.kind== .function&&env.kindOf n==some .cell)=true then(n,Bo)else(n,k')) :: _)=_
  cases hx:x==n with
  | true=>
   simp only[Q8,hx]at h
   cases h
  | false=>
   simp only[Q8,hx]at h
   split
   ·simp only[Q8,hx];exact ih h
   ·simp only[Q8,hx];exact ih h
theorem Zbn{α:Type}:∀{l:List (Str×α)} {n:Str} {c:α},(l.map (·.1)).Nodup->(n,c)∈l->l.lookup n=some c
 | (k,v) :: r,n,c,hd,h=>by
  rw[Qg,Qk]at hd
  rcases Xn.mp h with e|hr
  ·cases e
   simp[Q8]
  ·have hne:(n==k)=false:=by
    refine BJ.mpr λz=>hd.1 ?_
    have e:n=k:=beq_iff_eq.mp z
    rw[←e]
    exact XR.mpr ⟨(n,c),hr,rfl⟩
   rw[Q8,hne]
   exact Zbn hd.2 hr
theorem Z7{α:Type}:∀{l:List (Str×α)} {n:Str} {c:α},(n,c)∈l->∃d,l.lookup n=some d∧(n,d)∈l
 | (k,v) :: r,n,c,h=>by
  by_cases e:n=k
  ·subst e
   exact⟨v,by simp[Q8],U9⟩
  ·have hne:(n==k)=false:=by simpa using e
   rcases Xn.mp h with z|z
   ·cases z;exact absurd rfl e
   ·obtain⟨d,h1,h2⟩:=Z7 z
    exact⟨d,by rw[Q8,hne];exact h1,.tail _ h2⟩
structure CompScope(X:Cx)(own:List Str)(caps:List Nat)(N':List Str)(sc:Scope):Prop where
 kind:sc.kind= .function
 nd:N'.Nodup
 names:N'=own ++ caps.map λi=>X.N.getD i Str.empty
 nn:(sc.names.map (·.1)).Nodup
 free:(sc.names.all λy=>y.2 != .free||(X.env.kindOf y.1==some .cell||X.env.kindOf y.1==some .free))=true
 caps:(caps.all λi=>sc.names.lookup (X.N.getD i Str.empty)==some .free)=true
noncomputable def Wr(own:List Str)(caps:List Nat)(σ:St):St:=own.map (λ_=>none) ++ caps.map λi=>(σ[i]?).getD none
section
variable {X:Cx}{own:List Str}{caps:List Nat}{N':List Str}{sc:Scope}
theorem CompScope.lk(S:CompScope X own caps N' sc){n:Str}{k:BP}(h:(n,k)∈sc.names):sc.names.lookup n=some k:=Zbn S.nn h
theorem CompScope.fr(S:CompScope X own caps N' sc){n:Str}(h:(n,Q7)∈sc.names):X.env.kindOf n=some .cell∨X.env.kindOf n=some .free:=by
 have:=V0.mp S.free _ h
 simpa using this
theorem Zk4{pins:List (Addr×Obj)}{σ:St}{H:Hp}{s:Xf}{fp:List Addr}{cl:List (Str×Addr)}(S:CompScope X own caps N' sc)(I:Inv X pins σ H s)
  (f:∀b∈fp,Zei X pins H b) (fo:∀b∈fp,∃o,s.heap.get? b=some o)
  (hcl:∀n c,(n,c)∈cl->(n,Q7)∈sc.names∧X.env.cells.lookup n=some c) (hcl2:∀n,(n,Q7)∈sc.names->∃c,(n,c)∈cl) (hapart:cl.Pairwise λx y=>x.2≠y.2) :
  Inv (Y0 X N' sc (s.heap.objs.size+1) (Bm (s.heap.objs.size+2) sc.names cl) s H fp) [] (Wr own caps σ) (upd H s.heap.objs.size (.lst []))
   { s with heap:=Vi ((s.heap.push { cls:=.type "list",data:=.seq #[] }).push { cls:=.type "dict",data:=.dict #[] }) sc.names }:=by
 generalize hh1:s.heap.push { cls:=.type "list",data:=.seq #[] }=h1
 have z1:h1.objs.size=s.heap.objs.size+1:=by rw[←hh1,QG]
 generalize hh2:h1.push { cls:=.type "dict",data:=.dict #[] }=h2
 have z2:h2.objs.size=s.heap.objs.size+2:=by rw[←hh2,QG,z1]
 have BC:=Zb6 sc.names h2 (s.heap.objs.size+2) cl (by omega)
 have AP:=Zdv sc.names h2 cl hapart (λp hp=>by
  obtain⟨v,hv⟩:=I.cell p.1 p.2 (hcl p.1 p.2 hp).2
  exact Qj hv.lt (by omega))
 rw[z2]at BC AP
 have keep:∀b o,s.heap.get? b=some o->(Vi h2 sc.names).get? b=some o:=λb o e=>pushCells_keeps _ _ _ _ (by
  rw[←hh2]
  refine Xg _ ?_
  rw[←hh1]
  exact Xg _ e)
 have hD:(Vi h2 sc.names).get? s.heap.objs.size=some { cls:=.type "list",data:=.seq #[] }:=pushCells_keeps _ _ _ _ (by
  rw[←hh2]
  refine Xg _ ?_
  rw[←hh1]
  exact XJ _ rfl)
 have hC:(Vi h2 sc.names).Ns (s.heap.objs.size+1) (λ_=>none):=by
  refine Heap.Ns.keeps ?_ (pushCells_keeps _ _)
  have:=Heap.Ns.new h1 (.type "dict")
  rw[hh2,z1]at this
  exact this
 have cellOld:∀n c,X.env.cells.lookup n=some c->c<s.heap.objs.size:=λn c e=>by
  obtain⟨v,hv⟩:=I.cell n c e
  exact hv.lt
 have lk':∀n c,(Bm (s.heap.objs.size+2) sc.names cl).lookup n=some c->(n,c)∈Bm (s.heap.objs.size+2) sc.names cl:=λn c e=>Bj e
 have hnD:H s.heap.objs.size=none:=I.fresh
 have fresh:∀c,s.heap.objs.size<c->upd H s.heap.objs.size (.lst []) c=none:=λc hc=>by
  rw[Zi (X3 hc)]
  exact I.hok.fresh (Bu hc)
 have isc:∀n c,(n,c)∈Bm (s.heap.objs.size+2) sc.names cl->∃v,(Vi h2 sc.names).IsCell c v:=λn c m=>by
  rcases BC.mem n c m with z|⟨z,_⟩
  ·obtain⟨v,hv⟩:=I.cell n c (hcl n c z).2
   exact⟨v,hv.keeps keep⟩
  ·exact⟨none,z⟩
 have okH:HOk X.prog X.w (upd H s.heap.objs.size (.lst [])) (Vi h2 sc.names):=by
  refine I.hok.laid keep (XD _) ?_
  exact⟨QH _,[],0,.nil,hD⟩
 have kinds:∀x k,sc.names.lookup x=some k->(relabel sc X.env).names.lookup x=some (if(k==Q7&&X.env.scope.kind== .function&&X.env.kindOf x==some .cell)then Bo else k):=λx k e=>Zan e
 have kindsR:∀x k,(relabel sc X.env).names.lookup x=some k->∃k',(x,k')∈sc.names∧k=(if(k'==Q7&&X.env.scope.kind== .function&&X.env.kindOf x==some .cell)then Bo else k'):=λx k e=>by
  cases q:sc.names.lookup x with
  | none=>
   have:=Zcm (env:=X.env) q
   rw[show(relabel sc X.env).names.lookup x=_ from this]at e
   cases e
  | some k'=>
   refine⟨k',Bj q,?_⟩
   rw[kinds x k' q]at e
   exact(QB e).symm
 refine⟨⟨I.ok.mod,S.kind,I.ok.glob,I.ok.blt,?_,?_,?_,?_,I.ok.hd,I.ok.frames,.inl rfl,?_,?_,?_,?_,?_,?_,?_⟩,rfl,I.bare,?_,?_,?_,?_,?_,(λp hp=>nomatch hp),okH,?_⟩
 ·show s.heap.objs.size≤s.heap.objs.size+1;omega
 ·intro x y c e1 e2
  exact name_of_addr AP (lk' x c e1) (lk' y c e2)
 ·intro x hx
  rcases hx with hx|hx
  ·obtain⟨k',hm,hk'⟩:=kindsR x _ hx
   cases k' with
   | cell=>
    obtain⟨c,hc⟩:=BC.has x hm
    obtain⟨d,h1,_⟩:=Z7 hc
    exact⟨d,h1⟩
   | free=>
    obtain⟨c,hc⟩:=hcl2 _ hm
    obtain⟨d,h1,_⟩:=Z7 (BC.old _ hc)
    exact⟨d,h1⟩
   | _=>simp at hk'
  ·obtain⟨k',hm,hk'⟩:=kindsR x _ hx
   cases k' with
   | free=>
    obtain⟨c,hc⟩:=hcl2 _ hm
    obtain⟨d,h1,_⟩:=Z7 (BC.old _ hc)
    exact⟨d,h1⟩
   | _=>simp at hk'
 ·intro x c hf e
  have hf':sc.names.lookup x=some .cell:=by simpa [Y0]using hf
  rcases BC.mem x c (lk' x c e)with z|⟨_,z,_⟩
  ·-- a free one and a cell at once: the name stands once
   exfalso
   have q:=S.lk (hcl x c z).1
   rw[hf']at q
   cases q
  ·show s.heap.objs.size≤c;omega
 ·intro b hb
  obtain⟨o,ho⟩:=fo b hb
  have hlt:=XH ho
  refine⟨Xo (BW hlt (QL _)),λx c e z=>?_⟩
  rcases BC.mem x c (lk' x c e)with q|⟨_,q,_⟩
  ·exact(f b hb).2.2.2.2.1 x c (hcl x c q).2 z
  ·subst z
   exact absurd hlt (Nat.not_lt.mpr (Qs (Vb _ 2) q))
 ·exact I.bs
 ·exact Qs I.ok.bsz I.sz
 ·intro b o e hb
  rcases(f b hb).2.2.2.1 with z|z
  ·exact I.ok.noex b o e z
  ·exact absurd (Qj (XH e) I.ok.bsz) (Nat.not_lt.mpr z)
 ·intro b hb z
  rcases Xn.mp (I.stkSub b z)with q|q
  ·exact(f b hb).2.1 q
  ·exact(f b hb).2.2.1 q
 ·exact I.stack
 ·exact I.stkFree
 ·exact Un.laid keep (XD _) hnD
 ·refine⟨_,hC,λi x v e1 e2 e3=>?_⟩
  have e1':(own ++ caps.map λi=>X.N.getD i Str.empty)[i]? =some x:=by rw[←S.names];exact e1
  have e2':(own.map (λ_=>(none:Option V)) ++ caps.map λi=>(σ[i]?).getD none)[i]? =some (some v):=e2
  by_cases hi:i<own.length
  ·rw[Vj (by simpa using hi),Xj]at e2'
   cases q:own[i]? with
   | none=>rw[q]at e2';cases e2'
   | some y=>rw[q]at e2';cases e2'
  ·rw[JL (by simpa using hi),Xj]at e2'
   rw[JL (by omega),Xj]at e1'
   rw[Xe]at e2'
   cases q:caps[i-own.length]? with
   | none=>rw[q]at e2';cases e2'
   | some j=>
    rw[q]at e1' e2'
    have e1:X.N.getD j Str.empty=x:=QB e1'
    have e2:(σ[j]?).getD none=some v:=QB e2'
    have e4:σ[j]? =some (some v):=by
     cases r:σ[j]? with
     | none=>rw[r]at e2;cases e2
     | some o=>rw[r]at e2;exact congrArg some e2
    have hj:j<X.N.length:=by rw[←I.len];exact(Xi.mp e4).1
    have e5:X.N[j]? =some x:=by rw[←e1];simp[Xq,hj]
    have hc:=V0.mp S.caps j (X8 q)
    have e6:sc.names.lookup x=some .free:=by rw[←e1];simpa using hc
    have hm:=Bj e6
    have kx:=S.fr hm
    obtain⟨m,hn,hl⟩:=I.loc
    obtain⟨u,ru,lo⟩:=hl j x v e5 e4 (by rcases kx with z|z;exact .inr (.inl z);exact .inr (.inr z))
    refine⟨u,ru,.inr ⟨?_,?_⟩⟩
    ·have:=kinds x _ e6
     show(relabel sc X.env).names.lookup x=_∨(relabel sc X.env).names.lookup x=_
     rw[this]
     split
     ·exact .inl rfl
     ·exact .inr rfl
    ·rcases lo with⟨z,_⟩|⟨_,c,hc1,hc2⟩
     ·rcases kx with w|w<;>(rw[w]at z;cases z)
     ·obtain⟨d,hd⟩:=hcl2 x hm
      obtain⟨d',h1,h2⟩:=Z7 (BC.old _ hd)
      refine⟨d',h1,?_⟩
      rcases BC.mem x d' h2 with w|⟨_,_,w⟩
      ·have w':=(hcl x d' w).2
       rw[hc1]at w'
       cases w'
       exact hc2.keeps keep
      ·have:=S.lk w
       rw[e6]at this
       cases this
 ·intro x c e
  exact isc x c (lk' x c e)
 ·exact fresh _ (QL _)
 ·intro x c e
  rcases BC.mem x c (lk' x c e)with z|⟨_,z,_⟩
  ·have e':=(hcl x c z).2
   have hlt:=cellOld x c e'
   rw[Zi (Xo hlt)]
   exact I.freeC x c e'
  ·exact fresh c (by omega)
 ·show(Wr own caps σ).length=N'.length
  rw[S.names]
  unfold Wr
  simp
end
noncomputable def Zya(J:It)(g:TG)(tt:TT)(te:TE)(σ0:St)(D:Addr)(Q:Hp->Prop)(H1:Hp):Prop :=
 ∃W:Nat->Nat->St->Hp->Prop,(∃m,W 0 m σ0 (upd H1 D (.lst [])))∧∀i m σ' H',W i m σ' H' ->
  (J.stop i H'∧Q H')∨(J.go i H'∧∀x H2,J.yld i H' x H2->g x σ' H2 λσ2 H3=>tt σ2 H3 λb H4=>
   if b=true then te σ2 H4 λy H5=>∃ys,H5 D=some (.lst ys)∧ys.length<Xr∧∃m',m'<m∧W (i+1) m' σ2 (upd H5 D (.lst (ys ++ [y])))
   else∃m',m'<m∧W (i+1) m' σ2 H4)
noncomputable def Zu6(own:List Str)(caps:List Nat)(wi:TI)(g:TG)(tt:TT)(te:TE):TE:=λσ H Q=>wi σ H λJ H1=>∀D,H1 D=none->Zya J g tt te (Wr own caps σ) D (Q (.ref D)) H1
noncomputable def Z7j:TT:=λ_ H Q=>Q true H
noncomputable def Zuy(X:Cx)(ifs:List Expr)(t:TT):Prop :=
 ∀(pins:List (Addr×Obj)) (s:Xf) (σ:St) (H:Hp) (Q:Bool->Hp->Prop),Inv X pins σ H s->t σ H Q ->
  Xx (X5 X.prog X.w) X.A (forIn ifs true λc r=>if r=true then do let ok←isTrue c X.env (eval c X.env);pure (Bg ok)else pure (Bg r)) (TP X pins σ Q) X.xe s
theorem Zt6{X:Cx}:Zuy X [] Z7j:=λpins s σ H Q I h=>by
 rw[List.forIn_nil]
 exact Xk ⟨H,I,h⟩
theorem Zuv{X:Cx}{c:Expr}{t:TT}(h:PT X c t):Zuy X [c] t:=λpins s σ H Q I q=>wpAny_tests_one (h pins s σ H Q I q)
theorem Zt3{M:Model}{A:Qn}{α:Type}{t:Sem α}{Q Q':α->Xf->Prop}{E:Xc->Xf->Prop}{s:Xf}(h:Xx M A t Q (λ_ _=>False) s)(hQ:∀a s,Q a s->Q' a s):Xx M A t Q' E s :=
 QC h hQ λ_ _ z=>z.elim
section
variable {X:Cx}{own:List Str}{caps:List Nat}{N':List Str}{sc:Scope}{tg elt iter:Expr}{ifs:List Expr}{pos:Pos}{wi:TI}{g:TG}{tt:TT}{te:TE}
theorem Zjt{pins p':List (Addr×Obj)}{σ σ':St}{H H':Hp}{s s':Xf}{fp:List Addr}{C:Addr}{cells:List (Str×Addr)}{h':Heap}(I:Inv X pins σ H s)(f:∀b∈fp,Zei X pins H b)
  (I':Inv (Y0 X N' sc C cells s H fp) p' σ' H' s') (hs:Bk C s'.heap h'):Inv X pins σ H' { s' with heap:=h' }:=by
 have hC:s.heap.objs.size≤C:=I'.ok.above
 have B:=I'.base
 have ne:∀b o,s.heap.get? b=some o->b≠C:=λb o e=>Xo (Qj (XH e) hC)
 obtain⟨m,⟨oC,_,_,hoC,_⟩,_⟩:=I'.loc
 refine I.call' (ch:=fp) (s':={ s' with heap:=h' }) I'.os ⟨λb o e n hb hx=>?_,λb o e n hb hx=>?_,B.free,λb o e hx=>?_,B.tups,B.frzs,B.tbls⟩ (λb ob e=>?_) I'.bare λb hb=>?_
 ·exact(hs.2 b (ne b o e)).trans (B.keep b o e n hb hx)
 ·obtain⟨sl,q⟩:=B.slot b o e n hb hx
  exact⟨sl,(hs.2 b (ne b o e)).trans q⟩
 ·obtain⟨o',q⟩:=B.there b o e hx
  exact⟨o',(hs.2 b (ne b o e)).trans q⟩
 ·have hfree:H' C=none:=I'.free
  refine(I'.hok b ob e).stay (λc w' hc q=>(hs.2 c ?_).trans q) (λ_ q=>q) λ_ _ q=>q
  rintro rfl
  rcases hc with rfl|hc
  ·rw[hfree]at e;cases e
  ·rw[hfree]at hc;cases hc
 ·obtain⟨_,f1,_,f3,f4,f5⟩:=f b hb
  exact⟨f3,f1,f4,f5⟩
theorem Zez{Qf:Result->Xf->Prop}(S:CompScope X own caps N' sc)(hc:X.calm=true)
  (hg:∀C cells s₂ H₂ fp,PG (Y0 X N' sc C cells s₂ H₂ fp) tg g) (ht:∀C cells s₂ H₂ fp,Zuy (Y0 X N' sc C cells s₂ H₂ fp) ifs tt) (he:∀C cells s₂ H₂ fp,PE (Y0 X N' sc C cells s₂ H₂ fp) elt te)
  {pins:List (Addr×Obj)} {σ:St} {H:Hp} {s:Xf} {fp:List Addr} {it:Addr} {tn:Nat->Heap->Prop} {J:It} {Q:Hp->Prop} (I:Inv X pins σ H s) (T:Turn X.prog X.w X.K tg J fp it tn) (st:tn 0 s.heap) (f:∀b∈fp,Zei X pins H b)
  (h:Zya J g tt te (Wr own caps σ) s.heap.objs.size Q H)
  (fin:∀s' σ' H' p' C cells,Inv (Y0 X N' sc C cells s H fp) p' σ' H' s'->C=s.heap.objs.size+1->Q H'->Qf (.ok .next) s') :
  Xx (X5 X.prog X.w) X.A (newFunctionEnv sc X.env.globals (Zdy X.env sc.names []) [] X.env.qual none .none (some X.env)) (λcenv s₄=>
   cenv.locals=s.heap.objs.size+1∧U0 (X5 X.prog X.w) X.A (.compStart (.ListComp elt [⟨tg,iter,ifs,0⟩] sc pos) 0 (.ref it) (.ref s.heap.objs.size) { cenv with scope:=relabel sc X.env }) Qf s₄) X.xe
    { s with heap:=s.heap.push { cls:=.type "list",data:=.seq #[] } }:=by
 have hf:∀y∈sc.names,y.2= .free->∃c,X.env.cells.lookup y.1=some c:=λy hy e=>by
  obtain⟨n,k⟩:=y
  have e':k= .free:=e
  subst e'
  exact I.ok.has n (S.fr hy)
 have hcl:∀n c,(n,c)∈Zdy X.env sc.names []->(n,Q7)∈sc.names∧X.env.cells.lookup n=some c:=λn c m=>(Zfv sc.names [] hf n c m).elim (λz=>nomatch z) id
 have hap:=Zb2 I.ok.inj sc.names [] hf S.nn (λ_ z=>nomatch z) (λ_ z=>nomatch z) .nil
 have I0:=Zk4 (cl:=Zdy X.env sc.names []) S I f (λb hb=>let⟨o,e,_⟩:=T.obj _ _ st b hb;⟨o,e⟩) hcl (λn m=>Zfb sc.names [] n m) hap
 refine Zeb ?_
 rw[show({ s with heap:=s.heap.push { cls:=.type "list",data:=.seq #[] } }:Xf).heap.objs.size=s.heap.objs.size+1 from QG ..]
 refine⟨rfl,?_⟩
 dsimp only
 generalize hs0:({ s with heap:=Vi ((s.heap.push { cls:=.type "list",data:=.seq #[] }).push { cls:=.type "dict",data:=.dict #[] }) sc.names }:Xf)=s0 at I0⊢
 have st0:tn 0 s0.heap:=T.keep _ _ _ st λb hb o e=>by
  rw[←hs0]
  exact pushCells_keeps _ _ _ _ (Xg _ (Xg _ e))
 generalize hcells:Bm (s.heap.objs.size+1+1) sc.names (Zdy X.env sc.names [])=cells at I0⊢
 -- the loop
 obtain⟨W,⟨m0,w0⟩,turn⟩:=h
 have loop:U0 (X5 X.prog X.w) X.A (.compLoop (.ListComp elt [⟨tg,iter,ifs,0⟩] sc pos) 0 (.ref it) (.ref s.heap.objs.size) (Y0 X N' sc (s.heap.objs.size+1) cells s H fp).env) Qf s0:=by
  generalize hX':Y0 X N' sc (s.heap.objs.size+1) cells s H fp=X' at I0⊢
  have hg':=hg (s.heap.objs.size+1) cells s H fp
  have ht':=ht (s.heap.objs.size+1) cells s H fp
  have he':=he (s.heap.objs.size+1) cells s H fp
  have fin':=λs' σ' H' p' (z:Inv (Y0 X N' sc (s.heap.objs.size+1) cells s H fp) p' σ' H' s')=>fin s' σ' H' p' _ _ z rfl
  rw[hX']at hg' ht' he' fin'
  have hxe:X'.xe= λ_ _=>False:=by rw[←hX'];rfl
  have hpr:X'.prog=X.prog:=by rw[←hX'];rfl
  have hw:X'.w=X.w:=by rw[←hX'];rfl
  have hK:X'.K=X.K:=by rw[←hX'];rfl
  have hA:X'.A=X.A:=by rw[←hX'];rfl
  have hcm:X'.calm=true:=by rw[←hX'];exact hc
  have hex:X'.ex=fp:=by rw[←hX'];rfl
  have hpn:X'.pn=[]:=by rw[←hX'];rfl
  have stat:∀{H':Hp},(∀b∈fp,H' b=none)->∀b∈fp,Zei X' [] H' b:=λhn b hb=>by
   have e1:=I0.ok.exf b (by rw[hex];exact hb)
   have e2:=I0.ok.exfs b (by rw[hex];exact hb)
   exact⟨hn b hb,e1.1,e2,.inl (by rw[hex];exact hb),e1.2,λp hp=>by rw[hpn]at hp;exact nomatch hp⟩
  have frD:∀b∈fp,(upd H s.heap.objs.size (.lst [])) b=none:=λb hb=>by
   obtain⟨o,e,_⟩:=T.obj _ _ st b hb
   rw[Zi (Xo (XH e))]
   exact(f b hb).1
  have T':Turn X'.prog X'.w X'.K tg J fp it tn:=by rw[hpr,hw,hK];exact T
  rw[←hpr,←hw,←hA]
  refine Zgs (λn s'=>∃i σ' H',Inv X' [] σ' H' s'∧tn i s'.heap∧(∀b∈fp,H' b=none)∧W i n σ' H') ?_ m0 ⟨0,_,_,I0,st0,frD,w0⟩
  rintro n s3 ⟨i,σ3,H3,I3,st3,fr3,w3⟩
  rcases turn i n σ3 H3 w3 with⟨stop,qn⟩|⟨go,step⟩
  ·refine Zt3 (T'.done X' rfl rfl rfl hcm i [] s3 σ3 H3 _ I3 (stat fr3) st3 stop) λr s4 qz9=>?_
   obtain⟨hr,I4⟩:=qz9
   subst hr
   exact fin' s4 σ3 H3 [] I4 qn
  ·refine Zt3 (T'.item X' rfl rfl rfl hcm i [] s3 σ3 H3 _ I3 (stat fr3) st3 go) λr s4 qz9=>?_
   obtain⟨u,hr,h4⟩:=qz9
   subst hr
   refine Zt3 h4 λ_ s5 qz9=>?_
   obtain⟨x,H5,I5,r5,y5,st5,fr5⟩:=qz9
   have I5':=I5.pinned (stat fr5) (T.obj _ _ st5)
   have hgg:=hg' _ s5 σ3 H5 x u _ I5' r5 (step x H5 y5)
   rw[hxe]at hgg
   refine Zt3 hgg λ_ s6 qz9=>?_
   obtain⟨σ6,H6,I6,q6⟩:=qz9
   have htt:=ht' _ s6 σ6 H6 _ I6 q6
   rw[hxe]at htt
   refine Zt3 htt λok s7 qz9=>?_
   obtain⟨H7,I7,q7⟩:=qz9
   have again:∀{σ7:St} {H7:Hp} {s7:Xf} {m:Nat},Inv X' ([] ++ Ze7 fp s5.heap) σ7 H7 s7->W (i+1) m σ7 H7->m<n->∃m,m<n∧∃i σ' H',Inv X' [] σ' H' s7∧tn i s7.heap∧(∀b∈fp,H' b=none)∧W i m σ' H':=fun{σ7 H7 s7 m} I7 w7 hm=>by
    refine⟨m,hm,i+1,σ7,H7,I7.unpinned,T.keep _ _ _ st5 λb hb o e=>(I7.pin (b,o) (Xy _ (Xy _ (Wu hb e)))).1,λb hb=>?_,w7⟩
    obtain⟨o,e,d⟩:=T.obj _ _ st5 b hb
    exact(I7.pin (b,o) (Xy _ (Xy _ (Wu hb e)))).2.1
   cases ok with
   | false=>
    obtain⟨m',hm,w7⟩:=q7
    rw[if_neg Xw]
    exact again I7 w7 hm
   | true=>
    rw[if_pos rfl]
    have hee:=he' _ s7 σ6 H7 _ I7 q7
    rw[hxe]at hee
    refine Zt3 hee λy s8 qz9=>?_
    obtain⟨vy,H8,I8,r8,ys,hD,hlen,m',hm,w8⟩:=qz9
    have hap:=Za6 (X:=X') _ s8 σ6 H8 (.ref s.heap.objs.size) [vy] (.ref s.heap.objs.size) [y] (λ_ H'=>W (i+1) m' σ6 H') I8 rfl (.cons r8 .nil) ⟨_,ys,vy,rfl,rfl,hD,hlen,w8⟩
    rw[hxe]at hap
    refine Zt3 hap λz s9 qz9=>?_
    obtain⟨_,H9,I9,_,w9⟩:=qz9
    exact again I9 w9 hm
 exact codeAny_compStart_list loop (T.self _ 0 _ _ _ st0 loop)
theorem Zwk(S:CompScope X own caps N' sc)(hc:X.calm=true)(hi:PI X tg iter wi)
  (hg:∀C cells s₂ H₂ fp,PG (Y0 X N' sc C cells s₂ H₂ fp) tg g) (ht:∀C cells s₂ H₂ fp,Zuy (Y0 X N' sc C cells s₂ H₂ fp) ifs tt) (he:∀C cells s₂ H₂ fp,PE (Y0 X N' sc C cells s₂ H₂ fp) elt te)
  (hs:∀x,BV iter X.env x=pure x:=by intro _;rfl):PE X (.ListComp elt [⟨tg,iter,ifs,0⟩] sc pos) (Zu6 own caps wi g tt te):=by
 intro pins s σ H Q I h
 rw[eval_ListComp]
 have hf:∀y∈sc.names,y.2= .free->∃c,X.env.cells.lookup y.1=some c:=λy hy e=>by
  obtain⟨n,k⟩:=y
  have e':k= .free:=e
  subst e'
  exact I.ok.has n (S.fr hy)
 refine wpAny_comprehension_free (use:=none) rfl hs (Zaq hf) S.kind (λy hy e=>by obtain⟨n,k⟩:=y;have e':k= .local:=e;subst e';exact S.lk hy) ?_
 refine thn (hi pins s σ H _ I h) λv s1 h1=>thn h1 λitv s2 h2=>?_
 obtain⟨it,fp,tn,J,H2,e,I2,T,st2,f2,q⟩:=h2
 subst e
 refine JK ?_
 refine thn (Zez (iter:=iter) (pos:=pos) (Qf:=compPost (X5 X.prog X.w) X.A X.xe none (EP X pins σ Q) (.ref s2.heap.objs.size) (s2.heap.objs.size+1)) S hc hg ht he I2 T st2 f2 (q s2.heap.objs.size I2.fresh) ?_) λcenv s4 ⟨hl,hr⟩=>?_
 ·intro s' σ' H' p' C cells I' eC q'
  subst eC
  obtain⟨m,hn,_⟩:=id I'.loc
  exact⟨m,hn,λh' hs'=>⟨.ref s2.heap.objs.size,H',Zjt I2 f2 I' hs',rfl,q'⟩⟩
 ·rw[←hl]at hr
  exact hr
end
section
variable {X:Cx}{own:List Str}{caps:List Nat}{N':List Str}{sc:Scope}{tg elt iter:Expr}{ifs:List Expr}{pos:Pos}{wi:TI}{g:TG}{tt:TT}{te:TE}
theorem Zj8{i:Nat}{y:Str}{py spos:Pos}(hN:X.N.Nodup)(hy:X.N[i]? =some y)(hx:Loc X.env.scope y)(S:CompScope X own caps N' sc)(hc:X.calm=true)(hi:PI X tg iter wi)
  (hg:∀C cells s₂ H₂ fp,PG (Y0 X N' sc C cells s₂ H₂ fp) tg g) (ht:∀C cells s₂ H₂ fp,Zuy (Y0 X N' sc C cells s₂ H₂ fp) ifs tt) (he:∀C cells s₂ H₂ fp,PE (Y0 X N' sc C cells s₂ H₂ fp) elt te)
  (hsw:Bx (.ListComp elt [⟨tg,iter,ifs,0⟩] sc pos) (some (.Name y py)) spos.line X.env=pure true:=by rfl)
  (hs:∀x,BV iter X.env x=pure x:=by intro _;rfl) (hf:X.fn y=true∨X.env.scope.names.lookup y=some .local:=by first|exact .inl rfl|exact .inr rfl|assumption) :
  PS X (.Assign [.Name y py] (.ListComp elt [⟨tg,iter,ifs,0⟩] sc pos) spos) (Zy2 (Zu6 own caps wi g tt te) (Znf i)):=by
 intro pins s σ H D I h
 have hfr:∀y∈sc.names,y.2= .free->∃c,X.env.cells.lookup y.1=some c:=λy hy e=>by
  obtain⟨n,k⟩:=y
  have e':k= .free:=e
  subst e'
  exact I.ok.has n (S.fr hy)
 rw[exec_Assign_Name_used _ _ _ _ hsw]
 refine Xb (wpAny_standAt (Xb ?_))
 show Xx _ X.A (do let _←comprehension (.ListComp elt [⟨tg,iter,ifs,0⟩] sc pos) sc X.env _ (newList []) false (eval iter X.env) (some (UL (.Name y py) X.env))) _ _ s
 refine Xb (QC (wpAny_comprehension_free (use:=some (UL (.Name y py) X.env)) (Q:=λ_ s'=>SP X pins D .next s') rfl hs (Zaq hfr) S.kind (λy hy e=>by obtain⟨n,k⟩:=y;have e':k= .local:=e;subst e';exact S.lk hy) ?_) (λ_ s' hq=>Xk (Xk hq)) λ_ _ e=>e)
 refine thn (hi pins s σ H _ I h) λv s1 h1=>thn h1 λitv s2 h2=>?_
 obtain⟨it,fp,tn,J,H2,e,I2,T,st2,f2,q⟩:=h2
 subst e
 refine JK ?_
 refine thn (Zez (iter:=iter) (pos:=pos) (Qf:=compPost (X5 X.prog X.w) X.A X.xe (some (UL (.Name y py) X.env)) (λ_ s'=>SP X pins D .next s') (.ref s2.heap.objs.size) (s2.heap.objs.size+1)) S hc hg ht he I2 T st2 f2 (q s2.heap.objs.size I2.fresh) ?_) λcenv s4 ⟨hl,hr⟩=>?_
 ·intro s' σ' H' p' C cells I' eC q'
  subst eC
  obtain⟨m,hn,_⟩:=id I'.loc
  have I3:Inv X pins σ H' s':=Zjt I2 f2 I' (.refl ..)
  show Xx _ X.A (UL (.Name y py) X.env (.ref s2.heap.objs.size)) _ _ s'
  refine wpAny_assign_Name (Zgf (v:=.ref s2.heap.objs.size) I3 hN hy hx rfl (λs5 I5 hsb=>?_) hf)
  have hC:s2.heap.objs.size<s2.heap.objs.size+1:=QL _
  have ltL:X.env.locals<s2.heap.objs.size:=I2.lt
  have ltC:∀x c,X.env.cells.lookup x=some c->c<s2.heap.objs.size:=λx c e=>by
   obtain⟨w',z⟩:=I2.cell x c e
   exact z.lt
  refine⟨m,?_,λh' hs'=>⟨σ.set i (some (.ref s2.heap.objs.size)),H',?_,q'⟩⟩
  ·obtain⟨a,hsa,ha⟩:=hsb
   refine hn.sameBut hsa ?_
   rcases ha with ha|ha
   ·rw[ha];exact X3 (BW ltL hC)
   ·exact X3 (BW (ltC _ _ ha) hC)
  ·refine I5.turned (t':=s5.toks) (it:=s2.heap.objs.size+1) (λb o hb e=>(hs'.2 b hb).trans e) I'.free (X3 (BW ltL hC)) (.inr (Qs I2.sz (Bu hC))) (λx c e=>Xo (BW (ltC x c e) hC)) λp hp=>?_
   obtain⟨e,_⟩:=I2.pin p hp
   exact Xo (BW (XH e) hC)
 ·rw[←hl]at hr
  exact hr
end
section
variable (n:Nat)(D:Addr)(Pv:Nat->List V->St->Hp->Prop)
variable {n D Pv}
end
mutual
inductive Is(H:Hp)(L:Addr->Prop):V->Xa->Prop where
 | non:Is H L .non .none
 | bl (b:Bool):Is H L (.bl b) (.bool b)
 | int (i:Int):Is H L (.int i) (.int i)
 | str (x:Str):Is H L (.str x) (.str x)
 | lst {a:Addr} {xs:List V} {ds:List Xa}:L a->H a=some (.lst xs)->IsAll H L xs ds->Is H L (.ref a) (.list ds)
 | tup {a:Addr} {xs:List V} {ds:List Xa}:H a=some (.tup xs)->IsAll H L xs ds->Is H L (.ref a) (.tuple ds)
inductive IsAll(H:Hp)(L:Addr->Prop):List V->List Xa->Prop where
 | nil:IsAll H L [] []
 | cons {x:V} {xs:List V} {d:Xa} {ds:List Xa}:Is H L x d->IsAll H L xs ds->IsAll H L (x :: xs) (d :: ds)
end
section
variable {H H':Hp}{L L':Addr->Prop}
theorem IsAll.ind{Q:List V->List Xa->Prop}(n:Q [] [])(c:∀{x:V} {xs:List V} {d:Xa} {ds:List Xa},Is H L x d->IsAll H L xs ds->Q xs ds->Q (x :: xs) (d :: ds)):∀{xs ds},IsAll H L xs ds->Q xs ds:=λh=>
 IsAll.rec (motive_1:=λ_ _ _=>True) (motive_2:=λxs ds _=>Q xs ds) trivial (λ_=>trivial) (λ_=>trivial) (λ_=>trivial) (λ_ _ _ _=>trivial) (λ_ _ _=>trivial) n (λp q _ r=>c p q r) h
theorem IsAll.length{xs:List V}{ds:List Xa}(h:IsAll H L xs ds):xs.length=ds.length:=IsAll.ind (Q:=λxs ds=>xs.length=ds.length) rfl (λ_ _ r=>congrArg (·+1) r) h
theorem IsAll.set{xs:List V}{ds:List Xa}{x:V}{d:Xa}(i:Nat)(h:IsAll H L xs ds)(k:Is H L x d):IsAll H L (xs.set i x) (ds.set i d) :=
 IsAll.ind (Q:=λxs ds=>∀i,IsAll H L (xs.set i x) (ds.set i d)) (λ_=>.nil) (λh q r i=>Nat.casesOn i (.cons k q) λi=>.cons h (r i)) h i
end
section
variable {X:Cx}{pins:List (Addr×Obj)}{σ:St}{H:Hp}{s:Xf}{L L':Addr->Prop}
end
noncomputable abbrev Shp(d:Xa):Prop:=UT d=true
section
variable {X:Cx}
end
mutual
noncomputable def Ym:Xa->Bool
 | .none=>true
 | .int _=>true
 | .str _=>true
 | .list ds=>Wz ds
 | .tuple ds=>Wz ds
 | _=>false
noncomputable def Wz:List Xa->Bool
 | []=>true
 | d :: ds=>Ym d&&Wz ds
end
mutual
theorem Zhz:∀(d e:Xa),Ym d=true->Ym e=true->(JV d e=true↔d=e)
 | .none,e,_,he=>by cases e<;>simp_all [JV,Ym]
 | .int i,e,_,he=>by cases e<;>simp_all [JV,Ym]
 | .str i,e,_,he=>by cases e<;>simp_all [JV,Ym]
 | .list ds,e,hd,he=>by
  cases e with
  | list es=>
   rw[Ym]at hd he
   rw[JV,Uq.injEq]
   exact Zb9 ds es hd he
  | _=>simp_all [JV,Ym]
 | .tuple ds,e,hd,he=>by
  cases e with
  | tuple es=>
   rw[Ym]at hd he
   rw[JV,Xa.tuple.injEq]
   exact Zb9 ds es hd he
  | _=>simp_all [JV,Ym]
 | .bool b,e,hd,_=>by simp[Ym]at hd
 | .dict b,e,hd,_=>by simp[Ym]at hd
theorem Zb9:∀(ds es:List Xa),Wz ds=true->Wz es=true->(PyData.eqvAll ds es=true↔ds=es)
 | [],[],_,_=>by simp[PyData.eqvAll]
 | [],_ :: _,_,_=>by simp[PyData.eqvAll]
 | _ :: _,[],_,_=>by simp[PyData.eqvAll]
 | d :: ds,e :: es,hd,he=>by
  rw[Wz,XN]at hd he
  rw[PyData.eqvAll,XN,Zhz d e hd.1 he.1,Zb9 ds es hd.2 he.2,List.cons.injEq]
end
theorem Zs9{d e:Xa}(h:Ym d=true)(k:Ym e=true)(q:d=e):JV d e=true:=(Zhz d e h k).mpr q
theorem Z1y{d e:Xa}(h:Ym d=true)(k:Ym e=true)(q:d≠e):JV d e=false:=BJ.mpr λz=>q ((Zhz d e h k).mp z)
noncomputable def fr(a b:Int):Xa:=.tuple [.int a,.int b]
noncomputable def frD(q:Rat):Xa:=fr q.num (q.den:Int)
noncomputable def BQ(n:Nat)(q:Rat):Prop:=Bt n q.num∧Bt n (q.den:Int)
theorem BQ.zero:BQ 1 0:=⟨by unfold Bt;decide,by unfold Bt;decide⟩
section
variable {X:Cx}{K:Xd}{a b o e:Expr}{ta tb tl to:TE}{pos:Pos}
theorem Zje(hK:X.K=K):IxR X (Z71 K):=hK▸Zo2
theorem Zt7(hK:X.K=K):IxR X (rIx K):=hK▸Zz8
theorem Zp4(hK:X.K=K):SlR X (Z8t K):=hK▸Zxv
noncomputable def Z9s(K:Xd):List V->Hp->VK->Prop:=λxs H Q=>∃p ys,xs=[.ref p]∧(SqL K H p ys∨SqT K H p ys)∧Q (.int ys.length) H
theorem Zoj(hK:X.K=K):Zbu X (.builtin "len") (Z9s K):=by subst hK;exact Zge
noncomputable def Zly(K:Xd):List V->Hp->VK->Prop:=λxs H Q=>∃p ys,xs=[.ref p]∧(SqL K H p ys∨SqT K H p ys)∧∀l,H l=none->Q (.ref l) (upd H l (.lst ys))
theorem Zj7(hK:X.K=K):Zbu X (.type "list") (Zly K):=by subst hK;exact Zha
noncomputable def Yan(K:Xd)(ta:TE):TT:=λσ H Q=>ta σ H λx H'=>∃k,Z6x K x H' k∧Q k H'
theorem Zvk(hK:X.K=K)(ha:PE X a ta)(he:∀whole,isTrue a X.env whole=(do let v←whole;standAt a.pos;holding [v] (truthy v))):PT X a (Yan K ta):=by subst hK;exact Zru ha he
theorem Zpj{tg l:Expr}(hK:X.K=K)(hl:PE X l tl):PI X tg l (Z2p K tl):=by subst hK;exact Zug hl
theorem Z1q(hK:X.K=K):OpR X (Q6 .In) (rIn K false):=by subst hK;exact Zmu
end
theorem Z0{H:Hp}{p:Addr}(h:H p=none)(o:HO):Same H (upd H p o):=λb u q=>by rw[Zi (Yd q h)];exact q
noncomputable def But(p:Addr)(H H':Hp):Prop:=∀b o,b≠p->H b=some o->H' b=some o
theorem But.upd(p:Addr)(H:Hp)(o:HO):But p H (upd H p o):=λb u n e=>by rw[Zi n];exact e
noncomputable def Pl(H:Hp)(p:Addr)(n:Nat):Prop:=∃a b c:Int,H p=some (.lst [.int a,.int b,.int c])∧0≤c∧c≤n
theorem Pl.at{H:Hp}{p:Addr}{n:Nat}(h:Pl H p n):∃xs,H p=some (.lst xs):=by
 obtain⟨a,b,c,e,h1,h2⟩:=h
 exact⟨_,e⟩
namespace B
theorem boot_abs:Qo "abs"=some (.builtin "abs"):=by decide +kernel
theorem boot_len:Qo "len"=some (.builtin "len"):=by decide +kernel
theorem boot_max:Qo "max"=some (.builtin "max"):=by decide +kernel
theorem boot_min:Qo "min"=some (.builtin "min"):=by decide +kernel
theorem boot_isinstance:Qo "isinstance"=some (.builtin "isinstance"):=by decide +kernel
theorem boot_sorted:Qo "sorted"=some (.builtin "sorted"):=by decide +kernel
theorem boot_int:Qo "int"=some (.type "int"):=by decide +kernel
theorem boot_bool:Qo "bool"=some (.type "bool"):=by decide +kernel
theorem boot_list:Qo "list"=some (.type "list"):=by decide +kernel
theorem boot_tuple:Qo "tuple"=some (.type "tuple"):=by decide +kernel
theorem boot_range:Qo "range"=some (.type "range"):=by decide +kernel
theorem boot_zip:Qo "zip"=some (.type "zip"):=by decide +kernel
theorem boot_set:Qo "set"=some (.type "set"):=by decide +kernel
end B
theorem Zjx{a b:Int}(hb:0<b):a.fmod b=a%b:=Int.fmod_eq_emod_of_nonneg a (by omega)
theorem Z00:(2:Nat)≤Xr:=by decide
theorem BQ.n{n:Nat}{q:Rat}(h:BQ n q):Bt n q.num:=h.1
theorem BQ.d{n:Nat}{q:Rat}(h:BQ n q):Bt n (q.den:Int):=h.2
variable {G:Xd}
noncomputable def KS(G:Xd)(a:Addr)(ns:List Int):Prop:=∃(o:Obj) (its:Array Xc) (n:Nat),G.lookup a=some o∧o.cls= .type "list"∧o.dict=none∧o.data= .seq its n∧its.size≤Xr∧Vals (ns.map V.int) its.toList
theorem KS.sq{G:Xd}{H:Hp}{a:Addr}{ns:List Int}(h:KS G a ns):SqL G H a (ns.map V.int):=.inr h
noncomputable def exD(x:Str):Xa:=.dict [(.str x,.none)]
noncomputable def fnD(x:Str):Xa:=.dict [(.str x,.bool true)]
noncomputable def Zd7:Xa->Bool| .dict ((_,.bool _) :: _)=>true|_=>false
noncomputable def ClsAt(G:Xd)(x:Str)(C:Addr):Prop:=Ql G Qa x=some (some (.ref C))
structure Zfx(G:Xd)(C:Addr):Prop where
 ga:JC G (.ref C) "__getattribute__"=some (some (.builtin "BaseException.__getattribute__"))
 gt:JC G (.ref C) "__getattr__"=some none
 cl:JC G (.ref C) "__class__"=some (some (.builtin "object.__class__"))
 isB:Uk G (.ref C) (.type "BaseException")=some true
 isO:Uk G (.ref C) (.type "object")=some true
 isC:(PySem.W.clsIn G C).isSome=true
 k1:QM G (.ref C) (.type "int")=some false
 k2:QM G (.ref C) (.type "bool")=some false
 k3:QM G (.ref C) (.type "str")=some false
 k4:QM G (.ref C) (.type "list")=some false
 k5:QM G (.ref C) (.type "tuple")=some false
noncomputable def ExO(C a:Addr)(h:Heap):Prop:=∃o vs,h.get? a=some o∧o.cls= .ref C∧o.data= .fields vs
inductive ImO where
 | tup (xs:List V)
 | ext (φ:Heap->Prop)
noncomputable def ImO.ho:ImO->HO
 | .tup xs=>.tup xs
 | .ext φ=>.ext φ
inductive MuO where
 | lst (xs:List V)
 | dK (kvs:List (Key×V))
 | dT (kvs:List (List Key×V))
noncomputable def MuO.ho:MuO->HO
 | .lst xs=>.lst xs
 | .dK kvs=>.dK kvs
 | .dT kvs=>.dT kvs
noncomputable def Z10:Key->Xa
 | .inl i=>.int i
 | .inr x=>.str x
noncomputable def keyT(ks:List Key):Xa:=.tuple (ks.map Z10)
noncomputable abbrev KY:=Sum Key (List Key)
noncomputable def kyD:KY->Xa
 | .inl k=>Z10 k
 | .inr ks=>keyT ks
noncomputable def MuO.dic(t:Bool)(ks:List KY)(xs:List V):MuO->Prop
 | .lst _=>False
 | .dK kvs=>t=false∧ks=kvs.map (λp=>.inl p.1)∧xs=kvs.map (·.2)
 | .dT kvs=>t=true∧ks=kvs.map (λp=>.inr p.1)∧xs=kvs.map (·.2)
noncomputable def dcD(t:Bool)(ks:List KY)(ds:List Xa):Xa:=.dict ((.none,.bool t) :: (ks.map kyD).zip ds)
theorem ImO.nm{H:Hp}{a:Addr}{x:ImO}{y:MuO}(h:H a=some x.ho)(h':H a=some y.ho):False:=by
 rw[h]at h'
 cases x<;>cases y<;>cases h'
theorem ImO.nl{H:Hp}{a:Addr}{x:ImO}{ys:List V}(h:H a=some x.ho)(h':H a=some (.lst ys)):False:=by
 rw[h]at h'
 cases x<;>cases h'
mutual
inductive Da(G:Xd)(H:Hp)(L:Addr->Prop):V->Xa->Prop where
 | non:Da G H L .non .none
 | bl (b:Bool):Da G H L (.bl b) (.bool b)
 | int (i:Int):Da G H L (.int i) (.int i)
 | str (x:Str):Da G H L (.str x) (.str x)
 | lst {a:Addr} {xs:List V} {ds:List Xa}:L a->Rd H a (.lst xs)->Das G H L xs ds->Da G H L (.ref a) (.list ds)
 | tup {a:Addr} {xs:List V} {ds:List Xa}:H a=some (.tup xs)->Das G H L xs ds->Da G H L (.ref a) (.tuple ds)
 | scr {a:Addr} {ns:List Int}:KS G a ns->Da G H L (.ref a) (.list (ns.map XM))
 | exc {a C:Addr} {x:Str}:Zfx G C->ClsAt G x C->H a=some (.ext (ExO C a))->Da G H L (.ref a) (exD x)
 | fn {a:Addr} {x:Str}:ClsAt G x a->Da G H L (.ref a) (fnD x)
 | dic {a:Addr} {o:MuO} {t:Bool} {ks:List KY} {xs:List V} {ds:List Xa}:L a->Rd H a o.ho->o.dic t ks xs->Das G H L xs ds->Da G H L (.ref a) (dcD t ks ds)
inductive Das(G:Xd)(H:Hp)(L:Addr->Prop):List V->List Xa->Prop where
 | nil:Das G H L [] []
 | cons {x:V} {xs:List V} {d:Xa} {ds:List Xa}:Da G H L x d->Das G H L xs ds->Das G H L (x :: xs) (d :: ds)
end
section
variable {H H':Hp}{L L':Addr->Prop}
theorem Da.both{P:V->Xa->Prop}{Q:List V->List Xa->Prop}(c1:P .non .none)(c2:∀b,P (.bl b) (.bool b))(c3:∀i,P (.int i) (.int i))(c4:∀x,P (.str x) (.str x))
  (c5:∀{a:Addr} {xs:List V} {ds:List Xa},L a->Rd H a (.lst xs)->Q xs ds->P (.ref a) (.list ds)) (c6:∀{a:Addr} {xs:List V} {ds:List Xa},H a=some (.tup xs)->Q xs ds->P (.ref a) (.tuple ds))
  (c7:∀{a:Addr} {ns:List Int},KS G a ns->P (.ref a) (.list (ns.map XM))) (c8:∀{a C:Addr} {x:Str},Zfx G C->ClsAt G x C->H a=some (.ext (ExO C a))->P (.ref a) (exD x)) (c9:∀{a:Addr} {x:Str},ClsAt G x a->P (.ref a) (fnD x))
  (c10:∀{a:Addr} {o:MuO} {t:Bool} {ks:List KY} {xs:List V} {ds:List Xa},L a->Rd H a o.ho->o.dic t ks xs->Q xs ds->P (.ref a) (dcD t ks ds)) (n:Q [] []) (c:∀{x:V} {xs:List V} {d:Xa} {ds:List Xa},P x d->Q xs ds->Q (x :: xs) (d :: ds)):(∀{v d},Da G H L v d->P v d)∧∀{xs ds},Das G H L xs ds->Q xs ds :=
 ⟨λh=>Da.rec (motive_1:=λv d _=>P v d) (motive_2:=λxs ds _=>Q xs ds) c1 c2 c3 c4 (λp e _ r=>c5 p e r) (λe _ r=>c6 e r) (λk=>c7 k) (λk l m=>c8 k l m) (λk=>c9 k) (λp e k _ r=>c10 p e k r) n (λ_ _ p q=>c p q) h,
   λh=>Das.rec (motive_1:=λv d _=>P v d) (motive_2:=λxs ds _=>Q xs ds) c1 c2 c3 c4 (λp e _ r=>c5 p e r) (λe _ r=>c6 e r) (λk=>c7 k) (λk l m=>c8 k l m) (λk=>c9 k) (λp e k _ r=>c10 p e k r) n (λ_ _ p q=>c p q) h⟩
theorem Das.ind{Q:List V->List Xa->Prop}(n:Q [] [])(c:∀{x:V} {xs:List V} {d:Xa} {ds:List Xa},Da G H L x d->Das G H L xs ds->Q xs ds->Q (x :: xs) (d :: ds)):∀{xs ds},Das G H L xs ds->Q xs ds:=λh=>
 Das.rec (motive_1:=λ_ _ _=>True) (motive_2:=λxs ds _=>Q xs ds) trivial (λ_=>trivial) (λ_=>trivial) (λ_=>trivial) (λ_ _ _ _=>trivial) (λ_ _ _=>trivial) (λ_=>trivial) (λ_ _ _=>trivial) (λ_=>trivial) (λ_ _ _ _ _=>trivial) n (λp q _ r=>c p q r) h
theorem Da.frame2(hl:∀a (xs:MuO),L a->Rd H a xs.ho->L' a∧Rd H' a xs.ho)(ht:∀a (xs:ImO),H a=some xs.ho->H' a=some xs.ho):(∀{v:V} {d:Xa},Da G H L v d->Da G H' L' v d)∧∀{xs:List V} {ds:List Xa},Das G H L xs ds->Das G H' L' xs ds :=
 Da.both .non .bl .int .str (fun{_ xs _} p e r=>.lst (hl _ (.lst xs) p e).1 (hl _ (.lst xs) p e).2 r) (fun{_ xs _} e r=>.tup (ht _ (.tup xs) e) r) .scr (λc n e=>.exc c n (ht _ (.ext _) e)) .fn (λp e k r=>.dic (hl _ _ p e).1 (hl _ _ p e).2 k r) .nil .cons
theorem Da.frame(hl:∀a (xs:MuO),L a->Rd H a xs.ho->L' a∧Rd H' a xs.ho)(ht:∀a (xs:ImO),H a=some xs.ho->H' a=some xs.ho){v:V}{d:Xa}(h:Da G H L v d):Da G H' L' v d:=(Da.frame2 hl ht).1 h
theorem Das.frame(hl:∀a (xs:MuO),L a->Rd H a xs.ho->L' a∧Rd H' a xs.ho)(ht:∀a (xs:ImO),H a=some xs.ho->H' a=some xs.ho){xs:List V}{ds:List Xa}(h:Das G H L xs ds):Das G H' L' xs ds:=(Da.frame2 hl ht).2 h
theorem Rd.same{a:Addr}{u:HO}(s:Same H H')(h:Rd H a u):Rd H' a u:=h.imp (s _ _) λ⟨o,h⟩=>⟨o,s _ _ h⟩
theorem Rd.some{a:Addr}{u:HO}(h:Rd H a u):H a≠Option.none:=by
 rcases h with h|⟨o,h⟩<;>rw[h]<;>intro z<;>cases z
theorem Da.same(h:Same H H'){v:V}{d:Xa}(x:Da G H L v d):Da G H' L v d:=x.frame (λa xs p e=>⟨p,e.same h⟩) λa xs e=>h _ _ e
theorem Das.same(h:Same H H'){v:List V}{d:List Xa}(x:Das G H L v d):Das G H' L v d:=x.frame (λa xs p e=>⟨p,e.same h⟩) λa xs e=>h _ _ e
theorem Da.wide(h:∀a,L a->H a≠none->L' a){v:V}{d:Xa}(x:Da G H L v d):Da G H L' v d:=x.frame (λa xs p e=>⟨h a p e.some,e⟩) λa xs e=>e
theorem Das.wide(h:∀a,L a->H a≠none->L' a){v:List V}{d:List Xa}(x:Das G H L v d):Das G H L' v d:=x.frame (λa xs p e=>⟨h a p e.some,e⟩) λa xs e=>e
theorem Das.length{xs:List V}{ds:List Xa}(h:Das G H L xs ds):xs.length=ds.length:=Das.ind (Q:=λxs ds=>xs.length=ds.length) rfl (λ_ _ r=>congrArg (·+1) r) h
theorem Das.append{xs ys:List V}{ds es:List Xa}(h:Das G H L xs ds)(k:Das G H L ys es):Das G H L (xs ++ ys) (ds ++ es):=Das.ind (Q:=λxs ds=>Das G H L (xs ++ ys) (ds ++ es)) k (λh _ r=>.cons h r) h
theorem Das.snoc{xs:List V}{ds:List Xa}{x:V}{d:Xa}(h:Das G H L xs ds)(k:Da G H L x d):Das G H L (xs ++ [x]) (ds ++ [d]):=h.append (.cons k .nil)
theorem Das.get{xs:List V}{ds:List Xa}{i:Nat}{d:Xa}(h:Das G H L xs ds):ds[i]? =some d->∃x,xs[i]? =some x∧Da G H L x d :=
 Das.ind (Q:=λxs ds=>∀i,ds[i]? =some d->∃x,xs[i]? =some x∧Da G H L x d) (λ_ e=>(Uy _ (e.symm.trans Ue)).elim) (fun{x _ _ _} h _ r i=>Nat.casesOn i (λe=>⟨x,rfl,QB e▸h⟩) λi e=>r i e) h i
theorem Das.get'{xs:List V}{ds:List Xa}{i:Nat}{x:V}(h:Das G H L xs ds):xs[i]? =some x->∃d,ds[i]? =some d∧Da G H L x d :=
 Das.ind (Q:=λxs ds=>∀i,xs[i]? =some x->∃d,ds[i]? =some d∧Da G H L x d) (λ_ e=>(Uy _ (e.symm.trans Ue)).elim) (fun{_ _ d _} h _ r i=>Nat.casesOn i (λe=>⟨d,rfl,QB e▸h⟩) λi e=>r i e) h i
theorem Das.take{xs:List V}{ds:List Xa}(n:Nat)(h:Das G H L xs ds):Das G H L (xs.take n) (ds.take n) :=
 Das.ind (Q:=λxs ds=>∀n,Das G H L (xs.take n) (ds.take n)) (λn=>by rw[List.take_nil,List.take_nil];exact .nil) (λh _ r n=>Nat.casesOn n .nil λn=>.cons h (r n)) h n
theorem Das.drop{xs:List V}{ds:List Xa}(n:Nat)(h:Das G H L xs ds):Das G H L (xs.drop n) (ds.drop n) :=
 Das.ind (Q:=λxs ds=>∀n,Das G H L (xs.drop n) (ds.drop n)) (λn=>by rw[List.drop_nil,List.drop_nil];exact .nil) (λh q r n=>Nat.casesOn n (.cons h q) λn=>r n) h n
theorem Das.ints(ns:List Int):Das G H L (ns.map V.int) (ns.map XM):=by
 induction ns with
 | nil=>exact .nil
 | cons n ns ih=>exact .cons (.int n) ih
theorem Das.int_inv{xs:List V}{ns:List Int}(h:Das G H L xs (ns.map XM)):xs=ns.map V.int:=by
 induction ns generalizing xs with
 | nil=>cases h;rfl
 | cons n ns ih=>
  rw[Qg]at h
  cases h with
  | cons h r=>cases h;rw[ih r];rfl
end
theorem Zkg{h:Heap}(ns:List Int){us:List Xc}(v:Vals (ns.map V.int) us):∃as,ReadsAll h us (ns.map XM) as:=by
 induction ns generalizing us with
 | nil=>cases v;exact⟨_,.nil⟩
 | cons n ns ih=>
  rw[Qg]at v
  cases v with
  | cons r rs=>
   obtain⟨t,e⟩:=(show∃t,_=Um n t from r)
   subst e
   obtain⟨bs,k'⟩:=ih rs
   exact⟨_,.cons (.int n t) k'⟩
section
variable {X:Cx}{pins:List (Addr×Obj)}{σ:St}{H:Hp}{s:Xf}{L L':Addr->Prop}
theorem Da.reads2(hG:X.K=G)(I:Inv X pins σ H s):(∀{v:V} {d:Xa},Da G H L v d->∀u,RelV v u->d.canLay0=true->∃as,Reads s.heap u d as)∧∀{xs:List V} {ds:List Xa},Das G H L xs ds->∀us,Vals xs us->Ub ds=true->∃as,ReadsAll s.heap us ds as:=by
 refine Da.both ?_ ?_ ?_ ?_ ?_ ?_ ?_ ?_ ?_ ?_ ?_ ?_
 ·intro u r _
  cases(show _=QK from r)
  exact⟨_,.none⟩
 ·intro b u r _
  cases(show _=Value.bool b from r)
  exact⟨_,.bool b⟩
 ·intro i u r _
  obtain⟨t,e⟩:=(show∃t,_=Um i t from r)
  subst e
  exact⟨_,.int i t⟩
 ·intro x u r _
  obtain⟨t,e⟩:=(show∃t,_=Value.str x t from r)
  subst e
  exact⟨_,.str x t⟩
 ·intro a xs ds _ e q u r hcl
  cases(show _=Xu a from r)
  obtain⟨_,its,n,vs,h1⟩:=(show ObjOk X.prog X.w H s.heap a (.lst xs)from e.ok I.hok)
  rw[BZ]at hcl
  obtain⟨as,k⟩:=q _ vs hcl
  exact⟨_,Reads.list h1 rfl rfl k⟩
 ·intro a xs ds e q u r hcl
  cases(show _=Xu a from r)
  obtain⟨_,its,vs,o,ho,hc,n,hd⟩:=(show ObjOk X.prog X.w H s.heap a (.tup xs)from I.hok a _ e)
  rw[BZ]at hcl
  obtain⟨as,k⟩:=q _ vs hcl
  exact⟨_,Reads.tuple ho hc hd k⟩
 ·intro a ns k u r _
  cases(show _=Xu a from r)
  subst hG
  obtain⟨its,vs,⟨o,n,ho,hc,hd,hs⟩,_⟩:=I.list (k.sq (H:=H))
  obtain⟨as,q⟩:=Zkg ns vs
  exact⟨_,Reads.list ho hc hs q⟩
 ·intro a C x _ _ e u r hc
  rw[exD,BZ]at hc
  cases hc
 ·intro a x _ u r hc
  rw[fnD,BZ]at hc
  cases hc
 ·intro a o t ks xs ds _ _ _ _ u r hc
  rw[dcD,BZ]at hc
  cases hc
 ·intro us v _
  cases v
  exact⟨_,.nil⟩
 ·intro x xs d ds h q us v hc
  cases v with
  | cons r rs=>
   rw[Ub,XN]at hc
   obtain⟨as,k⟩:=h _ r hc.1
   obtain⟨bs,k'⟩:=q _ rs hc.2
   exact⟨_,.cons k k'⟩
theorem Da.reads(hG:X.K=G)(I:Inv X pins σ H s){v:V}{d:Xa}{u:Xc}(h:Da G H L v d)(r:RelV v u)(c:d.canLay0=true):∃as,Reads s.heap u d as:=(Da.reads2 hG I).1 h u r c
end
inductive OT where
 | fz (d:Xa)
 | nd (ts:List OT)
 | tp (ts:List OT)
 | dc (t:Bool) (ks:List KY) (ds:List Xa)
mutual
noncomputable def OT.data:OT->Xa
 | .fz d=>d
 | .nd ts=>.list (OT.datas ts)
 | .tp ts=>.tuple (OT.datas ts)
 | .dc t ks ds=>dcD t ks ds
noncomputable def OT.datas:List OT->List Xa
 | []=>[]
 | t :: ts=>t.data :: OT.datas ts
end
theorem OT.datas_map:∀(ts:List OT),OT.datas ts=ts.map OT.data
 | []=>rfl
 | t :: ts=>by rw[OT.datas,OT.datas_map ts];rfl
@[simp] theorem OT.data_fz(d:Xa):(OT.fz d).data=d:=by rw[OT.data]
@[simp] theorem OT.data_nd(ts:List OT):(OT.nd ts).data= .list (ts.map OT.data):=by rw[OT.data,OT.datas_map]
@[simp] theorem OT.data_tp(ts:List OT):(OT.tp ts).data= .tuple (ts.map OT.data):=by rw[OT.data,OT.datas_map]
theorem OT.data_dc(t:Bool)(ks:List KY)(ds:List Xa):(OT.dc t ks ds).data=dcD t ks ds:=by rw[OT.data]
@[simp] theorem OT.map_fz(ds:List Xa):(ds.map OT.fz).map OT.data=ds:=by
 rw[Qq]
 exact(Qe λd _=>OT.data_fz d).trans (List.map_id _)
mutual
inductive Own(G:Xd)(H:Hp)(L:Addr->Prop):V->OT->List Addr->Prop where
 | fz {v:V} {d:Xa}:Da G H L v d->Own G H L v (.fz d) []
 | nd {a:Addr} {xs:List V} {ts:List OT} {bs:List Addr}:H a=some (.lst xs)->Owns G H L xs ts bs->Own G H L (.ref a) (.nd ts) (a :: bs)
 | tp {a:Addr} {xs:List V} {ts:List OT} {bs:List Addr}:H a=some (.tup xs)->Owns G H L xs ts bs->Own G H L (.ref a) (.tp ts) bs
 | dc {a:Addr} {o:MuO} {t:Bool} {ks:List KY} {xs:List V} {ds:List Xa}:H a=some o.ho->o.dic t ks xs->Das G H L xs ds->Own G H L (.ref a) (.dc t ks ds) [a]
inductive Owns(G:Xd)(H:Hp)(L:Addr->Prop):List V->List OT->List Addr->Prop where
 | nil:Owns G H L [] [] []
 | cons {x:V} {xs:List V} {t:OT} {ts:List OT} {as bs:List Addr}:Own G H L x t as->Owns G H L xs ts bs->Owns G H L (x :: xs) (t :: ts) (as ++ bs)
end
section
variable {H H':Hp}{L L':Addr->Prop}
theorem Own.both{P:V->OT->List Addr->Prop}{Q:List V->List OT->List Addr->Prop}(c1:∀{v:V} {d:Xa},Da G H L v d->P v (.fz d) [])(c2:∀{a:Addr} {xs:List V} {ts:List OT} {bs:List Addr},H a=some (.lst xs)->Q xs ts bs->P (.ref a) (.nd ts) (a :: bs))
  (c3:∀{a:Addr} {xs:List V} {ts:List OT} {bs:List Addr},H a=some (.tup xs)->Q xs ts bs->P (.ref a) (.tp ts) bs) (c4:∀{a:Addr} {o:MuO} {t:Bool} {ks:List KY} {xs:List V} {ds:List Xa},H a=some o.ho->o.dic t ks xs->Das G H L xs ds->P (.ref a) (.dc t ks ds) [a]) (n:Q [] [] []) (c:∀{x:V} {xs:List V} {t:OT} {ts:List OT} {as bs:List Addr},P x t as->Q xs ts bs->Q (x :: xs) (t :: ts) (as ++ bs)) :
  (∀ {v t as},Own G H L v t as->P v t as)∧∀{xs ts as},Owns G H L xs ts as->Q xs ts as :=
 ⟨λh=>Own.rec (motive_1:=λv t as _=>P v t as) (motive_2:=λxs ts as _=>Q xs ts as) c1 (λe _ r=>c2 e r) (λe _ r=>c3 e r) (λe k r=>c4 e k r) n (λ_ _ p q=>c p q) h,
   λh=>Owns.rec (motive_1:=λv t as _=>P v t as) (motive_2:=λxs ts as _=>Q xs ts as) c1 (λe _ r=>c2 e r) (λe _ r=>c3 e r) (λe k r=>c4 e k r) n (λ_ _ p q=>c p q) h⟩
theorem Own.frame2(hl:∀a (xs:MuO),L a->Rd H a xs.ho->L' a∧Rd H' a xs.ho)(ht:∀a (xs:ImO),H a=some xs.ho->H' a=some xs.ho) :
  (∀ {v:V} {t:OT} {as:List Addr},Own G H L v t as->(∀a∈as,∀xs:MuO,H a=some xs.ho->H' a=some xs.ho)->Own G H' L' v t as)∧∀{xs:List V} {ts:List OT} {as:List Addr},Owns G H L xs ts as->(∀a∈as,∀xs:MuO,H a=some xs.ho->H' a=some xs.ho)->Owns G H' L' xs ts as :=
 Own.both (λh _=>.fz (h.frame hl ht)) (fun{_ xs _ _} e r ha=>.nd (ha _ (.head _) (.lst xs) e) (r λa m=>ha a (.tail _ m))) (fun{_ xs _ _} e r ha=>.tp (ht _ (.tup xs) e) (r ha)) (λe k r ha=>.dc (ha _ (.head _) _ e) k (r.frame hl ht)) (λ_=>.nil) (λh r ha=>.cons (h λa m=>ha a (X7 _ m)) (r λa m=>ha a (Xy _ m)))
theorem Own.frame(hl:∀a (xs:MuO),L a->Rd H a xs.ho->L' a∧Rd H' a xs.ho)(ht:∀a (xs:ImO),H a=some xs.ho->H' a=some xs.ho){v:V}{t:OT}{as:List Addr}(ha:∀a∈as,∀xs:MuO,H a=some xs.ho->H' a=some xs.ho)(h:Own G H L v t as):Own G H' L' v t as:=(Own.frame2 hl ht).1 h ha
theorem Owns.frame(hl:∀a (xs:MuO),L a->Rd H a xs.ho->L' a∧Rd H' a xs.ho)(ht:∀a (xs:ImO),H a=some xs.ho->H' a=some xs.ho){xs:List V}{ts:List OT}{as:List Addr}(ha:∀a∈as,∀xs:MuO,H a=some xs.ho->H' a=some xs.ho)(h:Owns G H L xs ts as):Owns G H' L' xs ts as:=(Own.frame2 hl ht).2 h ha
theorem Own.same(h:Same H H'){v:V}{t:OT}{as:List Addr}(x:Own G H L v t as):Own G H' L v t as:=x.frame (λa xs p e=>⟨p,e.same h⟩) (λa xs e=>h _ _ e) λa _ xs e=>h _ _ e
theorem Own.wide(h:∀a,L a->H a≠none->L' a){v:V}{t:OT}{as:List Addr}(x:Own G H L v t as):Own G H L' v t as:=x.frame (λa xs p e=>⟨h a p e.some,e⟩) (λa xs e=>e) λa _ xs e=>e
theorem Owns.wide(h:∀a,L a->H a≠none->L' a){v:List V}{t:List OT}{as:List Addr}(x:Owns G H L v t as):Owns G H L' v t as:=x.frame (λa xs p e=>⟨h a p e.some,e⟩) (λa xs e=>e) λa _ xs e=>e
theorem Owns.same(h:Same H H'){v:List V}{t:List OT}{as:List Addr}(x:Owns G H L v t as):Owns G H' L v t as:=x.frame (λa xs p e=>⟨p,e.same h⟩) (λa xs e=>h _ _ e) λa _ xs e=>h _ _ e
theorem Own.da2(h:∀a,L a->H a≠none->L' a):(∀{v:V} {t:OT} {as:List Addr},Own G H L v t as->(∀a∈as,L' a)->Da G H L' v t.data)∧∀{v:List V} {t:List OT} {as:List Addr},Owns G H L v t as->(∀a∈as,L' a)->Das G H L' v (OT.datas t) :=
 Own.both (λk _=>by rw[OT.data_fz];exact k.wide h) (λe r ha=>by rw[OT.data];exact .lst (ha _ (.head _)) (.inl e) (r λa m=>ha a (.tail _ m))) (λe r ha=>by rw[OT.data];exact .tup e (r ha)) (λe k r ha=>by rw[OT.data];exact .dic (ha _ (.head _)) (.inl e) k (r.wide h)) (λ_=>.nil) (λk r ha=>.cons (k λa m=>ha a (X7 _ m)) (r λa m=>ha a (Xy _ m)))
theorem Own.da(h:∀a,L a->H a≠none->L' a){v:V}{t:OT}{as:List Addr}(ha:∀a∈as,L' a)(k:Own G H L v t as):Da G H L' v t.data:=(Own.da2 h).1 k ha
theorem Owns.das(h:∀a,L a->H a≠none->L' a){v:List V}{t:List OT}{as:List Addr}(ha:∀a∈as,L' a)(k:Owns G H L v t as):Das G H L' v (OT.datas t):=(Own.da2 h).2 k ha
theorem Own.some2:(∀{v:V} {t:OT} {as:List Addr},Own G H L v t as->∀a∈as,∃xs:MuO,H a=some xs.ho)∧∀{v:List V} {t:List OT} {as:List Addr},Owns G H L v t as->∀a∈as,∃xs:MuO,H a=some xs.ho :=
 Own.both (λ_ _ m=>nomatch m) (fun{_ xs _ _} e r a m=>(Xn.mp m).elim (λq=>⟨.lst xs,q▸e⟩) (r a)) (λ_ r=>r) (fun{_ o _ _ _ _} e _ _ a m=>⟨o,Xm.mp m▸e⟩) (λ_ m=>nomatch m) (λk r a m=>(Qc.mp m).elim (k a) (r a))
theorem Own.some{v:V}{t:OT}{as:List Addr}(h:Own G H L v t as):∀a∈as,∃xs:MuO,H a=some xs.ho:=Own.some2.1 h
theorem Owns.some{v:List V}{t:List OT}{as:List Addr}(h:Owns G H L v t as):∀a∈as,∃xs:MuO,H a=some xs.ho:=Own.some2.2 h
theorem Owns.length{xs:List V}{ts:List OT}{as:List Addr}(h:Owns G H L xs ts as):xs.length=ts.length:=(Own.both (P:=λ_ _ _=>True) (Q:=λxs ts _=>xs.length=ts.length) (λ_=>trivial) (λ_ _=>trivial) (λ_ _=>trivial) (λ_ _ _=>trivial) rfl (λ_ r=>congrArg (·+1) r)).2 h
theorem Das.owns{xs:List V}{ds:List Xa}(h:Das G H L xs ds):Owns G H L xs (ds.map OT.fz) []:=Das.ind (Q:=λxs ds=>Owns G H L xs (ds.map OT.fz) []) .nil (λh _ r=>.cons (.fz h) r) h
end
variable {G:Xd}
noncomputable abbrev Zd:=List (Option OT)
noncomputable abbrev Fp:=Nat->List Addr
set_option genInjectivity false in
structure MC(G:Xd) where
 H₀:Hp
 as₀:Addr->Prop
 L:Addr->Prop
 σ₀:St
noncomputable def Foot(fp:Fp)(a:Addr):Prop:=∃i,a∈fp i
noncomputable def Lf(C:MC G)(fp:Fp)(ex:Addr->Prop)(a:Addr):Prop:=¬Foot fp a∧¬ex a∧(C.L a∨C.H₀ a=none)
structure Rel(C:MC G)(io:List Nat)(H:Hp)(σ:St)(δ:Zd)(fp:Fp)(ex:Addr->Prop):Prop where
 len:σ.length=δ.length
 own:∀(i:Nat) (t:OT),δ[i]? =some (some t)->∃v,σ[i]? =some (some v)∧Own G H (Lf C fp ex) v t (fp i)
 emp:∀i:Nat,(∀t,δ[i]? ≠some (some t))->fp i=[]
 nd:∀i,(fp i).Nodup
 dj:∀i j a,a∈fp i->a∈fp j->i=j
 dx:∀i a,a∈fp i->¬ex a
 xa:∀a,ex a->H a≠none
 fr:∀b o,C.H₀ b=some o->¬C.as₀ b->H b=some o
 al:∀b,H b=none->C.H₀ b=none
 new:∀i a,a∈fp i->(i∈io∧C.as₀ a)∨C.H₀ a=none
 io:∀i∈io,σ[i]? =C.σ₀[i]?
structure Stp(p:Bool)(H:Hp)(δ:Zd)(fp:Fp)(H':Hp)(δ':Zd)(fp':Fp):Prop where
 keep:∀b o,H b=some o->(p=true∨¬Foot fp b)->H' b=some o
 env:p=true->δ'=δ∧fp'=fp
 grow:∀a,Foot fp' a->Foot fp a∨H a=none
 al:∀b,H' b=none->H b=none
section
variable {C:MC G}{io:List Nat}{H H' H'':Hp}{σ:St}{δ δ' δ'':Zd}{fp fp' fp'':Fp}{ex ex':Addr->Prop}{p p' c:Bool}{v:V}{d:Xa}{r:OT}{new:List Addr}
theorem Rel.foot(R:Rel C io H σ δ fp ex){a:Addr}(h:Foot fp a):∃xs:MuO,H a=some xs.ho:=by
 obtain⟨i,h⟩:=h
 by_cases q:∃t,δ[i]? =some (some t)
 ·obtain⟨t,q⟩:=q
  obtain⟨v,_,o⟩:=R.own i t q
  exact o.some a h
 ·rw[R.emp i (λt z=>q ⟨t,z⟩)]at h
  exact nomatch h
theorem Rel.footSome(R:Rel C io H σ δ fp ex){a:Addr}(h:H a=none):¬Foot fp a:=λz=>by
 obtain⟨xs,e⟩:=R.foot z
 rw[h]at e
 cases e
theorem Stp.refl(p:Bool)(H:Hp)(δ:Zd)(fp:Fp):Stp p H δ fp H δ fp:=⟨λ_ _ h _=>h,λ_=>⟨rfl,rfl⟩,λ_ h=>.inl h,λ_ h=>h⟩
theorem Stp.same(h:Same H H')(hn:∀b,H' b=none->H b=none):Stp p H δ fp H' δ fp:=⟨λ_ _ q _=>h _ _ q,λ_=>⟨rfl,rfl⟩,λ_ h=>.inl h,hn⟩
theorem Same.al(h:Same H H'):∀b,H' b=none->H b=none:=λ_ q=>h.free q
theorem Stp.trans(a:Stp p H δ fp H' δ' fp')(b:Stp p' H' δ' fp' H'' δ'' fp''):Stp (p&&p') H δ fp H'' δ'' fp'' where
 keep:=λx o e h=>by
  rcases h with h|h
  ·rw[XN]at h
   exact b.keep x o (a.keep x o e (.inl h.1)) (.inl h.2)
  ·refine b.keep x o (a.keep x o e (.inr h)) (.inr λz=>?_)
   rcases a.grow x z with z|z
   ·exact h z
   ·rw[e]at z;cases z
 env:=λh=>by
  rw[XN]at h
  obtain⟨e1,e2⟩:=a.env h.1
  obtain⟨e3,e4⟩:=b.env h.2
  exact⟨e3.trans e1,e4.trans e2⟩
 grow:=λx h=>by
  rcases b.grow x h with h|h
  ·exact a.grow x h
  ·exact .inr (a.al x h)
 al:=λx h=>a.al x (b.al x h)
theorem Rel.frameL(R:Rel C io H σ δ fp ex)(S:Stp p H δ fp H' δ' fp')(hc:p=true∨c=true)(hx:∀a,ex' a->ex a∨H a=none) :
  (∀ a (xs:MuO),(c=true->Lf C fp ex a)->Rd H a xs.ho->(c=true->Lf C fp' ex' a)∧Rd H' a xs.ho)∧(∀a (xs:ImO),H a=some xs.ho->H' a=some xs.ho):=by
 have nf:∀a,Foot fp a->∃xs:MuO,H a=some xs.ho:=λa h=>R.foot h
 refine⟨λa xs l q=>⟨λhc'=>?_,?_⟩,λa xs q=>S.keep a _ q (.inr λz=>?_)⟩
 ·obtain⟨l1,l2,l3⟩:=l hc'
  refine⟨λz=>?_,λz=>?_,l3⟩
  ·rcases S.grow a z with z|z
   ·exact l1 z
   ·exact q.some z
  ·rcases hx a z with z|z
   ·exact l2 z
   ·exact q.some z
 ·have hk:p=true∨¬Foot fp a:=by
   rcases hc with h|h
   ·exact .inl h
   ·exact .inr (l h).1
  rcases q with q|⟨o,q⟩
  ·exact .inl (S.keep a _ q hk)
  ·exact .inr ⟨o,S.keep a _ q hk⟩
 ·obtain⟨ys,e⟩:=nf a z
  exact ImO.nm q e
theorem Rel.own_step(R:Rel C io H σ δ fp ex)(S:Stp p H δ fp H' δ' fp')(hc:p=true∨c=true)(hx:∀a,ex' a->ex a∨H a=none)(hn:∀a∈new,ex a)
  (x:Own G H (λa=>c=true->Lf C fp ex a) v r new):Own G H' (λa=>c=true->Lf C fp' ex' a) v r new :=
 x.frame (R.frameL S hc hx).1 (R.frameL S hc hx).2 λa m xs e=>S.keep a _ e (.inr λ⟨i,z⟩=>R.dx i a z (hn a m))
theorem Rel.owns_step(R:Rel C io H σ δ fp ex)(S:Stp p H δ fp H' δ' fp')(hc:p=true∨c=true)(hx:∀a,ex' a->ex a∨H a=none)(hn:∀a∈new,ex a){vs:List V}{rs:List OT}
  (x:Owns G H (λa=>c=true->Lf C fp ex a) vs rs new):Owns G H' (λa=>c=true->Lf C fp' ex' a) vs rs new :=
 x.frame (R.frameL S hc hx).1 (R.frameL S hc hx).2 λa m xs e=>S.keep a _ e (.inr λ⟨i,z⟩=>R.dx i a z (hn a m))
theorem Rel.drop(R:Rel C io H σ δ fp ex)(h:∀a,ex' a->ex a):Rel C io H σ δ fp ex' :=
 ⟨R.len,λi t e=>by
  obtain⟨v,e1,o⟩:=R.own i t e
  exact⟨v,e1,o.wide λa l _=>⟨l.1,λz=>l.2.1 (h a z),l.2.2⟩⟩,R.emp,R.nd,R.dj,λi a m z=>R.dx i a m (h a z),λa z=>R.xa a (h a z),R.fr,R.al,R.new,R.io⟩
theorem Rel.made(R:Rel C io H σ δ fp ex)(s:Same H H')(hn:∀a∈new,H a=none∧H' a≠none):Rel C io H' σ δ fp (λa=>ex a∨a∈new) :=
 ⟨R.len,λi t e=>by
  obtain⟨v,e1,o⟩:=R.own i t e
  refine⟨v,e1,(o.wide λa l q=>⟨l.1,λz=>?_,l.2.2⟩).same s⟩
  rcases z with z|z
  ·exact l.2.1 z
  ·exact q (hn a z).1,R.emp,R.nd,R.dj,λi a m z=>by
   rcases z with z|z
   ·exact R.dx i a m z
   ·exact R.footSome (hn a z).1 ⟨i,m⟩,λa z=>by
   rcases z with z|z
   ·intro q;exact R.xa a z (s.free q)
   ·exact(hn a z).2,λb o e n=>s _ _ (R.fr b o e n),λb q=>R.al b (s.free q),R.new,R.io⟩
end
noncomputable abbrev MEt:=Zd->(OT->Zd->Prop)->Prop
noncomputable abbrev MAt:=Zd->(List OT->Zd->Prop)->Prop
noncomputable abbrev MTt:=Zd->(Bool->Zd->Prop)->Prop
noncomputable abbrev exu(ex:Addr->Prop)(new:List Addr):Addr->Prop:=λa=>ex a∨a∈new
structure RE(C:MC G)(io:List Nat)(p c:Bool)(H:Hp)(σ:St)(δ:Zd)(fp:Fp)(ex:Addr->Prop)(H':Hp)(v:V)(r:OT)(δ':Zd)(fp':Fp)(new:List Addr):Prop where
 rel:Rel C io H' σ δ' fp' (exu ex new)
 stp:Stp p H δ fp H' δ' fp'
 own:Own G H' (λa=>c=true->Lf C fp' (exu ex new) a) v r new
 nd:new.Nodup
 fresh:∀a∈new,H a=none
structure RA(C:MC G)(io:List Nat)(p c:Bool)(H:Hp)(σ:St)(δ:Zd)(fp:Fp)(ex:Addr->Prop)(H':Hp)(v:List V)(r:List OT)(δ':Zd)(fp':Fp)(new:List Addr):Prop where
 rel:Rel C io H' σ δ' fp' (exu ex new)
 stp:Stp p H δ fp H' δ' fp'
 own:Owns G H' (λa=>c=true->Lf C fp' (exu ex new) a) v r new
 nd:new.Nodup
 fresh:∀a∈new,H a=none
noncomputable def SE(G:Xd)(io:List Nat)(p c:Bool)(t:TE)(m:MEt):Prop:=∀(C:MC G) (H:Hp) (σ:St) (δ:Zd) (fp:Fp) (ex:Addr->Prop) (K:OT->Zd->Prop) (Q:VK),Rel C io H σ δ fp ex->m δ K ->
 (∀ H' v r δ' fp' new,RE C io p c H σ δ fp ex H' v r δ' fp' new->K r δ'->Q v H')->t σ H Q
noncomputable def SA(G:Xd)(io:List Nat)(p c:Bool)(t:TA)(m:MAt):Prop:=∀(C:MC G) (H:Hp) (σ:St) (δ:Zd) (fp:Fp) (ex:Addr->Prop) (K:List OT->Zd->Prop) (Q:List V->Hp->Prop),Rel C io H σ δ fp ex->m δ K ->
 (∀ H' v r δ' fp' new,RA C io p c H σ δ fp ex H' v r δ' fp' new->K r δ'->Q v H')->t σ H Q
noncomputable def STt(G:Xd)(io:List Nat)(p:Bool)(t:TT)(m:MTt):Prop:=∀(C:MC G) (H:Hp) (σ:St) (δ:Zd) (fp:Fp) (ex:Addr->Prop) (K:Bool->Zd->Prop) (Q:Bool->Hp->Prop),Rel C io H σ δ fp ex->m δ K ->
 (∀ H' b δ' fp',Rel C io H' σ δ' fp' ex->Stp p H δ fp H' δ' fp'->K b δ'->Q b H')->t σ H Q
noncomputable def ME(X:Cx)(io:List Nat)(p c:Bool)(e:Expr)(m:MEt):Prop:=∃t,PE X e t∧SE X.K io p c t m
noncomputable def MA(X:Cx)(io:List Nat)(p c:Bool)(e:List Expr)(m:MAt):Prop:=∃t,PA X e t∧SA X.K io p c t m
noncomputable def MT(X:Cx)(io:List Nat)(p:Bool)(e:Expr)(m:MTt):Prop:=∃t,PT X e t∧STt X.K io p t m
noncomputable def MW(X:Cx)(io:List Nat)(p:Bool)(e:Expr)(m:MTt):Prop:=∃t,PW X e t∧STt X.K io p t m
section
variable {C:MC G}{io:List Nat}{H H' H'':Hp}{σ:St}{δ δ' δ'':Zd}{fp fp' fp'':Fp}{ex ex':Addr->Prop}{p p' c:Bool}{v:V}{d:Xa}{r:OT}{vs:List V}{rs:List OT}{new:List Addr}
theorem Rel.newOk(R:Rel C io H σ δ fp ex){a:Addr}(h:H a=none):¬Foot fp a∧¬ex a∧C.H₀ a=none:=⟨R.footSome h,λz=>R.xa a z h,R.al a h⟩
theorem RE.da(R:RE C io p c H σ δ fp ex H' v r δ' fp' new)(R0:Rel C io H σ δ fp ex):Da G H' (λa=>c=true->Lf C fp' ex a) v r.data:=by
 refine R.own.da (λa l _ h=>?_) (λa m _=>?_)
 ·exact⟨(l h).1,λz=>(l h).2.1 (.inl z),(l h).2.2⟩
 ·refine⟨λqz9=>?_,(R0.newOk (R.fresh a m)).2.1,.inr (R0.newOk (R.fresh a m)).2.2⟩
  obtain⟨i,z⟩:=qz9
  exact R.rel.dx i a z (.inr m)
theorem RA.das(R:RA C io p c H σ δ fp ex H' vs rs δ' fp' new)(R0:Rel C io H σ δ fp ex):Das G H' (λa=>c=true->Lf C fp' ex a) vs (OT.datas rs):=by
 refine R.own.das (λa l _ h=>?_) (λa m _=>?_)
 ·exact⟨(l h).1,λz=>(l h).2.1 (.inl z),(l h).2.2⟩
 ·refine⟨λqz9=>?_,(R0.newOk (R.fresh a m)).2.1,.inr (R0.newOk (R.fresh a m)).2.2⟩
  obtain⟨i,z⟩:=qz9
  exact R.rel.dx i a z (.inr m)
theorem RE.base(R:RE C io p c H σ δ fp ex H' v r δ' fp' new):Rel C io H' σ δ' fp' ex:=R.rel.drop λa z=>.inl z
theorem RA.base(R:RA C io p c H σ δ fp ex H' vs rs δ' fp' new):Rel C io H' σ δ' fp' ex:=R.rel.drop λa z=>.inl z
theorem Jg{a:Addr}:exu ex [] a↔ex a:=by simp[exu]
theorem RE.fz(R:Rel C io H' σ δ' fp' ex)(S:Stp p H δ fp H' δ' fp')(h:Da G H' (λa=>c=true->Lf C fp' ex a) v d):RE C io p c H σ δ fp ex H' v (.fz d) δ' fp' [] :=
 ⟨R.drop λa z=>Jg.mp z,S,.fz (h.wide λa l _ hc=>⟨(l hc).1,λz=>(l hc).2.1 (Jg.mp z),(l hc).2.2⟩),.nil,λa m=>nomatch m⟩
theorem RE.tree{H1:Hp}(R0:Rel C io H σ δ fp ex)(R:Rel C io H1 σ δ' fp' ex)(S:Stp p H δ fp H1 δ' fp')(s:Same H1 H')(hn:∀a∈new,H1 a=none)(nd:new.Nodup)
  (o:Own G H' (λa=>((c=true->Lf C fp' ex a)∨H1 a=none)∧a∉new) v r new):RE C io p c H σ δ fp ex H' v r δ' fp' new:=by
 refine⟨R.made s λa m=>⟨hn a m,λz=>?_⟩,?_,o.wide λa l q hc=>?_,nd,λa m=>S.al a (hn a m)⟩
 ·obtain⟨xs,e⟩:=o.some a m
  rw[z]at e;cases e
 ·have:=S.trans (p':=true) (Stp.same (p:=true) (δ:=δ') (fp:=fp') s s.al)
  rwa[Bool.and_true]at this
 ·rcases l.1 with l1|l1
  ·exact⟨(l1 hc).1,λz=>z.elim (l1 hc).2.1 l.2,(l1 hc).2.2⟩
  ·exact⟨R.footSome l1,λz=>z.elim (λz=>R.xa a z l1) l.2,.inr (R.al a l1)⟩
end
inductive ScD:V->Xa->Prop where
 | non:ScD .non .none
 | bl (b:Bool):ScD (.bl b) (.bool b)
 | int (i:Int):ScD (.int i) (.int i)
 | str (x:Str):ScD (.str x) (.str x)
theorem ScD.da{H:Hp}{L:Addr->Prop}{v:V}{d:Xa}(h:ScD v d):Da G H L v d:=by
 cases h
 ·exact .non
 ·exact .bl _
 ·exact .int _
 ·exact .str _
section
variable {X:Cx}{io:List Nat}{p p' c c':Bool}{e a b:Expr}{m ma mb:MEt}{es:List Expr}
noncomputable def Z4d(i:Nat):MEt:=λδ K=>match δ[i]? with|some (some (.fz d))=>K (.fz d) δ|_=>False
noncomputable def Z4b(i:Nat):MEt:=λδ K=>match δ[i]? with|some (some t)=>K (.fz t.data) δ|_=>False
noncomputable def mC(d:Xa):MEt:=λδ K=>K (.fz d) δ
theorem mv(i:Nat){x:Str}{pos:Pos}(hN:X.N[i]? =some x:=by rfl)(hv:Vis X.env.scope x:=by first|exact QF rfl|exact Qp (QF rfl)|exact Qp (Qp rfl))(hd:(x==("__debug__" : Str))=false:=by decide)
  (hcd:(x==("__classdict__" : Str))=false:=by decide):ME X io true true (.Name x pos) (Z4d i):=by
 refine⟨_,pv i hN hv hd hcd,λC H σ δ fp ex K Q R h k=>?_⟩
 unfold Z4d at h
 split at h
 ·rename_i d hd
  obtain⟨v,e,o⟩:=R.own i _ hd
  refine⟨v,e,k H v _ δ fp [] (.fz R (.refl _ _ _ _) ?_) h⟩
  generalize fp i=as at o
  cases o with
  | fz q=>exact q.wide λa l _ _=>l
 ·exact h.elim
theorem mo(i:Nat){x:Str}{pos:Pos}(hN:X.N[i]? =some x:=by rfl)(hv:Vis X.env.scope x:=by first|exact QF rfl|exact Qp (QF rfl)|exact Qp (Qp rfl))(hd:(x==("__debug__" : Str))=false:=by decide)
  (hcd:(x==("__classdict__" : Str))=false:=by decide):ME X io true false (.Name x pos) (Z4b i):=by
 refine⟨_,pv i hN hv hd hcd,λC H σ δ fp ex K Q R h k=>?_⟩
 unfold Z4b at h
 split at h
 ·rename_i d hd
  obtain⟨v,e,o⟩:=R.own i _ hd
  exact⟨v,e,k H v _ δ fp [] (.fz R (.refl _ _ _ _) (o.da (λa _ _ z=>(nomatch z)) λa _ z=>(nomatch z))) h⟩
 ·exact h.elim
theorem Zia{t:V}{d:Xa}(h:PE X e (tC t))(s:ScD t d):ME X io true true e (mC d) :=
 ⟨_,h,λC H σ δ fp ex K Q R h k=>k H t _ δ fp [] (.fz R (.refl _ _ _ _) s.da) h⟩
theorem Z1f{i j pos}:ME X io true true (.Constant (.int i) j pos) (mC (.int i)):=Zia Z0l (.int i)
theorem Zfc{b j pos}:ME X io true true (.Constant (.bool b) j pos) (mC (.bool b)):=Zia Z7r (.bl b)
theorem Ze5{j pos}:ME X io true true (.Constant .none j pos) (mC .none):=Zia Zzv .non
theorem SE.two{ta tb:TE}(ha:SE G io p c ta ma)(hb:SE G io p' c' tb mb)(hc:p'=true∨c=true){C:MC G}{H:Hp}{σ:St}{δ:Zd}{fp:Fp}{ex:Addr->Prop}{K:OT->OT->Zd->Prop}{Q:V->V->Hp->Prop}
  (R:Rel C io H σ δ fp ex) (h:ma δ λx δ1=>mb δ1 λy δ2=>K x y δ2)
  (k:∀H' x y u v δ' fp',Rel C io H' σ δ' fp' ex->Stp (p&&p') H δ fp H' δ' fp'->Da G H' (λa=>(c&&c')=true->Lf C fp' ex a) x u.data->Da G H' (λa=>(c&&c')=true->Lf C fp' ex a) y v.data->K u v δ'->Q x y H') :
  ta σ H λx H1=>tb σ H1 λy H2=>Q x y H2:=by
 refine ha C H σ δ fp ex _ _ R h λH1 x u δ1 fp1 new1 r1 h1=>?_
 refine hb C H1 σ δ1 fp1 (exu ex new1) _ _ r1.rel h1 λH2 y v δ2 fp2 new2 r2 h2=>?_
 have o1:=r1.rel.own_step (ex':=exu (exu ex new1) new2) r2.stp (c:=c) hc (λa z=>z.imp id λz=>r2.fresh a z) (λa m=>.inr m) r1.own
 have R2:Rel C io H2 σ δ2 fp2 ex:=r2.rel.drop λa z=>.inl (.inl z)
 have q1:Da G H2 (λa=>c=true->Lf C fp2 ex a) x u.data:=by
  refine o1.da (λa l _ z=>?_) (λa m z=>?_)
  ·exact⟨(l z).1,λw=>(l z).2.1 (.inl (.inl w)),(l z).2.2⟩
  ·have:=R.newOk (r1.fresh a m)
   refine⟨λqz9=>?_,this.2.1,.inr this.2.2⟩
   obtain⟨i,w⟩:=qz9
   exact r2.rel.dx i a w (.inl (.inr m))
 have q2:=r2.da r1.rel
 refine k H2 x y u v δ2 fp2 R2 (r1.stp.trans r2.stp) (q1.wide λa l _ z=>l (by rw[XN]at z;exact z.1)) (q2.wide λa l _ z=>?_) h2
 have l:=l (by rw[XN]at z;exact z.2)
 exact⟨l.1,λw=>l.2.1 (.inl w),l.2.2⟩
noncomputable def P2s(G:Xd)(r:R2)(rp:Xa->Xa->(Xa->Prop)->Prop):Prop:=∀(H:Hp) (L:Addr->Prop) (x y:V) (d e:Xa) (k:Xa->Prop) (Q:VK),Da G H L x d->Da G H L y e->rp d e k->(∀v d',ScD v d'->k d'->Q v H)->r x y H Q
noncomputable def P2(G:Xd)(r:R2)(rp:Xa->Xa->(OT->Prop)->Prop):Prop:=∀(H:Hp) (L:Addr->Prop) (x y:V) (d e:Xa) (k:OT->Prop) (Q:VK),Da G H L x d->Da G H L y e->rp d e k ->
 (∀ H' v o new,Same H H'->Own G H' (λa=>(L a∨H a=none)∧a∉new) v o new->new.Nodup->(∀a∈new,H a=none)->k o->Q v H')->r x y H Q
noncomputable def Zh2(rp:Xa->Xa->(Xa->Prop)->Prop)(ma mb:MEt):MEt:=λδ K=>ma δ λx δ1=>mb δ1 λy δ2=>rp x.data y.data λd=>K (.fz d) δ2
noncomputable def Z0d(rp:Xa->Xa->(OT->Prop)->Prop)(ma mb:MEt):MEt:=λδ K=>ma δ λx δ1=>mb δ1 λy δ2=>rp x.data y.data λd=>K d δ2
theorem Zwe{r:R2}{rp}{ta tb:TE}(P:P2s G r rp)(ha:SE G io p c ta ma)(hb:SE G io p' c' tb mb)(hc:p'=true∨c=true):SE G io (p&&p') true (tOp r ta tb) (Zh2 rp ma mb):=by
 intro C H σ δ fp ex K Q R h k
 refine SE.two (K:=λx y δ2=>rp x.data y.data λd=>K (.fz d) δ2) (Q:=λx y H2=>r x y H2 Q) ha hb hc R h λH' x y u v δ' fp' R' S q1 q2 h'=>?_
 exact P H' _ x y _ _ _ _ q1 q2 h' λw d' sc h''=>k H' w _ δ' fp' [] (.fz R' S sc.da) h''
theorem Z7d{r:R2}{rp}{ta tb:TE}(P:P2 G r rp)(ha:SE G io p c ta ma)(hb:SE G io p' c' tb mb)(hc:p'=true∨c=true):SE G io (p&&p') (c&&c') (tOp r ta tb) (Z0d rp ma mb):=by
 intro C H σ δ fp ex K Q R h k
 refine SE.two (K:=λx y δ2=>rp x.data y.data λd=>K d δ2) (Q:=λx y H2=>r x y H2 Q) ha hb hc R h λH' x y u v δ' fp' R' S q1 q2 h'=>?_
 exact P H' _ x y _ _ _ _ q1 q2 h' λH2 w o new s ow nd hn h''=>k H2 w o δ' fp' new (RE.tree R R' S s hn nd ow) h''
theorem Zj3{op:Operator}{r:R2}{rp}{pos:Pos}(ho:OpR X (Uc op) r)(P:P2s X.K r rp)(ha:ME X io p c a ma)(hb:ME X io p' c' b mb)(hc:p'=true∨c=true:=by first|exact QF rfl|exact Qp rfl):ME X io (p&&p') true (.BinOp a op b pos) (Zh2 rp ma mb):=by
 obtain⟨_,A,sa⟩:=ha
 obtain⟨_,B,sb⟩:=hb
 exact⟨_,Zx6 ho A B,Zwe P sa sb hc⟩
theorem Z8r{op:Operator}{r:R2}{rp}{pos:Pos}(ho:OpR X (Uc op) r)(P:P2 X.K r rp)(ha:ME X io p c a ma)(hb:ME X io p' c' b mb)(hc:p'=true∨c=true:=by first|exact QF rfl|exact Qp rfl):ME X io (p&&p') (c&&c') (.BinOp a op b pos) (Z0d rp ma mb):=by
 obtain⟨_,A,sa⟩:=ha
 obtain⟨_,B,sb⟩:=hb
 exact⟨_,Zx6 ho A B,Z7d P sa sb hc⟩
theorem Z3m{op:CmpOp}{r:R2}{rp}{pos:Pos}(ho:OpR X (Q6 op) r)(P:P2s X.K r rp)(ha:ME X io p c a ma)(hb:ME X io p' c' b mb)(hc:p'=true∨c=true:=by first|exact QF rfl|exact Qp rfl)(hm:U3 op b=false):ME X io (p&&p') true (.Compare a [op] [b] pos) (Zh2 rp ma mb):=by
 obtain⟨_,A,sa⟩:=ha
 obtain⟨_,B,sb⟩:=hb
 exact⟨_,Zww ho A B hm,Zwe P sa sb hc⟩
theorem Yaj{r:R2}{rp}{pos:Pos}(ho:IxR X r)(P:P2 X.K r rp)(ha:ME X io p c a ma)(hb:ME X io p' c' b mb)(hc:p'=true∨c=true:=by first|exact QF rfl|exact Qp rfl)(hs:Zdo b):ME X io (p&&p') (c&&c') (.Subscript a b pos) (Z0d rp ma mb):=by
 obtain⟨_,A,sa⟩:=ha
 obtain⟨_,B,sb⟩:=hb
 exact⟨_,Zwm ho A B hs,Z7d P sa sb hc⟩
noncomputable def kB(K:Bool->Zd->Prop):OT->Zd->Prop:=λo δ=>match o with| .fz (.bool b)=>K b δ|_=>False
theorem Z3x{t:TE}(h:SE G io p c t m):STt G io p (Zu9 t) (λδ K=>m δ (kB K)):=by
 intro C H σ δ fp ex K Q R h' k
 refine h C H σ δ fp ex _ _ R h' λH' v r δ' fp' new r1 h1=>?_
 cases r with
 | nd ts=>exact h1.elim
 | tp ts=>exact h1.elim
 | dc _ _ _=>exact h1.elim
 | fz d=>
  cases d with
  | bool b=>
   cases r1.own with
   | fz q=>
    cases q
    exact⟨b,rfl,k H' b δ' fp' r1.base r1.stp h1⟩
  | _=>exact h1.elim
theorem Zbo{op:CmpOp}{r:R2}{rp}{pos:Pos}(ho:OpR X (Q6 op) r)(P:P2s X.K r rp)(ha:ME X io p c a ma)(hb:ME X io p' c' b mb)(hc:p'=true∨c=true:=by first|exact QF rfl|exact Qp rfl)(hm:U3 op b=false) :
  MT X io (p&&p') (.Compare a [op] [b] pos) (λδ K=>Zh2 rp ma mb δ (kB K)):=by
 obtain⟨_,A,sa⟩:=ha
 obtain⟨_,B,sb⟩:=hb
 exact⟨_,Zyb ho A B hm,Z3x (Zwe P sa sb hc)⟩
end
variable {G:Xd}
section
variable {X:Cx}{io:List Nat}{p p' p'' c c':Bool}{e a b:Expr}{m ma mb:MEt}{es rest:List Expr}{ta tb:MTt}{pos:Pos}
noncomputable def Z99(t:MTt):MTt:=λδ K=>t δ λb δ'=>K (!b) δ'
noncomputable def Z8m(t u:MTt):MTt:=λδ K=>t δ λb δ'=>if b=true then u δ' K else K false δ'
noncomputable def mOr(t u:MTt):MTt:=λδ K=>t δ λb δ'=>if b=true then K true δ' else u δ' K
theorem Z1v(h:MT X io p a ta):MT X io p (.UnaryOp .Not a pos) (Z99 ta):=by
 obtain⟨_,A,sa⟩:=h
 exact⟨_,Z3a A,λC H σ δ fp ex K Q R h k=>sa C H σ δ fp ex _ _ R h λH' b δ' fp' R' S h'=>k H' (!b) δ' fp' R' S h'⟩
theorem Zll(h:MT X io p a ta):MW X io p (.BoolOp .And [a] pos) ta:=by
 obtain⟨_,A,sa⟩:=h
 exact⟨_,Zv8 A,sa⟩
theorem Zc2(h:MT X io p a ta):MW X io p (.BoolOp .Or [a] pos) ta:=by
 obtain⟨_,A,sa⟩:=h
 exact⟨_,Z1e A,sa⟩
theorem Stp.andL{H H':Hp}{δ δ':Zd}{fp fp':Fp}(S:Stp p H δ fp H' δ' fp'):Stp (p&&p') H δ fp H' δ' fp':=by
 have:=S.trans (Stp.refl p' H' δ' fp')
 exact this
theorem Zsl(h:MT X io p a ta)(g:MW X io p' (.BoolOp .And (b :: rest) pos) tb):MW X io (p&&p') (.BoolOp .And (a :: b :: rest) pos) (Z8m ta tb):=by
 obtain⟨_,A,sa⟩:=h
 obtain⟨_,B,sb⟩:=g
 exact⟨_,Z0i A B,λC H σ δ fp ex K Q R h k=>sa C H σ δ fp ex _ _ R h λH' b δ' fp' R' S h'=>by
  cases b with
  | true=>
   rw[if_pos rfl]at h'⊢
   exact sb C H' σ δ' fp' ex _ _ R' h' λH2 b2 δ2 fp2 R2 S2 h2=>k H2 b2 δ2 fp2 R2 (S.trans S2) h2
  | false=>
   rw[if_neg Xw]at h'⊢
   exact k H' false δ' fp' R' S.andL h'⟩
theorem Zhi(h:MT X io p a ta)(g:MW X io p' (.BoolOp .Or (b :: rest) pos) tb):MW X io (p&&p') (.BoolOp .Or (a :: b :: rest) pos) (mOr ta tb):=by
 obtain⟨_,A,sa⟩:=h
 obtain⟨_,B,sb⟩:=g
 exact⟨_,Z72 A B,λC H σ δ fp ex K Q R h k=>sa C H σ δ fp ex _ _ R h λH' b δ' fp' R' S h'=>by
  cases b with
  | true=>
   rw[if_pos rfl]at h'⊢
   exact k H' true δ' fp' R' S.andL h'
  | false=>
   rw[if_neg Xw]at h'⊢
   exact sb C H' σ δ' fp' ex _ _ R' h' λH2 b2 δ2 fp2 R2 S2 h2=>k H2 b2 δ2 fp2 R2 (S.trans S2) h2⟩
theorem MW.mt(h:MW X io p e ta):MT X io p e ta:=by
 obtain⟨_,A,sa⟩:=h
 exact⟨_,A.pt,sa⟩
noncomputable def Zrj:Xa->Option Bool
 | .none=>some false
 | .bool b=>some b
 | .int i=>some (i !=0)
 | .list ds=>some (!ds.isEmpty)
 | .tuple ds=>some (!ds.isEmpty)
 | _=>none
noncomputable def Z78(m:MEt):MTt:=λδ K=>m δ λr δ'=>match Zrj r.data with|some b=>K b δ'|none=>False
theorem Das.isEmpty{H:Hp}{L:Addr->Prop}{xs:List V}{ds:List Xa}(h:Das G H L xs ds):xs.isEmpty=ds.isEmpty:=by cases h<;>rfl
theorem Zaf(ha:ME X io p c a ma)(he:∀whole,isTrue a X.env whole=(do let v←whole;standAt a.pos;holding [v] (truthy v))):MT X io p a (Z78 ma):=by
 obtain⟨_,A,sa⟩:=ha
 exact⟨_,Zvk rfl A he,λC H σ δ fp ex K' Q R h k=>sa C H σ δ fp ex _ _ R h λH' v r δ' fp' new r1 h1=>by
  have q:=r1.da R
  generalize r.data=d at q h1
  cases q with
  | non=>exact⟨_,rfl,k H' _ δ' fp' r1.base r1.stp h1⟩
  | bl b=>exact⟨_,rfl,k H' _ δ' fp' r1.base r1.stp h1⟩
  | int b=>exact⟨_,rfl,k H' _ δ' fp' r1.base r1.stp h1⟩
  | str x=>exact h1.elim
  | lst _ e q=>exact⟨_,.inl ⟨_,.inl e,rfl⟩,k H' _ δ' fp' r1.base r1.stp (by rw[q.isEmpty];exact h1)⟩
  | tup e q=>exact⟨_,.inr (.inl ⟨_,.inl (.inl e),rfl⟩),k H' _ δ' fp' r1.base r1.stp (by rw[q.isEmpty];exact h1)⟩
  | scr q=>exact⟨_,.inl ⟨_,q.sq,rfl⟩,k H' _ δ' fp' r1.base r1.stp (by simpa [Zrj]using h1)⟩
  | exc _ _ _=>exact h1.elim
  | fn _=>exact h1.elim
  | dic _ _ _ _=>exact h1.elim⟩
noncomputable def asB(d:Xa)(k:Bool->Prop):Prop:=match d with| .bool b=>k b|_=>False
noncomputable def Z2a(a b:MEt):MEt:=λδ K=>a δ λx δ1=>asB x.data λc=>if c=true then b δ1 K else K (.fz (.bool false)) δ1
noncomputable def Zy3(a:MEt):MEt:=λδ K=>a δ λx δ1=>asB x.data λc=>K (.fz (.bool (!c))) δ1
theorem Da.boolInv{H:Hp}{L:Addr->Prop}{v:V}{d:Xa}{k:Bool->Prop}(q:Da G H L v d)(h:asB d k):∃b,v= .bl b∧k b:=by
 cases q with
 | bl b=>exact⟨b,rfl,h⟩
 | _=>exact h.elim
theorem RE.step{C:MC G}{H H1 H2:Hp}{σ:St}{δ δ1 δ2:Zd}{fp fp1 fp2:Fp}{ex:Addr->Prop}{v:V}{r:OT}{new:List Addr}(S:Stp p H δ fp H1 δ1 fp1)(R:RE C io p' c H1 σ δ1 fp1 ex H2 v r δ2 fp2 new) :
  RE C io (p&&p') c H σ δ fp ex H2 v r δ2 fp2 new:=⟨R.rel,S.trans R.stp,R.own,R.nd,λa m=>S.al a (R.fresh a m)⟩
theorem Z7g{op}(h:ME X io p c a ma):ME X io p c (.BoolOp op [a] pos) ma:=by
 obtain⟨_,A,sa⟩:=h
 exact⟨_,Z0m A,sa⟩
theorem Z7p(ha:ME X io p c a ma)(hb:ME X io p' c' (.BoolOp .And (b :: rest) pos) mb):ME X io (p&&p') c' (.BoolOp .And (a :: b :: rest) pos) (Z2a ma mb):=by
 obtain⟨_,A,sa⟩:=ha
 obtain⟨_,B,sb⟩:=hb
 exact⟨_,Z23 A B,λC H σ δ fp ex K Q R h k=>sa C H σ δ fp ex _ _ R h λH' v r δ' fp' new r1 h1=>by
  obtain⟨b,rfl,h1⟩:=(r1.da R).boolInv h1
  refine⟨b,rfl,?_⟩
  cases b with
  | true=>
   rw[if_pos rfl]at h1⊢
   exact sb C H' σ δ' fp' ex _ _ r1.base h1 λH2 w r2 δ2 fp2 new2 R2 h2=>k H2 w r2 δ2 fp2 new2 (R2.step r1.stp) h2
  | false=>
   rw[if_neg Xw]at h1⊢
   exact k H' _ _ δ' fp' [] (RE.fz r1.base r1.stp.andL (.bl false)) h1⟩
theorem Z7h(ha:ME X io p c a ma):ME X io p true (.UnaryOp .Not a pos) (Zy3 ma):=by
 obtain⟨_,A,sa⟩:=ha
 exact⟨_,Zyt A,λC H σ δ fp ex K Q R h k=>sa C H σ δ fp ex _ _ R h λH' v r δ' fp' new r1 h1=>by
  obtain⟨b,rfl,h1⟩:=(r1.da R).boolInv h1
  exact⟨b,rfl,k H' _ _ δ' fp' [] (RE.fz r1.base r1.stp (.bl _)) h1⟩⟩
theorem Stp.cast{p p':Bool}{H H':Hp}{δ δ':Zd}{fp fp':Fp}(h:p'=true->p=true)(S:Stp p H δ fp H' δ' fp'):Stp p' H δ fp H' δ' fp' :=
 ⟨λb o e q=>S.keep b o e (q.imp h id),λq=>S.env (h q),S.grow,S.al⟩
end
section
variable {X:Cx}{io:List Nat}{p p' p'' c c':Bool}{e a b:Expr}{m ma mb:MEt}{es rest:List Expr}{mr:MAt}{pos:Pos}
noncomputable def Z85:MAt:=λδ K=>K [] δ
noncomputable def Zzz(m:MEt)(mr:MAt):MAt:=λδ K=>m δ λr δ1=>mr δ1 λrs δ2=>K (r :: rs) δ2
theorem Zyr:MA X io true true [] Z85:=⟨_,Zdi,λC H σ δ fp ex K Q R h k=>k H [] [] δ fp [] ⟨R.drop λa z=>Jg.mp z,.refl _ _ _ _,.nil,.nil,λa m=>nomatch m⟩ h⟩
theorem Zx8(ha:ME X io p c e m)(hr:MA X io p' c' es mr)(hc:p'=true∨c=true)(hs:Xv (e :: es) X.env=(false,eval e X.env) :: Xv es X.env:=by rfl):MA X io (p&&p') (c&&c') (e :: es) (Zzz m mr):=by
 obtain⟨tA,A,sa⟩:=ha
 obtain⟨tB,B,sb⟩:=hr
 refine⟨_,Zac A B hs,λC H σ δ fp ex K Q R h k=>?_⟩
 refine sa C H σ δ fp ex _ _ R h λH1 x u δ1 fp1 new1 r1 h1=>?_
 refine sb C H1 σ δ1 fp1 (exu ex new1) _ _ r1.rel h1 λH2 ys us δ2 fp2 new2 r2 h2=>?_
 have o1:=r1.rel.own_step (ex':=exu (exu ex new1) new2) r2.stp (c:=c) hc (λa z=>z.imp id λz=>r2.fresh a z) (λa m=>.inr m) r1.own
 have eqx:∀a,exu ex (new1 ++ new2) a->exu (exu ex new1) new2 a:=λa z=>by
  rcases z with z|z
  ·exact .inl (.inl z)
  ·rcases Qc.mp z with z|z
   ·exact .inl (.inr z)
   ·exact .inr z
 refine k H2 (x :: ys) (u :: us) δ2 fp2 (new1 ++ new2) ⟨r2.rel.drop eqx,r1.stp.trans r2.stp,.cons (o1.wide λa l _ z=>?_) (r2.own.wide λa l _ z=>?_),?_,?_⟩ h2
 ·have l:=l (by rw[XN]at z;exact z.1)
  exact⟨l.1,λw=>l.2.1 (eqx a w),l.2.2⟩
 ·have l:=l (by rw[XN]at z;exact z.2)
  exact⟨l.1,λw=>l.2.1 (eqx a w),l.2.2⟩
 ·refine Vn.mpr ⟨r1.nd,r2.nd,λa m b m' z=>?_⟩
  subst z
  obtain⟨xs,e⟩:=r1.own.some a m
  rw[r2.fresh a m']at e
  cases e
 ·intro a m
  rcases Qc.mp m with m|m
  ·exact r1.fresh a m
  ·exact r1.stp.al a (r2.fresh a m)
noncomputable def Z9j(m:MAt):MEt:=λδ K=>m δ λrs δ'=>rs.length≤Xr∧K (.fz (.tuple (OT.datas rs))) δ'
noncomputable def Z9w(m:MAt):MEt:=λδ K=>m δ λrs δ'=>rs.length≤Xr∧K (.nd rs) δ'
theorem Z53{x1}(h:MA X io p c es mr):ME X io p c (.Tuple es x1 pos) (Z9j mr):=by
 obtain⟨tA,A,sa⟩:=h
 refine⟨_,Zza A,λC H σ δ fp ex K Q R h k=>?_⟩
 refine sa C H σ δ fp ex _ _ R h λH1 vs rs δ1 fp1 new1 r1 h1=>⟨by rw[r1.own.length];exact h1.1,λq hq=>?_⟩
 have s:=Z0 hq (.tup vs)
 have R1:=r1.base
 have S:=r1.stp.trans (p':=true) (Stp.same (p:=true) (δ:=δ1) (fp:=fp1) s s.al)
 rw[Bool.and_true]at S
 refine k _ _ _ δ1 fp1 [] (.fz ?_ S (.tup Zm ((r1.das R).same s))) h1.2
 exact(R1.made (new:=[]) s λa m=>nomatch m).drop λa z=>.inl z
theorem Z5w(h:MA X io p c es mr):ME X io p c (.List es pos) (Z9w mr):=by
 obtain⟨tA,A,sa⟩:=h
 refine⟨_,Zsf A,λC H σ δ fp ex K Q R h k=>?_⟩
 refine sa C H σ δ fp ex _ _ R h λH1 vs rs δ1 fp1 new1 r1 h1=>⟨by rw[r1.own.length];exact h1.1,λq hq=>?_⟩
 have s:=Z0 hq (.lst vs)
 have S:=r1.stp.trans (p':=true) (Stp.same (p:=true) (δ:=δ1) (fp:=fp1) s s.al)
 rw[Bool.and_true]at S
 have hqn:q∉new1:=λm=>by
  obtain⟨xs,e⟩:=r1.own.some q m
  rw[hq]at e;cases e
 have R2:=(r1.rel.made (new:=[q]) s λa m=>by
  rcases Xm.mp m with rfl
  exact⟨hq,by rw[Zm];intro z;cases z⟩)
 have eqx:∀a,exu ex (q :: new1) a->exu (exu ex new1) [q] a:=λa z=>by
  rcases z with z|z
  ·exact .inl (.inl z)
  ·rcases Xn.mp z with z|z
   ·exact .inr (Xm.mpr z)
   ·exact .inl (.inr z)
 refine k _ _ _ δ1 fp1 (q :: new1) ⟨R2.drop eqx,S,.nd Zm ((r1.own.wide λa l w z=>?_).same s),Qk.mpr ⟨hqn,r1.nd⟩,λa m=>?_⟩ h1.2
 ·have l:=l z
  refine⟨l.1,λy=>?_,l.2.2⟩
  rcases eqx a y with y|y
  ·exact l.2.1 y
  ·rcases Xm.mp y with rfl
   exact w hq
 ·rcases Xn.mp m with rfl|m
  ·exact r1.stp.al _ hq
  ·exact r1.fresh a m
end
variable {G:Xd}
noncomputable def spD(G:Xd)(S:List Xa->(OT->Prop)->Prop):Sp:=λvs H Q _=>∃L ds k,Das G H L vs ds∧S ds k∧
 ∀r v H' new,k r->Same H H'->Own G H' (λa=>(L a∨H a=none)∧a∉new) v r new->new.Nodup->(∀a∈new,H a=none)->Q v H'
section
variable {X:Cx}{io:List Nat}{p p' p'' c c':Bool}{e a b:Expr}{m ma mb:MEt}{es rest:List Expr}{mr:MAt}{pos:Pos}
variable {CX:CXT}{k:Nat}{f:Addr}{fd:QD}{ps:List Str}{E:XK}{x:Str}{pp:Pos}
noncomputable def Zwi(S:List Xa->(OT->Prop)->Prop)(mr:MAt):MEt:=λδ K=>mr δ λrs δ1=>S (OT.datas rs) λr=>K r δ1
theorem Z51{S}{t:TA}(sa:SA G io p c t mr):SE G io p c (Zyu (spD G S) [] E t) (Zwi S mr):=by
 intro C H σ δ fp ex K Q R h kk
 refine sa C H σ δ fp ex _ _ R h λH1 vs rs δ1 fp1 new1 r1 h1=>?_
 rw[Qt]
 refine⟨_,_,_,r1.das R,h1,λr v H' new kr s o nd hn=>?_⟩
 exact kk H' v r δ1 fp1 new (RE.tree R r1.base r1.stp s hn nd o) kr
theorem Z2s{S}(F:FnOk X.prog X.w X.K X.mg X.base CX k f fd ps (spD X.K S))(hr:Room k X.A)(hg:Gl X x)(hm:X.mg x=some (.ref f))(hk:Qu X.K (.ref f)=true)(hb:Binds X.K fd ps [])(hx:Zjz CX X E)
  (ha:MA X io p c (e :: es) mr) (hdb:(x==("__debug__" : Str))=false:=by decide) (he:Xv (e :: es) X.env=(false,eval e X.env) :: Xv es X.env:=by rfl) (hpl:(Bf pos (Xv es X.env)).any (·.1)=false:=by rfl) :
  ME X io p c (.Call (.Name x pp) (e :: es) [] pos) (Zwi S mr):=by
 obtain⟨_,A,sa⟩:=ha
 exact⟨_,Ztw F hr hg hm hk hb .nil hx A hdb he hpl,Z51 sa⟩
noncomputable def fpu(fp:Fp)(i:Nat)(as:List Addr):Fp:=λj=>if j=i then as else fp j
theorem Zn{fp:Fp}{i:Nat}{as:List Addr}:fpu fp i as i=as:=if_pos rfl
theorem Zy{fp:Fp}{i j:Nat}{as:List Addr}(h:j≠i):fpu fp i as j=fp j:=if_neg h
theorem Foot.of_u{fp:Fp}{i:Nat}{as:List Addr}{a:Addr}(h:Foot (fpu fp i as) a):a∈as∨∃j,j≠i∧a∈fp j:=by
 obtain⟨j,h⟩:=h
 by_cases e:j=i
 ·subst e;rw[Zn]at h;exact .inl h
 ·rw[Zy e]at h;exact .inr ⟨j,e,h⟩
theorem Rel.change{C:MC G}{H H':Hp}{σ:St}{δ:Zd}{fp:Fp}{ex:Addr->Prop}{i:Nat}{t t':OT}{v:V}{as' new:List Addr}(R:Rel C io H σ δ fp ex)(hi:δ[i]? =some (some t))(hv:σ[i]? =some (some v))
  (keep:∀b o,H b=some o->b∉fp i->H' b=some o) (al:∀b,H' b=none->H b=none) (o:Own G H' (Lf C (fpu fp i as') (exu ex new)) v t' as') (nd:as'.Nodup) (new':∀a∈as',a∈fp i∨H a=none)
  (hn:∀a∈new,H a=none∧H' a≠none∧a∉as') :
  Rel C io H' σ (δ.set i (some t')) (fpu fp i as') (exu ex new)∧Stp false H δ fp H' (δ.set i (some t')) (fpu fp i as'):=by
 have hil:i<δ.length:=(Xi.mp hi).1
 have apart:∀j a,j≠i->a∈fp j->a∉as':=λj a e m z=>by
  rcases new' a z with z|z
  ·exact e (R.dj j i a m z)
  ·exact R.footSome z ⟨j,m⟩
 constructor
 ·refine⟨by rw[Vl];exact R.len,λj t'' e=>?_,λj h=>?_,λj=>?_,λj k a h1 h2=>?_,λj a h z=>?_,λa z w=>z.elim (λz=>R.xa a z (al a w)) (λz=>(hn a z).2.1 w),λb ob e n=>?_,λb z=>R.al b (al b z),λj a h=>?_,R.io⟩
  ·by_cases ej:j=i
   ·subst ej
    rw[QR hil]at e
    cases e
    exact⟨v,hv,by rw[Zn];exact o⟩
   ·rw[Qz (BL ej)]at e
    obtain⟨w,e1,o1⟩:=R.own j t'' e
    refine⟨w,e1,?_⟩
    rw[Zy ej]
    refine o1.frame (λa xs l q=>?_) (λa xs q=>keep a _ q λz=>?_) λa m xs q=>keep a _ q λz=>ej (R.dj j i a m z)
    ·have na:a∉fp i:=λz=>l.1 ⟨i,z⟩
     refine⟨⟨λz=>?_,λz=>z.elim l.2.1 λz=>q.some (hn a z).1,l.2.2⟩,?_⟩
     ·rcases z.of_u with z|⟨k,_,z⟩
      ·rcases new' a z with z|z
       ·exact na z
       ·exact q.some z
      ·exact l.1 ⟨k,z⟩
     ·rcases q with q|⟨u,q⟩
      ·exact .inl (keep a _ q na)
      ·exact .inr ⟨u,keep a _ q na⟩
    ·obtain⟨ys,e⟩:=R.foot ⟨i,z⟩
     exact ImO.nm q e
  ·by_cases ej:j=i
   ·subst ej
    exact absurd (QR hil) (h t')
   ·rw[Zy ej]
    refine R.emp j λt'' z=>h t'' ?_
    rw[Qz (BL ej)]
    exact z
  ·by_cases ej:j=i
   ·subst ej;rw[Zn];exact nd
   ·rw[Zy ej];exact R.nd j
  ·by_cases ej:j=i
   ·subst ej
    rw[Zn]at h1
    by_cases ek:k=j
    ·exact ek.symm
    ·rw[Zy ek]at h2
     exact absurd h1 (apart k a ek h2)
   ·rw[Zy ej]at h1
    by_cases ek:k=i
    ·subst ek
     rw[Zn]at h2
     exact absurd h2 (apart j a ej h1)
    ·rw[Zy ek]at h2
     exact R.dj j k a h1 h2
  ·by_cases ej:j=i
   ·subst ej
    rw[Zn]at h
    rcases z with z|z
    ·rcases new' a h with w|w
     ·exact R.dx _ a w z
     ·exact R.xa a z w
    ·exact(hn a z).2.2 h
   ·rw[Zy ej]at h
    rcases z with z|z
    ·exact R.dx j a h z
    ·exact R.footSome (hn a z).1 ⟨j,h⟩
  ·refine keep b ob (R.fr b ob e n) λz=>?_
   rcases R.new i b z with w|w
   ·exact n w.2
   ·rw[e]at w;cases w
  ·by_cases ej:j=i
   ·subst ej
    rw[Zn]at h
    rcases new' a h with w|w
    ·exact R.new _ a w
    ·exact .inr (R.al a w)
   ·rw[Zy ej]at h
    exact R.new j a h
 ·refine⟨λb ob e q=>keep b ob e λz=>(q.resolve_left (by decide)) ⟨i,z⟩,λz=>(nomatch z),λa z=>?_,al⟩
  rcases z.of_u with z|⟨j,_,z⟩
  ·exact(new' a z).imp (λw=>⟨i,w⟩) id
  ·exact .inl ⟨j,z⟩
noncomputable def PNs(G:Xd)(r:List V->Hp->VK->Prop)(rp:List Xa->(Xa->Prop)->Prop):Prop:=∀(H:Hp) (L:Addr->Prop) (xs:List V) (ds:List Xa) (k:Xa->Prop) (Q:VK),Das G H L xs ds->rp ds k->(∀v d',ScD v d'->k d'->Q v H)->r xs H Q
noncomputable def PN(G:Xd)(r:List V->Hp->VK->Prop)(rp:List Xa->(OT->Prop)->Prop):Prop:=∀(H:Hp) (L:Addr->Prop) (xs:List V) (ds:List Xa) (k:OT->Prop) (Q:VK),Das G H L xs ds->rp ds k ->
 (∀ H' v o new,Same H H'->Own G H' (λa=>(L a∨H a=none)∧a∉new) v o new->new.Nodup->(∀a∈new,H a=none)->k o->Q v H')->r xs H Q
noncomputable def Z7a(rp:List Xa->(Xa->Prop)->Prop)(mr:MAt):MEt:=λδ K=>mr δ λrs δ1=>rp (OT.datas rs) λd=>K (.fz d) δ1
noncomputable def mBl(rp:List Xa->(OT->Prop)->Prop)(mr:MAt):MEt:=λδ K=>mr δ λrs δ1=>rp (OT.datas rs) λo=>K o δ1
theorem Yb3{r rp}{t:TA}(P:PNs G r rp)(sa:SA G io p c t mr):SE G io p true (tCB r t) (Z7a rp mr):=λC H σ δ fp ex K Q R h kk=>
 sa C H σ δ fp ex _ _ R h λH1 vs rs δ1 fp1 new1 r1 h1=>P H1 _ vs _ _ _ (r1.das R) h1 λv d' sc h2=>kk H1 v _ δ1 fp1 [] (.fz r1.base r1.stp sc.da) h2
theorem sBl{r rp}{t:TA}(P:PN G r rp)(sa:SA G io p c t mr):SE G io p c (tCB r t) (mBl rp mr):=λC H σ δ fp ex K Q R h kk=>
 sa C H σ δ fp ex _ _ R h λH1 vs rs δ1 fp1 new1 r1 h1=>P H1 _ vs _ _ _ (r1.das R) h1 λH' v o new s ow nd hn h2=>kk H' v o δ1 fp1 new (RE.tree R r1.base r1.stp s hn nd ow) h2
variable {id T:String}{r:List V->Hp->VK->Prop}
theorem Zfo{rp}(P:PNs X.K r rp)(hc:Zbu X (.builtin id) r)(hg:Gl X x)(hm:X.mg x=none)(hv:Qo x=some (.builtin id))(ha:MA X io p c (e :: es) mr)(hn:x≠"__name__" :=by decide)(hdb:(x==("__debug__" : Str))=false:=by decide)
  (he:Xv (e :: es) X.env=(false,eval e X.env) :: Xv es X.env:=by rfl) (hpl:(Bf pos (Xv es X.env)).any (·.1)=false:=by rfl):ME X io p true (.Call (.Name x pp) (e :: es) [] pos) (Z7a rp mr):=by
 obtain⟨_,A,sa⟩:=ha
 exact⟨_,Zjs hc hg hm hv A hn hdb he hpl,Yb3 P sa⟩
theorem Yar{rp}(P:PN X.K r rp)(hc:Zbu X (.type T) r)(hg:Gl X x)(hm:X.mg x=none)(hv:Qo x=some (.type T))(ha:MA X io p c (e :: es) mr)(hn:x≠"__name__" :=by decide)(hdb:(x==("__debug__" : Str))=false:=by decide)
  (he:Xv (e :: es) X.env=(false,eval e X.env) :: Xv es X.env:=by rfl) (hpl:(Bf pos (Xv es X.env)).any (·.1)=false:=by rfl):ME X io p c (.Call (.Name x pp) (e :: es) [] pos) (mBl rp mr):=by
 obtain⟨_,A,sa⟩:=ha
 exact⟨_,Zod hc hg hm hv A hn hdb he hpl,sBl P sa⟩
end
variable {G:Xd}
mutual
noncomputable def We:Xa->Bool
 | .none=>true
 | .bool _=>true
 | .int _=>true
 | .str _=>true
 | .tuple ds=>Zch ds
 | .list _=>false
 | .dict _=>false
noncomputable def Zch:List Xa->Bool
 | []=>true
 | d :: ds=>We d&&Zch ds
end
theorem Da.flat2{H:Hp}{L L':Addr->Prop}:(∀{v:V} {d:Xa},Da G H L v d->We d=true->Da G H L' v d)∧∀{v:List V} {d:List Xa},Das G H L v d->Zch d=true->Das G H L' v d :=
 Da.both (λ_=>.non) (λb _=>.bl b) (λi _=>.int i) (λx _=>.str x) (λ_ _ _ h=>by rw[We]at h;cases h) (λe r h=>.tup e (r (by rw[We]at h;exact h))) (λk _=>.scr k) (λc n e _=>.exc c n e) (λk _=>.fn k) (λ_ _ _ _ h=>by rw[dcD,We]at h;cases h) (λ_=>.nil)
  (λk r h=>by rw[Zch,XN]at h;exact .cons (k h.1) (r h.2))
theorem Da.flat{H:Hp}{L L':Addr->Prop}{v:V}{d:Xa}(h:Da G H L v d)(f:We d=true):Da G H L' v d:=Da.flat2.1 h f
set_option genInjectivity false in
structure Zd3 where
 nx:Zd->Prop
 rt:OT->Zd->Prop
 bk:Zd->Prop:=λ_=>False
 ct:Zd->Prop:=λ_=>False
noncomputable abbrev MSt:=Zd3->Zd->Prop
noncomputable abbrev Kp(H:Hp)(fp:Fp)(H':Hp)(fp':Fp):Prop:=Stp false H [] fp H' [] fp'
theorem Stp.kp{p:Bool}{H H':Hp}{δ δ':Zd}{fp fp':Fp}(S:Stp p H δ fp H' δ' fp'):Kp H fp H' fp':=⟨λb o e q=>S.keep b o e (.inr (q.resolve_left (by decide))),λz=>(nomatch z),S.grow,S.al⟩
theorem Kp.trans{H H1 H2:Hp}{fp fp1 fp2:Fp}(a:Kp H fp H1 fp1)(b:Kp H1 fp1 H2 fp2):Kp H fp H2 fp2:=Stp.trans a b
theorem Kp.refl(H:Hp)(fp:Fp):Kp H fp H fp:=Stp.refl _ _ _ _
structure RelEnds(C:MC G)(io:List Nat)(ex:Addr->Prop)(H:Hp)(fp:Fp)(D:Zd3)(D':Ends):Prop where
 nx:∀H' σ' δ' fp',Rel C io H' σ' δ' fp' ex->Kp H fp H' fp'->D.nx δ'->D'.nx σ' H'
 bk:∀H' σ' δ' fp',Rel C io H' σ' δ' fp' ex->Kp H fp H' fp'->D.bk δ'->D'.bk σ' H'
 ct:∀H' σ' δ' fp',Rel C io H' σ' δ' fp' ex->Kp H fp H' fp'->D.ct δ'->D'.ct σ' H'
 rt:∀H' σ' v r δ' fp' new,Rel C io H' σ' δ' fp' (exu ex new)->Own G H' (Lf C fp' (exu ex new)) v r new->new.Nodup->(∀a∈new,C.H₀ a=none)->D.rt r δ'->D'.rt v H'
theorem RelEnds.shift{C:MC G}{io:List Nat}{ex:Addr->Prop}{H H1:Hp}{fp fp1:Fp}{D:Zd3}{D':Ends}(E:RelEnds C io ex H fp D D')(k:Kp H fp H1 fp1):RelEnds C io ex H1 fp1 D D' :=
 ⟨λH' σ' δ' fp' R q=>E.nx H' σ' δ' fp' R (k.trans q),λH' σ' δ' fp' R q=>E.bk H' σ' δ' fp' R (k.trans q),λH' σ' δ' fp' R q=>E.ct H' σ' δ' fp' R (k.trans q),E.rt⟩
noncomputable def SS(G:Xd)(io:List Nat)(t:TS)(m:MSt):Prop:=∀(C:MC G) (H:Hp) (σ:St) (δ:Zd) (fp:Fp) (ex:Addr->Prop) (D:Zd3) (D':Ends),Rel C io H σ δ fp ex->m D δ->RelEnds C io ex H fp D D'->t D' σ H
noncomputable def MS(X:Cx)(io:List Nat)(st:Stmt)(m:MSt):Prop:=∃t,PS X st t∧SS X.K io t m
noncomputable def MSs(X:Cx)(io:List Nat)(st:List Stmt)(m:MSt):Prop:=∃t,PSs X st t∧SS X.K io t m
section
variable {X:Cx}{io:List Nat}{p p' p'' c c':Bool}{e a b:Expr}{m ma mb:MEt}{es rest:List Expr}{mr:MAt}{pos:Pos}{st:Stmt}{sts:List Stmt}{u w:MSt}{mt:MTt}
noncomputable def Zyz:MSt:=λD δ=>D.nx δ
noncomputable def Ya4(w:MSt)(D:Zd3)(δ:Zd):Prop:=w D δ
noncomputable def Z7m(u w:MSt):MSt:=λD δ=>u { D with nx:=Ya4 w D } δ
theorem Zvg:MSs X io [] Zyz:=⟨_,Zux,λC H σ δ fp ex D D' R h E=>E.nx H σ δ fp R (.refl _ _) h⟩
theorem Zh(h:MS X io st u):MSs X io [st] u:=by
 obtain⟨_,A,s⟩:=h
 exact⟨_,Zt5 A,s⟩
theorem Zq4(h:MS X io st u)(g:MSs X io sts w):MSs X io (st :: sts) (Z7m u w):=by
 obtain⟨_,A,s⟩:=h
 obtain⟨tb,B,s'⟩:=g
 exact⟨_,Zrh A B,λC H σ δ fp ex D D' R h E=>s C H σ δ fp ex _ _ R h ⟨λH1 σ1 δ1 fp1 R1 k1 h1=>s' C H1 σ1 δ1 fp1 ex D D' R1 h1 (E.shift k1),E.bk,E.ct,E.rt⟩⟩
noncomputable def Z3w:MSt:=λ_ _=>False
theorem Zqr:MS X io st Z3w:=⟨_,Zrt,λC H σ δ fp ex D D' R h E=>h.elim⟩
noncomputable def Z2m(m:MEt):MSt:=λD δ=>m δ λ_ δ'=>D.nx δ'
theorem Zn8(he:ME X io p c e m)(hs:Bx e none pos.line X.env=pure false:=by rfl):MS X io (.Expr e pos) (Z2m m):=by
 obtain⟨_,A,s⟩:=he
 exact⟨_,Zbq A hs,λC H σ δ fp ex D D' R h E=>s C H σ δ fp ex _ _ R h λH' v r δ' fp' new r1 h1=>E.nx H' σ δ' fp' r1.base r1.stp.kp h1⟩
noncomputable def Z8l(m:MEt):MSt:=λD δ=>m δ λr δ'=>D.rt r δ'
theorem Zzc(he:ME X io p true e m):MS X io (.Return (some e) pos) (Z8l m):=by
 obtain⟨_,A,s⟩:=he
 exact⟨_,Ztb A,λC H σ δ fp ex D D' R h E=>s C H σ δ fp ex _ _ R h λH' v r δ' fp' new r1 h1=>E.rt H' σ v r δ' fp' new r1.rel (r1.own.wide λa l _=>l rfl) r1.nd (λa m=>(R.newOk (r1.fresh a m)).2.2) h1⟩
noncomputable def Zp1(i:Nat):MSt:=λD δ=>match δ[i]? with|some (some t)=>D.rt t (δ.set i none)|_=>False
theorem Rel.take{C:MC G}{H:Hp}{σ:St}{δ:Zd}{fp:Fp}{ex:Addr->Prop}{i:Nat}{t:OT}(R:Rel C io H σ δ fp ex)(hi:δ[i]? =some (some t)):Rel C io H σ (δ.set i none) (fpu fp i []) (exu ex (fp i)):=by
 have hil:i<δ.length:=(Xi.mp hi).1
 have get:∀j (t':OT),(δ.set i none)[j]? =some (some t')->j≠i∧δ[j]? =some (some t'):=λj t' e=>by
  by_cases ej:j=i
  ·subst ej;rw[QR hil]at e;cases e
  ·rw[Qz (BL ej)]at e;exact⟨ej,e⟩
 have sub:∀j a,a∈fpu fp i [] j->j≠i∧a∈fp j:=λj a m=>by
  by_cases ej:j=i
  ·subst ej;rw[Zn]at m;exact nomatch m
  ·rw[Zy ej]at m;exact⟨ej,m⟩
 have lw:∀a,Lf C fp ex a->Lf C (fpu fp i []) (exu ex (fp i)) a:=λa l=>⟨λ⟨j,z⟩=>l.1 ⟨j,(sub j a z).2⟩,λz=>z.elim l.2.1 λz=>l.1 ⟨i,z⟩,l.2.2⟩
 refine⟨by rw[Vl];exact R.len,λj t' e=>?_,λj h=>?_,λj=>?_,λj k a h1 h2=>R.dj j k a (sub j a h1).2 (sub k a h2).2,λj a h z=>?_,λa z w=>?_,R.fr,R.al,λj a h=>R.new j a (sub j a h).2,R.io⟩
 ·obtain⟨ej,e⟩:=get j t' e
  obtain⟨w,e1,o⟩:=R.own j t' e
  exact⟨w,e1,by rw[Zy ej];exact o.wide λa l _=>lw a l⟩
 ·by_cases ej:j=i
  ·subst ej;rw[Zn]
  ·rw[Zy ej]
   exact R.emp j λt' z=>h t' (by rw[Qz (BL ej)];exact z)
 ·by_cases ej:j=i
  ·subst ej;rw[Zn];exact .nil
  ·rw[Zy ej];exact R.nd j
 ·obtain⟨ej,h⟩:=sub j a h
  rcases z with z|z
  ·exact R.dx j a h z
  ·exact ej (R.dj j i a h z)
 ·rcases z with z|z
  ·exact R.xa a z w
  ·exact R.footSome w ⟨i,z⟩
theorem Zcc(i:Nat){x:Str}{px:Pos}(hio:i∉io:=by decide)(hN:X.N[i]? =some x:=by rfl)(hv:Vis X.env.scope x:=by first|exact QF rfl|exact Qp (QF rfl)|exact Qp (Qp rfl))(hd:(x==("__debug__" : Str))=false:=by decide)
  (hcd:(x==("__classdict__" : Str))=false:=by decide):MS X io (.Return (some (.Name x px)) pos) (Zp1 i):=by
 refine⟨_,Ztb (pv i hN hv hd hcd),λC H σ δ fp ex D D' R h E=>?_⟩
 unfold Zp1 at h
 split at h
 case h_2=>exact h.elim
 rename_i t hi
 obtain⟨v,e,o⟩:=R.own i t hi
 have lw:∀a,Lf C fp ex a->H a≠none->Lf C (fpu fp i []) (exu ex (fp i)) a:=λa l _=>⟨λz=>by
  rcases z.of_u with z|⟨j,_,z⟩
  ·exact nomatch z
  ·exact l.1 ⟨j,z⟩,λz=>z.elim l.2.1 λz=>l.1 ⟨i,z⟩,l.2.2⟩
 have hn:∀a∈fp i,C.H₀ a=none:=λa m=>by
  rcases R.new i a m with z|z
  ·exact absurd z.1 hio
  ·exact z
 exact⟨v,e,E.rt H σ v t _ _ (fp i) (R.take hi) (o.wide lw) (R.nd i) hn h⟩
noncomputable def Z9e(t:MTt)(u w:MSt):MSt:=λD δ=>t δ λb δ'=>if b=true then u D δ' else w D δ'
theorem Z5x{cnd:Expr}{ss ss':List Stmt}(hc:MT X io p cnd mt)(ha:MSs X io ss u)(hb:MSs X io ss' w):MS X io (.If cnd ss ss' pos) (Z9e mt u w):=by
 obtain⟨_,T,s⟩:=hc
 obtain⟨_,A,sa⟩:=ha
 obtain⟨_,B,sb⟩:=hb
 exact⟨_,Z62 T A B,λC H σ δ fp ex D D' R h E=>s C H σ δ fp ex _ _ R h λH' b δ' fp' R' S h'=>by
  cases b with
  | true=>
   rw[if_pos rfl]at h'⊢
   exact sa C H' σ δ' fp' ex D D' R' h' (E.shift S.kp)
  | false=>
   rw[if_neg Xw]at h'⊢
   exact sb C H' σ δ' fp' ex D D' R' h' (E.shift S.kp)⟩
theorem Rel.put{C:MC G}{H:Hp}{σ:St}{δ:Zd}{fp:Fp}{ex:Addr->Prop}{i:Nat}{v:V}{r:OT}{new:List Addr}(R:Rel C io H σ δ fp (exu ex new))(hio:i∉io)(o:Own G H (Lf C fp (exu ex new)) v r new)(nd:new.Nodup)
  (hn:∀a∈new,C.H₀ a=none∧¬ex a):∃fp',Rel C io H (σ.set i (some v)) (δ.set i (some r)) fp' ex∧∀a,Foot fp' a->Foot fp a∨a∈new:=by
 by_cases hil:i<δ.length
 case neg=>
  refine⟨fp,?_,λa h=>.inl h⟩
  have hl:=R.len
  rw[List.set_eq_of_length_le (show δ.length≤i by omega),List.set_eq_of_length_le (show σ.length≤i by omega)]
  exact R.drop λa z=>.inl z
 have hsl:i<σ.length:=by rw[R.len];exact hil
 have sub:∀a,Foot (fpu fp i new) a->Foot fp a∨a∈new:=λa z=>by
  rcases z.of_u with z|⟨j,_,z⟩
  ·exact .inr z
  ·exact .inl ⟨j,z⟩
 have lw:∀a,Lf C fp (exu ex new) a->Lf C (fpu fp i new) ex a:=λa l=>⟨λz=>(sub a z).elim l.1 λz=>l.2.1 (.inr z),λz=>l.2.1 (.inl z),l.2.2⟩
 refine⟨fpu fp i new,⟨by rw[Vl,Vl];exact R.len,λj t' e=>?_,λj h=>?_,λj=>?_,λj k a h1 h2=>?_,λj a h z=>?_,λa z=>R.xa a (.inl z),R.fr,R.al,λj a h=>?_,λj hj=>?_⟩,sub⟩
 ·by_cases ej:j=i
  ·subst ej
   rw[QR hil]at e
   cases e
   exact⟨v,QR hsl,by rw[Zn];exact o.wide λa l _=>lw a l⟩
  ·rw[Qz (BL ej)]at e
   obtain⟨w,e1,o1⟩:=R.own j t' e
   exact⟨w,by rw[Qz (BL ej)];exact e1,by rw[Zy ej];exact o1.wide λa l _=>lw a l⟩
 ·by_cases ej:j=i
  ·subst ej;exact absurd (QR hil) (h r)
  ·rw[Zy ej]
   exact R.emp j λt' z=>h t' (by rw[Qz (BL ej)];exact z)
 ·by_cases ej:j=i
  ·subst ej;rw[Zn];exact nd
  ·rw[Zy ej];exact R.nd j
 ·by_cases ej:j=i
  ·subst ej
   rw[Zn]at h1
   by_cases ek:k=j
   ·exact ek.symm
   ·rw[Zy ek]at h2
    exact absurd (.inr h1) (R.dx k a h2)
  ·rw[Zy ej]at h1
   by_cases ek:k=i
   ·subst ek
    rw[Zn]at h2
    exact absurd (.inr h2) (R.dx j a h1)
   ·rw[Zy ek]at h2
    exact R.dj j k a h1 h2
 ·by_cases ej:j=i
  ·subst ej
   rw[Zn]at h
   exact(hn a h).2 z
  ·rw[Zy ej]at h
   exact R.dx j a h (.inl z)
 ·by_cases ej:j=i
  ·subst ej
   rw[Zn]at h
   exact .inr (hn a h).1
  ·rw[Zy ej]at h
   exact R.new j a h
 ·have ej:j≠i:=λz=>hio (z▸hj)
  rw[Qz (BL ej)]
  exact R.io j hj
theorem RE.put{C:MC G}{H H':Hp}{σ:St}{δ δ':Zd}{fp fp':Fp}{ex:Addr->Prop}{i:Nat}{v:V}{r:OT}{new:List Addr}(R:RE C io p true H σ δ fp ex H' v r δ' fp' new)(R0:Rel C io H σ δ fp ex)(hio:i∉io) :
  ∃fp2,Rel C io H' (σ.set i (some v)) (δ'.set i (some r)) fp2 ex∧Kp H fp H' fp2:=by
 obtain⟨fp2,R2,g⟩:=R.rel.put hio (R.own.wide λa l _=>l rfl) R.nd λa m=>⟨(R0.newOk (R.fresh a m)).2.2,(R0.newOk (R.fresh a m)).2.1⟩
 refine⟨fp2,R2,λb o e q=>R.stp.keep b o e (.inr (q.resolve_left (by decide))),λz=>(nomatch z),λa z=>?_,R.stp.al⟩
 rcases g a z with z|z
 ·exact R.stp.grow a z
 ·exact .inr (R.fresh a z)
theorem RE.fzc{C:MC G}{H H':Hp}{σ:St}{δ δ':Zd}{fp fp':Fp}{ex:Addr->Prop}{v:V}{r:OT}{new:List Addr}(R:RE C io p c H σ δ fp ex H' v r δ' fp' new)(R0:Rel C io H σ δ fp ex) :
  RE C io p c H σ δ fp ex H' v (.fz r.data) δ' fp' []:=.fz R.base R.stp (R.da R0)
theorem RE.fzs{C:MC G}{H H':Hp}{σ:St}{δ δ':Zd}{fp fp':Fp}{ex:Addr->Prop}{v:V}{r:OT}{new:List Addr}(R:RE C io p c H σ δ fp ex H' v r δ' fp' new)(R0:Rel C io H σ δ fp ex)(h:We r.data=true) :
  RE C io p true H σ δ fp ex H' v (.fz r.data) δ' fp' []:=.fz R.base R.stp ((R.da R0).flat h)
noncomputable def Zye(i:Nat)(m:MEt):MSt:=λD δ=>m δ λr δ'=>D.nx (δ'.set i (some (.fz r.data)))
noncomputable def Zkk(i:Nat)(m:MEt):MSt:=λD δ=>m δ λr δ'=>D.nx (δ'.set i (some r))
section
variable {i:Nat}{x:Str}{px:Pos}
theorem Z8n{t:TE}(s:SE G io p true t m)(hio:i∉io):SS G io (Zy2 t (Znf i)) (Zye i m):=λC H σ δ fp ex D D' R h E=>s C H σ δ fp ex _ _ R h λH' v r δ' fp' new r1 h1=>by
 obtain⟨fp2,R2,k2⟩:=(r1.fzc R).put R hio
 exact E.nx H' _ _ fp2 R2 k2 h1
theorem Z22{t:TE}(s:SE G io p true t m)(hio:i∉io):SS G io (Zy2 t (Znf i)) (Zkk i m):=λC H σ δ fp ex D D' R h E=>s C H σ δ fp ex _ _ R h λH' v r δ' fp' new r1 h1=>by
 obtain⟨fp2,R2,k2⟩:=r1.put R hio
 exact E.nx H' _ _ fp2 R2 k2 h1
theorem Zg4(hN:X.N.Nodup)(hi:X.N[i]? =some x)(hx:Loc X.env.scope x)(he:ME X io p true e m)(hio:i∉io:=by decide)(hs:Bx e (some (.Name x px)) pos.line X.env=pure false:=by rfl)(hf:X.fn x=true∨X.env.scope.names.lookup x=some .local:=by first|exact .inl rfl|exact .inr rfl|assumption) :
  MS X io (.Assign [.Name x px] e pos) (Zye i m):=by
 obtain⟨_,A,s⟩:=he
 exact⟨_,Zsc hN hi hx A hs hf,Z8n s hio⟩
theorem Zv0(hN:X.N.Nodup)(hi:X.N[i]? =some x)(hx:Loc X.env.scope x)(he:ME X io p true e m)(hio:i∉io:=by decide)(hs:Bx e (some (.Name x px)) pos.line X.env=pure false:=by rfl)(hf:X.fn x=true∨X.env.scope.names.lookup x=some .local:=by first|exact .inl rfl|exact .inr rfl|assumption) :
  MS X io (.Assign [.Name x px] e pos) (Zkk i m):=by
 obtain⟨_,A,s⟩:=he
 exact⟨_,Zsc hN hi hx A hs hf,Z22 s hio⟩
end
noncomputable def Zsp(t:MTt)(u:MSt):MSt:=λD δ=>∃W:Nat->Zd->Prop,(∃n,W n δ)∧∀n δ,W n δ->t δ λb δ'=>if b=true then∃N:Zd->Prop,(∀δ',N δ'->∃n',n'<n∧W n' δ')∧u { D with nx:=N,ct:=N,bk:=D.nx } δ' else D.nx δ'
theorem Zq5{cnd:Expr}{ss:List Stmt}(hp:PassesOwn (X5 X.prog X.w) X.A X.env X.xe)(hc:MT X io p cnd mt)(ha:MSs X io ss u):MS X io (.While cnd ss [] pos) (Zsp mt u):=by
 obtain⟨_,T,s⟩:=hc
 obtain⟨_,A,sa⟩:=ha
 refine⟨_,Zpp hp T A,λC H σ δ fp ex D D' R h E=>?_⟩
 obtain⟨W,⟨n0,w0⟩,turn⟩:=h
 refine⟨λn σ' H'=>∃δ' fp',Rel C io H' σ' δ' fp' ex∧Kp H fp H' fp'∧W n δ',⟨n0,δ,fp,R,.refl _ _,w0⟩,?_⟩
 rintro n σ1 H1 ⟨δ1,fp1,R1,k1,w1⟩
 refine s C H1 σ1 δ1 fp1 ex _ _ R1 (turn n δ1 w1) λH2 b δ2 fp2 R2 S2 h2=>?_
 have k2:=k1.trans S2.kp
 cases b with
 | true=>
  rw[if_pos rfl]at h2⊢
  obtain⟨N,hN,h2⟩:=h2
  refine⟨λσ' H'=>∃δ' fp',Rel C io H' σ' δ' fp' ex∧Kp H fp H' fp'∧N δ',λσ' H' ⟨δ',fp',R',k',n'⟩=>?_,?_⟩
  ·obtain⟨n1,hn1,w1⟩:=hN δ' n'
   exact⟨n1,hn1,δ',fp',R',k',w1⟩
  ·refine sa C H2 σ1 δ2 fp2 ex _ _ R2 h2 ⟨λH' σ' δ' fp' R' k' n'=>⟨δ',fp',R',k2.trans k',n'⟩,λH' σ' δ' fp' R' k' n'=>E.nx H' σ' δ' fp' R' (k2.trans k') n',λH' σ' δ' fp' R' k' n'=>⟨δ',fp',R',k2.trans k',n'⟩,E.rt⟩
 | false=>
  rw[if_neg Xw]at h2⊢
  exact E.nx H2 σ1 δ2 fp2 R2 k2 h2
end
variable {G:Xd}
noncomputable def Ze1(N:List Str)(ds:List Xa):Zd:=ds.map (λd=>some (.fz d)) ++ Qi (N.length-ds.length) none
section
variable {H:Hp}{L:Addr->Prop}{vs:List V}{ds:List Xa}{N:List Str}
theorem Zm6{i:Nat}{t:OT}{n:Nat}(h:(ds.map (λd=>some (.fz d)) ++ Qi n none:Zd)[i]? =some (some t)):∃d,ds[i]? =some d∧t= .fz d:=by
 rw[List.getElem?_append]at h
 split at h
 ·rw[Xj]at h
  cases e:ds[i]? with
  | none=>rw[e]at h;cases h
  | some d=>rw[e]at h;cases h;exact⟨d,rfl,rfl⟩
 ·rw[List.getElem?_replicate]at h
  split at h
  ·cases h
  ·cases h
theorem Rel.entry(h:Das G H L vs ds):Rel (G:=G) ⟨H,λ_=>False,L,start N vs⟩ [] H (start N vs) (Ze1 N ds) (λ_=>[]) (λ_=>False):=by
 refine⟨?_,λi t e=>?_,λ_ _=>rfl,λ_=>.nil,λi j a m=>(nomatch m),λi a m=>(nomatch m),λa z=>z.elim,λb o e _=>e,λb e=>e,λi a m=>(nomatch m),λi m=>nomatch m⟩
 ·unfold start Ze1
  simp[h.length]
 ·obtain⟨d,e',rfl⟩:=Zm6 e
  obtain⟨x,e1,q⟩:=h.get e'
  refine⟨x,?_,.fz (q.wide λa l _=>⟨λ⟨j,z⟩=>(nomatch z),λz=>z,.inl l⟩)⟩
  unfold L2.start
  rw[Vj (by rw[Xe];exact(Xi.mp e1).1),Xj,e1]
  rfl
variable {P:X4}{w:Qm}{K:Xd}{mg:Str->Option Xc}{base:Heap}
noncomputable def Zxn(k:OT->Prop):Zd3:={ nx:=λ_=>k (.fz .none),rt:=λr _=>k r }
theorem Fun.okD{x qual:Str}{st:Stmt}{f:Addr}{fd:QD}{N ps:List Str}{n:Nat}{S:List Xa->(OT->Prop)->Prop}(F:Fun K x qual st f fd)(Sc:Yc N ps (Zg st))(len:∀ds k,S ds k->ds.length=ps.length)
  (hbody:∀(cdv:Xc) (A:Qn) (outer:List Env) (s:Xf) (H:Hp) (E:XK),Room n (A.deeper (envOfC qual (Zg st) s.heap.objs.size f cdv)) ->
   ∃m,MSs (Zpe CX0 P w K mg base N qual (Zg st) f cdv A outer s H E).nox [] (Zx st) m∧∀ds k,S ds k->m (Zxn k) (Ze1 N ds)):FnOk P w K mg base CX0 (n+1) f fd ps (spD K S):=by
 refine F.ok Sc (λvs H Q E h=>?_) (λcdv A outer s H vs Q E hr h=>?_)
 ·obtain⟨L,ds,k,h1,h2,_⟩:=h
  rw[h1.length]
  exact len ds k h2
 ·obtain⟨L,ds,k,h1,h2,h3⟩:=h
  obtain⟨m,⟨t,A1,s1⟩,q⟩:=hbody cdv A outer s H E hr
  refine⟨t,A1,s1 ⟨H,λ_=>False,L,start N vs⟩ H _ _ _ _ (Zxn k) _ (Rel.entry h1) (q ds k h2) ⟨λH' σ' δ' fp' R _ hk=>?_,λ_ _ _ _ _ _ z=>z.elim,λ_ _ _ _ _ _ z=>z.elim,λH' σ' v r δ' fp' new R o nd hn hk=>?_⟩⟩
  ·exact h3 _ .non H' [] hk (λb o e=>R.fr b o e id) (.fz .non) .nil λa m=>nomatch m
  ·refine h3 r v H' new hk (λb o e=>R.fr b o e id) (o.wide λa l _=>⟨?_,λz=>l.2.1 (.inr z)⟩) nd hn
   exact l.2.2
end
noncomputable abbrev MGt:=Xa->Zd->(Zd->Prop)->Prop
noncomputable abbrev Znn:=List Xa->Zd->(Zd->Prop)->Prop
noncomputable def SG(G:Xd)(io:List Nat)(c:Bool)(t:TG)(g:MGt):Prop:=∀(C:MC G) (H:Hp) (σ:St) (δ:Zd) (fp:Fp) (ex:Addr->Prop) (v:V) (d:Xa) (k:Zd->Prop) (Q:St->Hp->Prop),Rel C io H σ δ fp ex->Da G H (λa=>c=true->Lf C fp ex a) v d->g d δ k ->
 (∀ σ' δ' fp',Rel C io H σ' δ' fp' ex->Kp H fp H fp'->k δ'->Q σ' H)->t v σ H Q
noncomputable def SGs(G:Xd)(io:List Nat)(c:Bool)(t:TGs)(g:Znn):Prop:=∀(C:MC G) (H:Hp) (σ:St) (δ:Zd) (fp:Fp) (ex:Addr->Prop) (v:List V) (d:List Xa) (k:Zd->Prop) (Q:St->Hp->Prop),Rel C io H σ δ fp ex->Das G H (λa=>c=true->Lf C fp ex a) v d->g d δ k ->
 (∀ σ' δ' fp',Rel C io H σ' δ' fp' ex->Kp H fp H fp'->k δ'->Q σ' H)->t v σ H Q
noncomputable def MG(X:Cx)(io:List Nat)(c:Bool)(tg:Expr)(g:MGt):Prop:=∃t,PG X tg t∧SG X.K io c t g
noncomputable def MGs(X:Cx)(io:List Nat)(c:Bool)(tg:List Expr)(g:Znn):Prop:=∃t,PGs X tg t∧SGs X.K io c t g
section
variable {X:Cx}{io:List Nat}{c:Bool}{pos:Pos}{i:Nat}{x:Str}
noncomputable def dName(i:Nat):MGt:=λd δ k=>k (δ.set i (some (.fz d)))
noncomputable def Ztl(i:Nat):MGt:=λd δ k=>We d=true∧k (δ.set i (some (.fz d)))
theorem Rel.putD{C:MC G}{H:Hp}{σ:St}{δ:Zd}{fp:Fp}{ex:Addr->Prop}{v:V}{d:Xa}(R:Rel C io H σ δ fp ex)(hio:i∉io)(q:Da G H (Lf C fp ex) v d) :
  ∃fp',Rel C io H (σ.set i (some v)) (δ.set i (some (.fz d))) fp' ex∧Kp H fp H fp':=by
 obtain⟨fp',R',g⟩:=(R.drop λa z=>Jg.mp z).put (new:=[]) hio (.fz (q.wide λa l _=>⟨l.1,λz=>l.2.1 (Jg.mp z),l.2.2⟩)) .nil (λa m=>nomatch m)
 exact⟨fp',R',λb o e _=>e,λz=>(nomatch z),λa z=>(g a z).imp id λz=>(nomatch z),λb e=>e⟩
theorem Zxk(hN:X.N.Nodup)(hi:X.N[i]? =some x:=by rfl)(hx:Loc X.env.scope x:=by first|exact QF rfl|exact Qp rfl)(hio:i∉io:=by decide)(hf:X.fn x=true∨X.env.scope.names.lookup x=some .local:=by first|exact .inl rfl|exact .inr rfl|assumption):MG X io true (.Name x pos) (dName i) :=
 ⟨_,Zn7 hN hi hx hf,λC H σ δ fp ex v d k Q R q h kk=>by
  obtain⟨fp',R',k'⟩:=R.putD hio (q.wide λa l _=>l rfl)
  exact kk _ _ fp' R' k' h⟩
theorem Zi1(hN:X.N.Nodup)(hi:X.N[i]? =some x:=by rfl)(hx:Loc X.env.scope x:=by first|exact QF rfl|exact Qp rfl)(hio:i∉io:=by decide)(hf:X.fn x=true∨X.env.scope.names.lookup x=some .local:=by first|exact .inl rfl|exact .inr rfl|assumption):MG X io c (.Name x pos) (Ztl i) :=
 ⟨_,Zn7 hN hi hx hf,λC H σ δ fp ex v d k Q R q h kk=>by
  obtain⟨fp',R',k'⟩:=R.putD hio (q.flat h.1)
  exact kk _ _ fp' R' k' h.2⟩
noncomputable def Z94:Znn:=λds δ k=>ds=[]∧k δ
noncomputable def Zu0(g:MGt)(gs:Znn):Znn:=λds δ k=>match ds with|d :: r=>g d δ λδ'=>gs r δ' k|[]=>False
theorem Zl3:MGs X io c [] Z94:=⟨_,Zvq,λC H σ δ fp ex v d k Q R q h kk=>by
 obtain⟨rfl,h⟩:=h
 cases q
 exact⟨rfl,kk σ δ fp R (.refl _ _) h⟩⟩
theorem Rel.kp_das{C:MC G}{H H':Hp}{σ:St}{δ:Zd}{fp fp':Fp}{ex:Addr->Prop}{vs:List V}{ds:List Xa}(R:Rel C io H σ δ fp ex)(S:Kp H fp H' fp')(h:Das G H (Lf C fp ex) vs ds):Das G H' (Lf C fp' ex) vs ds:=by
 have S':Stp false H δ fp H' δ fp':=⟨S.keep,λz=>(nomatch z),S.grow,S.al⟩
 obtain⟨f1,f2⟩:=R.frameL (c:=true) (ex':=ex) S' (.inr rfl) λa z=>.inl z
 exact h.frame (λa xs l q=>⟨(f1 a xs (λ_=>l) q).1 rfl,(f1 a xs (λ_=>l) q).2⟩) f2
theorem Zi7{e:Expr}{es:List Expr}{g:MGt}{gs:Znn}(h1:MG X io true e g)(h2:MGs X io true es gs)
  (hs:(JS (e :: es) X.env).map (·.2)=UL e X.env :: (JS es X.env).map (·.2):=by rfl):MGs X io true (e :: es) (Zu0 g gs):=by
 obtain⟨_,A,s⟩:=h1
 obtain⟨_,B,s'⟩:=h2
 exact⟨_,Zjf A B hs,λC H σ δ fp ex v d k Q R q h kk=>by
  cases q with
  | nil=>exact h.elim
  | cons q qs=>
   refine⟨_,_,rfl,s C H σ δ fp ex _ _ _ _ R q h λσ1 δ1 fp1 R1 k1 h1=>?_⟩
   exact s' C H σ1 δ1 fp1 ex _ _ _ _ R1 ((R.kp_das k1 (qs.wide λa l _=>l rfl)).wide λa l _ _=>l) h1 λσ2 δ2 fp2 R2 k2 h2=>kk σ2 δ2 fp2 R2 (k1.trans k2) h2⟩
theorem Zg7{e:Expr}{es:List Expr}{g:MGt}{gs:Znn}(h1:MG X io false e g)(h2:MGs X io false es gs)
  (hs:(JS (e :: es) X.env).map (·.2)=UL e X.env :: (JS es X.env).map (·.2):=by rfl):MGs X io false (e :: es) (Zu0 g gs):=by
 obtain⟨_,A,s⟩:=h1
 obtain⟨_,B,s'⟩:=h2
 exact⟨_,Zjf A B hs,λC H σ δ fp ex v d k Q R q h kk=>by
  cases q with
  | nil=>exact h.elim
  | cons q qs=>
   refine⟨_,_,rfl,s C H σ δ fp ex _ _ _ _ R (q.wide λa _ _ z=>nomatch z) h λσ1 δ1 fp1 R1 k1 h1=>?_⟩
   exact s' C H σ1 δ1 fp1 ex _ _ _ _ R1 (qs.wide λa _ _ z=>nomatch z) h1 λσ2 δ2 fp2 R2 k2 h2=>kk σ2 δ2 fp2 R2 (k1.trans k2) h2⟩
noncomputable def dTup(n:Nat)(gs:Znn):MGt:=λd δ k=>match d with| .tuple ds=>ds.length=n∧gs ds δ k|_=>False
theorem Zst{es:List Expr}{k:Nat}{gs:Znn}{n:Nat}(hc:X.calm=true)(h:MGs X io c es gs)
  (hn:(JS es X.env).length=n:=by rfl) (hst:(JS es X.env).findIdx? (·.1)=none:=by rfl):MG X io c (.Tuple es k pos) (dTup n gs):=by
 obtain⟨_,A,s⟩:=h
 exact⟨_,Z3f hc A hn hst,λC H σ δ fp ex v d k Q R q h kk=>by
  cases q with
  | tup e qs=>exact⟨_,_,rfl,.inl (.inl e),by rw[qs.length];exact h.1,s C H σ δ fp ex _ _ _ _ R qs h.2 kk⟩
  | _=>exact h.elim⟩
end
variable {G:Xd}
noncomputable def IterOk(C:MC G)(fp:Fp)(ex:Addr->Prop)(H1:Hp)(c:Bool)(J:It)(ds:List Xa):Prop:=∀H':Hp,(∀b o,H1 b=some o->(c=false∨¬Foot fp b)->H' b=some o)->∀i:Nat,
 (∀ d,ds[i]? =some d->J.go i H'∧∀x H'',J.yld i H' x H''->Same H' H''∧Da G H'' (λa=>c=true->(Lf C fp ex a∧H1 a≠none)) x d)∧(ds[i]? =none->J.stop i H')
noncomputable abbrev MIt:=Zd->(List Xa->Zd->Prop)->Prop
noncomputable def SI(G:Xd)(io:List Nat)(p c:Bool)(t:TI)(m:MIt):Prop:=∀(C:MC G) (H:Hp) (σ:St) (δ:Zd) (fp:Fp) (ex:Addr->Prop) (K:List Xa->Zd->Prop) (Q:It->Hp->Prop),Rel C io H σ δ fp ex->m δ K ->
 (∀ J H1 ds δ1 fp1,Rel C io H1 σ δ1 fp1 ex->Stp p H δ fp H1 δ1 fp1->IterOk C fp1 ex H1 c J ds->K ds δ1->Q J H1)->t σ H Q
noncomputable def MI(X:Cx)(io:List Nat)(p c:Bool)(tg iter:Expr)(m:MIt):Prop:=∃t,PI X tg iter t∧SI X.K io p c t m
section
variable {X:Cx}{io:List Nat}{p c:Bool}{e a b tg:Expr}{m:MEt}{mr:MAt}{K:Xd}
noncomputable def iL(m:MEt):MIt:=λδ K=>m δ λr δ'=>match r.data with| .list ds=>K ds δ'|_=>False
theorem Rel.kept{C:MC G}{H H':Hp}{σ:St}{δ:Zd}{fp:Fp}{ex:Addr->Prop}(R:Rel C io H σ δ fp ex)(kp:∀b o,H b=some o->(c=false∨¬Foot fp b)->H' b=some o) :
  (∀ a (xs:MuO),(c=true->Lf C fp ex a)->Rd H a xs.ho->(c=true->(Lf C fp ex a∧H a≠none))∧Rd H' a xs.ho)∧(∀a (xs:ImO),H a=some xs.ho->H' a=some xs.ho):=by
 refine⟨λa xs l q=>⟨λhc=>⟨l hc,q.some⟩,?_⟩,λa xs q=>kp a _ q (.inr λz=>?_)⟩
 ·have hk:c=false∨¬Foot fp a:=by
   cases c with
   | false=>exact .inl rfl
   | true=>exact .inr (l rfl).1
  rcases q with q|⟨o,q⟩
  ·exact .inl (kp a _ q hk)
  ·exact .inr ⟨o,kp a _ q hk⟩
 ·obtain⟨ys,e⟩:=R.foot z
  exact ImO.nm q e
theorem Zu5(h:ME X io p c e m):MI X io p c tg e (iL m):=by
 obtain⟨_,A,s⟩:=h
 exact⟨_,Zpj rfl A,λC H σ δ fp ex K' Q R h kk=>s C H σ δ fp ex _ _ R h λH1 v r δ1 fp1 new r1 h1=>by
  have q:=r1.da R
  generalize r.data=d at q h1
  cases q with
  | lst l e qs=>
   refine⟨_,rfl,⟨_,.inl e⟩,kk _ H1 _ δ1 fp1 r1.base r1.stp (λH' kp i=>?_) h1⟩
   obtain⟨f1,f2⟩:=r1.base.kept kp
   have e':=(f1 _ (.lst _) l e).2
   have qs':=qs.frame f1 f2
   refine⟨λd hd=>?_,λhd=>?_⟩
   ·obtain⟨x,hx,qx⟩:=qs'.get hd
    refine⟨⟨_,x,.inl e',hx⟩,λy H'' hy=>?_⟩
    obtain⟨rfl,hy⟩:=hy
    have:=hy _ (.inl e')
    rw[hx]at this
    cases this
    exact⟨Same.refl _,qx⟩
   ·exact⟨_,.inl e',by rw[qs'.length];exact JW.mp hd⟩
  | scr ks=>
   refine⟨_,rfl,⟨_,ks.sq⟩,kk _ H1 _ δ1 fp1 r1.base r1.stp (λH' kp i=>?_) h1⟩
   refine⟨λd hd=>?_,λhd=>?_⟩
   ·obtain⟨x,hx,qx⟩:=(Das.ints (G:=X.K) (H:=H') (L:=λa=>c=true->(Lf C fp1 ex a∧H1 a≠none)) _).get hd
    refine⟨⟨_,x,ks.sq,hx⟩,λy H'' hy=>?_⟩
    obtain⟨rfl,hy⟩:=hy
    have:=hy _ ks.sq
    rw[hx]at this
    cases this
    exact⟨Same.refl _,qx⟩
   ·refine⟨_,ks.sq,?_⟩
    have:=JW.mp hd
    simpa using this
  | _=>exact h1.elim⟩
noncomputable def Zd0(lo:Int)(n:Nat):List Xa:=(Xz n).map λ(i:Nat)=>XM (lo+(i:Int))
@[simp] theorem W6(lo:Int)(n:Nat):(Zd0 lo n).length=n:=by simp[Zd0]
theorem Jc{lo:Int}{n i:Nat}{d:Xa}(h:(Zd0 lo n)[i]? =some d):i<n∧d= .int (lo+i):=by
 have hi:i<n:=by
  have:=(Xi.mp h).1
  simpa using this
 unfold Zd0 at h
 rw[Xj,JG hi]at h
 cases h
 exact⟨hi,rfl⟩
theorem Zjl{C:MC G}{fp:Fp}{ex:Addr->Prop}{H1:Hp}{lo:Int}{n:Nat}:IterOk C fp ex H1 true (Itr lo n) (Zd0 lo n):=λH' _ i=>by
 refine⟨λd hd=>?_,λhd=>?_⟩
 ·obtain⟨hi,rfl⟩:=Jc hd
  refine⟨hi,λx H'' hy=>?_⟩
  obtain⟨rfl,rfl⟩:=hy
  exact⟨Same.refl _,.int _⟩
 ·have:=JW.mp hd
  show n≤i
  simpa using this
noncomputable def iR1(mr:MAt):MIt:=λδ K=>mr δ λrs δ'=>match OT.datas rs with|[.int j]=>(-(2^62)≤j∧j<2^62)∧K (Zd0 0 j.toNat) δ'|_=>False
noncomputable def iR2(mr:MAt):MIt:=λδ K=>mr δ λrs δ'=>match OT.datas rs with|[.int i,.int j]=>(-(2^62)≤i∧i<2^62∧-(2^62)≤j∧j<2^62)∧K (Zd0 i (j-i).toNat) δ'|_=>False
theorem Yh{p' pos:Pos}(hg:Gl X "range")(hm:X.mg "range"=none)(ha:MA X io p c [a] mr)(hs:Xv [a] X.env=[(false,eval a X.env)]:=by rfl):MI X io p true tg (.Call (.Name "range" p') [a] [] pos) (iR1 mr):=by
 obtain⟨_,A,s⟩:=ha
 exact⟨_,Zn1 hg hm A hs,λC H σ δ fp ex K' Q R h kk=>s C H σ δ fp ex _ _ R h λH1 vs rs δ1 fp1 new r1 h1=>by
  have q:=r1.das R
  generalize OT.datas rs=d at q h1
  split at h1
  case h_2=>exact h1.elim
  cases q with
  | cons q1 q2=>
   cases q1
   cases q2
   exact⟨_,rfl,h1.1.1,h1.1.2,kk _ H1 _ δ1 fp1 r1.base r1.stp Zjl h1.2⟩⟩
theorem Zl8{p' pos:Pos}(hg:Gl X "range")(hm:X.mg "range"=none)(ha:MA X io p c [a,b] mr)(hs:Xv [a,b] X.env=[(false,eval a X.env),(false,eval b X.env)]:=by rfl)(hs2:Xv [b] X.env=[(false,eval b X.env)]:=by rfl):MI X io p true tg (.Call (.Name "range" p') [a,b] [] pos) (iR2 mr):=by
 obtain⟨_,A,s⟩:=ha
 exact⟨_,Zna hg hm A hs hs2,λC H σ δ fp ex K' Q R h kk=>s C H σ δ fp ex _ _ R h λH1 vs rs δ1 fp1 new r1 h1=>by
  have q:=r1.das R
  generalize OT.datas rs=d at q h1
  split at h1
  case h_2=>exact h1.elim
  cases q with
  | cons q1 q2=>
   cases q1
   cases q2 with
   | cons q2 q3=>
    cases q2
    cases q3
    exact⟨_,_,rfl,h1.1,kk _ H1 _ δ1 fp1 r1.base r1.stp Zjl h1.2⟩⟩
theorem IterOk.at{C:MC G}{fp fp':Fp}{ex:Addr->Prop}{H1 H' H'':Hp}{J:It}{ds:List Xa}{x:V}{d:Xa}(g:∀a,Foot fp' a->Foot fp a∨H1 a=none)(h:Da G H'' (λa=>true=true->(Lf C fp ex a∧H1 a≠none)) x d):Da G H'' (λa=>true=true->Lf C fp' ex a) x d :=
 h.wide λa l _ z=>⟨λw=>(g a w).elim (l z).1.1 (l z).2,(l z).1.2.1,(l z).1.2.2⟩
noncomputable def Z42(ds:List Xa)(g:MGt)(u:MSt)(D:Zd3)(δ1:Zd):Prop:=∃I:Nat->Zd->Prop,I 0 δ1∧(∀(i:Nat) (d:Xa) (δ':Zd),ds[i]? =some d->I i δ'->g d δ' λδ2=>u { D with nx:=I (i+1),ct:=I (i+1),bk:=D.nx } δ2)∧∀δ',I ds.length δ'->D.nx δ'
noncomputable def Z88(mi:MIt)(g:MGt)(u:MSt):MSt:=λD δ=>mi δ λds δ1=>Z42 ds g u D δ1
theorem Rel.mk0{C:MC G}{H H':Hp}{σ:St}{δ:Zd}{fp:Fp}{ex:Addr->Prop}(R:Rel C io H σ δ fp ex)(s:Same H H'):Rel C io H' σ δ fp ex:=(R.made (new:=[]) s λa m=>nomatch m).drop λa z=>.inl z
theorem Z0r{iter:Expr}{body:List Stmt}{mi:MIt}{g:MGt}{u:MSt}{pos:Pos}(hp:PassesOwn (X5 X.prog X.w) X.A X.env X.xe)(hc:X.calm=true)(hi:MI X io p true tg iter mi)(hg:MG X io true tg g)(hb:MSs X io body u)
  (hs:∀x,BV iter X.env x=pure x:=by intro _;rfl):MS X io (.For tg iter body [] pos) (Z88 mi g u):=by
 obtain⟨_,A,s⟩:=hi
 obtain⟨_,G,sg⟩:=hg
 obtain⟨_,B,sb⟩:=hb
 refine⟨_,Z2w hp hc A G B hs,λC H σ δ fp ex D D' R h E=>s C H σ δ fp ex _ _ R h λJ H1 ds δ1 fp1 R1 S1 it h1=>?_⟩
 obtain⟨I,h0,turn,fin⟩:=h1
 refine⟨λi n σ' H'=>n=ds.length-i∧i≤ds.length∧∃δ' fp',Rel C io H' σ' δ' fp' ex∧Kp H1 fp1 H' fp'∧I i δ',⟨ds.length,rfl,QH _,δ1,fp1,R1,.refl _ _,h0⟩,?_⟩
 rintro i n σ2 H2 ⟨rfl,hle,δ2,fp2,R2,k2,i2⟩
 have itk:=it H2 (λb o e q=>k2.keep b o e (.inr (q.resolve_left (by decide)))) i
 by_cases hlt:i<ds.length
 ·have hd:ds[i]? =some ds[i]:=Xl hlt
  obtain⟨go,yl⟩:=itk.1 _ hd
  refine .inr ⟨go,λσ' H'=>∃δ' fp',Rel C io H' σ' δ' fp' ex∧Kp H1 fp1 H' fp'∧I (i+1) δ',λσ' H' ⟨δ',fp',R',k',i'⟩=>⟨ds.length-(i+1),by omega,rfl,hlt,δ',fp',R',k',i'⟩,λx H3 hy=>?_⟩
  obtain⟨s3,q3⟩:=yl x H3 hy
  have R3:=R2.mk0 s3
  have k3:Kp H1 fp1 H3 fp2:=k2.trans ⟨λb o e _=>s3 _ _ e,λz=>(nomatch z),λa z=>.inl z,s3.al⟩
  refine sg C H3 σ2 δ2 fp2 ex x _ _ _ R3 (IterOk.at (H':=H2) (J:=J) (ds:=ds) k2.grow q3) (turn i _ δ2 hd i2) λσ4 δ4 fp4 R4 k4 h4=>?_
  have k5:=k3.trans k4
  refine sb C H3 σ4 δ4 fp4 ex _ _ R4 h4 ⟨λH' σ' δ' fp' R' k' n'=>⟨δ',fp',R',k5.trans k',n'⟩,λH' σ' δ' fp' R' k' n'=>E.nx H' σ' δ' fp' R' (S1.kp.trans (k5.trans k')) n',λH' σ' δ' fp' R' k' n'=>⟨δ',fp',R',k5.trans k',n'⟩,E.rt⟩
 ·have e:i=ds.length:=by omega
  subst e
  exact .inl ⟨itk.2 (by simp),E.nx H2 σ2 δ2 fp2 R2 (S1.kp.trans k2) (fin δ2 i2)⟩
end
noncomputable def gM(G:Xd)(io:List Nat)(c:Bool)(g:MGt):TG:=λv σ H Q=>∃(C:MC G) (δ:Zd) (fp:Fp) (ex:Addr->Prop) (d:Xa) (k:Zd->Prop),Rel C io H σ δ fp ex∧Da G H (λa=>c=true->Lf C fp ex a) v d∧g d δ k∧
 ∀σ' δ' fp',Rel C io H σ' δ' fp' ex->Kp H fp H fp'->k δ'->Q σ' H
noncomputable def tM(G:Xd)(io:List Nat)(p c:Bool)(m:MEt):TE:=λσ H Q=>∃(C:MC G) (δ:Zd) (fp:Fp) (ex:Addr->Prop) (K:OT->Zd->Prop),Rel C io H σ δ fp ex∧m δ K∧∀H' v r δ' fp' new,RE C io p c H σ δ fp ex H' v r δ' fp' new->K r δ'->Q v H'
noncomputable def ttM(G:Xd)(io:List Nat)(p:Bool)(m:MTt):TT:=λσ H Q=>∃(C:MC G) (δ:Zd) (fp:Fp) (ex:Addr->Prop) (K:Bool->Zd->Prop),Rel C io H σ δ fp ex∧m δ K∧∀H' b δ' fp',Rel C io H' σ δ' fp' ex->Stp p H δ fp H' δ' fp'->K b δ'->Q b H'
noncomputable def MIfs(X:Cx)(io:List Nat)(p:Bool)(ifs:List Expr)(m:MTt):Prop:=∃t,Zuy X ifs t∧STt X.K io p t m
section
variable {X:Cx}{io:List Nat}{p c:Bool}{e tg:Expr}{m:MEt}{mt:MTt}{g:MGt}{ifs:List Expr}
theorem MG.canon(h:MG X io c tg g):PG X tg (gM X.K io c g):=by
 obtain⟨t,A,s⟩:=h
 rintro pins sh σ H v u Q I r ⟨C,δ,fp,ex,d,k,R,q,h,kk⟩
 exact A pins sh σ H v u Q I r (s C H σ δ fp ex v d k Q R q h kk)
theorem ME.canon(h:ME X io p c e m):PE X e (tM X.K io p c m):=by
 obtain⟨t,A,s⟩:=h
 rintro pins sh σ H Q I ⟨C,δ,fp,ex,K,R,h,kk⟩
 exact A pins sh σ H Q I (s C H σ δ fp ex K Q R h kk)
theorem MIfs.canon(h:MIfs X io p ifs mt):Zuy X ifs (ttM X.K io p mt):=by
 obtain⟨t,A,s⟩:=h
 rintro pins sh σ H Q I ⟨C,δ,fp,ex,K,R,h,kk⟩
 exact A pins sh σ H Q I (s C H σ δ fp ex K Q R h kk)
noncomputable def Zzy:MTt:=λδ K=>K true δ
theorem Ju:MIfs X io true [] Zzy:=⟨_,Zt6,λC H σ δ fp ex K Q R h kk=>kk H true δ fp R (.refl _ _ _ _) h⟩
theorem Zl0{cnd:Expr}(h:MT X io p cnd mt):MIfs X io p [cnd] mt:=by
 obtain⟨_,A,s⟩:=h
 exact⟨_,Zuv A,s⟩
end
variable {G:Xd}
noncomputable def blk(n:Nat)(caps:List Nat)(δ:Zd):Zd:=Qi n none ++ caps.map λi=>(δ[i]?).getD none
noncomputable def Wg(n:Nat)(caps:List Nat)(fp:Fp):Fp:=λk=>if k<n then[]else match caps[k-n]? with|some i=>fp i|none=>[]
noncomputable def Zad(n:Nat)(caps:List Nat):List Nat:=(Xz caps.length).map (·+n)
noncomputable def Zsi(C:MC G)(H1:Hp)(fp:Fp)(σ0:St):MC G:=⟨H1,Foot fp,λa=>(C.L a∨C.H₀ a=none)∧¬Foot fp a,σ0⟩
noncomputable def Zcp(ex:Addr->Prop)(D:Addr)(fp fpb:Fp)(a:Addr):Prop:=ex a∨a=D∨(Foot fp a∧¬Foot fpb a)
section
variable {C:MC G}{io:List Nat}{H1 H':Hp}{σ:St}{δ:Zd}{fp:Fp}{ex:Addr->Prop}{own:List Str}{caps:List Nat}{D:Addr}{n:Nat}
theorem Zah{k:Nat}{a:Addr}(h:a∈Wg n caps fp k):∃i,n≤k∧caps[k-n]? =some i∧a∈fp i:=by
 unfold Wg at h
 split at h
 ·exact nomatch h
 ·split at h
  ·rename_i i e
   exact⟨i,by omega,e,h⟩
  ·exact nomatch h
theorem Zrr{j i:Nat}(h:caps[j]? =some i):Wg n caps fp (n+j)=fp i:=by
 unfold Wg
 rw[if_neg (by omega),show n+j-n=j by omega,h]
theorem Z3j{k:Nat}{t:OT}(h:(blk n caps δ)[k]? =some (some t)):∃i,n≤k∧caps[k-n]? =some i∧δ[i]? =some (some t):=by
 unfold blk at h
 rw[List.getElem?_append]at h
 split at h
 ·rw[List.getElem?_replicate]at h
  split at h<;>cases h
 ·rename_i hk
  rw[VB]at hk h
  rw[Xj]at h
  cases e:caps[k-n]? with
  | none=>rw[e]at h;cases h
  | some i=>
   rw[e]at h
   refine⟨i,by omega,rfl,?_⟩
   simp only[Option.map_some]at h
   cases e2:δ[i]? with
   | none=>rw[e2]at h;cases h
   | some o=>
    rw[e2]at h
    simpa using h
theorem Rel.block(R:Rel C io H1 σ δ fp ex)(nd:caps.Nodup)(hD:H1 D=none) :
  Rel (Zsi C H1 fp (Wr own caps σ)) (Zad own.length caps) (upd H1 D (.lst [])) (Wr own caps σ) (blk own.length caps δ) (Wg own.length caps fp) (Zcp ex D fp (Wg own.length caps fp)):=by
 have s:=Z0 hD (.lst [])
 have sub:∀a,Foot (Wg own.length caps fp) a->Foot fp a:=λa q91=>by
  obtain⟨k,z⟩:=q91
  obtain⟨i,_,_,z⟩:=Zah z
  exact⟨i,z⟩
 have neD:∀a,H1 a≠none->a≠D:=λa h z=>h (z▸hD)
 refine⟨by unfold Wr blk;simp,λk t e=>?_,λk h=>?_,λk=>?_,λk l a h1 h2=>?_,λk a h z=>?_,λa z=>?_,λb o e _=>s _ _ e,λb e=>s.free e,λk a h=>?_,λk _=>rfl⟩
 ·obtain⟨i,hk,e1,e2⟩:=Z3j e
  obtain⟨v,e3,o⟩:=R.own i t e2
  refine⟨v,?_,?_⟩
  ·unfold Wr
   rw[JL (by simpa using hk),Xe,Xj,e1]
   simp[e3]
  ·have ef:Wg own.length caps fp k=fp i:=by
    have:=Zrr (n:=own.length) (fp:=fp) e1
    rwa[show own.length+(k-own.length)=k by omega]at this
   rw[ef]
   refine(o.wide λa l q=>⟨λz=>l.1 (sub a z),λz=>?_,.inl ⟨l.2.2,l.1⟩⟩).same s
   rcases z with z|z|z
   ·exact l.2.1 z
   ·exact neD a q z
   ·exact l.1 z.1
 ·unfold Wg
  split
  ·rfl
  ·split
   ·rename_i i e1
    refine R.emp i λt z=>h t ?_
    unfold blk
    rw[JL (by rw[VB];omega),VB,Xj,e1]
    simp[z]
   ·rfl
 ·unfold Wg
  split
  ·exact .nil
  ·split
   ·exact R.nd _
   ·exact .nil
 ·obtain⟨i,hk,e1,m1⟩:=Zah h1
  obtain⟨j,hl,e2,m2⟩:=Zah h2
  have:=R.dj i j a m1 m2
  subst this
  have hlt:=(Xi.mp e1).1
  have:=(List.getElem?_inj hlt nd).mp (e1.trans e2.symm)
  omega
 ·obtain⟨i,hk,e1,m⟩:=Zah h
  rcases z with z|z|z
  ·exact R.dx i a m z
  ·exact R.footSome (z▸hD) ⟨i,m⟩
  ·exact z.2 ⟨k,h⟩
 ·rcases z with z|z|z
  ·intro q;exact R.xa a z (s.free q)
  ·subst z;rw[Zm];intro q;cases q
  ·obtain⟨xs,e⟩:=R.foot z.1
   rw[s _ _ e];intro q;cases q
 ·obtain⟨i,hk,e1,m⟩:=Zah h
  refine .inl ⟨?_,⟨i,m⟩⟩
  have:=(Xi.mp e1).1
  exact XR.mpr ⟨k-own.length,by simpa using this,by omega⟩
theorem Z16{σ0:St}{fp':Fp}{ex':Addr->Prop}{a:Addr}(hx:∀a,ex a->ex' a)(l:Lf (Zsi C H1 fp σ0) fp' ex' a):Lf C fp ex a∨H1 a=none:=by
 obtain⟨l1,l2,l3⟩:=l
 rcases l3 with l3|l3
 ·exact .inl ⟨l3.2,λz=>l2 (hx a z),l3.1⟩
 ·exact .inr l3
theorem Rel.poke(R:Rel C io H' σ δ fp ex){xs ys:List V}(hx:ex D)(hD:H' D=some (.lst xs))(h0:C.H₀ D=none):Rel C io (upd H' D (.lst ys)) σ δ fp ex:=by
 have nf:¬Foot fp D:=λ⟨i,z⟩=>R.dx i D z hx
 have kp:∀b o,b≠D->H' b=some o->upd H' D (.lst ys) b=some o:=λb o n e=>by rw[Zi n];exact e
 refine⟨R.len,λi t e=>?_,R.emp,R.nd,R.dj,R.dx,λa z=>?_,λb o e n=>?_,λb e=>?_,R.new,R.io⟩
 ·obtain⟨v,e1,o⟩:=R.own i t e
  refine⟨v,e1,o.frame (λa zs l q=>⟨l,?_⟩) (λa zs q=>kp a _ (λz=>?_) q) λa m zs q=>kp a _ (λz=>nf ⟨i,z▸m⟩) q⟩
  ·have na:a≠D:=λz=>l.2.1 (z▸hx)
   rcases q with q|⟨u,q⟩
   ·exact .inl (kp a _ na q)
   ·exact .inr ⟨u,kp a _ na q⟩
  ·exact ImO.nl q (z▸hD)
 ·by_cases e:a=D
  ·subst e;rw[Zm];intro q;cases q
  ·rw[Zi e];exact R.xa a z
 ·refine kp b o (λz=>?_) (R.fr b o e n)
  rw[z,h0]at e;cases e
 ·refine R.al b ?_
  by_cases q:b=D
  ·subst q;rw[Zm]at e;cases e
  ·rwa[Zi q]at e
theorem Owns.poke{L:Addr->Prop}{xs ys zs:List V}{rs:List OT}{as:List Addr}(o:Owns G H' L zs rs as)(hD:H' D=Bs (HO.lst xs))(hL:¬L D)(hn:D∉as):Owns G (upd H' D (.lst ys)) L zs rs as:=by
 refine o.frame (λa zs l q=>⟨l,?_⟩) (λa zs q=>?_) λa m zs q=>?_
 ·have na:a≠D:=λz=>hL (z▸l)
  rcases q with q|⟨u,q⟩
  ·exact .inl (by rw[Zi na];exact q)
  ·exact .inr ⟨u,by rw[Zi na];exact q⟩
 ·rw[Zi (λz=>ImO.nl q (z▸hD))];exact q
 ·have na:a≠D:=λz=>hn (by rw[←z];exact m)
  rw[Zi na];exact q
theorem Owns.snoc{L:Addr->Prop}{xs:List V}{rs:List OT}{as bs:List Addr}{x:V}{r:OT}(h:Owns G H' L xs rs as)(k:Own G H' L x r bs):Owns G H' L (xs ++ [x]) (rs ++ [r]) (as ++ bs) :=
 Owns.rec (motive_1:=λ_ _ _ _=>True) (motive_2:=λxs rs as _=>Owns G H' L (xs ++ [x]) (rs ++ [r]) (as ++ bs)) (λ_=>trivial) (λ_ _ _=>trivial) (λ_ _ _=>trivial) (λ_ _ _=>trivial) (by have:=Owns.cons k .nil;rwa[Qt]at this) (λk _ _ ih=>by rw[QZ];exact .cons k ih) h
end
structure Zs4(C:MC G)(H1:Hp)(fp1:Fp)(ex:Addr->Prop)(n:Nat)(caps:List Nat)(σ0:St)(D:Addr)(pb:Bool)(H':Hp)(σ':St)(δ':Zd)(fp':Fp)(ys:List V)(rs:List OT)(new:List Addr):Prop where
 keep:∀b o,H1 b=some o->(pb=true∨¬Foot (Wg n caps fp1) b)->H' b=some o
 al:∀b,H' b=none->H1 b=none
 dat:H' D=some (.lst ys)
 rel:Rel (Zsi C H1 fp1 σ0) (Zad n caps) H' σ' δ' fp' (exu (Zcp ex D fp1 (Wg n caps fp1)) new)
 grow:∀a,Foot fp' a->Foot (Wg n caps fp1) a∨H1 a=none
 own:Owns G H' (λa=>true=true->Lf (Zsi C H1 fp1 σ0) fp' (exu (Zcp ex D fp1 (Wg n caps fp1)) new) a) ys rs new
 nd:new.Nodup
 fresh:∀a∈new,H1 a=none∧a≠D
section
variable {io:List Nat}{p c pt pe ci:Bool}{g:MGt}{mt:MTt}{me:MEt}{own:List Str}{caps:List Nat}
theorem Zou{C:MC G}{H1:Hp}{σ:St}{δ1:Zd}{fp1:Fp}{ex:Addr->Prop}{J:It}{ds:List Xa}{D:Addr}{Qf:Hp->Prop}(I:Nat->List OT->Zd->Prop)(R1:Rel C io H1 σ δ1 fp1 ex)
  (it:∀H':Hp,(∀b o,H1 b=some o->((pt&&pe)=true∨¬Foot (Wg own.length caps fp1) b)->H' b=some o)->∀i:Nat,(∀d,ds[i]? =some d->J.go i H'∧∀x H'',J.yld i H' x H''->Same H' H''∧Da G H'' (λa=>ci=true->(Lf C fp1 ex a∧H1 a≠none)) x d)∧(ds[i]? =none->J.stop i H'))
  (nd:caps.Nodup) (hD:H1 D=none) (hz:ds.length≤Xr) (h0:I 0 [] (blk own.length caps δ1))
  (turn:∀(i:Nat) (d:Xa) (rs:List OT) (δ':Zd),ds[i]? =some d->I i rs δ'->g d δ' λδ2=>mt δ2 λb δ3=>if b=true then me δ3 λr δ4=>I (i+1) (rs ++ [r]) δ4 else I (i+1) rs δ3)
  (fin:∀H' σ' δ' fp' ys rs new,Zs4 C H1 fp1 ex own.length caps (Wr own caps σ) D (pt&&pe) H' σ' δ' fp' ys rs new->I ds.length rs δ'->Qf H') :
  Zya J (gM G (Zad own.length caps) ci g) (ttM G (Zad own.length caps) pt mt) (tM G (Zad own.length caps) pe true me) (Wr own caps σ) D Qf H1:=by
 have hx:Zcp ex D fp1 (Wg own.length caps fp1) D:=.inr (.inl rfl)
 refine⟨λi n σ' H'=>n=ds.length-i∧i≤ds.length∧∃rs ys new δ' fp',Zs4 C H1 fp1 ex own.length caps (Wr own caps σ) D (pt&&pe) H' σ' δ' fp' ys rs new∧ys.length≤i∧I i rs δ',⟨ds.length,rfl,QH _,[],[],[],_,_,⟨λb o e _=>Z0 hD _ _ _ e,(Z0 hD _).al,Zm,?_,λa z=>.inl z,.nil,.nil,λa m=>(nomatch m)⟩,XD _,h0⟩,?_⟩
 ·exact(R1.block nd hD).drop λa z=>Jg.mp z
 rintro i n σ2 H2 ⟨rfl,hle,rs,ys,new,δ2,fp2,B,hl,i2⟩
 have subB:∀b,Foot (Wg own.length caps fp1) b->Foot fp1 b:=λb q92=>by
  obtain⟨k,z⟩:=q92
  obtain⟨i,_,_,z⟩:=Zah z
  exact⟨i,z⟩
 have itk:=it H2 B.keep i
 by_cases hlt:i<ds.length
 case neg=>
  have e:i=ds.length:=by omega
  subst e
  exact .inl ⟨itk.2 (by simp),fin H2 σ2 δ2 fp2 ys rs new B i2⟩
 have hd:ds[i]? =some ds[i]:=Xl hlt
 obtain⟨go,yl⟩:=itk.1 _ hd
 refine .inr ⟨go,λx H3 hy=>?_⟩
 obtain⟨s3,q3⟩:=yl x H3 hy
 have R3:=B.rel.mk0 s3
 have D3:H3 D=some (.lst ys):=s3 _ _ B.dat
 -- the item,clean in the block
 have q3':Da G H3 (λa=>ci=true->Lf (Zsi C H1 fp1 (Wr own caps σ)) fp2 (exu (Zcp ex D fp1 (Wg own.length caps fp1)) new) a) x ds[i]:=by
  refine q3.wide λa l _ z=>?_
  obtain⟨⟨l1,l2,l3⟩,l4⟩:=l z
  refine⟨λw=>?_,λw=>?_,.inl ⟨l3,l1⟩⟩
  ·rcases B.grow a w with w|w
   ·exact l1 (subB a w)
   ·exact l4 w
  ·rcases w with(w|w|w)|w
   ·exact l2 w
   ·subst w;exact l4 hD
   ·exact l1 w.1
   ·exact l4 (B.fresh a w).1
 refine⟨_,δ2,fp2,_,_,_,R3,q3',turn i _ rs δ2 hd i2,λσ4 δ4 fp4 R4 k4 h4=>?_⟩
 refine⟨_,δ4,fp4,_,_,R4,h4,λH5 b δ5 fp5 R5 S5 h5=>?_⟩
 -- the state behind the test
 have keep5:∀b o,H1 b=some o->((pt&&pe)=true∨¬Foot (Wg own.length caps fp1) b)->H5 b=some o:=λb o e q=>by
  refine S5.keep b o (s3 _ _ (B.keep b o e q)) ?_
  rcases q with q|q
  ·rw[XN]at q;exact .inl q.1
  ·refine .inr λz=>?_
   rcases k4.grow b z with z|z
   ·rcases B.grow b z with z|z
    ·exact q z
    ·rw[e]at z;cases z
   ·rw[s3 _ _ (B.keep b o e (.inr q))]at z;cases z
 have al5:∀b,H5 b=none->H1 b=none:=λb e=>B.al b (s3.al b (S5.al b e))
 have grow4:∀a,Foot fp4 a->Foot (Wg own.length caps fp1) a∨H1 a=none:=λa z=>by
  rcases k4.grow a z with z|z
  ·exact B.grow a z
  ·exact .inr (B.al a (s3.al a z))
 have grow5:∀a,Foot fp5 a->Foot (Wg own.length caps fp1) a∨H1 a=none:=λa z=>by
  rcases S5.grow a z with z|z
  ·exact grow4 a z
  ·exact .inr (B.al a (s3.al a z))
 have D5:H5 D=some (.lst ys):=S5.keep D _ D3 (.inr λ⟨k,z⟩=>R4.dx k D z (.inl hx))
 have own3:=B.own.same s3
 -- the items so far behind the target and the test
 have own4:Owns G H3 (λa=>true=true->Lf (Zsi C H1 fp1 (Wr own caps σ)) fp4 (exu (Zcp ex D fp1 (Wg own.length caps fp1)) new) a) ys rs new:=by
  refine own3.wide λa l q z=>?_
  obtain⟨l1,l2,l3⟩:=l z
  exact⟨λw=>(k4.grow a w).elim l1 q,l2,l3⟩
 have own5:=R4.owns_step (ex':=exu (Zcp ex D fp1 (Wg own.length caps fp1)) new) S5 (c:=true) (.inr rfl) (λa z=>.inl z) (λa m=>.inr m) own4
 dsimp only at h5⊢
 cases b with
 | false=>
  rw[if_neg Xw]at h5⊢
  exact⟨ds.length-(i+1),by omega,rfl,hlt,rs,ys,new,δ5,fp5,⟨keep5,al5,D5,R5,grow5,own5,B.nd,B.fresh⟩,by omega,h5⟩
 | true=>
  rw[if_pos rfl]at h5⊢
  refine⟨_,δ5,fp5,_,_,R5,h5,λH6 v r δ6 fp6 nr r6 h6=>?_⟩
  have D6:H6 D=some (.lst ys):=r6.stp.keep D _ D5 (.inr λ⟨k,z⟩=>R5.dx k D z (.inl hx))
  have hDnr:D∉nr:=λz=>by
   have:=r6.fresh D z
   rw[D5]at this;cases this
  have own6:=R5.owns_step (ex':=exu (exu (Zcp ex D fp1 (Wg own.length caps fp1)) new) nr) r6.stp (c:=true) (.inr rfl) (λa z=>z.imp id λz=>r6.fresh a z) (λa m=>.inr m) own5
  have eqx:∀a,exu (Zcp ex D fp1 (Wg own.length caps fp1)) (new ++ nr) a->exu (exu (Zcp ex D fp1 (Wg own.length caps fp1)) new) nr a:=λa z=>by
   rcases z with z|z
   ·exact .inl (.inl z)
   ·rcases Qc.mp z with z|z
    ·exact .inl (.inr z)
    ·exact .inr z
  have lw:∀a,(true=true->Lf (Zsi C H1 fp1 (Wr own caps σ)) fp6 (exu (exu (Zcp ex D fp1 (Wg own.length caps fp1)) new) nr) a)->H6 a≠none->(true=true->Lf (Zsi C H1 fp1 (Wr own caps σ)) fp6 (exu (Zcp ex D fp1 (Wg own.length caps fp1)) (new ++ nr)) a) :=
   λa l _ z=>⟨(l z).1,λw=>(l z).2.1 (eqx a w),(l z).2.2⟩
  have ownA:=(own6.snoc r6.own).wide lw
  refine⟨ys,D6,by omega,ds.length-(i+1),by omega,rfl,hlt,rs ++ [r],ys ++ [v],new ++ nr,δ6,fp6,⟨λb o e q=>?_,λb e=>?_,Zm,?_,λa z=>?_,?_,?_,λa m=>?_⟩,by rw[X6];show ys.length+1≤i+1;omega,h6⟩
  ·have nD:b≠D:=λz=>by rw[z,hD]at e;cases e
   rw[Zi nD]
   refine r6.stp.keep b o (keep5 b o e q) ?_
   rcases q with q|q
   ·rw[XN]at q;exact .inl q.2
   ·refine .inr λz=>?_
    rcases grow5 b z with z|z
    ·exact q z
    ·rw[e]at z;cases z
  ·by_cases q:b=D
   ·subst q;rw[Zm]at e;cases e
   ·rw[Zi q]at e
    exact al5 b (r6.stp.al b e)
  ·exact(r6.rel.drop eqx).poke (.inl hx) D6 hD
  ·rcases r6.stp.grow a z with z|z
   ·exact grow5 a z
   ·exact .inr (al5 a z)
  ·exact ownA.poke D6 (λz=>(z rfl).2.1 (.inl hx)) (λm=>by
    rcases Qc.mp m with m|m
    ·exact(B.fresh D m).2 rfl
    ·exact hDnr m)
  ·refine Vn.mpr ⟨B.nd,r6.nd,λa m b m' z=>?_⟩
   subst z
   obtain⟨xs,e⟩:=own5.some a m
   rw[r6.fresh a m']at e;cases e
  ·rcases Qc.mp m with m|m
   ·exact B.fresh a m
   ·exact⟨al5 a (r6.fresh a m),λz=>hDnr (z▸m)⟩
end
variable {G:Xd}
section
variable {X:Cx}{io:List Nat}{p p' c pt pe ci:Bool}{g:MGt}{mt:MTt}{me m:MEt}{mi:MIt}{own:List Str}{caps:List Nat}{e:Expr}
noncomputable def Z3n(m:MEt):MEt:=λδ K=>m δ λr δ'=>We r.data=true∧K (.fz r.data) δ'
theorem Zyx(h:ME X io p c e m):ME X io p true e (Z3n m):=by
 obtain⟨_,A,s⟩:=h
 exact⟨_,A,λC H σ δ fp ex K Q R h k=>s C H σ δ fp ex _ _ R h λH' v r δ' fp' new r1 h1=>k H' v _ δ' fp' [] (r1.fzs R h1.1) h1.2⟩
noncomputable def Zyq(n:Nat)(caps:List Nat)(ds:List Xa)(g:MGt)(mt:MTt)(me:MEt)(δ1:Zd)(K:OT->Zd->Prop):Prop:=ds.length≤Xr∧∃I:Nat->List OT->Zd->Prop,I 0 [] (blk n caps δ1)∧
 (∀ (i:Nat) (d:Xa) (rs:List OT) (δ':Zd),ds[i]? =some d->I i rs δ'->g d δ' λδ2=>mt δ2 λb δ3=>if b=true then me δ3 λr δ4=>I (i+1) (rs ++ [r]) δ4 else I (i+1) rs δ3)∧
 ∀rs δ',I ds.length rs δ'->K (.nd rs) δ1
noncomputable def Zd9(n:Nat)(caps:List Nat)(mi:MIt)(g:MGt)(mt:MTt)(me:MEt):MEt:=λδ K=>mi δ λds δ1=>Zyq n caps ds g mt me δ1 K
theorem Zt8{wi:TI}(si:SI G io p ci wi mi)(nd:caps.Nodup)(hp:(pt&&pe)=true) :
  SE G io p true (Zu6 own caps wi (gM G (Zad own.length caps) ci g) (ttM G (Zad own.length caps) pt mt) (tM G (Zad own.length caps) pe true me)) (Zd9 own.length caps mi g mt me):=by
 intro C H σ δ fp ex K Q R h k
 refine si C H σ δ fp ex _ _ R h λJ H1 ds δ1 fp1 R1 S1 it h1 D hD=>?_
 obtain⟨hz,I,h0,turn,fin⟩:=h1
 refine Zou I R1 (λH' kp=>it H' λb o e _=>kp b o e (.inl hp)) nd hD hz h0 turn λH' σ' δ' fp' ys rs new B i'=>?_
 have s:Same H1 H':=λb o e=>B.keep b o e (.inl hp)
 refine k H' (.ref D) (.nd rs) δ1 fp1 (D :: new) (RE.tree R R1 S1 s (λa m=>?_) (Qk.mpr ⟨λm=>(B.fresh D m).2 rfl,B.nd⟩) (.nd B.dat (B.own.wide λa l _=>?_))) (fin rs δ' i')
 ·rcases Xn.mp m with rfl|m
  ·exact hD
  ·exact(B.fresh a m).1
 ·refine⟨?_,λm=>?_⟩
  ·rcases Z16 (λa z=>.inl (.inl z)) (l rfl)with z|z
   ·exact .inl λ_=>z
   ·exact .inr z
  ·rcases Xn.mp m with z|z
   ·exact(l rfl).2.1 (.inl (.inr (.inl z)))
   ·exact(l rfl).2.1 (.inr z)
variable {N':List Str}{sc:Scope}{tg elt iter:Expr}{ifs:List Expr}{pos:Pos}
theorem Zex(S:CompScope X own caps N' sc)(hc:X.calm=true)(nd:caps.Nodup)(hi:MI X io p ci tg iter mi)
  (hg:∀C cells s₂ H₂ fp,MG (Y0 X N' sc C cells s₂ H₂ fp) (Zad own.length caps) ci tg g) (ht:∀C cells s₂ H₂ fp,MIfs (Y0 X N' sc C cells s₂ H₂ fp) (Zad own.length caps) pt ifs mt) (he:∀C cells s₂ H₂ fp,ME (Y0 X N' sc C cells s₂ H₂ fp) (Zad own.length caps) pe true elt me)
  (hp:(pt&&pe)=true:=by rfl) (hs:∀x,BV iter X.env x=pure x:=by intro _;rfl):ME X io p true (.ListComp elt [⟨tg,iter,ifs,0⟩] sc pos) (Zd9 own.length caps mi g mt me):=by
 obtain⟨_,A,si⟩:=hi
 exact⟨_,Zwk S hc A (λC cells s₂ H₂ fp=>(hg C cells s₂ H₂ fp).canon) (λC cells s₂ H₂ fp=>(ht C cells s₂ H₂ fp).canon) (λC cells s₂ H₂ fp=>(he C cells s₂ H₂ fp).canon) hs,Zt8 si nd hp⟩
section
variable {i:Nat}{y:Str}{py spos:Pos}
theorem Jk(own':Bool)(hN:X.N.Nodup)(hy:X.N[i]? =some y)(hx:Loc X.env.scope y)(S:CompScope X own caps N' sc)(hc:X.calm=true)(nd:caps.Nodup)(hi:MI X io p ci tg iter mi)
  (hg:∀C cells s₂ H₂ fp,MG (Y0 X N' sc C cells s₂ H₂ fp) (Zad own.length caps) ci tg g) (ht:∀C cells s₂ H₂ fp,MIfs (Y0 X N' sc C cells s₂ H₂ fp) (Zad own.length caps) pt ifs mt) (he:∀C cells s₂ H₂ fp,ME (Y0 X N' sc C cells s₂ H₂ fp) (Zad own.length caps) pe true elt me)
  (hp:(pt&&pe)=true:=by rfl) (hio:i∉io:=by decide)
  (hsw:Bx (.ListComp elt [⟨tg,iter,ifs,0⟩] sc pos) (some (.Name y py)) spos.line X.env=pure true:=by rfl)
  (hs:∀x,BV iter X.env x=pure x:=by intro _;rfl) (hf:X.fn y=true∨X.env.scope.names.lookup y=some .local:=by first|exact .inl rfl|exact .inr rfl|assumption) :
  MS X io (.Assign [.Name y py] (.ListComp elt [⟨tg,iter,ifs,0⟩] sc pos) spos) (if own'=true then Zkk i (Zd9 own.length caps mi g mt me)else Zye i (Zd9 own.length caps mi g mt me)):=by
 obtain⟨_,A,si⟩:=hi
 refine⟨_,Zj8 (g:=gM X.K (Zad own.length caps) ci g) (tt:=ttM X.K (Zad own.length caps) pt mt) (te:=tM X.K (Zad own.length caps) pe true me) hN hy hx S hc A (λC cells s₂ H₂ fp=>(hg C cells s₂ H₂ fp).canon) (λC cells s₂ H₂ fp=>(ht C cells s₂ H₂ fp).canon) (λC cells s₂ H₂ fp=>(he C cells s₂ H₂ fp).canon) hsw hs hf,?_⟩
 cases own'
 ·exact Z8n (Zt8 si nd hp) hio
 ·exact Z22 (Zt8 si nd hp) hio
end
end
variable {G:Xd}
section
variable {X:Cx}{pins:List (Addr×Obj)}{σ:St}{H:Hp}{s:Xf}{l:Addr}{xs:List V}
noncomputable def Z2c(K:Xd):R2:=λx y H Q=>∃l b xs zs,x= .ref l∧y= .ref b∧SqL K H l xs∧SqL K H b zs∧xs.length+zs.length≤Xr∧∀p,H p=none->Q (.ref p) (upd H p (.lst (xs ++ zs)))
theorem Inv.lstQ{K:Xd}(hK:X.K=K)(I:Inv X pins σ H s)(hH:SqL K H l xs):∃(its:List Xc) (n:Nat),Vals xs its∧xs.length=its.length∧∃o,s.heap.get? l=some o∧o.cls= .type "list"∧o.dict=none∧o.data= .seq its.toArray n:=by
 subst hK
 obtain⟨its,r,⟨o,n,e,h1,h2,h3⟩,_⟩:=I.list hH
 exact⟨its,n,r,r.length,o,e,h1,h2,h3⟩
theorem Zl1{K:Xd}(hK:X.K=K):OpR X (Uc .Add) (Z2c K):=by
 intro pins s σ H x y v u Q I rx ry h
 obtain⟨l,b,xs,zs,rfl,rfl,hH,hB,hz,q⟩:=h
 cases rx
 cases ry
 obtain⟨its,n,r,hl,⟨cls,dd,data,sl⟩,ho,hc,_,hd⟩:=I.lstQ hK hH
 obtain⟨its2,n2,r2,hl2,⟨cls2,dd2,data2,sl2⟩,ho2,hc2,_,hd2⟩:=I.lstQ hK hB
 simp only at hc hd hc2 hd2
 subst hc hd hc2 hd2
 have ea:its.toArray ++ its2.toArray=(its ++ its2).toArray:=by simp
 refine concat_meets ⟨_,ho,rfl⟩ ⟨_,ho2,rfl⟩ noFill_list_add seq_list_add PySem.F.slot_list_add PySem.F.entry_list_add (PySem.F.args_list_add_2 _ _) (list_addW l b its.toArray its2.toArray n n2 dd dd2 sl sl2 (by simp only[XF];omega)) ⟨ho,ho2,?_⟩
 rw[ea]
 exact⟨.ref _,_,I.lnew (t':=s.toks) (r.append r2) (by rw[X6];omega),rfl,q _ I.fresh⟩
end
noncomputable def asI(d:Xa)(k:Int->Prop):Prop:=match d with| .int i=>k i|_=>False
noncomputable def asL(d:Xa)(k:List Xa->Prop):Prop:=match d with| .list ds=>k ds|_=>False
section
variable {H:Hp}{L:Addr->Prop}{v:V}{d:Xa}
theorem Da.intInv{k:Int->Prop}(q:Da G H L v d)(h:asI d k):∃i,v= .int i∧k i:=by
 cases q with
 | int b=>exact⟨b,rfl,h⟩
 | _=>exact h.elim
theorem Da.lstInv{k:List Xa->Prop}(q:Da G H L v d)(h:asL d k):∃a xs ds,v= .ref a∧SqL G H a xs∧Das G H L xs ds∧k ds:=by
 cases q with
 | lst l e r=>exact⟨_,_,_,rfl,.inl e,r,h⟩
 | scr s=>exact⟨_,_,_,rfl,s.sq,.ints _,h⟩
 | _=>exact h.elim
end
noncomputable def d2I(C:Int->Int->Prop)(g:Int->Int->Xa):Xa->Xa->(Xa->Prop)->Prop:=λd e k=>asI d λi=>asI e λj=>C i j∧k (g i j)
noncomputable def Ztd(g:Int->Int->Xa):Xa->Xa->(Xa->Prop)->Prop:=λd e k=>asI d λi=>asI e λj=>k (g i j)
theorem Z25{C:Int->Int->Prop}{f:Int->Int->Int}:P2s G (rI C λi j=>.int (f i j)) (d2I C λi j=>.int (f i j)):=λH L x y d e k Q hx hy h kk=>by
 obtain⟨i,rfl,h⟩:=hx.intInv h
 obtain⟨j,rfl,h⟩:=hy.intInv h
 exact⟨i,j,rfl,rfl,h.1,kk _ _ (.int _) h.2⟩
structure MulOk(i j:Int):Prop where
 ok:IntMulOk i j
structure Z9m(i j:Int):Prop where
 ok:DivOk i j
structure Z9t(i j:Int):Prop where
 ok:Z36 i j
theorem Z0u{f:Int->Int->Int}:P2s G (rI IntMulOk λi j=>.int (f i j)) (d2I MulOk λi j=>.int (f i j)):=λH L x y d e k Q hx hy h kk=>by
 obtain⟨i,rfl,h⟩:=hx.intInv h
 obtain⟨j,rfl,h⟩:=hy.intInv h
 exact⟨i,j,rfl,rfl,h.1.ok,kk _ _ (.int _) h.2⟩
theorem Z0f{f:Int->Int->Int}:P2s G (rI DivOk λi j=>.int (f i j)) (d2I Z9m λi j=>.int (f i j)):=λH L x y d e k Q hx hy h kk=>by
 obtain⟨i,rfl,h⟩:=hx.intInv h
 obtain⟨j,rfl,h⟩:=hy.intInv h
 exact⟨i,j,rfl,rfl,h.1.ok,kk _ _ (.int _) h.2⟩
theorem Z0w{f:Int->Int->Int}:P2s G (rI Z36 λi j=>.int (f i j)) (d2I Z9t λi j=>.int (f i j)):=λH L x y d e k Q hx hy h kk=>by
 obtain⟨i,rfl,h⟩:=hx.intInv h
 obtain⟨j,rfl,h⟩:=hy.intInv h
 exact⟨i,j,rfl,rfl,h.1.ok,kk _ _ (.int _) h.2⟩
theorem Zme{f:Int->Int->Int}:P2s G (rI0 λi j=>.int (f i j)) (Ztd λi j=>.int (f i j)):=λH L x y d e k Q hx hy h kk=>by
 obtain⟨i,rfl,h⟩:=hx.intInv h
 obtain⟨j,rfl,h⟩:=hy.intInv h
 exact⟨i,j,rfl,rfl,kk _ _ (.int _) h⟩
theorem Zlg{f:Int->Int->Bool}:P2s G (rI0 λi j=>.bl (f i j)) (Ztd λi j=>.bool (f i j)):=λH L x y d e k Q hx hy h kk=>by
 obtain⟨i,rfl,h⟩:=hx.intInv h
 obtain⟨j,rfl,h⟩:=hy.intInv h
 exact⟨i,j,rfl,rfl,kk _ _ (.bl _) h⟩
section
variable {X:Cx}
noncomputable def Yae(K:Xd):R2:=λx y H Q=>∃(L L':Addr->Prop) (d e:Xa),Da K H L x d∧Da K H L' y e∧Shp d∧Shp e∧Q (.bl (JV d e)) H
noncomputable def Z82(K:Xd):R2:=λx y H Q=>∃(L L':Addr->Prop) (d e:Xa),Da K H L x d∧Da K H L' y e∧Shp d∧Shp e∧Q (.bl (!JV d e)) H
theorem Zm9(hu:X.A.units+64<Vu):OpR X (Q6 .Eq) (Yae X.K):=by
 intro pins s σ H x y v u Q I rx ry h
 obtain⟨L,L',d,e,h1,h2,s1,s2,q⟩:=h
 obtain⟨as,k1⟩:=h1.reads rfl I rx (Ud s1)
 obtain⟨bs,k2⟩:=h2.reads rfl I ry (Ud s2)
 exact eq_dataH k1 k2 s1 s2 hu ⟨.bl _,H,I,rfl,q⟩
theorem Z30(hu:X.A.units+64<Vu):OpR X (Q6 .NotEq) (Z82 X.K):=by
 intro pins s σ H x y v u Q I rx ry h
 obtain⟨L,L',d,e,h1,h2,s1,s2,q⟩:=h
 obtain⟨as,k1⟩:=h1.reads rfl I rx (Ud s1)
 obtain⟨bs,k2⟩:=h2.reads rfl I ry (Ud s2)
 exact ne_dataH k1 k2 s1 s2 hu ⟨.bl _,H,I,rfl,q⟩
end
structure Z0y(d:Xa):Prop where
 ok:Shp d
noncomputable def dEq:Xa->Xa->(Xa->Prop)->Prop:=λd e k=>Z0y d∧Z0y e∧k (.bool (JV d e))
noncomputable def dNe:Xa->Xa->(Xa->Prop)->Prop:=λd e k=>Z0y d∧Z0y e∧k (.bool (!JV d e))
theorem Zw7:P2s G (Yae G) dEq:=λH L x y d e k Q hx hy h kk=>⟨L,L,d,e,hx,hy,h.1.ok,h.2.1.ok,kk _ _ (.bl _) h.2.2⟩
theorem Z75:P2s G (Z82 G) dNe:=λH L x y d e k Q hx hy h kk=>⟨L,L,d,e,hx,hy,h.1.ok,h.2.1.ok,kk _ _ (.bl _) h.2.2⟩
noncomputable def Zbr:Xa->Bool
 | .none=>true
 | _=>false
theorem Da.isNone{H:Hp}{L:Addr->Prop}{v:V}{d:Xa}(h:Da G H L v d):decide (v= .non)=Zbr d:=by
 cases h<;>rfl
noncomputable def Z8c:Xa->Xa->(Xa->Prop)->Prop:=λd e k=>e= .none∧k (.bool (Zbr d))
theorem Z3u:P2s G (λx y H Q=>y= .non∧Q (.bl (decide (x= .non))) H) Z8c:=λH L x y d e k Q hx hy h kk=>by
 obtain⟨rfl,h⟩:=h
 cases hy
 exact⟨rfl,by rw[hx.isNone];exact kk _ _ (.bl _) h⟩
noncomputable def scD:Xa->Bool
 | .none=>true
 | .bool _=>true
 | .int _=>true
 | .str _=>true
 | _=>false
noncomputable def eqS:Xa->Xa->Bool
 | .none,.none=>true
 | .bool a,.bool b=>a==b
 | .bool a,.int b=>(if a then 1 else 0)==b
 | .int a,.bool b=>a==(if b then 1 else 0)
 | .int a,.int b=>a==b
 | .str a,.str b=>a==b
 | _,_=>false
noncomputable def memS(d:Xa)(ds:List Xa):Bool:=ds.any λe=>eqS e d
theorem Da.toSc{H:Hp}{L:Addr->Prop}{v:V}{d:Xa}(h:Da G H L v d)(s:scD d=true):ScD v d:=by
 cases h with
 | non=>exact .non
 | bl b=>exact .bl b
 | int i=>exact .int i
 | str x=>exact .str x
 | _=>cases s
theorem Da.sc{H:Hp}{L:Addr->Prop}{v:V}{d:Xa}(h:Da G H L v d)(s:scD d=true):Zc7 v=true:=by
 cases h.toSc s<;>rfl
theorem Das.sc{H:Hp}{L:Addr->Prop}{vs:List V}{ds:List Xa}(h:Das G H L vs ds):ds.all scD=true->vs.all Zc7=true :=
 Das.ind (Q:=λvs ds=>ds.all scD=true->vs.all Zc7=true) (λ_=>rfl) (λh _ r s=>by
  rw[List.all_cons,XN]at s
  rw[List.all_cons,h.sc s.1,r s.2];rfl) h
theorem Da.eqS{H:Hp}{L:Addr->Prop}{v u:V}{d e:Xa}(h:Da G H L v d)(g:Da G H L u e)(s:scD d=true)(t:scD e=true):eqV v u=L2.eqS d e:=by
 cases h.toSc s<;>cases g.toSc t<;>rfl
theorem Das.memS{H:Hp}{L:Addr->Prop}{v:V}{d:Xa}(h:Da G H L v d)(s:scD d=true){vs:List V}{ds:List Xa}(g:Das G H L vs ds):ds.all scD=true->inV v vs=L2.memS d ds :=
 Das.ind (Q:=λvs ds=>ds.all scD=true->inV v vs=L2.memS d ds) (λ_=>rfl) (λg _ r t=>by
  rw[List.all_cons,XN]at t
  have:=r t.2
  unfold inV L2.memS at*
  rw[V5,V5,this,g.eqS h t.1 s]) g
noncomputable def dIn(neg:Bool):Xa->Xa->(Xa->Prop)->Prop:=λd e k=>scD d=true∧match e with
 | .list ds=>ds.all scD=true∧k (.bool (if neg then !memS d ds else memS d ds))
 | .tuple ds=>ds.all scD=true∧k (.bool (if neg then !memS d ds else memS d ds))
 | _=>False
theorem Z65{neg:Bool}:P2s G (rIn G neg) (dIn neg):=λH L x y d e k Q hx hy h kk=>by
 obtain⟨s,h⟩:=h
 cases hy with
 | lst l e r=>exact⟨_,_,rfl,.inl (.inl e),hx.sc s,r.sc h.1,by rw[Das.memS hx s r h.1];exact kk _ _ (.bl _) h.2⟩
 | tup e r=>exact⟨_,_,rfl,.inr (.inl (.inl e)),hx.sc s,r.sc h.1,by rw[Das.memS hx s r h.1];exact kk _ _ (.bl _) h.2⟩
 | scr ks=>exact⟨_,_,rfl,.inl ks.sq,hx.sc s,(Das.ints (G:=G) (H:=H) (L:=L) _).sc h.1,by rw[Das.memS hx s (Das.ints (G:=G) (H:=H) (L:=L) _) h.1];exact kk _ _ (.bl _) h.2⟩
 | _=>exact h.elim
noncomputable def ixD(d e:Xa):Option Xa:=match d,e with
 | .list ds,.int i=>atI ds i
 | .tuple ds,.int i=>atI ds i
 | _,_=>none
noncomputable def dIx:Xa->Xa->(OT->Prop)->Prop:=λd e k=>match ixD d e with|some x=>k (.fz x)|none=>False
theorem Das.atI{H:Hp}{L:Addr->Prop}{xs:List V}{ds:List Xa}{i:Int}{d:Xa}(h:Das G H L xs ds)(e:L2.atI ds i=some d):∃x,L2.atI xs i=some x∧Da G H L x d:=by
 unfold L2.atI at*
 rw[h.length]
 cases q:ixN ds.length i with
 | none=>rw[q]at e;cases e
 | some j=>
  rw[q]at e
  exact h.get e
theorem Z5k:P2 G (rIx G) dIx:=λH L x y d e k Q hx hy h kk=>by
 unfold dIx at h
 split at h
 case h_2=>exact h.elim
 rename_i z ez
 have fin:∀v,Da G H L v z->Q v H:=λv q=>kk H v (.fz z) [] (Same.refl _) (.fz (q.wide λa l _=>⟨.inl l,λm=>nomatch m⟩)) .nil (λa m=>nomatch m) h
 cases hx with
 | lst l e1 r=>
  cases hy with
  | int i=>
   obtain⟨v,e2,q⟩:=r.atI (show L2.atI _ i=some z from ez)
   exact .inl ⟨_,_,i,v,rfl,rfl,.inl e1,e2,fin v q⟩
  | _=>cases ez
 | tup e1 r=>
  cases hy with
  | int i=>
   obtain⟨v,e2,q⟩:=r.atI (show L2.atI _ i=some z from ez)
   exact .inr (.inl ⟨_,_,i,v,rfl,rfl,.inl (.inl e1),e2,fin v q⟩)
  | _=>cases ez
 | scr ks=>
  cases hy with
  | int i=>
   obtain⟨v,e2,q⟩:=(Das.ints (G:=G) (H:=H) (L:=L) _).atI (show L2.atI _ i=some z from ez)
   exact .inl ⟨_,_,i,v,rfl,rfl,ks.sq,e2,fin v q⟩
  | _=>cases ez
 | _=>cases ez
theorem Own.list{H:Hp}{L:Addr->Prop}{p:Addr}{xs:List V}{ds:List Xa}(hp:H p=none)(h:Das G H L xs ds):Own G (upd H p (.lst xs)) (λa=>(L a∨H a=none)∧a∉[p]) (.ref p) (.nd (ds.map OT.fz)) [p] :=
 .nd Zm (((h.wide λa l q=>⟨.inl l,λm=>q (by rw[Xm.mp m];exact hp)⟩).same (Z0 hp _)).owns)
theorem Jt{H:Hp}{p:Addr}(hp:H p=none):∀a∈[p],H a=none:=λa m=>by rw[Xm.mp m];exact hp
theorem Zas(p:Addr):[p].Nodup:=Qk.mpr ⟨λm=>(nomatch m),.nil⟩
noncomputable def dCat:Xa->Xa->(OT->Prop)->Prop:=λd e k=>asL d λds=>asL e λes=>ds.length+es.length≤Xr∧k (.nd ((ds ++ es).map OT.fz))
theorem Zsg:P2 G (Z2c G) dCat:=λH L x y d e k Q hx hy h kk=>by
 obtain⟨a,xs,ds,rfl,e1,r1,h⟩:=hx.lstInv h
 obtain⟨b,ys,es,rfl,e2,r2,h⟩:=hy.lstInv h
 exact⟨a,b,xs,ys,rfl,rfl,e1,e2,by rw[r1.length,r2.length];exact h.1,λp hp=>kk _ _ _ [p] (Z0 hp _) (Own.list hp (r1.append r2)) (Zas p) (Jt hp) h.2⟩
noncomputable def n1(k:Xa->Prop)(ds:List Xa):Prop:=match ds with|[d]=>k d|_=>False
noncomputable def n2(k:Xa->Xa->Prop)(ds:List Xa):Prop:=match ds with|[d,e]=>k d e|_=>False
theorem Das.one{H:Hp}{L:Addr->Prop}{vs:List V}{ds:List Xa}{k:Xa->Prop}(q:Das G H L vs ds)(h:n1 k ds):∃v d,vs=[v]∧ds=[d]∧Da G H L v d∧k d:=by
 cases q with
 | nil=>exact h.elim
 | cons q r=>
  cases r with
  | nil=>exact⟨_,_,rfl,rfl,q,h⟩
  | cons _ _=>exact h.elim
theorem Das.two{H:Hp}{L:Addr->Prop}{vs:List V}{ds:List Xa}{k:Xa->Xa->Prop}(q:Das G H L vs ds)(h:n2 k ds):∃v u d e,vs=[v,u]∧ds=[d,e]∧Da G H L v d∧Da G H L u e∧k d e:=by
 cases q with
 | nil=>exact h.elim
 | cons q r=>
  cases r with
  | nil=>exact h.elim
  | cons q' r'=>
   cases r' with
   | nil=>exact⟨_,_,_,_,rfl,rfl,q,q',h⟩
   | cons _ _=>exact h.elim
noncomputable def Zp3:Xa->Option Nat
 | .list ds=>some ds.length
 | .tuple ds=>some ds.length
 | _=>none
noncomputable def Z91:List Xa->(Xa->Prop)->Prop:=λds k=>n1 (λd=>match Zp3 d with|some n=>k (.int n)|none=>False) ds
theorem Zz9:PNs G (Z9s G) Z91:=λH L xs ds k Q hx h kk=>by
 obtain⟨v,d,rfl,rfl,q,h⟩:=hx.one h
 cases q with
 | lst l e r=>exact⟨_,_,rfl,.inl (.inl e),by rw[r.length];exact kk _ _ (.int _) h⟩
 | tup e r=>exact⟨_,_,rfl,.inr (.inl (.inl e)),by rw[r.length];exact kk _ _ (.int _) h⟩
 | scr ks=>exact⟨_,_,rfl,.inl ks.sq,by rw[(Das.ints (G:=G) (H:=H) (L:=L) _).length];exact kk _ _ (.int _) h⟩
 | _=>exact h.elim
noncomputable def Z93:List Xa->(Xa->Prop)->Prop:=λds k=>n1 (λd=>asI d λi=>k (.int (if i<0 then -i else i))) ds
theorem Z07:PNs G (λxs H Q=>∃i,xs=[.int i]∧Q (.int (if i<0 then -i else i)) H) Z93:=λH L xs ds k Q hx h kk=>by
 obtain⟨v,d,rfl,rfl,q,h⟩:=hx.one h
 obtain⟨i,rfl,h⟩:=q.intInv h
 exact⟨i,rfl,kk _ _ (.int _) h⟩
noncomputable def Z96:List Xa->(Xa->Prop)->Prop:=λds k=>n2 (λd e=>asI d λi=>asI e λj=>k (.int (if j>i then j else i))) ds
theorem Zwy:PNs G (λxs H Q=>∃i j,xs=[.int i,.int j]∧Q (.int (if j>i then j else i)) H) Z96:=λH L xs ds k Q hx h kk=>by
 obtain⟨v,u,d,e,rfl,rfl,q,q',h⟩:=hx.two h
 obtain⟨i,rfl,h⟩:=q.intInv h
 obtain⟨j,rfl,h⟩:=q'.intInv h
 exact⟨i,j,rfl,kk _ _ (.int _) h⟩
noncomputable def Z9v:List Xa->(Xa->Prop)->Prop:=λds k=>n2 (λd e=>asI d λi=>asI e λj=>k (.int (if j<i then j else i))) ds
theorem Zv1:PNs G (λxs H Q=>∃i j,xs=[.int i,.int j]∧Q (.int (if j<i then j else i)) H) Z9v:=λH L xs ds k Q hx h kk=>by
 obtain⟨v,u,d,e,rfl,rfl,q,q',h⟩:=hx.two h
 obtain⟨i,rfl,h⟩:=q.intInv h
 obtain⟨j,rfl,h⟩:=q'.intInv h
 exact⟨i,j,rfl,kk _ _ (.int _) h⟩
noncomputable def Ziu:Xa->Option (List Xa)
 | .list ds=>some ds
 | .tuple ds=>some ds
 | _=>none
noncomputable def Z02:List Xa->(OT->Prop)->Prop:=λds k=>n1 (λd=>match Ziu d with|some es=>k (.nd (es.map OT.fz))|none=>False) ds
theorem Zx0:PN G (Zly G) Z02:=λH L xs ds k Q hx h kk=>by
 obtain⟨v,d,rfl,rfl,q,h⟩:=hx.one h
 cases q with
 | lst l e r=>exact⟨_,_,rfl,.inl (.inl e),λp hp=>kk _ _ _ [p] (Z0 hp _) (Own.list hp r) (Zas p) (Jt hp) h⟩
 | tup e r=>exact⟨_,_,rfl,.inr (.inl (.inl e)),λp hp=>kk _ _ _ [p] (Z0 hp _) (Own.list hp r) (Zas p) (Jt hp) h⟩
 | scr ks=>exact⟨_,_,rfl,.inl ks.sq,λp hp=>kk _ _ _ [p] (Z0 hp _) (Own.list hp (Das.ints _)) (Zas p) (Jt hp) h⟩
 | _=>exact h.elim
section
variable {X:Cx}{io:List Nat}{p c:Bool}{a:Expr}{ma:MEt}{pos:Pos}
noncomputable def Z8j(m:MEt):MEt:=λδ K=>m δ λr δ'=>asI r.data λi=>K (.fz (.int (-i))) δ'
theorem Zz3(ha:ME X io p c a ma):ME X io p true (.UnaryOp .USub a pos) (Z8j ma):=by
 obtain⟨_,A,s⟩:=ha
 exact⟨_,Z6n Zzd A,λC H σ δ fp ex K Q R h k=>s C H σ δ fp ex _ _ R h λH' v r δ' fp' new r1 h1=>by
  obtain⟨i,rfl,h1⟩:=(r1.da R).intInv h1
  exact⟨i,rfl,k H' _ _ δ' fp' [] (.fz r1.base r1.stp (.int _)) h1⟩⟩
noncomputable def Zk9(T:String):Xa->Bool
 | .none=>false
 | .bool _=>T=="bool"||T=="int"
 | .int _=>T=="int"
 | .str _=>T=="str"
 | .list _=>T=="list"
 | .tuple _=>T=="tuple"
 | .dict _=>false
noncomputable def Yac(T:String)(m:MEt):MEt:=λδ K=>m δ λr δ'=>Zd7 r.data=false∧K (.fz (.bool (Zk9 T r.data))) δ'
end
section
variable {prog:X4}{w:Qm}{A:Qn}{E:Xc->Xf->Prop}{h:Heap}{g:Array GenState}{d:Drawn}{t:Nat}{os:OsState}{a C:Addr}{o:Obj}{K:Xd}
theorem Zwb(M:Model)(hx:h.get? a=some o)(hc:o.cls= .ref C):JZ M h (typeOf (.ref a)) (.ref C):=hc▸(JZ.ld hx).andThen .now
theorem Zp5{R:Result->Xf->Prop}(X:K.In h)(Z:Zfx K C)(hx:h.get? a=some o)(hc:o.cls= .ref C)(hq:R (.ok (.ret (.ref C))) ⟨h,g,d,t,os⟩) :
  U0 (X5 prog w) A (.call (.builtin "getset_descriptor.__get__") ⟨[.builtin "object.__class__",.ref a,.ref C],[]⟩) R ⟨h,g,d,t,os⟩:=by
 have L1:JZ (X5 prog w) h (isSubtype (.ref C) (.type (".".intercalate ("object.__class__".cutAt '.').dropLast))) true:=by
  rw[F.owner_object_class]
  exact PySem.W.looks_subIn X Z.isO
 have T5:(⟨h,g,d,t,os⟩:Xf).TypeIs (.builtin "object.__class__") "getset_descriptor" :=F.typeOf_object_class
 refine codeAny_call_builtin F.slot_gs_get.plain F.entry_gs_get (F.slot_gs_get.check _ _ _ _ _ _ _ _ T5 (F.args_gs_get _ _ _) ?_)
 repeat (any_goals (first|assumption|(with_reducible refine Ut hx ?_;rw[hc])|(with_reducible refine Xb (JZ.at L1 ?_))|(with_reducible refine JZ.at L1 ?_)|wp_step))
 refine⟨Code.quiet_builtin _ (by decide +kernel),VJ F.entry_object_class ?_⟩
 repeat (any_goals (first|assumption|(with_reducible refine Ut hx ?_;rw[hc])|wp_step))
theorem Zk0{tk:Tok}{Q:Fin->Xf->Prop}(X:K.In h)(Z:Zfx K C)(hx:h.get? a=some o)(hc:o.cls= .ref C)(hq:Q (.done (.ret (.ref C))) ⟨h,g,d,t,os⟩) :
  Xx (X5 prog w) A (Vo.«object.__getattribute__» ⟨[.ref a,.str "__class__" tk],[]⟩) Q E ⟨h,g,d,t,os⟩:=by
 have T5:(⟨h,g,d,t,os⟩:Xf).TypeIs (.builtin "object.__class__") "getset_descriptor" :=F.typeOf_object_class
 have g5:=F.typeOf_object_class
 have g6:=F.slot_gs_get.lookup
 have g7:=F.slot_gs_set.lookup
 have L4:=PySem.W.looks_findIn (M:=X5 prog w) X Z.cl
 repeat (any_goals (first|assumption|(with_reducible refine Ut hx ?_;rw[hc])|(with_reducible refine Xb (JZ.at L4 ?_))|(with_reducible refine JZ.at L4 ?_)|wp_step))
 refine Zp5 X Z hx hc ?_
 repeat (any_goals (first|assumption|wp_step))
theorem Zki{M:Model}{nameV:Xc}{Q:Unit->Xf->Prop}(X:K.In h)(Z:Zfx K C)(hx:h.get? a=some o)(hc:o.cls= .ref C)(hq:Q () ⟨h,g,d,t,os⟩) :
  Xx M A (checkBuiltinCall "BaseException.__getattribute__" ⟨[.ref a,nameV],[]⟩) Q E ⟨h,g,d,t,os⟩:=by
 have e1:builtinKind "BaseException.__getattribute__"=some .slot:=by decide +kernel
 have e2:splitId "BaseException.__getattribute__"=some ("BaseException","__getattribute__"):=by decide +kernel
 have L1:=PySem.W.looks_subIn (M:=M) X Z.isB
 have e3:=F.args_bexc_ga (.ref a) nameV
 simp only[checkBuiltinCall,e1,e2]
 refine Xb ?_
 unfold isInstance
 repeat (first|(with_reducible refine Ut hx ?_;rw[hc])|(with_reducible refine Xb (JZ.at L1 ?_))|(with_reducible refine JZ.at L1 ?_)|wp_step)
 exact hq
theorem Zls{tk:Tok}{R:Result->Xf->Prop}(X:K.In h)(Z:Zfx K C)(hx:h.get? a=some o)(hc:o.cls= .ref C)(hq:R (.ok (.ret (.ref C))) ⟨h,g,d,t,os⟩) :
  U0 (X5 prog w) A (.call (.builtin "BaseException.__getattribute__") ⟨[.ref a,.str "__class__" tk],[]⟩) R ⟨h,g,d,t,os⟩ :=
 codeAny_call_builtin F.excAttr_ValueError.ga.plain F.entry_bexc_ga (Zki X Z hx hc (Zk0 X Z hx hc hq))
theorem Zx7{tk:Tok}{fill expr:Bool}{Q:Xc->Xf->Prop}(X:K.In h)(Z:Zfx K C)(hx:h.get? a=some o)(hc:o.cls= .ref C)(hq:Q (.ref C) ⟨h,g,d,t,os⟩) :
  Xx (X5 prog w) A (getAttrBy (.ref a) (.str "__class__" tk) fill expr) Q E ⟨h,g,d,t,os⟩:=by
 have f3:=F.excAttr_ValueError.ga.bind (.ref a)
 have y0:(expr&&onTheHeap (Value.builtin "BaseException.__getattribute__"))=false:=by cases expr<;>rfl
 have y2:(Value.builtin "BaseException.__getattribute__"==Value.builtin "object.__getattribute__")=false:=by decide +kernel
 have y1:(onTheHeap (Xu C)&&Value.builtin "BaseException.__getattribute__"==Value.builtin "object.__getattribute__")=false:=by rw[y2];rfl
 have L2:=PySem.W.looks_findIn (M:=X5 prog w) X Z.ga
 have L3:=PySem.W.looks_findIn (M:=X5 prog w) X Z.gt
 repeat (any_goals (first|assumption|(with_reducible refine Ut hx ?_;rw[hc])|(with_reducible refine JZ.at L2 ?_)|(with_reducible refine JZ.at L3 ?_)|(with_reducible refine Xb (JZ.at L2 ?_))|(with_reducible refine Xb (JZ.at L3 ?_))|wp_step))
 refine Zls X Z hx hc ?_
 repeat (any_goals (first|assumption|wp_step))
theorem Zlx{Q:Option Xc->Xf->Prop}(X:K.In h)(Z:Zfx K C)(hx:h.get? a=some o)(hc:o.cls= .ref C)(hq:Q (some (.ref C)) ⟨h,g,d,t+1,os⟩) :
  Xx (X5 prog w) A (getAttr? (.ref a) "__class__") Q E ⟨h,g,d,t,os⟩:=by
 unfold getAttr? getAttrBy?
 repeat (any_goals (first|assumption|with_reducible apply Zx7 X Z hx hc|wp_step))
end
theorem Zq8{K:Xd}{a C:Addr}(Z:Zfx K C):PySem.W.KitX K (.ref a) (.ref C) (λh=>∃o,h.get? a=some o∧o.cls= .ref C) where
 ty:=λM h _ p=>let⟨_,hx,hc⟩:=p;Zwb M hx hc
 it:=λM h X _=>by
  have z:=Z.isC
  unfold PySem.W.clsIn at z
  split at z
  ·rename_i ho
   intro A' Q' E' s' k q
   unfold isType loadHead
   exact Xb (wpAny_loadPart (k _ _ (X _ _ ho)) (Xk q))
  ·cases z
 ne:=λh tp dd its n sl X htp=>by
  have z:=Z.isC
  refine BJ.mpr λq=>?_
  have e:C=tp:=Xu.inj (beq_iff_eq.mp q)
  subst e
  unfold PySem.W.clsIn at z
  split at z
  ·rename_i ho
   have z:=(X _ _ ho).symm.trans htp
   cases z
  ·cases z
 ca:=fun{_ _ _ _ _ s} X p k=>by
  obtain⟨h,g,d,t,os⟩:=s
  obtain⟨_,hx,hc⟩:=p
  exact Zlx X Z hx hc k
variable {G:Xd}
noncomputable def tyD:Xa->String
 | .none=>"NoneType"
 | .bool _=>"bool"
 | .int _=>"int"
 | .str _=>"str"
 | .list _=>"list"
 | .tuple _=>"tuple"
 | .dict _=>"dict"
theorem Zs0{K:Xd}{T:String}{d:Xa}(h:T="int"∨T="bool"∨T="str"∨T="list"∨T="tuple")(hd:∀kvs,d≠ .dict kvs):QM K (.type (tyD d)) (.type T)=some (Zk9 T d):=by
 rcases h with rfl|rfl|rfl|rfl|rfl<;>cases d<;>first|rfl|(exact absurd rfl (hd _))|(unfold QM PySem.W.kitCls;rfl)|(simp only[tyD,Zk9];decide +kernel)
noncomputable def Z6t(G:Xd):List V->Hp->VK->Prop:=λxs H Q=>∃(x:V) (T:String) (L:Addr->Prop) (d:Xa),xs=[x,.ty T]∧Da G H L x d∧Zd7 d=false∧(T="int"∨T="bool"∨T="str"∨T="list"∨T="tuple")∧Q (.bl (Zk9 T d)) H
theorem Zmt{X:Cx}(hK:X.K=G):Zbu X (.builtin "isinstance") (Z6t G):=by
 subst hK
 intro pins s σ H xs us Q I r h
 obtain⟨x,T,L,d,rfl,q,hf,hT,h⟩:=h
 obtain⟨u,w',rfl,r1,r2⟩:=vals2 r
 cases(show w'=Value.type T from r2)
 have fin:∀tk:Nat,EP X pins σ Q (.bool (Zk9 T d)) { s with toks:=tk }:=λtk=>⟨.bl _,H,I.tok tk,rfl,h⟩
 cases q with
 | non=>exact Ww I r1 .non (Zs0 (d:=.none) hT λ_ z=>by cases z) fin
 | bl b=>exact Ww I r1 (.bl b) (Zs0 (d:=.bool b) hT λ_ z=>by cases z) fin
 | int b=>exact Ww I r1 (.int b) (Zs0 (d:=.int b) hT λ_ z=>by cases z) fin
 | str b=>exact Ww I r1 (.str b) (Zs0 (d:=.str b) hT λ_ z=>by cases z) fin
 | lst l e qs=>
  rename_i ds
  rcases e with e|⟨o,e⟩
  ·exact Ww I r1 (.lst e) (Zs0 (d:=.list ds) hT λ_ z=>by cases z) fin
  ·exact Ww I r1 (.frz e) (Zs0 (d:=.list ds) hT λ_ z=>by cases z) fin
 | tup e qs=>
  rename_i ds
  exact Ww I r1 (.tup e) (Zs0 (d:=.tuple ds) hT λ_ z=>by cases z) fin
 | scr ks=>
  rename_i a ns
  cases(show u=Xu a from r1)
  obtain⟨its,vs,⟨o,n,ho,hc,hd,hs⟩,_⟩:=I.list (ks.sq (H:=H))
  exact JB PySem.W.kitx_list I.kIn ⟨o,ho,hc⟩ (Zs0 (d:=.list (ns.map XM)) hT λ_ z=>by cases z) (λz=>nomatch z) fin
 | exc Z hn e=>
  rename_i a C x
  cases(show u=Xu a from r1)
  obtain⟨⟨o,vs,ho,hc,_⟩,_,_⟩:=(show ObjOk X.prog X.w H s.heap a (.ext (ExO C a))from I.hok a _ e)
  refine JB (Zq8 Z) I.kIn ⟨o,ho,hc⟩ (b:=Zk9 T (exD x)) ?_ (λz=>nomatch z) fin
  rcases hT with rfl|rfl|rfl|rfl|rfl
  ·exact Z.k1
  ·exact Z.k2
  ·exact Z.k3
  ·exact Z.k4
  ·exact Z.k5
 | fn _=>cases hf
 | dic _ _ _ _=>unfold dcD Zd7 at hf;cases hf
section
variable {X:Cx}{io:List Nat}{p c p' c':Bool}{a b e:Expr}{ma m:MEt}{pos pp p2:Pos}{K:Xd}
theorem Zmg{T:Str}{T':String}(hT:T'="int"∨T'="bool"∨T'="str"∨T'="list"∨T'="tuple")(hg:Gl X "isinstance")(hm:X.mg "isinstance"=none)(hv:Qo "isinstance"=some (.builtin "isinstance"))
  (hg2:Gl X T) (hm2:X.mg T=none) (hv2:Qo T=some (.type T')) (ha:ME X io p c a ma) (hn:T≠"__name__" :=by decide) (hd:(T==("__debug__" : Str))=false:=by decide)
  (he:Xv [a,.Name T p2] X.env=(false,eval a X.env) :: Xv [.Name T p2] X.env:=by rfl) (he2:Xv [.Name T p2] X.env=(false,eval (.Name T p2) X.env) :: Xv [] X.env:=by rfl) (hpl:(Bf pos (Xv [.Name T p2] X.env)).any (·.1)=false:=by rfl) :
  ME X io p true (.Call (.Name "isinstance" pp) [a,.Name T p2] [] pos) (Yac T' ma):=by
 obtain⟨_,A,s⟩:=ha
 refine⟨_,Zjs (Zmt rfl) hg hm hv (Zac A (Zac (Zt4 (v:=.ty T') hg2 hm2 hv2 rfl hn hd) Zdi he2) he) (by decide) (by decide) he hpl,?_⟩
 intro C H σ δ fp ex K' Q R h k
 refine s C H σ δ fp ex _ _ R h λH' v r δ' fp' new r1 h1=>?_
 exact⟨v,T',_,_,rfl,r1.da R,h1.1,hT,k H' _ _ δ' fp' [] (.fz r1.base r1.stp (.bl _)) h1.2⟩
noncomputable abbrev MOt:=Zd->(Option Int->Zd->Prop)->Prop
noncomputable def MO(X:Cx)(io:List Nat)(p:Bool)(e:Option Expr)(m:MOt):Prop:=∃t,PO X e t∧∀(C:MC X.K) (H:Hp) (σ:St) (δ:Zd) (fp:Fp) (ex:Addr->Prop) (K:Option Int->Zd->Prop) (Q:Option Int->Hp->Prop),Rel C io H σ δ fp ex->m δ K ->
 (∀ H' b δ' fp',Rel C io H' σ δ' fp' ex->Stp p H δ fp H' δ' fp'->K b δ'->Q b H')->t σ H Q
noncomputable def Zoy:MOt:=λδ K=>K none δ
noncomputable def Z1g(m:MEt):MOt:=λδ K=>m δ λr δ'=>asI r.data λi=>K (some i) δ'
theorem Zhx:MO X io true none Zoy:=⟨_,Zur,λC H σ δ fp ex K Q R h k=>k H none δ fp R (.refl _ _ _ _) h⟩
theorem Zf6(h:ME X io p c e m):MO X io p (some e) (Z1g m):=by
 obtain⟨_,A,s⟩:=h
 exact⟨_,Zv4 A,λC H σ δ fp ex K Q R h k=>s C H σ δ fp ex _ _ R h λH' v r δ' fp' new r1 h1=>by
  obtain⟨i,rfl,h1⟩:=(r1.da R).intInv h1
  exact⟨i,rfl,k H' _ δ' fp' r1.base r1.stp h1⟩⟩
noncomputable def cutD(ds:List Xa)(lo hi:Option Int):List Xa:=(ds.drop (HT.sIx ds.length 0 lo)).take (HT.sIx ds.length ds.length hi-HT.sIx ds.length 0 lo)
theorem Das.cut{H:Hp}{L:Addr->Prop}{xs:List V}{ds:List Xa}(h:Das G H L xs ds)(lo hi:Option Int):Das G H L (Zyg xs lo hi) (cutD ds lo hi):=by
 unfold Zyg cutD
 rw[h.length]
 exact(h.drop _).take _
noncomputable def mSl(m:MEt)(ml mh:MOt):MEt:=λδ K=>m δ λr δ1=>ml δ1 λlo δ2=>mh δ2 λhi δ3=>asL r.data λds=>K (.nd ((cutD ds lo hi).map OT.fz)) δ3
theorem Z01{lo hi:Option Expr}{ml mh:MOt}(ha:ME X io true c a ma)(hl:MO X io true lo ml)(hh:MO X io true hi mh):ME X io true c (.Subscript a (.Slice lo hi none p2) pos) (mSl ma ml mh):=by
 obtain⟨_,A,s⟩:=ha
 obtain⟨_,B,sl⟩:=hl
 obtain⟨_,D,sh⟩:=hh
 refine⟨_,Zqs (Zp4 rfl) A B D,?_⟩
 intro C H σ δ fp ex K' Q R h k
 refine s C H σ δ fp ex _ _ R h λH1 v r δ1 fp1 new r1 h1=>?_
 refine sl C H1 σ δ1 fp1 ex _ _ r1.base h1 λH2 l δ2 fp2 R2 S2 h2=>?_
 refine sh C H2 σ δ2 fp2 ex _ _ R2 h2 λH3 u δ3 fp3 R3 S3 h3=>?_
 have s2:Same H1 H2:=λb o e=>S2.keep b o e (.inl rfl)
 have s3:Same H2 H3:=λb o e=>S3.keep b o e (.inl rfl)
 obtain⟨e1,e2⟩:=r1.stp.env rfl
 obtain⟨e3,e4⟩:=S2.env rfl
 obtain⟨e5,e6⟩:=S3.env rfl
 have q:=((r1.da R).same s2).same s3
 obtain⟨a',xs,ds,rfl,e,qs,h3⟩:=q.lstInv h3
 refine⟨a',xs,rfl,e,λp hp=>?_⟩
 have S:=(r1.stp.trans S2).trans S3
 refine k _ _ _ δ3 fp3 [p] (RE.tree R R3 S (Z0 hp _) (Jt hp) (Zas p) (Own.list hp ((qs.cut l u).wide λa l _=>?_))) h3
 rw[e6,e4]
 exact l
theorem Owns.set{H:Hp}{L:Addr->Prop}{x:V}{r:OT}(hr:Own G H L x r []):∀{xs:List V} {ts:List OT} {as:List Addr} (j:Nat),Owns G H L xs ts as->∃bs,Owns G H L (xs.set j x) (ts.set j r) bs∧bs.Sublist as
 | _,_,_,_,.nil=>⟨[],.nil,.refl _⟩
 | _,_,_,0,.cons k t=>⟨_,.cons hr t,by simp⟩
 | _,_,_,j+1,.cons (as:=as) k t=>by
  obtain⟨bs,o,s⟩:=Owns.set hr j t
  exact⟨as ++ bs,.cons k o,List.Sublist.append_left s as⟩
theorem Owns.get{H:Hp}{L:Addr->Prop}:∀{xs:List V} {ts:List OT} {as:List Addr} {j:Nat} {t:OT},Owns G H L xs ts as->ts[j]? =Bs t->∃x bs,xs[j]? =Bs x∧Own G H L x t bs∧bs.Sublist as
 | _,_,_,_,_,.nil,e=>by simp at e
 | _,_,_,0,_,.cons k _,e=>by simp at e;subst e;exact⟨_,_,rfl,k,List.sublist_append_left _ _⟩
 | _,_,_,j+1,t,.cons _ r,e=>by
  obtain⟨x,bs,h1,h2,h3⟩:=Owns.get (j:=j) (t:=t) r (by simpa using e)
  exact⟨x,bs,by simpa using h1,h2,h3.trans (List.sublist_append_right _ _)⟩
theorem Rel.top{C:MC G}{H:Hp}{σ:St}{δ:Zd}{fp:Fp}{ex:Addr->Prop}{i:Nat}{ts ts':List OT}{a':Addr}{xs ys:List V}{bs bs':List Addr}(R:Rel C io H σ δ fp ex)(hi:δ[i]? =some (some (.nd ts)))(hv:σ[i]? =some (some (.ref a')))
  (hf:fp i=a' :: bs) (hx:H a'=some (.lst xs)) (o:Owns G H (Lf C fp ex) ys ts' bs') (hs:bs'.Sublist bs) :
  Rel C io (upd H a' (.lst ys)) σ (δ.set i (some (.nd ts'))) (fpu fp i (a' :: bs')) ex∧Stp false H δ fp (upd H a' (.lst ys)) (δ.set i (some (.nd ts'))) (fpu fp i (a' :: bs')):=by
 have nd:=R.nd i
 rw[hf]at nd
 have hn:=Qk.mp nd
 have hm:a'∈fp i:=by rw[hf];exact .head _
 have ne':∀a,¬Foot fp a->a≠a':=λa h z=>h ⟨i,by rw[z];exact hm⟩
 have kp:∀b o,H b=some o->b≠a'->upd H a' (.lst ys) b=some o:=λb o e n=>by rw[Zi n];exact e
 have sub:∀a,a∈a' :: bs'->a∈fp i:=λa m=>by
  rw[hf]
  rcases Xn.mp m with rfl|m
  ·exact .head _
  ·exact .tail _ (hs.subset m)
 have o':Owns G (upd H a' (.lst ys)) (Lf C (fpu fp i (a' :: bs')) (exu ex [])) ys ts' bs':=by
  have f0:∀a,¬Foot fp a->¬Foot (fpu fp i (a' :: bs')) a:=λa h z=>by
   rcases z.of_u with z|⟨j,_,z⟩
   ·exact h ⟨i,sub a z⟩
   ·exact h ⟨j,z⟩
  have f1:∀a (zs:MuO),Lf C fp ex a->Rd H a zs.ho->Lf C (fpu fp i (a' :: bs')) (exu ex []) a∧Rd (upd H a' (.lst ys)) a zs.ho:=λa zs l q=>by
   refine⟨⟨f0 a l.1,λz=>l.2.1 (Jg.mp z),l.2.2⟩,?_⟩
   rcases q with q|⟨u,q⟩
   ·exact .inl (kp a _ q (ne' a l.1))
   ·exact .inr ⟨u,kp a _ q (ne' a l.1)⟩
  have f2:∀a (zs:ImO),H a=some zs.ho->upd H a' (.lst ys) a=some zs.ho:=λa zs q=>kp a _ q λz=>ImO.nl q (z▸hx)
  exact o.frame f1 f2 λa m zs q=>kp a _ q λz=>hn.1 (hs.subset (z▸m))
 have key:=R.change (new:=[]) (as':=a' :: bs') (t':=.nd ts') (H':=upd H a' (.lst ys)) hi hv (λb o e nb=>kp b o e λz=>nb (by rw[z];exact hm)) (λb e=>by
   by_cases q:b=a'
   ·subst q;rw[Zm]at e;cases e
   ·rwa[Zi q]at e) (.nd Zm o') (Qk.mpr ⟨λm=>hn.1 (hs.subset m),hn.2.sublist hs⟩) (λa m=>.inl (sub a m)) (λa m=>nomatch m)
 exact⟨key.1.drop λa z=>.inl z,key.2⟩
end
variable {G:Xd}
section
variable {X:Cx}{io:List Nat}{p c p' c':Bool}{a b e:Expr}{ma m mi mj:MEt}{pos pp p2 apos cpos px:Pos}{K:Xd}{i:Nat}{x:Str}
theorem Rel.ownNd{C:MC G}{H:Hp}{σ:St}{δ:Zd}{fp:Fp}{ex:Addr->Prop}{ts:List OT}(R:Rel C io H σ δ fp ex)(hi:δ[i]? =some (some (.nd ts))) :
  ∃a' xs bs,σ[i]? =some (some (.ref a'))∧H a'=some (.lst xs)∧Owns G H (Lf C fp ex) xs ts bs∧fp i=a' :: bs:=by
 obtain⟨v,e,o⟩:=R.own i _ hi
 generalize hf:fp i=as at o
 cases o with
 | nd h r=>exact⟨_,_,_,e,h,r,rfl⟩
noncomputable def Zff(i:Nat)(m:MEt):MSt:=λD δ=>match δ[i]? with
 | some (some (.nd _))=>m δ λr δ1=>match δ1[i]? with
  | some (some (.nd ts))=>ts.length<Xr∧D.nx (δ1.set i (some (.nd (ts ++ [.fz r.data]))))
  | _=>False
 | _=>False
theorem Wo(i:Nat)(he:ME X io p true e m)(hN:X.N[i]? =some x:=by rfl)(hv:Vis X.env.scope x:=by first|exact QF rfl|exact Qp (QF rfl)|exact Qp (Qp rfl))(hd:(x==("__debug__" : Str))=false:=by decide)
  (hcd:(x==("__classdict__" : Str))=false:=by decide)
  (hbase:Vh (.Name x px) "append" X.env (eval (.Name x px) X.env)=eval (.Name x px) X.env:=by rfl)
  (hfew:((Bf cpos (Xv [e] X.env)).all (λx=>!x.1)&&(backToKw cpos (U5 [] X.env)).all (λx=>x.1.isSome)
   &&decide ([e].length+([]:List V7).length+(if([]:List V7).isEmpty then 0 else 1)<30))=true:=by rfl)
  (hline:(apos.endLine==cpos.line)=true:=by rfl) (hs:Xv [e] X.env=(false,eval e X.env) :: Xv [] X.env:=by rfl) (hplain:(Bf cpos (Xv [] X.env)).any (·.1)=false:=by rfl)
  (hsw:Bx (.Call (.Attribute (.Name x px) "append" apos) [e] [] cpos) none pos.line X.env=pure false:=by rfl) :
  MS X io (.Expr (.Call (.Attribute (.Name x px) "append" apos) [e] [] cpos) pos) (Zff i m):=by
 obtain⟨_,A,s⟩:=he
 refine⟨_,Zbq (Zqd Bv PySem.F.slot_list_append PySem.F.type_list_append Za6 (pv i hN hv hd hcd) (Zac A Zdi hs) hbase hfew hline hs hplain) hsw,λC H σ δ fp ex D D' R h E=>?_⟩
 unfold Zff at h
 split at h
 case h_2=>exact h.elim
 rename_i ts0 hi0
 obtain⟨a',xs0,bs0,hv0,hx0,_,_⟩:=R.ownNd hi0
 refine⟨_,hv0,.inl ⟨rfl,xs0,.inl (.inl hx0)⟩,?_⟩
 refine s C H σ δ fp ex _ _ R h λH1 v r δ1 fp1 new r1 h1=>?_
 split at h1
 case h_2=>exact h1.elim
 rename_i ts1 hi1
 have R1:=r1.base
 obtain⟨a1,xs1,bs1,hv1,hx1,o1,hf1⟩:=R1.ownNd hi1
 rw[hv0]at hv1
 cases hv1
 have q:=(r1.da R).wide (L':=Lf C fp1 ex) λa l _=>l rfl
 refine⟨a',xs1,v,rfl,rfl,hx1,by rw[o1.length];exact h1.1,?_⟩
 have o2:=o1.snoc (.fz q)
 obtain⟨R2,S2⟩:=R1.top hi1 hv0 hf1 hx1 o2 (by simp)
 exact E.nx _ σ _ _ R2 (r1.stp.kp.trans S2.kp) h1.2
noncomputable def Z9f(i:Nat)(m mi:MEt):MSt:=λD δ=>m δ λr δ1=>match δ1[i]? with
 | some (some (.nd ts))=>mi δ1 λn _=>asI n.data λk=>match ixN ts.length k with
  | some j=>D.nx (δ1.set i (some (.nd (ts.set j (.fz r.data)))))
  | none=>False
 | _=>False
theorem SE.pureAfter{t:TE}{C:MC G}{H:Hp}{σ:St}{δ:Zd}{fp:Fp}{ex:Addr->Prop}{K':OT->Zd->Prop}{Q:VK}(s:SE G io true c t m)(R:Rel C io H σ δ fp ex)(h:m δ K')(k:∀H' v r,Rel C io H' σ δ fp ex->Same H H'->Da G H' (λa=>c=true->Lf C fp ex a) v r.data->K' r δ->Q v H'):t σ H Q :=
 s C H σ δ fp ex _ _ R h λH1 v r δ1 fp1 new r1 h1=>by
  obtain⟨e1,e2⟩:=r1.stp.env rfl
  have q:=r1.da R
  have R1:=r1.base
  rw[e1]at R1 h1
  rw[e2]at R1 q
  exact k H1 v r R1 (λb o e=>r1.stp.keep b o e (.inl rfl)) q h1
theorem Z0c(i:Nat)(he:ME X io p true e m)(hj:ME X io true c a mi)(hN:X.N[i]? =some x:=by rfl)(hv:Vis X.env.scope x:=by first|exact QF rfl|exact Qp (QF rfl)|exact Qp (Qp rfl))(hd:(x==("__debug__" : Str))=false:=by decide)
  (hcd:(x==("__classdict__" : Str))=false:=by decide)
  (hpg:∀{to ti:TE},PE X (.Name x px) to->PE X a ti->PG X (.Subscript (.Name x px) a pp) (Z9y to ti Zzk):=by intro _ _ A B;exact Z3p A B set_list)
  (hs:swapsWithSole [.Subscript (.Name x px) a pp] e pos.line X.env=pure false:=by rfl) (hw:swappedStores [.Subscript (.Name x px) a pp] e X.env=pure none:=by rfl)
  (h1:(JS [.Subscript (.Name x px) a pp] X.env).map (·.2)=[UL (.Subscript (.Name x px) a pp) X.env]:=by rfl):MS X io (.Assign [.Subscript (.Name x px) a pp] e pos) (Z9f i m mi):=by
 obtain⟨_,A,s⟩:=he
 obtain⟨_,B,sj⟩:=hj
 refine⟨_,Z3y A (hpg (pv i hN hv hd hcd) B) hs hw h1,λC H σ δ fp ex D D' R h E=>?_⟩
 refine s C H σ δ fp ex _ _ R h λH1 v r δ1 fp1 new r1 h1=>?_
 have R1:=r1.base
 have q:=(r1.da R).wide (L':=Lf C fp1 ex) λa l _=>l rfl
 split at h1
 case h_2=>exact h1.elim
 rename_i ts hi
 obtain⟨a',_,_,hv0,_⟩:=R1.ownNd hi
 refine⟨_,hv0,?_⟩
 refine sj.pureAfter R1 h1 λH2 w n R2 s2 q2 h2=>?_
 obtain⟨k,rfl,h2⟩:=q2.intInv h2
 split at h2
 case h_2=>exact h2.elim
 rename_i j hj
 obtain⟨a2,xs,bs,hv2,hx,o,hf⟩:=R2.ownNd hi
 rw[hv0]at hv2
 cases hv2
 obtain⟨bs',o',hs'⟩:=Owns.set (.fz (q.same s2)) j o
 refine⟨a',xs,k,j,rfl,rfl,hx,by rw[o.length];exact hj,?_⟩
 obtain⟨R3,S3⟩:=R2.top hi hv0 hf hx o' hs'
 exact E.nx _ σ _ _ R3 (r1.stp.kp.trans (Kp.trans ⟨λb o e _=>s2 _ _ e,λz=>(nomatch z),λa z=>.inl z,s2.al⟩ S3.kp)) h2
theorem Owns.deep{H:Hp}{L:Addr->Prop}{b':Addr}{ws ws':List V}{us us':List OT}(hb:H b'=Bs (HO.lst ws))(hL:¬L b')(hc:∀cs,Owns G H L ws us cs->∃cs',Owns G H L ws' us' cs'∧cs'.Sublist cs) :
  ∀{xs:List V} {ts:List OT} {as:List Addr} {j:Nat},Owns G H L xs ts as->as.Nodup->xs[j]? =Bs (.ref b')->ts[j]? =Bs (.nd us)->∃as',Owns G (upd H b' (.lst ws')) L xs (ts.set j (.nd us')) as'∧as'.Sublist as∧b'∈as
 | _,_,_,_,.nil,_,e,_=>by simp at e
 | _,_,_,0,.cons (as:=as) (bs:=bs) k t,nd,e,e'=>by
  simp at e e'
  subst e e'
  have nd':=Vn.mp nd
  have kp:∀a o,a≠b'->H a=Bs o->upd H b' (.lst ws') a=Bs o:=λa o n q=>by rw[Zi n];exact q
  have f1:∀a (zs:MuO),L a->Rd H a zs.ho->L a∧Rd (upd H b' (.lst ws')) a zs.ho:=λa zs l q=>⟨l,by
   have na:a≠b':=λz=>hL (z▸l)
   rcases q with q|⟨u,q⟩
   ·exact .inl (kp a _ na q)
   ·exact .inr ⟨u,kp a _ na q⟩⟩
  have f2:∀a (zs:ImO),H a=Bs zs.ho->upd H b' (.lst ws') a=Bs zs.ho:=λa zs q=>kp a _ (λz=>ImO.nl q (z▸hb)) q
  cases k with
  | nd h r=>
   rename_i xs0 as0
   rw[hb]at h
   cases h
   have nd2:=Qk.mp nd'.1
   obtain⟨cs',o',s'⟩:=hc _ r
   refine⟨b' :: cs' ++ bs,.cons (.nd Zm (o'.frame f1 f2 λa m zs q=>kp a _ (λz=>nd2.1 (s'.subset (z▸m))) q)) (t.frame f1 f2 λa m zs q=>kp a _ (λz=>nd'.2.2 b' (.head _) a m z.symm) q),List.Sublist.append_right (List.Sublist.cons₂ _ s') bs,X7 _ (.head _)⟩
 | _,_,_,j+1,.cons (as:=as) (bs:=bs) k t,nd,e,e'=>by
  have nd':=Vn.mp nd
  obtain⟨as',o,s,m⟩:=Owns.deep hb hL hc (j:=j) t nd'.2.1 (by simpa using e) (by simpa using e')
  have nb:b'∉as:=λz=>nd'.2.2 b' z b' m rfl
  refine⟨as ++ as',.cons ?_ o,List.Sublist.append_left s as,Xy _ m⟩
  have kp:∀a o,a≠b'->H a=Bs o->upd H b' (.lst ws') a=Bs o:=λa o n q=>by rw[Zi n];exact q
  refine k.frame (λa zs l q=>⟨l,?_⟩) (λa zs q=>kp a _ (λz=>ImO.nl q (z▸hb)) q) λa m' zs q=>kp a _ (λz=>nb (z▸m')) q
  have na:a≠b':=λz=>hL (z▸l)
  rcases q with q|⟨u,q⟩
  ·exact .inl (kp a _ na q)
  ·exact .inr ⟨u,kp a _ na q⟩
end
variable {G:Xd}
mutual
noncomputable def Zae:OT->Bool
 | .fz d=>We d
 | .nd ts=>Zdt ts
 | .tp ts=>Zdt ts
 | .dc _ _ _=>false
noncomputable def Zdt:List OT->Bool
 | []=>true
 | t :: ts=>Zae t&&Zdt ts
end
theorem Own.flat2{H:Hp}{L L':Addr->Prop}:(∀{v:V} {t:OT} {as:List Addr},Own G H L v t as->Zae t=true->Own G H L' v t as)∧∀{v:List V} {t:List OT} {as:List Addr},Owns G H L v t as->Zdt t=true->Owns G H L' v t as :=
 Own.both (λq h=>.fz (q.flat (by rw[Zae]at h;exact h))) (λe r h=>.nd e (r (by rw[Zae]at h;exact h))) (λe r h=>.tp e (r (by rw[Zae]at h;exact h))) (λ_ _ _ h=>by rw[Zae]at h;cases h) (λ_=>.nil) (λk r h=>by rw[Zdt,XN]at h;exact .cons (k h.1) (r h.2))
theorem Own.flat{H:Hp}{L L':Addr->Prop}{v:V}{t:OT}{as:List Addr}(h:Own G H L v t as)(f:Zae t=true):Own G H L' v t as:=Own.flat2.1 h f
section
variable {X:Cx}{io:List Nat}{p c:Bool}{e:Expr}{m:MEt}
noncomputable def Zti(m:MEt):MEt:=λδ K=>m δ λr δ'=>Zae r=true∧K r δ'
theorem Zul(h:ME X io p c e m):ME X io p true e (Zti m):=by
 obtain⟨_,A,s⟩:=h
 exact⟨_,A,λC H σ δ fp ex K Q R h k=>s C H σ δ fp ex _ _ R h λH' v r δ' fp' new r1 h1=>k H' v r δ' fp' new ⟨r1.rel,r1.stp,r1.own.flat h1.1,r1.nd,r1.fresh⟩ h1.2⟩
theorem Rel.freeze{C:MC G}{H:Hp}{σ:St}{δ:Zd}{fp:Fp}{ex:Addr->Prop}{i:Nat}{t:OT}(R:Rel C io H σ δ fp ex)(hio:i∉io)(hi:δ[i]? =some (some t)):Rel C io H σ (δ.set i (some (.fz t.data))) (fpu fp i []) ex:=by
 have hil:i<δ.length:=(Xi.mp hi).1
 have sub:∀j a,a∈fpu fp i [] j->j≠i∧a∈fp j:=λj a m=>by
  by_cases ej:j=i
  ·subst ej;rw[Zn]at m;exact nomatch m
  ·rw[Zy ej]at m;exact⟨ej,m⟩
 have lw:∀a,Lf C fp ex a->Lf C (fpu fp i []) ex a:=λa l=>⟨λ⟨j,z⟩=>l.1 ⟨j,(sub j a z).2⟩,l.2.1,l.2.2⟩
 have ln:∀a∈fp i,Lf C (fpu fp i []) ex a:=λa m=>⟨λ⟨j,z⟩=>(sub j a z).1 (R.dj j i a (sub j a z).2 m),R.dx i a m,.inr (by
  rcases R.new i a m with z|z
  ·exact absurd z.1 hio
  ·exact z)⟩
 refine⟨by rw[Vl];exact R.len,λj t' e=>?_,λj h=>?_,λj=>?_,λj k a h1 h2=>R.dj j k a (sub j a h1).2 (sub k a h2).2,λj a h z=>R.dx j a (sub j a h).2 z,R.xa,R.fr,R.al,λj a h=>R.new j a (sub j a h).2,R.io⟩
 ·by_cases ej:j=i
  ·subst ej
   rw[QR hil]at e
   cases e
   obtain⟨v,e1,o⟩:=R.own j t hi
   exact⟨v,e1,by rw[Zn];exact .fz (o.da (λa l _=>lw a l) ln)⟩
  ·rw[Qz (BL ej)]at e
   obtain⟨w,e1,o⟩:=R.own j t' e
   exact⟨w,e1,by rw[Zy ej];exact o.wide λa l _=>lw a l⟩
 ·by_cases ej:j=i
  ·subst ej;rw[Zn]
  ·rw[Zy ej]
   exact R.emp j λt' z=>h t' (by rw[Qz (BL ej)];exact z)
 ·by_cases ej:j=i
  ·subst ej;rw[Zn];exact .nil
  ·rw[Zy ej];exact R.nd j
noncomputable def Zft(i:Nat)(u:MSt):MSt:=λD δ=>match δ[i]? with|some (some t)=>u D (δ.set i (some (.fz t.data)))|_=>False
theorem Zn5{st:Stmt}{u:MSt}(i:Nat)(h:MS X io st u)(hio:i∉io:=by decide):MS X io st (Zft i u):=by
 obtain⟨_,A,s⟩:=h
 exact⟨_,A,λC H σ δ fp ex D D' R h E=>by
  unfold Zft at h
  split at h
  case h_2=>exact h.elim
  rename_i t hi
  refine s C H σ _ _ ex D D' (R.freeze hio hi) h (E.shift ⟨λb o e _=>e,λz=>(nomatch z),λa z=>?_,λb e=>e⟩)
  rcases z.of_u with z|⟨j,_,z⟩
  ·exact nomatch z
  ·exact .inl ⟨j,z⟩⟩
end
variable {G:Xd}
noncomputable def Z3q(ds:List Xa)(k:OT->Prop):Prop:=∃ns:List Int,ds=[.list (ns.map XM)]∧ns.length≤63∧k (.fz (.bool true))
theorem Zy7{H:Hp}{a:Addr}{ns:List Int}{E:XK}(hl:ns.length≤63)(h:SqL G H a (ns.map V.int)):spD G Z3q [.ref a] H (λv _=>v= .bl true) E:=by
 refine⟨λ_=>True,[.list (ns.map XM)],λr=>r= .fz (.bool true),.cons ?_ .nil,⟨ns,rfl,hl,rfl⟩,λr v H' new kr s o _ _=>?_⟩
 ·rcases h with h|h
  ·exact .lst trivial h (.ints ns)
  ·exact .scr h
 ·subst kr
  cases o with
  | fz q=>cases q;rfl
section
variable {P:X4}{w:Qm}{mg:Str->Option Xc}{base:Heap}{CX:CXT}{n:Nat}{f:Addr}{fd:QD}{ps:List Str}
theorem Da.ints_sq{H:Hp}{L:Addr->Prop}{v:V}{ns:List Int}(h:Da G H L v (.list (ns.map XM))):∃a,v= .ref a∧SqL G H a (ns.map V.int):=by
 generalize e:Uq (ns.map XM)=d at h
 cases h with
 | lst l e1 r=>
  cases e
  rw[r.int_inv]at e1
  exact⟨_,rfl,.inl e1⟩
 | scr k=>
  rename_i a ms
  have e':=PyData.list.inj e
  have:ns=ms:=(List.map_inj_right (λ_ _ h=>by cases h;rfl)).mp e'
  subst this
  exact⟨_,rfl,k.sq⟩
 | _=>cases e
end
@[simp] theorem Zc4:OT.datas []=[]:=rfl
@[simp] theorem Zcb(t:OT)(ts:List OT):OT.datas (t :: ts)=t.data :: OT.datas ts:=rfl
theorem Zj0{α:Type}{xs:List α}{i:Int}(h0:0≤i):atI xs i=xs[i.toNat]?:=by
 unfold atI ixN
 rw[if_pos h0]
 split
 ·rfl
 ·rename_i h
  symm
  exact JW.mpr (by omega)
@[simp] theorem Yal{α:Type}(x:α)(xs:List α):atI (x :: xs) 0=some x:=by
 rw[Zj0 (by decide)];rfl
@[simp] theorem Yaw{α:Type}(x y:α)(xs:List α):atI (x :: y :: xs) 1=some y:=by
 rw[Zj0 (by decide)];rfl
@[simp] theorem Yam{α:Type}(x y z:α)(xs:List α):atI (x :: y :: z :: xs) 2=some z:=by
 rw[Zj0 (by decide)];rfl
@[simp] theorem Z4r(ds:List Xa)(i:Int):ixD (.list ds) (.int i)=atI ds i:=rfl
@[simp] theorem Z4u(ds:List Xa)(i:Int):ixD (.tuple ds) (.int i)=atI ds i:=rfl
@[simp] theorem Z0q(ds:List Xa):Zp3 (.list ds)=some ds.length:=rfl
@[simp] theorem Z4j(ds:List Xa):Zp3 (.tuple ds)=some ds.length:=rfl
noncomputable def Zhg(r:List Rat):Xa:=.list (r.map frD)
noncomputable def tbD(T:List (List Rat)):Xa:=.list (T.map Zhg)
noncomputable def Z7e(r:List Rat):OT:=.nd (r.map λq=>.fz (frD q))
noncomputable def tbT(T:List (List Rat)):OT:=.nd (T.map Z7e)
@[simp] theorem Zm0(r:List Rat):(Z7e r).data=Zhg r:=by
 unfold Z7e Zhg
 rw[OT.data_nd,Qq]
 rfl
@[simp] theorem Z4n(T:List (List Rat)):(tbT T).data=tbD T:=by
 unfold tbT tbD
 rw[OT.data_nd,Qq]
 exact congrArg Uq (Qe λr _=>Zm0 r)
noncomputable def dd(T:List (List Rat))(i j:Nat):Rat:=(T.getD i []).getD j 0
@[simp] theorem Z4v(T:List (List Rat)):Zp3 (tbD T)=some T.length:=by unfold tbD Zp3;simp
@[simp] theorem Z33(r:List Rat):Zp3 (Zhg r)=some r.length:=by unfold Zhg Zp3;simp
@[simp] theorem Z6z(q:Rat):We (frD q)=true:=by unfold frD fr;simp[We,Zch]
theorem Ziw{n a:Nat}(h:a<n):ixN n (a:Int)=some a:=by
 unfold ixN
 rw[if_pos (by omega),if_pos (by omega)];simp
theorem Zpi{d:Xa}(h:Ym d=true):JV d d=true:=Zs9 h h rfl
structure Sh(n:Nat)(d:Xa):Prop where
 lay:BZ d=true
 dep:PyData.depth d≤n
theorem Sh.shp{n:Nat}{d:Xa}(h:Sh n d)(hn:n≤64:=by decide):Z0y d:=⟨by
 show(BZ d&&decide (PyData.depth d≤64))=true
 rw[h.lay,decide_eq_true (Qs h.dep hn)];rfl⟩
theorem Zgw{n:Nat}:∀{ds:List Xa},(∀d∈ds,Sh n d)->Ub ds=true∧PyData.depthAll ds≤n
 | [],_=>⟨by rw[Ub],by rw[PyData.depthAll];exact QH _⟩
 | d :: ds,h=>by
  obtain⟨h1,h2⟩:=Zgw λe m=>h e (.tail _ m)
  have h3:=h d (.head _)
  refine⟨by rw[Ub,h3.lay,h1];rfl,?_⟩
  rw[PyData.depthAll]
  exact Nat.max_le.mpr ⟨h3.dep,h2⟩
theorem Znh{n:Nat}{ds:List Xa}(h:∀d∈ds,Sh n d):Sh (n+1) (.list ds) :=
 ⟨by rw[BZ];exact(Zgw h).1,by rw[PyData.depth];exact Uv (Zgw h).2⟩
theorem Z06{n:Nat}{ds:List Xa}(h:∀d∈ds,Sh n d):Sh (n+1) (.tuple ds) :=
 ⟨by rw[BZ];exact(Zgw h).1,by rw[PyData.depth];exact Uv (Zgw h).2⟩
theorem Zte(i:Int):Sh 0 (.int i):=⟨rfl,Nat.le_of_eq rfl⟩
section
variable {X:Cx}{pins:List (Addr×Obj)}{σ:St}{H:Hp}{s:Xf}
theorem Inv.turnTup{h':Heap}{ch:List Addr}{T:Addr}{xs:List V}{its:List Xc}(I:Inv X pins σ H s)(f:∀b∈ch,Zei X pins H b)(k:∀b o,b∉ch->s.heap.get? b=some o->h'.get? b=some o)
  (th:∀b∈ch,∃o,h'.get? b=some o) (hT:s.heap.objs.size≤T) (hz:xs.length≤Xr) (r:Vals xs its) (ht:IsTup h' T its.toArray):Inv X pins σ (upd H T (.tup xs)) { s with heap:=h' }:=by
 have hn:H T=none:=I.hok.fresh hT
 have nch:∀b u,H b=some u->b∉ch:=λb u e z=>by rw[(f b z).1]at e;cases e
 have new:ObjOk X.prog X.w (upd H T (.tup xs)) h' T (.tup xs):=⟨hz,its,r,ht⟩
 refine I.call (ch:=ch) (g':=s.gens) (d':=s.drawn) (t':=s.toks) ⟨λb o e _ _ hc=>k b o hc e,λb o e _ _ hc=>⟨o.slots,k b o hc e⟩,λb o e n _=>?_,λb o e hc=>?_,λb ys e=>?_,λb o u e=>?_,λb ps e=>?_⟩ (λb u e=>?_) I.bare (λb hb=>?_)
 ·rw[Zi (λz=>by rw[z]at e;exact absurd (XH e) (Nat.not_lt.mpr hT))];exact n
 ·exact⟨o,k b o hc e⟩
 ·rw[Zi (Yd e hn)];exact e
 ·rw[Zi (Yd e hn)];exact e
 ·exact⟨#[],by rw[Zi (Yd e hn),e];simp⟩
 ·by_cases hb:b=T
  ·subst hb;rw[Zm]at e;cases e;exact new
  ·rw[Zi hb]at e
   refine(I.hok b u e).stay (λc v hc q=>k c v ?_ q) (λc q=>by rw[Zi (Yd q hn)];exact q) λc ys q=>by rw[Zi (Yd q hn)];exact q
   rcases hc with rfl|hc
   ·exact nch _ _ e
   ·exact nch _ _ hc
 ·obtain⟨f0,f1,f2,f3,f4,f5⟩:=f b hb
  exact⟨f3,f1,f4,f5⟩
theorem Inv.turnAll{h':Heap}{ch:List Addr}(I:Inv X pins σ H s)(f:∀b∈ch,Zei X pins H b)(k:∀b o,b∉ch->s.heap.get? b=some o->h'.get? b=some o):Inv X pins σ H { s with heap:=h' }:=by
 have nch:∀b u,H b=some u->b∉ch:=λb u e z=>by rw[(f b z).1]at e;cases e
 refine I.call (ch:=ch) (g':=s.gens) (d':=s.drawn) (t':=s.toks) ⟨λb o e _ _ hc=>k b o hc e,λb o e _ _ hc=>⟨o.slots,k b o hc e⟩,λb o e n _=>n,λb o e hc=>⟨o,k b o hc e⟩,λb ys e=>e,λb o u e=>e,λb ps e=>⟨#[],by rw[e];simp⟩⟩ (λb u e=>?_) I.bare (λb hb=>?_)
 ·refine(I.hok b u e).stay (λc v hc q=>k c v ?_ q) (λc q=>q) λc ys q=>q
  rcases hc with rfl|hc
  ·exact nch _ _ e
  ·exact nch _ _ hc
 ·obtain⟨f0,f1,f2,f3,f4,f5⟩:=f b hb
  exact⟨f3,f1,f4,f5⟩
end
variable {G:Xd}
section
variable {X:Cx}{io:List Nat}{p c:Bool}{e a b tg:Expr}{m:MEt}{mr:MAt}
theorem Rel.keptList{C:MC G}{H:Hp}{σ:St}{δ:Zd}{fp:Fp}{ex:Addr->Prop}{v:V}{ds:List Xa}(R:Rel C io H σ δ fp ex)(q:Da G H (λa=>c=true->Lf C fp ex a) v (.list ds)) :
  ∃a xs,v= .ref a∧∀H':Hp,(∀b o,H b=some o->(c=false∨¬Foot fp b)->H' b=some o)->SqL G H' a xs∧Das G H' (λa=>c=true->(Lf C fp ex a∧H a≠none)) xs ds:=by
 generalize hd:Uq ds=d at q
 cases q with
 | lst l e r=>
  cases hd
  rename_i a0 xs0
  refine⟨a0,xs0,rfl,λH' kp=>?_⟩
  obtain⟨f1,f2⟩:=R.kept kp
  exact⟨.inl (f1 _ (.lst _) l e).2,r.frame f1 f2⟩
 | scr k=>
  rename_i a ns
  have:=PyData.list.inj hd
  subst this
  exact⟨a,_,rfl,λH' _=>⟨k.sq,.ints ns⟩⟩
 | _=>cases hd
noncomputable def Zkh(as bs:List Xa):List Xa:=(as.zip bs).map λx=>.tuple [x.1,x.2]
theorem Zit{as bs:List Xa}{i:Nat}{d:Xa}(h:(Zkh as bs)[i]? =some d):∃x y,as[i]? =some x∧bs[i]? =some y∧d= .tuple [x,y]:=by
 unfold Zkh at h
 rw[Xj]at h
 cases e:(as.zip bs)[i]? with
 | none=>rw[e]at h;cases h
 | some z=>
  rw[e]at h
  cases h
  obtain⟨h1,h2⟩:=List.getElem?_zip_eq_some.mp e
  exact⟨z.1,z.2,h1,h2,rfl⟩
theorem Zlp{as bs:List Xa}{i:Nat}(h:(Zkh as bs)[i]? =none):as.length≤i∨bs.length≤i:=by
 unfold Zkh at h
 have:=JW.mp h
 simp at this
 omega
@[simp] theorem Zwf(as bs:List Xa):(Zkh as bs).length=min as.length bs.length:=by simp[Zkh]
end
variable {G:Xd}
section
variable {X:Cx}{io:List Nat}{c1 c2 c3:Bool}{a b e:Expr}{ma mb mc:MEt}{pos:Pos}{f g:Int->Int->Bool}
noncomputable def Ziz(f g:Int->Int->Bool)(ma mb mc:MEt):MEt:=λδ K=>ma δ λx δ1=>mb δ1 λy δ2=>asI x.data λi=>asI y.data λj=>if f i j=true then mc δ2 λz δ3=>asI z.data λk=>K (.fz (.bool (g j k))) δ3 else K (.fz (.bool false)) δ2
theorem Z0g{ta tb tc:TE}(ha:SE G io true c1 ta ma)(hb:SE G io true c2 tb mb)(hc:SE G io true c3 tc mc):SE G io true true (Zsd (rI0 λi j=>.bl (f i j)) (rI0 λi j=>.bl (g i j)) ta tb tc) (Ziz f g ma mb mc):=by
 intro C H σ δ fp ex K Q R h k
 refine ha.pureAfter R h λH1 x u R1 s1 q1 h1=>?_
 refine hb.pureAfter R1 h1 λH2 y v R2 s2 q2 h2=>?_
 obtain⟨i,rfl,h2⟩:=q1.intInv h2
 obtain⟨j,rfl,h2⟩:=q2.intInv h2
 refine⟨i,j,rfl,rfl,f i j,rfl,?_⟩
 by_cases hf:f i j=true
 ·rw[if_pos hf]at h2⊢
  refine hc.pureAfter R2 h2 λH3 z w R3 s3 q3 h3=>?_
  obtain⟨l,rfl,h3⟩:=q3.intInv h3
  have s13:Same H H3:=(s1.trans s2).trans s3
  exact⟨j,l,rfl,rfl,k H3 _ _ δ fp [] (.fz R3 (.same s13 s13.al) (.bl _)) h3⟩
 ·rw[if_neg hf]at h2⊢
  have s12:Same H H2:=s1.trans s2
  exact k H2 _ _ δ fp [] (.fz R2 (.same s12 s12.al) (.bl _)) h2
theorem Zx9{op op':CmpOp}(ho:OpR X (Q6 op) (rI0 λi j=>.bl (f i j)))(ho':OpR X (Q6 op') (rI0 λi j=>.bl (g i j)))(ha:ME X io true c1 a ma)(hb:ME X io true c2 b mb)(hc:ME X io true c3 e mc)
  (hm:lastMarks [op,op'] [b,e]=false:=by with_unfolding_all rfl):ME X io true true (.Compare a [op,op'] [b,e] pos) (Ziz f g ma mb mc):=by
 obtain⟨_,A,sa⟩:=ha
 obtain⟨_,B,sb⟩:=hb
 obtain⟨_,D,sc⟩:=hc
 exact⟨_,Zrp ho ho' A B D hm,Z0g sa sb sc⟩
end
section
variable {X:Cx}{io:List Nat}{p c:Bool}{a b e:Expr}{ma mb m:MEt}{pos pl:Pos}
noncomputable def Z9b(m mb:MEt):MEt:=λδ K=>m δ λr δ1=>mb δ1 λn _=>asI n.data λk=>(-(2^63)≤k∧k<2^63∧k.toNat≤Xr)∧K (.nd (Qi k.toNat (.fz r.data))) δ1
theorem Zim{α:Type}(x:α):∀n:Nat,(Qi n [x]).flatten=Qi n x
 | 0=>rfl
 | n+1=>by rw[Vs,Ug,Zim x n];rfl
theorem Das.rep{H:Hp}{L:Addr->Prop}{v:V}{d:Xa}(h:Da G H L v d):∀n:Nat,Das G H L (Qi n v) (Qi n d)
 | 0=>.nil
 | n+1=>.cons h (Das.rep h n)
theorem Z6d(ha:ME X io p true a m)(hb:ME X io true c b mb)(hs:Xv [a] X.env=(false,eval a X.env) :: Xv [] X.env:=by rfl):ME X io p true (.BinOp (.List [a] pl) .Mult b pos) (Z9b m mb):=by
 obtain⟨_,A,sa⟩:=ha
 obtain⟨_,B,sb⟩:=hb
 refine⟨_,Zx6 Z27 (Zsf (Zac A Zdi hs)) B,λC H σ δ fp ex K Q R h k=>?_⟩
 refine sa C H σ δ fp ex _ _ R h λH1 v r δ1 fp1 new r1 h1=>⟨(by show 1≤Xr;decide),λl hl=>?_⟩
 have R1:=r1.base
 have s1:=Z0 hl (.lst [v])
 refine sb.pureAfter (R1.mk0 s1) h1 λH2 w n R2 s2 q2 h2=>?_
 obtain⟨i,rfl,h2⟩:=q2.intInv h2
 have q:=(((r1.da R).wide (L':=Lf C fp1 ex) λa l _=>l rfl).same s1).same s2
 refine⟨l,i,[v],rfl,rfl,s2 _ _ Zm,h2.1.1,h2.1.2.1,by show 1*i.toNat≤Xr;rw[Nat.one_mul];exact h2.1.2.2,λt ht=>?_⟩
 rw[Zim]
 have S:Stp p H δ fp H2 δ1 fp1:=by
  have:=r1.stp.trans (p':=true) (Stp.same (p:=true) (δ:=δ1) (fp:=fp1) (s1.trans s2) (s1.trans s2).al)
  rwa[Bool.and_true]at this
 refine k _ _ _ δ1 fp1 [t] (RE.tree R R2 S (Z0 ht _) (Jt ht) (Zas t) ?_) h2.2
 have:=Own.list ht ((Das.rep q i.toNat).wide (L':=λa=>true=true->Lf C fp1 ex a) λa l _ _=>l)
 rwa[List.map_replicate]at this
end
end L2
namespace L2
open PySem PySem.Spec PyProof.Rows PySem.SeqAt
variable {G:Xd}
section
variable {X:Cx}{io:List Nat}{p c:Bool}{a b e:Expr}{ma mb m:MEt}{mr:MAt}{pos pos' pl pr:Pos}
end
theorem Zf4:∀{ns:List Int} {its:List Xc},Vals (ns.map V.int) its->IntsAre its ns
 | [],_,.nil=>.nil
 | n :: ns,_,.cons r rs=>by
  obtain⟨t,e⟩:=(show∃t,_=Um n t from r)
  rw[e]
  exact .cons n t (Zf4 rs)
section
variable {X:Cx}{io:List Nat}{p c:Bool}{a b e:Expr}{ma mb m:MEt}{mr:MAt}{pos pos' pl pr:Pos}
noncomputable def Z4q(i:Nat)(m:MEt):MEt:=λδ K=>match δ[i]? with
 | some (some (.nd _))=>m δ λn δ1=>match δ1[i]? with
  | some (some (.nd ts))=>asI n.data λj=>match ixN ts.length j with
   | some k=>match ts[k]? with
    | some (.fz d)=>ts.length≤Xr∧K (.fz d) (δ1.set i (some (.nd (ts.eraseIdx k))))
    | _=>False
   | none=>False
  | _=>False
 | _=>False
theorem Owns.erase{H:Hp}{L:Addr->Prop}:∀{xs:List V} {ts:List OT} {as:List Addr} {k:Nat} {d:Xa},Owns G H L xs ts as->ts[k]? =Bs (.fz d)->Owns G H L (xs.eraseIdx k) (ts.eraseIdx k) as
 | _,_,_,_,_,.nil,e=>by simp at e
 | _,_,_,0,d,.cons q r,e=>by
  simp at e
  subst e
  cases q
  exact r
 | _,_,_,k+1,d,.cons q r,e=>.cons q (Owns.erase (k:=k) r (by simpa using e))
theorem Z7n{x:Str}{px:Pos}{apos cpos:Pos}(i:Nat)(he:ME X io p c e m)(hN:X.N[i]? =some x:=by rfl)(hv:Vis X.env.scope x:=by first|exact QF rfl|exact Qp (QF rfl)|exact Qp (Qp rfl))(hd:(x==("__debug__" : Str))=false:=by decide)
  (hcd:(x==("__classdict__" : Str))=false:=by decide)
  (hbase:Vh (.Name x px) "pop" X.env (eval (.Name x px) X.env)=eval (.Name x px) X.env:=by rfl)
  (hfew:((Bf cpos (Xv [e] X.env)).all (λx=>!x.1)&&(backToKw cpos (U5 [] X.env)).all (λx=>x.1.isSome)
   &&decide ([e].length+([]:List V7).length+(if([]:List V7).isEmpty then 0 else 1)<30))=true:=by rfl)
  (hline:(apos.endLine==cpos.line)=true:=by rfl) (hs:Xv [e] X.env=(false,eval e X.env) :: Xv [] X.env:=by rfl) (hplain:(Bf cpos (Xv [] X.env)).any (·.1)=false:=by rfl) :
  ME X io false true (.Call (.Attribute (.Name x px) "pop" apos) [e] [] cpos) (Z4q i m):=by
 obtain⟨_,A,s⟩:=he
 refine⟨_,Zqd Bv PySem.F.slot_list_pop PySem.F.type_list_pop Zpy (pv i hN hv hd hcd) (Zac A Zdi hs) hbase hfew hline hs hplain,λC H σ δ fp ex K Q R h kk=>?_⟩
 unfold Z4q at h
 split at h
 case h_2=>exact h.elim
 rename_i ts0 hi0
 obtain⟨a',xs0,bs0,hv0,hx0,_,_⟩:=R.ownNd hi0
 refine⟨_,hv0,.inl ⟨rfl,xs0,.inl (.inl hx0)⟩,?_⟩
 refine s C H σ δ fp ex _ _ R h λH1 v r δ1 fp1 new r1 h1=>?_
 split at h1
 case h_2=>exact h1.elim
 rename_i ts1 hi1
 obtain⟨j,rfl,h1⟩:=(r1.da R).intInv h1
 split at h1
 case h_2=>exact h1.elim
 rename_i k hk
 split at h1
 case h_2=>exact h1.elim
 rename_i d hd1
 have R1:=r1.base
 obtain⟨a1,xs1,bs1,hv1,hx1,o1,hf1⟩:=R1.ownNd hi1
 rw[hv0]at hv1
 cases hv1
 obtain⟨y,cs,hy,oy,_⟩:=o1.get hd1
 have qy:Da X.K H1 (Lf C fp1 ex) y d:=by cases oy;assumption
 obtain⟨z1,z2,z3,z4⟩:=Zhl hk
 have hz:=h1.1
 have hsz:Xr=16777216:=Qh
 refine⟨a',xs1,j,k,y,rfl,rfl,hx1,by omega,by omega,by rw[o1.length];exact z1,hy,?_⟩
 obtain⟨R2,S2⟩:=R1.top hi1 hv0 hf1 hx1 (o1.erase hd1) (List.Sublist.refl _)
 have S:=(r1.stp.trans S2).cast (p':=false) λz=>nomatch z
 refine kk _ _ _ _ _ [] (.fz R2 S ?_) h1.2
 have ne':∀a,¬Foot fp1 a->a≠a':=λa h z=>h ⟨i,by rw[z,hf1];exact .head _⟩
 have f0:∀a,¬Foot fp1 a->¬Foot (fpu fp1 i (a' :: bs1)) a:=λa h z=>by
  rcases z.of_u with z|⟨j,_,z⟩
  ·exact h ⟨i,by rw[hf1];exact z⟩
  ·exact h ⟨j,z⟩
 refine qy.frame (λa zs l q=>⟨λ_=>⟨f0 a l.1,l.2.1,l.2.2⟩,?_⟩) λa zs q=>?_
 ·rcases q with q|⟨u,q⟩
  ·exact .inl (by rw[Zi (ne' a l.1)];exact q)
  ·exact .inr ⟨u,by rw[Zi (ne' a l.1)];exact q⟩
 ·rw[Zi]
  ·exact q
  ·intro z
   exact ImO.nl q (z▸hx1)
end
end L2
namespace L2
open PySem PySem.Spec PyProof.Rows
theorem ObjOk.is{P:X4}{w:Qm}{H:Hp}{h:Heap}{a:Addr}{o:HO}(x:ObjOk P w H h a o):∃u,h.get? a=some u:=by
 cases o with
 | lst xs=>obtain⟨_,_,_,_,e⟩:=x;exact⟨_,e⟩
 | tup xs=>obtain⟨_,_,_,ob,e,_⟩:=x;exact⟨_,e⟩
 | dK kvs=>obtain⟨_,_,_,_,o,_,_,e,_⟩:=x;exact⟨_,e⟩
 | dT kvs=>obtain⟨_,_,_,_,o,_,_,e,_⟩:=x;exact⟨_,e⟩
 | set S n=>obtain⟨o,_,_,_,e,_⟩:=x;exact⟨_,e⟩
 | ins C dx fs=>obtain⟨_,_,_,e,_⟩:=x;exact⟨_,e⟩
 | own y=>obtain⟨_,e⟩:=x;exact⟨_,e⟩
 | xd fs=>obtain⟨_,⟨_,_,_,e,_⟩,_⟩:=x;exact⟨_,e⟩
 | rng lo hi=>obtain⟨_,_,_,e⟩:=x;exact⟨_,e⟩
 | frz ob u=>obtain⟨e,_⟩:=x;exact⟨_,e⟩
 | tbl ps=>exact⟨_,(show h.get? a=some _ from x)⟩
 | met f y=>exact⟨_,(show h.get? a=some _ from x)⟩
 | ext φ=>obtain⟨_,⟨_,e⟩,_⟩:=x;exact⟨_,e⟩
structure UJ(X:Cx)(pins:List (Addr×Obj))(H:Hp)(b:Addr):Prop where
 fr:H b=none
 new:X.s₀.heap.get? b=none
 loc:b≠X.env.locals
 cel:∀x c,X.env.cells.lookup x=some c->c≠b
 pin:∀p∈X.pn ++ pins,p.1≠b
section
variable {X:Cx}{pins:List (Addr×Obj)}{σ:St}{H H':Hp}{s:Xf}{h':Heap}{b a C:Addr}
theorem Inv.apart(I:Inv X pins σ H s)(hex:X.ex=[])(hb:s.heap.get? b=none)(hH:H' b=none):UJ X pins H' b:=by
 have ne:∀c o,s.heap.get? c=some o->c≠b:=λc o e z=>by rw[z,hb]at e;cases e
 refine⟨hH,?_,?_,λx c e=>?_,λp hp=>?_⟩
 ·cases q:X.s₀.heap.get? b with
  | none=>rfl
  | some o=>
   obtain⟨o',e⟩:=I.base.there b o q (by rw[hex];simp)
   rw[hb]at e;cases e
 ·obtain⟨m,⟨o,_,_,ho,_⟩,_⟩:=I.loc
  exact(ne _ _ ho).symm
 ·obtain⟨v,o,ho,_⟩:=I.cell x c e
  exact ne _ _ ho
 ·exact ne _ _ (I.pin p hp).1
theorem Inv.unheld(I:Inv X pins σ H s)(hb:s.heap.get? b=none):H b=none:=by
 cases q:H b with
 | none=>rfl
 | some u=>
  obtain⟨o,e⟩:=(I.hok b u q).is
  rw[hb]at e;cases e
theorem Inv.nofrs(I:Inv X pins σ H s)(hb:b≠X.env.locals)(hf:b∉X.fs):b∉frs X.stack:=λz=>(Xn.mp (I.stkSub b z)).elim hb hf
theorem Inv.flown{t':Nat}(I:Inv X pins σ H s){ch:List Addr}(hch:∀b∈ch,UJ X pins H b)(keep:∀b o,b∉frs X.stack->b∉ch->s.heap.get? b=some o->h'.get? b=some o)
  (slot:∀b o,b∈frs X.stack->s.heap.get? b=some o->∃sl,h'.get? b=some { o with slots:=sl }):Inv X pins σ H { s with heap:=h',toks:=t' }:=by
 have any:∀b o,b∉ch->s.heap.get? b=some o->∃sl,h'.get? b=some { o with slots:=sl }:=λb o n e=>by
  by_cases hb:b∈frs X.stack
  ·exact slot b o hb e
  ·exact⟨o.slots,keep b o hb n e⟩
 have neL:∀b o,X.s₀.heap.get? b=some o->b≠X.env.locals:=λb o e=>Xo (Qj (XH e) I.ok.above)
 have neC:∀b o,X.s₀.heap.get? b=some o->b∉ch:=λb o e hb=>by
  have:=(hch b hb).new
  rw[this]at e;cases e
 have cellK:∀x c,X.env.cells.lookup x=some c->∀v,s.heap.IsCell c v->h'.IsCell c v:=λx c e v q91=>by
  obtain⟨o,ho,hd⟩:=q91
  obtain⟨sl,q⟩:=any c o (λz=>(hch c z).cel x c e rfl) ho
  exact⟨_,q,hd⟩
 have nL:X.env.locals∉ch:=λz=>(hch _ z).loc rfl
 refine⟨I.ok,I.os,I.bare,⟨λb o e n hb hx=>?_,λb o e n hb hx=>?_,I.base.free,λb o e hx=>?_,I.base.tups,I.base.frzs,I.base.tbls⟩,?_,λx c e=>?_,I.free,I.freeC,λp hp=>?_,λb u e=>?_,I.len⟩
 ·exact keep b o (I.nofrs (neL b o e) hb) (neC b o e) (I.base.keep b o e n hb hx)
 ·obtain⟨sl,e1⟩:=I.base.slot b o e n hb hx
  obtain⟨sl',e2⟩:=any b _ (neC b o e) e1
  exact⟨sl',e2⟩
 ·obtain⟨o',e1⟩:=I.base.there b o e hx
  obtain⟨sl,e2⟩:=any b o' (neC b o e) e1
  exact⟨_,e2⟩
 ·obtain⟨m,⟨o,es,ep,ho,r⟩,hl⟩:=I.loc
  obtain⟨sl,q⟩:=any _ o nL ho
  refine⟨m,⟨_,es,ep,q,r⟩,λi x v e1 e2 e3=>?_⟩
  obtain⟨u,rv,l⟩:=hl i x v e1 e2 e3
  refine⟨u,rv,?_⟩
  rcases l with l|⟨k,c,e,z⟩
  ·exact .inl l
  ·exact .inr ⟨k,c,e,cellK x c e _ z⟩
 ·obtain⟨v,z⟩:=I.cell x c e
  exact⟨v,cellK x c e v z⟩
 ·obtain⟨e,n,ne,nf,d⟩:=I.pin p hp
  exact⟨keep p.1 p.2 (I.nofrs ne nf) (λz=>(hch _ z).pin p hp rfl) e,n,ne,nf,d⟩
 ·refine(I.hok b u e).stay (λc v hc q=>keep c v (λz=>?_) (λz=>?_) q) (λ_ q=>q) λ_ _ q=>q
  ·have n:=I.stkFree c z
   rcases hc with rfl|hc
   ·rw[n]at e;cases e
   ·rw[n]at hc;cases hc
  ·have n:=(hch c z).fr
   rcases hc with rfl|hc
   ·rw[n]at e;cases e
   ·rw[n]at hc;cases hc
noncomputable def Fl(ap:Addr->Prop)(C a:Addr)(fl:Xc)(h:Heap):Prop:=∃a0 oe vs T oT ts,h.get? a=some oe∧(oe.cls= .ref C∧vs[0]? =some a0)∧oe.data= .fields vs∧vs[1]? =some (.ref T)∧T≠a∧h.get? T=some oT∧oT.data= .fields ts∧ts[3]? =some fl∧ap a∧ap T
noncomputable def Fl0(ap:Addr->Prop)(C a:Addr)(h:Heap):Prop:=∃a0 oe vs,h.get? a=some oe∧(oe.cls= .ref C∧vs[0]? =some a0)∧oe.data= .fields vs∧vs[1]? =some .none∧ap a
noncomputable def FlA(ap:Addr->Prop)(fl:Xc)(C a:Addr)(h:Heap):Prop:=Fl ap C a .none h∨Fl0 ap C a h∨Fl ap C a fl h
theorem Fl.imp{ap ap':Addr->Prop}{fl:Xc}{h:Heap}(f:∀b,ap b->ap' b)(x:Fl ap C a fl h):Fl ap' C a fl h:=by
 obtain⟨a0,oe,vs,T,oT,ts,h1,h2,h3,h4,h5,h6,h7,h8,h9,h10⟩:=x
 exact⟨a0,oe,vs,T,oT,ts,h1,h2,h3,h4,h5,h6,h7,h8,f _ h9,f _ h10⟩
section
variable {M:Model}{A:Qn}{E:Xc->Xf->Prop}{Q:Unit->Xf->Prop}{ch:List Addr}
theorem Inv.hidFrames(I:Inv X pins σ H s):s.heap.FunFrames (Bb s.heap (frs X.stack ++ ch)) X.stack :=
 PySem.W.funFrames_hide I.stack λenv he b hb=>X7 _ (U8.mpr ⟨env,he,hb⟩)
theorem Inv.flyTo(I:Inv X pins σ H s)(hch:∀b∈ch,UJ X pins H b)(k1:(Bb s.heap (frs X.stack ++ ch)).StaysIn h')(k4:∀b o,s.heap.get? b=some o->(∀vs,o.data≠ .fields vs)->∃sl,h'.get? b=some { o with slots:=sl }) :
  Inv X pins σ H { s with heap:=h' } :=
 I.flown (t':=s.toks) hch (λb o hf hc e=>k1 b o (PySem.W.hideAll_get _ e λz=>(Qc.mp z).elim hf hc)) λb o hb e=>by
  obtain⟨_,o',ho',hd⟩:=I.stack.mem hb
  rw[e]at ho';cases ho'
  exact k4 b o e hd
theorem Inv.flyT(I:Inv X pins σ H s)(hex:X.ex=[])(hch:∀b∈ch,UJ X pins H b){T:Addr}{oT:Obj}{ts:Array Xc}(k4:∀b o,s.heap.get? b=some o->(∀vs,o.data≠ .fields vs)->∃sl,h'.get? b=some { o with slots:=sl })
  (hT:(Bb s.heap (frs X.stack ++ ch)).get? T=none) (h1:h'.get? T=some oT) (h2:oT.data= .fields ts):UJ X pins H T:=by
 by_cases hc:T∈ch
 ·exact hch T hc
 by_cases hf:T∈frs X.stack
 ·obtain⟨_,o',ho',hd⟩:=I.stack.mem hf
  obtain⟨sl,e⟩:=k4 T o' ho' hd
  rw[h1]at e
  cases e
  exact absurd h2 (hd ts)
 have hn:s.heap.get? T=none:=by
  cases q:s.heap.get? T with
  | none=>rfl
  | some o=>
   have:=PySem.W.hideAll_get (frs X.stack ++ ch) q λz=>(Qc.mp z).elim hf hc
   rw[hT]at this;cases this
 exact I.apart hex hn (I.unheld hn)
theorem Zji(I:Inv X pins σ H s)(hex:X.ex=[])(hst:X.stack=X.env :: X.outer)(hf:X.env.frame=some X.env.locals)(hA:A.frames=some X.stack)(F:FlA (UJ X pins H) (JN X.env.locals) C a s.heap)
  (h:∀s',Inv X pins σ H s'->Fl (UJ X pins H) C a (JN X.env.locals) s'.heap->Q () s'):Xx M A (noteFrame (.ref a) X.env) Q E s:=by
 rcases F with F|F|F
 ·obtain⟨a0,oe,vs,T,oT,ts,eA,cA,dA,v1,nT,eT,dT,t3,pA,pT⟩:=F
  have hch:∀b∈[a,T],UJ X pins H b:=λb hb=>by
   rcases Xn.mp hb with rfl|hb
   ·exact pA
   ·rw[Xm.mp hb];exact pT
  have hen:(Bb s.heap (frs X.stack ++ [a,T])).get? a=none:=VF _ (Xy _ (.head _))
  have hTn:(Bb s.heap (frs X.stack ++ [a,T])).get? T=none:=VF _ (Xy _ (.tail _ (.head _)))
  have fr:=I.hidFrames (ch:=[a,T])
  refine wpAny_noteFrame_onW (base:=Bb s.heap (frs X.stack ++ [a,T])) (outer:=X.outer) (hA.trans (by rw[hst])) (hst▸fr) hf ⟨oe,vs,T,oT,ts,eA,cA,dA,v1,hTn,nT,eT,dT,t3⟩ (λb o e=>UV _ e) hen λh' hN=>?_
  obtain⟨k1,_,⟨oe',vs',T',oT',ts',e1,e2,e3,e4,e5,e6,e7,e8,e9⟩,k4⟩:=hN
  exact h _ (I.flyTo hch k1 k4) ⟨a0,oe',vs',T',oT',ts',e1,e2,e3,e4,e6,e7,e8,e9,pA,I.flyT hex hch k4 e5 e7 e8⟩
 ·obtain⟨a0,oe,vs,eA,cA,dA,v1,pA⟩:=F
  have hch:∀b∈[a],UJ X pins H b:=λb hb=>by rw[Xm.mp hb];exact pA
  have hen:(Bb s.heap (frs X.stack ++ [a])).get? a=none:=VF _ (Xy _ (.head _))
  have fr:=I.hidFrames (ch:=[a])
  unfold noteFrame
  simp only[hf]
  refine Xb (JR eA dA v1 ?_)
  rw[if_neg (by decide)]
  refine wpAny_entryW (base:=Bb s.heap (frs X.stack ++ [a])) (outer:=X.outer) (hA.trans (by rw[hst])) (hst▸fr) hf eA (λb o e=>UV _ e) hen dA (Vd.mp v1).1 cA.2 λh' hN=>?_
  obtain⟨k1,_,⟨oe',vs',T',oT',ts',e1,e2,e3,e4,e5,e6,e7,e8,e9⟩,k4⟩:=hN
  exact h _ (I.flyTo hch k1 k4) ⟨a0,oe',vs',T',oT',ts',e1,⟨e2.1.trans cA.1,e2.2⟩,e3,e4,e6,e7,e8,e9,pA,I.flyT hex hch k4 e5 e7 e8⟩
 ·have F':=F
  obtain⟨a0,oe,vs,T,oT,ts,eA,cA,dA,v1,nT,eT,dT,t3,pA,pT⟩:=F
  unfold noteFrame
  simp only[hf]
  refine Xb (JR eA dA v1 ?_)
  rw[if_pos (by rfl)]
  refine Xb (JR eT dT t3 ?_)
  rw[if_pos (by simp)]
  exact Xk (h s I F')
theorem Zpn(I:Inv X pins σ H s)(hex:X.ex=[]){fl:Xc}(F:Fl (UJ X pins H) C a fl s.heap)
  (h:∀s',Inv X pins σ H s'->Fl (UJ X pins H) C a .none s'.heap->Q () s'):Xx M A (setFlight (.ref a) none) Q E s:=by
 obtain⟨a0,oe,vs,T,oT,ts,eA,cA,dA,v1,nT,eT,dT,t3,pA,pT⟩:=F
 have hch:∀b∈[a,T],UJ X pins H b:=λb hb=>by
  rcases Xn.mp hb with rfl|hb
  ·exact pA
  ·rw[Xm.mp hb];exact pT
 have hTn:(Bb s.heap (frs X.stack ++ [a,T])).get? T=none:=VF _ (Xy _ (.tail _ (.head _)))
 refine wpAny_setFlight_noneW (base:=Bb s.heap (frs X.stack ++ [a,T])) (l:=X.stack) (λb o e=>UV _ e) I.hidFrames ⟨oe,vs,T,oT,ts,eA,cA,dA,v1,hTn,nT,eT,dT,t3⟩ λh' k1 _ k3 k4'=>?_
 have k4:∀b o,s.heap.get? b=some o->(∀vs,o.data≠ .fields vs)->∃sl,h'.get? b=some { o with slots:=sl }:=λb o e n=>⟨o.slots,k4' b o e n⟩
 obtain⟨oe',vs',T',oT',ts',e1,e2,e3,e4,e5,e6,e7,e8,e9⟩:=k3
 exact h _ (I.flyTo hch k1 k4) ⟨a0,oe',vs',T',oT',ts',e1,e2,e3,e4,e6,e7,e8,e9,pA,I.flyT hex hch k4 e5 e7 e8⟩
theorem Zli(I:Inv X pins σ H s)(hex:X.ex=[])(hst:X.stack=X.env :: X.outer)(hf:X.env.frame=some X.env.locals)(hA:A.frames=some X.stack)(F:FlA (UJ X pins H) (JN X.env.locals) C a s.heap)
  (h:∀s',Inv X pins σ H s'->Fl (UJ X pins H) C a .none s'.heap->Q () s'):Xx M A (leaving X.env (.ref a)) Q E s:=by
 unfold leaving
 exact Xb (Zji I hex hst hf hA F λs1 I1 F1=>Zpn I1 hex F1 h)
end
end
noncomputable def Zvv(K:Xd)(C:Addr):Prop:=PySem.W.excIn K C [.type "ValueError",.type "Exception",.type "BaseException",.type "object"] "ValueError.__new__"=true
theorem Zxz{K:Xd}{h:Heap}{C:Addr}{bmB:List Xc}{newId:String}(X:K.In h)(q:PySem.W.excIn K C bmB newId=true) :
  ∃bm N nm qn bs hdct sn sub ab col dd k0 k1 k2 k3 k5 mN,h.get? C=some (excClassObj nm qn C N bs bm hdct sn sub ab col dd k0 k1 k2 k3 k5 newId)∧h.Ns N mN∧mN "__init__"=none∧OwnTail h bmB bm:=by
 unfold PySem.W.excIn at q
 split at q
 case h_2=>cases q
 rename_i dd cd sl ho
 split at q
 case h_2=>cases q
 rename_i C' bm k0 k1 k2 k3 n k5 hm hs
 simp only[XN,beq_iff_eq,Bool.not_eq_true']at q
 obtain⟨⟨⟨⟨⟨rfl,rfl⟩,e1⟩,e2⟩,e3⟩,e4⟩:=q
 obtain⟨nm,bs,mro,ns,qn,hd,sn,sub,ab,col,del⟩:=cd
 dsimp only at hm e1 e3 e4
 subst hm e1
 obtain⟨l⟩:=sl
 have e5:l=[k0,k1,k2,k3,some (.builtin n),k5]:=hs
 subst e5
 exact⟨bm,ns,nm,qn,bs,hd,sn,sub,ab,col,dd,k0,k1,k2,k3,k5,_,X _ _ ho,.of_isNs (PySem.W.isNs_of_in X e3),PySem.W.nsMap_none_of_in X e3 e4,PySem.W.tail_of_in X e2⟩
noncomputable abbrev MXt:=Zd->(Addr->Zd->Prop)->Prop
noncomputable def XW(X:Cx)(C:MC X.K)(io:List Nat)(pins:List (Addr×Obj))(ex:Addr->Prop)(H:Hp)(fp:Fp)(k:Addr->Zd->Prop)(e:Xc)(s':Xf):Prop :=
 ∃a cl σ' H' δ' fp',e= .ref a∧Inv X pins σ' H' s'∧FlA (UJ X pins H') (JN X.env.locals) cl a s'.heap∧Rel C io H' σ' δ' fp' ex∧Kp H fp H' fp'∧k cl δ'
noncomputable def XE(X:Cx)(io:List Nat)(e:Expr)(m:MXt):Prop:=∀(C:MC X.K) (pins:List (Addr×Obj)) (s:Xf) (σ:St) (H:Hp) (δ:Zd) (fp:Fp) (ex:Addr->Prop) (k:Addr->Zd->Prop),Inv X pins σ H s->Rel C io H σ δ fp ex->m δ k ->
 Xx (X5 X.prog X.w) X.A (eval e X.env) (λ_ _=>False) (XW X C io pins ex H fp k) s
noncomputable def XS(X:Cx)(io:List Nat)(st:Stmt)(m:MXt):Prop:=∀(C:MC X.K) (pins:List (Addr×Obj)) (s:Xf) (σ:St) (H:Hp) (δ:Zd) (fp:Fp) (ex:Addr->Prop) (k:Addr->Zd->Prop),Inv X pins σ H s->Rel C io H σ δ fp ex->m δ k ->
 Xx (X5 X.prog X.w) X.A (exec st X.env) (λ_ _=>False) (XW X C io pins ex H fp k) s
noncomputable def XSs(X:Cx)(io:List Nat)(sts:List Stmt)(m:MXt):Prop:=∀(C:MC X.K) (pins:List (Addr×Obj)) (s:Xf) (σ:St) (H:Hp) (δ:Zd) (fp:Fp) (ex:Addr->Prop) (k:Addr->Zd->Prop),Inv X pins σ H s->Rel C io H σ δ fp ex->m δ k ->
 Xx (X5 X.prog X.w) X.A (execs sts X.env) (λ_ _=>False) (XW X C io pins ex H fp k) s
theorem XW.shift{X:Cx}{C:MC X.K}{io:List Nat}{pins:List (Addr×Obj)}{ex:Addr->Prop}{H H1:Hp}{fp fp1:Fp}{k:Addr->Zd->Prop}{e:Xc}{s:Xf}(q:Kp H fp H1 fp1)(h:XW X C io pins ex H1 fp1 k e s):XW X C io pins ex H fp k e s:=by
 obtain⟨a,cl,σ',H',δ',fp',e,I,F,R,K,hk⟩:=h
 exact⟨a,cl,σ',H',δ',fp',e,I,F,R,q.trans K,hk⟩
noncomputable def Zl4:MXt:=λ_ _=>False
noncomputable def Z5l(u:MSt)(w:MXt):MXt:=λδ k=>u { nx:=λδ'=>w δ' k,rt:=λ_ _=>False } δ
noncomputable def Z9q(t:MTt)(u w:MXt):MXt:=λδ k=>t δ λb δ'=>if b=true then u δ' k else w δ' k
noncomputable def Zoq(cl:Addr):MXt:=λδ k=>k cl δ
section
variable {X:Cx}{io:List Nat}{p c:Bool}{e:Expr}{es:List Expr}{mr:MAt}{m:MXt}{pos:Pos}{st:Stmt}{sts a b:List Stmt}{u:MSt}{w v:MXt}{mt:MTt}{i:Nat}{x:Str}
theorem Zn0:XSs X io sts Zl4:=λ_ _ _ _ _ _ _ _ _ _ _ h=>h.elim
theorem Zra:XS X io st Zl4:=λ_ _ _ _ _ _ _ _ _ _ _ h=>h.elim
theorem Zi5(h:XS X io st w):XSs X io (st :: sts) w:=λC pins s σ H δ fp ex k I R hm=>wpAny_execs_cons (thn (h C pins s σ H δ fp ex k I R hm) λ_ _ z=>z.elim)
theorem Zq2(h:MS X io st u)(g:XSs X io sts w)(hx:X.xe= λ_ _=>False:=by rfl):XSs X io (st :: sts) (Z5l u w):=by
 obtain⟨t,A,sS⟩:=h
 intro C pins s σ H δ fp ex k I R hm
 refine wpAny_execs_cons (QC (A pins s σ H { nx:=λσ1 H1=>∃δ1 fp1,Rel C io H1 σ1 δ1 fp1 ex∧Kp H fp H1 fp1∧w δ1 k,rt:=λ_ _=>False } I
  (sS C H σ δ fp ex _ _ R hm ⟨λH' σ' δ' fp' R' k' h'=>⟨δ',fp',R',k',h'⟩,λ_ _ _ _ _ _ z=>z.elim,λ_ _ _ _ _ _ z=>z.elim,λ_ _ _ _ _ _ _ _ _ _ _ z=>z.elim⟩)) (λf s1 q=>?_) λe s1 q=>by rw[hx]at q;exact q.elim)
 cases f with
 | next=>
  obtain⟨σ1,H1,I1,δ1,fp1,R1,k1,h1⟩:=q
  exact QC (g C pins s1 σ1 H1 δ1 fp1 ex k I1 R1 h1) (λ_ _ z=>z) λe s2 z=>z.shift k1
 | ret v=>obtain⟨_,_,_,_,_,z⟩:=q;exact z.elim
 | brk=>obtain⟨_,_,_,z⟩:=q;exact z.elim
 | cont=>obtain⟨_,_,_,z⟩:=q;exact z.elim
theorem Zp0(ht:MT X io p e mt)(ha:XSs X io a w)(hb:XSs X io b v)(hx:X.xe= λ_ _=>False:=by rfl):XS X io (.If e a b pos) (Z9q mt w v):=by
 obtain⟨t,A,sT⟩:=ht
 intro C pins s σ H δ fp ex k I R hm
 refine wpAny_If (QC (A pins s σ H (λr H1=>∃δ1 fp1,Rel C io H1 σ δ1 fp1 ex∧Kp H fp H1 fp1∧if r=true then w δ1 k else v δ1 k) I
  (sT C H σ δ fp ex _ _ R hm λH' r δ' fp' R' S' h'=>⟨δ',fp',R',S'.kp,h'⟩)) (λr s1 q=>?_) λe s1 q=>by rw[hx]at q;exact q.elim)
 obtain⟨H1,I1,δ1,fp1,R1,k1,h1⟩:=q
 cases r with
 | true=>exact QC (ha C pins s1 σ H1 δ1 fp1 ex k I1 R1 h1) (λ_ _ z=>z) λe s2 z=>z.shift k1
 | false=>exact QC (hb C pins s1 σ H1 δ1 fp1 ex k I1 R1 h1) (λ_ _ z=>z) λe s2 z=>z.shift k1
theorem Zu3(he:XE X io e m)(hs:Bx e none pos.line X.env=pure false:=by rfl):XS X io (.Expr e pos) m:=λC pins s σ H δ fp ex k I R hm=>
 wpAny_Expr_any (thn (he C pins s σ H δ fp ex k I R hm) λ_ _ z=>z.elim) I.quiet hs
theorem Zc0{C:Addr}{x j:Str}{jk:Nat}{np cpos pos kp:Pos}(hex:X.ex=[])(hh:X.A.handled=none)(hg:Gl X x)(hm:X.mg x=some (.ref C))(q:Zvv X.K C)(hd:(x==("__debug__" : Str))=false:=by decide) :
  XS X io (.Raise (some (.Call (.Name x np) [.Constant (.str j) jk kp] [] cpos)) none pos) (Zoq C):=by
 intro M pins s σ H δ fp ex k I R hk
 obtain⟨tl,N,nm,qn,bs,hdct,sn,sub,ab,col,dd,k0,k1,k2,k3,k5,mN,hC,hN,hni,TL⟩:=Zxz I.ok.mod.kin q
 refine wpAny_Raise_call_subT (C:=C) (nm:=nm) (q:=qn) (N:=N) (bs:=bs) (bm:=tl) (hdct:=hdct) (sn:=sn) (sub:=sub) (ab:=ab) (col:=col) (dd:=dd) (k0:=k0) (k1:=k1) (k2:=k2) (k3:=k3) (k5:=k5)
  PySem.F.excBase_ValueError (mN:=mN) (TL.hasType PySem.F.excBase_ValueError.hasBase) hh rfl hni (Zfw I hg hm ⟨rfl,?_⟩ hd)
 refine Calls.evalArgs_plain ?_
 refine Calls.spliced_cons ?_
 show Xx _ _ (eval (.Constant (.str j) jk kp) X.env) _ _ _
 refine Calls.Constant_str ?_
 refine Calls.spliced_nil ?_
 have I1:=I.tok (s.toks+1)
 refine⟨rfl,by show 1≤Xr;decide,I1.bk _ _ hC,hN.keeps I1.bk,TL.keeps I1.bk,λh' e hx=>?_⟩
 obtain⟨t,e1,_,_⟩:=hx.there
 have I2:=I1.kept (t':=s.toks+1) hx.keeps
 exact⟨e,C,σ,H,δ,fp,rfl,I2,.inr (.inl ⟨_,_,_,e1,⟨rfl,rfl⟩,rfl,rfl,I1.apart hex hx.new (I1.unheld hx.new)⟩),R,.refl _ _,hk⟩
end
noncomputable def CX1(P:X4)(w:Qm):CXT:=λouter H s E e s'=>∃a C H',e= .ref a∧s'.os=s.os∧AllBare s'.gens∧Un (frs outer) [] H H' s.heap s'.heap∧HOk P w H' s'.heap∧Fl (λb=>H' b=none∧s.heap.get? b=none) C a .none s'.heap∧E (.ref C) none H'
noncomputable def spX(G:Xd)(S:List Xa->Addr->Prop):Sp:=λvs H Q E=>∃L ds cl,Das G H L vs ds∧S ds cl∧∀H',Same H H'->E (.ref cl) none H'
section
variable {P:X4}{w:Qm}{K:Xd}{mg:Str->Option Xc}{base:Heap}
theorem Fun.okX{x qual:Str}{st:Stmt}{f:Addr}{fd:QD}{N ps:List Str}{n:Nat}{S:List Xa->Addr->Prop}(F:Fun K x qual st f fd)(Sc:Yc N ps (Zg st))(len:∀ds cl,S ds cl->ds.length=ps.length)
  (hbody:∀(cdv:Xc) (A:Qn) (outer:List Env) (s:Xf) (H:Hp) (E:XK),Room n (A.deeper (envOfC qual (Zg st) s.heap.objs.size f cdv)) ->
   ∃m,XSs (Zpe (CX1 P w) P w K mg base N qual (Zg st) f cdv A outer s H E).nox [] (Zx st) m∧∀ds cl,S ds cl->m (Ze1 N ds) (λc _=>c=cl)):FnOk P w K mg base (CX1 P w) (n+1) f fd ps (spX K S):=by
 obtain⟨oc,od,kV,doc,pm,an,cdv,ct,osl,rfl,lk,hcd⟩:=F.ex
 refine Zzo lk hcd Sc (λvs H Q E h=>?_) λA outer s H vs Q E hr hsp=>?_
 ·obtain⟨L,ds,cl,h1,h2,_⟩:=h
  rw[h1.length]
  exact len ds cl h2
 obtain⟨L,ds,cl,h1,h2,h3⟩:=hsp
 obtain⟨m,hX,q⟩:=hbody cdv A outer s H E hr
 refine⟨λ_ σ' H'=>σ'=start N vs∧H'=H,λpins s1 σ1 H1 D I e=>?_,rfl,rfl⟩
 obtain⟨rfl,rfl⟩:=e
 refine QC (hX ⟨H1,λ_=>False,L,start N vs⟩ pins s1 _ _ _ _ _ (λc _=>c=cl) (I.wish _) (Rel.entry h1) (q ds cl h2)) (λ_ _ z=>z.elim) λe s' z=>?_
 obtain⟨a,cl',σ',H',δ',fp',rfl,I',F',R',K',rfl⟩:=z
 exact Zli I' rfl rfl rfl I'.ok.frames F' λs'' J FF=>⟨a,cl',H',rfl,J.os,J.bare,J.base,J.hok,FF.imp λb ap=>⟨ap.fr,ap.new⟩,h3 H' λb o e=>R'.fr b o e id⟩
end
theorem Rel.grown{G:Xd}{C:MC G}{io:List Nat}{H H':Hp}{σ:St}{δ:Zd}{fp:Fp}{ex:Addr->Prop}(R:Rel C io H σ δ fp ex)(s:Same H H'):Rel C io H' σ δ fp ex :=
 (R.made (new:=[]) s (λa m=>nomatch m)).drop λa z=>.inl z
noncomputable def Ztf(S:List Xa->Addr->Prop)(mr:MAt):MXt:=λδ k=>mr δ λrs δ1=>∃cl,S (OT.datas rs) cl∧k cl δ1
section
variable {X:Cx}{io:List Nat}{p c:Bool}{e:Expr}{es:List Expr}{mr:MAt}{pos pp:Pos}{k:Nat}{f:Addr}{fd:QD}{ps:List Str}{x:Str}
theorem Zw6{S}(F:FnOk X.prog X.w X.K X.mg X.base (CX1 X.prog X.w) k f fd ps (spX X.K S))(hr:Room k X.A)(hg:Gl X x)(hm:X.mg x=some (.ref f))(hk:Qu X.K (.ref f)=true)(hb:Binds X.K fd ps [])
  (ha:MA X io p c (e :: es) mr) (hex:X.ex=[]:=by rfl) (hx:X.xe= λ_ _=>False:=by rfl) (hdb:(x==("__debug__" : Str))=false:=by decide) (he:Xv (e :: es) X.env=(false,eval e X.env) :: Xv es X.env:=by rfl) (hpl:(Bf pos (Xv es X.env)).any (·.1)=false:=by rfl) :
  XE X io (.Call (.Name x pp) (e :: es) [] pos) (Ztf S mr):=by
 obtain⟨t,A,sA⟩:=ha
 intro C pins s σ H δ fp ex kk I R hm'
 refine Vk (Zfw I hg hm ?_ hdb)
 refine PySem.W.callWith_K (h₀:=X.base) I.ok.mod.kin hk (QC (A pos pins s σ H (λvs H1=>∃δ1 fp1 L ds cl,Rel C io H1 σ δ1 fp1 ex∧Kp H fp H1 fp1∧Das X.K H1 L vs ds∧S ds cl∧kk cl δ1) I
  (sA C H σ δ fp ex _ _ R hm' λH1 vs rs δ1 fp1 new r1 h1=>let⟨cl,h2,h3⟩:=h1;⟨δ1,fp1,_,_,cl,r1.base,r1.stp.kp,r1.das R,h2,h3⟩)) (λus s1 ⟨vs,H1,I1,r,q⟩=>⟨I1.kIn,?_⟩) λe s1 z=>by rw[hx]at z;exact z.elim) he hpl
 obtain⟨δ1,fp1,L,ds,cl,R1,k1,hd,hS,hkk⟩:=q
 have hsp:spX X.K S vs H1 (λ_ _=>False) (λc _ H'=>c= .ref cl∧Same H1 H'):=⟨L,ds,cl,hd,hS,λH' s=>⟨rfl,s⟩⟩
 have hl:(us ++ []).length=ps.length:=by rw[Qt,←r.length];exact F.len _ _ _ _ hsp
 have hB:=hb s1 us I1.kIn hl
 rw[Qt]at hB
 refine wpAny_call (codeAny_mono (F.run X.A X.stack s1 H1 ⟨us,[]⟩ us vs _ _ hr I1.env0 hB r hsp) λres s' hq=>?_)
 cases res with
 | error e=>
  obtain⟨a,C',H',rfl,ho,bare,un,hok,FF,eC,same⟩:=hq
  cases eC
  have J:=I1.call' (ch:=[]) ho un hok bare λb z=>nomatch z
  exact⟨a,cl,σ,H',δ1,fp1,rfl,J,.inl (FF.imp λb z=>I1.apart hex z.2 z.1),R1.grown same,k1.trans (Stp.same same same.al),hkk⟩
 | ok fl=>
  cases fl with
  | ret u=>obtain⟨_,_,_,_,_,_,_,z⟩:=hq;exact z.elim
  | next=>exact Vc hq
  | brk=>exact Vc hq
  | cont=>exact Vc hq
end
section
variable {X:Cx}{pins:List (Addr×Obj)}{σ:St}{H:Hp}{s:Xf}{a C:Addr}
noncomputable abbrev Cx.suite(X:Cx)(a:Addr):Cx:={ X with A:=X.A.mark (some (.ref a)),calm:=false }
end
theorem Zs2(b:Bool)(k:Bool->Prop):asB (.bool b) k=k b:=rfl
inductive Z58:V->Xc->Prop where
 | own (D:Addr):Z58 (.ref D) (.ref D)
 | ty (T:String):Z58 (.ty T) (.type T)
inductive ClsVs:List V->List Xc->Prop where
 | nil:ClsVs [] []
 | cons {v:V} {c:Xc} {vs:List V} {cs:List Xc}:Z58 v c->ClsVs vs cs->ClsVs (v :: vs) (c :: cs)
theorem ClsVs.length:∀{vs:List V} {cs:List Xc},ClsVs vs cs->vs.length=cs.length
 | _,_,.nil=>rfl
 | _,_,.cons _ t=>by simp[t.length]
section
variable {X:Cx}{io:List Nat}{p c:Bool}{a b:Expr}{ma:MEt}{pos pp p2:Pos}
end
end L2
namespace L2
open PySem PySem.Spec PyProof.Rows PySem.P
section
variable {prog:X4}{w:Qm}{A:Qn}{E:Xc->Xf->Prop}{s:Xf}{e t0 C:Addr}{o:Obj}{vs:Array Xc}{K:Xd}{m:Str}{tk:Tok}
structure Ybl(s:Xf)(e C t0:Addr)(m:Str)(tk:Tok):Prop where
 ob:∃o vs,s.heap.get? e=some o∧o.cls= .ref C∧o.data= .fields vs∧vs[0]? =some (.ref t0)
 tx:s.heap.TupAt t0 [.str m tk]
end
section
variable {X:Cx}{C:Addr}{x j:Str}{jk:Nat}{np cpos pos kp p1:Pos}
end
end L2
namespace L2
open PySem PySem.Spec PyProof.Rows
variable {G:Xd}
theorem Rel.topN{io:List Nat}{C:MC G}{H:Hp}{σ:St}{δ:Zd}{fp:Fp}{ex:Addr->Prop}{i:Nat}{ts ts':List OT}{a':Addr}{xs ys:List V}{bs bs' new:List Addr}(R:Rel C io H σ δ fp (exu ex new))(hi:δ[i]? =some (some (.nd ts)))(hv:σ[i]? =some (some (.ref a')))
  (hf:fp i=a' :: bs) (hx:H a'=some (.lst xs)) (o:Owns G H (Lf C fp (exu ex new)) ys ts' bs') (hs:∀a∈bs',a∈bs∨a∈new) (ndb:(a' :: bs').Nodup) (hn:∀a∈new,C.H₀ a=none∧¬ex a) :
  Rel C io (upd H a' (.lst ys)) σ (δ.set i (some (.nd ts'))) (fpu fp i (a' :: bs')) ex∧∀a,Foot (fpu fp i (a' :: bs')) a->Foot fp a∨a∈new:=by
 have hil:i<δ.length:=(Xi.mp hi).1
 have hm:a'∈fp i:=by rw[hf];exact .head _
 have kp:∀b o,H b=some o->b≠a'->upd H a' (.lst ys) b=some o:=λb o e n=>by rw[Zi n];exact e
 have mem:∀a,a∈a' :: bs'->a∈fp i∨a∈new:=λa m=>by
  rw[hf]
  rcases Xn.mp m with rfl|m
  ·exact .inl (.head _)
  ·exact(hs a m).imp (λz=>.tail _ z) id
 have sub:∀a,Foot (fpu fp i (a' :: bs')) a->Foot fp a∨a∈new:=λa z=>by
  rcases z.of_u with z|⟨j,_,z⟩
  ·exact(mem a z).imp (λz=>⟨i,z⟩) id
  ·exact .inl ⟨j,z⟩
 have lw:∀a,Lf C fp (exu ex new) a->Lf C (fpu fp i (a' :: bs')) ex a:=λa l=>⟨λz=>(sub a z).elim l.1 λz=>l.2.1 (.inr z),λz=>l.2.1 (.inl z),l.2.2⟩
 have f1:∀a (zs:MuO),Lf C fp (exu ex new) a->Rd H a zs.ho->Lf C (fpu fp i (a' :: bs')) ex a∧Rd (upd H a' (.lst ys)) a zs.ho:=λa zs l q=>by
  have na:a≠a':=λz=>l.1 ⟨i,by rw[z];exact hm⟩
  refine⟨lw a l,?_⟩
  rcases q with q|⟨u,q⟩
  ·exact .inl (kp a _ q na)
  ·exact .inr ⟨u,kp a _ q na⟩
 have f2:∀a (zs:ImO),H a=some zs.ho->upd H a' (.lst ys) a=some zs.ho:=λa zs q=>kp a _ q λz=>ImO.nl q (z▸hx)
 have hn':=Qk.mp ndb
 refine⟨⟨by rw[Vl];exact R.len,λj t' e=>?_,λj h=>?_,λj=>?_,λj k a h1 h2=>?_,λj a h z=>?_,λa z=>?_,λb ob e nb=>?_,λb e=>?_,λj a h=>?_,R.io⟩,sub⟩
 ·by_cases ej:j=i
  ·subst ej
   rw[QR hil]at e
   cases e
   exact⟨_,hv,by rw[Zn];exact .nd Zm (o.frame f1 f2 λa m zs q=>kp a _ q λz=>hn'.1 (z▸m))⟩
  ·rw[Qz (BL ej)]at e
   obtain⟨w,e1,o1⟩:=R.own j t' e
   exact⟨w,e1,by rw[Zy ej];exact o1.frame f1 f2 λa m zs q=>kp a _ q λz=>ej (R.dj j i a m (z▸hm))⟩
 ·by_cases ej:j=i
  ·subst ej;exact absurd (QR hil) (h _)
  ·rw[Zy ej]
   exact R.emp j λt' z=>h t' (by rw[Qz (BL ej)];exact z)
 ·by_cases ej:j=i
  ·subst ej;rw[Zn];exact ndb
  ·rw[Zy ej];exact R.nd j
 ·have one:∀k,k≠i->a∈a' :: bs'->a∈fp k->False:=λk ek m1 m2=>by
   rcases mem a m1 with z|z
   ·exact ek (R.dj k i a m2 z)
   ·exact R.dx k a m2 (.inr z)
  by_cases ej:j=i
  ·by_cases ek:k=i
   ·rw[ej,ek]
   ·rw[ej,Zn]at h1
    rw[Zy ek]at h2
    exact(one k ek h1 h2).elim
  ·rw[Zy ej]at h1
   by_cases ek:k=i
   ·rw[ek,Zn]at h2
    exact(one j ej h2 h1).elim
   ·rw[Zy ek]at h2
    exact R.dj j k a h1 h2
 ·by_cases ej:j=i
  ·rw[ej,Zn]at h
   rcases mem a h with m|m
   ·exact R.dx i a m (.inl z)
   ·exact(hn a m).2 z
  ·rw[Zy ej]at h
   exact R.dx j a h (.inl z)
 ·by_cases e:a=a'
  ·subst e;rw[Zm];intro q;cases q
  ·rw[Zi e];exact R.xa a (.inl z)
 ·refine kp b ob (R.fr b ob e nb) λz=>?_
  rcases R.new i a' hm with y|y
  ·exact nb (z▸y.2)
  ·rw[z,y]at e;cases e
 ·refine R.al b ?_
  by_cases q:b=a'
  ·subst q;rw[Zm]at e;cases e
  ·rwa[Zi q]at e
 ·by_cases ej:j=i
  ·rw[ej,Zn]at h
   rcases mem a h with m|m
   ·rw[ej];exact R.new i a m
   ·exact .inr (hn a m).1
  ·rw[Zy ej]at h
   exact R.new j a h
noncomputable def Zcy(i:Nat)(m:MEt):MSt:=λD δ=>match δ[i]? with
 | some (some (.nd _))=>m δ λr δ1=>match δ1[i]? with
  | some (some (.nd ts))=>ts.length<Xr∧D.nx (δ1.set i (some (.nd (ts ++ [r]))))
  | _=>False
 | _=>False
section
variable {X:Cx}{io:List Nat}{p c:Bool}{e:Expr}{m:MEt}{pos apos cpos px:Pos}{i:Nat}{x:Str}
theorem Ze9(i:Nat)(he:ME X io p true e m)(hN:X.N[i]? =some x:=by rfl)(hv:Vis X.env.scope x:=by first|exact QF rfl|exact Qp (QF rfl)|exact Qp (Qp rfl))(hd:(x==("__debug__" : Str))=false:=by decide)
  (hcd:(x==("__classdict__" : Str))=false:=by decide)
  (hbase:Vh (.Name x px) "append" X.env (eval (.Name x px) X.env)=eval (.Name x px) X.env:=by rfl)
  (hfew:((Bf cpos (Xv [e] X.env)).all (λx=>!x.1)&&(backToKw cpos (U5 [] X.env)).all (λx=>x.1.isSome)
   &&decide ([e].length+([]:List V7).length+(if([]:List V7).isEmpty then 0 else 1)<30))=true:=by rfl)
  (hline:(apos.endLine==cpos.line)=true:=by rfl) (hs:Xv [e] X.env=(false,eval e X.env) :: Xv [] X.env:=by rfl) (hplain:(Bf cpos (Xv [] X.env)).any (·.1)=false:=by rfl)
  (hsw:Bx (.Call (.Attribute (.Name x px) "append" apos) [e] [] cpos) none pos.line X.env=pure false:=by rfl) :
  MS X io (.Expr (.Call (.Attribute (.Name x px) "append" apos) [e] [] cpos) pos) (Zcy i m):=by
 obtain⟨_,A,s⟩:=he
 refine⟨_,Zbq (Zqd Bv PySem.F.slot_list_append PySem.F.type_list_append Za6 (pv i hN hv hd hcd) (Zac A Zdi hs) hbase hfew hline hs hplain) hsw,λC H σ δ fp ex D D' R h E=>?_⟩
 unfold Zcy at h
 split at h
 case h_2=>exact h.elim
 rename_i ts0 hi0
 obtain⟨a',xs0,bs0,hv0,hx0,_,_⟩:=R.ownNd hi0
 refine⟨_,hv0,.inl ⟨rfl,xs0,.inl (.inl hx0)⟩,?_⟩
 refine s C H σ δ fp ex _ _ R h λH1 v r δ1 fp1 new r1 h1=>?_
 split at h1
 case h_2=>exact h1.elim
 rename_i ts1 hi1
 have R1:=r1.rel
 obtain⟨a1,xs1,bs1,hv1,hx1,o1,hf1⟩:=R1.ownNd hi1
 rw[hv0]at hv1
 cases hv1
 refine⟨a',xs1,v,rfl,rfl,hx1,by rw[o1.length];exact h1.1,?_⟩
 have ow:Own X.K H1 (Lf C fp1 (exu ex new)) v r new:=r1.own.wide λa l _=>l rfl
 have o2:=o1.snoc ow
 have nd1:=R1.nd i
 rw[hf1]at nd1
 have hn1:=Qk.mp nd1
 have hm1:∀a,a∈a' :: bs1->a∈fp1 i:=λa m=>by rw[hf1];exact m
 have apart:∀a,a∈new->a∉a' :: bs1:=λa m z=>R1.dx i a (hm1 a z) (.inr m)
 obtain⟨R2,sub⟩:=R1.topN hi1 hv0 hf1 hx1 o2 (λa m=>Qc.mp m) (Qk.mpr ⟨λm=>by
   rcases Qc.mp m with z|z
   ·exact hn1.1 z
   ·exact apart a' z (.head _),Vn.mpr ⟨hn1.2,r1.nd,λa m b m' z=>apart b m' (by rw[←z];exact .tail _ m)⟩⟩) λa m=>⟨(R.newOk (r1.fresh a m)).2.2,(R.newOk (r1.fresh a m)).2.1⟩
 refine E.nx _ σ _ _ R2 ⟨λb o eb q=>?_,λz=>(nomatch z),λa z=>?_,λb eb=>?_⟩ h1.2
 ·have q':=q.resolve_left (by decide)
  rw[Zi]
  ·exact r1.stp.keep b o eb (.inr q')
  ·rintro rfl
   rcases r1.stp.grow b ⟨i,hm1 b (.head _)⟩with z|z
   ·exact q' z
   ·rw[eb]at z;cases z
 ·rcases sub a z with z|z
  ·exact r1.stp.grow a z
  ·exact .inr (r1.fresh a z)
 ·refine r1.stp.al b ?_
  by_cases q:b=a'
  ·subst q;rw[Zm]at eb;cases eb
  ·rwa[Zi q]at eb
end
section
variable {X:Cx}{pins:List (Addr×Obj)}{σ:St}{H:Hp}{s:Xf}{M:Model}{A:Qn}{E:Xc->Xf->Prop}{Q:Unit->Xf->Prop}{C a L:Addr}{fl:Xc}
theorem Zr6(I:Inv X pins σ H s)(F:Fl (UJ X pins H) C a fl s.heap)
  (h:∀s',Inv X pins σ H s'->Fl (UJ X pins H) C a (JN L) s'.heap->Q () s'):Xx M A (setFlight (.ref a) (some L)) Q E s:=by
 obtain⟨a0,oe,vs,T,oT,ts,eA,cA,dA,v1,nT,eT,dT,t3,pA,pT⟩:=F
 have hsz:3<ts.size:=(Vd.mp t3).1
 unfold setFlight
 refine Xb (JR eA dA v1 ?_)
 rw[if_pos (show(Xu T !=QK)=true from by simp)]
 refine wpAny_setField eT dT hsz ?_
 have hm:Obj.mapFields (λz=>z.setIfInBounds 3 ((some L:Option Addr).elim QK λf=>JN f)) oT={ oT with data:=.fields (ts.setIfInBounds 3 (JN L)) }:=by
  obtain⟨c1,c2,c3,c4⟩:=oT
  have dT':c3= .fields ts:=dT
  subst dT'
  rfl
 have self:=Uo (Obj.mapFields (λz=>z.setIfInBounds 3 ((some L:Option Addr).elim QK λf=>JN f))) eT (by rw[hm];rfl)
 have other:∀b o,b≠T->s.heap.get? b=some o->(s.heap.update T (Obj.mapFields (λz=>z.setIfInBounds 3 ((some L:Option Addr).elim QK λf=>JN f)))).get? b=some o:=λb o n e=>(Heap.get?_update_other _ _ (BL n)).trans e
 rw[hm]at self
 refine h _ (I.flown (t':=s.toks) (ch:=[T]) (λb hb=>by rw[Xm.mp hb];exact pT) (λb o hf hc e=>other b o (λz=>hc (by simp[z])) e) λb o hb e=>?_) ⟨a0,oe,vs,T,_,_,other a oe (BL nT) eA,cA,dA,v1,nT,self,rfl,?_,pA,pT⟩
 ·obtain⟨_,o',ho',hd⟩:=I.stack.mem hb
  have hbT:b≠T:=λz=>by
   subst z
   rw[eT]at ho'
   cases ho'
   exact hd ts dT
  exact⟨o.slots,other b o hbT e⟩
 ·simp[hsz]
theorem Zmk{Cm:MC X.K}{io:List Nat}{ex:Addr->Prop}{fp:Fp}{k:Addr->Zd->Prop}(hex:X.ex=[]:=by rfl)(hst:X.stack=X.env :: X.outer:=by rfl)(hf:X.env.frame=some X.env.locals:=by rfl) :
  PassesOwn (X5 X.prog X.w) X.A X.env (XW X Cm io pins ex H fp k):=by
 rintro e s' ⟨a,cl,σ',H',δ',fp',rfl,I,F,R,Kp,hk⟩
 refine Zji I hex hst hf I.ok.frames F λs1 I1 F1=>?_
 have F1':=F1
 obtain⟨a0,oe,vs,T,oT,ts,eA,cA,dA,v1,nT,eT,dT,t3,pA,pT⟩:=F1
 show Xx _ _ _ _ _ s1
 refine Xb (JR eA dA v1 ?_)
 rw[if_neg (by simp)]
 rw[hf]
 exact Zr6 I1 F1' λs2 I2 F2=>⟨a,cl,σ',H',δ',fp',rfl,I2,.inr (.inr F2),R,Kp,hk⟩
end
noncomputable def Z1b(ds:List Xa)(g:MGt)(u:MSt)(x:MXt)(δ:Zd)(k:Addr->Zd->Prop):Prop:=∃(I:Nat->Zd->Prop) (r:Nat),r<ds.length∧I 0 δ∧
 (∀ i d δ',i<r->ds[i]? =some d->I i δ'->g d δ' λδ2=>u { nx:=I (i+1),ct:=I (i+1),rt:=λ_ _=>False } δ2)∧∀d δ',ds[r]? =some d->I r δ'->g d δ' λδ2=>x δ2 k
noncomputable def Z1w(mi:MIt)(g:MGt)(u:MSt)(x:MXt):MXt:=λδ k=>mi δ λds δ1=>Z1b ds g u x δ1 k
section
variable {X:Cx}{io:List Nat}{p:Bool}{tg iter:Expr}{body:List Stmt}{mi:MIt}{g:MGt}{u:MSt}{x:MXt}{pos:Pos}
theorem XW.unpin{C:MC X.K}{pins more:List (Addr×Obj)}{ex:Addr->Prop}{H:Hp}{fp:Fp}{k:Addr->Zd->Prop}{e:Xc}{s:Xf}(h:XW X C io (pins ++ more) ex H fp k e s):XW X C io pins ex H fp k e s:=by
 obtain⟨a,cl,σ',H',δ',fp',rfl,I,F,R,K,hk⟩:=h
 have ap:∀b,UJ X (pins ++ more) H' b->UJ X pins H' b:=λb z=>⟨z.fr,z.new,z.loc,z.cel,λq hq=>z.pin q ((Qc.mp hq).elim (λm=>X7 _ m) λm=>Xy _ (X7 _ m))⟩
 refine⟨a,cl,σ',H',δ',fp',rfl,I.unpinned,?_,R,K,hk⟩
 rcases F with F|F|F
 ·exact .inl (F.imp ap)
 ·obtain⟨a0,oe,vs,eA,cA,dA,v1,pA⟩:=F
  exact .inr (.inl ⟨a0,oe,vs,eA,cA,dA,v1,ap _ pA⟩)
 ·exact .inr (.inr (F.imp ap))
theorem Zs5(hc:X.calm=true)(hi:MI X io p true tg iter mi)(hg:MG X io true tg g)(hb:MSs X io body u)(hbx:XSs X io body x)(hx:X.xe= λ_ _=>False:=by rfl)
  (hex:X.ex=[]:=by rfl) (hst:X.stack=X.env :: X.outer:=by rfl) (hf:X.env.frame=some X.env.locals:=by rfl) (hs:∀x,BV iter X.env x=pure x:=by intro _;rfl):XS X io (.For tg iter body [] pos) (Z1w mi g u x):=by
 obtain⟨_,A,sI⟩:=hi
 obtain⟨gt,G,sg⟩:=hg
 obtain⟨tb,B,sb⟩:=hb
 intro C pins s σ H δ fp ex k I R hm
 have hp:PassesOwn (X5 X.prog X.w) X.A X.env (XW X C io pins ex H fp k):=Zmk hex hst hf
 have no:∀(E:Xc->Xf->Prop) (e:Xc) (s':Xf),X.xe e s'->E e s':=λE e s' z=>by rw[hx]at z;exact z.elim
 refine wpAny_For (QC (A pins s σ H (λJ H1=>∃W:Nat->Nat->St->Hp->Prop,(∃m,W 0 m σ H1)∧∀i m σ' H',W i m σ' H'->J.go i H'∧∃N:St->Hp->Prop,(∀σ2 H2,N σ2 H2->∃m',m'<m∧W (i+1) m' σ2 H2)∧
   ∀x' H3,J.yld i H' x' H3->gt x' σ' H3 λσ4 H4=>tb { nx:=N,ct:=N,bk:=λ_ _=>False,rt:=λ_ _=>False } σ4 H4∨∃δ4 fp4,Rel C io H4 σ4 δ4 fp4 ex∧Kp H fp H4 fp4∧x δ4 k) I (sI C H σ δ fp ex _ _ R hm λJ H1 ds δ1 fp1 R1 S1 it h1=>?_)) (λv s1 h1=>QC h1 (λitv s2 h2=>?_) (no _)) (no _)) hs
 ·obtain⟨I0,r,hr,h0,turn,last⟩:=h1
  refine⟨λi n σ' H'=>n=r-i∧i≤r∧∃δ' fp',Rel C io H' σ' δ' fp' ex∧Kp H1 fp1 H' fp'∧I0 i δ',⟨r,rfl,QH _,δ1,fp1,R1,.refl _ _,h0⟩,?_⟩
  rintro i n σ2 H2 ⟨rfl,hle,δ2,fp2,R2,k2,i2⟩
  have itk:=it H2 (λb o e q=>k2.keep b o e (.inr (q.resolve_left (by decide)))) i
  have hlt:i<ds.length:=by omega
  have hd:ds[i]? =some ds[i]:=Xl hlt
  obtain⟨go,yl⟩:=itk.1 _ hd
  refine⟨go,λσ' H'=>i<r∧∃δ' fp',Rel C io H' σ' δ' fp' ex∧Kp H1 fp1 H' fp'∧I0 (i+1) δ',λσ' H' ⟨hir,δ',fp',R',k',i'⟩=>⟨r-(i+1),by omega,rfl,hir,δ',fp',R',k',i'⟩,λx' H3 hy=>?_⟩
  obtain⟨s3,q3⟩:=yl x' H3 hy
  have R3:=R2.mk0 s3
  have k3:Kp H1 fp1 H3 fp2:=k2.trans ⟨λb o e _=>s3 _ _ e,λz=>(nomatch z),λa z=>.inl z,s3.al⟩
  by_cases hir:i<r
  ·refine sg C H3 σ2 δ2 fp2 ex x' _ _ _ R3 (IterOk.at (H':=H2) (J:=J) (ds:=ds) k2.grow q3) (turn i _ δ2 hir hd i2) λσ4 δ4 fp4 R4 k4 h4=>?_
   have k5:=k3.trans k4
   exact .inl (sb C H3 σ4 δ4 fp4 ex _ _ R4 h4 ⟨λH' σ' δ' fp' R' k' n'=>⟨hir,δ',fp',R',k5.trans k',n'⟩,λ_ _ _ _ _ _ z=>z.elim,λH' σ' δ' fp' R' k' n'=>⟨hir,δ',fp',R',k5.trans k',n'⟩,λ_ _ _ _ _ _ _ _ _ _ _ z=>z.elim⟩)
  ·have e:i=r:=by omega
   subst e
   refine sg C H3 σ2 δ2 fp2 ex x' _ _ _ R3 (IterOk.at (H':=H2) (J:=J) (ds:=ds) k2.grow q3) (last _ δ2 hd i2) λσ4 δ4 fp4 R4 k4 h4=>?_
   exact .inr ⟨δ4,fp4,R4,S1.kp.trans (k3.trans k4),h4⟩
 ·obtain⟨it,fpi,tn,J,H2,e,I2,T,st2,f2,W,⟨m0,w0⟩,turn⟩:=h2
  subst e
  have stat:∀{H':Hp},(∀b∈fpi,H' b=none)->∀b∈fpi,Zei X pins H' b:=λhn b hb=>⟨hn b hb,(f2 b hb).2⟩
  refine codeAny_forLoop_any (λn s'=>∃i σ' H',Inv X pins σ' H' s'∧tn i s'.heap∧(∀b∈fpi,H' b=none)∧W i n σ' H') ?_ m0 ⟨0,σ,H2,I2,st2,λb hb=>(f2 b hb).1,w0⟩
  rintro n s3 ⟨i,σ3,H3,I3,st3,fr3,w3⟩
  obtain⟨go,N,hN,step⟩:=turn i n σ3 H3 w3
  refine JT hp (QC (T.item X rfl rfl rfl hc i pins s3 σ3 H3 X.xe I3 (stat fr3) st3 go) (λr s4 qz9=>?_) (no _))
  obtain⟨u',hr,h4⟩:=qz9
  subst hr
  refine JT hp (QC h4 (λ_ s5 qz9=>?_) (no _))
  obtain⟨x5,H5,I5,r5,y5,st5,fr5⟩:=qz9
  have I5':=I5.pinned (stat fr5) (T.obj _ _ st5)
  refine JT hp (QC (G _ s5 σ3 H5 x5 u' _ I5' r5 (step x5 H5 y5)) (λ_ s6 qz9=>?_) (no _))
  obtain⟨σ6,H6,I6,q6⟩:=qz9
  rcases q6 with q6|⟨δ4,fp4,R4,K4,h4⟩
  ·refine JT hp (QC (B _ s6 σ6 H6 _ I6 q6) (λf s7 q7=>?_) (no _))
   have again:∀{σ7:St} {H7:Hp},Inv X (pins ++ Ze7 fpi s5.heap) σ7 H7 s7->N σ7 H7->∃m,m<n∧∃i σ' H',Inv X pins σ' H' s7∧tn i s7.heap∧(∀b∈fpi,H' b=none)∧W i m σ' H':=fun{σ7 H7} I7 n7=>by
    obtain⟨m',hm,w7⟩:=hN σ7 H7 n7
    refine⟨m',hm,i+1,σ7,H7,I7.unpinned,T.keep _ _ _ st5 λb hb o e=>(I7.pin (b,o) (Xy _ (Xy _ (Wu hb e)))).1,λb hb=>?_,w7⟩
    obtain⟨o,e,d⟩:=T.obj _ _ st5 b hb
    exact(I7.pin (b,o) (Xy _ (Xy _ (Wu hb e)))).2.1
   cases f with
   | next=>obtain⟨σ7,H7,I7,n7⟩:=q7;exact again I7 n7
   | cont=>obtain⟨σ7,H7,I7,n7⟩:=q7;exact again I7 n7
   | brk=>obtain⟨_,_,_,z⟩:=q7;exact z.elim
   | ret v=>obtain⟨_,_,_,_,_,z⟩:=q7;exact z.elim
  ·exact JT hp (QC (hbx C _ s6 σ6 H6 δ4 fp4 ex k I6 R4 h4) (λ_ _ z=>z.elim) λe s7 z=>(z.shift K4).unpin)
end
noncomputable abbrev FE:=Zd->Option (OT×Zd)
noncomputable abbrev FA:=Zd->Option (List OT×Zd)
noncomputable abbrev FT:=Zd->Option (Bool×Zd)
noncomputable abbrev FI:=Zd->Option (List Xa×Zd)
noncomputable abbrev FO:=Zd->Option (Option Int×Zd)
noncomputable abbrev FG:=Xa->Zd->Option Zd
noncomputable abbrev FGs:=List Xa->Zd->Option Zd
noncomputable def o2{α:Type}(f:Zd->Option (α×Zd)):Zd->(α->Zd->Prop)->Prop:=λδ K=>∃r δ',f δ=some (r,δ')∧K r δ'
noncomputable def oG(g:FG):MGt:=λd δ k=>∃δ',g d δ=some δ'∧k δ'
noncomputable def oGs(g:FGs):Znn:=λd δ k=>∃δ',g d δ=some δ'∧k δ'
section
variable {X:Cx}{io:List Nat}{p c:Bool}{e tg:Expr}{es:List Expr}{m m':MEt}{mr mr':MAt}{mt mt':MTt}{mi mi':MIt}{g g':MGt}{gs gs':Znn}{mo mo':MOt}{st:Stmt}{sts:List Stmt}{u u':MSt}{eo:Option Expr}
theorem ME.weak(h:ME X io p c e m)(w:∀δ K,m' δ K->m δ K):ME X io p c e m':=let⟨t,A,s⟩:=h;⟨t,A,λC H σ δ fp ex K Q R h k=>s C H σ δ fp ex K Q R (w δ K h) k⟩
theorem MA.weak(h:MA X io p c es mr)(w:∀δ K,mr' δ K->mr δ K):MA X io p c es mr':=let⟨t,A,s⟩:=h;⟨t,A,λC H σ δ fp ex K Q R h k=>s C H σ δ fp ex K Q R (w δ K h) k⟩
theorem MT.weak(h:MT X io p e mt)(w:∀δ K,mt' δ K->mt δ K):MT X io p e mt':=let⟨t,A,s⟩:=h;⟨t,A,λC H σ δ fp ex K Q R h k=>s C H σ δ fp ex K Q R (w δ K h) k⟩
theorem MW.weak(h:MW X io p e mt)(w:∀δ K,mt' δ K->mt δ K):MW X io p e mt':=let⟨t,A,s⟩:=h;⟨t,A,λC H σ δ fp ex K Q R h k=>s C H σ δ fp ex K Q R (w δ K h) k⟩
theorem MIfs.weak(h:MIfs X io p es mt)(w:∀δ K,mt' δ K->mt δ K):MIfs X io p es mt':=let⟨t,A,s⟩:=h;⟨t,A,λC H σ δ fp ex K Q R h k=>s C H σ δ fp ex K Q R (w δ K h) k⟩
theorem MI.weak(h:MI X io p c tg e mi)(w:∀δ K,mi' δ K->mi δ K):MI X io p c tg e mi':=let⟨t,A,s⟩:=h;⟨t,A,λC H σ δ fp ex K Q R h k=>s C H σ δ fp ex K Q R (w δ K h) k⟩
theorem MO.weak(h:MO X io p eo mo)(w:∀δ K,mo' δ K->mo δ K):MO X io p eo mo':=let⟨t,A,s⟩:=h;⟨t,A,λC H σ δ fp ex K Q R h k=>s C H σ δ fp ex K Q R (w δ K h) k⟩
theorem MG.weak(h:MG X io c tg g)(w:∀d δ K,g' d δ K->g d δ K):MG X io c tg g':=let⟨t,A,s⟩:=h;⟨t,A,λC H σ δ fp ex v d k Q R q h kk=>s C H σ δ fp ex v d k Q R q (w d δ k h) kk⟩
theorem MGs.weak(h:MGs X io c es gs)(w:∀d δ K,gs' d δ K->gs d δ K):MGs X io c es gs':=let⟨t,A,s⟩:=h;⟨t,A,λC H σ δ fp ex v d k Q R q h kk=>s C H σ δ fp ex v d k Q R q (w d δ k h) kk⟩
theorem MS.weak(h:MS X io st u)(w:∀D δ,u' D δ->u D δ):MS X io st u':=let⟨t,A,s⟩:=h;⟨t,A,λC H σ δ fp ex D D' R h E=>s C H σ δ fp ex D D' R (w D δ h) E⟩
theorem MSs.weak(h:MSs X io sts u)(w:∀D δ,u' D δ->u D δ):MSs X io sts u':=let⟨t,A,s⟩:=h;⟨t,A,λC H σ δ fp ex D D' R h E=>s C H σ δ fp ex D D' R (w D δ h) E⟩
end
noncomputable def Zc(i:Nat):FE:=λδ=>match δ[i]? with|some (some (.fz d))=>some (.fz d,δ)|_=>none
noncomputable def Wx(i:Nat):FE:=λδ=>match δ[i]? with|some (some t)=>some (.fz t.data,δ)|_=>none
noncomputable def fC(d:Xa):FE:=λδ=>some (.fz d,δ)
noncomputable def Zb(g:Xa->Xa->Option Xa)(a b:FE):FE:=λδ=>(a δ).bind λp=>(b p.2).bind λq=>(g p.1.data q.1.data).bind λd=>some (.fz d,q.2)
noncomputable def Z2(g:Xa->Xa->Option OT)(a b:FE):FE:=λδ=>(a δ).bind λp=>(b p.2).bind λq=>(g p.1.data q.1.data).bind λd=>some (d,q.2)
noncomputable def fUn(g:Xa->Option Xa)(a:FE):FE:=λδ=>(a δ).bind λp=>(g p.1.data).bind λd=>some (.fz d,p.2)
noncomputable def Zyj(a b:FE):FE:=λδ=>(a δ).bind λp=>match p.1.data with| .bool true=>b p.2| .bool false=>some (.fz (.bool false),p.2)|_=>none
noncomputable def fOr(a b:FE):FE:=λδ=>(a δ).bind λp=>match p.1.data with| .bool true=>some (.fz (.bool true),p.2)| .bool false=>b p.2|_=>none
noncomputable def fIf(t:FT)(a b:FE):FE:=λδ=>(t δ).bind λp=>if p.1=true then a p.2 else b p.2
noncomputable def tV(e:FE):FT:=λδ=>(e δ).bind λp=>match p.1 with| .fz (.bool b)=>some (b,p.2)|_=>none
noncomputable def tNo(t:FT):FT:=λδ=>(t δ).bind λp=>some (!p.1,p.2)
noncomputable def tAn(t u:FT):FT:=λδ=>(t δ).bind λp=>if p.1=true then u p.2 else some (false,p.2)
noncomputable def tO(t u:FT):FT:=λδ=>(t δ).bind λp=>if p.1=true then some (true,p.2)else u p.2
noncomputable def tD(e:FE):FT:=λδ=>(e δ).bind λp=>(Zrj p.1.data).bind λb=>some (b,p.2)
noncomputable def Zt:FA:=λδ=>some ([],δ)
noncomputable def Ze(e:FE)(a:FA):FA:=λδ=>(e δ).bind λp=>(a p.2).bind λq=>some (p.1 :: q.1,q.2)
noncomputable def Zd1(a:FA):FE:=λδ=>(a δ).bind λp=>if p.1.length≤Xr then some (.fz (.tuple (OT.datas p.1)),p.2)else none
noncomputable def Zcu(a:FA):FE:=λδ=>(a δ).bind λp=>if p.1.length≤Xr then some (.nd p.1,p.2)else none
noncomputable def Zom(e:FE):FE:=λδ=>(e δ).bind λp=>if We p.1.data=true then some (.fz p.1.data,p.2)else none
noncomputable def Zgt(e:FE):FE:=λδ=>(e δ).bind λp=>if Zae p.1=true then some (p.1,p.2)else none
inductive RF where
 | ok (r:OT)
 | exn (c:Str)
 | bad
noncomputable abbrev FD:=List Xa->RF
noncomputable abbrev FIO:=OT->List Xa->Option (OT×OT)
noncomputable def Yi(F:FD)(a:FA):FE:=λδ=>(a δ).bind λp=>match F (OT.datas p.1)with| .ok r=>some (r,p.2)|_=>none
noncomputable def Ztn(i:Nat)(F:FIO)(a:FA):FE:=λδ=>match δ[i]? with
 | some (some _)=>(a δ).bind λp=>match p.2[i]? with
  | some (some t)=>(F t (OT.datas p.1)).bind λq=>some (q.1,p.2.set i (some q.2))
  | _=>none
 | _=>none
noncomputable def Zbp(g:List Xa->Option Xa)(a:FA):FE:=λδ=>(a δ).bind λp=>(g (OT.datas p.1)).bind λd=>some (.fz d,p.2)
noncomputable def fBl(g:List Xa->Option OT)(a:FA):FE:=λδ=>(a δ).bind λp=>(g (OT.datas p.1)).bind λd=>some (d,p.2)
noncomputable def Zld(T:String)(e:FE):FE:=λδ=>(e δ).bind λp=>if Zd7 p.1.data=true then none else some (.fz (.bool (Zk9 T p.1.data)),p.2)
noncomputable def oN:FO:=λδ=>some (none,δ)
noncomputable def oI(e:FE):FO:=λδ=>(e δ).bind λp=>match p.1.data with| .int i=>some (some i,p.2)|_=>none
noncomputable def fSl(e:FE)(lo hi:FO):FE:=λδ=>(e δ).bind λp=>(lo p.2).bind λq=>(hi q.2).bind λr=>match p.1.data with| .list ds=>some (.nd ((cutD ds q.1 r.1).map OT.fz),r.2)|_=>none
noncomputable def Zgh(f g:Int->Int->Bool)(a b c:FE):FE:=λδ=>(a δ).bind λp=>(b p.2).bind λq=>match p.1.data,q.1.data with
 | .int i,.int j=>if f i j=true then(c q.2).bind λr=>match r.1.data with| .int k=>some (.fz (.bool (g j k)),r.2)|_=>none else some (.fz (.bool false),q.2)
 | _,_=>none
noncomputable def Jw(e:FE):FI:=λδ=>(e δ).bind λp=>match p.1.data with| .list ds=>some (ds,p.2)|_=>none
noncomputable def iTp(e:FE):FI:=λδ=>(e δ).bind λp=>match p.1.data with| .tuple ds=>some (ds,p.2)|_=>none
noncomputable def rOk(j:Int):Bool:=decide (-(2^62)≤j)&&decide (j<2^62)
theorem Zb4{j:Int}(h:rOk j=true):-(2^62)≤j∧j<2^62:=by
 unfold rOk at h
 rw[XN]at h
 exact⟨of_decide_eq_true h.1,of_decide_eq_true h.2⟩
theorem Zi9{j:Int}(h0:-1000000≤j)(h1:j≤1000000):rOk j=true:=by
 unfold rOk
 rw[decide_eq_true (show -(2^62)≤j by omega),decide_eq_true (show j<2^62 by omega)];rfl
noncomputable def iRa(a:FA):FI:=λδ=>(a δ).bind λp=>match OT.datas p.1 with|[.int j]=>if rOk j=true then some (Zd0 0 j.toNat,p.2)else none|_=>none
noncomputable def iRb(a:FA):FI:=λδ=>(a δ).bind λp=>match OT.datas p.1 with|[.int i,.int j]=>if(rOk i&&rOk j)=true then some (Zd0 i (j-i).toNat,p.2)else none|_=>none
noncomputable def Z3h(a:FA):FI:=λδ=>(a δ).bind λp=>match OT.datas p.1 with|[.list as,.list bs]=>some (Zkh as bs,p.2)|_=>none
noncomputable def gNm(i:Nat):FG:=λd δ=>some (δ.set i (some (.fz d)))
noncomputable def Zuk(i:Nat):FG:=λd δ=>if We d=true then some (δ.set i (some (.fz d)))else none
noncomputable def gNl:FGs:=λds δ=>match ds with|[]=>some δ|_=>none
noncomputable def gCn(g:FG)(gs:FGs):FGs:=λds δ=>match ds with|d :: r=>(g d δ).bind (gs r)|[]=>none
noncomputable def gTp(n:Nat)(gs:FGs):FG:=λd δ=>match d with| .tuple ds=>if ds.length=n then gs ds δ else none|_=>none
noncomputable def gLs(n:Nat)(gs:FGs):FG:=λd δ=>match d with| .list ds=>if ds.length=n then gs ds δ else none|_=>none
noncomputable def compLoop(g:FG)(t:FT)(e:FE):List Xa->Zd->Option (List OT×Zd)
 | [],δ=>some ([],δ)
 | d :: ds,δ=>(g d δ).bind λδ1=>(t δ1).bind λp=>if p.1=true then(e p.2).bind λq=>(compLoop g t e ds q.2).bind λz=>some (q.1 :: z.1,z.2)else compLoop g t e ds p.2
noncomputable def Wa(n:Nat)(caps:List Nat)(it:FI)(g:FG)(t:FT)(e:FE):FE:=λδ=>(it δ).bind λp=>if p.1.length≤Xr then(compLoop g t e p.1 (blk n caps p.2)).bind λz=>some (.nd z.1,p.2)else none
noncomputable def Zfd:FT:=λδ=>some (true,δ)
inductive RS where
 | nx (δ:Zd)
 | rt (r:OT) (δ:Zd)
 | bk (δ:Zd)
 | ct (δ:Zd)
 | ex (c:Str) (δ:Zd)
 | bad
noncomputable abbrev FS:=Zd->RS
noncomputable def RS.fits(D:Zd3):RS->Prop
 | .nx δ=>D.nx δ
 | .rt r δ=>D.rt r δ
 | .bk δ=>D.bk δ
 | .ct δ=>D.ct δ
 | _=>False
noncomputable def oS(f:FS):MSt:=λD δ=>(f δ).fits D
noncomputable def xS(K:Xd)(f:FS):MXt:=λδ k=>∃c C δ',f δ= .ex c δ'∧ClsAt K c C∧k C δ'
noncomputable def Zr(f g:FS):FS:=λδ=>match f δ with| .nx δ'=>g δ'|r=>r
noncomputable def fNx:FS:=λδ=>.nx δ
noncomputable def Ybr:FS:=λδ=>.bk δ
noncomputable def Yb6:FS:=λδ=>.ct δ
noncomputable def wE(e:FE)(k:OT->Zd->RS):FS:=λδ=>match e δ with|some (r,δ')=>k r δ'|none=>.bad
noncomputable def wX(F:FD)(a:FA)(k:OT->Zd->RS):FS:=λδ=>match a δ with
 | some (rs,δ1)=>match F (OT.datas rs)with
  | .ok r=>k r δ1
  | .exn c=>.ex c δ1
  | .bad=>.bad
 | none=>.bad
noncomputable def Zqh:OT->Zd->RS:=λ_ δ=>.nx δ
noncomputable def Jh:OT->Zd->RS:=λr δ=>.rt r δ
noncomputable def Z7t:OT->Zd->RS:=λr δ=>if We r.data=true then .rt (.fz r.data) δ else .bad
noncomputable def Ws(i:Nat):OT->Zd->RS:=λr δ=>.nx (δ.set i (some (.fz r.data)))
noncomputable def Z6a(i:Nat):OT->Zd->RS:=λr δ=>if We r.data=true then .nx (δ.set i (some (.fz r.data)))else .bad
noncomputable def Wf(i:Nat):OT->Zd->RS:=λr δ=>.nx (δ.set i (some r))
noncomputable def Ybg(g:FG):OT->Zd->RS:=λr δ=>match g r.data δ with|some δ'=>.nx δ'|none=>.bad
noncomputable def Z7u:FS:=λδ=>.rt (.fz .none) δ
noncomputable def Zaw(i:Nat):FS:=λδ=>match δ[i]? with|some (some t)=>.rt t (δ.set i none)|_=>.bad
noncomputable def W5(t:FT)(u w:FS):FS:=λδ=>match t δ with|some (b,δ')=>if b=true then u δ' else w δ'|none=>.bad
noncomputable def Zbh(c:Str):FS:=λδ=>.ex c δ
noncomputable def Zw(i:Nat)(e:FE):FS:=λδ=>match δ[i]? with
 | some (some (.nd _))=>wE e (λr δ1=>match δ1[i]? with
  | some (some (.nd ts))=>if ts.length<Xr then .nx (δ1.set i (some (.nd (ts ++ [.fz r.data]))))else .bad
  | _=>.bad) δ
 | _=>.bad
noncomputable def Je(i:Nat)(e:FE):FS:=λδ=>match δ[i]? with
 | some (some (.nd _))=>wE e (λr δ1=>match δ1[i]? with
  | some (some (.nd ts))=>if ts.length<Xr then .nx (δ1.set i (some (.nd (ts ++ [r]))))else .bad
  | _=>.bad) δ
 | _=>.bad
noncomputable def Zyk(i:Nat)(e j:FE):FS:=wE e λr δ1=>match δ1[i]? with
 | some (some (.nd ts))=>wE j (λn _=>match n.data with
  | .int k=>match ixN ts.length k with
   | some j=>.nx (δ1.set i (some (.nd (ts.set j (.fz r.data)))))
   | none=>.bad
  | _=>.bad) δ1
 | _=>.bad
noncomputable def Zb1(i:Nat)(u:FS):FS:=λδ=>match δ[i]? with|some (some t)=>u (δ.set i (some (.fz t.data)))|_=>.bad
noncomputable def forLoop(g:FG)(u:FS):List Xa->Zd->RS
 | [],δ=>.nx δ
 | d :: ds,δ=>match g d δ with
  | none=>.bad
  | some δ1=>match u δ1 with
   | .nx δ2=>forLoop g u ds δ2
   | .ct δ2=>forLoop g u ds δ2
   | .bk δ2=>.nx δ2
   | r=>r
noncomputable def Jy(it:FI)(g:FG)(u:FS):FS:=λδ=>match it δ with|some (ds,δ1)=>forLoop g u ds δ1|none=>.bad
noncomputable def whileLoop(t:FT)(u:FS):Nat->Zd->RS
 | 0,_=>.bad
 | n+1,δ=>match t δ with
  | none=>.bad
  | some (b,δ1)=>if b=true then match u δ1 with
   | .nx δ2=>whileLoop t u n δ2
   | .ct δ2=>whileLoop t u n δ2
   | .bk δ2=>.nx δ2
   | .rt r δ2=>.rt r δ2
   | _=>.bad
   else .nx δ1
open Classical in
noncomputable def Zev(t:FT)(u:FS):FS:=λδ=>if h:∃n,whileLoop t u n δ≠ .bad then whileLoop t u (Classical.choose h) δ else .bad
noncomputable def Jv(n:Nat)(ds:List Xa):Zd:=ds.map (λd=>some (.fz d)) ++ Qi (n-ds.length) none
noncomputable def Z41(n:Nat)(t:OT)(ds:List Xa):Zd:=some t :: (ds.map (λd=>some (.fz d)) ++ Qi (n-(ds.length+1)) none)
noncomputable def RS.told:RS->RF
 | .nx _=>.ok (.fz .none)
 | .rt r _=>.ok r
 | .ex c _=>.exn c
 | _=>.bad
noncomputable def J1(np n:Nat)(S:FS):FD:=λds=>if ds.length=np then(S (Jv n ds)).told else .bad
noncomputable def sD(F:FD):List Xa->(OT->Prop)->Prop:=λds k=>∃r,F ds= .ok r∧k r
noncomputable def sI(F:FIO):OT->List Xa->(OT->OT->Prop)->Prop:=λt ds k=>∃r t',F t ds=some (r,t')∧k r t'
noncomputable def sX(K:Xd)(F:FD):List Xa->Addr->Prop:=λds cl=>∃c,F ds= .exn c∧ClsAt K c cl
theorem bs{α β:Type}{x:Option α}{f:α->Option β}{b:β}(h:x.bind f=some b):∃a,x=some a∧f a=some b:=Option.bind_eq_some_iff.mp h
section
variable {X:Cx}{io:List Nat}{p c:Bool}{e tg:Expr}{es:List Expr}{st:Stmt}{sts:List Stmt}{eo:Option Expr}{fa fb fc:FE}{ra:FA}{ta tb:FT}{i:Nat}
theorem Z19(h:ME X io p c e (Z4d i)):ME X io p c e (o2 (Zc i)):=h.weak λδ K q91=>by
 obtain⟨r,δ',h,k⟩:=q91
 unfold Zc at h;unfold Z4d
 split at h
 ·rename_i d hd;(try rw[hd]);cases h;exact k
 ·cases h
theorem Z3z(h:ME X io p c e (Z4b i)):ME X io p c e (o2 (Wx i)):=h.weak λδ K q92=>by
 obtain⟨r,δ',h,k⟩:=q92
 unfold Wx at h;unfold Z4b
 split at h
 ·rename_i d hd;(try rw[hd]);cases h;exact k
 ·cases h
theorem Zgb{d:Xa}(h:ME X io p c e (mC d)):ME X io p c e (o2 (fC d)):=h.weak λδ K ⟨r,δ',h,k⟩=>by cases h;exact k
noncomputable def ByS(g:Xa->Xa->Option Xa)(rp:Xa->Xa->(Xa->Prop)->Prop):Prop:=∀d e r k,g d e=some r->k r->rp d e k
noncomputable def ByO(g:Xa->Xa->Option OT)(rp:Xa->Xa->(OT->Prop)->Prop):Prop:=∀d e r k,g d e=some r->k r->rp d e k
theorem Zsj{g rp}(G:ByS g rp){δ:Zd}{K:OT->Zd->Prop}(h:o2 (Zb g fa fb) δ K):Zh2 rp (o2 fa) (o2 fb) δ K:=by
 obtain⟨r,δ',h,k⟩:=h
 obtain⟨⟨x,δ1⟩,h1,h⟩:=bs h
 obtain⟨⟨y,δ2⟩,h2,h⟩:=bs h
 obtain⟨d,h3,h⟩:=bs h
 cases h
 exact⟨x,δ1,h1,y,δ2,h2,G _ _ _ _ h3 k⟩
theorem J7{g rp}(G:ByS g rp)(h:ME X io p c e (Zh2 rp (o2 fa) (o2 fb))):ME X io p c e (o2 (Zb g fa fb)):=h.weak λδ K z=>Zsj G z
theorem Z8q{f:FE}{δ:Zd}{K:Bool->Zd->Prop}(h:o2 (tV f) δ K):o2 f δ (kB K):=by
 obtain⟨b,δ',h,k⟩:=h
 obtain⟨⟨x,δ1⟩,h1,h⟩:=bs h
 refine⟨x,δ1,h1,?_⟩
 unfold kB
 try dsimp only at h⊢
 split at h
 ·cases h;exact k
 ·cases h
theorem Za7{g rp}(G:ByS g rp)(h:MT X io p e (λδ K=>Zh2 rp (o2 fa) (o2 fb) δ (kB K))):MT X io p e (o2 (tV (Zb g fa fb))):=h.weak λδ K z=>Zsj G (Z8q z)
theorem Zdp{g rp}(G:ByO g rp)(h:ME X io p c e (Z0d rp (o2 fa) (o2 fb))):ME X io p c e (o2 (Z2 g fa fb)):=h.weak λδ K h=>by
 obtain⟨r,δ',h,k⟩:=h
 obtain⟨⟨x,δ1⟩,h1,h⟩:=bs h
 obtain⟨⟨y,δ2⟩,h2,h⟩:=bs h
 obtain⟨d,h3,h⟩:=bs h
 cases h
 exact⟨x,δ1,h1,y,δ2,h2,G _ _ _ _ h3 k⟩
noncomputable def Zsw:Xa->Option Xa| .int i=>some (.int (-i))|_=>none
noncomputable def Z4o:Xa->Option Xa| .bool b=>some (.bool (!b))|_=>none
theorem Zs8(h:ME X io p c e (Z8j (o2 fa))):ME X io p c e (o2 (fUn Zsw fa)):=h.weak λδ K h=>by
 obtain⟨r,δ',h,k⟩:=h
 obtain⟨⟨x,δ1⟩,h1,h⟩:=bs h
 obtain⟨d,h3,h⟩:=bs h
 cases h
 refine⟨x,δ1,h1,?_⟩
 dsimp only at h3⊢
 cases q:x.data<;>rw[q]at h3<;>cases h3
 exact k
theorem Zv6(h:ME X io p c e (Zy3 (o2 fa))):ME X io p c e (o2 (fUn Z4o fa)):=h.weak λδ K h=>by
 obtain⟨r,δ',h,k⟩:=h
 obtain⟨⟨x,δ1⟩,h1,h⟩:=bs h
 obtain⟨d,h3,h⟩:=bs h
 cases h
 refine⟨x,δ1,h1,?_⟩
 dsimp only at h3⊢
 cases q:x.data<;>rw[q]at h3<;>cases h3
 exact k
theorem Zvy(h:ME X io p c e (Z2a (o2 fa) (o2 fb))):ME X io p c e (o2 (Zyj fa fb)):=h.weak λδ K h=>by
 obtain⟨r,δ',h,k⟩:=h
 obtain⟨⟨x,δ1⟩,h1,h⟩:=bs h
 refine⟨x,δ1,h1,?_⟩
 try dsimp only at h⊢
 split at h
 ·rename_i q;(try rw[q]);rw[Zs2,if_pos rfl];exact⟨r,δ',h,k⟩
 ·rename_i q;(try rw[q]);cases h;rw[Zs2,if_neg Xw];exact k
 ·cases h
theorem Zy4(h:MT X io p e (Z99 (o2 ta))):MT X io p e (o2 (tNo ta)):=h.weak λδ K h=>by
 obtain⟨r,δ',h,k⟩:=h
 obtain⟨⟨x,δ1⟩,h1,h⟩:=bs h
 cases h
 exact⟨x,δ1,h1,k⟩
theorem Zth(h:MW X io p e (Z8m (o2 ta) (o2 tb))):MW X io p e (o2 (tAn ta tb)):=h.weak λδ K h=>by
 obtain⟨r,δ',h,k⟩:=h
 obtain⟨⟨x,δ1⟩,h1,h⟩:=bs h
 refine⟨x,δ1,h1,?_⟩
 try dsimp only at h⊢
 split at h
 ·rename_i q;rw[if_pos q];exact⟨r,δ',h,k⟩
 ·rename_i q;rw[if_neg q];cases h;exact k
theorem Zh9(h:MW X io p e (mOr (o2 ta) (o2 tb))):MW X io p e (o2 (tO ta tb)):=h.weak λδ K h=>by
 obtain⟨r,δ',h,k⟩:=h
 obtain⟨⟨x,δ1⟩,h1,h⟩:=bs h
 refine⟨x,δ1,h1,?_⟩
 try dsimp only at h⊢
 split at h
 ·rename_i q;rw[if_pos q];cases h;exact k
 ·rename_i q;rw[if_neg q];exact⟨r,δ',h,k⟩
theorem J9(h:MT X io p e (Z78 (o2 fa))):MT X io p e (o2 (tD fa)):=h.weak λδ K h=>by
 obtain⟨r,δ',h,k⟩:=h
 obtain⟨⟨x,δ1⟩,h1,h⟩:=bs h
 obtain⟨d,h3,h⟩:=bs h
 cases h
 refine⟨x,δ1,h1,?_⟩
 dsimp only at h3⊢
 rw[h3]
 exact k
theorem Zzr(h:MA X io p c es Z85):MA X io p c es (o2 Zt):=h.weak λδ K ⟨r,δ',h,k⟩=>by cases h;exact k
theorem Zvt(h:MA X io p c es (Zzz (o2 fa) (o2 ra))):MA X io p c es (o2 (Ze fa ra)):=h.weak λδ K h=>by
 obtain⟨r,δ',h,k⟩:=h
 obtain⟨⟨x,δ1⟩,h1,h⟩:=bs h
 obtain⟨⟨y,δ2⟩,h2,h⟩:=bs h
 cases h
 exact⟨x,δ1,h1,y,δ2,h2,k⟩
theorem Z2j(h:ME X io p c e (Z9j (o2 ra))):ME X io p c e (o2 (Zd1 ra)):=h.weak λδ K h=>by
 obtain⟨r,δ',h,k⟩:=h
 obtain⟨⟨x,δ1⟩,h1,h⟩:=bs h
 refine⟨x,δ1,h1,?_⟩
 dsimp only at h
 split at h
 ·rename_i q;cases h;exact⟨q,k⟩
 ·cases h
theorem Z2t(h:ME X io p c e (Z9w (o2 ra))):ME X io p c e (o2 (Zcu ra)):=h.weak λδ K h=>by
 obtain⟨r,δ',h,k⟩:=h
 obtain⟨⟨x,δ1⟩,h1,h⟩:=bs h
 refine⟨x,δ1,h1,?_⟩
 dsimp only at h
 split at h
 ·rename_i q;cases h;exact⟨q,k⟩
 ·cases h
theorem Zw8(h:ME X io p c e (Z3n (o2 fa))):ME X io p c e (o2 (Zom fa)):=h.weak λδ K h=>by
 obtain⟨r,δ',h,k⟩:=h
 obtain⟨⟨x,δ1⟩,h1,h⟩:=bs h
 refine⟨x,δ1,h1,?_⟩
 dsimp only at h
 split at h
 ·rename_i q;cases h;exact⟨q,k⟩
 ·cases h
theorem Zqi(h:ME X io p c e (Zti (o2 fa))):ME X io p c e (o2 (Zgt fa)):=h.weak λδ K h=>by
 obtain⟨r,δ',h,k⟩:=h
 obtain⟨⟨x,δ1⟩,h1,h⟩:=bs h
 refine⟨x,δ1,h1,?_⟩
 dsimp only at h
 split at h
 ·rename_i q;cases h;exact⟨q,k⟩
 ·cases h
theorem Zu4{F:FD}(h:ME X io p c e (Zwi (sD F) (o2 ra))):ME X io p c e (o2 (Yi F ra)):=h.weak λδ K h=>by
 obtain⟨r,δ',h,k⟩:=h
 obtain⟨⟨x,δ1⟩,h1,h⟩:=bs h
 refine⟨x,δ1,h1,?_⟩
 dsimp only at h
 split at h
 ·rename_i q;cases h;exact⟨_,q,k⟩
 ·cases h
theorem Zbd{g rp}(G:∀ds r k,g ds=some r->k r->rp ds k)(h:ME X io p c e (Z7a rp (o2 ra))):ME X io p c e (o2 (Zbp g ra)):=h.weak λδ K h=>by
 obtain⟨r,δ',h,k⟩:=h
 obtain⟨⟨x,δ1⟩,h1,h⟩:=bs h
 obtain⟨d,h3,h⟩:=bs h
 cases h
 exact⟨x,δ1,h1,G _ _ _ h3 k⟩
theorem Z6o{g rp}(G:∀ds r k,g ds=some r->k r->rp ds k)(h:ME X io p c e (mBl rp (o2 ra))):ME X io p c e (o2 (fBl g ra)):=h.weak λδ K h=>by
 obtain⟨r,δ',h,k⟩:=h
 obtain⟨⟨x,δ1⟩,h1,h⟩:=bs h
 obtain⟨d,h3,h⟩:=bs h
 cases h
 exact⟨x,δ1,h1,G _ _ _ h3 k⟩
theorem Zg5{T:String}(h:ME X io p c e (Yac T (o2 fa))):ME X io p c e (o2 (Zld T fa)):=h.weak λδ K h=>by
 obtain⟨r,δ',h,k⟩:=h
 obtain⟨⟨x,δ1⟩,h1,h⟩:=bs h
 by_cases hf:Zd7 x.data=true
 ·have h':(if Zd7 x.data=true then none else some (OT.fz (.bool (Zk9 T x.data)),δ1))=some (r,δ'):=h
  rw[if_pos hf]at h'
  cases h'
 ·have h':(if Zd7 x.data=true then none else some (OT.fz (.bool (Zk9 T x.data)),δ1))=some (r,δ'):=h
  rw[if_neg hf]at h'
  injection h' with h'
  injection h' with e1 e2
  subst e1 e2
  exact⟨x,_,h1,BJ.mpr hf,k⟩
theorem Zh5(h:MO X io p eo Zoy):MO X io p eo (o2 oN):=h.weak λδ K ⟨r,δ',h,k⟩=>by cases h;exact k
theorem Zf3(h:MO X io p eo (Z1g (o2 fa))):MO X io p eo (o2 (oI fa)):=h.weak λδ K h=>by
 obtain⟨r,δ',h,k⟩:=h
 obtain⟨⟨x,δ1⟩,h1,h⟩:=bs h
 refine⟨x,δ1,h1,?_⟩
 try dsimp only at h⊢
 split at h
 ·rename_i q;(try rw[q]);cases h;exact k
 ·cases h
theorem Z2h{lo hi:FO}(h:ME X io p c e (mSl (o2 fa) (o2 lo) (o2 hi))):ME X io p c e (o2 (fSl fa lo hi)):=h.weak λδ K h=>by
 obtain⟨r,δ',h,k⟩:=h
 obtain⟨⟨x,δ1⟩,h1,h⟩:=bs h
 obtain⟨⟨y,δ2⟩,h2,h⟩:=bs h
 obtain⟨⟨z,δ3⟩,h3,h⟩:=bs h
 refine⟨x,δ1,h1,y,δ2,h2,z,δ3,h3,?_⟩
 try dsimp only at h⊢
 split at h
 ·rename_i q;(try rw[q]);cases h;exact k
 ·cases h
theorem Zvx{f g:Int->Int->Bool}{δ:Zd}{K:OT->Zd->Prop}(h:o2 (Zgh f g fa fb fc) δ K):Ziz f g (o2 fa) (o2 fb) (o2 fc) δ K:=by
 obtain⟨r,δ',h,k⟩:=h
 obtain⟨⟨x,δ1⟩,h1,h⟩:=bs h
 obtain⟨⟨y,δ2⟩,h2,h⟩:=bs h
 refine⟨x,δ1,h1,y,δ2,h2,?_⟩
 try dsimp only at h⊢
 split at h
 case h_2=>cases h
 rename_i i j q1 q2
 (try rw[q1,q2])
 show(if f i j=true then _ else _)
 split at h
 ·rename_i hf
  rw[if_pos hf]
  obtain⟨⟨z,δ3⟩,h3,h⟩:=bs h
  refine⟨z,δ3,h3,?_⟩
  try dsimp only at h⊢
  split at h
  ·rename_i q;(try rw[q]);cases h;exact k
  ·cases h
 ·rename_i hf
  rw[if_neg hf]
  cases h
  exact k
theorem Zpl{f g:Int->Int->Bool}(h:ME X io p c e (Ziz f g (o2 fa) (o2 fb) (o2 fc))):ME X io p c e (o2 (Zgh f g fa fb fc)):=h.weak λδ K z=>Zvx z
theorem Zw0(h:MI X io p c tg e (iL (o2 fa))):MI X io p c tg e (o2 (Jw fa)):=h.weak λδ K h=>by
 obtain⟨r,δ',h,k⟩:=h
 obtain⟨⟨x,δ1⟩,h1,h⟩:=bs h
 refine⟨x,δ1,h1,?_⟩
 try dsimp only at h⊢
 split at h
 ·rename_i q;(try rw[q]);cases h;exact k
 ·cases h
theorem Zcd(h:MI X io p c tg e (iR1 (o2 ra))):MI X io p c tg e (o2 (iRa ra)):=h.weak λδ K h=>by
 obtain⟨r,δ',h,k⟩:=h
 obtain⟨⟨x,δ1⟩,h1,h⟩:=bs h
 refine⟨x,δ1,h1,?_⟩
 try dsimp only at h⊢
 split at h
 case h_2=>cases h
 rename_i q
 (try rw[q])
 try dsimp only
 split at h
 ·rename_i b;cases h;exact⟨Zb4 b,k⟩
 ·cases h
theorem Z6y(h:MI X io p c tg e (iR2 (o2 ra))):MI X io p c tg e (o2 (iRb ra)):=h.weak λδ K h=>by
 obtain⟨r,δ',h,k⟩:=h
 obtain⟨⟨x,δ1⟩,h1,h⟩:=bs h
 refine⟨x,δ1,h1,?_⟩
 try dsimp only at h⊢
 split at h
 case h_2=>cases h
 rename_i q
 (try rw[q])
 try dsimp only
 split at h
 ·rename_i b
  cases h
  rw[XN]at b
  exact⟨⟨(Zb4 b.1).1,(Zb4 b.1).2,(Zb4 b.2).1,(Zb4 b.2).2⟩,k⟩
 ·cases h
theorem Zws(h:MG X io c tg (dName i)):MG X io c tg (oG (gNm i)):=h.weak λd δ K ⟨δ',h,k⟩=>by cases h;exact k
theorem Zi8(h:MG X io c tg (Ztl i)):MG X io c tg (oG (Zuk i)):=h.weak λd δ K q93=>by
 obtain⟨δ',h,k⟩:=q93
 unfold Zuk at h
 split at h
 ·rename_i q;cases h;exact⟨q,k⟩
 ·cases h
theorem Zo8(h:MGs X io c es Z94):MGs X io c es (oGs gNl):=h.weak λd δ K q94=>by
 obtain⟨δ',h,k⟩:=q94
 unfold gNl at h
 split at h
 ·cases h;exact⟨rfl,k⟩
 ·cases h
theorem Zcx{g:FG}{gs:FGs}(h:MGs X io c es (Zu0 (oG g) (oGs gs))):MGs X io c es (oGs (gCn g gs)):=h.weak λd δ K q95=>by
 obtain⟨δ',h,k⟩:=q95
 unfold gCn at h
 split at h
 ·obtain⟨δ1,h1,h⟩:=bs h
  exact⟨δ1,h1,δ',h,k⟩
 ·cases h
theorem Zso{n:Nat}{gs:FGs}(h:MG X io c tg (dTup n (oGs gs))):MG X io c tg (oG (gTp n gs)):=h.weak λd δ K q96=>by
 obtain⟨δ',h,k⟩:=q96
 unfold gTp at h
 split at h
 case h_2=>cases h
 split at h
 ·rename_i q;exact⟨q,δ',h,k⟩
 ·cases h
theorem Js(h:MIfs X io p es Zzy):MIfs X io p es (o2 Zfd):=h.weak λδ K ⟨r,δ',h,k⟩=>by cases h;exact k
theorem Zub{g:FG}{t:FT}{me:FE}{ds:List Xa}{δ0:Zd}{zs:List OT}{δe:Zd}(h:compLoop g t me ds δ0=some (zs,δe)) :
  ∃I:Nat->List OT->Zd->Prop,I 0 [] δ0∧
 (∀ (i:Nat) (d:Xa) (rs:List OT) (δ':Zd),ds[i]? =some d->I i rs δ'->oG g d δ' λδ2=>o2 t δ2 λb δ3=>if b=true then o2 me δ3 λr δ4=>I (i+1) (rs ++ [r]) δ4 else I (i+1) rs δ3)∧
 ∀rs δ',I ds.length rs δ'->rs=zs∧δ'=δe:=by
 refine⟨λi rs δ'=>∃ys,rs ++ ys=zs∧compLoop g t me (ds.drop i) δ'=some (ys,δe),⟨zs,rfl,by rw[List.drop_zero];exact h⟩,?_,?_⟩
 ·rintro i d rs δ' hd ⟨ys,e,hl⟩
  obtain⟨hi,hdi⟩:=Xi.mp hd
  rw[V2 hi,hdi]at hl
  unfold compLoop at hl
  obtain⟨δ1,h1,hl⟩:=bs hl
  obtain⟨⟨b,δ2⟩,h2,hl⟩:=bs hl
  refine⟨δ1,h1,b,δ2,h2,?_⟩
  dsimp only at hl
  split at hl
  ·rename_i hb
   rw[if_pos hb]
   obtain⟨⟨r,δ3⟩,h3,hl⟩:=bs hl
   obtain⟨⟨ws,δ4⟩,h4,hl⟩:=bs hl
   cases hl
   exact⟨r,δ3,h3,ws,by rw[QZ];exact e,h4⟩
  ·rename_i hb
   rw[if_neg hb]
   exact⟨ys,e,hl⟩
 ·rintro rs δ' ⟨ys,e,hl⟩
  rw[List.drop_length]at hl
  unfold compLoop at hl
  cases hl
  exact⟨by rw[←e,Qt],rfl⟩
theorem Zmw{n:Nat}{caps:List Nat}{it:FI}{g:FG}{t:FT}{me:FE}{δ:Zd}{K:OT->Zd->Prop}(h:o2 (Wa n caps it g t me) δ K):Zd9 n caps (o2 it) (oG g) (o2 t) (o2 me) δ K:=by
 obtain⟨r,δ',h,k⟩:=h
 obtain⟨⟨ds,δ1⟩,h1,h⟩:=bs h
 refine⟨ds,δ1,h1,?_⟩
 dsimp only at h
 split at h
 case isFalse=>cases h
 rename_i hz
 obtain⟨⟨zs,δe⟩,h2,h⟩:=bs h
 cases h
 obtain⟨I,i0,st,en⟩:=Zub h2
 refine⟨hz,I,i0,st,λrs δ'' q=>?_⟩
 obtain⟨rfl,rfl⟩:=en rs δ'' q
 exact k
theorem Zbs{n:Nat}{caps:List Nat}{it:FI}{g:FG}{t:FT}{me:FE}(h:ME X io p c e (Zd9 n caps (o2 it) (oG g) (o2 t) (o2 me))):ME X io p c e (o2 (Wa n caps it g t me)):=h.weak λδ K z=>Zmw z
end
section
variable {X:Cx}{io:List Nat}{p c:Bool}{e tg iter:Expr}{es:List Expr}{st:Stmt}{sts:List Stmt}{fa fb fc:FE}{ra:FA}{ta tb:FT}{i:Nat}{f g u w:FS}
theorem Z0t(h:MSs X io sts (Z7m (oS f) (oS g))):MSs X io sts (oS (Zr f g)):=h.weak λD δ h=>by
 unfold oS Zr at h;unfold Z7m oS
 cases q:f δ<;>rw[q]at h<;>exact h
theorem Zvh(h:MSs X io sts Zyz):MSs X io sts (oS fNx):=h.weak λD δ h=>h
theorem Zhq{k:OT->Zd->RS}{D:Zd3}{δ:Zd}(h:oS (wE fa k) D δ):o2 fa δ λr δ'=>(k r δ').fits D:=by
 unfold oS wE at h
 split at h
 ·rename_i q;exact⟨_,_,q,h⟩
 ·exact h.elim
theorem o2.imp{α:Type}{f:Zd->Option (α×Zd)}{δ:Zd}{K K':α->Zd->Prop}(h:o2 f δ K)(k:∀r δ',K r δ'->K' r δ'):o2 f δ K':=let⟨r,δ',e,q⟩:=h;⟨r,δ',e,k r δ' q⟩
theorem Zcs{P:Prop}[Decidable P]{a:RS}{D:Zd3}(h:(if P then a else .bad:RS).fits D):P∧a.fits D:=by
 split at h
 ·exact⟨‹_›,h⟩
 ·exact h.elim
theorem Zlj(h:MS X io st (Z2m (o2 fa))):MS X io st (oS (wE fa Zqh)):=h.weak λD δ h=>Zhq h
theorem Z11(h:MS X io st (Z8l (o2 fa))):MS X io st (oS (wE fa Jh)):=h.weak λD δ h=>Zhq h
theorem Zb0(h:MS X io st (Zp1 i)):MS X io st (oS (Zaw i)):=h.weak λD δ h=>by
 unfold oS Zaw at h;unfold Zp1
 split at h
 ·rename_i q;(try rw[q]);exact h
 ·exact h.elim
theorem Z5o(h:MS X io st (Z9e (o2 ta) (oS u) (oS w))):MS X io st (oS (W5 ta u w)):=h.weak λD δ h=>by
 unfold oS W5 at h
 split at h
 ·rename_i b δ' q
  refine⟨b,δ',q,?_⟩
  split at h
  ·rename_i hb;rw[if_pos hb];exact h
  ·rename_i hb;rw[if_neg hb];exact h
 ·exact h.elim
theorem Zf9(h:MS X io st (Zye i (o2 fa))):MS X io st (oS (wE fa (Ws i))):=h.weak λD δ h=>Zhq h
theorem Zxt(h:MS X io st (Zkk i (o2 fa))):MS X io st (oS (wE fa (Wf i))):=h.weak λD δ h=>Zhq h
section
variable {n:Nat}{caps:List Nat}{o q:Nat}{it:FI}{gg:FG}{t:FT}{me:FE}
theorem Zjk(h:MS X io st (if true=true then Zkk i (Zd9 n caps (o2 it) (oG gg) (o2 t) (o2 me))else Zye i (Zd9 n caps (o2 it) (oG gg) (o2 t) (o2 me)))):MS X io st (oS (wE (Wa n caps it gg t me) (Wf i))) :=
 h.weak λD δ h=>by rw[if_pos rfl];exact Zmw (Zhq h)
theorem Zho(h:MS X io st (if false=true then Zkk i (Zd9 n caps (o2 it) (oG gg) (o2 t) (o2 me))else Zye i (Zd9 n caps (o2 it) (oG gg) (o2 t) (o2 me)))):MS X io st (oS (wE (Wa n caps it gg t me) (Ws i))) :=
 h.weak λD δ h=>by rw[if_neg Xw];exact Zmw (Zhq h)
end
theorem Wn(h:MS X io st (Zff i (o2 fa))):MS X io st (oS (Zw i fa)):=h.weak λD δ h=>by
 unfold oS Zw at h;unfold Zff
 split at h
 case h_2=>exact h.elim
 rename_i q;(try rw[q])
 refine(Zhq h).imp λr δ' z=>?_
 split at z
 ·rename_i q2;(try rw[q2]);exact Zcs z
 ·exact z.elim
theorem Zet(h:MS X io st (Zcy i (o2 fa))):MS X io st (oS (Je i fa)):=h.weak λD δ h=>by
 unfold oS Je at h;unfold Zcy
 split at h
 case h_2=>exact h.elim
 rename_i q;(try rw[q])
 refine(Zhq h).imp λr δ' z=>?_
 split at z
 ·rename_i q2;(try rw[q2]);exact Zcs z
 ·exact z.elim
theorem Z1x(h:MS X io st (Z9f i (o2 fa) (o2 fb))):MS X io st (oS (Zyk i fa fb)):=h.weak λD δ h=>by
 refine(Zhq h).imp λr δ' z=>?_
 split at z
 case h_2=>exact z.elim
 rename_i q;(try rw[q])
 refine(Zhq z).imp λn δ2 z=>?_
 split at z
 case h_2=>exact z.elim
 rename_i k q2;(try rw[q2])
 show match ixN _ k with|some j=>_|none=>_
 split at z
 ·rename_i q3;(try rw[q3]);exact z
 ·exact z.elim
theorem Znj(h:MS X io st (Zft i (oS u))):MS X io st (oS (Zb1 i u)):=h.weak λD δ h=>by
 unfold oS Zb1 at h;unfold Zft
 split at h
 ·rename_i q;(try rw[q]);exact h
 ·exact h.elim
theorem Zab{gg:FG}{d:Xa}{ds:List Xa}{δ:Zd}:forLoop gg u (d :: ds) δ=match gg d δ with
  | none=>.bad
  | some δ1=>match u δ1 with
   | .nx δ2=>forLoop gg u ds δ2
   | .ct δ2=>forLoop gg u ds δ2
   | .bk δ2=>.nx δ2
   | r=>r:=rfl
theorem Zzu{it:FI}{gg:FG}(h:MS X io st (Z88 (o2 it) (oG gg) (oS u))):MS X io st (oS (Jy it gg u)):=h.weak λD δ h=>by
 unfold oS Jy at h
 split at h
 case h_2=>exact h.elim
 rename_i ds δ1 q
 refine⟨ds,δ1,q,λi δ'=>(forLoop gg u (ds.drop i) δ').fits D,by show RS.fits D (forLoop gg u (ds.drop 0) δ1);rw[List.drop_zero];exact h,λi d δ' hd z=>?_,λδ' z=>?_⟩
 ·obtain⟨hi,hdi⟩:=Xi.mp hd
  replace z:RS.fits D (forLoop gg u (ds.drop i) δ'):=z
  rw[V2 hi,hdi,Zab]at z
  split at z
  case h_1=>exact z.elim
  rename_i δ2 q2
  refine⟨δ2,q2,?_⟩
  unfold oS
  cases q3:u δ2<;>rw[q3]at z<;>(try rw[q3])<;>exact z
 ·replace z:RS.fits D (forLoop gg u (ds.drop ds.length) δ'):=z
  rw[List.drop_length]at z;exact z
theorem Zpu(h:MS X io st (Zsp (o2 ta) (oS u))):MS X io st (oS (Zev ta u)):=h.weak λD δ h=>by
 unfold oS Zev at h
 split at h
 case isFalse=>exact h.elim
 rename_i hn
 refine⟨λn δ'=>(whileLoop ta u n δ').fits D,⟨_,h⟩,λn δ' z=>?_⟩
 cases n with
 | zero=>exact z.elim
 | succ n=>
  unfold whileLoop at z
  split at z
  case h_1=>exact z.elim
  rename_i b δ1 q
  refine⟨b,δ1,q,?_⟩
  split at z
  ·rename_i hb
   rw[if_pos hb]
   refine⟨λδ''=>(whileLoop ta u n δ'').fits D,λδ'' y=>⟨n,QL n,y⟩,?_⟩
   unfold oS
   cases q3:u δ1<;>rw[q3]at z<;>exact z
  ·rename_i hb
   rw[if_neg hb]
   exact z
theorem Zat{n m:Nat}:∀{δ:Zd},whileLoop ta u n δ≠ .bad->whileLoop ta u (n+m) δ=whileLoop ta u n δ:=by
 induction n with
 | zero=>intro δ h;exact absurd rfl h
 | succ n ih=>
  intro δ h
  rw[Nat.succ_add]
  unfold whileLoop at h⊢
  cases q:ta δ with
  | none=>rfl
  | some x=>
   obtain⟨b,δ1⟩:=x
   rw[q]at h
   try dsimp only at h⊢
   split
   ·rename_i hb
    rw[if_pos hb]at h
    cases q3:u δ1<;>rw[q3]at h<;>first|exact ih h|rfl
   ·rfl
theorem Zoh{r:RS}{δ:Zd}(n:Nat)(h:whileLoop ta u n δ=r)(hr:r≠ .bad):Zev ta u δ=r:=by
 have hn:∃n,whileLoop ta u n δ≠ .bad:=⟨n,by rw[h];exact hr⟩
 unfold Zev
 rw[dif_pos hn]
 have h1:=Classical.choose_spec hn
 have e1:=Zat (m:=n) h1
 have e2:=Zat (m:=Classical.choose hn) (show whileLoop ta u n δ≠ .bad by rw[h];exact hr)
 rw[Nat.add_comm]at e2
 rw[←e1,e2,h]
theorem Wk{cn:Str}:MS X io st (oS (Zbh cn)):=Zqr.weak λD δ h=>h
theorem Yab{F:FD}{k:OT->Zd->RS}(h:MS X io st (oS (wE (Yi F ra) k))):MS X io st (oS (wX F ra k)):=h.weak λD δ h=>by
 unfold oS wX at h;unfold oS wE Yi
 split at h
 case h_2=>exact h.elim
 rename_i rs δ1 q
 (try rw[q])
 dsimp only[Option.bind]
 split at h
 ·rename_i q2;(try rw[q2]);exact h
 ·exact h.elim
 ·exact h.elim
theorem XS.weak{m m':MXt}(h:XS X io st m)(w:∀δ k,m' δ k->m δ k):XS X io st m':=λC pins s σ H δ fp ex k I R hm=>h C pins s σ H δ fp ex k I R (w δ k hm)
theorem XSs.weak{m m':MXt}(h:XSs X io sts m)(w:∀δ k,m' δ k->m δ k):XSs X io sts m':=λC pins s σ H δ fp ex k I R hm=>h C pins s σ H δ fp ex k I R (w δ k hm)
theorem XE.weak{m m':MXt}(h:XE X io e m)(w:∀δ k,m' δ k->m δ k):XE X io e m':=λC pins s σ H δ fp ex k I R hm=>h C pins s σ H δ fp ex k I R (w δ k hm)
class NoEx (f:FS):Prop where
 no:∀δ cn δ',f δ≠ .ex cn δ'
class NoExK (k:OT->Zd->RS):Prop where
 no:∀r δ cn δ',k r δ≠ .ex cn δ'
theorem Zxj(f:FS)[NoEx f]:XS X io st (xS X.K f):=Zra.weak λδ k ⟨cn,_,δ',h,_⟩=>(NoEx.no δ cn δ' h).elim
theorem Zeq(f:FS)[NoEx f]:XSs X io sts (xS X.K f):=Zn0.weak λδ k ⟨cn,_,δ',h,_⟩=>(NoEx.no δ cn δ' h).elim
instance nx_kDrop_k:NoExK Zqh:=⟨λ_ _ _ _ h=>by cases h⟩
instance nx_kSet_k:NoExK (Ws i):=⟨λ_ _ _ _ h=>by cases h⟩
instance nx_kSetO_k:NoExK (Wf i):=⟨λ_ _ _ _ h=>by cases h⟩
instance nx_wE{k:OT->Zd->RS}[NoExK k]:NoEx (wE fa k):=⟨λδ cn δ' h=>by
 unfold wE at h
 split at h
 ·exact NoExK.no _ _ _ _ h
 ·cases h⟩
instance nx_fNx:NoEx fNx:=⟨λ_ _ _ h=>by cases h⟩
instance nx_fRetO:NoEx (Zaw i):=⟨λ_ _ _ h=>by unfold Zaw at h;split at h<;>cases h⟩
theorem Zvb{k:OT->Zd->RS}{δ:Zd}(n:∀r δ cn δ',k r δ≠ .ex cn δ'){cn:Str}{δ':Zd}(h:wE fa k δ= .ex cn δ'):False:=by
 unfold wE at h
 split at h
 ·exact n _ _ _ _ h
 ·cases h
instance nx_fAppend:NoEx (Zw i fa):=⟨λδ cn δ' h=>by
 unfold Zw at h
 split at h
 ·exact Zvb (λr δ1 _ _ z=>by
   split at z
   ·split at z<;>cases z
   ·cases z) h
 ·cases h⟩
theorem Zcw{cn:Str}{C:Addr}(hc:ClsAt X.K cn C)(h:XS X io st (Zoq C)):XS X io st (xS X.K (Zbh cn)):=h.weak λδ k z=>by
 obtain⟨c',C',δ',h,k1,k2⟩:=z
 cases h
 have:=k1.symm.trans hc
 injection this with this;injection this with this;injection this with this
 subst this
 exact k2
theorem Zvu{F:FD}{k:OT->Zd->RS}[NoExK k](h:XE X io e (Ztf (sX X.K F) (o2 ra))):XE X io e (xS X.K (wX F ra k)):=h.weak λδ kk z=>by
 obtain⟨c',C',δ',h,k1,k2⟩:=z
 unfold wX at h
 split at h
 case h_2=>cases h
 rename_i rs δ1 q
 refine⟨rs,δ1,q,?_⟩
 split at h
 ·exact(NoExK.no _ _ _ _ h).elim
 ·rename_i q2
  cases h
  exact⟨C',⟨_,q2,k1⟩,k2⟩
 ·cases h
theorem Zcn(h1:XS X io st (xS X.K f))(m1:MS X io st (oS f))(h2:XSs X io sts (xS X.K g))(hx:X.xe= λ_ _=>False:=by rfl):XSs X io (st :: sts) (xS X.K (Zr f g)):=by
 intro C pins s σ H δ fp ex k I R hm
 obtain⟨cn,C',δ',h,k1,k2⟩:=hm
 unfold Zr at h
 split at h
 ·rename_i δ1 q
  exact Zq2 m1 h2 hx C pins s σ H δ fp ex k I R (by
   show(f δ).fits _
   (try rw[q])
   exact⟨cn,C',δ',h,k1,k2⟩)
 ·exact Zi5 h1 C pins s σ H δ fp ex k I R ⟨cn,C',δ',h,k1,k2⟩
theorem Zb5(h1:XS X io st (xS X.K f)):XSs X io [st] (xS X.K f):=Zi5 h1
theorem Zqw{a b:List Stmt}{pos:Pos}(h:XS X io (.If e a b pos) (Z9q (o2 ta) (xS X.K u) (xS X.K w))):XS X io (.If e a b pos) (xS X.K (W5 ta u w)):=h.weak λδ k z=>by
 obtain⟨cn,C',δ',h,k1,k2⟩:=z
 unfold W5 at h
 split at h
 case h_2=>cases h
 rename_i b δ1 q
 refine⟨b,δ1,q,?_⟩
 split at h
 ·rename_i hb;rw[if_pos hb];exact⟨cn,C',δ',h,k1,k2⟩
 ·rename_i hb;rw[if_neg hb];exact⟨cn,C',δ',h,k1,k2⟩
theorem Zen{gg:FG}{cn:Str}{δ':Zd}:∀(ds:List Xa) (δ:Zd),forLoop gg u ds δ= .ex cn δ'->∃(S:Nat->Zd) (r:Nat),r<ds.length∧S 0=δ∧
  (∀ i d,i<r->ds[i]? =some d->∃δ1,gg d (S i)=some δ1∧(u δ1= .nx (S (i+1))∨u δ1= .ct (S (i+1))))∧∀d,ds[r]? =some d->∃δ1,gg d (S r)=some δ1∧u δ1= .ex cn δ'
 | [],δ,h=>by cases h
 | d :: ds,δ,h=>by
  rw[Zab]at h
  split at h
  ·cases h
  rename_i δ1 q
  have go:∀δ2,(u δ1= .nx δ2∨u δ1= .ct δ2)->forLoop gg u ds δ2= .ex cn δ'->∃(S:Nat->Zd) (r:Nat),r<(d :: ds).length∧S 0=δ∧
    (∀ i d',i<r->(d :: ds)[i]? =some d'->∃δ1,gg d' (S i)=some δ1∧(u δ1= .nx (S (i+1))∨u δ1= .ct (S (i+1))))∧∀d',(d :: ds)[r]? =some d'->∃δ1,gg d' (S r)=some δ1∧u δ1= .ex cn δ':=λδ2 hu hl=>by
   obtain⟨S,r,h1,h2,h3,h4⟩:=Zen ds δ2 hl
   refine⟨λi=>match i with|0=>δ|i+1=>S i,r+1,by simpa using h1,rfl,λi d' hi hd=>?_,λd' hd=>h4 d' (by simpa using hd)⟩
   cases i with
   | zero=>
    have:d=d':=by simpa using hd
    subst this
    exact⟨δ1,q,by show _=RS.nx (S 0)∨_=RS.ct (S 0);rw[h2];exact hu⟩
   | succ i=>exact h3 i d' (by omega) (by simpa using hd)
  split at h
  ·rename_i q2;exact go _ (.inl q2) h
  ·rename_i q2;exact go _ (.inr q2) h
  ·cases h
  ·rename_i q2 _ _ _
   exact⟨λ_=>δ,0,by simp,rfl,λi d' hi=>absurd hi (JQ i),λd' hd=>by
    have:d=d':=by simpa using hd
    subst this
    exact⟨δ1,q,h⟩⟩
theorem Zsm{it:FI}{gg:FG}(h:XS X io st (Z1w (o2 it) (oG gg) (oS u) (xS X.K u))):XS X io st (xS X.K (Jy it gg u)):=h.weak λδ k z=>by
 obtain⟨cn,C',δ',h,k1,k2⟩:=z
 unfold Jy at h
 split at h
 case h_2=>cases h
 rename_i ds δ1 q
 refine⟨ds,δ1,q,?_⟩
 obtain⟨S,r,h1,h2,h3,h4⟩:=Zen ds δ1 h
 refine⟨λi δ=>δ=S i,r,h1,h2.symm,λi d δ2 hi hd e=>?_,λd δ2 hd e=>?_⟩
 ·subst e
  obtain⟨δ3,a,b⟩:=h3 i d hi hd
  refine⟨δ3,a,?_⟩
  unfold oS
  rcases b with b|b<;>rw[b]<;>rfl
 ·subst e
  obtain⟨δ3,a,b⟩:=h4 d hd
  exact⟨δ3,a,cn,C',δ',b,k1,k2⟩
end
section
variable {P:X4}{w:Qm}{K:Xd}{mg:Str->Option Xc}{base:Heap}{x qual:Str}{st:Stmt}{f:Addr}{fd:QD}{N ps:List Str}{n np nn:Nat}{S:FS}
theorem RS.told_fits{r:RS}{o:OT}{k:OT->Prop}(h:r.told= .ok o)(hk:k o):r.fits (Zxn k):=by
 cases r<;>unfold RS.told at h<;>first|(cases h;exact hk)|cases h
theorem W9(F:Fun K x qual st f fd)(Sc:Yc N ps (Zg st))(hN:N.length=nn)(hp:np=ps.length)
  (hb:∀(cdv:Xc) (A:Qn) (outer:List Env) (s:Xf) (H:Hp) (E:XK),Room n (A.deeper (envOfC qual (Zg st) s.heap.objs.size f cdv))->MSs (Zpe CX0 P w K mg base N qual (Zg st) f cdv A outer s H E).nox [] (Zx st) (oS S)) :
  FnOk P w K mg base CX0 (n+1) f fd ps (spD K (sD (J1 np nn S))):=by
 subst hN hp
 refine F.okD Sc (λds k h=>?_) λcdv A outer s H E hr=>⟨_,hb cdv A outer s H E hr,λds k h=>?_⟩
 ·obtain⟨r,h,_⟩:=h
  unfold J1 at h
  split at h
  ·assumption
  ·cases h
 ·obtain⟨r,h,hk⟩:=h
  unfold J1 at h
  split at h
  ·exact RS.told_fits h hk
  ·cases h
theorem Zsx(F:Fun K x qual st f fd)(Sc:Yc N ps (Zg st))(hN:N.length=nn)(hp:np=ps.length)
  (hb:∀(cdv:Xc) (A:Qn) (outer:List Env) (s:Xf) (H:Hp) (E:XK),Room n (A.deeper (envOfC qual (Zg st) s.heap.objs.size f cdv))->XSs (Zpe (CX1 P w) P w K mg base N qual (Zg st) f cdv A outer s H E).nox [] (Zx st) (xS K S)) :
  FnOk P w K mg base (CX1 P w) (n+1) f fd ps (spX K (sX K (J1 np nn S))):=by
 subst hN hp
 refine F.okX Sc (λds cl h=>?_) λcdv A outer s H E hr=>⟨_,hb cdv A outer s H E hr,λds cl h=>?_⟩
 ·obtain⟨r,h,_⟩:=h
  unfold J1 at h
  split at h
  ·assumption
  ·cases h
 ·obtain⟨c,h,hc⟩:=h
  unfold J1 at h
  split at h
  case isFalse=>cases h
  have e:Jv N.length ds=Ze1 N ds:=rfl
  rw[e]at h
  cases q:S (Ze1 N ds)<;>rw[q]at h<;>unfold RS.told at h<;>cases h
  exact⟨_,cl,_,q,hc,rfl⟩
end
noncomputable def i2(g:Int->Int->Xa):Xa->Xa->Option Xa:=λd e=>match d,e with| .int i,.int j=>some (g i j)|_,_=>none
noncomputable def i2c(c:Int->Int->Bool)(g:Int->Int->Xa):Xa->Xa->Option Xa:=λd e=>match d,e with| .int i,.int j=>if c i j=true then some (g i j)else none|_,_=>none
theorem Zm1{g:Int->Int->Xa}:ByS (i2 g) (Ztd g):=λd e r k h hk=>by
 unfold i2 at h
 split at h
 ·cases h;exact hk
 ·cases h
theorem Zjj{c:Int->Int->Bool}{C:Int->Int->Prop}{g:Int->Int->Xa}(hc:∀i j,c i j=true->C i j):ByS (i2c c g) (d2I C g):=λd e r k h hk=>by
 unfold i2c at h
 split at h
 ·split at h
  ·cases h;exact⟨hc _ _ ‹_›,hk⟩
  ·cases h
 ·cases h
noncomputable def Zyc(a b:Int):Bool:=!(decide (Ul a>shortFactorBits)&&decide (Ul b>shortFactorBits)&&Vo.Int.intTooBig (Ul a+Ul b))
noncomputable def Z3l(_ j:Int):Bool:=decide (j≠0)&&decide (j.natAbs.log2<9000)
noncomputable def Z79(_ j:Int):Bool:=decide (j≠0)
noncomputable def Ya5(i j:Int):Bool:=decide (0≤j∧j≤1000000∧i.natAbs<2^64)
theorem Zfi{a b:Int}:Zyc a b=true↔IntMulOk a b:=by
 unfold Zyc IntMulOk
 rw[Bool.not_eq_true',Bool.not_eq_true]
noncomputable def Jq:=i2 λi j=>.int (i+j)
noncomputable def gSb:=i2 λi j=>.int (i-j)
noncomputable def Zdz:=i2c Zyc λi j=>.int (i*j)
noncomputable def W8:=i2c Z3l λi j=>.int (i.fdiv j)
noncomputable def J2:=i2c Z79 λi j=>.int (i.fmod j)
noncomputable def Zq9:=i2c Ya5 λi j=>.int (i^j.toNat)
noncomputable def gLt:=i2 λi j=>.bool (decide (i<j))
noncomputable def gLe:=i2 λi j=>.bool (decide (i≤j))
noncomputable def gGt:=i2 λi j=>.bool (decide (j<i))
noncomputable def gGe:=i2 λi j=>.bool (decide (j≤i))
theorem Z57:ByS Jq (Ztd λi j=>.int (i+j)):=Zm1
theorem Z5c:ByS gSb (Ztd λi j=>.int (i-j)):=Zm1
theorem Z60:ByS Zdz (d2I MulOk λi j=>.int (i*j)):=Zjj λi j h=>⟨Zfi.mp h⟩
theorem Zyp:ByS W8 (d2I Z9m λi j=>.int (i.fdiv j)):=Zjj λi j h=>⟨by
 unfold Z3l at h
 rw[XN]at h
 exact⟨of_decide_eq_true h.1,of_decide_eq_true h.2⟩⟩
theorem Z7v:ByS J2 (d2I (λ_ j=>j≠0) λi j=>.int (i.fmod j)):=Zjj λi j h=>of_decide_eq_true h
theorem Z7q:ByS Zq9 (d2I Z9t λi j=>.int (i^j.toNat)):=Zjj λi j h=>⟨(of_decide_eq_true h:0≤j∧j≤1000000∧i.natAbs<2^64)⟩
theorem Ya3:ByS gLt (Ztd λi j=>.bool (decide (i<j))):=Zm1
theorem Ybh:ByS gGt (Ztd λi j=>.bool (decide (j<i))):=Zm1
theorem Ybb:ByS gGe (Ztd λi j=>.bool (decide (j≤i))):=Zm1
noncomputable def gEq:Xa->Xa->Option Xa:=λd e=>if(UT d&&UT e)=true then some (.bool (JV d e))else none
noncomputable def gNe:Xa->Xa->Option Xa:=λd e=>if(UT d&&UT e)=true then some (.bool (!JV d e))else none
theorem Z6b:ByS gEq dEq:=λd e r k h hk=>by
 unfold gEq at h
 split at h
 ·rename_i q
  rw[XN]at q
  cases h
  exact⟨⟨q.1⟩,⟨q.2⟩,hk⟩
 ·cases h
theorem Ybe:ByS gNe dNe:=λd e r k h hk=>by
 unfold gNe at h
 split at h
 ·rename_i q
  rw[XN]at q
  cases h
  exact⟨⟨q.1⟩,⟨q.2⟩,hk⟩
 ·cases h
noncomputable def gIs:Xa->Xa->Option Xa:=λd e=>match e with| .none=>some (.bool (Zbr d))|_=>none
noncomputable def Zz6:Xa->Xa->Option Xa:=λd e=>match e with| .none=>some (.bool (!Zbr d))|_=>none
theorem Yby:ByS gIs Z8c:=λd e r k h hk=>by
 unfold gIs at h
 split at h
 ·cases h;exact⟨rfl,hk⟩
 ·cases h
noncomputable def Ztr(neg:Bool):Xa->Xa->Option Xa:=λd e=>match Ziu e with
 | some ds=>if(scD d&&ds.all scD)=true then some (.bool (if neg then !memS d ds else memS d ds))else none
 | none=>none
theorem Z7x{neg:Bool}:ByS (Ztr neg) (dIn neg):=λd e r k h hk=>by
 unfold Ztr at h
 split at h
 case h_2=>cases h
 rename_i ds q
 split at h
 case isFalse=>cases h
 rename_i q2
 rw[XN]at q2
 cases h
 refine⟨q2.1,?_⟩
 cases e<;>cases q
 ·exact⟨q2.2,hk⟩
 ·exact⟨q2.2,hk⟩
noncomputable def gIx:Xa->Xa->Option OT:=λd e=>(ixD d e).bind λx=>some (.fz x)
theorem Yb4:ByO gIx dIx:=λd e r k h hk=>by
 obtain⟨x,h1,h2⟩:=bs h
 cases h2
 unfold dIx
 rw[h1]
 exact hk
noncomputable def Zpf:Xa->Xa->Option OT:=λd e=>match d,e with| .list ds,.list es=>if ds.length+es.length≤Xr then some (.nd ((ds ++ es).map OT.fz))else none|_,_=>none
theorem Z2u:ByO Zpf dCat:=λd e r k h hk=>by
 unfold Zpf at h
 split at h
 ·split at h
  ·cases h;exact⟨‹_›,hk⟩
  ·cases h
 ·cases h
noncomputable def Zfu:List Xa->Option Xa:=λds=>match ds with|[d]=>(Zp3 d).bind λn=>some (.int n)|_=>none
theorem Z4w:∀ds r k,Zfu ds=some r->k r->Z91 ds k:=λds r k h hk=>by
 unfold Zfu at h
 split at h
 ·obtain⟨n,h1,h2⟩:=bs h
  cases h2
  show match Zp3 _ with|some n=>_|none=>_
  rw[h1]
  exact hk
 ·cases h
noncomputable def Zyl:List Xa->Option Xa:=λds=>match ds with|[.int i]=>some (.int (if i<0 then -i else i))|_=>none
theorem Z5f:∀ds r k,Zyl ds=some r->k r->Z93 ds k:=λds r k h hk=>by
 unfold Zyl at h
 split at h
 ·cases h;exact hk
 ·cases h
noncomputable def Zun:List Xa->Option Xa:=λds=>match ds with|[.int i,.int j]=>some (.int (if j>i then j else i))|_=>none
theorem Z7z:∀ds r k,Zun ds=some r->k r->Z96 ds k:=λds r k h hk=>by
 unfold Zun at h
 split at h
 ·cases h;exact hk
 ·cases h
noncomputable def Zua:List Xa->Option Xa:=λds=>match ds with|[.int i,.int j]=>some (.int (if j<i then j else i))|_=>none
theorem Z7c:∀ds r k,Zua ds=some r->k r->Z9v ds k:=λds r k h hk=>by
 unfold Zua at h
 split at h
 ·cases h;exact hk
 ·cases h
noncomputable def Z84:List Xa->Option Xa:=λds=>match ds with|[.int i]=>some (.int i)|[.bool b]=>some (.int (if b then 1 else 0))|_=>none
noncomputable def Zks:List Xa->Option OT:=λds=>match ds with|[d]=>(Ziu d).bind λes=>some (.nd (es.map OT.fz))|_=>none
theorem Z3r:∀ds r k,Zks ds=some r->k r->Z02 ds k:=λds r k h hk=>by
 unfold Zks at h
 split at h
 ·obtain⟨n,h1,h2⟩:=bs h
  cases h2
  show match Ziu _ with|some n=>_|none=>_
  rw[h1]
  exact hk
 ·cases h
noncomputable def Zkq:List Xa->Option (List Int)
 | []=>some []
 | .int i :: r=>(Zkq r).bind λl=>some (i :: l)
 | _ :: _=>none
theorem Zfe:∀{ds:List Xa} {ns:List Int},Zkq ds=some ns->ds=ns.map XM
 | [],_,h=>by cases h;rfl
 | .int i :: r,_,h=>by
  obtain⟨l,h1,h2⟩:=bs h
  cases h2
  rw[Zfe h1];rfl
 | .none :: _,_,h=>by cases h
 | .bool _ :: _,_,h=>by cases h
 | .str _ :: _,_,h=>by cases h
 | .list _ :: _,_,h=>by cases h
 | .tuple _ :: _,_,h=>by cases h
 | .dict _ :: _,_,h=>by cases h
@[simp] theorem Zlr:∀ns:List Int,Zkq (ns.map XM)=some ns
 | []=>rfl
 | n :: ns=>by rw[Qg,Zkq,Zlr ns];rfl
section
variable {X:Cx}{io:List Nat}{p c:Bool}{e tg:Expr}{es:List Expr}{st:Stmt}{fa fb fc:FE}{ra:FA}{i:Nat}
noncomputable def Z9g(a:FA):FE:=λδ=>(a δ).bind λp=>match OT.datas p.1 with|[.int j]=>if rOk j=true∧j.toNat≤Xr then some (.nd ((Zd0 0 j.toNat).map OT.fz),p.2)else none|_=>none
noncomputable def Z31(a b:FE):FE:=λδ=>(a δ).bind λp=>(b p.2).bind λq=>match q.1.data with| .int k=>if rOk k=true∧k.toNat≤Xr then some (.nd (Qi k.toNat (.fz p.1.data)),p.2)else none|_=>none
theorem Z03(h:ME X io p c e (Z9b (o2 fa) (o2 fb))):ME X io p c e (o2 (Z31 fa fb)):=h.weak λδ K h=>by
 obtain⟨r,δ',h,k⟩:=h
 obtain⟨⟨x,δ1⟩,h1,h⟩:=bs h
 obtain⟨⟨y,δ2⟩,h2,h⟩:=bs h
 refine⟨x,δ1,h1,y,δ2,h2,?_⟩
 try dsimp only at h⊢
 split at h
 case h_2=>cases h
 rename_i q
 (try rw[q])
 split at h
 case isFalse=>cases h
 rename_i b
 cases h
 have z:=Zb4 b.1
 exact⟨⟨by omega,by omega,b.2⟩,k⟩
noncomputable def Zyf(i:Nat)(a:FE):FE:=λδ=>match δ[i]? with
 | some (some (.nd _))=>(a δ).bind λp=>match p.2[i]? with
  | some (some (.nd ts))=>match p.1.data with
   | .int j=>match ixN ts.length j with
    | some k=>match ts[k]? with
     | some (.fz d)=>if ts.length≤Xr then some (.fz d,p.2.set i (some (.nd (ts.eraseIdx k))))else none
     | _=>none
    | none=>none
   | _=>none
  | _=>none
 | _=>none
theorem Zzn(h:ME X io p c e (Z4q i (o2 fa))):ME X io p c e (o2 (Zyf i fa)):=h.weak λδ K h=>by
 obtain⟨r,δ',h,k⟩:=h
 unfold Zyf at h;unfold Z4q
 split at h
 case h_2=>cases h
 rename_i q;(try rw[q])
 obtain⟨⟨x,δ1⟩,h1,h⟩:=bs h
 refine⟨x,δ1,h1,?_⟩
 try dsimp only at h⊢
 split at h
 case h_2=>cases h
 rename_i q2;(try rw[q2])
 try dsimp only
 split at h
 case h_2=>cases h
 rename_i j q3;(try rw[q3])
 show match ixN _ j with|some k=>_|none=>_
 split at h
 case h_2=>cases h
 rename_i q4;(try rw[q4]);(try dsimp only)
 split at h
 case h_2=>cases h
 rename_i q5;(try rw[q5])
 split at h
 case isFalse=>cases h
 cases h
 exact⟨‹_›,k⟩
end
variable {G:Xd}
section
variable {X:Cx}{io:List Nat}{p c:Bool}{e a b:Expr}{es:List Expr}{m ma mb:MEt}{mr:MAt}{pos apos cpos px py pt sp kp:Pos}{i j:Nat}{x y:Str}{fa fb:FE}{ra:FA}{st:Stmt}
noncomputable def Z5t(a:FA):FE:=λδ=>(a δ).bind λp=>if p.1.length≤Xr then some (.tp p.1,p.2)else none
noncomputable def Ztp(i c:Nat)(e:FE):FS:=λδ=>match δ[i]? with
 | some (some (.tp ts))=>match ts[c]? with
  | some (.nd us)=>wE e (λr _=>if us.length<Xr then .nx (δ.set i (some (.tp (ts.set c (.nd (us ++ [.fz r.data]))))))else .bad) δ
  | _=>.bad
 | _=>.bad
noncomputable def Yaa(i j:Nat)(a:FA):FS:=λδ=>match a δ with
 | some (rs,δ1)=>match OT.datas rs with
  | [d,e]=>.nx ((δ1.set i (some (.fz d))).set j (some (.fz e)))
  | _=>.bad
 | none=>.bad
end
class NoStar (e:Expr):Prop where
 h:∀es env,Xv (e :: es) env=(false,eval e env) :: Xv es env
instance nx_Name{x:Str}{p:Pos}:NoStar (.Name x p):=⟨λ_ _=>rfl⟩
instance nx_Constant{x k}{p:Pos}:NoStar (.Constant x k p):=⟨λ_ _=>rfl⟩
instance nx_BinOp{a o b}{p:Pos}:NoStar (.BinOp a o b p):=⟨λ_ _=>rfl⟩
instance nx_Call{f a k}{p:Pos}:NoStar (.Call f a k p):=⟨λ_ _=>rfl⟩
instance nx_Subscript{a b}{p:Pos}:NoStar (.Subscript a b p):=⟨λ_ _=>rfl⟩
instance nx_ListComp{a b s}{p:Pos}:NoStar (.ListComp a b s p):=⟨λ_ _=>rfl⟩
theorem Zk{X:Cx}{io:List Nat}{p p' c c' p2 c2:Bool}{e:Expr}{es:List Expr}{fa:FE}{ra:FA}[NoStar e](ha:ME X io p c e (o2 fa))(hr:MA X io p' c' es (o2 ra))(hc:p'=true∨c=true:=by first|exact QF rfl|exact Qp rfl)(h2:(p&&p')=p2:=by rfl)(h3:(c&&c')=c2:=by rfl):MA X io p2 c2 (e :: es) (o2 (Ze fa ra)) :=
 h2▸h3▸Zvt (Zx8 ha hr hc (NoStar.h es X.env))
theorem Zkm{X:Cx}{io:List Nat}{p p' c c':Bool}{e:Expr}{m:MEt}(h:ME X io p c e m)(h2:p=p':=by rfl)(h3:c=c':=by rfl):ME X io p' c' e m:=h2▸h3▸h
structure Gives(P:X4)(w:Qm)(it:Addr)(f:List Addr)(St:Heap->Prop)(x:Xc)(St':Heap->Prop):Prop where
 mem:it∈f
 run:∀{A:Qn} {E:Xc->Xf->Prop} {s:Xf} {Q:Xc->Xf->Prop},St s.heap->(∀h',St' h'->Bk it s.heap h'->Q x { s with heap:=h' })->Xx (X5 P w) A (Q3 (.ref it)) Q E s
 keep:∀h h',(∀c∈f,∀o,h.get? c=some o->h'.get? c=some o)->St h->St h'
 keep':∀h h',(∀c∈f,∀o,h.get? c=some o->h'.get? c=some o)->St' h->St' h'
structure Zej(P:X4)(w:Qm)(it:Addr)(f:List Addr)(St:Heap->Prop):Prop where
 mem:it∈f
 run:∀{A:Qn} {E:Xc->Xf->Prop} {s:Xf} {Q:Xc->Xf->Prop},A.handled=none->St s.heap->(∀h' e,Heap.ExtBut it s.heap h'->(∃o,h'.get? e=some o∧o.cls= .type "StopIteration")->E (.ref e) { s with heap:=h' })->Xx (X5 P w) A (Q3 (.ref it)) Q E s
 keep:∀h h',(∀c∈f,∀o,h.get? c=some o->h'.get? c=some o)->St h->St h'
structure ZA(z TI TO i1 i2:Addr)(f1 f2:List Addr):Prop where
 TIz:TI≠z
 TOz:TO≠z
 a1:∀c∈f1,c≠z∧c≠TO∧c≠i2
 a2:∀c∈f2,c≠z∧c≠TO∧c≠i1
section
variable {P:X4}{w:Qm}{A:Qn}{E:Xc->Xf->Prop}{s:Xf}
theorem Zfp{T:Addr}{a b x:Xc}{k:Nat}{Q:Unit->Xf->Prop}(hT:Vg s.heap T a b)(h:∀h',h'.get? T=some { cls:=.type "tuple",data:=.seq ((#[a,b]:Array Xc).setIfInBounds k x) }->Bk T s.heap h'->Q () { s with heap:=h' }) :
  Xx (X5 P w) A (updateSeq T (·.setIfInBounds k x)) Q E s:=wpAny_updateSeq_pair hT h
theorem Zoa{z TI TO i1 i2:Addr}{f1 f2:List Addr}{S1 T1 S2 T2:Heap->Prop}{x y a b:Xc}{Q:Xc->Xf->Prop}(D:ZA z TI TO i1 i2 f1 f2)(G1:Gives P w i1 f1 S1 x T1)(G2:Gives P w i2 f2 S2 y T2)
  (hz:IsZip s.heap z TI TO .none) (hTI:Vg s.heap TI (.ref i1) (.ref i2)) (hTO:Vg s.heap TO a b) (h1:S1 s.heap) (h2:S2 s.heap)
  (hQ:∀h',IsZip h' z TI TO (JN s.heap.objs.size)->Vg h' TO x y->T1 h'->T2 h'->Vg h' s.heap.objs.size x y ->
   (∀ c o,c∉[z,TO,i1,i2]->s.heap.get? c=some o->h'.get? c=some o)->Q (.ref s.heap.objs.size) { s with heap:=h' }) :
  Xx (X5 P w) A (Vo.«zip.__next__» ⟨[.ref z],[]⟩) (λfin s'=>∃v,fin= .done (.ret v)∧Q v s') E s:=by
 obtain⟨i1z,i1O,i12⟩:=D.a1 i1 G1.mem
 obtain⟨i2z,i2O,i21⟩:=D.a2 i2 G2.mem
 have r1:z∉f1∧TO∉f1∧i2∉f1:=⟨λm=>(D.a1 z m).1 rfl,λm=>(D.a1 TO m).2.1 rfl,λm=>(D.a1 i2 m).2.2 rfl⟩
 have r2:z∉f2∧TO∉f2∧i1∉f2:=⟨λm=>(D.a2 z m).1 rfl,λm=>(D.a2 TO m).2.1 rfl,λm=>(D.a2 i1 m).2.2 rfl⟩
 have st:∀{b:Addr} {h h':Heap} {f:List Addr},Bk b h h'->b∉f->∀c∈f,∀o,h.get? c=some o->h'.get? c=some o:=λsb hb c hc o e=>sb.extBut _ _ (λq=>hb (q▸hc)) e
 show Xx _ _ (field (.ref z) 2>>=_) _ _ _
 refine Xb (JR hz rfl (x:=.bool false) rfl ?_)
 show Xx _ _ (field (.ref z) 3>>=_) _ _ _
 refine Xb (JR hz rfl (x:=.ref TI) rfl (Xb (Bd hTI rfl ?_)))
 show Xx _ _ (Bp (.ref z)>>=_) _ _ _
 refine Xb ?_
 unfold Bp
 refine Xb (JR hz rfl (x:=.none) rfl (Xk ?_))
 simp only[if_true]
 refine Xb (wpAny_rule (Xb (JR hz rfl (x:=.ref TO) rfl (Xb (Q5 hz (by simp) λh3 z3 b3=>?_)))))
 replace z3:IsZip h3 z TI TO .ellipsis:=z3
 refine Xb ?_
 simp only[List.zipIdx_cons,List.zipIdx_nil,List.forIn_cons,List.forIn_nil]
 refine Xb (Xb (wpAny_onRaise ?_))
 show Xx _ _ (Q3 (.ref i1)>>=_) _ _ _
 refine Xb (G1.run (s:={ s with heap:=h3 }) (G1.keep _ _ (st b3 r1.1) h1) λh4 k4 b4=>Xk ?_)
 have o4:Vg h4 TO a b:=b4.extBut _ _ i1O.symm (b3.extBut _ _ D.TOz hTO)
 refine Xb (Bd o4 rfl (Xb (Zfp (s:={ s with heap:=h4 }) o4 λh5 o5 b5=>Xb (wpAny_letGo (Xk ?_)))))
 replace o5:Vg h5 TO x b:=o5
 refine Xb (Xb (wpAny_onRaise ?_))
 show Xx _ _ (Q3 (.ref i2)>>=_) _ _ _
 refine Xb (G2.run (s:={ s with heap:=h5 }) (G2.keep _ _ (st b5 r2.2.1) (G2.keep _ _ (st b4 r2.2.2) (G2.keep _ _ (st b3 r2.1) h2))) λh6 k6 b6=>Xk ?_)
 have o6:Vg h6 TO x b:=b6.extBut _ _ i2O.symm o5
 refine Xb (Bd o6 rfl (Xb (Zfp (s:={ s with heap:=h6 }) o6 λh7 o7 b7=>Xb (wpAny_letGo (Xk (Xk ?_))))))
 replace o7:Vg h7 TO x y:=o7
 refine Xb (Bd o7 rfl (Xb (wpAny_newTuple ?_)))
 have sz:h7.objs.size=s.heap.objs.size:=by rw[b7.1,b6.1,b5.1,b4.1,b3.1]
 have z7:IsZip h7 z TI TO .ellipsis:=b7.extBut _ _ D.TOz.symm (b6.extBut _ _ i2z.symm (b5.extBut _ _ D.TOz.symm (b4.extBut _ _ i1z.symm z3)))
 have t1:T1 h7:=G1.keep' _ _ (st b7 r1.2.1) (G1.keep' _ _ (st b6 r1.2.2) (G1.keep' _ _ (st b5 r1.2.1) k4))
 have t2:T2 h7:=G2.keep' _ _ (st b7 r2.2.1) k6
 have old:∀c o,c∉[z,TO,i1,i2]->s.heap.get? c=some o->h7.get? c=some o:=λc o n e=>by
  simp only[Xn,Ur,or_false,not_or]at n
  exact b7.extBut _ _ n.2.1 (b6.extBut _ _ n.2.2.2 (b5.extBut _ _ n.2.1 (b4.extBut _ _ n.2.2.1 (b3.extBut _ _ n.1 e))))
 show Xx _ _ (Builtin.SmallTypes.ownedTupleHandOut (.ref z) (.ref h7.objs.size)>>=_) _ _ _
 refine Xb ?_
 unfold Builtin.SmallTypes.ownedTupleHandOut
 have zp:IsZip (h7.push { cls:=.type "tuple",data:=.seq #[x,y] }) z TI TO .ellipsis:=Xg _ z7
 refine Xb (Q5 zp (by simp) λh8 z8 b8=>?_)
 replace z8:IsZip h8 z TI TO (JN h7.objs.size):=z8
 refine Q5 z8 (by simp) λh9 z9 b9=>?_
 replace z9:IsZip h9 z TI TO (JN h7.objs.size):=z9
 have up:∀c o,c≠z->h7.get? c=some o->h9.get? c=some o:=λc o n e=>b9.extBut _ _ n (b8.extBut _ _ n (Xg _ e))
 have nz:h7.objs.size≠z:=X3 (XH z7)
 have p9:Vg h9 h7.objs.size x y:=b9.extBut _ _ nz (b8.extBut _ _ nz (XJ _ rfl))
 refine Xk ⟨_,rfl,?_⟩
 show Q (.ref h7.objs.size) _
 rw[sz]at z9 p9⊢
 exact hQ h9 z9 (up _ _ D.TOz o7) (G1.keep' _ _ (λc hc o e=>up c o (λq=>r1.1 (q▸hc)) e) t1) (G2.keep' _ _ (λc hc o e=>up c o (λq=>r2.1 (q▸hc)) e) t2) p9 λc o n e=>up c o (λq=>n (by simp[q])) (old c o n e)
theorem Zpg{z TI TO i1 i2:Addr}{f1 f2:List Addr}{S1 T1 S2:Heap->Prop}{a b:Xc}{Q:Fin->Xf->Prop}(hh:A.handled=none)(D:ZA z TI TO i1 i2 f1 f2)(g1:Zej P w i1 f1 S1∨(∃x,Gives P w i1 f1 S1 x T1)∧Zej P w i2 f2 S2)
  (hz:IsZip s.heap z TI TO .none) (hTI:Vg s.heap TI (.ref i1) (.ref i2)) (hTO:Vg s.heap TO a b) (h1:S1 s.heap) (h2:S2 s.heap)
  (hE:∀h' e,(∀c o,c∉[z,TO,i1,i2]->s.heap.get? c=some o->h'.get? c=some o)->(∃o,h'.get? e=some o∧o.cls= .type "StopIteration")->E (.ref e) { s with heap:=h' }) :
  Xx (X5 P w) A (Vo.«zip.__next__» ⟨[.ref z],[]⟩) Q E s:=by
 have r1:z∉f1∧TO∉f1∧i2∉f1:=⟨λm=>(D.a1 z m).1 rfl,λm=>(D.a1 TO m).2.1 rfl,λm=>(D.a1 i2 m).2.2 rfl⟩
 have r2:z∉f2∧TO∉f2∧i1∉f2:=⟨λm=>(D.a2 z m).1 rfl,λm=>(D.a2 TO m).2.1 rfl,λm=>(D.a2 i1 m).2.2 rfl⟩
 have st:∀{b:Addr} {h h':Heap} {f:List Addr},Bk b h h'->b∉f->∀c∈f,∀o,h.get? c=some o->h'.get? c=some o:=λsb hb c hc o e=>sb.extBut _ _ (λq=>hb (q▸hc)) e
 show Xx _ _ (field (.ref z) 2>>=_) _ _ _
 refine Xb (JR hz rfl (x:=.bool false) rfl ?_)
 show Xx _ _ (field (.ref z) 3>>=_) _ _ _
 refine Xb (JR hz rfl (x:=.ref TI) rfl (Xb (Bd hTI rfl ?_)))
 show Xx _ _ (Bp (.ref z)>>=_) _ _ _
 refine Xb ?_
 unfold Bp
 refine Xb (JR hz rfl (x:=.none) rfl (Xk ?_))
 simp only[if_true]
 refine Xb (wpAny_rule (Xb (JR hz rfl (x:=.ref TO) rfl (Xb (Q5 hz (by simp) λh3 z3 b3=>?_)))))
 replace z3:IsZip h3 z TI TO .ellipsis:=z3
 refine Xb ?_
 simp only[List.zipIdx_cons,List.zipIdx_nil,List.forIn_cons,List.forIn_nil]
 refine Xb (Xb (wpAny_onRaise ?_))
 show Xx _ _ (Q3 (.ref i1)>>=_) _ _ _
 rcases g1 with G1|⟨⟨x,G1⟩,G2⟩
 ·obtain⟨i1z,i1O,i12⟩:=D.a1 i1 G1.mem
  refine Xb (G1.run (s:={ s with heap:=h3 }) hh (G1.keep _ _ (st b3 r1.1) h1) λh4 e b4 he=>?_)
  obtain⟨oe,hoe,hce⟩:=he
  have z4:IsZip h4 z TI TO .ellipsis:=b4 _ _ i1z.symm z3
  have ez:e≠z:=λq=>by subst q;rw[z4]at hoe;cases hoe;simp at hce
  refine Q5 z4 (by simp) λh5 _ b5=>hE h5 e (λc o n q=>?_) ⟨oe,b5.extBut _ _ ez hoe,hce⟩
  simp only[Xn,Ur,or_false,not_or]at n
  exact b5.extBut _ _ n.1 (b4 _ _ n.2.2.1 (b3.extBut _ _ n.1 q))
 ·obtain⟨i1z,i1O,i12⟩:=D.a1 i1 G1.mem
  obtain⟨i2z,i2O,i21⟩:=D.a2 i2 G2.mem
  refine Xb (G1.run (s:={ s with heap:=h3 }) (G1.keep _ _ (st b3 r1.1) h1) λh4 k4 b4=>Xk ?_)
  have o4:Vg h4 TO a b:=b4.extBut _ _ i1O.symm (b3.extBut _ _ D.TOz hTO)
  refine Xb (Bd o4 rfl (Xb (Zfp (s:={ s with heap:=h4 }) o4 λh5 o5 b5=>Xb (wpAny_letGo (Xk ?_)))))
  refine Xb (Xb (wpAny_onRaise ?_))
  show Xx _ _ (Q3 (.ref i2)>>=_) _ _ _
  refine Xb (G2.run (s:={ s with heap:=h5 }) hh (G2.keep _ _ (st b5 r2.2.1) (G2.keep _ _ (st b4 r2.2.2) (G2.keep _ _ (st b3 r2.1) h2))) λh6 e b6 he=>?_)
  obtain⟨oe,hoe,hce⟩:=he
  have z6:IsZip h6 z TI TO .ellipsis:=b6 _ _ i2z.symm (b5.extBut _ _ D.TOz.symm (b4.extBut _ _ i1z.symm z3))
  have ez:e≠z:=λq=>by subst q;rw[z6]at hoe;cases hoe;simp at hce
  refine Q5 z6 (by simp) λh7 _ b7=>hE h7 e (λc o n q=>?_) ⟨oe,b7.extBut _ _ ez hoe,hce⟩
  simp only[Xn,Ur,or_false,not_or]at n
  exact b7.extBut _ _ n.1 (b6 _ _ n.2.2.2 (b5.extBut _ _ n.2.1 (b4.extBut _ _ n.2.2.1 (b3.extBut _ _ n.1 q))))
theorem Zj1{z TI TO i1 i2:Addr}{f1 f2:List Addr}{S1 T1 S2 T2:Heap->Prop}{x y a b:Xc}{Q:Option Xc->Xf->Prop}(D:ZA z TI TO i1 i2 f1 f2)(G1:Gives P w i1 f1 S1 x T1)(G2:Gives P w i2 f2 S2 y T2)
  (hz:IsZip s.heap z TI TO .none) (hTI:Vg s.heap TI (.ref i1) (.ref i2)) (hTO:Vg s.heap TO a b) (h1:S1 s.heap) (h2:S2 s.heap)
  (hQ:∀h',IsZip h' z TI TO (JN s.heap.objs.size)->Vg h' TO x y->T1 h'->T2 h'->Vg h' s.heap.objs.size x y ->
   (∀ c o,c∉[z,TO,i1,i2]->s.heap.get? c=some o->h'.get? c=some o)->Q (some (.ref s.heap.objs.size)) { s with heap:=h' }):Xx (X5 P w) A (V9 (.ref z)) Q E s:=by
 have hT:s.TypeIs (.ref z) "zip" :=⟨_,hz,rfl⟩
 unfold V9
 exact Xb (UW (JP (name:=V1 "__next__") hT F.slot_zip_next (JX F.slot_zip_next hT F.entry_zip_next (Zoa D G1 G2 hz hTI hTO h1 h2 λh' a1 a2 a3 a4 a5 a6=>Xk (hQ h' a1 a2 a3 a4 a5 a6)) (F.args_zip_next_1 _))))
theorem Zlw{z TI TO i1 i2:Addr}{f1 f2:List Addr}{S1 T1 S2:Heap->Prop}{a b:Xc}{Q:Option Xc->Xf->Prop}(hh:A.handled=none)(D:ZA z TI TO i1 i2 f1 f2)(g1:Zej P w i1 f1 S1∨(∃x,Gives P w i1 f1 S1 x T1)∧Zej P w i2 f2 S2)
  (hz:IsZip s.heap z TI TO .none) (hTI:Vg s.heap TI (.ref i1) (.ref i2)) (hTO:Vg s.heap TO a b) (h1:S1 s.heap) (h2:S2 s.heap)
  (hQ:∀h',(∀c o,c∉[z,TO,i1,i2]->s.heap.get? c=some o->h'.get? c=some o)->Q none { s with heap:=h' }):Xx (X5 P w) A (V9 (.ref z)) Q E s:=by
 have hT:s.TypeIs (.ref z) "zip" :=⟨_,hz,rfl⟩
 unfold V9
 refine Xb (UW (JP (name:=V1 "__next__") hT F.slot_zip_next (JX F.slot_zip_next hT F.entry_zip_next (Zpg hh D g1 hz hTI hTO h1 h2 λh' e hk he=>?_) (F.args_zip_next_1 _))))
 obtain⟨o,ho,hc⟩:=he
 exact Xb (wpAny_isInstance (T :="StopIteration") (b:=true) ⟨o,ho,hc⟩ isSubtype_stop (Xk (hQ _ hk)))
theorem Zpa{it t:Addr}{i:Nat}{items:Array Xc}{x:Xc}(hx:items[i]? =some x):Gives P w it [it,t] (λh=>IsTupIter h it t i∧IsTup h t items) x (λh=>IsTupIter h it t (i+1)) where
 mem:=by simp
 run:=fun{A E s Q} ⟨hit,ht⟩ hQ=>by
  obtain⟨o,ho,hc,hd⟩:=id hit
  obtain⟨ol,hol,_,nl,hdl⟩:=ht
  unfold Q3
  refine Xb (JP (name:=V1 "__next__") hit.typeIs slot_tupleiter_next (JX slot_tupleiter_next hit.typeIs entry_tupleiter_next ?_ (args_tupleiter_next _)))
  show Xx _ _ (field (.ref it) 0>>=_) _ _ s
  refine Xb (JR ho hd (x:=.ref t) rfl ?_)
  show Xx _ _ (if(Xu t==QK)=true then _ else _) _ _ s
  rw[if_neg (show¬((Xu t==QK)=true)from Xw)]
  show Xx _ _ (field (.ref it) 1>>=_) _ _ s
  refine Xb (JR ho hd (x:=.int i 0) rfl ?_)
  show Xx _ _ (seqItems? (.ref t)>>=_) _ _ s
  refine Xb (Bd hol hdl ?_)
  simp only[BK,hx]
  refine Xb (wpAny_setField ho hd (by simp) (Xk ⟨x,rfl,Xk (hQ _ ?_ (JM ..))⟩))
  exact⟨_,Uo _ ho (Obj.isFreed_of_fields (Obj.data_mapFields hd _)),(Obj.cls_mapFields ..).trans hc,by rw[Obj.data_mapFields hd];simp[JN]⟩
 keep:=λh h' k ⟨⟨o,a1,a2⟩,⟨o',b1,b2⟩⟩=>⟨⟨o,k it (by simp) o a1,a2⟩,⟨o',k t (by simp) o' b1,b2⟩⟩
 keep':=λh h' k ⟨o,a1,a2⟩=>⟨o,k it (by simp) o a1,a2⟩
theorem Zqz{it t:Addr}{i:Nat}{items:Array Xc}(hx:items[i]? =none):Zej P w it [it,t] (λh=>IsTupIter h it t i∧IsTup h t items) where
 mem:=by simp
 run:=fun{A E s Q} hh ⟨hit,ht⟩ hE=>by
  obtain⟨o,ho,hc,hd⟩:=id hit
  obtain⟨ol,hol,_,nl,hdl⟩:=ht
  unfold Q3
  refine Xb (JP (name:=V1 "__next__") hit.typeIs slot_tupleiter_next (JX slot_tupleiter_next hit.typeIs entry_tupleiter_next ?_ (args_tupleiter_next _)))
  show Xx _ _ (field (.ref it) 0>>=_) _ _ s
  refine Xb (JR ho hd (x:=.ref t) rfl ?_)
  show Xx _ _ (if(Xu t==QK)=true then _ else _) _ _ s
  rw[if_neg (show¬((Xu t==QK)=true)from Xw)]
  show Xx _ _ (field (.ref it) 1>>=_) _ _ s
  refine Xb (JR ho hd (x:=.int i 0) rfl ?_)
  show Xx _ _ (seqItems? (.ref t)>>=_) _ _ s
  refine Xb (Bd hol hdl ?_)
  simp only[BK,hx]
  refine Xb (wpAny_rule (Xb (wpAny_setField ho hd (by simp) ?_)))
  show Xx _ _ (newExc (.type "StopIteration") []>>=_) _ _ _
  refine Xb ?_
  simp only[newExc,newTuple]
  refine Xb (JK ?_ (by size_fits))
  refine Xb (m:=Uu _ _) (wpAny_of_eq (a:=QK) (by first|rfl|(simp only[Uu];rfl)) ?_)
  refine JK ?_ (by size_fits)
  simp only[raiseNew]
  refine Xb (wpAny_handled ?_)
  first|rw[show A.in1.handled=none from hh]|rw[hh]
  exact Xb (Xk (wpAny_throw (hE _ _ (((JM ..).extBut.push _).push _) ⟨_,XJ _ rfl,rfl⟩)))
 keep:=λh h' k ⟨⟨o,a1,a2⟩,⟨o',b1,b2⟩⟩=>⟨⟨o,k it (by simp) o a1,a2⟩,⟨o',k t (by simp) o' b1,b2⟩⟩
end
noncomputable abbrev zT1(h:Heap)(a:Addr):Heap:=h.push { cls:=.type "tuple_iterator",data:=.fields #[.ref a,.int 0 0] }
noncomputable abbrev zT2(h:Heap)(a b:Addr):Heap:=(zT1 h a).push { cls:=.type "tuple_iterator",data:=.fields #[.ref b,.int 0 0] }
noncomputable abbrev zT3(h:Heap)(a b:Addr):Heap:=(zT2 h a b).push { cls:=.type "tuple",data:=.seq #[.ref h.objs.size,.ref (zT1 h a).objs.size] }
noncomputable abbrev zT4(h:Heap)(a b:Addr):Heap:=(zT3 h a b).push { cls:=.type "tuple",data:=.seq #[.none,.none] }
noncomputable abbrev zT5(h:Heap)(a b:Addr):Heap:=(zT4 h a b).push { cls:=.type "zip",data:=.fields #[.none,.bool false,.bool false,.ref (zT2 h a b).objs.size,.ref (zT3 h a b).objs.size] }
theorem Zrv(a b:Addr)(xs ys:Array Xc) :
  Meets (Vo.«zip.__new__» ⟨[.type "zip",.ref a,.ref b],[]⟩) (λ_ R s=>IsTup s.heap a xs∧IsTup s.heap b ys∧R (.ok (.ret (.ref (zT4 s.heap a b).objs.size))) { s with heap:=zT5 s.heap a b }) :=
 .of_wp λprog w A R s h=>by
  obtain⟨hp,g,d,tk,os⟩:=s
  obtain⟨h1,h2,h⟩:=h
  have hsub:=sub_zip
  have hL1:IsTup (Xf.heap ⟨hp,g,d,tk,os⟩) a xs:=h1
  have hL2:IsTup (Xf.heap ⟨hp.push { cls:=.type "tuple_iterator",data:=.fields #[.ref a,.int 0 0] },g,d,tk,os⟩) b ys:=h2.push _
  wp_walk using iter_tuple hL1,iter_tuple hL2
  exact⟨_,rfl,h⟩
section
variable {P:X4}{w:Qm}{A:Qn}{E:Xc->Xf->Prop}{s:Xf}
theorem Zlq{a b:Addr}{xs ys:Array Xc}{Q:Xc->Xf->Prop}(h1:IsTup s.heap a xs)(h2:IsTup s.heap b ys)
  (h:∀h' n,n=s.heap.objs.size->IsZip h' (n+4) (n+2) (n+3) .none->Vg h' (n+2) (.ref n) (.ref (n+1))->Vg h' (n+3) .none .none->IsTupIter h' n a 0->IsTupIter h' (n+1) b 0 ->
   (∀ c o,s.heap.get? c=some o->h'.get? c=some o)->Q (.ref (n+4)) { s with heap:=h' }):Xx (X5 P w) A (call (.type "zip") [.ref a,.ref b]) Q E s:=by
 refine callType_new F.called_zip (by decide) (F.typeCall_zip_2 _ _) (F.newCall_zip_2 _ _) (λobj=>F.args_object_init_3 obj _ _) F.entry_zip_new (Zrv a b xs ys) ⟨h1,h2,?_⟩
 have e1:(zT1 s.heap a).objs.size=s.heap.objs.size+1:=QG ..
 have e2:(zT2 s.heap a b).objs.size=s.heap.objs.size+2:=by rw[QG,e1]
 have e3:(zT3 s.heap a b).objs.size=s.heap.objs.size+3:=by rw[QG,e2]
 have e4:(zT4 s.heap a b).objs.size=s.heap.objs.size+4:=by rw[QG,e3]
 have up:∀{c o},(zT1 s.heap a).get? c=some o->(zT5 s.heap a b).get? c=some o:=λx=>Xg _ (Xg _ (Xg _ (Xg _ x)))
 have p5:(zT5 s.heap a b).get? (zT4 s.heap a b).objs.size=some _:=XJ _ rfl
 have p4:(zT5 s.heap a b).get? (zT3 s.heap a b).objs.size=some _:=Xg _ (XJ _ rfl)
 have p3:(zT5 s.heap a b).get? (zT2 s.heap a b).objs.size=some _:=Xg _ (Xg _ (XJ _ rfl))
 have p2:(zT5 s.heap a b).get? (zT1 s.heap a).objs.size=some _:=Xg _ (Xg _ (Xg _ (XJ _ rfl)))
 have p1:(zT5 s.heap a b).get? s.heap.objs.size=some _:=up (XJ _ rfl)
 show _∧_
 rw[e2,e3,e4]at p5
 rw[e1,e2]at p3
 rw[e3]at p4
 rw[e1]at p2
 rw[e4]
 exact⟨⟨_,p5,rfl⟩,h _ _ rfl p5 p3 p4 ⟨_,p1,rfl,rfl⟩ ⟨_,p2,rfl,rfl⟩ λc o x=>up (Xg _ x)⟩
end
theorem nn{n a b:Nat}(h:a≠b):n+a≠n+b:=λe=>h (Nat.add_left_cancel e)
theorem n0{n b:Nat}(h:0≠b):n≠n+b:=λe=>h (Nat.add_left_cancel (n:=n) e)
theorem nlt{n a c:Nat}(h:a<n):a≠n+c:=Xo (Qj h (Vb ..))
theorem ZA.new{n a b:Nat}(h1:a<n)(h2:b<n):ZA (n+4) (n+2) (n+3) n (n+1) [n,a] [n+1,b] where
 TIz:=(by first|exact nn (by decide)|exact n0 (by decide)|exact(n0 (by decide)).symm|exact nlt h1|exact nlt h2|exact(nlt h1).symm|exact(nlt h2).symm|exact Xo h1|exact Xo h2|exact X3 h1|exact X3 h2|omega)
 TOz:=(by first|exact nn (by decide)|exact n0 (by decide)|exact(n0 (by decide)).symm|exact nlt h1|exact nlt h2|exact(nlt h1).symm|exact(nlt h2).symm|exact Xo h1|exact Xo h2|exact X3 h1|exact X3 h2|omega)
 a1:=λc hc=>by
  simp only[Xn,Ur,or_false]at hc
  rcases hc with rfl|rfl
  ·exact⟨(by first|exact nn (by decide)|exact n0 (by decide)|exact(n0 (by decide)).symm|exact nlt h1|exact nlt h2|exact(nlt h1).symm|exact(nlt h2).symm|exact Xo h1|exact Xo h2|exact X3 h1|exact X3 h2|omega),(by first|exact nn (by decide)|exact n0 (by decide)|exact(n0 (by decide)).symm|exact nlt h1|exact nlt h2|exact(nlt h1).symm|exact(nlt h2).symm|exact Xo h1|exact Xo h2|exact X3 h1|exact X3 h2|omega),(by first|exact nn (by decide)|exact n0 (by decide)|exact(n0 (by decide)).symm|exact nlt h1|exact nlt h2|exact(nlt h1).symm|exact(nlt h2).symm|exact Xo h1|exact Xo h2|exact X3 h1|exact X3 h2|omega)⟩
  ·exact⟨(by first|exact nn (by decide)|exact n0 (by decide)|exact(n0 (by decide)).symm|exact nlt h1|exact nlt h2|exact(nlt h1).symm|exact(nlt h2).symm|exact Xo h1|exact Xo h2|exact X3 h1|exact X3 h2|omega),(by first|exact nn (by decide)|exact n0 (by decide)|exact(n0 (by decide)).symm|exact nlt h1|exact nlt h2|exact(nlt h1).symm|exact(nlt h2).symm|exact Xo h1|exact Xo h2|exact X3 h1|exact X3 h2|omega),(by first|exact nn (by decide)|exact n0 (by decide)|exact(n0 (by decide)).symm|exact nlt h1|exact nlt h2|exact(nlt h1).symm|exact(nlt h2).symm|exact Xo h1|exact Xo h2|exact X3 h1|exact X3 h2|omega)⟩
 a2:=λc hc=>by
  simp only[Xn,Ur,or_false]at hc
  rcases hc with rfl|rfl
  ·exact⟨(by first|exact nn (by decide)|exact n0 (by decide)|exact(n0 (by decide)).symm|exact nlt h1|exact nlt h2|exact(nlt h1).symm|exact(nlt h2).symm|exact Xo h1|exact Xo h2|exact X3 h1|exact X3 h2|omega),(by first|exact nn (by decide)|exact n0 (by decide)|exact(n0 (by decide)).symm|exact nlt h1|exact nlt h2|exact(nlt h1).symm|exact(nlt h2).symm|exact Xo h1|exact Xo h2|exact X3 h1|exact X3 h2|omega),(by first|exact nn (by decide)|exact n0 (by decide)|exact(n0 (by decide)).symm|exact nlt h1|exact nlt h2|exact(nlt h1).symm|exact(nlt h2).symm|exact Xo h1|exact Xo h2|exact X3 h1|exact X3 h2|omega)⟩
  ·exact⟨(by first|exact nn (by decide)|exact n0 (by decide)|exact(n0 (by decide)).symm|exact nlt h1|exact nlt h2|exact(nlt h1).symm|exact(nlt h2).symm|exact Xo h1|exact Xo h2|exact X3 h1|exact X3 h2|omega),(by first|exact nn (by decide)|exact n0 (by decide)|exact(n0 (by decide)).symm|exact nlt h1|exact nlt h2|exact(nlt h1).symm|exact(nlt h2).symm|exact Xo h1|exact Xo h2|exact X3 h1|exact X3 h2|omega),(by first|exact nn (by decide)|exact n0 (by decide)|exact(n0 (by decide)).symm|exact nlt h1|exact nlt h2|exact(nlt h1).symm|exact(nlt h2).symm|exact Xo h1|exact Xo h2|exact X3 h1|exact X3 h2|omega)⟩
theorem ZA.new2(n:Nat):(n+2:Nat)≠n+3∧(n+2:Nat)≠n∧(n+2:Nat)≠n+1:=⟨nn (by decide),(n0 (by decide)).symm,nn (by decide)⟩
section
variable {X:Cx}{io:List Nat}{p c:Bool}{a b:Expr}{mr:MAt}
noncomputable def Z2b(ds:List Xa):Option (List Xa):=match ds with|[.list as,.list bs]=>some (Zkh as bs)|[.tuple as,.tuple bs]=>some (Zkh as bs)|_=>none
noncomputable def Zlz(a:FA):FI:=λδ=>(a δ).bind λp=>(Z2b (OT.datas p.1)).bind λds=>some (ds,p.2)
end
noncomputable def Zb3{α:Type}(xs:List α)(lo hi st:Option Int):List α :=
 (sliceRange (Bq lo hi st xs.length).1 (Bq lo hi st xs.length).2.1 (Bq lo hi st xs.length).2.2).filterMap (xs[·]?)
theorem Vals.places:∀{xs:List V} {its:List Xc},Vals xs its->∀js:List Nat,Vals (js.filterMap (xs[·]?)) (js.filterMap (its[·]?))
 | _,_,_,[]=>.nil
 | xs,its,h,j :: js=>by
  have ih:=Vals.places h js
  cases hn:xs[j]? with
  | some x=>
   obtain⟨u,hu,ru⟩:=h.get hn
   simp only[QQ,hn,hu]
   exact .cons ru ih
  | none=>
   have hv:its[j]? =none:=by
    rw[JW]at hn⊢
    rw[←h.length];exact hn
   simp only[QQ,hn,hv]
   exact ih
theorem Das.places{G:Xd}{H:Hp}{L:Addr->Prop}{xs:List V}{ds:List Xa}(h:Das G H L xs ds):∀js:List Nat,Das G H L (js.filterMap (xs[·]?)) (js.filterMap (ds[·]?))
 | []=>.nil
 | j :: js=>by
  have ih:=Das.places h js
  cases hn:ds[j]? with
  | some x=>
   obtain⟨u,hu,ru⟩:=h.get hn
   simp only[QQ,hn,hu]
   exact .cons ru ih
  | none=>
   have hv:xs[j]? =none:=by
    rw[JW]at hn⊢
    rw[h.length];exact hn
   simp only[QQ,hn,hv]
   exact ih
theorem Das.pick{G:Xd}{H:Hp}{L:Addr->Prop}{xs:List V}{ds:List Xa}(h:Das G H L xs ds)(lo hi st:Option Int):Das G H L (Zb3 xs lo hi st) (Zb3 ds lo hi st):=by
 unfold Zb3
 rw[h.length]
 exact h.places _
theorem Vals.pick{xs:List V}{its:List Xc}(h:Vals xs its)(lo hi st:Option Int):Vals (Zb3 xs lo hi st) (slicePick its.toArray lo hi st).toList:=by
 have e:(slicePick its.toArray lo hi st).toList=(sliceRange (Bq lo hi st xs.length).1 (Bq lo hi st xs.length).2.1 (Bq lo hi st xs.length).2.2).filterMap (its[·]?):=by
  simp[slicePick,h.length]
 rw[e]
 exact h.places _
theorem Zdm{xs:List V}{its:List Xc}(h:Vals xs its)(lo hi st:Option Int):(Zb3 xs lo hi st).length≤xs.length:=by
 have e:=(h.pick lo hi st).length
 have s:=slicePick_size_le its.toArray lo hi st
 have l:=h.length
 simp only[Xp,XF]at e s
 omega
section
variable {X:Cx}{e:Expr}{te:TE}{lo hi:Option Expr}{se:Expr}{tl th ts:TO}{pos p2:Pos}
noncomputable def tSt(K:Xd)(te:TE)(tl th ts:TO):TE:=λσ H Q=>te σ H λx H1=>tl σ H1 λl H2=>th σ H2 λu H3=>ts σ H3 λk H4=>∃a xs,x= .ref a∧SqL K H4 a xs∧k≠some 0∧∀p,H4 p=none->Q (.ref p) (upd H4 p (.lst (Zb3 xs l u k)))
theorem Zxs(he:PE X e te)(hl:PO X lo tl)(hu:PO X hi th)(hst:PO X (some se) ts):PE X (.Subscript e (.Slice lo hi (some se) p2) pos) (tSt X.K te tl th ts):=by
 intro pins s σ H Q I h
 refine Subscript_ (thn (he pins s σ H _ I h) λv s1 qz9=>?_)
 obtain⟨x,H1,I1,r1,q1⟩:=qz9
 refine wpAny_Slice (thn (hl pins s1 σ H1 _ I1 q1) λvl s2 qz9=>?_)
 obtain⟨l,H2,I2,pl,q2⟩:=qz9
 refine thn (hu pins s2 σ H2 _ I2 q2) λvu s3 qz9=>?_
 obtain⟨u,H3,I3,pu,q3⟩:=qz9
 refine thn (hst pins s3 σ H3 _ I3 q3) λvs s4 qz9=>?_
 obtain⟨k,H4,I4,ps,q4⟩:=qz9
 obtain⟨a,xs,rfl,hx,hk,q⟩:=q4
 cases r1
 have I5:Inv X pins σ H4 { s4 with heap:=s4.heap.push { cls:=.type "slice",data:=.fields #[vl,vu,vs] } }:=I4.kept (t':=s4.toks) λb ob q=>Xg _ q
 obtain⟨its,r,ht,hz⟩:=I5.list hx
 have hlen:=r.length
 show Xx (X5 X.prog X.w) X.A (subscriptTail e (.Slice lo hi (some se) p2) (.ref a) (.ref s4.heap.objs.size)) (EP X pins σ Q) X.xe { s4 with heap:=s4.heap.push { cls:=.type "slice",data:=.fields #[vl,vu,vs] } }
 refine tail_any (ops:=[.ref a,.ref s4.heap.objs.size]) ht.isList.typeIs slot_list_getitem.lookup ?_ (by with_unfolding_all rfl)
 refine wpAny_getItem_list_slice ht.isList (Heap.IsSliceOf.new ..) pl pu ps hk ?_ (by rw[XF]<;>omega)
 refine⟨.ref _,_,I5.laid (t':=s4.toks) (o:=.lst (Zb3 xs l u k)) (λb ob q=>Xg _ q) (XD _) ?_,rfl,q _ (I5.hok.fresh (XD _))⟩
 exact⟨Qs (Zdm r l u k) hz,_,0,r.pick l u k,XJ _ rfl⟩
end
section
variable {X:Cx}{io:List Nat}{p c:Bool}{a e:Expr}{ma:MEt}{lo hi:Option Expr}{se:Expr}{ml mh ms:MOt}{pos p2:Pos}{fa:FE}
noncomputable def Z05(m:MEt)(ml mh ms:MOt):MEt:=λδ K=>m δ λr δ1=>ml δ1 λlo δ2=>mh δ2 λhi δ3=>ms δ3 λst δ4=>st≠some 0∧asL r.data λds=>K (.nd ((Zb3 ds lo hi st).map OT.fz)) δ4
theorem Z29(ha:ME X io true c a ma)(hl:MO X io true lo ml)(hh:MO X io true hi mh)(hs:MO X io true (some se) ms):ME X io true c (.Subscript a (.Slice lo hi (some se) p2) pos) (Z05 ma ml mh ms):=by
 obtain⟨_,A,s⟩:=ha
 obtain⟨_,B,sl⟩:=hl
 obtain⟨_,D,sh⟩:=hh
 obtain⟨_,F,ss⟩:=hs
 refine⟨_,Zxs A B D F,?_⟩
 intro C H σ δ fp ex K' Q R h k
 refine s C H σ δ fp ex _ _ R h λH1 v r δ1 fp1 new r1 h1=>?_
 refine sl C H1 σ δ1 fp1 ex _ _ r1.base h1 λH2 l δ2 fp2 R2 S2 h2=>?_
 refine sh C H2 σ δ2 fp2 ex _ _ R2 h2 λH3 u δ3 fp3 R3 S3 h3=>?_
 refine ss C H3 σ δ3 fp3 ex _ _ R3 h3 λH4 w δ4 fp4 R4 S4 h4=>?_
 obtain⟨hw,h4⟩:=h4
 have s2:Same H1 H2:=λb o e=>S2.keep b o e (.inl rfl)
 have s3:Same H2 H3:=λb o e=>S3.keep b o e (.inl rfl)
 have s4:Same H3 H4:=λb o e=>S4.keep b o e (.inl rfl)
 obtain⟨e3,e4⟩:=S2.env rfl
 obtain⟨e5,e6⟩:=S3.env rfl
 obtain⟨e7,e8⟩:=S4.env rfl
 have q:=(((r1.da R).same s2).same s3).same s4
 obtain⟨a',xs,ds,rfl,e,qs,h4⟩:=q.lstInv h4
 refine⟨a',xs,rfl,e,hw,λp hp=>?_⟩
 have S:=((r1.stp.trans S2).trans S3).trans S4
 refine k _ _ _ δ4 fp4 [p] (RE.tree R R4 S (Z0 hp _) (Jt hp) (Zas p) (Own.list hp ((qs.pick l u w).wide λa l _=>?_))) h4
 rw[e8,e6,e4]
 exact l
noncomputable def stepOf(d:Xa)(lo hi st:Option Int):Option OT:=match d with| .list ds=>if st=some 0 then none else some (.nd ((Zb3 ds lo hi st).map OT.fz))|_=>none
noncomputable def Zqb(e:FE)(lo hi st:FO):FE:=λδ=>(e δ).bind λp=>(lo p.2).bind λq=>(hi q.2).bind λr=>(st r.2).bind λt=>(stepOf p.1.data q.1 r.1 t.1).bind λo=>some (o,t.2)
theorem Zv2{lo hi st:FO}(h:ME X io p c e (Z05 (o2 fa) (o2 lo) (o2 hi) (o2 st))):ME X io p c e (o2 (Zqb fa lo hi st)):=h.weak λδ K h=>by
 obtain⟨r,δ',h,k⟩:=h
 obtain⟨⟨x,δ1⟩,h1,h⟩:=bs h
 obtain⟨⟨y,δ2⟩,h2,h⟩:=bs h
 obtain⟨⟨z,δ3⟩,h3,h⟩:=bs h
 obtain⟨⟨t,δ4⟩,h4,h⟩:=bs h
 obtain⟨o,h5,h⟩:=bs h
 cases h
 refine⟨x,δ1,h1,y,δ2,h2,z,δ3,h3,t,δ4,h4,?_⟩
 unfold stepOf at h5
 dsimp only at h5⊢
 split at h5
 ·rename_i q
  split at h5
  ·cases h5
  ·rename_i n
   cases h5
   refine⟨n,?_⟩
   rw[show x.data=_ from q]
   exact k
 ·cases h5
end
theorem Zin{α β:Type}{f g:α->Option β}:∀{l:List α},(∀k∈l,f k=g k)->l.filterMap f=l.filterMap g
 | [],_=>rfl
 | a :: l,h=>by
  rw[QQ,QQ,h a (by simp),Zin λk hk=>h k (by simp[hk])]
theorem Zor{α:Type}(xs:List α):Zb3 xs none none (some (-1))=xs.reverse:=by
 unfold Zb3 sliceRange Bq
 simp only[Option.getD_some]
 have d0:¬((-1:Int)>0):=by decide
 simp only[if_neg d0]
 have hc:(if(xs.length:Int)-1> -1 then((xs.length:Int)-1- -1- -1-1)/(- -1)else 0)=(xs.length:Int):=by
  split
  ·simp
  ·omega
 rw[hc,List.filterMap_map,BK]
 apply List.ext_getElem?
 intro i
 have hf:List.filterMap ((λx=>xs[x]?)∘ λk:Nat=>((xs.length:Int)-1+ -1*(k:Int)).toNat) (Xz xs.length)=xs.reverse:=by
  have:∀k∈Xz xs.length,((λx=>xs[x]?)∘ λk:Nat=>((xs.length:Int)-1+ -1*(k:Int)).toNat) k=xs.reverse[k]?:=λk hk=>by
   have hk:=Qx.mp hk
   show xs[((xs.length:Int)-1+ -1*(k:Int)).toNat]? =_
   rw[List.getElem?_reverse hk]
   congr 1
   omega
  rw[Zin this]
  have gen:∀(ys:List α) (m:Nat),m=ys.length->List.filterMap (λk=>ys[k]?) (Xz m)=ys:=by
   intro ys
   induction ys with
   | nil=>intro m hm;subst hm;rfl
   | cons y ys ih=>
    intro m hm
    subst hm
    rw[QX,List.range_succ_eq_map,QQ]
    simp only[List.getElem?_cons_zero,List.filterMap_map]
    exact congrArg _ (ih _ rfl)
  exact gen _ _ (by simp)
 rw[hf]
section
variable {X:Cx}{io:List Nat}{c1 c2 c3 c4 p:Bool}{a b e d:Expr}{ma mb mc md:MEt}{pos:Pos}{f g h:Int->Int->Bool}{ta tb tc td:TE}{fa fb fc fd:FE}{G:Xd}
noncomputable def Zl6(r r' r'':R2)(ta tb tc td:TE):TE:=λσ H Q=>ta σ H λx H1=>tb σ H1 λy H2=>r x y H2 λz H3=>∃k,z= .bl k∧
 (if k=true then tc σ H3 λw H4=>r' y w H4 λz' H5=>∃k',z'= .bl k'∧(if k'=true then td σ H5 λu H6=>r'' w u H6 Q else Q (.bl false) H5)else Q (.bl false) H3)
theorem Zlh{op op' op'':CmpOp}{r r' r'':R2}(ho:OpR X (Q6 op) r)(ho':OpR X (Q6 op') r')(ho'':OpR X (Q6 op'') r'')(ha:PE X a ta)(hb:PE X b tb)(hc:PE X e tc)(hd:PE X d td)
  (hm:lastMarks [op,op',op''] [b,e,d]=false:=by with_unfolding_all rfl):PT X (.Compare a [op,op',op''] [b,e,d] pos) (Zu9 (Zl6 r r' r'' ta tb tc td)):=by
 intro pins s σ H Q I h
 refine isTrue_chain (thn (ha pins s σ H _ I h) λv s1 ⟨x,H1,I1,r1,q1⟩=>test_link (thn (hb pins s1 σ H1 _ I1 q1) λu s2 ⟨y,H2,I2,r2,q2⟩=>
  thn (ho pins s2 σ H2 x y v u _ I2 r1 r2 q2) λd s3 ⟨z,H3,I3,r3,k,e,q3⟩=>?_)) hm
 subst e
 cases r3
 refine BR ?_
 cases k with
 | false=>
  obtain⟨k',e',q'⟩:=q3
  cases e'
  exact ite_ff ⟨H3,I3,q'⟩
 | true=>
  refine ite_tt (test_link (thn (hc pins s3 σ H3 _ I3 q3) λw' s4 qz9=>?_))
  obtain⟨z',H4,I4,r4,q4⟩:=qz9
  refine thn (ho' pins s4 σ H4 y z' u w' _ I4 r2 r4 q4) λd' s5 qz9=>?_
  obtain⟨z2,H5,I5,r5,k2,e2,q5⟩:=qz9
  subst e2
  cases r5
  refine BR ?_
  cases k2 with
  | false=>
   obtain⟨k',e',q'⟩:=q5
   cases e'
   exact ite_ff ⟨H5,I5,q'⟩
  | true=>
   refine ite_tt (test_last (thn (hd pins s5 σ H5 _ I5 q5) λw2 s6 qz9=>?_))
   obtain⟨z6,H6,I6,r6,q6⟩:=qz9
   refine thn (ho'' pins s6 σ H6 z' z6 w' w2 _ I6 r4 r6 q6) λd3 s7 qz9=>?_
   obtain⟨z7,H7,I7,r7,k7,e7,q7⟩:=qz9
   subst e7
   cases r7
   exact BR ⟨H7,I7,q7⟩
noncomputable def Zhu(f g h:Int->Int->Bool)(ma mb mc md:MEt):MEt:=λδ K=>ma δ λx δ1=>mb δ1 λy δ2=>asI x.data λi=>asI y.data λj=>if f i j=true then mc δ2 λz δ3=>asI z.data λk=>(if g j k=true then md δ3 λw δ4=>asI w.data λl=>K (.fz (.bool (h k l))) δ4 else K (.fz (.bool false)) δ3)else K (.fz (.bool false)) δ2
theorem Zxi(ha:SE G io true c1 ta ma)(hb:SE G io true c2 tb mb)(hc:SE G io true c3 tc mc)(hd:SE G io true c4 td md):SE G io true true (Zl6 (rI0 λi j=>.bl (f i j)) (rI0 λi j=>.bl (g i j)) (rI0 λi j=>.bl (h i j)) ta tb tc td) (Zhu f g h ma mb mc md):=by
 intro C H σ δ fp ex K Q R h k
 refine ha.pureAfter R h λH1 x u R1 s1 q1 h1=>?_
 refine hb.pureAfter R1 h1 λH2 y v R2 s2 q2 h2=>?_
 obtain⟨i,rfl,h2⟩:=q1.intInv h2
 obtain⟨j,rfl,h2⟩:=q2.intInv h2
 refine⟨i,j,rfl,rfl,f i j,rfl,?_⟩
 by_cases hf:f i j=true
 ·rw[if_pos hf]at h2⊢
  refine hc.pureAfter R2 h2 λH3 z w R3 s3 q3 h3=>?_
  obtain⟨l,rfl,h3⟩:=q3.intInv h3
  have s13:Same H H3:=(s1.trans s2).trans s3
  refine⟨j,l,rfl,rfl,g j l,rfl,?_⟩
  by_cases hg:g j l=true
  ·rw[if_pos hg]at h3⊢
   refine hd.pureAfter R3 h3 λH4 z4 w4 R4 s4 q4 h4=>?_
   obtain⟨n,rfl,h4⟩:=q4.intInv h4
   have s14:Same H H4:=s13.trans s4
   exact⟨l,n,rfl,rfl,k H4 _ _ δ fp [] (.fz R4 (.same s14 s14.al) (.bl _)) h4⟩
  ·rw[if_neg hg]at h3⊢
   exact k H3 _ _ δ fp [] (.fz R3 (.same s13 s13.al) (.bl _)) h3
 ·rw[if_neg hf]at h2⊢
  have s12:Same H H2:=s1.trans s2
  exact k H2 _ _ δ fp [] (.fz R2 (.same s12 s12.al) (.bl _)) h2
theorem Zbj{op op' op'':CmpOp}(ho:OpR X (Q6 op) (rI0 λi j=>.bl (f i j)))(ho':OpR X (Q6 op') (rI0 λi j=>.bl (g i j)))(ho'':OpR X (Q6 op'') (rI0 λi j=>.bl (h i j)))(ha:ME X io true c1 a ma)(hb:ME X io true c2 b mb)(hc:ME X io true c3 e mc)(hd:ME X io true c4 d md)
  (hm:lastMarks [op,op',op''] [b,e,d]=false:=by with_unfolding_all rfl):MT X io true (.Compare a [op,op',op''] [b,e,d] pos) (λδ K=>Zhu f g h ma mb mc md δ (kB K)):=by
 obtain⟨_,A,sa⟩:=ha
 obtain⟨_,B,sb⟩:=hb
 obtain⟨_,D,sc⟩:=hc
 obtain⟨_,F,sd⟩:=hd
 exact⟨_,Zlh ho ho' ho'' A B D F hm,Z3x (Zxi sa sb sc sd)⟩
noncomputable def intOf(d:Xa):Option Int:=match d with| .int i=>some i|_=>none
theorem Zbl{d:Xa}{i:Int}(h:intOf d=some i):d= .int i:=by
 unfold intOf at h
 split at h
 ·cases h;rfl
 ·cases h
noncomputable def Zdx(f g h:Int->Int->Bool)(a b c d:FE):FE:=λδ=>(a δ).bind λx=>(b x.2).bind λy=>(intOf x.1.data).bind λi=>(intOf y.1.data).bind λj=>
 if f i j=true then(c y.2).bind λz=>(intOf z.1.data).bind λk=>if g j k=true then(d z.2).bind λw=>(intOf w.1.data).bind λl=>some (.fz (.bool (h k l)),w.2)else some (.fz (.bool false),z.2)else some (.fz (.bool false),y.2)
theorem Za8{ee:Expr}(hh:MT X io p ee (λδ K=>Zhu f g h (o2 fa) (o2 fb) (o2 fc) (o2 fd) δ (kB K))):MT X io p ee (o2 (tV (Zdx f g h fa fb fc fd))):=hh.weak λδ K z=>by
 obtain⟨r,δ',h,k⟩:=Z8q z
 obtain⟨⟨x,δ1⟩,h1,h⟩:=bs h
 obtain⟨⟨y,δ2⟩,h2,h⟩:=bs h
 obtain⟨i,hi,h⟩:=bs h
 obtain⟨j,hj,h⟩:=bs h
 refine⟨x,δ1,h1,y,δ2,h2,?_⟩
 dsimp only at h hi hj⊢
 rw[Zbl hi,Zbl hj]
 show(if f i j=true then _ else _)
 by_cases hf:f i j=true
 ·rw[if_pos hf]at h⊢
  obtain⟨⟨z,δ3⟩,h3,h⟩:=bs h
  obtain⟨l,hl,h⟩:=bs h
  refine⟨z,δ3,h3,?_⟩
  dsimp only at h hl⊢
  rw[Zbl hl]
  show(if g j l=true then _ else _)
  by_cases hg:g j l=true
  ·rw[if_pos hg]at h⊢
   obtain⟨⟨w,δ4⟩,h4,h⟩:=bs h
   obtain⟨n,hn,h⟩:=bs h
   cases h
   refine⟨w,δ4,h4,?_⟩
   dsimp only at hn⊢
   rw[Zbl hn]
   exact k
  ·rw[if_neg hg]at h⊢
   cases h
   exact k
 ·rw[if_neg hf]at h⊢
  cases h
  exact k
end
variable {G:Xd}
section
variable {X:Cx}{io:List Nat}{p c:Bool}{a b e:Expr}{mr:MAt}{ra:FA}{i:Nat}
noncomputable def isFn(y:Str)(d:Xa):Bool:=match d with| .dict [(.str x,.bool true)]=>decide (x=y)|_=>false
end
section
variable {X:Cx}{io:List Nat}{p c:Bool}{a:Expr}{mr:MAt}{ra:FA}
end
variable {G:Xd}
theorem Zys{α:Type}{p:α->Prop}{a b c d:α}(h1:p a)(h2:p b)(h3:p c)(h4:p d):∀x∈[a,b,c,d],p x:=by
 intro x hx
 rcases Xn.mp hx with rfl|hx
 ·exact h1
 rcases Xn.mp hx with rfl|hx
 ·exact h2
 rcases Xn.mp hx with rfl|hx
 ·exact h3
 rcases Xm.mp hx with rfl
 exact h4
theorem Z59{α:Type}{p:α->Prop}{a b c d e:α}(h1:p a)(h2:p b)(h3:p c)(h4:p d)(h5:p e):∀x∈[a,b,c,d,e],p x:=λx hx=>(Xn.mp hx).elim (λq=>q▸h1) (Zys h2 h3 h4 h5 x)
theorem no4{α:Type}{a b c d x:α}(h1:x≠a)(h2:x≠b)(h3:x≠c)(h4:x≠d):x∉[a,b,c,d]:=λhx=>Zys (p:=λy=>x≠y) h1 h2 h3 h4 x hx rfl
noncomputable def SqB(K:Xd)(t:Bool)(H:Hp)(a:Addr)(xs:List V):Prop:=match t with|true=>H a=some (.tup xs)|false=>SqL K H a xs
noncomputable def IsB(t:Bool)(h:Heap)(a:Addr)(its:Array Xc):Prop:=match t with|true=>IsTup h a its|false=>h.IsList a its
noncomputable def ItB(t:Bool)(h:Heap)(it a:Addr)(i:Nat):Prop:=match t with|true=>IsTupIter h it a i|false=>h.IsListIter it a i
theorem ItB.at{t:Bool}{h h':Heap}{it a:Addr}{i:Nat}(x:ItB t h it a i)(k:∀o,h.get? it=some o->h'.get? it=some o):ItB t h' it a i:=by
 cases t with
 | false=>exact Heap.IsListIter.at x k
 | true=>
  obtain⟨o,ho,r⟩:=x
  exact⟨o,k o ho,r⟩
theorem ItB.obj{t:Bool}{h:Heap}{it a:Addr}{i:Nat}(x:ItB t h it a i):∃o,h.get? it=some o∧∀v,o.data≠ .cell v:=by
 cases t with
 | false=>
  obtain⟨o,ho,_,d⟩:=x
  exact⟨o,ho,λv q=>by rw[d]at q;cases q⟩
 | true=>
  obtain⟨o,ho,_,d⟩:=x
  exact⟨o,ho,λv q=>by rw[d]at q;cases q⟩
theorem IsB.lt{t:Bool}{h:Heap}{a:Addr}{its:Array Xc}(x:IsB t h a its):a<h.objs.size:=by
 cases t with
 | false=>
  obtain⟨o,ho,_⟩:=x
  exact XH ho
 | true=>
  obtain⟨o,ho,_⟩:=x
  exact XH ho
theorem SqB.its{X:Cx}{pins:List (Addr×Obj)}{σ:St}{H:Hp}{s:Xf}{t:Bool}{a:Addr}{xs:List V}(I:Inv X pins σ H s)(h:SqB X.K t H a xs):∃its:List Xc,Vals xs its∧IsB t s.heap a its.toArray:=by
 cases t with
 | false=>
  obtain⟨its,r,p,_⟩:=I.list h
  exact⟨its,r,p.isList⟩
 | true=>
  obtain⟨_,its,r,p⟩:=(show ObjOk X.prog X.w H s.heap a (.tup xs)from I.hok a _ h)
  exact⟨its,r,p⟩
theorem SqB.inj{X:Cx}{pins:List (Addr×Obj)}{σ:St}{H:Hp}{s:Xf}{t:Bool}{a:Addr}{xs ys:List V}(I:Inv X pins σ H s)(h:SqB X.K t H a xs)(k:SqB X.K t H a ys):xs=ys:=by
 cases t with
 | false=>exact I.list_inj h k
 | true=>
  have:=(show H a=some (.tup xs)from h).symm.trans k
  cases this
  rfl
section
variable {P:X4}{w:Qm}
theorem Zm7{t:Bool}{it a:Addr}{i:Nat}{items:Array Xc}{x:Xc}(hx:items[i]? =some x):Gives P w it [it,a] (λh=>ItB t h it a i∧IsB t h a items) x (λh=>ItB t h it a (i+1)):=by
 cases t with
 | true=>exact Zpa hx
 | false=>
  exact⟨.head _,λst hQ=>wpAny_nextOf_list_item st.1 st.2 hx hQ,λh h' k st=>⟨Heap.IsListIter.at st.1 λo e=>k it (.head _) o e,by
   obtain⟨o,ho,r⟩:=st.2
   exact⟨o,k a (.tail _ (.head _)) o ho,r⟩⟩,λh h' k st=>Heap.IsListIter.at st λo e=>k it (.head _) o e⟩
theorem Z2z{t:Bool}{it a:Addr}{i:Nat}{items:Array Xc}(hx:items[i]? =none):Zej P w it [it,a] (λh=>ItB t h it a i∧IsB t h a items):=by
 cases t with
 | true=>exact Zqz hx
 | false=>
  exact⟨.head _,λhh st hE=>wpAny_nextOf_list_end hh st.1 st.2 hx hE,λh h' k st=>⟨Heap.IsListIter.at st.1 λo e=>k it (.head _) o e,by
   obtain⟨o,ho,r⟩:=st.2
   exact⟨o,k a (.tail _ (.head _)) o ho,r⟩⟩⟩
end
noncomputable def Z8f(K:Xd)(t:Bool)(a b:Addr):It :=
 ⟨λi H=>∃xs ys x y,SqB K t H a xs∧SqB K t H b ys∧xs[i]? =some x∧ys[i]? =some y,
   λi H v H'=>∃p x y,H p=none∧v= .ref p∧H'=upd H p (.tup [x,y])∧(∀xs,SqB K t H a xs->xs[i]? =some x)∧∀ys,SqB K t H b ys->ys[i]? =some y,
   λi H=>∃xs ys,SqB K t H a xs∧SqB K t H b ys∧(xs.length≤i∨ys.length≤i)⟩
noncomputable def Z8y(t:Bool)(z TI TO i1 i2 a b:Addr)(i:Nat)(h:Heap):Prop:=IsZip h z TI TO .none∧Vg h TI (.ref i1) (.ref i2)∧(∃x y,Vg h TO x y)∧ItB t h i1 a i∧ItB t h i2 b i
theorem Zm8{P:X4}{w:Qm}{K:Xd}{es:List Expr}{kk:Nat}{pos:Pos}{t:Bool}{z TI TO i1 i2 a b:Addr}(D:ZA z TI TO i1 i2 [i1,a] [i2,b])(D2:TI≠TO∧TI≠i1∧TI≠i2):Turn P w K (.Tuple es kk pos) (Z8f K t a b) [z,TI,TO,i1,i2] z (Z8y t z TI TO i1 i2 a b) where
 mem:=.head _
 obj:=λi h st=>by
  obtain⟨s1,s2,⟨x,y,s3⟩,s4,s5⟩:=st
  exact Z59 ⟨_,s1,λv q=>by cases q⟩ ⟨_,s2,λv q=>by cases q⟩ ⟨_,s3,λv q=>by cases q⟩ s4.obj s5.obj
 keep:=λi h h' st k=>by
  obtain⟨s1,s2,⟨x,y,s3⟩,s4,s5⟩:=st
  have m2:TI∈[z,TI,TO,i1,i2]:=.tail _ (.head _)
  have m3:TO∈[z,TI,TO,i1,i2]:=.tail _ (.tail _ (.head _))
  have m4:i1∈[z,TI,TO,i1,i2]:=.tail _ (.tail _ (.tail _ (.head _)))
  have m5:i2∈[z,TI,TO,i1,i2]:=.tail _ (.tail _ (.tail _ (.tail _ (.head _))))
  exact⟨k z (.head _) _ s1,k TI m2 _ s2,⟨x,y,k TO m3 _ s3⟩,s4.at (k i1 m4),s5.at (k i2 m5)⟩
 item:=by
  intro X hP hw hK hc i pins s σ H E I hf st hg
  subst hP hw hK
  obtain⟨s1,s2,⟨x0,y0,s3⟩,s4,s5⟩:=st
  obtain⟨xs,ys,x,y,hx,hy,ex,ey⟩:=hg
  obtain⟨its,rx,px⟩:=hx.its I
  obtain⟨its',ry,py⟩:=hy.its I
  obtain⟨u,hu,ru⟩:=rx.get ex
  obtain⟨u',hu',ru'⟩:=ry.get ey
  rw[←List.getElem?_toArray]at hu hu'
  refine Zj1 D (Zm7 hu) (Zm7 hu') s1 s2 s3 ⟨s4,px⟩ ⟨s5,py⟩ λh' g1 g2 g3 g4 g5 g6=>?_
  refine⟨_,rfl,wpAny_letOwnedTupleGo_zip (s:={ s with heap:=h' }) g1 λh2 z2 sb=>?_⟩
  have up:∀c o,c≠z->h'.get? c=some o->h2.get? c=some o:=λc o n e=>(sb.2 c n).trans e
  have kp:∀c o,c∉[z,TO,i1,i2]->s.heap.get? c=some o->h2.get? c=some o:=λc o n e=>up c o (λq=>n (q▸ .head _)) (g6 c o n e)
  have t5:Vg h2 s.heap.objs.size u u':=up _ _ (X3 (XH s1)) g5
  have i1z:=(D.a1 i1 (.head _)).1
  have i2z:=(D.a2 i2 (.head _)).1
  have n3:=g3.at (up i1 · i1z)
  have n4:=g4.at (up i2 · i2z)
  obtain⟨f1,f2,f3,f4,f5⟩:(Zei X pins H z∧Zei X pins H TI∧Zei X pins H TO∧Zei X pins H i1∧Zei X pins H i2):=⟨hf _ (.head _),hf _ (.tail _ (.head _)),hf _ (.tail _ (.tail _ (.head _))),hf _ (.tail _ (.tail _ (.tail _ (.head _)))),hf _ (.tail _ (.tail _ (.tail _ (.tail _ (.head _)))))⟩
  have I2:Inv X pins σ (upd H s.heap.objs.size (.tup [x,y])) { s with heap:=h2 } :=
   I.turnTup (ch:=[z,TO,i1,i2]) (its:=[u,u']) (Zys f1 f3 f4 f5) kp (Zys ⟨_,z2⟩ ⟨_,up _ _ D.TOz g2⟩ (n3.obj.imp λ_ q=>q.1) (n4.obj.imp λ_ q=>q.1)) (XD _) Z00 (.cons ru (.cons ru' .nil)) ⟨_,t5,rfl,0,rfl⟩
  have lt:∀{c:Addr} {o:Obj},s.heap.get? c=some o->Zei X pins H c->upd H s.heap.objs.size (.tup [x,y]) c=none:=λe f=>by rw[Zi (Xo (XH e))];exact f.1
  refine⟨.ref s.heap.objs.size,_,I2,rfl,⟨_,x,y,I.fresh,rfl,rfl,λzs hz=>by rw[hz.inj I hx];exact ex,λzs hz=>by rw[hz.inj I hy];exact ey⟩,⟨z2,kp TI _ (no4 D.TIz D2.1 D2.2.1 D2.2.2) s2,⟨_,_,up _ _ D.TOz g2⟩,n3,n4⟩,?_⟩
  obtain⟨o4,e4,_⟩:=s4.obj
  obtain⟨o5,e5,_⟩:=s5.obj
  exact Z59 (lt s1 f1) (lt s2 f2) (lt s3 f3) (lt e4 f4) (lt e5 f5)
 done:=by
  intro X hP hw hK hc i pins s σ H E I hf st hg
  subst hP hw hK
  obtain⟨s1,s2,⟨x0,y0,s3⟩,s4,s5⟩:=st
  obtain⟨xs,ys,hx,hy,he⟩:=hg
  obtain⟨its,rx,px⟩:=hx.its I
  obtain⟨its',ry,py⟩:=hy.its I
  have l1:=rx.length
  have l2:=ry.length
  refine Zlw (I.ok.hd hc) D (S1:=λh=>ItB t h i1 a i∧IsB t h a its.toArray) (T1:=λh=>ItB t h i1 a (i+1)) (S2:=λh=>ItB t h i2 b i∧IsB t h b its'.toArray) ?_ s1 s2 s3 ⟨s4,px⟩ ⟨s5,py⟩ λh' k=>⟨rfl,I.turnAll (ch:=[z,TO,i1,i2]) (Zys (hf _ (.head _)) (hf _ (.tail _ (.tail _ (.head _)))) (hf _ (.tail _ (.tail _ (.tail _ (.head _))))) (hf _ (.tail _ (.tail _ (.tail _ (.tail _ (.head _))))))) k⟩
  cases q:its.toArray[i]? with
  | none=>exact .inl (Z2z q)
  | some v=>
   refine .inr ⟨⟨v,Zm7 q⟩,Z2z ?_⟩
   have:=(Vd.mp q).1
   rw[XF]at this
   rw[Array.getElem?_eq_none_iff,XF]
   omega
 self:=λ_ _ _ _ _ st h=>wpAny_pyIter_zip st.1 h
theorem Zlt{P:X4}{w:Qm}{A:Qn}{E:Xc->Xf->Prop}{s:Xf}{t:Bool}{a b:Addr}{xs ys:Array Xc}{Q:Xc->Xf->Prop}(h1:IsB t s.heap a xs)(h2:IsB t s.heap b ys)
  (h:∀h' n,n=s.heap.objs.size->IsZip h' (n+4) (n+2) (n+3) .none->Vg h' (n+2) (.ref n) (.ref (n+1))->Vg h' (n+3) .none .none->ItB t h' n a 0->ItB t h' (n+1) b 0 ->
   (∀ c o,s.heap.get? c=some o->h'.get? c=some o)->Q (.ref (n+4)) { s with heap:=h' }):Xx (X5 P w) A (call (.type "zip") [.ref a,.ref b]) Q E s:=by
 cases t with
 | true=>exact Zlq h1 h2 h
 | false=>exact call_zip_2 h1 h2 λh' g1 g2 g3 g4 g5 _ g7=>h h' _ rfl g1 g2 g3 g4 g5 g7
noncomputable def Z6s(K:Xd)(ta:TA):TI:=λσ H R=>ta σ H λvs H1=>∃t a b,vs=[.ref a,.ref b]∧(∃xs,SqB K t H1 a xs)∧(∃ys,SqB K t H1 b ys)∧R (Z8f K t a b) H1
theorem Zxh{X:Cx}{K:Xd}{a b:Expr}{ta:TA}{p pos pt:Pos}{es:List Expr}{kk:Nat}(hK:X.K=K)(hg:Gl X "zip")(hm:X.mg "zip"=none)(hv:Qo "zip"=some (.type "zip"))(ha:PA X [a,b] ta)
  (he:Xv [a,b] X.env=(false,eval a X.env) :: Xv [b] X.env:=by rfl) (hpl:(Bf pos (Xv [b] X.env)).any (·.1)=false:=by rfl) :
  PI X (.Tuple es kk pt) (.Call (.Name "zip" p) [a,b] [] pos) (Z6s K ta):=by
 subst hK
 intro pins s σ H R I h
 refine Vk (Zcj I hg hm hv ?_ (by decide) (by decide))
 refine Bw (thn (ha pos pins s σ H _ I h) λus s1 q=>?_) he hpl
 obtain⟨vs,H1,I1,r1,t,l1,l2,e1,⟨xs,hx⟩,⟨ys,hy⟩,q⟩:=q
 subst e1
 obtain⟨u,u',rfl,ru,ru'⟩:=vals2 r1
 cases(show u=Xu l1 from ru)
 cases(show u'=Xu l2 from ru')
 obtain⟨its,rx,px⟩:=hx.its I1
 obtain⟨its',ry,py⟩:=hy.its I1
 refine Zlt px py λh' n en g1 g2 g3 g4 g5 g7=>?_
 have I2:Inv X pins σ H1 { s1 with heap:=h' }:=I1.kept (t':=s1.toks) g7
 refine wpAny_pyIter_zip (s:={ s1 with heap:=h' }) g1 ?_
 refine⟨_,[_,_,_,_,_],Z8y _ _ _ _ _ _ _ _,_,H1,rfl,I2,Zm8 (ZA.new (en▸px.lt) (en▸py.lt)) (ZA.new2 n),⟨g1,g2,⟨_,_,g3⟩,g4,g5⟩,?_,q⟩
 subst en
 have ok:∀k:Nat,Zei X pins H1 (s1.heap.objs.size+k):=λk=>I1.fpOk (Vb _ _) (I1.hok.fresh (Vb _ _))
 exact Z59 (ok 4) (ok 2) (ok 3) (ok 0) (ok 1)
section
variable {X:Cx}{io:List Nat}{p c:Bool}{a b:Expr}{mr:MAt}{ra:FA}
noncomputable def Z38(t:Bool)(as:List Xa):Xa:=match t with|true=>.tuple as|false=>.list as
theorem Rel.keptSq{C:MC G}{H:Hp}{σ:St}{δ:Zd}{fp:Fp}{ex:Addr->Prop}{v:V}{t:Bool}{ds:List Xa}(R:Rel C io H σ δ fp ex)(q:Da G H (λa=>c=true->Lf C fp ex a) v (Z38 t ds)) :
  ∃a xs,v= .ref a∧∀H':Hp,(∀b o,H b=some o->(c=false∨¬Foot fp b)->H' b=some o)->SqB G t H' a xs∧Das G H' (λa=>c=true->(Lf C fp ex a∧H a≠none)) xs ds:=by
 cases t with
 | false=>exact R.keptList q
 | true=>
  generalize hd:Z38 true ds=d at q
  cases q with
  | tup e r=>
   cases hd
   rename_i a0 xs0
   refine⟨a0,xs0,rfl,λH' kp=>?_⟩
   obtain⟨f1,f2⟩:=R.kept kp
   exact⟨f2 _ (.tup _) e,r.frame f1 f2⟩
  | _=>cases hd
theorem Zqy{ds es:List Xa}(h:Z2b ds=some es):∃t as bs,ds=[Z38 t as,Z38 t bs]∧es=Zkh as bs:=by
 unfold Z2b at h
 split at h
 ·cases h;exact⟨false,_,_,rfl,rfl⟩
 ·cases h;exact⟨true,_,_,rfl,rfl⟩
 ·cases h
noncomputable def iZB(mr:MAt):MIt:=λδ K=>mr δ λrs δ'=>∃es,Z2b (OT.datas rs)=some es∧K es δ'
theorem Ztv{p' pos pt:Pos}{es:List Expr}{kk:Nat}(hg:Gl X "zip")(hm:X.mg "zip"=none)(hv:Qo "zip"=some (.type "zip"))(ha:MA X io p c [a,b] mr)
  (he:Xv [a,b] X.env=(false,eval a X.env) :: Xv [b] X.env:=by rfl) (hpl:(Bf pos (Xv [b] X.env)).any (·.1)=false:=by rfl):MI X io p c (.Tuple es kk pt) (.Call (.Name "zip" p') [a,b] [] pos) (iZB mr):=by
 obtain⟨_,A,s⟩:=ha
 refine⟨_,Zxh rfl hg hm hv A he hpl,λC H σ δ fp ex K' Q R h kk=>s C H σ δ fp ex _ _ R h λH1 vs rs δ1 fp1 new r1 h1=>?_⟩
 have q:=r1.das R
 obtain⟨es,hz,h1⟩:=h1
 obtain⟨t,as,bs,e,rfl⟩:=Zqy hz
 rw[e]at q
 cases q with
 | cons q1 q2=>
  cases q2 with
  | cons q2 q3=>
   cases q3
   have R1:=r1.base
   obtain⟨l1,xs,rfl,k1⟩:=R1.keptSq q1
   obtain⟨l2,ys,rfl,k2⟩:=R1.keptSq q2
   refine⟨t,l1,l2,rfl,⟨_,(k1 H1 λ_ _ e _=>e).1⟩,⟨_,(k2 H1 λ_ _ e _=>e).1⟩,kk _ H1 _ δ1 fp1 R1 r1.stp (λH' kp i=>?_) h1⟩
   obtain⟨s1,d1⟩:=k1 H' kp
   obtain⟨s2,d2⟩:=k2 H' kp
   refine⟨λd hd=>?_,λhd=>⟨_,_,s1,s2,by rw[d1.length,d2.length];exact Zlp hd⟩⟩
   obtain⟨x,y,hx,hy,rfl⟩:=Zit hd
   obtain⟨u,hu,qu⟩:=d1.get hx
   obtain⟨w,hw,qw⟩:=d2.get hy
   refine⟨⟨_,_,u,w,s1,s2,hu,hw⟩,λv H'' hyl=>?_⟩
   obtain⟨t',u',w',ht,rfl,rfl,hu',hw'⟩:=hyl
   cases hu.symm.trans (hu' _ s1)
   cases hw.symm.trans (hw' _ s2)
   exact⟨Z0 ht _,.tup Zm (.cons (qu.same (Z0 ht _)) (.cons (qw.same (Z0 ht _)) .nil))⟩
theorem Zvj{tg e:Expr}(g:MI X io p c tg e (iZB (o2 ra))):MI X io p c tg e (o2 (Zlz ra)):=g.weak λδ K h=>by
 obtain⟨r,δ',h,k⟩:=h
 obtain⟨⟨x,δ1⟩,h1,h⟩:=bs h
 obtain⟨ds,h2,h⟩:=bs h
 cases h
 exact⟨x,_,h1,_,h2,k⟩
end
end L2
namespace L2
open PySem PySem.Spec PyProof.Rows PySem.W
noncomputable def kEv{α:Type}(lt:Nat->Nat->Bool):KasT α->α
 | .ret a=>a
 | .ask i j k=>kEv lt (k (lt i j))
noncomputable def kGood{α:Type}(n:Nat)(P:α->Prop):KasT α->Prop
 | .ret a=>P a
 | .ask i j k=>i<n∧j<n∧∀b,kGood n P (k b)
theorem kGood.bind{α β:Type}{n:Nat}{P:α->Prop}{R:β->Prop}{f:α->KasT β}(hf:∀a,P a->kGood n R (f a)){t:KasT α}(h:kGood n P t):kGood n R (t.bind f):=by
 induction t with
 | ret a=>exact hf a h
 | ask i j k ih=>exact⟨h.1,h.2.1,λb=>ih b (h.2.2 b)⟩
theorem kGood.ev{α:Type}{n:Nat}{P:α->Prop}{lt:Nat->Nat->Bool}{t:KasT α}(h:kGood n P t):P (kEv lt t):=by
 induction t with
 | ret a=>exact h
 | ask i j k ih=>exact ih _ (h.2.2 _)
theorem kGood.wp{α:Type}{n:Nat}{P:α->Prop}{lt:Nat->Nat->Bool}{cmp:Nat->Nat->(Bool->Xf->Prop)->Xf->Prop}{s:Xf}{Q:α->Xf->Prop}(hc:∀i j C,i<n->j<n->C (lt i j) s->cmp i j C s){t:KasT α}(h:kGood n P t)(q:Q (kEv lt t) s):t.kasWp cmp Q s:=by
 induction t with
 | ret a=>exact q
 | ask i j k ih=>exact hc i j _ h.1 h.2.1 (ih _ (h.2.2 _) q)
noncomputable def kP(n:Nat)(p:Array Nat):Prop:=p.toList.Perm (Xz n)
theorem kP.at{n:Nat}{p:Array Nat}(h:kP n p)(h0:0<n)(i:Nat):p.getD i 0<n:=by
 by_cases c:i<p.size
 ·have e:p.getD i 0=p[i]:=by simp[Array.getD,c]
  rw[e]
  exact Qx.mp (h.mem_iff.mp (Array.getElem_mem_toList c))
 ·have e:p.getD i 0=0:=by simp[Array.getD,c]
  rw[e];exact h0
theorem kP.rev{n:Nat}{p:Array Nat}(h:kP n p)(i j:Nat):kP n (kas_rev p i j):=(Array.perm_iff_toList_perm.mp (mirror_perm p i j _)).trans h
theorem kP.bub{n:Nat}{p:Array Nat}(h:kP n p)(i j:Nat):kP n (bubble p i j):=(Array.perm_iff_toList_perm.mp (bubble_perm p i j)).trans h
theorem Zjo{n:Nat}{p:Array Nat}(h:kP n p)(h0:0<n)(f m:Nat):kGood n (λ_=>True) (kas_asc p f m):=by
 induction f generalizing m with
 | zero=>exact trivial
 | succ f ih=>
  refine⟨h.at h0 _,h.at h0 _,λb=>?_⟩
  cases b
  ·exact ih _
  ·exact trivial
theorem Zmf{n:Nat}(h0:0<n)(f:Nat){p:Array Nat}(h:kP n p)(m q:Nat):kGood n (λr:Array Nat×Nat×Nat=>kP n r.1) (kas_desc f p m q):=by
 induction f generalizing p m q with
 | zero=>exact h
 | succ f ih=>
  refine⟨h.at h0 _,h.at h0 _,λb=>?_⟩
  cases b
  ·refine⟨h.at h0 _,h.at h0 _,λb=>?_⟩
   cases b
   ·exact ih h _ _
   ·exact h
  ·show kGood n _ (if q>0 then _ else _)
   split
   ·exact ih (h.rev _ _) _ _
   ·exact ih h _ _
theorem Zgj{n:Nat}{p:Array Nat}(h:kP n p)(h0:0<n)(m r:Nat):kGood n (λr:Nat×Array Nat=>kP n r.2) (kas_tail3 m r p):=by
 refine kGood.bind (P:=λ_=>True) (λa _=>?_) (Zjo (h.rev _ _) h0 _ _)
 exact h.rev _ _
theorem Za9{n:Nat}{p:Array Nat}(h:kP n p)(h0:0<n)(m r:Nat):kGood n (λr:Nat×Array Nat=>kP n r.2) (kas_descPart m r p) :=
 (Zmf h0 _ h _ _).bind λx hx=>by
  show kGood n _ (if x.2.2>0 then _ else _)
  split
  ·exact Zgj (hx.rev _ _) h0 _ _
  ·exact Zgj hx h0 _ _
theorem Zkj{n:Nat}{p:Array Nat}(h:kP n p)(h0:0<n)(r:Nat):kGood n (λr:Nat×Array Nat=>kP n r.2) (kas_count r p) :=
 (Zjo h h0 _ _).bind λm _=>by
  show kGood n _ (if(m==r)=true then _ else if m>1 then _ else _)
  split
  ·exact h
  ·split
   ·refine⟨h.at h0 _,h.at h0 _,λb=>?_⟩
    cases b
    ·exact Za9 (h.rev _ _) h0 _ _
    ·exact h
   ·exact Za9 h h0 _ _
theorem Zk1{n:Nat}{p:Array Nat}(h:kP n p)(h0:0<n)(k f l r:Nat):kGood n (λ_=>True) (kas_place p k f l r):=by
 induction f generalizing l r with
 | zero=>exact trivial
 | succ f ih=>
  show kGood n _ (if l≥r then _ else _)
  split
  ·exact trivial
  ·refine⟨h.at h0 _,h.at h0 _,λb=>?_⟩
   cases b
   ·exact ih _ _
   ·exact ih _ _
theorem Zqk{n:Nat}(h0:0<n)(f:Nat){p:Array Nat}(h:kP n p)(k:Nat):kGood n (kP n) (kas_bin f p k):=by
 induction f generalizing p k with
 | zero=>exact h
 | succ f ih=>exact(Zk1 h h0 _ _ _ _).bind λl _=>ih (h.bub _ _) _
theorem Zde{n:Nat}(h0:0<n):kGood n (kP n) (kas_sort n) :=
 (Zkj (p:=U4 (Xz n)) (.refl _) h0 n).bind λr hr=>by
  show kGood n _ (if r.1<n then _ else _)
  split
  ·exact Zqk h0 _ hr _
  ·exact hr
noncomputable def Zs1(lt:Nat->Nat->Bool)(n:Nat):List Nat:=(kEv lt (kas_sort n)).toList
theorem Za4{lt:Nat->Nat->Bool}{n:Nat}(h0:0<n):(Zs1 lt n).Perm (Xz n):=(Zde h0).ev (P:=kP n)
end L2
namespace L2
open PySem PySem.Spec PyProof.Rows PySem.W PySem.SeqAt
open AutoSeq1 (wpAny_loadPart')
open MeetsSeq MeetsSeq2 MeetsSeq3 SeqRoads2
noncomputable def ltI:List Int->List Int->Bool
 | [],[]=>false
 | [],_ :: _=>true
 | _ :: _,[]=>false
 | x :: xs,y :: ys=>if x=y then ltI xs ys else decide (x<y)
theorem Zsn{vs:List Xc}{ns:List Int}(h:IntsAre vs ns)(i:Nat)(hi:i<vs.length):∃x t,vs[i]? =some (.int x t)∧ns.drop i=x :: ns.drop (i+1):=by
 induction h generalizing i with
 | nil=>exact absurd hi (JQ i)
 | cons n t h ih=>
  cases i with
  | zero=>exact⟨n,t,rfl,rfl⟩
  | succ i=>exact ih i (Vw hi)
theorem Zis{vs:List Xc}{ns:List Int}(h:IntsAre vs ns):vs.length=ns.length:=by
 induction h with
 | nil=>rfl
 | cons n t h ih=>exact congrArg Nat.succ ih
theorem Zng{xs ys:List Int}(h:xs=[]∨ys=[]):ltI xs ys=decide (xs.length<ys.length):=by
 cases xs<;>cases ys<;>first|rfl|(rcases h with h|h<;>cases h)|exact(decide_eq_true (Ui _)).symm
section
variable {prog:X4}{w:Qm}{A:Qn}{E:Xc->Xf->Prop}{s:Xf}
end
theorem Zsv{prog:X4}{w:Qm}{A:Qn}{E:Xc->Xf->Prop}{s:Xf}{a b:Int}{t u:Tok}{Q:Xc->Xf->Prop}(h:Q (.bool (decide (a<b))) s):Xx (X5 prog w) A (richCompare .Lt (.int a t) (.int b u)) Q E s:=lt_int h
theorem Zk5(l b:Addr)(items items2:Array Xc)(n n2:Nat)(dd dd2:Option Addr)(sl sl2:Array (Option Xc)){xs ys:List Int}(h1:IntsAre items.toList xs)(h2:IntsAre items2.toList ys) :
  Meets (Vo.«tuple.__lt__» ⟨[.ref l,.ref b],[]⟩)
   (λA R s=>s.heap.get? l=some { cls:=.type "tuple",dict:=dd,data:=.seq items n,slots:=sl }∧s.heap.get? b=some { cls:=.type "tuple",dict:=dd2,data:=.seq items2 n2,slots:=sl2 }∧
    R (.ok (.ret (.bool (ltI xs ys)))) s) :=
 .of_wp λprog w A R s h=>by
  obtain⟨hp,g,d,tk,os⟩:=s;obtain⟨hl,hb,h⟩:=h
  have f2:=AutoSeq1.sub_tuple_tuple
  have e1:items.toList.length=xs.length:=Zis h1
  have e2:items2.toList.length=ys.length:=Zis h2
  wp_walk using wpAny_loadPart' hl,wpAny_loadPart' hb,wpAny_forIn_list _ (λrest b s'=>b.1=none∧s'=⟨hp,g,d,tk,os⟩∧∃i,rest=(items.toList.zip items2.toList).drop i∧i≤items.toList.length∧i≤items2.toList.length∧
   R (.ok (.ret (.bool (ltI (xs.drop i) (ys.drop i))))) ⟨hp,g,d,tk,os⟩) _
  case turn=>
   rintro⟨v,u⟩ rest b s' ⟨hb',rfl,i,hz,u1,u2,hR⟩
   have hlt:i<(items.toList.zip items2.toList).length:=by
    rcases Bc i (items.toList.zip items2.toList).length with h'|h'
    ·exact h'
    ·rw[List.drop_of_length_le h']at hz;cases hz
   have hm:=hlt
   rw[List.length_zip]at hm
   obtain⟨x,t,q1,q2⟩:=Zsn h1 i (by omega)
   obtain⟨y,r,q3,q4⟩:=Zsn h2 i (by omega)
   rw[V2 hlt]at hz
   injection hz with hyx hrest
   have hz0:(items.toList.zip items2.toList)[i]? =some (.int x t,.int y r):=by rw[List.getElem?_zip_eq_some];exact⟨q1,q3⟩
   rw[Xl hlt]at hz0
   injection hz0 with hz0
   rw[hz0]at hyx
   cases hyx
   rw[q2,q4]at hR
   unfold ltI at hR
   refine Xb (EqAt.int_int x t y r prog w _ _ ?_)
   by_cases cx:x=y
   ·rw[if_pos cx]at hR
    rw[beq_iff_eq.mpr cx]
    wp_walk
    exact⟨rfl,rfl,i+1,hrest,by omega,by omega,hR⟩
   ·rw[if_neg cx]at hR
    rw[beq_eq_false_iff_ne.mpr cx]
    wp_walk using Zsv
    exact⟨_,rfl,hR⟩
  case fin=>
   rintro⟨b1,b2⟩ s' ⟨hb',rfl,i,hz,u1,u2,hR⟩
   simp only at hb'
   subst hb'
   have hge:min items.toList.length items2.toList.length≤i:=by
    rcases Bc i (items.toList.zip items2.toList).length with h'|h'
    ·rw[V2 h']at hz;cases hz
    ·rw[List.length_zip]at h';exact h'
   have hv:ltI (xs.drop i) (ys.drop i)=decide (items.size<items2.size):=by
    rw[Zng ((show i=items.toList.length∨i=items2.toList.length by omega).imp (λc=>List.drop_eq_nil_of_le (by omega)) λc=>List.drop_eq_nil_of_le (by omega)),VR,VR]
    rw[Xp]at e1 e2 u1 u2
    exact decide_eq_decide.mpr (by omega)
   rw[hv]at hR
   wp_walk
   exact⟨_,rfl,hR⟩
  case h=>
   exact⟨rfl,rfl,0,rfl,QH _,QH _,h⟩
section
variable {prog:X4}{w:Qm}{A:Qn}{E:Xc->Xf->Prop}{s:Xf}
end
end L2
namespace L2
open PySem PySem.Spec PyProof.Rows PySem.W
noncomputable def Zf8{α:Type}(d:α)(lt:Nat->Nat->Bool)(vs:List α):List α:=if vs.length<2 then vs else(Zs1 lt vs.length).map λi=>vs.getD i d
theorem Zkz{α:Type}(d:α)(vs:List α):((Xz vs.length).map λi=>vs.getD i d)=vs:=by
 refine List.ext_getElem? λi=>?_
 rw[Xj]
 by_cases c:i<vs.length
 ·rw[JG c,Xl c]
  show some (vs.getD i d)=_
  rw[Xq,Xl c];rfl
 ·rw[Vf (by rw[XX];omega),Vf (by omega)];rfl
theorem Zhc{α:Type}(d:α)(lt:Nat->Nat->Bool)(vs:List α):(Zf8 d lt vs).Perm vs:=by
 unfold Zf8
 split
 ·exact .refl _
 ·have:=(Za4 (lt:=lt) (n:=vs.length) (by omega)).map λi=>vs.getD i d
  rwa[Zkz]at this
theorem Zrk{α β:Type}(f:α->β)(d:α)(lt:Nat->Nat->Bool)(vs:List α):Zf8 (f d) lt (vs.map f)=(Zf8 d lt vs).map f:=by
 unfold Zf8
 rw[Xe]
 split
 ·rfl
 ·rw[Qq]
  refine Qe λi _=>?_
  show(vs.map f).getD i (f d)=f (vs.getD i d)
  rw[Xq,Xq,Xj]
  cases vs[i]? <;>rfl
section
variable {prog:X4}{w:Qm}{A:Qn}{E:Xc->Xf->Prop}{s:Xf}
theorem Zkc{κ:SortKind}{lt:Nat->Nat->Bool}{h0:Heap}{a:Addr}{vs:List Xc}{n:Nat}{P:PySem.Fin->Xf->Prop}(ho:s.heap.get? a=some (VN "list" vs.toArray n))
  (k0:∀b o,h0.get? b=some o->s.heap.get? b=some o) (ha0:h0.get? a=none) (h64:vs.length<64)
  (hk:2≤vs.length->∀s':Xf,(∀b o,h0.get? b=some o->s'.heap.get? b=some o)->∀Q:SortKind->Xf->Prop,Q κ s'->Xx (X5 prog w) A (keyKind' vs.toArray) Q E s')
  (hc:2≤vs.length->∀s':Xf,(∀b o,h0.get? b=some o->s'.heap.get? b=some o)->∀i j C,i<vs.length->j<vs.length->C (lt i j) s'->kas_ask prog w A κ vs i j C s')
  (h:P (.done (.ret .none)) { s with heap:=sortedHeap s.heap a vs (U4 (Zf8 QK lt vs)) }):Xx (X5 prog w) A (Vo.«list.sort» ⟨[.ref a],[]⟩) P E s:=by
 have ha:a<s.heap.objs.size:=XH ho
 obtain⟨e1,ho1⟩:∃e1,(s.heap.update a (Vr λ_=>(#[]:Array Xc))).get? a=some (VN "list" #[] e1):=⟨_,get?_update_seq ho λ_=>#[]⟩
 have ho6:(((s.heap.update a (Vr λ_=>(#[]:Array Xc))).push (VN "tuple" vs.toArray 0)).push (VN "list" #[] 0)).get? a=some (VN "list" #[] e1):=Xg _ (Xg _ ho1)
 have k6:∀b o,h0.get? b=some o->(((s.heap.update a (Vr λ_=>(#[]:Array Xc))).push (VN "tuple" vs.toArray 0)).push (VN "list" #[] 0)).get? b=some o:=λb o e=>by
  refine Xg _ (Xg _ ?_)
  rw[Heap.get?_update_ne _ _ _ _ (λq=>by rw[q,ha0]at e;cases e)]
  exact k0 b o e
 rw[list_sort_plain]
 refine Xb (listItems_at ho rfl ?_)
 refine Xb (listUpdate_at ho rfl ?_ (by rw[XF,Qh];omega) (QH _))
 refine Xb (seqEpoch_at ho1 rfl ?_)
 refine Xb (wpAny_newTuple ?_ (by show vs.length≤_;rw[Qh];omega))
 refine Xb (wpAny_newList ?_ (QH _))
 refine By ?_
 show Xx (X5 prog w) A _ P E { s with heap:=((s.heap.update a (Vr λ_=>(#[]:Array Xc))).push (VN "tuple" vs.toArray 0)).push (VN "list" #[] 0) }
 dsimp only
 have hs:vs.toArray.size=vs.length:=XF ..
 by_cases h2:vs.toArray.size<2
 ·have el:Zf8 QK lt vs=vs:=if_pos (hs▸h2)
  rw[el]at h
  rw[if_pos h2,if_pos h2]
  refine Xb (Xk ?_)
  rw[StateT.run_pure]
  refine Xb (Xk ?_)
  dsimp only
  refine Xb (seqEpoch_at ho6 rfl ?_)
  have ez:((vs.toArray.zip vs.toArray).map (·.2))=vs.toArray:=by
   apply Array.toList_inj.mp
   rw[Array.toList_map,Array.toList_zip,List.map_snd_zip (XD _)]
  show Xx _ _ (Builtin.List.listUpdate _ (λ_=>(vs.toArray.zip vs.toArray).map (·.2))>>=_) _ _ _
  rw[ez]
  refine Xb (listUpdate_at ho6 rfl ?_ (QH _) (by rw[hs,Qh];omega))
  simp only[bne_self_eq_false,XC,if_false]
  exact Xk h
 ·rw[if_neg h2,if_neg h2]
  have h2':2≤vs.length:=by omega
  have el:Zf8 QK lt vs=(Zs1 lt vs.length).map λi=>vs.getD i QK:=if_neg (by omega)
  rw[el]at h
  refine Xb (hk h2' _ k6 _ ?_)
  have est:SortSt.mk' κ (vs.toArray.zip vs.toArray) #[] 7 none=kas_st κ (pairsOf vs) (U4 (Xz vs.length)):=by
   have e:=kas_range (pairsOf vs)
   rw[pairsOf_size]at e
   show SortSt.mk' κ (pairsOf vs) #[] 7 none=SortSt.mk' κ ((U4 (Xz vs.length)).map (kas_item (pairsOf vs))) #[] 7 none
   rw[e]
  have run:=kas_runs (prog:=prog) (w:=w) (A:=A) (κ:=κ) (it:=pairsOf vs) (E:=E) (s:={ s with heap:=((s.heap.update a (Vr λ_=>(#[]:Array Xc))).push (VN "tuple" vs.toArray 0)).push (VN "list" #[] 0) })
   (Q:=λ_ st' s'=>arrOf st'=(kEv lt (kas_sort vs.length)).map (kas_item (pairsOf vs))∧failedOf st'=none∧s'={ s with heap:=((s.heap.update a (Vr λ_=>(#[]:Array Xc))).push (VN "tuple" vs.toArray 0)).push (VN "list" #[] 0) })
   (G:=λp s'=>p=kEv lt (kas_sort vs.length)∧s'={ s with heap:=((s.heap.update a (Vr λ_=>(#[]:Array Xc))).push (VN "tuple" vs.toArray 0)).push (VN "list" #[] 0) })
   h2' h64 (λp' st' s' _ a2 a3 a4=>⟨a4.1▸a2,a3,a4.2⟩) (by
    rw[←kas_ask_eq]
    exact(Zde (n:=vs.length) (by omega)).wp (hc h2' _ k6) ⟨rfl,rfl⟩)
  rw[←est]at run
  refine Xb (QC run ?_ λ_ _ e=>e)
  intro r s' z
  obtain⟨har,hf,rfl⟩:=z
  have hout:(arrOf r.2).map (·.2)=U4 ((Zs1 lt vs.length).map λi=>vs.getD i QK):=by
   apply Array.toList_inj.mp
   rw[har,Array.map_map,Array.toList_map]
   exact Qe λi _=>by show(kas_item (pairsOf vs) i).2=_;rw[kas_item_eq]
  rw[hout]
  refine Xb (seqEpoch_at ho6 rfl ?_)
  refine Xb (listUpdate_at ho6 rfl ?_ (QH _) (by rw[XF,Xe,(Za4 (by omega)).length_eq,XX,Qh];omega))
  rw[hf]
  simp only[bne_self_eq_false,XC,if_false]
  exact Xk h
end
end L2
namespace L2
open PySem PySem.Spec PyProof.Rows PySem.W
variable {G:Xd}
structure Ybd{α:Type}(kd:Xa->Option α)(lt:α->α->Bool):Prop where
 lay:∀d k,kd d=some k->d.canLay0=true
 run:∃κ:SortKind,(∀(prog:X4) (w:Qm) (A:Qn) (E:Xc->Xf->Prop) (s:Xf) (vs:List Xc) (ds:List Xa) (as:List Addr) (Q:SortKind->Xf->Prop),2≤vs.length->ReadsAll s.heap vs ds as->(∀d∈ds,∃k,kd d=some k)->Q κ s->Xx (X5 prog w) A (keyKind' vs.toArray) Q E s)∧
  ∀(prog:X4) (w:Qm) (A:Qn) (E:Xc->Xf->Prop) (s:Xf) (u v:Xc) (d e:Xa) (as bs:List Addr) (k m:α) (C:Bool->Xf->Prop),A.units+32<Vu->Reads s.heap u d as->Reads s.heap v e bs->kd d=some k->kd e=some m->C (lt k m) s->Xx (X5 prog w) A (keyLt' κ u v) C E s
theorem readsAll_get{h:Heap}{vs:List Xc}{ds:List Xa}{as:List Addr}(r:ReadsAll h vs ds as):vs.length=ds.length∧∀(i:Nat) d,ds[i]? =some d->∃v bs,vs[i]? =some v∧Reads h v d bs:=by
 induction ds generalizing vs as with
 | nil=>cases r;exact⟨rfl,λi d e=>by rw[Ue]at e;cases e⟩
 | cons d ds ih=>
  cases r with
  | cons r q=>
   obtain⟨z1,z2⟩:=ih q
   refine⟨congrArg Nat.succ z1,λi e he=>?_⟩
   cases i with
   | zero=>cases he;exact⟨_,_,rfl,r⟩
   | succ i=>exact z2 i e he
theorem lay_ints(ns:List Int):Sh 1 (.list (ns.map XM)):=Znh λd m=>by
 obtain⟨x,_,rfl⟩:=XR.mp m
 exact Zte x
theorem Zg1(ns:List Int):Sh 1 (.tuple (ns.map XM)):=Z06 λd m=>by
 obtain⟨x,_,rfl⟩:=XR.mp m
 exact Zte x
theorem Zln(a b:List Int):JV (.list (a.map XM)) (.list (b.map XM))=decide (a=b):=by
 have p:∀l:List Int,Ym (.list (l.map XM))=true:=λl=>by rw[Ym];induction l with|nil=>rfl|cons x l ih=>exact ih
 have inj:∀{l m:List Int},Uq (l.map XM)= .list (m.map XM)->l=m:=λh=>by
  injection h with h
  exact(List.map_inj_right λx y z=>by injection z).mp h
 by_cases c:a=b
 ·rw[Zs9 (p a) (p b) (by rw[c]),decide_eq_true c]
 ·rw[Z1y (p a) (p b) λz=>c (inj z),decide_eq_false c]
end L2
namespace L2
open PySem PySem.Spec PyProof.Rows PySem.W
variable {G:Xd}
noncomputable def lk{α:Type}(kd:Xa->Option α)(lt:α->α->Bool)(es:List Xa):Nat->Nat->Bool:=λi j=>((kd (es.getD i .none)).bind λa=>(kd (es.getD j .none)).map λb=>lt a b).getD false
section
variable {X:Cx}{α:Type}{kd:Xa->Option α}{lt:α->α->Bool}
end
end L2
namespace L2
open PySem PySem.Spec PyProof.Rows
section
variable {X:Cx}{io:List Nat}{p p' c c' q r:Bool}{a b e:Expr}{fa fb:FE}{es:List Expr}{ra:FA}{st:Stmt}{sts ss ss':List Stmt}{f g:FS}{ta:FT}
theorem xv(i:Nat){x:Str}{pos:Pos}(hN:X.N[i]? =some x:=by rfl)(hv:Vis X.env.scope x:=by first|exact QF rfl|exact Qp (QF rfl)|exact Qp (Qp rfl))(hd:(x==("__debug__" : Str))=false:=by decide)(he:(x==("__classdict__" : Str))=false:=by decide):ME X io true true (.Name x pos) (o2 (Zc i)):=Z19 (mv i hN hv hd he)
theorem xo(i:Nat){x:Str}{pos:Pos}(hN:X.N[i]? =some x:=by rfl)(hv:Vis X.env.scope x:=by first|exact QF rfl|exact Qp (QF rfl)|exact Qp (Qp rfl))(hd:(x==("__debug__" : Str))=false:=by decide)(he:(x==("__classdict__" : Str))=false:=by decide):ME X io true false (.Name x pos) (o2 (Wx i)):=Z3z (mo i hN hv hd he)
theorem xci{i:Int}{j:Nat}{pos:Pos}:ME X io true true (.Constant (.int i) j pos) (o2 (fC (.int i))):=Zgb Z1f
theorem xix{pos:Pos}(ha:ME X io p c a (o2 fa))(hb:ME X io p' c' b (o2 fb))(hc:p'=true∨c=true:=by first|exact QF rfl|exact Qp rfl)(hs:Zdo b:=by exact λ_ _=>rfl)(h2:(p&&p')=q:=by rfl)(h3:(c&&c')=r:=by rfl):ME X io q r (.Subscript a b pos) (o2 (Z2 gIx fa fb)):=h2▸h3▸Zdp Yb4 (Yaj (Zt7 rfl) Z5k ha hb hc (hs:=hs))
theorem xa0:MA X io true true [] (o2 Zt):=Zzr Zyr
theorem xa1[NoStar e](ha:ME X io p c e (o2 fa))(h2:(p&&true)=q:=by rfl)(h3:(c&&true)=r:=by rfl):MA X io q r [e] (o2 (Ze fa Zt)):=Zk ha xa0 (.inl rfl) h2 h3
theorem xsq(h:MS X io st (oS f))(k:MSs X io sts (oS g)):MSs X io (st :: sts) (oS (Zr f g)):=Z0t (Zq4 h k)
theorem xst{pos px:Pos}(i:Nat){x:Str}(hN:X.N.Nodup)(he:ME X io p true e (o2 fa))(hi:X.N[i]? =some x:=by rfl)(hx:Loc X.env.scope x:=by first|exact QF rfl|exact Qp rfl)(hio:i∉io:=by decide)(hs:Bx e (some (.Name x px)) pos.line X.env=pure false:=by rfl)(hf:X.fn x=true∨X.env.scope.names.lookup x=some .local:=by first|exact .inl rfl|exact .inr rfl|assumption):MS X io (.Assign [.Name x px] e pos) (oS (wE fa (Ws i))):=Zf9 (Zg4 hN hi hx he hio hs hf)
theorem xrt{pos:Pos}(h:ME X io p true e (o2 fa)):MS X io (.Return (some e) pos) (oS (wE fa Jh)):=Z11 (Zzc h)
theorem xg{pos:Pos}(i:Nat){x:Str}(hN:X.N.Nodup)(hi:X.N[i]? =some x:=by rfl)(hx:Loc X.env.scope x:=by first|exact QF rfl|exact Qp rfl)(hio:i∉io:=by decide)(hf:X.fn x=true∨X.env.scope.names.lookup x=some .local:=by first|exact .inl rfl|exact .inr rfl|assumption):MG X io true (.Name x pos) (oG (gNm i)):=Zws (Zxk hN hi hx hio hf)
theorem xif{pos:Pos}(h:MT X io p e (o2 ta))(k:MSs X io ss (oS f))(l:MSs X io ss' (oS g)):MS X io (.If e ss ss' pos) (oS (W5 ta f g)):=Z5o (Z5x h k l)
theorem xnl:MSs X io [] (oS fNx):=Zvh Zvg
theorem xtp{pos:Pos}{n:Nat}(h:MA X io p c es (o2 ra)):ME X io p c (.Tuple es n pos) (o2 (Zd1 ra)):=Z2j (Z53 h)
theorem xls{pos:Pos}(h:MA X io p c es (o2 ra)):ME X io p c (.List es pos) (o2 (Zcu ra)):=Z2t (Z5w h)
theorem xil{tg:Expr}(h:ME X io p c e (o2 fa)):MI X io p c tg e (o2 (Jw fa)):=Zw0 (Zu5 h)
theorem xno{pos:Pos}(h:MT X io p e (o2 ta)):MT X io p (.UnaryOp .Not e pos) (o2 (tNo ta)):=Zy4 (Z1v h)
theorem Znt{pos:Pos}(ha:ME X io p c a (o2 fa))(hb:ME X io p' c' b (o2 fb))(hc:p'=true∨c=true:=by first|exact QF rfl|exact Qp rfl)(h2:(p&&p')=q:=by rfl):ME X io q true (.BinOp a .Add b pos) (o2 (Zb Jq fa fb)):=h2▸J7 Z57 (Zj3 Z2g Zme ha hb hc)
theorem Zzs{pos:Pos}(ha:ME X io p c a (o2 fa))(hb:ME X io p' c' b (o2 fb))(hc:p'=true∨c=true:=by first|exact QF rfl|exact Qp rfl)(h2:(p&&p')=q:=by rfl):ME X io q true (.BinOp a .Sub b pos) (o2 (Zb gSb fa fb)):=h2▸J7 Z5c (Zj3 Zzh Zme ha hb hc)
theorem Zyd{pos:Pos}(ha:ME X io p c a (o2 fa))(hb:ME X io p' c' b (o2 fb))(hc:p'=true∨c=true:=by first|exact QF rfl|exact Qp rfl)(h2:(p&&p')=q:=by rfl):ME X io q true (.BinOp a .Mult b pos) (o2 (Zb Zdz fa fb)):=h2▸J7 Z60 (Zj3 Zuo Z0u ha hb hc)
theorem Zla{pos:Pos}(ha:ME X io p c a (o2 fa))(hb:ME X io p' c' b (o2 fb))(hc:p'=true∨c=true:=by first|exact QF rfl|exact Qp rfl)(h2:(p&&p')=q:=by rfl):ME X io q true (.BinOp a .Mod b pos) (o2 (Zb J2 fa fb)):=h2▸J7 Z7v (Zj3 Zxf Z25 ha hb hc)
theorem Z32{pos:Pos}(ha:ME X io p c a (o2 fa))(hb:ME X io p' c' b (o2 fb))(hc:p'=true∨c=true:=by first|exact QF rfl|exact Qp rfl)(h2:(p&&p')=q:=by rfl):ME X io q true (.BinOp a .FloorDiv b pos) (o2 (Zb W8 fa fb)):=h2▸J7 Zyp (Zj3 Zqg Z0f ha hb hc)
theorem Z39{pos:Pos}(ha:ME X io p c a (o2 fa))(hb:ME X io p' c' b (o2 fb))(hc:p'=true∨c=true:=by first|exact QF rfl|exact Qp rfl)(h2:(p&&p')=q:=by rfl):ME X io q true (.BinOp a .Pow b pos) (o2 (Zb Zq9 fa fb)):=h2▸J7 Z7q (Zj3 Zt2 Z0w ha hb hc)
theorem xeq{pos:Pos}(hu:X.A.units+64<Vu)(ha:ME X io p c a (o2 fa))(hb:ME X io p' c' b (o2 fb))(hc:p'=true∨c=true:=by first|exact QF rfl|exact Qp rfl)(h2:(p&&p')=q:=by rfl):MT X io q (.Compare a [.Eq] [b] pos) (o2 (tV (Zb gEq fa fb))):=h2▸Za7 Z6b (Zbo (Zm9 hu) Zw7 ha hb hc (hm:=Za1 _))
theorem xne{pos:Pos}(hu:X.A.units+64<Vu)(ha:ME X io p c a (o2 fa))(hb:ME X io p' c' b (o2 fb))(hc:p'=true∨c=true:=by first|exact QF rfl|exact Qp rfl)(h2:(p&&p')=q:=by rfl):MT X io q (.Compare a [.NotEq] [b] pos) (o2 (tV (Zb gNe fa fb))):=h2▸Za7 Ybe (Zbo (Z30 hu) Z75 ha hb hc (hm:=Za1 _))
theorem xlt{pos:Pos}(ha:ME X io p c a (o2 fa))(hb:ME X io p' c' b (o2 fb))(hc:p'=true∨c=true:=by first|exact QF rfl|exact Qp rfl)(h2:(p&&p')=q:=by rfl):MT X io q (.Compare a [.Lt] [b] pos) (o2 (tV (Zb gLt fa fb))):=h2▸Za7 Ya3 (Zbo Zfg Zlg ha hb hc (hm:=Za1 _))
theorem xgt{pos:Pos}(ha:ME X io p c a (o2 fa))(hb:ME X io p' c' b (o2 fb))(hc:p'=true∨c=true:=by first|exact QF rfl|exact Qp rfl)(h2:(p&&p')=q:=by rfl):MT X io q (.Compare a [.Gt] [b] pos) (o2 (tV (Zb gGt fa fb))):=h2▸Za7 Ybh (Zbo Z4x Zlg ha hb hc (hm:=Za1 _))
theorem xge{pos:Pos}(ha:ME X io p c a (o2 fa))(hb:ME X io p' c' b (o2 fb))(hc:p'=true∨c=true:=by first|exact QF rfl|exact Qp rfl)(h2:(p&&p')=q:=by rfl):MT X io q (.Compare a [.GtE] [b] pos) (o2 (tV (Zb gGe fa fb))):=h2▸Za7 Ybb (Zbo Z5e Zlg ha hb hc (hm:=Za1 _))
theorem xfr{pos:Pos}{tg:Expr}{it:FI}{gg:FG}(hp:PassesOwn (X5 X.prog X.w) X.A X.env X.xe)(hc:X.calm=true)(hi:MI X io p true tg e (o2 it))(hg:MG X io true tg (oG gg))(hb:MSs X io ss (oS f))(hs:∀x,BV e X.env x=pure x:=by intro _;rfl):MS X io (.For tg e ss [] pos) (oS (Jy it gg f)):=Zzu (Z0r hp hc hi hg hb hs)
theorem xg2{pos:Pos}{n:Nat}{g1 g2:FG}(hc:X.calm=true)(ha:MG X io true a (oG g1))(hb:MG X io true b (oG g2))(h1:List.map (λx=>x.snd) (JS [a,b] X.env)=UL a X.env :: List.map (λx=>x.snd) (JS [b] X.env):=by rfl)(h2:List.map (λx=>x.snd) (JS [b] X.env)=UL b X.env :: List.map (λx=>x.snd) (JS [] X.env):=by rfl)(h3:(JS [a,b] X.env).length=2:=by rfl)(h4:List.findIdx? (λx=>x.fst) (JS [a,b] X.env)=none:=by rfl):MG X io true (.Tuple [a,b] n pos) (oG (gTp 2 (gCn g1 (gCn g2 gNl)))):=Zso (Zst (n:=2) hc (Zcx (Zi7 ha (Zcx (Zi7 hb (Zo8 Zl3) h2)) h1)) h3 h4)
theorem xso{pos px:Pos}(i:Nat){x:Str}(hN:X.N.Nodup)(he:ME X io p true e (o2 fa))(hi:X.N[i]? =some x:=by rfl)(hx:Loc X.env.scope x:=by first|exact QF rfl|exact Qp rfl)(hio:i∉io:=by decide)(hs:Bx e (some (.Name x px)) pos.line X.env=pure false:=by rfl)(hf:X.fn x=true∨X.env.scope.names.lookup x=some .local:=by first|exact .inl rfl|exact .inr rfl|assumption):MS X io (.Assign [.Name x px] e pos) (oS (wE fa (Wf i))):=Zxt (Zv0 hN hi hx he hio hs hf)
theorem xcl{pos pp:Pos}{k:Nat}{f:Addr}{fd:QD}{ps:List Str}{x:Str}{F:FD}(G:FnOk X.prog X.w X.K X.mg X.base CX0 k f fd ps (spD X.K (sD F)))(hr:Room k X.A)(hm:X.mg x=some (.ref f))(hk:Qu X.K (.ref f)=true)(hb:Binds X.K fd ps [])(ha:MA X io p c (e :: es) (o2 ra))(hg:Gl X x:=by rfl)(h1:(x==("__debug__" : Str))=false:=by decide)(h2:Xv (e :: es) X.env=(false,eval e X.env) :: Xv es X.env:=by rfl)(h3:((Bf pos (Xv es X.env)).any λx=>x.fst)=false:=by rfl):ME X io p c (.Call (.Name x pp) (e :: es) [] pos) (o2 (Yi F ra)):=Zu4 (Z2s G hr hg hm hk hb Z4y ha h1 h2 h3)
theorem xln{pos pp:Pos}(hm:X.mg "len"=none)(ha:MA X io p c [e] (o2 ra))(hg:Gl X "len" :=by rfl)(h2:Xv [e] X.env=(false,eval e X.env) :: Xv [] X.env:=by rfl):ME X io p true (.Call (.Name "len" pp) [e] [] pos) (o2 (Zbp Zfu ra)):=Zbd Z4w (Zfo Zz9 (Zoj rfl) hg hm L2.B.boot_len ha (by decide) (by decide) h2 (by rfl))
end
noncomputable def tbl(P:List Nat)(led:Bool):QV:={ mask:=7,place:=P.toArray,dummies:=#[],finger:=0,led,moves:=0,plain:=true }
noncomputable def hT(k:List Int):Int:=reduceHash (Builtin.Tuple.tupleHashOf (k.map hashInt))
noncomputable def hAt(ks:List (List Int))(i:Nat):Int:=(ks[i]?.map hT).getD 0
noncomputable def Z6q(P:List Nat)(j:Nat):List Nat:=((tbl P false).put j).1.place.toList
noncomputable def Z86(P:List Nat)(j:Nat):Nat:=((tbl P false).put j).2
noncomputable def Ybc(ks:List (List Int))(p:Nat)(k:List Int):List (List Int):=ks.take p ++ k :: ks.drop p
noncomputable def Ybi(P:List Nat)(ks:List (List Int))(k:List Int):Option (List Nat×List (List Int)) :=
 match(tbl P false).probe (hAt ks) (hT k) ((tbl P false).probeStart (hT k))with
 | some (.empty j none)=>if(tbl (Z6q P j) false).tooFull=false∧(Z6q P j).length=ks.length+1∧ks.length≤6∧Z86 P j≤ks.length then some (Z6q P j,Ybc ks (Z86 P j) k)else none
 | some (.candidate _ i _)=>if ks[i]? =some k then some (P,ks)else none
 | _=>none
noncomputable def grow(K:List (List Int)):Nat->List (List Nat×List (List Int))->List (List Nat×List (List Int))
 | 0,S=>S
 | n+1,S=>grow K n (S ++ (S.flatMap λs=>K.filterMap λk=>Ybi s.1 s.2 k).filter λs=>!S.contains s)
noncomputable def K2:List (List Int):=[[0,0],[0,1],[1,0],[1,1]]
noncomputable def S2:List (List Nat×List (List Int)):=(grow K2 4 [([],[])]).eraseDups
section
variable {prog:X4}{w:Qm}{A:Qn}{E:Xc->Xf->Prop}{s:Xf}
inductive KeysIn(U:Addr->List Int->Prop):List (List Int)->List (Int×Xc)->Prop
 | nil:KeysIn U [] []
 | cons {k:List Int} {a:Addr} {ks:List (List Int)} {l:List (Int×Xc)} (h:U a k) (t:KeysIn U ks l):KeysIn U (k :: ks) ((hT k,.ref a) :: l)
theorem KeysIn.hash{U:Addr->List Int->Prop}{ks:List (List Int)}{l:List (Int×Xc)}(h:KeysIn U ks l):l.map (·.1)=ks.map hT:=by
 induction h with
 | nil=>rfl
 | cons _ _ ih=>rw[Qg,Qg,ih]
theorem Zk7{α:Type}(xs:Array α)(p:Nat)(x:α)(h:p≤xs.size):(JF xs p x).toList=xs.toList.take p ++ x :: xs.toList.drop p:=by
 unfold JF
 rw[Array.toList_append,Array.toList_push,Array.toList_extract,Array.toList_extract]
 simp
 rw[List.take_of_length_le (by simp)]
noncomputable abbrev IK(prog:X4)(w:Qm)(h:Heap)(k:List Int)(a:Addr):Prop:=IsTupleKey (intKind prog w) h k a
theorem items_int{ks:List Int}{vs:List Xc}(h:ItemsAre (intKind prog w) ks vs):∀v∈vs,∃i t,v= .int i t:=by
 induction h with
 | nil=>exact λ_ m=>nomatch m
 | cons h _ ih=>
  intro v hv
  rcases Xn.mp hv with rfl|hv
  ·obtain⟨t,e⟩:=Value.isInt_shape h
   exact⟨_,t,e⟩
  ·exact ih v hv
theorem Zlk{k:List Int}{a:Addr}{Q:Bool->Xf->Prop}(hk:IK prog w s.heap k a)(h:Q true s):Xx (X5 prog w) A (hashByValue 8 (.ref a)) Q E s:=by
 have hT:=hk.typeIs
 obtain⟨o,its,n,ho,_,hd,hi⟩:=hk
 unfold hashByValue
 refine Xb (wpAny_specialOf hT F.slot_tuple_hash.lookup ?_)
 dsimp only
 refine Xb (Bd ho hd ?_)
 show Xx _ _ (forIn its _ _>>=_) _ _ s
 rw[←Array.forIn_toList]
 refine Xb (wpAny_forIn_list _ (λrest r s'=>r.1=none∧s'=s∧∀v∈rest,∃i t,v=Um i t) _ ?_ ?_ _ _ ⟨rfl,rfl,items_int hi⟩)
 ·rintro v rest r s' ⟨hr,rfl,hall⟩
  obtain⟨i,t,rfl⟩:=hall v (.head _)
  refine Xb (wpAny_of_eq (show hashByValue 7 (.int i t)=pure true from rfl) ?_)
  simp only[BX,XC,if_false]
  exact Xk ⟨rfl,rfl,λu hu=>hall u (.tail _ hu)⟩
 ·rintro⟨r1,r2⟩ s' ⟨hr,rfl,_⟩
  simp only at hr
  subst hr
  exact Xk h
theorem Zgz{k:List Int}{a:Addr}{Q:Bool->Xf->Prop}(hk:IK prog w s.heap k a)(h:Q false s):Xx (X5 prog w) A (ofAClassStatement 8 (.ref a)) Q E s:=by
 have hT:=hk.typeIs
 obtain⟨o,its,n,ho,hc,hd,hi⟩:=hk
 unfold ofAClassStatement
 refine Xb (wpAny_typeOf hT ?_)
 dsimp only
 refine Xb (Xk ?_)
 refine Xb (Bd ho hd ?_)
 show Xx _ _ (forIn its _ _>>=_) _ _ s
 rw[←Array.forIn_toList]
 refine Xb (wpAny_forIn_list _ (λrest r s'=>r.1=none∧s'=s∧∀v∈rest,∃i t,v=Um i t) _ ?_ ?_ _ _ ⟨rfl,rfl,items_int hi⟩)
 ·rintro v rest r s' ⟨hr,rfl,hall⟩
  obtain⟨i,t,rfl⟩:=hall v (.head _)
  refine Xb (wpAny_of_eq (show ofAClassStatement 7 (.int i t)=pure false from rfl) ?_)
  simp only[XC,if_false]
  exact Xk ⟨rfl,rfl,λu hu=>hall u (.tail _ hu)⟩
 ·rintro⟨r1,r2⟩ s' ⟨hr,rfl,_⟩
  simp only at hr
  subst hr
  exact Xk h
theorem Zpr{k:List Int}{a:Addr}{ys:List Xc}{Q:Bool->Xf->Prop}(hk:IK prog w s.heap k a)(hy:∀y∈ys,∃b k',y= .ref b∧IK prog w s.heap k' b)(h:Q false s):Xx (X5 prog w) A (searchCouldBeSeen (.ref a) ys) Q E s:=by
 unfold searchCouldBeSeen
 refine Xb (wpAny_forIn_list _ (λrest r s'=>r.1=none∧s'=s∧∀y∈rest,∃b k',y=Xu b∧IK prog w s.heap k' b) _ ?_ ?_ _ _ ⟨rfl,rfl,hy⟩)
 ·rintro y rest r s' ⟨hr,rfl,hall⟩
  obtain⟨b,k',rfl,hb⟩:=hall y (.head _)
  dsimp only
  split
  ·exact Xk ⟨rfl,rfl,λu hu=>hall u (.tail _ hu)⟩
  ·refine Xb (wpAny_eqIsQuiet_tuple hk ?_)
   simp only[BX,XC,if_false]
   refine Xb (wpAny_eqIsQuiet_tuple hb ?_)
   simp only[BX,XC,if_false]
   refine Xb (Zgz hk ?_)
   simp only[XC,if_false]
   refine Xb (Zgz hb ?_)
   simp only[XC,if_false]
   exact Xk ⟨rfl,rfl,λu hu=>hall u (.tail _ hu)⟩
 ·rintro⟨r1,r2⟩ s' ⟨hr,rfl,_⟩
  simp only at hr
  subst hr
  exact Xk h
theorem KeysIn.at{U:Addr->List Int->Prop}{ks:List (List Int)}{es:Array (Int×Xc)}(h:KeysIn U ks es.toList)(i:Nat):(es[i]?.map (·.1)).getD 0=hAt ks i:=by
 unfold hAt
 rw[←Xj,←h.hash,Xj,Qd]
end
section
variable {prog:X4}{w:Qm}{A:Qn}{R:Result->Xf->Prop}{I:Addr}{fp wr:List Addr}{n:Nat}{Pv:Nat->Xc->Prop}{St:Nat->Heap->Prop}
end
noncomputable def tupI(k:List Int):Xa:=.tuple (k.map XM)
inductive Ztk(H:Hp):List V->List (List Int)->Prop
 | nil:Ztk H [] []
 | cons {a:Addr} {k:List Int} {xs:List V} {ks:List (List Int)} (h:H a=some (.tup (k.map V.int))) (t:Ztk H xs ks):Ztk H (.ref a :: xs) (k :: ks)
theorem Zqc{G:Xd}{H:Hp}{L:Addr->Prop}{kss:List (List Int)}:∀{xs:List V},Das G H L xs (kss.map tupI)->Ztk H xs kss:=by
 induction kss with
 | nil=>
  intro xs h
  cases h
  exact .nil
 | cons k kss ih=>
  intro xs h
  cases h with
  | cons h t=>
   generalize e:tupI k=d at h
   cases h with
   | tup e1 r=>
    cases e
    rw[r.int_inv]at e1
    exact .cons e1 (ih t)
   | _=>cases e
theorem Zkv{prog:X4}{w:Qm}:∀{k:List Int} {its:List Xc},Vals (k.map V.int) its->ItemsAre (intKind prog w) k its:=fun{k}=>by
 induction k with
 | nil=>
  intro its h
  cases h
  exact .nil
 | cons i k ih=>
  intro its h
  cases h with
  | cons h t=>
   obtain⟨t0,rfl⟩:=h
   exact .cons (intKind_is prog w i t0) (ih t)
section
variable {X:Cx}{p c:Bool}{io:List Nat}{a e:Expr}{pos pos' pl pr:Pos}{t:TA}{mr:MAt}{ra:FA}
theorem Zw4{pins:List (Addr×Obj)}{σ:St}{H:Hp}{s:Xf}(I:Inv X pins σ H s){xs:List V}{kss:List (List Int)}(h:Ztk H xs kss):∀{its:List Xc},Vals xs its->its.length=kss.length∧∀(i:Nat) (v:Xc),its[i]? =some v->∃a k,v=Xu a∧kss[i]? =some k∧IK X.prog X.w s.heap k a:=by
 induction h with
 | nil=>
  intro its r
  cases r
  exact⟨rfl,λi v e=>by simp at e⟩
 | cons h t ih=>
  intro its r
  cases r with
  | cons r rr=>
   cases r
   obtain⟨l,g⟩:=ih rr
   refine⟨by rw[QX,QX,l],λi v e=>?_⟩
   cases i with
   | zero=>
    cases e
    obtain⟨its',rv,pl,_⟩:=I.tuple (.inl (.inl h))
    obtain⟨o,ho,hc,n,hd⟩:=(show s.heap.IsTuple _ its'.toArray from pl)
    exact⟨_,_,rfl,rfl,o,its'.toArray,n,ho,hc,hd,Zkv rv⟩
   | succ i=>exact g i v e
noncomputable def Z5v(ds:List Xa):Option (List Xa):=match ds with|[.list es]=>some es|_=>none
theorem Zw5{ds es:List Xa}(h:Z5v ds=some es):ds=[.list es]:=by
 unfold Z5v at h
 split at h
 ·cases h;rfl
 ·cases h
end
noncomputable abbrev Ya6(h:Heap)(T:Addr)(a b c:Xc):Prop:=h.get? T=some { cls:=.type "tuple",data:=.seq #[a,b,c] }
structure Z3A(z TI TO i1 i2 i3:Addr)(f1 f2 f3:List Addr):Prop where
 TIz:TI≠z
 TOz:TO≠z
 a1:∀c∈f1,c≠z∧c≠TO∧c≠i2∧c≠i3
 a2:∀c∈f2,c≠z∧c≠TO∧c≠i1∧c≠i3
 a3:∀c∈f3,c≠z∧c≠TO∧c≠i1∧c≠i2
section
variable {P:X4}{w:Qm}{A:Qn}{E:Xc->Xf->Prop}{s:Xf}
end
noncomputable abbrev z3A(h:Heap)(a:Addr):Heap:=h.push { cls:=.type "list_iterator",data:=.fields #[.ref a,.int 0 0] }
noncomputable abbrev z3B(h:Heap)(a b:Addr):Heap:=z3A (z3A h a) b
noncomputable abbrev z3C(h:Heap)(a b c:Addr):Heap:=z3A (z3B h a b) c
noncomputable abbrev z3D(h:Heap)(a b c:Addr):Heap:=(z3C h a b c).push { cls:=.type "tuple",data:=.seq #[.ref h.objs.size,.ref (z3A h a).objs.size,.ref (z3B h a b).objs.size] }
noncomputable abbrev z3E(h:Heap)(a b c:Addr):Heap:=(z3D h a b c).push { cls:=.type "tuple",data:=.seq #[.none,.none,.none] }
noncomputable abbrev z3F(h:Heap)(a b c:Addr):Heap:=(z3E h a b c).push { cls:=.type "zip",data:=.fields #[.none,.bool false,.bool false,.ref (z3C h a b c).objs.size,.ref (z3D h a b c).objs.size] }
section
variable {P:X4}{w:Qm}{A:Qn}{E:Xc->Xf->Prop}{s:Xf}
end
section
variable {X:Cx}{io:List Nat}{p c:Bool}{a b e:Expr}{mr:MAt}{ra:FA}
end
noncomputable def Up(xs:List Nat):Prop:=xs.Pairwise (·<·)
theorem Zig{xs:List Nat}(h:Up xs){i j:Nat}{a b:Nat}(ha:xs[i]? =some a)(hb:xs[j]? =some b)(l:i<j):a<b:=by
 obtain⟨hi,rfl⟩:=Xi.mp ha
 obtain⟨hj,rfl⟩:=Xi.mp hb
 exact Bl.mp h i j hi hj l
theorem getD_at{xs:Array Nat}{i d:Nat}(h:i<xs.size):xs.toList[i]? =some (xs.getD i d):=by
 rw[Qd,QW h,Array.getD,dif_pos h];rfl
theorem Zrw{xs:Array Nat}{j:Nat}(up:Up xs.toList):∀(fuel lo hi:Nat),hi-lo≤fuel->lo≤hi->hi≤xs.size->(∀i a,i<lo->xs.toList[i]? =some a->a<j)->(∀i a,hi≤i->xs.toList[i]? =some a->j≤a) ->
  ∃p,SetTable.below.go xs j fuel lo hi=p∧p≤xs.size∧(∀i a,i<p->xs.toList[i]? =some a->a<j)∧∀i a,p≤i->xs.toList[i]? =some a->j≤a:=by
 intro fuel
 induction fuel with
 | zero=>
  intro lo hi f l z h1 h2
  have e:lo=hi:=by omega
  exact⟨lo,rfl,by omega,h1,λi a q=>h2 i a (by omega)⟩
 | succ fuel ih=>
  intro lo hi f l z h1 h2
  rw[SetTable.below.go]
  by_cases c:lo<hi
  ·rw[if_pos c]
   have hm:(lo+hi)/2<xs.size:=by omega
   have em:=getD_at (xs:=xs) (d:=j) hm
   by_cases q:xs.getD ((lo+hi)/2) j<j
   ·simp only[if_pos q]
    refine ih _ _ (by omega) (by omega) z (λi a li ea=>?_) h2
    by_cases e:i=(lo+hi)/2
    ·subst e
     rw[em]at ea
     cases ea
     exact q
    ·exact BW (Zig up ea em (by omega)) q
   ·simp only[if_neg q]
    refine ih _ _ (by omega) (by omega) (by omega) h1 λi a li ea=>?_
    by_cases e:i=(lo+hi)/2
    ·subst e
     rw[em]at ea
     cases ea
     omega
    ·have:=Zig up em ea (by omega)
     omega
  ·rw[if_neg c]
   have e:lo=hi:=by omega
   exact⟨lo,rfl,by omega,h1,λi a q=>h2 i a (by omega)⟩
theorem Za2{xs:Array Nat}(up:Up xs.toList)(j:Nat):Qw xs j≤xs.size∧(∀i a,i<Qw xs j->xs.toList[i]? =some a->a<j)∧∀i a,Qw xs j≤i->xs.toList[i]? =some a->j≤a:=by
 obtain⟨p,e,h⟩:=Zrw (j:=j) up xs.size 0 xs.size (by omega) (QH _) (XD _) (λi a q=>absurd q (JQ _)) λi a q ea=>by
  have:=(Xi.mp ea).1
  rw[Xp]at this
  omega
 unfold Qw
 rw[e];exact h
theorem Zj4{xs:Array Nat}(up:Up xs.toList){i a:Nat}(h:xs.toList[i]? =some a):Qw xs (a+1)=i+1:=by
 obtain⟨b0,b1,b2⟩:=Za2 up (a+1)
 have hi:=(Xi.mp h).1
 rw[Xp]at hi
 rcases Uj (Qw xs (a+1)) (i+1)with c|c|c
 ·have:=b2 i a (by omega) h
  omega
 ·exact c
 ·have hs:i+1<xs.toList.length:=by rw[Xp];omega
  have e1:=Xl hs
  have:=b1 (i+1) _ c e1
  have:=Zig up h e1 (QL _)
  omega
theorem Zj2{xs:Array Nat}(up:Up xs.toList):Qw xs 0=0:=by
 obtain⟨b0,b1,_⟩:=Za2 up 0
 cases e:Qw xs 0 with
 | zero=>rfl
 | succ k=>
  rw[e]at b0 b1
  have hs:0<xs.toList.length:=by rw[Xp];omega
  exact absurd (b1 0 _ (Nat.zero_lt_succ _) (Xl hs)) (JQ _)
theorem Z1i{xs:List Nat}(up:Up xs){p j:Nat}(h1:∀i a,i<p->xs[i]? =some a->a<j)(h2:∀i a,p≤i->xs[i]? =some a->j<a):Up (xs.take p ++ j :: xs.drop p):=by
 refine List.pairwise_append.mpr ⟨up.sublist (List.take_sublist ..),Br.mpr ⟨λa ha=>?_,up.sublist (List.drop_sublist ..)⟩,λa ha b hb=>?_⟩
 ·obtain⟨i,hi⟩:=VM ha
  rw[List.getElem?_drop]at hi
  exact h2 _ a (Vb _ _) hi
 ·obtain⟨i,hi⟩:=VM ha
  have ip:i<p:=by
   have:=(Xi.mp hi).1
   rw[Va]at this
   omega
  rw[List.getElem?_take_of_lt ip]at hi
  have aj:=h1 i a ip hi
  rcases Xn.mp hb with rfl|hb
  ·exact aj
  ·obtain⟨k,hk⟩:=VM hb
   rw[List.getElem?_drop]at hk
   exact BW aj (h2 _ b (Vb _ _) hk)
noncomputable def Zop(t:QV)(j:Nat):Prop:=t.place[Qw t.place j]? ≠some j
structure Tb(b:Bool)(t:QV):Prop where
 led:t.led=b
 up:t.plain=true->Up t.place.toList
theorem Zzm{t:QV}{j:Nat}(up:Up t.place.toList)(n:Zop t j):Up (t.put j).1.place.toList:=by
 show Up (JF t.place (Qw t.place j) j).toList
 obtain⟨b0,b1,b2⟩:=Za2 up j
 rw[SetTable.toList_insertAt]
 refine Z1i up b1 λi a l ea=>?_
 have ja:=b2 i a l ea
 rcases Bc j a with c|c
 ·exact c
 ·have e:a=j:=by omega
  subst e
  exfalso
  rcases Bc (Qw t.place a) i with c2|c2
  ·have hs:Qw t.place a<t.place.toList.length:=BW c2 (Xi.mp ea).1
   have e1:=Xl hs
   have:=Zig up e1 ea c2
   have:=b2 _ _ (XD _) e1
   omega
  ·have e:i=Qw t.place a:=by omega
   subst e
   exact n (by rw[←Qd];exact ea)
theorem Zne(f:Nat->Option Nat)(n:Nat):Up (((Xz n).filterMap λj=>(f j).map (j,·)).map (·.1)):=by
 have e:∀l:List Nat,((l.filterMap λj=>(f j).map (j,·)).map (·.1)).Sublist l:=λl=>by
  induction l with
  | nil=>exact .slnil
  | cons a l ih=>
   rw[QQ]
   cases f a with
   | none=>exact ih.cons a
   | some v=>exact ih.cons_cons a
 exact List.Pairwise.sublist (e _) List.pairwise_lt_range
noncomputable def vI:Xc->Int
 | .int k _=>k
 | _=>0
section
variable {prog:X4}{w:Qm}{A:Qn}{E:Xc->Xf->Prop}{s:Xf}{b:Bool}
end
noncomputable def byT(w:Qm):Bool:=w.params.followText "set-order"
section
variable {prog:X4}{w:Qm}{A:Qn}{R:Result->Xf->Prop}{I:Addr}{fp wr:List Addr}{n:Nat}{Pv:Nat->Xc->Prop}{St:Nat->Heap->Prop}{b:Bool}
end
section
variable {prog:X4}{w:Qm}{A:Qn}{E:Xc->Xf->Prop}{s:Xf}
theorem Z5s(a:Xc){Q₁:Xc->Xf->Prop}(h:Q₁ (.ref s.heap.objs.size) { s with heap:=s.heap.push { cls:=.type "set",dict:=none,data:=.set #[] 0 (.fresh 0 0 (!byT w)) } }) :
  U0 (X5 prog w) A (.call (.builtin "set.__new__") ⟨[.type "set",a],[]⟩) (wants Q₁ E) s:=by
 refine codeAny_of_tree ?_;show Xx _ A.in1 (do checkBuiltinCall "set.__new__" ⟨[.type "set",a],[]⟩;again (.builtin "set.__new__" ⟨[.type "set",a],[]⟩)) _ _ s
 refine Xb (wpAny_of_eq (F.newCall_set_1 a) (Xk ⟨plainId_quiet F.plain_set_new _,VJ F.entry_set_new ?_⟩));rw[VH F.plain_set_new _]
 unfold Vo.«set.__new__» Builtin.Frozenset.newClass
 have hsub:=sub_set_self
 obtain⟨hp,g,d,tk,os⟩:=s
 dsimp only
 wp_walk
 refine wpAny_askSetting (Xk ?_);dsimp only;simp only[newObj]
 exact Xb (wpAny_alloc (Xk (Xk h)))
end
theorem Zj:Slot "set_iterator" "__next__" "set_iterator.__next__" :=
 .of (owner :="set_iterator") (n :="__next__") (by rw[typeLookup_type,builtinLookup_eq_fast];kernel_rfl) (by decide +kernel) (by decide +kernel) (by decide +kernel) (by first|exact .inl (by decide +kernel)|exact .inr (by decide +kernel)) (by rw[isSubtype_type];kernel_rfl)
theorem Yn:entryFor table "set_iterator.__next__"=some Vo.«set_iterator.__next__»:=entryFor_of_fast (by kernel_rfl)
theorem Yy(a:Xc):argsOk "set_iterator.__next__" ⟨[a],[]⟩:=by unfold argsOk;kernel_rfl
noncomputable def Z34(h:Heap)(I S:Addr)(slot i n ep:Nat):Prop:=h.get? I=some { cls:=.type "set_iterator",data:=.fields #[JN slot,JN i,.ref S,JN n,JN ep] }
theorem Zo6{α:Type}:∀{l:List α} {i:Nat} (h:i<l.length),(l[i] :: l.eraseIdx i).Perm l:=fun{l}=>by
 induction l with
 | nil=>intro i h;cases h
 | cons a l ih=>
  intro i h
  cases i with
  | zero=>exact .refl _
  | succ i=>exact(List.Perm.swap ..).trans ((ih (Vw h)).cons a)
theorem Zxx{α:Type}(f:Nat->Nat):∀(fuel k:Nat) (left:List α) (out:Array α),left.length=fuel->(pickOrder.go f fuel k left out).toList.Perm (out.toList ++ left):=by
 intro fuel
 induction fuel with
 | zero=>
  intro k left out l
  rw[List.length_eq_zero_iff.mp l,Qt,pickOrder.go]
 | succ fuel ih=>
  intro k left out l
  rw[pickOrder.go]
  have hlt:f k%left.length<left.length:=Nat.mod_lt _ (by omega)
  rw[Xl hlt]
  dsimp only
  refine(ih (k+1) _ _ (by rw[List.length_eraseIdx_of_lt hlt];omega)).trans ?_
  rw[Array.toList_push,QZ]
  exact List.Perm.append_left _ (Zo6 hlt)
theorem Zmy{α:Type}(f:Nat->Nat)(xs:Array α):(pickOrder f xs).toList.Perm xs.toList:=by
 unfold pickOrder
 have:=Zxx f xs.size 0 xs.toList #[] (by rw[Xp])
 rwa[List.nil_append]at this
section
variable {prog:X4}{w:Qm}{A:Qn}{E:Xc->Xf->Prop}{s:Xf}
theorem Zny{src:Source}{n:Nat}{Q:Nat->Xf->Prop}(hn:n≠0)(h:∀i,i<n->Q i { s with drawn:=s.drawn.bump src }):Xx (X5 prog w) A (choose src n) Q E s:=fun Γ p _=>by
 show Sem.wp _ _ (.choose src n .pure) _ _ _ _
 rw[Sem.wp_choose]
 exact⟨hn,h _ (Nat.mod_lt _ (Nat.pos_of_ne_zero hn))⟩
theorem Zud{α:Type}:∀(n:Nat) (xs:List α) (s:Xf) (Q:List α->Xf->Prop),xs.length=n->(∀ys d,ys.Perm xs->Q ys { s with drawn:=d })->Xx (X5 prog w) A (drawOrder n xs) Q E s:=by
 intro n
 induction n with
 | zero=>
  intro xs s Q l q
  rw[List.length_eq_zero_iff.mp l]at q⊢
  exact Xk (q [] s.drawn (.refl _))
 | succ n ih=>
  intro xs s Q l q
  cases xs with
  | nil=>cases l
  | cons a xs=>
   rw[drawOrder]
   refine Xb (Zny (by rw[l];exact Nat.succ_ne_zero _) λi hi=>?_)
   rw[Xl hi]
   dsimp only
   refine Xb (ih _ _ _ (by rw[List.length_eraseIdx_of_lt hi];omega) λys d pm=>Xk (q _ d ?_))
   ·exact(pm.cons _).trans (Zo6 hi)
   ·intro z;cases z
noncomputable def Zbt(w:Qm)(S:Addr)(ep:Nat)(es:Array (Int×Xc)):List Xc:=(if byT w then(pickOrder (w.params.setOrder S ep) es).toList else es.toList).map (·.2)
theorem Za0{w:Qm}{S:Addr}{ep:Nat}{es:Array (Int×Xc)}:(Zbt w S ep es).Perm (es.toList.map (·.2)):=by
 unfold Zbt
 split
 ·exact(Zmy _ es).map _
 ·exact .refl _
noncomputable def Ze6(w:Qm)(t:QV)(slot i:Nat):Prop:=byT w=false->Qw t.place slot=i
theorem Zdq{Q:Bool->Xf->Prop}(h:Q (byT w) s):Xx (X5 prog w) A setsByText Q E s:=by
 unfold setsByText
 exact Xb (wpAny_askSetting (Xk h))
theorem Ze2{S:Addr}{o:Obj}{es:Array (Int×Xc)}{ep slot i:Nat}{t:QV}{Q:Option (Xc×Nat)->Xf->Prop}(ho:s.heap.get? S=some o)(hd:o.data= .set es ep t)(hf:t.fits es.size=true)(tb:Tb (!byT w) t)(hdr:byT w=false->t.plain=true∨es.size≤1)(hs:Ze6 w t slot i)
  (q:∀r,(∀x,(Zbt w S ep es)[i]? =some x->∃nx,r=some (x,nx)∧Ze6 w t nx (i+1))->((Zbt w S ep es)[i]? =none->r=none)->Q r s):Xx (X5 prog w) A (setNext S slot i ep) Q E s:=by
 unfold setNext
 refine Xb (JH ho hd hf (Xb (Zdq ?_)))
 cases hb:byT w with
 | true=>
  have ew:Zbt w S ep es=(pickOrder (w.params.setOrder S ep) es).toList.map (·.2):=by unfold Zbt;rw[hb,if_pos rfl]
  simp only[if_true,bne_self_eq_false,XC,if_false]
  unfold setWalk
  refine Xb (Xb (JH ho hd hf (Xb (Zdq ?_))))
  rw[hb]
  simp only[if_true]
  refine Xb (wpAny_askSetting (Xk (Xk (q _ (λx hx=>?_) λhx=>?_))))
  ·rw[ew,Xj,Qd]at hx
   show∃nx,Option.map _ (pickOrder (w.params.setOrder S ep) es)[i]? =_∧_
   cases e:(pickOrder (w.params.setOrder S ep) es)[i]? with
   | none=>rw[e]at hx;cases hx
   | some y=>
    rw[e]at hx
    cases hx
    exact⟨slot,rfl,λz=>by rw[hb]at z;cases z⟩
  ·rw[ew,Xj,Qd]at hx
   show Option.map _ (pickOrder (w.params.setOrder S ep) es)[i]? =_
   cases e:(pickOrder (w.params.setOrder S ep) es)[i]? with
   | none=>rfl
   | some y=>rw[e]at hx;cases hx
 | false=>
  have ew:Zbt w S ep es=es.toList.map (·.2):=by unfold Zbt;rw[hb];rfl
  have pl:=hdr hb
  have le:=tb.led
  rw[hb]at le
  have bl:=hs hb
  obtain⟨mask,place,dummies,finger,led,moves,plain⟩:=t
  dsimp only at pl le bl
  subst le
  have sz0:place.size=es.size:=by
   unfold U7 at hf
   rw[XN,beq_iff_eq]at hf
   exact hf.1
  have up:Up place.toList:=by
   rcases pl with pl|pl
   ·exact tb.up pl
   ·have l1:place.toList.length≤1:=by rw[Xp,sz0];exact pl
    generalize place.toList=l at l1
    match l,l1 with
    | [],_=>exact .nil
    | [a],_=>exact Ua _ _
  have dr:(!plain&&decide (es.size>1))=false:=by
   rcases pl with pl|pl
   ·rw[pl];rfl
   ·rw[decide_eq_false (by omega),Bool.and_false]
  simp only[XC,if_false]
  show Xx _ _ (if(!plain&&decide (es.size>1))=true then _ else _) _ _ _
  rw[dr]
  simp only[XC,if_false]
  refine Xb (Xk ?_)
  have sz:place.size=es.size:=by
   unfold U7 at hf
   rw[XN,beq_iff_eq]at hf
   exact hf.1
  rw[bl]
  refine Xk (q _ (λx hx=>?_) λhx=>?_)
  ·rw[ew,Xj,Qd]at hx
   cases e:es[i]? with
   | none=>rw[e]at hx;cases hx
   | some y=>
    rw[e]at hx
    cases hx
    have hi:i<place.size:=by rw[sz];exact(Vd.mp e).1
    have ep:place[i]? =some place[i]:=QW hi
    rw[ep]
    exact⟨place[i]+1,rfl,λ_=>Zj4 up (by rw[Qd];exact ep)⟩
  ·rw[ew,Xj,Qd]at hx
   cases e:es[i]? with
   | none=>rfl
   | some y=>rw[e]at hx;cases hx
end
section
variable {prog:X4}{w:Qm}{A:Qn}{E:Xc->Xf->Prop}{s:Xf}
theorem Zk2{I S:Addr}{o:Obj}{es:Array (Int×Xc)}{ep slot i:Nat}{t:QV}{x:Xc}{Q:Option Xc->Xf->Prop}(hI:Z34 s.heap I S slot i es.size ep)(ho:s.heap.get? S=some o)(hd:o.data= .set es ep t)(hf:t.fits es.size=true)(tb:Tb (!byT w) t)(hdr:byT w=false->t.plain=true∨es.size≤1)(hs:Ze6 w t slot i)(hx:(Zbt w S ep es)[i]? =some x)
  (q:∀h' nx,Z34 h' I S nx (i+1) es.size ep->Ze6 w t nx (i+1)->Bk I s.heap h'->Q (some x) { s with heap:=h' }):Xx (X5 prog w) A (V9 (.ref I)) Q E s:=by
 have hT:s.TypeIs (.ref I) "set_iterator" :=⟨_,hI,rfl⟩
 unfold V9
 refine Xb (UW (JP (name:=V1 "__next__") hT Zj (JX Zj hT Yn ?_ (Yy _))))
 unfold Vo.«set_iterator.__next__» slotArgs fieldsOf
 simp only[Us,BX,XC,if_false,Vm,bne_self_eq_false,pure_bind,bind_assoc]
 refine Xb (wpAny_load hI ?_)
 dsimp only
 refine Xb (Xk ?_)
 show Xx _ _ (setEntries S>>=_) _ _ _
 refine Xb (V8 ho hd hf ?_)
 rw[show(((es.size:Nat):Int) !=((es.size:Nat):Int))=false from bne_self_eq_false _]
 simp only[XC,if_false]
 show Xx _ _ (setNext S slot i ep>>=_) _ _ _
 refine Xb (Ze2 ho hd hf tb hdr hs λr h1 _=>?_)
 obtain⟨nx,rfl,sk⟩:=h1 x hx
 dsimp only
 refine Xb (Q5 hI (by simp) λh2 g2 b2=>?_)
 refine Xb (Q5 g2 (by simp) λh3 g3 b3=>?_)
 exact Xk ⟨_,rfl,Xk (q h3 nx g3 sk (b2.trans b3))⟩
theorem Zmn{I S:Addr}{o:Obj}{es:Array (Int×Xc)}{ep slot i:Nat}{t:QV}{Q:Option Xc->Xf->Prop}(hh:A.handled=none)(hI:Z34 s.heap I S slot i es.size ep)(ho:s.heap.get? S=some o)(hd:o.data= .set es ep t)(hf:t.fits es.size=true)(tb:Tb (!byT w) t)(hdr:byT w=false->t.plain=true∨es.size≤1)(hs:Ze6 w t slot i)(hx:(Zbt w S ep es)[i]? =none)
  (q:∀h',Heap.ExtBut I s.heap h'->Q none { s with heap:=h' }):Xx (X5 prog w) A (V9 (.ref I)) Q E s:=by
 have hT:s.TypeIs (.ref I) "set_iterator" :=⟨_,hI,rfl⟩
 unfold V9
 refine Xb (UW (JP (name:=V1 "__next__") hT Zj (JX Zj hT Yn ?_ (Yy _))))
 unfold Vo.«set_iterator.__next__» slotArgs fieldsOf
 simp only[Us,BX,XC,if_false,Vm,bne_self_eq_false,pure_bind,bind_assoc]
 refine Xb (wpAny_load hI ?_)
 dsimp only
 refine Xb (Xk ?_)
 show Xx _ _ (setEntries S>>=_) _ _ _
 refine Xb (V8 ho hd hf ?_)
 rw[show(((es.size:Nat):Int) !=((es.size:Nat):Int))=false from bne_self_eq_false _]
 simp only[XC,if_false]
 show Xx _ _ (setNext S slot i ep>>=_) _ _ _
 refine Xb (Ze2 ho hd hf tb hdr hs λr _ h2=>?_)
 rw[h2 hx]
 dsimp only
 refine Xb (Q5 hI (by simp) λh3 g3 b3=>?_)
 show Xx _ _ (newExc (.type "StopIteration") []>>=_) _ _ _
 refine Xb ?_
 simp only[newExc,newTuple]
 refine Xb (JK ?_ (by size_fits))
 refine Xb (m:=Uu _ _) (wpAny_of_eq (a:=QK) (by first|rfl|(simp only[Uu];rfl)) ?_)
 refine JK ?_ (by size_fits)
 simp only[raiseNew]
 refine Xb (wpAny_handled ?_)
 rw[show A.in1.handled=none from hh]
 refine Xb (Xk (wpAny_throw ?_))
 exact Xb (wpAny_isInstance (T :="StopIteration") (b:=true) ⟨_,XJ _ rfl,rfl⟩ isSubtype_stop (Xk (q _ ((b3.extBut.push _).push _))))
end
noncomputable def Z4i(h:Heap)(I S T:Addr)(i n ep:Nat):Prop:=h.get? I=some { cls:=.type "set_iterator",data:=.fields #[.ref T,JN i,.ref S,JN n,JN ep] }
noncomputable def Zmm(ps:List Nat):Array Xc:=(ps.map λ(i:Nat)=>JN i).toArray
theorem Zwo{ps:List Nat}{i p:Nat}(h:ps[i]? =some p):(Zmm ps)[i]? =some (JN p):=by
 unfold Zmm
 rw[List.getElem?_toArray,Xj,h];rfl
theorem Zow{ps:List Nat}{i:Nat}(h:ps[i]? =none):(Zmm ps)[i]? =none:=by
 unfold Zmm
 rw[List.getElem?_toArray,Xj,h];rfl
section
variable {prog:X4}{w:Qm}{A:Qn}{E:Xc->Xf->Prop}{s:Xf}
theorem Zku{I S T:Addr}{o:Obj}{es:Array (Int×Xc)}{ep i p:Nat}{t:QV}{ps:List Nat}{x:Int×Xc}{Q:Option Xc->Xf->Prop}(hI:Z4i s.heap I S T i es.size ep)(hT2:s.heap.get? T=some { cls:=.type "tuple",data:=.seq (Zmm ps) })(ho:s.heap.get? S=some o)(hd:o.data= .set es ep t)(hf:t.fits es.size=true)(hp:ps[i]? =some p)(hx:es[p]? =some x)
  (q:∀h',Z4i h' I S T (i+1) es.size ep->Bk I s.heap h'->Q (some x.2) { s with heap:=h' }):Xx (X5 prog w) A (V9 (.ref I)) Q E s:=by
 have hT:s.TypeIs (.ref I) "set_iterator" :=⟨_,hI,rfl⟩
 unfold V9
 refine Xb (UW (JP (name:=V1 "__next__") hT Zj (JX Zj hT Yn ?_ (Yy _))))
 unfold Vo.«set_iterator.__next__» slotArgs fieldsOf
 simp only[Us,BX,XC,if_false,Vm,bne_self_eq_false,pure_bind,bind_assoc]
 refine Xb (wpAny_load hI ?_)
 dsimp only
 refine Xb (Xk ?_)
 show Xx _ _ (setEntries S>>=_) _ _ _
 refine Xb (V8 ho hd hf ?_)
 rw[show(((es.size:Nat):Int) !=((es.size:Nat):Int))=false from bne_self_eq_false _]
 simp only[XC,if_false]
 show Xx _ _ (seqItems? (.ref T)>>=_) _ _ _
 refine Xb (Bd hT2 rfl ?_)
 dsimp only
 rw[BK,Zwo hp]
 show Xx _ _ (setNextDrawn S p ep>>=_) _ _ _
 unfold setNextDrawn
 refine Xb (Xb (JH ho hd hf ?_))
 dsimp only
 rw[bne_self_eq_false]
 simp only[XC,if_false]
 rw[hx]
 refine Xk ?_
 refine Xb (Q5 hI (by simp) λh2 g2 b2=>?_)
 exact Xk ⟨_,rfl,Xk (q h2 g2 b2)⟩
theorem Zlo{I S T:Addr}{o:Obj}{es:Array (Int×Xc)}{ep i:Nat}{t:QV}{ps:List Nat}{Q:Option Xc->Xf->Prop}(hh:A.handled=none)(hI:Z4i s.heap I S T i es.size ep)(hT2:s.heap.get? T=some { cls:=.type "tuple",data:=.seq (Zmm ps) })(ho:s.heap.get? S=some o)(hd:o.data= .set es ep t)(hf:t.fits es.size=true)(hp:ps[i]? =none)
  (q:∀h',Heap.ExtBut I s.heap h'->Q none { s with heap:=h' }):Xx (X5 prog w) A (V9 (.ref I)) Q E s:=by
 have hT:s.TypeIs (.ref I) "set_iterator" :=⟨_,hI,rfl⟩
 unfold V9
 refine Xb (UW (JP (name:=V1 "__next__") hT Zj (JX Zj hT Yn ?_ (Yy _))))
 unfold Vo.«set_iterator.__next__» slotArgs fieldsOf
 simp only[Us,BX,XC,if_false,Vm,bne_self_eq_false,pure_bind,bind_assoc]
 refine Xb (wpAny_load hI ?_)
 dsimp only
 refine Xb (Xk ?_)
 show Xx _ _ (setEntries S>>=_) _ _ _
 refine Xb (V8 ho hd hf ?_)
 rw[show(((es.size:Nat):Int) !=((es.size:Nat):Int))=false from bne_self_eq_false _]
 simp only[XC,if_false]
 show Xx _ _ (seqItems? (.ref T)>>=_) _ _ _
 refine Xb (Bd hT2 rfl ?_)
 dsimp only
 rw[BK,Zow hp]
 dsimp only
 refine Xb (Q5 hI (by simp) λh2 g2 b2=>?_)
 refine Xb (Q5 g2 (by simp) λh3 g3 b3=>?_)
 show Xx _ _ (newExc (.type "StopIteration") []>>=_) _ _ _
 refine Xb ?_
 simp only[newExc,newTuple]
 refine Xb (JK ?_ (by size_fits))
 refine Xb (m:=Uu _ _) (wpAny_of_eq (a:=QK) (by first|rfl|(simp only[Uu];rfl)) ?_)
 refine JK ?_ (by size_fits)
 simp only[raiseNew]
 refine Xb (wpAny_handled ?_)
 rw[show A.in1.handled=none from hh]
 refine Xb (Xk (wpAny_throw ?_))
 exact Xb (wpAny_isInstance (T :="StopIteration") (b:=true) ⟨_,XJ _ rfl,rfl⟩ isSubtype_stop (Xk (q _ (((b2.trans b3).extBut.push _).push _))))
end
theorem Zef:entryFor table "set.__iter__"=some Vo.«frozenset.__iter__»:=entryFor_alias (id' :="frozenset.__iter__") (by kernel_rfl) rfl (by decide +kernel) (by kernel_rfl)
theorem Jp:Slot "set_iterator" "__iter__" "set_iterator.__iter__" :=
 .of (owner :="set_iterator") (n :="__iter__") (by rw[typeLookup_type,builtinLookup_eq_fast];kernel_rfl) (by decide +kernel) (by decide +kernel) (by decide +kernel) (by first|exact .inl (by decide +kernel)|exact .inr (by decide +kernel)) (by rw[isSubtype_type];kernel_rfl)
theorem Zbb:entryFor table "set_iterator.__iter__"=some Vo.«dict_keyiterator.__iter__»:=entryFor_alias (id' :="dict_keyiterator.__iter__") (by kernel_rfl) (by first|rfl|decide +kernel|(unfold String.splitOn;simp +decide [String.splitOnAux])) (by decide +kernel) (by kernel_rfl)
theorem Zbv(a:Xc):argsOk "set_iterator.__iter__" ⟨[a],[]⟩:=by unfold argsOk;kernel_rfl
section
variable {prog:X4}{w:Qm}{A:Qn}{E:Xc->Xf->Prop}{s:Xf}
theorem Zes{I:Addr}{vs:Array Xc}{Q:Xc->Xf->Prop}(hI:s.heap.get? I=some { cls:=.type "set_iterator",data:=.fields vs })(h:Q (.ref I) s):Xx (X5 prog w) A (pyIter (.ref I)) Q E s:=by
 have hT:s.TypeIs (.ref I) "set_iterator" :=⟨_,hI,rfl⟩
 refine wpAny_pyIter_slot hT Jp (JX Jp hT Zbb ?_ (Zbv _))
 show Xx _ _ (ret (.ref I)) _ _ s
 exact Xk ⟨_,rfl,"set_iterator",_,hT,Zj.lookup,h⟩
theorem Zzg{S:Addr}{o:Obj}{es:Array (Int×Xc)}{ep:Nat}{t:QV}{Q:Xc->Xf->Prop}(ho:s.heap.get? S=some o)(hex:o.ExactSet)(hd:o.data= .set es ep t)(hf:t.fits es.size=true)(hz:es.size≤1000)
  (q1:(byT w=false->t.plain=true∨es.size≤1)->Q (.ref s.heap.objs.size) { s with heap:=s.heap.push { cls:=.type "set_iterator",data:=.fields #[JN 0,JN 0,.ref S,JN es.size,JN ep] } })
  (q2:∀ps d,ps.Perm (Xz es.size)->Q (.ref (s.heap.objs.size+1)) { s with heap:=(s.heap.push { cls:=.type "tuple",data:=.seq (Zmm ps) }).push { cls:=.type "set_iterator",data:=.fields #[.ref s.heap.objs.size,JN 0,.ref S,JN es.size,JN ep] },drawn:=d }):Xx (X5 prog w) A (pyIter (.ref S)) Q E s:=by
 have hT:s.TypeIs (.ref S) "set" :=⟨o,ho,hex.1⟩
 refine wpAny_pyIter_slot hT F.slot_set_iter (JX F.slot_set_iter hT Zef ?_ (F.args_set_iter_1 _))
 unfold Vo.«frozenset.__iter__» Builtin.Frozenset.slot0 slotArgs
 simp only[Us,BX,XC,if_false,Vm,bne_self_eq_false,pure_bind,bind_assoc]
 unfold Builtin.Frozenset.addrOf Builtin.Frozenset.sizeOf setDrawn
 refine Xb (Xk ?_)
 refine Xb (Xb (V8 ho hd hf (Xk ?_)))
 refine Xb (Xb (JH ho hd hf (Xb (Zdq (Xk ?_)))))
 show Xx _ _ (if(!byT w&&(!t.plain&&decide (es.size>1)))=true then _ else _) _ _ _
 by_cases c:(!byT w&&(!t.plain&&decide (es.size>1)))=true
 ·rw[if_pos c]
  refine Xb (Zud _ _ _ _ XX λps d pm=>?_)
  refine Xb (wpAny_newTuple ?_ (by rw[Xe,pm.length_eq,XX,Qh];omega))
  refine Xb (wpAny_setEpoch_of (Xg _ ho) hd hf ?_)
  have e:(s.heap.push { cls:=.type "tuple",data:=.seq (Zmm ps) }).objs.size=s.heap.objs.size+1:=QG ..
  refine Xb (JK (Xk ⟨_,rfl,"set_iterator",_,⟨_,XJ _ rfl,rfl⟩,Zj.lookup,?_⟩))
  have:=q2 ps d pm
  rw[←e]at this
  exact this
 ·rw[if_neg c]
  refine Xb (wpAny_setEpoch_of ho hd hf ?_)
  refine Xb (JK (Xk ⟨_,rfl,"set_iterator",_,⟨_,XJ _ rfl,rfl⟩,Zj.lookup,q1 λhb=>?_⟩))
  rw[hb]at c
  cases hp:t.plain with
  | true=>exact .inl rfl
  | false=>
   rw[hp]at c
   exact .inr (Nat.le_of_not_lt λz=>c (by rw[decide_eq_true z];rfl))
theorem Z1k(hh:A.handled=none){I S:Addr}(ne:S≠I){o:Obj}{es:Array (Int×Xc)}{ep:Nat}{t:QV}(hd:o.data= .set es ep t)(hf:t.fits es.size=true)(tb:Tb (!byT w) t)(hdr:byT w=false->t.plain=true∨es.size≤1) :
  Walks prog w A I [I,S] [I] es.size (λi v=>(Zbt w S ep es)[i]? =some v) (λi h=>(∃slot,Z34 h I S slot i es.size ep∧Ze6 w t slot i)∧h.get? S=some o) where
 sub:=λb hb=>by rw[Xm.mp hb];exact .head _
 frame:=λi h h' st k=>by
  obtain⟨⟨slot,h1,h2⟩,h3⟩:=st
  exact⟨⟨slot,k I (.head _) _ h1,h2⟩,k S (.tail _ (.head _)) _ h3⟩
 item:=λi s Q E hi st q=>by
  obtain⟨⟨slot,h1,h2⟩,h3⟩:=st
  have hl:i<(Zbt w S ep es).length:=by rw[Za0.length_eq,Xe,Xp];exact hi
  have hx:=Xl hl
  refine Zk2 h1 h3 hd hf tb hdr h2 hx λh' nx g1 g2 g3=>?_
  exact q _ h' s.toks hx ⟨⟨nx,g1,g2⟩,g3.extBut _ _ ne h3⟩ λb o nb e=>g3.extBut _ _ (λz=>nb (Xm.mpr z)) e
 done:=λs Q E st q=>by
  obtain⟨⟨slot,h1,h2⟩,h3⟩:=st
  refine Zmn hh h1 h3 hd hf tb hdr h2 (Vf (by rw[Za0.length_eq,Xe,Xp];exact XD _)) λh' g=>?_
  exact q h' s.toks λb o nb e=>g _ _ (λz=>nb (Xm.mpr z)) e
 self:=λi s Q E st q=>by
  obtain⟨⟨slot,h1,h2⟩,h3⟩:=st
  exact Zes h1 q
noncomputable def Zf2(ps:List Nat)(es:Array (Int×Xc)):List Xc:=ps.filterMap λp=>es[p]?.map (·.2)
theorem Zg9{ps:List Nat}{es:Array (Int×Xc)}(pm:ps.Perm (Xz es.size)):(Zf2 ps es).Perm (es.toList.map (·.2)):=by
 have e:Zf2 (Xz es.size) es=es.toList.map (·.2):=by
  have h:=filterMap_getElem?_range es
  unfold Zf2
  rw[←List.map_filterMap,h]
 rw[←e]
 exact pm.filterMap _
theorem Zvd{ps:List Nat}{es:Array (Int×Xc)}(h:∀p∈ps,p<es.size):∀{i p:Nat},ps[i]? =some p->∃x,es[p]? =some x∧(Zf2 ps es)[i]? =some x.2:=by
 induction ps with
 | nil=>intro i p e;cases e
 | cons a ps ih=>
  intro i p e
  have ha:=h a (.head _)
  have ea:es[a]? =some es[a]:=QW ha
  have ed:Zf2 (a :: ps) es=es[a].2 :: Zf2 ps es:=by
   unfold Zf2
   rw[QQ,ea];rfl
  rw[ed]
  cases i with
  | zero=>
   cases e
   exact⟨_,ea,rfl⟩
  | succ i=>exact ih (λp m=>h p (.tail _ m)) e
theorem Z26(hh:A.handled=none){I S T:Addr}(n1:S≠I)(n2:T≠I){o:Obj}{es:Array (Int×Xc)}{ep:Nat}{t:QV}{ps:List Nat}(hd:o.data= .set es ep t)(hf:t.fits es.size=true)(pm:ps.Perm (Xz es.size)) :
  Walks prog w A I [I,S,T] [I] es.size (λi v=>(Zf2 ps es)[i]? =some v) (λi h=>Z4i h I S T i es.size ep∧h.get? S=some o∧h.get? T=some { cls:=.type "tuple",data:=.seq (Zmm ps) }) where
 sub:=λb hb=>by rw[Xm.mp hb];exact .head _
 frame:=λi h h' st k=>⟨k I (.head _) _ st.1,k S (.tail _ (.head _)) _ st.2.1,k T (.tail _ (.tail _ (.head _))) _ st.2.2⟩
 item:=λi s Q E hi st q=>by
  have hl:i<ps.length:=by rw[pm.length_eq,XX];exact hi
  have hp:=Xl hl
  obtain⟨x,h1,h2⟩:=Zvd (es:=es) (λp m=>Qx.mp (pm.mem_iff.mp m)) hp
  refine Zku st.1 st.2.2 st.2.1 hd hf hp h1 λh' g1 g3=>?_
  exact q _ h' s.toks h2 ⟨g1,g3.extBut _ _ n1 st.2.1,g3.extBut _ _ n2 st.2.2⟩ λb o nb e=>g3.extBut _ _ (λz=>nb (Xm.mpr z)) e
 done:=λs Q E st q=>by
  refine Zlo hh st.1 st.2.2 st.2.1 hd hf (Vf (by rw[pm.length_eq,XX];exact XD _)) λh' g=>?_
  exact q h' s.toks λb o nb e=>g _ _ (λz=>nb (Xm.mpr z)) e
 self:=λi s Q E st q=>Zes st.1 q
end
theorem Zu7:typeLookup (.type "set") "__len__"=pure (some (.builtin "set.__len__")):=F.slot_set_len.lookup
section
variable {prog:X4}{w:Qm}{A:Qn}{E:Xc->Xf->Prop}{s:Xf}
theorem Zsa{S:Addr}{o:Obj}{Q:Bool->Xf->Prop}(ho:s.heap.get? S=some o)(hex:o.ExactSet)(h:Q false s):Xx (X5 prog w) A (Builtin.List.listLengthHint (.ref S)) Q E s:=by
 have hT:s.TypeIs (.ref S) "set" :=⟨o,ho,hex.1⟩
 unfold Builtin.List.listLengthHint
 refine Xb (wpAny_specialOf hT Zu7 ?_)
 generalize hid:("set.__len__" : String)=id0
 (fail_if_success (clear hid id0))
 wp_delta
 rw[show splitId id0=some ("set","__len__")from by subst hid;decide +kernel]
 subst hid
 refine Xb (wpAny_isInstance (b:=true) hT (by rw[isSubtype_type];kernel_rfl) ?_)
 simp only[BX,XC,if_false]
 rw[if_pos (by decide +kernel)]
 refine Xb (wpAny_typeOf hT ?_)
 exact Xk h
theorem Zgn{I N:Addr}{fp wr:List Addr}{n:Nat}{P:Nat->Xc->Prop}{St:Nat->Heap->Prop}{R:Result->Xf->Prop}(W:Walks prog w A.in1 I fp wr n P St)(hn:n≤1000)(hN:N∉fp)(st:St 0 s.heap)(gN:s.heap.get? N=some { cls:=.type "list",data:=.seq #[] 2 })
  (q:∀h' tk (acc:Array Xc) c,acc.size=n->(∀(j:Nat) v,acc[j]? =some v->P j v)->h'.get? N=some { cls:=.type "list",data:=.seq acc c }->(∀b o,b∉N :: wr->s.heap.get? b=some o->h'.get? b=some o)->R (.ok (.ret (.ref N))) { s with heap:=h',toks:=tk }) :
  U0 (X5 prog w) A (.builtin "list.extend.loop" ⟨[.ref N,.ref I,.ref N],[]⟩) R s:=by
 refine codeAny_extend_loopS W.toS (by rw[Qh];omega) N hN (.ref N) n 0 s #[] 2 rfl (QH _) st gN (ItemsOf.nil P) λs' acc c hm g it=>?_
 obtain⟨h',g',d',tk',os'⟩:=s'
 have eg:g'=s.gens:=hm.gens
 have ed:d'=s.drawn:=hm.drawn
 have eo:os'=s.os:=hm.os
 subst eg ed eo
 exact q h' tk' acc c it.1 it.2 g hm.heap
theorem Zmd{N:Addr}{Q:Unit->Xf->Prop}(gN:s.heap.get? N=some { cls:=.type "list",data:=.seq #[] 0 })(q:∀h',h'.get? N=some { cls:=.type "list",data:=.seq #[] 2 }->Bk N s.heap h'->Q () { s with heap:=h' }):Xx (X5 prog w) A (Builtin.List.listTouch (.ref N)) Q E s:=by
 unfold Builtin.List.listTouch
 refine Xb (listUpdate_at gN rfl ?_ (by rw[Qh];exact QH _) (by rw[Qh];exact Nat.le_of_ble_eq_true rfl))
 have g1:=get?_update_seq (c :="list") (n:=0) gN (·.push .none)
 refine listUpdate_at g1 rfl (q _ ?_ ((JM ..).trans (JM ..))) (by rw[Qh];exact Nat.le_of_ble_eq_true rfl) (by rw[Qh];exact QH _)
 exact get?_update_seq (c :="list") g1 (·.pop)
end
section
variable {prog:X4}{w:Qm}{A:Qn}{E:Xc->Xf->Prop}{s:Xf}
theorem Zeo{α:Type}{l:List α}{acc:Array α}(h:acc.size=l.length)(k:∀(j:Nat) v,acc[j]? =some v->l[j]? =some v):acc.toList=l:=by
 refine List.ext_getElem? λj=>?_
 rw[Qd]
 cases e:acc[j]? with
 | some v=>exact(k j v e).symm
 | none=>
  have:=Array.getElem?_eq_none_iff.mp e
  exact(Vf (by omega)).symm
theorem Zpb{S:Addr}{o:Obj}{es:Array (Int×Xc)}{ep:Nat}{t:QV}{Q:List Xc->Xf->Prop}(hh:A.handled=none)(ho:s.heap.get? S=some o)(hex:o.ExactSet)(hd:o.data= .set es ep t)(hf:t.fits es.size=true)(tb:Tb (!byT w) t)(hz:es.size≤1000)
  (q:∀h' tk d acc,acc.Perm (es.toList.map (·.2))->s.heap.objs.size≤h'.objs.size->(∀b o,b<s.heap.objs.size->s.heap.get? b=some o->h'.get? b=some o)->Q acc { s with heap:=h',toks:=tk,drawn:=d }):Xx (X5 prog w) A (collect (.ref S)) Q E s:=by
 have lS:S<s.heap.objs.size:=XH ho
 unfold collect
 refine Xb (wpAny_runValue (VJ F.entry_proto_collect ?_));rw[VH F.plain_proto_collect _]
 show Xx _ A.in1 (newList []>>= λl=>again (.builtin "list.__iadd__" ⟨[l,.ref S],[]⟩)) _ _ s
 refine Xb (JK (Xk ⟨plainId_quiet F.plain_list_iadd _,VJ F.entry_list_iadd ?_⟩));rw[VH F.plain_list_iadd _]
 have g0:(s.heap.push { cls:=.type "list",data:=.seq ([]:List Xc).toArray }).get? s.heap.objs.size=some { cls:=.type "list",data:=.seq #[] 0 }:=XJ _ rfl
 have s0:(s.heap.push { cls:=.type "list",data:=.seq ([]:List Xc).toArray }).objs.size=s.heap.objs.size+1:=QG ..
 have ho1:(s.heap.push { cls:=.type "list",data:=.seq ([]:List Xc).toArray }).get? S=some o:=Xg _ ho
 generalize hH:s.heap.push { cls:=.type "list",data:=.seq ([]:List Xc).toArray }=H1 at g0 s0 ho1⊢
 have old:∀b o,s.heap.get? b=some o->H1.get? b=some o:=λb o e=>by rw[←hH];exact Xg _ e
 show Xx _ A.in1 (Builtin.List.listExtendWith (.ref s.heap.objs.size) (.ref S) (.ref s.heap.objs.size)) _ _ { s with heap:=H1 }
 have hT1:Shared.TypeIs { s with heap:=H1 } (.ref S) "set" :=⟨o,ho1,hex.1⟩
 have ns:Builtin.List.listSameRef (.ref s.heap.objs.size) (.ref S)=false:=by simp[Builtin.List.listSameRef,X3 lS]
 unfold Builtin.List.listExtendWith
 refine Xb (wpAny_typeOf hT1 ?_)
 rw[if_neg (by rw[ns];decide)]
 refine Xb (Zzg (s:={ s with heap:=H1 }) ho1 hex hd hf hz (λhdr=>?_) λps d pm=>?_)
 ·refine Xb (By (Zsa (Xg _ ho1) hex ?_))
  rw[if_pos (by decide +kernel)]
  refine Xb (wpAny_rule (Xb (Zmd (Xg _ g0) λh2 g2 b2=>Xk ⟨plainId_quiet F.plain_extend_loop _,?_⟩)))
  have gI:h2.get? H1.objs.size=some { cls:=.type "set_iterator",data:=.fields #[JN 0,JN 0,.ref S,JN es.size,JN ep] }:=b2.extBut _ _ (by rw[s0];exact X3 (QL _)) (XJ _ rfl)
  have gS:h2.get? S=some o:=b2.extBut _ _ (Xo lS) (Xg _ ho1)
  refine Zgn (I:=H1.objs.size) (s:={ s with heap:=h2 }) (Z1k (S:=S) (by simpa using hh) (by rw[s0];exact Xo (Ba lS)) hd hf tb hdr) hz (λm=>?_) ⟨⟨0,gI,λhb=>?_⟩,gS⟩ g2 λh' tk acc c l1 l2 g k=>?_
  ·rw[s0]at m
   rcases Xn.mp m with e|m
   ·exact Xo (QL _) e
   ·exact X3 lS (Xm.mp m)
  ·refine Zj2 ?_
   rcases hdr hb with z|z
   ·exact tb.up z
   ·have sz:t.place.size=es.size:=by
     unfold U7 at hf
     rw[XN,beq_iff_eq]at hf
     exact hf.1
    have l1:t.place.toList.length≤1:=by rw[Xp,sz];exact z
    generalize t.place.toList=l at l1
    match l,l1 with
    | [],_=>exact .nil
    | [a],_=>exact Ua _ _
  ·have ea:acc.toList=Zbt w S ep es:=Zeo (by rw[l1,Za0.length_eq,Xe,Xp]) l2
   show Xx _ A (load s.heap.objs.size>>=_) _ _ { s with heap:=h',toks:=tk }
   refine Xb (wpAny_load g (Xk (q h' tk s.drawn acc.toList (ea▸Za0) (Bu (XH g)) λb o lb e=>k b o (λm=>?_) (b2.extBut _ _ (Xo lb) (Xg _ (old b o e))))))
   rcases Xn.mp m with z|m
   ·exact Xo lb z
   ·rw[Xm.mp m,s0]at lb
    exact Q9 _ (Nat.lt_of_succ_lt lb)
 ·refine Xb (By (Zsa (Xg _ (Xg _ ho1)) hex ?_))
  rw[if_pos (by decide +kernel)]
  refine Xb (wpAny_rule (Xb (Zmd (Xg _ (Xg _ g0)) λh2 g2 b2=>Xk ⟨plainId_quiet F.plain_extend_loop _,?_⟩)))
  have s1:(H1.push { cls:=.type "tuple",data:=.seq (Zmm ps) }).objs.size=s.heap.objs.size+1+1:=by rw[QG,s0]
  have gI:h2.get? (s.heap.objs.size+1+1)=some { cls:=.type "set_iterator",data:=.fields #[.ref H1.objs.size,JN 0,.ref S,JN es.size,JN ep] }:=b2.extBut _ _ (X3 (Ba (QL _))) (by rw[←s1];exact XJ _ rfl)
  have gS:h2.get? S=some o:=b2.extBut _ _ (Xo lS) (Xg _ (Xg _ ho1))
  have gT:h2.get? H1.objs.size=some { cls:=.type "tuple",data:=.seq (Zmm ps) }:=b2.extBut _ _ (by rw[s0];exact X3 (QL _)) (Xg _ (XJ _ rfl))
  rw[show H1.objs.size+1=s.heap.objs.size+1+1 by rw[s0]]
  refine Zgn (I:=s.heap.objs.size+1+1) (s:={ s with heap:=h2,drawn:=d }) (Z26 (S:=S) (T:=H1.objs.size) (by simpa using hh) (Xo (Ba (Ba lS))) (by rw[s0];exact Xo (QL _)) hd hf pm) hz (λm=>?_) ⟨gI,gS,gT⟩ g2 λh' tk acc c l1 l2 g k=>?_
  ·rcases Xn.mp m with e|m
   ·exact Xo (Ba (QL _)) e
   rcases Xn.mp m with e|m
   ·exact X3 lS e
   ·have:=Xm.mp m
    rw[s0]at this
    exact Xo (QL _) this
  ·have ea:acc.toList=Zf2 ps es:=Zeo (by rw[l1,(Zg9 pm).length_eq,Xe,Xp]) l2
   show Xx _ A (load s.heap.objs.size>>=_) _ _ { s with heap:=h',toks:=tk,drawn:=d }
   refine Xb (wpAny_load g (Xk (q h' tk d acc.toList (ea▸Zg9 pm) (Bu (XH g)) λb o lb e=>k b o (λm=>?_) (b2.extBut _ _ (Xo lb) (Xg _ (Xg _ (old b o e)))))))
   rcases Xn.mp m with z|m
   ·exact Xo lb z
   ·rw[Xm.mp m]at lb
    exact Q9 _ (Nat.lt_of_succ_lt (Nat.lt_of_succ_lt lb))
end
theorem Inv.drawn{X:Cx}{pins:List (Addr×Obj)}{σ:St}{H:Hp}{s:Xf}(I:Inv X pins σ H s)(d:Drawn):Inv X pins σ H { s with drawn:=d }:=by
 refine I.call (ch:=[]) (g':=s.gens) (d':=d) (t':=s.toks) ⟨λb o e _ _ _=>e,λb o e _ _ _=>⟨o.slots,e⟩,λb o e n _=>n,λb o e _=>⟨o,e⟩,λb ys e=>e,λb o u e=>e,λb ps e=>⟨#[],by rw[e];simp⟩⟩ (λb u e=>I.hok b u e) I.bare (λb hb=>nomatch hb)
section
variable {X:Cx}{p c:Bool}{io:List Nat}{a e:Expr}{pos pos' pl pr:Pos}{t:TA}{mr:MAt}{ra:FA}
end
section
variable {κ:Type}[DecidableEq κ]
noncomputable def Zkp(kvs:List (κ×V))(k:κ):Option V:=(kvs.find? λkv=>decide (kv.1=k)).map (·.2)
noncomputable def putK(kvs:List (κ×V))(k:κ)(v:V):List (κ×V) :=
 if(kvs.any λkv=>decide (kv.1=k))=true then kvs.map (λkv=>if kv.1=k then(kv.1,v)else kv)else kvs ++ [(k,v)]
theorem Zcv{p:κ×V}{r:List (κ×V)}{k:κ}(e:p.1=k):Zkp (p :: r) k=some p.2:=by simp[Zkp,V6,e]
theorem Zct{p:κ×V}{r:List (κ×V)}{k:κ}(e:¬p.1=k):Zkp (p :: r) k=Zkp r k:=by simp[Zkp,V6,e]
theorem Zil(k:κ):∀kvs:List (κ×V),(kvs.any λkv=>decide (kv.1=k))=(Zkp kvs k).isSome
 | []=>rfl
 | p :: r=>by
  rw[V5]
  by_cases e:p.1=k
  ·simp only[Zcv e,decide_eq_true e,Bool.true_or,Option.isSome_some]
  ·rw[Zct e,decide_eq_false e,Bool.false_or];exact Zil k r
theorem Zax(kvs:List (κ×V))(k:κ)(v:V):(putK kvs k v).length≤kvs.length+1:=by
 unfold putK
 split
 ·rw[Xe];omega
 ·rw[X6,QX,Vm];omega
theorem RelO.isSome_eq{o:Option V}{u:Option Xc}(r:RelO o u):o.isSome=u.isSome:=by
 cases o with
 | none=>cases u with
  | none=>rfl
  | some _=>exact(show False from r).elim
 | some _=>cases u with
  | none=>exact(show False from r).elim
  | some _=>rfl
theorem RelO.getD{o:Option V}{u:Option Xc}{d:V}{d':Xc}(r:RelO o u)(rd:RelV d d'):RelV (o.getD d) (u.getD d'):=by
 cases o with
 | none=>cases u with
  | none=>exact rd
  | some _=>exact(show False from r).elim
 | some _=>cases u with
  | none=>exact(show False from r).elim
  | some _=>exact r
theorem KV.val{kvs:List (κ×V)}{vs:List (κ×Xc)}(r:KV kvs vs)(k:κ):RelO (Zkp kvs k) (valueAt vs k):=by
 unfold KV at r
 induction r with
 | nil=>exact Vv
 | @cons p q ps qs h t ih=>
  obtain⟨h1,h2⟩:=h
  by_cases e:p.1=k
  ·have e':q.1=k:=h1.symm.trans e
   have b:valueAt (q :: qs) k=some q.2:=by simp[valueAt,V6,e']
   rw[Zcv e,b];exact h2
  ·have e':¬q.1=k:=λz=>e (h1.trans z)
   have b:valueAt (q :: qs) k=valueAt qs k:=by simp[valueAt,V6,e']
   rw[Zct e,b];exact ih
theorem KV.any{kvs:List (κ×V)}{vs:List (κ×Xc)}(r:KV kvs vs)(k:κ):(kvs.any λkv=>decide (kv.1=k))=vs.any λkv=>decide (kv.1=k):=by
 unfold KV at r
 induction r with
 | nil=>rfl
 | cons h t ih=>rw[V5,V5,ih,h.1]
theorem KV.repl{kvs:List (κ×V)}{vs:List (κ×Xc)}(r:KV kvs vs)(k:κ){y:V}{u:Xc}(ry:RelV y u) :
  KV (kvs.map λkv=>if kv.1=k then(kv.1,y)else kv) (vs.map λkv=>if kv.1=k then(kv.1,u)else kv):=by
 unfold KV at r⊢
 induction r with
 | nil=>exact .nil
 | @cons p q ps qs h t ih=>
  rw[Qg,Qg]
  refine .cons ?_ ih
  obtain⟨h1,h2⟩:=h
  by_cases e:p.1=k
  ·rw[if_pos e,if_pos (h1.symm.trans e)];exact⟨h1,ry⟩
  ·rw[if_neg e,if_neg (λz=>e (h1.trans z))];exact⟨h1,h2⟩
theorem KV.put{kvs:List (κ×V)}{vs:List (κ×Xc)}(r:KV kvs vs)(k:κ){y:V}{u:Xc}(ry:RelV y u):KV (putK kvs k y) (stored vs k u):=by
 unfold putK stored
 rw[r.any k]
 by_cases e:(vs.any λkv=>decide (kv.1=k))=true
 ·rw[if_pos e,if_pos e];exact r.repl k ry
 ·rw[if_neg e,if_neg e];exact Paired.snoc r ⟨rfl,ry⟩
theorem KV.length{kvs:List (κ×V)}{vs:List (κ×Xc)}(r:KV kvs vs):kvs.length=vs.length:=Paired.length r
end
theorem Znu{P:X4}{w:Qm}{k:Key}{u:Xc}(r:RelV (kV k) u):(Y4 P w).is k u=true:=by
 cases k with
 | inl i=>obtain⟨t,e⟩:=(show∃t,u=Um i t from r);subst e;exact Zhy P w i t
 | inr x=>obtain⟨t,e⟩:=(show∃t,u=Value.str x t from r);subst e;exact Zh6 P w x t
theorem Zga{P:X4}{w:Qm}:∀{ks:List Key} {us:List Xc},Vals (ks.map kV) us->ItemsAre (Y4 P w) ks us
 | [],_,r=>by rw[List.map_nil]at r;cases r;exact .nil
 | k :: ks,_,r=>by
  rw[Qg]at r
  cases r with
  | cons h t=>exact .cons (Znu h) (Zga t)
noncomputable abbrev KT(H:Hp):List (List Key×V)->List (List Key×Addr×Xc)->Prop:=Paired λp q=>p.1=q.1∧H q.2.1=some (.tup (p.1.map kV))∧RelV p.2 q.2.2
theorem KT.val{H:Hp}{kvs:List (List Key×V)}{xs:List (List Key×Addr×Xc)}(r:KT H kvs xs)(k:List Key):RelO (Zkp kvs k) ((atKey xs k).map (·.2)):=by
 induction r with
 | nil=>exact Vv
 | @cons p q ps qs h t ih=>
  obtain⟨h1,_,h2⟩:=h
  by_cases e:p.1=k
  ·have e':q.1=k:=h1.symm.trans e
   have b:atKey (q :: qs) k=some q.2:=by simp[atKey,V6,e']
   rw[Zcv e,b];exact h2
  ·have e':¬q.1=k:=λz=>e (h1.trans z)
   have b:atKey (q :: qs) k=atKey qs k:=by simp[atKey,V6,e']
   rw[Zct e,b];exact ih
theorem KT.repl{H:Hp}{kvs:List (List Key×V)}{xs:List (List Key×Addr×Xc)}(r:KT H kvs xs)(k:List Key){y:V}{u:Xc}(ry:RelV y u) :
  KT H (kvs.map λkv=>if kv.1=k then(kv.1,y)else kv) (xs.map (putAt k u)):=by
 induction r with
 | nil=>exact .nil
 | @cons p q ps qs h t ih=>
  rw[Qg,Qg]
  refine .cons ?_ ih
  obtain⟨h1,h2,h3⟩:=h
  unfold putAt
  by_cases e:p.1=k
  ·rw[if_pos e,if_pos (h1.symm.trans e)];exact⟨h1,h2,ry⟩
  ·rw[if_neg e,if_neg (λz=>e (h1.trans z))];exact⟨h1,h2,h3⟩
theorem KT.put{H:Hp}{kvs:List (List Key×V)}{xs:List (List Key×Addr×Xc)}(r:KT H kvs xs)(k:List Key){b:Addr}{y:V}{u:Xc}(hb:H b=some (.tup (k.map kV)))(ry:RelV y u) :
  KT H (putK kvs k y) (storedH xs k b u):=by
 have e:(kvs.any λkv=>decide (kv.1=k))=(atKey xs k).isSome:=by
  rw[Zil,(r.val k).isSome_eq,Option.isSome_map]
 unfold putK storedH
 rw[e]
 by_cases q:(atKey xs k).isSome=true
 ·rw[if_pos q,if_pos q];exact r.repl k ry
 ·rw[if_neg q,if_neg q];exact Paired.snoc r ⟨rfl,hb,ry⟩
theorem KT.keeps{H H':Hp}{kvs:List (List Key×V)}{xs:List (List Key×Addr×Xc)}(r:KT H kvs xs)(ht:∀b ys,H b=some (.tup ys)->H' b=some (.tup ys)):KT H' kvs xs :=
 Paired.mapP r λ_ _ z=>⟨z.1,ht _ _ z.2.1,z.2.2⟩
section
variable {P:X4}{w:Qm}{H:Hp}{h:Heap}{a:Addr}
theorem Z1a{u:HO}(ok:HOk P w H h)(e:Rd H a u):ObjOk P w H h a u:=e.ok ok
theorem Zo1{kvs:List (Key×V)}(ok:HOk P w H h)(e:Rd H a (.dK kvs)):kvs.length≤Xr∧(a==V3)=false∧∃vs,KV kvs vs∧h.DictOf (Y4 P w) a vs :=
 show ObjOk P w H h a (.dK kvs)from Z1a ok e
theorem Z1m{kvs:List (Key×V)}(ok:HOk P w H h)(e:H a=some (.dK kvs)):kvs.length≤Xr∧(a==V3)=false∧∃vs,KV kvs vs∧h.DictOf (Y4 P w) a vs:=Zo1 ok (.inl e)
theorem Zjh{ks:List Key}(ok:HOk P w H h)(e:H a=some (.tup (ks.map kV))):(tupleKind (Y4 P w)).is h ks a:=by
 obtain⟨_,its,r,o,h1,h2,n,h3⟩:=(show ObjOk P w H h a (.tup (ks.map kV))from ok a _ e)
 exact⟨o,its.toArray,n,h1,h2,h3,by simpa using Zga r⟩
theorem Zr3{kvs:List (List Key×V)}(ok:HOk P w H h)(e:Rd H a (.dT kvs)):kvs.length≤Xr∧(a==V3)=false∧
  ∃xs,KT H kvs xs∧h.DictOfH (tupleKind (Y4 P w)) a xs:=by
 obtain⟨z,y,xs,r,o,es,ep,h1,h2,h3,h4,h5⟩:=(show ObjOk P w H h a (.dT kvs)from Z1a ok e)
 refine⟨z,y,xs,r,o,es,ep,h1,h2,h3,h4,λx hx=>?_,h5⟩
 have all:∀{l:List (List Key×V)} {m:List (List Key×Addr×Xc)},KT H l m->∀x∈m,(tupleKind (Y4 P w)).is h x.1 x.2.1:=by
  intro l m q
  induction q with
  | nil=>intro x hx;exact nomatch hx
  | @cons p q ps qs hq t ih=>
   intro x hx
   rcases Xn.mp hx with e|hx
   ·subst e
    exact Zjh ok (by rw[←hq.1];exact hq.2.1)
   ·exact ih x hx
 exact all r x hx
theorem Z5y{kvs:List (List Key×V)}(ok:HOk P w H h)(e:H a=some (.dT kvs)):kvs.length≤Xr∧(a==V3)=false∧
  ∃xs,KT H kvs xs∧h.DictOfH (tupleKind (Y4 P w)) a xs:=Zr3 ok (.inl e)
end
noncomputable def DGet(H:Hp)(a:Addr)(y:V)(r:Option V):Prop :=
 (∃ kvs k,Rd H a (.dK kvs)∧y=kV k∧r=Zkp kvs k)∨∃kvs k b,Rd H a (.dT kvs)∧y= .ref b∧H b=some (.tup (k.map kV))∧r=Zkp kvs k
noncomputable def DPut(H:Hp)(a:Addr)(y v:V)(H':Hp):Prop :=
 (∃ kvs k,H a=some (.dK kvs)∧y=kV k∧kvs.length<Xr∧H'=upd H a (.dK (putK kvs k v)))∨
 ∃kvs k b,H a=some (.dT kvs)∧y= .ref b∧H b=some (.tup (k.map kV))∧kvs.length<Xr∧H'=upd H a (.dT (putK kvs k v))
theorem DGet.k{H:Hp}{a:Addr}{kvs:List (Key×V)}{k:Key}(e:H a=some (.dK kvs)):DGet H a (kV k) (Zkp kvs k):=.inl ⟨kvs,k,.inl e,rfl,rfl⟩
theorem DGet.t{H:Hp}{a b:Addr}{kvs:List (List Key×V)}{k:List Key}(e:H a=some (.dT kvs))(eb:H b=some (.tup (k.map kV))):DGet H a (.ref b) (Zkp kvs k):=.inr ⟨kvs,k,b,.inl e,rfl,eb,rfl⟩
theorem DPut.k{H:Hp}{a:Addr}{kvs:List (Key×V)}{k:Key}{v:V}(e:H a=some (.dK kvs))(hl:kvs.length<Xr):DPut H a (kV k) v (upd H a (.dK (putK kvs k v))):=.inl ⟨kvs,k,e,rfl,hl,rfl⟩
theorem DPut.t{H:Hp}{a b:Addr}{kvs:List (List Key×V)}{k:List Key}{v:V}(e:H a=some (.dT kvs))(eb:H b=some (.tup (k.map kV)))(hl:kvs.length<Xr) :
  DPut H a (.ref b) v (upd H a (.dT (putK kvs k v))):=.inr ⟨kvs,k,b,e,rfl,eb,hl,rfl⟩
section
variable {X:Cx}{pins:List (Addr×Obj)}{σ:St}{H:Hp}{s:Xf}{a:Addr}{y v:V}{u r:Xc}{o:Option V}{A:Qn}{E:Xc->Xf->Prop}
theorem Inv.big(I:Inv X pins σ H s):V3<s.heap.objs.size:=by
 have h:Qa<s.heap.objs.size:=(I.mod.glob.keeps I.bk).lt
 exact BW (by decide) h
theorem Zo4{Q:Xc->Xf->Prop}(hu:A.units+1<Vu)(I:Inv X pins σ H s)(g:DGet H a y (some v))(ry:RelV y u)(h:∀w' s',Inv X pins σ H s'->RelV v w'->Q w' s') :
  Xx (X5 X.prog X.w) A (getItem (.ref a) u) Q E s:=by
 rcases g with⟨kvs,k,e,ey,l⟩|⟨kvs,k,b,e,ey,eb,l⟩
 ·subst ey
  obtain⟨z,hd,vs,rel,dd⟩:=Zo1 I.hok e
  obtain⟨w',hw,rw'⟩:=RelO.some_of (v:=v) (o:=valueAt vs k) (by rw[l];exact rel.val k)
  exact wpAny_getItem_of (Znu ry) dd.mapOf hw (h w' _ (I.tok _) rw')
 ·subst ey
  cases(show u=Xu b from ry)
  obtain⟨z,hd,xs,rel,dd⟩:=Zr3 I.hok e
  obtain⟨w',hw,rw'⟩:=RelO.some_of (v:=v) (o:=(atKey xs k).map (·.2)) (by rw[l];exact rel.val k)
  obtain⟨p,hp,hp2⟩:=XQ.mp hw
  refine wpAny_getItem_heap (tupleKind_room_in1 hu) (Zjh I.hok eb) dd hp ?_
  rw[hp2]
  exact h w' _ (I.tok _) rw'
theorem Zxe{Q:Xc->Xf->Prop}(hu:A.units+1<Vu)(I:Inv X pins σ H s)(g:DGet H a y o)(ry:RelV y u)(h:∀s',Inv X pins σ H s'->Q (.bool (!o.isSome)) s') :
  Xx (X5 X.prog X.w) A (Q6 .NotIn u (.ref a)) Q E s:=by
 rcases g with⟨kvs,k,e,ey,l⟩|⟨kvs,k,b,e,ey,eb,l⟩
 ·subst ey
  obtain⟨z,hd,vs,rel,dd⟩:=Zo1 I.hok e
  refine wpAny_notIn_of (Znu ry) hd dd.mapOf ?_
  rw[←(rel.val k).isSome_eq,←l]
  exact h _ (I.tok _)
 ·subst ey
  cases(show u=Xu b from ry)
  obtain⟨z,hd,xs,rel,dd⟩:=Zr3 I.hok e
  refine wpAny_notIn_heap (tupleKind_room_in1 hu) (Zjh I.hok eb) hd dd ?_
  have q:=(rel.val k).isSome_eq
  rw[Option.isSome_map]at q
  rw[←q,←l]
  exact h _ (I.tok _)
theorem Zij{h':Heap}{t':Nat}{ob:HO}(I:Inv X pins σ H s)(mu:Mut (H a))(hs:Bk a s.heap h')(he:∃q,h'.get? a=some q)(new:ObjOk X.prog X.w (upd H a ob) h' a ob) :
  Inv X pins σ (upd H a ob) { s with heap:=h',toks:=t' } :=
 I.write (x:=a) (e:=a) mu (.inl rfl) (λb q hb z=>(hs.2 b hb).trans z) he new
theorem Zsu{P:X4}{w:Qm}{H':Hp}{h':Heap}{kvs:List (Key×V)}{vs:List (Key×Xc)}(z:kvs.length≤Xr)(hd:(a==V3)=false)(rel:KV kvs vs)(dd:h'.DictOf (Y4 P w) a vs) :
  ObjOk P w H' h' a (.dK kvs):=⟨z,hd,vs,rel,dd⟩
theorem Zo5{H':Hp}{Q:Unit->Xf->Prop}(hu:A.units+1<Vu)(I:Inv X pins σ H s)(g:DPut H a y v H')(ry:RelV y u)(rv:RelV v r)(h:∀s',Inv X pins σ H' s'->Q () s') :
  Xx (X5 X.prog X.w) A (setItem (.ref a) u r) Q E s:=by
 rcases g with⟨kvs,k,e,ey,l,eH⟩|⟨kvs,k,b,e,ey,eb,l,eH⟩
 ·subst ey eH
  obtain⟨z,hd,vs,rel,dd⟩:=Z1m I.hok e
  have hz:vs.length≤Xr:=by rw[←rel.length];exact z
  have hl:(putK kvs k v).length≤Xr:=by have:=Zax kvs k v;omega
  refine wpAny_setItem_pairs (hsz:=hz) (Znu ry) dd λh' dd' hs=>h _ ?_
  have he:∃q,h'.get? a=some q:=let⟨q,_,_,hq,_⟩:=dd';⟨q,hq⟩
  exact Zij I (by rw[e];exact Vv) hs he (Zsu hl hd (rel.put k rv) dd')
 ·subst ey eH
  cases(show u=Xu b from ry)
  obtain⟨z,hd,xs,rel,dd⟩:=Z5y I.hok e
  have hz:xs.length≤Xr:=by rw[←Paired.length rel];exact z
  have hl:(putK kvs k v).length≤Xr:=by have:=Zax kvs k v;omega
  refine wpAny_setItem_heap (hsz:=hz) (tupleKind_room_in1 hu) (Zjh I.hok eb) dd λh' dd' hs=>h _ ?_
  obtain⟨q,es,ep,hq,h2,h3,h4,_,h5⟩:=dd'
  refine Zij I (by rw[e];exact Vv) hs ⟨q,hq⟩ ⟨hl,hd,_,(rel.put k eb rv).keeps λc ys ec=>?_,q,es,ep,hq,h2,h3,h4,h5⟩
  rw[Zi (Z7k ec e (λz=>nomatch z))]
  exact ec
end
section
variable {X:Cx}{pins:List (Addr×Obj)}{σ:St}{H:Hp}{s:Xf}{a:Addr}{kvs:List (Key×V)}{k:Key}{u:Xc}{A:Qn}{E:Xc->Xf->Prop}
end
noncomputable def Z6l(i:Expr):Prop:=∀ov iv,subscripted i false ov iv=operate [ov,iv] (getItem ov iv)
theorem Zvi{prog:X4}{w:Qm}{A:Qn}{E:Xc->Xf->Prop}{s:Xf}{env:Env}{value slice:Expr}{pos:Pos}{T id:String}{Q:Xc->Xf->Prop}
  (hl:typeLookup (.type T) "__getitem__"=pure (some (.builtin id))) (hs:Z6l slice)
  (h:Xx (X5 prog w) A (eval value env) (λo s₁=>Xx (X5 prog w) A (eval slice env) (λi s₂=>s₂.TypeIs o T∧Xx (X5 prog w) A (getItem o i) Q E s₂) E s₁) E s) :
  Xx (X5 prog w) A (eval (.Subscript value slice pos) env) Q E s:=by
 refine Subscript_ (QC h (λo s₁ h₁=>QC h₁ (λi s₂ h₂=>?_) λ_ _ x=>x) λ_ _ x=>x)
 obtain⟨hT,h₂⟩:=h₂
 unfold subscriptTail
 refine Xb ?_
 rw[getitemInPython_of_ne hT.not_modules]
 refine Xb (wpAny_specialOf hT hl ?_)
 have fin:Xx (X5 prog w) A (subscripted slice false o i) (λr s₃=>Xx (X5 prog w) A (letTemporaryGo value o r>>= λ_=>pure r) Q E s₃) E s₂:=by
  rw[hs o i]
  exact wpAny_operating (QC h₂ (λr s₃ h₃=>Xb (wpAny_letTemporaryGo (Xk h₃))) λ_ _ x=>x)
 first
  | exact Xk (Xb fin)
  | exact Xb (Xk (Xb fin))
  | exact Xb fin
theorem Zh7{X:Cx}{pins:List (Addr×Obj)}{σ:St}{H:Hp}{s:Xf}{a:Addr}{y:V}{o:Option V}(I:Inv X pins σ H s)(g:DGet H a y o):s.TypeIs (.ref a) "dict" :=by
 rcases g with⟨kvs,k,e,_,_⟩|⟨kvs,k,b,e,_,_,_⟩
 ·obtain⟨_,_,vs,_,dd⟩:=Zo1 I.hok e
  exact dd.typeIs
 ·obtain⟨_,_,xs,_,dd⟩:=Zr3 I.hok e
  exact dd.typeIs
noncomputable def Z6g(td ty:TE):TE:=λσ H Q=>td σ H λx H1=>ty σ H1 λy H2=>∃a v,x= .ref a∧DGet H2 a y (some v)∧Q v H2
noncomputable def Z5n(td ty tv:TE):TS:=λD σ H=>tv σ H λv H1=>td σ H1 λx H2=>ty σ H2 λy H3=>∃a H4,x= .ref a∧DPut H3 a y v H4∧D.nx σ H4
section
variable {X:Cx}{o i e value:Expr}{pos pos' tpos:Pos}{td ty tv:TE}
theorem Zxq(hu:X.A.units+1<Vu)(ho:PE X o td)(hi:PE X i ty)(hs:Z6l i):PE X (.Subscript o i pos) (Z6g td ty):=by
 intro pins s σ H Q I h
 refine Zvi PySem.F.slot_dict_getitem.lookup hs (thn (ho pins s σ H _ I h) λu s1 ⟨x,H1,I1,rx,q1⟩=>thn (hi pins s1 σ H1 _ I1 q1) λiv s2 ⟨y,H2,I2,ry,a,v,ex,g,q2⟩=>?_)
 subst ex
 obtain rfl:u=Xu a:=rx
 exact⟨Zh7 I2 g,Zo4 hu I2 g ry λw' s3 I3 rw'=>⟨v,H2,I3,rw',q2⟩⟩
theorem Zx4(hu:X.A.units+1<Vu)(ho:PE X o td)(hi:PE X i ty)(hv:PE X value tv)(hs:Bx value (some (.Subscript o i pos')) pos.line X.env=pure false) :
  PS X (.Assign [.Subscript o i pos'] value pos) (Z5n td ty tv):=by
 intro pins s σ H D I h
 refine wpAny_Assign_Subscript (thn (hv pins s σ H _ I h) λr s1 ⟨v,H1,I1,rv,q1⟩=>thn (ho pins s1 σ H1 _ I1 q1) λu s2 ⟨x,H2,I2,rx,q2⟩=>thn (hi pins s2 σ H2 _ I2 q2) λiv s3 ⟨y,H3,I3,ry,a,H4,ex,g,q3⟩=>?_) hs
 subst ex
 obtain rfl:u=Xu a:=rx
 exact Zo5 hu I3 g ry rv λs4 I4=>⟨σ,H4,I4,q3⟩
end
theorem Zpw{P:X4}{w:Qm}{H:Hp}(h:Heap)(hb:V3<h.objs.size):ObjOk P w H (h.push { cls:=.type "dict",data:=.dict #[] }) h.objs.size (.dK []) :=
 ⟨QH _,beq_eq_false_iff_ne.mpr (BL (Xo hb)),[],.nil,Heap.DictOf.new h⟩
section
variable {X:Cx}{pos:Pos}
end
noncomputable def Zml:List (TE×TE)->St->Hp->(List (V×V)->Hp->Prop)->Prop
 | [],_,H,Q=>Q [] H
 | (tk,tv) :: r,σ,H,Q=>tk σ H λx H1=>tv σ H1 λy H2=>Zml r σ H2 λps H3=>Q ((x,y) :: ps) H3
noncomputable abbrev VV:List (V×V)->List (Xc×Xc)->Prop:=Paired λp q=>RelV p.1 q.1∧RelV p.2 q.2
noncomputable def PPs(X:Cx)(pos:Pos)(keys:List (Option Expr))(values:List Expr)(trs:List (TE×TE)):Prop :=
 ∀(pins:List (Addr×Obj)) (s:Xf) (σ:St) (H:Hp) (Q:List (V×V)->Hp->Prop),Inv X pins σ H s->Zml trs σ H Q ->
  Xx (X5 X.prog X.w) X.A (evalPairs (pairTrees keys values X.env pos)) (λvs s'=>∃ps H',Inv X pins σ H' s'∧VV ps vs∧Q ps H') X.xe s
theorem Zwr{X:Cx}{pos:Pos}:PPs X pos [] [] []:=λpins s σ H Q I h=>pairTrees_nil_walk ⟨[],H,I,.nil,h⟩
theorem Zpm{X:Cx}{pos:Pos}{k v:Expr}{ks:List (Option Expr)}{vs:List Expr}{tk tv:TE}{trs:List (TE×TE)}(hk:PE X k tk)(hv:PE X v tv)(hr:PPs X pos ks vs trs) :
  PPs X pos (some k :: ks) (v :: vs) ((tk,tv) :: trs):=λpins s σ H Q I h=>
 pairTrees_cons_walk (thn (hk pins s σ H _ I h) λu s1 ⟨x,H1,I1,rx,q1⟩=>thn (hv pins s1 σ H1 _ I1 q1) λw2 s2 ⟨y,H2,I2,ry,q2⟩=>
  thn (hr pins s2 σ H2 _ I2 q2) λws s3 ⟨ps,H3,I3,rel,q3⟩=>⟨(x,y) :: ps,H3,I3,.cons ⟨rx,ry⟩ rel,q3⟩)
noncomputable def Zci(kvs more:List (Key×V)):List (Key×V):=more.foldl (λacc kv=>putK acc kv.1 kv.2) kvs
theorem KV.merge:∀{more:List (Key×V)} {rs:List (Key×Xc)} {kvs:List (Key×V)} {vs:List (Key×Xc)},KV more rs->KV kvs vs->KV (Zci kvs more) (merged vs rs):=by
 intro more rs kvs vs r
 unfold KV at r
 induction r generalizing kvs vs with
 | nil=>intro q;exact q
 | @cons p q ps qs h t ih=>
  intro r0
  have e:KV (putK kvs p.1 p.2) (stored vs q.1 q.2):=by
   have:=r0.put p.1 h.2
   rw[←h.1];exact this
  exact ih e
theorem Zaz:∀(more kvs:List (Key×V)),(Zci kvs more).length≤kvs.length+more.length
 | [],kvs=>by show kvs.length≤kvs.length+0;omega
 | p :: r,kvs=>by
  have h1:=Zaz r (putK kvs p.1 p.2)
  have h2:=Zax kvs p.1 p.2
  show(Zci (putK kvs p.1 p.2) r).length≤_
  rw[QX];omega
theorem Zel{P:X4}{w:Qm}:∀{kvs:List (Key×V)} {ws:List (Xc×Xc)},VV (kvs.map λkv=>(kV kv.1,kv.2)) ws->∃rs,Carries (Y4 P w) ws rs∧KV kvs rs
 | [],_,r=>by rw[List.map_nil]at r;cases r;exact⟨[],Vv,.nil⟩
 | p :: kvs,_,r=>by
  rw[Qg]at r
  cases r with
  | @cons a b as bs h t=>
   obtain⟨rs,c,q⟩:=Zel (P:=P) (w:=w) t
   obtain⟨b1,b2⟩:=b
   exact⟨(p.1,b2) :: rs,⟨Znu h.1,rfl,c⟩,.cons ⟨rfl,h.2⟩ q⟩
noncomputable def Z6i(trs:List (TE×TE)):TE:=λσ H Q=>∀p,H p=none->Zml trs σ (upd H p (.dK [])) λps H2=>H2 p=some (.dK [])∧∃kvs:List (Key×V),ps=kvs.map (λkv=>(kV kv.1,kv.2))∧kvs.length≤15∧Q (.ref p) (upd H2 p (.dK (Zci [] kvs)))
theorem Zut{X:Cx}{pos:Pos}{keys:List (Option Expr)}{values:List Expr}{trs:List (TE×TE)}(h:PPs X pos keys values trs)(hall:keys.all (·.isSome)=true)(hl:keys.length=values.length)(h0:keys≠[])
  (h15:keys.length≤15):PE X (.Dict keys values pos) (Z6i trs):=by
 intro pins s σ H Q I q
 have hn:=I.hok.fresh (XD s.heap.objs.size)
 have I1:=I.laid (a:=s.heap.objs.size) (o:=.dK []) (h':=s.heap.push { cls:=.type "dict",data:=.dict #[] }) (t':=s.toks) (λ_ _ q=>Xg _ q) (XD _) (Zpw s.heap I.big)
 refine wpAny_Dict_walk (knd:=Y4 X.prog X.w) hall hl h0 h15 (thn (h pins _ σ _ _ I1 (q _ hn)) λws s2 ⟨ps,H2,I2,rel,e,kvs,ep,lk,q2⟩=>?_)
 subst ep
 obtain⟨rs,c,rk⟩:=Zel (P:=X.prog) (w:=X.w) rel
 obtain⟨z,hd,vs0,r0,dd⟩:=Z1m I2.hok e
 cases r0
 refine⟨rs,c,dd,λh' dd' hs=>⟨.ref s.heap.objs.size,_,?_,rfl,q2⟩⟩
 have hz:(Zci [] kvs).length≤Xr:=by
  have h1:=Zaz kvs []
  rw[Vm]at h1
  rw[Qh];omega
 have he:∃q,h'.get? s.heap.objs.size=some q:=let⟨q,_,_,hq,_⟩:=dd';⟨q,hq⟩
 exact Zij I2 (by rw[e];exact Vv) hs he (Zsu hz hd (rk.merge .nil) dd')
structure M1(X:Cx)(o:Expr)(m:Str)(apos:Pos)(e:Expr)(cpos:Pos):Prop where
 base:Vh o m X.env (eval o X.env)=eval o X.env
 few:((Bf cpos (Xv [e] X.env)).all (λx=>!x.1)&&(backToKw cpos (U5 [] X.env)).all (λx=>x.1.isSome)
  &&decide (([e]:List Expr).length+([]:List V7).length+(if([]:List V7).isEmpty then 0 else 1)<30))=true
 line:(apos.endLine==cpos.line)=true
 trees:Bf cpos (Xv [e] X.env)=[(false,eval e X.env)]
structure M2(X:Cx)(o:Expr)(m:Str)(apos:Pos)(e f:Expr)(cpos:Pos):Prop where
 base:Vh o m X.env (eval o X.env)=eval o X.env
 few:((Bf cpos (Xv [e,f] X.env)).all (λx=>!x.1)&&(backToKw cpos (U5 [] X.env)).all (λx=>x.1.isSome)
  &&decide (([e,f]:List Expr).length+([]:List V7).length+(if([]:List V7).isEmpty then 0 else 1)<30))=true
 line:(apos.endLine==cpos.line)=true
 trees:Bf cpos (Xv [e,f] X.env)=[(false,eval e X.env),(false,eval f X.env)]
noncomputable def IsD(H:Hp)(a:Addr):Prop:=(∃kvs,Rd H a (.dK kvs))∨∃kvs,Rd H a (.dT kvs)
section
variable {X:Cx}{pins:List (Addr×Obj)}{σ:St}{H:Hp}{s:Xf}{a:Addr}{y d:V}{u r:Xc}{o:Option V}{A:Qn}{E:Xc->Xf->Prop}
end
section
variable {X:Cx}{o e f:Expr}{apos cpos:Pos}{td ty tx:TE}
end
variable {G:Xd}
noncomputable def Zea:Xa->Option Key
 | .int i=>some (.inl i)
 | .str x=>some (.inr x)
 | _=>none
noncomputable def Zgg:List Xa->Option (List Key)
 | []=>some []
 | d :: ds=>(Zea d).bind λk=>(Zgg ds).bind λks=>some (k :: ks)
noncomputable def Zf7:Xa->Option KY
 | .tuple ds=>(Zgg ds).map .inr
 | d=>(Zea d).map .inl
noncomputable def Zlv:KY->Bool
 | .inl _=>false
 | .inr _=>true
theorem Ztu(k:Key):Zea (Z10 k)=some k:=by cases k<;>rfl
theorem Zwh(ks:List Key):Zgg (ks.map Z10)=some ks:=by
 induction ks with
 | nil=>rfl
 | cons k ks ih=>rw[Qg,Zgg,Ztu,ih];rfl
theorem Z1h(k:KY):Zf7 (kyD k)=some k:=by
 cases k with
 | inl k=>cases k<;>rfl
 | inr ks=>show(Zgg (ks.map Z10)).map (Uw:List Key->KY)=_;rw[Zwh];rfl
noncomputable def Zpd(k:KY):List KY->List Xa->Option Xa
 | [],_=>none
 | _ :: _,[]=>none
 | j :: ks,d :: ds=>if j=k then some d else Zpd k ks ds
noncomputable def Z5u(k:KY)(x:Xa):List KY->List Xa->List Xa
 | [],ds=>ds
 | _ :: _,[]=>[]
 | j :: ks,d :: ds=>(if j=k then x else d) :: Z5u k x ks ds
noncomputable def Zsq(k:KY)(ks:List KY):Bool:=ks.any λj=>decide (j=k)
noncomputable def Zmp(k:KY)(ks:List KY):List KY:=if Zsq k ks=true then ks else ks ++ [k]
noncomputable def Znk(k:KY)(x:Xa)(ks:List KY)(ds:List Xa):List Xa:=if Zsq k ks=true then Z5u k x ks ds else ds ++ [x]
section
variable {H:Hp}{L:Addr->Prop}{κ:Type}[DecidableEq κ]{f:κ->KY}
noncomputable def Z76(G:Xd)(H:Hp)(L:Addr->Prop)(a:Option V)(b:Option Xa):Prop:=(∃v d,a=some v∧b=some d∧Da G H L v d)∨(a=none∧b=none)
theorem look(hf:∀a b,f a=f b->a=b)(k:κ)(kvs:List (κ×V)):∀ds,Das G H L (kvs.map (·.2)) ds->Z76 G H L (Zkp kvs k) (Zpd (f k) (kvs.map λp=>f p.1) ds):=by
 induction kvs with
 | nil=>exact λds _=>.inr ⟨rfl,rfl⟩
 | cons p kvs ih=>
  intro ds h
  cases h with
  | cons h r=>
   rename_i d ds
   show Z76 G H L _ (if f p.1=f k then some d else Zpd (f k) (kvs.map λp=>f p.1) ds)
   by_cases e:p.1=k
   ·rw[Zcv e,if_pos (congrArg f e)]
    exact .inl ⟨_,_,rfl,rfl,h⟩
   ·rw[Zct e,if_neg λz=>e (hf _ _ z)]
    exact ih _ r
theorem Z8v(hf:∀a b,f a=f b->a=b)(k:κ)(kvs:List (κ×V)):(kvs.any λkv=>decide (kv.1=k))=Zsq (f k) (kvs.map λp=>f p.1):=by
 unfold Zsq
 rw[List.any_map]
 refine congrArg (List.any kvs) (funext λp=>?_)
 exact decide_eq_decide.mpr ⟨congrArg f,hf _ _⟩
theorem Ybz(k:κ)(v:V)(kvs:List (κ×V)):(kvs.map (λkv=>if kv.1=k then(kv.1,v)else kv)).map (λp=>f p.1)=kvs.map λp=>f p.1:=by
 rw[Qq]
 refine Qe λp _=>?_
 show f (if p.1=k then(p.1,v)else p).1=f p.1
 by_cases c:p.1=k
 ·rw[if_pos c]
 ·rw[if_neg c]
theorem Ybs(hf:∀a b,f a=f b->a=b)(k:κ){v:V}{x:Xa}(hv:Da G H L v x)(kvs:List (κ×V)):∀ds,Das G H L (kvs.map (·.2)) ds->Das G H L ((kvs.map (λkv=>if kv.1=k then(kv.1,v)else kv)).map (·.2)) (Z5u (f k) x (kvs.map λp=>f p.1) ds):=by
 induction kvs with
 | nil=>intro ds h;cases h;exact .nil
 | cons p kvs ih=>
  intro ds h
  cases h with
  | cons h r=>
   rename_i d ds
   refine .cons ?_ (ih _ r)
   show Da G H L (if p.1=k then(p.1,v)else p).2 (if f p.1=f k then x else d)
   by_cases e:p.1=k
   ·rw[if_pos e,if_pos (congrArg f e)];exact hv
   ·rw[if_neg e,if_neg λz=>e (hf _ _ z)];exact h
theorem Zi3(hf:∀a b,f a=f b->a=b)(k:κ)(v:V)(kvs:List (κ×V)):(putK kvs k v).map (λp=>f p.1)=Zmp (f k) (kvs.map λp=>f p.1):=by
 unfold putK Zmp
 rw[Z8v hf]
 cases c:Zsq (f k) (kvs.map λp=>f p.1)with
 | true=>rw[if_pos rfl,if_pos rfl,Ybz]
 | false=>rw[if_neg Xw,if_neg Xw,Qy];rfl
theorem Zjr(hf:∀a b,f a=f b->a=b)(k:κ){v:V}{x:Xa}(hv:Da G H L v x)(kvs:List (κ×V)){ds:List Xa}(h:Das G H L (kvs.map (·.2)) ds):Das G H L ((putK kvs k v).map (·.2)) (Znk (f k) x (kvs.map λp=>f p.1) ds):=by
 unfold putK Znk
 rw[Z8v hf]
 cases c:Zsq (f k) (kvs.map λp=>f p.1)with
 | true=>rw[if_pos rfl,if_pos rfl];exact Ybs hf k hv kvs _ h
 | false=>rw[if_neg Xw,if_neg Xw,Qy];exact h.snoc hv
end
theorem Zhs:∀a b:Key,(Sum.inl a:KY)=Sum.inl b->a=b:=λ_ _ h=>Sum.inl.inj h
theorem Zif:∀a b:List Key,(Uw a:KY)=Uw b->a=b:=λ_ _ h=>Uw.inj h
section
variable {H:Hp}{L:Addr->Prop}{y:V}{e:Xa}
theorem Da.key1{k:Key}(h:Da G H L y e)(hk:Zea e=some k):y=kV k:=by
 cases h with
 | int i=>cases hk;rfl
 | str x=>cases hk;rfl
 | exc _ _ _=>unfold exD Zea at hk;cases hk
 | fn _=>unfold fnD Zea at hk;cases hk
 | dic _ _ _ _=>unfold dcD Zea at hk;cases hk
 | _=>cases hk
theorem Das.keys{xs:List V}{ds:List Xa}(h:Das G H L xs ds):∀ks,Zgg ds=some ks->xs=ks.map kV :=
 Das.ind (Q:=λxs ds=>∀ks,Zgg ds=some ks->xs=ks.map kV) (λks h=>by cases h;rfl) (fun{x xs d ds} h _ ih ks hk=>by
  rw[Zgg]at hk
  obtain⟨k,h1,hk⟩:=bs hk
  obtain⟨ks',h2,hk⟩:=bs hk
  cases hk
  rw[h.key1 h1,ih _ h2];rfl) h
theorem Da.keyT{ks:List Key}(h:Da G H L y e)(hk:Zf7 e=some (.inr ks)):∃b,y= .ref b∧H b=some (.tup (ks.map kV)):=by
 cases h with
 | tup e1 r=>
  rw[Zf7]at hk
  obtain⟨ks',h1,h2⟩:=XQ.mp hk
  cases h2
  exact⟨_,rfl,by rw[←r.keys _ h1];exact e1⟩
 | exc _ _ _=>unfold exD Zf7 Zea at hk;cases hk
 | fn _=>unfold fnD Zf7 Zea at hk;cases hk
 | dic _ _ _ _=>unfold dcD Zf7 Zea at hk;cases hk
 | _=>cases hk
theorem Da.keyS{k:Key}(h:Da G H L y e)(hk:Zf7 e=some (.inl k)):y=kV k:=by
 refine h.key1 ?_
 unfold Zf7 at hk
 split at hk
 ·obtain⟨_,_,z⟩:=XQ.mp hk;cases z
 ·obtain⟨_,h1,z⟩:=XQ.mp hk;cases z;exact h1
noncomputable def Zeg(k:KY):List (Xa×Xa)->Option Xa
 | []=>none
 | p :: r=>if Zf7 p.1=some k then some p.2 else Zeg k r
theorem Zc1(k:KY)(ks:List KY):∀ds,Zeg k ((ks.map kyD).zip ds)=Zpd k ks ds:=by
 induction ks with
 | nil=>intro ds;rfl
 | cons j ks ih=>
  intro ds
  cases ds with
  | nil=>rfl
  | cons d ds=>
   show(if Zf7 (kyD j)=some k then some d else Zeg k ((ks.map kyD).zip ds))=if j=k then some d else Zpd k ks ds
   rw[Z1h,ih]
   by_cases c:j=k
   ·rw[if_pos c,if_pos (congrArg some c)]
   ·rw[if_neg c,if_neg λz=>c (QB z)]
theorem Da.dget{x:V}{t:Bool}{kvs:List (Xa×Xa)}{k:KY}(h:Da G H L x (.dict ((.none,.bool t) :: kvs)))(hy:Da G H L y e)(hk:Zf7 e=some k)(ht:Zlv k=t):∃a o,x= .ref a∧IsD H a∧DGet H a y o∧Z76 G H L o (Zeg k kvs):=by
 generalize ed:Xa.dict ((.none,.bool t) :: kvs)=d at h
 cases h with
 | dic l r dk q=>
  rename_i a o t' ks xs ds
  unfold dcD at ed
  injection ed with ed
  injection ed with e1 e2
  injection e1 with _ e1
  injection e1 with e1
  subst e1 e2
  rw[Zc1]
  cases o with
  | lst _=>exact dk.elim
  | dK kv=>
   obtain⟨rfl,rfl,rfl⟩:=dk
   cases k with
   | inr _=>cases ht
   | inl k=>exact⟨a,_,rfl,.inl ⟨kv,r⟩,.inl ⟨kv,k,r,hy.keyS hk,rfl⟩,look Zhs k kv _ q⟩
  | dT kv=>
   obtain⟨rfl,rfl,rfl⟩:=dk
   cases k with
   | inl _=>cases ht
   | inr k=>
    obtain⟨b,hb,eb⟩:=hy.keyT hk
    exact⟨a,_,rfl,.inr ⟨kv,r⟩,.inr ⟨kv,k,b,r,hb,eb,rfl⟩,look Zif k kv _ q⟩
 | exc _ _ _=>unfold exD at ed;cases ed
 | fn _=>unfold fnD at ed;cases ed
 | _=>cases ed
end
variable {G:Xd}
section
variable {X:Cx}{io:List Nat}{p c p' c':Bool}{a b e f o:Expr}{ma mb m mi mo me mf:MEt}{pos pp apos cpos px:Pos}{i:Nat}{x:Str}
theorem hu1{n:Nat}(h:n+64<Vu):n+1<Vu:=Nat.lt_of_le_of_lt (Nat.add_le_add_left (by decide:1≤64) _) h
noncomputable def Zlb:Xa->Xa->Option OT:=λd e=>match d with
 | .dict ((.none,.bool t) :: kvs)=>(Zf7 e).bind λk=>if Zlv k=t then(Zeg k kvs).map OT.fz else none
 | _=>none
noncomputable def Z44:Xa->Xa->(OT->Prop)->Prop:=λd e k=>∃r,Zlb d e=some r∧k r
noncomputable def Yad:R2:=λx y H Q=>∃a v,x= .ref a∧DGet H a y (some v)∧Q v H
theorem Zrm:ByO Zlb Z44:=λ_ _ r _ h hk=>⟨r,h,hk⟩
theorem Z09:P2 G Yad Z44:=λH L x y d e k Q hx hy h kk=>by
 obtain⟨r,h,hk⟩:=h
 unfold Zlb at h
 split at h
 case h_2=>cases h
 rename_i t kvs
 obtain⟨ky,h1,h⟩:=bs h
 by_cases ht:Zlv ky=t
 ·rw[if_pos ht]at h
  obtain⟨a,o,rfl,_,g,R⟩:=hx.dget hy h1 ht
  obtain⟨z,hz,rfl⟩:=XQ.mp h
  rcases R with⟨v,d,rfl,hd,q⟩|⟨_,hd⟩
  ·rw[hz]at hd
   cases hd
   exact⟨a,v,rfl,g,kk H v (.fz z) [] (Same.refl _) (.fz (q.wide λa l _=>⟨.inl l,λm=>nomatch m⟩)) .nil (λa m=>nomatch m) hk⟩
  ·rw[hz]at hd;cases hd
 ·rw[if_neg ht]at h;cases h
theorem Zqn(hu:X.A.units+64<Vu)(ha:ME X io p c a ma)(hb:ME X io p' c' b mb)(hc:p'=true∨c=true:=by first|exact QF rfl|exact Qp rfl)(hs:Z6l b):ME X io (p&&p') (c&&c') (.Subscript a b pos) (Z0d Z44 ma mb):=by
 obtain⟨_,A,sa⟩:=ha
 obtain⟨_,B,sb⟩:=hb
 exact⟨_,Zxq (hu1 hu) A B hs,Z7d (r:=Yad) Z09 sa sb hc⟩
theorem Rel.ownDc{C:MC G}{H:Hp}{σ:St}{δ:Zd}{fp:Fp}{ex:Addr->Prop}{t:Bool}{ks:List KY}{ds:List Xa}(R:Rel C io H σ δ fp ex)(hi:δ[i]? =some (some (.dc t ks ds))) :
  ∃a' ob xs,σ[i]? =some (some (.ref a'))∧H a'=some (MuO.ho ob)∧ob.dic t ks xs∧Das G H (Lf C fp ex) xs ds∧fp i=[a']:=by
 obtain⟨v,e,o⟩:=R.own i _ hi
 generalize hf:fp i=as at o
 cases o with
 | dc h k r=>exact⟨_,_,_,e,h,k,r,rfl⟩
theorem Rel.topD{C:MC G}{H:Hp}{σ:St}{δ:Zd}{fp:Fp}{ex:Addr->Prop}{t:Bool}{ks ks':List KY}{ds ds':List Xa}{a':Addr}{ob ob':MuO}{ys:List V}(R:Rel C io H σ δ fp ex)(hi:δ[i]? =some (some (.dc t ks ds)))(hv:σ[i]? =some (some (.ref a')))
  (hf:fp i=[a']) (hx:H a'=some ob.ho) (dk:ob'.dic t ks' ys) (o:Das G H (Lf C fp ex) ys ds') :
  Rel C io (upd H a' ob'.ho) σ (δ.set i (some (.dc t ks' ds'))) (fpu fp i [a']) ex∧Stp false H δ fp (upd H a' ob'.ho) (δ.set i (some (.dc t ks' ds'))) (fpu fp i [a']):=by
 have hm:a'∈fp i:=by rw[hf];exact .head _
 have ne':∀a,¬Foot fp a->a≠a':=λa h z=>h ⟨i,by rw[z];exact hm⟩
 have kp:∀b o,H b=some o->b≠a'->upd H a' ob'.ho b=some o:=λb o e n=>by rw[Zi n];exact e
 have sub:∀a,a∈[a']->a∈fp i:=λa m=>by rw[hf];exact m
 have o':Das G (upd H a' ob'.ho) (Lf C (fpu fp i [a']) (exu ex [])) ys ds':=by
  have f0:∀a,¬Foot fp a->¬Foot (fpu fp i [a']) a:=λa h z=>by
   rcases z.of_u with z|⟨j,_,z⟩
   ·exact h ⟨i,sub a z⟩
   ·exact h ⟨j,z⟩
  refine o.frame (λa zs l q=>⟨⟨f0 a l.1,λz=>l.2.1 (Jg.mp z),l.2.2⟩,?_⟩) λa zs q=>kp a _ q λz=>ImO.nm q (z▸hx)
  rcases q with q|⟨u,q⟩
  ·exact .inl (kp a _ q (ne' a l.1))
  ·exact .inr ⟨u,kp a _ q (ne' a l.1)⟩
 have key:=R.change (new:=[]) (as':=[a']) (t':=.dc t ks' ds') (H':=upd H a' ob'.ho) hi hv (λb o e nb=>kp b o e λz=>nb (by rw[z];exact hm)) (λb e=>by
   by_cases q:b=a'
   ·subst q;rw[Zm]at e;cases e
   ·rwa[Zi q]at e) (.dc Zm dk o') (Zas a') (λa m=>.inl (sub a m)) (λa m=>nomatch m)
 exact⟨key.1.drop λa z=>.inl z,key.2⟩
noncomputable def Z1o(i:Nat)(m mi:MEt):MSt:=λD δ=>m δ λr δ1=>match δ1[i]? with
 | some (some (.dc t ks ds))=>mi δ1 λn _=>match Zf7 n.data with
  | some k=>(Zlv k=t∧ks.length<Xr)∧D.nx (δ1.set i (some (.dc t (Zmp k ks) (Znk k r.data ks ds))))
  | none=>False
 | _=>False
theorem Zve(i:Nat)(hu:X.A.units+64<Vu)(he:ME X io p true e m)(hj:ME X io true c a mi)(hN:X.N[i]? =some x:=by rfl)(hv:Vis X.env.scope x:=by first|exact QF rfl|exact Qp (QF rfl)|exact Qp (Qp rfl))(hd:(x==("__debug__" : Str))=false:=by decide)
  (hcd:(x==("__classdict__" : Str))=false:=by decide)
  (hs:Bx e (some (.Subscript (.Name x px) a pp)) pos.line X.env=pure false:=by rfl):MS X io (.Assign [.Subscript (.Name x px) a pp] e pos) (Z1o i m mi):=by
 obtain⟨_,A,s⟩:=he
 obtain⟨_,B,sj⟩:=hj
 refine⟨_,Zx4 (hu1 hu) (pv i hN hv hd hcd) B A hs,λC H σ δ fp ex D D' R h E=>?_⟩
 refine s C H σ δ fp ex _ _ R h λH1 v r δ1 fp1 new r1 h1=>?_
 have R1:=r1.base
 have q:=(r1.da R).wide (L':=Lf C fp1 ex) λa l _=>l rfl
 split at h1
 case h_2=>exact h1.elim
 rename_i t ks ds hi
 obtain⟨a',_,_,hv0,_⟩:=R1.ownDc hi
 refine⟨_,hv0,?_⟩
 refine sj.pureAfter R1 h1 λH2 w n R2 s2 q2 h2=>?_
 split at h2
 case h_2=>exact h2.elim
 rename_i k hk
 obtain⟨⟨ht,hl⟩,h2⟩:=h2
 obtain⟨a2,ob,xs,hv2,hx,dk,o,hf⟩:=R2.ownDc hi
 rw[hv0]at hv2
 cases hv2
 have q':=q.same s2
 have kpp:Kp H1 fp1 H2 fp1:=⟨λb o e _=>s2 _ _ e,λz=>(nomatch z),λa z=>.inl z,s2.al⟩
 cases ob with
 | lst _=>exact dk.elim
 | dK kv=>
  obtain⟨rfl,rfl,rfl⟩:=dk
  rw[Xe]at hl
  cases k with
  | inr _=>cases ht
  | inl k=>
   obtain⟨R3,S3⟩:=R2.topD (ob':=.dK (putK kv k v)) hi hv0 hf hx ⟨rfl,(Zi3 Zhs k v kv).symm,rfl⟩ (Zjr Zhs k q' kv o)
   exact⟨a',_,rfl,.inl ⟨kv,k,hx,q2.keyS hk,hl,rfl⟩,E.nx _ σ _ _ R3 (r1.stp.kp.trans (Kp.trans kpp S3.kp)) h2⟩
 | dT kv=>
  obtain⟨rfl,rfl,rfl⟩:=dk
  rw[Xe]at hl
  cases k with
  | inl _=>cases ht
  | inr k=>
   obtain⟨b',hb,eb⟩:=q2.keyT hk
   obtain⟨R3,S3⟩:=R2.topD (ob':=.dT (putK kv k v)) hi hv0 hf hx ⟨rfl,(Zi3 Zif k v kv).symm,rfl⟩ (Zjr Zif k q' kv o)
   exact⟨a',_,rfl,.inr ⟨kv,k,b',hx,hb,eb,hl,rfl⟩,E.nx _ σ _ _ R3 (r1.stp.kp.trans (Kp.trans kpp S3.kp)) h2⟩
noncomputable def Zgc(i:Nat)(e j:FE):FS:=wE e λr δ1=>match δ1[i]? with
 | some (some (.dc t ks ds))=>wE j (λn _=>match Zf7 n.data with
  | some k=>if Zlv k=t∧ks.length<Xr then .nx (δ1.set i (some (.dc t (Zmp k ks) (Znk k r.data ks ds))))else .bad
  | none=>.bad) δ1
 | _=>.bad
theorem Zt9{fa fb:FE}{st:Stmt}(h:MS X io st (Z1o i (o2 fa) (o2 fb))):MS X io st (oS (Zgc i fa fb)):=h.weak λD δ h=>by
 refine(Zhq h).imp λr δ' z=>?_
 split at z
 case h_2=>exact z.elim
 rename_i q;(try rw[q])
 refine(Zhq z).imp λn δ2 z=>?_
 split at z
 case h_2=>exact z.elim
 rename_i k q2;(try rw[q2])
 exact Zcs z
end
end L2
namespace L2
open PySem PySem.Spec PyProof.Rows PySem.W PySem.SeqAt
variable {G:Xd}
section
variable {prog:X4}{w:Qm}{A:Qn}{E:Xc->Xf->Prop}{s:Xf}
end
theorem Paired.at{α β:Type}{R:α->β->Prop}{as:List α}{bs:List β}(h:PySem.Paired R as bs):∀{i:Nat} {y:β},bs[i]? =some y->∃x,as[i]? =some x∧R x y:=by
 induction h with
 | nil=>intro i y z;cases z
 | cons h t ih=>
  intro i y z
  cases i with
  | zero=>cases z;exact⟨_,rfl,h⟩
  | succ i=>exact ih z
end L2
namespace L2
open PySem PySem.Spec PyProof.Rows PySem.W PySem.SeqAt
noncomputable def kdP:Xa->Option (Int×Int):=λd=>match d with| .tuple [.int a,.int b]=>some (a,b)|_=>none
noncomputable def ltP:Int×Int->Int×Int->Bool:=λa b=>if a.1=b.1 then(if a.2=b.2 then false else decide (a.2<b.2))else decide (a.1<b.1)
theorem Zbk{d:Xa}{k:Int×Int}(h:kdP d=some k):d= .tuple [.int k.1,.int k.2]:=by
 unfold kdP at h
 split at h
 case h_2=>cases h
 cases h;rfl
theorem Zhr{h:Heap}{k:Int×Int}{u:Xc}{as:List Addr}(r:Reads h u (.tuple [.int k.1,.int k.2]) as):∃(t:Addr) (o:Obj) (n:Nat) (t1 t2:Tok),u= .ref t∧h.get? t=some o∧o.cls= .type "tuple"∧o.data= .seq #[.int k.1 t1,.int k.2 t2] n:=by
 cases r with
 | @tuple t o vs n xs as e c d q=>
  obtain⟨l,hl⟩:∃l,l=vs.toList:=⟨_,rfl⟩
  rw[←hl]at q
  cases q with
  | cons r1 q=>
   cases q with
   | cons r2 q=>
    cases q
    cases r1
    cases r2
    rename_i t1 t2
    have:vs=#[.int k.1 t1,.int k.2 t2]:=Array.toList_inj.mp hl.symm
    subst this
    exact⟨t,o,n,t1,t2,rfl,e,c,d⟩
theorem Z1d:Ybd kdP ltP:=by
 refine⟨λd k h=>by rw[Zbk h];exact(Zg1 [k.1,k.2]).1,tuples' true,λprog w A E s vs ds as Q h2 r hk q=>?_,λprog w A E s u v d e as bs k m C hu r1 r2 h1 h2 h=>?_⟩
 ·have key:∃fs:List Xc,KatTups s.heap vs fs∧fs.length=vs.length∧∀v∈fs,∃i t,v= .int i t:=by
   clear h2 q
   induction ds generalizing vs as with
   | nil=>cases r;exact⟨[],trivial,rfl,λ_ m=>nomatch m⟩
   | cons d ds ih=>
    cases r with
    | cons r q=>
     obtain⟨fs,t,l,z⟩:=ih _ _ q λd m=>hk d (.tail _ m)
     obtain⟨k,hk⟩:=hk d (.head _)
     rw[Zbk hk]at r
     obtain⟨t',o,n,t1,t2,rfl,e,c,hd⟩:=Zhr r
     refine⟨.int k.1 t1 :: fs,KatTups.cons e c hd rfl t,congrArg Nat.succ l,λv hv=>?_⟩
     rcases Xn.mp hv with rfl|hv
     ·exact⟨_,_,rfl⟩
     ·exact z v hv
  obtain⟨fs,t,l,z⟩:=key
  exact kat_kind (T:=.type "int") t (by omega) (λv hv=>by obtain⟨i,t,rfl⟩:=z v hv;exact(show Looks _ _ (pure (Value.type "int")) _ from .now)) rfl q
 ·rw[Zbk h1]at r1
  rw[Zbk h2]at r2
  obtain⟨t1,o1,n1,x1,y1,rfl,g1,c1,d1⟩:=Zhr r1
  obtain⟨t2,o2,n2,x2,y2,rfl,g2,c2,d2⟩:=Zhr r2
  refine kat_lt g1 d1 g2 d2 (kat_cons ?_)
  refine EqAt.int_int _ _ _ _ prog w _ _ ?_
  unfold ltP at h
  by_cases c:k.1=m.1
  ·rw[if_pos c]at h
   rw[beq_iff_eq.mpr c]
   refine kat_yes (kat_cons ?_)
   refine EqAt.int_int _ _ _ _ prog w _ _ ?_
   by_cases c':k.2=m.2
   ·rw[if_pos c']at h
    rw[beq_iff_eq.mpr c']
    exact kat_yes (kat_nil h)
   ·rw[if_neg c']at h
    rw[beq_eq_false_iff_ne.mpr c']
    exact kat_no (kat_one _ _ (Zsv h))
  ·rw[if_neg c]at h
   rw[beq_eq_false_iff_ne.mpr c]
   exact kat_no (oneLt_int h)
end L2
namespace L2
open PySem PySem.Spec PyProof.Rows
noncomputable def Z9x(o:Option (Option OT))(δ:Zd):Option (OT×Zd):=match o with|some (some (.fz d))=>some (.fz d,δ)|_=>none
theorem Zva(d:Xa)(δ:Zd):Z9x (some (some (.fz d))) δ=some (.fz d,δ):=rfl
noncomputable def Z2q(o:Option (Option OT))(δ:Zd):Option (OT×Zd):=match o with|some (some t)=>some (.fz t.data,δ)|_=>none
theorem Zvp(t:OT)(δ:Zd):Z2q (some (some t)) δ=some (.fz t.data,δ):=rfl
theorem Zuw(i:Nat)(δ:Zd):Zc i δ=Z9x δ[i]? δ:=rfl
theorem Zxy(i:Nat)(δ:Zd):Wx i δ=Z2q δ[i]? δ:=rfl
theorem Z63(d:Xa)(δ:Zd):fC d δ=some (.fz d,δ):=rfl
theorem Zrl(g:Xa->Xa->Option Xa)(a b:FE)(δ:Zd):Zb g a b δ=(a δ).bind λp=>(b p.2).bind λq=>(g p.1.data q.1.data).bind λd=>some (.fz d,q.2):=rfl
theorem Zv9(g:Xa->Xa->Option OT)(a b:FE)(δ:Zd):Z2 g a b δ=(a δ).bind λp=>(b p.2).bind λq=>(g p.1.data q.1.data).bind λd=>some (d,q.2):=rfl
theorem Z2k(g:Xa->Option Xa)(a:FE)(δ:Zd):fUn g a δ=(a δ).bind λp=>(g p.1.data).bind λd=>some (.fz d,p.2):=rfl
noncomputable def onB{α:Type}(d:Xa)(x y:Option α):Option α:=match d with| .bool true=>x| .bool false=>y|_=>none
theorem Z6p{α:Type}(x y:Option α):onB (.bool true) x y=x:=rfl
theorem Ya2{α:Type}(x y:Option α):onB (.bool false) x y=y:=rfl
theorem Zvo(a b:FE)(δ:Zd):Zyj a b δ=(a δ).bind λp=>onB p.1.data (b p.2) (some (.fz (.bool false),p.2)):=by
 unfold Zyj onB
 cases a δ with
 | none=>rfl
 | some p=>first|rfl|(simp only[Xh];done)|(simp only[Xh];generalize p.1.data=d;cases d<;>first|rfl|(rename_i b;cases b<;>rfl))
theorem Z8g(a b:FE)(δ:Zd):fOr a b δ=(a δ).bind λp=>onB p.1.data (some (.fz (.bool true),p.2)) (b p.2):=by
 unfold fOr onB
 cases a δ with
 | none=>rfl
 | some p=>first|rfl|(simp only[Xh];done)|(simp only[Xh];generalize p.1.data=d;cases d<;>first|rfl|(rename_i b;cases b<;>rfl))
theorem Z98(t:FT)(a b:FE)(δ:Zd):fIf t a b δ=(t δ).bind λp=>if p.1=true then a p.2 else b p.2:=rfl
noncomputable def Z48(t:OT)(δ:Zd):Option (Bool×Zd):=match t with| .fz (.bool b)=>some (b,δ)|_=>none
theorem Zzl(b:Bool)(δ:Zd):Z48 (.fz (.bool b)) δ=some (b,δ):=rfl
theorem Z55(e:FE)(δ:Zd):tV e δ=(e δ).bind λp=>Z48 p.1 p.2:=by
 unfold tV Z48
 cases e δ with
 | none=>rfl
 | some p=>rfl
theorem Z1j(t:FT)(δ:Zd):tNo t δ=(t δ).bind λp=>some (!p.1,p.2):=rfl
theorem Zs6(t u:FT)(δ:Zd):tAn t u δ=(t δ).bind λp=>if p.1=true then u p.2 else some (false,p.2):=rfl
theorem Z17(t u:FT)(δ:Zd):tO t u δ=(t δ).bind λp=>if p.1=true then some (true,p.2)else u p.2:=rfl
theorem Z69(e:FE)(δ:Zd):tD e δ=(e δ).bind λp=>(Zrj p.1.data).bind λb=>some (b,p.2):=rfl
theorem Z67(δ:Zd):Zfd δ=some (true,δ):=rfl
theorem Z7y(δ:Zd):Zt δ=some ([],δ):=rfl
theorem Zrn(e:FE)(a:FA)(δ:Zd):Ze e a δ=(e δ).bind λp=>(a p.2).bind λq=>some (p.1 :: q.1,q.2):=rfl
theorem Zxu(a:FA)(δ:Zd):Zd1 a δ=(a δ).bind λp=>if p.1.length≤Xr then some (.fz (.tuple (OT.datas p.1)),p.2)else none:=rfl
theorem Zm4(a:FA)(δ:Zd):Zcu a δ=(a δ).bind λp=>if p.1.length≤Xr then some (.nd p.1,p.2)else none:=rfl
theorem Z4e(a:FA)(δ:Zd):Z5t a δ=(a δ).bind λp=>if p.1.length≤Xr then some (.tp p.1,p.2)else none:=rfl
theorem Zql(e:FE)(δ:Zd):Zom e δ=(e δ).bind λp=>if We p.1.data=true then some (.fz p.1.data,p.2)else none:=rfl
theorem Zno(e:FE)(δ:Zd):Zgt e δ=(e δ).bind λp=>if Zae p.1=true then some (p.1,p.2)else none:=rfl
noncomputable def okO(x:RF)(δ:Zd):Option (OT×Zd):=match x with| .ok r=>some (r,δ)|_=>none
theorem Zyw(r:OT)(δ:Zd):okO (.ok r) δ=some (r,δ):=rfl
theorem Zfz(F:FD)(a:FA)(δ:Zd):Yi F a δ=(a δ).bind λp=>okO (F (OT.datas p.1)) p.2:=by
 unfold Yi okO
 cases a δ with
 | none=>rfl
 | some p=>rfl
noncomputable def atO{α:Type}(o:Option (Option OT))(k:OT->Option α):Option α:=match o with|some (some t)=>k t|_=>none
theorem Yak{α:Type}(t:OT)(k:OT->Option α):atO (some (some t)) k=k t:=rfl
theorem Zy8(i:Nat)(F:FIO)(a:FA)(δ:Zd):Ztn i F a δ=atO δ[i]? λ_=>(a δ).bind λp=>atO p.2[i]? λt=>(F t (OT.datas p.1)).bind λq=>some (q.1,p.2.set i (some q.2)):=by
 unfold Ztn
 generalize δ[i]? =o
 rcases o with _|_|t
 ·rfl
 ·rfl
 ·show(a δ).bind _=(a δ).bind _
  cases a δ with
  | none=>rfl
  | some p=>
   show(λo:Option (Option OT)=>(match o with|some (some t)=>(F t (OT.datas p.1)).bind λq=>some (q.1,p.2.set i (some q.2))|_=>none)) p.2[i]? =atO p.2[i]? _
   generalize p.2[i]? =o
   rcases o with _|_|t<;>rfl
theorem Zwl(g:List Xa->Option Xa)(a:FA)(δ:Zd):Zbp g a δ=(a δ).bind λp=>(g (OT.datas p.1)).bind λd=>some (.fz d,p.2):=rfl
theorem Z3i(g:List Xa->Option OT)(a:FA)(δ:Zd):fBl g a δ=(a δ).bind λp=>(g (OT.datas p.1)).bind λd=>some (d,p.2):=rfl
theorem Zwx(T:String)(e:FE)(δ:Zd):Zld T e δ=(e δ).bind λp=>if Zd7 p.1.data=true then none else some (.fz (.bool (Zk9 T p.1.data)),p.2):=rfl
theorem Yb1(δ:Zd):oN δ=some (none,δ):=rfl
noncomputable def asInt{α:Type}(d:Xa)(k:Int->Option α):Option α:=match d with| .int i=>k i|_=>none
theorem Zos{α:Type}(i:Int)(k:Int->Option α):asInt (.int i) k=k i:=rfl
noncomputable def Zmb{α:Type}(d:Xa)(k:List Xa->Option α):Option α:=match d with| .list i=>k i|_=>none
theorem Zms{α:Type}(i:List Xa)(k:List Xa->Option α):Zmb (.list i) k=k i:=rfl
noncomputable def Zuq{α:Type}(d:Xa)(k:List Xa->Option α):Option α:=match d with| .tuple i=>k i|_=>none
theorem Z49{α:Type}(i:List Xa)(k:List Xa->Option α):Zuq (.tuple i) k=k i:=rfl
theorem Z45(e:FE)(δ:Zd):oI e δ=(e δ).bind λp=>asInt p.1.data λi=>some (some i,p.2):=by
 unfold oI asInt
 cases e δ with
 | none=>rfl
 | some p=>rfl
theorem Z0a(e:FE)(lo hi:FO)(δ:Zd):fSl e lo hi δ=(e δ).bind λp=>(lo p.2).bind λq=>(hi q.2).bind λr=>Zmb p.1.data λds=>some (.nd ((cutD ds q.1 r.1).map OT.fz),r.2):=by
 unfold fSl Zmb;rfl
theorem Zvr(e:FE)(δ:Zd):Jw e δ=(e δ).bind λp=>Zmb p.1.data λds=>some (ds,p.2):=by
 unfold Jw Zmb;rfl
theorem Z8a(e:FE)(δ:Zd):iTp e δ=(e δ).bind λp=>Zuq p.1.data λds=>some (ds,p.2):=by
 unfold iTp Zuq;rfl
noncomputable def as1{α:Type}(ds:List Xa)(k:Int->Option α):Option α:=match ds with|[.int i]=>k i|_=>none
theorem Z73{α:Type}(i:Int)(k:Int->Option α):as1 [.int i] k=k i:=rfl
noncomputable def as2{α:Type}(ds:List Xa)(k:Int->Int->Option α):Option α:=match ds with|[.int i,.int j]=>k i j|_=>none
theorem Z64{α:Type}(i j:Int)(k:Int->Int->Option α):as2 [.int i,.int j] k=k i j:=rfl
theorem Z2l(a:FA)(δ:Zd):iRa a δ=(a δ).bind λp=>as1 (OT.datas p.1) λj=>if rOk j=true then some (Zd0 0 j.toNat,p.2)else none:=by
 unfold iRa as1;rfl
theorem Zzf(a:FA)(δ:Zd):iRb a δ=(a δ).bind λp=>as2 (OT.datas p.1) λi j=>if(rOk i&&rOk j)=true then some (Zd0 i (j-i).toNat,p.2)else none:=by
 unfold iRb as2;rfl
theorem Z66(a:FA)(δ:Zd):Z9g a δ=(a δ).bind λp=>as1 (OT.datas p.1) λj=>if rOk j=true∧j.toNat≤Xr then some (.nd ((Zd0 0 j.toNat).map OT.fz),p.2)else none:=by
 unfold Z9g as1;rfl
theorem Zt0(a b:FE)(δ:Zd):Z31 a b δ=(a δ).bind λp=>(b p.2).bind λq=>asInt q.1.data λk=>if rOk k=true∧k.toNat≤Xr then some (.nd (Qi k.toNat (.fz p.1.data)),p.2)else none:=by
 unfold Z31 asInt;rfl
noncomputable def Z5g{α:Type}(ds:List Xa)(k:List Xa->List Xa->Option α):Option α:=match ds with|[.list i,.list j]=>k i j|_=>none
theorem Z9u{α:Type}(i j:List Xa)(k:List Xa->List Xa->Option α):Z5g [.list i,.list j] k=k i j:=rfl
theorem Z4f(a:FA)(δ:Zd):Z3h a δ=(a δ).bind λp=>Z5g (OT.datas p.1) λas bs=>some (Zkh as bs,p.2):=by
 unfold Z3h Z5g;rfl
theorem Z8p(i:Nat)(d:Xa)(δ:Zd):gNm i d δ=some (δ.set i (some (.fz d))):=rfl
theorem Zot(i:Nat)(d:Xa)(δ:Zd):Zuk i d δ=if We d=true then some (δ.set i (some (.fz d)))else none:=rfl
theorem Z9r(δ:Zd):gNl [] δ=some δ:=rfl
theorem Ztq(g:FG)(gs:FGs)(d:Xa)(r:List Xa)(δ:Zd):gCn g gs (d :: r) δ=(g d δ).bind (gs r):=rfl
theorem Zz0(n:Nat)(gs:FGs)(ds:List Xa)(δ:Zd):gTp n gs (.tuple ds) δ=if ds.length=n then gs ds δ else none:=rfl
theorem Z9h(n:Nat)(gs:FGs)(ds:List Xa)(δ:Zd):gLs n gs (.list ds) δ=if ds.length=n then gs ds δ else none:=rfl
noncomputable def RS.thn(r:RS)(g:FS):RS:=match r with| .nx δ=>g δ|r=>r
theorem Z13(δ:Zd)(g:FS):(RS.nx δ).thn g=g δ:=rfl
theorem Z2d(r:OT)(δ:Zd)(g:FS):(RS.rt r δ).thn g= .rt r δ:=rfl
theorem Z8b(δ:Zd)(g:FS):(RS.bk δ).thn g= .bk δ:=rfl
theorem Z97(δ:Zd)(g:FS):(RS.ct δ).thn g= .ct δ:=rfl
theorem Z8w(c:Str)(δ:Zd)(g:FS):(RS.ex c δ).thn g= .ex c δ:=rfl
theorem Zoi(f g:FS)(δ:Zd):Zr f g δ=(f δ).thn g:=rfl
theorem Z8u(δ:Zd):fNx δ= .nx δ:=rfl
theorem Z5d(δ:Zd):Ybr δ= .bk δ:=rfl
theorem Z40(δ:Zd):Yb6 δ= .ct δ:=rfl
theorem Z0z(c:Str)(δ:Zd):Zbh c δ= .ex c δ:=rfl
theorem Z4l(δ:Zd):Z7u δ= .rt (.fz .none) δ:=rfl
noncomputable def onO{α:Type}(o:Option (α×Zd))(k:α->Zd->RS):RS:=match o with|some (r,δ')=>k r δ'|none=>.bad
theorem Z9{α:Type}(r:α)(δ:Zd)(k:α->Zd->RS):onO (some (r,δ)) k=k r δ:=rfl
theorem Zb7(e:FE)(k:OT->Zd->RS)(δ:Zd):wE e k δ=onO (e δ) k:=by
 unfold wE onO
 cases e δ<;>rfl
noncomputable def onF(x:RF)(δ:Zd)(k:OT->Zd->RS):RS:=match x with| .ok r=>k r δ| .exn c=>.ex c δ| .bad=>.bad
theorem Z21(r:OT)(δ:Zd)(k:OT->Zd->RS):onF (.ok r) δ k=k r δ:=rfl
theorem Z9i(c:Str)(δ:Zd)(k:OT->Zd->RS):onF (.exn c) δ k= .ex c δ:=rfl
theorem Z5b(F:FD)(a:FA)(k:OT->Zd->RS)(δ:Zd):wX F a k δ=onO (a δ) λrs δ1=>onF (F (OT.datas rs)) δ1 k:=by
 unfold wX onO onF
 cases a δ with
 | none=>rfl
 | some p=>rfl
theorem Znl(t:FT)(u w:FS)(δ:Zd):W5 t u w δ=onO (t δ) λb δ'=>if b=true then u δ' else w δ':=by
 unfold W5 onO
 cases t δ<;>rfl
theorem Zuu(it:FI)(g:FG)(u:FS)(δ:Zd):Jy it g u δ=onO (it δ) λds δ1=>forLoop g u ds δ1:=by
 unfold Jy onO
 cases it δ<;>rfl
theorem Z4a(r:OT)(δ:Zd):Zqh r δ= .nx δ:=rfl
theorem Zwd(r:OT)(δ:Zd):Jh r δ= .rt r δ:=rfl
theorem Z4s(r:OT)(δ:Zd):Z7t r δ=if We r.data=true then .rt (.fz r.data) δ else .bad:=rfl
theorem Zxa(i:Nat)(r:OT)(δ:Zd):Ws i r δ= .nx (δ.set i (some (.fz r.data))):=rfl
theorem Z4g(i:Nat)(r:OT)(δ:Zd):Z6a i r δ=if We r.data=true then .nx (δ.set i (some (.fz r.data)))else .bad:=rfl
theorem Zpz(i:Nat)(r:OT)(δ:Zd):Wf i r δ= .nx (δ.set i (some r)):=rfl
noncomputable def onD(o:Option Zd):RS:=match o with|some δ=>.nx δ|none=>.bad
theorem Z37(δ:Zd):onD (some δ)= .nx δ:=rfl
theorem Z6f(g:FG)(r:OT)(δ:Zd):Ybg g r δ=onD (g r.data δ):=rfl
noncomputable def onT(o:Option (Option OT))(k:OT->RS):RS:=match o with|some (some t)=>k t|_=>.bad
theorem Zyy(t:OT)(k:OT->RS):onT (some (some t)) k=k t:=rfl
theorem Zf5(i:Nat)(δ:Zd):Zaw i δ=onT δ[i]? λt=>.rt t (δ.set i none):=rfl
theorem Zj9(i:Nat)(u:FS)(δ:Zd):Zb1 i u δ=onT δ[i]? λt=>u (δ.set i (some (.fz t.data))):=rfl
noncomputable def onN(o:Option (Option OT))(k:List OT->RS):RS:=match o with|some (some (.nd ts))=>k ts|_=>.bad
theorem Zib(t:List OT)(k:List OT->RS):onN (some (some (.nd t))) k=k t:=rfl
theorem Zep(i:Nat)(e:FE)(δ:Zd):Zw i e δ=onN δ[i]? λ_=>onO (e δ) λr δ1=>onN δ1[i]? λts=>if ts.length<Xr then .nx (δ1.set i (some (.nd (ts ++ [.fz r.data]))))else .bad:=by
 unfold Zw
 generalize δ[i]? =o
 rcases o with _|_|(_|_|_|_)
 ·rfl
 ·rfl
 ·rfl
 ·show wE e _ δ=onO (e δ) _
  rw[Zb7]
  congr 1
 ·rfl
 ·rfl
theorem Zhv(i:Nat)(e:FE)(δ:Zd):Je i e δ=onN δ[i]? λ_=>onO (e δ) λr δ1=>onN δ1[i]? λts=>if ts.length<Xr then .nx (δ1.set i (some (.nd (ts ++ [r]))))else .bad:=by
 unfold Je
 generalize δ[i]? =o
 rcases o with _|_|(_|_|_|_)
 ·rfl
 ·rfl
 ·rfl
 ·show wE e _ δ=onO (e δ) _
  rw[Zb7]
  congr 1
 ·rfl
 ·rfl
noncomputable def onI(d:Xa)(k:Int->RS):RS:=match d with| .int i=>k i|_=>.bad
theorem Yau(i:Int)(k:Int->RS):onI (.int i) k=k i:=rfl
noncomputable def onX(o:Option Nat)(k:Nat->RS):RS:=match o with|some i=>k i|_=>.bad
theorem Yaz(i:Nat)(k:Nat->RS):onX (some i) k=k i:=rfl
theorem Zw1(i:Nat)(e j:FE)(δ:Zd):Zyk i e j δ=onO (e δ) λr δ1=>onN δ1[i]? λts=>onO (j δ1) λn _=>onI n.data λk=>onX (ixN ts.length k) λj=>.nx (δ1.set i (some (.nd (ts.set j (.fz r.data))))):=by
 unfold Zyk
 rw[Zb7]
 congr 1
 funext r δ1
 generalize δ1[i]? =o
 rcases o with _|_|(_|_|_|_)
 ·rfl
 ·rfl
 ·rfl
 ·show wE j _ δ1=onO (j δ1) _
  rw[Zb7]
  congr 1
  funext n δ2
  generalize n.data=d
  cases d<;>try rfl
  show(match ixN _ _ with|some j=>_|none=>_)=onX (ixN _ _) _
  generalize ixN _ _=x
  cases x<;>rfl
 ·rfl
 ·rfl
noncomputable def onU(o:Option OT)(k:List OT->RS):RS:=match o with|some (.nd ts)=>k ts|_=>.bad
theorem Ybn(t:List OT)(k:List OT->RS):onU (some (.nd t)) k=k t:=rfl
noncomputable def onP(o:Option (Option OT))(k:List OT->RS):RS:=match o with|some (some (.tp ts))=>k ts|_=>.bad
theorem Ybm(t:List OT)(k:List OT->RS):onP (some (some (.tp t))) k=k t:=rfl
theorem Zz5(i c:Nat)(e:FE)(δ:Zd):Ztp i c e δ=onP δ[i]? λts=>onU ts[c]? λus=>onO (e δ) λr _=>if us.length<Xr then .nx (δ.set i (some (.tp (ts.set c (.nd (us ++ [.fz r.data]))))))else .bad:=by
 unfold Ztp
 generalize δ[i]? =o
 rcases o with _|_|(_|_|ts|_)
 ·rfl
 ·rfl
 ·rfl
 ·rfl
 ·show(match ts[c]? with|some (.nd us)=>wE e _ δ|_=>_)=onU ts[c]? _
  generalize ts[c]? =o
  rcases o with _|(_|_|_|_)
  ·rfl
  ·rfl
  ·show wE e _ δ=onO (e δ) _
   rw[Zb7]
  ·rfl
  ·rfl
 ·rfl
noncomputable def on2(ds:List Xa)(k:Xa->Xa->RS):RS:=match ds with|[d,e]=>k d e|_=>.bad
theorem Yb7(d e:Xa)(k:Xa->Xa->RS):on2 [d,e] k=k d e:=rfl
theorem Z54(i j:Nat)(a:FA)(δ:Zd):Yaa i j a δ=onO (a δ) λrs δ1=>on2 (OT.datas rs) λd e=>.nx ((δ1.set i (some (.fz d))).set j (some (.fz e))):=by
 unfold Yaa onO on2
 cases a δ<;>rfl
theorem Zhw{np n:Nat}{S:FS}{ds:List Xa}(h:ds.length=np):J1 np n S ds=(S (Jv n ds)).told:=by
 unfold J1;rw[if_pos h]
theorem Zvs(δ:Zd):(RS.nx δ).told= .ok (.fz .none):=rfl
theorem Znz(r:OT)(δ:Zd):(RS.rt r δ).told= .ok r:=rfl
theorem Z5p(c:Str)(δ:Zd):(RS.ex c δ).told= .exn c:=rfl
theorem Z8h(i j:Int):Jq (.int i) (.int j)=some (.int (i+j)):=rfl
theorem Yao(i j:Int):gSb (.int i) (.int j)=some (.int (i-j)):=rfl
theorem Ybf(i j:Int):gLt (.int i) (.int j)=some (.bool (decide (i<j))):=rfl
theorem Yba(i j:Int):gLe (.int i) (.int j)=some (.bool (decide (i≤j))):=rfl
theorem Z5m(i j:Int):gGt (.int i) (.int j)=some (.bool (decide (j<i))):=rfl
theorem Z5z(i j:Int):gGe (.int i) (.int j)=some (.bool (decide (j≤i))):=rfl
theorem Ztj{i j:Int}(h:Zyc i j=true):Zdz (.int i) (.int j)=some (.int (i*j)):=by
 unfold Zdz i2c;dsimp only;rw[if_pos h]
theorem Zuc{i j:Int}(h:Z3l i j=true):W8 (.int i) (.int j)=some (.int (i.fdiv j)):=by
 unfold W8 i2c;dsimp only;rw[if_pos h]
theorem Z1r{i j:Int}(h:j≠0):J2 (.int i) (.int j)=some (.int (i.fmod j)):=by
 unfold J2 i2c Z79;dsimp only;rw[if_pos (decide_eq_true h)]
theorem Z2f{x y:Int}(h:x.natAbs<2^64):Zyc x y=true:=Zfi.mpr (.of_left (intBits_le_64 (by omega) (by omega)))
theorem Zz7{x y:Int}(h:y.natAbs<2^64):Zyc x y=true:=Zfi.mpr (.of_right (intBits_le_64 (by omega) (by omega)))
theorem Zuh{n:Nat}{i j:Int}(h0:j≠0)(h:Bt n j)(hn:n≤9000:=by decide):Z3l i j=true:=by
 obtain⟨h1,h2⟩:=DivOk.of (i:=i) h0 h hn
 unfold Z3l
 rw[decide_eq_true h1,decide_eq_true h2];rfl
theorem Z5r(i j:Int):gEq (.int i) (.int j)=some (.bool (decide (i=j))):=by
 show some (PyData.bool (i==j))=_
 rw[show(i==j)=decide (i=j)from rfl]
theorem Z77(i j:Int):gNe (.int i) (.int j)=some (.bool (!decide (i=j))):=by
 show some (PyData.bool (!(i==j)))=_
 rw[show(i==j)=decide (i=j)from rfl]
theorem Yax(d:Xa):gIs d .none=some (.bool (Zbr d)):=rfl
theorem Z4m(d:Xa):Zz6 d .none=some (.bool (!Zbr d)):=rfl
theorem Z7b(ds:List Xa)(i:Int):gIx (.list ds) (.int i)=(atI ds i).bind λx=>some (.fz x):=rfl
theorem Yav(ds:List Xa)(i:Int):gIx (.tuple ds) (.int i)=(atI ds i).bind λx=>some (.fz x):=rfl
theorem Z1t(ds:List Xa):Zfu [.list ds]=some (.int ds.length):=rfl
theorem Z89(ds:List Xa):Zfu [.tuple ds]=some (.int ds.length):=rfl
theorem Z0j(i:Int):Zyl [.int i]=some (.int (i.natAbs:Int)):=by
 show some (XM (if i<0 then -i else i))=_
 congr 2;split<;>omega
theorem Z87(i j:Int):Zun [.int i,.int j]=some (.int (if j>i then j else i)):=rfl
theorem Z9a(i j:Int):Zua [.int i,.int j]=some (.int (if j<i then j else i)):=rfl
theorem Z9k(i:Int):Z84 [.int i]=some (.int i):=rfl
theorem Z9d(b:Bool):Z84 [.bool b]=some (.int (if b then 1 else 0)):=rfl
theorem Ztt(ds:List Xa):Zks [.list ds]=some (.nd (ds.map OT.fz)):=rfl
theorem Z7i(ds:List Xa):Zks [.tuple ds]=some (.nd (ds.map OT.fz)):=rfl
theorem Z3t{ds es:List Xa}(h:ds.length+es.length≤Xr):Zpf (.list ds) (.list es)=some (.nd ((ds ++ es).map OT.fz)):=by
 unfold Zpf;dsimp only;rw[if_pos h]
theorem Z1n(i:Int):Zsw (.int i)=some (.int (-i)):=rfl
theorem Z8i(b:Bool):Z4o (.bool b)=some (.bool (!b)):=rfl
theorem Z8x(b:Bool):Zrj (.bool b)=some b:=rfl
theorem Z9p(i:Int):Zrj (.int i)=some (i !=0):=rfl
theorem Z8k:Zrj .none=some false:=rfl
theorem Z9z(ds:List Xa):Zrj (.list ds)=some (!ds.isEmpty):=rfl
theorem Zl9{gg:FG}{u:FS}{ds:List Xa}{δ:Zd}(I:Nat->Zd->Prop)(h0:I 0 δ)
  (turn:∀(i:Nat) (d:Xa) (δ:Zd),ds[i]? =some d->I i δ->∃δ1 δ2,gg d δ=some δ1∧(u δ1= .nx δ2∨u δ1= .ct δ2)∧I (i+1) δ2):∃δ',forLoop gg u ds δ= .nx δ'∧I ds.length δ':=by
 induction ds generalizing δ I with
 | nil=>exact⟨δ,rfl,h0⟩
 | cons d ds ih=>
  obtain⟨δ1,δ2,e1,e2,h1⟩:=turn 0 d δ rfl h0
  obtain⟨δ',e3,h3⟩:=ih (δ:=δ2) (λi δ=>I (i+1) δ) h1 λi d' δ hd hi=>turn (i+1) d' δ (by simpa using hd) hi
  refine⟨δ',?_,h3⟩
  rw[Zab,e1]
  dsimp only
  rcases e2 with e2|e2<;>rw[e2]<;>exact e3
noncomputable def Goes(r:RS)(Q:Zd->Prop):Prop:=∃δ,(r= .nx δ∨r= .ct δ)∧Q δ
theorem Goes.nx{δ:Zd}{Q:Zd->Prop}(h:Q δ):Goes (.nx δ) Q:=⟨δ,.inl rfl,h⟩
theorem Goes.ct{δ:Zd}{Q:Zd->Prop}(h:Q δ):Goes (.ct δ) Q:=⟨δ,.inr rfl,h⟩
theorem Zmj{α:Type}{me:FE}{cs:Zd}(mk:α->Xa)(f:α->OT):∀(xs:List α) (z:Option OT),(∀x∈xs,me (some (.fz (mk x)) :: cs)=some (f x,some (.fz (mk x)) :: cs)) ->
  ∃z',compLoop (gNm 0) Zfd me (xs.map mk) (z :: cs)=some (xs.map f,z' :: cs)
 | [],z,_=>⟨z,rfl⟩
 | x :: xs,z,h=>by
  obtain⟨z',e⟩:=Zmj mk f xs (some (.fz (mk x))) λy hy=>h y (.tail _ hy)
  refine⟨z',?_⟩
  rw[Qg,compLoop]
  show(some (some (OT.fz (mk x)) :: cs)).bind _=_
  rw[Xh]
  show(some (true,some (OT.fz (mk x)) :: cs)).bind _=_
  rw[Xh,if_pos rfl,h x (.head _),Xh,e];rfl
theorem Zjn{α:Type}{t:FT}{me:FE}{cs:Zd}(mk:α->Xa)(p:α->Bool)(f:α->OT):∀(xs:List α) (z:Option OT),(∀x∈xs,t (some (.fz (mk x)) :: cs)=some (p x,some (.fz (mk x)) :: cs))->(∀x∈xs,p x=true->me (some (.fz (mk x)) :: cs)=some (f x,some (.fz (mk x)) :: cs)) ->
  ∃z',compLoop (gNm 0) t me (xs.map mk) (z :: cs)=some ((xs.filter p).map f,z' :: cs)
 | [],z,_,_=>⟨z,rfl⟩
 | x :: xs,z,ht,h=>by
  obtain⟨z',e⟩:=Zjn mk p f xs (some (.fz (mk x))) (λy hy=>ht y (.tail _ hy)) λy hy=>h y (.tail _ hy)
  refine⟨z',?_⟩
  rw[Qg,compLoop]
  show(some (some (OT.fz (mk x)) :: cs)).bind _=_
  rw[Xh,ht x (.head _),Xh]
  dsimp only
  by_cases hp:p x=true
  ·rw[if_pos hp,h x (.head _) hp,Xh,e,List.filter_cons_of_pos hp];rfl
  ·rw[if_neg hp,e,List.filter_cons_of_neg hp]
theorem Zbf{α:Type}{caps:List Nat}{it:FI}{me:FE}{cs δ δ1:Zd}(xs:List α)(mk:α->Xa)(f:α->OT)(hi:it δ=some (xs.map mk,δ1))(hz:xs.length≤Xr)(hb:blk 1 caps δ1=none :: cs)
  (h:∀x∈xs,me (some (.fz (mk x)) :: cs)=some (f x,some (.fz (mk x)) :: cs)):Wa 1 caps it (gNm 0) Zfd me δ=some (.nd (xs.map f),δ1):=by
 unfold Wa
 rw[hi,Xh]
 dsimp only
 rw[if_pos (by rw[Xe];exact hz),hb]
 obtain⟨z',e⟩:=Zmj (me:=me) (cs:=cs) mk f xs none h
 rw[e];rfl
theorem Zmi{α:Type}{caps:List Nat}{it:FI}{t:FT}{me:FE}{cs δ δ1:Zd}(xs:List α)(mk:α->Xa)(p:α->Bool)(f:α->OT)(hi:it δ=some (xs.map mk,δ1))(hz:xs.length≤Xr)(hb:blk 1 caps δ1=none :: cs)
  (ht:∀x∈xs,t (some (.fz (mk x)) :: cs)=some (p x,some (.fz (mk x)) :: cs)) (h:∀x∈xs,p x=true->me (some (.fz (mk x)) :: cs)=some (f x,some (.fz (mk x)) :: cs)):Wa 1 caps it (gNm 0) t me δ=some (.nd ((xs.filter p).map f),δ1):=by
 unfold Wa
 rw[hi,Xh]
 dsimp only
 rw[if_pos (by rw[Xe];exact hz),hb]
 obtain⟨z',e⟩:=Zjn (t:=t) (me:=me) (cs:=cs) mk p f xs none ht h
 rw[e];rfl
theorem Ybq:(2≤Xr)=True:=by simp[Qh]
theorem Ybt:(1≤Xr)=True:=by simp[Qh]
theorem Yat:(0≤Xr)=True:=by simp
theorem Z50:(3≤Xr)=True:=by simp[Qh]
theorem Zj6{α:Type}(f:α->Xa)(xs:List α):(xs.map λx=>OT.fz (f x)).map OT.data=xs.map f:=by
 rw[Qq];exact Qe λx _=>OT.data_fz _
theorem Zup{α:Type}{j:Int}{x:α}(h0:0≤j)(h1:j≤1000000):(if rOk j=true then some x else none)=some x:=if_pos (Zi9 (by omega) h1)
theorem Ztz{α:Type}{i j:Int}{x:α}(h0:0≤i)(h1:i≤1000000)(h2:0≤j)(h3:j≤1000000):(if(rOk i&&rOk j)=true then some x else none)=some x:=if_pos (by rw[Zi9 (by omega) h1,Zi9 (by omega) h3];rfl)
theorem Zo3{r:RS}{k:Nat}(h:k≤1000000):(if k<Xr then r else .bad)=r:=if_pos (by rw[Qh];omega)
noncomputable def EvV(e:FE)(δ:Zd)(d:Xa):Prop:=∃t,e δ=some (t,δ)∧t.data=d
noncomputable def EvA(a:FA)(δ:Zd)(ds:List Xa):Prop:=∃ts,a δ=some (ts,δ)∧OT.datas ts=ds
noncomputable def EvT(t:FT)(δ:Zd)(b:Bool):Prop:=t δ=some (b,δ)
noncomputable def Told(F:FD)(ds:List Xa)(d:Xa):Prop:=∃t,F ds= .ok t∧t.data=d
section
variable {e a b:FE}{as:FA}{δ δ':Zd}{x y d:Xa}{xs ds:List Xa}{i j:Nat}{p q:Bool}{t u:FT}{S S':FS}{r:RS}
theorem EvV.cast{e:FE}{δ:Zd}{x y:Xa}(h:EvV e δ x)(k:x=y):EvV e δ y:=k▸h
theorem Za(h:δ[i]? =some (some (.fz d)):=by rfl):EvV (Zc i) δ d:=⟨_,by rw[Zuw,h,Zva],OT.data_fz _⟩
theorem Zba{t:OT}(h:δ[i]? =some (some t))(hd:t.data=d):EvV (Wx i) δ d:=⟨_,by rw[Zxy,h,Zvp],by rw[OT.data_fz,hd]⟩
theorem Yt:EvV (fC d) δ d:=⟨_,rfl,OT.data_fz _⟩
theorem Zz{g:Xa->Xa->Option Xa}(ha:EvV a δ x)(hb:EvV b δ y)(h:g x y=some d):EvV (Zb g a b) δ d:=by
 obtain⟨_,e1,d1⟩:=ha
 obtain⟨_,e2,d2⟩:=hb
 exact⟨_,by rw[Zrl,e1,Xh,e2,Xh,d1,d2,h,Xh],OT.data_fz _⟩
theorem Zmo{g:Xa->Xa->Option OT}{o:OT}(ha:EvV a δ x)(hb:EvV b δ y)(h:g x y=some o)(hd:o.data=d):EvV (Z2 g a b) δ d:=by
 obtain⟨_,e1,d1⟩:=ha
 obtain⟨_,e2,d2⟩:=hb
 exact⟨_,by rw[Zv9,e1,Xh,e2,Xh,d1,d2,h,Xh],hd⟩
theorem Zh8(ha:EvV a δ x)(hb:EvV b δ y)(h:gIx x y=some (.fz d)):EvV (Z2 gIx a b) δ d:=Zmo ha hb h (OT.data_fz _)
theorem Zar{i j:Int}(ha:EvV a δ (.int i))(hb:EvV b δ (.int j)):EvV (Zb Jq a b) δ (.int (i+j)):=Zz ha hb rfl
theorem Zgi{i j:Int}(ha:EvV a δ (.int i))(hb:EvV b δ (.int j)):EvV (Zb gSb a b) δ (.int (i-j)):=Zz ha hb rfl
theorem Z3c{g:Xa->Option Xa}(ha:EvV a δ x)(h:g x=some d):EvV (fUn g a) δ d:=by
 obtain⟨_,e1,d1⟩:=ha
 exact⟨_,by rw[Z2k,e1,Xh,d1,h,Xh],OT.data_fz _⟩
theorem Zrg(ha:EvV a δ (.bool true))(hb:EvV b δ d):EvV (Zyj a b) δ d:=by
 obtain⟨_,e1,d1⟩:=ha
 obtain⟨_,e2,d2⟩:=hb
 exact⟨_,by rw[Zvo,e1,Xh,d1,Z6p,e2],d2⟩
theorem Z3s{T:String}(ha:EvV a δ x)(hf:Zd7 x=false:=by rfl):EvV (Zld T a) δ (.bool (Zk9 T x)):=by
 obtain⟨_,e1,d1⟩:=ha
 exact⟨_,by rw[Zwx,e1,Xh,d1,if_neg (by rw[hf];decide)],OT.data_fz _⟩
theorem Zo:EvA Zt δ []:=⟨_,rfl,Zc4⟩
theorem Zf(h:EvV e δ d)(k:EvA as δ ds):EvA (Ze e as) δ (d :: ds):=by
 obtain⟨_,e1,d1⟩:=h
 obtain⟨_,e2,d2⟩:=k
 exact⟨_,by rw[Zrn,e1,Xh,e2,Xh],by rw[Zcb,d1,d2]⟩
theorem W2{F:FD}(h:EvA as δ ds)(k:Told F ds d):EvV (Yi F as) δ d:=by
 obtain⟨_,e1,d1⟩:=h
 obtain⟨_,e2,d2⟩:=k
 exact⟨_,by rw[Zfz,e1,Xh,d1,e2,Zyw],d2⟩
theorem Zew{g:List Xa->Option Xa}(h:EvA as δ ds)(k:g ds=some d):EvV (Zbp g as) δ d:=by
 obtain⟨_,e1,d1⟩:=h
 exact⟨_,by rw[Zwl,e1,Xh,d1,k,Xh],OT.data_fz _⟩
theorem Z74{g:List Xa->Option OT}{o:OT}(h:EvA as δ ds)(k:g ds=some o)(hd:o.data=d):EvV (fBl g as) δ d:=by
 obtain⟨_,e1,d1⟩:=h
 exact⟨_,by rw[Z3i,e1,Xh,d1,k,Xh],hd⟩
theorem Zdb:∀ts:List OT,(OT.datas ts).length=ts.length
 | []=>by rw[Zc4];rfl
 | t :: ts=>by rw[Zcb,QX,QX,Zdb ts]
theorem datas_map:∀ts:List OT,OT.datas ts=ts.map OT.data
 | []=>Zc4
 | t :: ts=>by rw[Zcb,Qg,datas_map ts]
theorem Ze0(h:EvA as δ ds)(hl:ds.length≤1000):EvV (Zd1 as) δ (.tuple ds):=by
 obtain⟨ts,e1,d1⟩:=h
 have:=Zdb ts
 rw[d1]at this
 exact⟨_,by rw[Zxu,e1,Xh,if_pos (by rw[Qh];show ts.length≤_;omega)],by rw[OT.data_fz];exact congrArg _ d1⟩
theorem Zn2(h:EvA as δ ds)(hl:ds.length≤1000):EvV (Zcu as) δ (.list ds):=by
 obtain⟨ts,e1,d1⟩:=h
 have:=Zdb ts
 rw[d1]at this
 exact⟨_,by rw[Zm4,e1,Xh,if_pos (by rw[Qh];show ts.length≤_;omega)],by rw[OT.data_nd,←datas_map,d1]⟩
theorem Zgx{o:OT}{b:Bool}(h:o.data= .bool b):o= .fz (.bool b):=by
 cases o with
 | fz d=>rw[OT.data_fz]at h;rw[h]
 | nd ts=>rw[OT.data_nd]at h;cases h
 | tp ts=>rw[OT.data_tp]at h;cases h
 | dc _ _ _=>rw[OT.data_dc]at h;cases h
theorem Zbg(h:EvV e δ (.bool p)):EvT (tV e) δ p:=by
 obtain⟨_,e1,d1⟩:=h
 unfold EvT
 rw[Z55,e1,Xh,Zgx d1,Zzl]
theorem Ya0(h:EvV e δ d)(k:Zrj d=some p):EvT (tD e) δ p:=by
 obtain⟨_,e1,d1⟩:=h
 unfold EvT
 rw[Z69,e1,Xh,d1,k,Xh]
theorem Zgl(h:EvV e δ (.bool p)):EvT (tD e) δ p:=Ya0 h rfl
theorem Zd4(h:EvT t δ p):EvT (tNo t) δ (!p):=by
 unfold EvT at h⊢
 rw[Z1j,h,Xh]
theorem Zro(h:EvT t δ true)(k:EvT u δ p):EvT (tAn t u) δ p:=by
 unfold EvT at h k⊢
 rw[Zs6,h,Xh,if_pos rfl,k]
theorem Znp(h:EvT t δ false):EvT (tAn t u) δ false:=by
 unfold EvT at h⊢
 rw[Zs6,h,Xh,if_neg Xw]
theorem Zr8(h:EvT t δ false)(k:EvT u δ p):EvT (tO t u) δ p:=by
 unfold EvT at h k⊢
 rw[Z17,h,Xh,if_neg Xw,k]
theorem Z28(h:EvT t δ true):EvT (tO t u) δ true:=by
 unfold EvT at h⊢
 rw[Z17,h,Xh,if_pos rfl]
theorem Zu(h:S δ= .nx δ')(k:S' δ'=r):Zr S S' δ=r:=by rw[Zoi,h,Z13,k]
theorem Znm{o:OT}(h:S δ= .rt o δ'):Zr S S' δ= .rt o δ':=by rw[Zoi,h,Z2d]
theorem Y6(h:EvV e δ d):wE e (Ws i) δ= .nx (δ.set i (some (.fz d))):=by
 obtain⟨_,e1,d1⟩:=h
 rw[Zb7,e1,Z9,Zxa,d1]
theorem Zzp(h:EvV e δ d):∃o,wE e Jh δ= .rt o δ∧o.data=d:=by
 obtain⟨_,e1,d1⟩:=h
 exact⟨_,by rw[Zb7,e1,Z9,Zwd],d1⟩
theorem Zfm(h:EvT t δ true)(k:S δ=r):W5 t S S' δ=r:=by
 unfold EvT at h
 rw[Znl,h,Z9,if_pos rfl,k]
theorem Yj(h:EvT t δ false)(k:S' δ=r):W5 t S S' δ=r:=by
 unfold EvT at h
 rw[Znl,h,Z9,if_neg (by decide),k]
theorem Yaq{F:FD}{k:OT->Zd->RS}(h:EvA as δ ds)(hF:Told F ds d)(hk:∀o,o.data=d->k o δ=r):wX F as k δ=r:=by
 obtain⟨_,e1,d1⟩:=h
 obtain⟨o,e2,d2⟩:=hF
 rw[Z5b,e1,Z9,d1,e2,Z21,hk o d2]
noncomputable def Zlc(S:FS)(δ:Zd)(d:Xa):Prop:=∃o δ',S δ= .rt o δ'∧o.data=d
theorem J3(h:S δ= .nx δ')(k:Zlc S' δ' d):Zlc (Zr S S') δ d:=by
 obtain⟨o,δ2,e,hd⟩:=k
 exact⟨o,δ2,Zu h e,hd⟩
theorem Zr5(k:Zlc S δ d):Zlc (Zr S S') δ d:=by
 obtain⟨o,δ2,e,hd⟩:=k
 exact⟨o,δ2,Znm e,hd⟩
theorem Zcl(h:EvV e δ d):Zlc (wE e Jh) δ d:=by
 obtain⟨o,e1,hd⟩:=Zzp h
 exact⟨o,δ,e1,hd⟩
theorem Zxw(h:EvT t δ true)(k:Zlc S δ d):Zlc (W5 t S S') δ d:=by
 obtain⟨o,δ2,e,hd⟩:=k
 exact⟨o,δ2,Zfm h e,hd⟩
theorem W0{np n:Nat}(hl:xs.length=np)(k:Zlc S (Jv n xs) d):Told (J1 np n S) xs d:=by
 obtain⟨o,δ2,e,hd⟩:=k
 exact⟨o,by rw[Zhw hl,e,Znz],hd⟩
noncomputable def EvO(o:FO)(δ:Zd)(l:Option Int):Prop:=o δ=some (l,δ)
theorem Ybp:EvO oN δ none:=rfl
theorem Z4p{i:Int}(h:EvV e δ (.int i)):EvO (oI e) δ (some i):=by
 obtain⟨_,e1,d1⟩:=h
 unfold EvO
 rw[Z45,e1,Xh,d1,Zos]
theorem Z0x{lo hi:FO}{l h:Option Int}(he:EvV e δ (.list ds))(hl:EvO lo δ l)(hh:EvO hi δ h):EvV (fSl e lo hi) δ (.list (cutD ds l h)):=by
 obtain⟨_,e1,d1⟩:=he
 unfold EvO at hl hh
 exact⟨_,by rw[Z0a,e1,Xh,hl,Xh,hh,Xh,d1,Zms],by rw[OT.data_nd,OT.map_fz]⟩
theorem Zsr{es:List Xa}(ha:EvV a δ (.list ds))(hb:EvV b δ (.list es))(h:ds.length+es.length≤1000000):EvV (Z2 Zpf a b) δ (.list (ds ++ es)) :=
 Zmo ha hb (Z3t (by rw[Qh];omega)) (by rw[OT.data_nd,OT.map_fz])
noncomputable def EvI(it:FI)(δ:Zd)(ds:List Xa):Prop:=it δ=some (ds,δ)
theorem W4(h:EvV e δ (.list ds)):EvI (Jw e) δ ds:=by
 obtain⟨_,e1,d1⟩:=h
 unfold EvI
 rw[Zvr,e1,Xh,d1,Zms]
theorem Zfn{n:Nat}(h:EvA as δ [.int n])(hn:n≤1000000):EvI (iRa as) δ (Zd0 0 n):=by
 obtain⟨_,e1,d1⟩:=h
 unfold EvI
 rw[Z2l,e1,Xh,d1,Z73,Zup (by omega) (by omega),BK]
theorem Zo0{it:FI}{g:FG}(h:EvI it δ ds)(k:forLoop g S ds δ=r):Jy it g S δ=r:=by
 unfold EvI at h
 rw[Zuu,h,Z9,k]
theorem Zmq{α:Type}{caps:List Nat}{it:FI}{me:FE}{cs:Zd}(xs:List α)(mk f:α->Xa)(hi:EvI it δ (xs.map mk))(hz:xs.length≤1000000)(hb:blk 1 caps δ=none :: cs)(h:∀x∈xs,EvV me (some (.fz (mk x)) :: cs) (f x)):EvV (Wa 1 caps it (gNm 0) Zfd me) δ (.list (xs.map f)):=by
 have g:∀x,∃o:OT,x∈xs->me (some (.fz (mk x)) :: cs)=some (o,some (.fz (mk x)) :: cs)∧o.data=f x:=λx=>by
  by_cases c:x∈xs
  ·obtain⟨o,h1,h2⟩:=h x c
   exact⟨o,λ_=>⟨h1,h2⟩⟩
  ·exact⟨.fz .none,λz=>absurd z c⟩
 obtain⟨o,ho⟩:=Vp g
 unfold EvI at hi
 refine⟨_,Zbf (cs:=cs) xs mk o hi (by rw[Qh];omega) hb (λx hx=>(ho x hx).1),?_⟩
 rw[OT.data_nd,Qq]
 exact congrArg _ (Qe λx hx=>(ho x hx).2)
theorem Zgk{ts:List OT}(h:EvV e δ d)(hi:δ[i]? =some (some (.nd ts)))(hl:ts.length≤1000000):Zw i e δ= .nx (δ.set i (some (.nd (ts ++ [.fz d])))):=by
 obtain⟨_,e1,d1⟩:=h
 rw[Zep,hi,Zib,e1,Z9,hi,Zib,Zo3 hl,d1]
theorem Zca{o:OT}(h:e δ=some (o,δ)):wE e (Wf i) δ= .nx (δ.set i (some o)):=by rw[Zb7,h,Z9,Zpz]
theorem Z4c{o:OT}(h:δ[i]? =some (some o))(hd:o.data=d):Zlc (Zaw i) δ d:=⟨o,_,by rw[Zf5,h,Zyy],hd⟩
theorem Znd{o:OT}(h:δ[i]? =some (some o))(k:S (δ.set i (some (.fz o.data)))=r):Zb1 i S δ=r:=by rw[Zj9,h,Zyy,k]
theorem Zn9{np n:Nat}(hl:xs.length=np)(k:S (Jv n xs)= .nx δ'):Told (J1 np n S) xs .none:=⟨_,by rw[Zhw hl,k,Zvs],OT.data_fz _⟩
theorem Told.ok{F:FD}{b:Bool}(h:Told F ds (.bool b)):F ds= .ok (.fz (.bool b)):=by
 obtain⟨o,e1,d1⟩:=h
 rw[e1,Zgx d1]
theorem Zja{o:OT}{i:Int}(h:o.data= .int i):o= .fz (.int i):=by
 cases o with
 | fz d=>rw[OT.data_fz]at h;rw[h]
 | nd ts=>rw[OT.data_nd]at h;cases h
 | tp ts=>rw[OT.data_tp]at h;cases h
 | dc _ _ _=>rw[OT.data_dc]at h;cases h
theorem Told.int{F:FD}{i:Int}(h:Told F ds (.int i)):F ds= .ok (.fz (.int i)):=by
 obtain⟨o,e1,d1⟩:=h
 rw[e1,Zja d1]
theorem Zoc{o:OT}(h:o.data= .none):o= .fz .none:=by
 cases o with
 | fz d=>rw[OT.data_fz]at h;rw[h]
 | nd ts=>rw[OT.data_nd]at h;cases h
 | tp ts=>rw[OT.data_tp]at h;cases h
 | dc _ _ _=>rw[OT.data_dc]at h;cases h
theorem Told.of{F:FD}{o:OT}(h:F ds= .ok o)(hd:o.data=d):Told F ds d:=⟨o,h,hd⟩
end
section
variable {e a b:FE}{as:FA}{δ δ':Zd}{x y d:Xa}{xs ds:List Xa}{i j:Int}{k:Nat}{p q:Bool}{t u:FT}{S S':FS}{r:RS}{Q:Xa->Prop}
theorem W3(ha:EvV a δ (.int i))(hb:EvV b δ (.int j))(h:j≠0):EvV (Zb J2 a b) δ (.int (i.fmod j)):=Zz ha hb (Z1r h)
theorem Z24{i j:Int}(h:(decide (0<j)&&decide (j<18446744073709551616))=true):W8 (.int i) (.int j)=some (.int (i.fdiv j)):=by
 rw[XN,decide_eq_true_eq,decide_eq_true_eq]at h
 exact Zuc (Zuh (n:=64) (by omega) (Bt.of_lt (by omega) (by omega)))
theorem Zdn(ha:EvV a δ (.int i))(hb:EvV b δ (.int j))(h:(decide (0<j)&&decide (j<18446744073709551616))=true:=by decide):EvV (Zb W8 a b) δ (.int (i.fdiv j)):=Zz ha hb (Z24 h)
theorem Zda(ha:EvV a δ (.int i))(hb:EvV b δ (.int j))(h:i.natAbs<2^64:=by decide):EvV (Zb Zdz a b) δ (.int (i*j)):=Zz ha hb (Ztj (Z2f h))
theorem Zhh(ha:EvV a δ (.int i))(hb:EvV b δ (.int j))(h:j.natAbs<2^64:=by decide):EvV (Zb Zdz a b) δ (.int (i*j)):=Zz ha hb (Ztj (Zz7 h))
theorem Zrd(ha:EvV a δ (.int i))(hb:EvV b δ (.int j))(h:decide (i<j)=p):EvV (Zb gLt a b) δ (.bool p):=h▸Zz ha hb rfl
theorem Z1c(ha:EvV a δ (.int i))(hb:EvV b δ (.int j))(h:decide (j<i)=p):EvV (Zb gGt a b) δ (.bool p):=h▸Zz ha hb (Z5m _ _)
theorem Z2n(ha:EvV a δ (.int i))(hb:EvV b δ (.int j))(h:decide (j≤i)=p):EvV (Zb gGe a b) δ (.bool p):=h▸Zz ha hb (Z5z _ _)
theorem Zmv(ha:EvV a δ (.int i))(hb:EvV b δ (.int j))(h:decide (i=j)=p):EvV (Zb gEq a b) δ (.bool p):=h▸Zz ha hb (Z5r _ _)
theorem Zec(ha:EvV a δ (.int i))(hb:EvV b δ (.int j))(h:(!decide (i=j))=p):EvV (Zb gNe a b) δ (.bool p):=h▸Zz ha hb (Z77 _ _)
theorem Zsk(ha:EvV a δ (.int i)):EvV (fUn Zsw a) δ (.int (-i)):=Z3c ha (Z1n _)
theorem Zhd{ds:List Xa}(h:EvV e δ (.list ds)):EvV (Zbp Zfu (Ze e Zt)) δ (.int ds.length):=Zew (Zf h Zo) (Z1t ds)
theorem Zcf(ha:EvV a δ (.list ds))(hb:EvV b δ (.int i))(h:atI ds i=some d):EvV (Z2 gIx a b) δ d:=Zh8 ha hb (by rw[Z7b,h];rfl)
noncomputable def Zxm(S:FS)(δ:Zd)(Q:Xa->Prop):Prop:=∃d,Zlc S δ d∧Q d
theorem Zal(h:S δ= .nx δ')(k:Zxm S' δ' Q):Zxm (Zr S S') δ Q:=k.imp λ_ k=>⟨J3 h k.1,k.2⟩
theorem Z1z(h:EvV e δ d)(k:Q d):Zxm (wE e Jh) δ Q:=⟨d,Zcl h,k⟩
theorem Ybo{o:OT}(h:δ[k]? =some (some o))(hd:Q o.data):Zxm (Zaw k) δ Q:=⟨_,Z4c h rfl,hd⟩
theorem Z0o{np n:Nat}(hl:xs.length=np)(h:Zxm S (Jv n xs) Q):∃d,Told (J1 np n S) xs d∧Q d:=h.imp λ_ k=>⟨W0 hl k.1,k.2⟩
theorem Zjv{it:FI}{g:FG}(I:Nat->Zd->Prop)(hi:EvI it δ ds)(h0:I 0 δ)(turn:∀(i:Nat) (d:Xa) (δ:Zd),ds[i]? =some d->I i δ->∃δ1 δ2,g d δ=some δ1∧(S δ1= .nx δ2∨S δ1= .ct δ2)∧I (i+1) δ2)(k:∀δ',I ds.length δ'->Zxm S' δ' Q):Zxm (Zr (Jy it g S) S') δ Q:=by
 obtain⟨δ',e,h⟩:=Zl9 I h0 turn
 exact Zal (Zo0 hi e) (k δ' h)
theorem Zfa{it:FI}{g:FG}(I:Nat->Zd->Prop)(hi:EvI it δ ds)(h0:I 0 δ)(turn:∀(i:Nat) (d:Xa) (δ:Zd),ds[i]? =some d->I i δ->∃δ1 δ2,g d δ=some δ1∧(S δ1= .nx δ2∨S δ1= .ct δ2)∧I (i+1) δ2)(k:∀δ',I ds.length δ'->Zlc S' δ' d):Zlc (Zr (Jy it g S) S') δ d:=by
 obtain⟨δ',e,h⟩:=Zl9 I h0 turn
 exact J3 (Zo0 hi e) (k δ' h)
theorem Zav{it:FI}{g:FG}(I:Nat->Zd->Prop)(hi:EvI it δ ds)(h0:I 0 δ)(turn:∀(i:Nat) (d:Xa) (δ:Zd),ds[i]? =some d->I i δ->∃δ1 δ2,g d δ=some δ1∧(S δ1= .nx δ2∨S δ1= .ct δ2)∧I (i+1) δ2):∃δ',Jy it g S δ= .nx δ'∧I ds.length δ':=by
 obtain⟨δ',e,h⟩:=Zl9 I h0 turn
 exact⟨δ',Zo0 hi e,h⟩
theorem Z7o{m n:Nat}(h:EvA as δ [.int m,.int n])(hm:m≤1000000)(hn:n≤1000000):EvI (iRb as) δ (Zd0 m (n-m)):=by
 obtain⟨_,e1,d1⟩:=h
 unfold EvI
 rw[Zzf,e1,Xh,d1,Z64,Ztz (by omega) (by omega) (by omega) (by omega),show((n:Int)-(m:Int)).toNat=n-m by omega]
theorem Zdg:wE (Zcu Zt) (Wf k) δ= .nx (δ.set k (some (.nd []))):=Zca (by rw[Zm4];rfl)
theorem Znc{i:Int}(h:0<j):0≤i.fmod j:=by rw[Zjx h];exact Int.emod_nonneg _ (by omega)
theorem Zlf{i:Int}(h:0<j):i.fmod j<j:=by rw[Zjx h];exact Int.emod_lt_of_pos _ h
theorem Jl(i:Int){n:Nat}(h:0<n):∃m:Nat,i.fmod (n:Int)=m∧m<n:=by
 have h0:=Znc (i:=i) (j:=n) (by omega)
 have h1:=Zlf (i:=i) (j:=n) (by omega)
 exact⟨(i.fmod n).toNat,by omega,by omega⟩
theorem Zwn{o:OT}{ts ts0:List OT}(h:e δ=some (o,δ'))(h0:δ[k]? =some (some (.nd ts0)))(h1:δ'[k]? =some (some (.nd ts)))(hl:ts.length≤1000000):Zw k e δ= .nx (δ'.set k (some (.nd (ts ++ [.fz o.data])))):=by
 rw[Zep,h0,Zib,h,Z9,h1,Zib,Zo3 hl]
theorem Zw2{es:List Xa}(h:EvA as δ ds)(hz:Z2b ds=some es):EvI (Zlz as) δ es:=by
 obtain⟨_,e1,d1⟩:=h
 unfold EvI Zlz
 rw[e1,Xh,d1,hz,Xh]
theorem Zgp{T:String}(ha:EvV a δ x)(h:Zk9 T x=p)(hf:Zd7 x=false:=by rfl):EvV (Zld T a) δ (.bool p):=(Z3s ha hf).cast (by rw[h])
theorem Zm5{f g h:Int->Int->Bool}{c d:FE}{m n:Int}(ha:EvV a δ (.int i))(hb:EvV b δ (.int j))(hc:EvV c δ (.int m))(hd:EvV d δ (.int n)):EvV (Zdx f g h a b c d) δ (.bool (f i j&&(g j m&&h m n))):=by
 obtain⟨_,e1,d1⟩:=ha
 obtain⟨_,e2,d2⟩:=hb
 obtain⟨_,e3,d3⟩:=hc
 obtain⟨_,e4,d4⟩:=hd
 have io:∀i,intOf (.int i)=some i:=λ_=>rfl
 unfold EvV Zdx
 rw[e1,Xh,e2,Xh,d1,io,Xh,d2,io,Xh]
 cases f i j with
 | false=>exact⟨_,rfl,OT.data_fz _⟩
 | true=>
  rw[if_pos rfl,e3,Xh,d3,io,Xh]
  cases g j m with
  | false=>exact⟨_,rfl,OT.data_fz _⟩
  | true=>exact⟨_,by rw[if_pos rfl,e4,Xh,d4,io,Xh];rfl,OT.data_fz _⟩
theorem Zwg{a b:FE}{bs es:List Xa}{as:List Xa}(ha:EvV a δ (.list as))(hb:EvV b δ (.list bs))(hz:Zkh as bs=es):EvI (Zlz (Ze a (Ze b Zt))) δ es:=Zw2 (Zf ha (Zf hb Zo)) (congrArg some hz)
theorem Zqf{α:Type}{caps:List Nat}{it:FI}{me:FE}{t:FT}{cs:Zd}(xs:List α)(mk:α->Xa)(pr:α->Bool)(hi:EvI it δ (xs.map mk))(hz:xs.length≤1000000)(hb:blk 1 caps δ=none :: cs)(ht:∀x∈xs,EvT t (some (.fz (mk x)) :: cs) (pr x))(h:∀x∈xs,pr x=true->me (some (.fz (mk x)) :: cs)=some (.fz (mk x),some (.fz (mk x)) :: cs)):EvV (Wa 1 caps it (gNm 0) t me) δ (.list ((xs.filter pr).map mk)):=by
 unfold EvI at hi
 refine⟨_,Zmi (cs:=cs) xs mk pr (λx=>.fz (mk x)) hi (by rw[Qh];omega) hb (λx hx=>ht x hx) h,?_⟩
 rw[OT.data_nd,Qq]
 exact congrArg _ (Qe λx _=>OT.data_fz _)
theorem Told.none{F:FD}(h:Told F ds .none):F ds= .ok (.fz .none):=by
 obtain⟨o,e1,d1⟩:=h
 rw[e1,Zoc d1]
end
end L2
namespace My
open PySem L2 PySem.Spec
noncomputable def Jr:FS :=
 (Zr (wE (Zbp Zyl (Ze (Zc 0) Zt)) (Ws 0))
  (Zr (wE (Zbp Zyl (Ze (Zc 1) Zt)) (Ws 1))
  (Zr (Zev (tV (Zb gNe (Zc 1) (fC (.int 0)))) (Zr (wE (Zb J2 (Zc 0) (Zc 1)) (Ws 2))
  (Zr (wE (Zc 1) (Ws 0))
  (wE (Zc 2) (Ws 1)))))
  (wE (Zc 0) Jh))))
noncomputable def Wc:FD:=J1 2 3 Jr
noncomputable def Zdl:FS :=
 (Zr (wE (Yi Wc (Ze (Zc 0) (Ze (Zc 1) Zt))) (Ws 2))
  (Zr (W5 (tV (Zb gLt (Zc 1) (fC (.int 0))))
  (wE (fUn Zsw (Zc 2)) (Ws 2))
  fNx)
  (wE (Zd1 (Ze (Zb W8 (Zc 0) (Zc 2)) (Ze (Zb W8 (Zc 1) (Zc 2)) Zt))) Jh)))
noncomputable def Zdr:FD:=J1 2 3 Zdl
noncomputable def Zdu:FS :=
 (wE (Zyj (Zld "int" (Zc 0)) (fUn Z4o (Zld "bool" (Zc 0)))) Jh)
noncomputable def J8:FD:=J1 1 1 Zdu
noncomputable def Zc9:FS :=
 (Zr (W5 (tO (tNo (tD (Yi J8 (Ze (Zc 0) Zt)))) (tO (tNo (tD (Yi J8 (Ze (Zc 1) Zt)))) (tV (Zb gEq (Zc 1) (fC (.int 0))))))
  (Zbh "NoNumber")
  fNx)
  (wE (Yi Zdr (Ze (Zc 0) (Ze (Zc 1) Zt))) Jh))
noncomputable def Zl7:FD:=J1 2 2 Zc9
noncomputable def Zaj:FS :=
 (Zr (wE (fC (.int 1)) (Ws 1))
  (Zr (Jy (Jw (Zc 0)) (gNm 2)
  (wE (Zb Zdz (Zb W8 (Zc 1) (Yi Wc (Ze (Zc 1) (Ze (Z2 gIx (Zc 2) (fC (.int 1))) Zt)))) (Z2 gIx (Zc 2) (fC (.int 1)))) (Ws 1)))
  (wE (Zc 1) Jh)))
noncomputable def Zai:FD:=J1 1 3 Zaj
noncomputable def Zau:FS :=
 (Zr (wE (fC (.int 1)) (Ws 1))
  (Zr (Jy (Jw (Zc 0)) (gNm 2)
  (wE (Yi Zai (Ze (Z2 Zpf (Zcu (Ze (Zd1 (Ze (fC (.int 1)) (Ze (Zc 1) Zt))) Zt)) (Zc 2)) Zt)) (Ws 1)))
  (wE (Zc 1) Jh)))
noncomputable def Zhp:FD:=J1 1 3 Zau
noncomputable def Zcq:FS :=
 (wE (Wa 1 [0] (Jw (Zc 1)) (gNm 0) Zfd (Zb Zdz (Z2 gIx (Zc 0) (fC (.int 0))) (Zb W8 (Zc 1) (Z2 gIx (Zc 0) (fC (.int 1)))))) Jh)
noncomputable def Zco:FD:=J1 2 2 Zcq
noncomputable def Zby:FS :=
 (wE (Wa 1 [0] (Jw (Zc 1)) (gNm 0) Zfd (Yi Zco (Ze (Zc 1) (Ze (Zc 0) Zt)))) Jh)
noncomputable def Zka:FD:=J1 2 2 Zby
noncomputable def Zdd:FS :=
 (Zr (wE (Zcu Zt) (Wf 1))
  (Zr (Jy (iRa (Ze (Zc 0) Zt)) (gNm 2)
  (Jy (iRb (Ze (Zb Jq (Zc 2) (fC (.int 1))) (Ze (Zc 0) Zt))) (gNm 3)
  (Zw 1 (Zd1 (Ze (Zc 2) (Ze (Zc 3) Zt))))))
  (Zaw 1)))
noncomputable def Zo7:FD:=J1 1 4 Zdd
noncomputable def ptD(p:Nat×Nat):Xa:=.tuple [.int p.1,.int p.2]
end My
namespace My
open PySem L2 PySem.Spec
noncomputable def Ja:FS :=
 (Zr (W5 (tV (Zb gLt (Zc 1) (Zbp Zfu (Ze (Zc 0) Zt))))
  (wE (Z2 gIx (Zc 0) (Zc 1)) Jh)
  fNx)
  (wE (fC (.int 0)) Jh))
noncomputable def Yb:FD:=J1 2 2 Ja
noncomputable def Zc5:FS :=
 (Zr (W5 (tV (Zb gEq (Zb J2 (Zb W8 (Zc 0) (fC (.int 7))) (fC (.int 8))) (fC (.int 3))))
  (wE (Zb Jq (Zb Jq (Zc 2) (fC (.int 1))) (Zb J2 (Zb W8 (Zc 0) (fC (.int 56))) (Zb gSb (Zc 3) (Zc 2)))) Jh)
  fNx)
  (wE (Zb Jq (Zc 1) (Zb J2 (Zc 0) (Zb gSb (Zb Jq (Zc 2) (fC (.int 1))) (Zc 1)))) Jh))
noncomputable def Zn6:FD:=J1 4 4 Zc5
noncomputable def Zds:FS :=
 (Zr (wE (Zb J2 (Zb Zdz (Zb Jq (Zb Jq (Zb J2 (Zc 0) (fC (.int 2147483629))) (Zb Zdz (fC (.int 9973)) (Zc 1))) (fC (.int 5))) (fC (.int 48271))) (fC (.int 2147483647))) (Ws 2))
  (Zr (wE (Zb J2 (Zb Zdz (Zc 2) (Zc 2)) (fC (.int 2147483587))) (Ws 2))
  (wE (Zb W8 (Zb J2 (Zb Zdz (Zb Jq (Zc 2) (Zb Zdz (fC (.int 7919)) (Zc 1))) (fC (.int 16807))) (fC (.int 2147483563))) (fC (.int 8))) Jh)))
noncomputable def Zc3:FD:=J1 2 3 Zds
noncomputable def Za3:FS :=
 (Zr (wE (Zcu Zt) (Wf 2))
  (Zr (wE (Zc 0) (Ws 3))
  (Zr (Jy (iRa (Ze (Zc 1) Zt)) (gNm 4)
  (Zr (wE (Yi Zc3 (Ze (Zc 0) (Ze (Zc 4) Zt))) (Ws 5))
  (Zr (W5 (tV (Zb gGe (Zc 0) (Zb Zq9 (fC (.int 10)) (fC (.int 18)))))
  (wE (Zb J2 (Zc 3) (fC (.int 720720))) (Ws 5))
  fNx)
  (Zr (wE (Zb W8 (Zc 3) (fC (.int 720720))) (Ws 3))
  (Zw 2 (Zc 5))))))
  (Zaw 2))))
noncomputable def Zi0:FD:=J1 2 6 Za3
noncomputable def Wy(p:List Int):Xa:=.list (p.map XM)
theorem Zpo{p:List Int}{i:Int}(h0:0≤i)(h1:i<p.length):atI (p.map XM) i=some (.int (p.getD i.toNat 0)):=by
 rw[Zj0 h0,Xj,Xl (by omega)]
 simp[Xq,Xl (show i.toNat<p.length by omega)]
theorem Zbe{a b:FE}{δ:Zd}{p:List Int}{i:Int}(ha:EvV a δ (Wy p))(hb:EvV b δ (.int i))(h0:0≤i)(h1:i<p.length):EvV (Z2 gIx a b) δ (.int (p.getD i.toNat 0)):=Zcf ha hb (Zpo h0 h1)
theorem Zeh{a:FE}{δ:Zd}{p:List Int}(ha:EvV a δ (Wy p)):EvV (Zbp Zfu (Ze a Zt)) δ (.int p.length):=by
 have:=Zhd (ds:=p.map XM) ha
 rwa[Xe]at this
theorem Z68:Zq9 (.int 10) (.int 18)=some (.int 1000000000000000000):=rfl
theorem Zkw(ns:List Int){k:Int}(h0:0≤k):∃c,Yb [Wy ns,.int k]= .ok (.fz (.int c)):=by
 by_cases c:k<ns.length
 ·exact⟨_,Told.int<|W0 rfl<|Zr5 (Zxw (Zbg (Zrd Za (Zeh Za) (decide_eq_true c))) (Zcl (Zbe Za Za h0 c)))⟩
 ·exact⟨_,Told.int<|W0 rfl<|J3 (Yj (Zbg (Zrd Za (Zeh Za) (decide_eq_false c))) rfl) (Zcl Yt)⟩
theorem Zjq{i:Nat}{e:FE}{δ:Zd}{vs:List Int}{v:Int}(h:EvV e δ (.int v))(hi:δ[i]? =some (some (.nd (vs.map λv=>.fz (.int v)))))(hl:vs.length≤1000000):Zw i e δ= .nx (δ.set i (some (.nd ((vs ++ [v]).map λv=>.fz (.int v))))):=by
 rw[Zgk h hi (by rw[Xe];exact hl),Qy];rfl
theorem Zrs(vs:List Int):(OT.nd (vs.map λv=>OT.fz (.int v))).data=Wy vs:=by rw[OT.data_nd,Zj6];rfl
end My
namespace L2
open PySem PySem.Spec PyProof.Rows
variable {G:Xd}
section
variable {X:Cx}{io:List Nat}{p c:Bool}{e a b:Expr}{es:List Expr}{m mj:MEt}{pos apos cpos px sp kp:Pos}{i:Nat}{x:Str}{fa fb:FE}{st:Stmt}
noncomputable def Zir(i:Nat)(mj m:MEt):MSt:=λD δ=>match δ[i]? with
 | some (some (.nd ts))=>mj δ λn _=>match n.data with
  | .int k=>match ixN ts.length k with
   | some j=>match ts[j]? with
    | some (.nd us)=>m δ λr _=>us.length<Xr∧D.nx (δ.set i (some (.nd (ts.set j (.nd (us ++ [.fz r.data]))))))
    | _=>False
   | none=>False
  | _=>False
 | _=>False
theorem Zik(i:Nat)(hj:ME X io true c a mj)(he:ME X io true true e m)(hPa:Zdo a:=by exact λ_ _=>rfl)(hN:X.N[i]? =some x:=by rfl)(hv:Vis X.env.scope x:=by first|exact QF rfl|exact Qp (QF rfl)|exact Qp (Qp rfl))(hd:(x==("__debug__" : Str))=false:=by decide)
  (hcd:(x==("__classdict__" : Str))=false:=by decide)
  (hbase:Vh (.Subscript (.Name x px) a sp) "append" X.env (eval (.Subscript (.Name x px) a sp) X.env)=eval (.Subscript (.Name x px) a sp) X.env:=by rfl)
  (hfew:((Bf cpos (Xv [e] X.env)).all (λx=>!x.1)&&(backToKw cpos (U5 [] X.env)).all (λx=>x.1.isSome)
   &&decide ([e].length+([]:List V7).length+(if([]:List V7).isEmpty then 0 else 1)<30))=true:=by rfl)
  (hline:(apos.endLine==cpos.line)=true:=by rfl) (hs:Xv [e] X.env=(false,eval e X.env) :: Xv [] X.env:=by rfl) (hplain:(Bf cpos (Xv [] X.env)).any (·.1)=false:=by rfl)
  (hsw:Bx (.Call (.Attribute (.Subscript (.Name x px) a sp) "append" apos) [e] [] cpos) none pos.line X.env=pure false:=by rfl) :
  MS X io (.Expr (.Call (.Attribute (.Subscript (.Name x px) a sp) "append" apos) [e] [] cpos) pos) (Zir i mj m):=by
 obtain⟨_,A,s⟩:=he
 obtain⟨_,B,sj⟩:=hj
 refine⟨_,Zbq (Zqd Bv PySem.F.slot_list_append PySem.F.type_list_append Za6 (Zwm (Zje rfl) (pv i hN hv hd hcd) B hPa) (Zac A Zdi hs) hbase hfew hline hs hplain) hsw,λC H σ δ fp ex D D' R h E=>?_⟩
 unfold Zir at h
 split at h
 case h_2=>exact h.elim
 rename_i ts hi
 obtain⟨a',_,_,hv0,_⟩:=R.ownNd hi
 refine⟨_,hv0,?_⟩
 refine sj.pureAfter R h λH2 w n R2 s2 q2 h2=>?_
 obtain⟨k,rfl,h2⟩:=q2.intInv h2
 split at h2
 case h_2=>exact h2.elim
 rename_i j hj
 split at h2
 case h_2=>exact h2.elim
 rename_i us hus
 obtain⟨a2,xs2,bs2,hv2,hx2,o2,hf2⟩:=R2.ownNd hi
 rw[hv0]at hv2
 cases hv2
 obtain⟨xr,cr,hxr,orow,_⟩:=o2.get hus
 obtain⟨b',ws0,rfl,hb0⟩:∃b' ws0,xr=V.ref b'∧H2 b'=some (.lst ws0):=by
  cases orow with
  | nd h r=>exact⟨_,_,rfl,h⟩
 refine⟨a',xs2,k,V.ref b',rfl,rfl,.inl (.inl hx2),?_,?_⟩
 ·unfold atI
  rw[o2.length,hj]
  exact hxr
 refine⟨.inl ⟨rfl,ws0,.inl (.inl hb0)⟩,?_⟩
 refine s.pureAfter R2 h2 λH3 v r R3 s3 q h3=>?_
 obtain⟨a3,xs3,bs3,hv3,hx3,o3,hf3⟩:=R3.ownNd hi
 rw[hv0]at hv3
 cases hv3
 have exs:xs3=xs2:=by
  have:=s3 _ _ hx2
  rw[hx3]at this
  cases this;rfl
 subst exs
 obtain⟨xr3,cr3,hxr3,orow3,hsub3⟩:=o3.get hus
 rw[hxr]at hxr3
 cases hxr3
 have nd3:=R3.nd i
 rw[hf3]at nd3
 have hn3:=Qk.mp nd3
 cases orow3 with
 | nd hb r3=>
  rename_i ws3 bs4
  have hbm:b'∈bs3:=hsub3.subset (.head _)
  have hbf:b'∈fp i:=by rw[hf3];exact .tail _ hbm
  have hLb:¬Lf C fp ex b':=λl=>l.1 ⟨i,hbf⟩
  have q':=q.wide (L':=Lf C fp ex) λa l _=>l rfl
  obtain⟨as',oo,ss,_⟩:=Owns.deep (ws':=ws3 ++ [v]) (us':=us ++ [.fz r.data]) hb hLb (λcs hcs=>⟨cs,by have:=hcs.snoc (.fz q');simpa using this,List.Sublist.refl _⟩) o3 hn3.2 hxr hus
  refine⟨b',ws3,v,rfl,rfl,hb,by rw[r3.length];exact h3.1,?_⟩
  have hba:a'≠b':=λz=>hn3.1 (z▸hbm)
  have sub:∀a,a∈a' :: as'->a∈fp i:=λa m=>by
   rw[hf3]
   rcases Xn.mp m with rfl|m
   ·exact .head _
   ·exact .tail _ (ss.subset m)
  have kp:∀b o,H3 b=some o->b≠b'->upd H3 b' (.lst (ws3 ++ [v])) b=some o:=λb o e n=>by rw[Zi n];exact e
  have lw:∀a,Lf C fp ex a->upd H3 b' (.lst (ws3 ++ [v])) a≠none->Lf C (fpu fp i (a' :: as')) (exu ex []) a:=λa l _=>⟨λz=>by
   rcases z.of_u with z|⟨j,_,z⟩
   ·exact l.1 ⟨i,sub a z⟩
   ·exact l.1 ⟨j,z⟩,λz=>l.2.1 (Jg.mp z),l.2.2⟩
  obtain⟨R4,S4⟩:=R3.change (new:=[]) (as':=a' :: as') (t':=.nd (ts.set j (.nd (us ++ [.fz r.data])))) (H':=upd H3 b' (.lst (ws3 ++ [v]))) hi hv0 (λb o e nb=>kp b o e λz=>nb (by rw[z];exact hbf)) (λb e=>by
   by_cases q:b=b'
   ·subst q;rw[Zm]at e;cases e
   ·rwa[Zi q]at e) (.nd (by rw[Zi hba];exact hx3) (oo.wide lw)) (Qk.mpr ⟨λm=>hn3.1 (ss.subset m),hn3.2.sublist ss⟩) (λa m=>.inl (sub a m)) (λa m=>nomatch m)
  have k1:Kp H fp H3 fp:=⟨λb o e _=>s3 _ _ (s2 _ _ e),λz=>(nomatch z),λa z=>.inl z,λb e=>s2.al b (s3.al b e)⟩
  exact E.nx _ σ _ _ (R4.drop λa z=>.inl z) (k1.trans S4.kp) h3.2
noncomputable def Ze4(i:Nat)(j e:FE):FS:=λδ=>match δ[i]? with
 | some (some (.nd ts))=>wE j (λn _=>match n.data with
  | .int k=>match ixN ts.length k with
   | some j=>match ts[j]? with
    | some (.nd us)=>wE e (λr _=>if us.length<Xr then .nx (δ.set i (some (.nd (ts.set j (.nd (us ++ [.fz r.data]))))))else .bad) δ
    | _=>.bad
   | none=>.bad
  | _=>.bad) δ
 | _=>.bad
theorem Zi4(h:MS X io st (Zir i (o2 fb) (o2 fa))):MS X io st (oS (Ze4 i fb fa)):=h.weak λD δ h=>by
 unfold oS Ze4 at h;unfold Zir
 split at h
 case h_2=>exact h.elim
 rename_i q;(try rw[q]);(try dsimp only)
 refine(Zhq h).imp λn δ' z=>?_
 split at z
 case h_2=>exact z.elim
 rename_i k q1;(try rw[q1]);(try dsimp only)
 split at z
 case h_2=>exact z.elim
 rename_i j q2;(try rw[q2]);(try dsimp only)
 split at z
 case h_2=>exact z.elim
 rename_i us q3;(try rw[q3]);(try dsimp only)
 exact(Zhq z).imp λr δ' z=>Zcs z
end
variable {G:Xd}
section
variable {X:Cx}{io:List Nat}{p c p' c':Bool}{a b e:Expr}{ma mb m:MEt}{pos pp:Pos}{x:Str}
theorem Zy5{n:Int}{t:Tok}(hg:Gl X x)(hm:X.mg x=some (.int n t))(hdb:(x==("__debug__" : Str))=false:=by decide):ME X io true true (.Name x pos) (mC (.int n)) :=
 ⟨_,Zxb (v:=.int n) hg hm ⟨t,rfl⟩ hdb,λC H σ δ fp ex K Q R h k=>k H (.int n) _ δ fp [] (.fz R (.refl _ _ _ _) (.int n)) h⟩
noncomputable def Zr9(ma mb:MEt):MEt:=λδ K=>ma δ λrk _=>∃k:Int,rk.data= .int k∧mb δ λrv _=>K (.dc false [.inl (.inl k)] [rv.data]) δ
theorem Zuz(ha:ME X io true c a ma)(hb:ME X io true true b mb):ME X io true true (.Dict [some a] [b] pos) (Zr9 ma mb):=by
 obtain⟨_,A,sa⟩:=ha
 obtain⟨_,B,sb⟩:=hb
 refine⟨_,Zut (Zpm A B Zwr) rfl rfl (λz=>nomatch z) (show 1≤15 by decide),λC H σ δ fp ex K Q R h kk q hq=>?_⟩
 have s0:Same H (upd H q (.dK [])):=Z0 hq _
 have R0:Rel C io (upd H q (.dK [])) σ δ fp (exu ex [q]):=R.made s0 λa m=>by
  rw[Xm.mp m]
  exact⟨hq,by rw[Zm];exact Uy _⟩
 refine sa.pureAfter R0 h λH1 v r R1 s1 q1 h1=>?_
 obtain⟨k,hk,h1⟩:=h1
 rw[hk]at q1
 have hv:v= .int k:=by cases q1;rfl
 refine sb.pureAfter R1 h1 λH2 v2 r2 R2 s2 q2 h2=>?_
 have e2:H2 q=some (.dK []):=s2 _ _ (s1 _ _ Zm)
 refine⟨e2,[(.inl k,v2)],by rw[hv];rfl,show 1≤15 by decide,?_⟩
 have keep:∀b o,H2 b=some o->b≠q->upd H2 q (.dK (Zci [] [(.inl k,v2)])) b=some o:=λb o e n=>by rw[Zi n];exact e
 have sm:Same H (upd H2 q (.dK (Zci [] [(.inl k,v2)]))):=λb o e=>keep b o (s2 _ _ (s1 _ _ (s0 _ _ e))) λz=>by rw[z,hq]at e;cases e
 have d3:Da X.K (upd H2 q (.dK (Zci [] [(.inl k,v2)]))) (λa=>((true=true->Lf C fp ex a)∨H a=none)∧a∉[q]) v2 r2.data:=q2.frame (λa xs l e=>by
  have l:=l rfl
  have n:a≠q:=λz=>l.2.1 (.inr (Xm.mpr z))
  exact⟨⟨.inl λ_=>⟨l.1,λz=>l.2.1 (.inl z),l.2.2⟩,λm=>n (Xm.mp m)⟩,e.imp (λe=>keep a _ e n) λz=>z.imp λo e=>keep a _ e n⟩) λa xs e=>keep a _ e λz=>by
   rw[z,e2]at e
   cases xs<;>cases e
 exact kk _ _ _ δ fp [q] (RE.tree (H1:=H) R R (Stp.same (Same.refl H) λ_ z=>z) sm (Jt hq) (Zas q) (.dc (o:=.dK [(.inl k,v2)]) Zm ⟨rfl,rfl,rfl⟩ (.cons d3 .nil))) h2
noncomputable def Zto(a b:FE):FE:=λδ=>(a δ).bind λp=>match p.1.data with
 | .int k=>(b δ).bind λq=>some (.dc false [.inl (.inl k)] [q.1.data],δ)
 | _=>none
theorem Zr0{fa fb:FE}(h:ME X io p c e (Zr9 (o2 fa) (o2 fb))):ME X io p c e (o2 (Zto fa fb)):=h.weak λδ K z=>by
 obtain⟨r,δ',h,k⟩:=z
 obtain⟨⟨x,δ1⟩,h1,h⟩:=bs h
 dsimp only at h
 split at h
 case h_2=>cases h
 rename_i n hn
 obtain⟨⟨y,δ2⟩,h2,h⟩:=bs h
 cases h
 exact⟨x,δ1,h1,n,hn,y,δ2,h2,k⟩
end
variable {G:Xd}
section
variable {X:Cx}
noncomputable def Z95(neg:Bool):R2:=λy x H Q=>∃a o,x= .ref a∧DGet H a y o∧Q (.bl (if neg then !o.isSome else o.isSome)) H
theorem Zol(hu:X.A.units+64<Vu):OpR X (Q6 .NotIn) (Z95 true):=by
 intro pins s σ H y x iv u Q I ry rx h
 obtain⟨a,o,rfl,g,q⟩:=h
 cases rx
 exact Zxe (hu1 hu) I g ry λs3 I3=>⟨.bl (!o.isSome),H,I3,rfl,q⟩
noncomputable def Zpc(neg:Bool):Xa->Xa->Option Xa:=λe d=>match d with
 | .dict ((.none,.bool t) :: kvs)=>(Zf7 e).bind λk=>if Zlv k=t then some (.bool (if neg then !(Zeg k kvs).isSome else(Zeg k kvs).isSome))else none
 | _=>none
noncomputable def Z9c(neg:Bool):Xa->Xa->(Xa->Prop)->Prop:=λe d k=>∃r,Zpc neg e d=some r∧k r
theorem Z5q{neg:Bool}:ByS (Zpc neg) (Z9c neg):=λ_ _ r _ h hk=>⟨r,h,hk⟩
theorem Z2y{neg:Bool}:P2s G (Z95 neg) (Z9c neg):=λH L y x e d k Q hy hx h kk=>by
 obtain⟨r,h,hk⟩:=h
 unfold Zpc at h
 split at h
 case h_2=>cases h
 rename_i t kvs
 obtain⟨ky,h1,h⟩:=bs h
 by_cases ht:Zlv ky=t
 ·rw[if_pos ht]at h
  cases h
  obtain⟨a,o,rfl,_,g,R⟩:=hx.dget hy h1 ht
  have eo:o.isSome=(Zeg ky kvs).isSome:=by
   rcases R with⟨v,d,rfl,hd,_⟩|⟨rfl,hd⟩<;>rw[hd]<;>rfl
  exact⟨a,o,rfl,g,by rw[eo];exact kk _ _ (.bl _) hk⟩
 ·rw[if_neg ht]at h;cases h
noncomputable def Zo9:List Xa->Option Xa:=λds=>match ds with|[.dict ((.none,.bool false) :: kvs)]=>some (.int kvs.length)|_=>none
noncomputable def Zzt:List Xa->(Xa->Prop)->Prop:=λds k=>∃d,Zo9 ds=some d∧k d
theorem Zgd:∀ds r k,Zo9 ds=some r->k r->Zzt ds k:=λds r k h hk=>⟨r,h,hk⟩
noncomputable def Z3b:List V->Hp->VK->Prop:=λxs H Q=>∃a kvs,xs=[.ref a]∧Rd H a (.dK kvs)∧Q (.int kvs.length) H
theorem J6:Zbu X (.builtin "len") Z3b:=by
 intro pins s σ H xs us Q I rv h
 obtain⟨a,kvs,rfl,e,q⟩:=h
 obtain⟨u,rfl,ru⟩:=rv.one
 cases ru
 obtain⟨z,hd,vs,rel,dd⟩:=Zo1 I.hok e
 refine call_len_dict hd dd (by rw[←rel.length];rw[Qh]at z;omega) ?_
 exact⟨.int kvs.length,H,I.tok _,⟨_,by rw[rel.length]⟩,q⟩
theorem Zdc:PNs G Z3b Zzt:=λH L xs ds k Q hx h kk=>by
 obtain⟨d,h,hk⟩:=h
 unfold Zo9 at h
 split at h
 case h_2=>cases h
 rename_i kvs
 cases h
 cases hx with
 | cons q r0=>
  cases r0
  generalize ed:Xa.dict ((.none,.bool false) :: kvs)=d at q
  cases q with
  | dic l r dk qs=>
   rename_i a o t' ks xs ds
   unfold dcD at ed
   injection ed with ed
   injection ed with e1 e2
   injection e1 with _ e1
   injection e1 with e1
   subst e1 e2
   cases o with
   | lst _=>exact dk.elim
   | dT _=>exact nomatch dk.1
   | dK kv=>
    obtain⟨_,e1,e2⟩:=dk
    subst e1 e2
    refine⟨a,kv,rfl,r,?_⟩
    have hl:kv.length=(((kv.map λp=>(Sum.inl p.1:KY)).map kyD).zip ds).length:=by
     have:=qs.length
     rw[Xe]at this
     rw[List.length_zip,Xe,Xe,←this,Nat.min_self]
    rw[hl]
    exact kk _ _ (.int _) hk
  | exc _ _ _=>unfold exD at ed;cases ed
  | fn _=>unfold fnD at ed;cases ed
  | _=>cases ed
end
variable {G:Xd}
noncomputable def Sg(z:Str)(t:Tok)(it:Addr)(i:Nat)(h:Heap):Prop:=h.IsStrIter it "str_ascii_iterator" z t i∨h.IsStrIter it "str_iterator" z t i
section
variable {P:X4}{w:Qm}{A:Qn}{E:Xc->Xf->Prop}{s:Xf}
structure Ap(z TI TO i1 i2:Addr):Prop where
 a1:TI≠z
 a2:TO≠z
 a3:i1≠z
 a4:i2≠z
 a5:i1≠TO
 a6:i2≠TO
 a7:i1≠i2
 a8:TI≠TO
 a9:TI≠i1
 a10:TI≠i2
noncomputable abbrev yT1(h:Heap)(x:Str)(t:Tok):Heap:=h.push { cls:=.type (strIterType x),data:=.fields #[.str x t,.int 0 0] }
noncomputable abbrev yT2(h:Heap)(x y:Str)(t u:Tok):Heap:=yT1 (yT1 h x t) y u
noncomputable abbrev yT3(h:Heap)(x y:Str)(t u:Tok):Heap:=(yT2 h x y t u).push { cls:=.type "tuple",data:=.seq #[.ref h.objs.size,.ref (yT1 h x t).objs.size] }
noncomputable abbrev yT4(h:Heap)(x y:Str)(t u:Tok):Heap:=(yT3 h x y t u).push { cls:=.type "tuple",data:=.seq #[.none,.none] }
noncomputable abbrev yT5(h:Heap)(x y:Str)(t u:Tok):Heap:=(yT4 h x y t u).push { cls:=.type "zip",data:=.fields #[.none,.bool false,.bool false,.ref (yT2 h x y t u).objs.size,.ref (yT3 h x y t u).objs.size] }
theorem Sg.at{h:Heap}{x:Str}{t:Tok}{it:Addr}(e:h.get? it=some { cls:=.type (strIterType x),data:=.fields #[.str x t,.int 0 0] }):Sg x t it 0 h:=by
 unfold strIterType at e
 split at e
 ·exact .inl ⟨_,e,rfl,rfl⟩
 ·exact .inr ⟨_,e,rfl,rfl⟩
end
section
variable {X:Cx}{io:List Nat}{p c:Bool}{a b:Expr}{mr:MAt}{ra:FA}
end
section
variable {X:Cx}{io:List Nat}{tg iter test:Expr}{rs:List Stmt}{mi:MIt}{g:MGt}{mt:MTt}{ur:MSt}{pos pi:Pos}{st:Stmt}{it:FI}{gg:FG}{t:FT}{r:FS}
end
section
variable {X:Cx}{io:List Nat}{e:Expr}{m:MEt}{fa:FE}{i:Nat}{pos pt:Pos}{st:Stmt}
end
section
variable {X:Cx}{io:List Nat}{x:Str}{pos:Pos}
theorem Zu1{n:Int}(hg:Gl X x)(hm:∃t,X.mg x=some (.int n t))(hdb:(x==("__debug__" : Str))=false:=by decide):ME X io true true (.Name x pos) (mC (.int n)):=by
 obtain⟨t,h⟩:=hm
 exact Zy5 hg h hdb
end
variable {G:Xd}
section
variable {X:Cx}
noncomputable def Z8d:R2:=λx y H Q=>∃a b ns ms,x= .ref a∧y= .ref b∧H a=some (.tup (ns.map V.int))∧H b=some (.tup (ms.map V.int))∧Q (.bl (ltI ns ms)) H
theorem Z3g(hu:X.A.units+64<Vu):OpR X (Q6 .Lt) Z8d:=by
 intro pins s σ H x y v u Q I rx ry h
 obtain⟨a,b,ns,ms,rfl,rfl,ha,hb,q⟩:=h
 cases rx
 cases ry
 obtain⟨its,r1,p1,_⟩:=I.tuple (.inl (.inl ha))
 obtain⟨its',r2,p2,_⟩:=I.tuple (.inl (.inl hb))
 obtain⟨⟨cls,dd,data,sl⟩,hl,hc,n,hd⟩:=p1
 obtain⟨⟨cls2,dd2,data2,sl2⟩,hl2,hc2,n2,hd2⟩:=p2
 simp only at hc hd hc2 hd2
 subst hc hd hc2 hd2
 exact richCompare_meets_room (op:=.Lt) ⟨_,hl,rfl⟩ ⟨_,hl2,rfl⟩ F.slot_tuple_lt F.entry_tuple_lt (F.args_tuple_lt_2 _ _) (Zk5 a b its.toArray its'.toArray n n2 dd dd2 sl sl2 (Zf4 r1) (Zf4 r2))
  ⟨hl,hl2,show Value.bool (ltI ns ms)≠Xc.notImplemented∧_ from⟨(λx=>nomatch x),⟨.bl (ltI ns ms),H,I,rfl,q⟩⟩⟩ (by omega)
noncomputable def Z3o:Xa->Xa->Option Xa:=λd e=>match d,e with
 | .tuple ds,.tuple es=>(Zkq ds).bind λns=>(Zkq es).bind λms=>some (.bool (ltI ns ms))
 | _,_=>none
noncomputable def Z83:Xa->Xa->(Xa->Prop)->Prop:=λd e k=>∃r,Z3o d e=some r∧k r
theorem Z5j:ByS Z3o Z83:=λ_ _ r _ h hk=>⟨r,h,hk⟩
theorem Zob{H:Hp}{L:Addr->Prop}{v:V}{ns:List Int}(h:Da G H L v (.tuple (ns.map XM))):∃a,v= .ref a∧H a=some (.tup (ns.map V.int)):=by
 generalize e:Xa.tuple (ns.map XM)=d at h
 cases h with
 | tup e1 r=>
  cases e
  exact⟨_,rfl,r.int_inv▸e1⟩
 | _=>cases e
theorem Z0v:P2s G Z8d Z83:=λH L x y d e k Q hx hy h kk=>by
 obtain⟨r,h,hk⟩:=h
 unfold Z3o at h
 split at h
 case h_2=>cases h
 obtain⟨ns,h1,h⟩:=bs h
 obtain⟨ms,h2,h⟩:=bs h
 cases h
 rw[Zfe h1]at hx
 rw[Zfe h2]at hy
 obtain⟨a,rfl,ha⟩:=Zob hx
 obtain⟨b,rfl,hb⟩:=Zob hy
 exact⟨a,b,ns,ms,rfl,rfl,ha,hb,kk _ _ (.bl _) hk⟩
end
end L2
namespace L2
open PySem PySem.Spec PyProof.Rows PySem.W
theorem Zbi{α β:Type}{lt:Nat->Nat->Bool}{f:α->KasT β}(t:KasT α):kEv lt (t.bind f)=kEv lt (f (kEv lt t)):=by
 induction t with
 | ret a=>rfl
 | ask i j k ih=>exact ih _
structure Tot(lt:Nat->Nat->Bool)(n:Nat):Prop where
 tr:∀i j k,i<n->j<n->k<n->lt i j=true->lt j k=true->lt i k=true
 tot:∀i j,i<n->j<n->i≠j->lt i j=false->lt j i=true
 asy:∀i j,i<n->j<n->lt i j=true->lt j i=false
section
variable {lt:Nat->Nat->Bool}{n:Nat}
noncomputable abbrev gD(p:Array Nat)(i:Nat):Nat:=p.getD i 0
theorem kP.size{p:Array Nat}(h:kP n p):p.size=n:=by rw[←Xp,List.Perm.length_eq h,XX]
theorem Zh4{p:Array Nat}{i:Nat}(h:i<p.size):p[i]? =some (gD p i):=by rw[QW h];simp[gD,Array.getD,h]
theorem Zp8{p q:Array Nat}{i j:Nat}(h:p[i]? =q[j]?):gD p i=gD q j:=by
 show p.getD i 0=q.getD j 0
 rw[VD,VD,h]
theorem kP.blw{p:Array Nat}(h:kP n p){i:Nat}(hi:i<n):gD p i<n:=h.at (Nat.lt_of_le_of_lt (QH _) hi) i
theorem kP.ne{p:Array Nat}(h:kP n p){i j:Nat}(hi:i<j)(hj:j<n):gD p i≠gD p j:=λe=>by
 have nd:p.toList.Nodup:=(List.Perm.nodup_iff h).mpr List.nodup_range
 have sz:=h.size
 have a:=Zh4 (p:=p) (i:=i) (by omega)
 have b:=Zh4 (p:=p) (i:=j) (by omega)
 rw[←Qd]at a b
 obtain⟨a1,a2⟩:=Xi.mp a
 obtain⟨b1,b2⟩:=Xi.mp b
 exact Bl.mp nd i j a1 b1 hi (by rw[a2,b2,e])
noncomputable def Ri(lt:Nat->Nat->Bool)(p:Array Nat)(m:Nat):Prop:=∀i j,i<j->j<m->lt (gD p i) (gD p j)=true
noncomputable def Fa(lt:Nat->Nat->Bool)(p:Array Nat)(m:Nat):Prop:=∀i j,i<j->j<m->lt (gD p j) (gD p i)=true
variable (T:Tot lt n)
include T
theorem Zsh{p:Array Nat}(h:kP n p)(f:Nat):∀m,1≤m->m+f≤n->Ri lt p m->Ri lt p (kEv lt (kas_asc p f m))∧m≤kEv lt (kas_asc p f m)∧kEv lt (kas_asc p f m)≤m+f∧(kEv lt (kas_asc p f m)<m+f->lt (gD p (kEv lt (kas_asc p f m))) (gD p (kEv lt (kas_asc p f m)-1))=true):=by
 induction f with
 | zero=>exact λm _ _ r=>⟨r,XD _,XD _,λz=>absurd z (Q9 _)⟩
 | succ f ih=>
  intro m h1 hn r
  show _∧_
  rw[kas_asc,kEv]
  cases c:lt (p.getD m 0) (p.getD (m-1) 0)with
  | true=>
   rw[if_pos rfl,kEv]
   exact⟨r,XD _,Vb _ _,λ_=>c⟩
  | false=>
   rw[if_neg Xw]
   have up:lt (gD p (m-1)) (gD p m)=true:=T.tot _ _ (h.blw (by omega)) (h.blw (by omega)) (h.ne (by omega) (by omega)).symm c
   have r2:Ri lt p (m+1):=λi j hij hj=>by
    rcases Bc j m with q|q
    ·exact r i j hij q
    ·have:j=m:=by omega
     subst this
     rcases Bc i (j-1)with q2|q2
     ·exact T.tr _ _ _ (h.blw (by omega)) (h.blw (by omega)) (h.blw (by omega)) (r i (j-1) q2 (by omega)) up
     ·have:i=j-1:=by omega
      subst this
      exact up
   obtain⟨a,b,c,d⟩:=ih (m+1) (by omega) (by omega) r2
   exact⟨a,by omega,by omega,λz=>d (by omega)⟩
theorem Zv3{p:Array Nat}(h:kP n p)(f:Nat):∀m,1≤m->m+f≤n->Fa lt p m->∃m',kEv lt (kas_desc f p m 0)=(p,m',0)∧Fa lt p m'∧m≤m'∧m'≤m+f:=by
 induction f with
 | zero=>exact λm _ _ r=>⟨m,rfl,r,XD _,XD _⟩
 | succ f ih=>
  intro m h1 hn r
  rw[kas_desc,kEv]
  cases c:lt (p.getD m 0) (p.getD (m-1) 0)with
  | true=>
   rw[if_pos rfl,if_neg (Q9 _)]
   have r2:Fa lt p (m+1):=λi j hij hj=>by
    rcases Bc j m with q|q
    ·exact r i j hij q
    ·have:j=m:=by omega
     subst this
     rcases Bc i (j-1)with q2|q2
     ·exact T.tr _ _ _ (h.blw (by omega)) (h.blw (by omega)) (h.blw (by omega)) c (r i (j-1) q2 (by omega))
     ·have:i=j-1:=by omega
      subst this
      exact c
   obtain⟨m',e,a,b,d⟩:=ih (m+1) (by omega) (by omega) r2
   exact⟨m',e,a,by omega,by omega⟩
  | false=>
   rw[if_neg Xw,kEv]
   have up:lt (p.getD (m-1) 0) (p.getD m 0)=true:=T.tot _ _ (h.blw (by omega)) (h.blw (by omega)) (h.ne (by omega) (by omega)).symm c
   rw[up,if_pos rfl,kEv]
   exact⟨m,rfl,r,XD _,Vb _ _⟩
theorem Zrx{p:Array Nat}(h:kP n p)(h0:0<n):∃m p',kEv lt (kas_count n p)=(m,p')∧kP n p'∧Ri lt p' m∧1≤m∧m≤n:=by
 rw[kas_count,Zbi]
 obtain⟨a,b,c,d⟩:=Zsh T h (n-1) 1 (XD _) (by omega) λi j _ _=>by omega
 generalize kEv lt (kas_asc p (n-1) 1)=m at a b c d
 by_cases e:m=n
 ·rw[if_pos (by rw[e];exact beq_self_eq_true _),kEv]
  exact⟨m,p,rfl,h,a,b,by omega⟩
 rw[if_neg (λz=>e (beq_iff_eq.mp z))]
 by_cases m1:m>1
 ·rw[if_pos m1,kEv,a 0 (m-1) (by omega) (by omega),if_pos rfl,kEv]
  exact⟨m,p,rfl,h,a,b,by omega⟩
 rw[if_neg m1]
 have em:m=1:=by omega
 subst em
 have lt1:=d (by omega)
 rw[kas_descPart,Zbi]
 obtain⟨m',e2,f2,b2,d2⟩:=Zv3 T h (n-(1+1)) (1+1) (by omega) (by omega) λi j hij hj=>by
  have:i=0:=by omega
  have:j=1:=by omega
  subst i j
  exact lt1
 rw[e2,if_neg (Q9 _),kas_tail3,Zbi,kEv]
 have kr:kP n (kas_rev p 0 m'):=h.rev _ _
 have rr:Ri lt (kas_rev p 0 m') m':=λi j hij hj=>by
  have ge:∀k,k<m'->gD (kas_rev p 0 m') k=gD p (m'-1-k):=λk hk=>Zp8 (by
   have:=getElem?_mirror_all (xs:=p) (i:=0) (j:=m') (by rw[h.size];omega) k
   rw[if_pos ⟨QH _,hk⟩,Nat.zero_add]at this
   exact this)
  rw[ge i (by omega),ge j hj]
  exact f2 _ _ (by omega) (by omega)
 obtain⟨a,b,c,_⟩:=Zsh T kr (n-m') m' (by omega) (by omega) rr
 have n2:2≤n:=by omega
 have:m'≤n:=by omega
 refine⟨_,_,rfl,kr,a,?_,?_⟩
 ·exact Qs (by omega) b
 ·exact Qs c (by omega)
theorem Zq7{p:Array Nat}(h:kP n p){k:Nat}(hk:k<n)(f:Nat):∀l r,l≤r->r≤k->r-l≤f->(∀i,i<l->lt (gD p i) (gD p k)=true)->(∀i,r≤i->i<k->lt (gD p k) (gD p i)=true)->Ri lt p k ->
  kEv lt (kas_place p k f l r)≤k∧(∀i,i<kEv lt (kas_place p k f l r)->lt (gD p i) (gD p k)=true)∧∀i,kEv lt (kas_place p k f l r)≤i->i<k->lt (gD p k) (gD p i)=true:=by
 induction f with
 | zero=>
  intro l r lr rk z a b R
  have:l=r:=by omega
  subst this
  exact⟨rk,a,b⟩
 | succ f ih=>
  intro l r lr rk z a b R
  rw[kas_place]
  by_cases c:l≥r
  ·rw[if_pos c,kEv]
   exact⟨by omega,a,λi x y=>b i (by omega) y⟩
  rw[if_neg c,kEv]
  have hm:(l+r)/2<k:=by omega
  cases q:lt (p.getD k 0) (p.getD ((l+r)/2) 0)with
  | true=>
   rw[if_pos rfl]
   refine ih _ _ (by omega) (by omega) (by omega) a (λi x y=>?_) R
   by_cases e:i=(l+r)/2
   ·subst e;exact q
   ·exact T.tr _ _ _ (h.blw hk) (h.blw (by omega)) (h.blw (by omega)) q (R _ _ (by omega) y)
  | false=>
   rw[if_neg Xw]
   have up:lt (gD p ((l+r)/2)) (gD p k)=true:=T.tot _ _ (h.blw hk) (h.blw (by omega)) (h.ne hm hk).symm q
   refine ih _ _ (by omega) (by omega) (by omega) (λi x=>?_) b R
   by_cases e:i=(l+r)/2
   ·subst e;exact up
   ·exact T.tr _ _ _ (h.blw (by omega)) (h.blw (by omega)) (h.blw hk) (R _ _ (by omega) hm) up
theorem Zz4(f:Nat):∀{p:Array Nat} (h:kP n p) (k:Nat),k+f≤n->Ri lt p k->Ri lt (kEv lt (kas_bin f p k)) (k+f):=by
 induction f with
 | zero=>exact λh k _ r=>r
 | succ f ih=>
  intro p h k hn r
  rw[kas_bin,Zbi]
  obtain⟨a,b,c⟩:=Zq7 T h (k:=k) (by omega) k 0 k (QH _) (XD _) (by omega) (λi z=>absurd z (JQ _)) (λi x y=>absurd y (by omega)) r
  generalize kEv lt (kas_place p k k 0 k)=l at a b c
  have ge:∀j,gD (bubble p k (k-l)) j=if j=l then gD p k else if l<j∧j≤k then gD p (j-1)else gD p j:=λj=>by
   have e:=getElem?_bubble (xs:=p) (src:=k) (by rw[h.size];omega) (k-l) (by omega) j
   have e0:k-(k-l)=l:=by omega
   rw[e0]at e
   by_cases c1:j=l
   ·rw[if_pos c1]at e⊢
    exact Zp8 e
   ·rw[if_neg c1]at e⊢
    by_cases c2:l<j∧j≤k
    ·rw[if_pos c2]at e⊢
     exact Zp8 e
    ·rw[if_neg c2]at e⊢
     exact Zp8 e
  have:=ih (h.bub k (k-l)) (k+1) (by omega) λi j hij hj=>?_
  ·rw[show k+1+f=k+(f+1) by omega]at this
   exact this
  rw[ge,ge]
  rcases Uj j l with q|q|q
  ·rw[if_neg (by omega),if_neg (by omega),if_neg (by omega),if_neg (by omega)]
   exact r i j hij (by omega)
  ·rw[if_neg (by omega),if_neg (by omega),if_pos q]
   exact b i (by omega)
  ·rw[if_neg (show¬j=l by omega),if_pos (show l<j∧j≤k by omega)]
   rcases Uj i l with q2|q2|q2
   ·rw[if_neg (by omega),if_neg (by omega)]
    exact r i (j-1) (by omega) (by omega)
   ·rw[if_pos q2]
    exact c (j-1) (by omega) (by omega)
   ·rw[if_neg (by omega),if_pos (by omega)]
    exact r (i-1) (j-1) (by omega) (by omega)
theorem Zwp(h0:0<n):Ri lt (kEv lt (kas_sort n)) n:=by
 rw[kas_sort,Zbi]
 obtain⟨m,p,e,kp,r,l1,l2⟩:=Zrx T (p:=U4 (Xz n)) (List.Perm.refl _) h0
 rw[e]
 by_cases c:m<n
 ·rw[if_pos c]
  have em:max m 1=m:=by omega
  rw[em]
  have:=Zz4 T (n-m) kp m (by omega) r
  rw[show m+(n-m)=n by omega]at this
  exact this
 ·rw[if_neg c,kEv]
  have:m=n:=by omega
  rw[this]at r
  exact r
theorem Zvz(h0:0<n):(Zs1 lt n).Pairwise λi j=>lt i j=true:=by
 have h:kP n (kEv lt (kas_sort n)):=(Zde h0).ev (P:=kP n)
 have r:=Zwp T h0
 refine Bl.mpr λi j hi hj hij=>?_
 have sz:=h.size
 rw[←Xp]at sz
 have l2:(Zs1 lt n).length=n:=sz
 have ge:∀k (hk:k<(Zs1 lt n).length),(Zs1 lt n)[k]=gD (kEv lt (kas_sort n)) k:=λk hk=>by
  have:=Zh4 (p:=kEv lt (kas_sort n)) (i:=k) (by rw[h.size];omega)
  rw[←Qd]at this
  exact(Xi.mp this).2
 rw[ge,ge]
 exact r i j hij (by omega)
end
theorem Zx1{α β:Type}{d:α}{lt:Nat->Nat->Bool}{vs:List α}{R:α->α->Prop}(T:Tot lt vs.length)(hR:∀i j,i<vs.length->j<vs.length->lt i j=true->R (vs.getD i d) (vs.getD j d)):(Zf8 d lt vs).Pairwise R:=by
 unfold Zf8
 split
 ·rename_i c
  match vs,c with
  | [],_=>exact .nil
  | [a],_=>exact Ua _ _
 ·rename_i c
  have pm:=Za4 (lt:=lt) (n:=vs.length) (by omega)
  have up:=Zvz T (by omega)
  have h:=List.Pairwise.imp_of_mem (fun{i j} hi hj e=>hR i j (Qx.mp (pm.mem_iff.mp hi)) (Qx.mp (pm.mem_iff.mp hj)) e) up
  exact List.pairwise_map.mpr h
end L2
namespace L2
open PySem PySem.Spec PyProof.Rows
noncomputable def mt(m:Nat):QV:={ mask:=m,place:=#[],dummies:=#[],finger:=0,led:=false,moves:=0,plain:=true }
noncomputable def adv(m:Nat):Nat->Vq->Vq
 | 0,p=>p
 | k+1,p=>adv m k ((mt m).advance p)
theorem Zfy(m a b:Nat)(p:Vq):adv m (a+b) p=adv m b (adv m a p):=by
 induction a generalizing p with
 | zero=>rw[Nat.zero_add];rfl
 | succ a ih=>rw[Nat.succ_add];exact ih _
noncomputable def pt(m i pb:Nat):Vq:=⟨i,Q4 m i-i,i,pb,none⟩
noncomputable def stP(m:Nat)(h:Int):Vq:=pt m (Be h%(m+1)) (Be h)
theorem Znr(h:Int):Be h<2^64:=by
 unfold Be
 have:=Int.emod_nonneg h (show(2^64:Int)≠0 by decide)
 have:=Int.emod_lt_of_pos h (show(0:Int)<2^64 by decide)
 omega
theorem chunk(m:Nat):∀k j more i pb,k≤more->adv m k ⟨j,more,i,pb,none⟩=⟨j+k,more-k,i,pb,none⟩:=by
 intro k
 induction k with
 | zero=>exact λj more i pb _=>rfl
 | succ k ih=>
  intro j more i pb hk
  show adv m k (if more>0 then _ else _)=_
  rw[if_pos (by omega)]
  show adv m k ⟨j+1,more-1,i,pb,none⟩=_
  rw[ih _ _ _ _ (by omega),Nat.sub_sub,Nat.add_comm 1 k,Nat.add_assoc,Nat.add_comm 1 k]
theorem Zfj(m i pb:Nat):adv m (Q4 m i-i+1) (pt m i pb)=pt m (VP m i pb).1 (VP m i pb).2:=by
 rw[Zfy,pt,chunk m _ _ _ _ _ (XD _),Nat.sub_self];rfl
theorem Zse(m i:Nat):Q4 m i-i+1≤10∧i≤Q4 m i∧(i≤m->Q4 m i≤m):=by
 unfold Q4
 split<;>omega
noncomputable def lp(m:Nat):Nat->Nat×Nat->Nat×Nat
 | 0,x=>x
 | n+1,x=>lp m n (VP m x.1 x.2)
theorem Z1s(m a b:Nat)(x:Nat×Nat):lp m (a+b) x=lp m b (lp m a x):=by
 induction a generalizing x with
 | zero=>rw[Nat.zero_add];rfl
 | succ a ih=>rw[Nat.succ_add];exact ih _
theorem Zqv(m:Nat):∀n i pb,∃K,K≤10*n∧adv m K (pt m i pb)=pt m (lp m n (i,pb)).1 (lp m n (i,pb)).2:=by
 intro n
 induction n with
 | zero=>exact λi pb=>⟨0,XD _,rfl⟩
 | succ n ih=>
  intro i pb
  obtain⟨K,hK,e⟩:=ih (VP m i pb).1 (VP m i pb).2
  have:=(Zse m i).1
  exact⟨Q4 m i-i+1+K,by omega,by rw[Zfy,Zfj,e];rfl⟩
theorem Z6h(m:Nat):∀n i pb,(lp m n (i,pb)).2=pb/32^n:=by
 intro n
 induction n with
 | zero=>exact λi pb=>(Nat.div_one _).symm
 | succ n ih=>
  intro i pb
  show(lp m n (_,pb/32)).2=_
  rw[ih,Nat.div_div_eq_div_mul,Nat.pow_succ,Nat.mul_comm 32]
theorem Z5a(m n i pb:Nat)(h:i≤m):(lp m n (i,pb)).1≤m:=by
 induction n generalizing i pb with
 | zero=>exact h
 | succ n ih=>exact ih _ _ (Vz.mp (Nat.mod_lt _ (Ui _)))
noncomputable def it(m:Nat):Nat->Nat->Nat
 | 0,x=>x
 | n+1,x=>it m n ((x*5+1)%(m+1))
theorem Zta(m a b x:Nat):it m (a+b) x=it m b (it m a x):=by
 induction a generalizing x with
 | zero=>rw[Nat.zero_add];rfl
 | succ a ih=>rw[Nat.succ_add];exact ih _
theorem Z6c(m n x:Nat):lp m n (x,0)=(it m n x,0):=by
 induction n generalizing x with
 | zero=>rfl
 | succ n ih=>
  show lp m n ((x*5+1+0/32)%(m+1),0/32)=_
  rw[Nat.zero_div,Nat.add_zero]
  exact ih _
noncomputable def orb(m:Nat):Nat->Nat->List Nat
 | 0,_=>[]
 | n+1,x=>x :: orb m n ((x*5+1)%(m+1))
theorem Zvc{m e:Nat}:∀{n x},e∈orb m n x->∃k,k<n∧it m k x=e:=by
 intro n
 induction n with
 | zero=>exact λh=>nomatch h
 | succ n ih=>
  intro x h
  rcases Xn.mp h with rfl|h
  ·exact⟨0,Ui _,rfl⟩
  ·obtain⟨k,hk,e⟩:=ih h
   exact⟨k+1,Nat.succ_lt_succ hk,e⟩
noncomputable def cyc(m:Nat):Bool:=((Xz (m+1)).all λe=>(orb m (m+1) 0).contains e)&&it m (m+1) 0==0
noncomputable def Msk(m:Nat):Prop:=m=7∨m=31∨m=127
theorem Z0p{m:Nat}(h:Msk m):cyc m=true:=by
 rcases h with rfl|rfl|rfl<;>decide +kernel
theorem cov{m:Nat}(h:Msk m){i pb e:Nat}(hi:i≤m)(hp:pb<2^64)(he:e≤m):∃n,n≤m+13∧(lp m n (i,pb)).1=e:=by
 have c:=Z0p h
 unfold cyc at c
 rw[XN,beq_iff_eq]at c
 have f:∀x,x≤m->∃k,k<m+1∧it m k 0=x:=λx hx=>Zvc (List.elem_iff.mp (V0.mp c.1 x (Qx.mpr (Nat.lt_succ_of_le hx))))
 have e13:lp m 13 (i,pb)=((lp m 13 (i,pb)).1,0):=by
  have:(lp m 13 (i,pb)).2=0:=by
   rw[Z6h]
   exact Nat.div_eq_of_lt (Qj hp (by decide))
  exact Prod.ext rfl this
 obtain⟨a,ha,ea⟩:=f _ (Z5a m 13 i pb hi)
 obtain⟨b,hb,eb⟩:=f e he
 have go:∀n,(lp m (13+n) (i,pb)).1=it m (a+n) 0:=λn=>by rw[Z1s,e13,Z6c,Zta,ea]
 rcases Bc b a with q|q
 ·refine⟨13+(b+(m+1)-a),by omega,?_⟩
  rw[go,show a+(b+(m+1)-a)=m+1+b by omega,Zta,c.2,eb]
 ·refine⟨13+(b-a),by omega,?_⟩
  rw[go,show a+(b-a)=b by omega,eb]
theorem missing:∀(n:Nat) (l:List Nat),l.length<n->∃e,e<n∧e∉l:=by
 intro n
 induction n with
 | zero=>exact λl h=>absurd h (JQ _)
 | succ n ih=>
  intro l h
  by_cases c:n∈l
  ·obtain⟨e,he,m⟩:=ih (l.erase n) (by rw[List.length_erase_of_mem c];have:=List.length_pos_of_mem c;omega)
   exact⟨e,Ba he,λz=>m ((List.mem_erase_of_ne (Xo he)).mpr z)⟩
  ·exact⟨n,QL _,c⟩
noncomputable def Rch'(m:Nat)(P:Nat->Prop)(h:Int)(j:Nat):Prop:=∃k,(adv m k (stP m h)).j=j∧∀k',k'<k->P (adv m k' (stP m h)).j
theorem Rch'.mono{m:Nat}{P P':Nat->Prop}{h:Int}{j:Nat}(hp:∀x,P x->P' x)(r:Rch' m P h j):Rch' m P' h j:=by
 obtain⟨k,a,b⟩:=r
 exact⟨k,a,λk' l=>hp _ (b k' l)⟩
theorem Zkl{t:QV}(up:Up t.place.toList)(hd:t.dummies=#[])(j:Nat):(∃i,t.slot j= .live i∧t.place.toList[i]? =some j)∨(t.slot j= .empty∧j∉t.place.toList):=by
 unfold QV.slot
 by_cases c:t.place[Qw t.place j]? =some j
 ·refine .inl ⟨_,if_pos (beq_iff_eq.mpr c),?_⟩
  rw[Qd];exact c
 ·refine .inr ⟨?_,λm=>?_⟩
  ·dsimp only
   rw[if_neg (λz=>c (beq_iff_eq.mp z)),hd]
   rfl
  ·obtain⟨i,hi⟩:=VM m
   obtain⟨_,b1,b2⟩:=Za2 up j
   rcases Uj i (Qw t.place j)with q|q|q
   ·exact Q9 _ (b1 i j q hi)
   ·rw[←q,←Qd]at c
    exact c hi
   ·have hs:=BW q (Xi.mp hi).1
    have e1:=Xl hs
    have:=Zig up e1 hi q
    have:=b2 _ _ (XD _) e1
    omega
theorem Zjm{t:QV}(up:Up t.place.toList)(hd:t.dummies=#[]){f:Nat->Int}{h:Int}:∀(fuel:Nat) (p:Vq),p.dummy=none->(∃k,k<fuel∧(adv t.mask k p).j∉t.place.toList) ->
  (∃ k,SetTable.probe.go t f h fuel p=some (.empty (adv t.mask k p).j none)∧(adv t.mask k p).j∉t.place.toList∧∀k',k'<k->∃i,t.place.toList[i]? =some (adv t.mask k' p).j∧f i≠h)
  ∨∃j i nx,SetTable.probe.go t f h fuel p=some (.candidate j i nx)∧t.place.toList[i]? =some j∧f i=h:=by
 intro fuel
 induction fuel with
 | zero=>exact λp _ h=>by obtain⟨k,hk,_⟩:=h;exact absurd hk (JQ _)
 | succ fuel ih=>
  intro p hp hx
  rw[SetTable.probe.go]
  rcases Zkl up hd p.j with⟨i,e,g⟩|⟨e,g⟩
  ·rw[e]
   dsimp only
   by_cases c:f i=h
   ·rw[if_pos (beq_iff_eq.mpr c)]
    exact .inr ⟨_,i,_,rfl,g,c⟩
   ·rw[if_neg (λz=>c (beq_iff_eq.mp z))]
    have ad:(t.advance p).dummy=none:=by
     unfold QV.advance
     split<;>exact hp
    obtain⟨k,hk,hm⟩:=hx
    cases k with
    | zero=>exact absurd (X8 g) hm
    | succ k=>
     rcases ih (t.advance p) ad ⟨k,Vw hk,hm⟩with⟨k2,a1,a2,a3⟩|z
     ·refine .inl ⟨k2+1,a1,a2,λk' hk'=>?_⟩
      cases k' with
      | zero=>exact⟨i,g,c⟩
      | succ k'=>exact a3 k' (Vw hk')
     ·exact .inr z
  ·rw[e]
   dsimp only
   rw[hp]
   exact .inl ⟨0,rfl,g,λk' z=>absurd z (JQ _)⟩
structure GT(b:Bool)(t:QV)(hs:List Int):Prop where
 led:t.led=b
 pl:t.plain=true
 du:t.dummies=#[]
 mm:Msk t.mask
 sz:t.place.toList.length=hs.length
 up:Up t.place.toList
 fu:hs.length*5<t.mask*3
 re:∀(i:Nat) h j,hs[i]? =some h->t.place.toList[i]? =some j->Rch' t.mask (·∈t.place.toList) h j
section
variable {b:Bool}{t:QV}{hs:List Int}
theorem GT.fits(g:GT b t hs):t.fits hs.length=true:=by
 unfold U7 SetTable.fill
 have:=g.sz
 rw[Xp]at this
 have f:=g.fu
 rw[g.du,this,beq_self_eq_true,decide_eq_true (show hs.length+(#[]:Array Nat).size≤t.mask by show hs.length+0≤_;omega)];rfl
theorem GT.way(g:GT b t hs):t.gaveWay=false:=by
 unfold QV.gaveWay
 rcases g.mm with e|e|e<;>rw[e]<;>rfl
theorem GT.ends(g:GT b t hs)(h:Int):∃k,k<10*Uz t.mask∧(adv t.mask k (stP t.mask h)).j∉t.place.toList:=by
 have f:=g.fu
 obtain⟨e,he,hm⟩:=missing (t.mask+1) t.place.toList (by rw[g.sz];omega)
 obtain⟨n,hn,en⟩:=cov g.mm (i:=Be h%(t.mask+1)) (Vz.mp (Nat.mod_lt _ (Ui _))) (Znr h) (Vz.mp he)
 obtain⟨K,hK,eK⟩:=Zqv t.mask n (Be h%(t.mask+1)) (Be h)
 refine⟨K,by unfold Uz;omega,?_⟩
 show(adv t.mask K (pt t.mask _ _)).j∉_
 rw[eK]
 show(lp t.mask n _).1∉_
 rw[en];exact hm
theorem GT.new(g:GT b t hs){f:Nat->Int}{h:Int}(hf:∀(i:Nat) x,hs[i]? =some x->f i=x)(hn:h∉hs):∃j,t.probe f h (t.probeStart h)=some (.empty j none)∧j∉t.place.toList∧Rch' t.mask (·∈t.place.toList) h j:=by
 rcases Zjm g.up g.du (f:=f) (h:=h) _ (stP t.mask h) rfl (g.ends h)with⟨k,e,m,p⟩|⟨j,i,nx,e,m,q⟩
 ·exact⟨_,e,m,k,rfl,λk' hk=>by obtain⟨i,e,_⟩:=p k' hk;exact X8 e⟩
 ·have hi:i<hs.length:=g.sz▸(Xi.mp m).1
  have:=hf i _ (Xl hi)
  exact absurd (by rw[←q,this];exact Vt hi) hn
theorem GT.old(g:GT b t hs){f:Nat->Int}{h:Int}(hf:∀(i:Nat) x,hs[i]? =some x->f i=x)(hn:h∈hs):∃j i nx,t.probe f h (t.probeStart h)=some (.candidate j i nx)∧hs[i]? =some h:=by
 rcases Zjm g.up g.du (f:=f) (h:=h) _ (stP t.mask h) rfl (g.ends h)with⟨k,e,m,p⟩|⟨j,i,nx,e,m,q⟩
 ·obtain⟨i,hi⟩:=VM hn
  have hi':i<t.place.toList.length:=g.sz.symm▸(Xi.mp hi).1
  have ei:=Xl hi'
  obtain⟨k0,a0,b0⟩:=g.re i h _ hi ei
  exfalso
  rcases Bc k k0 with q|q
  ·exact m (b0 k q)
  ·rcases Bc k0 k with q2|q2
   ·obtain⟨i2,e2,n2⟩:=p k0 q2
    rw[a0]at e2
    have:i2=i:=by
     rcases Uj i2 i with z|z|z
     ·exact absurd (Zig g.up e2 ei z) (Q9 _)
     ·exact z
     ·exact absurd (Zig g.up ei e2 z) (Q9 _)
    rw[this]at n2
    exact n2 (hf i h hi)
   ·have:k=k0:=by omega
    rw[this,a0]at m
    exact m (Vt hi')
 ·have hi:i<hs.length:=g.sz▸(Xi.mp m).1
  have ei:=Xl hi
  exact⟨j,i,nx,e,by rw[ei,←q,hf i _ ei]⟩
end
theorem Z9n{α:Type}{l:List α}{p:Nat}{x:α}(hp:p≤l.length)(i:Nat):(l.take p ++ x :: l.drop p)[i]? =if i<p then l[i]? else if i=p then some x else l[i-1]?:=by
 have lt:(l.take p).length=p:=by rw[Va];omega
 by_cases c:i<p
 ·rw[if_pos c,Vj (by omega),List.getElem?_take_of_lt c]
 ·rw[if_neg c,JL (by omega),lt]
  by_cases e:i=p
  ·rw[if_pos e,e,Nat.sub_self];rfl
  ·rw[if_neg e]
   obtain⟨d,rfl⟩:∃d,i=p+d+1:=⟨i-p-1,by omega⟩
   rw[show p+d+1-p=d+1 by omega,List.getElem?_cons_succ,List.getElem?_drop];rfl
theorem Zw3{α:Type}{l:List α}{p:Nat}{x y:α}(h:y∈l):y∈l.take p ++ x :: l.drop p:=by
 rw[←List.take_append_drop p l]at h
 rcases Qc.mp h with h|h
 ·exact X7 _ h
 ·exact Xy _ (.tail _ h)
theorem GT.put{b:Bool}{t:QV}{hs:List Int}(g:GT b t hs){h:Int}{j:Nat}(hj:j∉t.place.toList)(hr:Rch' t.mask (·∈t.place.toList) h j) :
  (t.put j).1.led=b∧(t.put j).1.plain=true∧(t.put j).1.dummies=#[]∧(t.put j).1.mask=t.mask∧(t.put j).2≤hs.length∧(t.put j).1.place.toList.length=hs.length+1∧Up (t.put j).1.place.toList∧
  ∀(i:Nat) h' j',(hs.take (t.put j).2 ++ h :: hs.drop (t.put j).2)[i]? =some h'->(t.put j).1.place.toList[i]? =some j'->Rch' t.mask (·∈(t.put j).1.place.toList) h' j':=by
 have bo:=(Za2 g.up j).1
 have sz:t.place.size=hs.length:=by rw[←g.sz,Xp]
 have ep:(t.put j).1.place.toList=t.place.toList.take (Qw t.place j) ++ j :: t.place.toList.drop (Qw t.place j):=SetTable.toList_insertAt ..
 have e2:(t.put j).2=Qw t.place j:=rfl
 have nl:Zop t j:=λz=>hj (X8 (by rw[←Qd]at z;exact z))
 refine⟨g.led,g.pl,?_,rfl,by rw[e2];omega,?_,Zzm g.up nl,λi h' j' a c=>?_⟩
 ·show(if QV.has t.dummies j=true then _ else t.dummies)=#[]
  rw[g.du]
  rfl
 ·rw[ep,X6,QX,Va,VR,Xp];omega
 ·rw[ep]at c⊢
  rw[e2,Z9n (by omega)]at a
  rw[Z9n (by rw[Xp];exact bo)]at c
  have mm:∀x,x∈t.place.toList->x∈t.place.toList.take (Qw t.place j) ++ j :: t.place.toList.drop (Qw t.place j):=λx hx=>Zw3 hx
  split at a
  ·rename_i q
   rw[if_pos q]at c
   exact(g.re i h' j' a c).mono mm
  ·rename_i q
   rw[if_neg q]at c
   split at a
   ·rename_i q2
    rw[if_pos q2]at c
    cases a;cases c
    exact hr.mono mm
   ·rename_i q2
    rw[if_neg q2]at c
    exact(g.re _ h' j' a c).mono mm
noncomputable def owns(o:Array (Option Nat))(j k:Nat):Prop:=o[j]? =some (some k)
noncomputable def owned(o:Array (Option Nat))(j:Nat):Prop:=∃k,owns o j k
theorem Zdk{o:Array (Option Nat)}{j:Nat}(h:j<o.size):(o.getD j (some 0)).isNone=true↔¬owned o j:=by
 have e:o[j]? =some o[j]:=QW h
 have d:o.getD j (some 0)=o[j]:=by rw[Array.getD,dif_pos h];rfl
 rw[d]
 unfold owned owns
 rw[e]
 cases o[j]with
 | none=>exact⟨λ_ z=>z.elim λk z=>(nomatch z),λ_=>rfl⟩
 | some k=>exact⟨λz=>(nomatch z),λz=>absurd ⟨k,rfl⟩ z⟩
theorem Zke{f:Nat->Bool}:∀n,match(Xz n).find? f with|some k=>k<n∧f k=true∧∀x,x<k->f x=false|none=>∀x,x<n->f x=false:=by
 intro n
 cases e:(Xz n).find? f with
 | none=>
  intro x hx
  have:=List.find?_eq_none.mp e x (Qx.mpr hx)
  exact BJ.mpr this
 | some k=>
  have m:=Qx.mp (List.mem_of_find?_eq_some e)
  refine⟨m,List.find?_some e,λx hx=>?_⟩
  obtain⟨_,i,hi,ei,a⟩:=List.find?_eq_some_iff_getElem.mp e
  rw[List.getElem_range]at ei
  subst ei
  have:=a x hx
  rw[List.getElem_range]at this
  exact Bool.not_eq_true' _▸this
theorem Zu2{m:Nat}{o:Array (Option Nat)}(hs:o.size=m+1):∀(fuel i pb:Nat),i≤m->(∃n,n<fuel∧¬owned o (lp m n (i,pb)).1) ->
  ∃j,VL m o fuel i pb=some j∧j≤m∧¬owned o j∧∃k,(adv m k (pt m i pb)).j=j∧∀k',k'<k->owned o (adv m k' (pt m i pb)).j:=by
 intro fuel
 induction fuel with
 | zero=>exact λi pb _ h=>by obtain⟨n,hn,_⟩:=h;exact absurd hn (JQ _)
 | succ fuel ih=>
  intro i pb him hx
  rw[VL]
  have rl:=Zse m i
  have rm:=rl.2.2 him
  have at_:∀k,k≤Q4 m i-i->(adv m k (pt m i pb)).j=i+k:=λk hk=>by rw[pt,chunk m k _ _ _ _ hk]
  have ff:=Zke (f:=λk=>(o.getD (i+k) (some 0)).isNone) (Q4 m i+1-i)
  split
  ·rename_i k e
   rw[e]at ff
   obtain⟨h1,h2,h3⟩:=ff
   refine⟨i+k,rfl,by omega,(Zdk (by omega)).mp h2,k,at_ k (by omega),λk' hk'=>?_⟩
   rw[at_ k' (by omega)]
   exact VG λz=>by
    have:=(Zdk (o:=o) (j:=i+k') (by omega)).mpr z
    rw[h3 k' hk']at this
    cases this
  ·rename_i e
   rw[e]at ff
   have all:∀k,k≤Q4 m i-i->owned o (i+k):=λk hk=>VG λz=>by
    have:=(Zdk (o:=o) (j:=i+k) (by omega)).mpr z
    rw[ff k (by omega)]at this
    cases this
   obtain⟨n,hn,hm⟩:=hx
   cases n with
   | zero=>exact absurd (all 0 (QH _)) hm
   | succ n=>
    obtain⟨j,e,a1,a2,k,a3,a4⟩:=ih (VP m i pb).1 (VP m i pb).2 (Vz.mp (Nat.mod_lt _ (Ui _))) ⟨n,Vw hn,hm⟩
    refine⟨j,e,a1,a2,Q4 m i-i+1+k,by rw[Zfy,Zfj,a3],λk' hk'=>?_⟩
    rcases Bc k' (Q4 m i-i+1)with q|q
    ·rw[at_ k' (by omega)]
     exact all k' (by omega)
    ·obtain⟨d,rfl⟩:∃d,k'=Q4 m i-i+1+d:=⟨k'-(Q4 m i-i+1),by omega⟩
     rw[Zfy,Zfj]
     exact a4 d (by omega)
structure Lay(m:Nat)(o:Array (Option Nat))(hs:List Int):Prop where
 sz:o.size=m+1
 re:∀j k,owns o j k->∃h,hs[k]? =some h∧Rch' m (owned o) h j
 ex:∀k,k<hs.length->∃j,owns o j k
 inj:∀j j' k,owns o j k->owns o j' k->j=j'
 few:∃L:List Nat,L.length=hs.length∧∀j,owned o j->j∈L
noncomputable def Zdj(m:Nat)(acc:Option (Array (Option Nat)×Nat))(h:Int):Option (Array (Option Nat)×Nat):=do
 let(owner,k)←acc
 let j←VL m owner (Uz m) (Be h%(m+1)) (Be h)
 pure (owner.setIfInBounds j (some k),k+1)
theorem Zre{m:Nat}(hm:Msk m){o:Array (Option Nat)}{hs:List Int}(L:Lay m o hs)(hl:hs.length≤m)(h:Int):∃o',Zdj m (some (o,hs.length)) h=some (o',(hs ++ [h]).length)∧Lay m o' (hs ++ [h]):=by
 obtain⟨F,f1,f2⟩:=L.few
 obtain⟨e,he,hn⟩:=missing (m+1) F (by omega)
 obtain⟨n,n1,n2⟩:=cov hm (i:=Be h%(m+1)) (Vz.mp (Nat.mod_lt _ (Ui _))) (Znr h) (Vz.mp he)
 obtain⟨j,ej,jm,jo,k,k1,k2⟩:=Zu2 L.sz (Uz m) (Be h%(m+1)) (Be h) (Vz.mp (Nat.mod_lt _ (Ui _))) ⟨n,by unfold Uz;omega,by rw[n2];exact λz=>hn (f2 e z)⟩
 have js:j<o.size:=by rw[L.sz];omega
 have gs:∀x y,owns (o.setIfInBounds j (some hs.length)) x y↔(x=j∧y=hs.length)∨(x≠j∧owns o x y):=λx y=>by
  unfold owns
  rw[Array.getElem?_setIfInBounds]
  by_cases c:j=x
  ·subst c
   rw[if_pos rfl,if_pos js]
   exact⟨λz=>.inl ⟨rfl,by cases z;rfl⟩,λz=>z.elim (λq=>by rw[q.2]) λq=>absurd rfl q.1⟩
  ·rw[if_neg c]
   exact⟨λz=>.inr ⟨BL c,z⟩,λz=>z.elim (λq=>absurd q.1.symm c) λq=>q.2⟩
 have ow:∀x,owned o x->owned (o.setIfInBounds j (some hs.length)) x:=λx hx=>by
  obtain⟨y,hy⟩:=hx
  exact⟨y,(gs x y).mpr (.inr ⟨λz=>jo (z▸⟨y,hy⟩),hy⟩)⟩
 refine⟨o.setIfInBounds j (some hs.length),?_,?_,?_,?_,?_,?_⟩
 ·unfold Zdj
  show(VL m o _ _ _).bind _=_
  rw[ej,X6];rfl
 ·rw[Array.size_setIfInBounds];exact L.sz
 ·intro x y q
  rcases(gs x y).mp q with⟨rfl,rfl⟩|⟨_,q⟩
  ·exact⟨h,by rw[JL (XD _),Nat.sub_self];rfl,k,k1,λk' hk'=>ow _ (k2 k' hk')⟩
  ·obtain⟨h',e,r⟩:=L.re x y q
   exact⟨h',by rw[Vj (Xi.mp e).1];exact e,r.mono ow⟩
 ·intro y hy
  rw[X6]at hy
  by_cases c:y=hs.length
  ·exact⟨j,(gs j y).mpr (.inl ⟨rfl,c⟩)⟩
  ·obtain⟨x,hx⟩:=L.ex y (by have:y<hs.length+1:=hy;omega)
   exact⟨x,(gs x y).mpr (.inr ⟨λz=>jo (z▸⟨y,hx⟩),hx⟩)⟩
 ·intro x x' y q q'
  have lt:∀x,owns o x y->y<hs.length:=λx hx=>by
   obtain⟨h',e,_⟩:=L.re x y hx
   exact(Xi.mp e).1
  rcases(gs x y).mp q with⟨e1,e2⟩|⟨_,q1⟩
  ·rcases(gs x' y).mp q' with⟨e3,_⟩|⟨_,q2⟩
   ·rw[e1,e3]
   ·exact absurd (e2▸lt _ q2) (Q9 _)
  ·rcases(gs x' y).mp q' with⟨_,e4⟩|⟨_,q2⟩
   ·exact absurd (e4▸lt _ q1) (Q9 _)
   ·exact L.inj x x' y q1 q2
 ·refine⟨j :: F,by rw[QX,X6,f1];rfl,λx hx=>?_⟩
  obtain⟨y,hy⟩:=hx
  rcases(gs x y).mp hy with⟨rfl,_⟩|⟨_,q⟩
  ·exact .head _
  ·exact .tail _ (f2 x ⟨y,q⟩)
theorem Zr1{m:Nat}(hm:Msk m)(l:List Int):∀(hs:List Int) (o:Array (Option Nat)),Lay m o hs->hs.length+l.length≤m->∃o',l.foldl (Zdj m) (some (o,hs.length))=some (o',(hs ++ l).length)∧Lay m o' (hs ++ l):=by
 induction l with
 | nil=>exact λhs o L _=>⟨o,by rw[Qt];rfl,by rw[Qt];exact L⟩
 | cons h l ih=>
  intro hs o L hl
  rw[QX]at hl
  obtain⟨o',e,L'⟩:=Zre hm L (by omega) h
  obtain⟨o2,e2,L2⟩:=ih (hs ++ [h]) o' L' (by rw[X6];show hs.length+1+_≤m;omega)
  rw[QZ]at e2 L2
  exact⟨o2,by rw[List.foldl_cons,e];exact e2,L2⟩
theorem Zmx{m:Nat}(hm:Msk m){hs:List Int}(hl:hs.length≤m):∃o,SetTable.layClean m hs.toArray=some o∧Lay m o hs:=by
 have no:∀j k,¬owns (Array.replicate (m+1) none) j k:=λj k h=>by
  unfold owns at h
  rw[Array.getElem?_replicate]at h
  split at h<;>cases h
 obtain⟨o,e,L⟩:=Zr1 hm hs [] (Array.replicate (m+1) none) ⟨Array.size_replicate,λj k h=>absurd h (no j k),λk hk=>absurd hk (JQ _),λj j' k h=>absurd h (no j k),[],rfl,λj h=>h.elim λk h=>absurd h (no j k)⟩ (by rw[Vm];omega)
 refine⟨o,?_,L⟩
 unfold SetTable.layClean
 rw[List.foldl_toArray]
 have:hs.foldl (Zdj m) (some (Array.replicate (m+1) none,0))=some (o,([] ++ hs).length):=e
 show Option.map _ (hs.foldl (Zdj m) (some (Array.replicate (m+1) none,0)))=_
 rw[this];rfl
noncomputable def Zd8(m:Nat)(o:Array (Option Nat)):List (Nat×Nat):=(Xz (m+1)).filterMap λj=>(o.getD j none).map (j,·)
theorem Zag{m:Nat}{o:Array (Option Nat)}(hs:o.size=m+1){q:Nat×Nat}:q∈Zd8 m o↔owns o q.1 q.2:=by
 unfold Zd8 owns
 rw[U8]
 constructor
 ·intro h
  obtain⟨j,hj,e⟩:=h
  have hj:=Qx.mp hj
  obtain⟨k,e1,rfl⟩:=XQ.mp e
  rw[VD,QW (by omega)]at e1
  rw[QW (by omega)]
  exact congrArg some e1
 ·intro h
  have hj:q.1<o.size:=(Vd.mp h).1
  refine⟨q.1,Qx.mpr (by omega),?_⟩
  rw[VD,h];rfl
theorem Zwc{m:Nat}{o:Array (Option Nat)}{hs:List Int}(L:Lay m o hs):((Zd8 m o).map (·.2)).Perm (Xz hs.length):=by
 have up:((Zd8 m o).map (·.1)).Pairwise (·<·):=Zne _ _
 have nd:((Zd8 m o).map (·.2)).Nodup:=by
  refine List.pairwise_map.mpr (List.Pairwise.imp_of_mem (fun{a b} ha hb lt e=>?_) (List.pairwise_map.mp up))
  have h1:=(Zag L.sz).mp ha
  have h2:=(Zag L.sz).mp hb
  rw[e]at h1
  rw[L.inj _ _ _ h1 h2]at lt
  exact Q9 _ lt
 refine(List.perm_ext_iff_of_nodup nd List.nodup_range).mpr λk=>?_
 rw[Qx,XR]
 constructor
 ·intro h
  obtain⟨q,hq,rfl⟩:=h
  obtain⟨h,e,_⟩:=L.re _ _ ((Zag L.sz).mp hq)
  exact(Xi.mp e).1
 ·intro h
  obtain⟨j,hj⟩:=L.ex k h
  exact⟨(j,k),(Zag L.sz).mpr hj,rfl⟩
theorem Zwq{m fi mo:Nat}{b:Bool}(hm:Msk m){hs:List Int}(hl:hs.length*5<m*3):∃t' order,SetTable.laid m fi mo b true hs.toArray=some (t',order)∧t'.mask=m∧order.toList.Perm (Xz hs.length)∧GT b t' (order.toList.map λk=>hs.getD k 0):=by
 obtain⟨o,e,L⟩:=Zmx hm (hs:=hs) (by omega)
 have pm:=Zwc L
 refine⟨{ mask:=m,place:=((Zd8 m o).map (·.1)).toArray,dummies:=#[],finger:=fi,led:=b,moves:=mo,plain:=true },((Zd8 m o).map (·.2)).toArray,?_,rfl,pm,?_⟩
 ·unfold SetTable.laid
  rw[e];rfl
 ·refine⟨rfl,rfl,rfl,hm,?_,Zne _ _,?_,λi h j a c=>?_⟩
  ·show((Zd8 m o).map (·.1)).length=_
   rw[Xe,Xe,Xe]
  ·rw[Xe,pm.length_eq,XX];exact hl
  ·have c:((Zd8 m o).map (·.1))[i]? =some j:=c
   have a:(((Zd8 m o).map (·.2)).map λk=>hs.getD k 0)[i]? =some h:=a
   rw[Qq,Xj]at a
   rw[Xj]at c
   obtain⟨q,hq,rfl⟩:=XQ.mp c
   rw[hq]at a
   obtain⟨h',e1,r⟩:=L.re _ _ ((Zag L.sz).mp (X8 hq))
   have:h=h':=by
    cases a
    show hs.getD q.2 0=h'
    rw[Xq,e1];rfl
   rw[this]
   refine r.mono λx hx=>?_
   obtain⟨y,hy⟩:=hx
   exact XR.mpr ⟨(x,y),(Zag L.sz).mpr hy,rfl⟩
noncomputable def Ent(U:Addr->Prop)(κ:Addr->List Int)(e:Int×Xc):Prop:=∃a,e=(hT (κ a),Xu a)∧U a
noncomputable def kOf(κ:Addr->List Int)(e:Int×Xc):List Int:=match e.2 with| .ref a=>κ a|_=>[]
noncomputable def HI(D:List (List Int)):Prop:=∀k,k∈D->∀k',k'∈D->hT k=hT k'->k=k'
noncomputable def TuS(U:Addr->Prop)(κ:Addr->List Int)(b:Bool)(h:Heap)(S:Addr)(ks:List (List Int)):Prop :=
 ∃o es ep t,h.get? S=some o∧o.ExactSet∧o.data= .set es ep t∧(∀e,e∈es.toList->Ent U κ e)∧GT b t (es.toList.map (·.1))∧es.toList.map (kOf κ)=ks
theorem Z18{α β:Type}{f:α->β}{l:List α}(h:(l.map f).Nodup){x y:α}(hx:x∈l)(hy:y∈l)(e:f x=f y):x=y:=by
 induction l with
 | nil=>cases hx
 | cons a l ih=>
  obtain⟨h1,h2⟩:=Qk.mp h
  rcases Xn.mp hx with rfl|mx
  ·rcases Xn.mp hy with rfl|my
   ·rfl
   ·exact absurd (e▸XR.mpr ⟨y,my,rfl⟩) h1
  ·rcases Xn.mp hy with rfl|my
   ·exact absurd (e▸XR.mpr ⟨x,mx,rfl⟩) h1
   ·exact ih h2 mx my
theorem Z7s{α:Type}{es:Array α}(d:α)(l:List Nat)(h:∀k,k∈l->k<es.size):l.filterMap (λk=>es[k]?)=l.map λk=>es.toList.getD k d:=by
 induction l with
 | nil=>rfl
 | cons a l ih=>
  have ha:=h a (.head _)
  rw[QQ,QW ha,Qg,ih λk m=>h k (.tail _ m),Xq,Qd,QW ha];rfl
section
variable {prog:X4}{w:Qm}{A:Qn}{E:Xc->Xf->Prop}{s:Xf}{b:Bool}
theorem TuS.fits{U:Addr->Prop}{κ:Addr->List Int}{es:Array (Int×Xc)}{t:QV}(g:GT b t (es.toList.map (·.1))):t.fits es.size=true:=by
 have:=g.fits
 rwa[Xe,Xp]at this
theorem Zjd{t:QV}{es:Array (Int×Xc)}{h:Int}{m:Option QV.Met}(e:t.probe (λi=>(es[i]?.map (·.1)).getD 0) h (t.probeStart h)=m)(f:Nat->Int)(hf:∀i,f i=(es[i]?.map (·.1)).getD 0):t.probe f h ((none:Option Vq).getD (t.probeStart h))=m:=by
 rw[funext hf];exact e
theorem Znb{es:Array (Int×Xc)}:∀(i:Nat) x,(es.toList.map (·.1))[i]? =some x->(es[i]?.map (·.1)).getD 0=x:=λi x h=>by
 rw[Xj,Qd]at h
 rw[h];rfl
theorem Z20{S:Addr}{o:Obj}{es:Array (Int×Xc)}{ep:Nat}{t:QV}{x:Xc}{h:Int}{j:Nat}{Q:SetFound->Xf->Prop}(ho:s.heap.get? S=some o)(hd:o.data= .set es ep t)(g:GT b t (es.toList.map (·.1)))
  (hp:t.probe (λi=>(es[i]?.map (·.1)).getD 0) h (t.probeStart h)=some (.empty j none)) (q:Q (.free j false) s):Xx (X5 prog w) A (setSearch S x h true) Q E s:=by
 unfold setSearch setSearchFrom
 refine Xb (JH ho hd (TuS.fits (U:=λ_=>True) (κ:=λ_=>[]) g) ?_)
 dsimp only
 rw[g.way]
 simp only[XC,if_false]
 rw[Zjd hp]
 ·exact Xk q
 ·exact λi=>rfl
theorem Zzj{U:Addr->Prop}{κ:Addr->List Int}{S a:Addr}{o:Obj}{es:Array (Int×Xc)}{ep:Nat}{t:QV}{j i:Nat}{nx:Vq}{Q:SetFound->Xf->Prop}(hu:A.units<Vu)(ho:s.heap.get? S=some o)(hd:o.data= .set es ep t)(g:GT b t (es.toList.map (·.1)))(he:∀e,e∈es.toList->Ent U κ e)
  (hG:∀a,U a->IK prog w s.heap (κ a) a) (ha:U a) {a':Addr} (hi:es[i]? =some (hT (κ a'),Xu a')) (ua:U a') (ek:κ a'=κ a) (hp:t.probe (λi=>(es[i]?.map (·.1)).getD 0) (hT (κ a)) (t.probeStart (hT (κ a)))=some (.candidate j i nx)) (q:Q (.there none) s):Xx (X5 prog w) A (setSearch S (.ref a) (hT (κ a)) true) Q E s:=by
 have hf:=TuS.fits (U:=λ_=>True) (κ:=λ_=>[]) g
 unfold setSearch setSearchFrom
 refine Xb (JH ho hd hf ?_)
 dsimp only
 rw[g.way]
 simp only[XC,if_false]
 rw[Zjd hp]
 rotate_left
 ·exact λi=>rfl
 dsimp only
 have fin:Xx (X5 prog w) A (holding [Xu a'] (eqBool (.ref a') (.ref a))) (λv s'=>v=true∧s'=s) E s:=By (wpAny_eqBool_tuple hu (hG a' ua) (hG a ha) ⟨decide_eq_true ek,rfl⟩)
 cases hb:t.led with
 | true=>
  simp only[BX,XC,if_false]
  rw[hi]
  refine Xb (thn fin λv s' z=>?_)
  obtain⟨rfl,rfl⟩:=z
  refine Xb (JH ho hd hf ?_)
  dsimp only
  rw[if_pos (show(true&&true)=true from rfl)]
  exact Xk q
 | false=>
  simp only[Bool.not_false,if_true]
  refine Xb (Zpr (hG a ha) (λy hy=>?_) ?_)
  ·obtain⟨e,he1,rfl⟩:=XR.mp hy
   have he':e∈es.toList:=by
    rw[Array.toList_filter]at he1
    exact(Vy.mp he1).1
   obtain⟨b,eb,ub⟩:=he e he'
   exact⟨b,κ b,by rw[eb],hG b ub⟩
  ·simp only[XC,if_false]
   rw[hi]
   refine Xb (thn fin λv s' z=>?_)
   obtain⟨rfl,rfl⟩:=z
   refine Xb (JH ho hd hf ?_)
   dsimp only
   rw[if_pos (show(true&&true)=true from rfl)]
   exact Xk q
theorem Zmz{h:Heap}{S:Addr}{o:Obj}{es es':Array (Int×Xc)}{ep:Nat}{t t':QV}(ho:h.get? S=some o)(hd:o.data= .set es ep t):(h.update S (Obj.putSet es' t')).get? S=some { o with data:=.set es' (ep+1) t' }:=by
 have:=Uo (Obj.putSet es' t') ho (by rw[putSet_of _ _ hd];rfl)
 rw[putSet_of _ _ hd]at this
 exact this
theorem Zwv{S:Addr}{o:Obj}{es:Array (Int×Xc)}{ep n m:Nat}{t:QV}{Q:Unit->Xf->Prop}(ho:s.heap.get? S=some o)(hd:o.data= .set es ep t)(hf:t.fits es.size=true)(hled:t.led=b)(hpl:t.plain=true)(hm:Msk m)(hn:SetTable.sizeAbove n=m+1)(hl:es.size*5<m*3)
  (q:∀es' t',es'.toList.Perm es.toList->GT b t' (es'.toList.map (·.1))->Q () { s with heap:=s.heap.update S (Obj.putSet es' t') }):Xx (X5 prog w) A (setRelay S n) Q E s:=by
 have hml:m+1≤128:=by rcases hm with e|e|e<;>rw[e]<;>decide
 unfold setRelay
 refine Xb (JH ho hd hf ?_)
 dsimp only
 rw[hn,if_neg (by rw[Qh];omega)]
 have eh:es.map (·.1)=(es.toList.map (·.1)).toArray:=by
  apply Array.toList_inj.mp
  rw[Array.toList_map]
 obtain⟨t',order,e,em,pm,g⟩:=Zwq (fi:=t.finger) (mo:=t.movedTo (m+1-1)) (b:=b) hm (hs:=es.toList.map (·.1)) (by rw[Xe,Xp];exact hl)
 have er:t.relaid (es.map (·.1)) n=some (t',order):=by
  unfold QV.relaid
  rw[hn,eh,hled,hpl]
  exact e
 rw[er]
 have lt:∀k,k∈order.toList->k<es.size:=λk hk=>by
  have:=Qx.mp (pm.mem_iff.mp hk)
  rwa[Xe,Xp]at this
 have e2:(order.filterMap (λk=>es[k]?)).toList=order.toList.map λk=>es.toList.getD k (0,QK):=by rw[Array.toList_filterMap];exact Z7s _ _ lt
 have p2:(order.filterMap (λk=>es[k]?)).toList.Perm es.toList:=by
  rw[Array.toList_filterMap]
  have:=pm.filterMap (λk=>es[k]?)
  rw[Xe,Xp,filterMap_getElem?_range es]at this
  exact this
 have sz:(order.filterMap (λk=>es[k]?)).size=es.size:=by rw[←Xp,p2.length_eq,Xp]
 refine Xb ?_
 show Xx _ _ (if((order.filterMap (λk=>es[k]?)).size !=es.size)=true then _ else _) _ _ _
 rw[sz,bne_self_eq_false]
 simp only[XC,if_false]
 refine Xk (wpAny_storeSet_of ho hd (q _ t' p2 ?_) (by rw[sz,Qh];omega))
 rw[e2,Qq]
 have:(order.toList.map λk=>(es.toList.map (·.1)).getD k 0)=order.toList.map ((λe:Int×Xc=>e.1)∘ λk=>es.toList.getD k (0,QK)):=by
  refine Qe λk _=>?_
  show(es.toList.map (·.1)).getD k 0=(es.toList.getD k (0,QK)).1
  rw[Xq,Xq,Xj]
  cases es.toList[k]? <;>rfl
 rw[←this]
 exact g
theorem Z6j{U:Addr->Prop}{κ:Addr->List Int}{D:List (List Int)}{S a:Addr}{ks:List (List Int)}{Q:Bool->Xf->Prop}(hu:A.units<Vu)(hD:HI D)(hS:TuS U κ b s.heap S ks)(hG:∀a,U a->IK prog w s.heap (κ a) a)(hUD:∀a,U a->κ a∈D)(ha:U a)(hl:ks.length<64)
  (q:∀v h' tk ks',Bk S s.heap h'->TuS U κ b h' S ks'->(κ a∈ks->ks'=ks)->(κ a∉ks->ks'.Perm (ks ++ [κ a]))->Q v { s with heap:=h',toks:=tk }):Xx (X5 prog w) A (setAdd S (.ref a)) Q E s:=by
 have hS0:=hS
 obtain⟨o,es,ep,t,ho,hex,hd,he,g,rfl⟩:=hS
 rw[Xe,Xp]at hl
 have hf:=TuS.fits (U:=U) (κ:=κ) g
 have iff:hT (κ a)∈es.toList.map (·.1)↔κ a∈es.toList.map (kOf κ):=by
  constructor
  ·intro m
   obtain⟨e,me,ee⟩:=XR.mp m
   obtain⟨b,rfl,ub⟩:=he e me
   refine XR.mpr ⟨_,me,?_⟩
   exact hD _ (hUD b ub) _ (hUD a ha) ee
  ·intro m
   obtain⟨e,me,ee⟩:=XR.mp m
   obtain⟨b,rfl,ub⟩:=he e me
   have ee:κ b=κ a:=ee
   exact XR.mpr ⟨_,me,by rw[ee]⟩
 unfold setAdd
 refine By (Xb (wpAny_pyHash_tuple hu (hG a ha) ?_))
 show Xx _ _ (setAddHashed S (.ref a) (hT (κ a))) Q E _
 unfold setAddHashed setAddHashedIn
 refine By (Xb (JH ho hd hf ?_))
 dsimp only
 rw[show byScan (.ref a) es=false from rfl]
 simp only[XC,if_false]
 by_cases c:hT (κ a)∈es.toList.map (·.1)
 ·obtain⟨j,i,nx,hp,hi⟩:=g.old (f:=λi=>(es[i]?.map (·.1)).getD 0) Znb c
  rw[Xj,Qd]at hi
  obtain⟨e,ei,eh⟩:=XQ.mp hi
  obtain⟨a',rfl,ua⟩:=he e (by rw[←Qd]at ei;exact X8 ei)
  refine Xb (Zzj (s:={ s with toks:=s.toks+((κ a).length+1) }) hu ho hd g he hG ha ei ua (hD _ (hUD _ ua) _ (hUD _ ha) eh) hp ?_)
  exact Xk (q false s.heap _ _ (Bk.refl ..) hS0 (λ_=>rfl) λz=>absurd (iff.mp c) z)
 ·obtain⟨j,hp,hj,hr⟩:=g.new (f:=λi=>(es[i]?.map (·.1)).getD 0) Znb c
  refine Xb (Z20 (s:={ s with toks:=s.toks+((κ a).length+1) }) ho hd g hp ?_)
  dsimp only
  refine Xb (JH ho hd hf ?_)
  dsimp only
  obtain⟨b1,b2,b3,b4,b5,b6,b7,b8⟩:=g.put hj hr
  obtain⟨t1,p1,hput⟩:∃t1 p1,t.put j=(t1,p1):=⟨_,_,rfl⟩
  rw[hput]at b1 b2 b3 b4 b5 b6 b7 b8
  dsimp only at b1 b2 b3 b4 b5 b6 b7 b8
  rw[Xe]at b5 b6
  rw[Xp (xs:=es)]at b5 b6
  rw[hput]
  dsimp only
  rw[b2,if_pos rfl]
  refine Xb (Zlk (s:={ s with toks:=s.toks+((κ a).length+1) }) (hG a ha) ?_)
  rw[if_pos rfl]
  have sz:(JF es p1 (hT (κ a),Xu a)).toList=es.toList.take p1 ++ (hT (κ a),Xu a) :: es.toList.drop p1:=Zk7 es _ _ b5
  have szl:(JF es p1 (hT (κ a),Xu a)).size=es.size+1:=by
   rw[←Xp,sz,X6,QX,Va,VR,Xp];omega
  have hh:(JF es p1 (hT (κ a),Xu a)).toList.map (·.1)=(es.toList.map (·.1)).take p1 ++ hT (κ a) :: (es.toList.map (·.1)).drop p1:=by rw[sz,Qy,Qg,List.map_take,List.map_drop]
  have he1:∀e,e∈(JF es p1 (hT (κ a),Xu a)).toList->Ent U κ e:=λe m=>by
   rw[sz]at m
   rcases Qc.mp m with m|m
   ·exact he e (List.mem_of_mem_take m)
   ·rcases Xn.mp m with rfl|m
    ·exact⟨a,rfl,ha⟩
    ·exact he e (List.mem_of_mem_drop m)
  have hk1:((JF es p1 (hT (κ a),Xu a)).toList.map (kOf κ)).Perm (es.toList.map (kOf κ) ++ [κ a]):=by
   rw[sz,Qy,Qg]
   refine(List.perm_middle).trans ?_
   rw[←Qy,List.take_append_drop]
   exact List.perm_append_comm (l₁:=[κ a])
  have nk:κ a∉es.toList.map (kOf κ):=λz=>c (iff.mpr z)
  have fl:t1.fill=es.size+1:=by
   unfold SetTable.fill
   rw[b3,←Xp,b6];rfl
  have fu:=g.fu
  rw[Xe,Xp]at fu
  have hf1:t1.fits (JF es p1 (hT (κ a),Xu a)).size=true:=by
   unfold U7
   rw[fl,szl,←Xp,b6,beq_self_eq_true,b4,decide_eq_true (by rcases g.mm with e|e|e<;>rw[e]at fu⊢ <;>omega)];rfl
  refine Xb (wpAny_storeSet_of ho hd ?_ (by rw[szl,Qh];omega))
  have hg:=Zmz (es':=JF es p1 (hT (κ a),Xu a)) (t':=t1) ho hd
  by_cases tf:(es.size+1)*5≥t.mask*3
  ·have e1:t1.tooFull=true:=by
    unfold SetTable.tooFull
    rw[fl,b4];exact decide_eq_true tf
   rw[e1]
   simp only[Bool.not_false,Bool.and_self,if_true]
   obtain⟨m,hm,hn,hlm⟩:∃m,Msk m∧SetTable.sizeAbove (QV.grown (es.size+1))=m+1∧(es.size+1)*5<m*3:=by
    rcases g.mm with e|e|e<;>rw[e]at fu tf
    ·have:es.size=4:=by omega
     rw[this]
     exact⟨31,.inr (.inl rfl),by decide +kernel,by decide⟩
    ·have:es.size=18:=by omega
     rw[this]
     exact⟨127,.inr (.inr rfl),by decide +kernel,by decide⟩
    ·omega
   refine Xb (Zwv (b:=b) (m:=m) (s:={ s with heap:=s.heap.update S (Obj.putSet (JF es p1 (hT (κ a),Xu a)) t1),toks:=s.toks+((κ a).length+1) }) hg rfl hf1 b1 b2 hm hn (by rw[szl];exact hlm) λes2 t2 pm g2=>?_)
   have hg2:=Zmz (es':=es2) (t':=t2) hg rfl
   exact Xk (q true _ _ _ ((JM s.heap S _).trans (JM _ S _)) ⟨_,es2,_,t2,hg2,hex,rfl,λe m=>he1 e (pm.mem_iff.mp m),g2,rfl⟩ (λz=>absurd z nk) λ_=>(pm.map _).trans hk1)
  ·have e1:t1.tooFull=false:=by
    unfold SetTable.tooFull
    rw[fl,b4];exact decide_eq_false tf
   rw[e1]
   simp only[Bool.and_false,XC,if_false]
   refine Xk (q true _ _ _ (JM ..) ⟨_,_,_,t1,hg,hex,rfl,he1,?_,rfl⟩ (λz=>absurd z nk) λ_=>hk1)
   rw[hh]
   refine⟨b1,b2,b3,b4▸g.mm,?_,b7,?_,?_⟩
   ·rw[b6,←hh,Xe,Xp,szl]
   ·rw[←hh,Xe,Xp,szl,b4];omega
   ·rw[b4];exact b8
end
end L2
namespace L2
open PySem PySem.Spec PyProof.Rows PySem.W
noncomputable def OfL{α:Type}(ks ns:List α):Prop:=ks.Nodup∧∀x,x∈ks↔x∈ns
theorem OfL.add{α:Type}[DecidableEq α]{ks ks2 ns:List α}{k:α}(h:OfL ks ns)(c1:k∈ks->ks2=ks)(c2:k∉ks->ks2.Perm (ks ++ [k])):OfL ks2 (ns ++ [k])∧ks2.length≤ks.length+1:=by
 by_cases c:k∈ks
 ·rw[c1 c]
  refine⟨⟨h.1,λx=>?_⟩,Nat.le_succ _⟩
  rw[Qc,←h.2,Xm]
  exact⟨.inl,λm=>m.elim id λe=>e▸c⟩
 ·have pm:=c2 c
  refine⟨⟨pm.nodup_iff.mpr (Vn.mpr ⟨h.1,Qk.mpr ⟨(λz=>nomatch z),.nil⟩,λa ha y hy e=>c (by rw[←Xm.mp hy,←e];exact ha)⟩),λx=>?_⟩,by rw[pm.length_eq,X6];exact XD _⟩
  rw[pm.mem_iff,Qc,Qc,h.2]
section
variable {prog:X4}{w:Qm}{A:Qn}{R:Result->Xf->Prop}{I:Addr}{fp wr:List Addr}{n:Nat}{Pv:Nat->Xc->Prop}{St:Nat->Heap->Prop}{b:Bool}
theorem TuS.stay{U:Addr->Prop}{κ:Addr->List Int}{h h':Heap}{S:Addr}{ks:List (List Int)}(hS:TuS U κ b h S ks)(k:∀o,h.get? S=some o->h'.get? S=some o):TuS U κ b h' S ks:=by
 obtain⟨o,es,ep,t,ho,r⟩:=hS
 exact⟨o,es,ep,t,k o ho,r⟩
theorem IK.stay{h h':Heap}{k:List Int}{a:Addr}(hk:IK prog w h k a)(e:∀o,h.get? a=some o->h'.get? a=some o):IK prog w h' k a:=by
 obtain⟨o,its,c,ho,rest⟩:=hk
 exact⟨o,its,c,e o ho,rest⟩
theorem Zzw(W:Walks prog w A.in1 I fp wr n Pv St)(S:Addr)(sf:S∉fp)(hu:A.units+8<Vu){U:Addr->Prop}{κ:Addr->List Int}{D:List (List Int)}(hD:HI D)(hUD:∀a,U a->κ a∈D)(hU:∀a,U a->a≠S∧a∉wr)(kss:List (List Int))(ln:kss.length=n)(lb:n<64)(hv:∀i v,Pv i v->∃a,v=Xu a∧kss[i]? =some (κ a)∧U a) :
  ∀(m i:Nat) (s:Xf) (ks:List (List Int)),n-i=m->i≤n->St i s.heap->TuS U κ b s.heap S ks->(∀a,U a->IK prog w s.heap (κ a) a)->OfL ks (kss.take i)->ks.length≤i ->
  (∀ h' tk ks',TuS U κ b h' S ks'->OfL ks' kss->(∀b o,b∉wr->b≠S->s.heap.get? b=some o->h'.get? b=some o)->R (.ok (.ret .none)) { s with heap:=h',toks:=tk }) ->
  U0 (X5 prog w) A (.builtin "set.update.loop" ⟨[.ref S,.ref I],[]⟩) R s:=by
 have sw:S∉wr:=λh=>sf (W.sub _ h)
 intro m
 induction m with
 | zero=>
  intro i s ks em ei st hS hG hO lk r
  have en:i=n:=by omega
  refine VJ F.entry_set_update_loop ?_;rw[VH F.plain_set_update_loop _]
  show Xx _ A.in1 (V9 (.ref I)>>=_) _ _ _
  refine Xb (W.done s _ _ (en▸st) λh' tk kp=>?_)
  show Xx _ A.in1 (ret QK) _ _ { s with heap:=h',toks:=tk }
  rw[List.take_of_length_le (by omega)]at hO
  exact Xk (r h' tk ks (hS.stay λo e=>kp S o sw e) hO λb o nb _ e=>kp b o nb e)
 | succ m ih=>
  intro i s ks em ei st hS hG hO lk r
  have lt:i<n:=by omega
  refine VJ F.entry_set_update_loop ?_;rw[VH F.plain_set_update_loop _]
  show Xx _ A.in1 (V9 (.ref I)>>=_) _ _ _
  refine Xb (W.item i s _ _ lt st λv h' tk pv st' kp=>?_)
  obtain⟨a,rfl,ek,ua⟩:=hv i v pv
  show Xx _ A.in1 (holding [Xu a] (setAdd S (.ref a))>>=_) _ _ { s with heap:=h',toks:=tk }
  have hG':∀a,U a->IK prog w h' (κ a) a:=λa u=>(hG a u).stay λo e=>kp a o (hU a u).2 e
  refine Xb (By (Z6j (b:=b) (s:={ s with heap:=h',toks:=tk }) (A:=A.in1) (show A.units+1<Vu by omega) hD (hS.stay λo e=>kp S o sw e) hG' hUD ua (by omega) λv h2 tk2 ks2 sb hS2 c1 c2=>?_))
  have k2:∀b o,b≠S->h'.get? b=some o->h2.get? b=some o:=λb o nS e=>by rw[sb.2 b nS];exact e
  have et:kss.take (i+1)=kss.take i ++ [κ a]:=by rw[List.take_succ,ek];rfl
  obtain⟨O2,l2⟩:=hO.add c1 c2
  rw[←et]at O2
  refine Xk ⟨plainId_quiet F.plain_set_update_loop _,ih (i+1) _ ks2 (by omega) lt (W.frame _ _ _ st' λb bf o e=>k2 b o (λh:b=S=>sf (by rw[←h];exact bf)) e) hS2 (λa u=>(hG' a u).stay λo e=>k2 a o (hU a u).1 e) O2 (by omega) λh3 tk3 ks3 hS3 hO3 kp3=>?_⟩
  exact r h3 tk3 ks3 hS3 hO3 λb o nb nS e=>kp3 b o nb nS (k2 b o nS (kp b o nb e))
end
section
variable {prog:X4}{w:Qm}{A:Qn}{E:Xc->Xf->Prop}{s:Xf}
theorem Z2r{l:Addr}{its:Array Xc}{κ:Addr->List Int}{D kss:List (List Int)}{b:Bool}{Q:Xc->Xf->Prop}(hh:A.handled=none)(hu:A.units+24<Vu)(hD:HI D)(hl:s.heap.IsList l its)(ln:kss.length=its.size)(lb:its.size<64)
  (hv:∀(i:Nat) (v:Xc),its[i]? =some v->∃a,v=Xu a∧kss[i]? =some (κ a)∧κ a∈D∧IK prog w s.heap (κ a) a)
  (q:∀h' tk ks,TuS (λa=>∃i:Nat,its[i]? =some (Xu a)) κ b h' s.heap.objs.size ks->OfL ks kss->(∀b o,b<s.heap.objs.size->s.heap.get? b=some o->h'.get? b=some o)->Q .none { s with heap:=h',toks:=tk }) :
  Xx (X5 prog w) A (Vo.«set.__init__» ⟨[Xu s.heap.objs.size,Xu l],[]⟩) (λfin s'=>∃v,fin= .done (.ret v)∧Q v s') E { s with heap:=s.heap.push { cls:=.type "set",dict:=none,data:=.set #[] 0 (.fresh 0 0 b) } }:=by
 obtain⟨ol,hol,hcl,nl,hdl⟩:=id hl
 obtain⟨ocls,odict,odata,oslots⟩:=ol
 simp only at hcl hdl
 subst hcl hdl
 have ho':(s.heap.push { cls:=.type "set",dict:=none,data:=.set #[] 0 (.fresh 0 0 b) }).get? l=some { cls:=.type "list",dict:=odict,data:=.seq its nl,slots:=oslots }:=Xg _ hol
 have gS:(s.heap.push { cls:=.type "set",dict:=none,data:=.set #[] 0 (.fresh 0 0 b) }).get? s.heap.objs.size=some { cls:=.type "set",dict:=none,data:=.set #[] 0 (.fresh 0 0 b) }:=XJ _ rfl
 have hT:Shared.TypeIs { s with heap:=s.heap.push { cls:=.type "set",dict:=none,data:=.set #[] 0 (.fresh 0 0 b) } } (.ref s.heap.objs.size) "set" :=⟨_,gS,rfl⟩
 have h1:=F.sub_list_set
 have h2:=F.sub_list_frozenset
 have h3:(Value.type "list"==Value.type "dict")=false:=by decide
 have hl1:(s.heap.push { cls:=.type "set",dict:=none,data:=.set #[] 0 (.fresh 0 0 b) }).IsList l its:=⟨_,ho',rfl,nl,rfl⟩
 unfold Vo.«set.__init__» noKeywords Builtin.Frozenset.updateFrom
 generalize hPI:pyIter=PI
 wp_walk
 subst hPI
 refine wpAny_pyIter_list hl1 (Xb (wpAny_runValue ?_))
 have lS:l<s.heap.objs.size:=XH hol
 have old:∀a,(∃i:Nat,its[i]? =some (Xu a))->κ a∈D∧IK prog w s.heap (κ a) a:=λa u=>by
  obtain⟨i,hi⟩:=u
  obtain⟨a',e,_,r⟩:=hv i _ hi
  cases e
  exact r
 have below:∀a,(∃i:Nat,its[i]? =some (Xu a))->a<s.heap.objs.size:=λa u=>by
  obtain⟨_,o,_,_,ho,_⟩:=old a u
  exact XH ho
 have emp:GT b (.fresh 0 0 b) []:=⟨rfl,rfl,rfl,.inl rfl,rfl,.nil,(show 0<21 by decide),λi h j e=>by rw[Ue]at e;cases e⟩
 refine Zzw (b:=b) (U:=λa=>∃i:Nat,its[i]? =some (Xu a)) (Walks.list (by simpa using hh) _ l ?hne its) s.heap.objs.size ?sf ?hu hD (λa u=>(old a u).1) ?hU kss ln lb (λi v hiv=>?hv) its.size 0 _ [] (by omega) (QH _) ⟨⟨_,XJ _ rfl,rfl,rfl⟩,hl1.push _⟩ ⟨_,#[],0,_,Xg _ gS,⟨rfl,rfl,rfl⟩,rfl,(λe m=>nomatch m),emp,rfl⟩ ?hG ⟨.nil,λx=>by rw[List.take_zero]⟩ (XD _) ?hR
 case hne=>rw[QG];exact Xo (Ba lS)
 case sf=>
  rw[QG]
  intro m
  rcases Xn.mp m with e|m
  ·exact Xo (QL _) e
  ·exact X3 lS (Xm.mp m)
 case hu=>show A.units+8<Vu;omega
 case hU=>
  intro a u
  have:=below a u
  refine⟨Xo this,λm=>?_⟩
  rw[QG]at m
  exact Xo (Ba this) (Xm.mp m)
 case hv=>
  obtain⟨a,rfl,ek,_⟩:=hv i v hiv
  exact⟨a,rfl,ek,i,hiv⟩
 case hG=>exact λa u=>(old a u).2.stay λo e=>Xg _ (Xg _ e)
 case hR=>
  intro h' tk ks hS hO kp
  refine Xk ?_;show Xx _ _ (ret QK) _ _ { s with heap:=h',toks:=tk }
  refine Xk ⟨_,rfl,q h' tk ks hS hO λb o lb e=>?_⟩
  refine kp b o (λm=>?_) (Xo lb) (Xg _ (Xg _ e))
  rw[QG]at m
  exact Xo (Ba lb) (Xm.mp m)
theorem Znv{l:Addr}{its:Array Xc}{κ:Addr->List Int}{D kss:List (List Int)}{Q:Xc->Xf->Prop}(hh:A.handled=none)(hu:A.units+32<Vu)(hD:HI D)(hl:s.heap.IsList l its)(ln:kss.length=its.size)(lb:its.size<64)
  (hv:∀(i:Nat) (v:Xc),its[i]? =some v->∃a,v=Xu a∧kss[i]? =some (κ a)∧κ a∈D∧IK prog w s.heap (κ a) a)
  (q:∀h' tk ks,TuS (λa=>∃i:Nat,its[i]? =some (Xu a)) κ (!byT w) h' s.heap.objs.size ks->OfL ks kss->(∀b o,b<s.heap.objs.size->s.heap.get? b=some o->h'.get? b=some o)->Q (Xu s.heap.objs.size) { s with heap:=h',toks:=tk }) :
  Xx (X5 prog w) A (call (.type "set") [Xu l]) Q E s:=by
 obtain⟨c,tl,e0⟩:=V4.mro
 have e1:=V4.made
 have e2:=V4.sub
 refine wpAny_call (codeAny_of_tree ?_);show Xx _ _ (callAny (.type "set") _) _ _ _
 refine Xk ⟨Code.quiet_builtin _ (by decide +kernel),VJ F.entry_type_call ?_⟩;rw[Qn.under_plain (weight_type_call_type "set" [Xu l] []) rfl]
 have e3:=V4.notType
 have e4:=V4.canCreate
 have e5:=F.typeCall_set_1 (Xu l)
 repeat any_goals first|assumption|wp_step
 refine codeAny_mono (Z5s (Xu l) (E:=E) (Q₁:=λobj s1=>obj=Xu s.heap.objs.size∧s1={ s with heap:=s.heap.push { cls:=.type "set",dict:=none,data:=.set #[] 0 (.fresh 0 0 (!byT w)) } }) ⟨rfl,rfl⟩) λr s1 r1=>?_
 cases r with
 | error e=>exact r1
 | ok fl=>
  cases fl with
  | ret obj=>
   obtain⟨rfl,rfl⟩:=r1
   have gS:(s.heap.push { cls:=.type "set",dict:=none,data:=.set #[] 0 (.fresh 0 0 (!byT w)) }).get? s.heap.objs.size=some { cls:=.type "set",dict:=none,data:=.set #[] 0 (.fresh 0 0 (!byT w)) }:=XJ _ rfl
   have hT:Shared.TypeIs { s with heap:=s.heap.push { cls:=.type "set",dict:=none,data:=.set #[] 0 (.fresh 0 0 (!byT w)) } } (Xu s.heap.objs.size) "set" :=⟨_,gS,rfl⟩
   have e6:=V4.init.lookup
   have e7:=V4.init.bind (Xu s.heap.objs.size)
   repeat any_goals first|assumption|wp_step
   refine codeAny_mono (codeAny_call_builtin (R:=wants (λr s2=>r= .none∧∃h' tk ks,s2={ s with heap:=h',toks:=tk }∧TuS (λa=>∃i:Nat,its[i]? =some (Xu a)) κ (!byT w) h' s.heap.objs.size ks∧OfL ks kss∧∀b o,b<s.heap.objs.size->s.heap.get? b=some o->h'.get? b=some o) E) V4.init.plain F.entry_set_init (check_set_init_1 hT ?_)) λr2 s2 hr2=>?_
   ·refine QC (Z2r (b:=!byT w) (by simpa using hh) (show _+24<Vu by dsimp only;omega) hD hl ln lb hv (Q:=λr s2=>r= .none∧∃h' tk ks,s2={ s with heap:=h',toks:=tk }∧TuS (λa=>∃i:Nat,its[i]? =some (Xu a)) κ (!byT w) h' s.heap.objs.size ks∧OfL ks kss∧∀b o,b<s.heap.objs.size->s.heap.get? b=some o->h'.get? b=some o) λh' tk ks a1 a2 a3=>⟨rfl,h',tk,ks,rfl,a1,a2,a3⟩) (λfin s' hf=>?_) λ_ _ x=>x
    obtain⟨v,rfl,hq⟩:=hf
    exact hq
   ·cases r2 with
    | error e=>exact hr2
    | ok fl2=>
     cases fl2 with
     | ret r=>
      obtain⟨rfl,h',tk,ks,rfl,a1,a2,a3⟩:=hr2
      repeat any_goals first|assumption|wp_step
      exact q h' tk ks a1 a2 a3
     | _=>exact hr2.elim
  | _=>exact r1.elim
end
end L2
namespace L2
open PySem PySem.Spec PyProof.Rows PySem.W
noncomputable def pk:List Int->Int×Int
 | [a,b]=>(a,b)
 | _=>(0,0)
noncomputable def kl(p:Int×Int):List Int:=[p.1,p.2]
theorem Zdf{a b:Int×Int}:ltP a b=true↔a.1<b.1∨(a.1=b.1∧a.2<b.2):=by
 unfold ltP
 by_cases c:a.1=b.1
 ·rw[if_pos c]
  by_cases c':a.2=b.2
  ·rw[if_pos c']
   exact⟨λz=>(nomatch z),λz=>by omega⟩
  ·rw[if_neg c',decide_eq_true_iff]
   exact⟨λz=>.inr ⟨c,z⟩,λz=>by omega⟩
 ·rw[if_neg c,decide_eq_true_iff]
  exact⟨.inl,λz=>by omega⟩
theorem Zix{a b c:Int×Int}(h1:ltP a b=true)(h2:ltP b c=true):ltP a c=true:=by
 rw[Zdf]at*
 omega
theorem Zh1(a:Int×Int):ltP a a=false:=BJ.mpr λz=>by
 have:=Zdf.mp z
 omega
theorem Zmh{a b:Int×Int}(h:a≠b)(c:ltP a b=false):ltP b a=true:=by
 rw[Zdf]
 have n:¬(a.1<b.1∨(a.1=b.1∧a.2<b.2)):=λz=>by rw[Zdf.mpr z]at c;cases c
 have:¬(a.1=b.1∧a.2=b.2):=λz=>h (Prod.ext z.1 z.2)
 omega
noncomputable def Zqt(x:Int×Int):List (Int×Int)->List (Int×Int)
 | []=>[x]
 | y :: l=>if x=y then y :: l else if ltP x y=true then x :: y :: l else y :: Zqt x l
noncomputable def ssP:List (Int×Int)->List (Int×Int)
 | []=>[]
 | x :: l=>Zqt x (ssP l)
theorem Zjy{x y:Int×Int}{l:List (Int×Int)}:y∈Zqt x l↔y=x∨y∈l:=by
 induction l with
 | nil=>rw[Zqt,Xm];exact⟨.inl,λz=>z.elim id λz=>nomatch z⟩
 | cons z l ih=>
  rw[Zqt]
  split
  ·rename_i c
   rw[c]
   exact⟨.inr,λq=>q.elim (λe=>e▸ .head _) id⟩
  ·split
   ·exact Xn
   ·rw[Xn,ih,Xn]
    exact⟨λq=>q.elim (λe=>.inr (.inl e)) λq=>q.elim .inl λq=>.inr (.inr q),λq=>q.elim (λe=>.inr (.inl e)) λq=>q.elim .inl λq=>.inr (.inr q)⟩
theorem Zbx{y:Int×Int}{l:List (Int×Int)}:y∈ssP l↔y∈l:=by
 induction l with
 | nil=>exact .rfl
 | cons x l ih=>rw[ssP,Zjy,ih,Xn]
noncomputable abbrev UpP(l:List (Int×Int)):Prop:=l.Pairwise λa b=>ltP a b=true
theorem Zu8{x:Int×Int}{l:List (Int×Int)}(h:UpP l):UpP (Zqt x l):=by
 induction l with
 | nil=>exact Ua _ _
 | cons z l ih=>
  obtain⟨h1,h2⟩:=Br.mp h
  rw[Zqt]
  split
  ·exact h
  ·rename_i c
   split
   ·rename_i c2
    exact Br.mpr ⟨λy hy=>by
     rcases Xn.mp hy with rfl|hy
     ·exact c2
     ·exact Zix c2 (h1 y hy),h⟩
   ·rename_i c2
    refine Br.mpr ⟨λy hy=>?_,ih h2⟩
    rcases Zjy.mp hy with rfl|hy
    ·exact Zmh c (BJ.mpr c2)
    ·exact h1 y hy
theorem Ztg(l:List (Int×Int)):UpP (ssP l):=by
 induction l with
 | nil=>exact .nil
 | cons x l ih=>exact Zu8 ih
theorem Zqa:∀{l l':List (Int×Int)},UpP l->UpP l'->(∀x,x∈l↔x∈l')->l=l':=by
 intro l
 induction l with
 | nil=>
  intro l' _ _ h
  cases l' with
  | nil=>rfl
  | cons y l'=>exact absurd ((h y).mpr (.head _)) (λz=>nomatch z)
 | cons x l ih=>
  intro l' h1 h2 h
  cases l' with
  | nil=>exact absurd ((h x).mp (.head _)) (λz=>nomatch z)
  | cons y l'=>
   obtain⟨a1,a2⟩:=Br.mp h1
   obtain⟨b1,b2⟩:=Br.mp h2
   have e:x=y:=by
    rcases Xn.mp ((h x).mp (.head _))with e|m
    ·exact e
    ·rcases Xn.mp ((h y).mpr (.head _))with e|m2
     ·exact e.symm
     ·have:=Zix (b1 x m) (a1 y m2)
      rw[Zh1]at this
      cases this
   subst e
   have irr:∀{m:List (Int×Int)},(∀z∈m,ltP x z=true)->x∉m:=λq m=>by
    have:=q x m
    rw[Zh1]at this
    cases this
   rw[ih a2 b2 λz=>?_]
   constructor
   ·intro m
    rcases Xn.mp ((h z).mp (.tail _ m))with e|m'
    ·exact absurd (e▸m) (irr a1)
    ·exact m'
   ·intro m
    rcases Xn.mp ((h z).mpr (.tail _ m))with e|m'
    ·exact absurd (e▸m) (irr b1)
    ·exact m'
theorem Zr4(x:Int×Int)(l:List (Int×Int)):(Zqt x l).length≤l.length+1:=by
 induction l with
 | nil=>exact XD _
 | cons z l ih=>
  rw[Zqt]
  split
  ·exact Nat.le_succ _
  ·split
   ·exact XD _
   ·exact Uv ih
theorem Zl2(l:List (Int×Int)):(ssP l).length≤l.length:=by
 induction l with
 | nil=>exact XD _
 | cons x l ih=>exact Qs (Zr4 _ _) (Uv ih)
theorem Zid{prog:X4}{w:Qm}{h:Heap}{k:List Int}{vs:List Xc}(q:ItemsAre (intKind prog w) k vs):ReadsAll h vs (k.map XM) []:=by
 induction q with
 | nil=>exact .nil
 | cons h _ ih=>
  obtain⟨t,rfl⟩:=Value.isInt_shape h
  exact ReadsAll.cons (Reads.int _ t) ih
theorem Zfq{prog:X4}{w:Qm}{h:Heap}{k:List Int}{a:Addr}(q:IK prog w h k a):Reads h (.ref a) (tupI k) []:=by
 obtain⟨o,its,n,ho,hc,hd,hi⟩:=q
 exact .tuple ho hc hd (Zid hi)
noncomputable def adr:Xc->Addr
 | .ref a=>a
 | _=>0
theorem Zov{α:Type}(d d':α)(lt:Nat->Nat->Bool)(vs:List α):Zf8 d lt vs=Zf8 d' lt vs:=by
 unfold Zf8
 split
 ·rfl
 ·refine Qe λi hi=>?_
  have:=Qx.mp ((Za4 (by omega)).mem_iff.mp hi)
  rw[Xq,Xq,Xl this];rfl
section
variable {prog:X4}{w:Qm}{A:Qn}{E:Xc->Xf->Prop}{s:Xf}
theorem Zhn{h:Heap}{U:Addr->Prop}{κ:Addr->List Int}(hG:∀a,U a->IK prog w h (κ a) a):∀(as:List Addr),(∀a,a∈as->U a)->ReadsAll h (as.map Xu) (as.map λa=>tupI (κ a)) []:=by
 intro as
 induction as with
 | nil=>exact λ_=>.nil
 | cons a as ih=>exact λhu=>ReadsAll.cons (Zfq (hG a (hu a (.head _)))) (ih λa m=>hu a (.tail _ m))
theorem Zp6{U:Addr->Prop}{κ:Addr->List Int}{S:Addr}{ks:List (List Int)}{Q:Xc->Xf->Prop}(hh:A.handled=none)(hu:A.units+64<Vu)(hS:TuS U κ (!byT w) s.heap S ks)(h64:ks.length<64)(hG:∀a,U a->IK prog w s.heap (κ a) a)(h2:∀k,k∈ks->k=kl (pk k))(nd:ks.Nodup)
  (q:∀h' tk d L (as:List Addr) c,s.heap.objs.size≤L->h'.get? L=some { cls:=.type "list",data:=.seq (as.map Xu).toArray c }->(∀a,a∈as->U a)->(as.map κ).Perm ks->UpP (as.map λa=>pk (κ a))->(∀b o,b<s.heap.objs.size->s.heap.get? b=some o->h'.get? b=some o)->Q (.ref L) { s with heap:=h',toks:=tk,drawn:=d }):Xx (X5 prog w) A (call (.builtin "sorted") [.ref S]) Q E s:=by
 obtain⟨o,es,ep,t,ho,hex,hd,he,g,rfl⟩:=hS
 rw[Xe,Xp]at h64
 have tb:Tb (!byT w) t:=⟨g.led,λ_=>g.up⟩
 refine Calls.call_function_entry kind_sorted plain_sorted entry_sorted (args_sorted1 _) ?_
 unfold Vo.«sorted»
 refine Xb (m:=checkCount "sorted" 1 1 _) (Xk ?_)
 refine Xb (Zpb (by simpa using hh) ho hex hd (TuS.fits (U:=U) (κ:=κ) g) tb (by omega) λh1 tk d acc pm lN k1=>?_)
 obtain⟨as,hacc⟩:∃as,as=acc.map adr:=⟨_,rfl⟩
 have ua:∀a,a∈as->U a:=λa m=>by
  rw[hacc]at m
  obtain⟨v,mv,rfl⟩:=XR.mp m
  obtain⟨e,me,rfl⟩:=XR.mp (pm.mem_iff.mp mv)
  obtain⟨b,rfl,ub⟩:=he e me
  exact ub
 have ea:acc=as.map Xu:=by
  rw[hacc,Qq]
  refine(List.map_id acc).symm.trans (Qe λv mv=>?_)
  obtain⟨e,me,rfl⟩:=XR.mp (pm.mem_iff.mp mv)
  obtain⟨b,rfl,ub⟩:=he e me
  rfl
 have pk0:(as.map κ).Perm (es.toList.map (kOf κ)):=by
  have:=pm.map λv=>κ (adr v)
  rw[Qq]at this
  rw[hacc,Qq]
  refine this.trans (.of_eq (Qe λe me=>?_))
  obtain⟨b,rfl,ub⟩:=he e me
  rfl
 subst ea
 have la:as.length=es.size:=by rw[←Xe,pm.length_eq,Xe,Xp]
 clear hacc
 have hG1:∀a,U a->IK prog w h1 (κ a) a:=λa u=>(hG a u).stay λo e=>k1 a o (XH e) e
 have nk:(as.map κ).Nodup:=pk0.nodup_iff.mpr nd
 have kf:∀a,a∈as->κ a=kl (pk (κ a)):=λa m=>h2 _ (pk0.mem_iff.mp (XR.mpr ⟨a,m,rfl⟩))
 obtain⟨K,S1,S2⟩:=Z1d.run
 obtain⟨lt,hlt⟩:∃lt,lt=lk kdP ltP (as.map λa=>tupI (κ a)):=⟨_,rfl⟩
 have ra:=Zhn hG1 as ua
 have at_:∀i,i<as.length->∃a,as[i]? =some a∧a∈as:=λi hi=>⟨_,Xl hi,Vt hi⟩
 have kd:∀a,a∈as->kdP (tupI (κ a))=some (pk (κ a)):=λa m=>by rw[kf a m];rfl
 have lte:∀i j a b,as[i]? =some a->as[j]? =some b->lt i j=ltP (pk (κ a)) (pk (κ b)):=λi j a b h1 h2=>by
  rw[hlt]
  unfold lk
  rw[Xq,Xq,Xj,Xj,h1,h2]
  show((kdP (tupI (κ a))).bind λx=>(kdP (tupI (κ b))).map λy=>ltP x y).getD false=_
  rw[kd a (X8 h1),kd b (X8 h2)];rfl
 have nea:∀i j a b,i≠j->as[i]? =some a->as[j]? =some b->pk (κ a)≠pk (κ b):=λi j a b ne h1 h2 e=>by
  obtain⟨hi,e1⟩:=Xi.mp h1
  obtain⟨hj,e2⟩:=Xi.mp h2
  have ek:κ a=κ b:=by rw[kf a (X8 h1),kf b (X8 h2),e]
  have pw:=Bl.mp nk
  rcases Nat.lt_or_gt_of_ne ne with c|c
  ·exact pw i j (by rw[Xe];exact hi) (by rw[Xe];exact hj) c (by rw[List.getElem_map,List.getElem_map,e1,e2,ek])
  ·exact pw j i (by rw[Xe];exact hj) (by rw[Xe];exact hi) c (by rw[List.getElem_map,List.getElem_map,e1,e2,ek])
 have T:Tot lt as.length:=by
  refine⟨λi j k hi hj hk h1 h2=>?_,λi j hi hj ne c=>?_,λi j hi hj h=>?_⟩
  ·obtain⟨a,ha,_⟩:=at_ i hi
   obtain⟨b,hb,_⟩:=at_ j hj
   obtain⟨c,hc,_⟩:=at_ k hk
   rw[lte i j a b ha hb]at h1
   rw[lte j k b c hb hc]at h2
   rw[lte i k a c ha hc]
   exact Zix h1 h2
  ·obtain⟨a,ha,_⟩:=at_ i hi
   obtain⟨b,hb,_⟩:=at_ j hj
   rw[lte i j a b ha hb]at c
   rw[lte j i b a hb ha]
   exact Zmh (nea i j a b ne ha hb) c
  ·obtain⟨a,ha,_⟩:=at_ i hi
   obtain⟨b,hb,_⟩:=at_ j hj
   rw[lte i j a b ha hb]at h
   rw[lte j i b a hb ha]
   exact BJ.mpr λz=>by
    have:=Zix h z
    rw[Zh1]at this
    cases this
 have up:UpP ((Zf8 0 lt as).map λa=>pk (κ a)):=List.pairwise_map.mpr (Zx1 (β:=Nat) T λi j hi hj h=>by
  obtain⟨a,ha,_⟩:=at_ i hi
  obtain⟨b,hb,_⟩:=at_ j hj
  rw[lte i j a b ha hb]at h
  rw[Xq,Xq,ha,hb]
  exact h)
 refine Xb (wpAny_newList ?_ (by rw[Qh,Xe];omega))
 have ga:(h1.push (VN "list" (as.map Xu).toArray 0)).get? h1.objs.size=some (VN "list" (as.map Xu).toArray 0):=XJ _ rfl
 have keep:∀b o,h1.get? b=some o->(h1.push (VN "list" (as.map Xu).toArray 0)).get? b=some o:=λb o e=>Xg _ e
 obtain⟨z1,z2⟩:=readsAll_get ra
 have kall:∀d,d∈(as.map λa=>tupI (κ a))->∃k,kdP d=some k:=λd m=>by
  obtain⟨a,ma,rfl⟩:=XR.mp m
  exact⟨_,kd a ma⟩
 refine Xb (By (JX slot_list_sort ⟨_,ga,rfl⟩ entry_list_sort (Zkc (κ:=K) (lt:=lt) (h0:=h1) ga keep (Heap.get?_none_of_le (XD _)) (by rw[Xe];omega) (λh2 s' k Q q=>S1 _ _ _ _ s' _ _ _ Q h2 (ReadsAll.keeps k ra) kall q) (λh2 s' k i j C hi hj hc=>?_) ⟨_,rfl,?_⟩) (args_list_sort _)))
 ·rw[Xe]at hi hj
  obtain⟨a,ha,ma⟩:=at_ i hi
  obtain⟨b,hb,mb⟩:=at_ j hj
  rw[lte i j a b ha hb]at hc
  unfold kas_ask
  rw[Xq,Xq,Xj,Xj,ha,hb]
  exact S2 _ _ _ _ s' _ _ _ _ _ _ _ _ C (show A.units+1+1+32<Vu by omega) (Reads.keeps k (Zfq (hG1 a (ua a ma)))) (Reads.keeps k (Zfq (hG1 b (ua b mb)))) (kd a ma) (kd b mb) hc
 ·have eo:Zf8 QK lt (as.map Xu)=(Zf8 0 lt as).map Xu:=by rw[Zov QK (Xu 0),Zrk]
  rw[eo]
  have g1:=get?_update_seq (c :="list") ga (λ_=>(#[]:Array Xc))
  have g3:=get?_update_seq (c :="list") (Xg (VN "list" #[] 0) (Xg (VN "tuple" (as.map Xu).toArray 0) g1)) (λ_=>((Zf8 0 lt as).map Xu).toArray)
  refine Xk ⟨_,rfl,q _ tk d _ (Zf8 0 lt as) _ lN g3 (λa m=>ua a ((Zhc _ _ _).mem_iff.mp m)) (((Zhc _ _ _).map κ).trans pk0) up λb o lb e=>?_⟩
  have nb:b≠h1.objs.size:=Xo (Qj lb lN)
  exact(JM ..).extBut _ _ nb (Xg _ (Xg _ ((JM ..).extBut _ _ nb (Xg _ (k1 b o lb e)))))
end
end L2
namespace L2
open PySem PySem.Spec PyProof.Rows PySem.W
noncomputable def D10:List (List Int):=(Xz 10).flatMap λ(a:Nat)=>(Xz 10).map λ(b:Nat)=>[(a:Int),(b:Int)]
theorem Ybx:HI D10:=λk hk k' hk' e=>Z18 (f:=hT) (show(D10.map hT).Nodup by decide +kernel) hk hk' e
noncomputable def Zyh(p:Int×Int):Bool:=decide (0≤p.1)&&decide (p.1<10)&&(decide (0≤p.2)&&decide (p.2<10))
theorem Zzi{p:Int×Int}(h:Zyh p=true):kl p∈D10:=by
 unfold Zyh at h
 rw[XN,XN,XN,decide_eq_true_iff,decide_eq_true_iff,decide_eq_true_iff,decide_eq_true_iff]at h
 obtain⟨⟨a,b⟩,c,d⟩:=h
 refine List.mem_flatMap.mpr ⟨p.1.toNat,Qx.mpr (by omega),XR.mpr ⟨p.2.toNat,Qx.mpr (by omega),?_⟩⟩
 unfold kl
 rw[Int.toNat_of_nonneg a,Int.toNat_of_nonneg c]
theorem Z0b{α:Type}[DecidableEq α]:∀{l m:List α},l.Nodup->(∀x,x∈l->x∈m)->l.length≤m.length:=by
 intro l
 induction l with
 | nil=>exact λ_ _=>QH _
 | cons a l ih=>
  intro m nd h
  obtain⟨h1,h2⟩:=Qk.mp nd
  have ha:=h a (.head _)
  have:=ih (m:=m.erase a) h2 λx hx=>(List.mem_erase_of_ne (λ(e:x=a)=>h1 (e▸hx))).mpr (h x (.tail _ hx))
  rw[List.length_erase_of_mem ha]at this
  have:=List.length_pos_of_mem ha
  rw[QX];omega
noncomputable def keyOf(h:Heap)(a:Addr):List Int:=match h.get? a with
 | some o=>(match o.data with| .seq its _=>its.toList.map vI|_=>[])
 | none=>[]
theorem Zq1{prog:X4}{w:Qm}{k:List Int}{vs:List Xc}(q:ItemsAre (intKind prog w) k vs):vs.map vI=k:=by
 induction q with
 | nil=>rfl
 | cons h _ ih=>
  obtain⟨t,rfl⟩:=Value.isInt_shape h
  rw[Qg,ih];rfl
theorem Zqq{prog:X4}{w:Qm}{h:Heap}{k:List Int}{a:Addr}(q:IK prog w h k a):keyOf h a=k:=by
 obtain⟨o,its,n,ho,hc,hd,hi⟩:=q
 unfold keyOf
 rw[ho]
 dsimp only
 rw[hd]
 exact Zq1 hi
noncomputable def pD(p:Int×Int):Xa:=.tuple [.int p.1,.int p.2]
noncomputable def Zdw:List Xa->Option (List (Int×Int))
 | []=>some []
 | d :: r=>(kdP d).bind λk=>(Zdw r).bind λks=>some (k :: ks)
theorem Zn4{es:List Xa}{ps:List (Int×Int)}(h:Zdw es=some ps):es=ps.map pD:=by
 induction es generalizing ps with
 | nil=>cases h;rfl
 | cons d r ih=>
  rw[Zdw]at h
  obtain⟨k,h1,h⟩:=bs h
  obtain⟨ks,h2,h⟩:=bs h
  cases h
  rw[Qg,←ih h2,Zbk h1];rfl
theorem Zkd(ps:List (Int×Int)):Zdw (ps.map pD)=some ps:=by
 induction ps with
 | nil=>rfl
 | cons p ps ih=>
  rw[Qg]
  show(Zdw (ps.map pD)).bind _=_
  rw[ih];rfl
theorem Z4t(ps:List (Int×Int)):ps.map pD=(ps.map kl).map tupI:=by rw[Qq];rfl
theorem Zqj{G:Xd}{H:Hp}{L:Addr->Prop}{v:V}{kss:List (List Int)}(h:Da G H L v (.list (kss.map tupI))):∃a xs,v= .ref a∧SqL G H a xs∧Ztk H xs kss∧Das G H L xs (kss.map tupI):=by
 generalize e:Uq (kss.map tupI)=d at h
 cases h with
 | lst l e1 r=>
  cases e
  exact⟨_,_,rfl,.inl e1,Zqc r,r⟩
 | scr k=>
  rename_i a ms
  have e':=PyData.list.inj e
  have hn:ms=[]:=by
   cases ms with
   | nil=>rfl
   | cons m ms=>
    cases kss with
    | nil=>cases e'
    | cons k kss=>cases(List.cons.inj e').1
  subst hn
  have hk:kss=[]:=by
   cases kss with
   | nil=>rfl
   | cons k kss=>cases e'
  subst hk
  obtain⟨a',e2,hs⟩:=Da.ints_sq (L:=λ_=>True) (Da.scr (H:=H) k)
  cases e2
  exact⟨_,_,rfl,hs,.nil,.nil⟩
 | _=>cases e
theorem Z04{H:Hp}{xs:List V}{kss:List (List Int)}(h:Ztk H xs kss):∀{its:List Xc},Vals xs its->∀(i:Nat) (a:Addr),its[i]? =some (Xu a)->xs[i]? =some (V.ref a):=by
 induction h with
 | nil=>
  intro its r i a e
  cases r
  simp at e
 | cons h t ih=>
  intro its r i a e
  cases r with
  | cons r rr=>
   cases r
   cases i with
   | zero=>cases e;rfl
   | succ i=>exact ih rr i a e
theorem Zxc{G:Xd}{H:Hp}{L:Addr->Prop}:∀{ys:List V} {ds:List Xa},ys.length=ds.length->(∀(j:Nat) y d,ys[j]? =some y->ds[j]? =some d->Da G H L y d)->Das G H L ys ds:=by
 intro ys
 induction ys with
 | nil=>
  intro ds l _
  cases ds with
  | nil=>exact .nil
  | cons d ds=>cases l
 | cons y ys ih=>
  intro ds l h
  cases ds with
  | nil=>cases l
  | cons d ds=>exact .cons (h 0 y d rfl rfl) (ih (Nat.succ.inj l) λj y d a b=>h (j+1) y d a b)
theorem Zoe(as:List Addr):Vals (as.map V.ref) (as.map Xu):=by
 induction as with
 | nil=>exact .nil
 | cons a as ih=>exact .cons rfl ih
noncomputable def Z80(xs:List V)(ps:List (Int×Int))(ys:List V)(qs:List (Int×Int)):Prop:=ys.length=qs.length∧∀(j:Nat) y k,ys[j]? =some y->qs[j]? =some k->∃i:Nat,xs[i]? =some y∧ps[i]? =some k
section
variable {X:Cx}{p c:Bool}{io:List Nat}{a e:Expr}{pos pos' pl pr:Pos}{t:TA}{mr:MAt}{ra:FA}
noncomputable def Ya9(K:Xd)(t:TA):TE:=λσ H Q=>t σ H λvs H1=>∃(l:Addr) (xs:List V) (ps:List (Int×Int)),vs=[.ref l]∧SqL K H1 l xs∧Ztk H1 xs (ps.map kl)∧ps.length<64∧(∀p,p∈ps->kl p∈D10)∧∀q ys,H1 q=none->Z80 xs ps ys (ssP ps)->Q (.ref q) (upd H1 q (.lst ys))
theorem Zih(hc:X.calm=true)(hu:X.A.units+64<Vu)(hgl:Gl X "sorted")(hml:X.mg "sorted"=none)(hvl:Qo "sorted"=some (.builtin "sorted"))(hg:Gl X "set")(hm:X.mg "set"=none)(hv:Qo "set"=some (.type "set"))(ha:PA X [a] t)
  (he:Xv [a] X.env=(false,eval a X.env) :: Xv [] X.env:=by rfl) (hpl:(Bf pos' (Xv [] X.env)).any (·.1)=false:=by rfl)
  (he':Xv [.Call (.Name "set" pr) [a] [] pos'] X.env=(false,eval (.Call (.Name "set" pr) [a] [] pos') X.env) :: Xv [] X.env:=by rfl) (hpl':(Bf pos (Xv [] X.env)).any (·.1)=false:=by rfl) :
  PE X (.Call (.Name "sorted" pl) [.Call (.Name "set" pr) [a] [] pos'] [] pos) (Ya9 X.K t):=by
 intro pins s σ H Q I h
 refine Vk (Zcj I hgl hml hvl ?_ (by decide) (by decide))
 refine PyProof.Rows.callWith_builtin1 ?_ he' hpl'
 rw[he']
 show Xx _ _ (spliced ((false,eval (.Call (.Name "set" pr) [a] [] pos') X.env) :: Bf pos (Xv [] X.env))) _ _ s
 have inner:Xx (X5 X.prog X.w) X.A (eval (.Call (.Name "set" pr) [a] [] pos') X.env) (λu s2=>∃(S:Addr) (κ:Addr->List Int) (U:Addr->Prop) (ks:List (List Int)) (xs:List V) (ps:List (Int×Int)) (H1:Hp),u=Xu S∧TuS U κ (!byT X.w) s2.heap S ks∧OfL ks (ps.map kl)∧ks.length≤ps.length∧ps.length<64∧(∀a,U a->IK X.prog X.w s2.heap (κ a) a∧∃i:Nat,xs[i]? =some (V.ref a)∧(ps.map kl)[i]? =some (κ a))∧Inv X pins σ H1 s2∧∀q ys,H1 q=none->Z80 xs ps ys (ssP ps)->Q (.ref q) (upd H1 q (.lst ys))) X.xe s:=by
  refine Vk (Zcj I hg hm hv ?_ (by decide) (by decide))
  refine Bw (thn (ha pos' pins s σ H _ I h) λus s1 qz=>?_) he hpl
  obtain⟨vs,H1,I1,r1,l,xs,ps,rfl,hs,ht,h64,hD,q⟩:=qz
  obtain⟨u,rfl,ru⟩:=vals1 r1
  cases(show u=Xu l from ru)
  obtain⟨its,rv,pl,hz⟩:=I1.list hs
  obtain⟨ll,g⟩:=Zw4 I1 ht rv
  have g2:∀(i:Nat) (v:Xc),its.toArray[i]? =some v->∃a,v=Xu a∧(ps.map kl)[i]? =some (keyOf s1.heap a)∧keyOf s1.heap a∈D10∧IK X.prog X.w s1.heap (keyOf s1.heap a) a:=λi v ev=>by
   obtain⟨a,k,e1,e2,e3⟩:=g i v (by simpa using ev)
   refine⟨a,e1,?_⟩
   rw[Zqq e3]
   refine⟨e2,?_,e3⟩
   obtain⟨p,mp,e⟩:=XR.mp (X8 e2)
   rw[←e];exact hD p mp
  rw[Xe]at ll
  refine Znv (its:=its.toArray) (κ:=keyOf s1.heap) (D:=D10) (kss:=ps.map kl) (I1.ok.hd hc) (by omega) Ybx pl.isList (by rw[Xe,XF,ll]) (by rw[XF];omega) g2 λh' tk ks a1 a2 a3=>?_
  have lk:ks.length≤ps.length:=by
   have:=Z0b a2.1 λx hx=>(a2.2 x).mp hx
   rwa[Xe]at this
  refine⟨_,keyOf s1.heap,_,ks,xs,ps,H1,rfl,a1,a2,lk,h64,λa u=>?_,I1.kept (t':=tk) (λb u e=>a3 b u (XH e) e),q⟩
  obtain⟨i,hi⟩:=u
  obtain⟨a',e1,e2,_,e4⟩:=g2 i _ hi
  cases e1
  exact⟨e4.stay λo e=>a3 a o (XH e) e,i,Z04 ht rv i a (by simpa using hi),e2⟩
 refine Calls.spliced_cons (thn inner λu s2 qz=>?_)
 obtain⟨S,κ,U,ks,xs,ps,H1,rfl,hS,hO,lk,h64,hG,I2,q⟩:=qz
 refine Calls.spliced_nil ?_
 have kp:∀k,k∈ks->∃p,p∈ps∧k=kl p:=λk hk=>by
  obtain⟨p,mp,e⟩:=XR.mp ((hO.2 k).mp hk)
  exact⟨p,mp,e.symm⟩
 refine Zp6 (U:=U) (κ:=κ) (I2.ok.hd hc) (by omega) hS (by omega) (λa u=>(hG a u).1) (λk hk=>by obtain⟨p,_,e⟩:=kp k hk;rw[e];rfl) hO.1 λh' tk d L as cc lN g ua pm up k=>?_
 have es:(as.map λa=>pk (κ a))=ssP ps:=Zqa up (Ztg ps) λx=>by
  rw[Zbx,XR]
  constructor
  ·intro z
   obtain⟨a,ma,rfl⟩:=z
   obtain⟨p,mp,e⟩:=kp _ (pm.mem_iff.mp (XR.mpr ⟨a,ma,rfl⟩))
   rw[e];exact mp
  ·intro z
   obtain⟨a,ma,e⟩:=XR.mp (pm.mem_iff.mpr ((hO.2 (kl x)).mpr (XR.mpr ⟨x,z,rfl⟩)))
   exact⟨a,ma,by rw[e];rfl⟩
 have la:as.length=(ssP ps).length:=by rw[←es,Xe]
 have l64:as.length<64:=by have:=Zl2 ps;omega
 refine⟨.ref L,_,(I2.laid (t':=tk) (o:=.lst (as.map V.ref)) (λb ob e=>k b ob (XH e) e) lN ⟨by rw[Xe,Qh];omega,as.map Xu,cc,Zoe as,g⟩).drawn d,rfl,q _ _ (I2.hok.fresh lN) ⟨by rw[Xe,la],λj y x e1 e2=>?_⟩⟩
 rw[Xj]at e1
 obtain⟨a,ea,rfl⟩:=XQ.mp e1
 rw[←es,Xj,ea]at e2
 cases e2
 obtain⟨_,i,i1,i2⟩:=hG a (ua a (X8 ea))
 refine⟨i,i1,?_⟩
 rw[Xj]at i2
 obtain⟨p,hp,e⟩:=XQ.mp i2
 show ps[i]? =some (pk (κ a))
 rw[hp,←e];rfl
noncomputable def Zhe(mr:MAt):MEt:=λδ K=>mr δ λrs δ'=>n1 (λd=>∃ps:List (Int×Int),d= .list (ps.map pD)∧ps.length<64∧(∀p,p∈ps->kl p∈D10)∧K (.nd (((ssP ps).map pD).map OT.fz)) δ') (OT.datas rs)
theorem Zk6(hc:X.calm=true)(hu:X.A.units+64<Vu)(hgl:Gl X "sorted")(hml:X.mg "sorted"=none)(hvl:Qo "sorted"=some (.builtin "sorted"))(hg:Gl X "set")(hm:X.mg "set"=none)(hv:Qo "set"=some (.type "set"))(ha:MA X io p c [a] mr)
  (he:Xv [a] X.env=(false,eval a X.env) :: Xv [] X.env:=by rfl) (hpl:(Bf pos' (Xv [] X.env)).any (·.1)=false:=by rfl)
  (he':Xv [.Call (.Name "set" pr) [a] [] pos'] X.env=(false,eval (.Call (.Name "set" pr) [a] [] pos') X.env) :: Xv [] X.env:=by rfl) (hpl':(Bf pos (Xv [] X.env)).any (·.1)=false:=by rfl) :
  ME X io p c (.Call (.Name "sorted" pl) [.Call (.Name "set" pr) [a] [] pos'] [] pos) (Zhe mr):=by
 obtain⟨_,A,s⟩:=ha
 refine⟨_,Zih hc hu hgl hml hvl hg hm hv A he hpl he' hpl',λC H σ δ fp ex K Q R h kk=>s C H σ δ fp ex _ _ R h λH1 vs rs δ1 fp1 new r1 h1=>?_⟩
 obtain⟨v,d,rfl,e2,q,ps,e,h64,hD,h2⟩:=(r1.das R).one h1
 subst e
 rw[Z4t]at q
 obtain⟨l,xs,rfl,hs,ht,hd⟩:=Zqj q
 refine⟨l,xs,ps,rfl,hs,ht,h64,hD,λp ys hp pick=>?_⟩
 have sm:=Z0 hp (.lst ys)
 exact kk _ _ _ δ1 fp1 [p] (RE.tree R r1.base r1.stp sm (Jt hp) (Zas p) (Own.list hp (Zxc (by rw[pick.1,Xe]) λj y d e1 e2=>by
  rw[Xj]at e2
  obtain⟨k,ek,rfl⟩:=XQ.mp e2
  obtain⟨i,i1,i2⟩:=pick.2 j y k e1 ek
  obtain⟨d',ed,r⟩:=hd.get' i1
  rw[Xj,Xj,i2]at ed
  cases ed
  exact r))) h2
noncomputable def Za5(a:FA):FE:=λδ=>(a δ).bind λq=>(Z5v (OT.datas q.1)).bind λes=>(Zdw es).bind λps=>if(decide (ps.length<64)&&ps.all Zyh)=true then some (.nd (((ssP ps).map pD).map OT.fz),q.2)else none
theorem Zh0{c:Bool}{e:Expr}(h:ME X io p c e (Zhe (o2 ra))):ME X io p c e (o2 (Za5 ra)):=h.weak λδ K h=>by
 obtain⟨r,δ',h,k⟩:=h
 obtain⟨⟨x,δ1⟩,h1,h⟩:=bs h
 refine⟨x,δ1,h1,?_⟩
 obtain⟨es,h2,h⟩:=bs h
 obtain⟨ps,h3,h⟩:=bs h
 split at h
 case isFalse=>cases h
 rename_i ok
 rw[XN,decide_eq_true_iff]at ok
 cases h
 rw[show OT.datas x=[.list es]from Zw5 h2]
 exact⟨ps,congrArg Uq (Zn4 h3),ok.1,λp m=>Zzi (V0.mp ok.2 p m),k⟩
end
end L2
namespace L2
open PySem PySem.Spec PyProof.Rows
variable {G:Xd}
section
variable {X:Cx}{io:List Nat}{p c:Bool}{e a:Expr}{mj:MEt}{pos apos cpos px sp:Pos}{i:Nat}{x:Str}{fb:FE}{st:Stmt}
noncomputable def Zip(i:Nat):MSt:=λD δ=>match δ[i]? with
 | some (some (.nd _))=>D.nx (δ.set i (some (.nd [])))
 | _=>False
theorem Zph(i:Nat)(hN:X.N[i]? =some x:=by rfl)(hv:Vis X.env.scope x:=by first|exact QF rfl|exact Qp (QF rfl)|exact Qp (Qp rfl))(hd:(x==("__debug__" : Str))=false:=by decide)
  (hcd:(x==("__classdict__" : Str))=false:=by decide)
  (hbase:Vh (.Name x px) "clear" X.env (eval (.Name x px) X.env)=eval (.Name x px) X.env:=by rfl)
  (hline:(apos.endLine==cpos.line)=true:=by rfl)
  (hsw:Bx (.Call (.Attribute (.Name x px) "clear" apos) [] [] cpos) none pos.line X.env=pure false:=by rfl) :
  MS X io (.Expr (.Call (.Attribute (.Name x px) "clear" apos) [] [] cpos) pos) (Zip i):=by
 refine⟨_,Zbq (Zss Bv PySem.F.slot_list_clear PySem.F.type_list_clear Zjb (pv i hN hv hd hcd) hbase hline) hsw,λC H σ δ fp ex D D' R h E=>?_⟩
 unfold Zip at h
 split at h
 case h_2=>exact h.elim
 rename_i ts0 hi0
 obtain⟨a',xs0,bs0,hv0,hx0,o0,hf0⟩:=R.ownNd hi0
 refine⟨_,hv0,.inl ⟨rfl,xs0,.inl (.inl hx0)⟩,?_⟩
 refine⟨a',xs0,rfl,rfl,hx0,?_⟩
 obtain⟨R2,S2⟩:=R.top hi0 hv0 hf0 hx0 (ys:=[]) (ts':=[]) .nil (List.nil_sublist _)
 exact E.nx _ σ _ _ R2 S2.kp h
noncomputable def Ze3(i:Nat):FS:=λδ=>match δ[i]? with
 | some (some (.nd _))=>.nx (δ.set i (some (.nd [])))
 | _=>.bad
theorem Zqe(h:MS X io st (Zip i)):MS X io st (oS (Ze3 i)):=h.weak λD δ h=>by
 unfold oS Ze3 at h;unfold Zip
 split at h
 case h_2=>exact h.elim
 rename_i q;(try rw[q])
 exact h
noncomputable def Zi2(i:Nat)(mj:MEt):MSt:=λD δ=>match δ[i]? with
 | some (some (.nd ts))=>mj δ λn _=>match n.data with
  | .int k=>match ixN ts.length k with
   | some j=>match ts[j]? with
    | some (.nd us)=>D.nx (δ.set i (some (.nd (ts.set j (.nd [])))))
    | _=>False
   | none=>False
  | _=>False
 | _=>False
theorem Zp7(i:Nat)(hj:ME X io true c a mj)(hPa:Zdo a:=by exact λ_ _=>rfl)(hN:X.N[i]? =some x:=by rfl)(hv:Vis X.env.scope x:=by first|exact QF rfl|exact Qp (QF rfl)|exact Qp (Qp rfl))(hd:(x==("__debug__" : Str))=false:=by decide)
  (hcd:(x==("__classdict__" : Str))=false:=by decide)
  (hbase:Vh (.Subscript (.Name x px) a sp) "clear" X.env (eval (.Subscript (.Name x px) a sp) X.env)=eval (.Subscript (.Name x px) a sp) X.env:=by rfl)
  (hline:(apos.endLine==cpos.line)=true:=by rfl)
  (hsw:Bx (.Call (.Attribute (.Subscript (.Name x px) a sp) "clear" apos) [] [] cpos) none pos.line X.env=pure false:=by rfl) :
  MS X io (.Expr (.Call (.Attribute (.Subscript (.Name x px) a sp) "clear" apos) [] [] cpos) pos) (Zi2 i mj):=by
 obtain⟨_,B,sj⟩:=hj
 refine⟨_,Zbq (Zss Bv PySem.F.slot_list_clear PySem.F.type_list_clear Zjb (Zwm (Zje rfl) (pv i hN hv hd hcd) B hPa) hbase hline) hsw,λC H σ δ fp ex D D' R h E=>?_⟩
 unfold Zi2 at h
 split at h
 case h_2=>exact h.elim
 rename_i ts hi
 obtain⟨a',_,_,hv0,_⟩:=R.ownNd hi
 refine⟨_,hv0,?_⟩
 refine sj.pureAfter R h λH2 w n R2 s2 q2 h2=>?_
 obtain⟨k,rfl,h2⟩:=q2.intInv h2
 split at h2
 case h_2=>exact h2.elim
 rename_i j hj
 split at h2
 case h_2=>exact h2.elim
 rename_i us hus
 obtain⟨a2,xs2,bs2,hv2,hx2,o2,hf2⟩:=R2.ownNd hi
 rw[hv0]at hv2
 cases hv2
 obtain⟨xr,cr,hxr,orow,hsub⟩:=o2.get hus
 have nd3:=R2.nd i
 rw[hf2]at nd3
 have hn3:=Qk.mp nd3
 cases orow with
 | nd hb r3=>
  rename_i b' ws3 bs4
  refine⟨a',xs2,k,V.ref b',rfl,rfl,.inl (.inl hx2),?_,?_⟩
  ·unfold atI
   rw[o2.length,hj]
   exact hxr
  refine⟨.inl ⟨rfl,ws3,.inl (.inl hb)⟩,?_⟩
  have hbm:b'∈bs2:=hsub.subset (.head _)
  have hbf:b'∈fp i:=by rw[hf2];exact .tail _ hbm
  have hLb:¬Lf C fp ex b':=λl=>l.1 ⟨i,hbf⟩
  obtain⟨as',oo,ss,_⟩:=Owns.deep (ws':=[]) (us':=[]) hb hLb (λcs hcs=>⟨[],.nil,List.nil_sublist _⟩) o2 hn3.2 hxr hus
  refine⟨b',ws3,rfl,rfl,hb,?_⟩
  have hba:a'≠b':=λz=>hn3.1 (z▸hbm)
  have sub:∀a,a∈a' :: as'->a∈fp i:=λa m=>by
   rw[hf2]
   rcases Xn.mp m with rfl|m
   ·exact .head _
   ·exact .tail _ (ss.subset m)
  have lw:∀a,Lf C fp ex a->upd H2 b' (.lst []) a≠none->Lf C (fpu fp i (a' :: as')) (exu ex []) a:=λa l _=>⟨λz=>by
   rcases z.of_u with z|⟨j,_,z⟩
   ·exact l.1 ⟨i,sub a z⟩
   ·exact l.1 ⟨j,z⟩,λz=>l.2.1 (Jg.mp z),l.2.2⟩
  obtain⟨R4,S4⟩:=R2.change (new:=[]) (as':=a' :: as') (t':=.nd (ts.set j (.nd []))) (H':=upd H2 b' (.lst [])) hi hv0 (λb o e nb=>by rw[Zi λz=>nb (by rw[z];exact hbf)];exact e) (λb e=>by
   by_cases q:b=b'
   ·subst q;rw[Zm]at e;cases e
   ·rwa[Zi q]at e) (.nd (by rw[Zi hba];exact hx2) (oo.wide lw)) (Qk.mpr ⟨λm=>hn3.1 (ss.subset m),hn3.2.sublist ss⟩) (λa m=>.inl (sub a m)) (λa m=>nomatch m)
  have k1:Kp H fp H2 fp:=⟨λb o e _=>s2 _ _ e,λz=>(nomatch z),λa z=>.inl z,λb e=>s2.al b e⟩
  exact E.nx _ σ _ _ (R4.drop λa z=>.inl z) (k1.trans S4.kp) h2
noncomputable def Zek(i:Nat)(j:FE):FS:=λδ=>match δ[i]? with
 | some (some (.nd ts))=>wE j (λn _=>match n.data with
  | .int k=>match ixN ts.length k with
   | some j=>match ts[j]? with
    | some (.nd us)=>.nx (δ.set i (some (.nd (ts.set j (.nd [])))))
    | _=>.bad
   | none=>.bad
  | _=>.bad) δ
 | _=>.bad
theorem Zpq(h:MS X io st (Zi2 i (o2 fb))):MS X io st (oS (Zek i fb)):=h.weak λD δ h=>by
 unfold oS Zek at h;unfold Zi2
 split at h
 case h_2=>exact h.elim
 rename_i q;(try rw[q]);(try dsimp only)
 refine(Zhq h).imp λn δ' z=>?_
 split at z
 case h_2=>exact z.elim
 rename_i k q1;(try rw[q1]);(try dsimp only)
 split at z
 case h_2=>exact z.elim
 rename_i j q2;(try rw[q2]);(try dsimp only)
 split at z
 case h_2=>exact z.elim
 rename_i us q3;(try rw[q3]);(try dsimp only)
 exact z
end
end L2
namespace My
open PySem L2 PySem.Spec
noncomputable def Zam:FS :=
 (Zr (Jy (Jw (Zc 0)) (gTp 2 (gCn (gNm 3) (gCn (gNm 4) gNl)))
  (W5 (tV (Zb gGt (Zbp Zyl (Ze (Zb gSb (Z2 gIx (Z2 gIx (Zc 1) (Zc 2)) (Zc 3)) (Z2 gIx (Z2 gIx (Zc 1) (Zc 2)) (Zc 4))) Zt)) (fC (.int 1))))
  (wE (fC (.bool false)) Jh)
  fNx))
  (Zr (Jy (iRa (Ze (Zbp Zfu (Ze (Zc 1) Zt)) Zt)) (gNm 5)
  (Zr (wE (Wa 2 [5] (Jw (Zc 0)) (gTp 2 (gCn (gNm 0) (gCn (gNm 1) gNl))) (tV (Zb (Ztr false) (Zc 2) (Zd1 (Ze (Zc 0) (Ze (Zc 1) Zt))))) (Zb gSb (Zb Jq (Zc 0) (Zc 1)) (Zc 2))) (Ws 6))
  (Zr (W5 (tV (Zb gNe (Zb gEq (Zc 5) (Zc 2)) (Zb gEq (Z2 gIx (Z2 gIx (Zc 1) (Zc 2)) (Zc 5)) (fC (.int 0)))))
  (wE (fC (.bool false)) Jh)
  fNx)
  (Zr (wE (Wa 1 [1,2,5] (Jw (Zc 6)) (gNm 0) (tV (Zb gEq (Z2 gIx (Z2 gIx (Zc 1) (Zc 2)) (Zc 0)) (Zb gSb (Z2 gIx (Z2 gIx (Zc 1) (Zc 2)) (Zc 3)) (fC (.int 1))))) (Zc 0)) (Ws 7))
  (W5 (tAn (tV (Zb gNe (Zc 5) (Zc 2))) (tV (Zb gEq (Zc 7) (Zcu Zt))))
  (wE (fC (.bool false)) Jh)
  fNx)))))
  (wE (fC (.bool true)) Jh)))
noncomputable def Y5:FD:=J1 3 8 Zam
noncomputable def J0:FS :=
 (wE (Zyj (Zld "int" (Zc 0)) (fUn Z4o (Zld "bool" (Zc 0)))) Jh)
noncomputable def Z5:FD:=J1 1 1 J0
noncomputable def Yq:FS :=
 (Zr (W5 (tO (tNo (tD (Zld "list" (Zc 0)))) (tV (Zb gNe (Zbp Zfu (Ze (Zc 0) Zt)) (Zc 1))))
  (wE (fC .none) Jh)
  fNx)
  (Zr (wE (Zcu Zt) (Wf 2))
  (Zr (Jy (Jw (Zc 0)) (gNm 3)
  (Zr (W5 (tO (tNo (tD (Zld "list" (Zc 3)))) (tV (Zb gNe (Zbp Zfu (Ze (Zc 3) Zt)) (Zc 1))))
  (wE (fC .none) Jh)
  fNx)
  (Zr (Jy (Jw (Zc 3)) (gNm 4)
  (Zr (W5 (tO (tNo (tD (Zld "tuple" (Zc 4)))) (tV (Zb gNe (Zbp Zfu (Ze (Zc 4) Zt)) (fC (.int 2)))))
  (wE (fC .none) Jh)
  fNx)
  (Zr (W5 (tO (tNo (tD (Yi Z5 (Ze (Z2 gIx (Zc 4) (fC (.int 0))) Zt)))) (tNo (tD (Yi Z5 (Ze (Z2 gIx (Zc 4) (fC (.int 1))) Zt)))))
  (wE (fC .none) Jh)
  fNx)
  (W5 (tO (tV (Zb gLt (Z2 gIx (Zc 4) (fC (.int 0))) (fC (.int 0)))) (tV (Zb gNe (Z2 gIx (Zc 4) (fC (.int 1))) (fC (.int 1)))))
  (wE (fC .none) Jh)
  fNx))))
  (Je 2 (Wa 1 [] (Jw (Zc 3)) (gNm 0) Zfd (Z2 gIx (Zc 0) (fC (.int 0))))))))
  (Zaw 2))))
noncomputable def Z8:FD:=J1 2 5 Yq
noncomputable def Jd:FS :=
 (Zr (wE (Zb J2 (Zc 0) (Zb Zdz (Zb Zq9 (fC (.int 10)) (fC (.int 45))) (Zb Zq9 (fC (.int 10)) (fC (.int 45))))) (Ws 0))
  (Zr (wE (Zcu Zt) (Wf 3))
  (Zr (wE (Zb gSb (Zc 0) (Zb Zq9 (fC (.int 10)) (fC (.int 18)))) (Ws 4))
  (Zr (Jy (iRa (Ze (Zc 1) Zt)) (gNm 5)
  (Zr (wE (Zb J2 (Zb Zdz (Zb Jq (Zb Jq (Zc 0) (Zb Zdz (fC (.int 977)) (Zc 5))) (fC (.int 1))) (fC (.int 48271))) (fC (.int 2147483647))) (Ws 6))
  (Zr (wE (Zb J2 (Zb Zdz (Zc 6) (Zc 6)) (fC (.int 2147483629))) (Ws 6))
  (Zr (wE (Zb W8 (Zb J2 (Zb Zdz (Zb Jq (Zc 6) (Zb Zdz (fC (.int 40692)) (Zb Jq (Zc 5) (fC (.int 3))))) (fC (.int 69621))) (fC (.int 2147483563))) (fC (.int 8))) (Ws 6))
  (Zr (W5 (tV (Zb gGe (Zc 0) (Zb Zq9 (fC (.int 10)) (fC (.int 18)))))
  (Zr (wE (Zc 4) (Ws 6))
  (wE (Zb W8 (Zc 4) (Zc 2)) (Ws 4)))
  fNx)
  (Zw 3 (Zb J2 (Zc 6) (Zc 2))))))))
  (Zaw 3)))))
noncomputable def Yo:FD:=J1 3 7 Jd
noncomputable def Zak:FS :=
 (Zr (wE (Yi Yo (Ze (Zc 0) (Ze (fC (.int 34)) (Ze (fC (.int 100)) Zt)))) (Ws 2))
  (Zr (wE (Zb Jq (fC (.int 1)) (Zb J2 (Z2 gIx (Zc 2) (fC (.int 0))) (Zc 1))) (Ws 3))
  (Zr (wE (Wa 1 [] (iRa (Ze (Zc 3) Zt)) (gNm 0) Zfd (Zc 0)) (Wf 4))
  (Zr (wE (Zcu Zt) (Wf 5))
  (Zr (Jy (iRa (Ze (Zc 3) Zt)) (gNm 6)
  (Zw 5 (Zyf 4 (Zb J2 (Z2 gIx (Zc 2) (Zb Jq (fC (.int 1)) (Zc 6))) (Zbp Zfu (Ze (Wx 4) Zt))))))
  (Zr (wE (Zcu Zt) (Wf 7))
  (Zr (wE (Z31 (fC (.int 0)) (Zc 3)) (Wf 8))
  (Zr (Jy (iRb (Ze (fC (.int 1)) (Ze (Zc 3) Zt))) (gNm 6)
  (Zr (Zw 7 (Zom (Zd1 (Ze (Z2 gIx (Wx 5) (Zb J2 (Z2 gIx (Zc 2) (Zb Jq (fC (.int 11)) (Zc 6))) (Zc 6))) (Ze (Z2 gIx (Wx 5) (Zc 6)) Zt)))))
  (Zyk 8 (Zb gSb (fC (.int 1)) (Z2 gIx (Wx 8) (Z2 gIx (Z2 gIx (Wx 7) (fUn Zsw (fC (.int 1)))) (fC (.int 0))))) (Z2 gIx (Wx 5) (Zc 6)))))
  (Zr (Jy (iRa (Ze (Zb J2 (Z2 gIx (Zc 2) (fC (.int 21))) (fC (.int 13))) Zt)) (gNm 6)
  (Zr (wE (Zb J2 (Zb W8 (Z2 gIx (Zc 2) (Zb Jq (fC (.int 22)) (Zc 6))) (fC (.int 10))) (Zc 3)) (Ws 9))
  (Zr (wE (Zb J2 (Z2 gIx (Zc 2) (Zb Jq (fC (.int 22)) (Zc 6))) (Zc 3)) (Ws 10))
  (W5 (tAn (tV (Zb gNe (Zc 9) (Zc 10))) (tO (tV (Zb gEq (Zb J2 (Zb W8 (Z2 gIx (Zc 2) (fC (.int 21))) (fC (.int 13))) (fC (.int 3))) (fC (.int 0)))) (tV (Zb gNe (Z2 gIx (Wx 8) (Zc 9)) (Z2 gIx (Wx 8) (Zc 10))))))
  (Zw 7 (Zd1 (Ze (Zc 9) (Ze (Zc 10) Zt))))
  fNx))))
  (wE (Zd1 (Ze (Zc 3) (Ze (Za5 (Ze (Wa 2 [] (Jw (Wx 7)) (gTp 2 (gCn (Zuk 0) (gCn (Zuk 1) gNl))) Zfd (Zd1 (Ze (Zbp Zua (Ze (Zc 0) (Ze (Zc 1) Zt))) (Ze (Zbp Zun (Ze (Zc 0) (Ze (Zc 1) Zt))) Zt)))) Zt)) Zt))) Jh))))))))))
noncomputable def Y7:FD:=J1 2 11 Zak
noncomputable def Jf:FS :=
 (Zr (wE (Wa 1 [] (iRa (Ze (Zc 0) Zt)) (gNm 0) Zfd (Zcu Zt)) (Wf 2))
  (Zr (Jy (Jw (Zc 1)) (gTp 2 (gCn (gNm 3) (gCn (gNm 4) gNl)))
  (Zr (Ze4 2 (Zc 3) (Zc 4))
  (Ze4 2 (Zc 4) (Zc 3))))
  (Zaw 2)))
noncomputable def Wd:FD:=J1 2 5 Jf
noncomputable def Wm:FS :=
 (wE (Zgh (λi j=>decide (i≤j)) (λi j=>decide (i≤j)) (fC (.int 1)) (Zc 0) (fC (.int 10))) Jh)
noncomputable def Ys:FD:=J1 1 1 Wm
noncomputable def Jz:FS :=
 (Zr (Jy (Zlz (Ze (Zc 0) (Ze (fSl (Zc 0) (oI (fC (.int 1))) oN) Zt))) (gTp 2 (gCn (gNm 1) (gCn (gNm 2) gNl)))
  (W5 (tNo (tV (Zb Z3o (Zc 1) (Zc 2))))
  (wE (fC (.bool false)) Jh)
  fNx))
  (wE (fC (.bool true)) Jh))
noncomputable def Wq:FD:=J1 1 3 Jz
noncomputable def Wb:FS :=
 (Zr (W5 (tNo (tD (Yi Ys (Ze (Zc 0) Zt))))
  (Zbh "NoWeb")
  fNx)
  (Zr (Jy (Jw (Zc 1)) (gTp 2 (gCn (gNm 2) (gCn (gNm 3) gNl)))
  (W5 (tNo (tV (Zdx (λi j=>decide (i≤j)) (λi j=>decide (i<j)) (λi j=>decide (i<j)) (fC (.int 0)) (Zc 2) (Zc 3) (Zc 0))))
  (Zbh "NoWeb")
  fNx))
  (W5 (tNo (tD (Yi Wq (Ze (Zc 1) Zt))))
  (Zbh "NoWeb")
  fNx)))
noncomputable def Yp:FD:=J1 2 4 Wb
noncomputable def Jo:FS :=
 (Zr (wE (Zto (Zc 1) (fC (.int 0))) (Wf 2))
  (Zr (wE (Zcu (Ze (Zc 1) Zt)) (Ws 3))
  (Zr (Zev (tV (Zb gGt (Zbp Zfu (Ze (Zc 3) Zt)) (fC (.int 0)))) (Zr (wE (Zcu Zt) (Wf 4))
  (Zr (Jy (Jw (Zc 3)) (gNm 5)
  (Jy (Jw (Z2 gIx (Zc 0) (Zc 5))) (gNm 6)
  (W5 (tV (Zb (Zpc true) (Zc 6) (Wx 2)))
  (Zr (Zgc 2 (Zb Jq (Z2 Zlb (Wx 2) (Zc 5)) (fC (.int 1))) (Zc 6))
  (Zw 4 (Zc 6)))
  fNx)))
  (Zb1 4 (wE (Zc 4) (Ws 3))))))
  (Zaw 2))))
noncomputable def Yg:FD:=J1 2 7 Jo
noncomputable def W7:FS :=
 (Zr (wX Yp (Ze (Zc 0) (Ze (Zc 1) Zt)) Zqh)
  (Zr (wE (Yi Wd (Ze (Zc 0) (Ze (Zc 1) Zt))) (Ws 2))
  (Zr (wE (Zcu Zt) (Wf 3))
  (Zr (Jy (iRa (Ze (Zc 0) Zt)) (gNm 4)
  (Zr (wE (Yi Yg (Ze (Zc 2) (Ze (Zc 4) Zt))) (Ws 5))
  (Zr (W5 (tV (Zb gLt (Zbp Zo9 (Ze (Zc 5) Zt)) (Zc 0)))
  (Zbh "NoWeb")
  fNx)
  (Zw 3 (Wa 1 [5] (iRa (Ze (Zc 0) Zt)) (gNm 0) Zfd (Z2 Zlb (Zc 1) (Zc 0)))))))
  (Zaw 3)))))
noncomputable def Yr:FD:=J1 2 6 W7
noncomputable def Jx:FS :=
 (Zr (wE (Zcu Zt) (Wf 2))
  (Zr (Jy (Jw (Yi Yr (Ze (Zc 0) (Ze (Zc 1) Zt)))) (gNm 3)
  (Je 2 (Wa 1 [] (Jw (Zc 3)) (gNm 0) Zfd (Zd1 (Ze (Zc 0) (Ze (fC (.int 1)) Zt))))))
  (Zaw 2)))
noncomputable def Y8:FD:=J1 2 4 Jx
noncomputable def Zer:FS :=
 (Zr (wE (Wa 1 [] (Jw (Z2 Zpf (fSl (Zc 0) (oI (fC (.int 1))) (oI (fC (.int 6)))) (Zcu (Ze (Yi Yb (Ze (Zc 0) (Ze (fC (.int 0)) Zt))) Zt)))) (gNm 0) Zfd (Yi Y7 (Ze (Zc 0) (Ze (fC (.int 10)) Zt)))) (Ws 1))
  (Zr (Jy (Jw (Z2 Zpf (Zc 1) (Zqb (Zc 1) oN oN (oI (fUn Zsw (fC (.int 1))))))) (gTp 2 (gCn (gNm 2) (gCn (gNm 3) gNl)))
  (Zr (wE (fBl Zks (Ze (Zc 3) Zt)) (Ws 4))
  (Zr (wE (Yi Y8 (Ze (Zc 2) (Ze (Zc 4) Zt))) (Wf 5))
  (Zr (wE (Zgt (Yi Z8 (Ze (Wx 5) (Ze (Zc 2) Zt)))) (Wf 6))
  (Zr (W5 (tO (tV (Zb gIs (Wx 6) (fC .none))) (tV (Zb gNe (Zc 4) (Zc 3))))
  (wE (fC (.bool false)) Jh)
  fNx)
  (Zr (Jy (iRa (Ze (Zc 2) Zt)) (gNm 7)
  (W5 (tNo (tD (Yi Y5 (Ze (Zc 3) (Ze (Wx 6) (Ze (Zc 7) Zt))))))
  (wE (fC (.bool false)) Jh)
  fNx))
  (Zr (Zek 5 (fC (.int 0)))
  (Ze3 5))))))))
  (wE (fC (.bool true)) Jh)))
noncomputable def Zeu:FD:=J1 1 8 Zer
end My
namespace My
open PySem L2 PySem.Spec
inductive Rch(E:Nat->Nat->Prop)(s:Nat):Nat->Prop
 | refl:Rch E s s
 | step {k m:Nat}:Rch E s k->E k m->Rch E s m
theorem Rch.trans{E:Nat->Nat->Prop}{a b c:Nat}(h:Rch E a b)(k:Rch E b c):Rch E a c:=by
 induction k with
 | refl=>exact h
 | step _ e ih=>exact .step ih e
theorem Rch.symm{E:Nat->Nat->Prop}(hs:∀a b,E a b->E b a){a b:Nat}(h:Rch E a b):Rch E b a:=by
 induction h with
 | refl=>exact .refl
 | step _ e ih=>exact Rch.trans (.step .refl (hs _ _ e)) ih
theorem Rch.closed{E:Nat->Nat->Prop}{s:Nat}{ks:List Nat}(h0:s∈ks)(hc:∀k∈ks,∀m,E k m->m∈ks){m:Nat}(h:Rch E s m):m∈ks:=by
 induction h with
 | refl=>exact h0
 | step _ e ih=>exact hc _ ih _ e
theorem Zfr{ks:List Nat}{n:Nat}(hd:ks.Nodup)(hl:∀k∈ks,k<n):ks.length≤n:=by
 have:=hd.length_le_of_subset (l₂:=Xz n) λk m=>Qx.mpr (hl k m)
 rwa[XX]at this
theorem Zts{ks:List Nat}{n:Nat}(h:∀k<n,k∈ks):n≤ks.length:=by
 have:=(List.nodup_range (n:=n)).length_le_of_subset (l₂:=ks) λk m=>h k (Qx.mp m)
 rwa[XX]at this
noncomputable def kI(k:Nat):KY:=.inl (.inl (k:Int))
noncomputable def dI(k:Nat):Xa:=.int (k:Int)
theorem Zns{a b:Nat}(h:kI a=kI b):a=b:=Uh (Sum.inl.inj (Sum.inl.inj h))
theorem Zox(k:Nat):Zf7 (dI k)=some (kI k):=rfl
theorem Ztc{m:Nat}:∀{ks:List Nat} {vs:List Xa},vs.length=ks.length->(m∈ks->∃v∈vs,Zpd (kI m) (ks.map kI) vs=some v)∧(m∉ks->Zpd (kI m) (ks.map kI) vs=none):=by
 intro ks
 induction ks with
 | nil=>exact λ_=>⟨(λh=>nomatch h),λ_=>rfl⟩
 | cons k ks ih=>
  intro vs hl
  cases vs with
  | nil=>cases hl
  | cons v vs=>
   obtain⟨i1,i2⟩:=ih (Nat.succ.inj hl)
   rw[Qg,Zpd]
   by_cases c:k=m
   ·subst c
    rw[if_pos rfl]
    exact⟨λ_=>⟨v,.head _,rfl⟩,λh=>absurd (.head _) h⟩
   ·rw[if_neg λe=>c (Zns e)]
    refine⟨λh=>?_,λh=>i2 λz=>h (.tail _ z)⟩
    obtain⟨w,hw,e⟩:=i1 ((Xn.mp h).resolve_left λe=>c e.symm)
    exact⟨w,.tail _ hw,e⟩
theorem Zyn{m:Nat}{ks:List Nat}(h:m∉ks):Zsq (kI m) (ks.map kI)=false:=by
 unfold Zsq
 rw[List.any_map]
 refine List.any_eq_false.mpr λk hk e=>?_
 exact h (Zns (of_decide_eq_true e)▸hk)
theorem Ztm{a b:FE}{δ:Zd}{x y d:Xa}(ha:EvV a δ x)(hb:EvV b δ y)(h:Zlb x y=some (.fz d)):EvV (Z2 Zlb a b) δ d:=Zmo ha hb h (OT.data_fz _)
theorem Z15{m:Nat}(f:Nat->Nat):∀{ks:List Nat},m∈ks->Zpd (kI m) (ks.map kI) (ks.map λk=>dI (f k))=some (dI (f m)):=by
 intro ks
 induction ks with
 | nil=>exact λh=>nomatch h
 | cons k ks ih=>
  intro h
  rw[Qg,Qg,Zpd]
  by_cases c:k=m
  ·rw[if_pos (by rw[c]),c]
  ·rw[if_neg λe=>c (Zns e)]
   exact ih ((Xn.mp h).resolve_left λe=>c e.symm)
theorem Zyv{m:Nat}{f:Nat->Nat}{ks:List Nat}(hm:m∈ks):Zlb (dcD false (ks.map kI) (ks.map λk=>dI (f k))) (dI m)=some (.fz (dI (f m))):=by
 show((Zf7 (dI m)).bind λk=>if Zlv k=false then(Zeg k _).map OT.fz else none)=_
 rw[Zox,Xh,if_pos (show Zlv (kI m)=false from rfl),Zc1,Z15 f hm];rfl
theorem Z56{m:Nat}{ks:List Nat}{vs:List Xa}(hl:vs.length=ks.length):Zpc true (dI m) (dcD false (ks.map kI) vs)=some (.bool (!decide (m∈ks))):=by
 show((Zf7 (dI m)).bind λk=>if Zlv k=false then some (PyData.bool (!(Zeg k _).isSome))else none)=_
 rw[Zox,Xh,if_pos (show Zlv (kI m)=false from rfl),Zc1]
 by_cases c:m∈ks
 ·obtain⟨v,_,e⟩:=(Ztc hl).1 c
  rw[e,decide_eq_true c];rfl
 ·rw[(Ztc hl).2 c,decide_eq_false c];rfl
theorem Zrb{e j:FE}{δ:Zd}{i:Nat}{d:Xa}{ks:List Nat}{vs:List Xa}{m:Nat}(he:EvV e δ d)(hi:δ[i]? =some (some (.dc false (ks.map kI) vs)))(hj:EvV j δ (dI m))(hl:ks.length<1000000)(hm:m∉ks) :
  Zgc i e j δ= .nx (δ.set i (some (.dc false ((ks ++ [m]).map kI) (vs ++ [d])))):=by
 obtain⟨t1,e1,d1⟩:=he
 obtain⟨t2,e2,d2⟩:=hj
 unfold Zgc
 rw[Zb7,e1,Z9,hi]
 dsimp only
 rw[Zb7,e2,Z9,d1,d2,Zox]
 dsimp only
 rw[if_pos ⟨rfl,by rw[Qh,Xe];omega⟩]
 unfold Zmp Znk
 rw[Zyn hm,if_neg Xw,if_neg Xw,Qy];rfl
noncomputable def eB(bs:Xa)(s:Nat)(ks:List Nat)(vs:List Xa)(ed:List Nat)(o4 o5 o6:Option OT):Zd:=[some (.fz bs),some (.fz (dI s)),some (.dc false (ks.map kI) vs),some (.fz (.list (ed.map dI))),o4,o5,o6]
noncomputable def lsO(ns:List Nat):OT:=.nd ((ns.map dI).map OT.fz)
theorem Zcz(b:List Nat)(m:Nat):lsO (b ++ [m])= .nd ((b.map dI).map OT.fz ++ [OT.fz (dI m)]):=by
 unfold lsO
 rw[Qy,Qy];rfl
structure Met(E:Nat->Nat->Prop)(n s:Nat)(f:Nat->Nat)(ks:List Nat):Prop where
 nd:ks.Nodup
 st:s∈ks
 lt:∀k∈ks,k<n
 rch:∀k∈ks,Rch E s k
 z:f s=0
 up:∀k∈ks,k≠s->∃m∈ks,E m k∧f k=f m+1
noncomputable abbrev vF(f:Nat->Nat)(ks:List Nat):List Xa:=ks.map λk=>dI (f k)
section
variable {E:Nat->Nat->Prop}{n s:Nat}{nb:Nat->List Nat}{bs:Xa}
theorem Zkb{ks ks0 bey ed:List Nat}{f:Nat->Nat}{p m:Nat}(hn:n≤10)(M:Met E n s f ks)(hk:ks=ks0 ++ bey)(hp:p∈ks)(hm:m<n)(he:E p m) :
  ∃t f' o,Met E n s f' (ks ++ t)∧m∈ks ++ t∧(∀x∈ks,f' x=f x)∧(∀x∈t,f' x=f p+1)∧
   (W5 (tV (Zb (Zpc true) (Zc 6) (Wx 2))) (Zr (Zgc 2 (Zb Jq (Z2 Zlb (Wx 2) (Zc 5)) (fC (.int 1))) (Zc 6)) (Zw 4 (Zc 6))) fNx) (eB bs s ks (vF f ks) ed (some (lsO bey)) (some (.fz (dI p))) (some (.fz (dI m))))= .nx (eB bs s (ks ++ t) (vF f' (ks ++ t)) ed (some (lsO (bey ++ t))) (some (.fz (dI p))) o):=by
 have e2:EvV (Wx 2) (eB bs s ks (vF f ks) ed (some (lsO bey)) (some (.fz (dI p))) (some (.fz (dI m)))) (dcD false (ks.map kI) (vF f ks)):=Zba rfl (OT.data_dc _ _ _)
 have t:EvT (tV (Zb (Zpc true) (Zc 6) (Wx 2))) (eB bs s ks (vF f ks) ed (some (lsO bey)) (some (.fz (dI p))) (some (.fz (dI m)))) (!decide (m∈ks)):=Zbg (Zz (Za rfl) e2 (Z56 (Xe ..)))
 by_cases c:m∈ks
 ·rw[decide_eq_true c]at t
  refine⟨[],f,some (.fz (dI m)),by rw[Qt];exact M,by rw[Qt];exact c,λ_ _=>rfl,λ_ h=>(nomatch h),?_⟩
  rw[Qt,Qt]
  exact Yj t rfl
 ·rw[decide_eq_false c]at t
  have lk:=Zfr M.nd M.lt
  obtain⟨g,hg⟩:∃g:Nat->Nat,g= λx=>if x=m then f p+1 else f x:=⟨_,rfl⟩
  have gm:g m=f p+1:=by rw[hg];exact if_pos rfl
  have go:∀x∈ks,g x=f x:=λx hx=>by rw[hg];exact if_neg (λ(e:x=m)=>c (e▸hx))
  have ev:vF g (ks ++ [m])=vF f ks ++ [.int ((f p:Int)+1)]:=by
   unfold vF
   rw[Qy,Qe λx hx=>congrArg dI (go x hx)]
   exact congrArg (λz=>_ ++ [z]) (show dI (g m)=_ by rw[gm];rfl)
  refine⟨[m],g,some (.fz (dI m)),⟨?_,X7 _ M.st,?_,?_,?_,?_⟩,Xy _ (.head _),go,λx hx=>by rw[Xm.mp hx,gm],Zfm t (Zu (Zrb (Zar (Ztm e2 (Za rfl) (Zyv hp)) Yt) rfl (Za rfl) (by omega) c) ?_)⟩
  ·exact Vn.mpr ⟨M.nd,Qk.mpr ⟨(λz=>nomatch z),.nil⟩,λa ha b hb e=>c (by rw[←Xm.mp hb,←e];exact ha)⟩
  ·exact λk hk=>(Qc.mp hk).elim (M.lt k) λq=>Xm.mp q▸hm
  ·exact λk hk=>(Qc.mp hk).elim (M.rch k) λq=>Xm.mp q▸ .step (M.rch p hp) he
  ·rw[go s M.st];exact M.z
  ·intro k hk ne
   rcases Qc.mp hk with q|q
   ·obtain⟨x,hx,e1,e2⟩:=M.up k q ne
    exact⟨x,X7 _ hx,e1,by rw[go k q,go x hx];exact e2⟩
   ·rw[Xm.mp q]
    exact⟨p,X7 _ hp,he,by rw[gm,go p hp]⟩
  ·rw[ev]
   refine(Zgk (ts:=(bey.map dI).map OT.fz) (Za rfl) rfl (by rw[Xe,Xe];rw[hk,X6]at lk;omega)).trans ?_
   rw[Zcz];rfl
theorem Zk3{ks ks0 bey ed:List Nat}{f:Nat->Nat}{p:Nat}{o6:Option OT}{bd:List Xa}(hn:n≤10)(hE:∀m∈nb p,m<n∧E p m)(hbs:bs= .list bd)(hbd:bd[p]? =some (.list ((nb p).map dI)))(M:Met E n s f ks)(hk:ks=ks0 ++ bey)(hp:p∈ks) :
  ∃t f' o,Met E n s f' (ks ++ t)∧(∀m∈nb p,m∈ks ++ t)∧(∀x∈ks,f' x=f x)∧(∀x∈t,f' x=f p+1)∧
   (Jy (Jw (Z2 gIx (Zc 0) (Zc 5))) (gNm 6) (W5 (tV (Zb (Zpc true) (Zc 6) (Wx 2))) (Zr (Zgc 2 (Zb Jq (Z2 Zlb (Wx 2) (Zc 5)) (fC (.int 1))) (Zc 6)) (Zw 4 (Zc 6))) fNx)) (eB bs s ks (vF f ks) ed (some (lsO bey)) (some (.fz (dI p))) o6)= .nx (eB bs s (ks ++ t) (vF f' (ks ++ t)) ed (some (lsO (bey ++ t))) (some (.fz (dI p))) o):=by
 refine Exists.elim (Zav (δ:=eB bs s ks (vF f ks) ed (some (lsO bey)) (some (.fz (dI p))) o6) (it:=Jw (Z2 gIx (Zc 0) (Zc 5))) (g:=gNm 6) (S:=W5 (tV (Zb (Zpc true) (Zc 6) (Wx 2))) (Zr (Zgc 2 (Zb Jq (Z2 Zlb (Wx 2) (Zc 5)) (fC (.int 1))) (Zc 6)) (Zw 4 (Zc 6))) fNx)
  (λi δ=>∃t f' o,δ=eB bs s (ks ++ t) (vF f' (ks ++ t)) ed (some (lsO (bey ++ t))) (some (.fz (dI p))) o∧Met E n s f' (ks ++ t)∧(∀x∈ks,f' x=f x)∧(∀x∈t,f' x=f p+1)∧∀j m,j<i->(nb p)[j]? =some m->m∈ks ++ t)
  (W4 (ds:=(nb p).map dI) (Zcf (ds:=bd) (i:=p) (hbs▸Za rfl) (Za rfl) (Zb8 hbd))) ⟨[],f,o6,by rw[Qt,Qt],by rw[Qt];exact M,λ_ _=>rfl,λ_ h=>(nomatch h),λj m z=>absurd z (JQ _)⟩ (λi d δ hd h=>?turn)) λδ' z=>?fin
 case fin=>
  obtain⟨e,t,f',o,rfl,M',h1,h2,hc⟩:=z
  rw[Xe]at hc
  exact⟨t,f',o,M',λm hm=>by
   obtain⟨j,hj,e⟩:=List.getElem_of_mem hm
   exact hc j m hj (by rw[Xl hj,e]),h1,h2,e⟩
 case turn=>
  obtain⟨t,f',o,rfl,M',h1,h2,hc⟩:=h
  rw[Xj]at hd
  obtain⟨m,hm,rfl⟩:=XQ.mp hd
  obtain⟨lm,em⟩:=hE m (X8 hm)
  obtain⟨t2,f2,o2,M2,m2,g1,g2,run⟩:=Zkb (bs:=bs) (ed:=ed) (bey:=bey ++ t) hn M' (by rw[hk,QZ]) (X7 _ hp) lm em
  rw[QZ,QZ]at run
  rw[QZ]at M2 m2
  refine⟨_,_,rfl,.inl run,t ++ t2,f2,o2,rfl,M2,λx hx=>(g1 x (X7 _ hx)).trans (h1 x hx),λx hx=>?_,λj k hj hk=>?_⟩
  ·rcases Qc.mp hx with q|q
   ·exact(g1 x (Xy _ q)).trans (h2 x q)
   ·rw[g2 x q,h1 p hp]
  ·rcases Nat.lt_succ_iff_lt_or_eq.mp hj with hj|rfl
   ·rw[←QZ];exact X7 _ (hc j k hj hk)
   ·rw[hm]at hk;cases hk;exact m2
end
noncomputable def Nb(nb:Nat->List Nat):Nat->Nat->Prop:=λp m=>m∈nb p
structure Web(n:Nat)(nb:Nat->List Nat)(bs:Xa):Prop where
 le:n≤10
 lt:∀p m,m∈nb p->m<n
 bs:∃bd,bs= .list bd∧∀p<n,bd[p]? =some (.list ((nb p).map dI))
noncomputable def inB:FS:=Jy (Jw (Z2 gIx (Zc 0) (Zc 5))) (gNm 6) (W5 (tV (Zb (Zpc true) (Zc 6) (Wx 2))) (Zr (Zgc 2 (Zb Jq (Z2 Zlb (Wx 2) (Zc 5)) (fC (.int 1))) (Zc 6)) (Zw 4 (Zc 6))) fNx)
noncomputable def Z2v:FS:=Zr (wE (Zcu Zt) (Wf 4)) (Zr (Jy (Jw (Zc 3)) (gNm 5) inB) (Zb1 4 (wE (Zc 4) (Ws 3))))
noncomputable def Zwu:FT:=tV (Zb gGt (Zbp Zfu (Ze (Zc 3) Zt)) (fC (.int 0)))
section
variable {n s:Nat}{nb:Nat->List Nat}{bs:Xa}
theorem Zxo(W:Web n nb bs){ks ed:List Nat}{f:Nat->Nat}{L:Nat}{o4 o5 o6:Option OT}(M:Met (Nb nb) n s f ks)(hed:∀p∈ed,p∈ks∧f p=L) :
  ∃bey f' o4' o5' o6',Met (Nb nb) n s f' (ks ++ bey)∧(∀p∈ed,∀m∈nb p,m∈ks ++ bey)∧(∀x∈ks,f' x=f x)∧(∀x∈bey,f' x=L+1)∧Z2v (eB bs s ks (vF f ks) ed o4 o5 o6)= .nx (eB bs s (ks ++ bey) (vF f' (ks ++ bey)) bey o4' o5' o6'):=by
 obtain⟨bd,hbs,hbd⟩:=W.bs
 refine Exists.elim (Zav (δ:=eB bs s ks (vF f ks) ed (some (.nd [])) o5 o6) (it:=Jw (Zc 3)) (g:=gNm 5) (S:=inB)
  (λi δ=>∃bey f' o5 o6,δ=eB bs s (ks ++ bey) (vF f' (ks ++ bey)) ed (some (lsO bey)) o5 o6∧Met (Nb nb) n s f' (ks ++ bey)∧(∀x∈ks,f' x=f x)∧(∀x∈bey,f' x=L+1)∧∀j p,j<i->ed[j]? =some p->∀m∈nb p,m∈ks ++ bey)
  (W4 (ds:=ed.map dI) (Za rfl)) ⟨[],f,o5,o6,by rw[Qt];rfl,by rw[Qt];exact M,λ_ _=>rfl,λ_ h=>(nomatch h),λj m z=>absurd z (JQ _)⟩ (λi d δ hd h=>?turn)) λδ' z=>?fin
 case fin=>
  obtain⟨e,bey,f',o5',o6',rfl,M',h1,h2,hc⟩:=z
  rw[Xe]at hc
  refine⟨bey,f',some (.fz (.list (bey.map dI))),o5',o6',M',λp hp=>?_,h1,h2,Zu Zdg (Zu e (Znd (o:=lsO bey) rfl ?_))⟩
  ·obtain⟨j,hj,e⟩:=List.getElem_of_mem hp
   exact hc j p hj (by rw[Xl hj,e])
  ·have hd:(lsO bey).data= .list (bey.map dI):=by unfold lsO;rw[OT.data_nd,OT.map_fz]
   rw[hd]
   exact Y6 (Za rfl)
 case turn=>
  obtain⟨bey,f',o5,o6,rfl,M',h1,h2,hc⟩:=h
  rw[Xj]at hd
  obtain⟨p,hp,rfl⟩:=XQ.mp hd
  obtain⟨pks,pL⟩:=hed p (X8 hp)
  have pk:p∈ks ++ bey:=X7 _ pks
  obtain⟨t,f2,o,M2,m2,g1,g2,run⟩:=Zk3 (ed:=ed) (o6:=o6) W.le (λm hm=>⟨W.lt p m hm,hm⟩) hbs (hbd p (M'.lt p pk)) M' rfl pk
  rw[QZ]at run M2
  refine⟨_,_,rfl,.inl run,bey ++ t,f2,_,o,rfl,M2,λx hx=>(g1 x (X7 _ hx)).trans (h1 x hx),λx hx=>?_,λj k hj hk m hm=>?_⟩
  ·rcases Qc.mp hx with q|q
   ·exact(g1 x (Xy _ q)).trans (h2 x q)
   ·rw[g2 x q,h1 p pks,pL]
  rw[←QZ]
  rcases Nat.lt_succ_iff_lt_or_eq.mp hj with hj|rfl
  ·exact X7 _ (hc j k hj hk m hm)
  ·rw[hp]at hk;cases hk;exact m2 m hm
theorem Zht{ks ed:List Nat}{vs:List Xa}{o4 o5 o6:Option OT}:Zwu (eB bs s ks vs ed o4 o5 o6)=some (decide (0<ed.length),eB bs s ks vs ed o4 o5 o6):=by
 refine Zbg (Z1c (Zhd (ds:=ed.map dI) (Za rfl)) Yt ?_)
 rw[Xe]
 exact decide_eq_decide.mpr ⟨λh=>by omega,λh=>by omega⟩
theorem Zv7{t:FT}{u:FS}{k:Nat}{δ δ2:Zd}(h:t δ=some (true,δ))(g:u δ= .nx δ2):whileLoop t u (k+1) δ=whileLoop t u k δ2:=by
 rw[whileLoop,h]
 dsimp only
 rw[if_pos rfl,g]
theorem Zn3{t:FT}{u:FS}{k:Nat}{δ:Zd}(h:t δ=some (false,δ)):whileLoop t u (k+1) δ= .nx δ:=by
 rw[whileLoop,h];rfl
theorem Zt1(W:Web n nb bs)(N:Nat):∀{ks ed:List Nat} {f:Nat->Nat} {L:Nat} {o4 o5 o6:Option OT},Met (Nb nb) n s f ks->(∀p∈ed,p∈ks∧f p=L)->(∀k∈ks,f k≤L)->(∀k∈ks,k∉ed->∀m∈nb k,m∈ks∧f m≤f k+1)->2*(n-ks.length)+(if ed=[]then 0 else 1)≤N ->
  ∃g ks' f' o3 o4' o5' o6',whileLoop Zwu Z2v g (eB bs s ks (vF f ks) ed o4 o5 o6)= .nx (eB bs s ks' (vF f' ks') o3 o4' o5' o6')∧Met (Nb nb) n s f' ks'∧∀k∈ks',∀m∈nb k,m∈ks'∧f' m≤f' k+1:=by
 induction N with
 | zero=>
  intro ks ed f L o4 o5 o6 M hed hle hc hN
  have e:ed=[]:=VG λc=>by rw[if_neg c]at hN;omega
  subst e
  exact⟨1,ks,f,_,_,_,_,Zn3 Zht,M,λk hk=>hc k hk λz=>nomatch z⟩
 | succ N ih=>
  intro ks ed f L o4 o5 o6 M hed hle hc hN
  by_cases e:ed=[]
  ·subst e
   exact⟨1,ks,f,_,_,_,_,Zn3 Zht,M,λk hk=>hc k hk λz=>nomatch z⟩
  ·rw[if_neg e]at hN
   obtain⟨bey,f',p4,p5,p6,M',m',h1,h2,run⟩:=Zxo (o4:=o4) (o5:=o5) (o6:=o6) W M hed
   have ll:=Zfr M'.nd M'.lt
   rw[X6]at ll
   have tt:Zwu (eB bs s ks (vF f ks) ed o4 o5 o6)=some (true,eB bs s ks (vF f ks) ed o4 o5 o6):=by
    rw[Zht,decide_eq_true (List.length_pos_iff.mpr e)]
   have le2:∀k∈ks ++ bey,f' k≤L+1:=λk hk=>by
    rcases Qc.mp hk with q|q
    ·rw[h1 k q];exact Nat.le_succ_of_le (hle k q)
    ·rw[h2 k q];exact XD _
   have c1:∀k∈ks ++ bey,k∉bey->∀m∈nb k,m∈ks ++ bey∧f' m≤f' k+1:=λk hk hb m hm=>by
    have k0:k∈ks:=(Qc.mp hk).resolve_right hb
    by_cases ke:k∈ed
    ·have mm:=m' k ke m hm
     refine⟨mm,?_⟩
     rw[h1 k k0,(hed k ke).2]
     exact le2 m mm
    ·obtain⟨a,b⟩:=hc k k0 ke m hm
     refine⟨X7 _ a,?_⟩
     rw[h1 m a,h1 k k0];exact b
   have c2:2*(n-(ks ++ bey).length)+(if bey=[]then 0 else 1)≤N:=by
    rw[X6]
    by_cases b:bey=[]
    ·rw[if_pos b,b];show 2*(n-(ks.length+0))+0≤N;omega
    ·rw[if_neg b]
     have:=List.length_pos_iff.mpr b
     omega
   obtain⟨g,ks',f2,o3,q4,q5,q6,k1,k2,k3⟩:=ih (ks:=ks ++ bey) (ed:=bey) (L:=L+1) (o4:=p4) (o5:=p5) (o6:=p6) M' (λp hp=>⟨Xy _ hp,h2 p hp⟩) le2 c1 c2
   exact⟨g+1,ks',f2,o3,q4,q5,q6,(Zv7 tt run).trans k1,k2,k3⟩
theorem Zfh(W:Web n nb bs)(hs:s<n):∃ks f,Told Yg [bs,dI s] (dcD false (ks.map kI) (vF f ks))∧Met (Nb nb) n s f ks∧(∀m,m∈ks↔Rch (Nb nb) s m)∧∀k∈ks,∀m∈nb k,f m≤f k+1:=by
 have M0:Met (Nb nb) n s (λ_=>0) [s]:=⟨Qk.mpr ⟨(λz=>nomatch z),.nil⟩,.head _,λk hk=>Xm.mp hk▸hs,λk hk=>Xm.mp hk▸ .refl,rfl,λk hk ne=>absurd (Xm.mp hk) ne⟩
 obtain⟨g,ks,f,o3,o4,o5,o6,run,M,cl⟩:=Zt1 (ed:=[s]) (L:=0) (o4:=none) (o5:=none) (o6:=none) W _ M0 (λp hp=>⟨hp,rfl⟩) (λ_ _=>XD _) (λk hk hn=>absurd hk hn) (XD _)
 refine⟨ks,f,W0 rfl<|J3 (δ':=[some (.fz bs),some (.fz (dI s)),some (.dc false [kI s] [.int 0]),none,none,none,none]) ?_<|J3 (Y6 (Zn2 (ds:=[dI s]) (Zf (Za rfl) Zo) (show 1≤1000 by decide)))<|J3 (Zoh g run (λz=>nomatch z)) (Z4c (o:=.dc false (ks.map kI) (vF f ks)) rfl (OT.data_dc _ _ _)),M,λm=>⟨M.rch m,Rch.closed M.st λk hk m hm=>(cl k hk m hm).1⟩,λk hk m hm=>(cl k hk m hm).2⟩
 rfl
end
theorem Zj5{f g:Int->Int->Bool}{a b c:FE}{δ:Zd}{i j k:Int}(ha:EvV a δ (.int i))(hb:EvV b δ (.int j))(hc:EvV c δ (.int k))(h:f i j=true)(hg:g j k=true):EvV (Zgh f g a b c) δ (.bool true):=by
 obtain⟨_,e1,d1⟩:=ha
 obtain⟨_,e2,d2⟩:=hb
 obtain⟨_,e3,d3⟩:=hc
 refine⟨.fz (.bool true),?_,OT.data_fz _⟩
 unfold Zgh
 rw[e1,Xh,e2,Xh]
 dsimp only
 rw[d1,d2]
 dsimp only
 rw[if_pos h,e3,Xh,d3]
 dsimp only
 rw[hg]
theorem Zbw{n:Nat}(h1:1≤n)(h2:n≤10):Told Ys [dI n] (.bool true) :=
 W0 rfl (Zcl (Zj5 Yt (Za rfl) Yt (decide_eq_true (show(1:Int)≤n by omega)) (decide_eq_true (show(n:Int)≤10 by omega))))
theorem Z7l(n:Nat):Zd0 0 n=(Xz n).map dI:=Qe λi _=>by
 show XM (0+(i:Int))=_
 rw[U6];rfl
noncomputable def nbR(rs:List (Nat×Nat))(p:Nat):List Nat:=rs.flatMap λr=>if r.1=p then[r.2]else if r.2=p then[r.1]else[]
theorem Zpt(rs:List (Nat×Nat))(r:Nat×Nat)(p:Nat):nbR (rs ++ [r]) p=nbR rs p ++ (if r.1=p then[r.2]else if r.2=p then[r.1]else[]):=by
 unfold nbR
 rw[List.flatMap_append,List.flatMap_cons,List.flatMap_nil,Qt]
theorem Zay{rs:List (Nat×Nat)}{p m:Nat}:m∈nbR rs p↔(p,m)∈rs∨(m,p)∈rs:=by
 unfold nbR
 rw[List.mem_flatMap]
 constructor
 ·intro h
  obtain⟨⟨a,b⟩,hr,hm⟩:=h
  dsimp only at hm
  split at hm
  ·rename_i e;subst e;rw[Xm.mp hm];exact .inl hr
  ·split at hm
   ·rename_i e;subst e;rw[Xm.mp hm];exact .inr hr
   ·cases hm
 ·intro h
  rcases h with h|h
  ·exact⟨_,h,by dsimp only;rw[if_pos rfl];exact .head _⟩
  ·refine⟨_,h,?_⟩
   dsimp only
   split
   ·rename_i e;subst e;exact .head _
   ·rw[if_pos rfl];exact .head _
theorem set_range{f:Nat->OT}{n a:Nat}{v:OT}:((Xz n).map f).set a v=(Xz n).map λp=>if p=a then v else f p:=by
 refine List.ext_getElem? λi=>?_
 rw[List.getElem?_set,Xj,Xj,Xe,XX]
 by_cases c:i<n
 ·rw[JG c]
  by_cases e:a=i
  ·subst e;rw[if_pos rfl,if_pos c];show _=some (if _ then _ else _);rw[if_pos rfl]
  ·rw[if_neg e];show _=some (if _ then _ else _);rw[if_neg λz=>e z.symm];rfl
 ·rw[Vf (by rw[XX];omega)]
  split
  ·split
   ·omega
   ·rfl
  ·rfl
theorem Zio{j e:FE}{δ:Zd}{i k:Nat}{ts us:List OT}{d:Xa}(hi:δ[i]? =some (some (.nd ts)))(hj:EvV j δ (dI k))(ht:ts[k]? =some (.nd us))(he:EvV e δ d)(hl:us.length≤1000000):Ze4 i j e δ= .nx (δ.set i (some (.nd (ts.set k (.nd (us ++ [.fz d])))))):=by
 obtain⟨t1,e1,d1⟩:=hj
 obtain⟨t2,e2,d2⟩:=he
 have hk:k<ts.length:=(Xi.mp ht).1
 have hx:ixN ts.length (k:Int)=some k:=Ziw hk
 unfold Ze4
 rw[hi]
 dsimp only
 rw[Zb7,e1,Z9,d1]
 show(match ixN ts.length (k:Int)with|some j=>_|none=>_)=_
 rw[hx]
 dsimp only
 rw[ht]
 dsimp only
 rw[Zb7,e2,Z9,d2,if_pos (by rw[Qh];omega)]
noncomputable def bO(rs:List (Nat×Nat))(n:Nat):OT:=.nd ((Xz n).map λp=>lsO (nbR rs p))
theorem Zvm(rs:List (Nat×Nat))(p:Nat):(nbR rs p).length≤rs.length:=by
 unfold nbR
 induction rs with
 | nil=>exact XD _
 | cons r rs ih=>
  rw[List.flatMap_cons,X6,QX]
  have:(if r.1=p then[r.2]else if r.2=p then[r.1]else[]).length≤1:=by
   split
   ·exact XD _
   ·split
    ·exact XD _
    ·exact QH _
  omega
theorem Zog{n:Nat}{rs:List (Nat×Nat)}(hn:n≤10)(hr:∀r∈rs,r.1<r.2∧r.2<n)(hl:rs.length≤1000):Told Wd [dI n,.list (rs.map ptD)] (.list ((Xz n).map λp=>.list ((nbR rs p).map dI))):=by
 have h0:wE (Wa 1 [] (iRa (Ze (Zc 0) Zt)) (gNm 0) Zfd (Zcu Zt)) (Wf 2) (Jv 5 [dI n,.list (rs.map ptD)])= .nx [some (.fz (dI n)),some (.fz (.list (rs.map ptD))),some (bO [] n),none,none]:=by
  refine(Zca (o:=.nd ((Xz n).map λ_=>.nd [])) (Zbf (cs:=[]) (Xz n) dI _ (hi:=?_) (by rw[XX,Qh];omega) rfl λx _=>rfl)).trans rfl
  rw[←Z7l]
  exact Zfn (Zf (Za rfl) Zo) (by omega)
 refine W0 rfl<|J3 h0<|Zfa (ds:=rs.map ptD) (λi δ=>∃z3 z4,δ=[some (.fz (dI n)),some (.fz (.list (rs.map ptD))),some (bO (rs.take i) n),z3,z4]) (W4 (Za rfl)) ⟨_,_,by rw[List.take_zero]⟩ (λi d δ hd h=>?_) λδ' h=>?_
 ·obtain⟨z3,z4,rfl⟩:=h
  rw[Xj]at hd
  obtain⟨⟨a,b⟩,hab,rfl⟩:=XQ.mp hd
  obtain⟨l1,l2⟩:=hr _ (X8 hab)
  have l1:a<b:=l1
  have l2:b<n:=l2
  have tk:rs.take (i+1)=rs.take i ++ [(a,b)]:=by rw[List.take_succ,hab];rfl
  have nl:∀p,(nbR (rs.take i) p).length≤1000:=λp=>by
   have h1:=Zvm (rs.take i) p
   have h2:(rs.take i).length≤rs.length:=by rw[Va];exact Nat.min_le_right _ _
   omega
  have s1:=Zio (i:=2) (j:=Zc 3) (e:=Zc 4) (δ:=[some (.fz (dI n)),some (.fz (.list (rs.map ptD))),some (bO (rs.take i) n),some (.fz (dI a)),some (.fz (dI b))]) (k:=a) (us:=((nbR (rs.take i) a).map dI).map OT.fz) (d:=dI b) rfl (Za rfl) (by rw[Xj,JG (by omega)];rfl) (Za rfl) (by rw[Xe,Xe];have:=nl a;omega)
  rw[set_range]at s1
  have s2:=Zio (i:=2) (j:=Zc 4) (e:=Zc 3) (δ:=[some (.fz (dI n)),some (.fz (.list (rs.map ptD))),some (.nd ((Xz n).map λp=>if p=a then OT.nd (((nbR (rs.take i) a).map dI).map OT.fz ++ [.fz (dI b)])else lsO (nbR (rs.take i) p))),some (.fz (dI a)),some (.fz (dI b))]) (k:=b) (us:=((nbR (rs.take i) b).map dI).map OT.fz) (d:=dI a) rfl (Za rfl) (by rw[Xj,JG (by omega)];show some (if b=a then _ else _)=_;rw[if_neg (by omega)];rfl) (Za rfl) (by rw[Xe,Xe];have:=nl b;omega)
  rw[set_range]at s2
  refine⟨_,_,rfl,.inl (Zu s1 s2),some (.fz (dI a)),some (.fz (dI b)),?_⟩
  have e:((Xz n).map λp=>if p=b then OT.nd (((nbR (rs.take i) b).map dI).map OT.fz ++ [.fz (dI a)])else if p=a then OT.nd (((nbR (rs.take i) a).map dI).map OT.fz ++ [.fz (dI b)])else lsO (nbR (rs.take i) p))=(Xz n).map λp=>lsO (nbR (rs.take (i+1)) p):=Qe λp _=>by
   rw[tk,Zpt]
   by_cases c1:p=b
   ·subst c1;rw[if_pos rfl];dsimp only;rw[if_neg (by omega),if_pos rfl,Zcz]
   ·rw[if_neg c1]
    by_cases c2:p=a
    ·subst c2;rw[if_pos rfl];dsimp only;rw[if_pos rfl,Zcz]
    ·rw[if_neg c2];dsimp only;rw[if_neg λz=>c2 z.symm,if_neg λz=>c1 z.symm,Qt]
  unfold bO
  rw[←e];rfl
 ·obtain⟨z3,z4,rfl⟩:=h
  refine Z4c (o:=bO rs n) (by rw[Xe,List.take_length];rfl) ?_
  unfold bO
  rw[OT.data_nd,Qq]
  refine congrArg _ (Qe λp _=>?_)
  show(lsO (nbR rs p)).data=_
  unfold lsO
  rw[OT.data_nd,OT.map_fz]
theorem Z0s{n:Nat}{rs:List (Nat×Nat)}(hn:n≤10)(hr:∀r∈rs,r.1<r.2∧r.2<n):Web n (nbR rs) (.list ((Xz n).map λp=>.list ((nbR rs p).map dI))) :=
 ⟨hn,λp m h=>by
  rcases Zay.mp h with h|h
  ·exact(hr _ h).2
  ·have:=hr _ h;dsimp only at this;omega,_,rfl,λp hp=>by rw[Xj,JG hp];rfl⟩
noncomputable def rI(r:Nat×Nat):List Int:=[(r.1:Int),(r.2:Int)]
structure Roads(n:Nat)(rs:List (Nat×Nat)):Prop where
 n1:1≤n
 n10:n≤10
 ok:∀r∈rs,r.1<r.2∧r.2<n
 ris:∀(i:Nat) (r r':Nat×Nat),rs[i]? =some r->rs[i+1]? =some r'->ltI (rI r) (rI r')=true
 len:rs.length≤1000
theorem Zy9(ds:List Xa):cutD ds (some 1) none=ds.drop 1:=by
 unfold cutD
 have e:HT.sIx ds.length 0 (some 1)=min 1 ds.length:=HT.sIx_nat _ _ 1
 rw[e,HT.sIx_none]
 cases ds with
 | nil=>rfl
 | cons d ds=>
  rw[QX,Nat.min_eq_left (by omega),List.drop_succ_cons,List.drop_zero]
  exact List.take_of_length_le (by omega)
theorem Z3d(r r':Nat×Nat):Z3o (ptD r) (ptD r')=some (.bool (ltI (rI r) (rI r'))):=rfl
theorem Zg8{n:Nat}{rs:List (Nat×Nat)}(R:Roads n rs):Told Wq [.list (rs.map ptD)] (.bool true):=by
 refine W0 rfl<|Zfa (ds:=Zkh (rs.map ptD) ((rs.map ptD).drop 1)) (λi δ=>∃z1 z2,δ=[some (.fz (.list (rs.map ptD))),z1,z2]) (Zwg (Za rfl) ((Z0x (Za rfl) (Z4p Yt) Ybp).cast (by rw[Zy9])) rfl) ⟨_,_,rfl⟩ (λi d δ hd h=>?_) λδ' h=>?_
 ·obtain⟨z1,z2,rfl⟩:=h
  obtain⟨x,y,hx,hy,rfl⟩:=Zit hd
  rw[Xj]at hx
  rw[List.getElem?_drop,Xj]at hy
  obtain⟨r,hr,rfl⟩:=XQ.mp hx
  obtain⟨r',hr',rfl⟩:=XQ.mp hy
  have hl:=R.ris i r r' hr (by rw[Nat.add_comm];exact hr')
  exact⟨_,_,rfl,.inl (Yj (Zd4 (p:=true) (Zbg (Zz (Za rfl) (Za rfl) (by rw[Z3d,hl])))) rfl),some (.fz (ptD r)),some (.fz (ptD r')),rfl⟩
 ·obtain⟨z1,z2,rfl⟩:=h
  exact Zcl Yt
theorem Zee{n:Nat}{rs:List (Nat×Nat)}(R:Roads n rs):Told Yp [dI n,.list (rs.map ptD)] .none:=by
 refine Exists.elim (Zav (δ:=[some (.fz (dI n)),some (.fz (.list (rs.map ptD))),none,none]) (it:=Jw (Zc 1)) (g:=gTp 2 (gCn (gNm 2) (gCn (gNm 3) gNl))) (S:=W5 (tNo (tV (Zdx (λi j=>decide (i≤j)) (λi j=>decide (i<j)) (λi j=>decide (i<j)) (fC (.int 0)) (Zc 2) (Zc 3) (Zc 0)))) (Zbh "NoWeb") fNx)
  (λi δ=>∃z1 z2,δ=[some (.fz (dI n)),some (.fz (.list (rs.map ptD))),z1,z2]) (W4 (ds:=rs.map ptD) (Za rfl)) ⟨_,_,rfl⟩ (λi d δ hd h=>?turn)) λδ' z=>?fin
 case turn=>
  obtain⟨z1,z2,rfl⟩:=h
  rw[Xj]at hd
  obtain⟨⟨a,b⟩,hr,rfl⟩:=XQ.mp hd
  obtain⟨l1,l2⟩:=R.ok _ (X8 hr)
  have l1:a<b:=l1
  have l2:b<n:=l2
  refine⟨_,_,rfl,.inl (Yj (Zd4 (p:=true) (Zbg ((Zm5 Yt (Za rfl) (Za rfl) (Za rfl)).cast ?_))) rfl),some (.fz (dI a)),some (.fz (dI b)),rfl⟩
  rw[decide_eq_true (show(0:Int)≤a by omega),decide_eq_true (show(a:Int)<b by omega),decide_eq_true (show(b:Int)<n by omega)];rfl
 case fin=>
  obtain⟨e,z1,z2,rfl⟩:=z
  exact Zn9 rfl (Zu (Yj (Zd4 (p:=true) (Zgl (W2 (Zf (Za rfl) Zo) (Zbw R.n1 R.n10)))) rfl) (Zu e (Yj (Zd4 (p:=true) (Zgl (W2 (Zf (Za rfl) Zo) (Zg8 R)))) rfl)))
noncomputable def Zty(n:Nat)(rs:List (Nat×Nat)):Prop:=∀m<n,Rch (Nb (nbR rs)) 0 m
noncomputable def bsD(n:Nat)(rs:List (Nat×Nat)):Xa:=.list ((Xz n).map λp=>.list ((nbR rs p).map dI))
theorem Zii{rs:List (Nat×Nat)}(a b:Nat)(h:Nb (nbR rs) a b):Nb (nbR rs) b a:=Zay.mpr (Zay.mp h).symm
theorem Zvl{ks:List Nat}{vs:List Xa}(h:vs.length=ks.length):Zo9 [dcD false (ks.map kI) vs]=some (.int ks.length):=by
 show some (XM (((ks.map kI).map kyD).zip vs).length)=_
 rw[List.length_zip,Xe,Xe,h,Nat.min_self]
structure Dst(n:Nat)(rs:List (Nat×Nat))(s:Nat)(f:Nat->Nat):Prop where
 z:f s=0
 up:∀p<n,p≠s->∃m∈nbR rs p,m<n∧f p=f m+1
 one:∀p<n,∀m∈nbR rs p,f m≤f p+1
theorem Zx5{n:Nat}{rs:List (Nat×Nat)}(R:Roads n rs)(hc:Zty n rs){s:Nat}(hs:s<n):∃q:List Nat×(Nat->Nat),Told Yg [bsD n rs,dI s] (dcD false (q.1.map kI) (vF q.2 q.1))∧(∀m<n,m∈q.1)∧q.1.length=n∧Dst n rs s q.2:=by
 have W:=Z0s R.n10 R.ok
 obtain⟨ks,f,T,M,hk,ho⟩:=Zfh W hs
 have full:∀m<n,m∈ks:=λm hm=>(hk m).mpr (Rch.trans (Rch.symm Zii (hc s hs)) (hc m hm))
 refine⟨(ks,f),T,full,Nat.le_antisymm (Zfr M.nd M.lt) (Zts full),M.z,λp hp ne=>?_,λp hp m hm=>ho p (full p hp) m hm⟩
 obtain⟨m,hm,e1,e2⟩:=M.up p (full p hp) ne
 exact⟨m,Zii _ _ e1,M.lt m hm,e2⟩
noncomputable def Zhg(n:Nat)(f:Nat->Nat):Xa:=.list ((Xz n).map λp=>dI (f p))
theorem Zh3{n:Nat}{rs:List (Nat×Nat)}(R:Roads n rs)(hc:Zty n rs):∃F:Nat->Nat->Nat,(∀s<n,Dst n rs s (F s))∧Told Yr [dI n,.list (rs.map ptD)] (.list ((Xz n).map λs=>Zhg n (F s))):=by
 have n10:=R.n10
 obtain⟨q,hq⟩:=Vp (λs=>show∃q:List Nat×(Nat->Nat),s<n->Told Yg [bsD n rs,dI s] (dcD false (q.1.map kI) (vF q.2 q.1))∧(∀m<n,m∈q.1)∧q.1.length=n∧Dst n rs s q.2 by
  by_cases c:s<n
  ·obtain⟨q,h⟩:=Zx5 R hc c
   exact⟨q,λ_=>h⟩
  ·exact⟨([],id),λz=>absurd z c⟩)
 refine⟨λs=>(q s).2,λs hs=>(hq s hs).2.2.2,?_⟩
 refine W0 rfl<|J3 (Yaq (Zf (Za rfl) (Zf (Za rfl) Zo)) (Zee R) λ_ _=>rfl)<|J3 (Y6 (W2 (Zf (Za rfl) (Zf (Za rfl) Zo)) (Zog R.n10 R.ok R.len)))<|J3 Zdg<|
  Zfa (ds:=Zd0 0 n) (λi δ=>∃z4 z5,δ=[some (.fz (dI n)),some (.fz (.list (rs.map ptD))),some (.fz (bsD n rs)),some (.nd (((Xz i).map λs=>Zhg n (q s).2).map OT.fz)),z4,z5]) (Zfn (Zf (Za rfl) Zo) (Qs n10 (by decide))) ⟨_,_,rfl⟩ (λi d δ hd h=>?_) λδ' h=>?_
 ·obtain⟨z4,z5,rfl⟩:=h
  obtain⟨hi,e⟩:=Jc hd
  rw[U6]at e
  subst e
  obtain⟨T,full,ln,_⟩:=hq i hi
  refine⟨_,_,rfl,.inl (Zu (Y6 (W2 (Zf (Za rfl) (Zf (Za rfl) Zo)) T)) (Zu (Yj (Zbg (Zrd (Zew (Zf (Za rfl) Zo) (Zvl (Xe ..))) (Za rfl) (decide_eq_false (by rw[ln];exact Int.lt_irrefl _)))) rfl) (Zgk (ts:=((Xz i).map λs=>Zhg n (q s).2).map OT.fz) (d:=Zhg n (q i).2) (Zmq (cs:=[some (.fz (dcD false ((q i).1.map kI) (vF (q i).2 (q i).1)))]) (Xz n) dI (λp=>dI ((q i).2 p)) ?_ (by rw[XX];exact Qs n10 (by decide)) rfl λx hx=>Ztm (Za rfl) (Za rfl) (Zyv (full x (Qx.mp hx)))) rfl (by rw[Xe,Xe,XX];exact Qs (Bu hi) (Qs n10 (by decide)))))),some (.fz (.int i)),some (.fz (dcD false ((q i).1.map kI) (vF (q i).2 (q i).1))),?_⟩
  ·rw[←Z7l]
   exact Zfn (Zf (Za rfl) Zo) (Qs n10 (by decide))
  ·rw[List.range_succ,Qy,Qy];rfl
 ·obtain⟨z4,z5,rfl⟩:=h
  rw[W6]
  exact Z4c rfl (by rw[OT.data_nd,OT.map_fz])
theorem Zc6{e:FE}{δ:Zd}{i:Int}(h:EvV e δ (.int i)):e δ=some (.fz (.int i),δ):=by
 obtain⟨t,e1,d1⟩:=h
 rw[e1,Zja d1]
theorem Zf1(ns:List Nat):(lsO ns).data= .list (ns.map dI):=by unfold lsO;rw[OT.data_nd,OT.map_fz]
noncomputable def Zuf(n:Nat)(f:Nat->Nat):Xa:=.list ((Xz n).map λp=>.tuple [dI (f p),.int 1])
theorem Zni{e:FE}{δ:Zd}{i:Nat}{o:OT}{ts:List OT}(h:e δ=some (o,δ))(hi:δ[i]? =some (some (.nd ts)))(hl:ts.length≤1000000):Je i e δ= .nx (δ.set i (some (.nd (ts ++ [o])))):=by
 rw[Zhv,hi,Zib,h,Z9,hi,Zib,Zo3 hl]
theorem Zv5{α:Type}{caps:List Nat}{it:FI}{me:FE}{cs:Zd}{δ:Zd}(xs:List α)(mk f:α->Xa)(hi:EvI it δ (xs.map mk))(hz:xs.length≤1000000)(hb:blk 1 caps δ=none :: cs)(h:∀x∈xs,EvV me (some (.fz (mk x)) :: cs) (f x)):∃rs,Wa 1 caps it (gNm 0) Zfd me δ=some (.nd rs,δ)∧(OT.nd rs).data= .list (xs.map f):=by
 have g:∀x,∃o:OT,x∈xs->me (some (.fz (mk x)) :: cs)=some (o,some (.fz (mk x)) :: cs)∧o.data=f x:=λx=>by
  by_cases c:x∈xs
  ·obtain⟨o,h1,h2⟩:=h x c
   exact⟨o,λ_=>⟨h1,h2⟩⟩
  ·exact⟨.fz .none,λz=>absurd z c⟩
 obtain⟨o,ho⟩:=Vp g
 unfold EvI at hi
 refine⟨_,Zbf (cs:=cs) xs mk o hi (by rw[Qh];omega) hb (λx hx=>(ho x hx).1),?_⟩
 rw[OT.data_nd,Qq]
 exact congrArg _ (Qe λx hx=>(ho x hx).2)
theorem Zm3{np n:Nat}{S:FS}{xs:List Xa}{o:OT}{δ':Zd}(hl:xs.length=np)(k:S (Jv n xs)= .rt o δ'):J1 np n S xs= .ok o:=by rw[Zhw hl,k,Znz]
theorem Zgy{n:Nat}{rs:List (Nat×Nat)}(R:Roads n rs)(hc:Zty n rs):∃F:Nat->Nat->Nat,(∀s<n,Dst n rs s (F s))∧∃ts:List OT,Y8 [dI n,.list (rs.map ptD)]= .ok (.nd ts)∧ts.map OT.data=(Xz n).map (λs=>Zuf n (F s))∧∀t∈ts,∃us,t= .nd us:=by
 have n10:=R.n10
 obtain⟨F,hF,T⟩:=Zh3 R hc
 refine⟨F,hF,?_⟩
 refine Exists.elim (Zav (δ:=[some (.fz (dI n)),some (.fz (.list (rs.map ptD))),some (.nd []),none]) (it:=Jw (Yi Yr (Ze (Zc 0) (Ze (Zc 1) Zt)))) (g:=gNm 3) (S:=Je 2 (Wa 1 [] (Jw (Zc 3)) (gNm 0) Zfd (Zd1 (Ze (Zc 0) (Ze (fC (.int 1)) Zt)))))
  (λi δ=>∃ts z,δ=[some (.fz (dI n)),some (.fz (.list (rs.map ptD))),some (.nd ts),z]∧ts.map OT.data=(Xz i).map (λs=>Zuf n (F s))∧∀t∈ts,∃us,t= .nd us)
  (W4 (W2 (Zf (Za rfl) (Zf (Za rfl) Zo)) T)) ⟨[],none,rfl,rfl,λ_ h=>nomatch h⟩ (λi d δ hd h=>?turn)) λδ' z=>?fin
 case turn=>
  obtain⟨ts,z,rfl,h1,h2⟩:=h
  rw[Xj]at hd
  obtain⟨x,hx,rfl⟩:=XQ.mp hd
  have xi:x=i∧i<n:=by
   have hl:=(Xi.mp hx).1
   rw[XX]at hl
   rw[JG hl]at hx
   cases hx
   exact⟨rfl,hl⟩
  obtain⟨rfl,hi⟩:=xi
  obtain⟨us,e1,e2⟩:=Zv5 (caps:=[]) (cs:=[]) (it:=Jw (Zc 3)) (me:=Zd1 (Ze (Zc 0) (Ze (fC (.int 1)) Zt))) (δ:=[some (.fz (dI n)),some (.fz (.list (rs.map ptD))),some (.nd ts),some (.fz (Zhg n (F x)))]) (Xz n) (λp=>dI (F x p)) (λp=>.tuple [dI (F x p),.int 1]) (W4 (Za rfl)) (by rw[XX];exact Qs n10 (by decide)) rfl λp _=>Ze0 (Zf (Za rfl) (Zf Yt Zo)) (show 2≤1000 by decide)
  have lt:ts.length=x:=by
   have:=congrArg List.length h1
   rwa[Xe,Xe,XX]at this
  refine⟨_,_,rfl,.inl (Zni (ts:=ts) e1 rfl (by rw[lt];exact Qs (Bu hi) (Qs n10 (by decide)))),ts ++ [.nd us],_,rfl,?_,λt ht=>?_⟩
  ·rw[Qy,h1,List.range_succ,Qy]
   exact congrArg (λz=>_ ++ [z]) e2
  ·rcases Qc.mp ht with q|q
   ·exact h2 t q
   ·exact⟨us,Xm.mp q⟩
 case fin=>
  obtain⟨e,ts,z,rfl,h1,h2⟩:=z
  rw[Xe,XX]at h1
  refine⟨ts,Zm3 (δ':=[some (.fz (dI n)),some (.fz (.list (rs.map ptD))),none,z]) rfl (Zu Zdg (Zu e ?_)),h1,h2⟩
  rw[Zf5];rfl
noncomputable def Zyi(n:Nat)(F:Nat->Nat->Nat):Xa:=.list ((Xz n).map λs=>Zuf n (F s))
noncomputable def Zxl(n:Nat)(F:Nat->Nat->Nat):Xa:=.list ((Xz n).map λs=>Zhg n (F s))
theorem Ziq(i:Int):Told Z5 [.int i] (.bool true):=W0 rfl (Zcl (Zrg (Zgp (Za rfl) rfl) (Z3c (Zgp (p:=false) (Za rfl) rfl) rfl)))
theorem Zhj{S S':FS}{δ δ1:Zd}{o:OT}(h:S δ= .nx δ1)(k:∃δ',S' δ1= .rt o δ'):∃δ',Zr S S' δ= .rt o δ':=k.imp λ_ k=>Zu h k
theorem Zwj{S S':FS}{δ:Zd}{o:OT}{ds:List Xa}{it:FI}{g:FG}(I:Nat->Zd->Prop)(hi:EvI it δ ds)(h0:I 0 δ)(turn:∀(i:Nat) (d:Xa) (δ:Zd),ds[i]? =some d->I i δ->∃δ1 δ2,g d δ=some δ1∧(S δ1= .nx δ2∨S δ1= .ct δ2)∧I (i+1) δ2)(k:∀δ',I ds.length δ'->∃δ2,S' δ'= .rt o δ2):∃δ',Zr (Jy it g S) S' δ= .rt o δ':=by
 obtain⟨δ',e,h⟩:=Zav I hi h0 turn
 exact Zhj e (k δ' h)
noncomputable def frO(n:Nat)(F:Nat->Nat->Nat)(i:Nat):List OT:=(Xz i).map λs=>lsO ((Xz n).map (F s))
theorem Zp2(n:Nat)(F:Nat->Nat->Nat):(OT.nd (frO n F n)).data=Zxl n F:=by
 unfold frO Zxl
 rw[OT.data_nd,Qq]
 refine congrArg _ (Qe λs _=>?_)
 show(lsO _).data=_
 rw[Zf1,Qq];rfl
theorem flats{ts:List OT}(h:∀t∈ts,Zae t=true):Zdt ts=true:=by
 induction ts with
 | nil=>rfl
 | cons t ts ih=>rw[Zdt,h t (.head _),ih λu m=>h u (.tail _ m)];rfl
theorem Zpk(n:Nat)(F:Nat->Nat->Nat):Zae (.nd (frO n F n))=true:=by
 rw[Zae]
 refine flats λt ht=>?_
 obtain⟨s,_,rfl⟩:=XR.mp ht
 unfold lsO
 rw[Zae]
 refine flats λt ht=>?_
 obtain⟨d,hd,rfl⟩:=XR.mp ht
 obtain⟨x,_,rfl⟩:=XR.mp hd
 unfold dI
 rw[Zae,We]
theorem Zfs{n:Nat}(n10:n≤10)(F:Nat->Nat->Nat):Z8 [Zyi n F,dI n]= .ok (.nd (frO n F n)):=by
 have ll:∀{δ:Zd} {j:Nat} {g:Nat->Xa},δ[j]? =some (some (.fz (.list ((Xz n).map g))))->EvV (Zbp Zfu (Ze (Zc j) Zt)) δ (dI n):=λh=>(Zhd (Za h)).cast (by rw[Xe,XX];rfl)
 have key:∃δ',Yq (Jv 5 [Zyi n F,dI n])= .rt (.nd (frO n F n)) δ':=by
   refine Zhj (Yj (Zr8 (Zd4 (p:=true) (Zgl (Zgp (Za rfl) rfl))) (Zbg (Zec (ll (j:=0) rfl) (Za rfl) (by rw[decide_eq_true rfl];rfl)))) rfl)<|Zhj Zdg<|
    Zwj (ds:=(Xz n).map λs=>Zuf n (F s)) (λi δ=>∃z3 z4,δ=[some (.fz (Zyi n F)),some (.fz (dI n)),some (.nd (frO n F i)),z3,z4]) (W4 (Za rfl)) ⟨_,_,rfl⟩ (λi d δ hd h=>?_) λδ' h=>?_
   ·obtain⟨z3,z4,rfl⟩:=h
    rw[Xj]at hd
    obtain⟨x,hx,rfl⟩:=XQ.mp hd
    have hl:=(Xi.mp hx).1
    rw[XX]at hl
    rw[JG hl]at hx
    cases hx
    refine Exists.elim (Zav (δ:=[some (.fz (Zyi n F)),some (.fz (dI n)),some (.nd (frO n F i)),some (.fz (Zuf n (F i))),z4]) (it:=Jw (Zc 3)) (g:=gNm 4)
     (S:=Zr (W5 (tO (tNo (tD (Zld "tuple" (Zc 4)))) (tV (Zb gNe (Zbp Zfu (Ze (Zc 4) Zt)) (fC (.int 2))))) (wE (fC .none) Jh) fNx) (Zr (W5 (tO (tNo (tD (Yi Z5 (Ze (Z2 gIx (Zc 4) (fC (.int 0))) Zt)))) (tNo (tD (Yi Z5 (Ze (Z2 gIx (Zc 4) (fC (.int 1))) Zt))))) (wE (fC .none) Jh) fNx) (W5 (tO (tV (Zb gLt (Z2 gIx (Zc 4) (fC (.int 0))) (fC (.int 0)))) (tV (Zb gNe (Z2 gIx (Zc 4) (fC (.int 1))) (fC (.int 1))))) (wE (fC .none) Jh) fNx)))
     (λ_ δ=>∃z,δ=[some (.fz (Zyi n F)),some (.fz (dI n)),some (.nd (frO n F i)),some (.fz (Zuf n (F i))),z]) (W4 (ds:=(Xz n).map λp=>.tuple [dI (F i p),.int 1]) (Za rfl)) ⟨_,rfl⟩ (λj d δ hd h=>?turn)) λδ2 z=>?fin
    case turn=>
     obtain⟨z,rfl⟩:=h
     rw[Xj]at hd
     obtain⟨p,_,rfl⟩:=XQ.mp hd
     refine⟨_,_,rfl,.inl (Zu (Yj (Zr8 (Zd4 (p:=true) (Zgl (Zgp (Za rfl) rfl))) (Zbg (Zec (i:=2) (Zew (Zf (Za rfl) Zo) rfl) Yt rfl))) rfl) (Zu (Yj (Zr8 (Zd4 (p:=true) (Zgl (W2 (Zf (Zh8 (Za rfl) Yt rfl) Zo) (Ziq (F i p))))) (Zd4 (p:=true) (Zgl (W2 (Zf (Zh8 (Za rfl) Yt rfl) Zo) (Ziq 1))))) rfl) (Yj (Zr8 (Zbg (Zrd (i:=(F i p:Int)) (Zh8 (Za rfl) Yt rfl) Yt (decide_eq_false (Int.not_lt.mpr (Int.natCast_nonneg _))))) (Zbg (Zec (i:=1) (Zh8 (Za rfl) Yt rfl) Yt rfl))) rfl))),_,rfl⟩
    case fin=>
     obtain⟨run,z,rfl⟩:=z
     refine⟨_,_,rfl,.inl (Zu (Yj (Zr8 (Zd4 (p:=true) (Zgl (Zgp (Za rfl) rfl))) (Zbg (Zec (ll (j:=3) rfl) (Za rfl) (by rw[decide_eq_true rfl];rfl)))) rfl) (Zu run (Zni (ts:=frO n F i) (o:=lsO ((Xz n).map (F i))) ((Zbf (cs:=[]) (Xz n) (λp=>.tuple [dI (F i p),.int 1]) (λp=>.fz (dI (F i p))) (W4 (Za rfl)) (by rw[Qh,XX];omega) rfl λp _=>Zc6 (i:=(F i p:Int)) (Zh8 (Za rfl) Yt rfl)).trans (by unfold lsO;rw[Qq,Qq];rfl)) rfl (by unfold frO;rw[Xe,XX];exact Qs (Bu hl) (Qs n10 (by decide)))))),some (.fz (Zuf n (F i))),z,?_⟩
     unfold frO
     rw[List.range_succ,Qy];rfl
   ·obtain⟨z3,z4,rfl⟩:=h
    rw[Xe,XX]
    exact⟨_,by rw[Zf5];rfl⟩
 obtain⟨δ',e⟩:=key
 exact Zm3 rfl e
theorem Z8e:Zq9 (.int 10) (.int 45)=some (.int 1000000000000000000000000000000000000000000000):=rfl
theorem Ybw:Zdz (.int 1000000000000000000000000000000000000000000000) (.int 1000000000000000000000000000000000000000000000)=some (.int 1000000000000000000000000000000000000000000000000000000000000000000000000000000000000000000):=rfl
theorem Zrq(c:Int)(m:Nat)(b:Int)(hm:m≤1000)(hb:(decide (0<b)&&decide (b<18446744073709551616))=true):∃vs:List Int,Told Yo [.int c,.int m,.int b] (Wy vs)∧vs.length=m:=by
 have b0:b≠0:=λe=>by rw[e]at hb;exact absurd hb (by decide)
 have key:∃d,Told Yo [.int c,.int m,.int b] d∧∃vs,d=Wy vs∧vs.length=m :=
  Z0o rfl<|Zal (Y6 (W3 Za (Zz (Zz Yt Yt Z8e) (Zz Yt Yt Z8e) Ybw) (by decide)))<|Zal Zdg<|Zal (Y6 (Zgi Za (Zz Yt Yt Z68)))<|Zjv (ds:=Zd0 0 m) (λi δ=>∃(vs:List Int) (c x:Int) (z1 z2:Option OT),δ=[some (.fz (.int c)),some (.fz (.int m)),some (.fz (.int b)),some (.nd (vs.map λv=>.fz (.int v))),some (.fz (.int x)),z1,z2]∧vs.length=i)
   (Zfn (n:=m) (Zf Za Zo) (by omega)) ⟨[],_,_,none,none,rfl,rfl⟩ (λi d δ hd q91=>by
    obtain⟨vs,c,x,z1,z2,e,hl⟩:=q91
    subst e
    obtain⟨hi,rfl⟩:=Jc hd
    have n0:=Znc (i:=(c+977*(0+(i:Int))+1)*48271) (j:=2147483647) (by decide)
    have n1:=Zlf (i:=(c+977*(0+(i:Int))+1)*48271) (j:=2147483647) (by decide)
    have a1:∀z2,wE (Zb J2 (Zb Zdz (Zb Jq (Zb Jq (Zc 0) (Zb Zdz (fC (.int 977)) (Zc 5))) (fC (.int 1))) (fC (.int 48271))) (fC (.int 2147483647))) (Ws 6) [some (.fz (.int c)),some (.fz (.int m)),some (.fz (.int b)),some (.nd (vs.map λv=>.fz (.int v))),some (.fz (.int x)),some (.fz (.int (0+(i:Int)))),z2]= .nx _:=λz2=>Y6 (W3 (Zhh (Zar (Zar Za (Zda Yt Za)) Yt) Yt) Yt (by decide))
    by_cases q:1000000000000000000≤c
    ·exact⟨_,_,rfl,.inl (Zu (a1 z2)<|Zu (Y6 (W3 (Zda Za Za (by omega)) Yt (by decide)))<|Zu (Y6 (Zdn (W3 (Zhh (Zar Za (Zda Yt (Zar Za Yt))) Yt) Yt (by decide)) Yt))<|
      Zu (Zfm (Zbg (Z2n Za (Zz Yt Yt Z68) (decide_eq_true q))) (Zu (Y6 Za) (Y6 (Zdn Za Za hb))))<|
      (Zjq (vs:=vs) (W3 Za Za b0) rfl (by omega))),_,_,_,_,_,rfl,by rw[X6,hl];rfl⟩
    ·exact⟨_,_,rfl,.inl (Zu (a1 z2)<|Zu (Y6 (W3 (Zda Za Za (by omega)) Yt (by decide)))<|Zu (Y6 (Zdn (W3 (Zhh (Zar Za (Zda Yt (Zar Za Yt))) Yt) Yt (by decide)) Yt))<|
      Zu (Yj (Zbg (Z2n Za (Zz Yt Yt Z68) (decide_eq_false q))) rfl)<|
      (Zjq (vs:=vs) (W3 Za Za b0) rfl (by omega))),_,_,_,_,_,rfl,by rw[X6,hl];rfl⟩)
   λδ' q92=>by
    obtain⟨vs,c,x,z1,z2,e,hl⟩:=q92
    subst e
    rw[W6]at hl
    exact Ybo rfl ⟨vs,Zrs vs,hl⟩
 obtain⟨d,h,vs,rfl,hl⟩:=key
 exact⟨vs,h,hl⟩
theorem Zvw{e:FE}{δ:Zd}{d:Xa}(h:EvV e δ d)(hf:We d=true):EvV (Zom e) δ d:=by
 obtain⟨t,e1,d1⟩:=h
 exact⟨_,by rw[Zql,e1,Xh,d1,if_pos hf],OT.data_fz _⟩
theorem Z1l{δ:Zd}{i n:Nat}{e j:FE}{ts:List OT}{d:Xa}{k:Int}(h:EvV e δ d)(hi:δ[i]? =some (some (.nd ts)))(hj:EvV j δ (.int k))(hx:ixN ts.length k=some n):Zyk i e j δ= .nx (δ.set i (some (.nd (ts.set n (.fz d))))):=by
 obtain⟨t,e1,e2⟩:=h
 obtain⟨u,e3,e4⟩:=hj
 rw[Zw1,e1,Z9,hi,Zib,e3,Z9,e4,e2]
 show onX (ixN ts.length k) _=_
 rw[hx];rfl
theorem Zdh{α β:Type}(f:α->β):∀(l:List α) (j:Nat),(l.map f).eraseIdx j=(l.eraseIdx j).map f
 | [],_=>rfl
 | _ :: _,0=>rfl
 | a :: l,j+1=>congrArg (f a :: ·) (Zdh f l j)
theorem Zey:∀(l:List Nat) (j:Nat),j<l.length->(l.getD j 0 :: l.eraseIdx j).Perm l
 | [],_,h=>by simp at h
 | a :: l,0,_=>.refl _
 | a :: l,j+1,h=>(List.Perm.swap _ _ _).trans ((Zey l j (by simpa using h)).cons a)
theorem Zz1{i:Nat}{a:FE}{δ:Zd}{l:List Nat}{j:Nat}(hi:δ[i]? =some (some (lsO l)))(ha:EvV a δ (dI j))(hj:j<l.length)(hl:l.length≤1000) :
  Zyf i a δ=some (.fz (dI (l.getD j 0)),δ.set i (some (lsO (l.eraseIdx j)))):=by
 have e1:((l.map dI).map OT.fz)[j]? =some (.fz (dI (l.getD j 0))):=by
  rw[Xj,Xj,Xq,Xl hj];rfl
 unfold lsO at hi⊢
 unfold Zyf
 rw[hi]
 dsimp only
 rw[Zc6 (i:=(j:Int)) ha,Xh]
 dsimp only
 rw[hi]
 dsimp only
 rw[OT.data_fz]
 dsimp only
 rw[Ziw (by rw[Xe,Xe];exact hj)]
 dsimp only
 rw[e1]
 dsimp only
 rw[if_pos (by rw[Xe,Xe,Qh];omega),Zdh,Zdh]
noncomputable def rsO(rs:List (Nat×Nat)):OT:=.nd ((rs.map ptD).map OT.fz)
theorem Zjc(rs:List (Nat×Nat)):(rsO rs).data= .list (rs.map ptD):=by unfold rsO;rw[OT.data_nd,OT.map_fz]
noncomputable def siO(ss:List Int):OT:=.nd ((ss.map XM).map OT.fz)
theorem Zjp(ss:List Int):(siO ss).data= .list (ss.map XM):=by unfold siO;rw[OT.data_nd,OT.map_fz]
noncomputable def eV(c:Int)(vs:List Int)(n:Nat)(o4 o5 o6 o7 o8 o9 oa:Option OT):Zd:=[some (.fz (.int c)),some (.fz (.int 10)),some (.fz (Wy vs)),some (.fz (dI n)),o4,o5,o6,o7,o8,o9,oa]
theorem Zrc{c:Int}{vs:List Int}{n m j:Nat}{o4 o5 o7 o8 o9 oa:Option OT}(hl:vs.length=34)(hm:m+j<34):EvV (Z2 gIx (Zc 2) (Zb Jq (fC (.int m)) (Zc 6))) (eV c vs n o4 o5 (some (.fz (dI j))) o7 o8 o9 oa) (.int (vs.getD (m+j) 0)):=by
 have:=Zbe (p:=vs) (i:=(m:Int)+(j:Int)) (δ:=eV c vs n o4 o5 (some (.fz (dI j))) o7 o8 o9 oa) (Za (i:=2) rfl) (Zar Yt (Za (i:=6) rfl)) (by omega) (by omega)
 exact this.cast (by rw[show((m:Int)+(j:Int)).toNat=m+j by omega])
theorem Z14{c:Int}{vs:List Int}{n m:Nat}{o4 o5 o6 o7 o8 o9 oa:Option OT}(hl:vs.length=34)(hm:m<34):EvV (Z2 gIx (Zc 2) (fC (.int m))) (eV c vs n o4 o5 o6 o7 o8 o9 oa) (.int (vs.getD m 0)):=Zbe (p:=vs) (i:=(m:Int)) (Za (i:=2) rfl) Yt (by omega) (by omega)
theorem Ybv{c:Int}{vs:List Int}{n i:Nat}{l N:List Nat}{o6 o7 o8 o9 oa:Option OT}(hl:vs.length=34)(hi:i<n)(n10:n≤10)(ll:l.length+i=n)(lN:N.length=i) :
  ∃x l',(x :: l').Perm l∧Zw 5 (Zyf 4 (Zb J2 (Z2 gIx (Zc 2) (Zb Jq (fC (.int 1)) (Zc 6))) (Zbp Zfu (Ze (Wx 4) Zt)))) (eV c vs n (some (lsO l)) (some (lsO N)) (some (.fz (dI i))) o7 o8 o9 oa)= .nx (eV c vs n (some (lsO l')) (some (lsO (N ++ [x]))) (some (.fz (dI i))) o7 o8 o9 oa):=by
 obtain⟨j,hj,lj⟩:=Jl (vs.getD (1+i) 0) (n:=l.length) (by omega)
 have e:EvV (Zb J2 (Z2 gIx (Zc 2) (Zb Jq (fC (.int 1)) (Zc 6))) (Zbp Zfu (Ze (Wx 4) Zt))) (eV c vs n (some (lsO l)) (some (lsO N)) (some (.fz (dI i))) o7 o8 o9 oa) (dI j) :=
  (W3 (Zrc (m:=1) hl (by omega)) ((Zhd (Zba rfl (Zf1 l))).cast (by rw[Xe])) (by omega)).cast (congrArg XM hj)
 have p:=Zz1 (δ:=eV c vs n (some (lsO l)) (some (lsO N)) (some (.fz (dI i))) o7 o8 o9 oa) (i:=4) rfl e lj (by omega)
 refine⟨_,_,Zey l j lj,(Zwn (ts0:=(N.map dI).map OT.fz) (ts:=(N.map dI).map OT.fz) p rfl rfl (by rw[Xe,Xe];omega)).trans ?_⟩
 rw[OT.data_fz,Zcz];rfl
noncomputable def Ej(rs:List (Nat×Nat))(a b:Nat):Prop:=(a,b)∈rs∨(b,a)∈rs
theorem Rch.map{E E':Nat->Nat->Prop}{s m:Nat}(hE:∀a b,E a b->E' a b)(h:Rch E s m):Rch E' s m:=by
 induction h with
 | refl=>exact .refl
 | step _ e ih=>exact .step ih (hE _ _ e)
structure Prs(n:Nat)(rs:List (Nat×Nat)):Prop where
 ok:∀r∈rs,r.1≠r.2∧r.1<n∧r.2<n
theorem Prs.add{n:Nat}{rs:List (Nat×Nat)}(P:Prs n rs){a b:Nat}(h:a≠b)(ha:a<n)(hb:b<n):Prs n (rs ++ [(a,b)]):=⟨λr hr=>by
 rcases Qc.mp hr with q|q
 ·exact P.ok r q
 ·rw[Xm.mp q];exact⟨h,ha,hb⟩⟩
theorem Ej.add{rs:List (Nat×Nat)}{q:Nat×Nat}(a b:Nat)(h:Ej rs a b):Ej (rs ++ [q]) a b:=h.imp (X7 _) (X7 _)
theorem Zry(r:Nat×Nat):We (ptD r)=true:=by unfold ptD;rw[We,Zch,Zch,Zch,We,We];rfl
theorem Zxg{δ:Zd}{j k:Nat}{l:List Nat}{e:FE}(h:δ[j]? =some (some (lsO l)))(he:EvV e δ (dI k))(hk:k<l.length):EvV (Z2 gIx (Wx j) e) δ (dI (l.getD k 0)):=Zcf (Zba h (Zf1 l)) he (Zb8 (by rw[Xj,Xq,Xl hk];rfl))
theorem Zju(rs:List (Nat×Nat))(r:Nat×Nat):rsO (rs ++ [r])= .nd ((rs.map ptD).map OT.fz ++ [OT.fz (ptD r)]):=by
 unfold rsO
 rw[Qy,Qy];rfl
theorem Z8z{ss:List Int}{j:Nat}(h:j<ss.length):(ss.map XM)[j]? =some (.int (ss.getD j 0)):=by rw[Xj,Xq,Xl h];rfl
theorem Z6m{c:Int}{vs:List Int}{n k:Nat}{N:List Nat}{rs:List (Nat×Nat)}{ss:List Int}{o4 o9 oa:Option OT}(hl:vs.length=34)(hk:k<n)(k1:1≤k)(n10:n≤10)(lN:N.length=n)(hN:∀x∈N,x<n)(ls:ss.length=n)(lr:rs.length≤100) :
  ∃i ss',i<k∧ss'.length=n∧(Zr (Zw 7 (Zom (Zd1 (Ze (Z2 gIx (Wx 5) (Zb J2 (Z2 gIx (Zc 2) (Zb Jq (fC (.int 11)) (Zc 6))) (Zc 6))) (Ze (Z2 gIx (Wx 5) (Zc 6)) Zt)))))
   (Zyk 8 (Zb gSb (fC (.int 1)) (Z2 gIx (Wx 8) (Z2 gIx (Z2 gIx (Wx 7) (fUn Zsw (fC (.int 1)))) (fC (.int 0))))) (Z2 gIx (Wx 5) (Zc 6)))) (eV c vs n o4 (some (lsO N)) (some (.fz (dI k))) (some (rsO rs)) (some (siO ss)) o9 oa)= .nx (eV c vs n o4 (some (lsO N)) (some (.fz (dI k))) (some (rsO (rs ++ [(N.getD i 0,N.getD k 0)]))) (some (siO ss')) o9 oa):=by
 obtain⟨i,hi,li⟩:=Jl (vs.getD (11+k) 0) (n:=k) k1
 have gk:N.getD k 0<n:=by
  rw[Xq,Xl (by omega)];exact hN _ (Vt _)
 have gi:N.getD i 0<n:=by
  rw[Xq,Xl (by omega)];exact hN _ (Vt _)
 refine⟨i,ss.set (N.getD k 0) (1-ss.getD (N.getD i 0) 0),li,by rw[Vl];exact ls,Zu (δ':=eV c vs n o4 (some (lsO N)) (some (.fz (dI k))) (some (rsO (rs ++ [(N.getD i 0,N.getD k 0)]))) (some (siO ss)) o9 oa) ?_ ?_⟩
 ·refine(Zgk (ts:=(rs.map ptD).map OT.fz) (d:=ptD (N.getD i 0,N.getD k 0)) (Zvw (Ze0 (Zf (Zxg rfl ((W3 (Zrc (m:=11) hl (by omega)) (Za rfl) (by omega)).cast (congrArg XM hi)) (by omega)) (Zf (Zxg rfl (Za rfl) (by omega)) Zo)) (show 2≤1000 by decide)) (Zry _)) rfl (by rw[Xe,Xe];omega)).trans ?_
  rw[Zju];rfl
 ·have e1:EvV (Z2 gIx (Z2 gIx (Wx 7) (fUn Zsw (fC (.int 1)))) (fC (.int 0))) (eV c vs n o4 (some (lsO N)) (some (.fz (dI k))) (some (rsO (rs ++ [(N.getD i 0,N.getD k 0)]))) (some (siO ss)) o9 oa) (dI (N.getD i 0)) :=
   Zh8 (Zcf (ds:=(rs ++ [(N.getD i 0,N.getD k 0)]).map ptD) (i:=-1) (d:=ptD (N.getD i 0,N.getD k 0)) (Zba rfl (Zjc _)) (Zsk Yt) (by rw[Qy];exact Zrz _ _)) Yt rfl
  refine(Z1l (n:=N.getD k 0) (ts:=(ss.map XM).map OT.fz) (Zgi Yt (Zcf (ds:=ss.map XM) (d:=.int (ss.getD (N.getD i 0) 0)) (Zba rfl (Zjp ss)) e1 (Zb8 (Z8z (by omega))))) rfl (Zxg (k:=k) rfl (Za rfl) (by omega)) (Ziw (by rw[Xe,Xe];omega))).trans ?_
  unfold siO
  rw[←List.map_set,←List.map_set];rfl
theorem Z61{α:Type}{g:FG}{t:FT}{me:FE}{cs:Zd}(x1 x2:α->Xa)(p:α->Bool)(f:α->OT):∀(xs:List α) (z0 z1:Option OT),(∀x∈xs,∀z0 z1,g (.tuple [x1 x,x2 x]) (z0 :: z1 :: cs)=some (some (.fz (x1 x)) :: some (.fz (x2 x)) :: cs))->(∀x∈xs,t (some (.fz (x1 x)) :: some (.fz (x2 x)) :: cs)=some (p x,some (.fz (x1 x)) :: some (.fz (x2 x)) :: cs))->(∀x∈xs,p x=true->me (some (.fz (x1 x)) :: some (.fz (x2 x)) :: cs)=some (f x,some (.fz (x1 x)) :: some (.fz (x2 x)) :: cs)) ->
  ∃z0' z1',compLoop g t me (xs.map λx=>.tuple [x1 x,x2 x]) (z0 :: z1 :: cs)=some ((xs.filter p).map f,z0' :: z1' :: cs):=by
 intro xs
 induction xs with
 | nil=>exact λz0 z1 _ _ _=>⟨z0,z1,rfl⟩
 | cons x xs ih=>
  intro z0 z1 hg ht hm
  obtain⟨y0,y1,e⟩:=ih (some (.fz (x1 x))) (some (.fz (x2 x))) (λy hy=>hg y (.tail _ hy)) (λy hy=>ht y (.tail _ hy)) λy hy=>hm y (.tail _ hy)
  refine⟨y0,y1,?_⟩
  rw[Qg,compLoop,hg x (.head _),Xh,ht x (.head _),Xh]
  dsimp only
  cases hp:p x with
  | true=>rw[if_pos rfl,hm x (.head _) hp,Xh,List.filter_cons_of_pos hp,Qg];dsimp only;rw[e];rfl
  | false=>rw[if_neg Xw,List.filter_cons_of_neg (by rw[hp];exact Xw)];exact e
theorem Zs3{α:Type}{caps:List Nat}{it:FI}{g:FG}{t:FT}{me:FE}{cs δ:Zd}(xs:List α)(x1 x2:α->Xa)(p:α->Bool)(f:α->OT)(hi:EvI it δ (xs.map λx=>.tuple [x1 x,x2 x]))(hz:xs.length≤1000000)(hb:blk 2 caps δ=none :: none :: cs)
  (hg:∀x∈xs,∀z0 z1,g (.tuple [x1 x,x2 x]) (z0 :: z1 :: cs)=some (some (.fz (x1 x)) :: some (.fz (x2 x)) :: cs)) (ht:∀x∈xs,t (some (.fz (x1 x)) :: some (.fz (x2 x)) :: cs)=some (p x,some (.fz (x1 x)) :: some (.fz (x2 x)) :: cs)) (hm:∀x∈xs,p x=true->me (some (.fz (x1 x)) :: some (.fz (x2 x)) :: cs)=some (f x,some (.fz (x1 x)) :: some (.fz (x2 x)) :: cs)) :
  Wa 2 caps it g t me δ=some (.nd ((xs.filter p).map f),δ):=by
 obtain⟨z0,z1,e⟩:=Z61 x1 x2 p f xs none none hg ht hm
 unfold EvI at hi
 unfold Wa
 rw[hi,Xh]
 dsimp only
 rw[if_pos (by rw[Qh,Xe];omega),hb,e];rfl
theorem Zsz(a:Nat):We (dI a)=true:=by unfold dI;rw[We]
theorem Z7w{c:Int}{vs:List Int}{n k:Nat}{rs:List (Nat×Nat)}{ss:List Int}{o4 o5 o9 oa:Option OT}(hl:vs.length=34)(hk:k<12)(n1:1≤n)(n10:n≤10)(ls:ss.length=n)(lr:rs.length≤100)(P:Prs n rs) :
  ∃rs' a b,Prs n rs'∧rs'.length≤rs.length+1∧(∀r∈rs,r∈rs')∧(Zr (wE (Zb J2 (Zb W8 (Z2 gIx (Zc 2) (Zb Jq (fC (.int 22)) (Zc 6))) (fC (.int 10))) (Zc 3)) (Ws 9))
  (Zr (wE (Zb J2 (Z2 gIx (Zc 2) (Zb Jq (fC (.int 22)) (Zc 6))) (Zc 3)) (Ws 10))
  (W5 (tAn (tV (Zb gNe (Zc 9) (Zc 10))) (tO (tV (Zb gEq (Zb J2 (Zb W8 (Z2 gIx (Zc 2) (fC (.int 21))) (fC (.int 13))) (fC (.int 3))) (fC (.int 0)))) (tV (Zb gNe (Z2 gIx (Wx 8) (Zc 9)) (Z2 gIx (Wx 8) (Zc 10))))))
  (Zw 7 (Zd1 (Ze (Zc 9) (Ze (Zc 10) Zt))))
  fNx))) (eV c vs n o4 o5 (some (.fz (dI k))) (some (rsO rs)) (some (siO ss)) o9 oa)= .nx (eV c vs n o4 o5 (some (.fz (dI k))) (some (rsO rs')) (some (siO ss)) (some (.fz (dI a))) (some (.fz (dI b)))):=by
 obtain⟨a,ha,la⟩:=Jl ((vs.getD (22+k) 0).fdiv 10) (n:=n) n1
 obtain⟨b,hb,lb⟩:=Jl (vs.getD (22+k) 0) (n:=n) n1
 have n0:(n:Int)≠0:=by omega
 have s1:∀{R:RS} {S:FS},S (eV c vs n o4 o5 (some (.fz (dI k))) (some (rsO rs)) (some (siO ss)) (some (.fz (dI a))) (some (.fz (dI b))))=R->(Zr (wE (Zb J2 (Zb W8 (Z2 gIx (Zc 2) (Zb Jq (fC (.int 22)) (Zc 6))) (fC (.int 10))) (Zc 3)) (Ws 9)) (Zr (wE (Zb J2 (Z2 gIx (Zc 2) (Zb Jq (fC (.int 22)) (Zc 6))) (Zc 3)) (Ws 10)) S)) (eV c vs n o4 o5 (some (.fz (dI k))) (some (rsO rs)) (some (siO ss)) o9 oa)=R:=λh=>
  Zu (δ':=eV c vs n o4 o5 (some (.fz (dI k))) (some (rsO rs)) (some (siO ss)) (some (.fz (dI a))) oa) ((Y6 (d:=dI a) ((W3 (Zdn (Zrc (m:=22) hl (by omega)) Yt) (Za rfl) n0).cast (congrArg XM ha))).trans rfl) (Zu (δ':=eV c vs n o4 o5 (some (.fz (dI k))) (some (rsO rs)) (some (siO ss)) (some (.fz (dI a))) (some (.fz (dI b)))) ((Y6 (d:=dI b) ((W3 (Zrc (m:=22) hl (by omega)) (Za rfl) n0).cast (congrArg XM hb))).trans rfl) h)
 have no:∀{t:FT} {S:FS},EvT t (eV c vs n o4 o5 (some (.fz (dI k))) (some (rsO rs)) (some (siO ss)) (some (.fz (dI a))) (some (.fz (dI b)))) false->W5 t S fNx (eV c vs n o4 o5 (some (.fz (dI k))) (some (rsO rs)) (some (siO ss)) (some (.fz (dI a))) (some (.fz (dI b))))= .nx _:=λh=>Yj h rfl
 by_cases ab:a=b
 ·refine⟨rs,a,b,P,Nat.le_succ _,λ_ h=>h,s1 (no (Znp (Zbg (Zec (Za rfl) (Za rfl) ?_))))⟩
  rw[decide_eq_true (congrArg Nat.cast ab)];rfl
 have t0:EvT (tV (Zb gNe (Zc 9) (Zc 10))) (eV c vs n o4 o5 (some (.fz (dI k))) (some (rsO rs)) (some (siO ss)) (some (.fz (dI a))) (some (.fz (dI b)))) true:=Zbg (Zec (Za rfl) (Za rfl) (by rw[decide_eq_false (show¬(a:Int)=b from λz=>ab (Uh z))];rfl))
 have yes:∀{t:FT},EvT t (eV c vs n o4 o5 (some (.fz (dI k))) (some (rsO rs)) (some (siO ss)) (some (.fz (dI a))) (some (.fz (dI b)))) true->W5 t (Zw 7 (Zd1 (Ze (Zc 9) (Ze (Zc 10) Zt)))) fNx (eV c vs n o4 o5 (some (.fz (dI k))) (some (rsO rs)) (some (siO ss)) (some (.fz (dI a))) (some (.fz (dI b))))= .nx (eV c vs n o4 o5 (some (.fz (dI k))) (some (rsO (rs ++ [(a,b)]))) (some (siO ss)) (some (.fz (dI a))) (some (.fz (dI b)))):=λh=>by
  refine Zfm h ((Zgk (ts:=(rs.map ptD).map OT.fz) (d:=ptD (a,b)) (Ze0 (Zf (Za rfl) (Zf (Za rfl) Zo)) (show 2≤1000 by decide)) rfl (by rw[Xe,Xe];omega)).trans ?_)
  rw[Zju];rfl
 have fin:∀{t:FT},EvT t (eV c vs n o4 o5 (some (.fz (dI k))) (some (rsO rs)) (some (siO ss)) (some (.fz (dI a))) (some (.fz (dI b)))) true->_:=fun{t} h=>s1 (yes h)
 have ok:Prs n (rs ++ [(a,b)])∧(rs ++ [(a,b)]).length≤rs.length+1∧∀r∈rs,r∈rs ++ [(a,b)]:=⟨P.add ab la lb,by rw[X6];exact XD _,λr h=>X7 _ h⟩
 have e1:EvV (Zb J2 (Zb W8 (Z2 gIx (Zc 2) (fC (.int 21))) (fC (.int 13))) (fC (.int 3))) (eV c vs n o4 o5 (some (.fz (dI k))) (some (rsO rs)) (some (siO ss)) (some (.fz (dI a))) (some (.fz (dI b)))) (.int (((vs.getD 21 0).fdiv 13).fmod 3)):=W3 (Zdn (Z14 (m:=21) hl (by decide)) Yt) Yt (by decide)
 by_cases q:((vs.getD 21 0).fdiv 13).fmod 3=0
 ·exact⟨rs ++ [(a,b)],a,b,ok.1,ok.2.1,ok.2.2,fin (Zro t0 (Z28 (Zbg (Zmv e1 Yt (decide_eq_true q)))))⟩
 have t1:=Zbg (Zmv e1 (Yt (d:=.int 0)) (decide_eq_false q))
 have sd:∀{j x:Nat},x<n->(eV c vs n o4 o5 (some (.fz (dI k))) (some (rsO rs)) (some (siO ss)) (some (.fz (dI a))) (some (.fz (dI b))))[j]? =some (some (.fz (dI x)))->EvV (Z2 gIx (Wx 8) (Zc j)) (eV c vs n o4 o5 (some (.fz (dI k))) (some (rsO rs)) (some (siO ss)) (some (.fz (dI a))) (some (.fz (dI b)))) (.int (ss.getD x 0)):=λhx hj=>Zcf (ds:=ss.map XM) (Zba rfl (Zjp ss)) (Za hj) (Zb8 (Z8z (by omega)))
 by_cases q2:ss.getD a 0=ss.getD b 0
 ·exact⟨rs,a,b,P,Nat.le_succ _,λ_ h=>h,s1 (no (Zro t0 (Zr8 t1 (Zbg (Zec (sd la rfl) (sd lb rfl) (by rw[decide_eq_true q2];rfl))))))⟩
 ·exact⟨rs ++ [(a,b)],a,b,ok.1,ok.2.1,ok.2.2,fin (Zro t0 (Zr8 t1 (Zbg (Zec (sd la rfl) (sd lb rfl) (by rw[decide_eq_false q2];rfl)))))⟩
noncomputable def mm(r:Nat×Nat):Int×Int:=(((min r.1 r.2:Nat):Int),((max r.1 r.2:Nat):Int))
noncomputable def toN(p:Int×Int):Nat×Nat:=(p.1.toNat,p.2.toNat)
theorem Zwz{n:Nat}(n10:n≤10){r:Nat×Nat}(h:r.1<n∧r.2<n):Zyh (mm r)=true:=by
 unfold Zyh mm
 rw[decide_eq_true (Int.natCast_nonneg _),decide_eq_true (Int.natCast_nonneg _),decide_eq_true (show((min r.1 r.2:Nat):Int)<10 by omega),decide_eq_true (show((max r.1 r.2:Nat):Int)<10 by omega)];rfl
noncomputable def fin(rs:List (Nat×Nat)):List (Nat×Nat):=(ssP (rs.map mm)).map toN
theorem Zie{rs:List (Nat×Nat)}{p:Nat×Nat}:p∈fin rs↔∃r∈rs,p=(min r.1 r.2,max r.1 r.2):=by
 unfold fin
 rw[XR]
 constructor
 ·intro h
  obtain⟨q,hq,rfl⟩:=h
  obtain⟨r,hr,rfl⟩:=XR.mp (Zbx.mp hq)
  exact⟨r,hr,rfl⟩
 ·intro h
  obtain⟨r,hr,rfl⟩:=h
  exact⟨mm r,Zbx.mpr (XR.mpr ⟨r,hr,rfl⟩),rfl⟩
theorem Zqu(rs:List (Nat×Nat)):(fin rs).map ptD=(ssP (rs.map mm)).map pD:=by
 unfold fin
 rw[Qq]
 refine Qe λq hq=>?_
 obtain⟨r,hr,rfl⟩:=XR.mp (Zbx.mp hq)
 rfl
theorem Zmc{n:Nat}{rs:List (Nat×Nat)}(n1:1≤n)(n10:n≤10)(P:Prs n rs)(hl:rs.length≤100):Roads n (fin rs):=by
 refine⟨n1,n10,λp hp=>?_,λi r r' h1 h2=>?_,?_⟩
 ·obtain⟨r,hr,rfl⟩:=Zie.mp hp
  obtain⟨a,b,c⟩:=P.ok r hr
  show min r.1 r.2<max r.1 r.2∧max r.1 r.2<n
  omega
 ·unfold fin at h1 h2
  rw[Xj]at h1 h2
  obtain⟨q,hq,rfl⟩:=XQ.mp h1
  obtain⟨q',hq',rfl⟩:=XQ.mp h2
  obtain⟨a1,a2⟩:=Xi.mp hq
  obtain⟨b1,b2⟩:=Xi.mp hq'
  have up:=Bl.mp (Ztg (rs.map mm)) i (i+1) a1 b1 (QL _)
  rw[a2,b2]at up
  obtain⟨s,_,rfl⟩:=XR.mp (Zbx.mp (X8 hq))
  obtain⟨s',_,rfl⟩:=XR.mp (Zbx.mp (X8 hq'))
  have up:=Zdf.mp up
  show ltI [(mm s).1,(mm s).2] [(mm s').1,(mm s').2]=true
  rw[ltI,ltI,ltI]
  by_cases e:(mm s).1=(mm s').1
  ·rw[if_pos e,if_neg (by omega)]
   exact decide_eq_true (by omega)
  ·rw[if_neg e]
   exact decide_eq_true (by omega)
 ·unfold fin
  rw[Xe]
  have:=Zl2 (rs.map mm)
  rw[Xe]at this
  omega
theorem Zri{n:Nat}{rs:List (Nat×Nat)}{z:Nat}(h:∀m<n,Rch (Ej rs) z m)(n1:1≤n):Zty n (fin rs):=λm hm=>by
 have e:∀a b,Ej rs a b->Nb (nbR (fin rs)) a b:=λa b h=>by
  refine Zay.mpr ?_
  have key:∀x y,(x,y)∈rs->(x,y)∈fin rs∨(y,x)∈fin rs:=λx y h=>by
   rcases Nat.le_total x y with q|q
   ·exact .inl (Zie.mpr ⟨_,h,by rw[Nat.min_eq_left q,Nat.max_eq_right q]⟩)
   ·exact .inr (Zie.mpr ⟨_,h,by rw[Nat.min_eq_right q,Nat.max_eq_left q]⟩)
  rcases h with q|q
  ·exact key a b q
  ·exact(key b a q).symm
 have g:∀m<n,Rch (Nb (nbR (fin rs))) z m:=λm hm=>(h m hm).map e
 exact Rch.trans (Rch.symm Zii (g 0 n1)) (g m hm)
theorem Zxp{δ:Zd}{n j:Nat}{d:Xa}(h:δ[j]? =some (some (.fz (dI n))))(hn:n≤1000000):Z31 (fC d) (Zc j) δ=some (.nd (Qi n (.fz d)),δ):=by
 obtain⟨_,e1,d1⟩:=Za (δ:=δ) (i:=j) (d:=dI n) h
 rw[Zt0,Z63,Xh,e1,Xh,d1]
 show asInt (.int (n:Int)) _=_
 rw[Zos,if_pos ⟨Zi9 (by omega) (by omega),by rw[Qh];omega⟩,BK,OT.data_fz]
theorem Zr2{as:FA}{δ:Zd}{ps:List (Int×Int)}(h:EvA as δ [.list (ps.map pD)])(hl:ps.length<64)(hi:∀p∈ps,Zyh p=true):EvV (Za5 as) δ (.list ((ssP ps).map pD)):=by
 obtain⟨ts,e1,d1⟩:=h
 refine⟨.nd (((ssP ps).map pD).map OT.fz),?_,by rw[OT.data_nd,OT.map_fz]⟩
 unfold Za5
 rw[e1,Xh,d1]
 show(Zdw (ps.map pD)).bind _=_
 rw[Zkd,Xh,if_pos (by rw[decide_eq_true hl,V0.mpr hi];rfl)]
theorem Z7f(r:Nat×Nat):Zua [dI r.1,dI r.2]=some (.int ((min r.1 r.2:Nat):Int)):=by
 show some (XM (if(r.2:Int)<(r.1:Int)then(r.2:Int)else(r.1:Int)))=_
 rcases Bc r.2 r.1 with q|q
 ·rw[if_pos (Int.ofNat_lt.mpr q),Nat.min_eq_right (Bu q)]
 ·rw[if_neg (λz=>Nat.not_lt.mpr q (Int.ofNat_lt.mp z)),Nat.min_eq_left q]
theorem Z5i(r:Nat×Nat):Zun [dI r.1,dI r.2]=some (.int ((max r.1 r.2:Nat):Int)):=by
 show some (XM (if(r.2:Int)>(r.1:Int)then(r.2:Int)else(r.1:Int)))=_
 rcases Bc r.1 r.2 with q|q
 ·rw[if_pos (Int.ofNat_lt.mpr q),Nat.max_eq_right (Bu q)]
 ·rw[if_neg (λz=>Nat.not_lt.mpr q (Int.ofNat_lt.mp z)),Nat.max_eq_left q]
theorem Zue{c:Int}{vs:List Int}{n:Nat}{rs:List (Nat×Nat)}{o4 o5 o6 o8 o9 oa:Option OT}(hl:rs.length≤100):EvV (Wa 2 [] (Jw (Wx 7)) (gTp 2 (gCn (Zuk 0) (gCn (Zuk 1) gNl))) Zfd (Zd1 (Ze (Zbp Zua (Ze (Zc 0) (Ze (Zc 1) Zt))) (Ze (Zbp Zun (Ze (Zc 0) (Ze (Zc 1) Zt))) Zt)))) (eV c vs n o4 o5 o6 (some (rsO rs)) o8 o9 oa) (.list ((rs.map mm).map pD)):=by
 have g:∀r:Nat×Nat,∃o:OT,Zd1 (Ze (Zbp Zua (Ze (Zc 0) (Ze (Zc 1) Zt))) (Ze (Zbp Zun (Ze (Zc 0) (Ze (Zc 1) Zt))) Zt)) [some (.fz (dI r.1)),some (.fz (dI r.2))]=some (o,[some (.fz (dI r.1)),some (.fz (dI r.2))])∧o.data=pD (mm r):=λr=>
  Ze0 (ds:=[.int ((min r.1 r.2:Nat):Int),.int ((max r.1 r.2:Nat):Int)]) (Zf (Zew (Zf (Za rfl) (Zf (Za rfl) Zo)) (Z7f r)) (Zf (Zew (Zf (Za rfl) (Zf (Za rfl) Zo)) (Z5i r)) Zo)) (show 2≤1000 by decide)
 obtain⟨o,ho⟩:=Vp g
 refine⟨_,Zs3 (cs:=[]) rs (λr=>dI r.1) (λr=>dI r.2) (λ_=>true) o (W4 (Zba rfl (Zjc rs))) (by omega) rfl (λr _ z0 z1=>?_) (λr _=>rfl) λr _ _=>(ho r).1,?_⟩
 ·rw[Zz0,if_pos (show[dI r.1,dI r.2].length=2 from rfl),Ztq,Zot,if_pos (Zsz _),Xh,Ztq,Zot,if_pos (Zsz _)];rfl
 ·rw[OT.data_nd,Qq,Qq,List.filter_eq_self.mpr λ_ _=>rfl]
  exact congrArg _ (Qe λr _=>(ho r).2)
theorem Z3v(c:Int):∃w:Nat×List (Nat×Nat),Told Y7 [.int c,.int 10] (.tuple [dI w.1,.list (w.2.map ptD)])∧Roads w.1 w.2∧Zty w.1 w.2:=by
 obtain⟨vs,T,hl⟩:=Zrq c 34 100 (by decide) (by decide)
 obtain⟨t,ht,t10⟩:=Jl (vs.getD 0 0) (n:=10) (by decide)
 have ht:(vs.getD 0 0).fmod 10=t:=ht
 obtain⟨n,hn⟩:∃n,n=1+t:=⟨_,rfl⟩
 have n1:1≤n:=by omega
 have n10:n≤10:=by omega
 have nb:n≤1000000:=by omega
 have key:∃d,Told Y7 [.int c,.int 10] d∧∃w:Nat×List (Nat×Nat),d= .tuple [dI w.1,.list (w.2.map ptD)]∧Roads w.1 w.2∧Zty w.1 w.2:=by
  refine Z0o rfl<|Zal (Y6 (W2 (Zf (Za rfl) (Zf Yt (Zf Yt Zo))) T))<|Zal (Y6 (d:=dI n) ((Zar Yt (W3 (Zbe (p:=vs) (i:=0) (Za rfl) Yt (by decide) (by rw[hl];decide)) (Za rfl) (by decide))).cast ?_))<|
   Zal (δ':=eV c vs n (some (lsO (Xz n))) none none none none none none) ((Zca (o:=lsO (Xz n)) ?_).trans rfl)<|Zal (δ':=eV c vs n (some (lsO (Xz n))) (some (lsO [])) none none none none none) Zdg<|
   Zjv (ds:=Zd0 0 n) (λi δ=>∃l N o6,δ=eV c vs n (some (lsO l)) (some (lsO N)) o6 none none none none∧(N ++ l).Perm (Xz n)∧N.length=i) (Zfn (Zf (Za rfl) Zo) nb) ⟨_,_,_,rfl,.refl _,rfl⟩ (λi d δ hd h=>?_) λδ' h=>?_
  ·show XM (1+(vs.getD 0 0).fmod 10)=XM (n:Int)
   rw[ht,hn];rfl
  ·refine(Zbf (cs:=[]) (Xz n) dI (λx=>.fz (dI x)) (by rw[←Z7l];exact Zfn (Zf (Za rfl) Zo) nb) (by rw[Qh,XX];omega) rfl λx _=>rfl).trans ?_
   unfold lsO
   rw[Qq];rfl
  ·obtain⟨l,N,o6,rfl,pm,lN⟩:=h
   obtain⟨hi,e⟩:=Jc hd
   rw[U6]at e
   subst e
   have len:=pm.length_eq
   rw[X6,XX]at len
   obtain⟨x,l',p2,run⟩:=Ybv (c:=c) (l:=l) (N:=N) (o6:=o6) (o7:=none) (o8:=none) (o9:=none) (oa:=none) hl hi n10 (by omega) lN
   refine⟨_,_,rfl,.inl run,l',N ++ [x],_,rfl,?_,by rw[X6,lN];rfl⟩
   rw[QZ]
   exact(List.Perm.append_left _ p2).trans pm
  obtain⟨l,N,o6,rfl,pm,lN⟩:=h
  rw[W6]at lN
  have l0:l=[]:=by
   have len:=pm.length_eq
   rw[X6,XX]at len
   exact List.eq_nil_of_length_eq_zero (by omega)
  rw[l0,Qt]at pm
  have nd:N.Nodup:=pm.nodup_iff.mpr List.nodup_range
  have hN:∀x∈N,x<n:=λx hx=>Qx.mp (pm.mem_iff.mp hx)
  have ne:∀{i k:Nat},i<k->k<n->N.getD i 0≠N.getD k 0:=fun{i k} hi hk e=>by
   rw[Xq,Xl (by omega),Xq,Xl (by omega)]at e
   exact Bl.mp nd i k (by omega) (by omega) hi e
  have gl:∀{k:Nat},k<n->N.getD k 0<n:=fun{k} hk=>by
   rw[Xq,Xl (by omega)];exact hN _ (Vt _)
  refine Zal (δ':=eV c vs n (some (lsO l)) (some (lsO N)) o6 (some (rsO [])) none none none) Zdg<|Zal (δ':=eV c vs n (some (lsO l)) (some (lsO N)) o6 (some (rsO [])) (some (siO (Qi n 0))) none none) ((Zca (Zxp rfl nb)).trans ?_)<|
   Zjv (ds:=Zd0 1 (n-1)) (λi δ=>∃o6 rs ss,δ=eV c vs n (some (lsO l)) (some (lsO N)) o6 (some (rsO rs)) (some (siO ss)) none none∧ss.length=n∧rs.length=i∧Prs n rs∧∀j,j≤i->j<n->Rch (Ej rs) (N.getD 0 0) (N.getD j 0)) (Z7o (m:=1) (n:=n) (Zf Yt (Zf (Za rfl) Zo)) (by decide) nb) ⟨o6,[],Qi n 0,rfl,VB,rfl,⟨λ_ h=>nomatch h⟩,λj hj _=>by rw[Nat.le_zero.mp hj];exact .refl⟩ (λi d δ hd h=>?_) λδ' h=>?_
  ·unfold siO
   rw[List.map_replicate,List.map_replicate];rfl
  ·obtain⟨o6,rs,ss,rfl,ls,lr,P,hr⟩:=h
   obtain⟨hi,e⟩:=Jc hd
   have e:d=dI (1+i):=e
   subst e
   obtain⟨i',ss',li,ls',run⟩:=Z6m (c:=c) (o4:=some (lsO l)) (o9:=none) (oa:=none) (k:=1+i) hl (by omega) (by omega) n10 lN hN ls (by omega:rs.length≤100)
   refine⟨_,_,rfl,.inl run,_,_,ss',rfl,ls',by rw[X6,lr];rfl,P.add (ne li (by omega)) (gl (by omega)) (gl (by omega)),λj hj hjn=>?_⟩
   by_cases q:j≤i
   ·exact(hr j q hjn).map Ej.add
   ·have:j=1+i:=by omega
    subst this
    exact .step ((hr i' (by omega) (by omega)).map Ej.add) (.inl (Xy _ (.head _)))
  obtain⟨o6,rs,ss,rfl,ls,lr,P,hr⟩:=h
  rw[W6]at lr hr
  have hc:∀m<n,Rch (Ej rs) (N.getD 0 0) m:=λm hm=>by
   obtain⟨j,hj,e⟩:=List.getElem_of_mem (pm.mem_iff.mpr (Qx.mpr hm))
   have:=hr j (by omega) (by omega)
   rwa[Xq (i:=j),Xl hj,e]at this
  obtain⟨u,hu,lu⟩:=Jl (vs.getD 21 0) (n:=13) (by decide)
  refine Zjv (ds:=Zd0 0 u) (λi δ=>∃o6 rs o9 oa,δ=eV c vs n (some (lsO l)) (some (lsO N)) o6 (some (rsO rs)) (some (siO ss)) o9 oa∧Prs n rs∧rs.length≤9+i∧∀m<n,Rch (Ej rs) (N.getD 0 0) m) (Zfn (n:=u) (Zf ((W3 (Z14 (m:=21) hl (by decide)) Yt (by decide)).cast (congrArg XM hu)) Zo) (by omega)) ⟨o6,rs,none,none,rfl,P,by omega,hc⟩ (λi d δ hd h=>?_) λδ' h=>?_
  ·obtain⟨o6,rs,o9,oa,rfl,P,lr,hc⟩:=h
   obtain⟨hi,e⟩:=Jc hd
   rw[U6]at e
   subst e
   obtain⟨rs',a,b,P',l',sub,run⟩:=Z7w (c:=c) (o4:=some (lsO l)) (o5:=some (lsO N)) (o9:=o9) (oa:=oa) (k:=i) hl (by omega) n1 n10 ls (by omega) P
   exact⟨_,_,rfl,.inl run,_,rs',_,_,rfl,P',by omega,λm hm=>(hc m hm).map λa b h=>h.imp (sub _) (sub _)⟩
  ·obtain⟨o6,rs,o9,oa,rfl,P,lr,hc⟩:=h
   rw[W6]at lr
   refine Z1z (Ze0 (Zf (Za rfl) (Zf (Zr2 (Zf (Zue (by omega)) Zo) (by rw[Xe];omega) λp hp=>?_) Zo)) (show 2≤1000 by decide)) ⟨(n,fin rs),?_,Zmc n1 n10 P (by omega),Zri hc n1⟩
   ·obtain⟨r,hr,rfl⟩:=XR.mp hp
    exact Zwz n10 (P.ok r hr).2
   ·rw[Zqu]
 obtain⟨d,T2,w,rfl,h⟩:=key
 exact⟨w,T2,h⟩
theorem Znw(neg:Bool)(x:Int)(p:List Int):Ztr neg (.int x) (Wy p)=some (.bool (if neg then !decide (x∈p)else decide (x∈p))):=by
 have e:memS (.int x) (p.map XM)=decide (x∈p):=by
  unfold memS
  rw[List.any_map]
  rw[Bool.eq_iff_iff,List.any_eq_true,decide_eq_true_eq]
  constructor
  ·rintro⟨y,hy,h⟩
   have:(y==x)=true:=h
   rw[←eq_of_beq this];exact hy
  ·intro h
   exact⟨x,h,(show(x==x)=true from beq_self_eq_true x)⟩
 have s:(p.map XM).all scD=true:=by
  rw[V0]
  intro d hd
  obtain⟨y,_,rfl⟩:=XR.mp hd
  rfl
 show(if(scD (.int x)&&(p.map XM).all scD)=true then some (PyData.bool (if neg then !memS (.int x) (p.map XM)else memS (.int x) (p.map XM)))else none)=_
 rw[s,e];rfl
theorem Z47{a:Nat}{ns:List Nat}(neg:Bool):Ztr neg (dI a) (.list (ns.map dI))=some (.bool (if neg then !decide (a∈ns)else decide (a∈ns))):=by
 have h:=Znw neg (a:Int) (ns.map λk:Nat=>(k:Int))
 have e:decide ((a:Int)∈ns.map λk:Nat=>(k:Int))=decide (a∈ns):=decide_eq_decide.mpr ⟨λh=>by
  obtain⟨k,hk,e⟩:=XR.mp h
  exact Uh e▸hk,λh=>XR.mpr ⟨a,h,rfl⟩⟩
 rw[e]at h
 refine Eq.trans ?_ h
 show Ztr neg (.int a) (.list _)=Ztr neg (.int a) (.list ((ns.map λk:Nat=>(k:Int)).map XM))
 rw[Qq];rfl
theorem Zxr(a b:List Int):gEq (Wy a) (Wy b)=some (.bool (decide (a=b))):=by
 have s:∀l:List Int,UT (Wy l)=true:=λl=>((lay_ints l).shp (by decide)).ok
 unfold gEq
 rw[if_pos (by rw[s,s];rfl)]
 exact congrArg (λz=>some (PyData.bool z)) (Zln a b)
theorem Zgm{δ:Zd}{a b:FE}{n p:Nat}{f:Nat->Nat}(ha:EvV a δ (Zhg n f))(hb:EvV b δ (dI p))(hp:p<n):EvV (Z2 gIx a b) δ (dI (f p)):=Zcf ha hb (Zb8 (by rw[Xj,JG hp];rfl))
theorem Zgv{δ:Zd}{n s j k:Nat}{F:Nat->Nat->Nat}(hs:s<n)(h1:δ[j]? =some (some (.fz (Zxl n F))))(h2:δ[k]? =some (some (.fz (dI s)))):EvV (Z2 gIx (Zc j) (Zc k)) δ (Zhg n (F s)):=Zcf (ds:=(Xz n).map λs=>Zhg n (F s)) (Za h1) (Za h2) (Zb8 (by rw[Xj,JG hs];rfl))
noncomputable def isAt(p:Nat)(r:Nat×Nat):Bool:=decide (p∈[r.1,r.2])
noncomputable def oth(p:Nat)(r:Nat×Nat):Nat:=r.1+r.2-p
noncomputable def Zbc(rs:List (Nat×Nat))(p:Nat):List Nat:=(rs.filter (isAt p)).map (oth p)
theorem Zpx{rs:List (Nat×Nat)}{p m:Nat}(h:m∈nbR rs p):m∈Zbc rs p:=by
 rcases Zay.mp h with q|q
 ·exact XR.mpr ⟨(p,m),Vy.mpr ⟨q,decide_eq_true (.head _)⟩,show p+m-p=m by omega⟩
 ·exact XR.mpr ⟨(m,p),Vy.mpr ⟨q,decide_eq_true (.tail _ (.head _))⟩,show m+p-p=m by omega⟩
theorem Zus{n:Nat}{rs:List (Nat×Nat)}(R:Roads n rs){p m:Nat}(h:m∈Zbc rs p):m<n:=by
 obtain⟨r,hr,rfl⟩:=XR.mp h
 obtain⟨h1,h2⟩:=Vy.mp hr
 obtain⟨l1,l2⟩:=R.ok r h1
 unfold oth
 rcases Xn.mp (of_decide_eq_true h2)with q|q
 ·omega
 ·have:=Xm.mp q
  omega
noncomputable def eL(n:Nat)(rs:List (Nat×Nat))(F:Nat->Nat->Nat)(s:Nat)(o3 o4 o5 o6 o7:Option OT):Zd:=[some (.fz (.list (rs.map ptD))),some (.fz (Zxl n F)),some (.fz (dI s)),o3,o4,o5,o6,o7]
theorem Ztx{n s p:Nat}{rs:List (Nat×Nat)}{F:Nat->Nat->Nat}{o3 o4 o6 o7:Option OT}(R:Roads n rs):EvV (Wa 2 [5] (Jw (Zc 0)) (gTp 2 (gCn (gNm 0) (gCn (gNm 1) gNl))) (tV (Zb (Ztr false) (Zc 2) (Zd1 (Ze (Zc 0) (Ze (Zc 1) Zt))))) (Zb gSb (Zb Jq (Zc 0) (Zc 1)) (Zc 2))) (eL n rs F s o3 o4 (some (.fz (dI p))) o6 o7) (.list ((Zbc rs p).map dI)):=by
 refine⟨_,Zs3 (cs:=[some (.fz (dI p))]) rs (λr=>dI r.1) (λr=>dI r.2) (isAt p) (λr=>.fz (dI (oth p r))) (W4 (ds:=rs.map ptD) (Za rfl)) (Qs R.len (by decide)) rfl (λr _ z0 z1=>rfl) (λr _=>Zbg (Zz (Za rfl) (Ze0 (ds:=[dI r.1,dI r.2]) (Zf (Za rfl) (Zf (Za rfl) Zo)) (show 2≤1000 by decide)) (Z47 (ns:=[r.1,r.2]) false))) λr _ hp=>?_,?_⟩
 ·have e:EvV (Zb gSb (Zb Jq (Zc 0) (Zc 1)) (Zc 2)) [some (.fz (dI r.1)),some (.fz (dI r.2)),some (.fz (dI p))] (.int ((r.1:Int)+(r.2:Int)-(p:Int))):=Zgi (Zar (Za rfl) (Za rfl)) (Za rfl)
  rw[Zc6 e]
  have:(r.1:Int)+(r.2:Int)-(p:Int)=((oth p r:Nat):Int):=by
   unfold oth
   rcases Xn.mp (of_decide_eq_true hp)with q|q
   ·omega
   ·have:=Xm.mp q
    omega
  rw[this];rfl
 ·rw[OT.data_nd]
  unfold Zbc
  rw[Qq,Qq]
  exact congrArg _ (Qe λr _=>OT.data_fz _)
theorem Z12{n s:Nat}{rs:List (Nat×Nat)}{F:Nat->Nat->Nat}(R:Roads n rs)(hs:s<n)(D:Dst n rs s (F s)):Told Y5 [.list (rs.map ptD),Zxl n F,dI s] (.bool true):=by
 have n10:=R.n10
 refine W0 rfl<|Zfa (ds:=rs.map ptD) (λi δ=>∃o3 o4,δ=eL n rs F s o3 o4 none none none) (W4 (Za rfl)) ⟨_,_,rfl⟩ (λi d δ hd h=>?_) λδ' h=>?_
 ·obtain⟨o3,o4,rfl⟩:=h
  rw[Xj]at hd
  obtain⟨⟨a,b⟩,hr,rfl⟩:=XQ.mp hd
  have hm:=X8 hr
  obtain⟨l1,l2⟩:=R.ok _ hm
  have l1:a<b:=l1
  have l2:b<n:=l2
  have d1:=D.one a (by omega) b (Zay.mpr (.inl hm))
  have d2:=D.one b l2 a (Zay.mpr (.inr hm))
  refine⟨_,_,rfl,.inl (Yj (Zbg (Z1c (Zew (Zf (Zgi (Zgm (p:=a) (Zgv hs rfl rfl) (Za rfl) (by omega)) (Zgm (p:=b) (Zgv hs rfl rfl) (Za rfl) l2)) Zo) (Z0j _)) Yt (decide_eq_false (by omega)))) rfl),some (.fz (dI a)),some (.fz (dI b)),rfl⟩
 ·obtain⟨o3,o4,rfl⟩:=h
  refine Zfa (ds:=Zd0 0 n) (λi δ=>∃o5 o6 o7,δ=eL n rs F s o3 o4 o5 o6 o7) (Zfn (Zf ((Zhd (ds:=(Xz n).map λs=>Zhg n (F s)) (Za rfl)).cast (by rw[Xe,XX])) Zo) (by omega)) ⟨_,_,_,rfl⟩ (λp d δ hd h=>?_) λδ' h=>?_
  ·obtain⟨o5,o6,o7,rfl⟩:=h
   obtain⟨hp,e⟩:=Jc hd
   rw[U6]at e
   subst e
   have z0:(p=s)↔F s p=0:=by
    constructor
    ·intro e
     rw[e];exact D.z
    ·intro e
     refine VG λc=>?_
     obtain⟨m,_,_,h⟩:=D.up p hp c
     omega
   have c1:EvV (Zb gEq (Zc 5) (Zc 2)) (eL n rs F s o3 o4 (some (.fz (dI p))) (some (.fz (.list ((Zbc rs p).map dI)))) o7) (.bool (decide (p=s))):=Zmv (Za rfl) (Za rfl) (decide_eq_decide.mpr ⟨λz=>Uh z,λz=>congrArg _ z⟩)
   have c2:EvV (Zb gEq (Z2 gIx (Z2 gIx (Zc 1) (Zc 2)) (Zc 5)) (fC (.int 0))) (eL n rs F s o3 o4 (some (.fz (dI p))) (some (.fz (.list ((Zbc rs p).map dI)))) o7) (.bool (decide (p=s))):=Zmv (Zgm (p:=p) (Zgv hs rfl rfl) (Za rfl) hp) Yt (decide_eq_decide.mpr ⟨λz=>z0.mpr (Uh z),λz=>congrArg _ (z0.mp z)⟩)
   have nb:gNe (.bool (decide (p=s))) (.bool (decide (p=s)))=some (.bool false):=by
    cases decide (p=s)<;>rfl
   have nr:EvV (Wa 1 [1,2,5] (Jw (Zc 6)) (gNm 0) (tV (Zb gEq (Z2 gIx (Z2 gIx (Zc 1) (Zc 2)) (Zc 0)) (Zb gSb (Z2 gIx (Z2 gIx (Zc 1) (Zc 2)) (Zc 3)) (fC (.int 1))))) (Zc 0)) (eL n rs F s o3 o4 (some (.fz (dI p))) (some (.fz (.list ((Zbc rs p).map dI)))) o7) (.list (((Zbc rs p).filter λm=>decide ((F s m:Int)=(F s p:Int)-1)).map dI)) :=
    Zqf (cs:=[some (.fz (Zxl n F)),some (.fz (dI s)),some (.fz (dI p))]) (Zbc rs p) dI (λm=>decide ((F s m:Int)=(F s p:Int)-1)) (W4 (Za rfl)) (by
     unfold Zbc
     rw[Xe]
     exact Qs (List.length_filter_le _ _) (Qs R.len (by decide))) rfl (λm hm=>Zbg (Zmv (Zgm (p:=m) (Zgv hs rfl rfl) (Za rfl) (Zus R hm)) (Zgi (Zgm (p:=p) (Zgv hs rfl rfl) (Za rfl) hp) Yt) rfl)) λm _ _=>rfl
   obtain⟨q,hq⟩:∃q,q=(Zbc rs p).filter λm=>decide ((F s m:Int)=(F s p:Int)-1):=⟨_,rfl⟩
   rw[←hq]at nr
   have last:EvT (tAn (tV (Zb gNe (Zc 5) (Zc 2))) (tV (Zb gEq (Zc 7) (Zcu Zt)))) (eL n rs F s o3 o4 (some (.fz (dI p))) (some (.fz (.list ((Zbc rs p).map dI)))) (some (.fz (.list (q.map dI))))) false:=by
    by_cases ps:p=s
    ·exact Znp (Zbg (Zec (Za rfl) (Za rfl) (by rw[decide_eq_true (congrArg Nat.cast ps)];rfl)))
    ·refine Zro (Zbg (Zec (Za rfl) (Za rfl) (by rw[decide_eq_false (show¬(p:Int)=s from λz=>ps (Uh z))];rfl))) (Zbg (Zz (Za rfl) (Zn2 Zo (QH _)) ?_))
     have e:=Zxr (q.map λm:Nat=>(m:Int)) []
     have nn:¬(q.map λm:Nat=>(m:Int))=[]:=λz=>by
      have z:=List.map_eq_nil_iff.mp z
      obtain⟨m,hm,lm,h⟩:=D.up p hp ps
      have:m∈q:=by
       rw[hq]
       exact Vy.mpr ⟨Zpx hm,decide_eq_true (by omega)⟩
      rw[z]at this
      cases this
     rw[decide_eq_false nn]at e
     unfold Wy at e
     rw[Qq]at e
     exact e
   exact⟨_,_,rfl,.inl (Zu (δ':=eL n rs F s o3 o4 (some (.fz (dI p))) (some (.fz (.list ((Zbc rs p).map dI)))) o7) ((Y6 (Ztx R)).trans rfl) (Zu (Yj (Zbg (Zz c1 c2 nb)) rfl) (Zu (δ':=eL n rs F s o3 o4 (some (.fz (dI p))) (some (.fz (.list ((Zbc rs p).map dI)))) (some (.fz (.list (q.map dI))))) ((Y6 nr).trans rfl) (Yj last rfl)))),_,_,_,rfl⟩
  ·obtain⟨o5,o6,o7,rfl⟩:=h
   exact Zcl Yt
theorem Zxd{e:FE}{st:FO}{δ:Zd}{ds:List Xa}{k:Int}(h:EvV e δ (.list ds))(hs:EvO st δ (some k))(hk:k≠0):EvV (Zqb e oN oN st) δ (.list (Zb3 ds none none (some k))):=by
 obtain⟨t,e1,e2⟩:=h
 unfold EvO at hs
 refine⟨.nd ((Zb3 ds none none (some k)).map OT.fz),?_,by rw[OT.data_nd,OT.map_fz]⟩
 unfold Zqb
 rw[e1]
 show(st δ).bind _=_
 rw[hs]
 show(stepOf t.data none none (some k)).bind _=_
 rw[e2]
 show(if some k=some 0 then none else some _:Option OT).bind _=_
 rw[if_neg (λz=>hk (QB z))];rfl
theorem Zqo(l:List Int)(lo hi:Option Int):∃l':List Int,cutD (l.map XM) lo hi=l'.map XM∧l'.length≤l.length:=by
 refine⟨(l.drop (HT.sIx l.length 0 lo)).take (HT.sIx l.length l.length hi-HT.sIx l.length 0 lo),?_,?_⟩
 ·unfold cutD
  rw[Xe,List.map_take,List.map_drop]
 ·rw[Va,VR];omega
theorem Z2e{e:FE}{δ:Zd}{lo hi:FO}{l h:Option Int}{p:List Int}(he:EvV e δ (Wy p))(hl:EvO lo δ l)(hh:EvO hi δ h):∃q,EvV (fSl e lo hi) δ (Wy q)∧q.length≤p.length:=by
 obtain⟨q,e1,e2⟩:=Zqo p l h
 refine⟨q,?_,e2⟩
 have:=Z0x (ds:=p.map XM) he hl hh
 rwa[e1]at this
theorem Zx3{a b:FE}{δ:Zd}{p q:List Int}(ha:EvV a δ (Wy p))(hb:EvV b δ (Wy q))(hl:p.length+q.length≤1000000):EvV (Z2 Zpf a b) δ (Wy (p ++ q)):=by
 refine(Zsr (ds:=p.map XM) (es:=q.map XM) ha hb (by rw[Xe,Xe];exact hl)).cast ?_
 unfold Wy
 rw[Qy]
theorem Z08{ds:List Xa}(h:∀d∈ds,Ym d=true):Wz ds=true:=by
 induction ds with
 | nil=>rfl
 | cons d ds ih=>rw[Wz,h d (.head _),ih λe he=>h e (.tail _ he)];rfl
theorem Zuj{d:Xa}{n:Nat}(h:Sh n d)(hn:n≤64)(hp:Ym d=true):gEq d d=some (.bool true)∧gNe d d=some (.bool false):=by
 have s:=(h.shp hn).ok
 unfold gEq gNe
 rw[if_pos (by rw[s];rfl),if_pos (by rw[s];rfl),Zpi hp]
 exact⟨rfl,rfl⟩
theorem Zvf(rs:List (Nat×Nat)):gNe (.list (rs.map ptD)) (.list (rs.map ptD))=some (.bool false):=by
 refine(Zuj (Znh (n:=1) λd hd=>?_) (by decide) ?_).2
 ·obtain⟨r,_,rfl⟩:=XR.mp hd
  exact Zg1 [(r.1:Int),(r.2:Int)]
 ·rw[Ym]
  refine Z08 λd hd=>?_
  obtain⟨r,_,rfl⟩:=XR.mp hd
  unfold ptD
  rw[Ym,Wz,Wz,Wz,Ym,Ym];rfl
theorem Zqx{F:FD}{as:FA}{δ:Zd}{ds:List Xa}{o:OT}{i:Nat}(h:EvA as δ ds)(hF:F ds= .ok o):wE (Yi F as) (Wf i) δ= .nx (δ.set i (some o)):=by
 obtain⟨ts,e1,d1⟩:=h
 refine Zca ?_
 rw[Zfz,e1,Xh,d1,hF];rfl
theorem Zr7{j:FE}{δ:Zd}{i k:Nat}{ts us:List OT}(hi:δ[i]? =some (some (.nd ts)))(hj:EvV j δ (dI k))(ht:ts[k]? =some (.nd us)):Zek i j δ= .nx (δ.set i (some (.nd (ts.set k (.nd []))))):=by
 obtain⟨t1,e1,d1⟩:=hj
 have d1:t1.data= .int (k:Int):=d1
 unfold Zek
 rw[hi]
 dsimp only
 rw[Zb7,e1,Z9,d1]
 dsimp only
 rw[Ziw (Xi.mp ht).1]
 dsimp only
 rw[ht]
theorem Zqm{δ:Zd}{i:Nat}{ts:List OT}(hi:δ[i]? =some (some (.nd ts))):Ze3 i δ= .nx (δ.set i (some (.nd []))):=by
 unfold Ze3
 rw[hi]
theorem Zpv{F:FD}{as:FA}{δ:Zd}{ds:List Xa}{o:OT}{i:Nat}(h:EvA as δ ds)(hF:F ds= .ok o)(hf:Zae o=true):wE (Zgt (Yi F as)) (Wf i) δ= .nx (δ.set i (some o)):=by
 obtain⟨ts,e1,d1⟩:=h
 refine Zca ?_
 rw[Zno,Zfz,e1,Xh,d1,hF]
 show(if Zae o=true then some (o,δ)else none)=_
 rw[if_pos hf]
noncomputable def wbD(w:Nat×List (Nat×Nat)):Xa:=.tuple [dI w.1,.list (w.2.map ptD)]
noncomputable def e8(ns:List Int)(ws:Xa)(o2 o3 o4 o5 o6 o7:Option OT):Zd:=[some (.fz (Wy ns)),some (.fz ws),o2,o3,o4,o5,o6,o7]
noncomputable def Z6v:FS:=(Zr (wE (fBl Zks (Ze (Zc 3) Zt)) (Ws 4))
  (Zr (wE (Yi Y8 (Ze (Zc 2) (Ze (Zc 4) Zt))) (Wf 5))
  (Zr (wE (Zgt (Yi Z8 (Ze (Wx 5) (Ze (Zc 2) Zt)))) (Wf 6))
  (Zr (W5 (tO (tV (Zb gIs (Wx 6) (fC .none))) (tV (Zb gNe (Zc 4) (Zc 3))))
  (wE (fC (.bool false)) Jh)
  fNx)
  (Zr (Jy (iRa (Ze (Zc 2) Zt)) (gNm 7)
  (W5 (tNo (tD (Yi Y5 (Ze (Zc 3) (Ze (Wx 6) (Ze (Zc 7) Zt))))))
  (wE (fC (.bool false)) Jh)
  fNx))
  (Zr (Zek 5 (fC (.int 0)))
  (Ze3 5)))))))
theorem Zq6{ns:List Int}{ws:Xa}{w:Nat×List (Nat×Nat)}{o4 o5 o6 o7:Option OT}(R:Roads w.1 w.2)(hc:Zty w.1 w.2):∃o4' o5' o6' o7',Z6v (e8 ns ws (some (.fz (dI w.1))) (some (.fz (.list (w.2.map ptD)))) o4 o5 o6 o7)= .nx (e8 ns ws (some (.fz (dI w.1))) (some (.fz (.list (w.2.map ptD)))) o4' o5' o6' o7'):=by
 have n10:=R.n10
 have n1:=R.n1
 obtain⟨F,hF,ts,T,hd,hn⟩:=Zgy R hc
 have lt:ts.length=w.1:=by
  have:=congrArg List.length hd
  rwa[Xe,Xe,XX]at this
 have td:(OT.nd ts).data=Zyi w.1 F:=by rw[OT.data_nd,hd];rfl
 obtain⟨us,hu⟩:∃us,ts[0]? =some (.nd us):=by
  obtain⟨us,e⟩:=hn _ (Vt (l:=ts) (n:=0) (by omega))
  exact⟨us,by rw[Xl (by omega),e]⟩
 have far:∀{δ:Zd},δ[6]? =some (some (.nd (frO w.1 F w.1)))->EvV (Wx 6) δ (Zxl w.1 F):=λh=>Zba h (Zp2 w.1 F)
 refine Exists.elim (Zav (δ:=e8 ns ws (some (.fz (dI w.1))) (some (.fz (.list (w.2.map ptD)))) (some (.fz (.list (w.2.map ptD)))) (some (.nd ts)) (some (.nd (frO w.1 F w.1))) o7) (it:=iRa (Ze (Zc 2) Zt)) (g:=gNm 7) (S:=W5 (tNo (tD (Yi Y5 (Ze (Zc 3) (Ze (Wx 6) (Ze (Zc 7) Zt)))))) (wE (fC (.bool false)) Jh) fNx)
  (λi δ=>∃z,δ=e8 ns ws (some (.fz (dI w.1))) (some (.fz (.list (w.2.map ptD)))) (some (.fz (.list (w.2.map ptD)))) (some (.nd ts)) (some (.nd (frO w.1 F w.1))) z) (Zfn (n:=w.1) (Zf (Za rfl) Zo) (by omega)) ⟨_,rfl⟩ (λi d δ hd h=>?turn)) λδ' z=>?fin
 case turn=>
  obtain⟨z,rfl⟩:=h
  obtain⟨hi,e⟩:=Jc hd
  rw[U6]at e
  subst e
  exact⟨_,_,rfl,.inl (Yj (Zd4 (p:=true) (Zgl (W2 (Zf (Za rfl) (Zf (far rfl) (Zf (Za rfl) Zo))) (Z12 R hi (hF i hi))))) rfl),some (.fz (dI i)),rfl⟩
 case fin=>
  obtain⟨run,z,rfl⟩:=z
  refine⟨some (.fz (.list (w.2.map ptD))),some (.nd []),some (.nd (frO w.1 F w.1)),z,?_⟩
  refine Zu (Y6 (Z74 (Zf (Za rfl) Zo) (Ztt _) (by rw[OT.data_nd,OT.map_fz])))<|Zu (Zqx (Zf (Za rfl) (Zf (Za rfl) Zo)) T)<|Zu (Zpv (Zf (Zba rfl td) (Zf (Za rfl) Zo)) (Zfs n10 F) (Zpk w.1 F))<|
   Zu (δ':=e8 ns ws (some (.fz (dI w.1))) (some (.fz (.list (w.2.map ptD)))) (some (.fz (.list (w.2.map ptD)))) (some (.nd ts)) (some (.nd (frO w.1 F w.1))) o7) (Yj (Zr8 (Zbg (Zz (far rfl) Yt rfl)) (Zbg (Zz (Za rfl) (Za rfl) (Zvf w.2)))) rfl)<|Zu run<|Zu (Zr7 (k:=0) rfl Yt hu) ((Zqm (ts:=ts.set 0 (.nd [])) rfl).trans rfl)
theorem Zq3(ns:List Int)(hl:ns.length≤63):Zeu [.list (ns.map XM)]= .ok (.fz (.bool true)):=by
 obtain⟨f,hf⟩:=Vp Z3v
 obtain⟨c0,T0⟩:=Zkw ns (k:=0) (by decide)
 obtain⟨q,eq,ql⟩:=Z2e (e:=Zc 0) (δ:=Jv 8 [Wy ns]) (p:=ns) (Za rfl) (Z4p (Yt (d:=.int 1))) (Z4p (Yt (d:=.int 6)))
 have e1:EvV (Zcu (Ze (Yi Yb (Ze (Zc 0) (Ze (fC (.int 0)) Zt))) Zt)) (Jv 8 [Wy ns]) (Wy [c0]):=Zn2 (ds:=[.int c0]) (Zf (W2 (Zf (Za rfl) (Zf Yt Zo)) (.of T0 (OT.data_fz _))) Zo) (show 1≤1000 by decide)
 have e2:=Zx3 eq e1 (by show q.length+1≤1000000;omega)
 obtain⟨cs,hcs⟩:∃cs,cs=q ++ [c0]:=⟨_,rfl⟩
 rw[←hcs]at e2
 have cl:cs.length≤64:=by rw[hcs,X6];show q.length+1≤64;omega
 have e3:EvV (Wa 1 [] (Jw (Z2 Zpf (fSl (Zc 0) (oI (fC (.int 1))) (oI (fC (.int 6)))) (Zcu (Ze (Yi Yb (Ze (Zc 0) (Ze (fC (.int 0)) Zt))) Zt)))) (gNm 0) Zfd (Yi Y7 (Ze (Zc 0) (Ze (fC (.int 10)) Zt)))) (Jv 8 [Wy ns]) (.list (cs.map λc=>wbD (f c))) :=
  Zmq (cs:=[]) cs XM (λc=>wbD (f c)) (W4 e2) (by omega) rfl λc _=>W2 (Zf (Za rfl) (Zf Yt Zo)) (hf c).1
 refine Told.ok<|W0 rfl<|J3 (Y6 e3)<|Zfa (ds:=(cs.map λc=>wbD (f c)) ++ (cs.map λc=>wbD (f c)).reverse) (λi δ=>∃o2 o3 o4 o5 o6 o7,δ=e8 ns (.list (cs.map λc=>wbD (f c))) o2 o3 o4 o5 o6 o7)
  (W4 (Zsr (Za rfl) ((Zxd (k:=-1) (Za rfl) (Z4p (Zsk Yt)) (by decide)).cast (by rw[Zor])) (by rw[List.length_reverse,Xe];omega))) ⟨_,_,_,_,_,_,rfl⟩ (λi d δ hd h=>?_) λδ' h=>?_
 ·obtain⟨o2,o3,o4,o5,o6,o7,rfl⟩:=h
  have hm:d∈cs.map λc=>wbD (f c):=(Qc.mp (X8 hd)).elim id λh=>List.mem_reverse.mp h
  obtain⟨c,_,rfl⟩:=XR.mp hm
  obtain⟨_,R,hc⟩:=hf c
  obtain⟨p4,p5,p6,p7,run⟩:=Zq6 (ns:=ns) (ws:=.list (cs.map λc=>wbD (f c))) (w:=f c) (o4:=o4) (o5:=o5) (o6:=o6) (o7:=o7) R hc
  exact⟨_,_,rfl,.inl run,_,_,_,_,_,_,rfl⟩
 ·obtain⟨o2,o3,o4,o5,o6,o7,rfl⟩:=h
  exact Zcl Yt
end My
namespace My
open PySem L2 PySem.Spec
theorem Z4k{P:List Xc->Prop}(h:∀a0,P [a0]):∀us:List Xc,us.length=1->P us:=λus hl=>by
 rcases us with _|⟨a0,us⟩
 ·exact absurd hl (by simp)
 rcases us with _|⟨b,us⟩
 ·exact h a0
 ·exact absurd hl (by simp)
theorem Zsb{P:List Xc->Prop}(h:∀a0 a1,P [a0,a1]):∀us:List Xc,us.length=2->P us:=λus hl=>by
 rcases us with _|⟨a0,us⟩
 ·exact absurd hl (by simp)
 rcases us with _|⟨a1,us⟩
 ·exact absurd hl (by simp)
 rcases us with _|⟨b,us⟩
 ·exact h a0 a1
 ·exact absurd hl (by simp)
theorem Z9l{P:List Xc->Prop}(h:∀a0 a1 a2,P [a0,a1,a2]):∀us:List Xc,us.length=3->P us:=λus hl=>by
 rcases us with _|⟨a0,us⟩
 ·exact absurd hl (by simp)
 rcases us with _|⟨a1,us⟩
 ·exact absurd hl (by simp)
 rcases us with _|⟨a2,us⟩
 ·exact absurd hl (by simp)
 rcases us with _|⟨b,us⟩
 ·exact h a0 a1 a2
 ·exact absurd hl (by simp)
noncomputable def top(i:Nat):Stmt:=PySem.Challenge.pw_farcuts_k59_steps_of_webs.main.body.getD i (.Pass ⟨0,0,0,0⟩)
noncomputable abbrev Yz:Stmt:=top 15
noncomputable abbrev Jj:Stmt:=top 20
noncomputable abbrev Wi:Stmt:=top 18
noncomputable abbrev Z4:Stmt:=top 19
noncomputable abbrev Yw:Stmt:=top 16
noncomputable abbrev Jm:Stmt:=top 17
noncomputable abbrev Yx:Stmt:=top 10
noncomputable abbrev Z6:Stmt:=top 5
noncomputable abbrev Wj:Stmt:=top 7
noncomputable abbrev Yu:Stmt:=top 9
noncomputable abbrev Y9:Stmt:=top 11
noncomputable abbrev Wv:Stmt:=top 12
noncomputable abbrev Wh:Stmt:=top 13
noncomputable abbrev Zcr:Stmt:=top 21
set_option genInjectivity false in
set_option genSizeOfSpec false in
structure Txt(K:Xd)(mg:Str->Option Xc)(f:Nat->Addr)(fd:Nat->QD)(cls:Nat->Addr):Prop where
 F_law_cell_at:Fun K "_law_cell_at" "_law_cell_at" Yz (f 0) (fd 0)
 b_law_cell_at:Binds K (fd 0) ["script","k"] []
 m_law_cell_at:mg "_law_cell_at"=some (.ref (f 0))
 F_law_led:Fun K "_law_led" "_law_led" Jj (f 1) (fd 1)
 b_law_led:Binds K (fd 1) ["roads","far","start"] []
 m_law_led:mg "_law_led"=some (.ref (f 1))
 F_law_whole:Fun K "_law_whole" "_law_whole" Wi (f 2) (fd 2)
 b_law_whole:Binds K (fd 2) ["found"] []
 m_law_whole:mg "_law_whole"=some (.ref (f 2))
 F_law_numbers_of:Fun K "_law_numbers_of" "_law_numbers_of" Z4 (f 3) (fd 3)
 b_law_numbers_of:Binds K (fd 3) ["found","n"] []
 m_law_numbers_of:mg "_law_numbers_of"=some (.ref (f 3))
 F_law_numbers:Fun K "_law_numbers" "_law_numbers" Yw (f 4) (fd 4)
 b_law_numbers:Binds K (fd 4) ["cell","many","base"] []
 m_law_numbers:mg "_law_numbers"=some (.ref (f 4))
 F_law_web:Fun K "_law_web" "_law_web" Jm (f 5) (fd 5)
 b_law_web:Binds K (fd 5) ["cell","most"] []
 m_law_web:mg "_law_web"=some (.ref (f 5))
 F_beside_each:Fun K "beside_each" "beside_each" Yx (f 6) (fd 6)
 b_beside_each:Binds K (fd 6) ["n","roads"] []
 m_beside_each:mg "beside_each"=some (.ref (f 6))
 F_is_point_count:Fun K "is_point_count" "is_point_count" Z6 (f 7) (fd 7)
 b_is_point_count:Binds K (fd 7) ["n"] []
 m_is_point_count:mg "is_point_count"=some (.ref (f 7))
 F_is_rising:Fun K "is_rising" "is_rising" Wj (f 8) (fd 8)
 b_is_rising:Binds K (fd 8) ["things"] []
 m_is_rising:mg "is_rising"=some (.ref (f 8))
 F_check_roads:Fun K "check_roads" "check_roads" Yu (f 9) (fd 9)
 b_check_roads:Binds K (fd 9) ["n","roads"] []
 m_check_roads:mg "check_roads"=some (.ref (f 9))
 F_steps_from:Fun K "steps_from" "steps_from" Y9 (f 10) (fd 10)
 b_steps_from:Binds K (fd 10) ["beside","start"] []
 m_steps_from:mg "steps_from"=some (.ref (f 10))
 F_web_rows:Fun K "web_rows" "web_rows" Wv (f 11) (fd 11)
 b_web_rows:Binds K (fd 11) ["n","roads"] []
 m_web_rows:mg "web_rows"=some (.ref (f 11))
 F_web_table:Fun K "web_table" "web_table" Wh (f 12) (fd 12)
 b_web_table:Binds K (fd 12) ["n","roads"] []
 m_web_table:mg "web_table"=some (.ref (f 12))
 F_law:Fun K "law" "law" Zcr (f 13) (fd 13)
 b_law:Binds K (fd 13) ["script"] []
 m_law:mg "law"=some (.ref (f 13))
 g_MOST_POINTS:∃t,mg "MOST_POINTS"=some (.int 10 t)
 z_abs:mg "abs"=none
 z_bool:mg "bool"=none
 z_int:mg "int"=none
 z_isinstance:mg "isinstance"=none
 z_len:mg "len"=none
 z_list:mg "list"=none
 z_max:mg "max"=none
 z_min:mg "min"=none
 z_range:mg "range"=none
 z_set:mg "set"=none
 z_sorted:mg "sorted"=none
 z_tuple:mg "tuple"=none
 z_zip:mg "zip"=none
 mC_NoWeb:mg "NoWeb"=some (.ref (cls 0))
 ca_NoWeb:ClsAt K "NoWeb" (cls 0)
 r_NoWeb:Zvv K (cls 0)
 x_NoWeb_ga:JC K (.ref (cls 0)) "__getattribute__"=some (some (.builtin "BaseException.__getattribute__"))
 x_NoWeb_gt:JC K (.ref (cls 0)) "__getattr__"=some none
 x_NoWeb_cl:JC K (.ref (cls 0)) "__class__"=some (some (.builtin "object.__class__"))
 x_NoWeb_isB:Uk K (.ref (cls 0)) (.type "BaseException")=some true
 x_NoWeb_isO:Uk K (.ref (cls 0)) (.type "object")=some true
 x_NoWeb_isC:PySem.W.isClsIn K (cls 0)=true
 x_NoWeb_k1:QM K (.ref (cls 0)) (.type "int")=some false
 x_NoWeb_k2:QM K (.ref (cls 0)) (.type "bool")=some false
 x_NoWeb_k3:QM K (.ref (cls 0)) (.type "str")=some false
 x_NoWeb_k4:QM K (.ref (cls 0)) (.type "list")=some false
 x_NoWeb_k5:QM K (.ref (cls 0)) (.type "tuple")=some false
section
variable {P:X4}{w:Qm}{K:Xd}{mg:Str->Option Xc}{base:Heap}
theorem Zed:Yc ["script","k"] ["script","k"] (Zg Yz):=⟨rfl,rfl,rfl,by decide +kernel,rfl,by decide +kernel,by decide +kernel⟩
theorem Zd5{f:Nat->Addr}{fd:Nat->QD}{cls:Nat->Addr}(T:Txt K mg f fd cls):FnOk P w K mg base CX0 1 (f 0) (fd 0) ["script","k"] (spD K (sD Yb)):=by
 refine W9 T.F_law_cell_at Zed (S:=Ja) rfl rfl (λcdv A outer s H E hr=>?_)
 have hu:=hr.units
 exact(xsq (xif (xlt (xv 1) (xln T.z_len (xa1 (xv 0)))) (Zh (xrt (xix (xv 0) (xv 1)))) xnl) (Zh (xrt xci)))
theorem Wt:Yc ["roads","far","start","a","b","point","here","nearer"] ["roads","far","start"] (Zg Jj):=⟨rfl,rfl,rfl,by decide +kernel,rfl,by decide +kernel,by decide +kernel⟩
theorem Zky{f:Nat->Addr}{fd:Nat->QD}{cls:Nat->Addr}(T:Txt K mg f fd cls):FnOk P w K mg base CX0 1 (f 1) (fd 1) ["roads","far","start"] (spD K (sD Y5)):=by
 refine W9 T.F_law_led Wt (S:=Zam) rfl rfl (λcdv A outer s H E hr=>?_)
 have hu:=hr.units
 exact(xsq (xfr Qv rfl (xil (xv 0)) (xg2 rfl (xg 3 Wt.nd) (xg 4 Wt.nd)) (Zh (xif (xgt (Zbd Z5f (Zfo Z07 Zp9 (by rfl) T.z_abs L2.B.boot_abs (xa1 (Zzs (xix (xix (xv 1) (xv 2)) (xv 3)) (xix (xix (xv 1) (xv 2)) (xv 4)))))) xci) (Zh (xrt (Zgb Zfc))) xnl))) (xsq (xfr Qv rfl (Zcd (Yh (by rfl) T.z_range (xa1 (xln T.z_len (xa1 (xv 1)))))) (xg 5 Wt.nd) (xsq (Zho (Jk (i:=6) (own:=["a","b"]) (caps:=[5]) (N':=["a","b","point"]) false Wt.nd rfl (QF rfl) (by exact⟨rfl,by decide +kernel,rfl,by decide +kernel,rfl,rfl⟩) (by rfl) (by decide) (xil (xv 0)) (λ_ _ _ _ _=>(xg2 rfl (xg 0 (by show Ve (["a","b","point"]:List Str);decide +kernel)) (xg 1 (by show Ve (["a","b","point"]:List Str);decide +kernel)))) (λ_ _ _ _ _=>(Zl0 (Za7 Z7x (Zbo (Z1q rfl) Z65 (xv 2) (xtp (Zk (xv 0) (xa1 (xv 1)))) (hm:=(by with_unfolding_all rfl)))))) (λ_ _ _ _ _=>(Zzs (Znt (xv 0) (xv 1)) (xv 2))))) (xsq (xif (xne hu (J7 Z6b (Z3m (Zm9 hu) Zw7 (xv 5) (xv 2) (hm:=(Za1 _)))) (J7 Z6b (Z3m (Zm9 hu) Zw7 (xix (xix (xv 1) (xv 2)) (xv 5)) xci (hm:=(Za1 _))))) (Zh (xrt (Zgb Zfc))) xnl) (xsq (Zho (Jk (i:=7) (own:=["one"]) (caps:=[1,2,5]) (N':=["one","far","start","point"]) false Wt.nd rfl (QF rfl) (by exact⟨rfl,by decide +kernel,rfl,by decide +kernel,rfl,rfl⟩) (by rfl) (by decide) (xil (xv 6)) (λ_ _ _ _ _=>(xg 0 (by show Ve (["one","far","start","point"]:List Str);decide +kernel))) (λ_ _ _ _ _=>(Zl0 (xeq hu (xix (xix (xv 1) (xv 2)) (xv 0)) (Zzs (xix (xix (xv 1) (xv 2)) (xv 3)) xci)))) (λ_ _ _ _ _=>(xv 0)))) (Zh (xif (MW.mt (Zth (Zsl (xne hu (xv 5) (xv 2)) (Zll (xeq hu (xv 7) (xls xa0)))))) (Zh (xrt (Zgb Zfc))) xnl)))))) (Zh (xrt (Zgb Zfc)))))
theorem Zg3:Yc ["found"] ["found"] (Zg Wi):=⟨rfl,rfl,rfl,by decide +kernel,rfl,by decide +kernel,by decide +kernel⟩
theorem Zg6{f:Nat->Addr}{fd:Nat->QD}{cls:Nat->Addr}(T:Txt K mg f fd cls):FnOk P w K mg base CX0 1 (f 2) (fd 2) ["found"] (spD K (sD Z5)):=by
 refine W9 T.F_law_whole Zg3 (S:=J0) rfl rfl (λcdv A outer s H E hr=>?_)
 have hu:=hr.units
 exact(Zh (xrt (Zvy (Z7p (Zg5 (Zmg (by decide) (by rfl) T.z_isinstance L2.B.boot_isinstance (by rfl) T.z_int L2.B.boot_int (xv 0))) (Z7g (Zv6 (Z7h (Zg5 (Zmg (by decide) (by rfl) T.z_isinstance L2.B.boot_isinstance (by rfl) T.z_bool L2.B.boot_bool (xv 0))))))))))
theorem Yv:Yc ["found","n","rows","row","one"] ["found","n"] (Zg Z4):=⟨rfl,rfl,rfl,by decide +kernel,rfl,by decide +kernel,by decide +kernel⟩
theorem Zbz{f:Nat->Addr}{fd:Nat->QD}{cls:Nat->Addr}(T:Txt K mg f fd cls):FnOk P w K mg base CX0 2 (f 3) (fd 3) ["found","n"] (spD K (sD Z8)):=by
 have G_law_whole:=Zg6 (P:=P) (w:=w) (base:=base) T
 refine W9 T.F_law_numbers_of Yv (S:=Yq) rfl rfl (λcdv A outer s H E hr=>?_)
 have hu:=hr.units
 exact(xsq (xif (MW.mt (Zh9 (Zhi (xno (J9 (Zaf (Zg5 (Zmg (by decide) (by rfl) T.z_isinstance L2.B.boot_isinstance (by rfl) T.z_list L2.B.boot_list (xv 0))) (λ_=>rfl)))) (Zc2 (xne hu (xln T.z_len (xa1 (xv 0))) (xv 1)))))) (Zh (xrt (Zgb Ze5))) xnl) (xsq (xso 2 Yv.nd (xls xa0)) (xsq (xfr Qv rfl (xil (xv 0)) (xg 3 Yv.nd) (xsq (xif (MW.mt (Zh9 (Zhi (xno (J9 (Zaf (Zg5 (Zmg (by decide) (by rfl) T.z_isinstance L2.B.boot_isinstance (by rfl) T.z_list L2.B.boot_list (xv 3))) (λ_=>rfl)))) (Zc2 (xne hu (xln T.z_len (xa1 (xv 3))) (xv 1)))))) (Zh (xrt (Zgb Ze5))) xnl) (xsq (xfr Qv rfl (xil (xv 3)) (xg 4 Yv.nd) (xsq (xif (MW.mt (Zh9 (Zhi (xno (J9 (Zaf (Zg5 (Zmg (by decide) (by rfl) T.z_isinstance L2.B.boot_isinstance (by rfl) T.z_tuple L2.B.boot_tuple (xv 4))) (λ_=>rfl)))) (Zc2 (xne hu (xln T.z_len (xa1 (xv 4))) xci))))) (Zh (xrt (Zgb Ze5))) xnl) (xsq (xif (MW.mt (Zh9 (Zhi (xno (J9 (Zaf (xcl G_law_whole (hr.mono (by decide)) T.m_law_whole T.F_law_whole.kp T.b_law_whole (xa1 (xix (xv 4) xci))) (λ_=>rfl)))) (Zc2 (xno (J9 (Zaf (xcl G_law_whole (hr.mono (by decide)) T.m_law_whole T.F_law_whole.kp T.b_law_whole (xa1 (xix (xv 4) xci))) (λ_=>rfl)))))))) (Zh (xrt (Zgb Ze5))) xnl) (Zh (xif (MW.mt (Zh9 (Zhi (xlt (xix (xv 4) xci) xci) (Zc2 (xne hu (xix (xv 4) xci) xci))))) (Zh (xrt (Zgb Ze5))) xnl))))) (Zh (Zet (Ze9 2 (Zbs (Zex (own:=["one"]) (caps:=[]) (N':=["one"]) (by exact⟨rfl,by decide +kernel,rfl,by decide +kernel,rfl,rfl⟩) (by rfl) (by decide) (xil (xv 3)) (λ_ _ _ _ _=>(xg 0 (by show Ve (["one"]:List Str);decide +kernel))) (λ_ _ _ _ _=>(Js Ju)) (λ_ _ _ _ _=>(xix (xv 0) xci)))))))))) (Zh (Zb0 (Zcc 2))))))
theorem Zq:Yc ["cell","many","base","row","rest","k","stir"] ["cell","many","base"] (Zg Yw):=⟨rfl,rfl,rfl,by decide +kernel,rfl,by decide +kernel,by decide +kernel⟩
theorem Zd6{f:Nat->Addr}{fd:Nat->QD}{cls:Nat->Addr}(T:Txt K mg f fd cls):FnOk P w K mg base CX0 1 (f 4) (fd 4) ["cell","many","base"] (spD K (sD Yo)):=by
 refine W9 T.F_law_numbers Zq (S:=Jd) rfl rfl (λcdv A outer s H E hr=>?_)
 have hu:=hr.units
 exact(xsq (xst 0 Zq.nd (Zla (xv 0) (Zyd (Z39 xci xci) (Z39 xci xci)))) (xsq (xso 3 Zq.nd (xls xa0)) (xsq (xst 4 Zq.nd (Zzs (xv 0) (Z39 xci xci))) (xsq (xfr Qv rfl (Zcd (Yh (by rfl) T.z_range (xa1 (xv 1)))) (xg 5 Zq.nd) (xsq (xst 6 Zq.nd (Zla (Zyd (Znt (Znt (xv 0) (Zyd xci (xv 5))) xci) xci) xci)) (xsq (xst 6 Zq.nd (Zla (Zyd (xv 6) (xv 6)) xci)) (xsq (xst 6 Zq.nd (Z32 (Zla (Zyd (Znt (xv 6) (Zyd xci (Znt (xv 5) xci))) xci) xci) xci)) (xsq (xif (xge (xv 0) (Z39 xci xci)) (xsq (xst 6 Zq.nd (xv 4)) (Zh (xst 4 Zq.nd (Z32 (xv 4) (xv 2))))) xnl) (Zh (Wn (Wo 3 (Zla (xv 6) (xv 2)))))))))) (Zh (Zb0 (Zcc 3)))))))
theorem Z3:Yc ["cell","most","row","n","left","names","k","roads","side","one","other"] ["cell","most"] (Zg Jm):=⟨rfl,rfl,rfl,by decide +kernel,rfl,by decide +kernel,by decide +kernel⟩
theorem Zkf{f:Nat->Addr}{fd:Nat->QD}{cls:Nat->Addr}(T:Txt K mg f fd cls):FnOk P w K mg base CX0 2 (f 5) (fd 5) ["cell","most"] (spD K (sD Y7)):=by
 have G_law_numbers:=Zd6 (P:=P) (w:=w) (base:=base) T
 refine W9 T.F_law_web Z3 (S:=Zak) rfl rfl (λcdv A outer s H E hr=>?_)
 have hu:=hr.units
 exact(xsq (xst 2 Z3.nd (xcl G_law_numbers (hr.mono (by decide)) T.m_law_numbers T.F_law_numbers.kp T.b_law_numbers (Zk (xv 0) (Zk xci (xa1 xci))))) (xsq (xst 3 Z3.nd (Znt xci (Zla (xix (xv 2) xci) (xv 1)))) (xsq (Zjk (Jk (i:=4) (own:=["point"]) (caps:=[]) (N':=["point"]) true Z3.nd rfl (QF rfl) (by exact⟨rfl,by decide +kernel,rfl,by decide +kernel,rfl,rfl⟩) (by rfl) (by decide) (Zcd (Yh (by rfl) T.z_range (xa1 (xv 3)))) (λ_ _ _ _ _=>(xg 0 (by show Ve (["point"]:List Str);decide +kernel))) (λ_ _ _ _ _=>(Js Ju)) (λ_ _ _ _ _=>(xv 0)))) (xsq (xso 5 Z3.nd (xls xa0)) (xsq (xfr Qv rfl (Zcd (Yh (by rfl) T.z_range (xa1 (xv 3)))) (xg 6 Z3.nd) (Zh (Wn (Wo 5 (Zzn (Z7n 4 (Zla (xix (xv 2) (Znt xci (xv 6))) (xln T.z_len (xa1 (xo 4)))))))))) (xsq (xso 7 Z3.nd (xls xa0)) (xsq (xso 8 Z3.nd (Z03 (Z6d xci (xv 3)))) (xsq (xfr Qv rfl (Z6y (Zl8 (by rfl) T.z_range (Zk xci (xa1 (xv 3))))) (xg 6 Z3.nd) (xsq (Wn (Wo 7 (Zw8 (Zyx (xtp (Zk (xix (xo 5) (Zla (xix (xv 2) (Znt xci (xv 6))) (xv 6))) (xa1 (xix (xo 5) (xv 6))))))))) (Zh (Z1x (Z0c 8 (Zzs xci (xix (xo 8) (xix (xix (xo 7) (Zs8 (Zz3 xci))) xci))) (xix (xo 5) (xv 6))))))) (xsq (xfr Qv rfl (Zcd (Yh (by rfl) T.z_range (xa1 (Zla (xix (xv 2) xci) xci)))) (xg 6 Z3.nd) (xsq (xst 9 Z3.nd (Zla (Z32 (xix (xv 2) (Znt xci (xv 6))) xci) (xv 3))) (xsq (xst 10 Z3.nd (Zla (xix (xv 2) (Znt xci (xv 6))) (xv 3))) (Zh (xif (MW.mt (Zth (Zsl (xne hu (xv 9) (xv 10)) (Zll (MW.mt (Zh9 (Zhi (xeq hu (Zla (Z32 (xix (xv 2) xci) xci) xci) xci) (Zc2 (xne hu (xix (xo 8) (xv 9)) (xix (xo 8) (xv 10))))))))))) (Zh (Wn (Wo 7 (xtp (Zk (xv 9) (xa1 (xv 10))))))) xnl))))) (Zh (xrt (xtp (Zk (xv 3) (xa1 (Zh0 (Zk6 (by rfl) hu (by rfl) T.z_sorted L2.B.boot_sorted (by rfl) T.z_set L2.B.boot_set (xa1 (Zbs (Zex (own:=["a","b"]) (caps:=[]) (N':=["a","b"]) (by exact⟨rfl,by decide +kernel,rfl,by decide +kernel,rfl,rfl⟩) (by rfl) (by decide) (xil (xo 7)) (λ_ _ _ _ _=>(Zso (Zst (n:=2) (by rfl) (Zcx (Zg7 (Zi8 (Zi1 (i:=0) (by show Ve (["a","b"]:List Str);decide +kernel))) (Zcx (Zg7 (Zi8 (Zi1 (i:=1) (by show Ve (["a","b"]:List Str);decide +kernel))) (Zo8 Zl3)))))))) (λ_ _ _ _ _=>(Js Ju)) (λ_ _ _ _ _=>(xtp (Zk (Zbd Z7c (Zfo Zv1 (Zl5 (by rfl)) (by rfl) T.z_min L2.B.boot_min (Zk (xv 0) (xa1 (xv 1))))) (xa1 (Zbd Z7z (Zfo Zwy (Znx (by rfl)) (by rfl) T.z_max L2.B.boot_max (Zk (xv 0) (xa1 (xv 1))))))))))))))))))))))))))))
theorem Wl:Yc ["n","roads","beside","a","b"] ["n","roads"] (Zg Yx):=⟨rfl,rfl,rfl,by decide +kernel,rfl,by decide +kernel,by decide +kernel⟩
theorem Zap{f:Nat->Addr}{fd:Nat->QD}{cls:Nat->Addr}(T:Txt K mg f fd cls):FnOk P w K mg base CX0 1 (f 6) (fd 6) ["n","roads"] (spD K (sD Wd)):=by
 refine W9 T.F_beside_each Wl (S:=Jf) rfl rfl (λcdv A outer s H E hr=>?_)
 have hu:=hr.units
 exact(xsq (Zjk (Jk (i:=2) (own:=["point"]) (caps:=[]) (N':=["point"]) true Wl.nd rfl (QF rfl) (by exact⟨rfl,by decide +kernel,rfl,by decide +kernel,rfl,rfl⟩) (by rfl) (by decide) (Zcd (Yh (by rfl) T.z_range (xa1 (xv 0)))) (λ_ _ _ _ _=>(xg 0 (by show Ve (["point"]:List Str);decide +kernel))) (λ_ _ _ _ _=>(Js Ju)) (λ_ _ _ _ _=>(xls xa0)))) (xsq (xfr Qv rfl (xil (xv 1)) (xg2 rfl (xg 3 Wl.nd) (xg 4 Wl.nd)) (xsq (Zi4 (Zik 2 (xv 3) (xv 4))) (Zh (Zi4 (Zik 2 (xv 4) (xv 3)))))) (Zh (Zb0 (Zcc 2)))))
theorem Zce:Yc ["n"] ["n"] (Zg Z6):=⟨rfl,rfl,rfl,by decide +kernel,rfl,by decide +kernel,by decide +kernel⟩
theorem Ji{f:Nat->Addr}{fd:Nat->QD}{cls:Nat->Addr}(T:Txt K mg f fd cls):FnOk P w K mg base CX0 1 (f 7) (fd 7) ["n"] (spD K (sD Ys)):=by
 refine W9 T.F_is_point_count Zce (S:=Wm) rfl rfl (λcdv A outer s H E hr=>?_)
 have hu:=hr.units
 exact(Zh (xrt (Zpl (Zx9 Zko Zko xci (xv 0) (Zgb (Zu1 (by rfl) T.g_MOST_POINTS))))))
theorem J5:Yc ["things","one","behind"] ["things"] (Zg Wj):=⟨rfl,rfl,rfl,by decide +kernel,rfl,by decide +kernel,by decide +kernel⟩
theorem Zcg{f:Nat->Addr}{fd:Nat->QD}{cls:Nat->Addr}(T:Txt K mg f fd cls):FnOk P w K mg base CX0 1 (f 8) (fd 8) ["things"] (spD K (sD Wq)):=by
 refine W9 T.F_is_rising J5 (S:=Jz) rfl rfl (λcdv A outer s H E hr=>?_)
 have hu:=hr.units
 exact(xsq (xfr Qv rfl (Zvj (Ztv (by rfl) T.z_zip L2.B.boot_zip (Zk (xv 0) (xa1 (Z2h (Z01 (xv 0) (Zf3 (Zf6 xci)) (Zh5 Zhx))))))) (xg2 rfl (xg 1 J5.nd) (xg 2 J5.nd)) (Zh (xif (xno (Za7 Z5j (Zbo (Z3g hu) Z0v (xv 1) (xv 2) (hm:=(Za1 _))))) (Zh (xrt (Zgb Zfc))) xnl))) (Zh (xrt (Zgb Zfc))))
theorem Z1:Yc ["n","roads","a","b"] ["n","roads"] (Zg Yu):=⟨rfl,rfl,rfl,by decide +kernel,rfl,by decide +kernel,by decide +kernel⟩
theorem Zao{f:Nat->Addr}{fd:Nat->QD}{cls:Nat->Addr}(T:Txt K mg f fd cls):FnOk P w K mg base CX0 2 (f 9) (fd 9) ["n","roads"] (spD K (sD Yp)):=by
 have G_is_point_count:=Ji (P:=P) (w:=w) (base:=base) T
 have G_is_rising:=Zcg (P:=P) (w:=w) (base:=base) T
 refine W9 T.F_check_roads Z1 (S:=Wb) rfl rfl (λcdv A outer s H E hr=>?_)
 have hu:=hr.units
 exact(xsq (xif (xno (J9 (Zaf (xcl G_is_point_count (hr.mono (by decide)) T.m_is_point_count T.F_is_point_count.kp T.b_is_point_count (xa1 (xv 0))) (λ_=>rfl)))) (Zh Wk) xnl) (xsq (xfr Qv rfl (xil (xv 1)) (xg2 rfl (xg 2 Z1.nd) (xg 3 Z1.nd)) (Zh (xif (xno (Za8 (Zbj Zko Zfg Zfg xci (xv 2) (xv 3) (xv 0)))) (Zh Wk) xnl))) (Zh (xif (xno (J9 (Zaf (xcl G_is_rising (hr.mono (by decide)) T.m_is_rising T.F_is_rising.kp T.b_is_rising (xa1 (xv 1))) (λ_=>rfl)))) (Zh Wk) xnl))))
theorem Zaa{f:Nat->Addr}{fd:Nat->QD}{cls:Nat->Addr}(T:Txt K mg f fd cls):FnOk P w K mg base (CX1 P w) 2 (f 9) (fd 9) ["n","roads"] (spX K (sX K Yp)):=by
 have G_is_point_count:=Ji (P:=P) (w:=w) (base:=base) T
 have G_is_rising:=Zcg (P:=P) (w:=w) (base:=base) T
 refine Zsx T.F_check_roads Z1 (S:=Wb) rfl rfl (λcdv A outer s H E hr=>?_)
 have hu:=hr.units
 exact(Zcn (Zqw (Zp0 (xno (J9 (Zaf (xcl G_is_point_count (hr.mono (by decide)) T.m_is_point_count T.F_is_point_count.kp T.b_is_point_count (xa1 (xv 0))) (λ_=>rfl)))) (Zb5 (Zcw T.ca_NoWeb (Zc0 rfl hr.hd (by rfl) T.mC_NoWeb T.r_NoWeb))) (Zeq _))) (xif (xno (J9 (Zaf (xcl G_is_point_count (hr.mono (by decide)) T.m_is_point_count T.F_is_point_count.kp T.b_is_point_count (xa1 (xv 0))) (λ_=>rfl)))) (Zh Wk) xnl) (Zcn (Zsm (Zs5 rfl (xil (xv 1)) (xg2 rfl (xg 2 Z1.nd) (xg 3 Z1.nd)) (Zh (xif (xno (Za8 (Zbj Zko Zfg Zfg xci (xv 2) (xv 3) (xv 0)))) (Zh Wk) xnl)) (Zb5 (Zqw (Zp0 (xno (Za8 (Zbj Zko Zfg Zfg xci (xv 2) (xv 3) (xv 0)))) (Zb5 (Zcw T.ca_NoWeb (Zc0 rfl hr.hd (by rfl) T.mC_NoWeb T.r_NoWeb))) (Zeq _)))))) (xfr Qv rfl (xil (xv 1)) (xg2 rfl (xg 2 Z1.nd) (xg 3 Z1.nd)) (Zh (xif (xno (Za8 (Zbj Zko Zfg Zfg xci (xv 2) (xv 3) (xv 0)))) (Zh Wk) xnl))) (Zb5 (Zqw (Zp0 (xno (J9 (Zaf (xcl G_is_rising (hr.mono (by decide)) T.m_is_rising T.F_is_rising.kp T.b_is_rising (xa1 (xv 1))) (λ_=>rfl)))) (Zb5 (Zcw T.ca_NoWeb (Zc0 rfl hr.hd (by rfl) T.mC_NoWeb T.r_NoWeb))) (Zeq _))))))
theorem Yk:Yc ["beside","start","steps","edge","beyond","point","other"] ["beside","start"] (Zg Y9):=⟨rfl,rfl,rfl,by decide +kernel,rfl,by decide +kernel,by decide +kernel⟩
theorem Zbm{f:Nat->Addr}{fd:Nat->QD}{cls:Nat->Addr}(T:Txt K mg f fd cls):FnOk P w K mg base CX0 1 (f 10) (fd 10) ["beside","start"] (spD K (sD Yg)):=by
 refine W9 T.F_steps_from Yk (S:=Jo) rfl rfl (λcdv A outer s H E hr=>?_)
 have hu:=hr.units
 exact(xsq (xso 2 Yk.nd (Zr0 (Zuz (xv 1) xci))) (xsq (xst 3 Yk.nd (xls (xa1 (xv 1)))) (xsq (Zpu (Zq5 Qv (xgt (xln T.z_len (xa1 (xv 3))) xci) (xsq (xso 4 Yk.nd (xls xa0)) (xsq (xfr Qv rfl (xil (xv 3)) (xg 5 Yk.nd) (Zh (xfr Qv rfl (xil (xix (xv 0) (xv 5))) (xg 6 Yk.nd) (Zh (xif (Za7 Z5q (Zbo (Zol hu) Z2y (xv 6) (xo 2) (hm:=(by with_unfolding_all rfl)))) (xsq (Zt9 (Zve 2 hu (Znt (Zkm (Zdp Zrm (Zqn hu (xo 2) (xv 5) (hs:=λ_ _=>rfl)))) xci) (xv 6))) (Zh (Wn (Wo 4 (xv 6))))) xnl))))) (Zh (Znj (Zn5 4 (xst 3 Yk.nd (xv 4))))))))) (Zh (Zb0 (Zcc 2))))))
theorem Zv:Yc ["n","roads","beside","rows","start","steps"] ["n","roads"] (Zg Wv):=⟨rfl,rfl,rfl,by decide +kernel,rfl,by decide +kernel,by decide +kernel⟩
theorem Zic{f:Nat->Addr}{fd:Nat->QD}{cls:Nat->Addr}(T:Txt K mg f fd cls):FnOk P w K mg base CX0 3 (f 11) (fd 11) ["n","roads"] (spD K (sD Yr)):=by
 have G_beside_each:=Zap (P:=P) (w:=w) (base:=base) T
 have G_check_roads:=Zao (P:=P) (w:=w) (base:=base) T
 have GX_check_roads:=Zaa (P:=P) (w:=w) (base:=base) T
 have G_steps_from:=Zbm (P:=P) (w:=w) (base:=base) T
 refine W9 T.F_web_rows Zv (S:=W7) rfl rfl (λcdv A outer s H E hr=>?_)
 have hu:=hr.units
 exact(xsq (Yab (Zlj (Zn8 (xcl G_check_roads (hr.mono (by decide)) T.m_check_roads T.F_check_roads.kp T.b_check_roads (Zk (xv 0) (xa1 (xv 1))))))) (xsq (xst 2 Zv.nd (xcl G_beside_each (hr.mono (by decide)) T.m_beside_each T.F_beside_each.kp T.b_beside_each (Zk (xv 0) (xa1 (xv 1))))) (xsq (xso 3 Zv.nd (xls xa0)) (xsq (xfr Qv rfl (Zcd (Yh (by rfl) T.z_range (xa1 (xv 0)))) (xg 4 Zv.nd) (xsq (Zf9 (Zg4 (i:=5) Zv.nd rfl (Qp rfl) (xcl G_steps_from (hr.mono (by decide)) T.m_steps_from T.F_steps_from.kp T.b_steps_from (Zk (xv 2) (xa1 (xv 4)))))) (xsq (xif (xlt (Zbd Zgd (Zfo Zdc J6 (by rfl) T.z_len L2.B.boot_len (xa1 (xv 5)))) (xv 0)) (Zh Wk) xnl) (Zh (Wn (Wo 3 (Zbs (Zex (own:=["point"]) (caps:=[5]) (N':=["point","steps"]) (by exact⟨rfl,by decide +kernel,rfl,by decide +kernel,rfl,rfl⟩) (by rfl) (by decide) (Zcd (Yh (by rfl) T.z_range (xa1 (xv 0)))) (λ_ _ _ _ _=>(xg 0 (by show Ve (["point","steps"]:List Str);decide +kernel))) (λ_ _ _ _ _=>(Js Ju)) (λ_ _ _ _ _=>(Zkm (Zdp Zrm (Zqn hu (xv 1) (xv 0) (hs:=λ_ _=>rfl))))))))))))) (Zh (Zb0 (Zcc 3)))))))
theorem Zgr{f:Nat->Addr}{fd:Nat->QD}{cls:Nat->Addr}(T:Txt K mg f fd cls):FnOk P w K mg base (CX1 P w) 3 (f 11) (fd 11) ["n","roads"] (spX K (sX K Yr)):=by
 have G_beside_each:=Zap (P:=P) (w:=w) (base:=base) T
 have G_check_roads:=Zao (P:=P) (w:=w) (base:=base) T
 have GX_check_roads:=Zaa (P:=P) (w:=w) (base:=base) T
 have G_steps_from:=Zbm (P:=P) (w:=w) (base:=base) T
 refine Zsx T.F_web_rows Zv (S:=W7) rfl rfl (λcdv A outer s H E hr=>?_)
 have hu:=hr.units
 exact(Zcn (Zu3 (Zvu (Zw6 GX_check_roads (hr.mono (by decide)) (by rfl) T.m_check_roads T.F_check_roads.kp T.b_check_roads (Zk (xv 0) (xa1 (xv 1)))))) (Yab (Zlj (Zn8 (xcl G_check_roads (hr.mono (by decide)) T.m_check_roads T.F_check_roads.kp T.b_check_roads (Zk (xv 0) (xa1 (xv 1))))))) (Zcn (Zxj _) (xst 2 Zv.nd (xcl G_beside_each (hr.mono (by decide)) T.m_beside_each T.F_beside_each.kp T.b_beside_each (Zk (xv 0) (xa1 (xv 1))))) (Zcn (Zxj _) (xso 3 Zv.nd (xls xa0)) (Zcn (Zsm (Zs5 rfl (Zcd (Yh (by rfl) T.z_range (xa1 (xv 0)))) (xg 4 Zv.nd) (xsq (Zf9 (Zg4 (i:=5) Zv.nd rfl (Qp rfl) (xcl G_steps_from (hr.mono (by decide)) T.m_steps_from T.F_steps_from.kp T.b_steps_from (Zk (xv 2) (xa1 (xv 4)))))) (xsq (xif (xlt (Zbd Zgd (Zfo Zdc J6 (by rfl) T.z_len L2.B.boot_len (xa1 (xv 5)))) (xv 0)) (Zh Wk) xnl) (Zh (Wn (Wo 3 (Zbs (Zex (own:=["point"]) (caps:=[5]) (N':=["point","steps"]) (by exact⟨rfl,by decide +kernel,rfl,by decide +kernel,rfl,rfl⟩) (by rfl) (by decide) (Zcd (Yh (by rfl) T.z_range (xa1 (xv 0)))) (λ_ _ _ _ _=>(xg 0 (by show Ve (["point","steps"]:List Str);decide +kernel))) (λ_ _ _ _ _=>(Js Ju)) (λ_ _ _ _ _=>(Zkm (Zdp Zrm (Zqn hu (xv 1) (xv 0) (hs:=λ_ _=>rfl)))))))))))) (Zcn (Zxj _) (Zf9 (Zg4 (i:=5) Zv.nd rfl (Qp rfl) (xcl G_steps_from (hr.mono (by decide)) T.m_steps_from T.F_steps_from.kp T.b_steps_from (Zk (xv 2) (xa1 (xv 4)))))) (Zcn (Zqw (Zp0 (xlt (Zbd Zgd (Zfo Zdc J6 (by rfl) T.z_len L2.B.boot_len (xa1 (xv 5)))) (xv 0)) (Zb5 (Zcw T.ca_NoWeb (Zc0 rfl hr.hd (by rfl) T.mC_NoWeb T.r_NoWeb))) (Zeq _))) (xif (xlt (Zbd Zgd (Zfo Zdc J6 (by rfl) T.z_len L2.B.boot_len (xa1 (xv 5)))) (xv 0)) (Zh Wk) xnl) (Zeq _))))) (xfr Qv rfl (Zcd (Yh (by rfl) T.z_range (xa1 (xv 0)))) (xg 4 Zv.nd) (xsq (Zf9 (Zg4 (i:=5) Zv.nd rfl (Qp rfl) (xcl G_steps_from (hr.mono (by decide)) T.m_steps_from T.F_steps_from.kp T.b_steps_from (Zk (xv 2) (xa1 (xv 4)))))) (xsq (xif (xlt (Zbd Zgd (Zfo Zdc J6 (by rfl) T.z_len L2.B.boot_len (xa1 (xv 5)))) (xv 0)) (Zh Wk) xnl) (Zh (Wn (Wo 3 (Zbs (Zex (own:=["point"]) (caps:=[5]) (N':=["point","steps"]) (by exact⟨rfl,by decide +kernel,rfl,by decide +kernel,rfl,rfl⟩) (by rfl) (by decide) (Zcd (Yh (by rfl) T.z_range (xa1 (xv 0)))) (λ_ _ _ _ _=>(xg 0 (by show Ve (["point","steps"]:List Str);decide +kernel))) (λ_ _ _ _ _=>(Js Ju)) (λ_ _ _ _ _=>(Zkm (Zdp Zrm (Zqn hu (xv 1) (xv 0) (hs:=λ_ _=>rfl))))))))))))) (Zeq _)))))
theorem J4:Yc ["n","roads","table","row"] ["n","roads"] (Zg Wh):=⟨rfl,rfl,rfl,by decide +kernel,rfl,by decide +kernel,by decide +kernel⟩
theorem Zg0{f:Nat->Addr}{fd:Nat->QD}{cls:Nat->Addr}(T:Txt K mg f fd cls):FnOk P w K mg base CX0 4 (f 12) (fd 12) ["n","roads"] (spD K (sD Y8)):=by
 have G_web_rows:=Zic (P:=P) (w:=w) (base:=base) T
 have GX_web_rows:=Zgr (P:=P) (w:=w) (base:=base) T
 refine W9 T.F_web_table J4 (S:=Jx) rfl rfl (λcdv A outer s H E hr=>?_)
 have hu:=hr.units
 exact(xsq (xso 2 J4.nd (xls xa0)) (xsq (xfr Qv rfl (xil (xcl G_web_rows (hr.mono (by decide)) T.m_web_rows T.F_web_rows.kp T.b_web_rows (Zk (xv 0) (xa1 (xv 1))))) (xg 3 J4.nd) (Zh (Zet (Ze9 2 (Zbs (Zex (own:=["far"]) (caps:=[]) (N':=["far"]) (by exact⟨rfl,by decide +kernel,rfl,by decide +kernel,rfl,rfl⟩) (by rfl) (by decide) (xil (xv 3)) (λ_ _ _ _ _=>(xg 0 (by show Ve (["far"]:List Str);decide +kernel))) (λ_ _ _ _ _=>(Js Ju)) (λ_ _ _ _ _=>(xtp (Zk (xv 0) (xa1 xci)))))))))) (Zh (Zb0 (Zcc 2)))))
theorem Zck:Yc ["script","webs","n","roads","handed","found","far","start"] ["script"] (Zg Zcr):=⟨rfl,rfl,rfl,by decide +kernel,rfl,by decide +kernel,by decide +kernel⟩
theorem Z2o{f:Nat->Addr}{fd:Nat->QD}{cls:Nat->Addr}(T:Txt K mg f fd cls):FnOk P w K mg base CX0 5 (f 13) (fd 13) ["script"] (spD K (sD Zeu)):=by
 have G_law_cell_at:=Zd5 (P:=P) (w:=w) (base:=base) T
 have G_law_led:=Zky (P:=P) (w:=w) (base:=base) T
 have G_law_numbers_of:=Zbz (P:=P) (w:=w) (base:=base) T
 have G_law_web:=Zkf (P:=P) (w:=w) (base:=base) T
 have G_web_table:=Zg0 (P:=P) (w:=w) (base:=base) T
 refine W9 T.F_law Zck (S:=Zer) rfl rfl (λcdv A outer s H E hr=>?_)
 have hu:=hr.units
 exact(xsq (Zho (Jk (i:=1) (own:=["cell"]) (caps:=[]) (N':=["cell"]) false Zck.nd rfl (QF rfl) (by exact⟨rfl,by decide +kernel,rfl,by decide +kernel,rfl,rfl⟩) (by rfl) (by decide) (xil (Zkm (Zdp Z2u (Z8r (Zl1 rfl) Zsg (Z2h (Z01 (xv 0) (Zf3 (Zf6 xci)) (Zf3 (Zf6 xci)))) (xls (xa1 (xcl G_law_cell_at (hr.mono (by decide)) T.m_law_cell_at T.F_law_cell_at.kp T.b_law_cell_at (Zk (xv 0) (xa1 xci))))))))) (λ_ _ _ _ _=>(xg 0 (by show Ve (["cell"]:List Str);decide +kernel))) (λ_ _ _ _ _=>(Js Ju)) (λ_ _ _ _ _=>(xcl G_law_web (hr.mono (by decide)) T.m_law_web T.F_law_web.kp T.b_law_web (Zk (xv 0) (xa1 xci)))))) (xsq (xfr Qv rfl (xil (Zkm (Zdp Z2u (Z8r (Zl1 rfl) Zsg (xv 1) (Zv2 (Z29 (xv 1) (Zh5 Zhx) (Zh5 Zhx) (Zf3 (Zf6 (Zs8 (Zz3 xci)))))))))) (xg2 rfl (xg 2 Zck.nd) (xg 3 Zck.nd)) (xsq (xst 4 Zck.nd (Z6o Z3r (Yar Zx0 (Zj7 rfl) (by rfl) T.z_list L2.B.boot_list (xa1 (xv 3))))) (xsq (xso 5 Zck.nd (xcl G_web_table (hr.mono (by decide)) T.m_web_table T.F_web_table.kp T.b_web_table (Zk (xv 2) (xa1 (xv 4))))) (xsq (xso 6 Zck.nd (Zqi (Zul (xcl G_law_numbers_of (hr.mono (by decide)) T.m_law_numbers_of T.F_law_numbers_of.kp T.b_law_numbers_of (Zk (xo 5) (xa1 (xv 2))))))) (xsq (xif (MW.mt (Zh9 (Zhi (Za7 Yby (Zbo Zy1 Z3u (xo 6) (Zgb Ze5) (hm:=(Za1 _)))) (Zc2 (xne hu (xv 4) (xv 3)))))) (Zh (xrt (Zgb Zfc))) xnl) (xsq (xfr Qv rfl (Zcd (Yh (by rfl) T.z_range (xa1 (xv 2)))) (xg 7 Zck.nd) (Zh (xif (xno (J9 (Zaf (xcl G_law_led (hr.mono (by decide)) T.m_law_led T.F_law_led.kp T.b_law_led (Zk (xv 3) (Zk (xo 6) (xa1 (xv 7))))) (λ_=>rfl)))) (Zh (xrt (Zgb Zfc))) xnl))) (xsq (Zpq (Zp7 5 xci)) (Zh (Zqe (Zph 5)))))))))) (Zh (xrt (Zgb Zfc)))))
theorem Zum{f:Nat->Addr}{fd:Nat->QD}{cls:Nat->Addr}(T:Txt K mg f fd cls):FnOk P w K mg base CX0 5 (f 13) (fd 13) ["script"] (spD K Z3q):=(Z2o T).imp λvs H Q E q=>by
 obtain⟨L,ds,k,h1,⟨ns,e,hl,hk⟩,h3⟩:=q
 exact⟨L,ds,k,h1,⟨_,by rw[e];exact Zq3 ns hl,hk⟩,h3⟩
end
theorem Z3k{l:PySem.W.OpenLaw}{w:Qm}{K:Xd}{h:Heap}{mg:Str->Option Xc}{fa:Addr}{t_MOST_POINTS:Tok}{C_NoWeb:Addr}(X:K.In h)(G:h.Ns Qa mg)(hfa:mg "law"=some (.ref fa))
  {f1:Addr} {od1 an1:Option Addr} {sl1:Array (Option Xc)} {oc1 kV1 dc1 pm1 cd1 ct1:Xc}
  {f2:Addr} {od2 an2:Option Addr} {sl2:Array (Option Xc)} {oc2 kV2 dc2 pm2 cd2 ct2:Xc}
  {f3:Addr} {od3 an3:Option Addr} {sl3:Array (Option Xc)} {oc3 kV3 dc3 pm3 cd3 ct3:Xc}
  {f4:Addr} {od4 an4:Option Addr} {sl4:Array (Option Xc)} {oc4 kV4 dc4 pm4 cd4 ct4:Xc}
  {f5:Addr} {od5 an5:Option Addr} {sl5:Array (Option Xc)} {oc5 kV5 dc5 pm5 cd5 ct5:Xc}
  {f6:Addr} {od6 an6:Option Addr} {sl6:Array (Option Xc)} {oc6 kV6 dc6 pm6 cd6 ct6:Xc}
  {f7:Addr} {od7 an7:Option Addr} {sl7:Array (Option Xc)} {oc7 kV7 dc7 pm7 cd7 ct7:Xc}
  {f8:Addr} {od8 an8:Option Addr} {sl8:Array (Option Xc)} {oc8 kV8 dc8 pm8 cd8 ct8:Xc}
  {f9:Addr} {od9 an9:Option Addr} {sl9:Array (Option Xc)} {oc9 kV9 dc9 pm9 cd9 ct9:Xc}
  {f10:Addr} {od10 an10:Option Addr} {sl10:Array (Option Xc)} {oc10 kV10 dc10 pm10 cd10 ct10:Xc}
  {f11:Addr} {od11 an11:Option Addr} {sl11:Array (Option Xc)} {oc11 kV11 dc11 pm11 cd11 ct11:Xc}
  {f12:Addr} {od12 an12:Option Addr} {sl12:Array (Option Xc)} {oc12 kV12 dc12 pm12 cd12 ct12:Xc}
  {f13:Addr} {od13 an13:Option Addr} {sl13:Array (Option Xc)} {oc13 kV13 dc13 pm13 cd13 ct13:Xc}
  {f14:Addr} {od14 an14:Option Addr} {sl14:Array (Option Xc)} {oc14 kV14 dc14 pm14 cd14 ct14:Xc}
  (a1:Ql K Qa "_law_cell_at"=some (some (.ref f1))) (l1:K.lookup f1=some ⟨oc1,od1,.func (QJ "_law_cell_at" "_law_cell_at" (Ye Yz) (Zx Yz) (Zg Yz) .none kV1 dc1 pm1 an1 cd1 ct1),sl1⟩) (c1:QT K cd1 "_law_cell_at"=true) (k1:Qu K (.ref f1)=true)
  (a2:Ql K Qa "_law_led"=some (some (.ref f2))) (l2:K.lookup f2=some ⟨oc2,od2,.func (QJ "_law_led" "_law_led" (Ye Jj) (Zx Jj) (Zg Jj) .none kV2 dc2 pm2 an2 cd2 ct2),sl2⟩) (c2:QT K cd2 "_law_led"=true) (k2:Qu K (.ref f2)=true)
  (a3:Ql K Qa "_law_whole"=some (some (.ref f3))) (l3:K.lookup f3=some ⟨oc3,od3,.func (QJ "_law_whole" "_law_whole" (Ye Wi) (Zx Wi) (Zg Wi) .none kV3 dc3 pm3 an3 cd3 ct3),sl3⟩) (c3:QT K cd3 "_law_whole"=true) (k3:Qu K (.ref f3)=true)
  (a4:Ql K Qa "_law_numbers_of"=some (some (.ref f4))) (l4:K.lookup f4=some ⟨oc4,od4,.func (QJ "_law_numbers_of" "_law_numbers_of" (Ye Z4) (Zx Z4) (Zg Z4) .none kV4 dc4 pm4 an4 cd4 ct4),sl4⟩) (c4:QT K cd4 "_law_numbers_of"=true) (k4:Qu K (.ref f4)=true)
  (a5:Ql K Qa "_law_numbers"=some (some (.ref f5))) (l5:K.lookup f5=some ⟨oc5,od5,.func (QJ "_law_numbers" "_law_numbers" (Ye Yw) (Zx Yw) (Zg Yw) .none kV5 dc5 pm5 an5 cd5 ct5),sl5⟩) (c5:QT K cd5 "_law_numbers"=true) (k5:Qu K (.ref f5)=true)
  (a6:Ql K Qa "_law_web"=some (some (.ref f6))) (l6:K.lookup f6=some ⟨oc6,od6,.func (QJ "_law_web" "_law_web" (Ye Jm) (Zx Jm) (Zg Jm) .none kV6 dc6 pm6 an6 cd6 ct6),sl6⟩) (c6:QT K cd6 "_law_web"=true) (k6:Qu K (.ref f6)=true)
  (a7:Ql K Qa "beside_each"=some (some (.ref f7))) (l7:K.lookup f7=some ⟨oc7,od7,.func (QJ "beside_each" "beside_each" (Ye Yx) (Zx Yx) (Zg Yx) .none kV7 dc7 pm7 an7 cd7 ct7),sl7⟩) (c7:QT K cd7 "beside_each"=true) (k7:Qu K (.ref f7)=true)
  (a8:Ql K Qa "is_point_count"=some (some (.ref f8))) (l8:K.lookup f8=some ⟨oc8,od8,.func (QJ "is_point_count" "is_point_count" (Ye Z6) (Zx Z6) (Zg Z6) .none kV8 dc8 pm8 an8 cd8 ct8),sl8⟩) (c8:QT K cd8 "is_point_count"=true) (k8:Qu K (.ref f8)=true)
  (a9:Ql K Qa "is_rising"=some (some (.ref f9))) (l9:K.lookup f9=some ⟨oc9,od9,.func (QJ "is_rising" "is_rising" (Ye Wj) (Zx Wj) (Zg Wj) .none kV9 dc9 pm9 an9 cd9 ct9),sl9⟩) (c9:QT K cd9 "is_rising"=true) (k9:Qu K (.ref f9)=true)
  (a10:Ql K Qa "check_roads"=some (some (.ref f10))) (l10:K.lookup f10=some ⟨oc10,od10,.func (QJ "check_roads" "check_roads" (Ye Yu) (Zx Yu) (Zg Yu) .none kV10 dc10 pm10 an10 cd10 ct10),sl10⟩) (c10:QT K cd10 "check_roads"=true) (k10:Qu K (.ref f10)=true)
  (a11:Ql K Qa "steps_from"=some (some (.ref f11))) (l11:K.lookup f11=some ⟨oc11,od11,.func (QJ "steps_from" "steps_from" (Ye Y9) (Zx Y9) (Zg Y9) .none kV11 dc11 pm11 an11 cd11 ct11),sl11⟩) (c11:QT K cd11 "steps_from"=true) (k11:Qu K (.ref f11)=true)
  (a12:Ql K Qa "web_rows"=some (some (.ref f12))) (l12:K.lookup f12=some ⟨oc12,od12,.func (QJ "web_rows" "web_rows" (Ye Wv) (Zx Wv) (Zg Wv) .none kV12 dc12 pm12 an12 cd12 ct12),sl12⟩) (c12:QT K cd12 "web_rows"=true) (k12:Qu K (.ref f12)=true)
  (a13:Ql K Qa "web_table"=some (some (.ref f13))) (l13:K.lookup f13=some ⟨oc13,od13,.func (QJ "web_table" "web_table" (Ye Wh) (Zx Wh) (Zg Wh) .none kV13 dc13 pm13 an13 cd13 ct13),sl13⟩) (c13:QT K cd13 "web_table"=true) (k13:Qu K (.ref f13)=true)
  (a14:Ql K Qa "law"=some (some (.ref f14))) (l14:K.lookup f14=some ⟨oc14,od14,.func (QJ "law" "law" (Ye Zcr) (Zx Zcr) (Zg Zcr) .none kV14 dc14 pm14 an14 cd14 ct14),sl14⟩) (c14:QT K cd14 "law"=true) (k14:Qu K (.ref f14)=true)
  (z_abs:Ql K Qa "abs"=some none)
  (z_bool:Ql K Qa "bool"=some none)
  (z_int:Ql K Qa "int"=some none)
  (z_isinstance:Ql K Qa "isinstance"=some none)
  (z_len:Ql K Qa "len"=some none)
  (z_list:Ql K Qa "list"=some none)
  (z_max:Ql K Qa "max"=some none)
  (z_min:Ql K Qa "min"=some none)
  (z_range:Ql K Qa "range"=some none)
  (z_set:Ql K Qa "set"=some none)
  (z_sorted:Ql K Qa "sorted"=some none)
  (z_tuple:Ql K Qa "tuple"=some none)
  (z_zip:Ql K Qa "zip"=some none)
  (gc_MOST_POINTS:Ql K Qa "MOST_POINTS"=some (some (.int 10 t_MOST_POINTS)))
  (cc_NoWeb:Ql K Qa "NoWeb"=some (some (.ref C_NoWeb)))
  (r_NoWeb:Zvv K C_NoWeb)
  (x_NoWeb_ga:JC K (.ref C_NoWeb) "__getattribute__"=some (some (.builtin "BaseException.__getattribute__")))
  (x_NoWeb_gt:JC K (.ref C_NoWeb) "__getattr__"=some none)
  (x_NoWeb_cl:JC K (.ref C_NoWeb) "__class__"=some (some (.builtin "object.__class__")))
  (x_NoWeb_isB:Uk K (.ref C_NoWeb) (.type "BaseException")=some true)
  (x_NoWeb_isO:Uk K (.ref C_NoWeb) (.type "object")=some true)
  (x_NoWeb_isC:PySem.W.isClsIn K C_NoWeb=true)
  (x_NoWeb_k1:QM K (.ref C_NoWeb) (.type "int")=some false)
  (x_NoWeb_k2:QM K (.ref C_NoWeb) (.type "bool")=some false)
  (x_NoWeb_k3:QM K (.ref C_NoWeb) (.type "str")=some false)
  (x_NoWeb_k4:QM K (.ref C_NoWeb) (.type "list")=some false)
  (x_NoWeb_k5:QM K (.ref C_NoWeb) (.type "tuple")=some false)
  :∃fd:QD,(∀(s:Xf) (v:Xc),BindsTo s fd ⟨[v],[]⟩ [("script",v)])∧∀base:Heap,K.In base->base.Ns Qa mg->FnOk l.prog w K mg base CX0 5 fa fd ["script"] (spD K Z3q):=by
 have e:=hfa.symm.trans (Q0 X G a14)
 cases e
 have F1:=Jb (st:=Yz) l1 c1 k1
 have b1:=F1.binds (ps:=["script","k"]) λ_ _ _ _ _ _ us hl=>Zsb (P:=λus=>JD _ { pos:=us }=pure (Vx _ us)) (λ_ _=>rfl) us hl
 have F2:=Jb (st:=Jj) l2 c2 k2
 have b2:=F2.binds (ps:=["roads","far","start"]) λ_ _ _ _ _ _ us hl=>Z9l (P:=λus=>JD _ { pos:=us }=pure (Vx _ us)) (λ_ _ _=>rfl) us hl
 have F3:=Jb (st:=Wi) l3 c3 k3
 have b3:=F3.binds (ps:=["found"]) λ_ _ _ _ _ _ us hl=>Z4k (P:=λus=>JD _ { pos:=us }=pure (Vx _ us)) (λ_=>rfl) us hl
 have F4:=Jb (st:=Z4) l4 c4 k4
 have b4:=F4.binds (ps:=["found","n"]) λ_ _ _ _ _ _ us hl=>Zsb (P:=λus=>JD _ { pos:=us }=pure (Vx _ us)) (λ_ _=>rfl) us hl
 have F5:=Jb (st:=Yw) l5 c5 k5
 have b5:=F5.binds (ps:=["cell","many","base"]) λ_ _ _ _ _ _ us hl=>Z9l (P:=λus=>JD _ { pos:=us }=pure (Vx _ us)) (λ_ _ _=>rfl) us hl
 have F6:=Jb (st:=Jm) l6 c6 k6
 have b6:=F6.binds (ps:=["cell","most"]) λ_ _ _ _ _ _ us hl=>Zsb (P:=λus=>JD _ { pos:=us }=pure (Vx _ us)) (λ_ _=>rfl) us hl
 have F7:=Jb (st:=Yx) l7 c7 k7
 have b7:=F7.binds (ps:=["n","roads"]) λ_ _ _ _ _ _ us hl=>Zsb (P:=λus=>JD _ { pos:=us }=pure (Vx _ us)) (λ_ _=>rfl) us hl
 have F8:=Jb (st:=Z6) l8 c8 k8
 have b8:=F8.binds (ps:=["n"]) λ_ _ _ _ _ _ us hl=>Z4k (P:=λus=>JD _ { pos:=us }=pure (Vx _ us)) (λ_=>rfl) us hl
 have F9:=Jb (st:=Wj) l9 c9 k9
 have b9:=F9.binds (ps:=["things"]) λ_ _ _ _ _ _ us hl=>Z4k (P:=λus=>JD _ { pos:=us }=pure (Vx _ us)) (λ_=>rfl) us hl
 have F10:=Jb (st:=Yu) l10 c10 k10
 have b10:=F10.binds (ps:=["n","roads"]) λ_ _ _ _ _ _ us hl=>Zsb (P:=λus=>JD _ { pos:=us }=pure (Vx _ us)) (λ_ _=>rfl) us hl
 have F11:=Jb (st:=Y9) l11 c11 k11
 have b11:=F11.binds (ps:=["beside","start"]) λ_ _ _ _ _ _ us hl=>Zsb (P:=λus=>JD _ { pos:=us }=pure (Vx _ us)) (λ_ _=>rfl) us hl
 have F12:=Jb (st:=Wv) l12 c12 k12
 have b12:=F12.binds (ps:=["n","roads"]) λ_ _ _ _ _ _ us hl=>Zsb (P:=λus=>JD _ { pos:=us }=pure (Vx _ us)) (λ_ _=>rfl) us hl
 have F13:=Jb (st:=Wh) l13 c13 k13
 have b13:=F13.binds (ps:=["n","roads"]) λ_ _ _ _ _ _ us hl=>Zsb (P:=λus=>JD _ { pos:=us }=pure (Vx _ us)) (λ_ _=>rfl) us hl
 have F14:=Jb (st:=Zcr) l14 c14 k14
 have b14:=F14.binds (ps:=["script"]) λ_ _ _ _ _ _ us hl=>Z4k (P:=λus=>JD _ { pos:=us }=pure (Vx _ us)) (λ_=>rfl) us hl
 have T:Txt K mg (λk=>[_,_,_,_,_,_,_,_,_,_,_,_,_,_].getD k 0) (λk=>[_,_,_,_,_,_,_,_,_,_,_,_,_,_].getD k (QJ "law" "law" (Ye Zcr) (Zx Zcr) (Zg Zcr) .none kV14 dc14 pm14 an14 cd14 ct14)) (λk=>[C_NoWeb].getD k 0):={ F_law_cell_at:=F1,b_law_cell_at:=b1,m_law_cell_at:=Q0 X G a1,F_law_led:=F2,b_law_led:=b2,m_law_led:=Q0 X G a2,F_law_whole:=F3,b_law_whole:=b3,m_law_whole:=Q0 X G a3,F_law_numbers_of:=F4,b_law_numbers_of:=b4,m_law_numbers_of:=Q0 X G a4,F_law_numbers:=F5,b_law_numbers:=b5,m_law_numbers:=Q0 X G a5,F_law_web:=F6,b_law_web:=b6,m_law_web:=Q0 X G a6,F_beside_each:=F7,b_beside_each:=b7,m_beside_each:=Q0 X G a7,F_is_point_count:=F8,b_is_point_count:=b8,m_is_point_count:=Q0 X G a8,F_is_rising:=F9,b_is_rising:=b9,m_is_rising:=Q0 X G a9,F_check_roads:=F10,b_check_roads:=b10,m_check_roads:=Q0 X G a10,F_steps_from:=F11,b_steps_from:=b11,m_steps_from:=Q0 X G a11,F_web_rows:=F12,b_web_rows:=b12,m_web_rows:=Q0 X G a12,F_web_table:=F13,b_web_table:=b13,m_web_table:=Q0 X G a13,F_law:=F14,b_law:=b14,m_law:=Q0 X G a14,g_MOST_POINTS:=⟨t_MOST_POINTS,Q0 X G gc_MOST_POINTS⟩,z_abs:=QS X G z_abs,z_bool:=QS X G z_bool,z_int:=QS X G z_int,z_isinstance:=QS X G z_isinstance,z_len:=QS X G z_len,z_list:=QS X G z_list,z_max:=QS X G z_max,z_min:=QS X G z_min,z_range:=QS X G z_range,z_set:=QS X G z_set,z_sorted:=QS X G z_sorted,z_tuple:=QS X G z_tuple,z_zip:=QS X G z_zip,mC_NoWeb:=Q0 X G cc_NoWeb,ca_NoWeb:=cc_NoWeb,r_NoWeb:=r_NoWeb,x_NoWeb_ga:=x_NoWeb_ga,x_NoWeb_gt:=x_NoWeb_gt,x_NoWeb_cl:=x_NoWeb_cl,x_NoWeb_isB:=x_NoWeb_isB,x_NoWeb_isO:=x_NoWeb_isO,x_NoWeb_isC:=x_NoWeb_isC,x_NoWeb_k1:=x_NoWeb_k1,x_NoWeb_k2:=x_NoWeb_k2,x_NoWeb_k3:=x_NoWeb_k3,x_NoWeb_k4:=x_NoWeb_k4,x_NoWeb_k5:=x_NoWeb_k5 }
 exact⟨QJ "law" "law" (Ye Zcr) (Zx Zcr) (Zg Zcr) .none kV14 dc14 pm14 an14 cd14 ct14,λs v=>.of_eq rfl,λbase _ _=>Zum (P:=l.prog) (w:=w) (base:=base) T⟩
theorem walk{l:PySem.W.OpenLaw}{q:X4}{loose:List Str}{XP:(Str->Option Xc)->Heap->Prop}{YP:Qm->Heap->Prop}{d:DefRec}{K:Params->Xd}(hn:l.most=some 63)(hdf:d.params.defaults=[])
  (hY:∀(w:Qm) (h:Heap),YP w h->(K w.params).In h)
  (F:∀(w:Qm) (mg:Str->Option Xc) (fa:Addr) (h:Heap),(K w.params).In h->h.Ns Qa mg->mg d.name=some (.ref fa) ->
   ∃fd:QD,(∀(s:Xf) (u:Xc),BindsTo s fd ⟨[u],[]⟩ [("script",u)])∧∀base:Heap,(K w.params).In base->base.Ns Qa mg->FnOk l.prog w (K w.params) mg base CX0 5 fa fd ["script"] (spD (K w.params) Z3q)) :
  PySem.W.WalkO q loose XP YP l.row.toRowW d [] (λf vs=>PySem.call f vs) :=
 L2.Zwa (n:=63) (k:=5) (x :="script") (CX:=λ_=>CX0) (sp:=λw=>spD (K w.params) Z3q) hn (by decide) hdf ⟨rfl,by decide,by decide⟩ hY F (λ_ _ a ns hl _ hS=>Zy7 hl hS) λ_ _ _ _ _ z=>z
end My
open PySem PySem.W PyProof.Rows
set_option maxRecDepth 100000 in
set_option maxHeartbeats 0 in
theorem PySem.Challenge.cw_farcuts_k59_steps_of_webs_holds : PySem.Challenge.rw_farcuts_k59_steps_of_webs.Holds := by
 w_on;o_law;k_head;(case hw=>w_witness2)
 k_fill
 refine My.walk (l:=PySem.Challenge.rw_farcuts_k59_steps_of_webs) rfl rfl (λw h Y=>PySem.W.kIn_of Y) ?F
 case F=>
  intro w mg fa h KX G hmg
  refine' My.Z3k KX G hmg ?a1 ?l1 ?c1 ?k1 ?a2 ?l2 ?c2 ?k2 ?a3 ?l3 ?c3 ?k3 ?a4 ?l4 ?c4 ?k4 ?a5 ?l5 ?c5 ?k5 ?a6 ?l6 ?c6 ?k6 ?a7 ?l7 ?c7 ?k7 ?a8 ?l8 ?c8 ?k8 ?a9 ?l9 ?c9 ?k9 ?a10 ?l10 ?c10 ?k10 ?a11 ?l11 ?c11 ?k11 ?a12 ?l12 ?c12 ?k12 ?a13 ?l13 ?c13 ?k13 ?a14 ?l14 ?c14 ?k14 ?z_abs ?z_bool ?z_int ?z_isinstance ?z_len ?z_list ?z_max ?z_min ?z_range ?z_set ?z_sorted ?z_tuple ?z_zip ?gc_MOST_POINTS ?cc_NoWeb ?r_NoWeb ?x_NoWeb_ga ?x_NoWeb_gt ?x_NoWeb_cl ?x_NoWeb_isB ?x_NoWeb_isO ?x_NoWeb_isC ?x_NoWeb_k1 ?x_NoWeb_k2 ?x_NoWeb_k3 ?x_NoWeb_k4 ?x_NoWeb_k5
  (case a1=>k_is)
  (case l1=>k_is)
  (case c1=>k_is)
  (case k1=>k_is)
  (case a2=>k_is)
  (case l2=>k_is)
  (case c2=>k_is)
  (case k2=>k_is)
  (case a3=>k_is)
  (case l3=>k_is)
  (case c3=>k_is)
  (case k3=>k_is)
  (case a4=>k_is)
  (case l4=>k_is)
  (case c4=>k_is)
  (case k4=>k_is)
  (case a5=>k_is)
  (case l5=>k_is)
  (case c5=>k_is)
  (case k5=>k_is)
  (case a6=>k_is)
  (case l6=>k_is)
  (case c6=>k_is)
  (case k6=>k_is)
  (case a7=>k_is)
  (case l7=>k_is)
  (case c7=>k_is)
  (case k7=>k_is)
  (case a8=>k_is)
  (case l8=>k_is)
  (case c8=>k_is)
  (case k8=>k_is)
  (case a9=>k_is)
  (case l9=>k_is)
  (case c9=>k_is)
  (case k9=>k_is)
  (case a10=>k_is)
  (case l10=>k_is)
  (case c10=>k_is)
  (case k10=>k_is)
  (case a11=>k_is)
  (case l11=>k_is)
  (case c11=>k_is)
  (case k11=>k_is)
  (case a12=>k_is)
  (case l12=>k_is)
  (case c12=>k_is)
  (case k12=>k_is)
  (case a13=>k_is)
  (case l13=>k_is)
  (case c13=>k_is)
  (case k13=>k_is)
  (case a14=>k_is)
  (case l14=>k_is)
  (case c14=>k_is)
  (case k14=>k_is)
  (case z_abs=>k_is)
  (case z_bool=>k_is)
  (case z_int=>k_is)
  (case z_isinstance=>k_is)
  (case z_len=>k_is)
  (case z_list=>k_is)
  (case z_max=>k_is)
  (case z_min=>k_is)
  (case z_range=>k_is)
  (case z_set=>k_is)
  (case z_sorted=>k_is)
  (case z_tuple=>k_is)
  (case z_zip=>k_is)
  (case gc_MOST_POINTS=>k_is)
  (case cc_NoWeb=>k_is)
  (case r_NoWeb=>show PySem.W.excIn _ _ _ _=true;k_exc)
  (case x_NoWeb_ga=>k_is)
  (case x_NoWeb_gt=>k_is)
  (case x_NoWeb_cl=>k_is)
  (case x_NoWeb_isB=>k_is)
  (case x_NoWeb_isO=>k_is)
  (case x_NoWeb_isC=>k_is)
  (case x_NoWeb_k1=>kit_is)
  (case x_NoWeb_k2=>kit_is)
  (case x_NoWeb_k3=>kit_is)
  (case x_NoWeb_k4=>kit_is)
  (case x_NoWeb_k5=>kit_is)
#print axioms PySem.Challenge.cw_farcuts_k59_steps_of_webs_holds
