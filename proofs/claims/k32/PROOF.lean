import PyProof.Rows.All
import Wide.All
import OpenK.AllK
import Wide.FinOn
import PyProof.EqAt
import PyProof.EqKinds
import PyProof.TupleCall
import PyProof.P3In
import PyProof.ZipIter
import PyProof.ListRange
import PyProof.SetRoads
import PyProof.Rows.SetFrom
import PyProof.Rows.SeqMore2
import KE.RegKIsAll
import PyProof.StrWalks
import PyProof.EnumMake
import PyProof.Conv_int
import PyProof.Conv_int_bool
import PyProof.StrBlockI
import PyProof.Draws
import PySem.Challenge.RW_farcuts_k32_whole_rings
set_option Elab.async false
set_option linter.all false
set_option maxRecDepth 100000
set_option genSizeOfSpec false
set_option genInjectivity false
/-! THE HAND LAYER, for ints, bools, texts, own classes, LISTS and tuples (index, slices, in, append, pop ..), calls, loops. Paste it whole ahead of your own text; what your proof does not reach may be deleted. -/
open Array renaming length_toList->XR,getElem?_toList->Qk,getElem?_eq_getElem->Vb
open Bool renaming false_ne_true->Xp,and_eq_true->XD,false_eq_true->Qi,eq_false_iff->Bu,not_true->V7
open False renaming elim->VJ
open ForInStep renaming yield->JW
open Int renaming toNat_natCast->Qp,zero_add->JL,gcd->Be,gcd_eq_natAbs_gcd_natAbs->Vv,not_lt->Ug,mul_le_mul_of_nonneg_right->Uz,le_trans->U9
open List renaming getD_eq_getElem?_getD->Xe,getElem?_eq_getElem->Xi,length_map->Xj,getElem?_eq_some_iff->Xm,getElem?_map->Xq,mem_cons->Xr,mem_singleton->Xu,range->Xv,length_append->Xw,size_toArray->Xz,replicate->XF,map_cons->X3,map_map->X5,length_range->X8,mem_append_right->Qc,mem_map->Qe,map_congr_left->Qg,mem_range->Ql,nodup_cons->Qm,map_append->Qu,getElem?_eq_none_iff->Qz,getElem?_set_ne->QF,filterMap_cons->QH,mem_append->QJ,length_drop->QK,mem_of_getElem?->QL,lookup_cons->QW,getElem?_set_self->Q0,append_nil->Q4,getElem?_eq_none->Q6,append_assoc->Q7,Nodup->JC,getElem_mem->JH,length_singleton->JP,pairwise_iff_getElem->Bg,getElem?_of_mem->Bq,eq_nil_of_length_eq_zero->Br,drop_eq_nil_of_le->By,sum_cons->BK,length_take->BP,length_cons->BR,getElem?_append_right->BV,length_replicate->BW,getElem?_append_left->Vc,length_set->Ve,length_nil->Vf,nodup_append->Vh,mem_append_left->Vi,replicate_succ->Vm,getElem?_range->Vn,getElem?_replicate->Vo,length_zip->Vu,perm_ext_iff_of_nodup->VP,length_eraseIdx_of_lt->VR,toArray->V0,getElem?_zip_eq_some->V3,drop_eq_getElem_cons->V4,of_mem_zip->V8,getElem?_drop->V9,getElem?_cons_succ->Uc,filter_cons_of_pos->Ud,filter_cons_of_neg->Ue,flatten_cons->Uj,getElem?_toArray->Ur,not_mem_nil->Ut,isEmpty_nil->Uu,all_eq_true->Uv,mem_cons_of_mem->UJ,range_succ->UT,nil_append->UV,mem_filter->UW,filter_eq_self->U4
open Nat renaming ne_of_lt->Xn,ne_of_gt->XJ,le_refl->XN,lt_of_lt_of_le->X4,zero_le->Qt,le_trans->Qv,lt_succ_self->Qx,le_add_right->Q5,lt_succ_of_lt->Bc,lt_irrefl->BL,not_lt_zero->Vg,lt_trans->Vr,lt_trichotomy->VD,lt_or_ge->V2,le_of_lt->Ul
open Ne renaming symm->Vt
open Option renaming bind_some->Xd,some->Bm,getD_some->Uq
open Option.some renaming inj->QD
open Or renaming inr->Qw,inl->QB
open PyProof.Rows renaming IntsAre->JN,callWith_type1->Bp,seqObj->BJ
open PySem renaming PyData->Xa,wpAny_bind->Xb,Value->Xf,Shared->Xh,wpAny_pure->Xl,starEach->Xo,sizeLine->Xy,wpAny->XC,FuncData->XQ,model->XX,Program->X6,sizeLine_eq->Qa,wpAny_loadPart'->Qd,bootBuiltins->Qh,mainGlobals->Qj,Around->Qo,World->Qq,wpAny_setField_rec->QS,compareOp->QX,SetTable->QZ,wpAny_call_entry->Q8,wpAny_newObj_type->JB,backTo->JF,wpAny_callSpecial?_slot->JG,assignEach->JQ,rawInt->JR,codeAny_builtin->JT,sliceBounds->JX,mem_of_lookup->Ba,foldedSetIterable->Bf,cellsFrom->Bh,Builtin->Bo,wpAny_holding->Bs,wpAny_seqItems->Bv,NameKind->Bw,wpAny_truthy_bool->Bx,IsPair->BX,wpAny_field->BZ,pushCells->Va,wpAny_mono->Vd,plainId_quiet->Vp,wpAny_Call_Name_kw->Vx,intKind->Vy,Keyword->VB,wpAny_passesOwn->VG,swapsWith->VL,attributeBase->VN,wpAny_setEntries_of->Ua,pyNext->Ub,binaryOp->Uh,wpAny_rule->Uk,keywordEach->Um,Scope->Uo,wpAny_setState_of->Uw,wpAny_loadPart_at->Ux,firstArgMember->Uy,call_meets->U0,assign->U3,wpAny_attempt->U5,codeAny->U6,behindInMarks->U7
open PySem.Around renaming under_plainId->Q9
open PySem.Builtin.Int renaming intBits->JS
open PySem.Builtin.List renaming listTooLong->VF
open PySem.Builtin.SmallTypes renaming nextOf->QM,ownedTupleIsFree->Bk
open PySem.F renaming plainAttrs_list->Vl,called_set->V5,slot_list_index->V6
open PySem.Heap renaming get?_push_of_some->Xg,get?_push_size->Xx,lt_size->XH,size_push->QC,SameBut->JK
open PySem.Heap.SameBut renaming update->JD
open PySem.MeetsSeq3 renaming plain_eq_loop->VM
open PySem.NameKind renaming free->QV,cell->Bj
open PySem.Obj renaming mapSeq->Bb
open PySem.PassesOwn renaming never->X7
open PySem.PyData renaming int->Xk,eqv->Qs,list->Qy,canLayAll0->JV,canLay0->Bl,bool->Us,depthAll->UG,strOk->UL
open PySem.SeqAt renaming EqAt->JZ,shaped->Vq,canLay_of_shaped->Ui
open PySem.SetTable renaming below->QR,grown->Vw
open PySem.Str renaming ofString->V1
open PySem.Value renaming ref->Qn,none->QT,int->Vs,bool->U8
open PySem.W renaming Frag->Xc,mg_none_of->QG,nsIn->QQ,kia_one->Q3,Looks->JM,kitOne->Vj,findIn->Vk,keepIn->Vz,fnOf->VH
open Rat renaming divInt->XM
namespace L2
open PySem PySem.Spec PyProof.Rows
noncomputable abbrev Key:=Sum Int Str
noncomputable def Z5a:Key->Xf->Bool
 | .inl k,v=>Xf.isInt k v
 | .inr x,v=>Xf.isStrOf x v
noncomputable def Yf3(w:Qq):Key->Int
 | .inl k=>hashInt k
 | .inr x=>hashStr w x
theorem Wr:∀{k:Key} {v:Xf},Z5a k v=true->(∃i t,k=Sum.inl i∧v=Vs i t)∨(∃x t,k=Sum.inr x∧v=Value.str x t)
 | .inl i,v,h=>by
  obtain⟨t,e⟩:=Value.isInt_shape (k:=i) (v:=v) h
  exact .inl ⟨i,t,rfl,e⟩
 | .inr x,v,h=>by
  obtain⟨t,e⟩:=Xf.isStrOf_shape (x:=x) (v:=v) h
  exact .inr ⟨x,t,rfl,e⟩
theorem Z6q(a b:Int):decide ((Sum.inl a:Key)=Sum.inl b)=(a==b):=by
 by_cases e:a=b
 ·subst e;simp
 ·have h:¬(Sum.inl a:Key)=Sum.inl b:=λq=>e (Sum.inl.inj q)
  rw[decide_eq_false h]
  exact(beq_eq_false_iff_ne.mpr e).symm
theorem Z43(a b:Str):decide ((Sum.inr a:Key)=Sum.inr b)=decide (a=b):=by
 by_cases e:a=b
 ·subst e;simp
 ·have h:¬(Sum.inr a:Key)=Sum.inr b:=λq=>e (Sum.inr.inj q)
  rw[decide_eq_false h,decide_eq_false e]
theorem Z8b(a:Int)(b:Str):decide ((Sum.inl a:Key)=Sum.inr b)=false:=decide_eq_false (λq=>nomatch q)
theorem Z47(a:Str)(b:Int):decide ((Sum.inr a:Key)=Sum.inl b)=false:=decide_eq_false (λq=>nomatch q)
noncomputable def Zn9(prog:X6)(w:Qq):PySem.KeyKind prog w Key where
 is:=Z5a
 hash:=Yf3 w
 inj:=λv a b ha hb=>by
  rcases Wr ha with⟨i,t,rfl,rfl⟩|⟨x,t,rfl,rfl⟩
  ·rcases Wr hb with⟨j,u,rfl,e⟩|⟨y,u,rfl,e⟩
   ·injection e with e1 _;rw[e1]
   ·exact nomatch e
  ·rcases Wr hb with⟨j,u,rfl,e⟩|⟨y,u,rfl,e⟩
   ·exact nomatch e
   ·injection e with e1 _;rw[e1]
 byValue:=λk v h=>by
  rcases Wr h with⟨i,t,rfl,rfl⟩|⟨x,t,rfl,rfl⟩<;>rfl
 pyHash:=λhv h=>by
  rcases Wr hv with⟨i,t,rfl,rfl⟩|⟨x,t,rfl,rfl⟩
  ·exact wpAny_pyHash_int h
  ·exact wpAny_pyHash_str h
 eqBool:=λhu hv h=>by
  rcases Wr hu with⟨i,t,rfl,rfl⟩|⟨x,t,rfl,rfl⟩
  ·rcases Wr hv with⟨j,u,rfl,rfl⟩|⟨y,u,rfl,rfl⟩
   ·rw[Z6q]at h;exact wpAny_eqBool_int h
   ·rw[Z8b]at h;exact SeqAt.EqAt.int_str i t y u _ _ _ _ h
  ·rcases Wr hv with⟨j,u,rfl,rfl⟩|⟨y,u,rfl,rfl⟩
   ·rw[Z47]at h;exact SeqAt.EqAt.str_int x t j u _ _ _ _ h
   ·rw[Z43]at h;exact wpAny_eqBool_str h
 «strs»:=λk x t v h=>by
  rcases Wr h with⟨i,u,rfl,e⟩|⟨y,u,rfl,e⟩
  ·exact nomatch e
  ·injection e with e1 _
   subst e1
   cases v<;>rfl
inductive V where
 | non|bl (b:Bool)|int (i:Int)|str (x:Str)|byt (b:Array UInt8)|flt (b:UInt64)|ref (a:Addr)|ty (n:String)
 deriving DecidableEq
noncomputable def RelV:V->Xf->Prop
 | .non,u=>u=QT
 | .bl b,u=>u=U8 b
 | .int i,u=>∃t,u=Vs i t
 | .str x,u=>∃t,u=Value.str x t
 | .byt b,u=>∃t,u=Xf.bytes b t
 | .flt b,u=>∃t,u=Xf.float b t
 | .ref a,u=>u=Qn a
 | .ty n,u=>u=Value.type n
noncomputable abbrev Vals:List V->List Xf->Prop:=Paired RelV
theorem Vals.length{xs:List V}{us:List Xf}(r:Vals xs us):xs.length=us.length:=Paired.length r
theorem Vals.get{xs:List V}{us:List Xf}{i:Nat}{x:V}(h:Vals xs us)(e:xs[i]? =some x):∃u,us[i]? =some u∧RelV x u:=by
 induction h generalizing i with
 | nil=>exact(Option.some_ne_none _ (e.symm.trans List.getElem?_nil)).elim
 | cons r t ih=>
  cases i with
  | zero=>exact⟨_,rfl,QD e▸r⟩
  | succ i=>exact ih e
theorem Vals.set{x:V}{u:Xf}(r:RelV x u){xs:List V}{us:List Xf}(i:Nat)(h:Vals xs us):Vals (xs.set i x) (us.set i u):=by
 induction h generalizing i with
 | nil=>exact .nil
 | cons q t ih=>
  cases i with
  | zero=>exact .cons r t
  | succ i=>exact .cons q (ih i)
theorem Vals.append{xs ys:List V}{us ws:List Xf}(h:Vals xs us)(s:Vals ys ws):Vals (xs ++ ys) (us ++ ws):=by
 induction h with
 | nil=>exact s
 | cons r t ih=>exact .cons r ih
theorem Vals.take{xs:List V}{us:List Xf}(n:Nat)(h:Vals xs us):Vals (xs.take n) (us.take n):=by
 induction h generalizing n with
 | nil=>rw[List.take_nil,List.take_nil];exact .nil
 | cons r t ih=>
  cases n with
  | zero=>exact .nil
  | succ n=>exact .cons r (ih n)
theorem Vals.drop{xs:List V}{us:List Xf}(n:Nat)(h:Vals xs us):Vals (xs.drop n) (us.drop n):=by
 induction h generalizing n with
 | nil=>rw[List.drop_nil,List.drop_nil];exact .nil
 | cons r t ih=>
  cases n with
  | zero=>exact .cons r t
  | succ n=>exact ih n
noncomputable def Ycc:Option V->Option Xf->Prop
 | some v,some u=>RelV v u
 | none,none=>True
 | _,_=>False
noncomputable def KV{κ:Type}:List (κ×V)->List (κ×Xf)->Prop:=Paired λ(p:κ×V) (q:κ×Xf)=>p.1=q.1∧RelV p.2 q.2
noncomputable def kV:Key->V
 | .inl i=>.int i
 | .inr x=>.str x
inductive HO where
  | lst (xs:List V)
  | tup (xs:List V)
  | dK (kvs:List (Key×V))|dT (kvs:List (List Key×V))
  | set (S:Int->Bool) (n:Nat)
  | ins (C dx:Addr) (fs:List (Str×V))
  | own (x:Addr)
  | xd (fs:List (Str×V))
  | met (f x:Addr)
  | rng (lo hi:Int)
  | frz (o:Obj) (u:HO)
  | tbl (ps:Array Xf)
  | ext (φ:Heap->Prop)
noncomputable abbrev Hp:=Addr->Option HO
noncomputable def upd(H:Hp)(a:Addr)(o:HO):Hp:=λb=>if b=a then some o else H b
theorem Yh{H:Hp}{a:Addr}{o:HO}:upd H a o a=some o:=by unfold upd;rw[if_pos rfl]
theorem Z4{H:Hp}{a b:Addr}{o:HO}(h:b≠a):upd H a o b=H b:=by unfold upd;rw[if_neg h]
theorem Wk{H:Hp}{a b:Addr}{o:HO}(h:H a=some o)(h':H b=none):a≠b:=by
 intro e;subst e;rw[h]at h';cases h'
section
variable (P:X6)(w:Qq)
noncomputable def ObjOk(H:Hp)(h:Heap)(a:Addr):HO->Prop
 | .lst xs=>xs.length≤Xy∧∃(its:List Xf) (n:Nat),Vals xs its∧h.get? a=some { cls:=.type "list",data:=.seq its.toArray n }
 | .tup xs=>xs.length≤Xy∧∃its:List Xf,Vals xs its∧IsTup h a its.toArray
 | .dK kvs=>kvs.length≤Xy∧(a==sysModules)=false∧∃vs,KV kvs vs∧h.DictOf (Zn9 P w) a vs
 | .dT kvs=>kvs.length≤Xy∧(a==sysModules)=false∧∃xs:List (List Key×Addr×Xf),
   Paired (λ(p:List Key×V) (q:List Key×Addr×Xf)=>p.1=q.1∧H q.2.1=some (.tup (p.1.map kV))∧RelV p.2 q.2.2) kvs xs∧
   ∃o es ep,h.get? a=some o∧o.ExactDict∧o.data= .dict es ep∧es.toList=xs.map (entryOfKey (tupleKind (Zn9 P w)))∧(xs.map (·.1)).Nodup
 | .set S n=>h.SetOf (Vy P w) a S n
 | .ins C dx fs=>H dx=some (.own a)∧fs.length≤1000∧dx≠a∧h.get? a=some (PySem.W.instObj C dx)∧
   ∃mA,h.Ns1 dx mA∧(∀f,Ycc (fs.lookup f) (mA f))∧PySem.Within mA (fs.map (·.1))
 | .own _=>∃o,h.get? a=some o
 | .xd fs=>∃mA,h.Ns1 a mA∧∀f,Ycc (fs.lookup f) (mA f)
 | .rng lo hi=>∃t u v,h.get? a=some { cls:=.type "range",data:=.fields #[.int lo t,.int hi u,.int 1 v] }
 | .frz o u=>h.get? a=some o∧ObjOk H h a u
 | .tbl ps=>h.get? a=some { cls:=.none,data:=.fields ps }
 | .met f x=>h.get? a=some (PySem.W.methodObj (.ref f) (.ref x))
 | .ext φ=>φ h∧(∃o,h.get? a=some o)∧∀h1 h2:Heap,φ h1->(∀o,h1.get? a=some o->h2.get? a=some o)->φ h2
noncomputable def HOk(H:Hp)(h:Heap):Prop:=∀a o,H a=some o->ObjOk P w H h a o
end
section
variable {P:X6}{w:Qq}{H H':Hp}{h h':Heap}{a:Addr}{o:HO}
theorem ObjOk.lt(x:ObjOk P w H h a o):a<h.objs.size:=by
 cases o with
 | lst xs=>obtain⟨_,_,_,_,e⟩:=x;exact XH e
 | tup xs=>obtain⟨_,_,_,p⟩:=x;exact p.lt
 | dK kvs=>obtain⟨_,_,_,_,o,_,_,e,_⟩:=x;exact XH e
 | dT kvs=>obtain⟨_,_,_,_,o,_,_,e,_⟩:=x;exact XH e
 | set S n=>obtain⟨o,_,_,_,e,_⟩:=x;exact XH e
 | ins C dx fs=>obtain⟨_,_,_,e,_⟩:=x;exact XH e
 | own y=>obtain⟨_,e⟩:=x;exact XH e
 | xd fs=>obtain⟨_,⟨_,_,_,e,_⟩,_⟩:=x;exact XH e
 | rng lo hi=>obtain⟨_,_,_,e⟩:=x;exact XH e
 | frz ob u=>obtain⟨e,_⟩:=x;exact XH e
 | tbl ps=>exact XH (show h.get? a=some _ from x)
 | met f y=>exact XH (show h.get? a=some _ from x)
 | ext φ=>obtain⟨_,⟨_,e⟩,_⟩:=x;exact XH e
theorem Paired.mapP{α β:Type}{F G:α->β->Prop}{l₁:List α}{l₂:List β}(h:Paired F l₁ l₂)(f:∀a b,F a b->G a b):Paired G l₁ l₂:=by
 induction h with
 | nil=>exact .nil
 | cons r t ih=>exact .cons (f _ _ r) ih
theorem ObjOk.stay(x:ObjOk P w H h a o)(k:∀b u,(b=a∨H b=some (.own a))->h.get? b=some u->h'.get? b=some u)
  (ho:∀b,H b=some (.own a)->H' b=some (.own a)) (ht:∀b xs,H b=some (.tup xs)->H' b=some (.tup xs)):ObjOk P w H' h' a o:=by
 induction o with
 | lst xs=>obtain⟨z,its,n,r,e⟩:=x;exact⟨z,its,n,r,k _ _ (.inl rfl) e⟩
 | tup xs=>obtain⟨z,its,r,ob,e,c⟩:=x;exact⟨z,its,r,ob,k _ _ (.inl rfl) e,c⟩
 | dK kvs=>obtain⟨z,y,vs,r,ob,es,ep,e,c⟩:=x;exact⟨z,y,vs,r,ob,es,ep,k _ _ (.inl rfl) e,c⟩
 | dT kvs=>
  obtain⟨z,y,xs,r,ob,es,ep,e,c⟩:=x
  exact⟨z,y,xs,Paired.mapP r λp q z=>⟨z.1,ht _ _ z.2.1,z.2.2⟩,ob,es,ep,k _ _ (.inl rfl) e,c⟩
 | set S n=>obtain⟨ob,es,ep,t,e,c⟩:=x;exact⟨ob,es,ep,t,k _ _ (.inl rfl) e,c⟩
 | ins C dx fs=>
  obtain⟨d,z,ne,e,mA,⟨od,es,ep,e2,c⟩,r⟩:=x
  exact⟨ho _ d,z,ne,k _ _ (.inl rfl) e,mA,⟨od,es,ep,k _ _ (.inr d) e2,c⟩,r⟩
 | own y=>obtain⟨ob,e⟩:=x;exact⟨ob,k _ _ (.inl rfl) e⟩
 | xd fs=>obtain⟨mA,⟨od,es,ep,e,c⟩,r⟩:=x;exact⟨mA,⟨od,es,ep,k _ _ (.inl rfl) e,c⟩,r⟩
 | rng lo hi=>obtain⟨t,u,v,e⟩:=x;exact⟨t,u,v,k _ _ (.inl rfl) e⟩
 | frz ob u ih=>obtain⟨e,q⟩:=x;exact⟨k _ _ (.inl rfl) e,ih q⟩
 | tbl ps=>
  have e:h.get? a=some { cls:=.none,data:=.fields ps }:=x
  show h'.get? a=some { cls:=.none,data:=.fields ps }
  exact k a _ (.inl rfl) e
 | met f y=>
  have e:h.get? a=some (PySem.W.methodObj (.ref f) (.ref y)):=x
  show h'.get? a=some (PySem.W.methodObj (.ref f) (.ref y))
  exact k a _ (.inl rfl) e
 | ext φ=>obtain⟨p,⟨o,e⟩,st⟩:=x;exact⟨st _ _ p λo q=>k _ _ (.inl rfl) q,⟨o,k _ _ (.inl rfl) e⟩,st⟩
theorem HOk.lt(x:HOk P w H h)(e:H a=some o):a<h.objs.size:=(x a o e).lt
theorem HOk.fresh(x:HOk P w H h)(e:h.objs.size≤a):H a=none:=by
 cases q:H a with
 | none=>rfl
 | some u=>exact absurd (X4 (x.lt q) e) (BL _)
theorem HOk.kept(x:HOk P w H h)(k:∀b u,h.get? b=some u->h'.get? b=some u):HOk P w H h':=λa o e=>
 (x a o e).stay (λb u _ q=>k b u q) (λ_ q=>q) λ_ _ q=>q
theorem HOk.laid(x:HOk P w H h)(k:∀b u,h.get? b=some u->h'.get? b=some u)(hp:h.objs.size≤a)(new:ObjOk P w (upd H a o) h' a o):HOk P w (upd H a o) h':=λb u e=>by
 have hn:=x.fresh hp
 by_cases hb:b=a
 ·subst hb;rw[Yh]at e;cases e;exact new
 ·rw[Z4 hb]at e
  exact(x b u e).stay (λc v _ q=>k c v q) (λc q=>by rw[Z4 (Wk q hn)];exact q) λc xs q=>by rw[Z4 (Wk q hn)];exact q
end
noncomputable def Rd(H:Hp)(a:Addr)(u:HO):Prop:=H a=some u∨∃o,H a=some (.frz o u)
theorem Rd.ok{P:X6}{w:Qq}{H:Hp}{h:Heap}{a:Addr}{u:HO}(r:Rd H a u)(x:HOk P w H h):ObjOk P w H h a u:=by
 rcases r with r|⟨o,r⟩
 ·exact x a u r
 ·obtain⟨_,q⟩:=x a _ r
  exact q
noncomputable def Mut:Option HO->Prop
 | some (.lst _)=>True
 | some (.dK _)=>True
 | some (.dT _)=>True
 | some (.set _ _)=>True
 | some (.ins _ _ _)=>True
 | some (.ext _)=>True
 | _=>False
section
variable {P:X6}{w:Qq}{H:Hp}{h h':Heap}{x e:Addr}{o':HO}
theorem HOk.write(ok:HOk P w H h)(mu:Mut (H x))(he:e=x∨H e=some (.own x))(k:∀b u,b≠e->h.get? b=some u->h'.get? b=some u)(heo:∃u,h'.get? e=some u)
  (new:ObjOk P w (upd H x o') h' x o'):HOk P w (upd H x o') h':=λb u q=>by
 have nown:∀c y,H c=some (.own y)->c≠x:=λc y r z=>by subst z;rw[r]at mu;exact mu
 have ntup:∀c xs,H c=some (.tup xs)->c≠x:=λc xs r z=>by subst z;rw[r]at mu;exact mu
 by_cases hb:b=x
 ·subst hb;rw[Yh]at q;cases q;exact new
 ·rw[Z4 hb]at q
  by_cases hbe:b=e
  ·have q':H b=some (.own x):=by
    rcases he with z|z
    ·exact absurd (hbe.trans z) hb
    ·rw[hbe];exact z
   rw[q]at q';cases q'
   obtain⟨v,hv⟩:=heo
   exact⟨v,by rw[hbe];exact hv⟩
  ·refine(ok b u q).stay (λc v hc r=>k c v ?_ r) (λc r=>by rw[Z4 (nown c b r)];exact r) λc xs r=>by rw[Z4 (ntup c xs r)];exact r
   rcases hc with rfl|hc
   ·exact hbe
   ·rintro rfl
    rcases he with z|z
    ·exact nown c b hc z
    ·rw[hc]at z;cases z;exact hb rfl
end
structure Un(fs ex:List Addr)(H H':Hp)(h h':Heap):Prop where
 keep:∀b o,h.get? b=some o->H b=none->b∉fs->b∉ex->h'.get? b=some o
 slot:∀b o,h.get? b=some o->H b=none->b∈fs->b∉ex->∃sl,h'.get? b=some { o with slots:=sl }
 free:∀b o,h.get? b=some o->H b=none->b∉ex->H' b=none
 there:∀b o,h.get? b=some o->b∉ex->∃o',h'.get? b=some o'
 tups:∀b xs,H b=some (.tup xs)->H' b=some (.tup xs)
 frzs:∀b o u,H b=some (.frz o u)->H' b=some (.frz o u)
 tbls:∀b ps,H b=some (.tbl ps)->∃more,H' b=some (.tbl (ps ++ more))
section
variable {fs fs' ex ex':List Addr}{H H1 H2:Hp}{h h1 h2 h':Heap}{a x e:Addr}{o:HO}
theorem Un.any(u:Un fs ex H H1 h h1){b:Addr}{ob:Obj}(q:h.get? b=some ob)(n:H b=none)(hx:b∉ex):∃sl,h1.get? b=some { ob with slots:=sl }:=by
 by_cases hb:b∈fs
 ·exact u.slot b ob q n hb hx
 ·exact⟨ob.slots,u.keep b ob q n hb hx⟩
theorem Un.kept(k:∀b u,h.get? b=some u->h'.get? b=some u):Un fs ex H H h h' :=
 ⟨λb ob q _ _ _=>k b ob q,λb ob q _ _ _=>⟨ob.slots,k b ob q⟩,λ_ _ _ n _=>n,λb ob q _=>⟨ob,k b ob q⟩,λ_ _ q=>q,λ_ _ _ q=>q,λ_ ps q=>⟨#[],by rw[q];simp⟩⟩
theorem Un.refl:Un fs ex H H h h:=Un.kept λ_ _ q=>q
theorem Un.laid(k:∀b u,h.get? b=some u->h'.get? b=some u)(hp:h.objs.size≤a)(hn:H a=none):Un fs ex H (upd H a o) h h' where
 keep:=λb u q _ _ _=>k b u q
 slot:=λb u q _ _ _=>⟨u.slots,k b u q⟩
 free:=λb u q n _=>by rw[Z4 (Xn (X4 (XH q) hp))];exact n
 there:=λb u q _=>⟨u,k b u q⟩
 tups:=λb xs q=>by rw[Z4 (Wk q hn)];exact q
 frzs:=λb u xs q=>by rw[Z4 (Wk q hn)];exact q
 tbls:=λb ps q=>⟨#[],by rw[Z4 (Wk q hn),q];simp⟩
theorem Un.write(mu:Mut (H x))(he:e=x∨H e=some (.own x))(k:∀b u,b≠e->h.get? b=some u->h'.get? b=some u)(heo:∃u,h'.get? e=some u):Un fs ex H (upd H x o) h h':=by
 have hx:∀b,H b=none->b≠x:=λb n z=>by subst z;rw[n]at mu;exact mu
 have hb:∀b,H b=none->b≠e:=λb n z=>by
  subst z
  rcases he with r|r
  ·exact hx b n r
  ·rw[n]at r;cases r
 have hm:∀b u,H b=some u->¬Mut (some u)->b≠x:=λb u q nm z=>by subst z;rw[q]at mu;exact nm mu
 refine⟨λb u q n _ _=>k b u (hb b n) q,λb u q n _ _=>⟨u.slots,k b u (hb b n) q⟩,λb u q n _=>by rw[Z4 (hx b n)];exact n,λb u q _=>?_,
  λb xs q=>by rw[Z4 (hm b _ q λz=>z)];exact q,λb u xs q=>by rw[Z4 (hm b _ q λz=>z)];exact q,λb ps q=>⟨#[],by rw[Z4 (hm b _ q λz=>z),q];simp⟩⟩
 by_cases hbe:b=e
 ·subst hbe;exact heo
 ·exact⟨u,k b u hbe q⟩
end
noncomputable def trk(h:Heap)(H:Hp):List Addr:=(Xv h.objs.size).filter λa=>(H a).isSome
noncomputable def Zyg(h:Heap)(H:Hp):Heap:=PySem.W.hideAll h (trk h H)
theorem Zuq(h:Heap)(H:Hp):(Zyg h H).objs.size=h.objs.size:=PySem.W.hideAll_size _ _
theorem Zx4{h:Heap}{H:Hp}{b:Addr}{o:Obj}(e:h.get? b=some o)(n:H b=none):(Zyg h H).get? b=some o :=
 PySem.W.hideAll_get _ e λhm=>by
  have q:(H b).isSome=true:=(UW.mp hm).2
  rw[n]at q;simp at q
theorem Z10{h:Heap}{H:Hp}{b:Addr}{o:Obj}(e:(Zyg h H).get? b=some o):h.get? b=some o∧H b=none:=by
 have e':h.get? b=some o:=PySem.W.of_hideAll (trk h H) e
 refine⟨e',?_⟩
 cases q:H b with
 | none=>rfl
 | some x=>
  have hm:b∈trk h H:=UW.mpr ⟨Ql.mpr (XH e'),by simp[q]⟩
  have z:(Zyg h H).get? b=none:=PySem.W.hideAll_none (trk h H) hm
  rw[z]at e;cases e
noncomputable def Z3k(g h:Heap)(L:Addr):List (Addr×Obj):=(Xv h.objs.size).filterMap λa=>if a=L∨(g.get? a).isSome=true then none else(h.get? a).map λo=>(a,o)
noncomputable def rest(g h:Heap)(L d:Addr):List (Addr×Obj):=(Z3k g h L).filter λp=>decide (p.1≠d)
structure Mod(K:Xc)(mg:Str->Option Xf)(base:Heap):Prop where
 kin:K.In base
 glob:base.Ns Qj mg
 blt:∃mb,base.Ns builtinsNs mb∧∀x:Str,x≠"__name__" ->mb x=Qh x
 nolimit:base.NoLimit
set_option genInjectivity false in
structure Cx where
 prog:X6
 w:Qq
 K:Xc
 mg:Str->Option Xf
 base:Heap
 A:Qo
 N:List Str
 s₀:Xh
 H₀:Hp
 env:Env
 outer:List Env
 stack:List Env
 ex:List Addr
 fn:Str->Bool
 calm:Bool
 pn:List (Addr×Obj)
 xe:Xf->Xh->Prop
noncomputable def frs(l:List Env):List Addr:=l.filterMap (·.frame)
noncomputable abbrev Cx.fs(X:Cx):List Addr:=frs X.outer
noncomputable def Vis(sc:Uo)(x:Str):Prop:=sc.names.lookup x=some .local∨sc.names.lookup x=some .cell∨sc.names.lookup x=some .free
noncomputable def Loc(sc:Uo)(x:Str):Prop:=sc.names.lookup x=some .local∨sc.names.lookup x=some .cell
noncomputable def Look(env:Env)(h:Heap)(m:Str->Option Xf)(x:Str)(u:Xf):Prop :=
 (env.kindOf x=some .local∧m x=some u)∨((env.kindOf x=some .cell∨env.kindOf x=some .free)∧∃c,env.cells.lookup x=some c∧h.IsCell c (some u))
structure Cx.Ok(X:Cx):Prop where
 mod:Mod X.K X.mg X.base
 kind:X.env.scope.kind= .function
 glob:X.env.globals=Qj
 blt:X.env.builtins=builtinsNs
 above:X.s₀.heap.objs.size≤X.env.locals
 inj:∀x y c,X.env.cells.lookup x=some c->X.env.cells.lookup y=some c->x=y
 has:∀x,(X.env.kindOf x=some .cell∨X.env.kindOf x=some .free)->∃c,X.env.cells.lookup x=some c
 cab:∀x c,X.fn x=true->X.env.cells.lookup x=some c->X.s₀.heap.objs.size≤c
 hd:X.calm=true->X.A.handled=none
 frames:X.A.frames=some X.stack
 stk:X.stack=X.outer∨(X.stack=X.env :: X.outer∧X.env.frame=some X.env.locals)
 exf:∀b∈X.ex,b≠X.env.locals∧∀x c,X.env.cells.lookup x=some c->c≠b
 bs:∀b o,X.base.get? b=some o->X.s₀.heap.get? b=some o∧X.H₀ b=none
 bsz:X.base.objs.size≤X.s₀.heap.objs.size
 noex:∀b o,X.base.get? b=some o->b∉X.ex
 exfs:∀b∈X.ex,b∉X.fs
 funs:X.s₀.heap.FunFrames X.base X.outer
 frf:∀b∈X.fs,X.H₀ b=none
structure Inv(X:Cx)(pins:List (Addr×Obj))(σ:List (Option V))(H:Hp)(s:Xh):Prop where
 ok:X.Ok
 os:s.os=X.s₀.os
 bare:AllBare s.gens
 base:Un X.fs X.ex X.H₀ H X.s₀.heap s.heap
 loc:∃m,s.heap.Ns X.env.locals m∧∀(i:Nat) (x:Str) (v:V),X.N[i]? =some x->σ[i]? =some (some v)->Vis X.env.scope x->∃u,RelV v u∧Look X.env s.heap m x u
 cell:∀x c,X.env.cells.lookup x=some c->∃v,s.heap.IsCell c v
 free:H X.env.locals=none
 freeC:∀x c,X.env.cells.lookup x=some c->H c=none
 pin:∀p∈X.pn ++ pins,s.heap.get? p.1=some p.2∧H p.1=none∧p.1≠X.env.locals∧p.1∉X.fs∧∀v,p.2.data≠ .cell v
 hok:HOk X.prog X.w H s.heap
 len:σ.length=X.N.length
section
variable {X:Cx}{pins:List (Addr×Obj)}{σ:List (Option V)}{H H':Hp}{s:Xh}{h':Heap}
theorem Cx.Ok.nofr(ok:X.Ok){b:Addr}{o:Obj}(e:X.base.get? b=some o):b∉X.fs:=λhb=>by
 have:=(ok.funs.mem hb).1
 rw[e]at this;cases this
theorem Inv.bs(I:Inv X pins σ H s):∀b o,X.base.get? b=some o->s.heap.get? b=some o∧H b=none:=λb o e=>
 ⟨I.base.keep b o (I.ok.bs b o e).1 (I.ok.bs b o e).2 (I.ok.nofr e) (I.ok.noex b o e),I.base.free b o (I.ok.bs b o e).1 (I.ok.bs b o e).2 (I.ok.noex b o e)⟩
theorem Inv.bk(I:Inv X pins σ H s):∀b o,X.base.get? b=some o->s.heap.get? b=some o:=λb o e=>(I.bs b o e).1
theorem Inv.mod(I:Inv X pins σ H s):Mod X.K X.mg X.base:=I.ok.mod
theorem Inv.kIn(I:Inv X pins σ H s):X.K.In s.heap:=I.ok.mod.kin.keeps I.bk
theorem Inv.lt(I:Inv X pins σ H s):X.env.locals<s.heap.objs.size:=let⟨_,hn,_⟩:=I.loc;hn.lt
theorem Inv.sz(I:Inv X pins σ H s):X.s₀.heap.objs.size≤s.heap.objs.size:=Qv I.ok.above (Ul I.lt)
theorem Inv.nofs(I:Inv X pins σ H s){a:Addr}(h:s.heap.objs.size≤a):a∉X.fs:=λhb=>by
 obtain⟨_,o,ho,_⟩:=I.ok.funs.mem hb
 exact absurd (X4 (XH ho) (Qv I.sz h)) (BL _)
theorem Inv.cne(I:Inv X pins σ H s):∀x c,X.env.cells.lookup x=some c->c≠X.env.locals:=λx c e z=>by
 obtain⟨v,o,ho,hd⟩:=I.cell x c e
 obtain⟨m,⟨o',es,ep,ho',hd',_⟩,_⟩:=I.loc
 rw[z,ho']at ho;cases ho;rw[hd']at hd;cases hd
theorem Inv.funs(I:Inv X pins σ H s):s.heap.FunFrames X.base X.outer:=by
 have all:∀(l:List Env),(∀b∈frs l,b∈X.fs)->X.s₀.heap.FunFrames X.base l->s.heap.FunFrames X.base l:=by
  intro l
  induction l with
  | nil=>intro _ _;trivial
  | cons env r ih=>
   intro hs hl
   obtain⟨hk,⟨L,o,hf,hn,ho,hd⟩,hr⟩:=hl
   have hL:L∈X.fs:=hs L (by unfold frs;rw[QH,hf];exact List.mem_cons_self)
   obtain⟨sl,e⟩:=I.base.slot L o ho (I.ok.frf L hL) hL λz=>I.ok.exfs L z hL
   exact⟨hk,⟨L,_,hf,hn,e,hd⟩,ih (λb hb=>hs b (by unfold frs;rw[QH,hf];exact UJ _ hb)) hr⟩
 exact all X.outer (λ_ hb=>hb) I.ok.funs
theorem Inv.stack(I:Inv X pins σ H s):s.heap.FunFrames X.base X.stack:=by
 rcases I.ok.stk with e|⟨e,hf⟩
 ·rw[e];exact I.funs
 ·rw[e]
  obtain⟨m,hn,_⟩:=I.loc
  refine .cons (by rw[I.ok.kind];decide) hf hn ?_ I.funs
  exact Heap.get?_none_of_le (Qv I.ok.bsz I.ok.above)
theorem Inv.stkSub(I:Inv X pins σ H s):∀b∈frs X.stack,b∈X.env.locals :: X.fs:=λb hb=>by
 rcases I.ok.stk with e|⟨e,hf⟩
 ·rw[e]at hb;exact UJ _ hb
 ·rw[e]at hb
  unfold frs at hb
  rw[QH,hf]at hb
  exact hb
theorem Inv.stkFree(I:Inv X pins σ H s):∀b∈frs X.stack,H b=none:=λb hb=>by
 rcases Xr.mp (I.stkSub b hb)with e|hb
 ·rw[e];exact I.free
 ·obtain⟨_,o,ho,_⟩:=I.ok.funs.mem hb
  exact I.base.free b o ho (I.ok.frf b hb) λz=>I.ok.exfs b z hb
theorem Inv.step{g':Array GenState}{t':Nat}{d':Drawn}{ch:List Addr}(I:Inv X pins σ H s)
  (hch:∀b∈ch,(b∈X.ex∨X.s₀.heap.objs.size≤b)∧b≠X.env.locals∧(∀x c,X.env.cells.lookup x=some c->c≠b)∧∀p∈X.pn ++ pins,p.1≠b)
  (keep:∀b o,b≠X.env.locals->b∉X.fs->b∉ch->s.heap.get? b=some o->H b=none->h'.get? b=some o)
  (slot:∀b o,b≠X.env.locals->b∈X.fs->b∉ch->s.heap.get? b=some o->H b=none->∃sl,h'.get? b=some { o with slots:=sl }) (free:∀b o,b∉ch->s.heap.get? b=some o->H b=none->H' b=none)
  (there:∀b o,b∉ch->s.heap.get? b=some o->∃o',h'.get? b=some o')
  (tups:∀b xs,H b=some (.tup xs)->H' b=some (.tup xs)) (frzs:∀b o u,H b=some (.frz o u)->H' b=some (.frz o u)) (tbls:∀b ps,H b=some (.tbl ps)->∃more,H' b=some (.tbl (ps ++ more)))
  (ns:∀m,s.heap.Ns X.env.locals m->h'.Ns X.env.locals m) (hok:HOk X.prog X.w H' h') (hg:AllBare g') :
  Inv X pins σ H' { s with heap:=h',gens:=g',drawn:=d',toks:=t' }:=by
 have neL:∀b o,X.s₀.heap.get? b=some o->b≠X.env.locals:=λb o e=>Xn (X4 (XH e) I.ok.above)
 have neC:∀b o,X.s₀.heap.get? b=some o->b∉X.ex->b∉ch:=λb o e hx hb=>by
  rcases(hch b hb).1 with z|z
  ·exact hx z
  ·exact absurd (X4 (XH e) z) (BL _)
 have cellK:∀x c,X.env.cells.lookup x=some c->∀v,s.heap.IsCell c v->h'.IsCell c v:=λx c e v ⟨o,ho,hd⟩=>by
  have nch:c∉ch:=λz=>(hch c z).2.2.1 x c e rfl
  by_cases hc:c∈X.fs
  ·obtain⟨sl,q⟩:=slot c o (I.cne x c e) hc nch ho (I.freeC x c e)
   exact⟨_,q,hd⟩
  ·exact⟨o,keep c o (I.cne x c e) hc nch ho (I.freeC x c e),hd⟩
 refine⟨I.ok,I.os,hg,⟨λb o e n hb hx=>?_,λb o e n hb hx=>?_,λb o e n hx=>?_,λb o e hx=>?_,λb xs e=>tups b xs (I.base.tups b xs e),λb o xs e=>frzs b o xs (I.base.frzs b o xs e),λb ps e=>?_⟩,?_,λx c e=>?_,?_,λx c e=>?_,λp hp=>?_,hok,I.len⟩
 ·exact keep b o (neL b o e) hb (neC b o e hx) (I.base.keep b o e n hb hx) (I.base.free b o e n hx)
 ·obtain⟨sl,e1⟩:=I.base.slot b o e n hb hx
  obtain⟨sl',e2⟩:=slot b _ (neL b o e) hb (neC b o e hx) e1 (I.base.free b o e n hx)
  exact⟨sl',e2⟩
 ·obtain⟨o',e1⟩:=I.base.there b o e hx
  exact free b o' (neC b o e hx) e1 (I.base.free b o e n hx)
 ·obtain⟨o',e1⟩:=I.base.there b o e hx
  exact there b o' (neC b o e hx) e1
 ·obtain⟨m1,e1⟩:=I.base.tbls b ps e
  obtain⟨m2,e2⟩:=tbls b _ e1
  exact⟨m1 ++ m2,by rw[e2,Array.append_assoc]⟩
 ·obtain⟨m,hn,hl⟩:=I.loc
  refine⟨m,ns m hn,λi x v e1 e2 e3=>?_⟩
  obtain⟨u,r,l⟩:=hl i x v e1 e2 e3
  refine⟨u,r,?_⟩
  rcases l with l|⟨k,c,e,z⟩
  ·exact .inl l
  ·exact .inr ⟨k,c,e,cellK x c e _ z⟩
 ·obtain⟨v,z⟩:=I.cell x c e
  exact⟨v,cellK x c e v z⟩
 ·obtain⟨m,⟨o,_,_,ho,_⟩,_⟩:=I.loc
  exact free _ o (λz=>(hch _ z).2.1 rfl) ho I.free
 ·obtain⟨v,o,ho,hd⟩:=I.cell x c e
  exact free c o (λz=>(hch c z).2.2.1 x c e rfl) ho (I.freeC x c e)
 ·obtain⟨e,n,ne,nf,d⟩:=I.pin p hp
  have nch:p.1∉ch:=λz=>(hch p.1 z).2.2.2 p hp rfl
  exact⟨keep p.1 p.2 ne nf nch e n,free p.1 p.2 nch e n,ne,nf,d⟩
theorem Inv.un{t':Nat}(I:Inv X pins σ H s)(u:Un X.fs [] H H' s.heap h')(hok:HOk X.prog X.w H' h'):Inv X pins σ H' { s with heap:=h',toks:=t' }:=by
 obtain⟨m,⟨o,es,ep,ho,r⟩,_⟩:=id I.loc
 obtain⟨sl,hL⟩:=u.any ho I.free (by simp)
 exact I.step (g':=s.gens) (d':=s.drawn) (ch:=[]) (λ_ z=>nomatch z) (λb o _ hb _ e n=>u.keep b o e n hb (by simp)) (λb o _ hb _ e n=>u.slot b o e n hb (by simp)) (λb o _ e n=>u.free b o e n (by simp)) (λb o _ e=>u.there b o e (by simp)) u.tups u.frzs u.tbls (λm' hm=>by
  obtain⟨o',es',ep',ho',r'⟩:=hm
  rw[ho]at ho';cases ho'
  exact⟨_,es',ep',hL,r'⟩) hok I.bare
theorem Inv.call{g':Array GenState}{t':Nat}{d':Drawn}{ch:List Addr}(I:Inv X pins σ H s)(u:Un (frs X.stack) ch H H' s.heap h')(hok:HOk X.prog X.w H' h')(hg:AllBare g')
  (hch:∀b∈ch,(b∈X.ex∨X.s₀.heap.objs.size≤b)∧b≠X.env.locals∧(∀x c,X.env.cells.lookup x=some c->c≠b)∧∀p∈X.pn ++ pins,p.1≠b) :
  Inv X pins σ H' { s with heap:=h',gens:=g',drawn:=d',toks:=t' }:=by
 obtain⟨m,⟨o,es,ep,ho,r⟩,_⟩:=id I.loc
 obtain⟨sl,hL⟩:=u.any ho I.free λz=>(hch _ z).2.1 rfl
 exact I.step (ch:=ch) hch (λb o hL hb hc e n=>u.keep b o e n (λz=>(Xr.mp (I.stkSub b z)).elim hL hb) hc) (λb o _ _ hc e n=>u.any e n hc) (λb o hc e n=>u.free b o e n hc) (λb o hc e=>u.there b o e hc) u.tups u.frzs u.tbls (λm' hm=>by
  obtain⟨o',es',ep',ho',r'⟩:=hm
  rw[ho]at ho';cases ho'
  exact⟨_,es',ep',hL,r'⟩) hok hg
theorem Inv.turned{t':Nat}{it:Addr}(I:Inv X pins σ H s)(k:∀b o,b≠it->s.heap.get? b=some o->h'.get? b=some o)(hn:H it=none)(hL:it≠X.env.locals)
  (h1:it∈X.ex∨X.s₀.heap.objs.size≤it) (h2:∀x c,X.env.cells.lookup x=some c->c≠it) (h3:∀p∈X.pn ++ pins,p.1≠it):Inv X pins σ H { s with heap:=h',toks:=t' }:=by
 have nit:∀b u,H b=some u->b≠it:=λb u e z=>by rw[z,hn]at e;cases e
 refine I.step (g':=s.gens) (d':=s.drawn) (ch:=[it]) (λb hb=>?_) (λb o _ _ hc e _=>k b o (λz=>hc (by simp[z])) e) (λb o _ _ hc e _=>⟨o.slots,k b o (λz=>hc (by simp[z])) e⟩) (λ_ _ _ _ n=>n)
  (λb o hc e=>⟨o,k b o (λz=>hc (by simp[z])) e⟩) (λ_ _ e=>e) (λ_ _ _ e=>e) (λb ps e=>⟨#[],by rw[e];simp⟩) (λm hm=>?_) (λb u e=>?_) I.bare
 ·have e:b=it:=by simpa using hb
  subst e
  exact⟨h1,hL,h2,h3⟩
 ·obtain⟨o,es,ep,ho,r⟩:=hm
  exact⟨o,es,ep,k _ o (Vt hL) ho,r⟩
 ·refine(I.hok b u e).stay (λc v hc q=>k c v ?_ q) (λ_ q=>q) λ_ _ q=>q
  rcases hc with z|z
  ·rw[z];exact nit b u e
  ·exact nit c _ z
theorem Inv.tok(I:Inv X pins σ H s)(t:Nat):Inv X pins σ H { s with toks:=t }:=I.un (h':=s.heap) (t':=t) Un.refl I.hok
theorem Inv.kept{t':Nat}(I:Inv X pins σ H s)(k:∀b u,s.heap.get? b=some u->h'.get? b=some u):Inv X pins σ H { s with heap:=h',toks:=t' }:=I.un (Un.kept k) (I.hok.kept k)
theorem Inv.laid{a:Addr}{o:HO}{t':Nat}(I:Inv X pins σ H s)(k:∀b u,s.heap.get? b=some u->h'.get? b=some u)(hp:s.heap.objs.size≤a)(new:ObjOk X.prog X.w (upd H a o) h' a o) :
  Inv X pins σ (upd H a o) { s with heap:=h',toks:=t' }:=I.un (Un.laid k hp (I.hok.fresh hp)) (I.hok.laid k hp new)
theorem Inv.write{x e:Addr}{o:HO}{t':Nat}(I:Inv X pins σ H s)(mu:Mut (H x))(he:e=x∨H e=some (.own x))(k:∀b u,b≠e->s.heap.get? b=some u->h'.get? b=some u)(heo:∃u,h'.get? e=some u)
  (new:ObjOk X.prog X.w (upd H x o) h' x o):Inv X pins σ (upd H x o) { s with heap:=h',toks:=t' }:=I.un (Un.write mu he k heo) (I.hok.write mu he k heo new)
theorem Inv.pins_of{pins':List (Addr×Obj)}(I:Inv X pins σ H s)(h:∀p∈pins',s.heap.get? p.1=some p.2∧H p.1=none∧p.1≠X.env.locals∧p.1∉X.fs∧∀v,p.2.data≠ .cell v):Inv X pins' σ H s :=
 ⟨I.ok,I.os,I.bare,I.base,I.loc,I.cell,I.free,I.freeC,λp hp=>(QJ.mp hp).elim (λz=>I.pin p (Vi _ z)) (h p),I.hok,I.len⟩
theorem Zph{N:List Str}(hN:N.Nodup){i j:Nat}{x:Str}(a:N[i]? =some x)(b:N[j]? =some x):i=j:=by
 obtain⟨h1,e1⟩:=Xm.mp a
 obtain⟨h2,e2⟩:=Xm.mp b
 exact(List.getElem_inj hN).mp (e1.trans e2.symm)
theorem Zm9{M:Model}{A:Qo}{E:Xf->Xh->Prop}{i:Nat}{x:Str}{v:V}{u:Xf}{Q:Unit->Xh->Prop}(I:Inv X pins σ H s)(hN:X.N.Nodup)(hi:X.N[i]? =some x)(hx:Loc X.env.scope x)(r:RelV v u)
  (h:∀s',Inv X pins (σ.set i (some v)) H s'->(∃a,JK a s.heap s'.heap∧(a=X.env.locals∨X.env.cells.lookup x=some a))->Q () s') (hf:X.fn x=true∨X.env.scope.names.lookup x=some .local:=by first|exact .inl rfl|exact .inr rfl|assumption):XC M A (storeName X.env x u) Q E s:=by
 obtain⟨m,hn,hl⟩:=id I.loc
 have hcls:(X.env.scope.kind== .class||(X.env.scope.kind== .module&&X.env.locals !=X.env.globals))=false:=by rw[I.ok.kind];rfl
 have hiσ:i<σ.length:=by rw[I.len];exact(Xm.mp hi).1
 have cne:=I.cne
 have tracked:∀{a:Addr} {h':Heap},(∃o,s.heap.get? a=some o∧H a=none)->JK a s.heap h'->HOk X.prog X.w H h':=fun{a h'} ha hs b ob e=>by
  obtain⟨_,_,hfree⟩:=ha
  refine(I.hok b ob e).stay (λc w' hc q=>(hs.2 c ?_).trans q) (λ_ q=>q) λ_ _ q=>q
  rintro rfl
  rcases hc with rfl|hc
  ·rw[hfree]at e;cases e
  ·rw[hfree]at hc;cases hc
 rcases hx with hk|hk
 ·refine wpAny_storeName_local hk hn (λh' hn' hs=>?_) hcls
  obtain⟨oL,_,_,hoL,_⟩:=id hn
  refine h _ ⟨I.ok,I.os,I.bare,⟨λb o e n hb hx=>?_,λb o e n hb hx=>?_,I.base.free,λb o e hx=>?_,I.base.tups,I.base.frzs,I.base.tbls⟩,⟨_,hn',λj y v' e1 e2 e3=>?_⟩,λy c e=>?_,I.free,I.freeC,λp hp=>?_,tracked ⟨oL,hoL,I.free⟩ hs,by simpa using I.len⟩ ⟨_,hs,.inl rfl⟩
  ·exact(hs.2 b (Xn (X4 (XH e) I.ok.above))).trans (I.base.keep b o e n hb hx)
  ·obtain⟨sl,e1⟩:=I.base.slot b o e n hb hx
   exact⟨sl,(hs.2 b (Xn (X4 (XH e) I.ok.above))).trans e1⟩
  ·obtain⟨o',e1⟩:=I.base.there b o e hx
   exact⟨o',(hs.2 b (Xn (X4 (XH e) I.ok.above))).trans e1⟩
  ·by_cases hj:j=i
   ·subst hj
    rw[hi]at e1;cases e1
    rw[Q0 hiσ]at e2
    cases e2
    exact⟨u,r,.inl ⟨hk,by simp⟩⟩
   ·rw[QF (Vt hj)]at e2
    obtain⟨u',r',q⟩:=hl j y v' e1 e2 e3
    refine⟨u',r',?_⟩
    rcases q with⟨k,e⟩|⟨k,c,e,z⟩
    ·refine .inl ⟨k,?_⟩
     have:y≠x:=λe=>hj (Zph hN e1 (e▸hi))
     simp[this,e]
    ·exact .inr ⟨k,c,e,z.sameBut hs (cne y c e)⟩
  ·obtain⟨w',z⟩:=I.cell y c e
   exact⟨w',z.sameBut hs (cne y c e)⟩
  ·obtain⟨e,n,ne,nf,d⟩:=I.pin p hp
   exact⟨(hs.2 p.1 ne).trans e,n,ne,nf,d⟩
 ·have hfn:X.fn x=true:=by
   rcases hf with z|z
   ·exact z
   ·rw[z]at hk;cases hk
  obtain⟨c,hc⟩:=I.ok.has x (.inl hk)
  obtain⟨w',z⟩:=I.cell x c hc
  refine wpAny_storeName_cell I.ok.kind hk hc z (λh' hc' hs=>?_)
  obtain⟨oc,hoc,hocd⟩:=id z
  refine h { s with heap:=h' } ⟨I.ok,I.os,I.bare,⟨λb o e n hb hx=>?_,λb o e n hb hx=>?_,I.base.free,λb o e hx=>?_,I.base.tups,I.base.frzs,I.base.tbls⟩,⟨m,hn.sameBut hs (Vt (cne x c hc)),λj y v' e1 e2 e3=>?_⟩,λy c' e=>?_,I.free,I.freeC,λp hp=>?_,tracked ⟨oc,hoc,I.freeC x c hc⟩ hs,by simpa using I.len⟩ ⟨c,hs,.inr hc⟩
  ·exact(hs.2 b (Xn (X4 (XH e) (I.ok.cab x c hfn hc)))).trans (I.base.keep b o e n hb hx)
  ·obtain⟨sl,e1⟩:=I.base.slot b o e n hb hx
   exact⟨sl,(hs.2 b (Xn (X4 (XH e) (I.ok.cab x c hfn hc)))).trans e1⟩
  ·obtain⟨o',e1⟩:=I.base.there b o e hx
   exact⟨o',(hs.2 b (Xn (X4 (XH e) (I.ok.cab x c hfn hc)))).trans e1⟩
  ·by_cases hj:j=i
   ·subst hj
    rw[hi]at e1;cases e1
    rw[Q0 hiσ]at e2
    cases e2
    exact⟨u,r,.inr ⟨.inl hk,c,hc,hc'⟩⟩
   ·rw[QF (Vt hj)]at e2
    obtain⟨u',r',q⟩:=hl j y v' e1 e2 e3
    refine⟨u',r',?_⟩
    rcases q with q|⟨k,c',e,z'⟩
    ·exact .inl q
    ·refine .inr ⟨k,c',e,z'.sameBut hs ?_⟩
     rintro rfl
     exact hj (Zph hN e1 (I.ok.inj _ _ _ e hc▸hi))
  ·by_cases hcc:c'=c
   ·subst hcc;exact⟨_,hc'⟩
   ·obtain⟨w2,z2⟩:=I.cell y c' e
    exact⟨w2,z2.sameBut hs hcc⟩
  ·obtain⟨e,n,ne,nf,d⟩:=I.pin p hp
   refine⟨(hs.2 p.1 ?_).trans e,n,ne,nf,d⟩
   intro q
   rw[q,hoc]at e
   have q':oc=p.2:=QD e
   exact d w' (by rw[←q'];exact hocd)
theorem Zp3{M:Model}{A:Qo}{E:Xf->Xh->Prop}{i:Nat}{x:Str}{v:V}{u:Xf}{Q:Unit->Xh->Prop}(I:Inv X pins σ H s)(hN:X.N.Nodup)(hi:X.N[i]? =some x)(hx:Loc X.env.scope x)(r:RelV v u)
  (h:∀s',Inv X pins (σ.set i (some v)) H s'->Q () s') (hf:X.fn x=true∨X.env.scope.names.lookup x=some .local:=by first|exact .inl rfl|exact .inr rfl|assumption):XC M A (storeName X.env x u) Q E s :=
 Zm9 I hN hi hx r (λs' I' _=>h s' I') hf
theorem Inv.call'{s':Xh}{ch:List Addr}(I:Inv X pins σ H s)(ho:s'.os=s.os)(u:Un (frs X.stack) ch H H' s.heap s'.heap)(hok:HOk X.prog X.w H' s'.heap)(hg:AllBare s'.gens)
  (hch:∀b∈ch,(b∈X.ex∨X.s₀.heap.objs.size≤b)∧b≠X.env.locals∧(∀x c,X.env.cells.lookup x=some c->c≠b)∧∀p∈X.pn ++ pins,p.1≠b):Inv X pins σ H' s':=by
 obtain⟨h',g',d',t',o'⟩:=s'
 have e:o'=s.os:=ho
 subst e
 exact I.call (g':=g') (t':=t') (d':=d') u hok hg hch
end
noncomputable abbrev XK:=Xf->Option Addr->Hp->Prop
noncomputable abbrev St:=List (Option V)
noncomputable abbrev VK:=V->Hp->Prop
noncomputable abbrev TE:=St->Hp->VK->Prop
noncomputable abbrev TT:=St->Hp->(Bool->Hp->Prop)->Prop
noncomputable abbrev TA:=St->Hp->(List V->Hp->Prop)->Prop
set_option genInjectivity false in
structure Ends where
 nx:St->Hp->Prop
 rt:VK
 bk:St->Hp->Prop:=λ_ _=>False
 ct:St->Hp->Prop:=λ_ _=>False
noncomputable abbrev TS:=Ends->St->Hp->Prop
noncomputable def EP(X:Cx)(pins:List (Addr×Obj))(σ:St)(Q:VK)(u:Xf)(s':Xh):Prop:=∃v H',Inv X pins σ H' s'∧RelV v u∧Q v H'
noncomputable def TP(X:Cx)(pins:List (Addr×Obj))(σ:St)(Q:Bool->Hp->Prop)(b:Bool)(s':Xh):Prop:=∃H',Inv X pins σ H' s'∧Q b H'
noncomputable def AP(X:Cx)(pins:List (Addr×Obj))(σ:St)(Q:List V->Hp->Prop)(us:List Xf)(s':Xh):Prop:=∃vs H',Inv X pins σ H' s'∧Vals vs us∧Q vs H'
noncomputable def SP(X:Cx)(pins:List (Addr×Obj))(D:Ends)(f:Flow)(s':Xh):Prop :=
 match f with
 | .next=>∃σ' H',Inv X pins σ' H' s'∧D.nx σ' H'
 | .brk=>∃σ' H',Inv X pins σ' H' s'∧D.bk σ' H'
 | .cont=>∃σ' H',Inv X pins σ' H' s'∧D.ct σ' H'
 | .ret u=>∃v σ' H',Inv X pins σ' H' s'∧RelV v u∧D.rt v H'
noncomputable def PE(X:Cx)(e:Expr)(t:TE):Prop :=
 ∀(pins:List (Addr×Obj)) (s:Xh) (σ:St) (H:Hp) (Q:VK),Inv X pins σ H s->t σ H Q->XC (XX X.prog X.w) X.A (eval e X.env) (EP X pins σ Q) X.xe s
noncomputable def PT(X:Cx)(e:Expr)(t:TT):Prop :=
 ∀(pins:List (Addr×Obj)) (s:Xh) (σ:St) (H:Hp) (Q:Bool->Hp->Prop),Inv X pins σ H s->t σ H Q->XC (XX X.prog X.w) X.A (isTrue e X.env (eval e X.env)) (TP X pins σ Q) X.xe s
noncomputable def PW(X:Cx)(e:Expr)(t:TT):Prop :=
 ∀(whole:Sem Xf) (pins:List (Addr×Obj)) (s:Xh) (σ:St) (H:Hp) (Q:Bool->Hp->Prop),Inv X pins σ H s->t σ H Q->XC (XX X.prog X.w) X.A (isTrue e X.env whole) (TP X pins σ Q) X.xe s
theorem PW.pt{X:Cx}{e:Expr}{t:TT}(h:PW X e t):PT X e t:=h _
noncomputable def PA(X:Cx)(es:List Expr)(t:TA):Prop :=
 ∀(pos:Pos) (pins:List (Addr×Obj)) (s:Xh) (σ:St) (H:Hp) (Q:List V->Hp->Prop),Inv X pins σ H s->t σ H Q->XC (XX X.prog X.w) X.A (spliced (JF pos (Xo es X.env))) (AP X pins σ Q) X.xe s
noncomputable def PS(X:Cx)(st:Stmt)(t:TS):Prop :=
 ∀(pins:List (Addr×Obj)) (s:Xh) (σ:St) (H:Hp) (D:Ends),Inv X pins σ H s->t D σ H->XC (XX X.prog X.w) X.A (exec st X.env) (SP X pins D) X.xe s
noncomputable def PSs(X:Cx)(st:List Stmt)(t:TS):Prop :=
 ∀(pins:List (Addr×Obj)) (s:Xh) (σ:St) (H:Hp) (D:Ends),Inv X pins σ H s->t D σ H->XC (XX X.prog X.w) X.A (execs st X.env) (SP X pins D) X.xe s
theorem thn{α:Type}{t:Sem α}{Q Q':α->Xh->Prop}{M:Model}{A:Qo}{E:Xf->Xh->Prop}{s:Xh}(h:XC M A t Q E s)(hQ:∀a s,Q a s->Q' a s):XC M A t Q' E s:=Vd h hQ λ_ _ x=>x
section
variable {X:Cx}
noncomputable def Yci(i:Nat):TE:=λσ H Q=>∃v,σ[i]? =some (some v)∧Q v H
noncomputable def tC(v:V):TE:=λ_ H Q=>Q v H
theorem Z4s{i:Nat}{x:Str}{pos:Pos}(hN:X.N[i]? =some x)(hv:Vis X.env.scope x)(hd:(x==("__debug__" : Str))=false:=by decide)(hcd:(x==("__classdict__" : Str))=false:=by decide):PE X (.Name x pos) (Yci i):=by
 intro pins s σ H Q I h
 obtain⟨v,e,h⟩:=h
 obtain⟨m,hn,hl⟩:=I.loc
 obtain⟨u,r,l⟩:=hl i x v hN e hv
 have fin:EP X pins σ Q u s:=⟨v,H,I,r,h⟩
 rcases l with⟨hk,hm⟩|⟨hk,c,hc,hcell⟩
 ·exact wpAny_Name (wpAny_loadName_local I.ok.kind hk hn hm fin) hd
 ·rcases hk with hk|hk
  ·exact wpAny_Name (wpAny_loadName_cell I.ok.kind hk hc hcell fin) hd
  ·exact wpAny_Name (wpAny_loadName_free I.ok.kind hk hc hcell fin hcd) hd
theorem Z5d{i j pos}:PE X (.Constant (.int i) j pos) (tC (.int i)):=λ_ _ _ H _ I h=>wpAny_Constant_int ⟨.int i,H,I.tok _,⟨_,rfl⟩,h⟩
theorem Yau{b j pos}:PE X (.Constant (.bool b) j pos) (tC (.bl b)):=λ_ _ _ H _ I h=>Constant_bool ⟨.bl b,H,I,rfl,h⟩
theorem Z6j{j pos}:PE X (.Constant .none j pos) (tC .non):=λ_ _ _ H _ I h=>Constant_none ⟨.non,H,I,rfl,h⟩
theorem Z44{x j pos}:PE X (.Constant (.str x) j pos) (tC (.str x)):=λ_ _ _ H _ I h=>Calls.Constant_str ⟨.str x,H,I.tok _,⟨_,rfl⟩,h⟩
noncomputable def Gl(X:Cx)(x:Str):Prop:=X.env.kindOf x=some .globalImplicit
theorem Z2d{E:Xf->Xh->Prop}{pins:List (Addr×Obj)}{s:Xh}{σ:St}{H:Hp}{x:Str}{u:Xf}{pos:Pos}{Q:Xf->Xh->Prop}(I:Inv X pins σ H s)(hg:Gl X x)(hm:X.mg x=some u)(h:Q u s)
  (hd:(x==("__debug__" : Str))=false:=by decide):XC (XX X.prog X.w) X.A (eval (.Name x pos) X.env) Q E s :=
 Calls.Name_function_global I.ok.kind hg (Calls.loadGlobal_global (by rw[I.ok.glob];exact I.mod.glob.keeps I.bk) hm h) hd
theorem Zgz{E:Xf->Xh->Prop}{pins:List (Addr×Obj)}{s:Xh}{σ:St}{H:Hp}{x:Str}{u:Xf}{pos:Pos}{Q:Xf->Xh->Prop}(I:Inv X pins σ H s)(hg:Gl X x)(hm:X.mg x=none)(hv:Qh x=some u)(h:Q u s)
  (hn:x≠"__name__" :=by decide) (hd:(x==("__debug__" : Str))=false:=by decide):XC (XX X.prog X.w) X.A (eval (.Name x pos) X.env) Q E s:=by
 obtain⟨mb,h1,h2⟩:=I.mod.blt
 exact Calls.Name_function_global I.ok.kind hg (Calls.loadGlobal_builtin (by rw[I.ok.glob];exact I.mod.glob.keeps I.bk) hm (by rw[I.ok.blt];exact h1.keeps I.bk) ((h2 x hn).trans hv) h) hd
theorem Z0h{x:Str}{v:V}{u:Xf}{pos:Pos}(hg:Gl X x)(hm:X.mg x=none)(hv:Qh x=some u)(r:RelV v u)(hn:x≠"__name__" :=by decide)(hd:(x==("__debug__" : Str))=false:=by decide):PE X (.Name x pos) (tC v) :=
 λ_ _ _ H _ I h=>Zgz I hg hm hv ⟨v,H,I,r,h⟩ hn hd
noncomputable def t2I(ta tb:TE)(k:Int->Int->Hp->Prop):St->Hp->Prop:=λσ H=>ta σ H λx H1=>tb σ H1 λy H2=>∃i j,x= .int i∧y= .int j∧k i j H2
variable {a b:Expr}{ta tb:TE}{pos:Pos}
noncomputable def Z32(p:Int->Int->Bool)(ta tb:TE):TE:=λσ H Q=>t2I ta tb (λi j H2=>Q (.bl (p i j)) H2) σ H
noncomputable abbrev tLt:TE->TE->TE:=Z32 λi j=>decide (i<j)
noncomputable abbrev tLe:TE->TE->TE:=Z32 λi j=>decide (i≤j)
noncomputable abbrev tGt:TE->TE->TE:=Z32 λi j=>decide (j<i)
noncomputable abbrev tGe:TE->TE->TE:=Z32 λi j=>decide (j≤i)
noncomputable abbrev Yf8:TE->TE->TE:=Z32 λi j=>decide (i=j)
noncomputable abbrev Yf7:TE->TE->TE:=Z32 λi j=>!decide (i=j)
noncomputable def tB(t:TE):TT:=λσ H Q=>t σ H λx H1=>∃c,x= .bl c∧Q c H1
variable {tA tB':TT}{rest:List Expr}
noncomputable def Yf0(t u:TT):TT:=λσ H Q=>t σ H λc H1=>if c=true then u σ H1 Q else Q false H1
noncomputable def tOr(t u:TT):TT:=λσ H Q=>t σ H λc H1=>if c=true then Q true H1 else u σ H1 Q
noncomputable def Yfb(t:TT):TT:=λσ H Q=>t σ H λc H1=>Q (!c) H1
theorem Z2m(ha:PT X a tA):PW X (.BoolOp .And [a] pos) tA:=by
 intro wh pins s σ H Q I h
 refine isTrue_and (thn (ha pins s σ H Q I h) λc s1 e=>?_)
 cases c with
 | true=>exact isTrue_and_nil e
 | false=>exact e
theorem Z7w(ha:PT X a tA):PW X (.BoolOp .Or [a] pos) tA:=by
 intro wh pins s σ H Q I h
 refine isTrue_or (thn (ha pins s σ H Q I h) λc s1 e=>?_)
 cases c with
 | false=>exact isTrue_or_nil e
 | true=>exact e
theorem Z7t(ha:PT X a tA)(hb:PW X (.BoolOp .And (b :: rest) pos) tB'):PW X (.BoolOp .And (a :: b :: rest) pos) (Yf0 tA tB'):=by
 intro wh pins s σ H Q I h
 refine isTrue_and (thn (ha pins s σ H _ I h) λc s1 qz9=>?_)
 obtain⟨H1,I1,q1⟩:=qz9
 cases c with
 | true=>exact hb wh pins s1 σ H1 Q I1 q1
 | false=>exact⟨H1,I1,q1⟩
theorem Ybu(ha:PT X a tA)(hb:PW X (.BoolOp .Or (b :: rest) pos) tB'):PW X (.BoolOp .Or (a :: b :: rest) pos) (tOr tA tB'):=by
 intro wh pins s σ H Q I h
 refine isTrue_or (thn (ha pins s σ H _ I h) λc s1 qz9=>?_)
 obtain⟨H1,I1,q1⟩:=qz9
 cases c with
 | true=>exact⟨H1,I1,q1⟩
 | false=>exact hb wh pins s1 σ H1 Q I1 q1
theorem Z6b(ha:PT X a tA):PT X (.UnaryOp .Not a pos) (Yfb tA):=by
 intro pins s σ H Q I h
 exact isTrue_not (ha pins s σ H (λc H1=>Q (!c) H1) I h)
noncomputable def Z96(ta tb:TE):TE:=λσ H Q=>ta σ H λx H1=>∃c,x= .bl c∧if c=true then tb σ H1 Q else Q (.bl false) H1
noncomputable def Ybq(ta:TE):TE:=λσ H Q=>ta σ H λx H1=>∃c,x= .bl c∧Q (.bl (!c)) H1
theorem Z4u{op}{t:TE}(h:PE X a t):PE X (.BoolOp op [a] pos) t:=λpins s σ H Q I hw=>BoolOp_one (h pins s σ H Q I hw)
theorem Z75(ha:PE X a ta)(hb:PE X (.BoolOp .And (b :: rest) pos) tb):PE X (.BoolOp .And (a :: b :: rest) pos) (Z96 ta tb):=by
 intro pins s σ H Q I h
 refine BoolOp_and (thn (ha pins s σ H _ I h) λv s1 qz9=>?_)
 obtain⟨x,H1,I1,r1,q1⟩:=qz9
 obtain⟨c,rfl,q1⟩:=q1
 cases r1
 refine Bx ?_
 cases c with
 | true=>exact hb pins s1 σ H1 Q I1 q1
 | false=>exact⟨.bl false,H1,I1,rfl,q1⟩
theorem Z59(ha:PE X a ta):PE X (.UnaryOp .Not a pos) (Ybq ta):=by
 intro pins s σ H Q I h
 refine UnaryOp_ (thn (ha pins s σ H _ I h) λv s1 qz9=>?_)
 obtain⟨x,H1,I1,r1,q1⟩:=qz9
 obtain⟨c,rfl,q1⟩:=q1
 cases r1
 exact not_of (Bx ⟨.bl (!c),H1,I1,rfl,q1⟩)
noncomputable def tIf(t:TT)(ta tb:TE):TE:=λσ H Q=>t σ H λc H1=>if c=true then ta σ H1 Q else tb σ H1 Q
theorem Zwm{c:Expr}(hc:PT X c tA)(ha:PE X a ta)(hb:PE X b tb):PE X (.IfExp c a b pos) (tIf tA ta tb):=by
 intro pins s σ H Q I h
 refine wpAny_IfExp (thn (hc pins s σ H _ I h) λd s1 qz9=>?_)
 obtain⟨H1,I1,q1⟩:=qz9
 cases d with
 | true=>exact ha pins s1 σ H1 Q I1 q1
 | false=>exact hb pins s1 σ H1 Q I1 q1
end
noncomputable def SqL(K:Xc)(H:Hp)(a:Addr)(xs:List V):Prop :=
 Rd H a (.lst xs)∨
  ∃(o:Obj) (its:Array Xf) (n:Nat),K.lookup a=some o∧o.cls= .type "list"∧o.dict=none∧o.data= .seq its n∧its.size≤Xy∧Vals xs its.toList
noncomputable def SqT(K:Xc)(H:Hp)(a:Addr)(xs:List V):Prop :=
 Rd H a (.tup xs)∨
  ∃(o:Obj) (its:Array Xf) (n:Nat),K.lookup a=some o∧o.cls= .type "tuple"∧o.data= .seq its n∧its.size≤Xy∧Vals xs its.toList
noncomputable def Yfv:Xf->Option V
 | .none=>some .non
 | .bool b=>some (.bl b)
 | .int i _=>some (.int i)
 | .str x _=>some (.str x)
 | .bytes b _=>some (.byt b)
 | .float b _=>some (.flt b)
 | .ref a=>some (.ref a)
 | .type n=>some (.ty n)
 | _=>none
theorem RelV.abs{x:V}{u:Xf}(r:RelV x u):Yfv u=some x:=by
 cases x with
 | non=>cases r;rfl
 | bl _=>cases r;rfl
 | int _=>obtain⟨t,rfl⟩:=r;rfl
 | str _=>obtain⟨t,rfl⟩:=r;rfl
 | byt _=>obtain⟨t,rfl⟩:=r;rfl
 | flt _=>obtain⟨t,rfl⟩:=r;rfl
 | ref _=>cases r;rfl
 | ty _=>cases r;rfl
theorem RelV.inj{x y:V}{u:Xf}(r:RelV x u)(q:RelV y u):x=y:=QD (r.abs.symm.trans q.abs)
theorem Vals.inj{xs ys:List V}{us:List Xf}(h:Vals xs us)(k:Vals ys us):xs=ys:=by
 induction h generalizing ys with
 | nil=>cases k;rfl
 | cons r t ih=>
  cases k with
  | cons r' t'=>rw[r.inj r',ih t']
section
variable {X:Cx}{pins:List (Addr×Obj)}{σ:St}{H:Hp}{s:Xh}{a:Addr}{xs ys:List V}
theorem Inv.list(I:Inv X pins σ H s)(h:SqL X.K H a xs):∃its:List Xf,Vals xs its∧PlainL s.heap a its.toArray∧xs.length≤Xy:=by
 rcases h with h|⟨o,its,n,hk,hc,hd,hs,hz,r⟩
 ·obtain⟨z,its,n,r,e⟩:=h.ok I.hok
  exact⟨its,r,⟨_,n,e,rfl,rfl,rfl⟩,z⟩
 ·refine⟨its.toList,r,⟨o,n,I.kIn a o hk,hc,hd,by simpa using hs⟩,?_⟩
  have e:=r.length
  simp only[XR]at e
  omega
theorem Inv.tuple(I:Inv X pins σ H s)(h:SqT X.K H a xs):∃its:List Xf,Vals xs its∧IsTup s.heap a its.toArray∧xs.length≤Xy:=by
 rcases h with h|⟨o,its,n,hk,hc,hs,hz,r⟩
 ·obtain⟨z,its,r,p⟩:=h.ok I.hok
  exact⟨its,r,p,z⟩
 ·refine⟨its.toList,r,⟨o,I.kIn a o hk,hc,n,by simpa using hs⟩,?_⟩
  have e:=r.length
  simp only[XR]at e
  omega
theorem Inv.list_inj(I:Inv X pins σ H s)(h:SqL X.K H a xs)(h':SqL X.K H a ys):xs=ys:=by
 obtain⟨its,r,⟨o,n,e,_,_,d⟩,_⟩:=I.list h
 obtain⟨its',r',⟨o',n',e',_,_,d'⟩,_⟩:=I.list h'
 rw[e]at e';cases e'
 rw[d]at d'
 injection d' with d1 _
 have:its=its':=by simpa using congrArg Array.toList d1
 subst this
 exact r.inj r'
theorem Inv.tuple_inj(I:Inv X pins σ H s)(h:SqT X.K H a xs)(h':SqT X.K H a ys):xs=ys:=by
 obtain⟨its,r,⟨o,e,_,n,d⟩,_⟩:=I.tuple h
 obtain⟨its',r',⟨o',e',_,n',d'⟩,_⟩:=I.tuple h'
 rw[e]at e';cases e'
 rw[d]at d'
 injection d' with d1 _
 have:its=its':=by simpa using congrArg Array.toList d1
 subst this
 exact r.inj r'
end
noncomputable abbrev Cx.wish(X:Cx)(E:Xf->Xh->Prop):Cx:={ X with xe:=E }
noncomputable abbrev Cx.nox(X:Cx):Cx:=X.wish λ_ _=>False
theorem Cx.Ok.wish{X:Cx}(ok:X.Ok)(E:Xf->Xh->Prop):(X.wish E).Ok :=
 ⟨ok.mod,ok.kind,ok.glob,ok.blt,ok.above,ok.inj,ok.has,ok.cab,ok.hd,ok.frames,ok.stk,ok.exf,ok.bs,ok.bsz,ok.noex,ok.exfs,ok.funs,ok.frf⟩
theorem Cx.Ok.unwish{X:Cx}{E:Xf->Xh->Prop}(ok:(X.wish E).Ok):X.Ok :=
 ⟨ok.mod,ok.kind,ok.glob,ok.blt,ok.above,ok.inj,ok.has,ok.cab,ok.hd,ok.frames,ok.stk,ok.exf,ok.bs,ok.bsz,ok.noex,ok.exfs,ok.funs,ok.frf⟩
section
variable {X:Cx}{pins:List (Addr×Obj)}{σ:St}{H:Hp}{s:Xh}{E:Xf->Xh->Prop}
theorem Inv.wish(I:Inv X pins σ H s)(E:Xf->Xh->Prop):Inv (X.wish E) pins σ H s:=⟨I.ok.wish E,I.os,I.bare,I.base,I.loc,I.cell,I.free,I.freeC,I.pin,I.hok,I.len⟩
theorem Inv.unwish(I:Inv (X.wish E) pins σ H s):Inv X pins σ H s:=⟨I.ok.unwish,I.os,I.bare,I.base,I.loc,I.cell,I.free,I.freeC,I.pin,I.hok,I.len⟩
theorem SP.unwish{D:Ends}{f:Flow}{s':Xh}(h:SP (X.wish E) pins D f s'):SP X pins D f s':=by
 cases f with
 | next=>obtain⟨σ',H',I,q⟩:=h;exact⟨σ',H',I.unwish,q⟩
 | brk=>obtain⟨σ',H',I,q⟩:=h;exact⟨σ',H',I.unwish,q⟩
 | cont=>obtain⟨σ',H',I,q⟩:=h;exact⟨σ',H',I.unwish,q⟩
 | ret u=>obtain⟨v,σ',H',I,r,q⟩:=h;exact⟨v,σ',H',I.unwish,r,q⟩
theorem PSs.nox{st:List Stmt}{t:TS}(h:PSs X.nox st t):PSs X st t:=λpins s σ H D I hw=>
 Vd (h pins s σ H D (I.wish _) hw) (λ_ _ q=>q.unwish) λ_ _ z=>VJ z
end
section
variable {X:Cx}{st:Stmt}{rest:List Stmt}{t u:TS}{e:Expr}{te:TE}{pos:Pos}
noncomputable def Ybv:TS:=λD σ H=>D.nx σ H
noncomputable def Yfn(t u:TS):TS:=λD σ H=>t { D with nx:=u D } σ H
theorem Z0g:PSs X [] Ybv:=λ_ _ σ H _ I h=>wpAny_execs_nil ⟨σ,H,I,h⟩
theorem Zwf(h1:PS X st t)(h2:PSs X rest u):PSs X (st :: rest) (Yfn t u):=by
 intro pins s σ H D I h
 refine wpAny_execs_cons (thn (h1 pins s σ H { D with nx:=u D } I h) λf s1 q=>?_)
 cases f with
 | next=>
  obtain⟨σ',H',I',q⟩:=q
  exact h2 pins s1 σ' H' D I' q
 | ret v=>exact q
 | brk=>exact q
 | cont=>exact q
theorem Z3o(h1:PS X st t):PSs X [st] t:=by
 intro pins s σ H D I h
 refine wpAny_execs_cons (thn (h1 pins s σ H D I h) λf s1 q=>?_)
 cases f with
 | next=>exact wpAny_execs_nil q
 | ret v=>exact q
 | brk=>exact q
 | cont=>exact q
theorem Inv.quiet{pins:List (Addr×Obj)}{σ:St}{H:Hp}{s:Xh}(I:Inv X pins σ H s):interactive X.env=false:=by simp[interactive,I.ok.kind]
noncomputable def Yb9(te:TE):TS:=λD σ H=>te σ H λ_ H1=>D.nx σ H1
theorem Zoe(he:PE X e te)(hs:VL e none pos.line X.env=pure false:=by rfl):PS X (.Expr e pos) (Yb9 te):=by
 intro pins s σ H D I h
 refine wpAny_Expr_any (thn (he pins s σ H _ I h) λv s1 qz9=>?_) I.quiet hs
 obtain⟨x,H1,I1,r1,q1⟩:=qz9
 exact⟨σ,H1,I1,q1⟩
noncomputable def Yfi(te:TE):TS:=λD σ H=>te σ H D.rt
theorem Zy7(he:PE X e te):PS X (.Return (some e) pos) (Yfi te):=by
 intro pins s σ H D I h
 refine wpAny_Return_some (thn (he pins s σ H _ I h) λv s1 qz9=>?_)
 obtain⟨x,H1,I1,r1,q1⟩:=qz9
 exact⟨x,σ,H1,I1,r1,q1⟩
noncomputable def Yf4(c:TT)(t u:TS):TS:=λD σ H=>c σ H λb H1=>if b=true then t D σ H1 else u D σ H1
theorem Ya3{c:Expr}{a b:List Stmt}{tc:TT}(hc:PT X c tc)(ha:PSs X a t)(hb:PSs X b u):PS X (.If c a b pos) (Yf4 tc t u):=by
 intro pins s σ H D I h
 refine wpAny_If (thn (hc pins s σ H _ I h) λd s1 qz9=>?_)
 obtain⟨H1,I1,q1⟩:=qz9
 cases d with
 | true=>exact ha pins s1 σ H1 D I1 q1
 | false=>exact hb pins s1 σ H1 D I1 q1
noncomputable def Z6u:TS:=λ_ _ _=>False
theorem Zw1:PS X st Z6u:=λ_ _ _ _ _ _ h=>h.elim
end
noncomputable abbrev TG:=V->St->Hp->(St->Hp->Prop)->Prop
noncomputable abbrev TGs:=List V->St->Hp->(St->Hp->Prop)->Prop
noncomputable def PG(X:Cx)(target:Expr)(t:TG):Prop :=
 ∀(pins:List (Addr×Obj)) (s:Xh) (σ:St) (H:Hp) (v:V) (u:Xf) (Q:St->Hp->Prop),Inv X pins σ H s->RelV v u->t v σ H Q ->
  XC (XX X.prog X.w) X.A (U3 target X.env u) (λ_ s'=>∃σ' H',Inv X pins σ' H' s'∧Q σ' H') X.xe s
noncomputable def PGs(X:Cx)(ts:List Expr)(t:TGs):Prop :=
 ∀(pins:List (Addr×Obj)) (s:Xh) (σ:St) (H:Hp) (vs:List V) (us:List Xf) (Q:St->Hp->Prop),Inv X pins σ H s->Vals vs us->t vs σ H Q ->
  XC (XX X.prog X.w) X.A (assignInOrder ((JQ ts X.env).map (·.2)) us) (λ_ s'=>∃σ' H',Inv X pins σ' H' s'∧Q σ' H') X.xe s
noncomputable abbrev Ybh:=V->V->V->Hp->(Hp->Prop)->Prop
noncomputable def Ydj(X:Cx)(t:Ybh):Prop :=
 ∀(pins:List (Addr×Obj)) (s:Xh) (σ:St) (H:Hp) (o i v:V) (ov iv u:Xf) (Q:Hp->Prop),Inv X pins σ H s->RelV o ov->RelV i iv->RelV v u->t o i v H Q ->
  XC (XX X.prog X.w) X.A (setItem ov iv u) (λ_ s'=>∃H',Inv X pins σ H' s'∧Q H') X.xe s
noncomputable abbrev TIp:=V->V->Hp->VK->Prop
section
variable {X:Cx}{pos:Pos}
noncomputable def Zul(i:Nat):TG:=λv σ H Q=>Q (σ.set i (some v)) H
theorem Zz9{i:Nat}{x:Str}(hN:X.N.Nodup)(hi:X.N[i]? =some x)(hx:Loc X.env.scope x)(hf:X.fn x=true∨X.env.scope.names.lookup x=some .local:=by first|exact .inl rfl|exact .inr rfl|assumption):PG X (.Name x pos) (Zul i):=by
 intro pins s σ H v u Q I r h
 exact wpAny_assign_Name (Zp3 I hN hi hx r (λs' I'=>⟨_,H,I',h⟩) hf)
noncomputable def Yfm:TGs:=λvs σ H Q=>vs=[]∧Q σ H
noncomputable def Ybn(t:TG)(u:TGs):TGs:=λvs σ H Q=>∃v r,vs=v :: r∧t v σ H λσ' H'=>u r σ' H' Q
theorem Z06:PGs X [] Yfm:=by
 intro pins s σ H vs us Q I r h
 obtain⟨e,h⟩:=h
 subst e
 cases r
 exact assignInOrder_nil ⟨σ,H,I,h⟩
theorem Zxx{e:Expr}{es:List Expr}{t:TG}{u:TGs}(h1:PG X e t)(h2:PGs X es u)
  (hs:(JQ (e :: es) X.env).map (·.2)=U3 e X.env :: (JQ es X.env).map (·.2):=by rfl):PGs X (e :: es) (Ybn t u):=by
 intro pins s σ H vs us Q I r h
 obtain⟨v,vr,e1,h⟩:=h
 subst e1
 cases r with
 | cons r rr=>
  rw[hs]
  refine assignInOrder_cons (thn (h1 pins s σ H _ _ _ I r h) λ_ s1 qz9=>?_)
  obtain⟨σ1,H1,I1,q1⟩:=qz9
  exact h2 pins s1 σ1 H1 _ _ Q I1 rr q1
noncomputable def Yep(K:Xc)(n:Nat)(t:TGs):TG:=λv σ H Q=>∃a xs,v= .ref a∧SqT K H a xs∧xs.length=n∧t xs σ H Q
theorem Z7i{es:List Expr}{k:Nat}{t:TGs}{n:Nat}(hc:X.calm=true)(h:PGs X es t)
  (hn:(JQ es X.env).length=n:=by rfl) (hst:(JQ es X.env).findIdx? (·.1)=none:=by rfl):PG X (.Tuple es k pos) (Yep X.K n t):=by
 intro pins s σ H v u Q I r hw
 obtain⟨a,xs,e1,hq,hl,hw⟩:=hw
 subst e1
 cases r
 obtain⟨its,rv,ht,hz⟩:=I.tuple hq
 refine assign_Tuple_tuple (I.ok.hd hc) ht (by simp[hn,←hl,rv.length]) hst λh' hx=>?_
 have I1:Inv X pins σ H { s with heap:=h' }:=I.kept (t':=s.toks) λb o e=>hx b o (Xn (XH e)) e
 exact h pins _ σ H xs _ Q I1 (by simpa using rv) hw
noncomputable def Ydu(to ti:TE)(t:Ybh):TG:=λv σ H Q=>to σ H λo H1=>ti σ H1 λi H2=>t o i v H2 λH3=>Q σ H3
theorem Z5i{o i:Expr}{to ti:TE}{t:Ybh}(ho:PE X o to)(hi:PE X i ti)(hs:Ydj X t)
  (ha:∀v,U3 (.Subscript o i pos) X.env v=(do
   let ov←holding [v] (eval o X.env)
   let iv←holding [v,ov] (eval i X.env)
   standAt pos
   holding [v,ov,iv] (setItem ov iv v)
   release [v,ov,iv] []):=by intro _;rfl):PG X (.Subscript o i pos) (Ydu to ti t):=by
 intro pins s σ H v u Q I r h
 rw[ha]
 refine Xb (Bs (thn (ho pins s σ H _ I h) λov s1 qz9=>?_))
 obtain⟨x,H1,I1,r1,q1⟩:=qz9
 refine Xb (Bs (thn (hi pins s1 σ H1 _ I1 q1) λiv s2 qz9=>?_))
 obtain⟨y,H2,I2,r2,q2⟩:=qz9
 refine Xb (wpAny_standAt (Xb (Bs (thn (hs pins s2 σ H2 x y v ov iv u _ I2 r1 r2 r q2) λ_ s3 qz9=>?_))))
 obtain⟨H3,I3,q3⟩:=qz9
 exact wpAny_release ⟨σ,H3,I3,q3⟩
noncomputable def Z54(te:TE)(g:TG):TS:=λD σ H=>te σ H λx H1=>g x σ H1 D.nx
theorem Zzi{tg e:Expr}{te:TE}{g:TG}(he:PE X e te)(hg:PG X tg g)(hs:swapsWithSole [tg] e pos.line X.env=pure false:=by rfl)(hw:swappedStores [tg] e X.env=pure none:=by rfl)
  (h1:(JQ [tg] X.env).map (·.2)=[U3 tg X.env]:=by rfl):PS X (.Assign [tg] e pos) (Z54 te g):=by
 intro pins s σ H D I h
 refine wpAny_Assign_stores (thn (he pins s σ H _ I h) λv s1 qz9=>?_) hs hw
 obtain⟨x,H1,I1,r1,q1⟩:=qz9
 rw[h1]
 exact thn (hg pins s1 σ H1 x v _ I1 r1 q1) λ_ s2 q=>q
theorem Zzl{i:Nat}{x:Str}{e:Expr}{te:TE}{pos':Pos}(hN:X.N.Nodup)(hi:X.N[i]? =some x)(hx:Loc X.env.scope x)(he:PE X e te)(hs:VL e (some (.Name x pos')) pos.line X.env=pure false:=by rfl)(hf:X.fn x=true∨X.env.scope.names.lookup x=some .local:=by first|exact .inl rfl|exact .inr rfl|assumption) :
  PS X (.Assign [.Name x pos'] e pos) (Z54 te (Zul i)):=by
 intro pins s σ H D I h
 refine wpAny_Assign_Name (thn (he pins s σ H _ I h) λv s1 qz9=>?_) hs
 obtain⟨y,H1,I1,r1,q1⟩:=qz9
 exact Zp3 I1 hN hi hx r1 (λs2 I2=>⟨_,H1,I2,q1⟩) hf
end
section
variable {X:Cx}{pos:Pos}
noncomputable def Z4h(c:TT)(tb:TS):TS:=λD σ H=>∃W:Nat->St->Hp->Prop,(∃m,W m σ H)∧∀m σ H,W m σ H ->
 c σ H λb H1=>if b=true then∃N:St->Hp->Prop,(∀σ' H',N σ' H'->∃m',m'<m∧W m' σ' H')∧tb { D with nx:=N,ct:=N,bk:=D.nx } σ H1 else D.nx σ H1
theorem Zyn{c:Expr}{body:List Stmt}{tc:TT}{tb:TS}(hp:PassesOwn (XX X.prog X.w) X.A X.env X.xe)(hc:PT X c tc)(hb:PSs X body tb):PS X (.While c body [] pos) (Z4h tc tb):=by
 intro pins s σ H D I h
 obtain⟨W,⟨m0,w0⟩,turn⟩:=h
 refine wpAny_While (codeAny_whileLoop (λn s'=>∃σ' H',Inv X pins σ' H' s'∧W n σ' H') ?_ m0 ⟨σ,H,I,w0⟩)
 rintro n s1 ⟨σ1,H1,I1,w1⟩
 refine VG hp (thn (hc pins s1 σ1 H1 _ I1 (turn n σ1 H1 w1)) λb s2 qz9=>?_)
 obtain⟨H2,I2,q2⟩:=qz9
 cases b with
 | true=>
  obtain⟨N,hN,q2⟩:=q2
  rw[if_pos rfl]
  refine VG hp (thn (hb pins s2 σ1 H2 _ I2 q2) λf s3 q3=>?_)
  cases f with
  | next=>
   obtain⟨σ3,H3,I3,n3⟩:=q3
   obtain⟨m',hm,w3⟩:=hN σ3 H3 n3
   exact⟨m',hm,σ3,H3,I3,w3⟩
  | cont=>
   obtain⟨σ3,H3,I3,n3⟩:=q3
   obtain⟨m',hm,w3⟩:=hN σ3 H3 n3
   exact⟨m',hm,σ3,H3,I3,w3⟩
  | brk=>exact q3
  | ret v=>exact q3
 | false=>
  rw[if_neg Xp]
  exact wpAny_execs_nil ⟨σ1,H2,I2,q2⟩
end
set_option genInjectivity false in
structure It where
 go:Nat->Hp->Prop
 yld:Nat->Hp->V->Hp->Prop
 stop:Nat->Hp->Prop
noncomputable def Zkb(X:Cx)(pins:List (Addr×Obj))(H:Hp)(b:Addr):Prop :=
 H b=none∧b≠X.env.locals∧b∉X.fs∧(b∈X.ex∨X.s₀.heap.objs.size≤b)∧(∀x c,X.env.cells.lookup x=some c->c≠b)∧∀p∈X.pn ++ pins,p.1≠b
theorem Inv.fpOk{X:Cx}{pins:List (Addr×Obj)}{σ:St}{H H':Hp}{s:Xh}{b:Addr}(I:Inv X pins σ H s)(hb:s.heap.objs.size≤b)(hn:H' b=none):Zkb X pins H' b:=by
 refine⟨hn,XJ (X4 I.lt hb),I.nofs hb,.inr (Qv I.sz hb),λx c e z=>?_,λp hp z=>?_⟩
 ·obtain⟨v,q⟩:=I.cell x c e
  exact absurd (X4 q.lt (by rw[z];exact hb)) (BL _)
 ·exact absurd (X4 (XH (I.pin p hp).1) (by rw[z];exact hb)) (BL _)
structure Turn(P:X6)(w:Qq)(K:Xc)(tg:Expr)(J:It)(fp:List Addr)(it:Addr)(tn:Nat->Heap->Prop):Prop where
 mem:it∈fp
 obj:∀i h,tn i h->∀b∈fp,∃o,h.get? b=some o∧∀v,o.data≠ .cell v
 keep:∀i h h',tn i h->(∀b∈fp,∀o,h.get? b=some o->h'.get? b=some o)->tn i h'
 item:∀(X:Cx),X.prog=P->X.w=w->X.K=K->X.calm=true->∀(i:Nat) (pins:List (Addr×Obj)) (s:Xh) (σ:St) (H:Hp) (E:Xf->Xh->Prop),Inv X pins σ H s->(∀b∈fp,Zkb X pins H b)->tn i s.heap->J.go i H ->
  XC (XX P w) X.A (Ub (.ref it)) (λr s1=>∃u,r=some u∧
   XC (XX P w) X.A (letOwnedTupleGo tg (.ref it) u) (λ_ s2=>∃x H',Inv X pins σ H' s2∧RelV x u∧J.yld i H x H'∧tn (i+1) s2.heap∧∀b∈fp,H' b=none) E s1) E s
 done:∀(X:Cx),X.prog=P->X.w=w->X.K=K->X.calm=true->∀(i:Nat) (pins:List (Addr×Obj)) (s:Xh) (σ:St) (H:Hp) (E:Xf->Xh->Prop),Inv X pins σ H s->(∀b∈fp,Zkb X pins H b)->tn i s.heap->J.stop i H ->
  XC (XX P w) X.A (Ub (.ref it)) (λr s1=>r=none∧Inv X pins σ H s1) E s
 self:∀(A:Qo) (i:Nat) (s:Xh) (Q:Xf->Xh->Prop) (E:Xf->Xh->Prop),tn i s.heap->Q (.ref it) s->XC (XX P w) A (pyIter (.ref it)) Q E s
noncomputable abbrev TI:=St->Hp->(It->Hp->Prop)->Prop
noncomputable def PIE(X:Cx)(pins:List (Addr×Obj))(σ:St)(tg:Expr)(R:It->Hp->Prop)(itv:Xf)(s2:Xh):Prop :=
 ∃(it:Addr) (fp:List Addr) (tn:Nat->Heap->Prop) (J:It) (H':Hp),itv= .ref it∧Inv X pins σ H' s2∧Turn X.prog X.w X.K tg J fp it tn∧tn 0 s2.heap∧(∀b∈fp,Zkb X pins H' b)∧R J H'
noncomputable def PI(X:Cx)(tg iter:Expr)(wi:TI):Prop :=
 ∀(pins:List (Addr×Obj)) (s:Xh) (σ:St) (H:Hp) (R:It->Hp->Prop),Inv X pins σ H s->wi σ H R ->
  XC (XX X.prog X.w) X.A (eval iter X.env) (λv s1=>XC (XX X.prog X.w) X.A (pyIter v) (PIE X pins σ tg R) X.xe s1) X.xe s
theorem Z1u{M:Model}{A:Qo}{E:Xf->Xh->Prop}{s:Xh}{tg:Expr}{it:Addr}{u:Xf}{o:Obj}{n:String}{vs:Array Xf}{Q:Unit->Xh->Prop}(ho:s.heap.get? it=some o)(hc:o.cls= .type n)(hd:o.data= .fields vs)
  (hn:["enumerate","zip","dict_itemiterator","dict_reverseitemiterator","odict_iterator","itertools.zip_longest","itertools.pairwise"].contains n=false) (hQ:Q () s):XC M A (letOwnedTupleGo tg (.ref it) u) Q E s:=by
 unfold letOwnedTupleGo
 cases tg<;>first
  | exact Xl hQ
  | (cases u<;>first
    | exact Xl hQ
    | (refine Xb (wpAny_load ho ?_)
       rw[hc,hd]
       show XC M A (if(["enumerate","zip","dict_itemiterator","dict_reverseitemiterator","odict_iterator","itertools.zip_longest","itertools.pairwise"].contains n&&vs[0]? ==some (JR _))=true then _ else _) Q E s
       rw[if_neg (by intro h;rw[hn,Bool.false_and]at h;cases h)]
       exact Xl hQ))
noncomputable def Itl(K:Xc)(a:Addr):It :=
 ⟨λi H=>∃xs x,SqL K H a xs∧xs[i]? =some x,λi H x H'=>H'=H∧∀xs,SqL K H a xs->xs[i]? =some x,λi H=>∃xs,SqL K H a xs∧xs.length≤i⟩
noncomputable def Itt(K:Xc)(a:Addr):It :=
 ⟨λi H=>∃xs x,SqT K H a xs∧xs[i]? =some x,λi H x H'=>H'=H∧∀xs,SqT K H a xs->xs[i]? =some x,λi H=>∃xs,SqT K H a xs∧xs.length≤i⟩
noncomputable def Itr(lo:Int)(n:Nat):It:=⟨λi _=>i<n,λi H x H'=>H'=H∧x= .int (lo+i),λi _=>n≤i⟩
theorem Zt6{P:X6}{w:Qq}{K:Xc}{tg:Expr}(a it:Addr):Turn P w K tg (Itl K a) [it] it (λi h=>h.IsListIter it a i) where
 mem:=by simp
 obj:=λi h st b hb=>by
  have e:b=it:=by simpa using hb
  subst e
  obtain⟨o,e,c,d⟩:=st
  exact⟨o,e,λv z=>by rw[d]at z;cases z⟩
 keep:=λi h h' st k=>st.at λo e=>k it (by simp) o e
 item:=by
  intro X hP hw hK hc i pins s σ H E I hf st hg
  subst hP hw hK
  obtain⟨xs,x,hq,hx⟩:=hg
  obtain⟨its,rv,p,hz⟩:=I.list hq
  obtain⟨u,hu,ru⟩:=rv.get hx
  obtain⟨f0,f1,f2,f3,f4,f5⟩:=hf it (by simp)
  refine wpAny_pyNext_list_item st p.isList (x:=u) (by simpa using hu) λh' st' sb=>?_
  have I1:Inv X pins σ H { s with heap:=h' }:=I.turned (t':=s.toks) (λb o hb e=>(sb.2 b hb).trans e) f0 f1 f3 f4 f5
  obtain⟨o,e,c,d⟩:=id st'
  exact⟨u,rfl,Z1u (s:={ s with heap:=h' }) e c d (by decide) ⟨x,H,I1,ru,⟨rfl,λys hy=>by rw[I.list_inj hy hq];exact hx⟩,st',λb hb=>(hf b hb).1⟩⟩
 done:=by
  intro X hP hw hK hc i pins s σ H E I hf st hg
  subst hP hw hK
  obtain⟨xs,hq,hx⟩:=hg
  obtain⟨its,rv,p,hz⟩:=I.list hq
  obtain⟨f0,f1,f2,f3,f4,f5⟩:=hf it (by simp)
  have hl:=rv.length
  exact wpAny_pyNext_list_end (I.ok.hd hc) st p.isList (by simp;omega) λh' eb=>⟨rfl,I.turned (t':=s.toks) (λb o hb e=>eb b o hb e) f0 f1 f3 f4 f5⟩
 self:=λ_ _ _ _ _ st h=>wpAny_pyIter_listiter st h
theorem Zrl{P:X6}{w:Qq}{K:Xc}{tg:Expr}(a it:Addr):Turn P w K tg (Itt K a) [it] it (λi h=>h.IsTupleIter it a i) where
 mem:=by simp
 obj:=λi h st b hb=>by
  have e:b=it:=by simpa using hb
  subst e
  obtain⟨o,e,c,d⟩:=st
  exact⟨o,e,λv z=>by rw[d]at z;cases z⟩
 keep:=λi h h' st k=>st.at λo e=>k it (by simp) o e
 item:=by
  intro X hP hw hK hc i pins s σ H E I hf st hg
  subst hP hw hK
  obtain⟨xs,x,hq,hx⟩:=hg
  obtain⟨its,rv,p,hz⟩:=I.tuple hq
  obtain⟨u,hu,ru⟩:=rv.get hx
  obtain⟨f0,f1,f2,f3,f4,f5⟩:=hf it (by simp)
  refine wpAny_pyNext_tuple_item st (show s.heap.IsTuple a its.toArray from p) (x:=u) (by simpa using hu) λh' st' sb=>?_
  have I1:Inv X pins σ H { s with heap:=h' }:=I.turned (t':=s.toks) (λb o hb e=>(sb.2 b hb).trans e) f0 f1 f3 f4 f5
  obtain⟨o,e,c,d⟩:=id st'
  exact⟨u,rfl,Z1u (s:={ s with heap:=h' }) e c d (by decide) ⟨x,H,I1,ru,⟨rfl,λys hy=>by rw[I.tuple_inj hy hq];exact hx⟩,st',λb hb=>(hf b hb).1⟩⟩
 done:=by
  intro X hP hw hK hc i pins s σ H E I hf st hg
  subst hP hw hK
  obtain⟨xs,hq,hx⟩:=hg
  obtain⟨its,rv,p,hz⟩:=I.tuple hq
  obtain⟨f0,f1,f2,f3,f4,f5⟩:=hf it (by simp)
  have hl:=rv.length
  exact wpAny_pyNext_tuple_end (I.ok.hd hc) st (show s.heap.IsTuple a its.toArray from p) (by simp;omega) λh' eb=>⟨rfl,I.turned (t':=s.toks) (λb o hb e=>eb b o hb e) f0 f1 f3 f4 f5⟩
 self:=λ_ _ _ _ _ st h=>wpAny_pyIter_tupleiter st h
theorem Zq0{P:X6}{w:Qq}{K:Xc}{tg:Expr}(it:Addr)(lo:Int)(n:Nat):Turn P w K tg (Itr lo n) [it] it (λi h=>IsRangeIter h it (lo+(i:Nat)*1) ((n:Int)-(i:Nat)) 1) where
 mem:=by simp
 obj:=λi h st b hb=>by
  have e:b=it:=by simpa using hb
  subst e
  exact⟨_,st,λv z=>by
   have z':Data.fields _=Data.cell v:=z
   cases z'⟩
 keep:=λi h h' st k=>k it (by simp) _ st
 item:=by
  intro X hP hw hK hc i pins s σ H E I hf st hg
  subst hP hw hK
  obtain⟨f0,f1,f2,f3,f4,f5⟩:=hf it (by simp)
  have W:=Walks.range (prog:=X.prog) (w:=X.w) (I.ok.hd hc) it lo 1 n
  refine W.item i s _ _ hg st λv h' tk hv st' kk=>?_
  obtain⟨t,rfl⟩:=hv
  have I1:Inv X pins σ H { s with heap:=h',toks:=tk }:=I.turned (λb o hb e=>kk b o (by simpa using hb) e) f0 f1 f3 f4 f5
  refine⟨_,rfl,Z1u (s:={ s with heap:=h',toks:=tk }) (n :="range_iterator") st' rfl rfl (by decide) ⟨.int (lo+i),H,I1,⟨t,?_⟩,⟨rfl,rfl⟩,st',λb hb=>(hf b hb).1⟩⟩
  rw[Int.mul_one]
 done:=by
  intro X hP hw hK hc i pins s σ H E I hf st hg
  subst hP hw hK
  obtain⟨f0,f1,f2,f3,f4,f5⟩:=hf it (by simp)
  exact wpAny_pyNext_range_end (I.ok.hd hc) st (by have:n≤i:=hg;omega) λh' eb=>⟨rfl,I.turned (t':=s.toks) (λb o hb e=>eb b o hb e) f0 f1 f3 f4 f5⟩
 self:=λ_ _ _ _ _ st h=>wpAny_pyIter_rangeiter st h
section
variable {X:Cx}{tg:Expr}
noncomputable def Z4y(K:Xc)(tl:TE):TI:=λσ H R=>tl σ H λx H1=>∃a,x= .ref a∧(∃xs,SqL K H1 a xs)∧R (Itl K a) H1
noncomputable def Ycr(K:Xc)(tl:TE):TI:=λσ H R=>tl σ H λx H1=>∃a,x= .ref a∧(∃xs,SqT K H1 a xs)∧R (Itt K a) H1
theorem Z3z{l:Expr}{tl:TE}(hl:PE X l tl):PI X tg l (Z4y X.K tl):=by
 intro pins s σ H R I h
 refine thn (hl pins s σ H _ I h) λv s1 qz9=>?_
 obtain⟨x,H1,I1,r1,q1⟩:=qz9
 obtain⟨a,e,⟨xs,hq⟩,q⟩:=q1
 subst e
 cases r1
 obtain⟨its,rv,p,hz⟩:=I1.list hq
 refine wpAny_pyIter_list p.isList ?_
 refine⟨s1.heap.objs.size,[s1.heap.objs.size],_,_,H1,rfl,I1.kept (t':=s1.toks) λb o e=>Xg _ e,Zt6 a _,⟨_,Xx _ rfl,rfl,rfl⟩,λb hb=>?_,q⟩
 have e:b=s1.heap.objs.size:=by simpa using hb
 subst e
 exact I1.fpOk (XN _) (I1.hok.fresh (XN _))
theorem Z6i{l:Expr}{tl:TE}(hl:PE X l tl):PI X tg l (Ycr X.K tl):=by
 intro pins s σ H R I h
 refine thn (hl pins s σ H _ I h) λv s1 qz9=>?_
 obtain⟨x,H1,I1,r1,q1⟩:=qz9
 obtain⟨a,e,⟨xs,hq⟩,q⟩:=q1
 subst e
 cases r1
 obtain⟨its,rv,p,hz⟩:=I1.tuple hq
 refine wpAny_pyIter_tuple (show s1.heap.IsTuple a its.toArray from p) ?_
 refine⟨s1.heap.objs.size,[s1.heap.objs.size],_,_,H1,rfl,I1.kept (t':=s1.toks) λb o e=>Xg _ e,Zrl a _,⟨_,Xx _ rfl,rfl,rfl⟩,λb hb=>?_,q⟩
 have e:b=s1.heap.objs.size:=by simpa using hb
 subst e
 exact I1.fpOk (XN _) (I1.hok.fresh (XN _))
theorem Zpk{pins:List (Addr×Obj)}{σ:St}{H:Hp}{s:Xh}{R:It->Hp->Prop}{E:Xf->Xh->Prop}{lo hi:Int}{t u v:Tok}{tk:Nat}(I:Inv X pins σ H s)(h1:-(2^62)≤lo)(h2:lo<2^62)(h3:-(2^62)≤hi)(h4:hi<2^62)
  (q:R (Itr lo (hi-lo).toNat) H):XC (XX X.prog X.w) X.A (pyIter (.ref s.heap.objs.size)) (PIE X pins σ tg R) E { s with heap:=s.heap.push { cls:=.type "range",data:=.fields #[.int lo t,.int hi u,.int 1 v] },toks:=tk }:=by
 refine wpAny_pyIter_range (IsRange.new ..) (small_one h1 h2 h3 h4) ?_
 have I1:Inv X pins σ H { s with heap:=s.heap.push { cls:=.type "range",data:=.fields #[.int lo t,.int hi u,.int 1 v] },toks:=tk }:=I.kept λb o e=>Xg _ e
 refine⟨(s.heap.push { cls:=.type "range",data:=.fields #[.int lo t,.int hi u,.int 1 v] }).objs.size,[(s.heap.push { cls:=.type "range",data:=.fields #[.int lo t,.int hi u,.int 1 v] }).objs.size],_,_,H,rfl,
  I1.kept (t':=tk) λb o e=>Xg _ e,Zq0 _ lo (hi-lo).toNat,?_,λb hb=>?_,q⟩
 ·have e1:lo+((0:Nat):Int)*1=lo:=by simp
  have e2:(((hi-lo).toNat:Nat):Int)-((0:Nat):Int)=Builtin.Range.rangeSize lo hi 1:=by rw[rangeSize_one];split<;>omega
  show IsRangeIter _ _ (lo+((0:Nat):Int)*1) ((((hi-lo).toNat:Nat):Int)-((0:Nat):Int)) 1
  rw[e1,e2]
  exact Xx _ rfl
 ·have e:b=(s.heap.push { cls:=.type "range",data:=.fields #[.int lo t,.int hi u,.int 1 v] }).objs.size:=by simpa using hb
  subst e
  exact I1.fpOk (XN _) (I1.hok.fresh (XN _))
noncomputable def Yan(ta:TA):TI:=λσ H R=>ta σ H λvs H1=>∃j:Int,vs=[.int j]∧-(2^62)≤j∧j<2^62∧R (Itr 0 j.toNat) H1
noncomputable def Yav(ta:TA):TI:=λσ H R=>ta σ H λvs H1=>∃i j:Int,vs=[.int i,.int j]∧(-(2^62)≤i∧i<2^62∧-(2^62)≤j∧j<2^62)∧R (Itr i (j-i).toNat) H1
theorem Zrw{a:Expr}{ta:TA}{p pos:Pos}(hg:Gl X "range")(hm:X.mg "range"=none)(ha:PA X [a] ta)(hs:Xo [a] X.env=[(false,eval a X.env)]:=by rfl):PI X tg (.Call (.Name "range" p) [a] [] pos) (Yan ta):=by
 intro pins s σ H R I h
 refine Call_ (Zgz I hg hm boot_range (Bp (thn (ha pos pins s σ H _ I h) λus s1 qz9=>?_) hs rfl))
 obtain⟨vs,H1,I1,r1,q1⟩:=qz9
 obtain⟨j,e,q1,q2,q⟩:=q1
 subst e
 cases r1 with
 | cons r rr=>
  cases rr
  obtain⟨t,rfl⟩:=r
  exact call_range_1 (Zpk I1 (by omega) (by omega) q1 q2 (by simpa using q))
theorem Ztc{a b:Expr}{ta:TA}{p pos:Pos}(hg:Gl X "range")(hm:X.mg "range"=none)(ha:PA X [a,b] ta)(hs:Xo [a,b] X.env=[(false,eval a X.env),(false,eval b X.env)]:=by rfl)(hs2:Xo [b] X.env=[(false,eval b X.env)]:=by rfl) :
  PI X tg (.Call (.Name "range" p) [a,b] [] pos) (Yav ta):=by
 intro pins s σ H R I h
 refine Call_ (Zgz I hg hm boot_range (Bp (thn (ha pos pins s σ H _ I h) λus s1 ⟨vs,H1,I1,r1,q1⟩=>?_) (by rw[hs,hs2]) (by rw[hs2];rfl)))
 obtain⟨i,j,e,⟨q1,q2,q3,q4⟩,q⟩:=q1
 subst e
 cases r1 with
 | cons r rr=>
  cases rr with
  | cons r' rr=>
   cases rr
   obtain⟨t,rfl⟩:=r
   obtain⟨t',rfl⟩:=r'
   exact call_range_2 (Zpk I1 q1 q2 q3 q4 q)
noncomputable def Yfx(wi:TI)(g:TG)(tb:TS):TS:=λD σ H=>wi σ H λJ H1=>∃W:Nat->Nat->St->Hp->Prop,(∃m,W 0 m σ H1)∧∀i m σ H,W i m σ H ->
 (J.stop i H∧D.nx σ H)∨(J.go i H∧∃N:St->Hp->Prop,(∀σ' H',N σ' H'->∃m',m'<m∧W (i+1) m' σ' H')∧∀x H',J.yld i H x H'->g x σ H' λσ2 H2=>tb { D with nx:=N,ct:=N,bk:=D.nx } σ2 H2)
noncomputable def Znd(fp:List Addr)(h:Heap):List (Addr×Obj):=fp.filterMap λb=>(h.get? b).map λo=>(b,o)
theorem Zd8{fp:List Addr}{h:Heap}{b:Addr}{o:Obj}(hb:b∈fp)(e:h.get? b=some o):(b,o)∈Znd fp h:=List.mem_filterMap.mpr ⟨b,hb,by rw[e];rfl⟩
theorem Zr4{fp:List Addr}{h:Heap}{p:Addr×Obj}(hp:p∈Znd fp h):p.1∈fp∧h.get? p.1=some p.2:=by
 obtain⟨b,hb,e⟩:=List.mem_filterMap.mp hp
 cases q:h.get? b with
 | none=>rw[q]at e;cases e
 | some o=>
  rw[q]at e
  have e':(b,o)=p:=QD e
  subst e'
  exact⟨hb,q⟩
theorem Inv.pinned{pins:List (Addr×Obj)}{σ:St}{H:Hp}{s:Xh}{fp:List Addr}(I:Inv X pins σ H s)(hf:∀b∈fp,Zkb X pins H b)(ho:∀b∈fp,∃o,s.heap.get? b=some o∧∀v,o.data≠ .cell v):Inv X (pins ++ Znd fp s.heap) σ H s :=
 I.pins_of λp hp=>(QJ.mp hp).elim (λz=>I.pin p (Qc _ z)) λz=>by
  obtain⟨hb,e⟩:=Zr4 z
  obtain⟨f0,f1,f2,_⟩:=hf p.1 hb
  obtain⟨o,e',d⟩:=ho p.1 hb
  rw[e]at e';cases e'
  exact⟨e,f0,f1,f2,d⟩
theorem Inv.unpinned{pins pl:List (Addr×Obj)}{σ:St}{H:Hp}{s:Xh}(I:Inv X (pins ++ pl) σ H s):Inv X pins σ H s:=I.pins_of λp hp=>I.pin p (Qc _ (Vi _ hp))
theorem Z7s{iter:Expr}{body:List Stmt}{wi:TI}{g:TG}{tb:TS}{pos:Pos}(hp:PassesOwn (XX X.prog X.w) X.A X.env X.xe)(hc:X.calm=true)(hi:PI X tg iter wi)(hg:PG X tg g)(hb:PSs X body tb)
  (hs:∀x,Bf iter X.env x=pure x:=by intro _;rfl):PS X (.For tg iter body [] pos) (Yfx wi g tb):=by
 intro pins s σ H D I h
 refine wpAny_For (thn (hi pins s σ H _ I h) λv s1 h1=>thn h1 λitv s2 h2=>?_) hs
 obtain⟨it,fp,tn,J,H2,e,I2,T,st2,f2,W,⟨m0,w0⟩,turn⟩:=h2
 subst e
 -- what stays true of the iterator's objects through the loop
 have stat:∀{H':Hp},(∀b∈fp,H' b=none)->∀b∈fp,Zkb X pins H' b:=λhn b hb=>⟨hn b hb,(f2 b hb).2⟩
 refine codeAny_forLoop_any (λn s'=>∃i σ' H',Inv X pins σ' H' s'∧tn i s'.heap∧(∀b∈fp,H' b=none)∧W i n σ' H') ?_ m0 ⟨0,σ,H2,I2,st2,λb hb=>(f2 b hb).1,w0⟩
 rintro n s3 ⟨i,σ3,H3,I3,st3,fr3,w3⟩
 rcases turn i n σ3 H3 w3 with⟨stop,qn⟩|⟨go,N,hN,step⟩
 ·refine VG hp (thn (T.done X rfl rfl rfl hc i pins s3 σ3 H3 X.xe I3 (stat fr3) st3 stop) λr s4 qz9=>?_)
  obtain⟨hr,I4⟩:=qz9
  subst hr
  exact wpAny_execs_nil ⟨σ3,H3,I4,qn⟩
 ·refine VG hp (thn (T.item X rfl rfl rfl hc i pins s3 σ3 H3 X.xe I3 (stat fr3) st3 go) λr s4 qz9=>?_)
  obtain⟨u,hr,h4⟩:=qz9
  subst hr
  refine VG hp (thn h4 λ_ s5 qz9=>?_)
  obtain⟨x,H5,I5,r5,y5,st5,fr5⟩:=qz9
  have I5':=I5.pinned (stat fr5) (T.obj _ _ st5)
  refine VG hp (thn (hg _ s5 σ3 H5 x u _ I5' r5 (step x H5 y5)) λ_ s6 qz9=>?_)
  obtain⟨σ6,H6,I6,q6⟩:=qz9
  refine VG hp (thn (hb _ s6 σ6 H6 _ I6 q6) λf s7 q7=>?_)
  have again:∀{σ7:St} {H7:Hp},Inv X (pins ++ Znd fp s5.heap) σ7 H7 s7->N σ7 H7->∃m,m<n∧∃i σ' H',Inv X pins σ' H' s7∧tn i s7.heap∧(∀b∈fp,H' b=none)∧W i m σ' H':=fun{σ7 H7} I7 n7=>by
   obtain⟨m',hm,w7⟩:=hN σ7 H7 n7
   refine⟨m',hm,i+1,σ7,H7,I7.unpinned,T.keep _ _ _ st5 λb hb o e=>(I7.pin (b,o) (Qc _ (Qc _ (Zd8 hb e)))).1,λb hb=>?_,w7⟩
   obtain⟨o,e,d⟩:=T.obj _ _ st5 b hb
   exact(I7.pin (b,o) (Qc _ (Qc _ (Zd8 hb e)))).2.1
  cases f with
  | next=>obtain⟨σ7,H7,I7,n7⟩:=q7;exact again I7 n7
  | cont=>obtain⟨σ7,H7,I7,n7⟩:=q7;exact again I7 n7
  | brk=>obtain⟨σ7,H7,I7,q7⟩:=q7;exact⟨σ7,H7,I7.unpinned,q7⟩
  | ret v=>obtain⟨x7,σ7,H7,I7,r7,q7⟩:=q7;exact⟨x7,σ7,H7,I7.unpinned,r7,q7⟩
end
noncomputable abbrev R2:=V->V->Hp->VK->Prop
noncomputable def OpR(X:Cx)(f:Xf->Xf->Sem Xf)(r:R2):Prop :=
 ∀(pins:List (Addr×Obj)) (s:Xh) (σ:St) (H:Hp) (x y:V) (v u:Xf) (Q:VK),Inv X pins σ H s->RelV x v->RelV y u->r x y H Q ->
  XC (XX X.prog X.w) X.A (f v u) (EP X pins σ Q) X.xe s
noncomputable def UnR(X:Cx)(f:Xf->Sem Xf)(r:V->Hp->VK->Prop):Prop :=
 ∀(pins:List (Addr×Obj)) (s:Xh) (σ:St) (H:Hp) (x:V) (v:Xf) (Q:VK),Inv X pins σ H s->RelV x v->r x H Q ->
  XC (XX X.prog X.w) X.A (f v) (EP X pins σ Q) X.xe s
noncomputable def Zdt(X:Cx)(f:Xf)(r:List V->Hp->VK->Prop):Prop :=
 ∀(pins:List (Addr×Obj)) (s:Xh) (σ:St) (H:Hp) (xs:List V) (us:List Xf) (Q:VK),Inv X pins σ H s->Vals xs us->r xs H Q ->
  XC (XX X.prog X.w) X.A (call f us) (EP X pins σ Q) X.xe s
noncomputable def Yfq(X:Cx)(r:V->Hp->(Bool->Hp->Prop)->Prop):Prop :=
 ∀(pins:List (Addr×Obj)) (s:Xh) (σ:St) (H:Hp) (x:V) (v:Xf) (Q:Bool->Hp->Prop),Inv X pins σ H s->RelV x v->r x H Q ->
  XC (XX X.prog X.w) X.A (truthy v) (TP X pins σ Q) X.xe s
noncomputable def tOp(r:R2)(ta tb:TE):TE:=λσ H Q=>ta σ H λx H1=>tb σ H1 λy H2=>r x y H2 Q
noncomputable def tUn(r:V->Hp->VK->Prop)(ta:TE):TE:=λσ H Q=>ta σ H λx H1=>r x H1 Q
noncomputable def rI(C:Int->Int->Prop)(g:Int->Int->V):R2:=λx y H Q=>∃i j,x= .int i∧y= .int j∧C i j∧Q (g i j) H
noncomputable def rI0(g:Int->Int->V):R2:=λx y H Q=>∃i j,x= .int i∧y= .int j∧Q (g i j) H
noncomputable def rU(g:Int->V):V->Hp->VK->Prop:=λx H Q=>∃i,x= .int i∧Q (g i) H
section
variable {X:Cx}{a b c:Expr}{ta tb tc:TE}{pos:Pos}
theorem Yad(ha:PE X a ta)(hb:PE X b tb){pins:List (Addr×Obj)}{s:Xh}{σ:St}{H:Hp}{R:V->V->Hp->Prop}(I:Inv X pins σ H s)
  (h:ta σ H λx H1=>tb σ H1 λy H2=>R x y H2) {Q:Xf->Xh->Prop} {f:Xf->Xf->Sem Xf}
  (hf:∀v u s2 x y H2,Inv X pins σ H2 s2->RelV x v->RelV y u->R x y H2->XC (XX X.prog X.w) X.A (f v u) Q X.xe s2) :
  XC (XX X.prog X.w) X.A (eval a X.env) (λv s₁=>XC (XX X.prog X.w) X.A (eval b X.env) (λu s₂=>XC (XX X.prog X.w) X.A (f v u) Q X.xe s₂) X.xe s₁) X.xe s:=by
 refine thn (ha pins s σ H _ I h) λv s1 qz9=>?_
 obtain⟨x,H1,I1,r1,q1⟩:=qz9
 refine thn (hb pins s1 σ H1 _ I1 q1) λu s2 qz9=>?_
 obtain⟨y,H2,I2,r2,q2⟩:=qz9
 exact hf v u s2 x y H2 I2 r1 r2 q2
theorem Z15{op:Operator}{r:R2}(ho:OpR X (Uh op) r)(ha:PE X a ta)(hb:PE X b tb):PE X (.BinOp a op b pos) (tOp r ta tb):=by
 intro pins s σ H Q I h
 exact wpAny_BinOp (Yad ha hb I h λv u s2 x y H2 I2 rx ry q=>ho pins s2 σ H2 x y v u Q I2 rx ry q)
theorem Z9w{op:UnaryOp}{r:V->Hp->VK->Prop}(ho:UnR X (unaryOp op) r)(ha:PE X a ta):PE X (.UnaryOp op a pos) (tUn r ta):=by
 intro pins s σ H Q I h
 refine UnaryOp_ (thn (ha pins s σ H _ I h) λv s1 qz9=>?_)
 obtain⟨x,H1,I1,r1,q1⟩:=qz9
 exact ho pins s1 σ H1 x v Q I1 r1 q1
theorem opI{f:Xf->Xf->Sem Xf}{C:Int->Int->Prop}{g:Int->Int->Int}
  (rule:∀(i j:Int) (t u:Tok) (s:Xh) (Q:Xf->Xh->Prop) (E:Xf->Xh->Prop),C i j->Q (.int (g i j) s.toks) { s with toks:=s.toks+1 }->XC (XX X.prog X.w) X.A (f (.int i t) (.int j u)) Q E s) :
  OpR X f (rI C λi j=>.int (g i j)):=by
 intro pins s σ H x y v u Q I rx ry h
 obtain⟨i,j,rfl,rfl,hc,q⟩:=h
 obtain⟨t,rfl⟩:=rx
 obtain⟨t',rfl⟩:=ry
 exact rule i j t t' s _ _ hc ⟨.int (g i j),H,I.tok _,⟨_,rfl⟩,q⟩
theorem Ycq{f:Xf->Xf->Sem Xf}{g:Int->Int->Int}
  (rule:∀(i j:Int) (t u:Tok) (s:Xh) (Q:Xf->Xh->Prop) (E:Xf->Xh->Prop),Q (.int (g i j) s.toks) { s with toks:=s.toks+1 }->XC (XX X.prog X.w) X.A (f (.int i t) (.int j u)) Q E s) :
  OpR X f (rI0 λi j=>.int (g i j)):=by
 intro pins s σ H x y v u Q I rx ry h
 obtain⟨i,j,rfl,rfl,q⟩:=h
 obtain⟨t,rfl⟩:=rx
 obtain⟨t',rfl⟩:=ry
 exact rule i j t t' s _ _ ⟨.int (g i j),H,I.tok _,⟨_,rfl⟩,q⟩
theorem Z9j{f:Xf->Xf->Sem Xf}{g:Int->Int->Bool}
  (rule:∀(i j:Int) (t u:Tok) (s:Xh) (Q:Xf->Xh->Prop) (E:Xf->Xh->Prop),Q (.bool (g i j)) s->XC (XX X.prog X.w) X.A (f (.int i t) (.int j u)) Q E s) :
  OpR X f (rI0 λi j=>.bl (g i j)):=by
 intro pins s σ H x y v u Q I rx ry h
 obtain⟨i,j,rfl,rfl,q⟩:=h
 obtain⟨t,rfl⟩:=rx
 obtain⟨t',rfl⟩:=ry
 exact rule i j t t' s _ _ ⟨.bl (g i j),H,I,rfl,q⟩
noncomputable def Z85(i j:Int):Prop:=0≤j∧j≤1000000∧i.natAbs<2^64
noncomputable def CMul(i j:Int):Prop:=(-(2^64)<i∧i<2^64)∨(-(2^64)<j∧j<2^64)
theorem CMul.ok{i j:Int}(h:CMul i j):IntMulOk i j:=by
 rcases h with⟨h1,h2⟩|⟨h1,h2⟩
 ·exact .of_left (intBits_le_64 h1 h2)
 ·exact .of_right (intBits_le_64 h1 h2)
theorem Z4g:OpR X (Uh .Add) (rI0 λi j=>.int (i+j)):=Ycq λ_ _ _ _ _ _ _ q=>add_int q
theorem Zv0:OpR X (Uh .Sub) (rI0 λi j=>.int (i-j)):=Ycq λ_ _ _ _ _ _ _ q=>sub_int q
theorem Z3s:OpR X (Uh .Mod) (rI (λ_ j=>j≠0) λi j=>.int (i.fmod j)):=opI λ_ _ _ _ _ _ _ hc q=>mod_int' hc q
theorem Z8o:OpR X (Uh .Pow) (rI Z85 λi j=>.int (i^j.toNat)):=opI λ_ _ _ _ _ _ _ hc q=>pow_int_small hc.1 hc.2.1 hc.2.2 q
theorem unI{f:Xf->Sem Xf}{g:Int->Int}
  (rule:∀(i:Int) (t:Tok) (s:Xh) (Q:Xf->Xh->Prop) (E:Xf->Xh->Prop),Q (.int (g i) s.toks) { s with toks:=s.toks+1 }->XC (XX X.prog X.w) X.A (f (.int i t)) Q E s) :
  UnR X f (rU λi=>.int (g i)):=by
 intro pins s σ H x v Q I rx h
 obtain⟨i,rfl,q⟩:=h
 obtain⟨t,rfl⟩:=rx
 exact rule i t s _ _ ⟨.int (g i),H,I.tok _,⟨_,rfl⟩,q⟩
theorem Z6d:UnR X (unaryOp .USub) (rU λi=>.int (-i)):=unI λ_ _ _ _ _ q=>neg_int q
end
section
variable {X:Cx}{a b c:Expr}{ta tb tc:TE}{pos:Pos}
theorem Zy0{pins:List (Addr×Obj)}{σ:St}{H:Hp}{s:Xh}{Q:VK}{k k':Bool}(I:Inv X pins σ H s)(q:Q (.bl k) H)(e:k=k'):EP X pins σ Q (.bool k') s:=by
 subst e
 exact⟨.bl k,H,I,rfl,q⟩
theorem Zqj:OpR X (QX .Lt) (rI0 λi j=>.bl (decide (i<j))):=Z9j λ_ _ _ _ _ _ _ q=>lt_int q
theorem Yay:OpR X (QX .LtE) (rI0 λi j=>.bl (decide (i≤j))):=Z9j λ_ _ _ _ _ _ _ q=>le_int q
theorem Ya5:OpR X (QX .Gt) (rI0 λi j=>.bl (decide (j<i))):=Z9j λ_ _ _ _ _ _ _ q=>gt_int q
theorem Z90:OpR X (QX .GtE) (rI0 λi j=>.bl (decide (j≤i))):=Z9j λ_ _ _ _ _ _ _ q=>ge_int q
theorem Z6x:OpR X (QX .Is) (λx y H Q=>y= .non∧Q (.bl (decide (x= .non))) H):=by
 intro pins s σ H x y v u Q I rx ry h
 obtain⟨rfl,q⟩:=h
 cases ry
 refine is_none_gen (Zy0 I q ?_)
 cases x<;>first
  | (cases rx;rfl)
  | (obtain⟨t,rfl⟩:=rx;rfl)
theorem Zsq:OpR X (QX .IsNot) (λx y H Q=>y= .non∧Q (.bl (!decide (x= .non))) H):=by
 intro pins s σ H x y v u Q I rx ry h
 obtain⟨rfl,q⟩:=h
 cases ry
 refine isnot_none_gen (Zy0 I q ?_)
 cases x<;>first
  | (cases rx;rfl)
  | (obtain⟨t,rfl⟩:=rx;rfl)
theorem Zai(b:Expr){op:CmpOp}(h:op≠ .In:=by decide)(h2:op≠ .NotIn:=by decide):U7 op b=false:=by
 have e1:(op==CmpOp.In)=false:=by cases op<;>first|rfl|exact absurd rfl h
 have e2:(op==CmpOp.NotIn)=false:=by cases op<;>first|rfl|exact absurd rfl h2
 cases b<;>simp[U7,e1,e2]
theorem Z0w{op:CmpOp}{r:R2}(ho:OpR X (QX op) r)(ha:PE X a ta)(hb:PE X b tb)(hm:U7 op b=false):PE X (.Compare a [op] [b] pos) (tOp r ta tb):=by
 intro pins s σ H Q I h
 exact wpAny_Compare1 (Yad ha hb I h λv u s2 x y H2 I2 rx ry q=>ho pins s2 σ H2 x y v u Q I2 rx ry q) hm
noncomputable def Z1w(t:TE):TT:=λσ H Q=>t σ H λx H'=>∃k,x= .bl k∧Q k H'
theorem Z26{op:CmpOp}{r:R2}(ho:OpR X (QX op) r)(ha:PE X a ta)(hb:PE X b tb)(hm:U7 op b=false):PT X (.Compare a [op] [b] pos) (Z1w (tOp r ta tb)):=by
 intro pins s σ H Q I h
 refine wpAny_isTrue_Compare1 (thn (ha pins s σ H _ I h) λv s1 ⟨x,H1,I1,r1,q1⟩=>thn (hb pins s1 σ H1 _ I1 q1) λu s2 ⟨y,H2,I2,r2,q2⟩=>
  thn (ho pins s2 σ H2 x y v u _ I2 r1 r2 q2) λc s3 ⟨z,H3,I3,r3,k,e,q3⟩=>?_) hm
 subst e
 cases r3
 exact Bx ⟨H3,I3,q3⟩
noncomputable def Ycb(K:Xc)(x:V)(H:Hp)(k:Bool):Prop :=
 match x with
 | .non=>k=false
 | .bl b=>k=b
 | .int i=>k=(i !=0)
 | .str y=>y.length≤Xy∧k=((y.length:Int) !=0)
 | .byt y=>y.size≤Xy∧k=((y.size:Int) !=0)
 | .ref p=>(∃xs,SqL K H p xs∧k= !xs.isEmpty)∨(∃xs,SqT K H p xs∧k= !xs.isEmpty)∨∃kvs,H p=some (.dK kvs)∧k= !kvs.isEmpty
 | _=>False
theorem Zri{κ:Type}{kvs:List (κ×V)}{vs:List (κ×Xf)}(r:KV kvs vs):(!vs.isEmpty)= !kvs.isEmpty:=by
 cases r<;>rfl
theorem Zjp{xs:List V}{its:List Xf}(r:Vals xs its):(!its.toArray.isEmpty)= !xs.isEmpty:=by
 cases r<;>simp
theorem Zjf:(Xy:Nat)<2^63:=by rw[Qa];decide
theorem Z58:Yfq X (λx H Q=>∃k,Ycb X.K x H k∧Q k H):=by
 intro pins s σ H x v Q I rx h
 obtain⟨k,e,q⟩:=h
 have hl:=Zjf
 have hs:Xy=16777216:=Qa
 cases x with
 | non=>
  cases rx
  have e':k=false:=e
  subst e'
  exact truthy_none ⟨H,I,q⟩
 | bl b=>
  cases rx
  have e':k=b:=e
  subst e'
  exact Bx ⟨H,I,q⟩
 | int i=>
  obtain⟨t,rfl⟩:=rx
  have e':k=(i !=0):=e
  subst e'
  exact PySem.P.truthy_int ⟨H,I,q⟩
 | str y=>
  obtain⟨t,rfl⟩:=rx
  obtain⟨hy,e'⟩:y.length≤Xy∧k=((y.length:Int) !=0):=e
  subst e'
  exact PySem.P.truthy_str (by omega) ⟨H,I.tok _,q⟩
 | byt y=>
  obtain⟨t,rfl⟩:=rx
  obtain⟨hy,e'⟩:y.size≤Xy∧k=((y.size:Int) !=0):=e
  subst e'
  exact PySem.W.truthy_bytes (by omega) ⟨H,I.tok _,q⟩
 | ref p=>
  cases rx
  have e':(∃xs,SqL X.K H p xs∧k= !xs.isEmpty)∨(∃xs,SqT X.K H p xs∧k= !xs.isEmpty)∨∃kvs,H p=some (.dK kvs)∧k= !kvs.isEmpty:=e
  rcases e' with⟨xs,hx,e'⟩|⟨xs,hx,e'⟩|⟨kvs,hx,e'⟩
  ·subst e'
   obtain⟨its,r,pl,hz⟩:=I.list hx
   have hlen:=r.length
   exact wpAny_truthy_list pl.isList (by simp only[Xz];omega) ⟨H,I.tok _,by rw[Zjp r];exact q⟩
  ·subst e'
   obtain⟨its,r,pl,hz⟩:=I.tuple hx
   have hlen:=r.length
   exact truthy_tuple pl (by simp only[Xz];omega) ⟨H,I.tok _,by rw[Zjp r];exact q⟩
  ·subst e'
   obtain⟨hz,hS,vs,r,m⟩:kvs.length≤Xy∧(p==sysModules)=false∧∃vs,KV kvs vs∧s.heap.DictOf (Zn9 X.prog X.w) p vs:=I.hok p _ hx
   have hlen:kvs.length=vs.length:=Paired.length r
   exact wpAny_truthy_dict hS m (by omega) ⟨H,I.tok _,by rw[Zri r];exact q⟩
 | _=>exact(show False from e).elim
theorem Zya(ha:PE X a ta)(he:∀whole,isTrue a X.env whole=(do let v←whole;standAt a.pos;holding [v] (truthy v))) :
  PT X a (λσ H Q=>ta σ H λx H'=>∃k,Ycb X.K x H' k∧Q k H'):=by
 intro pins s σ H Q I h
 refine isTrue_plain (thn (ha pins s σ H _ I h) λv s1 qz9=>?_) (he _)
 obtain⟨x,H1,I1,r1,q1⟩:=qz9
 exact Z58 pins s1 σ H1 x v Q I1 r1 q1
theorem vals1{x:V}{us:List Xf}(r:Vals [x] us):∃u,us=[u]∧RelV x u:=by
 cases r with
 | cons r1 r2=>cases r2;exact⟨_,rfl,r1⟩
theorem vals2{x y:V}{us:List Xf}(r:Vals [x,y] us):∃u w',us=[u,w']∧RelV x u∧RelV y w':=by
 cases r with
 | cons r1 r2=>
  cases r2 with
  | cons r3 r4=>cases r4;exact⟨_,_,rfl,r1,r3⟩
theorem Zk1:Zdt X (.builtin "abs") (λxs H Q=>∃i,xs=[.int i]∧Q (.int (if i<0 then -i else i)) H):=by
 intro pins s σ H xs us Q I r h
 obtain⟨i,rfl,q⟩:=h
 obtain⟨u,rfl,t,rfl⟩:=vals1 r
 exact call_abs_int λu tk=>⟨.int (if i<0 then -i else i),H,I.tok _,⟨_,rfl⟩,q⟩
theorem Zub(hc:X.calm=true):Zdt X (.builtin "max") (λxs H Q=>∃i j,xs=[.int i,.int j]∧Q (.int (if j>i then j else i)) H):=by
 intro pins s σ H xs us Q I r h
 obtain⟨i,j,rfl,q⟩:=h
 obtain⟨u,w',rfl,⟨t,rfl⟩,⟨t',rfl⟩⟩:=vals2 r
 refine max_two_ints (I.ok.hd hc) λh' tk k=>⟨_,H,I.kept k,?_,q⟩
 by_cases hj:j>i
 ·rw[if_pos hj,if_pos hj];exact⟨_,rfl⟩
 ·rw[if_neg hj,if_neg hj];exact⟨_,rfl⟩
theorem Ztm(hc:X.calm=true):Zdt X (.builtin "min") (λxs H Q=>∃i j,xs=[.int i,.int j]∧Q (.int (if j<i then j else i)) H):=by
 intro pins s σ H xs us Q I r h
 obtain⟨i,j,rfl,q⟩:=h
 obtain⟨u,w',rfl,⟨t,rfl⟩,⟨t',rfl⟩⟩:=vals2 r
 refine min_two_ints (I.ok.hd hc) λh' tk k=>⟨_,H,I.kept k,?_,q⟩
 by_cases hj:j<i
 ·rw[if_pos hj,if_pos hj];exact⟨_,rfl⟩
 ·rw[if_neg hj,if_neg hj];exact⟨_,rfl⟩
end
structure ObjM(h:Heap)(x dx C:Addr)(mA:Str->Option Xf):Prop where
 obj:h.get? x=some (PySem.W.instObj C dx)
 ns:h.Ns1 dx mA
 ne:dx≠x
theorem Zu0{h:Heap}{dx:Addr}{mA:Str->Option Xf}(n:h.Ns1 dx mA):∃od,h.get? dx=some od∧∀name,PySem.W.lookIn name od=some (mA name):=by
 obtain⟨o,es,ep,ho,hd,hk,_,hm⟩:=n
 refine⟨o,ho,λname=>?_⟩
 have e:=hm name
 unfold nsFind findBy at e
 rw[←Array.find?_toList]at e
 unfold PySem.W.lookIn
 rw[hd]
 dsimp only
 split
 ·rename_i y q
  rw[q]at e
  exact congrArg some e
 ·rename_i q
  rw[q]at e
  have a:es.toList.any (·.refKey)=false:=by
   rw[List.any_eq_false]
   intro y hy
   obtain⟨z,t,hkey⟩:=hk y (Array.mem_toList_iff.mp hy)
   simp[DictEntry.refKey,hkey]
  have a':¬es.toList.any (·.refKey)=true:=by rw[a];exact Xp
  rw[if_neg a']
  exact congrArg some e
theorem ObjM.look{h:Heap}{x dx C:Addr}{mA:Str->Option Xf}(I:ObjM h x dx C mA):∃od,PySem.W.InstAt h x (PySem.W.instObj C dx) C (some od)∧∀name,PySem.W.lookIn name od=some (mA name) :=
 let⟨od,ho,hl⟩:=Zu0 I.ns
 ⟨od,⟨I.obj,rfl,rfl,ho⟩,hl⟩
section
variable {prog:X6}{w:Qq}{A:Qo}{E:Xf->Xh->Prop}{s:Xh}{K:Xc}{x dx C f:Addr}{mA:Str->Option Xf}{name:Str}{v:Xf}
end
section
variable {P:X6}{w:Qq}{H H':Hp}{h h':Heap}{a C dx:Addr}{fs fs':List (Str×V)}
theorem Z2f(hok:HOk P w H h)(e:H a=some (.ins C dx fs)):∃mA,ObjM h a dx C mA∧(∀f,Ycc (fs.lookup f) (mA f))∧PySem.Within mA (fs.map (·.1))∧fs.length≤1000∧H dx=some (.own a):=by
 obtain⟨d,z,ne,ob,mA,n,r,q⟩:=(show ObjOk P w H h a (.ins C dx fs)from hok a _ e)
 exact⟨mA,⟨ob,n,ne⟩,r,q,z,d⟩
end
structure Cls(K:Xc)(C:Addr):Prop where
 pg:PySem.W.plainGet K C Str.empty=true
 hd:PySem.W.hasDictIn K C=true
 po:PySem.W.plainOver K C=true
 sa:Vk K (.ref C) "__setattr__"=some (some (.builtin "object.__setattr__"))
theorem Cls.get{K:Xc}{C:Addr}(c:Cls K C)(f:Str):PySem.W.plainGet K C f=true:=c.pg
structure Con(K:Xc)(C:Addr)(f:Str)(v:V)(u:Xf):Prop where
 at_:Vk K (.ref C) f=some (some u)
 rel:RelV v u
 get:PySem.W.specialIn K u "__get__"=some none
 cp:PySem.W.copiedNames.contains f=false
structure Meth(K:Xc)(C:Addr)(m:Str)(f:Addr):Prop where
 at_:Vk K (.ref C) m=some (some (.ref f))
 fn:PySem.W.isFn K (.ref f)=true
 kp:Vz K (.ref f)=true
section
variable {X:Cx}{pins:List (Addr×Obj)}{σ:St}{H:Hp}{s:Xh}{a C dx:Addr}{fs:List (Str×V)}{f:Str}{v:V}{A:Qo}{E:Xf->Xh->Prop}
end
section
variable {X:Cx}{o e value:Expr}{f:Str}{pos pos' tpos:Pos}{ta tv:TE}
end
section
variable {X:Cx}{pins:List (Addr×Obj)}{σ:St}{H:Hp}{s:Xh}{A:Qo}{E:Xf->Xh->Prop}{Q:Xf->Xh->Prop}{c:Xf}{b:Bool}
inductive Zrq(K:Xc)(H:Hp):V->Xf->Prop where
 | non:Zrq K H .non (.type "NoneType")
 | bl (x:Bool):Zrq K H (.bl x) (.type "bool")
 | int (i:Int):Zrq K H (.int i) (.type "int")
 | str (x:Str):Zrq K H (.str x) (.type "str")
 | flt (x:UInt64):Zrq K H (.flt x) (.type "float")
 | lst {a:Addr} {xs:List V} (e:H a=some (.lst xs)):Zrq K H (.ref a) (.type "list")
 | frz {a:Addr} {o:Obj} {xs:List V} (e:H a=some (.frz o (.lst xs))):Zrq K H (.ref a) (.type "list")
 | tup {a:Addr} {xs:List V} (e:H a=some (.tup xs)):Zrq K H (.ref a) (.type "tuple")
 | dK {a:Addr} {kvs:List (Key×V)} (e:H a=some (.dK kvs)):Zrq K H (.ref a) (.type "dict")
 | dT {a:Addr} {kvs:List (List Key×V)} (e:H a=some (.dT kvs)):Zrq K H (.ref a) (.type "dict")
 | ins {a C dx:Addr} {fs:List (Str×V)} (e:H a=some (.ins C dx fs)) (cl:Cls K C) (ha:Vk K (.ref C) "__class__"=some (some (.builtin "object.__class__")))
   (hn:PySem.W.specialIn K (.builtin "object.__class__") "__get__"=some (some (.builtin "getset_descriptor.__get__"))) (htk:PySem.W.takesIn K (.builtin "object.__class__")=some true)
   (hm:PySem.W.mroIn K C (.type "object")=some true):Zrq K H (.ref a) (.ref C)
theorem Za7{x:V}{u t:Xf}(I:Inv X pins σ H s)(rx:RelV x u)(ty:Zrq X.K H x t)(e:Vj X.K t c=some b)(h:∀tk,Q (.bool b) { s with toks:=tk }) :
  XC (XX X.prog X.w) A (call (.builtin "isinstance") [u,c]) Q E s:=by
 cases ty with
 | non=>cases(show u=QT from rx);exact Q3 PySem.W.kitx_none I.kIn True.intro e (λz=>nomatch z) h
 | bl y=>cases(show u=U8 y from rx);exact Q3 PySem.W.kitx_bool I.kIn True.intro e (λz=>nomatch z) h
 | int i=>obtain⟨t,q⟩:=(show∃t,u=Vs i t from rx);cases q;exact Q3 PySem.W.kitx_int I.kIn True.intro e (λz=>nomatch z) h
 | str y=>obtain⟨t,q⟩:=(show∃t,u=Value.str y t from rx);cases q;exact Q3 PySem.W.kitx_str I.kIn True.intro e (λz=>nomatch z) h
 | flt y=>obtain⟨t,q⟩:=(show∃t,u=Xf.float y t from rx);cases q;exact Q3 PySem.W.kitx_float I.kIn True.intro e (λz=>nomatch z) h
 | @lst a xs ea=>
  cases(show u=Qn a from rx)
  obtain⟨_,_,n,_,h1⟩:=(show ObjOk X.prog X.w H s.heap a (.lst xs)from I.hok a _ ea)
  exact Q3 PySem.W.kitx_list I.kIn ⟨_,h1,rfl⟩ e (λz=>nomatch z) h
 | @frz a ob xs ea=>
  cases(show u=Qn a from rx)
  obtain⟨_,_,_,n,_,h1⟩:=(show ObjOk X.prog X.w H s.heap a (.frz ob (.lst xs))from I.hok a _ ea)
  exact Q3 PySem.W.kitx_list I.kIn ⟨_,h1,rfl⟩ e (λz=>nomatch z) h
 | @tup a xs ea=>
  cases(show u=Qn a from rx)
  obtain⟨_,_,_,p⟩:=(show ObjOk X.prog X.w H s.heap a (.tup xs)from I.hok a _ ea)
  obtain⟨o,h1,h2,_⟩:=p
  exact Q3 PySem.W.kitx_tuple I.kIn ⟨o,h1,h2⟩ e (λz=>nomatch z) h
 | @dK a kvs ea=>
  cases(show u=Qn a from rx)
  obtain⟨_,_,vs,_,p⟩:=(show ObjOk X.prog X.w H s.heap a (.dK kvs)from I.hok a _ ea)
  obtain⟨o,es,ep,h1,h2,_⟩:=p
  exact Q3 PySem.W.kitx_dict I.kIn ⟨o,h1,h2.1⟩ e (λz=>nomatch z) h
 | @dT a kvs ea=>
  cases(show u=Qn a from rx)
  obtain⟨_,_,xs,_,o,es,ep,h1,h2,_⟩:=(show ObjOk X.prog X.w H s.heap a (.dT kvs)from I.hok a _ ea)
  exact Q3 PySem.W.kitx_dict I.kIn ⟨o,h1,h2.1⟩ e (λz=>nomatch z) h
 | @ins a C dx fs ea cl ha hn htk hm=>
  cases(show u=Qn a from rx)
  obtain⟨mA,O,_⟩:=Z2f I.hok ea
  obtain⟨od,J,_⟩:=O.look
  exact Q3 (PySem.W.kitx_own (cl.get _) cl.hd ha hn htk hm) I.kIn J e (λz=>nomatch z) h
end
structure Room(k:Nat)(A:Qo):Prop where
 hd:A.handled=none
 dp:A.depth+3*k+5<recursionLimit
 un:A.units+16*k+200<cLine
theorem Room.mono{j k:Nat}{A:Qo}(r:Room k A)(h:j≤k):Room j A:=⟨r.hd,by have:=r.dp;omega,by have:=r.un;omega⟩
theorem Room.deeper{k:Nat}{A:Qo}(r:Room (k+1) A)(env:Env):Room k (A.deeper env) :=
 ⟨r.hd,by have:=r.dp;show A.depth+1+3*k+5<_;omega,by have:=r.un;show A.units+3+16*k+200<_;omega⟩
theorem Room.depth{k:Nat}{A:Qo}(r:Room k A):A.depth<recursionLimit:=by have:=r.dp;omega
theorem Room.units{k:Nat}{A:Qo}(r:Room k A):A.units+64<cLine:=by have:=r.un;omega
noncomputable def Yes:TA:=λ_ H Q=>Q [] H
noncomputable def Ybb(ta:TE)(tr:TA):TA:=λσ H Q=>ta σ H λx H1=>tr σ H1 λxs H2=>Q (x :: xs) H2
section
variable {X:Cx}{e:Expr}{es:List Expr}{te:TE}{t:TA}{pos:Pos}
theorem Zen:PA X [] Yes:=λ_ _ _ _ H Q I h=>Calls.spliced_nil ⟨[],H,I,.nil,h⟩
theorem Za5(ha:PE X e te)(hr:PA X es t)(hs:Xo (e :: es) X.env=(false,eval e X.env) :: Xo es X.env:=by rfl):PA X (e :: es) (Ybb te t):=by
 intro pos pins s σ H Q I h
 rw[hs]
 show XC _ _ (spliced ((false,eval e X.env) :: JF pos (Xo es X.env))) _ _ s
 refine Calls.spliced_cons (thn (ha pins s σ H _ I h) λu s1 qz9=>?_)
 obtain⟨x,H1,I1,r1,q1⟩:=qz9
 refine thn (hr pos pins s1 σ H1 _ I1 q1) λus s2 qz9=>?_
 obtain⟨xs,H2,I2,r2,q2⟩:=qz9
 exact⟨x :: xs,H2,I2,.cons r1 r2,q2⟩
noncomputable def Yeo(t:TA):TE:=λσ H Q=>t σ H λxs H1=>xs.length≤Xy∧∀p,H1 p=none->Q (.ref p) (upd H1 p (.tup xs))
noncomputable def Ye8(t:TA):TE:=λσ H Q=>t σ H λxs H1=>xs.length≤Xy∧∀p,H1 p=none->Q (.ref p) (upd H1 p (.lst xs))
theorem Z5e{x1}(h:PA X es t):PE X (.Tuple es x1 pos) (Yeo t):=by
 intro pins s σ H Q I hq
 refine wpAny_Tuple_spliced (thn (h pos pins s σ H _ I hq) λus s1 ⟨xs,H1,I1,r,z,q⟩=>⟨by rw[←r.length];exact z,?_⟩)
 have hf:H1 s1.heap.objs.size=none:=I1.hok.fresh (XN _)
 refine⟨.ref s1.heap.objs.size,upd H1 s1.heap.objs.size (.tup xs),I1.laid (t':=s1.toks) (λb u e=>Xg _ e) (XN _) ?_,rfl,q _ hf⟩
 exact⟨z,us,r,⟨_,Xx _ rfl,rfl,_,rfl⟩⟩
theorem Zy6(h:PA X es t):PE X (.List es pos) (Ye8 t):=by
 intro pins s σ H Q I hq
 refine wpAny_List_spliced (thn (h pos pins s σ H _ I hq) λus s1 ⟨xs,H1,I1,r,z,q⟩=>⟨by rw[←r.length];exact z,?_⟩)
 have hf:H1 s1.heap.objs.size=none:=I1.hok.fresh (XN _)
 refine⟨.ref s1.heap.objs.size,upd H1 s1.heap.objs.size (.lst xs),I1.laid (t':=s1.toks) (λb u e=>Xg _ e) (XN _) ?_,rfl,q _ hf⟩
 exact⟨z,us,0,r,Xx _ rfl⟩
end
noncomputable abbrev Sp:=List V->Hp->VK->XK->Prop
noncomputable abbrev CXT:=List Env->Hp->Xh->XK->Xf->Xh->Prop
structure Z9l(P:X6)(w:Qq)(K:Xc)(mg:Str->Option Xf)(base:Heap)(A:Qo)(outer:List Env)(s:Xh)(H:Hp):Prop where
 frames:A.frames=some outer
 mod:Mod K mg base
 bs:∀b o,base.get? b=some o->s.heap.get? b=some o∧H b=none
 bsz:base.objs.size≤s.heap.objs.size
 funs:s.heap.FunFrames base outer
 frf:∀b∈frs outer,H b=none
 hok:HOk P w H s.heap
 bare:AllBare s.gens
noncomputable def CE(outer:List Env)(P:X6)(w:Qq)(H:Hp)(s:Xh)(Q:VK)(u:Xf)(s':Xh):Prop :=
 ∃v H',s'.os=s.os∧AllBare s'.gens∧Un (frs outer) [] H H' s.heap s'.heap∧HOk P w H' s'.heap∧RelV v u∧Q v H'
noncomputable def CR(CX:CXT)(outer:List Env)(P:X6)(w:Qq)(H:Hp)(s:Xh)(Q:VK)(E:XK)(r:Result)(s':Xh):Prop :=
 match r with
 | .ok (.ret u)=>CE outer P w H s Q u s'
 | .ok _=>False
 | .error e=>CX outer H s E e s'
structure FnOk(P:X6)(w:Qq)(K:Xc)(mg:Str->Option Xf)(base:Heap)(CX:CXT)(k:Nat)(f:Addr)(fd:XQ)(ps:List Str)(sp:Sp):Prop where
 len:∀vs H Q E,sp vs H Q E->vs.length=ps.length
 run:∀(A:Qo) (outer:List Env) (s:Xh) (H:Hp) (args:Args) (us:List Xf) (vs:List V) (Q:VK) (E:XK),Room k A->Z9l P w K mg base A outer s H->BindsTo s fd args (ps.zip us)->Vals vs us->sp vs H Q E ->
  U6 (XX P w) A (.call (.ref f) args) (CR CX outer P w H s Q E) s
theorem FnOk.imp{P:X6}{w:Qq}{K:Xc}{mg:Str->Option Xf}{base:Heap}{CX:CXT}{k:Nat}{f:Addr}{fd:XQ}{ps:List Str}{sp sp':Sp}(F:FnOk P w K mg base CX k f fd ps sp)
  (h:∀vs H Q E,sp' vs H Q E->sp vs H Q E):FnOk P w K mg base CX k f fd ps sp' :=
 ⟨λvs H Q E q=>F.len vs H Q E (h _ _ _ _ q),λA outer s H args us vs Q E hr he hb hv hs=>F.run A outer s H args us vs Q E hr he hb hv (h _ _ _ _ hs)⟩
section
variable {X:Cx}{pins:List (Addr×Obj)}{σ:St}{H:Hp}{s s':Xh}
theorem Inv.env0(I:Inv X pins σ H s):Z9l X.prog X.w X.K X.mg X.base X.A X.stack s H :=
 ⟨I.ok.frames,I.ok.mod,I.bs,Qv I.ok.bsz I.sz,I.stack,I.stkFree,I.hok,I.bare⟩
theorem Inv.after{Q:VK}{u:Xf}(I:Inv X pins σ H s)(h:CE X.stack X.prog X.w H s Q u s'):EP X pins σ Q u s':=by
 obtain⟨v,H',os,bare,un,hok,r,q⟩:=h
 obtain⟨hh,g,d,t,os'⟩:=s'
 obtain rfl:os'=s.os:=os
 exact⟨v,H',I.call (h':=hh) (g':=g) (d':=d) (t':=t) (ch:=[]) un hok bare (λb z=>absurd z (by simp)),r,q⟩
end
noncomputable def Z5w(sp:Sp)(dvs:List V)(E:XK)(t:TA):TE:=λσ H Q=>t σ H λvs H1=>sp (vs ++ dvs) H1 Q E
noncomputable def Binds(K:Xc)(fd:XQ)(ps:List Str)(ds:List Xf):Prop :=
 ∀(s:Xh) (us:List Xf),K.In s.heap->(us ++ ds).length=ps.length->BindsTo s fd ⟨us,[]⟩ (ps.zip (us ++ ds))
theorem Binds.all{K:Xc}{fd:XQ}{ps:List Str}(h:∀us:List Xf,us.length=ps.length->bindArgs fd ⟨us,[]⟩=pure (ps.zip us)):Binds K fd ps []:=λs us _ hl=>by
 rw[Q4]at hl⊢
 exact .of_eq (h us hl)
noncomputable def Zo3(CX:CXT)(X:Cx)(E:XK):Prop:=∀(pins:List (Addr×Obj)) (σ:St) (H:Hp) (s:Xh) (e:Xf) (s':Xh),Inv X pins σ H s->CX X.stack H s E e s'->X.xe e s'
section
variable {X:Cx}{CX:CXT}{k:Nat}{f C:Addr}{fd:XQ}{ps:List Str}{sp:Sp}{dvs:List V}{ds:List Xf}{E:XK}{x m:Str}{p pos apos:Pos}{e o:Expr}{es:List Expr}{ta:TE}{t:TA}
theorem Z46{pins:List (Addr×Obj)}{σ:St}{H:Hp}{s:Xh}{Q:VK}{us:List Xf}{vs:List V}(F:FnOk X.prog X.w X.K X.mg X.base CX k f fd ps sp)(hr:Room k X.A)(hb:Binds X.K fd ps ds)(hd:Vals dvs ds)(hx:Zo3 CX X E)
  (I:Inv X pins σ H s) (r:Vals vs us) (h:sp (vs ++ dvs) H Q E):XC (XX X.prog X.w) X.A (call (.ref f) us) (EP X pins σ Q) X.xe s:=by
 have r2:Vals (vs ++ dvs) (us ++ ds):=r.append hd
 have hl:(us ++ ds).length=ps.length:=by rw[←r2.length];exact F.len _ _ _ _ h
 refine wpAny_call (codeAny_mono (F.run X.A X.stack s H ⟨us,[]⟩ (us ++ ds) (vs ++ dvs) Q E hr I.env0 (hb s us I.kIn hl) r2 h) λr s' hq=>?_)
 cases r with
 | error e=>exact hx pins σ H s e s' I hq
 | ok fl=>
  cases fl with
  | ret u=>exact I.after hq
  | next=>exact VJ hq
  | brk=>exact VJ hq
  | cont=>exact VJ hq
theorem Z3b(F:FnOk X.prog X.w X.K X.mg X.base CX k f fd ps sp)(hr:Room k X.A)(hg:Gl X x)(hm:X.mg x=some (.ref f))(hk:Vz X.K (.ref f)=true)(hb:Binds X.K fd ps ds)(hd:Vals dvs ds)(hx:Zo3 CX X E)
  (ha:PA X (e :: es) t) (hdb:(x==("__debug__" : Str))=false:=by decide) (he:Xo (e :: es) X.env=(false,eval e X.env) :: Xo es X.env:=by rfl) (hpl:(JF pos (Xo es X.env)).any (·.1)=false:=by rfl) :
  PE X (.Call (.Name x p) (e :: es) [] pos) (Z5w sp dvs E t):=by
 intro pins s σ H Q I h
 refine Vx (Z2d I hg hm ?_ hdb)
 refine PySem.W.callWith_K (h₀:=X.base) I.ok.mod.kin hk (thn (ha pos pins s σ H _ I h) λus s1 qz9=>?_) he hpl
 obtain⟨vs,H1,I1,r,q⟩:=qz9
 refine⟨I1.kIn,?_⟩
 exact Z46 F hr hb hd hx I1 r q
structure Mk(K:Xc)(C f:Addr):Prop where
 makes:PySem.W.makesIn K C=true
 init:Vk K (.ref C) "__init__"=some (some (.ref f))
 fn:PySem.W.isFn K (.ref f)=true
 kp:Vz K (.ref C)=true
end
section
variable {X:Cx}{CX:CXT}{k:Nat}{f C:Addr}{fd:XQ}{ps ks:List Str}{sp:Sp}{E:XK}{x m:Str}{p pos apos kpos:Pos}{e o:Expr}{es:List Expr}{kws:List VB}{te ta:TE}{t tk:TA}{nm:Option Str}
structure Yd7(K:Xc)(fd:XQ)(ps ks:List Str)(g:List Xf->List Xf->List Xf)(gV:List V->List V->List V):Prop where
 to:∀(s:Xh) (us ws:List Xf),K.In s.heap->(g us ws).length=ps.length->BindsTo s fd ⟨us,ks.zip ws⟩ (ps.zip (g us ws))
 rel:∀{vs:List V} {us:List Xf} {zs:List V} {ws:List Xf},Vals vs us->Vals zs ws->Vals (gV vs zs) (g us ws)
variable {g:List Xf->List Xf->List Xf}{gV:List V->List V->List V}
end
structure Zw(N P:List Str)(sc:Uo):Prop where
 kind:sc.kind= .function
 co:sc.isCoroutine=false
 gen:sc.isGenerator=false
 nd:N.Nodup
 pre:N.take P.length=P
 par:∀x∈P,sc.names.lookup x=some .local∨sc.names.lookup x=some .cell
 nofree:∀y∈sc.names,y.2≠ .free
theorem Zm3{kindOf:Str->Option Bw}{x:Str}:∀{binds:List (Str×Xf)} {m:Str->Option Xf},(∀v,(x,v)∉binds)->bindL kindOf binds m x=m x
 | [],_,_=>rfl
 | (n,v) :: r,m,h=>by
  unfold bindL
  rw[Zm3 λw hw=>h w (UJ _ hw)]
  split
  ·have:x≠n:=by rintro rfl;exact h v List.mem_cons_self
   simp[this]
  ·rfl
theorem Zl8{kindOf:Str->Option Bw}{x:Str}:∀{binds:List (Str×Xf)} {m:Str->Option Xf},(∀v,(x,v)∉binds)->bindC kindOf binds m x=m x
 | [],_,_=>rfl
 | (n,v) :: r,m,h=>by
  unfold bindC
  rw[Zl8 λw hw=>h w (UJ _ hw)]
  split
  ·rfl
  ·have:x≠n:=by rintro rfl;exact h v List.mem_cons_self
   simp[this]
theorem Zlz{kindOf:Str->Option Bw}{x:Str}{v:Xf}:∀{P:List Str} {vs:List Xf} {i:Nat} {m:Str->Option Xf},P.Nodup->P[i]? =some x->vs[i]? =some v->kindOf x=some .local ->
  bindL kindOf (P.zip vs) m x=some v
 | [],_,_,_,_,h,_,_=>by simp at h
 | _ :: _,[],_,_,_,_,h,_=>by simp at h
 | p :: P,w :: vs,0,m,nd,h1,h2,hk=>by
  simp at h1 h2;subst h1;subst h2
  show bindL kindOf ((p,w) :: P.zip vs) m p=_
  unfold bindL
  rw[Zm3 λv hv=>(Qm.mp nd).1 (V8 hv).1,if_pos hk]
  simp
 | p :: P,w :: vs,i+1,m,nd,h1,h2,hk=>by
  show bindL kindOf ((p,w) :: P.zip vs) m x=_
  unfold bindL
  exact Zlz (i:=i) (Qm.mp nd).2 (by simpa using h1) (by simpa using h2) hk
theorem Zm4{kindOf:Str->Option Bw}{x:Str}{v:Xf}:∀{P:List Str} {vs:List Xf} {i:Nat} {m:Str->Option Xf},P.Nodup->P[i]? =some x->vs[i]? =some v->kindOf x≠some .local ->
  bindC kindOf (P.zip vs) m x=some v
 | [],_,_,_,_,h,_,_=>by simp at h
 | _ :: _,[],_,_,_,_,h,_=>by simp at h
 | p :: P,w :: vs,0,m,nd,h1,h2,hk=>by
  simp at h1 h2;subst h1;subst h2
  show bindC kindOf ((p,w) :: P.zip vs) m p=_
  unfold bindC
  rw[Zl8 λv hv=>(Qm.mp nd).1 (V8 hv).1,if_neg hk]
  simp
 | p :: P,w :: vs,i+1,m,nd,h1,h2,hk=>by
  show bindC kindOf ((p,w) :: P.zip vs) m x=_
  unfold bindC
  exact Zm4 (i:=i) (Qm.mp nd).2 (by simpa using h1) (by simpa using h2) hk
noncomputable def start(N:List Str)(vs:List V):St:=vs.map some ++ XF (N.length-vs.length) none
noncomputable def Zzt(CX:CXT)(P:X6)(w:Qq)(K:Xc)(mg:Str->Option Xf)(base:Heap)(N:List Str)(qual:Str)(scope:Uo)(f:Addr)(cd:Xf)(A:Qo)(outer:List Env)(s:Xh)(H:Hp)(E:XK):Cx where
 prog:=P
 w:=w
 K:=K
 mg:=mg
 base:=base
 A:=A.deeper (envOfC qual scope s.heap.objs.size f cd)
 N:=N
 s₀:=s
 H₀:=H
 env:=envOfC qual scope s.heap.objs.size f cd
 outer:=outer
 stack:=envOfC qual scope s.heap.objs.size f cd :: outer
 ex:=[]
 calm:=true
 fn:=λ_=>true
 pn:=[]
 xe:=λe s'=>XC (XX P w) (A.deeper (envOfC qual scope s.heap.objs.size f cd)) (leaving (envOfC qual scope s.heap.objs.size f cd) e) (λ_ s''=>CX outer H s E e s'') (λe' s''=>CX outer H s E e' s'') s'
theorem Zpt{sc:Uo}{n:Nat}{x:Str}(h:sc.names.lookup x=some .cell):∃c,(Bh n sc.names []).lookup x=some c:=by
 have q:=PySem.W.cellsFrom_some sc.names n [] (.inl h)
 exact Option.isSome_iff_exists.mp q
theorem Zr0{CX:CXT}{P:X6}{w:Qq}{K:Xc}{mg:Str->Option Xf}{base:Heap}{N ps:List Str}{qual:Str}{scope:Uo}{f:Addr}{cd:Xf}{A:Qo}{outer:List Env}{s s1:Xh}{H:Hp}{E:XK}{us:List Xf}{vs:List V}
  (S:Zw N ps scope) (hd:A.handled=none) (e0:Z9l P w K mg base A outer s H) (hl:vs.length=ps.length) (r:Vals vs us)
  (x:InCallC s s.heap.objs.size (bindL (envOfC qual scope s.heap.objs.size f cd).kindOf (ps.zip us) λ_=>none) (Bh (s.heap.objs.size+1) scope.names []) (bindC (envOfC qual scope s.heap.objs.size f cd).kindOf (ps.zip us) λ_=>none) s1) :
  Inv (Zzt CX P w K mg base N qual scope f cd A outer s H E) [] (start N vs) H s1:=by
 have hpl:ps.length≤N.length:=by have:=congrArg List.length S.pre;rw[BP]at this;omega
 obtain⟨h1,tk,rfl,hk⟩:=x.done
 have noA:∀b:Addr,b∉(Zzt CX P w K mg base N qual scope f cd A outer s H E).ex:=λb z=>absurd (show b∈([]:List Addr)from z) (by simp)
 refine⟨⟨e0.mod,S.kind,rfl,rfl,XN _,λy z c h1 h2=>?_,λy hy=>?_,λy c _ h=>?_,λ_=>hd,Qo.frames_deeper e0.frames,.inr ⟨rfl,rfl⟩,λb z=>absurd z (noA b),e0.bs,e0.bsz,λb _ _=>noA b,λb z=>absurd z (noA b),e0.funs,e0.frf⟩,
  rfl,e0.bare,Un.kept hk,⟨_,x.toInCall.ns,λi y v h1 h2 h3=>?_⟩,λy c h=>⟨_,x.cell y c h⟩,e0.hok.fresh (XN _),λy c h=>?_,λp hp=>absurd (show p∈([]:List (Addr×Obj))from hp) (by simp),e0.hok.kept hk,?_⟩
 ·exact name_of_addr x.apart (Ba h1) (Ba h2)
 ·have hy:scope.names.lookup y=some .cell∨scope.names.lookup y=some .free:=hy
  rcases hy with hy|hy
  ·exact Zpt hy
  ·exact absurd rfl (S.nofree _ (Ba hy))
 ·exact Ul (x.above y c (Ba h))
 ·have hi:i<vs.length:=by
   unfold start at h2
   by_cases hi:i<vs.length
   ·exact hi
   ·rw[BV (by simpa using hi)]at h2
    rw[Vo]at h2
    split at h2<;>cases h2
  have ha:vs[i]? =some v:=by
   unfold start at h2
   rw[Vc (by simpa using hi),Xq]at h2
   cases e:vs[i]? with
   | none=>rw[e]at h2;cases h2
   | some a=>rw[e]at h2;cases h2;rfl
  obtain⟨u,hu,rv⟩:=r.get ha
  have hp:ps[i]? =some y:=by
   rw[←S.pre,List.getElem?_take_of_lt (by omega)];exact h1
  have ndP:ps.Nodup:=by rw[←S.pre];exact S.nd.sublist (List.take_sublist _ _)
  refine⟨u,rv,?_⟩
  rcases S.par y (QL hp)with k|k
  ·exact .inl ⟨k,Zlz ndP hp hu k⟩
  ·obtain⟨c,e⟩:=Zpt (n:=s.heap.objs.size+1) k
   refine .inr ⟨.inl k,c,e,?_⟩
   have q:=x.cell y c e
   rw[Zm4 ndP hp hu (by show scope.names.lookup y≠_;rw[k];decide)]at q
   exact q
 ·exact e0.hok.fresh (Ul (x.above y c (Ba h)))
 ·unfold start
  show _=N.length
  rw[Xw,Xj,BW]
  omega
theorem Yas{CX:CXT}{P:X6}{w:Qq}{K:Xc}{mg:Str->Option Xf}{base:Heap}{k:Nat}{f:Addr}{name qual:Str}{params:Arguments}{body:List Stmt}{scope:Uo}{dV kV doc pm cdv ct oc:Xf}{an od:Option Addr}
  {osl:Array (Option Xf)} {N ps:List Str} {sp:Sp} (lk:K.lookup f=some ⟨oc,od,.func (VH name qual params body scope dV kV doc pm an cdv ct),osl⟩) (hcd:PySem.W.codeIn K cdv qual=true) (S:Zw N ps scope)
  (len:∀vs H Q E,sp vs H Q E->vs.length=ps.length)
  (hbody:∀(A:Qo) (outer:List Env) (s:Xh) (H:Hp) (vs:List V) (Q:VK) (E:XK),Room k (A.deeper (envOfC qual scope s.heap.objs.size f cdv))->sp vs H Q E ->
   ∃t,PSs (Zzt CX P w K mg base N qual scope f cdv A outer s H E) body t∧t { nx:=λ_ H'=>Q .non H',rt:=Q } (start N vs) H) :
  FnOk P w K mg base CX (k+1) f (VH name qual params body scope dV kV doc pm an cdv ct) ps sp:=by
 refine⟨len,λA outer s H args us vs Q E hr e0 hb r hsp=>?_⟩
 have hl:=len _ _ _ _ hsp
 have KX:K.In s.heap:=e0.mod.kin.keeps λb o e=>(e0.bs b o e).1
 have lim:s.heap.NoLimit:=e0.mod.nolimit.keeps λb o e=>(e0.bs b o e).1
 have hkind:∀y∈ps.zip us,scope.names.lookup y.1=some .local∨(scope.names.lookup y.1=some .cell∧((Bh (s.heap.objs.size+1) scope.names []).lookup y.1).isSome=true):=λ⟨n,v⟩ hy=>by
  rcases S.par n (V8 hy).1 with q|q
  ·exact .inl q
  ·exact .inr ⟨q,PySem.W.cellsFrom_some _ _ _ (.inl q)⟩
 refine codeAny_call_function hr.depth (KX _ _ lk) rfl S.co S.gen rfl (PySem.W.codeRec_of KX hcd) (hb _ _ _ _ ?_)
 refine wpAny_newFunctionEnv_cells S.kind hkind λenv he s1 x=>?_
 subst he
 refine⟨lim.keeps x.toInCall.keep,codeAny_func ?_⟩
 obtain⟨t,ht,hq⟩:=hbody A outer s H vs Q E (hr.deeper _) hsp
 have I:Inv (Zzt CX P w K mg base N qual scope f cdv A outer s H E) [] (start N vs) H s1:=Zr0 S hr.hd e0 hl r x
 refine Vd (ht [] s1 (start N vs) H _ I hq) (λfl s' hs=>?_) λe s' hs=>hs
 have fin:∀{σ':St} {H':Hp} {v:V} {u:Xf},Inv (Zzt CX P w K mg base N qual scope f cdv A outer s H E) [] σ' H' s'->RelV v u->Q v H'->CE outer P w H s Q u s' :=
  fun{σ' H' v u} J rv q=>⟨v,H',J.os,J.bare,J.base,J.hok,rv,q⟩
 cases fl with
 | ret u=>
  obtain⟨v,σ',H',J,rv,q⟩:=hs
  exact fin J rv q
 | next=>
  obtain⟨σ',H',J,q⟩:=hs
  exact fin (v:=V.non) (u:=QT) J rfl q
 | brk=>
  obtain⟨_,_,_,q⟩:=hs
  exact VJ q
 | cont=>
  obtain⟨_,_,_,q⟩:=hs
  exact VJ q
section
variable {X:Cx}{x:Str}{p pos:Pos}{e:Expr}{es:List Expr}{t:TA}{id T:String}{r:List V->Hp->VK->Prop}
noncomputable def tCB(r:List V->Hp->VK->Prop)(t:TA):TE:=λσ H Q=>t σ H λvs H1=>r vs H1 Q
theorem Zlg(hc:Zdt X (.builtin id) r)(hg:Gl X x)(hm:X.mg x=none)(hv:Qh x=some (.builtin id))(ha:PA X (e :: es) t)(hn:x≠"__name__" :=by decide)(hdb:(x==("__debug__" : Str))=false:=by decide)
  (he:Xo (e :: es) X.env=(false,eval e X.env) :: Xo es X.env:=by rfl) (hpl:(JF pos (Xo es X.env)).any (·.1)=false:=by rfl):PE X (.Call (.Name x p) (e :: es) [] pos) (tCB r t):=by
 intro pins s σ H Q I h
 refine Vx (Zgz I hg hm hv ?_ hn hdb)
 refine PyProof.Rows.callWith_builtin1 (thn (ha pos pins s σ H _ I h) λus s1 qz9=>?_) he hpl
 obtain⟨vs,H1,I1,r1,q1⟩:=qz9
 exact hc pins s1 σ H1 vs us Q I1 r1 q1
theorem Zh8(hc:Zdt X (.type T) r)(hg:Gl X x)(hm:X.mg x=none)(hv:Qh x=some (.type T))(ha:PA X (e :: es) t)(hn:x≠"__name__" :=by decide)(hdb:(x==("__debug__" : Str))=false:=by decide)
  (he:Xo (e :: es) X.env=(false,eval e X.env) :: Xo es X.env:=by rfl) (hpl:(JF pos (Xo es X.env)).any (·.1)=false:=by rfl):PE X (.Call (.Name x p) (e :: es) [] pos) (tCB r t):=by
 intro pins s σ H Q I h
 refine Vx (Zgz I hg hm hv ?_ hn hdb)
 refine Bp (thn (ha pos pins s σ H _ I h) λus s1 qz9=>?_) he hpl
 obtain⟨vs,H1,I1,r1,q1⟩:=qz9
 exact hc pins s1 σ H1 vs us Q I1 r1 q1
end
end L2
namespace HT
open PySem PyProof.Rows
section
open PySem.SeqAt
open PySem.AutoSeq1 (wpAny_loadPart')
open PySem.MeetsSeq PySem.MeetsSeq2 PySem.MeetsSeq3
end
section
variable {prog:X6}{w:Qq}{A:Qo}{E:Xf->Xh->Prop}{s:Xh}
noncomputable def sIx(n d:Nat):Option Int->Nat
 | none=>d
 | some v=>if v<0 then(v+(n:Int)).toNat else min v.toNat n
theorem sIx_none(n d:Nat):sIx n d none=d:=rfl
theorem sIx_nat(n d k:Nat):sIx n d (some (k:Int))=min k n:=by
 show(if(k:Int)<0 then((k:Int)+(n:Int)).toNat else min (k:Int).toNat n)=min k n
 rw[if_neg (by omega),Qp]
end
end HT
namespace L2
open PySem PySem.Spec PyProof.Rows
noncomputable abbrev TO:=St->Hp->(Option Int->Hp->Prop)->Prop
noncomputable def PO(X:Cx)(e:Option Expr)(t:TO):Prop :=
 ∀(pins:List (Addr×Obj)) (s:Xh) (σ:St) (H:Hp) (Q:Option Int->Hp->Prop),Inv X pins σ H s->t σ H Q ->
  XC (XX X.prog X.w) X.A (evalPart e X.env) (λu s'=>∃o H',Inv X pins σ H' s'∧IsPart u o∧Q o H') X.xe s
noncomputable def Z1d:TO:=λ_ H Q=>Q none H
noncomputable def Z99(t:TE):TO:=λσ H Q=>t σ H λx H1=>∃i,x= .int i∧Q (some i) H1
section
variable {X:Cx}{e:Expr}{te:TE}{lo hi:Option Expr}{tl th:TO}{pos p2:Pos}
theorem Z2r:PO X none Z1d:=by
 intro pins s σ H Q I h
 rw[evalPart_none]
 exact Xl ⟨none,H,I,.none,h⟩
theorem Z2s(h:PE X e te):PO X (some e) (Z99 te):=by
 intro pins s σ H Q I hw
 rw[evalPart_some]
 refine thn (h pins s σ H _ I hw) λu s1 qz9=>?_
 obtain⟨x,H1,I1,r1,q1⟩:=qz9
 obtain⟨i,rfl,q⟩:=q1
 obtain⟨t,rfl⟩:=r1
 exact⟨some i,H1,I1,.int i t,q⟩
noncomputable def SlR(X:Cx)(r:V->Option Int->Option Int->Hp->VK->Prop):Prop :=
 ∀(pins:List (Addr×Obj)) (s:Xh) (σ:St) (H:Hp) (x:V) (v vl vu:Xf) (lo hi:Option Int) (sl:Addr) (Q:VK),Inv X pins σ H s->RelV x v->s.heap.IsSliceOf sl vl vu .none->IsPart vl lo->IsPart vu hi->r x lo hi H Q ->
  ∃T id,typeLookup (.type T) "__getitem__"=pure (some (.builtin id))∧s.TypeIs v T∧XC (XX X.prog X.w) X.A (getItem v (.ref sl)) (EP X pins σ Q) X.xe s
noncomputable def tSl(r:V->Option Int->Option Int->Hp->VK->Prop)(te:TE)(tl th:TO):TE:=λσ H Q=>te σ H λx H1=>tl σ H1 λl H2=>th σ H2 λu H3=>r x l u H3 Q
theorem Zwu{r:V->Option Int->Option Int->Hp->VK->Prop}(hr:SlR X r)(he:PE X e te)(hl:PO X lo tl)(hu:PO X hi th):PE X (.Subscript e (.Slice lo hi none p2) pos) (tSl r te tl th):=by
 intro pins s σ H Q I h
 refine Subscript_ (thn (he pins s σ H _ I h) λv s1 qz9=>?_)
 obtain⟨x,H1,I1,r1,q1⟩:=qz9
 refine wpAny_Slice (thn (hl pins s1 σ H1 _ I1 q1) λvl s2 qz9=>?_)
 obtain⟨l,H2,I2,pl,q2⟩:=qz9
 refine thn (hu pins s2 σ H2 _ I2 q2) λvu s3 qz9=>?_
 obtain⟨u,H3,I3,pu,q3⟩:=qz9
 rw[evalPart_none]
 refine Xl ?_
 have I4:Inv X pins σ H3 { s3 with heap:=s3.heap.push { cls:=.type "slice",data:=.fields #[vl,vu,.none] } }:=I3.kept (t':=s3.toks) λb ob q=>Xg _ q
 obtain⟨T,id,hT,ht,hg⟩:=hr pins { s3 with heap:=s3.heap.push { cls:=.type "slice",data:=.fields #[vl,vu,.none] } } σ H3 x v vl vu l u s3.heap.objs.size Q I4 r1 (Heap.IsSliceOf.new ..) pl pu q3
 show XC (XX X.prog X.w) X.A (subscriptTail e (.Slice lo hi none p2) v (.ref s3.heap.objs.size)) (EP X pins σ Q) X.xe { s3 with heap:=s3.heap.push { cls:=.type "slice",data:=.fields #[vl,vu,.none] } }
 exact tail_any (ops:=[.ref s3.heap.objs.size,v]) ht hT hg (by with_unfolding_all rfl)
noncomputable def Z37(xs:List V)(lo hi:Option Int):List V:=(xs.drop (HT.sIx xs.length 0 lo)).take (HT.sIx xs.length xs.length hi-HT.sIx xs.length 0 lo)
theorem Zn5(xs:List V)(lo hi:Option Int):(Z37 xs lo hi).length≤xs.length:=by
 unfold Z37
 rw[BP,QK]
 omega
end
noncomputable def ixN(n:Nat)(i:Int):Option Nat:=if 0≤i then(if i<n then some i.toNat else none)else if -(n:Int)≤i then some (i+n).toNat else none
noncomputable def atI{α:Type}(xs:List α)(i:Int):Option α:=(ixN xs.length i).bind λj=>xs[j]?
theorem Zoo{n:Nat}{i:Int}{j:Nat}(h:ixN n i=some j):seqIndex? i n=some j∧j<n∧-(n:Int)≤i∧i<n:=by
 unfold ixN at h
 by_cases h0:0≤i
 ·rw[if_pos h0]at h
  by_cases h1:i<n
  ·rw[if_pos h1]at h
   have e:i.toNat=j:=QD h
   exact⟨by rw[seqIndex_of h0 h1,e],by omega,by omega,h1⟩
  ·rw[if_neg h1]at h;cases h
 ·rw[if_neg h0]at h
  by_cases h1:-(n:Int)≤i
  ·rw[if_pos h1]at h
   have e:(i+n).toNat=j:=QD h
   exact⟨by rw[seqIndex_neg (by omega) h1,e],by omega,h1,by omega⟩
  ·rw[if_neg h1]at h;cases h
theorem Znm{α:Type}{xs:List α}{i:Int}{v:α}(h:atI xs i=some v):∃j,seqIndex? i xs.length=some j∧xs[j]? =some v∧j<xs.length∧-(xs.length:Int)≤i∧i<xs.length:=by
 unfold atI at h
 cases e:ixN xs.length i with
 | none=>rw[e]at h;cases h
 | some j=>
  rw[e]at h
  obtain⟨h1,h2,h3,h4⟩:=Zoo e
  exact⟨j,h1,h,h2,h3,h4⟩
theorem Zua{α:Type}{xs:List α}{j:Nat}{v:α}(h:xs[j]? =some v):atI xs (j:Int)=some v:=by
 have hj:j<xs.length:=(Xm.mp h).1
 have e:ixN xs.length (j:Int)=some j:=by
  unfold ixN
  rw[if_pos (by omega),if_pos (by omega)];simp
 unfold atI;rw[e];exact h
theorem Zpz{α:Type}(xs:List α)(v:α):atI (xs ++ [v]) (-1)=some v:=by
 have hl:(xs ++ [v]).length=xs.length+1:=by simp
 have e:ixN (xs ++ [v]).length (-1)=some xs.length:=by
  unfold ixN
  rw[hl,if_neg (by decide),if_pos (by omega)]
  congr 1
  omega
 unfold atI
 rw[e]
 show(xs ++ [v])[xs.length]? =some v
 simp
noncomputable def Zhz(b:Expr):Prop:=∀o i,subscripted b false o i=operate [o,i] (getItem o i)
noncomputable def IxR(X:Cx)(r:R2):Prop :=
 ∀(value slice:Expr) (pins:List (Addr×Obj)) (s:Xh) (σ:St) (H:Hp) (x y:V) (v u:Xf) (Q:VK),Inv X pins σ H s->RelV x v->RelV y u->r x y H Q ->
  subscripted slice false v u=operate [v,u] (getItem v u)->XC (XX X.prog X.w) X.A (subscriptTail value slice v u) (EP X pins σ Q) X.xe s
noncomputable def MtR(X:Cx)(id:String)(r:V->List V->Hp->VK->Prop):Prop :=
 ∀(pins:List (Addr×Obj)) (s:Xh) (σ:St) (H:Hp) (x:V) (xs:List V) (v:Xf) (us:List Xf) (Q:VK),Inv X pins σ H s->RelV x v->Vals xs us->r x xs H Q ->
  XC (XX X.prog X.w) X.A (call (.builtin id) (v :: us)) (EP X pins σ Q) X.xe s
section
variable {X:Cx}{a b:Expr}{ta tb:TE}{pos:Pos}
theorem IxR.or{r r':R2}(h:IxR X r)(h':IxR X r'):IxR X (λx y H Q=>r x y H Q∨r' x y H Q):=by
 intro value slice pins s σ H x y v u Q I rx ry q hs
 rcases q with q|q
 ·exact h value slice pins s σ H x y v u Q I rx ry q hs
 ·exact h' value slice pins s σ H x y v u Q I rx ry q hs
theorem Z08{r:R2}(hr:IxR X r)(ha:PE X a ta)(hb:PE X b tb)(hs:Zhz b):PE X (.Subscript a b pos) (tOp r ta tb):=by
 intro pins s σ H Q I h
 exact Subscript_ (Yad ha hb I h λv u s2 x y H2 I2 rx ry q=>hr a b pins s2 σ H2 x y v u Q I2 rx ry q (hs _ _))
noncomputable def Ybs(K:Xc):R2:=λx y H Q=>∃p xs i v,x= .ref p∧y= .int i∧SqL K H p xs∧atI xs i=some v∧Q v H
noncomputable def Yek(K:Xc):R2:=λx y H Q=>∃p xs i v,x= .ref p∧y= .int i∧SqT K H p xs∧atI xs i=some v∧Q v H
noncomputable def Yd5:R2:=λx y H Q=>∃z i c,x= .str z∧y= .int i∧z.length≤Xy∧atI z.cps.toList i=some c∧Q (.str ⟨#[c]⟩) H
theorem Zt7:IxR X (Ybs X.K):=by
 intro value slice pins s σ H x y v u Q I rx ry h hs
 obtain⟨p,xs,i,z,rfl,rfl,hq,he,q⟩:=h
 cases rx
 obtain⟨t,rfl⟩:=ry
 obtain⟨its,r,pl,hz⟩:=I.list hq
 obtain⟨j,h1,h2,h3,h4,h5⟩:=Znm he
 obtain⟨w,ew,rw'⟩:=r.get h2
 have hl:=r.length
 have hn:=Zjf
 have fin:EP X pins σ Q w s:=⟨z,H,I,rw',q⟩
 by_cases h0:0≤i
 ·have hj:i.toNat=j:=by
   rw[seqIndex_of h0 h5]at h1
   exact QD h1
  exact item_listR pl.isList h0 (by omega) (by rw[hj];simpa using ew) fin hs
 ·have hj:(i+(its.toArray.size:Int)).toNat=j:=by
   rw[seqIndex_neg (by omega) h4]at h1
   rw[Xz,←hl]
   exact QD h1
  exact subscriptTail_builtinR (x:=w) pl.isList.typeIs slot_list_getitem.lookup
   (wpAny_getItem_list_neg (Q:=λr s'=>r=w∧EP X pins σ Q r s') pl.isList (by omega) (by rw[Xz]<;>omega) (by omega) (by rw[hj];simpa using ew) ⟨rfl,fin⟩) hs
theorem Z6a:IxR X (Yek X.K):=by
 intro value slice pins s σ H x y v u Q I rx ry h hs
 obtain⟨p,xs,i,z,rfl,rfl,hq,he,q⟩:=h
 cases rx
 obtain⟨t,rfl⟩:=ry
 obtain⟨its,r,pl,hz⟩:=I.tuple hq
 obtain⟨j,h1,h2,h3,h4,h5⟩:=Znm he
 obtain⟨w,ew,rw'⟩:=r.get h2
 have hl:=r.length
 have hn:=Zjf
 have fin:EP X pins σ Q w s:=⟨z,H,I,rw',q⟩
 exact subscriptTail_builtinR (x:=w) pl.typeIs slot_tuple_getitem.lookup
  (getItem_tuple (j:=j) (Q:=λr s'=>r=w∧EP X pins σ Q r s') pl (by omega) (by omega) (by rw[Xz,←hl];exact h1) (by simpa using ew) ⟨rfl,fin⟩) hs
theorem Z5q:IxR X Yd5:=by
 intro value slice pins s σ H x y v u Q I rx ry h hs
 obtain⟨z,i,c,rfl,rfl,hz,he,q⟩:=h
 obtain⟨t,rfl⟩:=rx
 obtain⟨t',rfl⟩:=ry
 obtain⟨j,h1,h2,h3,h4,h5⟩:=Znm he
 have hl:z.cps.toList.length=z.length:=by simp[Str.length]
 rw[hl]at h1 h4 h5
 have hn:=Zjf
 exact tail_any (typeIs_str s z t) slot_str_getitem.lookup (getItem_str (c:=c) (by
  have e1:decide (i< -(2^63:Int))=false:=decide_eq_false (by omega)
  have e2:decide (i≥2^63)=false:=decide_eq_false (by omega)
  rw[e1,e2,Bool.or_false]) (by rw[h1];simpa using h2) ⟨.str ⟨#[c]⟩,H,I.tok _,⟨_,rfl⟩,q⟩) hs
noncomputable def rIx(K:Xc):R2:=λx y H Q=>Ybs K x y H Q∨Yek K x y H Q∨Yd5 x y H Q
theorem Z5z:IxR X (rIx X.K):=Zt7.or (Z6a.or Z5q)
theorem Zqr(its:List Xf)(n j:Nat)(u:Xf):Bb (·.setIfInBounds j u) { cls:=.type "list",data:=.seq its.toArray n }={ cls:=.type "list",data:=.seq (its.set j u).toArray n }:=by
 simp[Bb]
theorem Inv.lst{pins:List (Addr×Obj)}{σ:St}{H:Hp}{s:Xh}{p:Addr}{xs:List V}(I:Inv X pins σ H s)(h:H p=some (.lst xs)) :
  ∃(its:List Xf) (n:Nat),Vals xs its∧s.heap.get? p=some { cls:=.type "list",data:=.seq its.toArray n }∧xs.length≤Xy:=by
 obtain⟨z,its,n,r,e⟩:=I.hok p _ h
 exact⟨its,n,r,e,z⟩
theorem Inv.lstUpd{pins:List (Addr×Obj)}{σ:St}{H:Hp}{s:Xh}{p:Addr}{xs ys:List V}{its its':List Xf}{n n':Nat}{f:Obj->Obj}(I:Inv X pins σ H s)(h:H p=some (.lst xs))
  (ho:s.heap.get? p=some { cls:=.type "list",data:=.seq its.toArray n }) (hf:f { cls:=.type "list",data:=.seq its.toArray n }={ cls:=.type "list",data:=.seq its'.toArray n' }) (r:Vals ys its') (hz:ys.length≤Xy) (t:Nat) :
  Inv X pins σ (upd H p (.lst ys)) { s with heap:=s.heap.update p f,toks:=t }:=by
 have e:(s.heap.update p f).get? p=some { cls:=.type "list",data:=.seq its'.toArray n' }:=by
  rw[Heap.get?_update_self f ho (by rw[hf]<;>rfl),hf]
 refine I.write (x:=p) (e:=p) (by rw[h];trivial) (.inl rfl) (λb u hb q=>(Heap.get?_update_other _ _ (Vt hb)).trans q) ⟨_,e⟩ ?_
 exact⟨hz,its',n',r,e⟩
noncomputable def Z5m:V->V->V->Hp->(Hp->Prop)->Prop:=λo i v H Q=>∃p xs k j,o= .ref p∧i= .int k∧H p=some (.lst xs)∧ixN xs.length k=some j∧Q (upd H p (.lst (xs.set j v)))
theorem set_list:Ydj X Z5m:=by
 intro pins s σ H o i v ov iv u Q I ro ri rv h
 obtain⟨p,xs,k,j,rfl,rfl,hp,hj,q⟩:=h
 cases ro
 obtain⟨t,rfl⟩:=ri
 obtain⟨its,n,r,ho,hz⟩:=I.lst hp
 obtain⟨h1,h2,h3,h4⟩:=Zoo hj
 have hl:=r.length
 have hn:=Zjf
 have I':Inv X pins σ (upd H p (.lst (xs.set j v))) { s with heap:=s.heap.update p (Bb (·.setIfInBounds j u)) } :=
  I.lstUpd hp ho (Zqr its n j u) (r.set rv j) (by rw[Ve];exact hz) s.toks
 by_cases h0:0≤k
 ·have hk:k.toNat=j:=by
   rw[seqIndex_of h0 h4]at h1
   exact QD h1
  exact PySem.W.ki_setAt ho h0 (by omega) (by rw[Xz,←hl];exact h4) (by rw[hk];exact⟨_,I',q⟩)
 ·have hk:(k+(its.toArray.size:Int)).toNat=j:=by
   rw[seqIndex_neg (by omega) h3]at h1
   rw[Xz,←hl]
   exact QD h1
  exact PySem.W.ki_setBack ho (by omega) (by rw[Xz,←hl];exact h3) (by omega) (by rw[hk];exact⟨_,I',q⟩)
theorem Zmk(lo hi:Option Int)(n:Nat):(JX lo hi none n).1=((HT.sIx n 0 lo:Nat):Int)∧(JX lo hi none n).2.1=((HT.sIx n n hi:Nat):Int)∧(JX lo hi none n).2.2=1:=by
 refine⟨?_,?_,rfl⟩
 ·cases lo with
  | none=>simp[JX,HT.sIx]
  | some i=>
   simp only[JX,HT.sIx,Option.getD_none,show(1:Int)>0 by decide,if_true]
   by_cases h:i<0
   ·simp only[h,if_true]<;>omega
   ·simp only[h,if_false]<;>omega
 ·cases hi with
  | none=>simp[JX,HT.sIx]
  | some i=>
   simp only[JX,HT.sIx,Option.getD_none,show(1:Int)>0 by decide,if_true]
   by_cases h:i<0
   ·simp only[h,if_true]<;>omega
   ·simp only[h,if_false]<;>omega
theorem Zk4(its:List Xf)(lo hi:Option Int):slicePick its.toArray lo hi none=((its.drop (HT.sIx its.length 0 lo)).take (HT.sIx its.length its.length hi-HT.sIx its.length 0 lo)).toArray:=by
 obtain⟨h1,h2,h3⟩:=Zmk lo hi its.toArray.size
 unfold slicePick
 rw[h1,h2,h3]
 simp only[sliceRange_one,pick_run,Xz]<;>rfl
noncomputable def Yc8(K:Xc):V->Option Int->Option Int->Hp->VK->Prop:=λx lo hi H Q=>∃a xs,x= .ref a∧SqL K H a xs∧∀p,H p=none->Q (.ref p) (upd H p (.lst (Z37 xs lo hi)))
theorem Z1e:SlR X (Yc8 X.K):=by
 intro pins s σ H x v vl vu lo hi sl Q I rx hs pl pu h
 obtain⟨a,xs,rfl,hx,q⟩:=h
 cases rx
 obtain⟨its,r,ht,hz⟩:=I.list hx
 have hlen:=r.length
 refine⟨"list",_,slot_list_getitem.lookup,ht.isList.typeIs,?_⟩
 refine wpAny_getItem_list_slice ht.isList hs pl pu .none (by simp) ?_ (by rw[Xz]<;>omega)
 rw[Zk4,←hlen]
 refine⟨.ref s.heap.objs.size,_,I.laid (t':=s.toks) (o:=.lst (Z37 xs lo hi)) (λb ob q=>Xg _ q) (XN _) ?_,rfl,q _ (I.hok.fresh (XN _))⟩
 exact⟨Qv (Zn5 xs lo hi) hz,_,0,(r.drop (HT.sIx xs.length 0 lo)).take (HT.sIx xs.length xs.length hi-HT.sIx xs.length 0 lo),Xx _ rfl⟩
noncomputable def Zhm:V->Bool
 | .non=>true
 | .bl _=>true
 | .int _=>true
 | .str _=>true
 | _=>false
noncomputable def eqV:V->V->Bool
 | .non,.non=>true
 | .bl a,.bl b=>a==b
 | .bl a,.int b=>(if a then 1 else 0)==b
 | .int a,.bl b=>a==(if b then 1 else 0)
 | .int a,.int b=>a==b
 | .str a,.str b=>a==b
 | _,_=>false
theorem Z6e{A:Qo}{s:Xh}{y x:V}{u v:Xf}(ry:RelV y u)(rx:RelV x v)(fy:Zhm y=true)(fx:Zhm x=true):JZ A s u v (eqV y x):=by
 cases y with
 | non=>
  cases ry
  cases x with
  | non=>cases rx;exact JZ.same _
  | bl b=>cases rx;exact JZ.none_bool b
  | int b=>obtain⟨t,rfl⟩:=rx;exact JZ.none_int b t
  | str b=>obtain⟨t,rfl⟩:=rx;exact JZ.none_str b t
  | _=>exact absurd (show false=true from fx) Xp
 | bl a=>
  cases ry
  cases x with
  | non=>cases rx;exact JZ.bool_none a
  | bl b=>cases rx;exact JZ.bool_bool a b
  | int b=>obtain⟨t,rfl⟩:=rx;exact JZ.bool_int a b t
  | str b=>obtain⟨t,rfl⟩:=rx;exact JZ.bool_str a b t
  | _=>exact absurd (show false=true from fx) Xp
 | int a=>
  obtain⟨t',rfl⟩:=ry
  cases x with
  | non=>cases rx;exact JZ.int_none a t'
  | bl b=>cases rx;exact JZ.int_bool a t' b
  | int b=>obtain⟨t,rfl⟩:=rx;exact JZ.int_int a t' b t
  | str b=>obtain⟨t,rfl⟩:=rx;exact SeqAt.EqAt.int_str a t' b t
  | _=>exact absurd (show false=true from fx) Xp
 | str a=>
  obtain⟨t',rfl⟩:=ry
  cases x with
  | non=>cases rx;exact JZ.str_none a t'
  | bl b=>cases rx;exact JZ.str_bool a t' b
  | int b=>obtain⟨t,rfl⟩:=rx;exact SeqAt.EqAt.str_int a t' b t
  | str b=>obtain⟨t,rfl⟩:=rx;exact JZ.str_str a t' b t
  | _=>exact absurd (show false=true from fx) Xp
 | _=>exact absurd (show false=true from fy) Xp
noncomputable def eqU(x:V)(u:Xf):Bool:=match u with
 | .none=>eqV .non x
 | .bool b=>eqV (.bl b) x
 | .int i _=>eqV (.int i) x
 | .str z _=>eqV (.str z) x
 | _=>false
theorem Zy1{x y:V}{u:Xf}(r:RelV y u)(f:Zhm y=true):eqU x u=eqV y x:=by
 cases y with
 | non=>cases r;rfl
 | bl b=>cases r;rfl
 | int i=>obtain⟨t,rfl⟩:=r;rfl
 | str z=>obtain⟨t,rfl⟩:=r;rfl
 | _=>exact absurd (show false=true from f) Xp
theorem Zkh{x:V}{xs:List V}{us:List Xf}(h:Vals xs us)(f:xs.all Zhm=true):us.any (eqU x)=xs.any λy=>eqV y x:=by
 induction h with
 | nil=>rfl
 | cons r t ih=>
  rw[List.all_cons,XD]at f
  rw[List.any_cons,List.any_cons,Zy1 r f.1,ih f.2]
theorem Zha{A:Qo}{s:Xh}{x:V}{v:Xf}(rx:RelV x v)(fx:Zhm x=true){xs:List V}{us:List Xf}(h:Vals xs us)(f:xs.all Zhm=true):∀u∈us,JZ A s u v (eqU x u):=by
 induction h with
 | nil=>intro u hu;cases hu
 | cons r t ih=>
  intro u' hu
  rw[List.all_cons,XD]at f
  rcases Xr.mp hu with rfl|hu
  ·rw[Zy1 r f.1];exact Z6e r rx f.1 fx
  ·exact ih f.2 u' hu
noncomputable def inV(x:V)(xs:List V):Bool:=xs.any λy=>eqV y x
noncomputable def rIn(K:Xc)(neg:Bool):R2:=λx y H Q=>∃p xs,y= .ref p∧(SqL K H p xs∨SqT K H p xs)∧Zhm x=true∧xs.all Zhm=true∧Q (.bl (if neg then !inV x xs else inV x xs)) H
theorem Zsz:OpR X (QX .In) (rIn X.K false):=by
 intro pins s σ H x y v u Q I rx ry h
 obtain⟨p,xs,rfl,hq,fx,fs,q⟩:=h
 cases ry
 rcases hq with hq|hq
 ·obtain⟨its,r,pl,hz⟩:=I.list hq
  refine SeqAt.in_listAt (eqU x) pl.isList (λw hw=>Zha rx fx r fs w (by simpa using hw)) ⟨.bl _,H,I,rfl,?_⟩
  rw[show its.toArray.any (eqU x)=its.any (eqU x) by simp,Zkh r fs]
  exact q
 ·obtain⟨its,r,pl,hz⟩:=I.tuple hq
  refine SeqAt.in_tupleAt (eqU x) pl (λw hw=>Zha rx fx r fs w (by simpa using hw)) ⟨.bl _,H,I,rfl,?_⟩
  rw[show its.toArray.any (eqU x)=its.any (eqU x) by simp,Zkh r fs]
  exact q
theorem Zlw:OpR X (QX .NotIn) (rIn X.K true):=by
 intro pins s σ H x y v u Q I rx ry h
 obtain⟨p,xs,rfl,hq,fx,fs,q⟩:=h
 cases ry
 rcases hq with hq|hq
 ·obtain⟨its,r,pl,hz⟩:=I.list hq
  refine SeqAt.notIn_listAt (eqU x) pl.isList (λw hw=>Zha rx fx r fs w (by simpa using hw)) ⟨.bl _,H,I,rfl,?_⟩
  rw[show its.toArray.any (eqU x)=its.any (eqU x) by simp,Zkh r fs]
  exact q
 ·obtain⟨its,r,pl,hz⟩:=I.tuple hq
  refine SeqAt.notIn_tupleAt (eqU x) pl (λw hw=>Zha rx fx r fs w (by simpa using hw)) ⟨.bl _,H,I,rfl,?_⟩
  rw[show its.toArray.any (eqU x)=its.any (eqU x) by simp,Zkh r fs]
  exact q
theorem Zmt:Zdt X (.builtin "len") (λxs H Q=>∃p ys,xs=[.ref p]∧(SqL X.K H p ys∨SqT X.K H p ys)∧Q (.int ys.length) H):=by
 intro pins s σ H xs us Q I r h
 obtain⟨p,ys,rfl,hq,q⟩:=h
 obtain⟨u,rfl,rx⟩:=vals1 r
 cases rx
 have hn:=Zjf
 rcases hq with hq|hq
 ·obtain⟨its,r',pl,hz⟩:=I.list hq
  have hlen:=r'.length
  exact Calls.call_len_list pl.isList (by simp only[Xz]<;>omega) ⟨.int ys.length,H,I.tok _,⟨s.toks+1,by rw[Xz,hlen]⟩,q⟩
 ·obtain⟨its,r',pl,hz⟩:=I.tuple hq
  have hlen:=r'.length
  exact len_tuple pl (by simp only[Xz]<;>omega) ⟨.int ys.length,H,I.tok _,⟨s.toks+1,by rw[Xz,hlen]⟩,q⟩
theorem Znc:Zdt X (.type "list") (λxs H Q=>∃p ys,xs=[.ref p]∧(SqL X.K H p ys∨SqT X.K H p ys)∧∀l,H l=none->Q (.ref l) (upd H l (.lst ys))):=by
 intro pins s σ H xs us Q I r h
 obtain⟨p,ys,rfl,hq,q⟩:=h
 obtain⟨u,rfl,rx⟩:=vals1 r
 cases rx
 have fin:∀(its:List Xf),Vals ys its->ys.length≤Xy->∀(h':Heap) (c':Nat),(∀b o',s.heap.get? b=some o'->h'.get? b=some o') ->
   h'.get? s.heap.objs.size=some { cls:=.type "list",dict:=none,data:=.seq its.toArray c',slots:=#[] }->EP X pins σ Q (.ref s.heap.objs.size) { s with heap:=h' }:=λits r' hz h' c' kp e=>
  ⟨.ref s.heap.objs.size,_,I.laid (t':=s.toks) kp (XN _) (show ObjOk X.prog X.w _ h' _ (.lst ys)from⟨hz,its,c',r',e⟩),rfl,q _ (I.hok.fresh (XN _))⟩
 rcases hq with hq|hq
 ·obtain⟨its,r',pl,hz⟩:=I.list hq
  have hlen:=r'.length
  obtain⟨o,ho,hc,n,hd⟩:=pl.isList
  exact call_list_seq p (.inl rfl) ho hc hd (λh' c' kp e=>fin its r' hz h' c' kp e) (by simp only[Xz]<;>omega)
 ·obtain⟨its,r',pl,hz⟩:=I.tuple hq
  have hlen:=r'.length
  obtain⟨o,ho,hc,n,hd⟩:=pl
  exact call_list_seq p (.inr rfl) ho hc hd (λh' c' kp e=>fin its r' hz h' c' kp e) (by simp only[Xz]<;>omega)
noncomputable def tyV(K:Xc)(T:String)(x:V)(H:Hp):Prop:=match x with
 | .str _=>T="str"
 | .int _=>T="int"
 | .ref p=>(T="list"∧∃xs,SqL K H p xs)∨(T="tuple"∧∃o,K.lookup p=some o∧o.cls= .type "tuple"∧o.dict=none)∨
   (T="dict"∧((∃kvs,H p=some (.dK kvs))∨∃kvs,H p=some (.dT kvs)))∨(T="set"∧∃S n,H p=some (.set S n))
 | _=>False
theorem Z64{pins:List (Addr×Obj)}{σ:St}{H:Hp}{s:Xh}{T:String}{x:V}{v:Xf}(I:Inv X pins σ H s)(r:RelV x v)(ty:tyV X.K T x H) :
  s.TypeIs v T∧∀a,v= .ref a->∃ob,s.heap.get? a=some ob∧ob.dict=none:=by
 cases x with
 | str z=>
  obtain⟨t,rfl⟩:=r
  cases(show T="str"from ty)
  exact⟨typeIs_str s z t,λ_ e=>nomatch e⟩
 | int i=>
  obtain⟨t,rfl⟩:=r
  cases(show T="int"from ty)
  exact⟨typeIs_int s i t,λ_ e=>nomatch e⟩
 | ref p=>
  cases r
  rcases ty with⟨rfl,xs,hq⟩|⟨rfl,o,hk,hc,hd⟩|⟨rfl,hk⟩|⟨rfl,S,n,hk⟩
  ·obtain⟨its,_,pl,_⟩:=I.list hq
   refine⟨pl.isList.typeIs,λa e=>?_⟩
   cases e
   obtain⟨o,n,e,c,hd,_⟩:=pl
   exact⟨o,e,hd⟩
  ·refine⟨⟨o,I.kIn p o hk,hc⟩,λa e=>?_⟩
   cases e
   exact⟨o,I.kIn _ o hk,hd⟩
  ·have z:∃o,s.heap.get? p=some o∧o.ExactDict:=by
    rcases hk with⟨kvs,hk⟩|⟨kvs,hk⟩
    ·obtain⟨_,_,_,_,o,_,_,e,ex,_⟩:=I.hok p _ hk
     exact⟨o,e,ex⟩
    ·obtain⟨_,_,_,_,o,_,_,e,ex,_⟩:=I.hok p _ hk
     exact⟨o,e,ex⟩
   obtain⟨o,e,ex⟩:=z
   refine⟨⟨o,e,ex.1⟩,λa e2=>?_⟩
   cases e2
   exact⟨o,e,ex.2.1⟩
  ·obtain⟨o,_,_,_,e,ex,_⟩:=I.hok p _ hk
   refine⟨⟨o,e,ex.1⟩,λa e2=>?_⟩
   cases e2
   exact⟨o,e,ex.2.1⟩
 | _=>exact VJ ty
noncomputable def tBM(K:Xc)(T:String)(r:V->List V->Hp->VK->Prop)(to:TE)(t:TA):TE:=λσ H Q=>to σ H λx H1=>tyV K T x H1∧t σ H1 λxs H2=>r x xs H2 Q
variable {o e:Expr}{es:List Expr}{to:TE}{t:TA}{name:Str}{apos cpos:Pos}{T id:String}{r:V->List V->Hp->VK->Prop}
theorem Zsr(pa:PlainAttrs T)(slot:Slot T name id)(hty:typeOf (.builtin id)=pure (.type "method_descriptor"))(hm:MtR X id r)(ho:PE X o to)(ha:PA X (e :: es) t)
  (hbase:VN o name X.env (eval o X.env)=eval o X.env:=by rfl)
  (hfew:((JF cpos (Xo (e :: es) X.env)).all (λx=>!x.1)&&(backToKw cpos (Um [] X.env)).all (λx=>x.1.isSome)
   &&decide ((e :: es).length+([]:List VB).length+(if([]:List VB).isEmpty then 0 else 1)<30))=true:=by rfl)
  (hline:(apos.endLine==cpos.line)=true:=by rfl) (hs:Xo (e :: es) X.env=(false,eval e X.env) :: Xo es X.env:=by rfl) (hplain:(JF cpos (Xo es X.env)).any (·.1)=false:=by rfl) :
  PE X (.Call (.Attribute o name apos) (e :: es) [] cpos) (tBM X.K T r to t):=by
 intro pins s σ H Q I h
 refine wpAny_Call_method_late hbase hfew hline rfl (thn (ho pins s σ H _ I h) λv s1 qz9=>?_)
 obtain⟨x,H1,I1,r1,ty,q1⟩:=qz9
 obtain⟨h1,h2⟩:=Z64 I1 r1 ty
 refine⟨T,id,pa,slot,hty,h1,h2,?_⟩
 have hA:=ha cpos pins s1 σ H1 _ I1 q1
 rw[hs]at hA⊢
 refine Calls.callWith_builtin (by show(false||(JF cpos (Xo es X.env)).any (·.1))=false;rw[hplain]<;>rfl) (Calls.evalArgs_plain ?_)
 refine thn hA λus s2 qz9=>?_
 obtain⟨vs,H2,I2,r2,q2⟩:=qz9
 exact hm pins s2 σ H2 x vs v us Q I2 r1 r2 q2
end
noncomputable def MtM(X:Cx)(id:String)(r:V->List V->Hp->VK->Prop):Prop :=
 ∀(pins:List (Addr×Obj)) (s:Xh) (σ:St) (H:Hp) (x:V) (xs:List V) (v:Xf) (us:List Xf) (Q:VK),Inv X pins σ H s->RelV x v->Vals xs us->r x xs H Q ->
  XC (XX X.prog X.w) X.A (call (.builtin id) (v :: us)) (EP X pins σ Q) X.xe s
theorem Vals.one{x:V}{us:List Xf}(h:Vals [x] us):∃u,us=[u]∧RelV x u:=by
 cases h with
 | cons r t=>cases t;exact⟨_,rfl,r⟩
theorem Vals.eraseIdx:∀{xs:List V} {us:List Xf} (i:Nat),Vals xs us->Vals (xs.eraseIdx i) (us.eraseIdx i)
 | _,_,_,.nil=>.nil
 | _,_,0,.cons _ t=>t
 | _,_,i+1,.cons r t=>.cons r (Vals.eraseIdx i t)
theorem Vals.rep{xs:List V}{us:List Xf}(h:Vals xs us):∀k:Nat,Vals (XF k xs).flatten (XF k us).flatten
 | 0=>.nil
 | k+1=>by
  rw[Vm,Vm,Uj,Uj]
  exact Vals.append h (Vals.rep h k)
theorem Zmo{α:Type}:∀(l:List α) (i:Nat),(l.eraseIdx i).length≤l.length
 | [],_=>XN _
 | _ :: _,0=>Nat.le_succ _
 | _ :: r,i+1=>Nat.succ_le_succ (Zmo r i)
theorem foldl_rep(its:List Xf):∀(k:Nat) (acc:List Xf),
  List.foldl (λx1 x2=>x1 ++ x2) acc.toArray (XF k its.toArray)=(acc ++ (XF k its).flatten).toArray
 | 0,acc=>by simp
 | k+1,acc=>by
  have e:acc.toArray ++ its.toArray=(acc ++ its).toArray:=by simp
  have e2:(acc ++ its) ++ (XF k its).flatten=acc ++ (XF (k+1) its).flatten:=by
   rw[Vm,Uj,Q7]
  rw[←e2,←foldl_rep its k (acc ++ its),←e,Vm,List.foldl_cons]
section
variable {X:Cx}{pins:List (Addr×Obj)}{σ:St}{H:Hp}{s:Xh}{l b:Addr}{xs ys zs:List V}
theorem Inv.lset{its its':List Xf}{n:Nat}{f:Array Xf->Array Xf}{t':Nat}(I:Inv X pins σ H s)(hH:H l=some (.lst xs))
  (e:s.heap.get? l=some { cls:=.type "list",data:=.seq its.toArray n }) (hf:f its.toArray=its'.toArray) (hv:Vals ys its') (hz:ys.length≤Xy) :
  Inv X pins σ (upd H l (.lst ys)) { s with heap:=s.heap.update l (Bb f),toks:=t' }:=by
 have q:=PySem.IsL.update e f
 rw[hf]at q
 refine I.write (x:=l) (e:=l) (by rw[hH];exact trivial) (.inl rfl) (λb' u hb hu=>(Heap.get?_update_other s.heap (Bb f) (Vt hb)).trans hu) ⟨_,q⟩ ?_
 exact⟨hz,its',_,hv,q⟩
theorem Inv.lnew{its:List Xf}{t':Nat}(I:Inv X pins σ H s)(hv:Vals ys its)(hz:ys.length≤Xy) :
  Inv X pins σ (upd H s.heap.objs.size (.lst ys)) { s with heap:=s.heap.push { cls:=.type "list",data:=.seq its.toArray },toks:=t' } :=
 I.laid (λ_ _ q=>Xg _ q) (XN _) ⟨hz,its,0,hv,Xx _ rfl⟩
theorem Inv.fresh(I:Inv X pins σ H s):H s.heap.objs.size=none:=I.hok.fresh (XN _)
theorem Inv.lstM(I:Inv X pins σ H s)(hH:H l=some (.lst xs)):xs.length≤Xy∧∃(its:List Xf) (n:Nat),Vals xs its∧xs.length=its.length∧s.heap.get? l=some { cls:=.type "list",data:=.seq its.toArray n }:=by
 obtain⟨z,its,n,r,e⟩:=I.hok l _ hH
 exact⟨z,its,n,r,r.length,e⟩
theorem Zpi{n:Nat}(h:n≤Xy):VF n=false:=by
 unfold VF
 exact decide_eq_false (by omega)
end
section
variable {X:Cx}
noncomputable def Z29:V->List V->Hp->VK->Prop:=λx vs H Q=>∃l xs y,x= .ref l∧vs=[y]∧H l=some (.lst xs)∧xs.length<Xy∧Q .non (upd H l (.lst (xs ++ [y])))
theorem Zmj:MtM X "list.append" Z29:=by
 intro pins s σ H x vs v us Q I rx rv h
 obtain⟨l,xs,y,rfl,rfl,hH,hz,q⟩:=h
 cases rx
 obtain⟨u,rfl,ru⟩:=rv.one
 obtain⟨z,its,n,r,hl,e⟩:=I.lstM hH
 refine U0 F.slot_list_append ⟨_,e,rfl⟩ F.entry_list_append (F.args_list_append_2 _ _) (PySem.list_append l its.toArray n u (by rw[Xz];omega)) ⟨e,?_⟩
 refine⟨.non,_,I.lset (its':=its ++ [u]) hH e (by simp) (r.append (.cons ru .nil)) ?_,rfl,q⟩
 rw[Xw,JP]
 omega
noncomputable def Z23:V->List V->Hp->VK->Prop:=λx vs H Q=>∃l b xs zs,x= .ref l∧vs=[.ref b]∧H l=some (.lst xs)∧H b=some (.lst zs)∧xs.length+zs.length≤Xy∧Q .non (upd H l (.lst (xs ++ zs)))
theorem Zs7:MtM X "list.extend" Z23:=by
 intro pins s σ H x vs v us Q I rx rv h
 obtain⟨l,b,xs,zs,rfl,rfl,hH,hB,hz,q⟩:=h
 cases rx
 obtain⟨u,rfl,ru⟩:=rv.one
 cases ru
 obtain⟨z,its,n,r,hl,e⟩:=I.lstM hH
 obtain⟨z2,its2,n2,r2,hl2,e2⟩:=I.lstM hB
 have hsz:its.toArray.size+its2.toArray.size≤Xy:=by rw[Xz,Xz];omega
 have hlong:¬(!its.toArray.isEmpty&&VF (its.toArray.size+its2.toArray.size))=true:=by
  rw[Zpi hsz,Bool.and_false]
  exact Xp
 refine U0 F.slot_list_extend ⟨_,e,rfl⟩ F.entry_list_extend (F.args_list_extend_2 _ _)
  (AutoSeq1.list_extend_list_list_0 l its.toArray n b its2.toArray n2 hlong (by rw[Xz];omega) (by omega)) ⟨e,e2,?_⟩
 refine⟨.non,_,I.lset (its':=its ++ its2) hH e (by simp) (r.append r2) ?_,rfl,q⟩
 rw[Xw]
 omega
noncomputable def Z7g:V->List V->Hp->VK->Prop:=λx vs H Q=>∃l xs i k y,x= .ref l∧vs=[.int i]∧H l=some (.lst xs)∧-(2^63)≤i∧i<2^63∧seqIndex? i xs.length=some k∧xs[k]? =some y∧Q y (upd H l (.lst (xs.eraseIdx k)))
theorem Zxw:MtM X "list.pop" Z7g:=by
 intro pins s σ H x vs v us Q I rx rv h
 obtain⟨l,xs,i,k,y,rfl,rfl,hH,h1,h2,hk,hy,q⟩:=h
 cases rx
 obtain⟨u,rfl,ru⟩:=rv.one
 obtain⟨t,rfl⟩:=ru
 obtain⟨z,its,n,r,hl,e⟩:=I.lstM hH
 obtain⟨w,hw,rw'⟩:=r.get hy
 refine U0 F.slot_list_pop ⟨_,e,rfl⟩ F.entry_list_pop (F.args_list_pop_2 _ _)
  (MeetsSeq.list_pop_at l its.toArray n i t k w (fitsIndex_both h1 h2) (by rw[Xz,←hl];exact hk) (by rw[←Qk];exact hw) (by rw[Xz];omega)) ⟨e,?_⟩
 refine⟨y,_,I.lset (its':=its.eraseIdx k) hH e ?_ (r.eraseIdx k) ?_,rw',q⟩
 ·show its.toArray.eraseIdxIfInBounds k=(its.eraseIdx k).toArray
  rw[List.eraseIdxIfInBounds_toArray]
 ·have:=Zmo xs k
  omega
noncomputable def Yfh:R2:=λx y H Q=>∃l k xs,x= .ref l∧y= .int k∧H l=some (.lst xs)∧-(2^63)≤k∧k<2^63∧xs.length*k.toNat≤Xy∧
 ∀p,H p=none->Q (.ref p) (upd H p (.lst (XF k.toNat xs).flatten))
theorem len_rep{α:Type}(xs:List α)(k:Nat):(XF k xs).flatten.length=k*xs.length:=by
 induction k with
 | zero=>simp
 | succ k ih=>rw[Vm,Uj,Xw,ih,Nat.succ_mul,Nat.add_comm]
theorem Z4c:OpR X (Uh .Mult) Yfh:=by
 intro pins s σ H x y v u Q I rx ry h
 obtain⟨l,k,xs,rfl,rfl,hH,h1,h2,hz,q⟩:=h
 cases rx
 obtain⟨t,rfl⟩:=ry
 obtain⟨z,its,n,r,hl,e⟩:=I.lstM hH
 have hlen:its.toArray.size*k.toNat≤Xy:=by rw[Xz,←hl];exact hz
 have hcap:¬its.toArray.size*k.toNat>(2^63-1)/8:=by
  have:(Xy:Nat)≤(2^63-1)/8:=by decide
  omega
 have hfit:¬(!Bo.List.listFitsIndex k)=true:=by
  rw[fitsIndex_both h1 h2]
  exact Xp
 have hlong:¬VF (its.toArray.size*k.toNat)=true:=by
  rw[Zpi hlen]
  exact Xp
 have hnew:List.foldl (λx1 x2=>x1 ++ x2) #[] (XF (if its.toArray.isEmpty=true then 0 else k.toNat) its.toArray)=(XF k.toNat its).flatten.toArray:=by
  have f0:∀m:Nat,List.foldl (λx1 x2=>x1 ++ x2) #[] (XF m its.toArray)=(XF m its).flatten.toArray:=λm=>by
   have:=foldl_rep its m []
   rw[UV]at this
   exact this
  rw[f0]
  cases its with
  | nil=>simp
  | cons a r'=>rw[if_neg (by simp)]
 refine wpAny_binaryOp_repeat_ref (T :="list") (U :="int") (by decide) ⟨_,e,rfl⟩ (λs'=>typeIs_int s' k t) noFill_list_mul F.fills_int_mul F.slot_int_rmul repeat_list F.slot_int_index.lookup
  (U0 F.slot_int_rmul (typeIs_int s k t) F.entry_int_rmul (F.args_int_rmul_2 _ _) (int___rmul___int_list k t l its.toArray n)
   ⟨e,rfl,⟨_,e,rfl⟩,U0 F.slot_list_mul ⟨_,e,rfl⟩ F.entry_list_mul (F.args_list_mul_2 _ _) (AutoListH.list___mul___list_int_3 l its.toArray n k t hfit hcap hlong) ⟨e,?_⟩⟩)
 rw[hnew]
 exact⟨.ref _,_,I.lnew (t':=s.toks) (r.rep k.toNat) (by rw[len_rep,Nat.mul_comm];exact hz),rfl,q _ I.fresh⟩
end
section
variable {prog:X6}{w:Qq}{A:Qo}{E:Xf->Xh->Prop}{s:Xh}
end
section
variable {X:Cx}
end
end L2
namespace Att
open PySem PySem.W PySem.Calls PyProof.Rows
theorem Zho{P:Params}{h:Heap}:∀(ns:List Int) (vs:List Xf),WellAll P h vs (ns.map WData.int)->JN vs ns:=by
 intro ns
 induction ns with
 | nil=>
  intro vs w
  rw[List.map_nil]at w
  cases w
  exact .nil
 | cons n ns ih=>
  intro vs w
  rw[X3]at w
  cases w with
  | cons a b=>
   cases a
   exact .cons _ _ (ih _ b)
theorem Ztp{l:OpenLaw}{n:Nat}(hn:l.most=some n){P:Params}{h:Heap}{args:List WData}{vals:List Xf}
  (hpre:l.row.toRowW.claim.pre args=true) (hwl:WellAll P h vals args) :
  ∃a vs ns,vals=[Qn a]∧args=[WData.list (ns.map WData.int)]∧h.get? a=some { cls:=.type "list",data:=.seq vs.toArray }∧JN vs ns∧ns.length≤n:=by
 have hsh:WShape.hasAll [] args [.list .int]=true:=(pre_splitW hpre).1
 have hc:l.pre.holds [] { args:=args }=true:=(pre_splitW hpre).2
 obtain⟨d,r,rfl,h1,h2⟩:=hasAllW_cons hsh
 obtain rfl:=hasAllW_nil h2
 obtain⟨xs,rfl,h3⟩:=hasW_list h1
 obtain⟨ns,rfl⟩:=items_int h3
 have hlen:ns.length≤n:=by
  unfold OpenLaw.pre at hc
  have h4:(WTm.not (.lt (.lit (.int (n:Int))) (.len (.arg 0)))).holds [] { args:=[.list (ns.map .int)] }=true:=by
   have h4:=(holds_andW hc).1
   rw[hn]at h4
   exact h4
  have h5:=condW_of h4 (w_not (w_lt w_lit (w_len_list (w_arg rfl))))
  rw[Xj]at h5
  refine Nat.le_of_not_lt λq=>?_
  have q':(n:Int)<((ns.length:Nat):Int):=by omega
  first
   | (rw[decide_eq_true q']at h5;exact absurd h5 (by decide))
   | (simp at h5;omega)
 cases hwl with
 | cons w1 w2=>
  cases w2
  cases w1 with
  | list ho hall=>exact⟨_,_,ns,rfl,rfl,ho,Zho ns _ hall,hlen⟩
theorem Ztt(l:OpenLaw)(args:List WData):l.row.toRowW.claim.post args (.bool true) args=true :=
 postW_of (r:=l.row.toRowW) (X:=(true==true))
  (show WShape.has [] (.bool true) .bool=true by first|rfl|decide|simp[WShape.has,WShape.arms,WShape.armsAll])
  (show(WTm.eq .res (.lit (.bool true))).value [] { args:=args,res:=some (.bool true),after:=args }=some (.bool (true==true))from w_eq_bool (w_res rfl) w_lit) rfl
theorem attach_call{l:OpenLaw}{n:Nat}{q:X6}{loose:List Str}{XP:(Str->Option Xf)->Heap->Prop}{YP:Qq->Heap->Prop}{d:DefRec}
  (hn:l.most=some n) (hdf:d.params.defaults=[])
  (call:∀(w:Qq) (s₀ s₁:Xh) (mg mb:Str->Option Xf) (fa:Addr) (o:Obj) (pm cd doc:Xf) (a:Addr) (vs:List Xf) (ns:List Int),
   Ground q loose [] XP w s₀ mg mb s₁.heap->YP w s₁.heap ->
   s₁.heap.get? fa=some o->o.data= .func (docDef d.name d.params d.body d.scope pm cd doc)->s₁.heap.CodeRec cd d.name->mg d.name=some (.ref fa) ->
   s₁.heap.get? a=some { cls:=.type "list",data:=.seq vs.toArray }->JN vs ns->ns.length≤n->s₁.gens=#[] ->
   U6 (XX l.prog w) callerA (.call (.ref fa) ⟨[.ref a],[]⟩) (λr s'=>r= .ok (.ret (.bool true))∧OldK s₁.heap s'.heap∧s'.os=s₁.os∧AllBare s'.gens) s₁) :
  WalkO q loose XP YP l.row.toRowW d [] (λf vs=>PySem.call f vs):=by
 intro w s₀ s₁ mg mb G Y fa o pm cd doc dV kV ho hd hcd hD hmg hg args vals as hpre hlay hrd hwl hlo
 obtain rfl:dV= .none:=Dflts.none hD hdf
 obtain rfl:kV= .none:=Dflts.noKw hD
 obtain⟨a,vs,ns,rfl,rfl,hobj,hints,hlen⟩:=Ztp hn hpre hwl
 refine enter_call (codeAny_mono (call w s₀ s₁ mg mb fa o pm cd doc a vs ns G Y ho (fd_plain hd) hcd hmg hobj hints hlen hg) λr s' hq=>?_)
 obtain⟨rfl,h2,h3,h4⟩:=hq
 exact⟨.inl ⟨.bool true,.bool true,[],rfl,λ_=>rfl,.bool true,Ztt l _,λ_=>⟨List.Pairwise.nil,λ_ hm=>(nomatch hm)⟩⟩,h2,h3,h4⟩
section
variable {prog:X6}{w:Qq}{A:Qo}{E:Xf->Xh->Prop}{s:Xh}{K:Frag}
end
end Att
namespace L2
open PySem PySem.Spec PyProof.Rows
theorem Zt2{vs:List Xf}{ns:List Int}(h:JN vs ns):Vals (ns.map V.int) vs:=by
 induction h with
 | nil=>exact .nil
 | cons n t h ih=>exact .cons ⟨t,rfl⟩ ih
noncomputable def Only(H:Hp):Prop:=∀b,H b=none∨∃o xs,H b=some (.frz o (.lst xs))
theorem Zw2{P:X6}{w:Qq}{K:Xc}{mg mb:Str->Option Xf}{CX:CXT}{k:Nat}{fa a:Addr}{fd:XQ}{x:Str}{sp:Sp}{s₁:Xh}{vs:List Xf}{ns:List Int}
  (KX:K.In s₁.heap) (hns:s₁.heap.Ns Qj mg) (hb:s₁.heap.Ns builtinsNs mb) (hbb:∀x:Str,x≠"__name__" ->mb x=Qh x) (hlim:s₁.heap.NoLimit) (hg:s₁.gens=#[])
  (ha:s₁.heap.get? a=some { cls:=.type "list",data:=.seq vs.toArray }) (hi:JN vs ns) (hl:ns.length≤Xy) (hr:Room k callerA)
  (F:∀base:Heap,K.In base->base.Ns Qj mg->FnOk P w K mg base CX k fa fd [x] sp) (hbind:∀(s:Xh) (u:Xf),BindsTo s fd ⟨[u],[]⟩ [(x,u)])
  (hsp:∀H:Hp,Only H->SqL K H a (ns.map V.int)->sp [.ref a] H (λv _=>v= .bl true) λ_ _ _=>False)
  (hCX:∀H e s',CX [] H s₁ (λ_ _ _=>False) e s'->False) :
  U6 (XX P w) callerA (.call (.ref fa) ⟨[.ref a],[]⟩) (λr s'=>r= .ok (.ret (.bool true))∧OldK s₁.heap s'.heap∧s'.os=s₁.os∧AllBare s'.gens) s₁:=by
 have rv:=Zt2 hi
 have lenV:=hi.length
 -- from an abstract heap in which nothing but the script may be tracked
 have core:∀H:Hp,Only H->SqL K H a (ns.map V.int)->HOk P w H s₁.heap->(∀b,H b≠none->b=a)->(H a≠none->K.lookup a=none) ->
   U6 (XX P w) callerA (.call (.ref fa) ⟨[.ref a],[]⟩) (λr s'=>r= .ok (.ret (.bool true))∧OldK s₁.heap s'.heap∧s'.os=s₁.os∧AllBare s'.gens) s₁:=by
  intro H hO hS hok hA hK
  have base_of:∀{b:Addr} {o:Obj},s₁.heap.get? b=some o->H b=none->(Zyg s₁.heap H).get? b=some o:=λe n=>Zx4 e n
  have noA:∀{b:Addr} {o:Obj} {es:Array DictEntry} {ep:Nat},s₁.heap.get? b=some o->o.data= .dict es ep->H b=none:=fun{b o es ep} e d=>by
   cases q:H b with
   | none=>rfl
   | some u=>
    have e':b=a:=hA b (by rw[q];simp)
    subst e'
    rw[ha]at e;cases e
    have d':Data.seq vs.toArray _=Data.dict es ep:=d
    cases d'
  have nsK:∀{b:Addr} {m:Str->Option Xf},s₁.heap.Ns b m->(Zyg s₁.heap H).Ns b m:=fun{b m} ⟨o,es,ep,e,d,r⟩=>⟨o,es,ep,base_of e (noA e d),d,r⟩
  have hKb:K.In (Zyg s₁.heap H):=λb o e=>base_of (KX b o e) (by
   cases q:H b with
   | none=>rfl
   | some u=>
    have e':b=a:=hA b (by rw[q];simp)
    subst e'
    rw[hK (by rw[q];simp)]at e;cases e)
  have hM:Mod K mg (Zyg s₁.heap H):=⟨hKb,nsK hns,⟨mb,nsK hb,hbb⟩,let⟨mc,h1,h2⟩:=hlim;⟨mc,nsK h1,h2⟩⟩
  have e0:Z9l P w K mg (Zyg s₁.heap H) callerA [] s₁ H:=⟨rfl,hM,λb o e=>Z10 e,Nat.le_of_eq (Zuq _ _),trivial,λb hb=>absurd (show b∈([]:List Addr)from hb) (by simp),hok,.of_eq hg⟩
  refine codeAny_mono ((F _ hKb (nsK hns)).run callerA [] s₁ H ⟨[.ref a],[]⟩ [.ref a] [.ref a] _ _ hr e0 (hbind s₁ (.ref a)) (.cons rfl .nil) (hsp H hO hS)) λr s' h=>?_
  cases r with
  | error e=>exact(hCX H e s' h).elim
  | ok fl=>
   cases fl with
   | next=>exact VJ h
   | brk=>exact VJ h
   | cont=>exact VJ h
   | ret u=>
    obtain⟨v,H',os,bare,un,hok',r',q⟩:=h
    have q':v= .bl true:=q
    subst q'
    obtain rfl:u=U8 true:=r'
    refine⟨rfl,OldK.of_keep λb o e=>?_,os,bare⟩
    cases q:H b with
    | none=>exact un.keep b o e q (by intro z;exact absurd (show b∈([]:List Addr)from z) (by simp)) (by simp)
    | some u=>
     rcases hO b with z|⟨ob,xs,z⟩
     ·rw[q]at z;cases z
     ·have z2:=un.frzs b ob _ z
      obtain⟨e1,_⟩:=hok b _ z
      obtain⟨e2,_⟩:=hok' b _ z2
      rw[e]at e1;cases e1
      exact e2
 cases hk:K.lookup a with
 | some o=>
  -- the script is one of the module's own objects
  have e:=KX a o hk
  rw[ha]at e
  cases e
  refine core (λ_=>none) (λ_=>.inl rfl) (.inr ⟨_,vs.toArray,_,hk,rfl,rfl,rfl,by rw[Xz,lenV];exact hl,by simpa using rv⟩) (λb u z=>by have z':(none:Option HO)=some u:=z;cases z') (λb z=>absurd rfl z) λz=>absurd rfl z
 | none=>
  refine core (λb=>if b=a then some (.frz { cls:=.type "list",data:=.seq vs.toArray } (.lst (ns.map V.int)))else none) (λb=>?_) (.inl (.inr ⟨{ cls:=.type "list",data:=.seq vs.toArray },if_pos rfl⟩)) (λb u z=>?_) (λb z=>?_) λ_=>hk
  ·by_cases hb:b=a
   ·exact .inr ⟨_,_,if_pos hb⟩
   ·exact .inl (if_neg hb)
  ·by_cases hb:b=a
   ·have z':=(if_pos hb).symm.trans z
    cases z'
    subst hb
    exact⟨ha,by rw[Xj];exact hl,vs,_,rv,ha⟩
   ·have z':=(if_neg hb).symm.trans z
    cases z'
  ·by_cases hb:b=a
   ·exact hb
   ·exact absurd (if_neg hb) z
noncomputable abbrev KOf{K:Xc}{h:Heap}(_:K.In h):Xc:=K
theorem Z0i{l:PySem.W.OpenLaw}{n k:Nat}{q:X6}{loose:List Str}{XP:(Str->Option Xf)->Heap->Prop}{YP:Qq->Heap->Prop}{d:DefRec}{K:Params->Xc}{CX:Qq->CXT}{sp:Qq->Sp}{x:Str}
  (hn:l.most=some n) (hn2:n≤Xy) (hdf:d.params.defaults=[]) (hr:Room k callerA)
  (hY:∀(w:Qq) (h:Heap),YP w h->(K w.params).In h)
  (F:∀(w:Qq) (mg:Str->Option Xf) (fa:Addr) (h:Heap),(K w.params).In h->h.Ns Qj mg->mg d.name=some (.ref fa) ->
   ∃fd:XQ,(∀(s:Xh) (u:Xf),BindsTo s fd ⟨[u],[]⟩ [(x,u)])∧
    ∀base:Heap,(K w.params).In base->base.Ns Qj mg->FnOk l.prog w (K w.params) mg base (CX w) k fa fd [x] (sp w))
  (hsp:∀(w:Qq) (H:Hp) (a:Addr) (ns:List Int),ns.length≤n->Only H->SqL (K w.params) H a (ns.map V.int)->sp w [.ref a] H (λv _=>v= .bl true) λ_ _ _=>False)
  (hCX:∀(w:Qq) (H:Hp) (s:Xh) (e:Xf) (s':Xh),CX w [] H s (λ_ _ _=>False) e s'->False) :
  PySem.W.WalkO q loose XP YP l.row.toRowW d [] (λf vs=>PySem.call f vs):=by
 refine Att.attach_call hn hdf λw s₀ s₁ mg mb fa o pm cd doc a vs ns G Y ho hd hcd hmg hobj hints hlen hg=>?_
 have KX:=hY w _ Y
 obtain⟨fd,hb,hF⟩:=F w mg fa _ KX G.T.g hmg
 exact Zw2 KX G.T.g G.T.b G.T.builtins G.T.nolimit hg hobj hints (Qv hlen hn2) hr hF hb (λH hO hS=>hsp w H a ns hlen hO hS) λH e s'=>hCX w H s₁ e s'
noncomputable def Zf9(s:Stmt):Arguments:=match s with
 | .FunctionDef _ a _ _ _ _ _ _ _ _=>a
 | _=>{ posonlyargs:=[],args:=[],vararg:=none,kwonlyargs:=[],kw_defaults:=[],kwarg:=none,defaults:=[] }
noncomputable def Zcr(s:Stmt):List Stmt:=match s with
 | .FunctionDef _ _ b _ _ _ _ _ _ _=>b
 | _=>[]
noncomputable def Zn(s:Stmt):Uo:=match s with
 | .FunctionDef _ _ _ _ _ _ sc _ _ _=>sc
 | _=>{ kind:=.function,names:=[],isGenerator:=false,isCoroutine:=false }
noncomputable abbrev CX0:CXT:=λ_ _ _ _ _ _=>False
noncomputable abbrev E0:XK:=λ_ _ _=>False
theorem Zxo{X:Cx}:Zo3 CX0 X E0:=λ_ _ _ _ _ _ _ h=>h.elim
structure Fun(K:Xc)(x qual:Str)(st:Stmt)(f:Addr)(fd:XQ):Prop where
 ex:∃(oc:Xf) (od:Option Addr) (kV doc pm:Xf) (an:Option Addr) (cdv ct:Xf) (osl:Array (Option Xf)),
  fd=VH x qual (Zf9 st) (Zcr st) (Zn st) .none kV doc pm an cdv ct∧K.lookup f=some ⟨oc,od,.func fd,osl⟩∧PySem.W.codeIn K cdv qual=true
 kp:Vz K (.ref f)=true
section
variable {P:X6}{w:Qq}{K:Xc}{mg:Str->Option Xf}{base:Heap}
theorem Fun.ok{x qual:Str}{st:Stmt}{f:Addr}{fd:XQ}{N ps:List Str}{k:Nat}{sp:Sp}(F:Fun K x qual st f fd)(S:Zw N ps (Zn st))(len:∀vs H Q E,sp vs H Q E->vs.length=ps.length)
  (hbody:∀(cdv:Xf) (A:Qo) (outer:List Env) (s:Xh) (H:Hp) (vs:List V) (Q:VK) (E:XK),Room k (A.deeper (envOfC qual (Zn st) s.heap.objs.size f cdv))->sp vs H Q E ->
   ∃t,PSs (Zzt CX0 P w K mg base N qual (Zn st) f cdv A outer s H E).nox (Zcr st) t∧t { nx:=λ_ H'=>Q .non H',rt:=Q } (start N vs) H):FnOk P w K mg base CX0 (k+1) f fd ps sp:=by
 obtain⟨oc,od,kV,doc,pm,an,cdv,ct,osl,rfl,lk,hcd⟩:=F.ex
 refine Yas lk hcd S len λA outer s H vs Q E hr hsp=>?_
 obtain⟨t,h,q⟩:=hbody cdv A outer s H vs Q E hr hsp
 exact⟨t,h.nox,q⟩
theorem Fun.binds{x qual:Str}{st:Stmt}{f:Addr}{fd:XQ}{ps:List Str}(F:Fun K x qual st f fd)
  (h:∀(kV doc pm:Xf) (an:Option Addr) (cdv ct:Xf) (us:List Xf),us.length=ps.length->bindArgs (VH x qual (Zf9 st) (Zcr st) (Zn st) .none kV doc pm an cdv ct) ⟨us,[]⟩=pure (ps.zip us)):Binds K fd ps []:=by
 obtain⟨oc,od,kV,doc,pm,an,cdv,ct,osl,rfl,lk,hcd⟩:=F.ex
 exact .all (h kV doc pm an cdv ct)
theorem Z4v{x qual:Str}{st:Stmt}{f:Addr}{oc:Xf}{od an:Option Addr}{osl:Array (Option Xf)}{kV doc pm cdv ct:Xf}(l:K.lookup f=some ⟨oc,od,.func (VH x qual (Zf9 st) (Zcr st) (Zn st) .none kV doc pm an cdv ct),osl⟩)
  (c:PySem.W.codeIn K cdv qual=true) (k:Vz K (.ref f)=true):Fun K x qual st f (VH x qual (Zf9 st) (Zcr st) (Zn st) .none kV doc pm an cdv ct):=⟨⟨oc,od,kV,doc,pm,an,cdv,ct,osl,rfl,l,c⟩,k⟩
end
section
variable {X:Cx}
theorem pv(i:Nat){x:Str}{pos:Pos}(hN:X.N[i]? =some x:=by rfl)(hv:Vis X.env.scope x:=by first|exact QB rfl|exact Qw (QB rfl)|exact Qw (Qw rfl))(hd:(x==("__debug__" : Str))=false:=by decide)
  (hcd:(x==("__classdict__" : Str))=false:=by decide):PE X (.Name x pos) (Yci i):=Z4s hN hv hd hcd
end
noncomputable def Same(H H':Hp):Prop:=∀b o,H b=some o->H' b=some o
theorem Same.refl(H:Hp):Same H H:=λ_ _ h=>h
theorem Same.trans{H H1 H2:Hp}(a:Same H H1)(b:Same H1 H2):Same H H2:=λc o h=>b c o (a c o h)
theorem Same.free{H H':Hp}(e:Same H H'){l:Addr}(h:H' l=Option.none):H l=Option.none:=by
 cases q:H l with
 | none=>rfl
 | some o=>
  rw[e l o q]at h
  cases h
end L2
set_option maxHeartbeats 4000000
namespace L2
open PySem PySem.Spec PyProof.Rows
noncomputable def Bt(n:Nat)(x:Int):Prop:=x.natAbs<2^n
theorem Bt.mono{m n:Nat}{x:Int}(h:Bt m x)(hn:m≤n):Bt n x:=X4 h (Nat.pow_le_pow_right (by decide) hn)
theorem Bt.mul{m n:Nat}{x y:Int}(h:Bt m x)(k:Bt n y):Bt (m+n) (x*y):=by
 unfold Bt at*
 rw[Int.natAbs_mul,Nat.pow_add]
 exact Nat.mul_lt_mul'' h k
theorem Bt.neg{m:Nat}{x:Int}(h:Bt m x):Bt m (-x):=by
 unfold Bt at*
 rw[Int.natAbs_neg]
 exact h
theorem Bt.add'{m:Nat}{x y:Int}(h:Bt m x)(k:Bt m y):Bt (m+1) (x+y):=by
 unfold Bt at*
 have h3:2^(m+1)=2*2^m:=by rw[Nat.pow_succ];omega
 have h4:=Int.natAbs_add_le x y
 omega
theorem Bt.sub'{m:Nat}{x y:Int}(h:Bt m x)(k:Bt m y):Bt (m+1) (x-y):=by
 rw[Int.sub_eq_add_neg]
 exact h.add' k.neg
theorem Bt.of_le{m:Nat}{x y:Int}(h:Bt m x)(k:y.natAbs≤x.natAbs):Bt m y:=Nat.lt_of_le_of_lt k h
theorem Bt.of_lt{m:Nat}{x:Int}(h1:-(2^m)<x)(h2:x<2^m):Bt m x:=by
 unfold Bt
 have e:((2^m:Nat):Int)=2^m:=by simp
 omega
theorem Bt.bits{m:Nat}{x:Int}(h:Bt m x):JS x≤m:=by
 unfold JS
 split
 ·exact Qt _
 ·rename_i hx
  have hp:x.natAbs≠0:=by
   intro e
   apply hx
   have:x=0:=by omega
   subst this
   rfl
  have:=(Nat.log2_lt hp).mpr h
  omega
theorem Bt.mulOk{m n:Nat}{x y:Int}(h:Bt m x)(k:Bt n y)(hmn:m+n≤100000000:=by decide):IntMulOk x y:=by
 have h1:=h.bits
 have h2:=k.bits
 have h3:Builtin.Int.intTooBig (JS x+JS y)=false:=by
  unfold Builtin.Int.intTooBig bitsLine
  exact decide_eq_false (by omega)
 unfold IntMulOk
 rw[h3]
 simp
noncomputable def DivOk(_ j:Int):Prop:=j≠0∧j.natAbs.log2<9000
theorem DivOk.of{i j:Int}{n:Nat}(h0:j≠0)(h:Bt n j)(hn:n≤9000:=by decide):DivOk i j:=by
 refine⟨h0,?_⟩
 have hp:j.natAbs≠0:=by omega
 have:=(Nat.log2_lt hp).mpr h
 omega
section
variable {X:Cx}
theorem Z1j:OpR X (Uh .Mult) (rI IntMulOk λi j=>.int (i*j)):=opI λ_ _ _ _ _ _ _ hc q=>mul_int q hc
theorem Zyi:OpR X (Uh .FloorDiv) (rI DivOk λi j=>.int (i.fdiv j)):=opI λ_ _ _ _ _ _ _ hc q=>floordiv_int hc.1 q (.inl (PyProof.noPylong_of_log2 hc.2))
theorem Z0n:OpR X (Uh .Pow) (rI Z85 λi j=>.int (i^j.toNat)):=Z8o
end
theorem Ziy(elt target iter:Expr)(ifs:List Expr)(scope:Uo)(pos:Pos)(it acc:Xf)(env:Env) :
  compTurn (.ListComp elt [⟨target,iter,ifs,0⟩] scope pos) 0 it acc env=(standAt iter.pos>>= λ_=>Ub it>>= λr=>match r with
   | none=>pure (.done .next)
   | some v=>letOwnedTupleGo target it v>>= λ_=>U3 target env v>>= λ_=>
    (forIn ifs true λc r=>if r=true then do let ok←isTrue c env (eval c env);pure (JW ok)else pure (JW r))>>= λok=>
     if ok=true then((eval elt env>>= λx=>call (.builtin "list.append") [acc,x]>>= λ_=>pure ())>>= λ_=>
      again (.compLoop (.ListComp elt [⟨target,iter,ifs,0⟩] scope pos) 0 it acc env))
     else again (.compLoop (.ListComp elt [⟨target,iter,ifs,0⟩] scope pos) 0 it acc env)):=by rfl
theorem Zm8{prog:X6}{w:Qq}{A:Qo}{R:Result->Xh->Prop}{s:Xh}{elt target iter:Expr}{ifs:List Expr}{scope:Uo}{pos:Pos}{it acc:Xf}{env:Env}(I:Nat->Xh->Prop)
  (turn:∀n s,I n s->XC (XX prog w) A (Ub it) (λr s₁=>match r with
   | none=>R (.ok .next) s₁
   | some v=>XC (XX prog w) A (letOwnedTupleGo target it v) (λ_ s₁=>XC (XX prog w) A (U3 target env v) (λ_ s₂=>
     XC (XX prog w) A (forIn ifs true λc r=>if r=true then do let ok←isTrue c env (eval c env);pure (JW ok)else pure (JW r)) (λok s₃=>
      if ok=true then XC (XX prog w) A (eval elt env) (λx s₄=>
       XC (XX prog w) A (call (.builtin "list.append") [acc,x]) (λ_ s₅=>∃m,m<n∧I m s₅) (notedBy (XX prog w) A env λe s'=>R (.error e) s') s₄) (notedBy (XX prog w) A env λe s'=>R (.error e) s') s₃
      else∃m,m<n∧I m s₃) (notedBy (XX prog w) A env λe s'=>R (.error e) s') s₂) (notedBy (XX prog w) A env λe s'=>R (.error e) s') s₁) (notedBy (XX prog w) A env λe s'=>R (.error e) s') s₁) (notedBy (XX prog w) A env λe s'=>R (.error e) s') s)
  (n:Nat) (h:I n s) :
  U6 (XX prog w) A (.compLoop (.ListComp elt [⟨target,iter,ifs,0⟩] scope pos) 0 it acc env) R s:=by
 refine codeAny_loop rfl I (λn s hI=>?_) n h
 show XC _ A ((compTurn (.ListComp elt [⟨target,iter,ifs,0⟩] scope pos) 0 it acc env).onRaise (λx=>do noteFrame x env;theTreesLotGoes x)) _ _ s
 refine wpAny_noted ?_
 rw[Ziy]
 refine Xb (wpAny_standAt (Xb (Vd (turn n s hI) (λr s₁ h₁=>?_) λ_ _ h'=>h')))
 cases r with
 | none=>exact Xl h₁
 | some v=>
  refine Xb (Vd h₁ (λ_ s₂ h₂=>?_) λ_ _ h'=>h')
  refine Xb (Vd h₂ (λ_ s₂ h₂=>Xb (Vd h₂ (λok s₃ h₃=>?_) λ_ _ h'=>h')) λ_ _ h'=>h')
  cases ok with
  | false=>exact Xl ⟨rfl,h₃⟩
  | true=>
   exact Xb (Xb (Vd h₃ (λx s₄ h₄=>Xb (Vd h₄ (λ_ s₅ h₅=>Xl (Xl ⟨rfl,h₅⟩)) λ_ _ h'=>h')) λ_ _ h'=>h'))
noncomputable def Ziu(env:Env):List (Str×Bw)->List (Str×Addr)->List (Str×Addr)
 | [],acc=>acc
 | (n,k) :: r,acc=>if k== .free then Ziu env r ((n,(env.cells.lookup n).getD 0) :: acc)else Ziu env r acc
theorem Zld{env:Env}:∀(names:List (Str×Bw)) (acc:List (Str×Addr)),(∀y∈names,y.2= .free->∃c,env.cells.lookup y.1=some c) ->
  (forIn names acc (λ(y:Str×Bw) cs=>(if y.2== .free then(cellOf env y.1>>= λc=>pure (JW ((y.1,c) :: cs)))else pure (JW cs):Sem (ForInStep (List (Str×Addr))))))=pure (Ziu env names acc)
 | [],acc,_=>by rw[List.forIn_nil];rfl
 | (n,k) :: r,acc,h=>by
  by_cases hk:k= .free
  ·subst hk
   obtain⟨c,hc⟩:=h (n,.free) (.head _) rfl
   have hc':env.cells.lookup n=some c:=hc
   have e:=Zld (env:=env) r ((n,c) :: acc) λy hy=>h y (.tail _ hy)
   have ec:cellOf env n=pure c:=by
    unfold cellOf
    rw[hc']
   rw[List.forIn_cons]
   simp only[beq_self_eq_true,if_true]
   rw[ec]
   simp only[Ziu,beq_self_eq_true,if_true,hc',Uq]
   exact e
  ·have e:=Zld (env:=env) r acc λy hy=>h y (.tail _ hy)
   have hb:(k==QV)=false:=by simpa using hk
   rw[List.forIn_cons]
   simp only[Ziu,hb,Qi,if_false]
   exact e
theorem Zeo{scope:Uo}{env:Env}(h:∀y∈scope.names,y.2= .free->∃c,env.cells.lookup y.1=some c):closureFor scope env=pure (Ziu env scope.names []):=by
 have e:=Zld scope.names [] h
 have e':(forIn scope.names ([]:List (Str×Addr)) (λ(y:Str×Bw) cs=>(match y with|(name,kind)=>do
   if kind== .free then do let a←cellOf env name;pure (JW ((name,a) :: cs))else pure (JW cs):Sem (ForInStep (List (Str×Addr))))))=pure (Ziu env scope.names []):=e
 exact congrArg (λ(m:Sem (List (Str×Addr)))=>m>>= λx=>pure x) e'
theorem Zj8{env:Env}:∀(names:List (Str×Bw)) (acc:List (Str×Addr)),(∀y∈names,y.2= .free->∃c,env.cells.lookup y.1=some c) ->
  ∀n c,(n,c)∈Ziu env names acc->(n,c)∈acc∨((n,QV)∈names∧env.cells.lookup n=some c)
 | [],acc,_,n,c,h=>.inl h
 | (m,k) :: r,acc,h,n,c,hm=>by
  by_cases hk:k= .free
  ·subst hk
   obtain⟨d,hd⟩:=h (m,.free) (.head _) rfl
   have hd':env.cells.lookup m=some d:=hd
   simp only[Ziu,beq_self_eq_true,if_true,hd',Uq]at hm
   rcases Zj8 r _ (λy hy=>h y (.tail _ hy)) n c hm with z|⟨z1,z2⟩
   ·rcases Xr.mp z with z|z
    ·cases z;exact .inr ⟨.head _,hd'⟩
    ·exact .inl z
   ·exact .inr ⟨.tail _ z1,z2⟩
  ·have hb:(k==QV)=false:=by simpa using hk
   simp only[Ziu,hb,Qi,if_false]at hm
   refine(Zj8 r _ (λy hy=>h y (.tail _ hy)) n c hm).imp id λqz9=>?_
   obtain⟨z1,z2⟩:=qz9
   exact⟨.tail _ z1,z2⟩
theorem Zkr{env:Env}:∀(names:List (Str×Bw)) (acc:List (Str×Addr)),∀p∈acc,p∈Ziu env names acc
 | [],_,_,h=>h
 | (m,k) :: r,acc,p,h=>by
  unfold Ziu
  split
  ·exact Zkr r _ p (.tail _ h)
  ·exact Zkr r _ p h
theorem Zls{env:Env}:∀(names:List (Str×Bw)) (acc:List (Str×Addr)) (n:Str),(n,QV)∈names->∃c,(n,c)∈Ziu env names acc
 | [],_,_,h=>nomatch h
 | (m,k) :: r,acc,n,h=>by
  rcases Xr.mp h with z|z
  ·cases z
   exact⟨_,by
    simp only[Ziu,beq_self_eq_true,if_true]
    exact Zkr _ _ _ (.head _)⟩
  ·unfold Ziu
   split
   ·exact Zls r _ n z
   ·exact Zls r _ n z
theorem Zgk{env:Env}(inj:∀x y c,env.cells.lookup x=some c->env.cells.lookup y=some c->x=y):∀(names:List (Str×Bw)) (acc:List (Str×Addr)),
  (∀ y∈names,y.2= .free->∃c,env.cells.lookup y.1=some c)->(names.map (·.1)).Nodup->(∀p∈acc,env.cells.lookup p.1=some p.2)->(∀p∈acc,p.1∉names.map (·.1))->(acc.Pairwise λx y=>x.2≠y.2) ->
  (Ziu env names acc).Pairwise λx y=>x.2≠y.2
 | [],_,_,_,_,_,h=>h
 | (m,k) :: r,acc,hf,hn,ha,hd,hp=>by
  rw[X3,Qm]at hn
  have hf':∀y∈r,y.2= .free->∃c,env.cells.lookup y.1=some c:=λy hy=>hf y (.tail _ hy)
  have hd':∀p∈acc,p.1∉r.map (·.1):=λp hp z=>hd p hp (by rw[X3];exact .tail _ z)
  by_cases hk:k= .free
  ·subst hk
   obtain⟨d,hd0⟩:=hf (m,.free) (.head _) rfl
   have hd1:env.cells.lookup m=some d:=hd0
   simp only[Ziu,beq_self_eq_true,if_true,hd1,Uq]
   refine Zgk inj r _ hf' hn.2 (λp hp'=>?_) (λp hp'=>?_) (List.pairwise_cons.mpr ⟨λp hp' z=>?_,hp⟩)
   ·rcases Xr.mp hp' with rfl|hp'
    ·exact hd1
    ·exact ha p hp'
   ·rcases Xr.mp hp' with rfl|hp'
    ·exact hn.1
    ·exact hd' p hp'
   ·have e:m=p.1:=inj m p.1 d hd1 (by rw[ha p hp',←z])
    exact hd p hp' (by rw[X3,←e];exact .head _)
  ·have hb:(k==QV)=false:=by simpa using hk
   simp only[Ziu,hb,Qi,if_false]
   exact Zgk inj r _ hf' hn.2 ha hd' hp
structure Zqt(h:Heap)(lo:Nat)(names:List (Str×Bw))(acc cs:List (Str×Addr)):Prop where
 mem:∀n c,(n,c)∈cs->(n,c)∈acc∨(h.IsCell c none∧lo≤c∧(n,Bj)∈names)
 has:∀n,(n,Bj)∈names->∃c,(n,c)∈cs
 old:∀p∈acc,p∈cs
theorem Zgg:∀(names:List (Str×Bw)) (h:Heap) (lo:Nat) (acc:List (Str×Addr)),lo≤h.objs.size->Zqt (Va h names) lo names acc (Bh h.objs.size names acc)
 | [],_,_,_,_=>⟨λ_ _ m=>.inl m,(λ_ m=>nomatch m),λ_ m=>m⟩
 | (name,kind) :: r,h,lo,acc,hlo=>by
  by_cases hk:(kind==Bj)=true
  ·have ek:kind= .cell:=by simpa using hk
   subst ek
   have ih:=Zgg r (h.push { cls:=.type "cell",data:=.cell none }) lo ((name,h.objs.size) :: acc) (by rw[QC];omega)
   rw[QC]at ih
   have e1:Bh h.objs.size ((name,.cell) :: r) acc=Bh (h.objs.size+1) r ((name,h.objs.size) :: acc):=by
    rw[Bh,if_pos hk]
   have e2:Va h ((name,.cell) :: r)=Va (h.push { cls:=.type "cell",data:=.cell none }) r:=by
    rw[Va,if_pos hk]
   rw[e1,e2]
   refine⟨λn c m=>?_,λn m=>?_,λp m=>ih.old p (.tail _ m)⟩
   ·rcases ih.mem n c m with z|⟨z1,z2,z3⟩
    ·rcases Xr.mp z with z|z
     ·cases z
      exact .inr ⟨⟨_,pushCells_keeps _ _ _ _ (Xx _ rfl),rfl⟩,hlo,.head _⟩
     ·exact .inl z
    ·exact .inr ⟨z1,z2,.tail _ z3⟩
   ·rcases Xr.mp m with z|z
    ·cases z
     exact⟨_,ih.old _ (.head _)⟩
    ·exact ih.has n z
  ·have ih:=Zgg r h lo acc hlo
   have e1:Bh h.objs.size ((name,kind) :: r) acc=Bh h.objs.size r acc:=by
    rw[Bh,if_neg hk]
   have e2:Va h ((name,kind) :: r)=Va h r:=by
    rw[Va,if_neg hk]
   rw[e1,e2]
   refine⟨λn c m=>(ih.mem n c m).imp id λ⟨z1,z2,z3⟩=>⟨z1,z2,.tail _ z3⟩,λn m=>?_,ih.old⟩
   rcases Xr.mp m with z|z
   ·cases z
    exact absurd rfl hk
   ·exact ih.has n z
theorem Zhq(names:List (Str×Bw)):∀(h:Heap) (acc:List (Str×Addr)),(acc.Pairwise λx y=>x.2≠y.2)->(∀p∈acc,p.2<h.objs.size)->(Bh h.objs.size names acc).Pairwise λx y=>x.2≠y.2:=by
 induction names with
 | nil=>intro h acc ha _;exact ha
 | cons y r ih=>
  intro h acc ha hb
  obtain⟨name,kind⟩:=y
  unfold Bh
  split
  ·have:=ih (h.push { cls:=.type "cell",data:=.cell none }) ((name,h.objs.size) :: acc) (List.pairwise_cons.mpr ⟨λp hp=>XJ (hb p hp),ha⟩) (λp hp=>by
    rw[QC]
    rcases Xr.mp hp with rfl|hp
    ·exact Qx _
    ·exact Bc (hb p hp))
   rwa[QC]at this
  ·exact ih h acc ha hb
theorem Zi8{M:Model}{A:Qo}{E:Xf->Xh->Prop}{s:Xh}{scope:Uo}{globals:Addr}{cl:List (Str×Addr)}{qual:Str}{env:Env}{Q:Env->Xh->Prop}
  (hQ:Q (newEnv scope s.heap.objs.size globals (Bh (s.heap.objs.size+1) scope.names cl) qual none .none (some env) builtinsNs)
   { s with heap:=Va (s.heap.push { cls:=.type "dict",data:=.dict #[] }) scope.names }) :
  XC M A (newFunctionEnv scope globals cl [] qual none .none (some env)) Q E s:=by
 simp only[newFunctionEnv,Option.isSome_some,if_true]
 refine Xb (wpAny_alloc ?_)
 refine Xb (wpAny_layCells _ (λname kind cells=>by cases hkc:kind==Bj<;>simp[hkc]) _ _ _ _ ?_)
 rw[show({ s with heap:=s.heap.push { cls:=.type "dict",data:=.dict #[] } }:Xh).heap.objs.size=s.heap.objs.size+1 from QC ..]
 rw[List.forIn_nil]
 exact Xb (Xl (Xl hQ))
noncomputable def Wb(X:Cx)(N':List Str)(sc:Uo)(C:Addr)(cells:List (Str×Addr))(s₂:Xh)(H₂:Hp)(fp:List Addr):Cx :=
 { X with N:=N',s₀:=s₂,H₀:=H₂,env:=compEnvC sc cells C X.env,outer:=X.stack,stack:=X.stack,ex:=fp,fn:=λx=>sc.names.lookup x==some .cell,pn:=[],xe:=λ_ _=>False }
theorem Zek{env:Env}:∀{names:List (Str×Bw)} {x:Str} {k:Bw},names.lookup x=some k ->
  (names.map λ(n,k)=>if(k==QV&&env.scope.kind== .function&&env.kindOf n==some .cell)then(n,Bj)else(n,k)).lookup x=
   some (if(k==QV&&env.scope.kind== .function&&env.kindOf x==some .cell)then Bj else k)
 | [],_,_,h=>by simp at h
 | (n,k') :: r,x,k,h=>by
  have ih:=@Zek env r x k
  show List.lookup x ((if(k'==QV&&env.scope.kind== .function&&env.kindOf n==some .cell)=true then(n,Bj)else(n,k')) :: _)=_
  cases hx:x==n with
  | true=>
   simp only[QW,hx]at h
   cases h
   have e:=beq_iff_eq.mp hx
   subst e
   split<;>simp[QW]
  | false=>
   simp only[QW,hx]at h
   split
   ·simp only[QW,hx];exact ih h
   ·simp only[QW,hx];exact ih h
theorem Zgr{env:Env}:∀{names:List (Str×Bw)} {x:Str},names.lookup x=none ->
  (names.map λ(n,k)=>if(k==QV&&env.scope.kind== .function&&env.kindOf n==some .cell)then(n,Bj)else(n,k)).lookup x=none
 | [],_,_=>rfl
 | (n,k') :: r,x,h=>by
  have ih:=@Zgr env r x
  show List.lookup x ((if(k'==QV&&env.scope.kind== .function&&env.kindOf n==some .cell)=true then(n,Bj)else(n,k')) :: _)=_
  cases hx:x==n with
  | true=>
   simp only[QW,hx]at h
   cases h
  | false=>
   simp only[QW,hx]at h
   split
   ·simp only[QW,hx];exact ih h
   ·simp only[QW,hx];exact ih h
theorem Zfe{α:Type}:∀{l:List (Str×α)} {n:Str} {c:α},(l.map (·.1)).Nodup->(n,c)∈l->l.lookup n=some c
 | (k,v) :: r,n,c,hd,h=>by
  rw[X3,Qm]at hd
  rcases Xr.mp h with e|hr
  ·cases e
   simp[QW]
  ·have hne:(n==k)=false:=by
    refine Bu.mpr λz=>hd.1 ?_
    have e:n=k:=beq_iff_eq.mp z
    rw[←e]
    exact Qe.mpr ⟨(n,c),hr,rfl⟩
   rw[QW,hne]
   exact Zfe hd.2 hr
theorem Y7{α:Type}:∀{l:List (Str×α)} {n:Str} {c:α},(n,c)∈l->∃d,l.lookup n=some d∧(n,d)∈l
 | (k,v) :: r,n,c,h=>by
  by_cases e:n=k
  ·subst e
   exact⟨v,by simp[QW],List.mem_cons_self⟩
  ·have hne:(n==k)=false:=by simpa using e
   rcases Xr.mp h with z|z
   ·cases z;exact absurd rfl e
   ·obtain⟨d,h1,h2⟩:=Y7 z
    exact⟨d,by rw[QW,hne];exact h1,.tail _ h2⟩
structure CompScope(X:Cx)(own:List Str)(caps:List Nat)(N':List Str)(sc:Uo):Prop where
 kind:sc.kind= .function
 nd:N'.Nodup
 names:N'=own ++ caps.map λi=>X.N.getD i Str.empty
 nn:(sc.names.map (·.1)).Nodup
 free:(sc.names.all λy=>y.2 != .free||(X.env.kindOf y.1==some .cell||X.env.kindOf y.1==some .free))=true
 caps:(caps.all λi=>sc.names.lookup (X.N.getD i Str.empty)==some .free)=true
noncomputable def Zau(own:List Str)(caps:List Nat)(σ:St):St:=own.map (λ_=>none) ++ caps.map λi=>(σ[i]?).getD none
section
variable {X:Cx}{own:List Str}{caps:List Nat}{N':List Str}{sc:Uo}
theorem CompScope.lk(S:CompScope X own caps N' sc){n:Str}{k:Bw}(h:(n,k)∈sc.names):sc.names.lookup n=some k:=Zfe S.nn h
theorem CompScope.fr(S:CompScope X own caps N' sc){n:Str}(h:(n,QV)∈sc.names):X.env.kindOf n=some .cell∨X.env.kindOf n=some .free:=by
 have:=Uv.mp S.free _ h
 simpa using this
theorem Zq6{pins:List (Addr×Obj)}{σ:St}{H:Hp}{s:Xh}{fp:List Addr}{cl:List (Str×Addr)}(S:CompScope X own caps N' sc)(I:Inv X pins σ H s)
  (f:∀b∈fp,Zkb X pins H b) (fo:∀b∈fp,∃o,s.heap.get? b=some o)
  (hcl:∀n c,(n,c)∈cl->(n,QV)∈sc.names∧X.env.cells.lookup n=some c) (hcl2:∀n,(n,QV)∈sc.names->∃c,(n,c)∈cl) (hapart:cl.Pairwise λx y=>x.2≠y.2) :
  Inv (Wb X N' sc (s.heap.objs.size+1) (Bh (s.heap.objs.size+2) sc.names cl) s H fp) [] (Zau own caps σ) (upd H s.heap.objs.size (.lst []))
   { s with heap:=Va ((s.heap.push { cls:=.type "list",data:=.seq #[] }).push { cls:=.type "dict",data:=.dict #[] }) sc.names }:=by
 generalize hh1:s.heap.push { cls:=.type "list",data:=.seq #[] }=h1
 have z1:h1.objs.size=s.heap.objs.size+1:=by rw[←hh1,QC]
 generalize hh2:h1.push { cls:=.type "dict",data:=.dict #[] }=h2
 have z2:h2.objs.size=s.heap.objs.size+2:=by rw[←hh2,QC,z1]
 have BC:=Zgg sc.names h2 (s.heap.objs.size+2) cl (by omega)
 have AP:=Zhq sc.names h2 cl hapart (λp hp=>by
  obtain⟨v,hv⟩:=I.cell p.1 p.2 (hcl p.1 p.2 hp).2
  exact X4 hv.lt (by omega))
 rw[z2]at BC AP
 have keep:∀b o,s.heap.get? b=some o->(Va h2 sc.names).get? b=some o:=λb o e=>pushCells_keeps _ _ _ _ (by
  rw[←hh2]
  refine Xg _ ?_
  rw[←hh1]
  exact Xg _ e)
 have hD:(Va h2 sc.names).get? s.heap.objs.size=some { cls:=.type "list",data:=.seq #[] }:=pushCells_keeps _ _ _ _ (by
  rw[←hh2]
  refine Xg _ ?_
  rw[←hh1]
  exact Xx _ rfl)
 have hC:(Va h2 sc.names).Ns (s.heap.objs.size+1) (λ_=>none):=by
  refine Heap.Ns.keeps ?_ (pushCells_keeps _ _)
  have:=Heap.Ns.new h1 (.type "dict")
  rw[hh2,z1]at this
  exact this
 have cellOld:∀n c,X.env.cells.lookup n=some c->c<s.heap.objs.size:=λn c e=>by
  obtain⟨v,hv⟩:=I.cell n c e
  exact hv.lt
 have lk':∀n c,(Bh (s.heap.objs.size+2) sc.names cl).lookup n=some c->(n,c)∈Bh (s.heap.objs.size+2) sc.names cl:=λn c e=>Ba e
 have hnD:H s.heap.objs.size=none:=I.fresh
 have fresh:∀c,s.heap.objs.size<c->upd H s.heap.objs.size (.lst []) c=none:=λc hc=>by
  rw[Z4 (XJ hc)]
  exact I.hok.fresh (Ul hc)
 have isc:∀n c,(n,c)∈Bh (s.heap.objs.size+2) sc.names cl->∃v,(Va h2 sc.names).IsCell c v:=λn c m=>by
  rcases BC.mem n c m with z|⟨z,_⟩
  ·obtain⟨v,hv⟩:=I.cell n c (hcl n c z).2
   exact⟨v,hv.keeps keep⟩
  ·exact⟨none,z⟩
 have okH:HOk X.prog X.w (upd H s.heap.objs.size (.lst [])) (Va h2 sc.names):=by
  refine I.hok.laid keep (XN _) ?_
  exact⟨Qt _,[],0,.nil,hD⟩
 have kinds:∀x k,sc.names.lookup x=some k->(relabel sc X.env).names.lookup x=some (if(k==QV&&X.env.scope.kind== .function&&X.env.kindOf x==some .cell)then Bj else k):=λx k e=>Zek e
 have kindsR:∀x k,(relabel sc X.env).names.lookup x=some k->∃k',(x,k')∈sc.names∧k=(if(k'==QV&&X.env.scope.kind== .function&&X.env.kindOf x==some .cell)then Bj else k'):=λx k e=>by
  cases q:sc.names.lookup x with
  | none=>
   have:=Zgr (env:=X.env) q
   rw[show(relabel sc X.env).names.lookup x=_ from this]at e
   cases e
  | some k'=>
   refine⟨k',Ba q,?_⟩
   rw[kinds x k' q]at e
   exact(QD e).symm
 refine⟨⟨I.ok.mod,S.kind,I.ok.glob,I.ok.blt,?_,?_,?_,?_,I.ok.hd,I.ok.frames,.inl rfl,?_,?_,?_,?_,?_,?_,?_⟩,rfl,I.bare,?_,?_,?_,?_,?_,(λp hp=>nomatch hp),okH,?_⟩
 ·show s.heap.objs.size≤s.heap.objs.size+1;omega
 ·intro x y c e1 e2
  exact name_of_addr AP (lk' x c e1) (lk' y c e2)
 ·intro x hx
  rcases hx with hx|hx
  ·obtain⟨k',hm,hk'⟩:=kindsR x _ hx
   cases k' with
   | cell=>
    obtain⟨c,hc⟩:=BC.has x hm
    obtain⟨d,h1,_⟩:=Y7 hc
    exact⟨d,h1⟩
   | free=>
    obtain⟨c,hc⟩:=hcl2 _ hm
    obtain⟨d,h1,_⟩:=Y7 (BC.old _ hc)
    exact⟨d,h1⟩
   | _=>simp at hk'
  ·obtain⟨k',hm,hk'⟩:=kindsR x _ hx
   cases k' with
   | free=>
    obtain⟨c,hc⟩:=hcl2 _ hm
    obtain⟨d,h1,_⟩:=Y7 (BC.old _ hc)
    exact⟨d,h1⟩
   | _=>simp at hk'
 ·intro x c hf e
  have hf':sc.names.lookup x=some .cell:=by simpa [Wb]using hf
  rcases BC.mem x c (lk' x c e)with z|⟨_,z,_⟩
  ·-- a free one and a cell at once: the name stands once
   exfalso
   have q:=S.lk (hcl x c z).1
   rw[hf']at q
   cases q
  ·show s.heap.objs.size≤c;omega
 ·intro b hb
  obtain⟨o,ho⟩:=fo b hb
  have hlt:=XH ho
  refine⟨Xn (Vr hlt (Qx _)),λx c e z=>?_⟩
  rcases BC.mem x c (lk' x c e)with q|⟨_,q,_⟩
  ·exact(f b hb).2.2.2.2.1 x c (hcl x c q).2 z
  ·subst z
   exact absurd hlt (Nat.not_lt.mpr (Qv (Q5 _ 2) q))
 ·exact I.bs
 ·exact Qv I.ok.bsz I.sz
 ·intro b o e hb
  rcases(f b hb).2.2.2.1 with z|z
  ·exact I.ok.noex b o e z
  ·exact absurd (X4 (XH e) I.ok.bsz) (Nat.not_lt.mpr z)
 ·intro b hb z
  rcases Xr.mp (I.stkSub b z)with q|q
  ·exact(f b hb).2.1 q
  ·exact(f b hb).2.2.1 q
 ·exact I.stack
 ·exact I.stkFree
 ·exact Un.laid keep (XN _) hnD
 ·refine⟨_,hC,λi x v e1 e2 e3=>?_⟩
  have e1':(own ++ caps.map λi=>X.N.getD i Str.empty)[i]? =some x:=by rw[←S.names];exact e1
  have e2':(own.map (λ_=>(none:Option V)) ++ caps.map λi=>(σ[i]?).getD none)[i]? =some (some v):=e2
  by_cases hi:i<own.length
  ·rw[Vc (by simpa using hi),Xq]at e2'
   cases q:own[i]? with
   | none=>rw[q]at e2';cases e2'
   | some y=>rw[q]at e2';cases e2'
  ·rw[BV (by simpa using hi),Xq]at e2'
   rw[BV (by omega),Xq]at e1'
   rw[Xj]at e2'
   cases q:caps[i-own.length]? with
   | none=>rw[q]at e2';cases e2'
   | some j=>
    rw[q]at e1' e2'
    have e1:X.N.getD j Str.empty=x:=QD e1'
    have e2:(σ[j]?).getD none=some v:=QD e2'
    have e4:σ[j]? =some (some v):=by
     cases r:σ[j]? with
     | none=>rw[r]at e2;cases e2
     | some o=>rw[r]at e2;exact congrArg some e2
    have hj:j<X.N.length:=by rw[←I.len];exact(Xm.mp e4).1
    have e5:X.N[j]? =some x:=by rw[←e1];simp[Xe,hj]
    have hc:=Uv.mp S.caps j (QL q)
    have e6:sc.names.lookup x=some .free:=by rw[←e1];simpa using hc
    have hm:=Ba e6
    have kx:=S.fr hm
    obtain⟨m,hn,hl⟩:=I.loc
    obtain⟨u,ru,lo⟩:=hl j x v e5 e4 (by rcases kx with z|z;exact .inr (.inl z);exact .inr (.inr z))
    refine⟨u,ru,.inr ⟨?_,?_⟩⟩
    ·have:=kinds x _ e6
     show(relabel sc X.env).names.lookup x=_∨(relabel sc X.env).names.lookup x=_
     rw[this]
     split
     ·exact .inl rfl
     ·exact .inr rfl
    ·rcases lo with⟨z,_⟩|⟨_,c,hc1,hc2⟩
     ·rcases kx with w|w<;>(rw[w]at z;cases z)
     ·obtain⟨d,hd⟩:=hcl2 x hm
      obtain⟨d',h1,h2⟩:=Y7 (BC.old _ hd)
      refine⟨d',h1,?_⟩
      rcases BC.mem x d' h2 with w|⟨_,_,w⟩
      ·have w':=(hcl x d' w).2
       rw[hc1]at w'
       cases w'
       exact hc2.keeps keep
      ·have:=S.lk w
       rw[e6]at this
       cases this
 ·intro x c e
  exact isc x c (lk' x c e)
 ·exact fresh _ (Qx _)
 ·intro x c e
  rcases BC.mem x c (lk' x c e)with z|⟨_,z,_⟩
  ·have e':=(hcl x c z).2
   have hlt:=cellOld x c e'
   rw[Z4 (Xn hlt)]
   exact I.freeC x c e'
  ·exact fresh c (by omega)
 ·show(Zau own caps σ).length=N'.length
  rw[S.names]
  unfold Zau
  simp
end
noncomputable def Z0o(J:It)(g:TG)(tt:TT)(te:TE)(σ0:St)(D:Addr)(Q:Hp->Prop)(H1:Hp):Prop :=
 ∃W:Nat->Nat->St->Hp->Prop,(∃m,W 0 m σ0 (upd H1 D (.lst [])))∧∀i m σ' H',W i m σ' H' ->
  (J.stop i H'∧Q H')∨(J.go i H'∧∀x H2,J.yld i H' x H2->g x σ' H2 λσ2 H3=>tt σ2 H3 λb H4=>
   if b=true then te σ2 H4 λy H5=>∃ys,H5 D=some (.lst ys)∧ys.length<Xy∧∃m',m'<m∧W (i+1) m' σ2 (upd H5 D (.lst (ys ++ [y])))
   else∃m',m'<m∧W (i+1) m' σ2 H4)
noncomputable def Z20(own:List Str)(caps:List Nat)(wi:TI)(g:TG)(tt:TT)(te:TE):TE:=λσ H Q=>wi σ H λJ H1=>∀D,H1 D=none->Z0o J g tt te (Zau own caps σ) D (Q (.ref D)) H1
noncomputable def Ybt:TT:=λ_ H Q=>Q true H
noncomputable def Z16(X:Cx)(ifs:List Expr)(t:TT):Prop :=
 ∀(pins:List (Addr×Obj)) (s:Xh) (σ:St) (H:Hp) (Q:Bool->Hp->Prop),Inv X pins σ H s->t σ H Q ->
  XC (XX X.prog X.w) X.A (forIn ifs true λc r=>if r=true then do let ok←isTrue c X.env (eval c X.env);pure (JW ok)else pure (JW r)) (TP X pins σ Q) X.xe s
theorem Z1y{X:Cx}:Z16 X [] Ybt:=λpins s σ H Q I h=>by
 rw[List.forIn_nil]
 exact Xl ⟨H,I,h⟩
theorem Z3f{X:Cx}{c:Expr}{t:TT}(h:PT X c t):Z16 X [c] t:=λpins s σ H Q I q=>wpAny_tests_one (h pins s σ H Q I q)
theorem Z1f{M:Model}{A:Qo}{α:Type}{t:Sem α}{Q Q':α->Xh->Prop}{E:Xf->Xh->Prop}{s:Xh}(h:XC M A t Q (λ_ _=>False) s)(hQ:∀a s,Q a s->Q' a s):XC M A t Q' E s :=
 Vd h hQ λ_ _ z=>z.elim
section
variable {X:Cx}{own:List Str}{caps:List Nat}{N':List Str}{sc:Uo}{tg elt iter:Expr}{ifs:List Expr}{pos:Pos}{wi:TI}{g:TG}{tt:TT}{te:TE}
theorem Zqe{pins p':List (Addr×Obj)}{σ σ':St}{H H':Hp}{s s':Xh}{fp:List Addr}{C:Addr}{cells:List (Str×Addr)}{h':Heap}(I:Inv X pins σ H s)(f:∀b∈fp,Zkb X pins H b)
  (I':Inv (Wb X N' sc C cells s H fp) p' σ' H' s') (hs:JK C s'.heap h'):Inv X pins σ H' { s' with heap:=h' }:=by
 have hC:s.heap.objs.size≤C:=I'.ok.above
 have B:=I'.base
 have ne:∀b o,s.heap.get? b=some o->b≠C:=λb o e=>Xn (X4 (XH e) hC)
 obtain⟨m,⟨oC,_,_,hoC,_⟩,_⟩:=I'.loc
 refine I.call' (ch:=fp) (s':={ s' with heap:=h' }) I'.os ⟨λb o e n hb hx=>?_,λb o e n hb hx=>?_,B.free,λb o e hx=>?_,B.tups,B.frzs,B.tbls⟩ (λb ob e=>?_) I'.bare λb hb=>?_
 ·exact(hs.2 b (ne b o e)).trans (B.keep b o e n hb hx)
 ·obtain⟨sl,q⟩:=B.slot b o e n hb hx
  exact⟨sl,(hs.2 b (ne b o e)).trans q⟩
 ·obtain⟨o',q⟩:=B.there b o e hx
  exact⟨o',(hs.2 b (ne b o e)).trans q⟩
 ·have hfree:H' C=none:=I'.free
  refine(I'.hok b ob e).stay (λc w' hc q=>(hs.2 c ?_).trans q) (λ_ q=>q) λ_ _ q=>q
  rintro rfl
  rcases hc with rfl|hc
  ·rw[hfree]at e;cases e
  ·rw[hfree]at hc;cases hc
 ·obtain⟨_,f1,_,f3,f4,f5⟩:=f b hb
  exact⟨f3,f1,f4,f5⟩
theorem Zje{Qf:Result->Xh->Prop}(S:CompScope X own caps N' sc)(hc:X.calm=true)
  (hg:∀C cells s₂ H₂ fp,PG (Wb X N' sc C cells s₂ H₂ fp) tg g) (ht:∀C cells s₂ H₂ fp,Z16 (Wb X N' sc C cells s₂ H₂ fp) ifs tt) (he:∀C cells s₂ H₂ fp,PE (Wb X N' sc C cells s₂ H₂ fp) elt te)
  {pins:List (Addr×Obj)} {σ:St} {H:Hp} {s:Xh} {fp:List Addr} {it:Addr} {tn:Nat->Heap->Prop} {J:It} {Q:Hp->Prop} (I:Inv X pins σ H s) (T:Turn X.prog X.w X.K tg J fp it tn) (st:tn 0 s.heap) (f:∀b∈fp,Zkb X pins H b)
  (h:Z0o J g tt te (Zau own caps σ) s.heap.objs.size Q H)
  (fin:∀s' σ' H' p' C cells,Inv (Wb X N' sc C cells s H fp) p' σ' H' s'->C=s.heap.objs.size+1->Q H'->Qf (.ok .next) s') :
  XC (XX X.prog X.w) X.A (newFunctionEnv sc X.env.globals (Ziu X.env sc.names []) [] X.env.qual none .none (some X.env)) (λcenv s₄=>
   cenv.locals=s.heap.objs.size+1∧U6 (XX X.prog X.w) X.A (.compStart (.ListComp elt [⟨tg,iter,ifs,0⟩] sc pos) 0 (.ref it) (.ref s.heap.objs.size) { cenv with scope:=relabel sc X.env }) Qf s₄) X.xe
    { s with heap:=s.heap.push { cls:=.type "list",data:=.seq #[] } }:=by
 have hf:∀y∈sc.names,y.2= .free->∃c,X.env.cells.lookup y.1=some c:=λy hy e=>by
  obtain⟨n,k⟩:=y
  have e':k= .free:=e
  subst e'
  exact I.ok.has n (S.fr hy)
 have hcl:∀n c,(n,c)∈Ziu X.env sc.names []->(n,QV)∈sc.names∧X.env.cells.lookup n=some c:=λn c m=>(Zj8 sc.names [] hf n c m).elim (λz=>nomatch z) id
 have hap:=Zgk I.ok.inj sc.names [] hf S.nn (λ_ z=>nomatch z) (λ_ z=>nomatch z) .nil
 have I0:=Zq6 (cl:=Ziu X.env sc.names []) S I f (λb hb=>let⟨o,e,_⟩:=T.obj _ _ st b hb;⟨o,e⟩) hcl (λn m=>Zls sc.names [] n m) hap
 refine Zi8 ?_
 rw[show({ s with heap:=s.heap.push { cls:=.type "list",data:=.seq #[] } }:Xh).heap.objs.size=s.heap.objs.size+1 from QC ..]
 refine⟨rfl,?_⟩
 dsimp only
 generalize hs0:({ s with heap:=Va ((s.heap.push { cls:=.type "list",data:=.seq #[] }).push { cls:=.type "dict",data:=.dict #[] }) sc.names }:Xh)=s0 at I0⊢
 have st0:tn 0 s0.heap:=T.keep _ _ _ st λb hb o e=>by
  rw[←hs0]
  exact pushCells_keeps _ _ _ _ (Xg _ (Xg _ e))
 generalize hcells:Bh (s.heap.objs.size+1+1) sc.names (Ziu X.env sc.names [])=cells at I0⊢
 -- the loop
 obtain⟨W,⟨m0,w0⟩,turn⟩:=h
 have loop:U6 (XX X.prog X.w) X.A (.compLoop (.ListComp elt [⟨tg,iter,ifs,0⟩] sc pos) 0 (.ref it) (.ref s.heap.objs.size) (Wb X N' sc (s.heap.objs.size+1) cells s H fp).env) Qf s0:=by
  generalize hX':Wb X N' sc (s.heap.objs.size+1) cells s H fp=X' at I0⊢
  have hg':=hg (s.heap.objs.size+1) cells s H fp
  have ht':=ht (s.heap.objs.size+1) cells s H fp
  have he':=he (s.heap.objs.size+1) cells s H fp
  have fin':=λs' σ' H' p' (z:Inv (Wb X N' sc (s.heap.objs.size+1) cells s H fp) p' σ' H' s')=>fin s' σ' H' p' _ _ z rfl
  rw[hX']at hg' ht' he' fin'
  have hxe:X'.xe= λ_ _=>False:=by rw[←hX'];rfl
  have hpr:X'.prog=X.prog:=by rw[←hX'];rfl
  have hw:X'.w=X.w:=by rw[←hX'];rfl
  have hK:X'.K=X.K:=by rw[←hX'];rfl
  have hA:X'.A=X.A:=by rw[←hX'];rfl
  have hcm:X'.calm=true:=by rw[←hX'];exact hc
  have hex:X'.ex=fp:=by rw[←hX'];rfl
  have hpn:X'.pn=[]:=by rw[←hX'];rfl
  have stat:∀{H':Hp},(∀b∈fp,H' b=none)->∀b∈fp,Zkb X' [] H' b:=λhn b hb=>by
   have e1:=I0.ok.exf b (by rw[hex];exact hb)
   have e2:=I0.ok.exfs b (by rw[hex];exact hb)
   exact⟨hn b hb,e1.1,e2,.inl (by rw[hex];exact hb),e1.2,λp hp=>by rw[hpn]at hp;exact nomatch hp⟩
  have frD:∀b∈fp,(upd H s.heap.objs.size (.lst [])) b=none:=λb hb=>by
   obtain⟨o,e,_⟩:=T.obj _ _ st b hb
   rw[Z4 (Xn (XH e))]
   exact(f b hb).1
  have T':Turn X'.prog X'.w X'.K tg J fp it tn:=by rw[hpr,hw,hK];exact T
  rw[←hpr,←hw,←hA]
  refine Zm8 (λn s'=>∃i σ' H',Inv X' [] σ' H' s'∧tn i s'.heap∧(∀b∈fp,H' b=none)∧W i n σ' H') ?_ m0 ⟨0,_,_,I0,st0,frD,w0⟩
  rintro n s3 ⟨i,σ3,H3,I3,st3,fr3,w3⟩
  rcases turn i n σ3 H3 w3 with⟨stop,qn⟩|⟨go,step⟩
  ·refine Z1f (T'.done X' rfl rfl rfl hcm i [] s3 σ3 H3 _ I3 (stat fr3) st3 stop) λr s4 qz9=>?_
   obtain⟨hr,I4⟩:=qz9
   subst hr
   exact fin' s4 σ3 H3 [] I4 qn
  ·refine Z1f (T'.item X' rfl rfl rfl hcm i [] s3 σ3 H3 _ I3 (stat fr3) st3 go) λr s4 qz9=>?_
   obtain⟨u,hr,h4⟩:=qz9
   subst hr
   refine Z1f h4 λ_ s5 qz9=>?_
   obtain⟨x,H5,I5,r5,y5,st5,fr5⟩:=qz9
   have I5':=I5.pinned (stat fr5) (T.obj _ _ st5)
   have hgg:=hg' _ s5 σ3 H5 x u _ I5' r5 (step x H5 y5)
   rw[hxe]at hgg
   refine Z1f hgg λ_ s6 qz9=>?_
   obtain⟨σ6,H6,I6,q6⟩:=qz9
   have htt:=ht' _ s6 σ6 H6 _ I6 q6
   rw[hxe]at htt
   refine Z1f htt λok s7 qz9=>?_
   obtain⟨H7,I7,q7⟩:=qz9
   have again:∀{σ7:St} {H7:Hp} {s7:Xh} {m:Nat},Inv X' ([] ++ Znd fp s5.heap) σ7 H7 s7->W (i+1) m σ7 H7->m<n->∃m,m<n∧∃i σ' H',Inv X' [] σ' H' s7∧tn i s7.heap∧(∀b∈fp,H' b=none)∧W i m σ' H':=fun{σ7 H7 s7 m} I7 w7 hm=>by
    refine⟨m,hm,i+1,σ7,H7,I7.unpinned,T.keep _ _ _ st5 λb hb o e=>(I7.pin (b,o) (Qc _ (Qc _ (Zd8 hb e)))).1,λb hb=>?_,w7⟩
    obtain⟨o,e,d⟩:=T.obj _ _ st5 b hb
    exact(I7.pin (b,o) (Qc _ (Qc _ (Zd8 hb e)))).2.1
   cases ok with
   | false=>
    obtain⟨m',hm,w7⟩:=q7
    rw[if_neg Xp]
    exact again I7 w7 hm
   | true=>
    rw[if_pos rfl]
    have hee:=he' _ s7 σ6 H7 _ I7 q7
    rw[hxe]at hee
    refine Z1f hee λy s8 qz9=>?_
    obtain⟨vy,H8,I8,r8,ys,hD,hlen,m',hm,w8⟩:=qz9
    have hap:=Zmj (X:=X') _ s8 σ6 H8 (.ref s.heap.objs.size) [vy] (.ref s.heap.objs.size) [y] (λ_ H'=>W (i+1) m' σ6 H') I8 rfl (.cons r8 .nil) ⟨_,ys,vy,rfl,rfl,hD,hlen,w8⟩
    rw[hxe]at hap
    refine Z1f hap λz s9 qz9=>?_
    obtain⟨_,H9,I9,_,w9⟩:=qz9
    exact again I9 w9 hm
 exact codeAny_compStart_list loop (T.self _ 0 _ _ _ st0 loop)
theorem Z1g(S:CompScope X own caps N' sc)(hc:X.calm=true)(hi:PI X tg iter wi)
  (hg:∀C cells s₂ H₂ fp,PG (Wb X N' sc C cells s₂ H₂ fp) tg g) (ht:∀C cells s₂ H₂ fp,Z16 (Wb X N' sc C cells s₂ H₂ fp) ifs tt) (he:∀C cells s₂ H₂ fp,PE (Wb X N' sc C cells s₂ H₂ fp) elt te)
  (hs:∀x,Bf iter X.env x=pure x:=by intro _;rfl):PE X (.ListComp elt [⟨tg,iter,ifs,0⟩] sc pos) (Z20 own caps wi g tt te):=by
 intro pins s σ H Q I h
 rw[eval_ListComp]
 have hf:∀y∈sc.names,y.2= .free->∃c,X.env.cells.lookup y.1=some c:=λy hy e=>by
  obtain⟨n,k⟩:=y
  have e':k= .free:=e
  subst e'
  exact I.ok.has n (S.fr hy)
 refine wpAny_comprehension_free (use:=none) rfl hs (Zeo hf) S.kind (λy hy e=>by obtain⟨n,k⟩:=y;have e':k= .local:=e;subst e';exact S.lk hy) ?_
 refine thn (hi pins s σ H _ I h) λv s1 h1=>thn h1 λitv s2 h2=>?_
 obtain⟨it,fp,tn,J,H2,e,I2,T,st2,f2,q⟩:=h2
 subst e
 refine JB ?_
 refine thn (Zje (iter:=iter) (pos:=pos) (Qf:=compPost (XX X.prog X.w) X.A X.xe none (EP X pins σ Q) (.ref s2.heap.objs.size) (s2.heap.objs.size+1)) S hc hg ht he I2 T st2 f2 (q s2.heap.objs.size I2.fresh) ?_) λcenv s4 ⟨hl,hr⟩=>?_
 ·intro s' σ' H' p' C cells I' eC q'
  subst eC
  obtain⟨m,hn,_⟩:=id I'.loc
  exact⟨m,hn,λh' hs'=>⟨.ref s2.heap.objs.size,H',Zqe I2 f2 I' hs',rfl,q'⟩⟩
 ·rw[←hl]at hr
  exact hr
end
section
variable {X:Cx}{own:List Str}{caps:List Nat}{N':List Str}{sc:Uo}{tg elt iter:Expr}{ifs:List Expr}{pos:Pos}{wi:TI}{g:TG}{tt:TT}{te:TE}
theorem Zjh{i:Nat}{y:Str}{py spos:Pos}(hN:X.N.Nodup)(hy:X.N[i]? =some y)(hx:Loc X.env.scope y)(S:CompScope X own caps N' sc)(hc:X.calm=true)(hi:PI X tg iter wi)
  (hg:∀C cells s₂ H₂ fp,PG (Wb X N' sc C cells s₂ H₂ fp) tg g) (ht:∀C cells s₂ H₂ fp,Z16 (Wb X N' sc C cells s₂ H₂ fp) ifs tt) (he:∀C cells s₂ H₂ fp,PE (Wb X N' sc C cells s₂ H₂ fp) elt te)
  (hsw:VL (.ListComp elt [⟨tg,iter,ifs,0⟩] sc pos) (some (.Name y py)) spos.line X.env=pure true:=by rfl)
  (hs:∀x,Bf iter X.env x=pure x:=by intro _;rfl) (hf:X.fn y=true∨X.env.scope.names.lookup y=some .local:=by first|exact .inl rfl|exact .inr rfl|assumption) :
  PS X (.Assign [.Name y py] (.ListComp elt [⟨tg,iter,ifs,0⟩] sc pos) spos) (Z54 (Z20 own caps wi g tt te) (Zul i)):=by
 intro pins s σ H D I h
 have hfr:∀y∈sc.names,y.2= .free->∃c,X.env.cells.lookup y.1=some c:=λy hy e=>by
  obtain⟨n,k⟩:=y
  have e':k= .free:=e
  subst e'
  exact I.ok.has n (S.fr hy)
 rw[exec_Assign_Name_used _ _ _ _ hsw]
 refine Xb (wpAny_standAt (Xb ?_))
 show XC _ X.A (do let _←comprehension (.ListComp elt [⟨tg,iter,ifs,0⟩] sc pos) sc X.env _ (newList []) false (eval iter X.env) (some (U3 (.Name y py) X.env))) _ _ s
 refine Xb (Vd (wpAny_comprehension_free (use:=some (U3 (.Name y py) X.env)) (Q:=λ_ s'=>SP X pins D .next s') rfl hs (Zeo hfr) S.kind (λy hy e=>by obtain⟨n,k⟩:=y;have e':k= .local:=e;subst e';exact S.lk hy) ?_) (λ_ s' hq=>Xl (Xl hq)) λ_ _ e=>e)
 refine thn (hi pins s σ H _ I h) λv s1 h1=>thn h1 λitv s2 h2=>?_
 obtain⟨it,fp,tn,J,H2,e,I2,T,st2,f2,q⟩:=h2
 subst e
 refine JB ?_
 refine thn (Zje (iter:=iter) (pos:=pos) (Qf:=compPost (XX X.prog X.w) X.A X.xe (some (U3 (.Name y py) X.env)) (λ_ s'=>SP X pins D .next s') (.ref s2.heap.objs.size) (s2.heap.objs.size+1)) S hc hg ht he I2 T st2 f2 (q s2.heap.objs.size I2.fresh) ?_) λcenv s4 ⟨hl,hr⟩=>?_
 ·intro s' σ' H' p' C cells I' eC q'
  subst eC
  obtain⟨m,hn,_⟩:=id I'.loc
  have I3:Inv X pins σ H' s':=Zqe I2 f2 I' (.refl ..)
  show XC _ X.A (U3 (.Name y py) X.env (.ref s2.heap.objs.size)) _ _ s'
  refine wpAny_assign_Name (Zm9 (v:=.ref s2.heap.objs.size) I3 hN hy hx rfl (λs5 I5 hsb=>?_) hf)
  have hC:s2.heap.objs.size<s2.heap.objs.size+1:=Qx _
  have ltL:X.env.locals<s2.heap.objs.size:=I2.lt
  have ltC:∀x c,X.env.cells.lookup x=some c->c<s2.heap.objs.size:=λx c e=>by
   obtain⟨w',z⟩:=I2.cell x c e
   exact z.lt
  refine⟨m,?_,λh' hs'=>⟨σ.set i (some (.ref s2.heap.objs.size)),H',?_,q'⟩⟩
  ·obtain⟨a,hsa,ha⟩:=hsb
   refine hn.sameBut hsa ?_
   rcases ha with ha|ha
   ·rw[ha];exact XJ (Vr ltL hC)
   ·exact XJ (Vr (ltC _ _ ha) hC)
  ·refine I5.turned (t':=s5.toks) (it:=s2.heap.objs.size+1) (λb o hb e=>(hs'.2 b hb).trans e) I'.free (XJ (Vr ltL hC)) (.inr (Qv I2.sz (Ul hC))) (λx c e=>Xn (Vr (ltC x c e) hC)) λp hp=>?_
   obtain⟨e,_⟩:=I2.pin p hp
   exact Xn (Vr (XH e) hC)
 ·rw[←hl]at hr
  exact hr
end
section
variable (n:Nat)(D:Addr)(Pv:Nat->List V->St->Hp->Prop)
variable {n D Pv}
end
mutual
inductive Is(H:Hp)(L:Addr->Prop):V->Xa->Prop where
 | non:Is H L .non .none
 | bl (b:Bool):Is H L (.bl b) (.bool b)
 | int (i:Int):Is H L (.int i) (.int i)
 | str (x:Str):Is H L (.str x) (.str x)
 | lst {a:Addr} {xs:List V} {ds:List Xa}:L a->H a=some (.lst xs)->IsAll H L xs ds->Is H L (.ref a) (.list ds)
 | tup {a:Addr} {xs:List V} {ds:List Xa}:H a=some (.tup xs)->IsAll H L xs ds->Is H L (.ref a) (.tuple ds)
inductive IsAll(H:Hp)(L:Addr->Prop):List V->List Xa->Prop where
 | nil:IsAll H L [] []
 | cons {x:V} {xs:List V} {d:Xa} {ds:List Xa}:Is H L x d->IsAll H L xs ds->IsAll H L (x :: xs) (d :: ds)
end
section
variable {H H':Hp}{L L':Addr->Prop}
theorem IsAll.ind{Q:List V->List Xa->Prop}(n:Q [] [])(c:∀{x:V} {xs:List V} {d:Xa} {ds:List Xa},Is H L x d->IsAll H L xs ds->Q xs ds->Q (x :: xs) (d :: ds)):∀{xs ds},IsAll H L xs ds->Q xs ds:=λh=>
 IsAll.rec (motive_1:=λ_ _ _=>True) (motive_2:=λxs ds _=>Q xs ds) trivial (λ_=>trivial) (λ_=>trivial) (λ_=>trivial) (λ_ _ _ _=>trivial) (λ_ _ _=>trivial) n (λp q _ r=>c p q r) h
theorem IsAll.length{xs:List V}{ds:List Xa}(h:IsAll H L xs ds):xs.length=ds.length:=IsAll.ind (Q:=λxs ds=>xs.length=ds.length) rfl (λ_ _ r=>congrArg (·+1) r) h
theorem IsAll.set{xs:List V}{ds:List Xa}{x:V}{d:Xa}(i:Nat)(h:IsAll H L xs ds)(k:Is H L x d):IsAll H L (xs.set i x) (ds.set i d) :=
 IsAll.ind (Q:=λxs ds=>∀i,IsAll H L (xs.set i x) (ds.set i d)) (λ_=>.nil) (λh q r i=>Nat.casesOn i (.cons k q) λi=>.cons h (r i)) h i
end
section
variable {X:Cx}{pins:List (Addr×Obj)}{σ:St}{H:Hp}{s:Xh}{L L':Addr->Prop}
end
noncomputable abbrev Shp(d:Xa):Prop:=Vq d=true
section
variable {X:Cx}
end
mutual
noncomputable def Wh:Xa->Bool
 | .none=>true
 | .int _=>true
 | .str _=>true
 | .list ds=>Zet ds
 | .tuple ds=>Zet ds
 | _=>false
noncomputable def Zet:List Xa->Bool
 | []=>true
 | d :: ds=>Wh d&&Zet ds
end
mutual
theorem Zj3:∀(d e:Xa),Wh d=true->Wh e=true->(Qs d e=true↔d=e)
 | .none,e,_,he=>by cases e<;>simp_all [Qs,Wh]
 | .int i,e,_,he=>by cases e<;>simp_all [Qs,Wh]
 | .str i,e,_,he=>by cases e<;>simp_all [Qs,Wh]
 | .list ds,e,hd,he=>by
  cases e with
  | list es=>
   rw[Wh]at hd he
   rw[Qs,Qy.injEq]
   exact Zfy ds es hd he
  | _=>simp_all [Qs,Wh]
 | .tuple ds,e,hd,he=>by
  cases e with
  | tuple es=>
   rw[Wh]at hd he
   rw[Qs,Xa.tuple.injEq]
   exact Zfy ds es hd he
  | _=>simp_all [Qs,Wh]
 | .bool b,e,hd,_=>by simp[Wh]at hd
 | .dict b,e,hd,_=>by simp[Wh]at hd
theorem Zfy:∀(ds es:List Xa),Zet ds=true->Zet es=true->(PyData.eqvAll ds es=true↔ds=es)
 | [],[],_,_=>by simp[PyData.eqvAll]
 | [],_ :: _,_,_=>by simp[PyData.eqvAll]
 | _ :: _,[],_,_=>by simp[PyData.eqvAll]
 | d :: ds,e :: es,hd,he=>by
  rw[Zet,XD]at hd he
  rw[PyData.eqvAll,XD,Zj3 d e hd.1 he.1,Zfy ds es hd.2 he.2,List.cons.injEq]
end
theorem Zu8{d e:Xa}(h:Wh d=true)(k:Wh e=true)(q:d=e):Qs d e=true:=(Zj3 d e h k).mpr q
theorem Zsy{d e:Xa}(h:Wh d=true)(k:Wh e=true)(q:d≠e):Qs d e=false:=Bu.mpr λz=>q ((Zj3 d e h k).mp z)
noncomputable def fr(a b:Int):Xa:=.tuple [.int a,.int b]
theorem Zfu{t b:Int}(hb:b≠0):0<(Be t b:Int):=by
 have:=Int.gcd_pos_of_ne_zero_right t hb
 omega
theorem Y9{t g:Int}(hg:0<g):t.fdiv g=t/g:=Int.fdiv_eq_ediv_of_nonneg t (by omega)
theorem Zdv{t g:Int}(hg:0<g)(h:g∣t):t.fdiv (-g)= -(t/g):=by
 obtain⟨k,rfl⟩:=h
 rw[Int.mul_ediv_cancel_left _ (by omega)]
 have e:g*k=(-k)*(-g):=by rw[Int.neg_mul_neg,Int.mul_comm]
 rw[e,Int.mul_fdiv_cancel _ (by omega)]
noncomputable def shr(t b:Int):Int:=if b<0 then -(Be t b:Int)else(Be t b:Int)
theorem Z1a{t b:Int}(hb:b≠0):t.fdiv (shr t b)=(XM t b).num:=by
 have hg:=Zfu (t:=t) hb
 have hd:(Be t b:Int)∣t:=Int.gcd_dvd_left ..
 rw[Rat.num_divInt,Int.gcd_comm b t]
 unfold shr
 by_cases h:b<0
 ·rw[if_pos h,Zdv hg hd,Int.sign_eq_neg_one_of_neg h,Int.neg_one_mul,Int.neg_ediv_of_dvd hd]
 ·rw[if_neg h,Y9 hg,Int.sign_eq_one_of_pos (by omega),Int.one_mul]
theorem Z3g{t b:Int}(hb:b≠0):b.fdiv (shr t b)=((XM t b).den:Int):=by
 have hg:=Zfu (t:=t) hb
 have hd:(Be t b:Int)∣b:=Int.gcd_dvd_right ..
 rw[Rat.den_divInt,if_neg hb,Int.gcd_comm b t]
 unfold shr
 by_cases h:b<0
 ·have e:(b.natAbs:Int)= -b:=by omega
  rw[if_pos h,Zdv hg hd,Int.natCast_ediv,e,Int.neg_ediv_of_dvd hd]
 ·have e:(b.natAbs:Int)=b:=by omega
  rw[if_neg h,Y9 hg,Int.natCast_ediv,e]
theorem Zyw{t b:Int}(hb:b≠0):shr t b≠0:=by
 have hg:=Zfu (t:=t) hb
 unfold shr
 split<;>omega
theorem Zy3{n:Nat}{t b:Int}(hb:b≠0)(h:Bt n b):Bt n (shr t b):=by
 have h1:Bt n (Be t b:Int):=by
  refine Bt.of_le h ?_
  have:=Int.gcd_le_natAbs_right t hb
  omega
 unfold shr
 split
 ·exact h1.neg
 ·exact h1
theorem Zy4{n:Nat}{t b:Int}(hb:b≠0)(h:Bt n t):Bt n (XM t b).num:=by
 rw[Rat.num_divInt]
 refine Bt.of_le h ?_
 refine Qv (Int.natAbs_ediv_le_natAbs _ _) ?_
 rw[Int.natAbs_mul]
 have:b.sign.natAbs≤1:=by
  rw[Int.natAbs_sign]
  split<;>omega
 calc b.sign.natAbs*t.natAbs≤1*t.natAbs:=Nat.mul_le_mul_right _ this
  _=t.natAbs:=Nat.one_mul _
theorem Zrz(q:Rat):(q.den:Int)≠0:=by
 have:=q.den_pos
 omega
theorem Zaw(q:Rat):(0:Int)<(q.den:Int):=by
 have:=q.den_pos
 omega
noncomputable def frD(q:Rat):Xa:=fr q.num (q.den:Int)
noncomputable def BQ(n:Nat)(q:Rat):Prop:=Bt n q.num∧Bt n (q.den:Int)
section
variable {X:Cx}{K:Xc}{a b o e:Expr}{ta tb tl to:TE}{pos:Pos}
theorem Zyb(hK:X.K=K):IxR X (Ybs K):=hK▸Zt7
theorem Zkw(hK:X.K=K):IxR X (rIx K):=hK▸Z5z
theorem Zxd(hK:X.K=K):SlR X (Yc8 K):=hK▸Z1e
noncomputable def Yeg(K:Xc):List V->Hp->VK->Prop:=λxs H Q=>∃p ys,xs=[.ref p]∧(SqL K H p ys∨SqT K H p ys)∧Q (.int ys.length) H
theorem Zfs(hK:X.K=K):Zdt X (.builtin "len") (Yeg K):=by subst hK;exact Zmt
noncomputable def Z2l(K:Xc):List V->Hp->VK->Prop:=λxs H Q=>∃p ys,xs=[.ref p]∧(SqL K H p ys∨SqT K H p ys)∧∀l,H l=none->Q (.ref l) (upd H l (.lst ys))
theorem Zqs(hK:X.K=K):Zdt X (.type "list") (Z2l K):=by subst hK;exact Znc
noncomputable def Yfu(K:Xc)(ta:TE):TT:=λσ H Q=>ta σ H λx H'=>∃k,Ycb K x H' k∧Q k H'
theorem Z2j(hK:X.K=K)(ha:PE X a ta)(he:∀whole,isTrue a X.env whole=(do let v←whole;standAt a.pos;holding [v] (truthy v))):PT X a (Yfu K ta):=by subst hK;exact Zya ha he
theorem Zx6{tg l:Expr}(hK:X.K=K)(hl:PE X l tl):PI X tg l (Z4y K tl):=by subst hK;exact Z3z hl
theorem Z2g{tg l:Expr}(hK:X.K=K)(hl:PE X l tl):PI X tg l (Ycr K tl):=by subst hK;exact Z6i hl
theorem Zpu(hK:X.K=K):OpR X (QX .In) (rIn K false):=by subst hK;exact Zsz
theorem Zti(hK:X.K=K):OpR X (QX .NotIn) (rIn K true):=by subst hK;exact Zlw
end
theorem Yo{H:Hp}{p:Addr}(h:H p=none)(o:HO):Same H (upd H p o):=λb u q=>by rw[Z4 (Wk q h)];exact q
noncomputable def But(p:Addr)(H H':Hp):Prop:=∀b o,b≠p->H b=some o->H' b=some o
theorem But.upd(p:Addr)(H:Hp)(o:HO):But p H (upd H p o):=λb u n e=>by rw[Z4 n];exact e
namespace B
theorem boot_abs:Qh "abs"=some (.builtin "abs"):=by decide +kernel
theorem boot_len:Qh "len"=some (.builtin "len"):=by decide +kernel
theorem boot_max:Qh "max"=some (.builtin "max"):=by decide +kernel
theorem boot_min:Qh "min"=some (.builtin "min"):=by decide +kernel
theorem boot_isinstance:Qh "isinstance"=some (.builtin "isinstance"):=by decide +kernel
theorem boot_sorted:Qh "sorted"=some (.builtin "sorted"):=by decide +kernel
theorem boot_int:Qh "int"=some (.type "int"):=by decide +kernel
theorem boot_bool:Qh "bool"=some (.type "bool"):=by decide +kernel
theorem boot_list:Qh "list"=some (.type "list"):=by decide +kernel
theorem boot_tuple:Qh "tuple"=some (.type "tuple"):=by decide +kernel
theorem boot_range:Qh "range"=some (.type "range"):=by decide +kernel
theorem boot_zip:Qh "zip"=some (.type "zip"):=by decide +kernel
theorem boot_set:Qh "set"=some (.type "set"):=by decide +kernel
end B
theorem Zd3{a b:Int}(hb:0<b):a.fmod b=a%b:=Int.fmod_eq_emod_of_nonneg a (by omega)
theorem Zwy{x y:Int}(hx:0≤x)(hy:0<y):Be y (x.fmod y)=Be x y:=by
 rw[Zd3 hy,Int.gcd_comm x y]
 have e:=Int.emod_add_mul_ediv x y
 conv=>rhs;rw[←e]
 rw[Int.gcd_add_mul_left_right]
theorem Z70:(2:Nat)≤Xy:=by decide
theorem Zxg(q:Rat):XM q.num (q.den:Int)=q:=Rat.num_divInt_den q
theorem BQ.n{n:Nat}{q:Rat}(h:BQ n q):Bt n q.num:=h.1
theorem BQ.d{n:Nat}{q:Rat}(h:BQ n q):Bt n (q.den:Int):=h.2
theorem Yfp(q:Rat):(((q.den:Int)):Rat)≠0:=by
 intro z
 exact Zrz q (Rat.intCast_eq_zero_iff.mp z)
theorem Yfa(q:Rat):((q.num:Int):Rat)=q*(((q.den:Int)):Rat):=by
 have h:=Zxg q
 rw[Rat.divInt_eq_div]at h
 have d:=Yfp q
 conv=>rhs;lhs;rw[←h]
 grind
variable {G:Xc}
noncomputable def KS(G:Xc)(a:Addr)(ns:List Int):Prop:=∃(o:Obj) (its:Array Xf) (n:Nat),G.lookup a=some o∧o.cls= .type "list"∧o.dict=none∧o.data= .seq its n∧its.size≤Xy∧Vals (ns.map V.int) its.toList
theorem KS.sq{G:Xc}{H:Hp}{a:Addr}{ns:List Int}(h:KS G a ns):SqL G H a (ns.map V.int):=.inr h
noncomputable def exD(x:Str):Xa:=.dict [(.str x,.none)]
noncomputable def fnD(x:Str):Xa:=.dict [(.str x,.bool true)]
noncomputable def Ziz:Xa->Bool| .dict ((_,.bool _) :: _)=>true|_=>false
noncomputable def ClsAt(G:Xc)(x:Str)(C:Addr):Prop:=QQ G Qj x=some (some (.ref C))
structure Zgj(G:Xc)(C:Addr):Prop where
 ga:Vk G (.ref C) "__getattribute__"=some (some (.builtin "BaseException.__getattribute__"))
 gt:Vk G (.ref C) "__getattr__"=some none
 cl:Vk G (.ref C) "__class__"=some (some (.builtin "object.__class__"))
 isB:PySem.W.subIn G (.ref C) (.type "BaseException")=some true
 isO:PySem.W.subIn G (.ref C) (.type "object")=some true
 isC:(PySem.W.clsIn G C).isSome=true
 k1:Vj G (.ref C) (.type "int")=some false
 k2:Vj G (.ref C) (.type "bool")=some false
 k3:Vj G (.ref C) (.type "str")=some false
 k4:Vj G (.ref C) (.type "list")=some false
 k5:Vj G (.ref C) (.type "tuple")=some false
noncomputable def ExO(C a:Addr)(h:Heap):Prop:=∃o vs,h.get? a=some o∧o.cls= .ref C∧o.data= .fields vs
inductive ImO where
 | tup (xs:List V)
 | ext (φ:Heap->Prop)
noncomputable def ImO.ho:ImO->HO
 | .tup xs=>.tup xs
 | .ext φ=>.ext φ
inductive MuO where
 | lst (xs:List V)
 | dK (kvs:List (Key×V))
 | dT (kvs:List (List Key×V))
noncomputable def MuO.ho:MuO->HO
 | .lst xs=>.lst xs
 | .dK kvs=>.dK kvs
 | .dT kvs=>.dT kvs
noncomputable def Ycs:Key->Xa
 | .inl i=>.int i
 | .inr x=>.str x
noncomputable def Yew(ks:List Key):Xa:=.tuple (ks.map Ycs)
noncomputable abbrev KY:=Sum Key (List Key)
noncomputable def kyD:KY->Xa
 | .inl k=>Ycs k
 | .inr ks=>Yew ks
noncomputable def MuO.dic(t:Bool)(ks:List KY)(xs:List V):MuO->Prop
 | .lst _=>False
 | .dK kvs=>t=false∧ks=kvs.map (λp=>.inl p.1)∧xs=kvs.map (·.2)
 | .dT kvs=>t=true∧ks=kvs.map (λp=>.inr p.1)∧xs=kvs.map (·.2)
noncomputable def dcD(t:Bool)(ks:List KY)(ds:List Xa):Xa:=.dict ((.none,.bool t) :: (ks.map kyD).zip ds)
theorem ImO.nm{H:Hp}{a:Addr}{x:ImO}{y:MuO}(h:H a=some x.ho)(h':H a=some y.ho):False:=by
 rw[h]at h'
 cases x<;>cases y<;>cases h'
theorem ImO.nl{H:Hp}{a:Addr}{x:ImO}{ys:List V}(h:H a=some x.ho)(h':H a=some (.lst ys)):False:=by
 rw[h]at h'
 cases x<;>cases h'
mutual
inductive Da(G:Xc)(H:Hp)(L:Addr->Prop):V->Xa->Prop where
 | non:Da G H L .non .none
 | bl (b:Bool):Da G H L (.bl b) (.bool b)
 | int (i:Int):Da G H L (.int i) (.int i)
 | str (x:Str):Da G H L (.str x) (.str x)
 | lst {a:Addr} {xs:List V} {ds:List Xa}:L a->Rd H a (.lst xs)->Das G H L xs ds->Da G H L (.ref a) (.list ds)
 | tup {a:Addr} {xs:List V} {ds:List Xa}:H a=some (.tup xs)->Das G H L xs ds->Da G H L (.ref a) (.tuple ds)
 | scr {a:Addr} {ns:List Int}:KS G a ns->Da G H L (.ref a) (.list (ns.map Xk))
 | exc {a C:Addr} {x:Str}:Zgj G C->ClsAt G x C->H a=some (.ext (ExO C a))->Da G H L (.ref a) (exD x)
 | fn {a:Addr} {x:Str}:ClsAt G x a->Da G H L (.ref a) (fnD x)
 | dic {a:Addr} {o:MuO} {t:Bool} {ks:List KY} {xs:List V} {ds:List Xa}:L a->Rd H a o.ho->o.dic t ks xs->Das G H L xs ds->Da G H L (.ref a) (dcD t ks ds)
inductive Das(G:Xc)(H:Hp)(L:Addr->Prop):List V->List Xa->Prop where
 | nil:Das G H L [] []
 | cons {x:V} {xs:List V} {d:Xa} {ds:List Xa}:Da G H L x d->Das G H L xs ds->Das G H L (x :: xs) (d :: ds)
end
section
variable {H H':Hp}{L L':Addr->Prop}
theorem Da.both{P:V->Xa->Prop}{Q:List V->List Xa->Prop}(c1:P .non .none)(c2:∀b,P (.bl b) (.bool b))(c3:∀i,P (.int i) (.int i))(c4:∀x,P (.str x) (.str x))
  (c5:∀{a:Addr} {xs:List V} {ds:List Xa},L a->Rd H a (.lst xs)->Q xs ds->P (.ref a) (.list ds)) (c6:∀{a:Addr} {xs:List V} {ds:List Xa},H a=some (.tup xs)->Q xs ds->P (.ref a) (.tuple ds))
  (c7:∀{a:Addr} {ns:List Int},KS G a ns->P (.ref a) (.list (ns.map Xk))) (c8:∀{a C:Addr} {x:Str},Zgj G C->ClsAt G x C->H a=some (.ext (ExO C a))->P (.ref a) (exD x)) (c9:∀{a:Addr} {x:Str},ClsAt G x a->P (.ref a) (fnD x))
  (c10:∀{a:Addr} {o:MuO} {t:Bool} {ks:List KY} {xs:List V} {ds:List Xa},L a->Rd H a o.ho->o.dic t ks xs->Q xs ds->P (.ref a) (dcD t ks ds)) (n:Q [] []) (c:∀{x:V} {xs:List V} {d:Xa} {ds:List Xa},P x d->Q xs ds->Q (x :: xs) (d :: ds)):(∀{v d},Da G H L v d->P v d)∧∀{xs ds},Das G H L xs ds->Q xs ds :=
 ⟨λh=>Da.rec (motive_1:=λv d _=>P v d) (motive_2:=λxs ds _=>Q xs ds) c1 c2 c3 c4 (λp e _ r=>c5 p e r) (λe _ r=>c6 e r) (λk=>c7 k) (λk l m=>c8 k l m) (λk=>c9 k) (λp e k _ r=>c10 p e k r) n (λ_ _ p q=>c p q) h,
   λh=>Das.rec (motive_1:=λv d _=>P v d) (motive_2:=λxs ds _=>Q xs ds) c1 c2 c3 c4 (λp e _ r=>c5 p e r) (λe _ r=>c6 e r) (λk=>c7 k) (λk l m=>c8 k l m) (λk=>c9 k) (λp e k _ r=>c10 p e k r) n (λ_ _ p q=>c p q) h⟩
theorem Das.ind{Q:List V->List Xa->Prop}(n:Q [] [])(c:∀{x:V} {xs:List V} {d:Xa} {ds:List Xa},Da G H L x d->Das G H L xs ds->Q xs ds->Q (x :: xs) (d :: ds)):∀{xs ds},Das G H L xs ds->Q xs ds:=λh=>
 Das.rec (motive_1:=λ_ _ _=>True) (motive_2:=λxs ds _=>Q xs ds) trivial (λ_=>trivial) (λ_=>trivial) (λ_=>trivial) (λ_ _ _ _=>trivial) (λ_ _ _=>trivial) (λ_=>trivial) (λ_ _ _=>trivial) (λ_=>trivial) (λ_ _ _ _ _=>trivial) n (λp q _ r=>c p q r) h
theorem Da.frame2(hl:∀a (xs:MuO),L a->Rd H a xs.ho->L' a∧Rd H' a xs.ho)(ht:∀a (xs:ImO),H a=some xs.ho->H' a=some xs.ho):(∀{v:V} {d:Xa},Da G H L v d->Da G H' L' v d)∧∀{xs:List V} {ds:List Xa},Das G H L xs ds->Das G H' L' xs ds :=
 Da.both .non .bl .int .str (fun{_ xs _} p e r=>.lst (hl _ (.lst xs) p e).1 (hl _ (.lst xs) p e).2 r) (fun{_ xs _} e r=>.tup (ht _ (.tup xs) e) r) .scr (λc n e=>.exc c n (ht _ (.ext _) e)) .fn (λp e k r=>.dic (hl _ _ p e).1 (hl _ _ p e).2 k r) .nil .cons
theorem Da.frame(hl:∀a (xs:MuO),L a->Rd H a xs.ho->L' a∧Rd H' a xs.ho)(ht:∀a (xs:ImO),H a=some xs.ho->H' a=some xs.ho){v:V}{d:Xa}(h:Da G H L v d):Da G H' L' v d:=(Da.frame2 hl ht).1 h
theorem Das.frame(hl:∀a (xs:MuO),L a->Rd H a xs.ho->L' a∧Rd H' a xs.ho)(ht:∀a (xs:ImO),H a=some xs.ho->H' a=some xs.ho){xs:List V}{ds:List Xa}(h:Das G H L xs ds):Das G H' L' xs ds:=(Da.frame2 hl ht).2 h
theorem Rd.same{a:Addr}{u:HO}(s:Same H H')(h:Rd H a u):Rd H' a u:=h.imp (s _ _) λ⟨o,h⟩=>⟨o,s _ _ h⟩
theorem Rd.some{a:Addr}{u:HO}(h:Rd H a u):H a≠Option.none:=by
 rcases h with h|⟨o,h⟩<;>rw[h]<;>intro z<;>cases z
theorem Da.same(h:Same H H'){v:V}{d:Xa}(x:Da G H L v d):Da G H' L v d:=x.frame (λa xs p e=>⟨p,e.same h⟩) λa xs e=>h _ _ e
theorem Das.same(h:Same H H'){v:List V}{d:List Xa}(x:Das G H L v d):Das G H' L v d:=x.frame (λa xs p e=>⟨p,e.same h⟩) λa xs e=>h _ _ e
theorem Da.wide(h:∀a,L a->H a≠none->L' a){v:V}{d:Xa}(x:Da G H L v d):Da G H L' v d:=x.frame (λa xs p e=>⟨h a p e.some,e⟩) λa xs e=>e
theorem Das.wide(h:∀a,L a->H a≠none->L' a){v:List V}{d:List Xa}(x:Das G H L v d):Das G H L' v d:=x.frame (λa xs p e=>⟨h a p e.some,e⟩) λa xs e=>e
theorem Das.length{xs:List V}{ds:List Xa}(h:Das G H L xs ds):xs.length=ds.length:=Das.ind (Q:=λxs ds=>xs.length=ds.length) rfl (λ_ _ r=>congrArg (·+1) r) h
theorem Das.append{xs ys:List V}{ds es:List Xa}(h:Das G H L xs ds)(k:Das G H L ys es):Das G H L (xs ++ ys) (ds ++ es):=Das.ind (Q:=λxs ds=>Das G H L (xs ++ ys) (ds ++ es)) k (λh _ r=>.cons h r) h
theorem Das.get{xs:List V}{ds:List Xa}{i:Nat}{d:Xa}(h:Das G H L xs ds):ds[i]? =some d->∃x,xs[i]? =some x∧Da G H L x d :=
 Das.ind (Q:=λxs ds=>∀i,ds[i]? =some d->∃x,xs[i]? =some x∧Da G H L x d) (λ_ e=>(Option.some_ne_none _ (e.symm.trans List.getElem?_nil)).elim) (fun{x _ _ _} h _ r i=>Nat.casesOn i (λe=>⟨x,rfl,QD e▸h⟩) λi e=>r i e) h i
theorem Das.get'{xs:List V}{ds:List Xa}{i:Nat}{x:V}(h:Das G H L xs ds):xs[i]? =some x->∃d,ds[i]? =some d∧Da G H L x d :=
 Das.ind (Q:=λxs ds=>∀i,xs[i]? =some x->∃d,ds[i]? =some d∧Da G H L x d) (λ_ e=>(Option.some_ne_none _ (e.symm.trans List.getElem?_nil)).elim) (fun{_ _ d _} h _ r i=>Nat.casesOn i (λe=>⟨d,rfl,QD e▸h⟩) λi e=>r i e) h i
theorem Das.take{xs:List V}{ds:List Xa}(n:Nat)(h:Das G H L xs ds):Das G H L (xs.take n) (ds.take n) :=
 Das.ind (Q:=λxs ds=>∀n,Das G H L (xs.take n) (ds.take n)) (λn=>by rw[List.take_nil,List.take_nil];exact .nil) (λh _ r n=>Nat.casesOn n .nil λn=>.cons h (r n)) h n
theorem Das.drop{xs:List V}{ds:List Xa}(n:Nat)(h:Das G H L xs ds):Das G H L (xs.drop n) (ds.drop n) :=
 Das.ind (Q:=λxs ds=>∀n,Das G H L (xs.drop n) (ds.drop n)) (λn=>by rw[List.drop_nil,List.drop_nil];exact .nil) (λh q r n=>Nat.casesOn n (.cons h q) λn=>r n) h n
theorem Das.ints(ns:List Int):Das G H L (ns.map V.int) (ns.map Xk):=by
 induction ns with
 | nil=>exact .nil
 | cons n ns ih=>exact .cons (.int n) ih
theorem Das.int_inv{xs:List V}{ns:List Int}(h:Das G H L xs (ns.map Xk)):xs=ns.map V.int:=by
 induction ns generalizing xs with
 | nil=>cases h;rfl
 | cons n ns ih=>
  rw[X3]at h
  cases h with
  | cons h r=>cases h;rw[ih r];rfl
end
theorem Zqz{h:Heap}(ns:List Int){us:List Xf}(v:Vals (ns.map V.int) us):∃as,ReadsAll h us (ns.map Xk) as:=by
 induction ns generalizing us with
 | nil=>cases v;exact⟨_,.nil⟩
 | cons n ns ih=>
  rw[X3]at v
  cases v with
  | cons r rs=>
   obtain⟨t,e⟩:=(show∃t,_=Vs n t from r)
   subst e
   obtain⟨bs,k'⟩:=ih rs
   exact⟨_,.cons (.int n t) k'⟩
section
variable {X:Cx}{pins:List (Addr×Obj)}{σ:St}{H:Hp}{s:Xh}{L L':Addr->Prop}
theorem Da.reads2(hG:X.K=G)(I:Inv X pins σ H s):(∀{v:V} {d:Xa},Da G H L v d->∀u,RelV v u->d.canLay0=true->∃as,Reads s.heap u d as)∧∀{xs:List V} {ds:List Xa},Das G H L xs ds->∀us,Vals xs us->JV ds=true->∃as,ReadsAll s.heap us ds as:=by
 refine Da.both ?_ ?_ ?_ ?_ ?_ ?_ ?_ ?_ ?_ ?_ ?_ ?_
 ·intro u r _
  cases(show _=QT from r)
  exact⟨_,.none⟩
 ·intro b u r _
  cases(show _=U8 b from r)
  exact⟨_,.bool b⟩
 ·intro i u r _
  obtain⟨t,e⟩:=(show∃t,_=Vs i t from r)
  subst e
  exact⟨_,.int i t⟩
 ·intro x u r _
  obtain⟨t,e⟩:=(show∃t,_=Value.str x t from r)
  subst e
  exact⟨_,.str x t⟩
 ·intro a xs ds _ e q u r hcl
  cases(show _=Qn a from r)
  obtain⟨_,its,n,vs,h1⟩:=(show ObjOk X.prog X.w H s.heap a (.lst xs)from e.ok I.hok)
  rw[Bl]at hcl
  obtain⟨as,k⟩:=q _ vs hcl
  exact⟨_,Reads.list h1 rfl rfl k⟩
 ·intro a xs ds e q u r hcl
  cases(show _=Qn a from r)
  obtain⟨_,its,vs,o,ho,hc,n,hd⟩:=(show ObjOk X.prog X.w H s.heap a (.tup xs)from I.hok a _ e)
  rw[Bl]at hcl
  obtain⟨as,k⟩:=q _ vs hcl
  exact⟨_,Reads.tuple ho hc hd k⟩
 ·intro a ns k u r _
  cases(show _=Qn a from r)
  subst hG
  obtain⟨its,vs,⟨o,n,ho,hc,hd,hs⟩,_⟩:=I.list (k.sq (H:=H))
  obtain⟨as,q⟩:=Zqz ns vs
  exact⟨_,Reads.list ho hc hs q⟩
 ·intro a C x _ _ e u r hc
  rw[exD,Bl]at hc
  cases hc
 ·intro a x _ u r hc
  rw[fnD,Bl]at hc
  cases hc
 ·intro a o t ks xs ds _ _ _ _ u r hc
  rw[dcD,Bl]at hc
  cases hc
 ·intro us v _
  cases v
  exact⟨_,.nil⟩
 ·intro x xs d ds h q us v hc
  cases v with
  | cons r rs=>
   rw[JV,XD]at hc
   obtain⟨as,k⟩:=h _ r hc.1
   obtain⟨bs,k'⟩:=q _ rs hc.2
   exact⟨_,.cons k k'⟩
theorem Da.reads(hG:X.K=G)(I:Inv X pins σ H s){v:V}{d:Xa}{u:Xf}(h:Da G H L v d)(r:RelV v u)(c:d.canLay0=true):∃as,Reads s.heap u d as:=(Da.reads2 hG I).1 h u r c
theorem Das.reads(hG:X.K=G)(I:Inv X pins σ H s){xs:List V}{ds:List Xa}{us:List Xf}(h:Das G H L xs ds)(r:Vals xs us)(c:JV ds=true):∃as,ReadsAll s.heap us ds as:=(Da.reads2 hG I).2 h us r c
end
inductive OT where
 | fz (d:Xa)
 | nd (ts:List OT)
 | tp (ts:List OT)
 | dc (t:Bool) (ks:List KY) (ds:List Xa)
mutual
noncomputable def OT.data:OT->Xa
 | .fz d=>d
 | .nd ts=>.list (OT.datas ts)
 | .tp ts=>.tuple (OT.datas ts)
 | .dc t ks ds=>dcD t ks ds
noncomputable def OT.datas:List OT->List Xa
 | []=>[]
 | t :: ts=>t.data :: OT.datas ts
end
theorem OT.datas_map:∀(ts:List OT),OT.datas ts=ts.map OT.data
 | []=>rfl
 | t :: ts=>by rw[OT.datas,OT.datas_map ts];rfl
@[simp] theorem OT.data_fz(d:Xa):(OT.fz d).data=d:=by rw[OT.data]
@[simp] theorem OT.data_nd(ts:List OT):(OT.nd ts).data= .list (ts.map OT.data):=by rw[OT.data,OT.datas_map]
@[simp] theorem OT.data_tp(ts:List OT):(OT.tp ts).data= .tuple (ts.map OT.data):=by rw[OT.data,OT.datas_map]
theorem OT.data_dc(t:Bool)(ks:List KY)(ds:List Xa):(OT.dc t ks ds).data=dcD t ks ds:=by rw[OT.data]
@[simp] theorem OT.map_fz(ds:List Xa):(ds.map OT.fz).map OT.data=ds:=by
 rw[X5]
 exact(Qg λd _=>OT.data_fz d).trans (List.map_id _)
mutual
inductive Own(G:Xc)(H:Hp)(L:Addr->Prop):V->OT->List Addr->Prop where
 | fz {v:V} {d:Xa}:Da G H L v d->Own G H L v (.fz d) []
 | nd {a:Addr} {xs:List V} {ts:List OT} {bs:List Addr}:H a=some (.lst xs)->Owns G H L xs ts bs->Own G H L (.ref a) (.nd ts) (a :: bs)
 | tp {a:Addr} {xs:List V} {ts:List OT} {bs:List Addr}:H a=some (.tup xs)->Owns G H L xs ts bs->Own G H L (.ref a) (.tp ts) bs
 | dc {a:Addr} {o:MuO} {t:Bool} {ks:List KY} {xs:List V} {ds:List Xa}:H a=some o.ho->o.dic t ks xs->Das G H L xs ds->Own G H L (.ref a) (.dc t ks ds) [a]
inductive Owns(G:Xc)(H:Hp)(L:Addr->Prop):List V->List OT->List Addr->Prop where
 | nil:Owns G H L [] [] []
 | cons {x:V} {xs:List V} {t:OT} {ts:List OT} {as bs:List Addr}:Own G H L x t as->Owns G H L xs ts bs->Owns G H L (x :: xs) (t :: ts) (as ++ bs)
end
section
variable {H H':Hp}{L L':Addr->Prop}
theorem Own.both{P:V->OT->List Addr->Prop}{Q:List V->List OT->List Addr->Prop}(c1:∀{v:V} {d:Xa},Da G H L v d->P v (.fz d) [])(c2:∀{a:Addr} {xs:List V} {ts:List OT} {bs:List Addr},H a=some (.lst xs)->Q xs ts bs->P (.ref a) (.nd ts) (a :: bs))
  (c3:∀{a:Addr} {xs:List V} {ts:List OT} {bs:List Addr},H a=some (.tup xs)->Q xs ts bs->P (.ref a) (.tp ts) bs) (c4:∀{a:Addr} {o:MuO} {t:Bool} {ks:List KY} {xs:List V} {ds:List Xa},H a=some o.ho->o.dic t ks xs->Das G H L xs ds->P (.ref a) (.dc t ks ds) [a]) (n:Q [] [] []) (c:∀{x:V} {xs:List V} {t:OT} {ts:List OT} {as bs:List Addr},P x t as->Q xs ts bs->Q (x :: xs) (t :: ts) (as ++ bs)) :
  (∀ {v t as},Own G H L v t as->P v t as)∧∀{xs ts as},Owns G H L xs ts as->Q xs ts as :=
 ⟨λh=>Own.rec (motive_1:=λv t as _=>P v t as) (motive_2:=λxs ts as _=>Q xs ts as) c1 (λe _ r=>c2 e r) (λe _ r=>c3 e r) (λe k r=>c4 e k r) n (λ_ _ p q=>c p q) h,
   λh=>Owns.rec (motive_1:=λv t as _=>P v t as) (motive_2:=λxs ts as _=>Q xs ts as) c1 (λe _ r=>c2 e r) (λe _ r=>c3 e r) (λe k r=>c4 e k r) n (λ_ _ p q=>c p q) h⟩
theorem Own.frame2(hl:∀a (xs:MuO),L a->Rd H a xs.ho->L' a∧Rd H' a xs.ho)(ht:∀a (xs:ImO),H a=some xs.ho->H' a=some xs.ho) :
  (∀ {v:V} {t:OT} {as:List Addr},Own G H L v t as->(∀a∈as,∀xs:MuO,H a=some xs.ho->H' a=some xs.ho)->Own G H' L' v t as)∧∀{xs:List V} {ts:List OT} {as:List Addr},Owns G H L xs ts as->(∀a∈as,∀xs:MuO,H a=some xs.ho->H' a=some xs.ho)->Owns G H' L' xs ts as :=
 Own.both (λh _=>.fz (h.frame hl ht)) (fun{_ xs _ _} e r ha=>.nd (ha _ (.head _) (.lst xs) e) (r λa m=>ha a (.tail _ m))) (fun{_ xs _ _} e r ha=>.tp (ht _ (.tup xs) e) (r ha)) (λe k r ha=>.dc (ha _ (.head _) _ e) k (r.frame hl ht)) (λ_=>.nil) (λh r ha=>.cons (h λa m=>ha a (Vi _ m)) (r λa m=>ha a (Qc _ m)))
theorem Own.frame(hl:∀a (xs:MuO),L a->Rd H a xs.ho->L' a∧Rd H' a xs.ho)(ht:∀a (xs:ImO),H a=some xs.ho->H' a=some xs.ho){v:V}{t:OT}{as:List Addr}(ha:∀a∈as,∀xs:MuO,H a=some xs.ho->H' a=some xs.ho)(h:Own G H L v t as):Own G H' L' v t as:=(Own.frame2 hl ht).1 h ha
theorem Owns.frame(hl:∀a (xs:MuO),L a->Rd H a xs.ho->L' a∧Rd H' a xs.ho)(ht:∀a (xs:ImO),H a=some xs.ho->H' a=some xs.ho){xs:List V}{ts:List OT}{as:List Addr}(ha:∀a∈as,∀xs:MuO,H a=some xs.ho->H' a=some xs.ho)(h:Owns G H L xs ts as):Owns G H' L' xs ts as:=(Own.frame2 hl ht).2 h ha
theorem Own.same(h:Same H H'){v:V}{t:OT}{as:List Addr}(x:Own G H L v t as):Own G H' L v t as:=x.frame (λa xs p e=>⟨p,e.same h⟩) (λa xs e=>h _ _ e) λa _ xs e=>h _ _ e
theorem Own.wide(h:∀a,L a->H a≠none->L' a){v:V}{t:OT}{as:List Addr}(x:Own G H L v t as):Own G H L' v t as:=x.frame (λa xs p e=>⟨h a p e.some,e⟩) (λa xs e=>e) λa _ xs e=>e
theorem Owns.wide(h:∀a,L a->H a≠none->L' a){v:List V}{t:List OT}{as:List Addr}(x:Owns G H L v t as):Owns G H L' v t as:=x.frame (λa xs p e=>⟨h a p e.some,e⟩) (λa xs e=>e) λa _ xs e=>e
theorem Owns.same(h:Same H H'){v:List V}{t:List OT}{as:List Addr}(x:Owns G H L v t as):Owns G H' L v t as:=x.frame (λa xs p e=>⟨p,e.same h⟩) (λa xs e=>h _ _ e) λa _ xs e=>h _ _ e
theorem Own.da2(h:∀a,L a->H a≠none->L' a):(∀{v:V} {t:OT} {as:List Addr},Own G H L v t as->(∀a∈as,L' a)->Da G H L' v t.data)∧∀{v:List V} {t:List OT} {as:List Addr},Owns G H L v t as->(∀a∈as,L' a)->Das G H L' v (OT.datas t) :=
 Own.both (λk _=>by rw[OT.data_fz];exact k.wide h) (λe r ha=>by rw[OT.data];exact .lst (ha _ (.head _)) (.inl e) (r λa m=>ha a (.tail _ m))) (λe r ha=>by rw[OT.data];exact .tup e (r ha)) (λe k r ha=>by rw[OT.data];exact .dic (ha _ (.head _)) (.inl e) k (r.wide h)) (λ_=>.nil) (λk r ha=>.cons (k λa m=>ha a (Vi _ m)) (r λa m=>ha a (Qc _ m)))
theorem Own.da(h:∀a,L a->H a≠none->L' a){v:V}{t:OT}{as:List Addr}(ha:∀a∈as,L' a)(k:Own G H L v t as):Da G H L' v t.data:=(Own.da2 h).1 k ha
theorem Owns.das(h:∀a,L a->H a≠none->L' a){v:List V}{t:List OT}{as:List Addr}(ha:∀a∈as,L' a)(k:Owns G H L v t as):Das G H L' v (OT.datas t):=(Own.da2 h).2 k ha
theorem Own.some2:(∀{v:V} {t:OT} {as:List Addr},Own G H L v t as->∀a∈as,∃xs:MuO,H a=some xs.ho)∧∀{v:List V} {t:List OT} {as:List Addr},Owns G H L v t as->∀a∈as,∃xs:MuO,H a=some xs.ho :=
 Own.both (λ_ _ m=>nomatch m) (fun{_ xs _ _} e r a m=>(Xr.mp m).elim (λq=>⟨.lst xs,q▸e⟩) (r a)) (λ_ r=>r) (fun{_ o _ _ _ _} e _ _ a m=>⟨o,Xu.mp m▸e⟩) (λ_ m=>nomatch m) (λk r a m=>(QJ.mp m).elim (k a) (r a))
theorem Own.some{v:V}{t:OT}{as:List Addr}(h:Own G H L v t as):∀a∈as,∃xs:MuO,H a=some xs.ho:=Own.some2.1 h
theorem Owns.some{v:List V}{t:List OT}{as:List Addr}(h:Owns G H L v t as):∀a∈as,∃xs:MuO,H a=some xs.ho:=Own.some2.2 h
theorem Owns.length{xs:List V}{ts:List OT}{as:List Addr}(h:Owns G H L xs ts as):xs.length=ts.length:=(Own.both (P:=λ_ _ _=>True) (Q:=λxs ts _=>xs.length=ts.length) (λ_=>trivial) (λ_ _=>trivial) (λ_ _=>trivial) (λ_ _ _=>trivial) rfl (λ_ r=>congrArg (·+1) r)).2 h
theorem Das.owns{xs:List V}{ds:List Xa}(h:Das G H L xs ds):Owns G H L xs (ds.map OT.fz) []:=Das.ind (Q:=λxs ds=>Owns G H L xs (ds.map OT.fz) []) .nil (λh _ r=>.cons (.fz h) r) h
end
variable {G:Xc}
noncomputable abbrev Zj:=List (Option OT)
noncomputable abbrev Fp:=Nat->List Addr
set_option genInjectivity false in
structure MC(G:Xc) where
 H₀:Hp
 as₀:Addr->Prop
 L:Addr->Prop
 σ₀:St
noncomputable def Foot(fp:Fp)(a:Addr):Prop:=∃i,a∈fp i
noncomputable def Lf(C:MC G)(fp:Fp)(ex:Addr->Prop)(a:Addr):Prop:=¬Foot fp a∧¬ex a∧(C.L a∨C.H₀ a=none)
structure Rel(C:MC G)(io:List Nat)(H:Hp)(σ:St)(δ:Zj)(fp:Fp)(ex:Addr->Prop):Prop where
 len:σ.length=δ.length
 own:∀(i:Nat) (t:OT),δ[i]? =some (some t)->∃v,σ[i]? =some (some v)∧Own G H (Lf C fp ex) v t (fp i)
 emp:∀i:Nat,(∀t,δ[i]? ≠some (some t))->fp i=[]
 nd:∀i,(fp i).Nodup
 dj:∀i j a,a∈fp i->a∈fp j->i=j
 dx:∀i a,a∈fp i->¬ex a
 xa:∀a,ex a->H a≠none
 fr:∀b o,C.H₀ b=some o->¬C.as₀ b->H b=some o
 al:∀b,H b=none->C.H₀ b=none
 new:∀i a,a∈fp i->(i∈io∧C.as₀ a)∨C.H₀ a=none
 io:∀i∈io,σ[i]? =C.σ₀[i]?
structure Stp(p:Bool)(H:Hp)(δ:Zj)(fp:Fp)(H':Hp)(δ':Zj)(fp':Fp):Prop where
 keep:∀b o,H b=some o->(p=true∨¬Foot fp b)->H' b=some o
 env:p=true->δ'=δ∧fp'=fp
 grow:∀a,Foot fp' a->Foot fp a∨H a=none
 al:∀b,H' b=none->H b=none
section
variable {C:MC G}{io:List Nat}{H H' H'':Hp}{σ:St}{δ δ' δ'':Zj}{fp fp' fp'':Fp}{ex ex':Addr->Prop}{p p' c:Bool}{v:V}{d:Xa}{r:OT}{new:List Addr}
theorem Rel.foot(R:Rel C io H σ δ fp ex){a:Addr}(h:Foot fp a):∃xs:MuO,H a=some xs.ho:=by
 obtain⟨i,h⟩:=h
 by_cases q:∃t,δ[i]? =some (some t)
 ·obtain⟨t,q⟩:=q
  obtain⟨v,_,o⟩:=R.own i t q
  exact o.some a h
 ·rw[R.emp i (λt z=>q ⟨t,z⟩)]at h
  exact nomatch h
theorem Rel.footSome(R:Rel C io H σ δ fp ex){a:Addr}(h:H a=none):¬Foot fp a:=λz=>by
 obtain⟨xs,e⟩:=R.foot z
 rw[h]at e
 cases e
theorem Stp.refl(p:Bool)(H:Hp)(δ:Zj)(fp:Fp):Stp p H δ fp H δ fp:=⟨λ_ _ h _=>h,λ_=>⟨rfl,rfl⟩,λ_ h=>.inl h,λ_ h=>h⟩
theorem Stp.same(h:Same H H')(hn:∀b,H' b=none->H b=none):Stp p H δ fp H' δ fp:=⟨λ_ _ q _=>h _ _ q,λ_=>⟨rfl,rfl⟩,λ_ h=>.inl h,hn⟩
theorem Same.al(h:Same H H'):∀b,H' b=none->H b=none:=λ_ q=>h.free q
theorem Stp.trans(a:Stp p H δ fp H' δ' fp')(b:Stp p' H' δ' fp' H'' δ'' fp''):Stp (p&&p') H δ fp H'' δ'' fp'' where
 keep:=λx o e h=>by
  rcases h with h|h
  ·rw[XD]at h
   exact b.keep x o (a.keep x o e (.inl h.1)) (.inl h.2)
  ·refine b.keep x o (a.keep x o e (.inr h)) (.inr λz=>?_)
   rcases a.grow x z with z|z
   ·exact h z
   ·rw[e]at z;cases z
 env:=λh=>by
  rw[XD]at h
  obtain⟨e1,e2⟩:=a.env h.1
  obtain⟨e3,e4⟩:=b.env h.2
  exact⟨e3.trans e1,e4.trans e2⟩
 grow:=λx h=>by
  rcases b.grow x h with h|h
  ·exact a.grow x h
  ·exact .inr (a.al x h)
 al:=λx h=>a.al x (b.al x h)
theorem Rel.frameL(R:Rel C io H σ δ fp ex)(S:Stp p H δ fp H' δ' fp')(hc:p=true∨c=true)(hx:∀a,ex' a->ex a∨H a=none) :
  (∀ a (xs:MuO),(c=true->Lf C fp ex a)->Rd H a xs.ho->(c=true->Lf C fp' ex' a)∧Rd H' a xs.ho)∧(∀a (xs:ImO),H a=some xs.ho->H' a=some xs.ho):=by
 have nf:∀a,Foot fp a->∃xs:MuO,H a=some xs.ho:=λa h=>R.foot h
 refine⟨λa xs l q=>⟨λhc'=>?_,?_⟩,λa xs q=>S.keep a _ q (.inr λz=>?_)⟩
 ·obtain⟨l1,l2,l3⟩:=l hc'
  refine⟨λz=>?_,λz=>?_,l3⟩
  ·rcases S.grow a z with z|z
   ·exact l1 z
   ·exact q.some z
  ·rcases hx a z with z|z
   ·exact l2 z
   ·exact q.some z
 ·have hk:p=true∨¬Foot fp a:=by
   rcases hc with h|h
   ·exact .inl h
   ·exact .inr (l h).1
  rcases q with q|⟨o,q⟩
  ·exact .inl (S.keep a _ q hk)
  ·exact .inr ⟨o,S.keep a _ q hk⟩
 ·obtain⟨ys,e⟩:=nf a z
  exact ImO.nm q e
theorem Rel.own_step(R:Rel C io H σ δ fp ex)(S:Stp p H δ fp H' δ' fp')(hc:p=true∨c=true)(hx:∀a,ex' a->ex a∨H a=none)(hn:∀a∈new,ex a)
  (x:Own G H (λa=>c=true->Lf C fp ex a) v r new):Own G H' (λa=>c=true->Lf C fp' ex' a) v r new :=
 x.frame (R.frameL S hc hx).1 (R.frameL S hc hx).2 λa m xs e=>S.keep a _ e (.inr λ⟨i,z⟩=>R.dx i a z (hn a m))
theorem Rel.owns_step(R:Rel C io H σ δ fp ex)(S:Stp p H δ fp H' δ' fp')(hc:p=true∨c=true)(hx:∀a,ex' a->ex a∨H a=none)(hn:∀a∈new,ex a){vs:List V}{rs:List OT}
  (x:Owns G H (λa=>c=true->Lf C fp ex a) vs rs new):Owns G H' (λa=>c=true->Lf C fp' ex' a) vs rs new :=
 x.frame (R.frameL S hc hx).1 (R.frameL S hc hx).2 λa m xs e=>S.keep a _ e (.inr λ⟨i,z⟩=>R.dx i a z (hn a m))
theorem Rel.drop(R:Rel C io H σ δ fp ex)(h:∀a,ex' a->ex a):Rel C io H σ δ fp ex' :=
 ⟨R.len,λi t e=>by
  obtain⟨v,e1,o⟩:=R.own i t e
  exact⟨v,e1,o.wide λa l _=>⟨l.1,λz=>l.2.1 (h a z),l.2.2⟩⟩,R.emp,R.nd,R.dj,λi a m z=>R.dx i a m (h a z),λa z=>R.xa a (h a z),R.fr,R.al,R.new,R.io⟩
theorem Rel.made(R:Rel C io H σ δ fp ex)(s:Same H H')(hn:∀a∈new,H a=none∧H' a≠none):Rel C io H' σ δ fp (λa=>ex a∨a∈new) :=
 ⟨R.len,λi t e=>by
  obtain⟨v,e1,o⟩:=R.own i t e
  refine⟨v,e1,(o.wide λa l q=>⟨l.1,λz=>?_,l.2.2⟩).same s⟩
  rcases z with z|z
  ·exact l.2.1 z
  ·exact q (hn a z).1,R.emp,R.nd,R.dj,λi a m z=>by
   rcases z with z|z
   ·exact R.dx i a m z
   ·exact R.footSome (hn a z).1 ⟨i,m⟩,λa z=>by
   rcases z with z|z
   ·intro q;exact R.xa a z (s.free q)
   ·exact(hn a z).2,λb o e n=>s _ _ (R.fr b o e n),λb q=>R.al b (s.free q),R.new,R.io⟩
end
noncomputable abbrev MEt:=Zj->(OT->Zj->Prop)->Prop
noncomputable abbrev MAt:=Zj->(List OT->Zj->Prop)->Prop
noncomputable abbrev MTt:=Zj->(Bool->Zj->Prop)->Prop
noncomputable abbrev exu(ex:Addr->Prop)(new:List Addr):Addr->Prop:=λa=>ex a∨a∈new
structure RE(C:MC G)(io:List Nat)(p c:Bool)(H:Hp)(σ:St)(δ:Zj)(fp:Fp)(ex:Addr->Prop)(H':Hp)(v:V)(r:OT)(δ':Zj)(fp':Fp)(new:List Addr):Prop where
 rel:Rel C io H' σ δ' fp' (exu ex new)
 stp:Stp p H δ fp H' δ' fp'
 own:Own G H' (λa=>c=true->Lf C fp' (exu ex new) a) v r new
 nd:new.Nodup
 fresh:∀a∈new,H a=none
structure RA(C:MC G)(io:List Nat)(p c:Bool)(H:Hp)(σ:St)(δ:Zj)(fp:Fp)(ex:Addr->Prop)(H':Hp)(v:List V)(r:List OT)(δ':Zj)(fp':Fp)(new:List Addr):Prop where
 rel:Rel C io H' σ δ' fp' (exu ex new)
 stp:Stp p H δ fp H' δ' fp'
 own:Owns G H' (λa=>c=true->Lf C fp' (exu ex new) a) v r new
 nd:new.Nodup
 fresh:∀a∈new,H a=none
noncomputable def SE(G:Xc)(io:List Nat)(p c:Bool)(t:TE)(m:MEt):Prop:=∀(C:MC G) (H:Hp) (σ:St) (δ:Zj) (fp:Fp) (ex:Addr->Prop) (K:OT->Zj->Prop) (Q:VK),Rel C io H σ δ fp ex->m δ K ->
 (∀ H' v r δ' fp' new,RE C io p c H σ δ fp ex H' v r δ' fp' new->K r δ'->Q v H')->t σ H Q
noncomputable def SA(G:Xc)(io:List Nat)(p c:Bool)(t:TA)(m:MAt):Prop:=∀(C:MC G) (H:Hp) (σ:St) (δ:Zj) (fp:Fp) (ex:Addr->Prop) (K:List OT->Zj->Prop) (Q:List V->Hp->Prop),Rel C io H σ δ fp ex->m δ K ->
 (∀ H' v r δ' fp' new,RA C io p c H σ δ fp ex H' v r δ' fp' new->K r δ'->Q v H')->t σ H Q
noncomputable def STt(G:Xc)(io:List Nat)(p:Bool)(t:TT)(m:MTt):Prop:=∀(C:MC G) (H:Hp) (σ:St) (δ:Zj) (fp:Fp) (ex:Addr->Prop) (K:Bool->Zj->Prop) (Q:Bool->Hp->Prop),Rel C io H σ δ fp ex->m δ K ->
 (∀ H' b δ' fp',Rel C io H' σ δ' fp' ex->Stp p H δ fp H' δ' fp'->K b δ'->Q b H')->t σ H Q
noncomputable def ME(X:Cx)(io:List Nat)(p c:Bool)(e:Expr)(m:MEt):Prop:=∃t,PE X e t∧SE X.K io p c t m
noncomputable def MA(X:Cx)(io:List Nat)(p c:Bool)(e:List Expr)(m:MAt):Prop:=∃t,PA X e t∧SA X.K io p c t m
noncomputable def MT(X:Cx)(io:List Nat)(p:Bool)(e:Expr)(m:MTt):Prop:=∃t,PT X e t∧STt X.K io p t m
noncomputable def MW(X:Cx)(io:List Nat)(p:Bool)(e:Expr)(m:MTt):Prop:=∃t,PW X e t∧STt X.K io p t m
section
variable {C:MC G}{io:List Nat}{H H' H'':Hp}{σ:St}{δ δ' δ'':Zj}{fp fp' fp'':Fp}{ex ex':Addr->Prop}{p p' c:Bool}{v:V}{d:Xa}{r:OT}{vs:List V}{rs:List OT}{new:List Addr}
theorem Rel.newOk(R:Rel C io H σ δ fp ex){a:Addr}(h:H a=none):¬Foot fp a∧¬ex a∧C.H₀ a=none:=⟨R.footSome h,λz=>R.xa a z h,R.al a h⟩
theorem RE.da(R:RE C io p c H σ δ fp ex H' v r δ' fp' new)(R0:Rel C io H σ δ fp ex):Da G H' (λa=>c=true->Lf C fp' ex a) v r.data:=by
 refine R.own.da (λa l _ h=>?_) (λa m _=>?_)
 ·exact⟨(l h).1,λz=>(l h).2.1 (.inl z),(l h).2.2⟩
 ·refine⟨λqz9=>?_,(R0.newOk (R.fresh a m)).2.1,.inr (R0.newOk (R.fresh a m)).2.2⟩
  obtain⟨i,z⟩:=qz9
  exact R.rel.dx i a z (.inr m)
theorem RA.das(R:RA C io p c H σ δ fp ex H' vs rs δ' fp' new)(R0:Rel C io H σ δ fp ex):Das G H' (λa=>c=true->Lf C fp' ex a) vs (OT.datas rs):=by
 refine R.own.das (λa l _ h=>?_) (λa m _=>?_)
 ·exact⟨(l h).1,λz=>(l h).2.1 (.inl z),(l h).2.2⟩
 ·refine⟨λqz9=>?_,(R0.newOk (R.fresh a m)).2.1,.inr (R0.newOk (R.fresh a m)).2.2⟩
  obtain⟨i,z⟩:=qz9
  exact R.rel.dx i a z (.inr m)
theorem RE.base(R:RE C io p c H σ δ fp ex H' v r δ' fp' new):Rel C io H' σ δ' fp' ex:=R.rel.drop λa z=>.inl z
theorem RA.base(R:RA C io p c H σ δ fp ex H' vs rs δ' fp' new):Rel C io H' σ δ' fp' ex:=R.rel.drop λa z=>.inl z
theorem Zdj{a:Addr}:exu ex [] a↔ex a:=by simp[exu]
theorem RE.fz(R:Rel C io H' σ δ' fp' ex)(S:Stp p H δ fp H' δ' fp')(h:Da G H' (λa=>c=true->Lf C fp' ex a) v d):RE C io p c H σ δ fp ex H' v (.fz d) δ' fp' [] :=
 ⟨R.drop λa z=>Zdj.mp z,S,.fz (h.wide λa l _ hc=>⟨(l hc).1,λz=>(l hc).2.1 (Zdj.mp z),(l hc).2.2⟩),.nil,λa m=>nomatch m⟩
theorem RE.tree{H1:Hp}(R0:Rel C io H σ δ fp ex)(R:Rel C io H1 σ δ' fp' ex)(S:Stp p H δ fp H1 δ' fp')(s:Same H1 H')(hn:∀a∈new,H1 a=none)(nd:new.Nodup)
  (o:Own G H' (λa=>((c=true->Lf C fp' ex a)∨H1 a=none)∧a∉new) v r new):RE C io p c H σ δ fp ex H' v r δ' fp' new:=by
 refine⟨R.made s λa m=>⟨hn a m,λz=>?_⟩,?_,o.wide λa l q hc=>?_,nd,λa m=>S.al a (hn a m)⟩
 ·obtain⟨xs,e⟩:=o.some a m
  rw[z]at e;cases e
 ·have:=S.trans (p':=true) (Stp.same (p:=true) (δ:=δ') (fp:=fp') s s.al)
  rwa[Bool.and_true]at this
 ·rcases l.1 with l1|l1
  ·exact⟨(l1 hc).1,λz=>z.elim (l1 hc).2.1 l.2,(l1 hc).2.2⟩
  ·exact⟨R.footSome l1,λz=>z.elim (λz=>R.xa a z l1) l.2,.inr (R.al a l1)⟩
end
inductive ScD:V->Xa->Prop where
 | non:ScD .non .none
 | bl (b:Bool):ScD (.bl b) (.bool b)
 | int (i:Int):ScD (.int i) (.int i)
 | str (x:Str):ScD (.str x) (.str x)
theorem ScD.da{H:Hp}{L:Addr->Prop}{v:V}{d:Xa}(h:ScD v d):Da G H L v d:=by
 cases h
 ·exact .non
 ·exact .bl _
 ·exact .int _
 ·exact .str _
section
variable {X:Cx}{io:List Nat}{p p' c c':Bool}{e a b:Expr}{m ma mb:MEt}{es:List Expr}
noncomputable def Z80(i:Nat):MEt:=λδ K=>match δ[i]? with|some (some (.fz d))=>K (.fz d) δ|_=>False
noncomputable def Z9e(i:Nat):MEt:=λδ K=>match δ[i]? with|some (some t)=>K (.fz t.data) δ|_=>False
noncomputable def mC(d:Xa):MEt:=λδ K=>K (.fz d) δ
theorem mv(i:Nat){x:Str}{pos:Pos}(hN:X.N[i]? =some x:=by rfl)(hv:Vis X.env.scope x:=by first|exact QB rfl|exact Qw (QB rfl)|exact Qw (Qw rfl))(hd:(x==("__debug__" : Str))=false:=by decide)
  (hcd:(x==("__classdict__" : Str))=false:=by decide):ME X io true true (.Name x pos) (Z80 i):=by
 refine⟨_,pv i hN hv hd hcd,λC H σ δ fp ex K Q R h k=>?_⟩
 unfold Z80 at h
 split at h
 ·rename_i d hd
  obtain⟨v,e,o⟩:=R.own i _ hd
  refine⟨v,e,k H v _ δ fp [] (.fz R (.refl _ _ _ _) ?_) h⟩
  generalize fp i=as at o
  cases o with
  | fz q=>exact q.wide λa l _ _=>l
 ·exact h.elim
theorem mo(i:Nat){x:Str}{pos:Pos}(hN:X.N[i]? =some x:=by rfl)(hv:Vis X.env.scope x:=by first|exact QB rfl|exact Qw (QB rfl)|exact Qw (Qw rfl))(hd:(x==("__debug__" : Str))=false:=by decide)
  (hcd:(x==("__classdict__" : Str))=false:=by decide):ME X io true false (.Name x pos) (Z9e i):=by
 refine⟨_,pv i hN hv hd hcd,λC H σ δ fp ex K Q R h k=>?_⟩
 unfold Z9e at h
 split at h
 ·rename_i d hd
  obtain⟨v,e,o⟩:=R.own i _ hd
  exact⟨v,e,k H v _ δ fp [] (.fz R (.refl _ _ _ _) (o.da (λa _ _ z=>(nomatch z)) λa _ z=>(nomatch z))) h⟩
 ·exact h.elim
theorem Zj2{t:V}{d:Xa}(h:PE X e (tC t))(s:ScD t d):ME X io true true e (mC d) :=
 ⟨_,h,λC H σ δ fp ex K Q R h k=>k H t _ δ fp [] (.fz R (.refl _ _ _ _) s.da) h⟩
theorem Zjy{i j pos}:ME X io true true (.Constant (.int i) j pos) (mC (.int i)):=Zj2 Z5d (.int i)
theorem Zcm{b j pos}:ME X io true true (.Constant (.bool b) j pos) (mC (.bool b)):=Zj2 Yau (.bl b)
theorem Zjd{j pos}:ME X io true true (.Constant .none j pos) (mC .none):=Zj2 Z6j .non
theorem Zjs{x j pos}:ME X io true true (.Constant (.str x) j pos) (mC (.str x)):=Zj2 Z44 (.str x)
theorem SE.two{ta tb:TE}(ha:SE G io p c ta ma)(hb:SE G io p' c' tb mb)(hc:p'=true∨c=true){C:MC G}{H:Hp}{σ:St}{δ:Zj}{fp:Fp}{ex:Addr->Prop}{K:OT->OT->Zj->Prop}{Q:V->V->Hp->Prop}
  (R:Rel C io H σ δ fp ex) (h:ma δ λx δ1=>mb δ1 λy δ2=>K x y δ2)
  (k:∀H' x y u v δ' fp',Rel C io H' σ δ' fp' ex->Stp (p&&p') H δ fp H' δ' fp'->Da G H' (λa=>(c&&c')=true->Lf C fp' ex a) x u.data->Da G H' (λa=>(c&&c')=true->Lf C fp' ex a) y v.data->K u v δ'->Q x y H') :
  ta σ H λx H1=>tb σ H1 λy H2=>Q x y H2:=by
 refine ha C H σ δ fp ex _ _ R h λH1 x u δ1 fp1 new1 r1 h1=>?_
 refine hb C H1 σ δ1 fp1 (exu ex new1) _ _ r1.rel h1 λH2 y v δ2 fp2 new2 r2 h2=>?_
 have o1:=r1.rel.own_step (ex':=exu (exu ex new1) new2) r2.stp (c:=c) hc (λa z=>z.imp id λz=>r2.fresh a z) (λa m=>.inr m) r1.own
 have R2:Rel C io H2 σ δ2 fp2 ex:=r2.rel.drop λa z=>.inl (.inl z)
 have q1:Da G H2 (λa=>c=true->Lf C fp2 ex a) x u.data:=by
  refine o1.da (λa l _ z=>?_) (λa m z=>?_)
  ·exact⟨(l z).1,λw=>(l z).2.1 (.inl (.inl w)),(l z).2.2⟩
  ·have:=R.newOk (r1.fresh a m)
   refine⟨λqz9=>?_,this.2.1,.inr this.2.2⟩
   obtain⟨i,w⟩:=qz9
   exact r2.rel.dx i a w (.inl (.inr m))
 have q2:=r2.da r1.rel
 refine k H2 x y u v δ2 fp2 R2 (r1.stp.trans r2.stp) (q1.wide λa l _ z=>l (by rw[XD]at z;exact z.1)) (q2.wide λa l _ z=>?_) h2
 have l:=l (by rw[XD]at z;exact z.2)
 exact⟨l.1,λw=>l.2.1 (.inl w),l.2.2⟩
noncomputable def P2s(G:Xc)(r:R2)(rp:Xa->Xa->(Xa->Prop)->Prop):Prop:=∀(H:Hp) (L:Addr->Prop) (x y:V) (d e:Xa) (k:Xa->Prop) (Q:VK),Da G H L x d->Da G H L y e->rp d e k->(∀v d',ScD v d'->k d'->Q v H)->r x y H Q
noncomputable def P2(G:Xc)(r:R2)(rp:Xa->Xa->(OT->Prop)->Prop):Prop:=∀(H:Hp) (L:Addr->Prop) (x y:V) (d e:Xa) (k:OT->Prop) (Q:VK),Da G H L x d->Da G H L y e->rp d e k ->
 (∀ H' v o new,Same H H'->Own G H' (λa=>(L a∨H a=none)∧a∉new) v o new->new.Nodup->(∀a∈new,H a=none)->k o->Q v H')->r x y H Q
noncomputable def Zn6(rp:Xa->Xa->(Xa->Prop)->Prop)(ma mb:MEt):MEt:=λδ K=>ma δ λx δ1=>mb δ1 λy δ2=>rp x.data y.data λd=>K (.fz d) δ2
noncomputable def Z9f(rp:Xa->Xa->(OT->Prop)->Prop)(ma mb:MEt):MEt:=λδ K=>ma δ λx δ1=>mb δ1 λy δ2=>rp x.data y.data λd=>K d δ2
theorem Z2z{r:R2}{rp}{ta tb:TE}(P:P2s G r rp)(ha:SE G io p c ta ma)(hb:SE G io p' c' tb mb)(hc:p'=true∨c=true):SE G io (p&&p') true (tOp r ta tb) (Zn6 rp ma mb):=by
 intro C H σ δ fp ex K Q R h k
 refine SE.two (K:=λx y δ2=>rp x.data y.data λd=>K (.fz d) δ2) (Q:=λx y H2=>r x y H2 Q) ha hb hc R h λH' x y u v δ' fp' R' S q1 q2 h'=>?_
 exact P H' _ x y _ _ _ _ q1 q2 h' λw d' sc h''=>k H' w _ δ' fp' [] (.fz R' S sc.da) h''
theorem Yco{r:R2}{rp}{ta tb:TE}(P:P2 G r rp)(ha:SE G io p c ta ma)(hb:SE G io p' c' tb mb)(hc:p'=true∨c=true):SE G io (p&&p') (c&&c') (tOp r ta tb) (Z9f rp ma mb):=by
 intro C H σ δ fp ex K Q R h k
 refine SE.two (K:=λx y δ2=>rp x.data y.data λd=>K d δ2) (Q:=λx y H2=>r x y H2 Q) ha hb hc R h λH' x y u v δ' fp' R' S q1 q2 h'=>?_
 exact P H' _ x y _ _ _ _ q1 q2 h' λH2 w o new s ow nd hn h''=>k H2 w o δ' fp' new (RE.tree R R' S s hn nd ow) h''
theorem Zl9{op:Operator}{r:R2}{rp}{pos:Pos}(ho:OpR X (Uh op) r)(P:P2s X.K r rp)(ha:ME X io p c a ma)(hb:ME X io p' c' b mb)(hc:p'=true∨c=true:=by first|exact QB rfl|exact Qw rfl):ME X io (p&&p') true (.BinOp a op b pos) (Zn6 rp ma mb):=by
 obtain⟨_,A,sa⟩:=ha
 obtain⟨_,B,sb⟩:=hb
 exact⟨_,Z15 ho A B,Z2z P sa sb hc⟩
theorem Z3r{op:Operator}{r:R2}{rp}{pos:Pos}(ho:OpR X (Uh op) r)(P:P2 X.K r rp)(ha:ME X io p c a ma)(hb:ME X io p' c' b mb)(hc:p'=true∨c=true:=by first|exact QB rfl|exact Qw rfl):ME X io (p&&p') (c&&c') (.BinOp a op b pos) (Z9f rp ma mb):=by
 obtain⟨_,A,sa⟩:=ha
 obtain⟨_,B,sb⟩:=hb
 exact⟨_,Z15 ho A B,Yco P sa sb hc⟩
theorem Zk6{op:CmpOp}{r:R2}{rp}{pos:Pos}(ho:OpR X (QX op) r)(P:P2s X.K r rp)(ha:ME X io p c a ma)(hb:ME X io p' c' b mb)(hc:p'=true∨c=true:=by first|exact QB rfl|exact Qw rfl)(hm:U7 op b=false):ME X io (p&&p') true (.Compare a [op] [b] pos) (Zn6 rp ma mb):=by
 obtain⟨_,A,sa⟩:=ha
 obtain⟨_,B,sb⟩:=hb
 exact⟨_,Z0w ho A B hm,Z2z P sa sb hc⟩
theorem Yax{r:R2}{rp}{pos:Pos}(ho:IxR X r)(P:P2 X.K r rp)(ha:ME X io p c a ma)(hb:ME X io p' c' b mb)(hc:p'=true∨c=true:=by first|exact QB rfl|exact Qw rfl)(hs:Zhz b):ME X io (p&&p') (c&&c') (.Subscript a b pos) (Z9f rp ma mb):=by
 obtain⟨_,A,sa⟩:=ha
 obtain⟨_,B,sb⟩:=hb
 exact⟨_,Z08 ho A B hs,Yco P sa sb hc⟩
noncomputable def kB(K:Bool->Zj->Prop):OT->Zj->Prop:=λo δ=>match o with| .fz (.bool b)=>K b δ|_=>False
theorem Z66{t:TE}(h:SE G io p c t m):STt G io p (Z1w t) (λδ K=>m δ (kB K)):=by
 intro C H σ δ fp ex K Q R h' k
 refine h C H σ δ fp ex _ _ R h' λH' v r δ' fp' new r1 h1=>?_
 cases r with
 | nd ts=>exact h1.elim
 | tp ts=>exact h1.elim
 | dc _ _ _=>exact h1.elim
 | fz d=>
  cases d with
  | bool b=>
   cases r1.own with
   | fz q=>
    cases q
    exact⟨b,rfl,k H' b δ' fp' r1.base r1.stp h1⟩
  | _=>exact h1.elim
theorem Zbp{op:CmpOp}{r:R2}{rp}{pos:Pos}(ho:OpR X (QX op) r)(P:P2s X.K r rp)(ha:ME X io p c a ma)(hb:ME X io p' c' b mb)(hc:p'=true∨c=true:=by first|exact QB rfl|exact Qw rfl)(hm:U7 op b=false) :
  MT X io (p&&p') (.Compare a [op] [b] pos) (λδ K=>Zn6 rp ma mb δ (kB K)):=by
 obtain⟨_,A,sa⟩:=ha
 obtain⟨_,B,sb⟩:=hb
 exact⟨_,Z26 ho A B hm,Z66 (Z2z P sa sb hc)⟩
end
variable {G:Xc}
section
variable {X:Cx}{io:List Nat}{p p' p'' c c':Bool}{e a b:Expr}{m ma mb:MEt}{es rest:List Expr}{ta tb:MTt}{pos:Pos}
noncomputable def Ycv(t:MTt):MTt:=λδ K=>t δ λb δ'=>K (!b) δ'
noncomputable def Ydn(t u:MTt):MTt:=λδ K=>t δ λb δ'=>if b=true then u δ' K else K false δ'
noncomputable def mOr(t u:MTt):MTt:=λδ K=>t δ λb δ'=>if b=true then K true δ' else u δ' K
theorem Z6f(h:MT X io p a ta):MT X io p (.UnaryOp .Not a pos) (Ycv ta):=by
 obtain⟨_,A,sa⟩:=h
 exact⟨_,Z6b A,λC H σ δ fp ex K Q R h k=>sa C H σ δ fp ex _ _ R h λH' b δ' fp' R' S h'=>k H' (!b) δ' fp' R' S h'⟩
theorem Zk8(h:MT X io p a ta):MW X io p (.BoolOp .And [a] pos) ta:=by
 obtain⟨_,A,sa⟩:=h
 exact⟨_,Z2m A,sa⟩
theorem Zcd(h:MT X io p a ta):MW X io p (.BoolOp .Or [a] pos) ta:=by
 obtain⟨_,A,sa⟩:=h
 exact⟨_,Z7w A,sa⟩
theorem Stp.andL{H H':Hp}{δ δ':Zj}{fp fp':Fp}(S:Stp p H δ fp H' δ' fp'):Stp (p&&p') H δ fp H' δ' fp':=by
 have:=S.trans (Stp.refl p' H' δ' fp')
 exact this
theorem Zpb(h:MT X io p a ta)(g:MW X io p' (.BoolOp .And (b :: rest) pos) tb):MW X io (p&&p') (.BoolOp .And (a :: b :: rest) pos) (Ydn ta tb):=by
 obtain⟨_,A,sa⟩:=h
 obtain⟨_,B,sb⟩:=g
 exact⟨_,Z7t A B,λC H σ δ fp ex K Q R h k=>sa C H σ δ fp ex _ _ R h λH' b δ' fp' R' S h'=>by
  cases b with
  | true=>
   rw[if_pos rfl]at h'⊢
   exact sb C H' σ δ' fp' ex _ _ R' h' λH2 b2 δ2 fp2 R2 S2 h2=>k H2 b2 δ2 fp2 R2 (S.trans S2) h2
  | false=>
   rw[if_neg Xp]at h'⊢
   exact k H' false δ' fp' R' S.andL h'⟩
theorem Zbh(h:MT X io p a ta)(g:MW X io p' (.BoolOp .Or (b :: rest) pos) tb):MW X io (p&&p') (.BoolOp .Or (a :: b :: rest) pos) (mOr ta tb):=by
 obtain⟨_,A,sa⟩:=h
 obtain⟨_,B,sb⟩:=g
 exact⟨_,Ybu A B,λC H σ δ fp ex K Q R h k=>sa C H σ δ fp ex _ _ R h λH' b δ' fp' R' S h'=>by
  cases b with
  | true=>
   rw[if_pos rfl]at h'⊢
   exact k H' true δ' fp' R' S.andL h'
  | false=>
   rw[if_neg Xp]at h'⊢
   exact sb C H' σ δ' fp' ex _ _ R' h' λH2 b2 δ2 fp2 R2 S2 h2=>k H2 b2 δ2 fp2 R2 (S.trans S2) h2⟩
theorem MW.mt(h:MW X io p e ta):MT X io p e ta:=by
 obtain⟨_,A,sa⟩:=h
 exact⟨_,A.pt,sa⟩
noncomputable def Zw9:Xa->Option Bool
 | .none=>some false
 | .bool b=>some b
 | .int i=>some (i !=0)
 | .list ds=>some (!ds.isEmpty)
 | .tuple ds=>some (!ds.isEmpty)
 | _=>none
noncomputable def Ydx(m:MEt):MTt:=λδ K=>m δ λr δ'=>match Zw9 r.data with|some b=>K b δ'|none=>False
theorem Das.isEmpty{H:Hp}{L:Addr->Prop}{xs:List V}{ds:List Xa}(h:Das G H L xs ds):xs.isEmpty=ds.isEmpty:=by cases h<;>rfl
theorem J3(ha:ME X io p c a ma)(he:∀whole,isTrue a X.env whole=(do let v←whole;standAt a.pos;holding [v] (truthy v))):MT X io p a (Ydx ma):=by
 obtain⟨_,A,sa⟩:=ha
 exact⟨_,Z2j rfl A he,λC H σ δ fp ex K' Q R h k=>sa C H σ δ fp ex _ _ R h λH' v r δ' fp' new r1 h1=>by
  have q:=r1.da R
  generalize r.data=d at q h1
  cases q with
  | non=>exact⟨_,rfl,k H' _ δ' fp' r1.base r1.stp h1⟩
  | bl b=>exact⟨_,rfl,k H' _ δ' fp' r1.base r1.stp h1⟩
  | int b=>exact⟨_,rfl,k H' _ δ' fp' r1.base r1.stp h1⟩
  | str x=>exact h1.elim
  | lst _ e q=>exact⟨_,.inl ⟨_,.inl e,rfl⟩,k H' _ δ' fp' r1.base r1.stp (by rw[q.isEmpty];exact h1)⟩
  | tup e q=>exact⟨_,.inr (.inl ⟨_,.inl (.inl e),rfl⟩),k H' _ δ' fp' r1.base r1.stp (by rw[q.isEmpty];exact h1)⟩
  | scr q=>exact⟨_,.inl ⟨_,q.sq,rfl⟩,k H' _ δ' fp' r1.base r1.stp (by simpa [Zw9]using h1)⟩
  | exc _ _ _=>exact h1.elim
  | fn _=>exact h1.elim
  | dic _ _ _ _=>exact h1.elim⟩
noncomputable def asB(d:Xa)(k:Bool->Prop):Prop:=match d with| .bool b=>k b|_=>False
noncomputable def Z67(a b:MEt):MEt:=λδ K=>a δ λx δ1=>asB x.data λc=>if c=true then b δ1 K else K (.fz (.bool false)) δ1
noncomputable def Z5l(a:MEt):MEt:=λδ K=>a δ λx δ1=>asB x.data λc=>K (.fz (.bool (!c))) δ1
noncomputable def mIf(t:MTt)(a b:MEt):MEt:=λδ K=>t δ λc δ1=>if c=true then a δ1 K else b δ1 K
theorem Da.boolInv{H:Hp}{L:Addr->Prop}{v:V}{d:Xa}{k:Bool->Prop}(q:Da G H L v d)(h:asB d k):∃b,v= .bl b∧k b:=by
 cases q with
 | bl b=>exact⟨b,rfl,h⟩
 | _=>exact h.elim
theorem RE.step{C:MC G}{H H1 H2:Hp}{σ:St}{δ δ1 δ2:Zj}{fp fp1 fp2:Fp}{ex:Addr->Prop}{v:V}{r:OT}{new:List Addr}(S:Stp p H δ fp H1 δ1 fp1)(R:RE C io p' c H1 σ δ1 fp1 ex H2 v r δ2 fp2 new) :
  RE C io (p&&p') c H σ δ fp ex H2 v r δ2 fp2 new:=⟨R.rel,S.trans R.stp,R.own,R.nd,λa m=>S.al a (R.fresh a m)⟩
theorem Zwb{op}(h:ME X io p c a ma):ME X io p c (.BoolOp op [a] pos) ma:=by
 obtain⟨_,A,sa⟩:=h
 exact⟨_,Z4u A,sa⟩
theorem Zxm(ha:ME X io p c a ma)(hb:ME X io p' c' (.BoolOp .And (b :: rest) pos) mb):ME X io (p&&p') c' (.BoolOp .And (a :: b :: rest) pos) (Z67 ma mb):=by
 obtain⟨_,A,sa⟩:=ha
 obtain⟨_,B,sb⟩:=hb
 exact⟨_,Z75 A B,λC H σ δ fp ex K Q R h k=>sa C H σ δ fp ex _ _ R h λH' v r δ' fp' new r1 h1=>by
  obtain⟨b,rfl,h1⟩:=(r1.da R).boolInv h1
  refine⟨b,rfl,?_⟩
  cases b with
  | true=>
   rw[if_pos rfl]at h1⊢
   exact sb C H' σ δ' fp' ex _ _ r1.base h1 λH2 w r2 δ2 fp2 new2 R2 h2=>k H2 w r2 δ2 fp2 new2 (R2.step r1.stp) h2
  | false=>
   rw[if_neg Xp]at h1⊢
   exact k H' _ _ δ' fp' [] (RE.fz r1.base r1.stp.andL (.bl false)) h1⟩
theorem Ybd(ha:ME X io p c a ma):ME X io p true (.UnaryOp .Not a pos) (Z5l ma):=by
 obtain⟨_,A,sa⟩:=ha
 exact⟨_,Z59 A,λC H σ δ fp ex K Q R h k=>sa C H σ δ fp ex _ _ R h λH' v r δ' fp' new r1 h1=>by
  obtain⟨b,rfl,h1⟩:=(r1.da R).boolInv h1
  exact⟨b,rfl,k H' _ _ δ' fp' [] (RE.fz r1.base r1.stp (.bl _)) h1⟩⟩
theorem Stp.cast{p p':Bool}{H H':Hp}{δ δ':Zj}{fp fp':Fp}(h:p'=true->p=true)(S:Stp p H δ fp H' δ' fp'):Stp p' H δ fp H' δ' fp' :=
 ⟨λb o e q=>S.keep b o e (q.imp h id),λq=>S.env (h q),S.grow,S.al⟩
theorem RE.cast{C:MC G}{H H1:Hp}{σ:St}{δ δ1:Zj}{fp fp1:Fp}{ex:Addr->Prop}{v:V}{r:OT}{new:List Addr}(hp:p'=true->p=true)(hc:c'=true->c=true)(R:RE C io p c H σ δ fp ex H1 v r δ1 fp1 new) :
  RE C io p' c' H σ δ fp ex H1 v r δ1 fp1 new:=⟨R.rel,R.stp.cast hp,R.own.wide λa l _ z=>l (hc z),R.nd,R.fresh⟩
theorem Yeu{t:Expr}(ht:MT X io p t ta)(ha:ME X io p' c a ma)(hb:ME X io p'' c' b mb):ME X io (p&&(p'&&p'')) (c&&c') (.IfExp t a b pos) (mIf ta ma mb):=by
 obtain⟨_,T,st⟩:=ht
 obtain⟨_,A,sa⟩:=ha
 obtain⟨_,B,sb⟩:=hb
 exact⟨_,Zwm T A B,λC H σ δ fp ex K Q R h k=>st C H σ δ fp ex _ _ R h λH' b δ' fp' R' S h'=>by
  cases b with
  | true=>
   rw[if_pos rfl]at h'⊢
   exact sa C H' σ δ' fp' ex _ _ R' h' λH2 w r2 δ2 fp2 new2 R2 h2=>k H2 w r2 δ2 fp2 new2 ((R2.step S).cast (λz=>by simp at z;simp[z]) (λz=>by simp at z;exact z.1)) h2
  | false=>
   rw[if_neg Xp]at h'⊢
   exact sb C H' σ δ' fp' ex _ _ R' h' λH2 w r2 δ2 fp2 new2 R2 h2=>k H2 w r2 δ2 fp2 new2 ((R2.step S).cast (λz=>by simp at z;simp[z]) (λz=>by simp at z;exact z.2)) h2⟩
end
section
variable {X:Cx}{io:List Nat}{p p' p'' c c':Bool}{e a b:Expr}{m ma mb:MEt}{es rest:List Expr}{mr:MAt}{pos:Pos}
noncomputable def Yda:MAt:=λδ K=>K [] δ
noncomputable def Z5n(m:MEt)(mr:MAt):MAt:=λδ K=>m δ λr δ1=>mr δ1 λrs δ2=>K (r :: rs) δ2
theorem Zej:MA X io true true [] Yda:=⟨_,Zen,λC H σ δ fp ex K Q R h k=>k H [] [] δ fp [] ⟨R.drop λa z=>Zdj.mp z,.refl _ _ _ _,.nil,.nil,λa m=>nomatch m⟩ h⟩
theorem Z21(ha:ME X io p c e m)(hr:MA X io p' c' es mr)(hc:p'=true∨c=true)(hs:Xo (e :: es) X.env=(false,eval e X.env) :: Xo es X.env:=by rfl):MA X io (p&&p') (c&&c') (e :: es) (Z5n m mr):=by
 obtain⟨tA,A,sa⟩:=ha
 obtain⟨tB,B,sb⟩:=hr
 refine⟨_,Za5 A B hs,λC H σ δ fp ex K Q R h k=>?_⟩
 refine sa C H σ δ fp ex _ _ R h λH1 x u δ1 fp1 new1 r1 h1=>?_
 refine sb C H1 σ δ1 fp1 (exu ex new1) _ _ r1.rel h1 λH2 ys us δ2 fp2 new2 r2 h2=>?_
 have o1:=r1.rel.own_step (ex':=exu (exu ex new1) new2) r2.stp (c:=c) hc (λa z=>z.imp id λz=>r2.fresh a z) (λa m=>.inr m) r1.own
 have eqx:∀a,exu ex (new1 ++ new2) a->exu (exu ex new1) new2 a:=λa z=>by
  rcases z with z|z
  ·exact .inl (.inl z)
  ·rcases QJ.mp z with z|z
   ·exact .inl (.inr z)
   ·exact .inr z
 refine k H2 (x :: ys) (u :: us) δ2 fp2 (new1 ++ new2) ⟨r2.rel.drop eqx,r1.stp.trans r2.stp,.cons (o1.wide λa l _ z=>?_) (r2.own.wide λa l _ z=>?_),?_,?_⟩ h2
 ·have l:=l (by rw[XD]at z;exact z.1)
  exact⟨l.1,λw=>l.2.1 (eqx a w),l.2.2⟩
 ·have l:=l (by rw[XD]at z;exact z.2)
  exact⟨l.1,λw=>l.2.1 (eqx a w),l.2.2⟩
 ·refine Vh.mpr ⟨r1.nd,r2.nd,λa m b m' z=>?_⟩
  subst z
  obtain⟨xs,e⟩:=r1.own.some a m
  rw[r2.fresh a m']at e
  cases e
 ·intro a m
  rcases QJ.mp m with m|m
  ·exact r1.fresh a m
  ·exact r1.stp.al a (r2.fresh a m)
noncomputable def Yec(m:MAt):MEt:=λδ K=>m δ λrs δ'=>rs.length≤Xy∧K (.fz (.tuple (OT.datas rs))) δ'
noncomputable def Yed(m:MAt):MEt:=λδ K=>m δ λrs δ'=>rs.length≤Xy∧K (.nd rs) δ'
theorem Z94{x1}(h:MA X io p c es mr):ME X io p c (.Tuple es x1 pos) (Yec mr):=by
 obtain⟨tA,A,sa⟩:=h
 refine⟨_,Z5e A,λC H σ δ fp ex K Q R h k=>?_⟩
 refine sa C H σ δ fp ex _ _ R h λH1 vs rs δ1 fp1 new1 r1 h1=>⟨by rw[r1.own.length];exact h1.1,λq hq=>?_⟩
 have s:=Yo hq (.tup vs)
 have R1:=r1.base
 have S:=r1.stp.trans (p':=true) (Stp.same (p:=true) (δ:=δ1) (fp:=fp1) s s.al)
 rw[Bool.and_true]at S
 refine k _ _ _ δ1 fp1 [] (.fz ?_ S (.tup Yh ((r1.das R).same s))) h1.2
 exact(R1.made (new:=[]) s λa m=>nomatch m).drop λa z=>.inl z
theorem Z28(h:MA X io p c es mr):ME X io p c (.List es pos) (Yed mr):=by
 obtain⟨tA,A,sa⟩:=h
 refine⟨_,Zy6 A,λC H σ δ fp ex K Q R h k=>?_⟩
 refine sa C H σ δ fp ex _ _ R h λH1 vs rs δ1 fp1 new1 r1 h1=>⟨by rw[r1.own.length];exact h1.1,λq hq=>?_⟩
 have s:=Yo hq (.lst vs)
 have S:=r1.stp.trans (p':=true) (Stp.same (p:=true) (δ:=δ1) (fp:=fp1) s s.al)
 rw[Bool.and_true]at S
 have hqn:q∉new1:=λm=>by
  obtain⟨xs,e⟩:=r1.own.some q m
  rw[hq]at e;cases e
 have R2:=(r1.rel.made (new:=[q]) s λa m=>by
  rcases Xu.mp m with rfl
  exact⟨hq,by rw[Yh];intro z;cases z⟩)
 have eqx:∀a,exu ex (q :: new1) a->exu (exu ex new1) [q] a:=λa z=>by
  rcases z with z|z
  ·exact .inl (.inl z)
  ·rcases Xr.mp z with z|z
   ·exact .inr (Xu.mpr z)
   ·exact .inl (.inr z)
 refine k _ _ _ δ1 fp1 (q :: new1) ⟨R2.drop eqx,S,.nd Yh ((r1.own.wide λa l w z=>?_).same s),Qm.mpr ⟨hqn,r1.nd⟩,λa m=>?_⟩ h1.2
 ·have l:=l z
  refine⟨l.1,λy=>?_,l.2.2⟩
  rcases eqx a y with y|y
  ·exact l.2.1 y
  ·rcases Xu.mp y with rfl
   exact w hq
 ·rcases Xr.mp m with rfl|m
  ·exact r1.stp.al _ hq
  ·exact r1.fresh a m
end
variable {G:Xc}
noncomputable def spD(G:Xc)(S:List Xa->(OT->Prop)->Prop):Sp:=λvs H Q _=>∃L ds k,Das G H L vs ds∧S ds k∧
 ∀r v H' new,k r->Same H H'->Own G H' (λa=>(L a∨H a=none)∧a∉new) v r new->new.Nodup->(∀a∈new,H a=none)->Q v H'
section
variable {X:Cx}{io:List Nat}{p p' p'' c c':Bool}{e a b:Expr}{m ma mb:MEt}{es rest:List Expr}{mr:MAt}{pos:Pos}
variable {CX:CXT}{k:Nat}{f:Addr}{fd:XQ}{ps:List Str}{E:XK}{x:Str}{pp:Pos}
noncomputable def Z3v(S:List Xa->(OT->Prop)->Prop)(mr:MAt):MEt:=λδ K=>mr δ λrs δ1=>S (OT.datas rs) λr=>K r δ1
theorem Yao{S}{t:TA}(sa:SA G io p c t mr):SE G io p c (Z5w (spD G S) [] E t) (Z3v S mr):=by
 intro C H σ δ fp ex K Q R h kk
 refine sa C H σ δ fp ex _ _ R h λH1 vs rs δ1 fp1 new1 r1 h1=>?_
 rw[Q4]
 refine⟨_,_,_,r1.das R,h1,λr v H' new kr s o nd hn=>?_⟩
 exact kk H' v r δ1 fp1 new (RE.tree R r1.base r1.stp s hn nd o) kr
theorem Zqa{S}(F:FnOk X.prog X.w X.K X.mg X.base CX k f fd ps (spD X.K S))(hr:Room k X.A)(hg:Gl X x)(hm:X.mg x=some (.ref f))(hk:Vz X.K (.ref f)=true)(hb:Binds X.K fd ps [])(hx:Zo3 CX X E)
  (ha:MA X io p c (e :: es) mr) (hdb:(x==("__debug__" : Str))=false:=by decide) (he:Xo (e :: es) X.env=(false,eval e X.env) :: Xo es X.env:=by rfl) (hpl:(JF pos (Xo es X.env)).any (·.1)=false:=by rfl) :
  ME X io p c (.Call (.Name x pp) (e :: es) [] pos) (Z3v S mr):=by
 obtain⟨_,A,sa⟩:=ha
 exact⟨_,Z3b F hr hg hm hk hb .nil hx A hdb he hpl,Yao sa⟩
noncomputable def fpu(fp:Fp)(i:Nat)(as:List Addr):Fp:=λj=>if j=i then as else fp j
theorem Ys{fp:Fp}{i:Nat}{as:List Addr}:fpu fp i as i=as:=if_pos rfl
theorem Wu{fp:Fp}{i j:Nat}{as:List Addr}(h:j≠i):fpu fp i as j=fp j:=if_neg h
theorem Foot.of_u{fp:Fp}{i:Nat}{as:List Addr}{a:Addr}(h:Foot (fpu fp i as) a):a∈as∨∃j,j≠i∧a∈fp j:=by
 obtain⟨j,h⟩:=h
 by_cases e:j=i
 ·subst e;rw[Ys]at h;exact .inl h
 ·rw[Wu e]at h;exact .inr ⟨j,e,h⟩
theorem Rel.change{C:MC G}{H H':Hp}{σ:St}{δ:Zj}{fp:Fp}{ex:Addr->Prop}{i:Nat}{t t':OT}{v:V}{as' new:List Addr}(R:Rel C io H σ δ fp ex)(hi:δ[i]? =some (some t))(hv:σ[i]? =some (some v))
  (keep:∀b o,H b=some o->b∉fp i->H' b=some o) (al:∀b,H' b=none->H b=none) (o:Own G H' (Lf C (fpu fp i as') (exu ex new)) v t' as') (nd:as'.Nodup) (new':∀a∈as',a∈fp i∨H a=none)
  (hn:∀a∈new,H a=none∧H' a≠none∧a∉as') :
  Rel C io H' σ (δ.set i (some t')) (fpu fp i as') (exu ex new)∧Stp false H δ fp H' (δ.set i (some t')) (fpu fp i as'):=by
 have hil:i<δ.length:=(Xm.mp hi).1
 have apart:∀j a,j≠i->a∈fp j->a∉as':=λj a e m z=>by
  rcases new' a z with z|z
  ·exact e (R.dj j i a m z)
  ·exact R.footSome z ⟨j,m⟩
 constructor
 ·refine⟨by rw[Ve];exact R.len,λj t'' e=>?_,λj h=>?_,λj=>?_,λj k a h1 h2=>?_,λj a h z=>?_,λa z w=>z.elim (λz=>R.xa a z (al a w)) (λz=>(hn a z).2.1 w),λb ob e n=>?_,λb z=>R.al b (al b z),λj a h=>?_,R.io⟩
  ·by_cases ej:j=i
   ·subst ej
    rw[Q0 hil]at e
    cases e
    exact⟨v,hv,by rw[Ys];exact o⟩
   ·rw[QF (Vt ej)]at e
    obtain⟨w,e1,o1⟩:=R.own j t'' e
    refine⟨w,e1,?_⟩
    rw[Wu ej]
    refine o1.frame (λa xs l q=>?_) (λa xs q=>keep a _ q λz=>?_) λa m xs q=>keep a _ q λz=>ej (R.dj j i a m z)
    ·have na:a∉fp i:=λz=>l.1 ⟨i,z⟩
     refine⟨⟨λz=>?_,λz=>z.elim l.2.1 λz=>q.some (hn a z).1,l.2.2⟩,?_⟩
     ·rcases z.of_u with z|⟨k,_,z⟩
      ·rcases new' a z with z|z
       ·exact na z
       ·exact q.some z
      ·exact l.1 ⟨k,z⟩
     ·rcases q with q|⟨u,q⟩
      ·exact .inl (keep a _ q na)
      ·exact .inr ⟨u,keep a _ q na⟩
    ·obtain⟨ys,e⟩:=R.foot ⟨i,z⟩
     exact ImO.nm q e
  ·by_cases ej:j=i
   ·subst ej
    exact absurd (Q0 hil) (h t')
   ·rw[Wu ej]
    refine R.emp j λt'' z=>h t'' ?_
    rw[QF (Vt ej)]
    exact z
  ·by_cases ej:j=i
   ·subst ej;rw[Ys];exact nd
   ·rw[Wu ej];exact R.nd j
  ·by_cases ej:j=i
   ·subst ej
    rw[Ys]at h1
    by_cases ek:k=j
    ·exact ek.symm
    ·rw[Wu ek]at h2
     exact absurd h1 (apart k a ek h2)
   ·rw[Wu ej]at h1
    by_cases ek:k=i
    ·subst ek
     rw[Ys]at h2
     exact absurd h2 (apart j a ej h1)
    ·rw[Wu ek]at h2
     exact R.dj j k a h1 h2
  ·by_cases ej:j=i
   ·subst ej
    rw[Ys]at h
    rcases z with z|z
    ·rcases new' a h with w|w
     ·exact R.dx _ a w z
     ·exact R.xa a z w
    ·exact(hn a z).2.2 h
   ·rw[Wu ej]at h
    rcases z with z|z
    ·exact R.dx j a h z
    ·exact R.footSome (hn a z).1 ⟨j,h⟩
  ·refine keep b ob (R.fr b ob e n) λz=>?_
   rcases R.new i b z with w|w
   ·exact n w.2
   ·rw[e]at w;cases w
  ·by_cases ej:j=i
   ·subst ej
    rw[Ys]at h
    rcases new' a h with w|w
    ·exact R.new _ a w
    ·exact .inr (R.al a w)
   ·rw[Wu ej]at h
    exact R.new j a h
 ·refine⟨λb ob e q=>keep b ob e λz=>(q.resolve_left (by decide)) ⟨i,z⟩,λz=>(nomatch z),λa z=>?_,al⟩
  rcases z.of_u with z|⟨j,_,z⟩
  ·exact(new' a z).imp (λw=>⟨i,w⟩) id
  ·exact .inl ⟨j,z⟩
noncomputable def PNs(G:Xc)(r:List V->Hp->VK->Prop)(rp:List Xa->(Xa->Prop)->Prop):Prop:=∀(H:Hp) (L:Addr->Prop) (xs:List V) (ds:List Xa) (k:Xa->Prop) (Q:VK),Das G H L xs ds->rp ds k->(∀v d',ScD v d'->k d'->Q v H)->r xs H Q
noncomputable def PN(G:Xc)(r:List V->Hp->VK->Prop)(rp:List Xa->(OT->Prop)->Prop):Prop:=∀(H:Hp) (L:Addr->Prop) (xs:List V) (ds:List Xa) (k:OT->Prop) (Q:VK),Das G H L xs ds->rp ds k ->
 (∀ H' v o new,Same H H'->Own G H' (λa=>(L a∨H a=none)∧a∉new) v o new->new.Nodup->(∀a∈new,H a=none)->k o->Q v H')->r xs H Q
noncomputable def Z93(rp:List Xa->(Xa->Prop)->Prop)(mr:MAt):MEt:=λδ K=>mr δ λrs δ1=>rp (OT.datas rs) λd=>K (.fz d) δ1
noncomputable def mBl(rp:List Xa->(OT->Prop)->Prop)(mr:MAt):MEt:=λδ K=>mr δ λrs δ1=>rp (OT.datas rs) λo=>K o δ1
theorem Yfg{r rp}{t:TA}(P:PNs G r rp)(sa:SA G io p c t mr):SE G io p true (tCB r t) (Z93 rp mr):=λC H σ δ fp ex K Q R h kk=>
 sa C H σ δ fp ex _ _ R h λH1 vs rs δ1 fp1 new1 r1 h1=>P H1 _ vs _ _ _ (r1.das R) h1 λv d' sc h2=>kk H1 v _ δ1 fp1 [] (.fz r1.base r1.stp sc.da) h2
theorem sBl{r rp}{t:TA}(P:PN G r rp)(sa:SA G io p c t mr):SE G io p c (tCB r t) (mBl rp mr):=λC H σ δ fp ex K Q R h kk=>
 sa C H σ δ fp ex _ _ R h λH1 vs rs δ1 fp1 new1 r1 h1=>P H1 _ vs _ _ _ (r1.das R) h1 λH' v o new s ow nd hn h2=>kk H' v o δ1 fp1 new (RE.tree R r1.base r1.stp s hn nd ow) h2
variable {id T:String}{r:List V->Hp->VK->Prop}
theorem Zi9{rp}(P:PNs X.K r rp)(hc:Zdt X (.builtin id) r)(hg:Gl X x)(hm:X.mg x=none)(hv:Qh x=some (.builtin id))(ha:MA X io p c (e :: es) mr)(hn:x≠"__name__" :=by decide)(hdb:(x==("__debug__" : Str))=false:=by decide)
  (he:Xo (e :: es) X.env=(false,eval e X.env) :: Xo es X.env:=by rfl) (hpl:(JF pos (Xo es X.env)).any (·.1)=false:=by rfl):ME X io p true (.Call (.Name x pp) (e :: es) [] pos) (Z93 rp mr):=by
 obtain⟨_,A,sa⟩:=ha
 exact⟨_,Zlg hc hg hm hv A hn hdb he hpl,Yfg P sa⟩
theorem Z38{rp}(P:PN X.K r rp)(hc:Zdt X (.builtin id) r)(hg:Gl X x)(hm:X.mg x=none)(hv:Qh x=some (.builtin id))(ha:MA X io p c (e :: es) mr)(hn:x≠"__name__" :=by decide)(hdb:(x==("__debug__" : Str))=false:=by decide)
  (he:Xo (e :: es) X.env=(false,eval e X.env) :: Xo es X.env:=by rfl) (hpl:(JF pos (Xo es X.env)).any (·.1)=false:=by rfl):ME X io p c (.Call (.Name x pp) (e :: es) [] pos) (mBl rp mr):=by
 obtain⟨_,A,sa⟩:=ha
 exact⟨_,Zlg hc hg hm hv A hn hdb he hpl,sBl P sa⟩
end
variable {G:Xc}
mutual
noncomputable def Zbw:Xa->Bool
 | .none=>true
 | .bool _=>true
 | .int _=>true
 | .str _=>true
 | .tuple ds=>Zmg ds
 | .list _=>false
 | .dict _=>false
noncomputable def Zmg:List Xa->Bool
 | []=>true
 | d :: ds=>Zbw d&&Zmg ds
end
theorem Da.flat2{H:Hp}{L L':Addr->Prop}:(∀{v:V} {d:Xa},Da G H L v d->Zbw d=true->Da G H L' v d)∧∀{v:List V} {d:List Xa},Das G H L v d->Zmg d=true->Das G H L' v d :=
 Da.both (λ_=>.non) (λb _=>.bl b) (λi _=>.int i) (λx _=>.str x) (λ_ _ _ h=>by rw[Zbw]at h;cases h) (λe r h=>.tup e (r (by rw[Zbw]at h;exact h))) (λk _=>.scr k) (λc n e _=>.exc c n e) (λk _=>.fn k) (λ_ _ _ _ h=>by rw[dcD,Zbw]at h;cases h) (λ_=>.nil)
  (λk r h=>by rw[Zmg,XD]at h;exact .cons (k h.1) (r h.2))
theorem Da.flat{H:Hp}{L L':Addr->Prop}{v:V}{d:Xa}(h:Da G H L v d)(f:Zbw d=true):Da G H L' v d:=Da.flat2.1 h f
set_option genInjectivity false in
structure Zi0 where
 nx:Zj->Prop
 rt:OT->Zj->Prop
 bk:Zj->Prop:=λ_=>False
 ct:Zj->Prop:=λ_=>False
noncomputable abbrev MSt:=Zi0->Zj->Prop
noncomputable abbrev Kp(H:Hp)(fp:Fp)(H':Hp)(fp':Fp):Prop:=Stp false H [] fp H' [] fp'
theorem Stp.kp{p:Bool}{H H':Hp}{δ δ':Zj}{fp fp':Fp}(S:Stp p H δ fp H' δ' fp'):Kp H fp H' fp':=⟨λb o e q=>S.keep b o e (.inr (q.resolve_left (by decide))),λz=>(nomatch z),S.grow,S.al⟩
theorem Kp.trans{H H1 H2:Hp}{fp fp1 fp2:Fp}(a:Kp H fp H1 fp1)(b:Kp H1 fp1 H2 fp2):Kp H fp H2 fp2:=Stp.trans a b
theorem Kp.refl(H:Hp)(fp:Fp):Kp H fp H fp:=Stp.refl _ _ _ _
structure RelEnds(C:MC G)(io:List Nat)(ex:Addr->Prop)(H:Hp)(fp:Fp)(D:Zi0)(D':Ends):Prop where
 nx:∀H' σ' δ' fp',Rel C io H' σ' δ' fp' ex->Kp H fp H' fp'->D.nx δ'->D'.nx σ' H'
 bk:∀H' σ' δ' fp',Rel C io H' σ' δ' fp' ex->Kp H fp H' fp'->D.bk δ'->D'.bk σ' H'
 ct:∀H' σ' δ' fp',Rel C io H' σ' δ' fp' ex->Kp H fp H' fp'->D.ct δ'->D'.ct σ' H'
 rt:∀H' σ' v r δ' fp' new,Rel C io H' σ' δ' fp' (exu ex new)->Own G H' (Lf C fp' (exu ex new)) v r new->new.Nodup->(∀a∈new,C.H₀ a=none)->D.rt r δ'->D'.rt v H'
theorem RelEnds.shift{C:MC G}{io:List Nat}{ex:Addr->Prop}{H H1:Hp}{fp fp1:Fp}{D:Zi0}{D':Ends}(E:RelEnds C io ex H fp D D')(k:Kp H fp H1 fp1):RelEnds C io ex H1 fp1 D D' :=
 ⟨λH' σ' δ' fp' R q=>E.nx H' σ' δ' fp' R (k.trans q),λH' σ' δ' fp' R q=>E.bk H' σ' δ' fp' R (k.trans q),λH' σ' δ' fp' R q=>E.ct H' σ' δ' fp' R (k.trans q),E.rt⟩
noncomputable def SS(G:Xc)(io:List Nat)(t:TS)(m:MSt):Prop:=∀(C:MC G) (H:Hp) (σ:St) (δ:Zj) (fp:Fp) (ex:Addr->Prop) (D:Zi0) (D':Ends),Rel C io H σ δ fp ex->m D δ->RelEnds C io ex H fp D D'->t D' σ H
noncomputable def MS(X:Cx)(io:List Nat)(st:Stmt)(m:MSt):Prop:=∃t,PS X st t∧SS X.K io t m
noncomputable def MSs(X:Cx)(io:List Nat)(st:List Stmt)(m:MSt):Prop:=∃t,PSs X st t∧SS X.K io t m
section
variable {X:Cx}{io:List Nat}{p p' p'' c c':Bool}{e a b:Expr}{m ma mb:MEt}{es rest:List Expr}{mr:MAt}{pos:Pos}{st:Stmt}{sts:List Stmt}{u w:MSt}{mt:MTt}
noncomputable def Z76:MSt:=λD δ=>D.nx δ
noncomputable def Yfw(w:MSt)(D:Zi0)(δ:Zj):Prop:=w D δ
noncomputable def Z9q(u w:MSt):MSt:=λD δ=>u { D with nx:=Yfw w D } δ
theorem Zlq:MSs X io [] Z76:=⟨_,Z0g,λC H σ δ fp ex D D' R h E=>E.nx H σ δ fp R (.refl _ _) h⟩
theorem Zh(h:MS X io st u):MSs X io [st] u:=by
 obtain⟨_,A,s⟩:=h
 exact⟨_,Z3o A,s⟩
theorem Zft(h:MS X io st u)(g:MSs X io sts w):MSs X io (st :: sts) (Z9q u w):=by
 obtain⟨_,A,s⟩:=h
 obtain⟨tb,B,s'⟩:=g
 exact⟨_,Zwf A B,λC H σ δ fp ex D D' R h E=>s C H σ δ fp ex _ _ R h ⟨λH1 σ1 δ1 fp1 R1 k1 h1=>s' C H1 σ1 δ1 fp1 ex D D' R1 h1 (E.shift k1),E.bk,E.ct,E.rt⟩⟩
noncomputable def Z52:MSt:=λ_ _=>False
theorem Zxe:MS X io st Z52:=⟨_,Zw1,λC H σ δ fp ex D D' R h E=>h.elim⟩
noncomputable def Z5u(m:MEt):MSt:=λD δ=>m δ λ_ δ'=>D.nx δ'
theorem Znz(he:ME X io p c e m)(hs:VL e none pos.line X.env=pure false:=by rfl):MS X io (.Expr e pos) (Z5u m):=by
 obtain⟨_,A,s⟩:=he
 exact⟨_,Zoe A hs,λC H σ δ fp ex D D' R h E=>s C H σ δ fp ex _ _ R h λH' v r δ' fp' new r1 h1=>E.nx H' σ δ' fp' r1.base r1.stp.kp h1⟩
noncomputable def Yej(m:MEt):MSt:=λD δ=>m δ λr δ'=>D.rt r δ'
theorem Zpy(he:ME X io p true e m):MS X io (.Return (some e) pos) (Yej m):=by
 obtain⟨_,A,s⟩:=he
 exact⟨_,Zy7 A,λC H σ δ fp ex D D' R h E=>s C H σ δ fp ex _ _ R h λH' v r δ' fp' new r1 h1=>E.rt H' σ v r δ' fp' new r1.rel (r1.own.wide λa l _=>l rfl) r1.nd (λa m=>(R.newOk (r1.fresh a m)).2.2) h1⟩
noncomputable def Zyf(i:Nat):MSt:=λD δ=>match δ[i]? with|some (some t)=>D.rt t (δ.set i none)|_=>False
theorem Rel.take{C:MC G}{H:Hp}{σ:St}{δ:Zj}{fp:Fp}{ex:Addr->Prop}{i:Nat}{t:OT}(R:Rel C io H σ δ fp ex)(hi:δ[i]? =some (some t)):Rel C io H σ (δ.set i none) (fpu fp i []) (exu ex (fp i)):=by
 have hil:i<δ.length:=(Xm.mp hi).1
 have get:∀j (t':OT),(δ.set i none)[j]? =some (some t')->j≠i∧δ[j]? =some (some t'):=λj t' e=>by
  by_cases ej:j=i
  ·subst ej;rw[Q0 hil]at e;cases e
  ·rw[QF (Vt ej)]at e;exact⟨ej,e⟩
 have sub:∀j a,a∈fpu fp i [] j->j≠i∧a∈fp j:=λj a m=>by
  by_cases ej:j=i
  ·subst ej;rw[Ys]at m;exact nomatch m
  ·rw[Wu ej]at m;exact⟨ej,m⟩
 have lw:∀a,Lf C fp ex a->Lf C (fpu fp i []) (exu ex (fp i)) a:=λa l=>⟨λ⟨j,z⟩=>l.1 ⟨j,(sub j a z).2⟩,λz=>z.elim l.2.1 λz=>l.1 ⟨i,z⟩,l.2.2⟩
 refine⟨by rw[Ve];exact R.len,λj t' e=>?_,λj h=>?_,λj=>?_,λj k a h1 h2=>R.dj j k a (sub j a h1).2 (sub k a h2).2,λj a h z=>?_,λa z w=>?_,R.fr,R.al,λj a h=>R.new j a (sub j a h).2,R.io⟩
 ·obtain⟨ej,e⟩:=get j t' e
  obtain⟨w,e1,o⟩:=R.own j t' e
  exact⟨w,e1,by rw[Wu ej];exact o.wide λa l _=>lw a l⟩
 ·by_cases ej:j=i
  ·subst ej;rw[Ys]
  ·rw[Wu ej]
   exact R.emp j λt' z=>h t' (by rw[QF (Vt ej)];exact z)
 ·by_cases ej:j=i
  ·subst ej;rw[Ys];exact .nil
  ·rw[Wu ej];exact R.nd j
 ·obtain⟨ej,h⟩:=sub j a h
  rcases z with z|z
  ·exact R.dx j a h z
  ·exact ej (R.dj j i a h z)
 ·rcases z with z|z
  ·exact R.xa a z w
  ·exact R.footSome w ⟨i,z⟩
theorem Zcs(i:Nat){x:Str}{px:Pos}(hio:i∉io:=by decide)(hN:X.N[i]? =some x:=by rfl)(hv:Vis X.env.scope x:=by first|exact QB rfl|exact Qw (QB rfl)|exact Qw (Qw rfl))(hd:(x==("__debug__" : Str))=false:=by decide)
  (hcd:(x==("__classdict__" : Str))=false:=by decide):MS X io (.Return (some (.Name x px)) pos) (Zyf i):=by
 refine⟨_,Zy7 (pv i hN hv hd hcd),λC H σ δ fp ex D D' R h E=>?_⟩
 unfold Zyf at h
 split at h
 case h_2=>exact h.elim
 rename_i t hi
 obtain⟨v,e,o⟩:=R.own i t hi
 have lw:∀a,Lf C fp ex a->H a≠none->Lf C (fpu fp i []) (exu ex (fp i)) a:=λa l _=>⟨λz=>by
  rcases z.of_u with z|⟨j,_,z⟩
  ·exact nomatch z
  ·exact l.1 ⟨j,z⟩,λz=>z.elim l.2.1 λz=>l.1 ⟨i,z⟩,l.2.2⟩
 have hn:∀a∈fp i,C.H₀ a=none:=λa m=>by
  rcases R.new i a m with z|z
  ·exact absurd z.1 hio
  ·exact z
 exact⟨v,e,E.rt H σ v t _ _ (fp i) (R.take hi) (o.wide lw) (R.nd i) hn h⟩
noncomputable def Yel(t:MTt)(u w:MSt):MSt:=λD δ=>t δ λb δ'=>if b=true then u D δ' else w D δ'
theorem Zwt{cnd:Expr}{ss ss':List Stmt}(hc:MT X io p cnd mt)(ha:MSs X io ss u)(hb:MSs X io ss' w):MS X io (.If cnd ss ss' pos) (Yel mt u w):=by
 obtain⟨_,T,s⟩:=hc
 obtain⟨_,A,sa⟩:=ha
 obtain⟨_,B,sb⟩:=hb
 exact⟨_,Ya3 T A B,λC H σ δ fp ex D D' R h E=>s C H σ δ fp ex _ _ R h λH' b δ' fp' R' S h'=>by
  cases b with
  | true=>
   rw[if_pos rfl]at h'⊢
   exact sa C H' σ δ' fp' ex D D' R' h' (E.shift S.kp)
  | false=>
   rw[if_neg Xp]at h'⊢
   exact sb C H' σ δ' fp' ex D D' R' h' (E.shift S.kp)⟩
theorem Rel.put{C:MC G}{H:Hp}{σ:St}{δ:Zj}{fp:Fp}{ex:Addr->Prop}{i:Nat}{v:V}{r:OT}{new:List Addr}(R:Rel C io H σ δ fp (exu ex new))(hio:i∉io)(o:Own G H (Lf C fp (exu ex new)) v r new)(nd:new.Nodup)
  (hn:∀a∈new,C.H₀ a=none∧¬ex a):∃fp',Rel C io H (σ.set i (some v)) (δ.set i (some r)) fp' ex∧∀a,Foot fp' a->Foot fp a∨a∈new:=by
 by_cases hil:i<δ.length
 case neg=>
  refine⟨fp,?_,λa h=>.inl h⟩
  have hl:=R.len
  rw[List.set_eq_of_length_le (show δ.length≤i by omega),List.set_eq_of_length_le (show σ.length≤i by omega)]
  exact R.drop λa z=>.inl z
 have hsl:i<σ.length:=by rw[R.len];exact hil
 have sub:∀a,Foot (fpu fp i new) a->Foot fp a∨a∈new:=λa z=>by
  rcases z.of_u with z|⟨j,_,z⟩
  ·exact .inr z
  ·exact .inl ⟨j,z⟩
 have lw:∀a,Lf C fp (exu ex new) a->Lf C (fpu fp i new) ex a:=λa l=>⟨λz=>(sub a z).elim l.1 λz=>l.2.1 (.inr z),λz=>l.2.1 (.inl z),l.2.2⟩
 refine⟨fpu fp i new,⟨by rw[Ve,Ve];exact R.len,λj t' e=>?_,λj h=>?_,λj=>?_,λj k a h1 h2=>?_,λj a h z=>?_,λa z=>R.xa a (.inl z),R.fr,R.al,λj a h=>?_,λj hj=>?_⟩,sub⟩
 ·by_cases ej:j=i
  ·subst ej
   rw[Q0 hil]at e
   cases e
   exact⟨v,Q0 hsl,by rw[Ys];exact o.wide λa l _=>lw a l⟩
  ·rw[QF (Vt ej)]at e
   obtain⟨w,e1,o1⟩:=R.own j t' e
   exact⟨w,by rw[QF (Vt ej)];exact e1,by rw[Wu ej];exact o1.wide λa l _=>lw a l⟩
 ·by_cases ej:j=i
  ·subst ej;exact absurd (Q0 hil) (h r)
  ·rw[Wu ej]
   exact R.emp j λt' z=>h t' (by rw[QF (Vt ej)];exact z)
 ·by_cases ej:j=i
  ·subst ej;rw[Ys];exact nd
  ·rw[Wu ej];exact R.nd j
 ·by_cases ej:j=i
  ·subst ej
   rw[Ys]at h1
   by_cases ek:k=j
   ·exact ek.symm
   ·rw[Wu ek]at h2
    exact absurd (.inr h1) (R.dx k a h2)
  ·rw[Wu ej]at h1
   by_cases ek:k=i
   ·subst ek
    rw[Ys]at h2
    exact absurd (.inr h2) (R.dx j a h1)
   ·rw[Wu ek]at h2
    exact R.dj j k a h1 h2
 ·by_cases ej:j=i
  ·subst ej
   rw[Ys]at h
   exact(hn a h).2 z
  ·rw[Wu ej]at h
   exact R.dx j a h (.inl z)
 ·by_cases ej:j=i
  ·subst ej
   rw[Ys]at h
   exact .inr (hn a h).1
  ·rw[Wu ej]at h
   exact R.new j a h
 ·have ej:j≠i:=λz=>hio (z▸hj)
  rw[QF (Vt ej)]
  exact R.io j hj
theorem RE.put{C:MC G}{H H':Hp}{σ:St}{δ δ':Zj}{fp fp':Fp}{ex:Addr->Prop}{i:Nat}{v:V}{r:OT}{new:List Addr}(R:RE C io p true H σ δ fp ex H' v r δ' fp' new)(R0:Rel C io H σ δ fp ex)(hio:i∉io) :
  ∃fp2,Rel C io H' (σ.set i (some v)) (δ'.set i (some r)) fp2 ex∧Kp H fp H' fp2:=by
 obtain⟨fp2,R2,g⟩:=R.rel.put hio (R.own.wide λa l _=>l rfl) R.nd λa m=>⟨(R0.newOk (R.fresh a m)).2.2,(R0.newOk (R.fresh a m)).2.1⟩
 refine⟨fp2,R2,λb o e q=>R.stp.keep b o e (.inr (q.resolve_left (by decide))),λz=>(nomatch z),λa z=>?_,R.stp.al⟩
 rcases g a z with z|z
 ·exact R.stp.grow a z
 ·exact .inr (R.fresh a z)
theorem RE.fzc{C:MC G}{H H':Hp}{σ:St}{δ δ':Zj}{fp fp':Fp}{ex:Addr->Prop}{v:V}{r:OT}{new:List Addr}(R:RE C io p c H σ δ fp ex H' v r δ' fp' new)(R0:Rel C io H σ δ fp ex) :
  RE C io p c H σ δ fp ex H' v (.fz r.data) δ' fp' []:=.fz R.base R.stp (R.da R0)
theorem RE.fzs{C:MC G}{H H':Hp}{σ:St}{δ δ':Zj}{fp fp':Fp}{ex:Addr->Prop}{v:V}{r:OT}{new:List Addr}(R:RE C io p c H σ δ fp ex H' v r δ' fp' new)(R0:Rel C io H σ δ fp ex)(h:Zbw r.data=true) :
  RE C io p true H σ δ fp ex H' v (.fz r.data) δ' fp' []:=.fz R.base R.stp ((R.da R0).flat h)
noncomputable def Z34(i:Nat)(m:MEt):MSt:=λD δ=>m δ λr δ'=>D.nx (δ'.set i (some (.fz r.data)))
noncomputable def Zl3(i:Nat)(m:MEt):MSt:=λD δ=>m δ λr δ'=>D.nx (δ'.set i (some r))
section
variable {i:Nat}{x:Str}{px:Pos}
theorem Ydh{t:TE}(s:SE G io p true t m)(hio:i∉io):SS G io (Z54 t (Zul i)) (Z34 i m):=λC H σ δ fp ex D D' R h E=>s C H σ δ fp ex _ _ R h λH' v r δ' fp' new r1 h1=>by
 obtain⟨fp2,R2,k2⟩:=(r1.fzc R).put R hio
 exact E.nx H' _ _ fp2 R2 k2 h1
theorem Z3i{t:TE}(s:SE G io p true t m)(hio:i∉io):SS G io (Z54 t (Zul i)) (Zl3 i m):=λC H σ δ fp ex D D' R h E=>s C H σ δ fp ex _ _ R h λH' v r δ' fp' new r1 h1=>by
 obtain⟨fp2,R2,k2⟩:=r1.put R hio
 exact E.nx H' _ _ fp2 R2 k2 h1
theorem Zvc(hN:X.N.Nodup)(hi:X.N[i]? =some x)(hx:Loc X.env.scope x)(he:ME X io p true e m)(hio:i∉io:=by decide)(hs:VL e (some (.Name x px)) pos.line X.env=pure false:=by rfl)(hf:X.fn x=true∨X.env.scope.names.lookup x=some .local:=by first|exact .inl rfl|exact .inr rfl|assumption) :
  MS X io (.Assign [.Name x px] e pos) (Z34 i m):=by
 obtain⟨_,A,s⟩:=he
 exact⟨_,Zzl hN hi hx A hs hf,Ydh s hio⟩
theorem Z2v(hN:X.N.Nodup)(hi:X.N[i]? =some x)(hx:Loc X.env.scope x)(he:ME X io p true e m)(hio:i∉io:=by decide)(hs:VL e (some (.Name x px)) pos.line X.env=pure false:=by rfl)(hf:X.fn x=true∨X.env.scope.names.lookup x=some .local:=by first|exact .inl rfl|exact .inr rfl|assumption) :
  MS X io (.Assign [.Name x px] e pos) (Zl3 i m):=by
 obtain⟨_,A,s⟩:=he
 exact⟨_,Zzl hN hi hx A hs hf,Z3i s hio⟩
end
noncomputable def Zyz(t:MTt)(u:MSt):MSt:=λD δ=>∃W:Nat->Zj->Prop,(∃n,W n δ)∧∀n δ,W n δ->t δ λb δ'=>if b=true then∃N:Zj->Prop,(∀δ',N δ'->∃n',n'<n∧W n' δ')∧u { D with nx:=N,ct:=N,bk:=D.nx } δ' else D.nx δ'
theorem Zou{cnd:Expr}{ss:List Stmt}(hp:PassesOwn (XX X.prog X.w) X.A X.env X.xe)(hc:MT X io p cnd mt)(ha:MSs X io ss u):MS X io (.While cnd ss [] pos) (Zyz mt u):=by
 obtain⟨_,T,s⟩:=hc
 obtain⟨_,A,sa⟩:=ha
 refine⟨_,Zyn hp T A,λC H σ δ fp ex D D' R h E=>?_⟩
 obtain⟨W,⟨n0,w0⟩,turn⟩:=h
 refine⟨λn σ' H'=>∃δ' fp',Rel C io H' σ' δ' fp' ex∧Kp H fp H' fp'∧W n δ',⟨n0,δ,fp,R,.refl _ _,w0⟩,?_⟩
 rintro n σ1 H1 ⟨δ1,fp1,R1,k1,w1⟩
 refine s C H1 σ1 δ1 fp1 ex _ _ R1 (turn n δ1 w1) λH2 b δ2 fp2 R2 S2 h2=>?_
 have k2:=k1.trans S2.kp
 cases b with
 | true=>
  rw[if_pos rfl]at h2⊢
  obtain⟨N,hN,h2⟩:=h2
  refine⟨λσ' H'=>∃δ' fp',Rel C io H' σ' δ' fp' ex∧Kp H fp H' fp'∧N δ',λσ' H' ⟨δ',fp',R',k',n'⟩=>?_,?_⟩
  ·obtain⟨n1,hn1,w1⟩:=hN δ' n'
   exact⟨n1,hn1,δ',fp',R',k',w1⟩
  ·refine sa C H2 σ1 δ2 fp2 ex _ _ R2 h2 ⟨λH' σ' δ' fp' R' k' n'=>⟨δ',fp',R',k2.trans k',n'⟩,λH' σ' δ' fp' R' k' n'=>E.nx H' σ' δ' fp' R' (k2.trans k') n',λH' σ' δ' fp' R' k' n'=>⟨δ',fp',R',k2.trans k',n'⟩,E.rt⟩
 | false=>
  rw[if_neg Xp]at h2⊢
  exact E.nx H2 σ1 δ2 fp2 R2 k2 h2
end
variable {G:Xc}
noncomputable def Zu1(N:List Str)(ds:List Xa):Zj:=ds.map (λd=>some (.fz d)) ++ XF (N.length-ds.length) none
section
variable {H:Hp}{L:Addr->Prop}{vs:List V}{ds:List Xa}{N:List Str}
theorem Zur{i:Nat}{t:OT}{n:Nat}(h:(ds.map (λd=>some (.fz d)) ++ XF n none:Zj)[i]? =some (some t)):∃d,ds[i]? =some d∧t= .fz d:=by
 rw[List.getElem?_append]at h
 split at h
 ·rw[Xq]at h
  cases e:ds[i]? with
  | none=>rw[e]at h;cases h
  | some d=>rw[e]at h;cases h;exact⟨d,rfl,rfl⟩
 ·rw[Vo]at h
  split at h
  ·cases h
  ·cases h
theorem Rel.entry(h:Das G H L vs ds):Rel (G:=G) ⟨H,λ_=>False,L,start N vs⟩ [] H (start N vs) (Zu1 N ds) (λ_=>[]) (λ_=>False):=by
 refine⟨?_,λi t e=>?_,λ_ _=>rfl,λ_=>.nil,λi j a m=>(nomatch m),λi a m=>(nomatch m),λa z=>z.elim,λb o e _=>e,λb e=>e,λi a m=>(nomatch m),λi m=>nomatch m⟩
 ·unfold start Zu1
  simp[h.length]
 ·obtain⟨d,e',rfl⟩:=Zur e
  obtain⟨x,e1,q⟩:=h.get e'
  refine⟨x,?_,.fz (q.wide λa l _=>⟨λ⟨j,z⟩=>(nomatch z),λz=>z,.inl l⟩)⟩
  unfold L2.start
  rw[Vc (by rw[Xj];exact(Xm.mp e1).1),Xq,e1]
  rfl
variable {P:X6}{w:Qq}{K:Xc}{mg:Str->Option Xf}{base:Heap}
noncomputable def Z3c(k:OT->Prop):Zi0:={ nx:=λ_=>k (.fz .none),rt:=λr _=>k r }
theorem Fun.okD{x qual:Str}{st:Stmt}{f:Addr}{fd:XQ}{N ps:List Str}{n:Nat}{S:List Xa->(OT->Prop)->Prop}(F:Fun K x qual st f fd)(Sc:Zw N ps (Zn st))(len:∀ds k,S ds k->ds.length=ps.length)
  (hbody:∀(cdv:Xf) (A:Qo) (outer:List Env) (s:Xh) (H:Hp) (E:XK),Room n (A.deeper (envOfC qual (Zn st) s.heap.objs.size f cdv)) ->
   ∃m,MSs (Zzt CX0 P w K mg base N qual (Zn st) f cdv A outer s H E).nox [] (Zcr st) m∧∀ds k,S ds k->m (Z3c k) (Zu1 N ds)):FnOk P w K mg base CX0 (n+1) f fd ps (spD K S):=by
 refine F.ok Sc (λvs H Q E h=>?_) (λcdv A outer s H vs Q E hr h=>?_)
 ·obtain⟨L,ds,k,h1,h2,_⟩:=h
  rw[h1.length]
  exact len ds k h2
 ·obtain⟨L,ds,k,h1,h2,h3⟩:=h
  obtain⟨m,⟨t,A1,s1⟩,q⟩:=hbody cdv A outer s H E hr
  refine⟨t,A1,s1 ⟨H,λ_=>False,L,start N vs⟩ H _ _ _ _ (Z3c k) _ (Rel.entry h1) (q ds k h2) ⟨λH' σ' δ' fp' R _ hk=>?_,λ_ _ _ _ _ _ z=>z.elim,λ_ _ _ _ _ _ z=>z.elim,λH' σ' v r δ' fp' new R o nd hn hk=>?_⟩⟩
  ·exact h3 _ .non H' [] hk (λb o e=>R.fr b o e id) (.fz .non) .nil λa m=>nomatch m
  ·refine h3 r v H' new hk (λb o e=>R.fr b o e id) (o.wide λa l _=>⟨?_,λz=>l.2.1 (.inr z)⟩) nd hn
   exact l.2.2
end
noncomputable abbrev MGt:=Xa->Zj->(Zj->Prop)->Prop
noncomputable abbrev Zv3:=List Xa->Zj->(Zj->Prop)->Prop
noncomputable def SG(G:Xc)(io:List Nat)(c:Bool)(t:TG)(g:MGt):Prop:=∀(C:MC G) (H:Hp) (σ:St) (δ:Zj) (fp:Fp) (ex:Addr->Prop) (v:V) (d:Xa) (k:Zj->Prop) (Q:St->Hp->Prop),Rel C io H σ δ fp ex->Da G H (λa=>c=true->Lf C fp ex a) v d->g d δ k ->
 (∀ σ' δ' fp',Rel C io H σ' δ' fp' ex->Kp H fp H fp'->k δ'->Q σ' H)->t v σ H Q
noncomputable def SGs(G:Xc)(io:List Nat)(c:Bool)(t:TGs)(g:Zv3):Prop:=∀(C:MC G) (H:Hp) (σ:St) (δ:Zj) (fp:Fp) (ex:Addr->Prop) (v:List V) (d:List Xa) (k:Zj->Prop) (Q:St->Hp->Prop),Rel C io H σ δ fp ex->Das G H (λa=>c=true->Lf C fp ex a) v d->g d δ k ->
 (∀ σ' δ' fp',Rel C io H σ' δ' fp' ex->Kp H fp H fp'->k δ'->Q σ' H)->t v σ H Q
noncomputable def MG(X:Cx)(io:List Nat)(c:Bool)(tg:Expr)(g:MGt):Prop:=∃t,PG X tg t∧SG X.K io c t g
noncomputable def MGs(X:Cx)(io:List Nat)(c:Bool)(tg:List Expr)(g:Zv3):Prop:=∃t,PGs X tg t∧SGs X.K io c t g
section
variable {X:Cx}{io:List Nat}{c:Bool}{pos:Pos}{i:Nat}{x:Str}
noncomputable def dName(i:Nat):MGt:=λd δ k=>k (δ.set i (some (.fz d)))
theorem Rel.putD{C:MC G}{H:Hp}{σ:St}{δ:Zj}{fp:Fp}{ex:Addr->Prop}{v:V}{d:Xa}(R:Rel C io H σ δ fp ex)(hio:i∉io)(q:Da G H (Lf C fp ex) v d) :
  ∃fp',Rel C io H (σ.set i (some v)) (δ.set i (some (.fz d))) fp' ex∧Kp H fp H fp':=by
 obtain⟨fp',R',g⟩:=(R.drop λa z=>Zdj.mp z).put (new:=[]) hio (.fz (q.wide λa l _=>⟨l.1,λz=>l.2.1 (Zdj.mp z),l.2.2⟩)) .nil (λa m=>nomatch m)
 exact⟨fp',R',λb o e _=>e,λz=>(nomatch z),λa z=>(g a z).imp id λz=>(nomatch z),λb e=>e⟩
theorem Zsx(hN:X.N.Nodup)(hi:X.N[i]? =some x:=by rfl)(hx:Loc X.env.scope x:=by first|exact QB rfl|exact Qw rfl)(hio:i∉io:=by decide)(hf:X.fn x=true∨X.env.scope.names.lookup x=some .local:=by first|exact .inl rfl|exact .inr rfl|assumption):MG X io true (.Name x pos) (dName i) :=
 ⟨_,Zz9 hN hi hx hf,λC H σ δ fp ex v d k Q R q h kk=>by
  obtain⟨fp',R',k'⟩:=R.putD hio (q.wide λa l _=>l rfl)
  exact kk _ _ fp' R' k' h⟩
noncomputable def Yea:Zv3:=λds δ k=>ds=[]∧k δ
noncomputable def Z50(g:MGt)(gs:Zv3):Zv3:=λds δ k=>match ds with|d :: r=>g d δ λδ'=>gs r δ' k|[]=>False
theorem Z1x:MGs X io c [] Yea:=⟨_,Z06,λC H σ δ fp ex v d k Q R q h kk=>by
 obtain⟨rfl,h⟩:=h
 cases q
 exact⟨rfl,kk σ δ fp R (.refl _ _) h⟩⟩
theorem Rel.kp_das{C:MC G}{H H':Hp}{σ:St}{δ:Zj}{fp fp':Fp}{ex:Addr->Prop}{vs:List V}{ds:List Xa}(R:Rel C io H σ δ fp ex)(S:Kp H fp H' fp')(h:Das G H (Lf C fp ex) vs ds):Das G H' (Lf C fp' ex) vs ds:=by
 have S':Stp false H δ fp H' δ fp':=⟨S.keep,λz=>(nomatch z),S.grow,S.al⟩
 obtain⟨f1,f2⟩:=R.frameL (c:=true) (ex':=ex) S' (.inr rfl) λa z=>.inl z
 exact h.frame (λa xs l q=>⟨(f1 a xs (λ_=>l) q).1 rfl,(f1 a xs (λ_=>l) q).2⟩) f2
theorem Zp1{e:Expr}{es:List Expr}{g:MGt}{gs:Zv3}(h1:MG X io true e g)(h2:MGs X io true es gs)
  (hs:(JQ (e :: es) X.env).map (·.2)=U3 e X.env :: (JQ es X.env).map (·.2):=by rfl):MGs X io true (e :: es) (Z50 g gs):=by
 obtain⟨_,A,s⟩:=h1
 obtain⟨_,B,s'⟩:=h2
 exact⟨_,Zxx A B hs,λC H σ δ fp ex v d k Q R q h kk=>by
  cases q with
  | nil=>exact h.elim
  | cons q qs=>
   refine⟨_,_,rfl,s C H σ δ fp ex _ _ _ _ R q h λσ1 δ1 fp1 R1 k1 h1=>?_⟩
   exact s' C H σ1 δ1 fp1 ex _ _ _ _ R1 ((R.kp_das k1 (qs.wide λa l _=>l rfl)).wide λa l _ _=>l) h1 λσ2 δ2 fp2 R2 k2 h2=>kk σ2 δ2 fp2 R2 (k1.trans k2) h2⟩
noncomputable def dTup(n:Nat)(gs:Zv3):MGt:=λd δ k=>match d with| .tuple ds=>ds.length=n∧gs ds δ k|_=>False
theorem Z71{es:List Expr}{k:Nat}{gs:Zv3}{n:Nat}(hc:X.calm=true)(h:MGs X io c es gs)
  (hn:(JQ es X.env).length=n:=by rfl) (hst:(JQ es X.env).findIdx? (·.1)=none:=by rfl):MG X io c (.Tuple es k pos) (dTup n gs):=by
 obtain⟨_,A,s⟩:=h
 exact⟨_,Z7i hc A hn hst,λC H σ δ fp ex v d k Q R q h kk=>by
  cases q with
  | tup e qs=>exact⟨_,_,rfl,.inl (.inl e),by rw[qs.length];exact h.1,s C H σ δ fp ex _ _ _ _ R qs h.2 kk⟩
  | _=>exact h.elim⟩
noncomputable def Yd6(m:MEt)(g:MGt):MSt:=λD δ=>m δ λr δ'=>g r.data δ' D.nx
theorem Z5k{tg e:Expr}{p:Bool}{m:MEt}{g:MGt}(he:ME X io p c e m)(hg:MG X io c tg g)(hs:swapsWithSole [tg] e pos.line X.env=pure false:=by rfl)(hw:swappedStores [tg] e X.env=pure none:=by rfl)
  (h1:(JQ [tg] X.env).map (·.2)=[U3 tg X.env]:=by rfl):MS X io (.Assign [tg] e pos) (Yd6 m g):=by
 obtain⟨_,A,s⟩:=he
 obtain⟨_,B,s'⟩:=hg
 exact⟨_,Zzi A B hs hw h1,λC H σ δ fp ex D D' R h E=>s C H σ δ fp ex _ _ R h λH' v r δ' fp' new r1 h1=>
  s' C H' σ δ' fp' ex v _ _ _ r1.base (r1.da R) h1 λσ2 δ2 fp2 R2 k2 h2=>E.nx H' σ2 δ2 fp2 R2 (r1.stp.kp.trans k2) h2⟩
end
variable {G:Xc}
noncomputable def IterOk(C:MC G)(fp:Fp)(ex:Addr->Prop)(H1:Hp)(c:Bool)(J:It)(ds:List Xa):Prop:=∀H':Hp,(∀b o,H1 b=some o->(c=false∨¬Foot fp b)->H' b=some o)->∀i:Nat,
 (∀ d,ds[i]? =some d->J.go i H'∧∀x H'',J.yld i H' x H''->Same H' H''∧Da G H'' (λa=>c=true->(Lf C fp ex a∧H1 a≠none)) x d)∧(ds[i]? =none->J.stop i H')
noncomputable abbrev MIt:=Zj->(List Xa->Zj->Prop)->Prop
noncomputable def SI(G:Xc)(io:List Nat)(p c:Bool)(t:TI)(m:MIt):Prop:=∀(C:MC G) (H:Hp) (σ:St) (δ:Zj) (fp:Fp) (ex:Addr->Prop) (K:List Xa->Zj->Prop) (Q:It->Hp->Prop),Rel C io H σ δ fp ex->m δ K ->
 (∀ J H1 ds δ1 fp1,Rel C io H1 σ δ1 fp1 ex->Stp p H δ fp H1 δ1 fp1->IterOk C fp1 ex H1 c J ds->K ds δ1->Q J H1)->t σ H Q
noncomputable def MI(X:Cx)(io:List Nat)(p c:Bool)(tg iter:Expr)(m:MIt):Prop:=∃t,PI X tg iter t∧SI X.K io p c t m
section
variable {X:Cx}{io:List Nat}{p c:Bool}{e a b tg:Expr}{m:MEt}{mr:MAt}{K:Xc}
noncomputable def iL(m:MEt):MIt:=λδ K=>m δ λr δ'=>match r.data with| .list ds=>K ds δ'|_=>False
noncomputable def iT(m:MEt):MIt:=λδ K=>m δ λr δ'=>match r.data with| .tuple ds=>K ds δ'|_=>False
theorem Rel.kept{C:MC G}{H H':Hp}{σ:St}{δ:Zj}{fp:Fp}{ex:Addr->Prop}(R:Rel C io H σ δ fp ex)(kp:∀b o,H b=some o->(c=false∨¬Foot fp b)->H' b=some o) :
  (∀ a (xs:MuO),(c=true->Lf C fp ex a)->Rd H a xs.ho->(c=true->(Lf C fp ex a∧H a≠none))∧Rd H' a xs.ho)∧(∀a (xs:ImO),H a=some xs.ho->H' a=some xs.ho):=by
 refine⟨λa xs l q=>⟨λhc=>⟨l hc,q.some⟩,?_⟩,λa xs q=>kp a _ q (.inr λz=>?_)⟩
 ·have hk:c=false∨¬Foot fp a:=by
   cases c with
   | false=>exact .inl rfl
   | true=>exact .inr (l rfl).1
  rcases q with q|⟨o,q⟩
  ·exact .inl (kp a _ q hk)
  ·exact .inr ⟨o,kp a _ q hk⟩
 ·obtain⟨ys,e⟩:=R.foot z
  exact ImO.nm q e
theorem Z0s(h:ME X io p c e m):MI X io p c tg e (iL m):=by
 obtain⟨_,A,s⟩:=h
 exact⟨_,Zx6 rfl A,λC H σ δ fp ex K' Q R h kk=>s C H σ δ fp ex _ _ R h λH1 v r δ1 fp1 new r1 h1=>by
  have q:=r1.da R
  generalize r.data=d at q h1
  cases q with
  | lst l e qs=>
   refine⟨_,rfl,⟨_,.inl e⟩,kk _ H1 _ δ1 fp1 r1.base r1.stp (λH' kp i=>?_) h1⟩
   obtain⟨f1,f2⟩:=r1.base.kept kp
   have e':=(f1 _ (.lst _) l e).2
   have qs':=qs.frame f1 f2
   refine⟨λd hd=>?_,λhd=>?_⟩
   ·obtain⟨x,hx,qx⟩:=qs'.get hd
    refine⟨⟨_,x,.inl e',hx⟩,λy H'' hy=>?_⟩
    obtain⟨rfl,hy⟩:=hy
    have:=hy _ (.inl e')
    rw[hx]at this
    cases this
    exact⟨Same.refl _,qx⟩
   ·exact⟨_,.inl e',by rw[qs'.length];exact Qz.mp hd⟩
  | scr ks=>
   refine⟨_,rfl,⟨_,ks.sq⟩,kk _ H1 _ δ1 fp1 r1.base r1.stp (λH' kp i=>?_) h1⟩
   refine⟨λd hd=>?_,λhd=>?_⟩
   ·obtain⟨x,hx,qx⟩:=(Das.ints (G:=X.K) (H:=H') (L:=λa=>c=true->(Lf C fp1 ex a∧H1 a≠none)) _).get hd
    refine⟨⟨_,x,ks.sq,hx⟩,λy H'' hy=>?_⟩
    obtain⟨rfl,hy⟩:=hy
    have:=hy _ ks.sq
    rw[hx]at this
    cases this
    exact⟨Same.refl _,qx⟩
   ·refine⟨_,ks.sq,?_⟩
    have:=Qz.mp hd
    simpa using this
  | _=>exact h1.elim⟩
theorem Z8u(h:ME X io p c e m):MI X io p c tg e (iT m):=by
 obtain⟨_,A,s⟩:=h
 exact⟨_,Z2g rfl A,λC H σ δ fp ex K' Q R h kk=>s C H σ δ fp ex _ _ R h λH1 v r δ1 fp1 new r1 h1=>by
  have q:=r1.da R
  generalize r.data=d at q h1
  cases q with
  | tup e qs=>
   refine⟨_,rfl,⟨_,.inl (.inl e)⟩,kk _ H1 _ δ1 fp1 r1.base r1.stp (λH' kp i=>?_) h1⟩
   obtain⟨f1,f2⟩:=r1.base.kept kp
   have e':=f2 _ (.tup _) e
   have qs':=qs.frame f1 f2
   refine⟨λd hd=>?_,λhd=>?_⟩
   ·obtain⟨x,hx,qx⟩:=qs'.get hd
    refine⟨⟨_,x,.inl (.inl e'),hx⟩,λy H'' hy=>?_⟩
    obtain⟨rfl,hy⟩:=hy
    have:=hy _ (.inl (.inl e'))
    rw[hx]at this
    cases this
    exact⟨Same.refl _,qx⟩
   ·exact⟨_,.inl (.inl e'),by rw[qs'.length];exact Qz.mp hd⟩
  | _=>exact h1.elim⟩
noncomputable def Zci(lo:Int)(n:Nat):List Xa:=(Xv n).map λ(i:Nat)=>Xk (lo+(i:Int))
@[simp] theorem Wl(lo:Int)(n:Nat):(Zci lo n).length=n:=by simp[Zci]
theorem Ws{lo:Int}{n i:Nat}{d:Xa}(h:(Zci lo n)[i]? =some d):i<n∧d= .int (lo+i):=by
 have hi:i<n:=by
  have:=(Xm.mp h).1
  simpa using this
 unfold Zci at h
 rw[Xq,Vn hi]at h
 cases h
 exact⟨hi,rfl⟩
theorem Zp8{C:MC G}{fp:Fp}{ex:Addr->Prop}{H1:Hp}{lo:Int}{n:Nat}:IterOk C fp ex H1 true (Itr lo n) (Zci lo n):=λH' _ i=>by
 refine⟨λd hd=>?_,λhd=>?_⟩
 ·obtain⟨hi,rfl⟩:=Ws hd
  refine⟨hi,λx H'' hy=>?_⟩
  obtain⟨rfl,rfl⟩:=hy
  exact⟨Same.refl _,.int _⟩
 ·have:=Qz.mp hd
  show n≤i
  simpa using this
noncomputable def iR1(mr:MAt):MIt:=λδ K=>mr δ λrs δ'=>match OT.datas rs with|[.int j]=>(-(2^62)≤j∧j<2^62)∧K (Zci 0 j.toNat) δ'|_=>False
noncomputable def iR2(mr:MAt):MIt:=λδ K=>mr δ λrs δ'=>match OT.datas rs with|[.int i,.int j]=>(-(2^62)≤i∧i<2^62∧-(2^62)≤j∧j<2^62)∧K (Zci i (j-i).toNat) δ'|_=>False
theorem Yl{p' pos:Pos}(hg:Gl X "range")(hm:X.mg "range"=none)(ha:MA X io p c [a] mr)(hs:Xo [a] X.env=[(false,eval a X.env)]:=by rfl):MI X io p true tg (.Call (.Name "range" p') [a] [] pos) (iR1 mr):=by
 obtain⟨_,A,s⟩:=ha
 exact⟨_,Zrw hg hm A hs,λC H σ δ fp ex K' Q R h kk=>s C H σ δ fp ex _ _ R h λH1 vs rs δ1 fp1 new r1 h1=>by
  have q:=r1.das R
  generalize OT.datas rs=d at q h1
  split at h1
  case h_2=>exact h1.elim
  cases q with
  | cons q1 q2=>
   cases q1
   cases q2
   exact⟨_,rfl,h1.1.1,h1.1.2,kk _ H1 _ δ1 fp1 r1.base r1.stp Zp8 h1.2⟩⟩
theorem Zdk{p' pos:Pos}(hg:Gl X "range")(hm:X.mg "range"=none)(ha:MA X io p c [a,b] mr)(hs:Xo [a,b] X.env=[(false,eval a X.env),(false,eval b X.env)]:=by rfl)(hs2:Xo [b] X.env=[(false,eval b X.env)]:=by rfl):MI X io p true tg (.Call (.Name "range" p') [a,b] [] pos) (iR2 mr):=by
 obtain⟨_,A,s⟩:=ha
 exact⟨_,Ztc hg hm A hs hs2,λC H σ δ fp ex K' Q R h kk=>s C H σ δ fp ex _ _ R h λH1 vs rs δ1 fp1 new r1 h1=>by
  have q:=r1.das R
  generalize OT.datas rs=d at q h1
  split at h1
  case h_2=>exact h1.elim
  cases q with
  | cons q1 q2=>
   cases q1
   cases q2 with
   | cons q2 q3=>
    cases q2
    cases q3
    exact⟨_,_,rfl,h1.1,kk _ H1 _ δ1 fp1 r1.base r1.stp Zp8 h1.2⟩⟩
theorem IterOk.at{C:MC G}{fp fp':Fp}{ex:Addr->Prop}{H1 H' H'':Hp}{J:It}{ds:List Xa}{x:V}{d:Xa}(g:∀a,Foot fp' a->Foot fp a∨H1 a=none)(h:Da G H'' (λa=>true=true->(Lf C fp ex a∧H1 a≠none)) x d):Da G H'' (λa=>true=true->Lf C fp' ex a) x d :=
 h.wide λa l _ z=>⟨λw=>(g a w).elim (l z).1.1 (l z).2,(l z).1.2.1,(l z).1.2.2⟩
noncomputable def Ya4(ds:List Xa)(g:MGt)(u:MSt)(D:Zi0)(δ1:Zj):Prop:=∃I:Nat->Zj->Prop,I 0 δ1∧(∀(i:Nat) (d:Xa) (δ':Zj),ds[i]? =some d->I i δ'->g d δ' λδ2=>u { D with nx:=I (i+1),ct:=I (i+1),bk:=D.nx } δ2)∧∀δ',I ds.length δ'->D.nx δ'
noncomputable def Yee(mi:MIt)(g:MGt)(u:MSt):MSt:=λD δ=>mi δ λds δ1=>Ya4 ds g u D δ1
theorem Rel.mk0{C:MC G}{H H':Hp}{σ:St}{δ:Zj}{fp:Fp}{ex:Addr->Prop}(R:Rel C io H σ δ fp ex)(s:Same H H'):Rel C io H' σ δ fp ex:=(R.made (new:=[]) s λa m=>nomatch m).drop λa z=>.inl z
theorem Zyr{iter:Expr}{body:List Stmt}{mi:MIt}{g:MGt}{u:MSt}{pos:Pos}(hp:PassesOwn (XX X.prog X.w) X.A X.env X.xe)(hc:X.calm=true)(hi:MI X io p true tg iter mi)(hg:MG X io true tg g)(hb:MSs X io body u)
  (hs:∀x,Bf iter X.env x=pure x:=by intro _;rfl):MS X io (.For tg iter body [] pos) (Yee mi g u):=by
 obtain⟨_,A,s⟩:=hi
 obtain⟨_,G,sg⟩:=hg
 obtain⟨_,B,sb⟩:=hb
 refine⟨_,Z7s hp hc A G B hs,λC H σ δ fp ex D D' R h E=>s C H σ δ fp ex _ _ R h λJ H1 ds δ1 fp1 R1 S1 it h1=>?_⟩
 obtain⟨I,h0,turn,fin⟩:=h1
 refine⟨λi n σ' H'=>n=ds.length-i∧i≤ds.length∧∃δ' fp',Rel C io H' σ' δ' fp' ex∧Kp H1 fp1 H' fp'∧I i δ',⟨ds.length,rfl,Qt _,δ1,fp1,R1,.refl _ _,h0⟩,?_⟩
 rintro i n σ2 H2 ⟨rfl,hle,δ2,fp2,R2,k2,i2⟩
 have itk:=it H2 (λb o e q=>k2.keep b o e (.inr (q.resolve_left (by decide)))) i
 by_cases hlt:i<ds.length
 ·have hd:ds[i]? =some ds[i]:=Xi hlt
  obtain⟨go,yl⟩:=itk.1 _ hd
  refine .inr ⟨go,λσ' H'=>∃δ' fp',Rel C io H' σ' δ' fp' ex∧Kp H1 fp1 H' fp'∧I (i+1) δ',λσ' H' ⟨δ',fp',R',k',i'⟩=>⟨ds.length-(i+1),by omega,rfl,hlt,δ',fp',R',k',i'⟩,λx H3 hy=>?_⟩
  obtain⟨s3,q3⟩:=yl x H3 hy
  have R3:=R2.mk0 s3
  have k3:Kp H1 fp1 H3 fp2:=k2.trans ⟨λb o e _=>s3 _ _ e,λz=>(nomatch z),λa z=>.inl z,s3.al⟩
  refine sg C H3 σ2 δ2 fp2 ex x _ _ _ R3 (IterOk.at (H':=H2) (J:=J) (ds:=ds) k2.grow q3) (turn i _ δ2 hd i2) λσ4 δ4 fp4 R4 k4 h4=>?_
  have k5:=k3.trans k4
  refine sb C H3 σ4 δ4 fp4 ex _ _ R4 h4 ⟨λH' σ' δ' fp' R' k' n'=>⟨δ',fp',R',k5.trans k',n'⟩,λH' σ' δ' fp' R' k' n'=>E.nx H' σ' δ' fp' R' (S1.kp.trans (k5.trans k')) n',λH' σ' δ' fp' R' k' n'=>⟨δ',fp',R',k5.trans k',n'⟩,E.rt⟩
 ·have e:i=ds.length:=by omega
  subst e
  exact .inl ⟨itk.2 (by simp),E.nx H2 σ2 δ2 fp2 R2 (S1.kp.trans k2) (fin δ2 i2)⟩
end
noncomputable def gM(G:Xc)(io:List Nat)(c:Bool)(g:MGt):TG:=λv σ H Q=>∃(C:MC G) (δ:Zj) (fp:Fp) (ex:Addr->Prop) (d:Xa) (k:Zj->Prop),Rel C io H σ δ fp ex∧Da G H (λa=>c=true->Lf C fp ex a) v d∧g d δ k∧
 ∀σ' δ' fp',Rel C io H σ' δ' fp' ex->Kp H fp H fp'->k δ'->Q σ' H
noncomputable def tM(G:Xc)(io:List Nat)(p c:Bool)(m:MEt):TE:=λσ H Q=>∃(C:MC G) (δ:Zj) (fp:Fp) (ex:Addr->Prop) (K:OT->Zj->Prop),Rel C io H σ δ fp ex∧m δ K∧∀H' v r δ' fp' new,RE C io p c H σ δ fp ex H' v r δ' fp' new->K r δ'->Q v H'
noncomputable def ttM(G:Xc)(io:List Nat)(p:Bool)(m:MTt):TT:=λσ H Q=>∃(C:MC G) (δ:Zj) (fp:Fp) (ex:Addr->Prop) (K:Bool->Zj->Prop),Rel C io H σ δ fp ex∧m δ K∧∀H' b δ' fp',Rel C io H' σ δ' fp' ex->Stp p H δ fp H' δ' fp'->K b δ'->Q b H'
noncomputable def MIfs(X:Cx)(io:List Nat)(p:Bool)(ifs:List Expr)(m:MTt):Prop:=∃t,Z16 X ifs t∧STt X.K io p t m
section
variable {X:Cx}{io:List Nat}{p c:Bool}{e tg:Expr}{m:MEt}{mt:MTt}{g:MGt}{ifs:List Expr}
theorem MG.canon(h:MG X io c tg g):PG X tg (gM X.K io c g):=by
 obtain⟨t,A,s⟩:=h
 rintro pins sh σ H v u Q I r ⟨C,δ,fp,ex,d,k,R,q,h,kk⟩
 exact A pins sh σ H v u Q I r (s C H σ δ fp ex v d k Q R q h kk)
theorem ME.canon(h:ME X io p c e m):PE X e (tM X.K io p c m):=by
 obtain⟨t,A,s⟩:=h
 rintro pins sh σ H Q I ⟨C,δ,fp,ex,K,R,h,kk⟩
 exact A pins sh σ H Q I (s C H σ δ fp ex K Q R h kk)
theorem MIfs.canon(h:MIfs X io p ifs mt):Z16 X ifs (ttM X.K io p mt):=by
 obtain⟨t,A,s⟩:=h
 rintro pins sh σ H Q I ⟨C,δ,fp,ex,K,R,h,kk⟩
 exact A pins sh σ H Q I (s C H σ δ fp ex K Q R h kk)
noncomputable def Z8t:MTt:=λδ K=>K true δ
theorem Zas:MIfs X io true [] Z8t:=⟨_,Z1y,λC H σ δ fp ex K Q R h kk=>kk H true δ fp R (.refl _ _ _ _) h⟩
theorem Zog{cnd:Expr}(h:MT X io p cnd mt):MIfs X io p [cnd] mt:=by
 obtain⟨_,A,s⟩:=h
 exact⟨_,Z3f A,s⟩
end
variable {G:Xc}
noncomputable def blk(n:Nat)(caps:List Nat)(δ:Zj):Zj:=XF n none ++ caps.map λi=>(δ[i]?).getD none
noncomputable def J1(n:Nat)(caps:List Nat)(fp:Fp):Fp:=λk=>if k<n then[]else match caps[k-n]? with|some i=>fp i|none=>[]
noncomputable def Zah(n:Nat)(caps:List Nat):List Nat:=(Xv caps.length).map (·+n)
noncomputable def Zza(C:MC G)(H1:Hp)(fp:Fp)(σ0:St):MC G:=⟨H1,Foot fp,λa=>(C.L a∨C.H₀ a=none)∧¬Foot fp a,σ0⟩
noncomputable def Zg1(ex:Addr->Prop)(D:Addr)(fp fpb:Fp)(a:Addr):Prop:=ex a∨a=D∨(Foot fp a∧¬Foot fpb a)
section
variable {C:MC G}{io:List Nat}{H1 H':Hp}{σ:St}{δ:Zj}{fp:Fp}{ex:Addr->Prop}{own:List Str}{caps:List Nat}{D:Addr}{n:Nat}
theorem Zd9{k:Nat}{a:Addr}(h:a∈J1 n caps fp k):∃i,n≤k∧caps[k-n]? =some i∧a∈fp i:=by
 unfold J1 at h
 split at h
 ·exact nomatch h
 ·split at h
  ·rename_i i e
   exact⟨i,by omega,e,h⟩
  ·exact nomatch h
theorem Zwk{j i:Nat}(h:caps[j]? =some i):J1 n caps fp (n+j)=fp i:=by
 unfold J1
 rw[if_neg (by omega),show n+j-n=j by omega,h]
theorem Z74{k:Nat}{t:OT}(h:(blk n caps δ)[k]? =some (some t)):∃i,n≤k∧caps[k-n]? =some i∧δ[i]? =some (some t):=by
 unfold blk at h
 rw[List.getElem?_append]at h
 split at h
 ·rw[Vo]at h
  split at h<;>cases h
 ·rename_i hk
  rw[BW]at hk h
  rw[Xq]at h
  cases e:caps[k-n]? with
  | none=>rw[e]at h;cases h
  | some i=>
   rw[e]at h
   refine⟨i,by omega,rfl,?_⟩
   simp only[Option.map_some]at h
   cases e2:δ[i]? with
   | none=>rw[e2]at h;cases h
   | some o=>
    rw[e2]at h
    simpa using h
theorem Rel.block(R:Rel C io H1 σ δ fp ex)(nd:caps.Nodup)(hD:H1 D=none) :
  Rel (Zza C H1 fp (Zau own caps σ)) (Zah own.length caps) (upd H1 D (.lst [])) (Zau own caps σ) (blk own.length caps δ) (J1 own.length caps fp) (Zg1 ex D fp (J1 own.length caps fp)):=by
 have s:=Yo hD (.lst [])
 have sub:∀a,Foot (J1 own.length caps fp) a->Foot fp a:=λa q91=>by
  obtain⟨k,z⟩:=q91
  obtain⟨i,_,_,z⟩:=Zd9 z
  exact⟨i,z⟩
 have neD:∀a,H1 a≠none->a≠D:=λa h z=>h (z▸hD)
 refine⟨by unfold Zau blk;simp,λk t e=>?_,λk h=>?_,λk=>?_,λk l a h1 h2=>?_,λk a h z=>?_,λa z=>?_,λb o e _=>s _ _ e,λb e=>s.free e,λk a h=>?_,λk _=>rfl⟩
 ·obtain⟨i,hk,e1,e2⟩:=Z74 e
  obtain⟨v,e3,o⟩:=R.own i t e2
  refine⟨v,?_,?_⟩
  ·unfold Zau
   rw[BV (by simpa using hk),Xj,Xq,e1]
   simp[e3]
  ·have ef:J1 own.length caps fp k=fp i:=by
    have:=Zwk (n:=own.length) (fp:=fp) e1
    rwa[show own.length+(k-own.length)=k by omega]at this
   rw[ef]
   refine(o.wide λa l q=>⟨λz=>l.1 (sub a z),λz=>?_,.inl ⟨l.2.2,l.1⟩⟩).same s
   rcases z with z|z|z
   ·exact l.2.1 z
   ·exact neD a q z
   ·exact l.1 z.1
 ·unfold J1
  split
  ·rfl
  ·split
   ·rename_i i e1
    refine R.emp i λt z=>h t ?_
    unfold blk
    rw[BV (by rw[BW];omega),BW,Xq,e1]
    simp[z]
   ·rfl
 ·unfold J1
  split
  ·exact .nil
  ·split
   ·exact R.nd _
   ·exact .nil
 ·obtain⟨i,hk,e1,m1⟩:=Zd9 h1
  obtain⟨j,hl,e2,m2⟩:=Zd9 h2
  have:=R.dj i j a m1 m2
  subst this
  have hlt:=(Xm.mp e1).1
  have:=(List.getElem?_inj hlt nd).mp (e1.trans e2.symm)
  omega
 ·obtain⟨i,hk,e1,m⟩:=Zd9 h
  rcases z with z|z|z
  ·exact R.dx i a m z
  ·exact R.footSome (z▸hD) ⟨i,m⟩
  ·exact z.2 ⟨k,h⟩
 ·rcases z with z|z|z
  ·intro q;exact R.xa a z (s.free q)
  ·subst z;rw[Yh];intro q;cases q
  ·obtain⟨xs,e⟩:=R.foot z.1
   rw[s _ _ e];intro q;cases q
 ·obtain⟨i,hk,e1,m⟩:=Zd9 h
  refine .inl ⟨?_,⟨i,m⟩⟩
  have:=(Xm.mp e1).1
  exact Qe.mpr ⟨k-own.length,by simpa using this,by omega⟩
theorem Z45{σ0:St}{fp':Fp}{ex':Addr->Prop}{a:Addr}(hx:∀a,ex a->ex' a)(l:Lf (Zza C H1 fp σ0) fp' ex' a):Lf C fp ex a∨H1 a=none:=by
 obtain⟨l1,l2,l3⟩:=l
 rcases l3 with l3|l3
 ·exact .inl ⟨l3.2,λz=>l2 (hx a z),l3.1⟩
 ·exact .inr l3
theorem Rel.poke(R:Rel C io H' σ δ fp ex){xs ys:List V}(hx:ex D)(hD:H' D=some (.lst xs))(h0:C.H₀ D=none):Rel C io (upd H' D (.lst ys)) σ δ fp ex:=by
 have nf:¬Foot fp D:=λ⟨i,z⟩=>R.dx i D z hx
 have kp:∀b o,b≠D->H' b=some o->upd H' D (.lst ys) b=some o:=λb o n e=>by rw[Z4 n];exact e
 refine⟨R.len,λi t e=>?_,R.emp,R.nd,R.dj,R.dx,λa z=>?_,λb o e n=>?_,λb e=>?_,R.new,R.io⟩
 ·obtain⟨v,e1,o⟩:=R.own i t e
  refine⟨v,e1,o.frame (λa zs l q=>⟨l,?_⟩) (λa zs q=>kp a _ (λz=>?_) q) λa m zs q=>kp a _ (λz=>nf ⟨i,z▸m⟩) q⟩
  ·have na:a≠D:=λz=>l.2.1 (z▸hx)
   rcases q with q|⟨u,q⟩
   ·exact .inl (kp a _ na q)
   ·exact .inr ⟨u,kp a _ na q⟩
  ·exact ImO.nl q (z▸hD)
 ·by_cases e:a=D
  ·subst e;rw[Yh];intro q;cases q
  ·rw[Z4 e];exact R.xa a z
 ·refine kp b o (λz=>?_) (R.fr b o e n)
  rw[z,h0]at e;cases e
 ·refine R.al b ?_
  by_cases q:b=D
  ·subst q;rw[Yh]at e;cases e
  ·rwa[Z4 q]at e
theorem Owns.poke{L:Addr->Prop}{xs ys zs:List V}{rs:List OT}{as:List Addr}(o:Owns G H' L zs rs as)(hD:H' D=Bm (HO.lst xs))(hL:¬L D)(hn:D∉as):Owns G (upd H' D (.lst ys)) L zs rs as:=by
 refine o.frame (λa zs l q=>⟨l,?_⟩) (λa zs q=>?_) λa m zs q=>?_
 ·have na:a≠D:=λz=>hL (z▸l)
  rcases q with q|⟨u,q⟩
  ·exact .inl (by rw[Z4 na];exact q)
  ·exact .inr ⟨u,by rw[Z4 na];exact q⟩
 ·rw[Z4 (λz=>ImO.nl q (z▸hD))];exact q
 ·have na:a≠D:=λz=>hn (by rw[←z];exact m)
  rw[Z4 na];exact q
theorem Owns.snoc{L:Addr->Prop}{xs:List V}{rs:List OT}{as bs:List Addr}{x:V}{r:OT}(h:Owns G H' L xs rs as)(k:Own G H' L x r bs):Owns G H' L (xs ++ [x]) (rs ++ [r]) (as ++ bs) :=
 Owns.rec (motive_1:=λ_ _ _ _=>True) (motive_2:=λxs rs as _=>Owns G H' L (xs ++ [x]) (rs ++ [r]) (as ++ bs)) (λ_=>trivial) (λ_ _ _=>trivial) (λ_ _ _=>trivial) (λ_ _ _=>trivial) (by have:=Owns.cons k .nil;rwa[Q4]at this) (λk _ _ ih=>by rw[Q7];exact .cons k ih) h
end
structure Zys(C:MC G)(H1:Hp)(fp1:Fp)(ex:Addr->Prop)(n:Nat)(caps:List Nat)(σ0:St)(D:Addr)(pb:Bool)(H':Hp)(σ':St)(δ':Zj)(fp':Fp)(ys:List V)(rs:List OT)(new:List Addr):Prop where
 keep:∀b o,H1 b=some o->(pb=true∨¬Foot (J1 n caps fp1) b)->H' b=some o
 al:∀b,H' b=none->H1 b=none
 dat:H' D=some (.lst ys)
 rel:Rel (Zza C H1 fp1 σ0) (Zah n caps) H' σ' δ' fp' (exu (Zg1 ex D fp1 (J1 n caps fp1)) new)
 grow:∀a,Foot fp' a->Foot (J1 n caps fp1) a∨H1 a=none
 own:Owns G H' (λa=>true=true->Lf (Zza C H1 fp1 σ0) fp' (exu (Zg1 ex D fp1 (J1 n caps fp1)) new) a) ys rs new
 nd:new.Nodup
 fresh:∀a∈new,H1 a=none∧a≠D
section
variable {io:List Nat}{p c pt pe ci:Bool}{g:MGt}{mt:MTt}{me:MEt}{own:List Str}{caps:List Nat}
theorem Zs9{C:MC G}{H1:Hp}{σ:St}{δ1:Zj}{fp1:Fp}{ex:Addr->Prop}{J:It}{ds:List Xa}{D:Addr}{Qf:Hp->Prop}(I:Nat->List OT->Zj->Prop)(R1:Rel C io H1 σ δ1 fp1 ex)
  (it:∀H':Hp,(∀b o,H1 b=some o->((pt&&pe)=true∨¬Foot (J1 own.length caps fp1) b)->H' b=some o)->∀i:Nat,(∀d,ds[i]? =some d->J.go i H'∧∀x H'',J.yld i H' x H''->Same H' H''∧Da G H'' (λa=>ci=true->(Lf C fp1 ex a∧H1 a≠none)) x d)∧(ds[i]? =none->J.stop i H'))
  (nd:caps.Nodup) (hD:H1 D=none) (hz:ds.length≤Xy) (h0:I 0 [] (blk own.length caps δ1))
  (turn:∀(i:Nat) (d:Xa) (rs:List OT) (δ':Zj),ds[i]? =some d->I i rs δ'->g d δ' λδ2=>mt δ2 λb δ3=>if b=true then me δ3 λr δ4=>I (i+1) (rs ++ [r]) δ4 else I (i+1) rs δ3)
  (fin:∀H' σ' δ' fp' ys rs new,Zys C H1 fp1 ex own.length caps (Zau own caps σ) D (pt&&pe) H' σ' δ' fp' ys rs new->I ds.length rs δ'->Qf H') :
  Z0o J (gM G (Zah own.length caps) ci g) (ttM G (Zah own.length caps) pt mt) (tM G (Zah own.length caps) pe true me) (Zau own caps σ) D Qf H1:=by
 have hx:Zg1 ex D fp1 (J1 own.length caps fp1) D:=.inr (.inl rfl)
 refine⟨λi n σ' H'=>n=ds.length-i∧i≤ds.length∧∃rs ys new δ' fp',Zys C H1 fp1 ex own.length caps (Zau own caps σ) D (pt&&pe) H' σ' δ' fp' ys rs new∧ys.length≤i∧I i rs δ',⟨ds.length,rfl,Qt _,[],[],[],_,_,⟨λb o e _=>Yo hD _ _ _ e,(Yo hD _).al,Yh,?_,λa z=>.inl z,.nil,.nil,λa m=>(nomatch m)⟩,XN _,h0⟩,?_⟩
 ·exact(R1.block nd hD).drop λa z=>Zdj.mp z
 rintro i n σ2 H2 ⟨rfl,hle,rs,ys,new,δ2,fp2,B,hl,i2⟩
 have subB:∀b,Foot (J1 own.length caps fp1) b->Foot fp1 b:=λb q92=>by
  obtain⟨k,z⟩:=q92
  obtain⟨i,_,_,z⟩:=Zd9 z
  exact⟨i,z⟩
 have itk:=it H2 B.keep i
 by_cases hlt:i<ds.length
 case neg=>
  have e:i=ds.length:=by omega
  subst e
  exact .inl ⟨itk.2 (by simp),fin H2 σ2 δ2 fp2 ys rs new B i2⟩
 have hd:ds[i]? =some ds[i]:=Xi hlt
 obtain⟨go,yl⟩:=itk.1 _ hd
 refine .inr ⟨go,λx H3 hy=>?_⟩
 obtain⟨s3,q3⟩:=yl x H3 hy
 have R3:=B.rel.mk0 s3
 have D3:H3 D=some (.lst ys):=s3 _ _ B.dat
 -- the item,clean in the block
 have q3':Da G H3 (λa=>ci=true->Lf (Zza C H1 fp1 (Zau own caps σ)) fp2 (exu (Zg1 ex D fp1 (J1 own.length caps fp1)) new) a) x ds[i]:=by
  refine q3.wide λa l _ z=>?_
  obtain⟨⟨l1,l2,l3⟩,l4⟩:=l z
  refine⟨λw=>?_,λw=>?_,.inl ⟨l3,l1⟩⟩
  ·rcases B.grow a w with w|w
   ·exact l1 (subB a w)
   ·exact l4 w
  ·rcases w with(w|w|w)|w
   ·exact l2 w
   ·subst w;exact l4 hD
   ·exact l1 w.1
   ·exact l4 (B.fresh a w).1
 refine⟨_,δ2,fp2,_,_,_,R3,q3',turn i _ rs δ2 hd i2,λσ4 δ4 fp4 R4 k4 h4=>?_⟩
 refine⟨_,δ4,fp4,_,_,R4,h4,λH5 b δ5 fp5 R5 S5 h5=>?_⟩
 -- the state behind the test
 have keep5:∀b o,H1 b=some o->((pt&&pe)=true∨¬Foot (J1 own.length caps fp1) b)->H5 b=some o:=λb o e q=>by
  refine S5.keep b o (s3 _ _ (B.keep b o e q)) ?_
  rcases q with q|q
  ·rw[XD]at q;exact .inl q.1
  ·refine .inr λz=>?_
   rcases k4.grow b z with z|z
   ·rcases B.grow b z with z|z
    ·exact q z
    ·rw[e]at z;cases z
   ·rw[s3 _ _ (B.keep b o e (.inr q))]at z;cases z
 have al5:∀b,H5 b=none->H1 b=none:=λb e=>B.al b (s3.al b (S5.al b e))
 have grow4:∀a,Foot fp4 a->Foot (J1 own.length caps fp1) a∨H1 a=none:=λa z=>by
  rcases k4.grow a z with z|z
  ·exact B.grow a z
  ·exact .inr (B.al a (s3.al a z))
 have grow5:∀a,Foot fp5 a->Foot (J1 own.length caps fp1) a∨H1 a=none:=λa z=>by
  rcases S5.grow a z with z|z
  ·exact grow4 a z
  ·exact .inr (B.al a (s3.al a z))
 have D5:H5 D=some (.lst ys):=S5.keep D _ D3 (.inr λ⟨k,z⟩=>R4.dx k D z (.inl hx))
 have own3:=B.own.same s3
 -- the items so far behind the target and the test
 have own4:Owns G H3 (λa=>true=true->Lf (Zza C H1 fp1 (Zau own caps σ)) fp4 (exu (Zg1 ex D fp1 (J1 own.length caps fp1)) new) a) ys rs new:=by
  refine own3.wide λa l q z=>?_
  obtain⟨l1,l2,l3⟩:=l z
  exact⟨λw=>(k4.grow a w).elim l1 q,l2,l3⟩
 have own5:=R4.owns_step (ex':=exu (Zg1 ex D fp1 (J1 own.length caps fp1)) new) S5 (c:=true) (.inr rfl) (λa z=>.inl z) (λa m=>.inr m) own4
 dsimp only at h5⊢
 cases b with
 | false=>
  rw[if_neg Xp]at h5⊢
  exact⟨ds.length-(i+1),by omega,rfl,hlt,rs,ys,new,δ5,fp5,⟨keep5,al5,D5,R5,grow5,own5,B.nd,B.fresh⟩,by omega,h5⟩
 | true=>
  rw[if_pos rfl]at h5⊢
  refine⟨_,δ5,fp5,_,_,R5,h5,λH6 v r δ6 fp6 nr r6 h6=>?_⟩
  have D6:H6 D=some (.lst ys):=r6.stp.keep D _ D5 (.inr λ⟨k,z⟩=>R5.dx k D z (.inl hx))
  have hDnr:D∉nr:=λz=>by
   have:=r6.fresh D z
   rw[D5]at this;cases this
  have own6:=R5.owns_step (ex':=exu (exu (Zg1 ex D fp1 (J1 own.length caps fp1)) new) nr) r6.stp (c:=true) (.inr rfl) (λa z=>z.imp id λz=>r6.fresh a z) (λa m=>.inr m) own5
  have eqx:∀a,exu (Zg1 ex D fp1 (J1 own.length caps fp1)) (new ++ nr) a->exu (exu (Zg1 ex D fp1 (J1 own.length caps fp1)) new) nr a:=λa z=>by
   rcases z with z|z
   ·exact .inl (.inl z)
   ·rcases QJ.mp z with z|z
    ·exact .inl (.inr z)
    ·exact .inr z
  have lw:∀a,(true=true->Lf (Zza C H1 fp1 (Zau own caps σ)) fp6 (exu (exu (Zg1 ex D fp1 (J1 own.length caps fp1)) new) nr) a)->H6 a≠none->(true=true->Lf (Zza C H1 fp1 (Zau own caps σ)) fp6 (exu (Zg1 ex D fp1 (J1 own.length caps fp1)) (new ++ nr)) a) :=
   λa l _ z=>⟨(l z).1,λw=>(l z).2.1 (eqx a w),(l z).2.2⟩
  have ownA:=(own6.snoc r6.own).wide lw
  refine⟨ys,D6,by omega,ds.length-(i+1),by omega,rfl,hlt,rs ++ [r],ys ++ [v],new ++ nr,δ6,fp6,⟨λb o e q=>?_,λb e=>?_,Yh,?_,λa z=>?_,?_,?_,λa m=>?_⟩,by rw[Xw];show ys.length+1≤i+1;omega,h6⟩
  ·have nD:b≠D:=λz=>by rw[z,hD]at e;cases e
   rw[Z4 nD]
   refine r6.stp.keep b o (keep5 b o e q) ?_
   rcases q with q|q
   ·rw[XD]at q;exact .inl q.2
   ·refine .inr λz=>?_
    rcases grow5 b z with z|z
    ·exact q z
    ·rw[e]at z;cases z
  ·by_cases q:b=D
   ·subst q;rw[Yh]at e;cases e
   ·rw[Z4 q]at e
    exact al5 b (r6.stp.al b e)
  ·exact(r6.rel.drop eqx).poke (.inl hx) D6 hD
  ·rcases r6.stp.grow a z with z|z
   ·exact grow5 a z
   ·exact .inr (al5 a z)
  ·exact ownA.poke D6 (λz=>(z rfl).2.1 (.inl hx)) (λm=>by
    rcases QJ.mp m with m|m
    ·exact(B.fresh D m).2 rfl
    ·exact hDnr m)
  ·refine Vh.mpr ⟨B.nd,r6.nd,λa m b m' z=>?_⟩
   subst z
   obtain⟨xs,e⟩:=own5.some a m
   rw[r6.fresh a m']at e;cases e
  ·rcases QJ.mp m with m|m
   ·exact B.fresh a m
   ·exact⟨al5 a (r6.fresh a m),λz=>hDnr (z▸m)⟩
end
variable {G:Xc}
section
variable {X:Cx}{io:List Nat}{p p' c pt pe ci:Bool}{g:MGt}{mt:MTt}{me m:MEt}{mi:MIt}{own:List Str}{caps:List Nat}{e:Expr}
noncomputable def Z51(m:MEt):MEt:=λδ K=>m δ λr δ'=>Zbw r.data=true∧K (.fz r.data) δ'
theorem Z8r(h:ME X io p c e m):ME X io p true e (Z51 m):=by
 obtain⟨_,A,s⟩:=h
 exact⟨_,A,λC H σ δ fp ex K Q R h k=>s C H σ δ fp ex _ _ R h λH' v r δ' fp' new r1 h1=>k H' v _ δ' fp' [] (r1.fzs R h1.1) h1.2⟩
noncomputable def Z6g(n:Nat)(caps:List Nat)(ds:List Xa)(g:MGt)(mt:MTt)(me:MEt)(δ1:Zj)(K:OT->Zj->Prop):Prop:=ds.length≤Xy∧∃I:Nat->List OT->Zj->Prop,I 0 [] (blk n caps δ1)∧
 (∀ (i:Nat) (d:Xa) (rs:List OT) (δ':Zj),ds[i]? =some d->I i rs δ'->g d δ' λδ2=>mt δ2 λb δ3=>if b=true then me δ3 λr δ4=>I (i+1) (rs ++ [r]) δ4 else I (i+1) rs δ3)∧
 ∀rs δ',I ds.length rs δ'->K (.nd rs) δ1
noncomputable def Zgd(n:Nat)(caps:List Nat)(mi:MIt)(g:MGt)(mt:MTt)(me:MEt):MEt:=λδ K=>mi δ λds δ1=>Z6g n caps ds g mt me δ1 K
theorem Zyp{wi:TI}(si:SI G io p ci wi mi)(nd:caps.Nodup)(hp:(pt&&pe)=true) :
  SE G io p true (Z20 own caps wi (gM G (Zah own.length caps) ci g) (ttM G (Zah own.length caps) pt mt) (tM G (Zah own.length caps) pe true me)) (Zgd own.length caps mi g mt me):=by
 intro C H σ δ fp ex K Q R h k
 refine si C H σ δ fp ex _ _ R h λJ H1 ds δ1 fp1 R1 S1 it h1 D hD=>?_
 obtain⟨hz,I,h0,turn,fin⟩:=h1
 refine Zs9 I R1 (λH' kp=>it H' λb o e _=>kp b o e (.inl hp)) nd hD hz h0 turn λH' σ' δ' fp' ys rs new B i'=>?_
 have s:Same H1 H':=λb o e=>B.keep b o e (.inl hp)
 refine k H' (.ref D) (.nd rs) δ1 fp1 (D :: new) (RE.tree R R1 S1 s (λa m=>?_) (Qm.mpr ⟨λm=>(B.fresh D m).2 rfl,B.nd⟩) (.nd B.dat (B.own.wide λa l _=>?_))) (fin rs δ' i')
 ·rcases Xr.mp m with rfl|m
  ·exact hD
  ·exact(B.fresh a m).1
 ·refine⟨?_,λm=>?_⟩
  ·rcases Z45 (λa z=>.inl (.inl z)) (l rfl)with z|z
   ·exact .inl λ_=>z
   ·exact .inr z
  ·rcases Xr.mp m with z|z
   ·exact(l rfl).2.1 (.inl (.inr (.inl z)))
   ·exact(l rfl).2.1 (.inr z)
variable {N':List Str}{sc:Uo}{tg elt iter:Expr}{ifs:List Expr}{pos:Pos}
theorem Z5v(S:CompScope X own caps N' sc)(hc:X.calm=true)(nd:caps.Nodup)(hi:MI X io p ci tg iter mi)
  (hg:∀C cells s₂ H₂ fp,MG (Wb X N' sc C cells s₂ H₂ fp) (Zah own.length caps) ci tg g) (ht:∀C cells s₂ H₂ fp,MIfs (Wb X N' sc C cells s₂ H₂ fp) (Zah own.length caps) pt ifs mt) (he:∀C cells s₂ H₂ fp,ME (Wb X N' sc C cells s₂ H₂ fp) (Zah own.length caps) pe true elt me)
  (hp:(pt&&pe)=true:=by rfl) (hs:∀x,Bf iter X.env x=pure x:=by intro _;rfl):ME X io p true (.ListComp elt [⟨tg,iter,ifs,0⟩] sc pos) (Zgd own.length caps mi g mt me):=by
 obtain⟨_,A,si⟩:=hi
 exact⟨_,Z1g S hc A (λC cells s₂ H₂ fp=>(hg C cells s₂ H₂ fp).canon) (λC cells s₂ H₂ fp=>(ht C cells s₂ H₂ fp).canon) (λC cells s₂ H₂ fp=>(he C cells s₂ H₂ fp).canon) hs,Zyp si nd hp⟩
section
variable {i:Nat}{y:Str}{py spos:Pos}
theorem Zd2(own':Bool)(hN:X.N.Nodup)(hy:X.N[i]? =some y)(hx:Loc X.env.scope y)(S:CompScope X own caps N' sc)(hc:X.calm=true)(nd:caps.Nodup)(hi:MI X io p ci tg iter mi)
  (hg:∀C cells s₂ H₂ fp,MG (Wb X N' sc C cells s₂ H₂ fp) (Zah own.length caps) ci tg g) (ht:∀C cells s₂ H₂ fp,MIfs (Wb X N' sc C cells s₂ H₂ fp) (Zah own.length caps) pt ifs mt) (he:∀C cells s₂ H₂ fp,ME (Wb X N' sc C cells s₂ H₂ fp) (Zah own.length caps) pe true elt me)
  (hp:(pt&&pe)=true:=by rfl) (hio:i∉io:=by decide)
  (hsw:VL (.ListComp elt [⟨tg,iter,ifs,0⟩] sc pos) (some (.Name y py)) spos.line X.env=pure true:=by rfl)
  (hs:∀x,Bf iter X.env x=pure x:=by intro _;rfl) (hf:X.fn y=true∨X.env.scope.names.lookup y=some .local:=by first|exact .inl rfl|exact .inr rfl|assumption) :
  MS X io (.Assign [.Name y py] (.ListComp elt [⟨tg,iter,ifs,0⟩] sc pos) spos) (if own'=true then Zl3 i (Zgd own.length caps mi g mt me)else Z34 i (Zgd own.length caps mi g mt me)):=by
 obtain⟨_,A,si⟩:=hi
 refine⟨_,Zjh (g:=gM X.K (Zah own.length caps) ci g) (tt:=ttM X.K (Zah own.length caps) pt mt) (te:=tM X.K (Zah own.length caps) pe true me) hN hy hx S hc A (λC cells s₂ H₂ fp=>(hg C cells s₂ H₂ fp).canon) (λC cells s₂ H₂ fp=>(ht C cells s₂ H₂ fp).canon) (λC cells s₂ H₂ fp=>(he C cells s₂ H₂ fp).canon) hsw hs hf,?_⟩
 cases own'
 ·exact Ydh (Zyp si nd hp) hio
 ·exact Z3i (Zyp si nd hp) hio
end
end
variable {G:Xc}
section
variable {X:Cx}{pins:List (Addr×Obj)}{σ:St}{H:Hp}{s:Xh}{l:Addr}{xs:List V}
noncomputable def Z5g(K:Xc):R2:=λx y H Q=>∃l b xs zs,x= .ref l∧y= .ref b∧SqL K H l xs∧SqL K H b zs∧xs.length+zs.length≤Xy∧∀p,H p=none->Q (.ref p) (upd H p (.lst (xs ++ zs)))
theorem Inv.lstQ{K:Xc}(hK:X.K=K)(I:Inv X pins σ H s)(hH:SqL K H l xs):∃(its:List Xf) (n:Nat),Vals xs its∧xs.length=its.length∧∃o,s.heap.get? l=some o∧o.cls= .type "list"∧o.dict=none∧o.data= .seq its.toArray n:=by
 subst hK
 obtain⟨its,r,⟨o,n,e,h1,h2,h3⟩,_⟩:=I.list hH
 exact⟨its,n,r,r.length,o,e,h1,h2,h3⟩
theorem Zeu{K:Xc}(hK:X.K=K):OpR X (Uh .Add) (Z5g K):=by
 intro pins s σ H x y v u Q I rx ry h
 obtain⟨l,b,xs,zs,rfl,rfl,hH,hB,hz,q⟩:=h
 cases rx
 cases ry
 obtain⟨its,n,r,hl,⟨cls,dd,data,sl⟩,ho,hc,_,hd⟩:=I.lstQ hK hH
 obtain⟨its2,n2,r2,hl2,⟨cls2,dd2,data2,sl2⟩,ho2,hc2,_,hd2⟩:=I.lstQ hK hB
 simp only at hc hd hc2 hd2
 subst hc hd hc2 hd2
 have ea:its.toArray ++ its2.toArray=(its ++ its2).toArray:=by simp
 refine concat_meets ⟨_,ho,rfl⟩ ⟨_,ho2,rfl⟩ noFill_list_add seq_list_add PySem.F.slot_list_add PySem.F.entry_list_add (PySem.F.args_list_add_2 _ _) (list_addW l b its.toArray its2.toArray n n2 dd dd2 sl sl2 (by simp only[Xz];omega)) ⟨ho,ho2,?_⟩
 rw[ea]
 exact⟨.ref _,_,I.lnew (t':=s.toks) (r.append r2) (by rw[Xw];omega),rfl,q _ I.fresh⟩
end
noncomputable def asI(d:Xa)(k:Int->Prop):Prop:=match d with| .int i=>k i|_=>False
noncomputable def asL(d:Xa)(k:List Xa->Prop):Prop:=match d with| .list ds=>k ds|_=>False
section
variable {H:Hp}{L:Addr->Prop}{v:V}{d:Xa}
theorem Da.intInv{k:Int->Prop}(q:Da G H L v d)(h:asI d k):∃i,v= .int i∧k i:=by
 cases q with
 | int b=>exact⟨b,rfl,h⟩
 | _=>exact h.elim
theorem Da.lstInv{k:List Xa->Prop}(q:Da G H L v d)(h:asL d k):∃a xs ds,v= .ref a∧SqL G H a xs∧Das G H L xs ds∧k ds:=by
 cases q with
 | lst l e r=>exact⟨_,_,_,rfl,.inl e,r,h⟩
 | scr s=>exact⟨_,_,_,rfl,s.sq,.ints _,h⟩
 | _=>exact h.elim
end
noncomputable def d2I(C:Int->Int->Prop)(g:Int->Int->Xa):Xa->Xa->(Xa->Prop)->Prop:=λd e k=>asI d λi=>asI e λj=>C i j∧k (g i j)
noncomputable def Zyu(g:Int->Int->Xa):Xa->Xa->(Xa->Prop)->Prop:=λd e k=>asI d λi=>asI e λj=>k (g i j)
theorem Z8n{C:Int->Int->Prop}{f:Int->Int->Int}:P2s G (rI C λi j=>.int (f i j)) (d2I C λi j=>.int (f i j)):=λH L x y d e k Q hx hy h kk=>by
 obtain⟨i,rfl,h⟩:=hx.intInv h
 obtain⟨j,rfl,h⟩:=hy.intInv h
 exact⟨i,j,rfl,rfl,h.1,kk _ _ (.int _) h.2⟩
structure MulOk(i j:Int):Prop where
 ok:IntMulOk i j
structure Yeh(i j:Int):Prop where
 ok:DivOk i j
structure Ydk(i j:Int):Prop where
 ok:Z85 i j
theorem Z6y{f:Int->Int->Int}:P2s G (rI IntMulOk λi j=>.int (f i j)) (d2I MulOk λi j=>.int (f i j)):=λH L x y d e k Q hx hy h kk=>by
 obtain⟨i,rfl,h⟩:=hx.intInv h
 obtain⟨j,rfl,h⟩:=hy.intInv h
 exact⟨i,j,rfl,rfl,h.1.ok,kk _ _ (.int _) h.2⟩
theorem Z6l{f:Int->Int->Int}:P2s G (rI DivOk λi j=>.int (f i j)) (d2I Yeh λi j=>.int (f i j)):=λH L x y d e k Q hx hy h kk=>by
 obtain⟨i,rfl,h⟩:=hx.intInv h
 obtain⟨j,rfl,h⟩:=hy.intInv h
 exact⟨i,j,rfl,rfl,h.1.ok,kk _ _ (.int _) h.2⟩
theorem Z4e{f:Int->Int->Int}:P2s G (rI Z85 λi j=>.int (f i j)) (d2I Ydk λi j=>.int (f i j)):=λH L x y d e k Q hx hy h kk=>by
 obtain⟨i,rfl,h⟩:=hx.intInv h
 obtain⟨j,rfl,h⟩:=hy.intInv h
 exact⟨i,j,rfl,rfl,h.1.ok,kk _ _ (.int _) h.2⟩
theorem Zka{f:Int->Int->Int}:P2s G (rI0 λi j=>.int (f i j)) (Zyu λi j=>.int (f i j)):=λH L x y d e k Q hx hy h kk=>by
 obtain⟨i,rfl,h⟩:=hx.intInv h
 obtain⟨j,rfl,h⟩:=hy.intInv h
 exact⟨i,j,rfl,rfl,kk _ _ (.int _) h⟩
theorem Zjv{f:Int->Int->Bool}:P2s G (rI0 λi j=>.bl (f i j)) (Zyu λi j=>.bool (f i j)):=λH L x y d e k Q hx hy h kk=>by
 obtain⟨i,rfl,h⟩:=hx.intInv h
 obtain⟨j,rfl,h⟩:=hy.intInv h
 exact⟨i,j,rfl,rfl,kk _ _ (.bl _) h⟩
section
variable {X:Cx}
noncomputable def Ycu(K:Xc):R2:=λx y H Q=>∃(L L':Addr->Prop) (d e:Xa),Da K H L x d∧Da K H L' y e∧Shp d∧Shp e∧Q (.bl (Qs d e)) H
noncomputable def Ycd(K:Xc):R2:=λx y H Q=>∃(L L':Addr->Prop) (d e:Xa),Da K H L x d∧Da K H L' y e∧Shp d∧Shp e∧Q (.bl (!Qs d e)) H
theorem Zne(hu:X.A.units+64<cLine):OpR X (QX .Eq) (Ycu X.K):=by
 intro pins s σ H x y v u Q I rx ry h
 obtain⟨L,L',d,e,h1,h2,s1,s2,q⟩:=h
 obtain⟨as,k1⟩:=h1.reads rfl I rx (Ui s1)
 obtain⟨bs,k2⟩:=h2.reads rfl I ry (Ui s2)
 exact eq_dataH k1 k2 s1 s2 hu ⟨.bl _,H,I,rfl,q⟩
theorem Z53(hu:X.A.units+64<cLine):OpR X (QX .NotEq) (Ycd X.K):=by
 intro pins s σ H x y v u Q I rx ry h
 obtain⟨L,L',d,e,h1,h2,s1,s2,q⟩:=h
 obtain⟨as,k1⟩:=h1.reads rfl I rx (Ui s1)
 obtain⟨bs,k2⟩:=h2.reads rfl I ry (Ui s2)
 exact ne_dataH k1 k2 s1 s2 hu ⟨.bl _,H,I,rfl,q⟩
end
structure Z4x(d:Xa):Prop where
 ok:Shp d
noncomputable def dEq:Xa->Xa->(Xa->Prop)->Prop:=λd e k=>Z4x d∧Z4x e∧k (.bool (Qs d e))
noncomputable def dNe:Xa->Xa->(Xa->Prop)->Prop:=λd e k=>Z4x d∧Z4x e∧k (.bool (!Qs d e))
theorem Zum:P2s G (Ycu G) dEq:=λH L x y d e k Q hx hy h kk=>⟨L,L,d,e,hx,hy,h.1.ok,h.2.1.ok,kk _ _ (.bl _) h.2.2⟩
theorem Ybp:P2s G (Ycd G) dNe:=λH L x y d e k Q hx hy h kk=>⟨L,L,d,e,hx,hy,h.1.ok,h.2.1.ok,kk _ _ (.bl _) h.2.2⟩
noncomputable def Zew:Xa->Bool
 | .none=>true
 | _=>false
theorem Da.isNone{H:Hp}{L:Addr->Prop}{v:V}{d:Xa}(h:Da G H L v d):decide (v= .non)=Zew d:=by
 cases h<;>rfl
noncomputable def Ydt:Xa->Xa->(Xa->Prop)->Prop:=λd e k=>e= .none∧k (.bool (Zew d))
noncomputable def Z8q:Xa->Xa->(Xa->Prop)->Prop:=λd e k=>e= .none∧k (.bool (!Zew d))
theorem Z8e:P2s G (λx y H Q=>y= .non∧Q (.bl (decide (x= .non))) H) Ydt:=λH L x y d e k Q hx hy h kk=>by
 obtain⟨rfl,h⟩:=h
 cases hy
 exact⟨rfl,by rw[hx.isNone];exact kk _ _ (.bl _) h⟩
theorem Zu3:P2s G (λx y H Q=>y= .non∧Q (.bl (!decide (x= .non))) H) Z8q:=λH L x y d e k Q hx hy h kk=>by
 obtain⟨rfl,h⟩:=h
 cases hy
 exact⟨rfl,by rw[hx.isNone];exact kk _ _ (.bl _) h⟩
noncomputable def scD:Xa->Bool
 | .none=>true
 | .bool _=>true
 | .int _=>true
 | .str _=>true
 | _=>false
noncomputable def eqS:Xa->Xa->Bool
 | .none,.none=>true
 | .bool a,.bool b=>a==b
 | .bool a,.int b=>(if a then 1 else 0)==b
 | .int a,.bool b=>a==(if b then 1 else 0)
 | .int a,.int b=>a==b
 | .str a,.str b=>a==b
 | _,_=>false
noncomputable def memS(d:Xa)(ds:List Xa):Bool:=ds.any λe=>eqS e d
theorem Da.toSc{H:Hp}{L:Addr->Prop}{v:V}{d:Xa}(h:Da G H L v d)(s:scD d=true):ScD v d:=by
 cases h with
 | non=>exact .non
 | bl b=>exact .bl b
 | int i=>exact .int i
 | str x=>exact .str x
 | _=>cases s
theorem Da.sc{H:Hp}{L:Addr->Prop}{v:V}{d:Xa}(h:Da G H L v d)(s:scD d=true):Zhm v=true:=by
 cases h.toSc s<;>rfl
theorem Das.sc{H:Hp}{L:Addr->Prop}{vs:List V}{ds:List Xa}(h:Das G H L vs ds):ds.all scD=true->vs.all Zhm=true :=
 Das.ind (Q:=λvs ds=>ds.all scD=true->vs.all Zhm=true) (λ_=>rfl) (λh _ r s=>by
  rw[List.all_cons,XD]at s
  rw[List.all_cons,h.sc s.1,r s.2];rfl) h
theorem Da.eqS{H:Hp}{L:Addr->Prop}{v u:V}{d e:Xa}(h:Da G H L v d)(g:Da G H L u e)(s:scD d=true)(t:scD e=true):eqV v u=L2.eqS d e:=by
 cases h.toSc s<;>cases g.toSc t<;>rfl
theorem Das.memS{H:Hp}{L:Addr->Prop}{v:V}{d:Xa}(h:Da G H L v d)(s:scD d=true){vs:List V}{ds:List Xa}(g:Das G H L vs ds):ds.all scD=true->inV v vs=L2.memS d ds :=
 Das.ind (Q:=λvs ds=>ds.all scD=true->inV v vs=L2.memS d ds) (λ_=>rfl) (λg _ r t=>by
  rw[List.all_cons,XD]at t
  have:=r t.2
  unfold inV L2.memS at*
  rw[List.any_cons,List.any_cons,this,g.eqS h t.1 s]) g
noncomputable def dIn(neg:Bool):Xa->Xa->(Xa->Prop)->Prop:=λd e k=>scD d=true∧match e with
 | .list ds=>ds.all scD=true∧k (.bool (if neg then !memS d ds else memS d ds))
 | .tuple ds=>ds.all scD=true∧k (.bool (if neg then !memS d ds else memS d ds))
 | _=>False
theorem Zss{neg:Bool}:P2s G (rIn G neg) (dIn neg):=λH L x y d e k Q hx hy h kk=>by
 obtain⟨s,h⟩:=h
 cases hy with
 | lst l e r=>exact⟨_,_,rfl,.inl (.inl e),hx.sc s,r.sc h.1,by rw[Das.memS hx s r h.1];exact kk _ _ (.bl _) h.2⟩
 | tup e r=>exact⟨_,_,rfl,.inr (.inl (.inl e)),hx.sc s,r.sc h.1,by rw[Das.memS hx s r h.1];exact kk _ _ (.bl _) h.2⟩
 | scr ks=>exact⟨_,_,rfl,.inl ks.sq,hx.sc s,(Das.ints (G:=G) (H:=H) (L:=L) _).sc h.1,by rw[Das.memS hx s (Das.ints (G:=G) (H:=H) (L:=L) _) h.1];exact kk _ _ (.bl _) h.2⟩
 | _=>exact h.elim
noncomputable def ixD(d e:Xa):Option Xa:=match d,e with
 | .list ds,.int i=>atI ds i
 | .tuple ds,.int i=>atI ds i
 | _,_=>none
noncomputable def dIx:Xa->Xa->(OT->Prop)->Prop:=λd e k=>match ixD d e with|some x=>k (.fz x)|none=>False
theorem Das.atI{H:Hp}{L:Addr->Prop}{xs:List V}{ds:List Xa}{i:Int}{d:Xa}(h:Das G H L xs ds)(e:L2.atI ds i=some d):∃x,L2.atI xs i=some x∧Da G H L x d:=by
 unfold L2.atI at*
 rw[h.length]
 cases q:ixN ds.length i with
 | none=>rw[q]at e;cases e
 | some j=>
  rw[q]at e
  exact h.get e
theorem Z31:P2 G (rIx G) dIx:=λH L x y d e k Q hx hy h kk=>by
 unfold dIx at h
 split at h
 case h_2=>exact h.elim
 rename_i z ez
 have fin:∀v,Da G H L v z->Q v H:=λv q=>kk H v (.fz z) [] (Same.refl _) (.fz (q.wide λa l _=>⟨.inl l,λm=>nomatch m⟩)) .nil (λa m=>nomatch m) h
 cases hx with
 | lst l e1 r=>
  cases hy with
  | int i=>
   obtain⟨v,e2,q⟩:=r.atI (show L2.atI _ i=some z from ez)
   exact .inl ⟨_,_,i,v,rfl,rfl,.inl e1,e2,fin v q⟩
  | _=>cases ez
 | tup e1 r=>
  cases hy with
  | int i=>
   obtain⟨v,e2,q⟩:=r.atI (show L2.atI _ i=some z from ez)
   exact .inr (.inl ⟨_,_,i,v,rfl,rfl,.inl (.inl e1),e2,fin v q⟩)
  | _=>cases ez
 | scr ks=>
  cases hy with
  | int i=>
   obtain⟨v,e2,q⟩:=(Das.ints (G:=G) (H:=H) (L:=L) _).atI (show L2.atI _ i=some z from ez)
   exact .inl ⟨_,_,i,v,rfl,rfl,ks.sq,e2,fin v q⟩
  | _=>cases ez
 | _=>cases ez
theorem Own.list{H:Hp}{L:Addr->Prop}{p:Addr}{xs:List V}{ds:List Xa}(hp:H p=none)(h:Das G H L xs ds):Own G (upd H p (.lst xs)) (λa=>(L a∨H a=none)∧a∉[p]) (.ref p) (.nd (ds.map OT.fz)) [p] :=
 .nd Yh (((h.wide λa l q=>⟨.inl l,λm=>q (by rw[Xu.mp m];exact hp)⟩).same (Yo hp _)).owns)
theorem Zc7{H:Hp}{p:Addr}(hp:H p=none):∀a∈[p],H a=none:=λa m=>by rw[Xu.mp m];exact hp
theorem Zgp(p:Addr):[p].Nodup:=Qm.mpr ⟨λm=>(nomatch m),.nil⟩
noncomputable def dCat:Xa->Xa->(OT->Prop)->Prop:=λd e k=>asL d λds=>asL e λes=>ds.length+es.length≤Xy∧k (.nd ((ds ++ es).map OT.fz))
theorem Zh5:P2 G (Z5g G) dCat:=λH L x y d e k Q hx hy h kk=>by
 obtain⟨a,xs,ds,rfl,e1,r1,h⟩:=hx.lstInv h
 obtain⟨b,ys,es,rfl,e2,r2,h⟩:=hy.lstInv h
 exact⟨a,b,xs,ys,rfl,rfl,e1,e2,by rw[r1.length,r2.length];exact h.1,λp hp=>kk _ _ _ [p] (Yo hp _) (Own.list hp (r1.append r2)) (Zgp p) (Zc7 hp) h.2⟩
noncomputable def n1(k:Xa->Prop)(ds:List Xa):Prop:=match ds with|[d]=>k d|_=>False
noncomputable def n2(k:Xa->Xa->Prop)(ds:List Xa):Prop:=match ds with|[d,e]=>k d e|_=>False
theorem Das.one{H:Hp}{L:Addr->Prop}{vs:List V}{ds:List Xa}{k:Xa->Prop}(q:Das G H L vs ds)(h:n1 k ds):∃v d,vs=[v]∧ds=[d]∧Da G H L v d∧k d:=by
 cases q with
 | nil=>exact h.elim
 | cons q r=>
  cases r with
  | nil=>exact⟨_,_,rfl,rfl,q,h⟩
  | cons _ _=>exact h.elim
theorem Das.two{H:Hp}{L:Addr->Prop}{vs:List V}{ds:List Xa}{k:Xa->Xa->Prop}(q:Das G H L vs ds)(h:n2 k ds):∃v u d e,vs=[v,u]∧ds=[d,e]∧Da G H L v d∧Da G H L u e∧k d e:=by
 cases q with
 | nil=>exact h.elim
 | cons q r=>
  cases r with
  | nil=>exact h.elim
  | cons q' r'=>
   cases r' with
   | nil=>exact⟨_,_,_,_,rfl,rfl,q,q',h⟩
   | cons _ _=>exact h.elim
noncomputable def Zw7:Xa->Option Nat
 | .list ds=>some ds.length
 | .tuple ds=>some ds.length
 | _=>none
noncomputable def Ycn:List Xa->(Xa->Prop)->Prop:=λds k=>n1 (λd=>match Zw7 d with|some n=>k (.int n)|none=>False) ds
theorem Zp2:PNs G (Yeg G) Ycn:=λH L xs ds k Q hx h kk=>by
 obtain⟨v,d,rfl,rfl,q,h⟩:=hx.one h
 cases q with
 | lst l e r=>exact⟨_,_,rfl,.inl (.inl e),by rw[r.length];exact kk _ _ (.int _) h⟩
 | tup e r=>exact⟨_,_,rfl,.inr (.inl (.inl e)),by rw[r.length];exact kk _ _ (.int _) h⟩
 | scr ks=>exact⟨_,_,rfl,.inl ks.sq,by rw[(Das.ints (G:=G) (H:=H) (L:=L) _).length];exact kk _ _ (.int _) h⟩
 | _=>exact h.elim
noncomputable def Ydm:List Xa->(Xa->Prop)->Prop:=λds k=>n1 (λd=>asI d λi=>k (.int (if i<0 then -i else i))) ds
theorem Zrs:PNs G (λxs H Q=>∃i,xs=[.int i]∧Q (.int (if i<0 then -i else i)) H) Ydm:=λH L xs ds k Q hx h kk=>by
 obtain⟨v,d,rfl,rfl,q,h⟩:=hx.one h
 obtain⟨i,rfl,h⟩:=q.intInv h
 exact⟨i,rfl,kk _ _ (.int _) h⟩
noncomputable def Ycm:List Xa->(Xa->Prop)->Prop:=λds k=>n2 (λd e=>asI d λi=>asI e λj=>k (.int (if j>i then j else i))) ds
theorem Z3a:PNs G (λxs H Q=>∃i j,xs=[.int i,.int j]∧Q (.int (if j>i then j else i)) H) Ycm:=λH L xs ds k Q hx h kk=>by
 obtain⟨v,u,d,e,rfl,rfl,q,q',h⟩:=hx.two h
 obtain⟨i,rfl,h⟩:=q.intInv h
 obtain⟨j,rfl,h⟩:=q'.intInv h
 exact⟨i,j,rfl,kk _ _ (.int _) h⟩
noncomputable def Ycw:List Xa->(Xa->Prop)->Prop:=λds k=>n2 (λd e=>asI d λi=>asI e λj=>k (.int (if j<i then j else i))) ds
theorem Z3l:PNs G (λxs H Q=>∃i j,xs=[.int i,.int j]∧Q (.int (if j<i then j else i)) H) Ycw:=λH L xs ds k Q hx h kk=>by
 obtain⟨v,u,d,e,rfl,rfl,q,q',h⟩:=hx.two h
 obtain⟨i,rfl,h⟩:=q.intInv h
 obtain⟨j,rfl,h⟩:=q'.intInv h
 exact⟨i,j,rfl,kk _ _ (.int _) h⟩
noncomputable def Zo8:Xa->Option (List Xa)
 | .list ds=>some ds
 | .tuple ds=>some ds
 | _=>none
section
variable {X:Cx}{io:List Nat}{p c:Bool}{a:Expr}{ma:MEt}{pos:Pos}
noncomputable def Ycp(m:MEt):MEt:=λδ K=>m δ λr δ'=>asI r.data λi=>K (.fz (.int (-i))) δ'
theorem Zmc(ha:ME X io p c a ma):ME X io p true (.UnaryOp .USub a pos) (Ycp ma):=by
 obtain⟨_,A,s⟩:=ha
 exact⟨_,Z9w Z6d A,λC H σ δ fp ex K Q R h k=>s C H σ δ fp ex _ _ R h λH' v r δ' fp' new r1 h1=>by
  obtain⟨i,rfl,h1⟩:=(r1.da R).intInv h1
  exact⟨i,rfl,k H' _ _ δ' fp' [] (.fz r1.base r1.stp (.int _)) h1⟩⟩
noncomputable def Zrp(T:String):Xa->Bool
 | .none=>false
 | .bool _=>T=="bool"||T=="int"
 | .int _=>T=="int"
 | .str _=>T=="str"
 | .list _=>T=="list"
 | .tuple _=>T=="tuple"
 | .dict _=>false
noncomputable def Ydy(T:String)(m:MEt):MEt:=λδ K=>m δ λr δ'=>Ziz r.data=false∧K (.fz (.bool (Zrp T r.data))) δ'
end
section
variable {prog:X6}{w:Qq}{A:Qo}{E:Xf->Xh->Prop}{h:Heap}{g:Array GenState}{d:Drawn}{t:Nat}{os:OsState}{a C:Addr}{o:Obj}{K:Xc}
theorem Z13(M:Model)(hx:h.get? a=some o)(hc:o.cls= .ref C):JM M h (typeOf (.ref a)) (.ref C):=hc▸(JM.ld hx).andThen .now
theorem Zxj{R:Result->Xh->Prop}(X:K.In h)(Z:Zgj K C)(hx:h.get? a=some o)(hc:o.cls= .ref C)(hq:R (.ok (.ret (.ref C))) ⟨h,g,d,t,os⟩) :
  U6 (XX prog w) A (.call (.builtin "getset_descriptor.__get__") ⟨[.builtin "object.__class__",.ref a,.ref C],[]⟩) R ⟨h,g,d,t,os⟩:=by
 have L1:JM (XX prog w) h (isSubtype (.ref C) (.type (".".intercalate ("object.__class__".cutAt '.').dropLast))) true:=by
  rw[F.owner_object_class]
  exact PySem.W.looks_subIn X Z.isO
 have T5:(⟨h,g,d,t,os⟩:Xh).TypeIs (.builtin "object.__class__") "getset_descriptor" :=F.typeOf_object_class
 refine codeAny_call_builtin F.slot_gs_get.plain F.entry_gs_get (F.slot_gs_get.check _ _ _ _ _ _ _ _ T5 (F.args_gs_get _ _ _) ?_)
 repeat (any_goals (first|assumption|(with_reducible refine Ux hx ?_;rw[hc])|(with_reducible refine Xb (JM.at L1 ?_))|(with_reducible refine JM.at L1 ?_)|wp_step))
 refine⟨Code.quiet_builtin _ (by decide +kernel),JT F.entry_object_class ?_⟩
 repeat (any_goals (first|assumption|(with_reducible refine Ux hx ?_;rw[hc])|wp_step))
theorem Zqg{tk:Tok}{Q:Fin->Xh->Prop}(X:K.In h)(Z:Zgj K C)(hx:h.get? a=some o)(hc:o.cls= .ref C)(hq:Q (.done (.ret (.ref C))) ⟨h,g,d,t,os⟩) :
  XC (XX prog w) A (Bo.«object.__getattribute__» ⟨[.ref a,.str "__class__" tk],[]⟩) Q E ⟨h,g,d,t,os⟩:=by
 have T5:(⟨h,g,d,t,os⟩:Xh).TypeIs (.builtin "object.__class__") "getset_descriptor" :=F.typeOf_object_class
 have g5:=F.typeOf_object_class
 have g6:=F.slot_gs_get.lookup
 have g7:=F.slot_gs_set.lookup
 have L4:=PySem.W.looks_findIn (M:=XX prog w) X Z.cl
 repeat (any_goals (first|assumption|(with_reducible refine Ux hx ?_;rw[hc])|(with_reducible refine Xb (JM.at L4 ?_))|(with_reducible refine JM.at L4 ?_)|wp_step))
 refine Zxj X Z hx hc ?_
 repeat (any_goals (first|assumption|wp_step))
theorem Zqy{M:Model}{nameV:Xf}{Q:Unit->Xh->Prop}(X:K.In h)(Z:Zgj K C)(hx:h.get? a=some o)(hc:o.cls= .ref C)(hq:Q () ⟨h,g,d,t,os⟩) :
  XC M A (checkBuiltinCall "BaseException.__getattribute__" ⟨[.ref a,nameV],[]⟩) Q E ⟨h,g,d,t,os⟩:=by
 have e1:builtinKind "BaseException.__getattribute__"=some .slot:=by decide +kernel
 have e2:splitId "BaseException.__getattribute__"=some ("BaseException","__getattribute__"):=by decide +kernel
 have L1:=PySem.W.looks_subIn (M:=M) X Z.isB
 have e3:=F.args_bexc_ga (.ref a) nameV
 simp only[checkBuiltinCall,e1,e2]
 refine Xb ?_
 unfold isInstance
 repeat (first|(with_reducible refine Ux hx ?_;rw[hc])|(with_reducible refine Xb (JM.at L1 ?_))|(with_reducible refine JM.at L1 ?_)|wp_step)
 exact hq
theorem Zuk{tk:Tok}{R:Result->Xh->Prop}(X:K.In h)(Z:Zgj K C)(hx:h.get? a=some o)(hc:o.cls= .ref C)(hq:R (.ok (.ret (.ref C))) ⟨h,g,d,t,os⟩) :
  U6 (XX prog w) A (.call (.builtin "BaseException.__getattribute__") ⟨[.ref a,.str "__class__" tk],[]⟩) R ⟨h,g,d,t,os⟩ :=
 codeAny_call_builtin F.excAttr_ValueError.ga.plain F.entry_bexc_ga (Zqy X Z hx hc (Zqg X Z hx hc hq))
theorem Z3y{tk:Tok}{fill expr:Bool}{Q:Xf->Xh->Prop}(X:K.In h)(Z:Zgj K C)(hx:h.get? a=some o)(hc:o.cls= .ref C)(hq:Q (.ref C) ⟨h,g,d,t,os⟩) :
  XC (XX prog w) A (getAttrBy (.ref a) (.str "__class__" tk) fill expr) Q E ⟨h,g,d,t,os⟩:=by
 have f3:=F.excAttr_ValueError.ga.bind (.ref a)
 have y0:(expr&&onTheHeap (Value.builtin "BaseException.__getattribute__"))=false:=by cases expr<;>rfl
 have y2:(Value.builtin "BaseException.__getattribute__"==Value.builtin "object.__getattribute__")=false:=by decide +kernel
 have y1:(onTheHeap (Qn C)&&Value.builtin "BaseException.__getattribute__"==Value.builtin "object.__getattribute__")=false:=by rw[y2];rfl
 have L2:=PySem.W.looks_findIn (M:=XX prog w) X Z.ga
 have L3:=PySem.W.looks_findIn (M:=XX prog w) X Z.gt
 repeat (any_goals (first|assumption|(with_reducible refine Ux hx ?_;rw[hc])|(with_reducible refine JM.at L2 ?_)|(with_reducible refine JM.at L3 ?_)|(with_reducible refine Xb (JM.at L2 ?_))|(with_reducible refine Xb (JM.at L3 ?_))|wp_step))
 refine Zuk X Z hx hc ?_
 repeat (any_goals (first|assumption|wp_step))
theorem Zvu{Q:Option Xf->Xh->Prop}(X:K.In h)(Z:Zgj K C)(hx:h.get? a=some o)(hc:o.cls= .ref C)(hq:Q (some (.ref C)) ⟨h,g,d,t+1,os⟩) :
  XC (XX prog w) A (getAttr? (.ref a) "__class__") Q E ⟨h,g,d,t,os⟩:=by
 unfold getAttr? getAttrBy?
 repeat (any_goals (first|assumption|with_reducible apply Z3y X Z hx hc|wp_step))
end
theorem Zx9{K:Xc}{a C:Addr}(Z:Zgj K C):PySem.W.KitX K (.ref a) (.ref C) (λh=>∃o,h.get? a=some o∧o.cls= .ref C) where
 ty:=λM h _ p=>let⟨_,hx,hc⟩:=p;Z13 M hx hc
 it:=λM h X _=>by
  have z:=Z.isC
  unfold PySem.W.clsIn at z
  split at z
  ·rename_i ho
   intro A' Q' E' s' k q
   unfold isType loadHead
   exact Xb (wpAny_loadPart (k _ _ (X _ _ ho)) (Xl q))
  ·cases z
 ne:=λh tp dd its n sl X htp=>by
  have z:=Z.isC
  refine Bu.mpr λq=>?_
  have e:C=tp:=Qn.inj (beq_iff_eq.mp q)
  subst e
  unfold PySem.W.clsIn at z
  split at z
  ·rename_i ho
   have z:=(X _ _ ho).symm.trans htp
   cases z
  ·cases z
 ca:=fun{_ _ _ _ _ s} X p k=>by
  obtain⟨h,g,d,t,os⟩:=s
  obtain⟨_,hx,hc⟩:=p
  exact Zvu X Z hx hc k
variable {G:Xc}
noncomputable def tyD:Xa->String
 | .none=>"NoneType"
 | .bool _=>"bool"
 | .int _=>"int"
 | .str _=>"str"
 | .list _=>"list"
 | .tuple _=>"tuple"
 | .dict _=>"dict"
theorem Zz5{K:Xc}{T:String}{d:Xa}(h:T="int"∨T="bool"∨T="str"∨T="list"∨T="tuple")(hd:∀kvs,d≠ .dict kvs):Vj K (.type (tyD d)) (.type T)=some (Zrp T d):=by
 rcases h with rfl|rfl|rfl|rfl|rfl<;>cases d<;>first|rfl|(exact absurd rfl (hd _))|(unfold Vj PySem.W.kitCls;rfl)|(simp only[tyD,Zrp];decide +kernel)
noncomputable def Yab(G:Xc):List V->Hp->VK->Prop:=λxs H Q=>∃(x:V) (T:String) (L:Addr->Prop) (d:Xa),xs=[x,.ty T]∧Da G H L x d∧Ziz d=false∧(T="int"∨T="bool"∨T="str"∨T="list"∨T="tuple")∧Q (.bl (Zrp T d)) H
theorem Zsf{X:Cx}(hK:X.K=G):Zdt X (.builtin "isinstance") (Yab G):=by
 subst hK
 intro pins s σ H xs us Q I r h
 obtain⟨x,T,L,d,rfl,q,hf,hT,h⟩:=h
 obtain⟨u,w',rfl,r1,r2⟩:=vals2 r
 cases(show w'=Value.type T from r2)
 have fin:∀tk:Nat,EP X pins σ Q (.bool (Zrp T d)) { s with toks:=tk }:=λtk=>⟨.bl _,H,I.tok tk,rfl,h⟩
 cases q with
 | non=>exact Za7 I r1 .non (Zz5 (d:=.none) hT λ_ z=>by cases z) fin
 | bl b=>exact Za7 I r1 (.bl b) (Zz5 (d:=.bool b) hT λ_ z=>by cases z) fin
 | int b=>exact Za7 I r1 (.int b) (Zz5 (d:=.int b) hT λ_ z=>by cases z) fin
 | str b=>exact Za7 I r1 (.str b) (Zz5 (d:=.str b) hT λ_ z=>by cases z) fin
 | lst l e qs=>
  rename_i ds
  rcases e with e|⟨o,e⟩
  ·exact Za7 I r1 (.lst e) (Zz5 (d:=.list ds) hT λ_ z=>by cases z) fin
  ·exact Za7 I r1 (.frz e) (Zz5 (d:=.list ds) hT λ_ z=>by cases z) fin
 | tup e qs=>
  rename_i ds
  exact Za7 I r1 (.tup e) (Zz5 (d:=.tuple ds) hT λ_ z=>by cases z) fin
 | scr ks=>
  rename_i a ns
  cases(show u=Qn a from r1)
  obtain⟨its,vs,⟨o,n,ho,hc,hd,hs⟩,_⟩:=I.list (ks.sq (H:=H))
  exact Q3 PySem.W.kitx_list I.kIn ⟨o,ho,hc⟩ (Zz5 (d:=.list (ns.map Xk)) hT λ_ z=>by cases z) (λz=>nomatch z) fin
 | exc Z hn e=>
  rename_i a C x
  cases(show u=Qn a from r1)
  obtain⟨⟨o,vs,ho,hc,_⟩,_,_⟩:=(show ObjOk X.prog X.w H s.heap a (.ext (ExO C a))from I.hok a _ e)
  refine Q3 (Zx9 Z) I.kIn ⟨o,ho,hc⟩ (b:=Zrp T (exD x)) ?_ (λz=>nomatch z) fin
  rcases hT with rfl|rfl|rfl|rfl|rfl
  ·exact Z.k1
  ·exact Z.k2
  ·exact Z.k3
  ·exact Z.k4
  ·exact Z.k5
 | fn _=>cases hf
 | dic _ _ _ _=>unfold dcD Ziz at hf;cases hf
section
variable {X:Cx}{io:List Nat}{p c p' c':Bool}{a b e:Expr}{ma m:MEt}{pos pp p2:Pos}{K:Xc}
theorem Zg3{T:Str}{T':String}(hT:T'="int"∨T'="bool"∨T'="str"∨T'="list"∨T'="tuple")(hg:Gl X "isinstance")(hm:X.mg "isinstance"=none)(hv:Qh "isinstance"=some (.builtin "isinstance"))
  (hg2:Gl X T) (hm2:X.mg T=none) (hv2:Qh T=some (.type T')) (ha:ME X io p c a ma) (hn:T≠"__name__" :=by decide) (hd:(T==("__debug__" : Str))=false:=by decide)
  (he:Xo [a,.Name T p2] X.env=(false,eval a X.env) :: Xo [.Name T p2] X.env:=by rfl) (he2:Xo [.Name T p2] X.env=(false,eval (.Name T p2) X.env) :: Xo [] X.env:=by rfl) (hpl:(JF pos (Xo [.Name T p2] X.env)).any (·.1)=false:=by rfl) :
  ME X io p true (.Call (.Name "isinstance" pp) [a,.Name T p2] [] pos) (Ydy T' ma):=by
 obtain⟨_,A,s⟩:=ha
 refine⟨_,Zlg (Zsf rfl) hg hm hv (Za5 A (Za5 (Z0h (v:=.ty T') hg2 hm2 hv2 rfl hn hd) Zen he2) he) (by decide) (by decide) he hpl,?_⟩
 intro C H σ δ fp ex K' Q R h k
 refine s C H σ δ fp ex _ _ R h λH' v r δ' fp' new r1 h1=>?_
 exact⟨v,T',_,_,rfl,r1.da R,h1.1,hT,k H' _ _ δ' fp' [] (.fz r1.base r1.stp (.bl _)) h1.2⟩
noncomputable abbrev MOt:=Zj->(Option Int->Zj->Prop)->Prop
noncomputable def MO(X:Cx)(io:List Nat)(p:Bool)(e:Option Expr)(m:MOt):Prop:=∃t,PO X e t∧∀(C:MC X.K) (H:Hp) (σ:St) (δ:Zj) (fp:Fp) (ex:Addr->Prop) (K:Option Int->Zj->Prop) (Q:Option Int->Hp->Prop),Rel C io H σ δ fp ex->m δ K ->
 (∀ H' b δ' fp',Rel C io H' σ δ' fp' ex->Stp p H δ fp H' δ' fp'->K b δ'->Q b H')->t σ H Q
noncomputable def Ztq:MOt:=λδ K=>K none δ
noncomputable def Z6r(m:MEt):MOt:=λδ K=>m δ λr δ'=>asI r.data λi=>K (some i) δ'
theorem Zhx:MO X io true none Ztq:=⟨_,Z2r,λC H σ δ fp ex K Q R h k=>k H none δ fp R (.refl _ _ _ _) h⟩
theorem Zbu(h:ME X io p c e m):MO X io p (some e) (Z6r m):=by
 obtain⟨_,A,s⟩:=h
 exact⟨_,Z2s A,λC H σ δ fp ex K Q R h k=>s C H σ δ fp ex _ _ R h λH' v r δ' fp' new r1 h1=>by
  obtain⟨i,rfl,h1⟩:=(r1.da R).intInv h1
  exact⟨i,rfl,k H' _ δ' fp' r1.base r1.stp h1⟩⟩
noncomputable def cutD(ds:List Xa)(lo hi:Option Int):List Xa:=(ds.drop (HT.sIx ds.length 0 lo)).take (HT.sIx ds.length ds.length hi-HT.sIx ds.length 0 lo)
theorem Das.cut{H:Hp}{L:Addr->Prop}{xs:List V}{ds:List Xa}(h:Das G H L xs ds)(lo hi:Option Int):Das G H L (Z37 xs lo hi) (cutD ds lo hi):=by
 unfold Z37 cutD
 rw[h.length]
 exact(h.drop _).take _
noncomputable def mSl(m:MEt)(ml mh:MOt):MEt:=λδ K=>m δ λr δ1=>ml δ1 λlo δ2=>mh δ2 λhi δ3=>asL r.data λds=>K (.nd ((cutD ds lo hi).map OT.fz)) δ3
theorem Zqx{lo hi:Option Expr}{ml mh:MOt}(ha:ME X io true c a ma)(hl:MO X io true lo ml)(hh:MO X io true hi mh):ME X io true c (.Subscript a (.Slice lo hi none p2) pos) (mSl ma ml mh):=by
 obtain⟨_,A,s⟩:=ha
 obtain⟨_,B,sl⟩:=hl
 obtain⟨_,D,sh⟩:=hh
 refine⟨_,Zwu (Zxd rfl) A B D,?_⟩
 intro C H σ δ fp ex K' Q R h k
 refine s C H σ δ fp ex _ _ R h λH1 v r δ1 fp1 new r1 h1=>?_
 refine sl C H1 σ δ1 fp1 ex _ _ r1.base h1 λH2 l δ2 fp2 R2 S2 h2=>?_
 refine sh C H2 σ δ2 fp2 ex _ _ R2 h2 λH3 u δ3 fp3 R3 S3 h3=>?_
 have s2:Same H1 H2:=λb o e=>S2.keep b o e (.inl rfl)
 have s3:Same H2 H3:=λb o e=>S3.keep b o e (.inl rfl)
 obtain⟨e1,e2⟩:=r1.stp.env rfl
 obtain⟨e3,e4⟩:=S2.env rfl
 obtain⟨e5,e6⟩:=S3.env rfl
 have q:=((r1.da R).same s2).same s3
 obtain⟨a',xs,ds,rfl,e,qs,h3⟩:=q.lstInv h3
 refine⟨a',xs,rfl,e,λp hp=>?_⟩
 have S:=(r1.stp.trans S2).trans S3
 refine k _ _ _ δ3 fp3 [p] (RE.tree R R3 S (Yo hp _) (Zc7 hp) (Zgp p) (Own.list hp ((qs.cut l u).wide λa l _=>?_))) h3
 rw[e6,e4]
 exact l
theorem Owns.set{H:Hp}{L:Addr->Prop}{x:V}{r:OT}(hr:Own G H L x r []):∀{xs:List V} {ts:List OT} {as:List Addr} (j:Nat),Owns G H L xs ts as->∃bs,Owns G H L (xs.set j x) (ts.set j r) bs∧bs.Sublist as
 | _,_,_,_,.nil=>⟨[],.nil,.refl _⟩
 | _,_,_,0,.cons k t=>⟨_,.cons hr t,by simp⟩
 | _,_,_,j+1,.cons (as:=as) k t=>by
  obtain⟨bs,o,s⟩:=Owns.set hr j t
  exact⟨as ++ bs,.cons k o,List.Sublist.append_left s as⟩
theorem Owns.get{H:Hp}{L:Addr->Prop}:∀{xs:List V} {ts:List OT} {as:List Addr} {j:Nat} {t:OT},Owns G H L xs ts as->ts[j]? =Bm t->∃x bs,xs[j]? =Bm x∧Own G H L x t bs∧bs.Sublist as
 | _,_,_,_,_,.nil,e=>by simp at e
 | _,_,_,0,_,.cons k _,e=>by simp at e;subst e;exact⟨_,_,rfl,k,List.sublist_append_left _ _⟩
 | _,_,_,j+1,t,.cons _ r,e=>by
  obtain⟨x,bs,h1,h2,h3⟩:=Owns.get (j:=j) (t:=t) r (by simpa using e)
  exact⟨x,bs,by simpa using h1,h2,h3.trans (List.sublist_append_right _ _)⟩
theorem Rel.top{C:MC G}{H:Hp}{σ:St}{δ:Zj}{fp:Fp}{ex:Addr->Prop}{i:Nat}{ts ts':List OT}{a':Addr}{xs ys:List V}{bs bs':List Addr}(R:Rel C io H σ δ fp ex)(hi:δ[i]? =some (some (.nd ts)))(hv:σ[i]? =some (some (.ref a')))
  (hf:fp i=a' :: bs) (hx:H a'=some (.lst xs)) (o:Owns G H (Lf C fp ex) ys ts' bs') (hs:bs'.Sublist bs) :
  Rel C io (upd H a' (.lst ys)) σ (δ.set i (some (.nd ts'))) (fpu fp i (a' :: bs')) ex∧Stp false H δ fp (upd H a' (.lst ys)) (δ.set i (some (.nd ts'))) (fpu fp i (a' :: bs')):=by
 have nd:=R.nd i
 rw[hf]at nd
 have hn:=Qm.mp nd
 have hm:a'∈fp i:=by rw[hf];exact .head _
 have ne':∀a,¬Foot fp a->a≠a':=λa h z=>h ⟨i,by rw[z];exact hm⟩
 have kp:∀b o,H b=some o->b≠a'->upd H a' (.lst ys) b=some o:=λb o e n=>by rw[Z4 n];exact e
 have sub:∀a,a∈a' :: bs'->a∈fp i:=λa m=>by
  rw[hf]
  rcases Xr.mp m with rfl|m
  ·exact .head _
  ·exact .tail _ (hs.subset m)
 have o':Owns G (upd H a' (.lst ys)) (Lf C (fpu fp i (a' :: bs')) (exu ex [])) ys ts' bs':=by
  have f0:∀a,¬Foot fp a->¬Foot (fpu fp i (a' :: bs')) a:=λa h z=>by
   rcases z.of_u with z|⟨j,_,z⟩
   ·exact h ⟨i,sub a z⟩
   ·exact h ⟨j,z⟩
  have f1:∀a (zs:MuO),Lf C fp ex a->Rd H a zs.ho->Lf C (fpu fp i (a' :: bs')) (exu ex []) a∧Rd (upd H a' (.lst ys)) a zs.ho:=λa zs l q=>by
   refine⟨⟨f0 a l.1,λz=>l.2.1 (Zdj.mp z),l.2.2⟩,?_⟩
   rcases q with q|⟨u,q⟩
   ·exact .inl (kp a _ q (ne' a l.1))
   ·exact .inr ⟨u,kp a _ q (ne' a l.1)⟩
  have f2:∀a (zs:ImO),H a=some zs.ho->upd H a' (.lst ys) a=some zs.ho:=λa zs q=>kp a _ q λz=>ImO.nl q (z▸hx)
  exact o.frame f1 f2 λa m zs q=>kp a _ q λz=>hn.1 (hs.subset (z▸m))
 have key:=R.change (new:=[]) (as':=a' :: bs') (t':=.nd ts') (H':=upd H a' (.lst ys)) hi hv (λb o e nb=>kp b o e λz=>nb (by rw[z];exact hm)) (λb e=>by
   by_cases q:b=a'
   ·subst q;rw[Yh]at e;cases e
   ·rwa[Z4 q]at e) (.nd Yh o') (Qm.mpr ⟨λm=>hn.1 (hs.subset m),hn.2.sublist hs⟩) (λa m=>.inl (sub a m)) (λa m=>nomatch m)
 exact⟨key.1.drop λa z=>.inl z,key.2⟩
end
variable {G:Xc}
section
variable {X:Cx}{io:List Nat}{p c p' c':Bool}{a b e:Expr}{ma m mi mj:MEt}{pos pp p2 apos cpos px:Pos}{K:Xc}{i:Nat}{x:Str}
theorem Rel.ownNd{C:MC G}{H:Hp}{σ:St}{δ:Zj}{fp:Fp}{ex:Addr->Prop}{ts:List OT}(R:Rel C io H σ δ fp ex)(hi:δ[i]? =some (some (.nd ts))) :
  ∃a' xs bs,σ[i]? =some (some (.ref a'))∧H a'=some (.lst xs)∧Owns G H (Lf C fp ex) xs ts bs∧fp i=a' :: bs:=by
 obtain⟨v,e,o⟩:=R.own i _ hi
 generalize hf:fp i=as at o
 cases o with
 | nd h r=>exact⟨_,_,_,e,h,r,rfl⟩
noncomputable def Zj1(i:Nat)(m:MEt):MSt:=λD δ=>match δ[i]? with
 | some (some (.nd _))=>m δ λr δ1=>match δ1[i]? with
  | some (some (.nd ts))=>ts.length<Xy∧D.nx (δ1.set i (some (.nd (ts ++ [.fz r.data]))))
  | _=>False
 | _=>False
theorem Zaj(i:Nat)(he:ME X io p true e m)(hN:X.N[i]? =some x:=by rfl)(hv:Vis X.env.scope x:=by first|exact QB rfl|exact Qw (QB rfl)|exact Qw (Qw rfl))(hd:(x==("__debug__" : Str))=false:=by decide)
  (hcd:(x==("__classdict__" : Str))=false:=by decide)
  (hbase:VN (.Name x px) "append" X.env (eval (.Name x px) X.env)=eval (.Name x px) X.env:=by rfl)
  (hfew:((JF cpos (Xo [e] X.env)).all (λx=>!x.1)&&(backToKw cpos (Um [] X.env)).all (λx=>x.1.isSome)
   &&decide ([e].length+([]:List VB).length+(if([]:List VB).isEmpty then 0 else 1)<30))=true:=by rfl)
  (hline:(apos.endLine==cpos.line)=true:=by rfl) (hs:Xo [e] X.env=(false,eval e X.env) :: Xo [] X.env:=by rfl) (hplain:(JF cpos (Xo [] X.env)).any (·.1)=false:=by rfl)
  (hsw:VL (.Call (.Attribute (.Name x px) "append" apos) [e] [] cpos) none pos.line X.env=pure false:=by rfl) :
  MS X io (.Expr (.Call (.Attribute (.Name x px) "append" apos) [e] [] cpos) pos) (Zj1 i m):=by
 obtain⟨_,A,s⟩:=he
 refine⟨_,Zoe (Zsr Vl PySem.F.slot_list_append PySem.F.type_list_append Zmj (pv i hN hv hd hcd) (Za5 A Zen hs) hbase hfew hline hs hplain) hsw,λC H σ δ fp ex D D' R h E=>?_⟩
 unfold Zj1 at h
 split at h
 case h_2=>exact h.elim
 rename_i ts0 hi0
 obtain⟨a',xs0,bs0,hv0,hx0,_,_⟩:=R.ownNd hi0
 refine⟨_,hv0,.inl ⟨rfl,xs0,.inl (.inl hx0)⟩,?_⟩
 refine s C H σ δ fp ex _ _ R h λH1 v r δ1 fp1 new r1 h1=>?_
 split at h1
 case h_2=>exact h1.elim
 rename_i ts1 hi1
 have R1:=r1.base
 obtain⟨a1,xs1,bs1,hv1,hx1,o1,hf1⟩:=R1.ownNd hi1
 rw[hv0]at hv1
 cases hv1
 have q:=(r1.da R).wide (L':=Lf C fp1 ex) λa l _=>l rfl
 refine⟨a',xs1,v,rfl,rfl,hx1,by rw[o1.length];exact h1.1,?_⟩
 have o2:=o1.snoc (.fz q)
 obtain⟨R2,S2⟩:=R1.top hi1 hv0 hf1 hx1 o2 (by simp)
 exact E.nx _ σ _ _ R2 (r1.stp.kp.trans S2.kp) h1.2
noncomputable def Z4l(i:Nat)(m mi mj:MEt):MSt:=λD δ=>m δ λr δ1=>match δ1[i]? with
 | some (some (.nd ts))=>mi δ1 λn _=>asI n.data λk=>match ixN ts.length k with
  | some j=>match ts[j]? with
   | some (.nd us)=>mj δ1 λn' _=>asI n'.data λk'=>match ixN us.length k' with
    | some j'=>D.nx (δ1.set i (some (.nd (ts.set j (.nd (us.set j' (.fz r.data)))))))
    | none=>False
   | _=>False
  | none=>False
 | _=>False
theorem SE.pureAfter{t:TE}{C:MC G}{H:Hp}{σ:St}{δ:Zj}{fp:Fp}{ex:Addr->Prop}{K':OT->Zj->Prop}{Q:VK}(s:SE G io true c t m)(R:Rel C io H σ δ fp ex)(h:m δ K')(k:∀H' v r,Rel C io H' σ δ fp ex->Same H H'->Da G H' (λa=>c=true->Lf C fp ex a) v r.data->K' r δ->Q v H'):t σ H Q :=
 s C H σ δ fp ex _ _ R h λH1 v r δ1 fp1 new r1 h1=>by
  obtain⟨e1,e2⟩:=r1.stp.env rfl
  have q:=r1.da R
  have R1:=r1.base
  rw[e1]at R1 h1
  rw[e2]at R1 q
  exact k H1 v r R1 (λb o e=>r1.stp.keep b o e (.inl rfl)) q h1
theorem Owns.deep{H:Hp}{L:Addr->Prop}{b':Addr}{ws ws':List V}{us us':List OT}(hb:H b'=Bm (HO.lst ws))(hL:¬L b')(hc:∀cs,Owns G H L ws us cs->∃cs',Owns G H L ws' us' cs'∧cs'.Sublist cs) :
  ∀{xs:List V} {ts:List OT} {as:List Addr} {j:Nat},Owns G H L xs ts as->as.Nodup->xs[j]? =Bm (.ref b')->ts[j]? =Bm (.nd us)->∃as',Owns G (upd H b' (.lst ws')) L xs (ts.set j (.nd us')) as'∧as'.Sublist as∧b'∈as
 | _,_,_,_,.nil,_,e,_=>by simp at e
 | _,_,_,0,.cons (as:=as) (bs:=bs) k t,nd,e,e'=>by
  simp at e e'
  subst e e'
  have nd':=Vh.mp nd
  have kp:∀a o,a≠b'->H a=Bm o->upd H b' (.lst ws') a=Bm o:=λa o n q=>by rw[Z4 n];exact q
  have f1:∀a (zs:MuO),L a->Rd H a zs.ho->L a∧Rd (upd H b' (.lst ws')) a zs.ho:=λa zs l q=>⟨l,by
   have na:a≠b':=λz=>hL (z▸l)
   rcases q with q|⟨u,q⟩
   ·exact .inl (kp a _ na q)
   ·exact .inr ⟨u,kp a _ na q⟩⟩
  have f2:∀a (zs:ImO),H a=Bm zs.ho->upd H b' (.lst ws') a=Bm zs.ho:=λa zs q=>kp a _ (λz=>ImO.nl q (z▸hb)) q
  cases k with
  | nd h r=>
   rename_i xs0 as0
   rw[hb]at h
   cases h
   have nd2:=Qm.mp nd'.1
   obtain⟨cs',o',s'⟩:=hc _ r
   refine⟨b' :: cs' ++ bs,.cons (.nd Yh (o'.frame f1 f2 λa m zs q=>kp a _ (λz=>nd2.1 (s'.subset (z▸m))) q)) (t.frame f1 f2 λa m zs q=>kp a _ (λz=>nd'.2.2 b' (.head _) a m z.symm) q),List.Sublist.append_right (List.Sublist.cons₂ _ s') bs,Vi _ (.head _)⟩
 | _,_,_,j+1,.cons (as:=as) (bs:=bs) k t,nd,e,e'=>by
  have nd':=Vh.mp nd
  obtain⟨as',o,s,m⟩:=Owns.deep hb hL hc (j:=j) t nd'.2.1 (by simpa using e) (by simpa using e')
  have nb:b'∉as:=λz=>nd'.2.2 b' z b' m rfl
  refine⟨as ++ as',.cons ?_ o,List.Sublist.append_left s as,Qc _ m⟩
  have kp:∀a o,a≠b'->H a=Bm o->upd H b' (.lst ws') a=Bm o:=λa o n q=>by rw[Z4 n];exact q
  refine k.frame (λa zs l q=>⟨l,?_⟩) (λa zs q=>kp a _ (λz=>ImO.nl q (z▸hb)) q) λa m' zs q=>kp a _ (λz=>nb (z▸m')) q
  have na:a≠b':=λz=>hL (z▸l)
  rcases q with q|⟨u,q⟩
  ·exact .inl (kp a _ na q)
  ·exact .inr ⟨u,kp a _ na q⟩
theorem Zhv(i:Nat)(he:ME X io p true e m)(hj:ME X io true c a mi)(hk:ME X io true c' b mj)(hPa:Zhz a)(hN:X.N[i]? =some x:=by rfl)(hv:Vis X.env.scope x:=by first|exact QB rfl|exact Qw (QB rfl)|exact Qw (Qw rfl))(hd:(x==("__debug__" : Str))=false:=by decide)
  (hcd:(x==("__classdict__" : Str))=false:=by decide)
  (hpg:∀{to ti:TE},PE X (.Subscript (.Name x px) a pp) to->PE X b ti->PG X (.Subscript (.Subscript (.Name x px) a pp) b p2) (Ydu to ti Z5m):=by intro _ _ A B;exact Z5i A B set_list)
  (hs:swapsWithSole [.Subscript (.Subscript (.Name x px) a pp) b p2] e pos.line X.env=pure false:=by rfl) (hw:swappedStores [.Subscript (.Subscript (.Name x px) a pp) b p2] e X.env=pure none:=by rfl)
  (h1:(JQ [.Subscript (.Subscript (.Name x px) a pp) b p2] X.env).map (·.2)=[U3 (.Subscript (.Subscript (.Name x px) a pp) b p2) X.env]:=by rfl) :
  MS X io (.Assign [.Subscript (.Subscript (.Name x px) a pp) b p2] e pos) (Z4l i m mi mj):=by
 obtain⟨_,A,s⟩:=he
 obtain⟨_,B,sj⟩:=hj
 obtain⟨_,B2,sk⟩:=hk
 refine⟨_,Zzi A (hpg (Z08 (Zyb rfl) (pv i hN hv hd hcd) B hPa) B2) hs hw h1,λC H σ δ fp ex D D' R h E=>?_⟩
 refine s C H σ δ fp ex _ _ R h λH1 v r δ1 fp1 new r1 h1=>?_
 have R1:=r1.base
 have q:=(r1.da R).wide (L':=Lf C fp1 ex) λa l _=>l rfl
 split at h1
 case h_2=>exact h1.elim
 rename_i ts hi
 obtain⟨a',_,_,hv0,_⟩:=R1.ownNd hi
 refine⟨_,hv0,?_⟩
 refine sj.pureAfter R1 h1 λH2 w n R2 s2 q2 h2=>?_
 obtain⟨k,rfl,h2⟩:=q2.intInv h2
 split at h2
 case h_2=>exact h2.elim
 rename_i j hj
 split at h2
 case h_2=>exact h2.elim
 rename_i us hus
 -- the row
 obtain⟨a2,xs2,bs2,hv2,hx2,o2,hf2⟩:=R2.ownNd hi
 rw[hv0]at hv2
 cases hv2
 obtain⟨xr,cr,hxr,orow,_⟩:=o2.get hus
 obtain⟨b',rfl⟩:∃b',xr=V.ref b':=by
  cases orow with
  | nd h r=>exact⟨_,rfl⟩
 refine⟨a',xs2,k,V.ref b',rfl,rfl,.inl (.inl hx2),?_,?_⟩
 ·unfold atI
  rw[o2.length,hj]
  exact hxr
 refine sk.pureAfter R2 h2 λH3 w' n' R3 s3 q3 h3=>?_
 obtain⟨k',rfl,h3⟩:=q3.intInv h3
 split at h3
 case h_2=>exact h3.elim
 rename_i j' hj'
 obtain⟨a3,xs3,bs3,hv3,hx3,o3,hf3⟩:=R3.ownNd hi
 rw[hv0]at hv3
 cases hv3
 have exs:xs3=xs2:=by
  have:=s3 _ _ hx2
  rw[hx3]at this
  cases this;rfl
 subst exs
 obtain⟨xr3,cr3,hxr3,orow3,hsub3⟩:=o3.get hus
 rw[hxr]at hxr3
 cases hxr3
 have nd3:=R3.nd i
 rw[hf3]at nd3
 have hn3:=Qm.mp nd3
 cases orow3 with
 | nd hb r3=>
  rename_i ws3 bs4
  have hbm:b'∈bs3:=hsub3.subset (.head _)
  have hbf:b'∈fp1 i:=by rw[hf3];exact .tail _ hbm
  have hLb:¬Lf C fp1 ex b':=λl=>l.1 ⟨i,hbf⟩
  obtain⟨as',oo,ss,_⟩:=Owns.deep (ws':=ws3.set j' v) (us':=us.set j' (.fz r.data)) hb hLb (λcs hcs=>Owns.set (.fz ((q.same s2).same s3)) j' hcs) o3 hn3.2 hxr hus
  refine⟨b',ws3,k',j',rfl,rfl,hb,by rw[r3.length];exact hj',?_⟩
  have hba:a'≠b':=λz=>hn3.1 (z▸hbm)
  -- the change
  have sub:∀a,a∈a' :: as'->a∈fp1 i:=λa m=>by
   rw[hf3]
   rcases Xr.mp m with rfl|m
   ·exact .head _
   ·exact .tail _ (ss.subset m)
  have kp:∀b o,H3 b=some o->b≠b'->upd H3 b' (.lst (ws3.set j' v)) b=some o:=λb o e n=>by rw[Z4 n];exact e
  have lw:∀a,Lf C fp1 ex a->upd H3 b' (.lst (ws3.set j' v)) a≠none->Lf C (fpu fp1 i (a' :: as')) (exu ex []) a:=λa l _=>⟨λz=>by
   rcases z.of_u with z|⟨j,_,z⟩
   ·exact l.1 ⟨i,sub a z⟩
   ·exact l.1 ⟨j,z⟩,λz=>l.2.1 (Zdj.mp z),l.2.2⟩
  obtain⟨R4,S4⟩:=R3.change (new:=[]) (as':=a' :: as') (t':=.nd (ts.set j (.nd (us.set j' (.fz r.data))))) (H':=upd H3 b' (.lst (ws3.set j' v))) hi hv0 (λb o e nb=>kp b o e λz=>nb (by rw[z];exact hbf)) (λb e=>by
    by_cases q:b=b'
    ·subst q;rw[Yh]at e;cases e
    ·rwa[Z4 q]at e) (.nd (by rw[Z4 hba];exact hx3) (oo.wide lw)) (Qm.mpr ⟨λm=>hn3.1 (ss.subset m),hn3.2.sublist ss⟩) (λa m=>.inl (sub a m)) (λa m=>nomatch m)
  have k23:Kp H1 fp1 H3 fp1:=⟨λb o e _=>s3 _ _ (s2 _ _ e),λz=>(nomatch z),λa z=>.inl z,λb e=>s2.al b (s3.al b e)⟩
  exact E.nx _ σ _ _ (R4.drop λa z=>.inl z) (r1.stp.kp.trans (k23.trans S4.kp)) h3
end
variable {G:Xc}
mutual
noncomputable def Z0x:OT->Bool
 | .fz d=>Zbw d
 | .nd ts=>Zvp ts
 | .tp ts=>Zvp ts
 | .dc _ _ _=>false
noncomputable def Zvp:List OT->Bool
 | []=>true
 | t :: ts=>Z0x t&&Zvp ts
end
section
variable {X:Cx}{io:List Nat}{p c:Bool}{e:Expr}{m:MEt}
theorem Rel.freeze{C:MC G}{H:Hp}{σ:St}{δ:Zj}{fp:Fp}{ex:Addr->Prop}{i:Nat}{t:OT}(R:Rel C io H σ δ fp ex)(hio:i∉io)(hi:δ[i]? =some (some t)):Rel C io H σ (δ.set i (some (.fz t.data))) (fpu fp i []) ex:=by
 have hil:i<δ.length:=(Xm.mp hi).1
 have sub:∀j a,a∈fpu fp i [] j->j≠i∧a∈fp j:=λj a m=>by
  by_cases ej:j=i
  ·subst ej;rw[Ys]at m;exact nomatch m
  ·rw[Wu ej]at m;exact⟨ej,m⟩
 have lw:∀a,Lf C fp ex a->Lf C (fpu fp i []) ex a:=λa l=>⟨λ⟨j,z⟩=>l.1 ⟨j,(sub j a z).2⟩,l.2.1,l.2.2⟩
 have ln:∀a∈fp i,Lf C (fpu fp i []) ex a:=λa m=>⟨λ⟨j,z⟩=>(sub j a z).1 (R.dj j i a (sub j a z).2 m),R.dx i a m,.inr (by
  rcases R.new i a m with z|z
  ·exact absurd z.1 hio
  ·exact z)⟩
 refine⟨by rw[Ve];exact R.len,λj t' e=>?_,λj h=>?_,λj=>?_,λj k a h1 h2=>R.dj j k a (sub j a h1).2 (sub k a h2).2,λj a h z=>R.dx j a (sub j a h).2 z,R.xa,R.fr,R.al,λj a h=>R.new j a (sub j a h).2,R.io⟩
 ·by_cases ej:j=i
  ·subst ej
   rw[Q0 hil]at e
   cases e
   obtain⟨v,e1,o⟩:=R.own j t hi
   exact⟨v,e1,by rw[Ys];exact .fz (o.da (λa l _=>lw a l) ln)⟩
  ·rw[QF (Vt ej)]at e
   obtain⟨w,e1,o⟩:=R.own j t' e
   exact⟨w,e1,by rw[Wu ej];exact o.wide λa l _=>lw a l⟩
 ·by_cases ej:j=i
  ·subst ej;rw[Ys]
  ·rw[Wu ej]
   exact R.emp j λt' z=>h t' (by rw[QF (Vt ej)];exact z)
 ·by_cases ej:j=i
  ·subst ej;rw[Ys];exact .nil
  ·rw[Wu ej];exact R.nd j
noncomputable def Zlm(i:Nat)(u:MSt):MSt:=λD δ=>match δ[i]? with|some (some t)=>u D (δ.set i (some (.fz t.data)))|_=>False
theorem Zh6{st:Stmt}{u:MSt}(i:Nat)(h:MS X io st u)(hio:i∉io:=by decide):MS X io st (Zlm i u):=by
 obtain⟨_,A,s⟩:=h
 exact⟨_,A,λC H σ δ fp ex D D' R h E=>by
  unfold Zlm at h
  split at h
  case h_2=>exact h.elim
  rename_i t hi
  refine s C H σ _ _ ex D D' (R.freeze hio hi) h (E.shift ⟨λb o e _=>e,λz=>(nomatch z),λa z=>?_,λb e=>e⟩)
  rcases z.of_u with z|⟨j,_,z⟩
  ·exact nomatch z
  ·exact .inl ⟨j,z⟩⟩
end
variable {G:Xc}
noncomputable def Z60(ds:List Xa)(k:OT->Prop):Prop:=∃ns:List Int,ds=[.list (ns.map Xk)]∧ns.length≤63∧k (.fz (.bool true))
theorem Z4j{H:Hp}{a:Addr}{ns:List Int}{E:XK}(hl:ns.length≤63)(h:SqL G H a (ns.map V.int)):spD G Z60 [.ref a] H (λv _=>v= .bl true) E:=by
 refine⟨λ_=>True,[.list (ns.map Xk)],λr=>r= .fz (.bool true),.cons ?_ .nil,⟨ns,rfl,hl,rfl⟩,λr v H' new kr s o _ _=>?_⟩
 ·rcases h with h|h
  ·exact .lst trivial h (.ints ns)
  ·exact .scr h
 ·subst kr
  cases o with
  | fz q=>cases q;rfl
section
variable {P:X6}{w:Qq}{mg:Str->Option Xf}{base:Heap}{CX:CXT}{n:Nat}{f:Addr}{fd:XQ}{ps:List Str}
theorem Da.ints_sq{H:Hp}{L:Addr->Prop}{v:V}{ns:List Int}(h:Da G H L v (.list (ns.map Xk))):∃a,v= .ref a∧SqL G H a (ns.map V.int):=by
 generalize e:Qy (ns.map Xk)=d at h
 cases h with
 | lst l e1 r=>
  cases e
  rw[r.int_inv]at e1
  exact⟨_,rfl,.inl e1⟩
 | scr k=>
  rename_i a ms
  have e':=PyData.list.inj e
  have:ns=ms:=(List.map_inj_right (λ_ _ h=>by cases h;rfl)).mp e'
  subst this
  exact⟨_,rfl,k.sq⟩
 | _=>cases e
end
@[simp] theorem Zcc:OT.datas []=[]:=rfl
@[simp] theorem Zaz(t:OT)(ts:List OT):OT.datas (t :: ts)=t.data :: OT.datas ts:=rfl
theorem Zms{α:Type}{xs:List α}{i:Int}(h0:0≤i):atI xs i=xs[i.toNat]?:=by
 unfold atI ixN
 rw[if_pos h0]
 split
 ·rfl
 ·rename_i h
  symm
  exact Qz.mpr (by omega)
theorem Z8g{α:Type}{xs:List α}{i:Nat}:atI xs (i:Int)=xs[i]?:=by
 rw[Zms (by omega),Qp]
@[simp] theorem Ye0{α:Type}(x:α)(xs:List α):atI (x :: xs) 0=some x:=by
 rw[Zms (by decide)];rfl
@[simp] theorem Yf2{α:Type}(x y:α)(xs:List α):atI (x :: y :: xs) 1=some y:=by
 rw[Zms (by decide)];rfl
@[simp] theorem Ye3{α:Type}(x y z:α)(xs:List α):atI (x :: y :: z :: xs) 2=some z:=by
 rw[Zms (by decide)];rfl
@[simp] theorem Z82(ds:List Xa)(i:Int):ixD (.list ds) (.int i)=atI ds i:=rfl
@[simp] theorem Z9r(ds:List Xa)(i:Int):ixD (.tuple ds) (.int i)=atI ds i:=rfl
@[simp] theorem Z79(ds:List Xa):Zw7 (.list ds)=some ds.length:=rfl
@[simp] theorem Z8y(ds:List Xa):Zw7 (.tuple ds)=some ds.length:=rfl
noncomputable def Zro(r:List Rat):Xa:=.list (r.map frD)
noncomputable def tbD(T:List (List Rat)):Xa:=.list (T.map Zro)
noncomputable def Z88(r:List Rat):OT:=.nd (r.map λq=>.fz (frD q))
noncomputable def tbT(T:List (List Rat)):OT:=.nd (T.map Z88)
@[simp] theorem Zrx(r:List Rat):(Z88 r).data=Zro r:=by
 unfold Z88 Zro
 rw[OT.data_nd,X5]
 rfl
@[simp] theorem Z9k(T:List (List Rat)):(tbT T).data=tbD T:=by
 unfold tbT tbD
 rw[OT.data_nd,X5]
 exact congrArg Qy (Qg λr _=>Zrx r)
noncomputable def Sq(n:Nat)(T:List (List Rat)):Prop:=T.length=n∧∀r∈T,r.length=n
noncomputable def dd(T:List (List Rat))(i j:Nat):Rat:=(T.getD i []).getD j 0
@[simp] theorem Yai(T:List (List Rat)):Zw7 (tbD T)=some T.length:=by unfold tbD Zw7;simp
@[simp] theorem Z9i(r:List Rat):Zw7 (Zro r)=some r.length:=by unfold Zro Zw7;simp
@[simp] theorem Yb1(q:Rat):Zbw (frD q)=true:=by unfold frD fr;simp[Zbw,Zmg]
theorem Zmf{n a:Nat}(h:a<n):ixN n (a:Int)=some a:=by
 unfold ixN
 rw[if_pos (by omega),if_pos (by omega)];simp
theorem Sq.ixN{n a:Nat}{T:List (List Rat)}(h:Sq n T)(ha:a<n):ixN (T.map Z88).length (a:Int)=some a:=Zmf (by rw[Xj,h.1];exact ha)
theorem ix3{d1 d2 d3:Xa}{r:Int}(r0:0≤r)(r1:r<3):∃d,(d=d1∨d=d2∨d=d3)∧ixD (.list [d1,d2,d3]) (.int r)=some d:=by
 have:r=0∨r=1∨r=2:=by omega
 rcases this with rfl|rfl|rfl
 ·exact⟨d1,.inl rfl,rfl⟩
 ·exact⟨d2,.inr (.inl rfl),rfl⟩
 ·exact⟨d3,.inr (.inr rfl),rfl⟩
theorem Zkg{d:Xa}(h:Wh d=true):Qs d d=true:=Zu8 h h rfl
structure Sh(n:Nat)(d:Xa):Prop where
 lay:Bl d=true
 dep:PyData.depth d≤n
theorem Sh.shp{n:Nat}{d:Xa}(h:Sh n d)(hn:n≤64:=by decide):Z4x d:=⟨by
 show(Bl d&&decide (PyData.depth d≤64))=true
 rw[h.lay,decide_eq_true (Qv h.dep hn)];rfl⟩
theorem Zl6{n:Nat}:∀{ds:List Xa},(∀d∈ds,Sh n d)->JV ds=true∧UG ds≤n
 | [],_=>⟨by rw[JV],by rw[UG];exact Qt _⟩
 | d :: ds,h=>by
  obtain⟨h1,h2⟩:=Zl6 λe m=>h e (.tail _ m)
  have h3:=h d (.head _)
  refine⟨by rw[JV,h3.lay,h1];rfl,?_⟩
  rw[UG]
  exact Nat.max_le.mpr ⟨h3.dep,h2⟩
theorem Zos{n:Nat}{ds:List Xa}(h:∀d∈ds,Sh n d):Sh (n+1) (.list ds) :=
 ⟨by rw[Bl];exact(Zl6 h).1,by rw[PyData.depth];exact Nat.succ_le_succ (Zl6 h).2⟩
theorem Zzc{n:Nat}{ds:List Xa}(h:∀d∈ds,Sh n d):Sh (n+1) (.tuple ds) :=
 ⟨by rw[Bl];exact(Zl6 h).1,by rw[PyData.depth];exact Nat.succ_le_succ (Zl6 h).2⟩
theorem Ztz(i:Int):Sh 0 (.int i):=⟨rfl,Nat.le_of_eq rfl⟩
section
variable {X:Cx}{pins:List (Addr×Obj)}{σ:St}{H:Hp}{s:Xh}
theorem Inv.turnTup{h':Heap}{ch:List Addr}{T:Addr}{xs:List V}{its:List Xf}(I:Inv X pins σ H s)(f:∀b∈ch,Zkb X pins H b)(k:∀b o,b∉ch->s.heap.get? b=some o->h'.get? b=some o)
  (th:∀b∈ch,∃o,h'.get? b=some o) (hT:s.heap.objs.size≤T) (hz:xs.length≤Xy) (r:Vals xs its) (ht:IsTup h' T its.toArray):Inv X pins σ (upd H T (.tup xs)) { s with heap:=h' }:=by
 have hn:H T=none:=I.hok.fresh hT
 have nch:∀b u,H b=some u->b∉ch:=λb u e z=>by rw[(f b z).1]at e;cases e
 have new:ObjOk X.prog X.w (upd H T (.tup xs)) h' T (.tup xs):=⟨hz,its,r,ht⟩
 refine I.call (ch:=ch) (g':=s.gens) (d':=s.drawn) (t':=s.toks) ⟨λb o e _ _ hc=>k b o hc e,λb o e _ _ hc=>⟨o.slots,k b o hc e⟩,λb o e n _=>?_,λb o e hc=>?_,λb ys e=>?_,λb o u e=>?_,λb ps e=>?_⟩ (λb u e=>?_) I.bare (λb hb=>?_)
 ·rw[Z4 (λz=>by rw[z]at e;exact absurd (XH e) (Nat.not_lt.mpr hT))];exact n
 ·exact⟨o,k b o hc e⟩
 ·rw[Z4 (Wk e hn)];exact e
 ·rw[Z4 (Wk e hn)];exact e
 ·exact⟨#[],by rw[Z4 (Wk e hn),e];simp⟩
 ·by_cases hb:b=T
  ·subst hb;rw[Yh]at e;cases e;exact new
  ·rw[Z4 hb]at e
   refine(I.hok b u e).stay (λc v hc q=>k c v ?_ q) (λc q=>by rw[Z4 (Wk q hn)];exact q) λc ys q=>by rw[Z4 (Wk q hn)];exact q
   rcases hc with rfl|hc
   ·exact nch _ _ e
   ·exact nch _ _ hc
 ·obtain⟨f0,f1,f2,f3,f4,f5⟩:=f b hb
  exact⟨f3,f1,f4,f5⟩
theorem Inv.turnAll{h':Heap}{ch:List Addr}(I:Inv X pins σ H s)(f:∀b∈ch,Zkb X pins H b)(k:∀b o,b∉ch->s.heap.get? b=some o->h'.get? b=some o):Inv X pins σ H { s with heap:=h' }:=by
 have nch:∀b u,H b=some u->b∉ch:=λb u e z=>by rw[(f b z).1]at e;cases e
 refine I.call (ch:=ch) (g':=s.gens) (d':=s.drawn) (t':=s.toks) ⟨λb o e _ _ hc=>k b o hc e,λb o e _ _ hc=>⟨o.slots,k b o hc e⟩,λb o e n _=>n,λb o e hc=>⟨o,k b o hc e⟩,λb ys e=>e,λb o u e=>e,λb ps e=>⟨#[],by rw[e];simp⟩⟩ (λb u e=>?_) I.bare (λb hb=>?_)
 ·refine(I.hok b u e).stay (λc v hc q=>k c v ?_ q) (λc q=>q) λc ys q=>q
  rcases hc with rfl|hc
  ·exact nch _ _ e
  ·exact nch _ _ hc
 ·obtain⟨f0,f1,f2,f3,f4,f5⟩:=f b hb
  exact⟨f3,f1,f4,f5⟩
end
variable {G:Xc}
section
variable {X:Cx}{io:List Nat}{p c:Bool}{e a b tg:Expr}{m:MEt}{mr:MAt}
theorem Rel.keptList{C:MC G}{H:Hp}{σ:St}{δ:Zj}{fp:Fp}{ex:Addr->Prop}{v:V}{ds:List Xa}(R:Rel C io H σ δ fp ex)(q:Da G H (λa=>c=true->Lf C fp ex a) v (.list ds)) :
  ∃a xs,v= .ref a∧∀H':Hp,(∀b o,H b=some o->(c=false∨¬Foot fp b)->H' b=some o)->SqL G H' a xs∧Das G H' (λa=>c=true->(Lf C fp ex a∧H a≠none)) xs ds:=by
 generalize hd:Qy ds=d at q
 cases q with
 | lst l e r=>
  cases hd
  rename_i a0 xs0
  refine⟨a0,xs0,rfl,λH' kp=>?_⟩
  obtain⟨f1,f2⟩:=R.kept kp
  exact⟨.inl (f1 _ (.lst _) l e).2,r.frame f1 f2⟩
 | scr k=>
  rename_i a ns
  have:=PyData.list.inj hd
  subst this
  exact⟨a,_,rfl,λH' _=>⟨k.sq,.ints ns⟩⟩
 | _=>cases hd
noncomputable def Znh(as bs:List Xa):List Xa:=(as.zip bs).map λx=>.tuple [x.1,x.2]
theorem Zpo{as bs:List Xa}{i:Nat}{d:Xa}(h:(Znh as bs)[i]? =some d):∃x y,as[i]? =some x∧bs[i]? =some y∧d= .tuple [x,y]:=by
 unfold Znh at h
 rw[Xq]at h
 cases e:(as.zip bs)[i]? with
 | none=>rw[e]at h;cases h
 | some z=>
  rw[e]at h
  cases h
  obtain⟨h1,h2⟩:=V3.mp e
  exact⟨z.1,z.2,h1,h2,rfl⟩
theorem Zt8{as bs:List Xa}{i:Nat}(h:(Znh as bs)[i]? =none):as.length≤i∨bs.length≤i:=by
 unfold Znh at h
 have:=Qz.mp h
 simp at this
 omega
@[simp] theorem Z0p(as bs:List Xa):(Znh as bs).length=min as.length bs.length:=by simp[Znh]
end
variable {G:Xc}
section
variable {X:Cx}{io:List Nat}{c1 c2 c3:Bool}{a b e:Expr}{ma mb mc:MEt}{pos:Pos}{f g:Int->Int->Bool}
end
theorem Zf4:∀{ns:List Int} {its:List Xf},Vals (ns.map V.int) its->∃xs:List (Int×Tok),its=xs.map (λp=>Vs p.1 p.2)∧xs.map (·.1)=ns
 | [],_,.nil=>⟨[],rfl,rfl⟩
 | n :: ns,_,.cons r rs=>by
  obtain⟨t,e⟩:=(show∃t,_=Vs n t from r)
  obtain⟨xs,h1,h2⟩:=Zf4 rs
  exact⟨(n,t) :: xs,by rw[e,h1];rfl,by rw[X3,h2]⟩
section
variable {X:Cx}{io:List Nat}{p c:Bool}{a b e:Expr}{ma mb m:MEt}{pos pl:Pos}
noncomputable def Ydf(m mb:MEt):MEt:=λδ K=>m δ λr δ1=>mb δ1 λn _=>asI n.data λk=>(-(2^63)≤k∧k<2^63∧k.toNat≤Xy)∧K (.nd (XF k.toNat (.fz r.data))) δ1
theorem Zp5{α:Type}(x:α):∀n:Nat,(XF n [x]).flatten=XF n x
 | 0=>rfl
 | n+1=>by rw[Vm,Uj,Zp5 x n];rfl
theorem Das.rep{H:Hp}{L:Addr->Prop}{v:V}{d:Xa}(h:Da G H L v d):∀n:Nat,Das G H L (XF n v) (XF n d)
 | 0=>.nil
 | n+1=>.cons h (Das.rep h n)
theorem Z4i(ha:ME X io p true a m)(hb:ME X io true c b mb)(hs:Xo [a] X.env=(false,eval a X.env) :: Xo [] X.env:=by rfl):ME X io p true (.BinOp (.List [a] pl) .Mult b pos) (Ydf m mb):=by
 obtain⟨_,A,sa⟩:=ha
 obtain⟨_,B,sb⟩:=hb
 refine⟨_,Z15 Z4c (Zy6 (Za5 A Zen hs)) B,λC H σ δ fp ex K Q R h k=>?_⟩
 refine sa C H σ δ fp ex _ _ R h λH1 v r δ1 fp1 new r1 h1=>⟨(by show 1≤Xy;decide),λl hl=>?_⟩
 have R1:=r1.base
 have s1:=Yo hl (.lst [v])
 refine sb.pureAfter (R1.mk0 s1) h1 λH2 w n R2 s2 q2 h2=>?_
 obtain⟨i,rfl,h2⟩:=q2.intInv h2
 have q:=(((r1.da R).wide (L':=Lf C fp1 ex) λa l _=>l rfl).same s1).same s2
 refine⟨l,i,[v],rfl,rfl,s2 _ _ Yh,h2.1.1,h2.1.2.1,by show 1*i.toNat≤Xy;rw[Nat.one_mul];exact h2.1.2.2,λt ht=>?_⟩
 rw[Zp5]
 have S:Stp p H δ fp H2 δ1 fp1:=by
  have:=r1.stp.trans (p':=true) (Stp.same (p:=true) (δ:=δ1) (fp:=fp1) (s1.trans s2) (s1.trans s2).al)
  rwa[Bool.and_true]at this
 refine k _ _ _ δ1 fp1 [t] (RE.tree R R2 S (Yo ht _) (Zc7 ht) (Zgp t) ?_) h2.2
 have:=Own.list ht ((Das.rep q i.toNat).wide (L':=λa=>true=true->Lf C fp1 ex a) λa l _ _=>l)
 rwa[List.map_replicate]at this
end
variable {G:Xc}
section
variable {X:Cx}
noncomputable def Z19:List V->Hp->VK->Prop:=λvs H Q=>∃j:Int,vs=[.int j]∧∀r,H r=none->Q (.ref r) (upd H r (.rng 0 j))
theorem Zsu:Zdt X (.type "range") Z19:=by
 intro pins s σ H vs us Q I r h
 obtain⟨j,rfl,q⟩:=h
 obtain⟨u,rfl,t,rfl⟩:=vals1 r
 refine call_range_1 ?_
 exact⟨.ref s.heap.objs.size,_,I.laid (o:=.rng 0 j) (λb o e=>Xg _ e) (XN _) ⟨_,_,_,Xx _ rfl⟩,rfl,q _ I.fresh⟩
noncomputable def Zwj(lo:Int)(n:Nat):List V:=(Xv n).map λ(i:Nat)=>V.int (lo+(i:Int))
noncomputable def Zx1:List V->Hp->VK->Prop:=λvs H Q=>∃r lo hi,vs=[.ref r]∧H r=some (.rng lo hi)∧(-(2^62)≤lo∧lo<2^62∧-(2^62)≤hi∧hi<2^62)∧(hi-lo).toNat≤Xy∧∀l,H l=none->Q (.ref l) (upd H l (.lst (Zwj lo (hi-lo).toNat)))
theorem Zmr(lo:Int)(n:Nat):Zwj lo (n+1)= .int lo :: Zwj (lo+1) n:=by
 unfold Zwj
 rw[List.range_succ_eq_map,X3,X5]
 congr 1
 ·simp
 ·refine Qg λi _=>?_
  show V.int (lo+((i+1:Nat):Int))=V.int (lo+1+(i:Int))
  congr 1
  omega
theorem Zov:∀(acc:List Xf) (lo:Int),(∀(i:Nat) (v:Xf),acc[i]? =some v->∃t,v=Vs (lo+i) t)->Vals (Zwj lo acc.length) acc
 | [],_,_=>.nil
 | v :: acc,lo,h=>by
  rw[BR,Zmr]
  obtain⟨t,e⟩:=h 0 v rfl
  refine .cons ⟨t,by rw[e];simp⟩ (Zov acc (lo+1) λi w hw=>?_)
  obtain⟨t',e'⟩:=h (i+1) w (by simpa using hw)
  refine⟨t',?_⟩
  rw[e']
  congr 1
  omega
theorem Zkz(hc:X.calm=true):Zdt X (.type "list") Zx1:=by
 intro pins s σ H vs us Q I r h
 obtain⟨a,lo,hi,rfl,e,hb,hz,q⟩:=h
 obtain⟨u,rfl,ru⟩:=vals1 r
 cases(show u=Qn a from ru)
 obtain⟨t,u',v,e1⟩:=(show ObjOk X.prog X.w H s.heap a (.rng lo hi)from I.hok a _ e)
 refine call_list_range (n:=(hi-lo).toNat) (I.ok.hd hc) e1 ?_ ?_ hz λh' tk acc c' hk hS hacc=>?_
 ·exact small_one hb.1 hb.2.1 hb.2.2.1 hb.2.2.2
 ·rw[rangeSize_one];split<;>omega
 ·refine⟨.ref s.heap.objs.size,_,I.laid (o:=.lst (Zwj lo (hi-lo).toNat)) (t':=tk) hk (XN _) ⟨?_,acc.toList,c',?_,by simpa using hS⟩,rfl,q _ I.fresh⟩
  ·simp[Zwj];omega
  ·have:=Zov acc.toList lo λi v hv=>by
    obtain⟨t,e⟩:=hacc.2 i v (by simpa using hv)
    exact⟨t,by rw[e,Int.mul_one]⟩
   rwa[show acc.toList.length=(hi-lo).toNat by simpa using hacc.1]at this
end
end L2
namespace L2
open PySem PySem.Spec PyProof.Rows PySem.SeqAt
variable {G:Xc}
theorem Zvl(lo:Int)(n:Nat):Zci lo (n+1)= .int lo :: Zci (lo+1) n:=by
 unfold Zci
 rw[List.range_succ_eq_map,X3,X5]
 congr 1
 ·simp
 ·refine Qg λi _=>?_
  show Xk (lo+((i+1:Nat):Int))=Xk (lo+1+(i:Int))
  congr 1
  omega
theorem Das.rng{H:Hp}{L:Addr->Prop}:∀(n:Nat) (lo:Int),Das G H L (Zwj lo n) (Zci lo n)
 | 0,_=>.nil
 | n+1,lo=>by
  rw[Zmr,Zvl]
  exact .cons (.int _) (Das.rng n _)
section
variable {X:Cx}{io:List Nat}{p c:Bool}{a b e:Expr}{ma mb m:MEt}{mr:MAt}{pos pos' pl pr:Pos}
noncomputable def Yd4(mr:MAt):MEt:=λδ K=>mr δ λrs δ'=>n1 (λd=>asI d λj=>(-(2^62)≤j∧j<2^62∧j.toNat≤Xy)∧K (.nd ((Zci 0 j.toNat).map OT.fz)) δ') (OT.datas rs)
theorem Z5h{C:MC G}{H H1:Hp}{σ:St}{δ δ1:Zj}{fp fp1:Fp}{ex:Addr->Prop}{r l:Addr}{lo hi:Int}{n:Nat}(R:Rel C io H σ δ fp ex)(R1:Rel C io H1 σ δ1 fp1 ex)(S:Stp p H δ fp H1 δ1 fp1)(hr:H1 r=none)
  (hl:upd H1 r (.rng lo hi) l=none):RE C io p true H σ δ fp ex (upd (upd H1 r (.rng lo hi)) l (.lst (Zwj lo n))) (.ref l) (.nd ((Zci lo n).map OT.fz)) δ1 fp1 [l]:=by
 have s1:=Yo hr (.rng lo hi)
 have S':Stp p H δ fp (upd H1 r (.rng lo hi)) δ1 fp1:=by
  have:=S.trans (p':=true) (Stp.same (p:=true) (δ:=δ1) (fp:=fp1) s1 s1.al)
  rwa[Bool.and_true]at this
 exact RE.tree R (R1.mk0 s1) S' (Yo hl _) (Zc7 hl) (Zgp l) (Own.list hl (Das.rng n lo))
theorem Zh0(hc:X.calm=true)(hgl:Gl X "list")(hml:X.mg "list"=none)(hvl:Qh "list"=some (.type "list"))(hg:Gl X "range")(hm:X.mg "range"=none)(hv:Qh "range"=some (.type "range"))(ha:MA X io p c [a] mr)
  (he:Xo [a] X.env=(false,eval a X.env) :: Xo [] X.env:=by rfl) (hpl:(JF pos' (Xo [] X.env)).any (·.1)=false:=by rfl)
  (he':Xo [.Call (.Name "range" pr) [a] [] pos'] X.env=(false,eval (.Call (.Name "range" pr) [a] [] pos') X.env) :: Xo [] X.env:=by rfl) (hpl':(JF pos (Xo [] X.env)).any (·.1)=false:=by rfl) :
  ME X io p true (.Call (.Name "list" pl) [.Call (.Name "range" pr) [a] [] pos'] [] pos) (Yd4 mr):=by
 obtain⟨_,A,s⟩:=ha
 refine⟨_,Zh8 (Zkz hc) hgl hml hvl (Za5 (Zh8 Zsu hg hm hv A (he:=he) (hpl:=hpl)) Zen he') (he:=he') (hpl:=hpl'),λC H σ δ fp ex K Q R h kk=>s C H σ δ fp ex _ _ R h λH1 vs rs δ1 fp1 new r1 h1=>?_⟩
 obtain⟨v,d,rfl,e2,q,h2⟩:=(r1.das R).one h1
 obtain⟨j,rfl,h2⟩:=q.intInv h2
 refine⟨j,rfl,λr hr=>⟨r,0,j,rfl,Yh,⟨by decide,by decide,h2.1.1,h2.1.2.1⟩,by rw[Int.sub_zero];exact h2.1.2.2,λl hl=>?_⟩⟩
 rw[Int.sub_zero]
 exact kk _ _ _ δ1 fp1 [l] (Z5h R r1.base r1.stp hr hl) h2.2
end
theorem Zkf:∀{ns:List Int} {its:List Xf},Vals (ns.map V.int) its->JN its ns
 | [],_,.nil=>.nil
 | n :: ns,_,.cons r rs=>by
  obtain⟨t,e⟩:=(show∃t,_=Vs n t from r)
  rw[e]
  exact .cons n t (Zkf rs)
section
variable {X:Cx}{io:List Nat}{p c:Bool}{a b e:Expr}{ma mb m:MEt}{mr:MAt}{pos pos' pl pr:Pos}
noncomputable def Z7j(K:Xc):V->List V->Hp->VK->Prop:=λx vs H Q=>∃(l:Addr) (ns:List Int) (k:Int),x= .ref l∧vs=[.int k]∧SqL K H l (ns.map V.int)∧ns.length≤2^20∧k∈ns∧Q (.int (ns.idxOf k:Nat)) H
theorem Zxr{K:Xc}(hK:X.K=K):MtR X "list.index" (Z7j K):=by
 subst hK
 intro pins s σ H x vs v us Q I rx rv h
 obtain⟨l,ns,k,rfl,rfl,hs,hb,hk,q⟩:=h
 cases rx
 obtain⟨u,rfl,t,rfl⟩:=vals1 rv
 obtain⟨its,rw',pl,hz⟩:=I.list hs
 have hi:=Zkf rw'
 obtain⟨⟨cls,dd,data,sl⟩,ho,hc,n,hd⟩:=id pl.isList
 simp only at hc hd
 subst hc hd
 have hlen:=hi.length
 have hj:ns.idxOf k<ns.length:=List.idxOf_lt_length_iff.mpr hk
 refine U0 V6 ⟨_,ho,rfl⟩ PySem.F.entry_list_index (PySem.F.args_list_index_2 _ _)
  (list_indexAt l its.toArray n dd sl (.int k t) (isInt k) (ns.idxOf k) (by simpa [hlen]using hj) (by omega) ?_ ?_) ⟨ho,λy hy=>(eq_isInt k t hi y (by simpa using hy)).at _ _,⟨.int (ns.idxOf k:Nat),H,I.kept (h':=s.heap) (λb o e=>e),⟨_,rfl⟩,q⟩⟩
 ·show isInt k its[ns.idxOf k]=true
  rw[isInt_at k hi _ (by omega) hj]
  simpa using List.getElem_idxOf hj
 ·intro j hjs hlt
  show isInt k its[j]=false
  rw[isInt_at k hi j (by simpa using hjs) (by omega)]
  exact ne_of_lt_idxOf hlt _
noncomputable def Zzx(m mb:MEt):MEt:=λδ K=>m δ λr δ1=>∃ns:List Int,r.data= .list (ns.map Xk)∧ns.length≤2^20∧mb δ1 λn δ2=>asI n.data λk=>k∈ns∧K (.fz (.int (ns.idxOf k:Nat))) δ2
theorem Z2k{o:Expr}{apos cpos:Pos}(ho:ME X io true true o m)(he:ME X io true c e mb)
  (hbase:VN o "index" X.env (eval o X.env)=eval o X.env:=by rfl)
  (hfew:((JF cpos (Xo [e] X.env)).all (λx=>!x.1)&&(backToKw cpos (Um [] X.env)).all (λx=>x.1.isSome)
   &&decide ([e].length+([]:List VB).length+(if([]:List VB).isEmpty then 0 else 1)<30))=true:=by rfl)
  (hline:(apos.endLine==cpos.line)=true:=by rfl) (hs:Xo [e] X.env=(false,eval e X.env) :: Xo [] X.env:=by rfl) (hplain:(JF cpos (Xo [] X.env)).any (·.1)=false:=by rfl) :
  ME X io true true (.Call (.Attribute o "index" apos) [e] [] cpos) (Zzx m mb):=by
 obtain⟨_,A,sa⟩:=ho
 obtain⟨_,B,sb⟩:=he
 refine⟨_,Zsr Vl V6 PySem.F.type_list_index (Zxr rfl) A (Za5 B Zen hs) hbase hfew hline hs hplain,λC H σ δ fp ex K Q R h kk=>?_⟩
 refine sa.pureAfter R h λH1 v r R1 s1 q1 h1=>?_
 obtain⟨ns,e1,hb,h1⟩:=h1
 rw[e1]at q1
 obtain⟨a,rfl,hsq⟩:=q1.ints_sq
 refine⟨.inl ⟨rfl,_,hsq⟩,?_⟩
 refine sb.pureAfter R1 h1 λH2 w n R2 s2 q2 h2=>?_
 obtain⟨k,e2,h2⟩:=q2.intInv h2
 subst e2
 obtain⟨a',ea,hs'⟩:=(q1.same s2).ints_sq
 cases ea
 have s12:Same H H2:=s1.trans s2
 exact⟨a,ns,k,rfl,rfl,hs',hb,h2.1,kk H2 _ _ δ fp [] (.fz R2 (.same s12 s12.al) (.int _)) h2.2⟩
noncomputable def Z9b(i:Nat)(m:MEt):MEt:=λδ K=>match δ[i]? with
 | some (some (.nd _))=>m δ λn δ1=>match δ1[i]? with
  | some (some (.nd ts))=>asI n.data λj=>match ixN ts.length j with
   | some k=>match ts[k]? with
    | some (.fz d)=>ts.length≤Xy∧K (.fz d) (δ1.set i (some (.nd (ts.eraseIdx k))))
    | _=>False
   | none=>False
  | _=>False
 | _=>False
theorem Owns.erase{H:Hp}{L:Addr->Prop}:∀{xs:List V} {ts:List OT} {as:List Addr} {k:Nat} {d:Xa},Owns G H L xs ts as->ts[k]? =Bm (.fz d)->Owns G H L (xs.eraseIdx k) (ts.eraseIdx k) as
 | _,_,_,_,_,.nil,e=>by simp at e
 | _,_,_,0,d,.cons q r,e=>by
  simp at e
  subst e
  cases q
  exact r
 | _,_,_,k+1,d,.cons q r,e=>.cons q (Owns.erase (k:=k) r (by simpa using e))
theorem Z2x{x:Str}{px:Pos}{apos cpos:Pos}(i:Nat)(he:ME X io p c e m)(hN:X.N[i]? =some x:=by rfl)(hv:Vis X.env.scope x:=by first|exact QB rfl|exact Qw (QB rfl)|exact Qw (Qw rfl))(hd:(x==("__debug__" : Str))=false:=by decide)
  (hcd:(x==("__classdict__" : Str))=false:=by decide)
  (hbase:VN (.Name x px) "pop" X.env (eval (.Name x px) X.env)=eval (.Name x px) X.env:=by rfl)
  (hfew:((JF cpos (Xo [e] X.env)).all (λx=>!x.1)&&(backToKw cpos (Um [] X.env)).all (λx=>x.1.isSome)
   &&decide ([e].length+([]:List VB).length+(if([]:List VB).isEmpty then 0 else 1)<30))=true:=by rfl)
  (hline:(apos.endLine==cpos.line)=true:=by rfl) (hs:Xo [e] X.env=(false,eval e X.env) :: Xo [] X.env:=by rfl) (hplain:(JF cpos (Xo [] X.env)).any (·.1)=false:=by rfl) :
  ME X io false true (.Call (.Attribute (.Name x px) "pop" apos) [e] [] cpos) (Z9b i m):=by
 obtain⟨_,A,s⟩:=he
 refine⟨_,Zsr Vl PySem.F.slot_list_pop PySem.F.type_list_pop Zxw (pv i hN hv hd hcd) (Za5 A Zen hs) hbase hfew hline hs hplain,λC H σ δ fp ex K Q R h kk=>?_⟩
 unfold Z9b at h
 split at h
 case h_2=>exact h.elim
 rename_i ts0 hi0
 obtain⟨a',xs0,bs0,hv0,hx0,_,_⟩:=R.ownNd hi0
 refine⟨_,hv0,.inl ⟨rfl,xs0,.inl (.inl hx0)⟩,?_⟩
 refine s C H σ δ fp ex _ _ R h λH1 v r δ1 fp1 new r1 h1=>?_
 split at h1
 case h_2=>exact h1.elim
 rename_i ts1 hi1
 obtain⟨j,rfl,h1⟩:=(r1.da R).intInv h1
 split at h1
 case h_2=>exact h1.elim
 rename_i k hk
 split at h1
 case h_2=>exact h1.elim
 rename_i d hd1
 have R1:=r1.base
 obtain⟨a1,xs1,bs1,hv1,hx1,o1,hf1⟩:=R1.ownNd hi1
 rw[hv0]at hv1
 cases hv1
 obtain⟨y,cs,hy,oy,_⟩:=o1.get hd1
 have qy:Da X.K H1 (Lf C fp1 ex) y d:=by cases oy;assumption
 obtain⟨z1,z2,z3,z4⟩:=Zoo hk
 have hz:=h1.1
 have hsz:Xy=16777216:=Qa
 refine⟨a',xs1,j,k,y,rfl,rfl,hx1,by omega,by omega,by rw[o1.length];exact z1,hy,?_⟩
 obtain⟨R2,S2⟩:=R1.top hi1 hv0 hf1 hx1 (o1.erase hd1) (List.Sublist.refl _)
 have S:=(r1.stp.trans S2).cast (p':=false) λz=>nomatch z
 refine kk _ _ _ _ _ [] (.fz R2 S ?_) h1.2
 have ne':∀a,¬Foot fp1 a->a≠a':=λa h z=>h ⟨i,by rw[z,hf1];exact .head _⟩
 have f0:∀a,¬Foot fp1 a->¬Foot (fpu fp1 i (a' :: bs1)) a:=λa h z=>by
  rcases z.of_u with z|⟨j,_,z⟩
  ·exact h ⟨i,by rw[hf1];exact z⟩
  ·exact h ⟨j,z⟩
 refine qy.frame (λa zs l q=>⟨λ_=>⟨f0 a l.1,l.2.1,l.2.2⟩,?_⟩) λa zs q=>?_
 ·rcases q with q|⟨u,q⟩
  ·exact .inl (by rw[Z4 (ne' a l.1)];exact q)
  ·exact .inr ⟨u,by rw[Z4 (ne' a l.1)];exact q⟩
 ·rw[Z4]
  ·exact q
  ·intro z
   exact ImO.nl q (z▸hx1)
end
end L2
namespace L2
open PySem PySem.Spec PyProof.Rows
structure Apart(X:Cx)(pins:List (Addr×Obj))(H:Hp)(b:Addr):Prop where
 fr:H b=none
 new:X.s₀.heap.get? b=none
 loc:b≠X.env.locals
 cel:∀x c,X.env.cells.lookup x=some c->c≠b
 pin:∀p∈X.pn ++ pins,p.1≠b
section
variable {X:Cx}{pins:List (Addr×Obj)}{σ:St}{H H':Hp}{s:Xh}{h':Heap}{b a C:Addr}
noncomputable def Fl(ap:Addr->Prop)(C a:Addr)(fl:Xf)(h:Heap):Prop:=∃a0 oe vs T oT ts,h.get? a=some oe∧(oe.cls= .ref C∧vs[0]? =some a0)∧oe.data= .fields vs∧vs[1]? =some (.ref T)∧T≠a∧h.get? T=some oT∧oT.data= .fields ts∧ts[3]? =some fl∧ap a∧ap T
noncomputable def Fl0(ap:Addr->Prop)(C a:Addr)(h:Heap):Prop:=∃a0 oe vs,h.get? a=some oe∧(oe.cls= .ref C∧vs[0]? =some a0)∧oe.data= .fields vs∧vs[1]? =some .none∧ap a
noncomputable def FlA(ap:Addr->Prop)(fl:Xf)(C a:Addr)(h:Heap):Prop:=Fl ap C a .none h∨Fl0 ap C a h∨Fl ap C a fl h
section
variable {M:Model}{A:Qo}{E:Xf->Xh->Prop}{Q:Unit->Xh->Prop}{ch:List Addr}
end
end
noncomputable def Zxt(K:Xc)(C:Addr):Prop:=PySem.W.excIn K C [.type "ValueError",.type "Exception",.type "BaseException",.type "object"] "ValueError.__new__"=true
noncomputable abbrev MXt:=Zj->(Addr->Zj->Prop)->Prop
noncomputable def XW(X:Cx)(C:MC X.K)(io:List Nat)(pins:List (Addr×Obj))(ex:Addr->Prop)(H:Hp)(fp:Fp)(k:Addr->Zj->Prop)(e:Xf)(s':Xh):Prop :=
 ∃a cl σ' H' δ' fp',e= .ref a∧Inv X pins σ' H' s'∧FlA (Apart X pins H') (JR X.env.locals) cl a s'.heap∧Rel C io H' σ' δ' fp' ex∧Kp H fp H' fp'∧k cl δ'
noncomputable def XS(X:Cx)(io:List Nat)(st:Stmt)(m:MXt):Prop:=∀(C:MC X.K) (pins:List (Addr×Obj)) (s:Xh) (σ:St) (H:Hp) (δ:Zj) (fp:Fp) (ex:Addr->Prop) (k:Addr->Zj->Prop),Inv X pins σ H s->Rel C io H σ δ fp ex->m δ k ->
 XC (XX X.prog X.w) X.A (exec st X.env) (λ_ _=>False) (XW X C io pins ex H fp k) s
noncomputable def XSs(X:Cx)(io:List Nat)(sts:List Stmt)(m:MXt):Prop:=∀(C:MC X.K) (pins:List (Addr×Obj)) (s:Xh) (σ:St) (H:Hp) (δ:Zj) (fp:Fp) (ex:Addr->Prop) (k:Addr->Zj->Prop),Inv X pins σ H s->Rel C io H σ δ fp ex->m δ k ->
 XC (XX X.prog X.w) X.A (execs sts X.env) (λ_ _=>False) (XW X C io pins ex H fp k) s
section
variable {X:Cx}{io:List Nat}{p c:Bool}{e:Expr}{es:List Expr}{mr:MAt}{m:MXt}{pos:Pos}{st:Stmt}{sts a b:List Stmt}{u:MSt}{w v:MXt}{mt:MTt}{i:Nat}{x:Str}
end
section
variable {P:X6}{w:Qq}{K:Xc}{mg:Str->Option Xf}{base:Heap}
end
section
variable {X:Cx}{io:List Nat}{p c:Bool}{e:Expr}{es:List Expr}{mr:MAt}{pos pp:Pos}{k:Nat}{f:Addr}{fd:XQ}{ps:List Str}{x:Str}
end
section
variable {X:Cx}{pins:List (Addr×Obj)}{σ:St}{H:Hp}{s:Xh}{a C:Addr}
noncomputable abbrev Cx.suite(X:Cx)(a:Addr):Cx:={ X with A:=X.A.mark (some (.ref a)),calm:=false }
end
theorem Zyt(b:Bool)(k:Bool->Prop):asB (.bool b) k=k b:=rfl
inductive Yaz:V->Xf->Prop where
 | own (D:Addr):Yaz (.ref D) (.ref D)
 | ty (T:String):Yaz (.ty T) (.type T)
inductive ClsVs:List V->List Xf->Prop where
 | nil:ClsVs [] []
 | cons {v:V} {c:Xf} {vs:List V} {cs:List Xf}:Yaz v c->ClsVs vs cs->ClsVs (v :: vs) (c :: cs)
theorem ClsVs.length:∀{vs:List V} {cs:List Xf},ClsVs vs cs->vs.length=cs.length
 | _,_,.nil=>rfl
 | _,_,.cons _ t=>by simp[t.length]
section
variable {X:Cx}{io:List Nat}{p c:Bool}{a b:Expr}{ma:MEt}{pos pp p2:Pos}
end
end L2
namespace L2
open PySem PySem.Spec PyProof.Rows PySem.P
section
variable {prog:X6}{w:Qq}{A:Qo}{E:Xf->Xh->Prop}{s:Xh}{e t0 C:Addr}{o:Obj}{vs:Array Xf}{K:Xc}{m:Str}{tk:Tok}
structure Yex(s:Xh)(e C t0:Addr)(m:Str)(tk:Tok):Prop where
 ob:∃o vs,s.heap.get? e=some o∧o.cls= .ref C∧o.data= .fields vs∧vs[0]? =some (.ref t0)
 tx:s.heap.TupAt t0 [.str m tk]
end
section
variable {X:Cx}{C:Addr}{x j:Str}{jk:Nat}{np cpos pos kp p1:Pos}
end
end L2
namespace L2
open PySem PySem.Spec PyProof.Rows
noncomputable abbrev FE:=Zj->Option (OT×Zj)
noncomputable abbrev FA:=Zj->Option (List OT×Zj)
noncomputable abbrev FT:=Zj->Option (Bool×Zj)
noncomputable abbrev FI:=Zj->Option (List Xa×Zj)
noncomputable abbrev FO:=Zj->Option (Option Int×Zj)
noncomputable abbrev FG:=Xa->Zj->Option Zj
noncomputable abbrev FGs:=List Xa->Zj->Option Zj
noncomputable def o2{α:Type}(f:Zj->Option (α×Zj)):Zj->(α->Zj->Prop)->Prop:=λδ K=>∃r δ',f δ=some (r,δ')∧K r δ'
noncomputable def oG(g:FG):MGt:=λd δ k=>∃δ',g d δ=some δ'∧k δ'
noncomputable def oGs(g:FGs):Zv3:=λd δ k=>∃δ',g d δ=some δ'∧k δ'
section
variable {X:Cx}{io:List Nat}{p c:Bool}{e tg:Expr}{es:List Expr}{m m':MEt}{mr mr':MAt}{mt mt':MTt}{mi mi':MIt}{g g':MGt}{gs gs':Zv3}{mo mo':MOt}{st:Stmt}{sts:List Stmt}{u u':MSt}{eo:Option Expr}
theorem ME.weak(h:ME X io p c e m)(w:∀δ K,m' δ K->m δ K):ME X io p c e m':=let⟨t,A,s⟩:=h;⟨t,A,λC H σ δ fp ex K Q R h k=>s C H σ δ fp ex K Q R (w δ K h) k⟩
theorem MA.weak(h:MA X io p c es mr)(w:∀δ K,mr' δ K->mr δ K):MA X io p c es mr':=let⟨t,A,s⟩:=h;⟨t,A,λC H σ δ fp ex K Q R h k=>s C H σ δ fp ex K Q R (w δ K h) k⟩
theorem MT.weak(h:MT X io p e mt)(w:∀δ K,mt' δ K->mt δ K):MT X io p e mt':=let⟨t,A,s⟩:=h;⟨t,A,λC H σ δ fp ex K Q R h k=>s C H σ δ fp ex K Q R (w δ K h) k⟩
theorem MW.weak(h:MW X io p e mt)(w:∀δ K,mt' δ K->mt δ K):MW X io p e mt':=let⟨t,A,s⟩:=h;⟨t,A,λC H σ δ fp ex K Q R h k=>s C H σ δ fp ex K Q R (w δ K h) k⟩
theorem MIfs.weak(h:MIfs X io p es mt)(w:∀δ K,mt' δ K->mt δ K):MIfs X io p es mt':=let⟨t,A,s⟩:=h;⟨t,A,λC H σ δ fp ex K Q R h k=>s C H σ δ fp ex K Q R (w δ K h) k⟩
theorem MI.weak(h:MI X io p c tg e mi)(w:∀δ K,mi' δ K->mi δ K):MI X io p c tg e mi':=let⟨t,A,s⟩:=h;⟨t,A,λC H σ δ fp ex K Q R h k=>s C H σ δ fp ex K Q R (w δ K h) k⟩
theorem MO.weak(h:MO X io p eo mo)(w:∀δ K,mo' δ K->mo δ K):MO X io p eo mo':=let⟨t,A,s⟩:=h;⟨t,A,λC H σ δ fp ex K Q R h k=>s C H σ δ fp ex K Q R (w δ K h) k⟩
theorem MG.weak(h:MG X io c tg g)(w:∀d δ K,g' d δ K->g d δ K):MG X io c tg g':=let⟨t,A,s⟩:=h;⟨t,A,λC H σ δ fp ex v d k Q R q h kk=>s C H σ δ fp ex v d k Q R q (w d δ k h) kk⟩
theorem MGs.weak(h:MGs X io c es gs)(w:∀d δ K,gs' d δ K->gs d δ K):MGs X io c es gs':=let⟨t,A,s⟩:=h;⟨t,A,λC H σ δ fp ex v d k Q R q h kk=>s C H σ δ fp ex v d k Q R q (w d δ k h) kk⟩
theorem MS.weak(h:MS X io st u)(w:∀D δ,u' D δ->u D δ):MS X io st u':=let⟨t,A,s⟩:=h;⟨t,A,λC H σ δ fp ex D D' R h E=>s C H σ δ fp ex D D' R (w D δ h) E⟩
theorem MSs.weak(h:MSs X io sts u)(w:∀D δ,u' D δ->u D δ):MSs X io sts u':=let⟨t,A,s⟩:=h;⟨t,A,λC H σ δ fp ex D D' R h E=>s C H σ δ fp ex D D' R (w D δ h) E⟩
end
noncomputable def Zd(i:Nat):FE:=λδ=>match δ[i]? with|some (some (.fz d))=>some (.fz d,δ)|_=>none
noncomputable def Zj0(i:Nat):FE:=λδ=>match δ[i]? with|some (some t)=>some (.fz t.data,δ)|_=>none
noncomputable def fC(d:Xa):FE:=λδ=>some (.fz d,δ)
noncomputable def Zf(g:Xa->Xa->Option Xa)(a b:FE):FE:=λδ=>(a δ).bind λp=>(b p.2).bind λq=>(g p.1.data q.1.data).bind λd=>some (.fz d,q.2)
noncomputable def Z6(g:Xa->Xa->Option OT)(a b:FE):FE:=λδ=>(a δ).bind λp=>(b p.2).bind λq=>(g p.1.data q.1.data).bind λd=>some (d,q.2)
noncomputable def fUn(g:Xa->Option Xa)(a:FE):FE:=λδ=>(a δ).bind λp=>(g p.1.data).bind λd=>some (.fz d,p.2)
noncomputable def Zwi(a b:FE):FE:=λδ=>(a δ).bind λp=>match p.1.data with| .bool true=>b p.2| .bool false=>some (.fz (.bool false),p.2)|_=>none
noncomputable def fOr(a b:FE):FE:=λδ=>(a δ).bind λp=>match p.1.data with| .bool true=>some (.fz (.bool true),p.2)| .bool false=>b p.2|_=>none
noncomputable def fIf(t:FT)(a b:FE):FE:=λδ=>(t δ).bind λp=>if p.1=true then a p.2 else b p.2
noncomputable def tV(e:FE):FT:=λδ=>(e δ).bind λp=>match p.1 with| .fz (.bool b)=>some (b,p.2)|_=>none
noncomputable def tNo(t:FT):FT:=λδ=>(t δ).bind λp=>some (!p.1,p.2)
noncomputable def tAn(t u:FT):FT:=λδ=>(t δ).bind λp=>if p.1=true then u p.2 else some (false,p.2)
noncomputable def tO(t u:FT):FT:=λδ=>(t δ).bind λp=>if p.1=true then some (true,p.2)else u p.2
noncomputable def tD(e:FE):FT:=λδ=>(e δ).bind λp=>(Zw9 p.1.data).bind λb=>some (b,p.2)
noncomputable def Zm:FA:=λδ=>some ([],δ)
noncomputable def Zc(e:FE)(a:FA):FA:=λδ=>(e δ).bind λp=>(a p.2).bind λq=>some (p.1 :: q.1,q.2)
noncomputable def Zlu(a:FA):FE:=λδ=>(a δ).bind λp=>if p.1.length≤Xy then some (.fz (.tuple (OT.datas p.1)),p.2)else none
noncomputable def Zch(a:FA):FE:=λδ=>(a δ).bind λp=>if p.1.length≤Xy then some (.nd p.1,p.2)else none
noncomputable def Zt4(e:FE):FE:=λδ=>(e δ).bind λp=>if Zbw p.1.data=true then some (.fz p.1.data,p.2)else none
noncomputable def Z4n(e:FE):FE:=λδ=>(e δ).bind λp=>if Z0x p.1=true then some (p.1,p.2)else none
inductive RF where
 | ok (r:OT)
 | exn (c:Str)
 | bad
noncomputable abbrev FD:=List Xa->RF
noncomputable abbrev FIO:=OT->List Xa->Option (OT×OT)
noncomputable def Zr(F:FD)(a:FA):FE:=λδ=>(a δ).bind λp=>match F (OT.datas p.1)with| .ok r=>some (r,p.2)|_=>none
noncomputable def Zzw(i:Nat)(F:FIO)(a:FA):FE:=λδ=>match δ[i]? with
 | some (some _)=>(a δ).bind λp=>match p.2[i]? with
  | some (some t)=>(F t (OT.datas p.1)).bind λq=>some (q.1,p.2.set i (some q.2))
  | _=>none
 | _=>none
noncomputable def J2(g:List Xa->Option Xa)(a:FA):FE:=λδ=>(a δ).bind λp=>(g (OT.datas p.1)).bind λd=>some (.fz d,p.2)
noncomputable def fBl(g:List Xa->Option OT)(a:FA):FE:=λδ=>(a δ).bind λp=>(g (OT.datas p.1)).bind λd=>some (d,p.2)
noncomputable def Ziw(T:String)(e:FE):FE:=λδ=>(e δ).bind λp=>if Ziz p.1.data=true then none else some (.fz (.bool (Zrp T p.1.data)),p.2)
noncomputable def oN:FO:=λδ=>some (none,δ)
noncomputable def oI(e:FE):FO:=λδ=>(e δ).bind λp=>match p.1.data with| .int i=>some (some i,p.2)|_=>none
noncomputable def fSl(e:FE)(lo hi:FO):FE:=λδ=>(e δ).bind λp=>(lo p.2).bind λq=>(hi q.2).bind λr=>match p.1.data with| .list ds=>some (.nd ((cutD ds q.1 r.1).map OT.fz),r.2)|_=>none
noncomputable def Zjx(e:FE):FI:=λδ=>(e δ).bind λp=>match p.1.data with| .list ds=>some (ds,p.2)|_=>none
noncomputable def iTp(e:FE):FI:=λδ=>(e δ).bind λp=>match p.1.data with| .tuple ds=>some (ds,p.2)|_=>none
noncomputable def rOk(j:Int):Bool:=decide (-(2^62)≤j)&&decide (j<2^62)
theorem Zde{j:Int}(h:rOk j=true):-(2^62)≤j∧j<2^62:=by
 unfold rOk at h
 rw[XD]at h
 exact⟨of_decide_eq_true h.1,of_decide_eq_true h.2⟩
theorem Zhs{j:Int}(h0:-1000000≤j)(h1:j≤1000000):rOk j=true:=by
 unfold rOk
 rw[decide_eq_true (show -(2^62)≤j by omega),decide_eq_true (show j<2^62 by omega)];rfl
noncomputable def iRa(a:FA):FI:=λδ=>(a δ).bind λp=>match OT.datas p.1 with|[.int j]=>if rOk j=true then some (Zci 0 j.toNat,p.2)else none|_=>none
noncomputable def iRb(a:FA):FI:=λδ=>(a δ).bind λp=>match OT.datas p.1 with|[.int i,.int j]=>if(rOk i&&rOk j)=true then some (Zci i (j-i).toNat,p.2)else none|_=>none
noncomputable def Z55(a:FA):FI:=λδ=>(a δ).bind λp=>match OT.datas p.1 with|[.list as,.list bs]=>some (Znh as bs,p.2)|_=>none
noncomputable def gNm(i:Nat):FG:=λd δ=>some (δ.set i (some (.fz d)))
noncomputable def Yfz(i:Nat):FG:=λd δ=>if Zbw d=true then some (δ.set i (some (.fz d)))else none
noncomputable def gNl:FGs:=λds δ=>match ds with|[]=>some δ|_=>none
noncomputable def gCn(g:FG)(gs:FGs):FGs:=λds δ=>match ds with|d :: r=>(g d δ).bind (gs r)|[]=>none
noncomputable def gTp(n:Nat)(gs:FGs):FG:=λd δ=>match d with| .tuple ds=>if ds.length=n then gs ds δ else none|_=>none
noncomputable def gLs(n:Nat)(gs:FGs):FG:=λd δ=>match d with| .list ds=>if ds.length=n then gs ds δ else none|_=>none
noncomputable def compLoop(g:FG)(t:FT)(e:FE):List Xa->Zj->Option (List OT×Zj)
 | [],δ=>some ([],δ)
 | d :: ds,δ=>(g d δ).bind λδ1=>(t δ1).bind λp=>if p.1=true then(e p.2).bind λq=>(compLoop g t e ds q.2).bind λz=>some (q.1 :: z.1,z.2)else compLoop g t e ds p.2
noncomputable def Wt(n:Nat)(caps:List Nat)(it:FI)(g:FG)(t:FT)(e:FE):FE:=λδ=>(it δ).bind λp=>if p.1.length≤Xy then(compLoop g t e p.1 (blk n caps p.2)).bind λz=>some (.nd z.1,p.2)else none
noncomputable def Zg5:FT:=λδ=>some (true,δ)
inductive RS where
 | nx (δ:Zj)
 | rt (r:OT) (δ:Zj)
 | bk (δ:Zj)
 | ct (δ:Zj)
 | ex (c:Str) (δ:Zj)
 | bad
noncomputable abbrev FS:=Zj->RS
noncomputable def RS.fits(D:Zi0):RS->Prop
 | .nx δ=>D.nx δ
 | .rt r δ=>D.rt r δ
 | .bk δ=>D.bk δ
 | .ct δ=>D.ct δ
 | _=>False
noncomputable def oS(f:FS):MSt:=λD δ=>(f δ).fits D
noncomputable def xS(K:Xc)(f:FS):MXt:=λδ k=>∃c C δ',f δ= .ex c δ'∧ClsAt K c C∧k C δ'
noncomputable def Zz(f g:FS):FS:=λδ=>match f δ with| .nx δ'=>g δ'|r=>r
noncomputable def fNx:FS:=λδ=>.nx δ
noncomputable def Ye1:FS:=λδ=>.bk δ
noncomputable def Yeq:FS:=λδ=>.ct δ
noncomputable def wE(e:FE)(k:OT->Zj->RS):FS:=λδ=>match e δ with|some (r,δ')=>k r δ'|none=>.bad
noncomputable def wX(F:FD)(a:FA)(k:OT->Zj->RS):FS:=λδ=>match a δ with
 | some (rs,δ1)=>match F (OT.datas rs)with
  | .ok r=>k r δ1
  | .exn c=>.ex c δ1
  | .bad=>.bad
 | none=>.bad
noncomputable def Zn7:OT->Zj->RS:=λ_ δ=>.nx δ
noncomputable def Ji:OT->Zj->RS:=λr δ=>.rt r δ
noncomputable def Z9u:OT->Zj->RS:=λr δ=>if Zbw r.data=true then .rt (.fz r.data) δ else .bad
noncomputable def Yt(i:Nat):OT->Zj->RS:=λr δ=>.nx (δ.set i (some (.fz r.data)))
noncomputable def Z9p(i:Nat):OT->Zj->RS:=λr δ=>if Zbw r.data=true then .nx (δ.set i (some (.fz r.data)))else .bad
noncomputable def Zap(i:Nat):OT->Zj->RS:=λr δ=>.nx (δ.set i (some r))
noncomputable def Z7k(g:FG):OT->Zj->RS:=λr δ=>match g r.data δ with|some δ'=>.nx δ'|none=>.bad
noncomputable def Z9z:FS:=λδ=>.rt (.fz .none) δ
noncomputable def Zea(i:Nat):FS:=λδ=>match δ[i]? with|some (some t)=>.rt t (δ.set i none)|_=>.bad
noncomputable def Wz(t:FT)(u w:FS):FS:=λδ=>match t δ with|some (b,δ')=>if b=true then u δ' else w δ'|none=>.bad
noncomputable def Zmd(c:Str):FS:=λδ=>.ex c δ
noncomputable def Wq(i:Nat)(e:FE):FS:=λδ=>match δ[i]? with
 | some (some (.nd _))=>wE e (λr δ1=>match δ1[i]? with
  | some (some (.nd ts))=>if ts.length<Xy then .nx (δ1.set i (some (.nd (ts ++ [.fz r.data]))))else .bad
  | _=>.bad) δ
 | _=>.bad
noncomputable def Zp9(i:Nat)(e:FE):FS:=λδ=>match δ[i]? with
 | some (some (.nd _))=>wE e (λr δ1=>match δ1[i]? with
  | some (some (.nd ts))=>if ts.length<Xy then .nx (δ1.set i (some (.nd (ts ++ [r]))))else .bad
  | _=>.bad) δ
 | _=>.bad
noncomputable def Yd3(i:Nat)(e j:FE):FS:=wE e λr δ1=>match δ1[i]? with
 | some (some (.nd ts))=>wE j (λn _=>match n.data with
  | .int k=>match ixN ts.length k with
   | some j=>.nx (δ1.set i (some (.nd (ts.set j (.fz r.data)))))
   | none=>.bad
  | _=>.bad) δ1
 | _=>.bad
noncomputable def Zia(i:Nat)(e j j2:FE):FS:=wE e λr δ1=>match δ1[i]? with
 | some (some (.nd ts))=>wE j (λn _=>match n.data with
  | .int k=>match ixN ts.length k with
   | some j=>match ts[j]? with
    | some (.nd us)=>wE j2 (λn' _=>match n'.data with
     | .int k'=>match ixN us.length k' with
      | some j'=>.nx (δ1.set i (some (.nd (ts.set j (.nd (us.set j' (.fz r.data)))))))
      | none=>.bad
     | _=>.bad) δ1
    | _=>.bad
   | none=>.bad
  | _=>.bad) δ1
 | _=>.bad
noncomputable def Zcp(i:Nat)(u:FS):FS:=λδ=>match δ[i]? with|some (some t)=>u (δ.set i (some (.fz t.data)))|_=>.bad
noncomputable def forLoop(g:FG)(u:FS):List Xa->Zj->RS
 | [],δ=>.nx δ
 | d :: ds,δ=>match g d δ with
  | none=>.bad
  | some δ1=>match u δ1 with
   | .nx δ2=>forLoop g u ds δ2
   | .ct δ2=>forLoop g u ds δ2
   | .bk δ2=>.nx δ2
   | r=>r
noncomputable def Zb0(it:FI)(g:FG)(u:FS):FS:=λδ=>match it δ with|some (ds,δ1)=>forLoop g u ds δ1|none=>.bad
noncomputable def whileLoop(t:FT)(u:FS):Nat->Zj->RS
 | 0,_=>.bad
 | n+1,δ=>match t δ with
  | none=>.bad
  | some (b,δ1)=>if b=true then match u δ1 with
   | .nx δ2=>whileLoop t u n δ2
   | .ct δ2=>whileLoop t u n δ2
   | .bk δ2=>.nx δ2
   | .rt r δ2=>.rt r δ2
   | _=>.bad
   else .nx δ1
open Classical in
noncomputable def Zjm(t:FT)(u:FS):FS:=λδ=>if h:∃n,whileLoop t u n δ≠ .bad then whileLoop t u (Classical.choose h) δ else .bad
noncomputable def Zes(n:Nat)(ds:List Xa):Zj:=ds.map (λd=>some (.fz d)) ++ XF (n-ds.length) none
noncomputable def Yal(n:Nat)(t:OT)(ds:List Xa):Zj:=some t :: (ds.map (λd=>some (.fz d)) ++ XF (n-(ds.length+1)) none)
noncomputable def RS.told:RS->RF
 | .nx _=>.ok (.fz .none)
 | .rt r _=>.ok r
 | .ex c _=>.exn c
 | _=>.bad
noncomputable def Zae(np n:Nat)(S:FS):FD:=λds=>if ds.length=np then(S (Zes n ds)).told else .bad
noncomputable def sD(F:FD):List Xa->(OT->Prop)->Prop:=λds k=>∃r,F ds= .ok r∧k r
theorem bs{α β:Type}{x:Option α}{f:α->Option β}{b:β}(h:x.bind f=some b):∃a,x=some a∧f a=some b:=Option.bind_eq_some_iff.mp h
section
variable {X:Cx}{io:List Nat}{p c:Bool}{e tg:Expr}{es:List Expr}{st:Stmt}{sts:List Stmt}{eo:Option Expr}{fa fb fc:FE}{ra:FA}{ta tb:FT}{i:Nat}
theorem W9(h:ME X io p c e (Z80 i)):ME X io p c e (o2 (Zd i)):=h.weak λδ K q91=>by
 obtain⟨r,δ',h,k⟩:=q91
 unfold Zd at h;unfold Z80
 split at h
 ·rename_i d hd;(try rw[hd]);cases h;exact k
 ·cases h
theorem Z6w(h:ME X io p c e (Z9e i)):ME X io p c e (o2 (Zj0 i)):=h.weak λδ K q92=>by
 obtain⟨r,δ',h,k⟩:=q92
 unfold Zj0 at h;unfold Z9e
 split at h
 ·rename_i d hd;(try rw[hd]);cases h;exact k
 ·cases h
theorem Zc6{d:Xa}(h:ME X io p c e (mC d)):ME X io p c e (o2 (fC d)):=h.weak λδ K ⟨r,δ',h,k⟩=>by cases h;exact k
noncomputable def ByS(g:Xa->Xa->Option Xa)(rp:Xa->Xa->(Xa->Prop)->Prop):Prop:=∀d e r k,g d e=some r->k r->rp d e k
noncomputable def ByO(g:Xa->Xa->Option OT)(rp:Xa->Xa->(OT->Prop)->Prop):Prop:=∀d e r k,g d e=some r->k r->rp d e k
theorem Zzd{g rp}(G:ByS g rp){δ:Zj}{K:OT->Zj->Prop}(h:o2 (Zf g fa fb) δ K):Zn6 rp (o2 fa) (o2 fb) δ K:=by
 obtain⟨r,δ',h,k⟩:=h
 obtain⟨⟨x,δ1⟩,h1,h⟩:=bs h
 obtain⟨⟨y,δ2⟩,h2,h⟩:=bs h
 obtain⟨d,h3,h⟩:=bs h
 cases h
 exact⟨x,δ1,h1,y,δ2,h2,G _ _ _ _ h3 k⟩
theorem W0{g rp}(G:ByS g rp)(h:ME X io p c e (Zn6 rp (o2 fa) (o2 fb))):ME X io p c e (o2 (Zf g fa fb)):=h.weak λδ K z=>Zzd G z
theorem Ycy{f:FE}{δ:Zj}{K:Bool->Zj->Prop}(h:o2 (tV f) δ K):o2 f δ (kB K):=by
 obtain⟨b,δ',h,k⟩:=h
 obtain⟨⟨x,δ1⟩,h1,h⟩:=bs h
 refine⟨x,δ1,h1,?_⟩
 unfold kB
 try dsimp only at h⊢
 split at h
 ·cases h;exact k
 ·cases h
theorem Zbn{g rp}(G:ByS g rp)(h:MT X io p e (λδ K=>Zn6 rp (o2 fa) (o2 fb) δ (kB K))):MT X io p e (o2 (tV (Zf g fa fb))):=h.weak λδ K z=>Zzd G (Ycy z)
theorem Zef{g rp}(G:ByO g rp)(h:ME X io p c e (Z9f rp (o2 fa) (o2 fb))):ME X io p c e (o2 (Z6 g fa fb)):=h.weak λδ K h=>by
 obtain⟨r,δ',h,k⟩:=h
 obtain⟨⟨x,δ1⟩,h1,h⟩:=bs h
 obtain⟨⟨y,δ2⟩,h2,h⟩:=bs h
 obtain⟨d,h3,h⟩:=bs h
 cases h
 exact⟨x,δ1,h1,y,δ2,h2,G _ _ _ _ h3 k⟩
noncomputable def Znj:Xa->Option Xa| .int i=>some (.int (-i))|_=>none
noncomputable def Z9t:Xa->Option Xa| .bool b=>some (.bool (!b))|_=>none
theorem Zgq(h:ME X io p c e (Ycp (o2 fa))):ME X io p c e (o2 (fUn Znj fa)):=h.weak λδ K h=>by
 obtain⟨r,δ',h,k⟩:=h
 obtain⟨⟨x,δ1⟩,h1,h⟩:=bs h
 obtain⟨d,h3,h⟩:=bs h
 cases h
 refine⟨x,δ1,h1,?_⟩
 dsimp only at h3⊢
 cases q:x.data<;>rw[q]at h3<;>cases h3
 exact k
theorem Z1s(h:ME X io p c e (Z5l (o2 fa))):ME X io p c e (o2 (fUn Z9t fa)):=h.weak λδ K h=>by
 obtain⟨r,δ',h,k⟩:=h
 obtain⟨⟨x,δ1⟩,h1,h⟩:=bs h
 obtain⟨d,h3,h⟩:=bs h
 cases h
 refine⟨x,δ1,h1,?_⟩
 dsimp only at h3⊢
 cases q:x.data<;>rw[q]at h3<;>cases h3
 exact k
theorem Zkx(h:ME X io p c e (Z67 (o2 fa) (o2 fb))):ME X io p c e (o2 (Zwi fa fb)):=h.weak λδ K h=>by
 obtain⟨r,δ',h,k⟩:=h
 obtain⟨⟨x,δ1⟩,h1,h⟩:=bs h
 refine⟨x,δ1,h1,?_⟩
 try dsimp only at h⊢
 split at h
 ·rename_i q;(try rw[q]);rw[Zyt,if_pos rfl];exact⟨r,δ',h,k⟩
 ·rename_i q;(try rw[q]);cases h;rw[Zyt,if_neg Xp];exact k
 ·cases h
theorem Ybj(h:ME X io p c e (mIf (o2 ta) (o2 fa) (o2 fb))):ME X io p c e (o2 (fIf ta fa fb)):=h.weak λδ K h=>by
 obtain⟨r,δ',h,k⟩:=h
 obtain⟨⟨x,δ1⟩,h1,h⟩:=bs h
 refine⟨x,δ1,h1,?_⟩
 try dsimp only at h⊢
 split at h
 ·rename_i q;rw[if_pos q];exact⟨r,δ',h,k⟩
 ·rename_i q;rw[if_neg q];exact⟨r,δ',h,k⟩
theorem Z7b(h:MT X io p e (Ycv (o2 ta))):MT X io p e (o2 (tNo ta)):=h.weak λδ K h=>by
 obtain⟨r,δ',h,k⟩:=h
 obtain⟨⟨x,δ1⟩,h1,h⟩:=bs h
 cases h
 exact⟨x,δ1,h1,k⟩
theorem Zp6(h:MW X io p e (Ydn (o2 ta) (o2 tb))):MW X io p e (o2 (tAn ta tb)):=h.weak λδ K h=>by
 obtain⟨r,δ',h,k⟩:=h
 obtain⟨⟨x,δ1⟩,h1,h⟩:=bs h
 refine⟨x,δ1,h1,?_⟩
 try dsimp only at h⊢
 split at h
 ·rename_i q;rw[if_pos q];exact⟨r,δ',h,k⟩
 ·rename_i q;rw[if_neg q];cases h;exact k
theorem Zbi(h:MW X io p e (mOr (o2 ta) (o2 tb))):MW X io p e (o2 (tO ta tb)):=h.weak λδ K h=>by
 obtain⟨r,δ',h,k⟩:=h
 obtain⟨⟨x,δ1⟩,h1,h⟩:=bs h
 refine⟨x,δ1,h1,?_⟩
 try dsimp only at h⊢
 split at h
 ·rename_i q;rw[if_pos q];cases h;exact k
 ·rename_i q;rw[if_neg q];exact⟨r,δ',h,k⟩
theorem J4(h:MT X io p e (Ydx (o2 fa))):MT X io p e (o2 (tD fa)):=h.weak λδ K h=>by
 obtain⟨r,δ',h,k⟩:=h
 obtain⟨⟨x,δ1⟩,h1,h⟩:=bs h
 obtain⟨d,h3,h⟩:=bs h
 cases h
 refine⟨x,δ1,h1,?_⟩
 dsimp only at h3⊢
 rw[h3]
 exact k
theorem Zep(h:MA X io p c es Yda):MA X io p c es (o2 Zm):=h.weak λδ K ⟨r,δ',h,k⟩=>by cases h;exact k
theorem Z27(h:MA X io p c es (Z5n (o2 fa) (o2 ra))):MA X io p c es (o2 (Zc fa ra)):=h.weak λδ K h=>by
 obtain⟨r,δ',h,k⟩:=h
 obtain⟨⟨x,δ1⟩,h1,h⟩:=bs h
 obtain⟨⟨y,δ2⟩,h2,h⟩:=bs h
 cases h
 exact⟨x,δ1,h1,y,δ2,h2,k⟩
theorem Z8w(h:ME X io p c e (Yec (o2 ra))):ME X io p c e (o2 (Zlu ra)):=h.weak λδ K h=>by
 obtain⟨r,δ',h,k⟩:=h
 obtain⟨⟨x,δ1⟩,h1,h⟩:=bs h
 refine⟨x,δ1,h1,?_⟩
 dsimp only at h
 split at h
 ·rename_i q;cases h;exact⟨q,k⟩
 ·cases h
theorem Zuo(h:ME X io p c e (Yed (o2 ra))):ME X io p c e (o2 (Zch ra)):=h.weak λδ K h=>by
 obtain⟨r,δ',h,k⟩:=h
 obtain⟨⟨x,δ1⟩,h1,h⟩:=bs h
 refine⟨x,δ1,h1,?_⟩
 dsimp only at h
 split at h
 ·rename_i q;cases h;exact⟨q,k⟩
 ·cases h
theorem Z0d(h:ME X io p c e (Z51 (o2 fa))):ME X io p c e (o2 (Zt4 fa)):=h.weak λδ K h=>by
 obtain⟨r,δ',h,k⟩:=h
 obtain⟨⟨x,δ1⟩,h1,h⟩:=bs h
 refine⟨x,δ1,h1,?_⟩
 dsimp only at h
 split at h
 ·rename_i q;cases h;exact⟨q,k⟩
 ·cases h
theorem Zkk{F:FD}(h:ME X io p c e (Z3v (sD F) (o2 ra))):ME X io p c e (o2 (Zr F ra)):=h.weak λδ K h=>by
 obtain⟨r,δ',h,k⟩:=h
 obtain⟨⟨x,δ1⟩,h1,h⟩:=bs h
 refine⟨x,δ1,h1,?_⟩
 dsimp only at h
 split at h
 ·rename_i q;cases h;exact⟨_,q,k⟩
 ·cases h
theorem Zer{g rp}(G:∀ds r k,g ds=some r->k r->rp ds k)(h:ME X io p c e (Z93 rp (o2 ra))):ME X io p c e (o2 (J2 g ra)):=h.weak λδ K h=>by
 obtain⟨r,δ',h,k⟩:=h
 obtain⟨⟨x,δ1⟩,h1,h⟩:=bs h
 obtain⟨d,h3,h⟩:=bs h
 cases h
 exact⟨x,δ1,h1,G _ _ _ h3 k⟩
theorem Zrh{g rp}(G:∀ds r k,g ds=some r->k r->rp ds k)(h:ME X io p c e (mBl rp (o2 ra))):ME X io p c e (o2 (fBl g ra)):=h.weak λδ K h=>by
 obtain⟨r,δ',h,k⟩:=h
 obtain⟨⟨x,δ1⟩,h1,h⟩:=bs h
 obtain⟨d,h3,h⟩:=bs h
 cases h
 exact⟨x,δ1,h1,G _ _ _ h3 k⟩
theorem Zc1{T:String}(h:ME X io p c e (Ydy T (o2 fa))):ME X io p c e (o2 (Ziw T fa)):=h.weak λδ K h=>by
 obtain⟨r,δ',h,k⟩:=h
 obtain⟨⟨x,δ1⟩,h1,h⟩:=bs h
 by_cases hf:Ziz x.data=true
 ·have h':(if Ziz x.data=true then none else some (OT.fz (.bool (Zrp T x.data)),δ1))=some (r,δ'):=h
  rw[if_pos hf]at h'
  cases h'
 ·have h':(if Ziz x.data=true then none else some (OT.fz (.bool (Zrp T x.data)),δ1))=some (r,δ'):=h
  rw[if_neg hf]at h'
  injection h' with h'
  injection h' with e1 e2
  subst e1 e2
  exact⟨x,_,h1,Bu.mpr hf,k⟩
theorem Zih(h:MO X io p eo Ztq):MO X io p eo (o2 oN):=h.weak λδ K ⟨r,δ',h,k⟩=>by cases h;exact k
theorem Zbt(h:MO X io p eo (Z6r (o2 fa))):MO X io p eo (o2 (oI fa)):=h.weak λδ K h=>by
 obtain⟨r,δ',h,k⟩:=h
 obtain⟨⟨x,δ1⟩,h1,h⟩:=bs h
 refine⟨x,δ1,h1,?_⟩
 try dsimp only at h⊢
 split at h
 ·rename_i q;(try rw[q]);cases h;exact k
 ·cases h
theorem Zqn{lo hi:FO}(h:ME X io p c e (mSl (o2 fa) (o2 lo) (o2 hi))):ME X io p c e (o2 (fSl fa lo hi)):=h.weak λδ K h=>by
 obtain⟨r,δ',h,k⟩:=h
 obtain⟨⟨x,δ1⟩,h1,h⟩:=bs h
 obtain⟨⟨y,δ2⟩,h2,h⟩:=bs h
 obtain⟨⟨z,δ3⟩,h3,h⟩:=bs h
 refine⟨x,δ1,h1,y,δ2,h2,z,δ3,h3,?_⟩
 try dsimp only at h⊢
 split at h
 ·rename_i q;(try rw[q]);cases h;exact k
 ·cases h
theorem Z1t(h:MI X io p c tg e (iL (o2 fa))):MI X io p c tg e (o2 (Zjx fa)):=h.weak λδ K h=>by
 obtain⟨r,δ',h,k⟩:=h
 obtain⟨⟨x,δ1⟩,h1,h⟩:=bs h
 refine⟨x,δ1,h1,?_⟩
 try dsimp only at h⊢
 split at h
 ·rename_i q;(try rw[q]);cases h;exact k
 ·cases h
theorem Z5f(h:MI X io p c tg e (iT (o2 fa))):MI X io p c tg e (o2 (iTp fa)):=h.weak λδ K h=>by
 obtain⟨r,δ',h,k⟩:=h
 obtain⟨⟨x,δ1⟩,h1,h⟩:=bs h
 refine⟨x,δ1,h1,?_⟩
 try dsimp only at h⊢
 split at h
 ·rename_i q;(try rw[q]);cases h;exact k
 ·cases h
theorem Zdf(h:MI X io p c tg e (iR1 (o2 ra))):MI X io p c tg e (o2 (iRa ra)):=h.weak λδ K h=>by
 obtain⟨r,δ',h,k⟩:=h
 obtain⟨⟨x,δ1⟩,h1,h⟩:=bs h
 refine⟨x,δ1,h1,?_⟩
 try dsimp only at h⊢
 split at h
 case h_2=>cases h
 rename_i q
 (try rw[q])
 try dsimp only
 split at h
 ·rename_i b;cases h;exact⟨Zde b,k⟩
 ·cases h
theorem Zt0(h:MI X io p c tg e (iR2 (o2 ra))):MI X io p c tg e (o2 (iRb ra)):=h.weak λδ K h=>by
 obtain⟨r,δ',h,k⟩:=h
 obtain⟨⟨x,δ1⟩,h1,h⟩:=bs h
 refine⟨x,δ1,h1,?_⟩
 try dsimp only at h⊢
 split at h
 case h_2=>cases h
 rename_i q
 (try rw[q])
 try dsimp only
 split at h
 ·rename_i b
  cases h
  rw[XD]at b
  exact⟨⟨(Zde b.1).1,(Zde b.1).2,(Zde b.2).1,(Zde b.2).2⟩,k⟩
 ·cases h
theorem Zto(h:MG X io c tg (dName i)):MG X io c tg (oG (gNm i)):=h.weak λd δ K ⟨δ',h,k⟩=>by cases h;exact k
theorem Z0l(h:MGs X io c es Yea):MGs X io c es (oGs gNl):=h.weak λd δ K q94=>by
 obtain⟨δ',h,k⟩:=q94
 unfold gNl at h
 split at h
 ·cases h;exact⟨rfl,k⟩
 ·cases h
theorem Zpm{g:FG}{gs:FGs}(h:MGs X io c es (Z50 (oG g) (oGs gs))):MGs X io c es (oGs (gCn g gs)):=h.weak λd δ K q95=>by
 obtain⟨δ',h,k⟩:=q95
 unfold gCn at h
 split at h
 ·obtain⟨δ1,h1,h⟩:=bs h
  exact⟨δ1,h1,δ',h,k⟩
 ·cases h
theorem Z69{n:Nat}{gs:FGs}(h:MG X io c tg (dTup n (oGs gs))):MG X io c tg (oG (gTp n gs)):=h.weak λd δ K q96=>by
 obtain⟨δ',h,k⟩:=q96
 unfold gTp at h
 split at h
 case h_2=>cases h
 split at h
 ·rename_i q;exact⟨q,δ',h,k⟩
 ·cases h
theorem Zao(h:MIfs X io p es Z8t):MIfs X io p es (o2 Zg5):=h.weak λδ K ⟨r,δ',h,k⟩=>by cases h;exact k
theorem Z0m{g:FG}{t:FT}{me:FE}{ds:List Xa}{δ0:Zj}{zs:List OT}{δe:Zj}(h:compLoop g t me ds δ0=some (zs,δe)) :
  ∃I:Nat->List OT->Zj->Prop,I 0 [] δ0∧
 (∀ (i:Nat) (d:Xa) (rs:List OT) (δ':Zj),ds[i]? =some d->I i rs δ'->oG g d δ' λδ2=>o2 t δ2 λb δ3=>if b=true then o2 me δ3 λr δ4=>I (i+1) (rs ++ [r]) δ4 else I (i+1) rs δ3)∧
 ∀rs δ',I ds.length rs δ'->rs=zs∧δ'=δe:=by
 refine⟨λi rs δ'=>∃ys,rs ++ ys=zs∧compLoop g t me (ds.drop i) δ'=some (ys,δe),⟨zs,rfl,by rw[List.drop_zero];exact h⟩,?_,?_⟩
 ·rintro i d rs δ' hd ⟨ys,e,hl⟩
  obtain⟨hi,hdi⟩:=Xm.mp hd
  rw[V4 hi,hdi]at hl
  unfold compLoop at hl
  obtain⟨δ1,h1,hl⟩:=bs hl
  obtain⟨⟨b,δ2⟩,h2,hl⟩:=bs hl
  refine⟨δ1,h1,b,δ2,h2,?_⟩
  dsimp only at hl
  split at hl
  ·rename_i hb
   rw[if_pos hb]
   obtain⟨⟨r,δ3⟩,h3,hl⟩:=bs hl
   obtain⟨⟨ws,δ4⟩,h4,hl⟩:=bs hl
   cases hl
   exact⟨r,δ3,h3,ws,by rw[Q7];exact e,h4⟩
  ·rename_i hb
   rw[if_neg hb]
   exact⟨ys,e,hl⟩
 ·rintro rs δ' ⟨ys,e,hl⟩
  rw[List.drop_length]at hl
  unfold compLoop at hl
  cases hl
  exact⟨by rw[←e,Q4],rfl⟩
theorem Zoy{n:Nat}{caps:List Nat}{it:FI}{g:FG}{t:FT}{me:FE}{δ:Zj}{K:OT->Zj->Prop}(h:o2 (Wt n caps it g t me) δ K):Zgd n caps (o2 it) (oG g) (o2 t) (o2 me) δ K:=by
 obtain⟨r,δ',h,k⟩:=h
 obtain⟨⟨ds,δ1⟩,h1,h⟩:=bs h
 refine⟨ds,δ1,h1,?_⟩
 dsimp only at h
 split at h
 case isFalse=>cases h
 rename_i hz
 obtain⟨⟨zs,δe⟩,h2,h⟩:=bs h
 cases h
 obtain⟨I,i0,st,en⟩:=Z0m h2
 refine⟨hz,I,i0,st,λrs δ'' q=>?_⟩
 obtain⟨rfl,rfl⟩:=en rs δ'' q
 exact k
theorem Zby{n:Nat}{caps:List Nat}{it:FI}{g:FG}{t:FT}{me:FE}(h:ME X io p c e (Zgd n caps (o2 it) (oG g) (o2 t) (o2 me))):ME X io p c e (o2 (Wt n caps it g t me)):=h.weak λδ K z=>Zoy z
end
section
variable {X:Cx}{io:List Nat}{p c:Bool}{e tg iter:Expr}{es:List Expr}{st:Stmt}{sts:List Stmt}{fa fb fc:FE}{ra:FA}{ta tb:FT}{i:Nat}{f g u w:FS}
theorem Zmw(h:MSs X io sts (Z9q (oS f) (oS g))):MSs X io sts (oS (Zz f g)):=h.weak λD δ h=>by
 unfold oS Zz at h;unfold Z9q oS
 cases q:f δ<;>rw[q]at h<;>exact h
theorem Zk5(h:MSs X io sts Z76):MSs X io sts (oS fNx):=h.weak λD δ h=>h
theorem Zq4{k:OT->Zj->RS}{D:Zi0}{δ:Zj}(h:oS (wE fa k) D δ):o2 fa δ λr δ'=>(k r δ').fits D:=by
 unfold oS wE at h
 split at h
 ·rename_i q;exact⟨_,_,q,h⟩
 ·exact h.elim
theorem o2.imp{α:Type}{f:Zj->Option (α×Zj)}{δ:Zj}{K K':α->Zj->Prop}(h:o2 f δ K)(k:∀r δ',K r δ'->K' r δ'):o2 f δ K':=let⟨r,δ',e,q⟩:=h;⟨r,δ',e,k r δ' q⟩
theorem Zo4{P:Prop}[Decidable P]{a:RS}{D:Zi0}(h:(if P then a else .bad:RS).fits D):P∧a.fits D:=by
 split at h
 ·exact⟨‹_›,h⟩
 ·exact h.elim
theorem Zno(h:MS X io st (Z5u (o2 fa))):MS X io st (oS (wE fa Zn7)):=h.weak λD δ h=>Zq4 h
theorem Zpv(h:MS X io st (Yej (o2 fa))):MS X io st (oS (wE fa Ji)):=h.weak λD δ h=>Zq4 h
theorem Zcl(h:MS X io st (Zyf i)):MS X io st (oS (Zea i)):=h.weak λD δ h=>by
 unfold oS Zea at h;unfold Zyf
 split at h
 ·rename_i q;(try rw[q]);exact h
 ·exact h.elim
theorem Zxi(h:MS X io st (Yel (o2 ta) (oS u) (oS w))):MS X io st (oS (Wz ta u w)):=h.weak λD δ h=>by
 unfold oS Wz at h
 split at h
 ·rename_i b δ' q
  refine⟨b,δ',q,?_⟩
  split at h
  ·rename_i hb;rw[if_pos hb];exact h
  ·rename_i hb;rw[if_neg hb];exact h
 ·exact h.elim
theorem Zvv(h:MS X io st (Z34 i (o2 fa))):MS X io st (oS (wE fa (Yt i))):=h.weak λD δ h=>Zq4 h
theorem Z22(h:MS X io st (Zl3 i (o2 fa))):MS X io st (oS (wE fa (Zap i))):=h.weak λD δ h=>Zq4 h
section
variable {n:Nat}{caps:List Nat}{o q:Nat}{it:FI}{gg:FG}{t:FT}{me:FE}
theorem Zke(h:MS X io st (if true=true then Zl3 i (Zgd n caps (o2 it) (oG gg) (o2 t) (o2 me))else Z34 i (Zgd n caps (o2 it) (oG gg) (o2 t) (o2 me)))):MS X io st (oS (wE (Wt n caps it gg t me) (Zap i))) :=
 h.weak λD δ h=>by rw[if_pos rfl];exact Zoy (Zq4 h)
theorem Z11(h:MS X io st (if false=true then Zl3 i (Zgd n caps (o2 it) (oG gg) (o2 t) (o2 me))else Z34 i (Zgd n caps (o2 it) (oG gg) (o2 t) (o2 me)))):MS X io st (oS (wE (Wt n caps it gg t me) (Yt i))) :=
 h.weak λD δ h=>by rw[if_neg Xp];exact Zoy (Zq4 h)
end
theorem Z8c{gg:FG}(h:MS X io st (Yd6 (o2 fa) (oG gg))):MS X io st (oS (wE fa (Z7k gg))):=h.weak λD δ h=>(Zq4 h).imp λr δ' q=>by
 unfold Z7k at q
 split at q
 ·rename_i z;exact⟨_,z,q⟩
 ·exact q.elim
theorem Zag(h:MS X io st (Zj1 i (o2 fa))):MS X io st (oS (Wq i fa)):=h.weak λD δ h=>by
 unfold oS Wq at h;unfold Zj1
 split at h
 case h_2=>exact h.elim
 rename_i q;(try rw[q])
 refine(Zq4 h).imp λr δ' z=>?_
 split at z
 ·rename_i q2;(try rw[q2]);exact Zo4 z
 ·exact z.elim
theorem Zhn(h:MS X io st (Z4l i (o2 fa) (o2 fb) (o2 fc))):MS X io st (oS (Zia i fa fb fc)):=h.weak λD δ h=>by
 refine(Zq4 h).imp λr δ' z=>?_
 split at z
 case h_2=>exact z.elim
 rename_i q;(try rw[q])
 refine(Zq4 z).imp λn δ2 z=>?_
 split at z
 case h_2=>exact z.elim
 rename_i k q2;(try rw[q2])
 show match ixN _ k with|some j=>_|none=>_
 split at z
 case h_2=>exact z.elim
 rename_i q3;(try rw[q3])
 try dsimp only
 split at z
 case h_2=>exact z.elim
 rename_i q4;(try rw[q4])
 refine(Zq4 z).imp λn' δ3 z=>?_
 split at z
 case h_2=>exact z.elim
 rename_i k' q5;(try rw[q5])
 show match ixN _ k' with|some j=>_|none=>_
 split at z
 ·rename_i q6;(try rw[q6]);exact z
 ·exact z.elim
theorem Zic(h:MS X io st (Zlm i (oS u))):MS X io st (oS (Zcp i u)):=h.weak λD δ h=>by
 unfold oS Zcp at h;unfold Zlm
 split at h
 ·rename_i q;(try rw[q]);exact h
 ·exact h.elim
theorem Zgx{gg:FG}{d:Xa}{ds:List Xa}{δ:Zj}:forLoop gg u (d :: ds) δ=match gg d δ with
  | none=>.bad
  | some δ1=>match u δ1 with
   | .nx δ2=>forLoop gg u ds δ2
   | .ct δ2=>forLoop gg u ds δ2
   | .bk δ2=>.nx δ2
   | r=>r:=rfl
theorem Zzj{it:FI}{gg:FG}(h:MS X io st (Yee (o2 it) (oG gg) (oS u))):MS X io st (oS (Zb0 it gg u)):=h.weak λD δ h=>by
 unfold oS Zb0 at h
 split at h
 case h_2=>exact h.elim
 rename_i ds δ1 q
 refine⟨ds,δ1,q,λi δ'=>(forLoop gg u (ds.drop i) δ').fits D,by show RS.fits D (forLoop gg u (ds.drop 0) δ1);rw[List.drop_zero];exact h,λi d δ' hd z=>?_,λδ' z=>?_⟩
 ·obtain⟨hi,hdi⟩:=Xm.mp hd
  replace z:RS.fits D (forLoop gg u (ds.drop i) δ'):=z
  rw[V4 hi,hdi,Zgx]at z
  split at z
  case h_1=>exact z.elim
  rename_i δ2 q2
  refine⟨δ2,q2,?_⟩
  unfold oS
  cases q3:u δ2<;>rw[q3]at z<;>(try rw[q3])<;>exact z
 ·replace z:RS.fits D (forLoop gg u (ds.drop ds.length) δ'):=z
  rw[List.drop_length]at z;exact z
theorem Zo1(h:MS X io st (Zyz (o2 ta) (oS u))):MS X io st (oS (Zjm ta u)):=h.weak λD δ h=>by
 unfold oS Zjm at h
 split at h
 case isFalse=>exact h.elim
 rename_i hn
 refine⟨λn δ'=>(whileLoop ta u n δ').fits D,⟨_,h⟩,λn δ' z=>?_⟩
 cases n with
 | zero=>exact z.elim
 | succ n=>
  unfold whileLoop at z
  split at z
  case h_1=>exact z.elim
  rename_i b δ1 q
  refine⟨b,δ1,q,?_⟩
  split at z
  ·rename_i hb
   rw[if_pos hb]
   refine⟨λδ''=>(whileLoop ta u n δ'').fits D,λδ'' y=>⟨n,Qx n,y⟩,?_⟩
   unfold oS
   cases q3:u δ1<;>rw[q3]at z<;>exact z
  ·rename_i hb
   rw[if_neg hb]
   exact z
theorem Zei{n m:Nat}:∀{δ:Zj},whileLoop ta u n δ≠ .bad->whileLoop ta u (n+m) δ=whileLoop ta u n δ:=by
 induction n with
 | zero=>intro δ h;exact absurd rfl h
 | succ n ih=>
  intro δ h
  rw[Nat.succ_add]
  unfold whileLoop at h⊢
  cases q:ta δ with
  | none=>rfl
  | some x=>
   obtain⟨b,δ1⟩:=x
   rw[q]at h
   try dsimp only at h⊢
   split
   ·rename_i hb
    rw[if_pos hb]at h
    cases q3:u δ1<;>rw[q3]at h<;>first|exact ih h|rfl
   ·rfl
theorem Zm2{r:RS}{δ:Zj}(n:Nat)(h:whileLoop ta u n δ=r)(hr:r≠ .bad):Zjm ta u δ=r:=by
 have hn:∃n,whileLoop ta u n δ≠ .bad:=⟨n,by rw[h];exact hr⟩
 unfold Zjm
 rw[dif_pos hn]
 have h1:=Classical.choose_spec hn
 have e1:=Zei (m:=n) h1
 have e2:=Zei (m:=Classical.choose hn) (show whileLoop ta u n δ≠ .bad by rw[h];exact hr)
 rw[Nat.add_comm]at e2
 rw[←e1,e2,h]
theorem Zlj{cn:Str}:MS X io st (oS (Zmd cn)):=Zxe.weak λD δ h=>h
class NoEx (f:FS):Prop where
 no:∀δ cn δ',f δ≠ .ex cn δ'
class NoExK (k:OT->Zj->RS):Prop where
 no:∀r δ cn δ',k r δ≠ .ex cn δ'
end
section
variable {P:X6}{w:Qq}{K:Xc}{mg:Str->Option Xf}{base:Heap}{x qual:Str}{st:Stmt}{f:Addr}{fd:XQ}{N ps:List Str}{n np nn:Nat}{S:FS}
theorem RS.told_fits{r:RS}{o:OT}{k:OT->Prop}(h:r.told= .ok o)(hk:k o):r.fits (Z3c k):=by
 cases r<;>unfold RS.told at h<;>first|(cases h;exact hk)|cases h
theorem Z9(F:Fun K x qual st f fd)(Sc:Zw N ps (Zn st))(hN:N.length=nn)(hp:np=ps.length)
  (hb:∀(cdv:Xf) (A:Qo) (outer:List Env) (s:Xh) (H:Hp) (E:XK),Room n (A.deeper (envOfC qual (Zn st) s.heap.objs.size f cdv))->MSs (Zzt CX0 P w K mg base N qual (Zn st) f cdv A outer s H E).nox [] (Zcr st) (oS S)) :
  FnOk P w K mg base CX0 (n+1) f fd ps (spD K (sD (Zae np nn S))):=by
 subst hN hp
 refine F.okD Sc (λds k h=>?_) λcdv A outer s H E hr=>⟨_,hb cdv A outer s H E hr,λds k h=>?_⟩
 ·obtain⟨r,h,_⟩:=h
  unfold Zae at h
  split at h
  ·assumption
  ·cases h
 ·obtain⟨r,h,hk⟩:=h
  unfold Zae at h
  split at h
  ·exact RS.told_fits h hk
  ·cases h
end
noncomputable def i2(g:Int->Int->Xa):Xa->Xa->Option Xa:=λd e=>match d,e with| .int i,.int j=>some (g i j)|_,_=>none
noncomputable def i2c(c:Int->Int->Bool)(g:Int->Int->Xa):Xa->Xa->Option Xa:=λd e=>match d,e with| .int i,.int j=>if c i j=true then some (g i j)else none|_,_=>none
theorem Zun{g:Int->Int->Xa}:ByS (i2 g) (Zyu g):=λd e r k h hk=>by
 unfold i2 at h
 split at h
 ·cases h;exact hk
 ·cases h
theorem Zp7{c:Int->Int->Bool}{C:Int->Int->Prop}{g:Int->Int->Xa}(hc:∀i j,c i j=true->C i j):ByS (i2c c g) (d2I C g):=λd e r k h hk=>by
 unfold i2c at h
 split at h
 ·split at h
  ·cases h;exact⟨hc _ _ ‹_›,hk⟩
  ·cases h
 ·cases h
noncomputable def Z2p(a b:Int):Bool:=!(decide (JS a>shortFactorBits)&&decide (JS b>shortFactorBits)&&Builtin.Int.intTooBig (JS a+JS b))
noncomputable def Z78(_ j:Int):Bool:=decide (j≠0)&&decide (j.natAbs.log2<9000)
noncomputable def Ydr(_ j:Int):Bool:=decide (j≠0)
noncomputable def Yfy(i j:Int):Bool:=decide (0≤j∧j≤1000000∧i.natAbs<2^64)
theorem Zhe{a b:Int}:Z2p a b=true↔IntMulOk a b:=by
 unfold Z2p IntMulOk
 rw[Bool.not_eq_true',Bool.not_eq_true]
noncomputable def J0:=i2 λi j=>.int (i+j)
noncomputable def gSb:=i2 λi j=>.int (i-j)
noncomputable def Zc4:=i2c Z2p λi j=>.int (i*j)
noncomputable def Je:=i2c Z78 λi j=>.int (i.fdiv j)
noncomputable def Zay:=i2c Ydr λi j=>.int (i.fmod j)
noncomputable def Zo7:=i2c Yfy λi j=>.int (i^j.toNat)
noncomputable def gLt:=i2 λi j=>.bool (decide (i<j))
noncomputable def gLe:=i2 λi j=>.bool (decide (i≤j))
noncomputable def gGt:=i2 λi j=>.bool (decide (j<i))
noncomputable def gGe:=i2 λi j=>.bool (decide (j≤i))
theorem Z97:ByS J0 (Zyu λi j=>.int (i+j)):=Zun
theorem Z1r:ByS gSb (Zyu λi j=>.int (i-j)):=Zun
theorem Yb5:ByS Zc4 (d2I MulOk λi j=>.int (i*j)):=Zp7 λi j h=>⟨Zhe.mp h⟩
theorem Z4q:ByS Je (d2I Yeh λi j=>.int (i.fdiv j)):=Zp7 λi j h=>⟨by
 unfold Z78 at h
 rw[XD]at h
 exact⟨of_decide_eq_true h.1,of_decide_eq_true h.2⟩⟩
theorem Yam:ByS Zay (d2I (λ_ j=>j≠0) λi j=>.int (i.fmod j)):=Zp7 λi j h=>of_decide_eq_true h
theorem Yat:ByS Zo7 (d2I Ydk λi j=>.int (i^j.toNat)):=Zp7 λi j h=>⟨(of_decide_eq_true h:0≤j∧j≤1000000∧i.natAbs<2^64)⟩
theorem Z87:ByS gLt (Zyu λi j=>.bool (decide (i<j))):=Zun
theorem Yez:ByS gGt (Zyu λi j=>.bool (decide (j<i))):=Zun
theorem Yfs:ByS gGe (Zyu λi j=>.bool (decide (j≤i))):=Zun
noncomputable def gEq:Xa->Xa->Option Xa:=λd e=>if(Vq d&&Vq e)=true then some (.bool (Qs d e))else none
noncomputable def gNe:Xa->Xa->Option Xa:=λd e=>if(Vq d&&Vq e)=true then some (.bool (!Qs d e))else none
theorem Z7f:ByS gEq dEq:=λd e r k h hk=>by
 unfold gEq at h
 split at h
 ·rename_i q
  rw[XD]at q
  cases h
  exact⟨⟨q.1⟩,⟨q.2⟩,hk⟩
 ·cases h
theorem Yfj:ByS gNe dNe:=λd e r k h hk=>by
 unfold gNe at h
 split at h
 ·rename_i q
  rw[XD]at q
  cases h
  exact⟨⟨q.1⟩,⟨q.2⟩,hk⟩
 ·cases h
noncomputable def gIs:Xa->Xa->Option Xa:=λd e=>match e with| .none=>some (.bool (Zew d))|_=>none
noncomputable def Zfv:Xa->Xa->Option Xa:=λd e=>match e with| .none=>some (.bool (!Zew d))|_=>none
theorem Yfl:ByS gIs Ydt:=λd e r k h hk=>by
 unfold gIs at h
 split at h
 ·cases h;exact⟨rfl,hk⟩
 ·cases h
theorem Zta:ByS Zfv Z8q:=λd e r k h hk=>by
 unfold Zfv at h
 split at h
 ·cases h;exact⟨rfl,hk⟩
 ·cases h
noncomputable def Znk(neg:Bool):Xa->Xa->Option Xa:=λd e=>match Zo8 e with
 | some ds=>if(scD d&&ds.all scD)=true then some (.bool (if neg then !memS d ds else memS d ds))else none
 | none=>none
theorem Zte{neg:Bool}:ByS (Znk neg) (dIn neg):=λd e r k h hk=>by
 unfold Znk at h
 split at h
 case h_2=>cases h
 rename_i ds q
 split at h
 case isFalse=>cases h
 rename_i q2
 rw[XD]at q2
 cases h
 refine⟨q2.1,?_⟩
 cases e<;>cases q
 ·exact⟨q2.2,hk⟩
 ·exact⟨q2.2,hk⟩
noncomputable def gIx:Xa->Xa->Option OT:=λd e=>(ixD d e).bind λx=>some (.fz x)
theorem Yag:ByO gIx dIx:=λd e r k h hk=>by
 obtain⟨x,h1,h2⟩:=bs h
 cases h2
 unfold dIx
 rw[h1]
 exact hk
noncomputable def Zk3:Xa->Xa->Option OT:=λd e=>match d,e with| .list ds,.list es=>if ds.length+es.length≤Xy then some (.nd ((ds ++ es).map OT.fz))else none|_,_=>none
theorem Zop:ByO Zk3 dCat:=λd e r k h hk=>by
 unfold Zk3 at h
 split at h
 ·split at h
  ·cases h;exact⟨‹_›,hk⟩
  ·cases h
 ·cases h
noncomputable def J6:List Xa->Option Xa:=λds=>match ds with|[d]=>(Zw7 d).bind λn=>some (.int n)|_=>none
theorem Zyl:∀ds r k,J6 ds=some r->k r->Ycn ds k:=λds r k h hk=>by
 unfold J6 at h
 split at h
 ·obtain⟨n,h1,h2⟩:=bs h
  cases h2
  show match Zw7 _ with|some n=>_|none=>_
  rw[h1]
  exact hk
 ·cases h
noncomputable def Z35:List Xa->Option Xa:=λds=>match ds with|[.int i]=>some (.int (if i<0 then -i else i))|_=>none
theorem Z0a:∀ds r k,Z35 ds=some r->k r->Ydm ds k:=λds r k h hk=>by
 unfold Z35 at h
 split at h
 ·cases h;exact hk
 ·cases h
noncomputable def Z6m:List Xa->Option Xa:=λds=>match ds with|[.int i,.int j]=>some (.int (if j>i then j else i))|_=>none
theorem Z98:∀ds r k,Z6m ds=some r->k r->Ycm ds k:=λds r k h hk=>by
 unfold Z6m at h
 split at h
 ·cases h;exact hk
 ·cases h
noncomputable def Z7o:List Xa->Option Xa:=λds=>match ds with|[.int i,.int j]=>some (.int (if j<i then j else i))|_=>none
theorem Ya6:∀ds r k,Z7o ds=some r->k r->Ycw ds k:=λds r k h hk=>by
 unfold Z7o at h
 split at h
 ·cases h;exact hk
 ·cases h
noncomputable def Yc5:List Xa->Option Xa:=λds=>match ds with|[.int i]=>some (.int i)|[.bool b]=>some (.int (if b then 1 else 0))|_=>none
noncomputable def Z7x:List Xa->Option OT:=λds=>match ds with|[d]=>(Zo8 d).bind λes=>some (.nd (es.map OT.fz))|_=>none
noncomputable def Zbj:List Xa->Option (List Int)
 | []=>some []
 | .int i :: r=>(Zbj r).bind λl=>some (i :: l)
 | _ :: _=>none
theorem Jq:∀{ds:List Xa} {ns:List Int},Zbj ds=some ns->ds=ns.map Xk
 | [],_,h=>by cases h;rfl
 | .int i :: r,_,h=>by
  obtain⟨l,h1,h2⟩:=bs h
  cases h2
  rw[Jq h1];rfl
 | .none :: _,_,h=>by cases h
 | .bool _ :: _,_,h=>by cases h
 | .str _ :: _,_,h=>by cases h
 | .list _ :: _,_,h=>by cases h
 | .tuple _ :: _,_,h=>by cases h
 | .dict _ :: _,_,h=>by cases h
@[simp] theorem Jf:∀ns:List Int,Zbj (ns.map Xk)=some ns
 | []=>rfl
 | n :: ns=>by rw[X3,Zbj,Jf ns];rfl
section
variable {X:Cx}{io:List Nat}{p c:Bool}{e tg:Expr}{es:List Expr}{st:Stmt}{fa fb fc:FE}{ra:FA}{i:Nat}
noncomputable def Zr9(a:FA):FE:=λδ=>(a δ).bind λp=>match OT.datas p.1 with|[.int j]=>if rOk j=true∧j.toNat≤Xy then some (.nd ((Zci 0 j.toNat).map OT.fz),p.2)else none|_=>none
theorem Zr2(h:ME X io p c e (Yd4 (o2 ra))):ME X io p c e (o2 (Zr9 ra)):=h.weak λδ K h=>by
 obtain⟨r,δ',h,k⟩:=h
 obtain⟨⟨x,δ1⟩,h1,h⟩:=bs h
 refine⟨x,δ1,h1,?_⟩
 dsimp only at h
 split at h
 case h_2=>cases h
 rename_i q
 split at h
 case isFalse=>cases h
 rename_i b
 cases h
 (try rw[q])
 exact⟨⟨(Zde b.1).1,(Zde b.1).2,b.2⟩,k⟩
noncomputable def Zzp(a b:FE):FE:=λδ=>(a δ).bind λp=>(b p.2).bind λq=>match q.1.data with| .int k=>if rOk k=true∧k.toNat≤Xy then some (.nd (XF k.toNat (.fz p.1.data)),p.2)else none|_=>none
theorem Zzv(h:ME X io p c e (Ydf (o2 fa) (o2 fb))):ME X io p c e (o2 (Zzp fa fb)):=h.weak λδ K h=>by
 obtain⟨r,δ',h,k⟩:=h
 obtain⟨⟨x,δ1⟩,h1,h⟩:=bs h
 obtain⟨⟨y,δ2⟩,h2,h⟩:=bs h
 refine⟨x,δ1,h1,y,δ2,h2,?_⟩
 try dsimp only at h⊢
 split at h
 case h_2=>cases h
 rename_i q
 (try rw[q])
 split at h
 case isFalse=>cases h
 rename_i b
 cases h
 have z:=Zde b.1
 exact⟨⟨by omega,by omega,b.2⟩,k⟩
noncomputable def Zly(a b:FE):FE:=λδ=>(a δ).bind λp=>match p.1.data with
 | .list es=>(Zbj es).bind λns=>if ns.length≤2^20 then(b p.2).bind λq=>match q.1.data with
  | .int k=>if k∈ns then some (.fz (.int (ns.idxOf k:Nat)),q.2)else none
  | _=>none else none
 | _=>none
theorem Zx0(h:ME X io p c e (Zzx (o2 fa) (o2 fb))):ME X io p c e (o2 (Zly fa fb)):=h.weak λδ K h=>by
 obtain⟨r,δ',h,k⟩:=h
 obtain⟨⟨x,δ1⟩,h1,h⟩:=bs h
 refine⟨x,δ1,h1,?_⟩
 try dsimp only at h⊢
 split at h
 case h_2=>cases h
 rename_i q
 obtain⟨ns,h2,h⟩:=bs h
 split at h
 case isFalse=>cases h
 obtain⟨⟨y,δ2⟩,h3,h⟩:=bs h
 refine⟨ns,by rw[q,Jq h2],‹_›,y,δ2,h3,?_⟩
 try dsimp only at h⊢
 split at h
 case h_2=>cases h
 rename_i q2
 (try rw[q2])
 split at h
 case isFalse=>cases h
 cases h
 exact⟨‹_›,k⟩
noncomputable def Zxs(i:Nat)(a:FE):FE:=λδ=>match δ[i]? with
 | some (some (.nd _))=>(a δ).bind λp=>match p.2[i]? with
  | some (some (.nd ts))=>match p.1.data with
   | .int j=>match ixN ts.length j with
    | some k=>match ts[k]? with
     | some (.fz d)=>if ts.length≤Xy then some (.fz d,p.2.set i (some (.nd (ts.eraseIdx k))))else none
     | _=>none
    | none=>none
   | _=>none
  | _=>none
 | _=>none
theorem Zvj(h:ME X io p c e (Z9b i (o2 fa))):ME X io p c e (o2 (Zxs i fa)):=h.weak λδ K h=>by
 obtain⟨r,δ',h,k⟩:=h
 unfold Zxs at h;unfold Z9b
 split at h
 case h_2=>cases h
 rename_i q;(try rw[q])
 obtain⟨⟨x,δ1⟩,h1,h⟩:=bs h
 refine⟨x,δ1,h1,?_⟩
 try dsimp only at h⊢
 split at h
 case h_2=>cases h
 rename_i q2;(try rw[q2])
 try dsimp only
 split at h
 case h_2=>cases h
 rename_i j q3;(try rw[q3])
 show match ixN _ j with|some k=>_|none=>_
 split at h
 case h_2=>cases h
 rename_i q4;(try rw[q4]);(try dsimp only)
 split at h
 case h_2=>cases h
 rename_i q5;(try rw[q5])
 split at h
 case isFalse=>cases h
 cases h
 exact⟨‹_›,k⟩
end
variable {G:Xc}
section
variable {X:Cx}{io:List Nat}{p c:Bool}{e a b:Expr}{es:List Expr}{m ma mb:MEt}{mr:MAt}{pos apos cpos px py pt sp kp:Pos}{i j:Nat}{x y:Str}{fa fb:FE}{ra:FA}{st:Stmt}
noncomputable def Ybx(a:FA):FE:=λδ=>(a δ).bind λp=>if p.1.length≤Xy then some (.tp p.1,p.2)else none
noncomputable def Zy8(i c:Nat)(e:FE):FS:=λδ=>match δ[i]? with
 | some (some (.tp ts))=>match ts[c]? with
  | some (.nd us)=>wE e (λr _=>if us.length<Xy then .nx (δ.set i (some (.tp (ts.set c (.nd (us ++ [.fz r.data]))))))else .bad) δ
  | _=>.bad
 | _=>.bad
noncomputable def Ycx(i j:Nat)(a:FA):FS:=λδ=>match a δ with
 | some (rs,δ1)=>match OT.datas rs with
  | [d,e]=>.nx ((δ1.set i (some (.fz d))).set j (some (.fz e)))
  | _=>.bad
 | none=>.bad
end
class NoStar (e:Expr):Prop where
 h:∀es env,Xo (e :: es) env=(false,eval e env) :: Xo es env
instance nx_Name{x:Str}{p:Pos}:NoStar (.Name x p):=⟨λ_ _=>rfl⟩
instance nx_Constant{x k}{p:Pos}:NoStar (.Constant x k p):=⟨λ_ _=>rfl⟩
instance nx_BinOp{a o b}{p:Pos}:NoStar (.BinOp a o b p):=⟨λ_ _=>rfl⟩
instance nx_Call{f a k}{p:Pos}:NoStar (.Call f a k p):=⟨λ_ _=>rfl⟩
instance nx_List{a}{p:Pos}:NoStar (.List a p):=⟨λ_ _=>rfl⟩
instance nx_Tuple{a k}{p:Pos}:NoStar (.Tuple a k p):=⟨λ_ _=>rfl⟩
instance nx_Subscript{a b}{p:Pos}:NoStar (.Subscript a b p):=⟨λ_ _=>rfl⟩
theorem Ze{X:Cx}{io:List Nat}{p p' c c' p2 c2:Bool}{e:Expr}{es:List Expr}{fa:FE}{ra:FA}[NoStar e](ha:ME X io p c e (o2 fa))(hr:MA X io p' c' es (o2 ra))(hc:p'=true∨c=true:=by first|exact QB rfl|exact Qw rfl)(h2:(p&&p')=p2:=by rfl)(h3:(c&&c')=c2:=by rfl):MA X io p2 c2 (e :: es) (o2 (Zc fa ra)) :=
 h2▸h3▸Z27 (Z21 ha hr hc (NoStar.h es X.env))
theorem Zi3{X:Cx}{io:List Nat}{p p' c c':Bool}{e:Expr}{m:MEt}(h:ME X io p c e m)(h2:p=p':=by rfl)(h3:c=c':=by rfl):ME X io p' c' e m:=h2▸h3▸h
theorem Z3h{P:X6}{w:Qq}{K:Xc}{mg:Str->Option Xf}{base:Heap}{CX:CXT}{k:Nat}{f:Addr}{fd:XQ}{ps:List Str}{S:List Xa->(OT->Prop)->Prop}(h:∀ds k,¬S ds k):FnOk P w K mg base CX k f fd ps (spD K S):=by
 have h':∀{vs H Q E},spD K S vs H Q E->False:=λq=>by
  obtain⟨_,ds,k,_,z,_⟩:=q
  exact h ds k z
 exact⟨λvs H Q E q=>(h' q).elim,λA outer s H args us vs Q E _ _ _ _ q=>(h' q).elim⟩
variable {G:Xc}
section
variable {X:Cx}{io:List Nat}{p c:Bool}{e a b:Expr}{es:List Expr}{m ma mb:MEt}{mr:MAt}{pos apos cpos px py pt sp kp:Pos}{i j:Nat}{x y:Str}{fa fb:FE}{ra:FA}{st:Stmt}{u:FS}
noncomputable def insI(x:Int):List Int->List Int
 | []=>[x]
 | y :: ys=>if x≤y then x :: y :: ys else y :: insI x ys
noncomputable def Yv:List Int->List Int
 | []=>[]
 | x :: xs=>insI x (Yv xs)
theorem insI_perm(x:Int):∀l,(insI x l).Perm (x :: l)
 | []=>.refl _
 | y :: ys=>by
  unfold insI
  split
  ·exact .refl _
  ·exact((insI_perm x ys).cons y).trans (.swap x y ys)
theorem Z8:∀l,(Yv l).Perm l
 | []=>.refl _
 | x :: xs=>(insI_perm x _).trans ((Z8 xs).cons x)
theorem Zh4(x:Int):∀{l},l.Pairwise (·≤·)->(insI x l).Pairwise (·≤·)
 | [],_=>.cons (λ_ m=>nomatch m) .nil
 | y :: ys,h=>by
  unfold insI
  cases h with
  | cons h1 h2=>
   split
   ·rename_i c
    refine .cons (λz m=>?_) (.cons h1 h2)
    rcases Xr.mp m with rfl|m
    ·exact c
    ·exact U9 c (h1 z m)
   ·rename_i c
    refine .cons (λz m=>?_) (Zh4 x h2)
    rcases Xr.mp ((insI_perm x ys).mem_iff.mp m)with rfl|m
    ·omega
    ·exact h1 z m
theorem Y6:∀l,(Yv l).Pairwise (·≤·)
 | []=>.nil
 | x :: xs=>Zh4 x (Y6 xs)
theorem Wo:∀{l₁ l₂:List Int},l₁.Perm l₂->l₁.Pairwise (·≤·)->l₂.Pairwise (·≤·)->l₁=l₂
 | [],l₂,h,_,_=>h.nil_eq
 | a :: l₁,[],h,_,_=>h.eq_nil
 | a :: l₁,b :: l₂,h,h1,h2=>by
  cases h1 with
  | cons p1 q1=>
   cases h2 with
   | cons p2 q2=>
    have e:a=b:=by
     have m1:a∈b :: l₂:=h.mem_iff.mp (.head _)
     have m2:b∈a :: l₁:=h.mem_iff.mpr (.head _)
     rcases Xr.mp m1 with e|m1
     ·exact e
     ·rcases Xr.mp m2 with e|m2
      ·exact e.symm
      ·have:=p2 a m1
       have:=p1 b m2
       omega
    subst e
    rw[Wo h.cons_inv q1 q2]
noncomputable def Zzf(K:Xc):List V->Hp->VK->Prop:=λxs H Q=>∃(a:Addr) (ns:List Int),xs=[.ref a]∧SqL K H a (ns.map V.int)∧ns.length<64∧∀l,H l=none->Q (.ref l) (upd H l (.lst ((Yv ns).map V.int)))
theorem Z00:∀{its:List Xf} {ns:List Int},JN its ns->Vals (ns.map V.int) its
 | [],_,h=>by cases h;exact .nil
 | v :: its,_,h=>by
  cases h with
  | cons n t h=>exact .cons ⟨_,rfl⟩ (Z00 h)
theorem Zce{K:Xc}(hK:X.K=K):Zdt X (.builtin "sorted") (Zzf K):=by
 subst hK
 intro pins s σ H xs us Q I r h
 obtain⟨l,ns,rfl,hs,h64,q⟩:=h
 obtain⟨u,rfl,ru⟩:=vals1 r
 cases(show u=Qn l from ru)
 obtain⟨its,rv,pl,hz⟩:=I.list hs
 have hl:=rv.length
 rw[Xj]at hl
 refine sorted_ints pl.isList (Zkf rv) (by omega) λout ns' a1 a2 a3=>?_
 obtain⟨e,he⟩:=sortedAll_at s.heap its out
 have en:ns'=Yv ns:=Wo (a2.trans (Z8 ns).symm) a3 (Y6 ns)
 subst en
 refine⟨.ref (s.heap.objs.size+1),_,I.laid (t':=s.toks) (o:=.lst ((Yv ns).map V.int)) (λb ob q=>sortedAll_old q) (by omega) ⟨?_,out.toList,e,Z00 a1,he⟩,rfl,q _ (I.hok.fresh (by omega))⟩
 rw[Xj,(Z8 ns).length_eq,Qa];omega
noncomputable def Zyv:List Xa->(OT->Prop)->Prop:=λds k=>n1 (λd=>∃ns:List Int,d= .list (ns.map Xk)∧ns.length<64∧k (.nd (((Yv ns).map Xk).map OT.fz))) ds
theorem Zfn:PN G (Zzf G) Zyv:=λH L xs ds k Q hx h kk=>by
 obtain⟨v,d,rfl,rfl,q,ns,e,h64,h⟩:=hx.one h
 have fin:∀(p:Addr),H p=none->Q (.ref p) (upd H p (.lst ((Yv ns).map V.int))):=λp hp=>kk _ _ _ [p] (Yo hp _) (Own.list hp (Das.ints _)) (Zgp p) (Zc7 hp) h
 subst e
 generalize ed:Qy (ns.map Xk)=d at q
 cases q with
 | lst l e r=>
  cases ed
  exact⟨_,ns,rfl,by rw[r.int_inv]at e;exact .inl e,h64,fin⟩
 | scr ks=>
  injection ed with ed
  have:ns=_:=List.map_inj_right (λx y z=>by injection z)|>.mp ed
  subst this
  exact⟨_,_,rfl,ks.sq,h64,fin⟩
 | _=>cases ed
noncomputable def Zcx:List Xa->Option OT:=λds=>match ds with|[.list es]=>(Zbj es).bind λns=>if ns.length<64 then some (.nd (((Yv ns).map Xk).map OT.fz))else none|_=>none
theorem Zhy:∀ds r k,Zcx ds=some r->k r->Zyv ds k:=λds r k h hk=>by
 unfold Zcx at h
 split at h
 case h_2=>cases h
 obtain⟨ns,h1,h⟩:=bs h
 split at h
 case isFalse=>cases h
 rename_i h2
 cases h
 exact⟨ns,by rw[Jq h1],h2,hk⟩
end
structure Gives(P:X6)(w:Qq)(it:Addr)(f:List Addr)(St:Heap->Prop)(x:Xf)(St':Heap->Prop):Prop where
 mem:it∈f
 run:∀{A:Qo} {E:Xf->Xh->Prop} {s:Xh} {Q:Xf->Xh->Prop},St s.heap->(∀h',St' h'->JK it s.heap h'->Q x { s with heap:=h' })->XC (XX P w) A (QM (.ref it)) Q E s
 keep:∀h h',(∀c∈f,∀o,h.get? c=some o->h'.get? c=some o)->St h->St h'
 keep':∀h h',(∀c∈f,∀o,h.get? c=some o->h'.get? c=some o)->St' h->St' h'
structure Zjn(P:X6)(w:Qq)(it:Addr)(f:List Addr)(St:Heap->Prop):Prop where
 mem:it∈f
 run:∀{A:Qo} {E:Xf->Xh->Prop} {s:Xh} {Q:Xf->Xh->Prop},A.handled=none->St s.heap->(∀h' e,Heap.ExtBut it s.heap h'->(∃o,h'.get? e=some o∧o.cls= .type "StopIteration")->E (.ref e) { s with heap:=h' })->XC (XX P w) A (QM (.ref it)) Q E s
 keep:∀h h',(∀c∈f,∀o,h.get? c=some o->h'.get? c=some o)->St h->St h'
structure ZA(z TI TO i1 i2:Addr)(f1 f2:List Addr):Prop where
 TIz:TI≠z
 TOz:TO≠z
 a1:∀c∈f1,c≠z∧c≠TO∧c≠i2
 a2:∀c∈f2,c≠z∧c≠TO∧c≠i1
section
variable {P:X6}{w:Qq}{A:Qo}{E:Xf->Xh->Prop}{s:Xh}
theorem Zk7{T:Addr}{a b x:Xf}{k:Nat}{Q:Unit->Xh->Prop}(hT:BX s.heap T a b)(h:∀h',h'.get? T=some { cls:=.type "tuple",data:=.seq ((#[a,b]:Array Xf).setIfInBounds k x) }->JK T s.heap h'->Q () { s with heap:=h' }) :
  XC (XX P w) A (updateSeq T (·.setIfInBounds k x)) Q E s:=wpAny_updateSeq_pair hT h
theorem Zuz{z TI TO i1 i2:Addr}{f1 f2:List Addr}{S1 T1 S2 T2:Heap->Prop}{x y a b:Xf}{Q:Xf->Xh->Prop}(D:ZA z TI TO i1 i2 f1 f2)(G1:Gives P w i1 f1 S1 x T1)(G2:Gives P w i2 f2 S2 y T2)
  (hz:IsZip s.heap z TI TO .none) (hTI:BX s.heap TI (.ref i1) (.ref i2)) (hTO:BX s.heap TO a b) (h1:S1 s.heap) (h2:S2 s.heap)
  (hQ:∀h',IsZip h' z TI TO (JR s.heap.objs.size)->BX h' TO x y->T1 h'->T2 h'->BX h' s.heap.objs.size x y ->
   (∀ c o,c∉[z,TO,i1,i2]->s.heap.get? c=some o->h'.get? c=some o)->Q (.ref s.heap.objs.size) { s with heap:=h' }) :
  XC (XX P w) A (Bo.«zip.__next__» ⟨[.ref z],[]⟩) (λfin s'=>∃v,fin= .done (.ret v)∧Q v s') E s:=by
 obtain⟨i1z,i1O,i12⟩:=D.a1 i1 G1.mem
 obtain⟨i2z,i2O,i21⟩:=D.a2 i2 G2.mem
 have r1:z∉f1∧TO∉f1∧i2∉f1:=⟨λm=>(D.a1 z m).1 rfl,λm=>(D.a1 TO m).2.1 rfl,λm=>(D.a1 i2 m).2.2 rfl⟩
 have r2:z∉f2∧TO∉f2∧i1∉f2:=⟨λm=>(D.a2 z m).1 rfl,λm=>(D.a2 TO m).2.1 rfl,λm=>(D.a2 i1 m).2.2 rfl⟩
 have st:∀{b:Addr} {h h':Heap} {f:List Addr},JK b h h'->b∉f->∀c∈f,∀o,h.get? c=some o->h'.get? c=some o:=λsb hb c hc o e=>sb.extBut _ _ (λq=>hb (q▸hc)) e
 show XC _ _ (field (.ref z) 2>>=_) _ _ _
 refine Xb (BZ hz rfl (x:=.bool false) rfl ?_)
 show XC _ _ (field (.ref z) 3>>=_) _ _ _
 refine Xb (BZ hz rfl (x:=.ref TI) rfl (Xb (Bv hTI rfl ?_)))
 show XC _ _ (Bk (.ref z)>>=_) _ _ _
 refine Xb ?_
 unfold Bk
 refine Xb (BZ hz rfl (x:=.none) rfl (Xl ?_))
 simp only[if_true]
 refine Xb (Uk (Xb (BZ hz rfl (x:=.ref TO) rfl (Xb (QS hz (by simp) λh3 z3 b3=>?_)))))
 replace z3:IsZip h3 z TI TO .ellipsis:=z3
 refine Xb ?_
 simp only[List.zipIdx_cons,List.zipIdx_nil,List.forIn_cons,List.forIn_nil]
 refine Xb (Xb (wpAny_onRaise ?_))
 show XC _ _ (QM (.ref i1)>>=_) _ _ _
 refine Xb (G1.run (s:={ s with heap:=h3 }) (G1.keep _ _ (st b3 r1.1) h1) λh4 k4 b4=>Xl ?_)
 have o4:BX h4 TO a b:=b4.extBut _ _ i1O.symm (b3.extBut _ _ D.TOz hTO)
 refine Xb (Bv o4 rfl (Xb (Zk7 (s:={ s with heap:=h4 }) o4 λh5 o5 b5=>Xb (wpAny_letGo (Xl ?_)))))
 replace o5:BX h5 TO x b:=o5
 refine Xb (Xb (wpAny_onRaise ?_))
 show XC _ _ (QM (.ref i2)>>=_) _ _ _
 refine Xb (G2.run (s:={ s with heap:=h5 }) (G2.keep _ _ (st b5 r2.2.1) (G2.keep _ _ (st b4 r2.2.2) (G2.keep _ _ (st b3 r2.1) h2))) λh6 k6 b6=>Xl ?_)
 have o6:BX h6 TO x b:=b6.extBut _ _ i2O.symm o5
 refine Xb (Bv o6 rfl (Xb (Zk7 (s:={ s with heap:=h6 }) o6 λh7 o7 b7=>Xb (wpAny_letGo (Xl (Xl ?_))))))
 replace o7:BX h7 TO x y:=o7
 refine Xb (Bv o7 rfl (Xb (wpAny_newTuple ?_)))
 have sz:h7.objs.size=s.heap.objs.size:=by rw[b7.1,b6.1,b5.1,b4.1,b3.1]
 have z7:IsZip h7 z TI TO .ellipsis:=b7.extBut _ _ D.TOz.symm (b6.extBut _ _ i2z.symm (b5.extBut _ _ D.TOz.symm (b4.extBut _ _ i1z.symm z3)))
 have t1:T1 h7:=G1.keep' _ _ (st b7 r1.2.1) (G1.keep' _ _ (st b6 r1.2.2) (G1.keep' _ _ (st b5 r1.2.1) k4))
 have t2:T2 h7:=G2.keep' _ _ (st b7 r2.2.1) k6
 have old:∀c o,c∉[z,TO,i1,i2]->s.heap.get? c=some o->h7.get? c=some o:=λc o n e=>by
  simp only[Xr,Ut,or_false,not_or]at n
  exact b7.extBut _ _ n.2.1 (b6.extBut _ _ n.2.2.2 (b5.extBut _ _ n.2.1 (b4.extBut _ _ n.2.2.1 (b3.extBut _ _ n.1 e))))
 show XC _ _ (Builtin.SmallTypes.ownedTupleHandOut (.ref z) (.ref h7.objs.size)>>=_) _ _ _
 refine Xb ?_
 unfold Builtin.SmallTypes.ownedTupleHandOut
 have zp:IsZip (h7.push { cls:=.type "tuple",data:=.seq #[x,y] }) z TI TO .ellipsis:=Xg _ z7
 refine Xb (QS zp (by simp) λh8 z8 b8=>?_)
 replace z8:IsZip h8 z TI TO (JR h7.objs.size):=z8
 refine QS z8 (by simp) λh9 z9 b9=>?_
 replace z9:IsZip h9 z TI TO (JR h7.objs.size):=z9
 have up:∀c o,c≠z->h7.get? c=some o->h9.get? c=some o:=λc o n e=>b9.extBut _ _ n (b8.extBut _ _ n (Xg _ e))
 have nz:h7.objs.size≠z:=XJ (XH z7)
 have p9:BX h9 h7.objs.size x y:=b9.extBut _ _ nz (b8.extBut _ _ nz (Xx _ rfl))
 refine Xl ⟨_,rfl,?_⟩
 show Q (.ref h7.objs.size) _
 rw[sz]at z9 p9⊢
 exact hQ h9 z9 (up _ _ D.TOz o7) (G1.keep' _ _ (λc hc o e=>up c o (λq=>r1.1 (q▸hc)) e) t1) (G2.keep' _ _ (λc hc o e=>up c o (λq=>r2.1 (q▸hc)) e) t2) p9 λc o n e=>up c o (λq=>n (by simp[q])) (old c o n e)
theorem Zxz{z TI TO i1 i2:Addr}{f1 f2:List Addr}{S1 T1 S2:Heap->Prop}{a b:Xf}{Q:Fin->Xh->Prop}(hh:A.handled=none)(D:ZA z TI TO i1 i2 f1 f2)(g1:Zjn P w i1 f1 S1∨(∃x,Gives P w i1 f1 S1 x T1)∧Zjn P w i2 f2 S2)
  (hz:IsZip s.heap z TI TO .none) (hTI:BX s.heap TI (.ref i1) (.ref i2)) (hTO:BX s.heap TO a b) (h1:S1 s.heap) (h2:S2 s.heap)
  (hE:∀h' e,(∀c o,c∉[z,TO,i1,i2]->s.heap.get? c=some o->h'.get? c=some o)->(∃o,h'.get? e=some o∧o.cls= .type "StopIteration")->E (.ref e) { s with heap:=h' }) :
  XC (XX P w) A (Bo.«zip.__next__» ⟨[.ref z],[]⟩) Q E s:=by
 have r1:z∉f1∧TO∉f1∧i2∉f1:=⟨λm=>(D.a1 z m).1 rfl,λm=>(D.a1 TO m).2.1 rfl,λm=>(D.a1 i2 m).2.2 rfl⟩
 have r2:z∉f2∧TO∉f2∧i1∉f2:=⟨λm=>(D.a2 z m).1 rfl,λm=>(D.a2 TO m).2.1 rfl,λm=>(D.a2 i1 m).2.2 rfl⟩
 have st:∀{b:Addr} {h h':Heap} {f:List Addr},JK b h h'->b∉f->∀c∈f,∀o,h.get? c=some o->h'.get? c=some o:=λsb hb c hc o e=>sb.extBut _ _ (λq=>hb (q▸hc)) e
 show XC _ _ (field (.ref z) 2>>=_) _ _ _
 refine Xb (BZ hz rfl (x:=.bool false) rfl ?_)
 show XC _ _ (field (.ref z) 3>>=_) _ _ _
 refine Xb (BZ hz rfl (x:=.ref TI) rfl (Xb (Bv hTI rfl ?_)))
 show XC _ _ (Bk (.ref z)>>=_) _ _ _
 refine Xb ?_
 unfold Bk
 refine Xb (BZ hz rfl (x:=.none) rfl (Xl ?_))
 simp only[if_true]
 refine Xb (Uk (Xb (BZ hz rfl (x:=.ref TO) rfl (Xb (QS hz (by simp) λh3 z3 b3=>?_)))))
 replace z3:IsZip h3 z TI TO .ellipsis:=z3
 refine Xb ?_
 simp only[List.zipIdx_cons,List.zipIdx_nil,List.forIn_cons,List.forIn_nil]
 refine Xb (Xb (wpAny_onRaise ?_))
 show XC _ _ (QM (.ref i1)>>=_) _ _ _
 rcases g1 with G1|⟨⟨x,G1⟩,G2⟩
 ·obtain⟨i1z,i1O,i12⟩:=D.a1 i1 G1.mem
  refine Xb (G1.run (s:={ s with heap:=h3 }) hh (G1.keep _ _ (st b3 r1.1) h1) λh4 e b4 he=>?_)
  obtain⟨oe,hoe,hce⟩:=he
  have z4:IsZip h4 z TI TO .ellipsis:=b4 _ _ i1z.symm z3
  have ez:e≠z:=λq=>by subst q;rw[z4]at hoe;cases hoe;simp at hce
  refine QS z4 (by simp) λh5 _ b5=>hE h5 e (λc o n q=>?_) ⟨oe,b5.extBut _ _ ez hoe,hce⟩
  simp only[Xr,Ut,or_false,not_or]at n
  exact b5.extBut _ _ n.1 (b4 _ _ n.2.2.1 (b3.extBut _ _ n.1 q))
 ·obtain⟨i1z,i1O,i12⟩:=D.a1 i1 G1.mem
  obtain⟨i2z,i2O,i21⟩:=D.a2 i2 G2.mem
  refine Xb (G1.run (s:={ s with heap:=h3 }) (G1.keep _ _ (st b3 r1.1) h1) λh4 k4 b4=>Xl ?_)
  have o4:BX h4 TO a b:=b4.extBut _ _ i1O.symm (b3.extBut _ _ D.TOz hTO)
  refine Xb (Bv o4 rfl (Xb (Zk7 (s:={ s with heap:=h4 }) o4 λh5 o5 b5=>Xb (wpAny_letGo (Xl ?_)))))
  refine Xb (Xb (wpAny_onRaise ?_))
  show XC _ _ (QM (.ref i2)>>=_) _ _ _
  refine Xb (G2.run (s:={ s with heap:=h5 }) hh (G2.keep _ _ (st b5 r2.2.1) (G2.keep _ _ (st b4 r2.2.2) (G2.keep _ _ (st b3 r2.1) h2))) λh6 e b6 he=>?_)
  obtain⟨oe,hoe,hce⟩:=he
  have z6:IsZip h6 z TI TO .ellipsis:=b6 _ _ i2z.symm (b5.extBut _ _ D.TOz.symm (b4.extBut _ _ i1z.symm z3))
  have ez:e≠z:=λq=>by subst q;rw[z6]at hoe;cases hoe;simp at hce
  refine QS z6 (by simp) λh7 _ b7=>hE h7 e (λc o n q=>?_) ⟨oe,b7.extBut _ _ ez hoe,hce⟩
  simp only[Xr,Ut,or_false,not_or]at n
  exact b7.extBut _ _ n.1 (b6 _ _ n.2.2.2 (b5.extBut _ _ n.2.1 (b4.extBut _ _ n.2.2.1 (b3.extBut _ _ n.1 q))))
theorem Zrk{z TI TO i1 i2:Addr}{f1 f2:List Addr}{S1 T1 S2 T2:Heap->Prop}{x y a b:Xf}{Q:Option Xf->Xh->Prop}(D:ZA z TI TO i1 i2 f1 f2)(G1:Gives P w i1 f1 S1 x T1)(G2:Gives P w i2 f2 S2 y T2)
  (hz:IsZip s.heap z TI TO .none) (hTI:BX s.heap TI (.ref i1) (.ref i2)) (hTO:BX s.heap TO a b) (h1:S1 s.heap) (h2:S2 s.heap)
  (hQ:∀h',IsZip h' z TI TO (JR s.heap.objs.size)->BX h' TO x y->T1 h'->T2 h'->BX h' s.heap.objs.size x y ->
   (∀ c o,c∉[z,TO,i1,i2]->s.heap.get? c=some o->h'.get? c=some o)->Q (some (.ref s.heap.objs.size)) { s with heap:=h' }):XC (XX P w) A (Ub (.ref z)) Q E s:=by
 have hT:s.TypeIs (.ref z) "zip" :=⟨_,hz,rfl⟩
 unfold Ub
 exact Xb (U5 (JG (name:=V1 "__next__") hT F.slot_zip_next (Q8 F.slot_zip_next hT F.entry_zip_next (Zuz D G1 G2 hz hTI hTO h1 h2 λh' a1 a2 a3 a4 a5 a6=>Xl (hQ h' a1 a2 a3 a4 a5 a6)) (F.args_zip_next_1 _))))
theorem Zu2{z TI TO i1 i2:Addr}{f1 f2:List Addr}{S1 T1 S2:Heap->Prop}{a b:Xf}{Q:Option Xf->Xh->Prop}(hh:A.handled=none)(D:ZA z TI TO i1 i2 f1 f2)(g1:Zjn P w i1 f1 S1∨(∃x,Gives P w i1 f1 S1 x T1)∧Zjn P w i2 f2 S2)
  (hz:IsZip s.heap z TI TO .none) (hTI:BX s.heap TI (.ref i1) (.ref i2)) (hTO:BX s.heap TO a b) (h1:S1 s.heap) (h2:S2 s.heap)
  (hQ:∀h',(∀c o,c∉[z,TO,i1,i2]->s.heap.get? c=some o->h'.get? c=some o)->Q none { s with heap:=h' }):XC (XX P w) A (Ub (.ref z)) Q E s:=by
 have hT:s.TypeIs (.ref z) "zip" :=⟨_,hz,rfl⟩
 unfold Ub
 refine Xb (U5 (JG (name:=V1 "__next__") hT F.slot_zip_next (Q8 F.slot_zip_next hT F.entry_zip_next (Zxz hh D g1 hz hTI hTO h1 h2 λh' e hk he=>?_) (F.args_zip_next_1 _))))
 obtain⟨o,ho,hc⟩:=he
 exact Xb (wpAny_isInstance (T :="StopIteration") (b:=true) ⟨o,ho,hc⟩ isSubtype_stop (Xl (hQ _ hk)))
theorem Zru{it t:Addr}{i:Nat}{items:Array Xf}{x:Xf}(hx:items[i]? =some x):Gives P w it [it,t] (λh=>IsTupIter h it t i∧IsTup h t items) x (λh=>IsTupIter h it t (i+1)) where
 mem:=by simp
 run:=fun{A E s Q} ⟨hit,ht⟩ hQ=>by
  obtain⟨o,ho,hc,hd⟩:=id hit
  obtain⟨ol,hol,_,nl,hdl⟩:=ht
  unfold QM
  refine Xb (JG (name:=V1 "__next__") hit.typeIs slot_tupleiter_next (Q8 slot_tupleiter_next hit.typeIs entry_tupleiter_next ?_ (args_tupleiter_next _)))
  show XC _ _ (field (.ref it) 0>>=_) _ _ s
  refine Xb (BZ ho hd (x:=.ref t) rfl ?_)
  show XC _ _ (if(Qn t==QT)=true then _ else _) _ _ s
  rw[if_neg (show¬((Qn t==QT)=true)from Xp)]
  show XC _ _ (field (.ref it) 1>>=_) _ _ s
  refine Xb (BZ ho hd (x:=.int i 0) rfl ?_)
  show XC _ _ (seqItems? (.ref t)>>=_) _ _ s
  refine Xb (Bv hol hdl ?_)
  simp only[Qp,hx]
  refine Xb (wpAny_setField ho hd (by simp) (Xl ⟨x,rfl,Xl (hQ _ ?_ (JD ..))⟩))
  exact⟨_,Heap.get?_update_self _ ho (Obj.isFreed_of_fields (Obj.data_mapFields hd _)),(Obj.cls_mapFields ..).trans hc,by rw[Obj.data_mapFields hd];simp[JR]⟩
 keep:=λh h' k ⟨⟨o,a1,a2⟩,⟨o',b1,b2⟩⟩=>⟨⟨o,k it (by simp) o a1,a2⟩,⟨o',k t (by simp) o' b1,b2⟩⟩
 keep':=λh h' k ⟨o,a1,a2⟩=>⟨o,k it (by simp) o a1,a2⟩
theorem Zw3{it t:Addr}{i:Nat}{items:Array Xf}(hx:items[i]? =none):Zjn P w it [it,t] (λh=>IsTupIter h it t i∧IsTup h t items) where
 mem:=by simp
 run:=fun{A E s Q} hh ⟨hit,ht⟩ hE=>by
  obtain⟨o,ho,hc,hd⟩:=id hit
  obtain⟨ol,hol,_,nl,hdl⟩:=ht
  unfold QM
  refine Xb (JG (name:=V1 "__next__") hit.typeIs slot_tupleiter_next (Q8 slot_tupleiter_next hit.typeIs entry_tupleiter_next ?_ (args_tupleiter_next _)))
  show XC _ _ (field (.ref it) 0>>=_) _ _ s
  refine Xb (BZ ho hd (x:=.ref t) rfl ?_)
  show XC _ _ (if(Qn t==QT)=true then _ else _) _ _ s
  rw[if_neg (show¬((Qn t==QT)=true)from Xp)]
  show XC _ _ (field (.ref it) 1>>=_) _ _ s
  refine Xb (BZ ho hd (x:=.int i 0) rfl ?_)
  show XC _ _ (seqItems? (.ref t)>>=_) _ _ s
  refine Xb (Bv hol hdl ?_)
  simp only[Qp,hx]
  refine Xb (Uk (Xb (wpAny_setField ho hd (by simp) ?_)))
  show XC _ _ (newExc (.type "StopIteration") []>>=_) _ _ _
  refine Xb ?_
  simp only[newExc,newTuple]
  refine Xb (JB ?_ (by size_fits))
  refine Xb (m:=Uy _ _) (wpAny_of_eq (a:=QT) (by first|rfl|(simp only[Uy];rfl)) ?_)
  refine JB ?_ (by size_fits)
  simp only[raiseNew]
  refine Xb (wpAny_handled ?_)
  first|rw[show A.in1.handled=none from hh]|rw[hh]
  exact Xb (Xl (wpAny_throw (hE _ _ (((JD ..).extBut.push _).push _) ⟨_,Xx _ rfl,rfl⟩)))
 keep:=λh h' k ⟨⟨o,a1,a2⟩,⟨o',b1,b2⟩⟩=>⟨⟨o,k it (by simp) o a1,a2⟩,⟨o',k t (by simp) o' b1,b2⟩⟩
end
noncomputable abbrev zT1(h:Heap)(a:Addr):Heap:=h.push { cls:=.type "tuple_iterator",data:=.fields #[.ref a,.int 0 0] }
noncomputable abbrev zT2(h:Heap)(a b:Addr):Heap:=(zT1 h a).push { cls:=.type "tuple_iterator",data:=.fields #[.ref b,.int 0 0] }
noncomputable abbrev zT3(h:Heap)(a b:Addr):Heap:=(zT2 h a b).push { cls:=.type "tuple",data:=.seq #[.ref h.objs.size,.ref (zT1 h a).objs.size] }
noncomputable abbrev zT4(h:Heap)(a b:Addr):Heap:=(zT3 h a b).push { cls:=.type "tuple",data:=.seq #[.none,.none] }
noncomputable abbrev zT5(h:Heap)(a b:Addr):Heap:=(zT4 h a b).push { cls:=.type "zip",data:=.fields #[.none,.bool false,.bool false,.ref (zT2 h a b).objs.size,.ref (zT3 h a b).objs.size] }
theorem Zwn(a b:Addr)(xs ys:Array Xf) :
  Meets (Bo.«zip.__new__» ⟨[.type "zip",.ref a,.ref b],[]⟩) (λ_ R s=>IsTup s.heap a xs∧IsTup s.heap b ys∧R (.ok (.ret (.ref (zT4 s.heap a b).objs.size))) { s with heap:=zT5 s.heap a b }) :=
 .of_wp λprog w A R s h=>by
  obtain⟨hp,g,d,tk,os⟩:=s
  obtain⟨h1,h2,h⟩:=h
  have hsub:=sub_zip
  have hL1:IsTup (Xh.heap ⟨hp,g,d,tk,os⟩) a xs:=h1
  have hL2:IsTup (Xh.heap ⟨hp.push { cls:=.type "tuple_iterator",data:=.fields #[.ref a,.int 0 0] },g,d,tk,os⟩) b ys:=h2.push _
  wp_walk using iter_tuple hL1,iter_tuple hL2
  exact⟨_,rfl,h⟩
section
variable {P:X6}{w:Qq}{A:Qo}{E:Xf->Xh->Prop}{s:Xh}
theorem Zsp{a b:Addr}{xs ys:Array Xf}{Q:Xf->Xh->Prop}(h1:IsTup s.heap a xs)(h2:IsTup s.heap b ys)
  (h:∀h' n,n=s.heap.objs.size->IsZip h' (n+4) (n+2) (n+3) .none->BX h' (n+2) (.ref n) (.ref (n+1))->BX h' (n+3) .none .none->IsTupIter h' n a 0->IsTupIter h' (n+1) b 0 ->
   (∀ c o,s.heap.get? c=some o->h'.get? c=some o)->Q (.ref (n+4)) { s with heap:=h' }):XC (XX P w) A (call (.type "zip") [.ref a,.ref b]) Q E s:=by
 refine callType_new F.called_zip (by decide) (F.typeCall_zip_2 _ _) (F.newCall_zip_2 _ _) (λobj=>F.args_object_init_3 obj _ _) F.entry_zip_new (Zwn a b xs ys) ⟨h1,h2,?_⟩
 have e1:(zT1 s.heap a).objs.size=s.heap.objs.size+1:=QC ..
 have e2:(zT2 s.heap a b).objs.size=s.heap.objs.size+2:=by rw[QC,e1]
 have e3:(zT3 s.heap a b).objs.size=s.heap.objs.size+3:=by rw[QC,e2]
 have e4:(zT4 s.heap a b).objs.size=s.heap.objs.size+4:=by rw[QC,e3]
 have up:∀{c o},(zT1 s.heap a).get? c=some o->(zT5 s.heap a b).get? c=some o:=λx=>Xg _ (Xg _ (Xg _ (Xg _ x)))
 have p5:(zT5 s.heap a b).get? (zT4 s.heap a b).objs.size=some _:=Xx _ rfl
 have p4:(zT5 s.heap a b).get? (zT3 s.heap a b).objs.size=some _:=Xg _ (Xx _ rfl)
 have p3:(zT5 s.heap a b).get? (zT2 s.heap a b).objs.size=some _:=Xg _ (Xg _ (Xx _ rfl))
 have p2:(zT5 s.heap a b).get? (zT1 s.heap a).objs.size=some _:=Xg _ (Xg _ (Xg _ (Xx _ rfl)))
 have p1:(zT5 s.heap a b).get? s.heap.objs.size=some _:=up (Xx _ rfl)
 show _∧_
 rw[e2,e3,e4]at p5
 rw[e1,e2]at p3
 rw[e3]at p4
 rw[e1]at p2
 rw[e4]
 exact⟨⟨_,p5,rfl⟩,h _ _ rfl p5 p3 p4 ⟨_,p1,rfl,rfl⟩ ⟨_,p2,rfl,rfl⟩ λc o x=>up (Xg _ x)⟩
end
theorem nn{n a b:Nat}(h:a≠b):n+a≠n+b:=λe=>h (Nat.add_left_cancel e)
theorem n0{n b:Nat}(h:0≠b):n≠n+b:=λe=>h (Nat.add_left_cancel (n:=n) e)
theorem nlt{n a c:Nat}(h:a<n):a≠n+c:=Xn (X4 h (Q5 ..))
theorem ZA.new{n a b:Nat}(h1:a<n)(h2:b<n):ZA (n+4) (n+2) (n+3) n (n+1) [n,a] [n+1,b] where
 TIz:=(by first|exact nn (by decide)|exact n0 (by decide)|exact(n0 (by decide)).symm|exact nlt h1|exact nlt h2|exact(nlt h1).symm|exact(nlt h2).symm|exact Xn h1|exact Xn h2|exact XJ h1|exact XJ h2|omega)
 TOz:=(by first|exact nn (by decide)|exact n0 (by decide)|exact(n0 (by decide)).symm|exact nlt h1|exact nlt h2|exact(nlt h1).symm|exact(nlt h2).symm|exact Xn h1|exact Xn h2|exact XJ h1|exact XJ h2|omega)
 a1:=λc hc=>by
  simp only[Xr,Ut,or_false]at hc
  rcases hc with rfl|rfl
  ·exact⟨(by first|exact nn (by decide)|exact n0 (by decide)|exact(n0 (by decide)).symm|exact nlt h1|exact nlt h2|exact(nlt h1).symm|exact(nlt h2).symm|exact Xn h1|exact Xn h2|exact XJ h1|exact XJ h2|omega),(by first|exact nn (by decide)|exact n0 (by decide)|exact(n0 (by decide)).symm|exact nlt h1|exact nlt h2|exact(nlt h1).symm|exact(nlt h2).symm|exact Xn h1|exact Xn h2|exact XJ h1|exact XJ h2|omega),(by first|exact nn (by decide)|exact n0 (by decide)|exact(n0 (by decide)).symm|exact nlt h1|exact nlt h2|exact(nlt h1).symm|exact(nlt h2).symm|exact Xn h1|exact Xn h2|exact XJ h1|exact XJ h2|omega)⟩
  ·exact⟨(by first|exact nn (by decide)|exact n0 (by decide)|exact(n0 (by decide)).symm|exact nlt h1|exact nlt h2|exact(nlt h1).symm|exact(nlt h2).symm|exact Xn h1|exact Xn h2|exact XJ h1|exact XJ h2|omega),(by first|exact nn (by decide)|exact n0 (by decide)|exact(n0 (by decide)).symm|exact nlt h1|exact nlt h2|exact(nlt h1).symm|exact(nlt h2).symm|exact Xn h1|exact Xn h2|exact XJ h1|exact XJ h2|omega),(by first|exact nn (by decide)|exact n0 (by decide)|exact(n0 (by decide)).symm|exact nlt h1|exact nlt h2|exact(nlt h1).symm|exact(nlt h2).symm|exact Xn h1|exact Xn h2|exact XJ h1|exact XJ h2|omega)⟩
 a2:=λc hc=>by
  simp only[Xr,Ut,or_false]at hc
  rcases hc with rfl|rfl
  ·exact⟨(by first|exact nn (by decide)|exact n0 (by decide)|exact(n0 (by decide)).symm|exact nlt h1|exact nlt h2|exact(nlt h1).symm|exact(nlt h2).symm|exact Xn h1|exact Xn h2|exact XJ h1|exact XJ h2|omega),(by first|exact nn (by decide)|exact n0 (by decide)|exact(n0 (by decide)).symm|exact nlt h1|exact nlt h2|exact(nlt h1).symm|exact(nlt h2).symm|exact Xn h1|exact Xn h2|exact XJ h1|exact XJ h2|omega),(by first|exact nn (by decide)|exact n0 (by decide)|exact(n0 (by decide)).symm|exact nlt h1|exact nlt h2|exact(nlt h1).symm|exact(nlt h2).symm|exact Xn h1|exact Xn h2|exact XJ h1|exact XJ h2|omega)⟩
  ·exact⟨(by first|exact nn (by decide)|exact n0 (by decide)|exact(n0 (by decide)).symm|exact nlt h1|exact nlt h2|exact(nlt h1).symm|exact(nlt h2).symm|exact Xn h1|exact Xn h2|exact XJ h1|exact XJ h2|omega),(by first|exact nn (by decide)|exact n0 (by decide)|exact(n0 (by decide)).symm|exact nlt h1|exact nlt h2|exact(nlt h1).symm|exact(nlt h2).symm|exact Xn h1|exact Xn h2|exact XJ h1|exact XJ h2|omega),(by first|exact nn (by decide)|exact n0 (by decide)|exact(n0 (by decide)).symm|exact nlt h1|exact nlt h2|exact(nlt h1).symm|exact(nlt h2).symm|exact Xn h1|exact Xn h2|exact XJ h1|exact XJ h2|omega)⟩
theorem ZA.new2(n:Nat):(n+2:Nat)≠n+3∧(n+2:Nat)≠n∧(n+2:Nat)≠n+1:=⟨nn (by decide),(n0 (by decide)).symm,nn (by decide)⟩
section
variable {X:Cx}{io:List Nat}{p c:Bool}{a b:Expr}{mr:MAt}
noncomputable def Z5r(ds:List Xa):Option (List Xa):=match ds with|[.list as,.list bs]=>some (Znh as bs)|[.tuple as,.tuple bs]=>some (Znh as bs)|_=>none
noncomputable def Zg6(a:FA):FI:=λδ=>(a δ).bind λp=>(Z5r (OT.datas p.1)).bind λds=>some (ds,p.2)
end
noncomputable def Zgi{α:Type}(xs:List α)(lo hi st:Option Int):List α :=
 (sliceRange (JX lo hi st xs.length).1 (JX lo hi st xs.length).2.1 (JX lo hi st xs.length).2.2).filterMap (xs[·]?)
theorem Vals.places:∀{xs:List V} {its:List Xf},Vals xs its->∀js:List Nat,Vals (js.filterMap (xs[·]?)) (js.filterMap (its[·]?))
 | _,_,_,[]=>.nil
 | xs,its,h,j :: js=>by
  have ih:=Vals.places h js
  cases hn:xs[j]? with
  | some x=>
   obtain⟨u,hu,ru⟩:=h.get hn
   simp only[QH,hn,hu]
   exact .cons ru ih
  | none=>
   have hv:its[j]? =none:=by
    rw[Qz]at hn⊢
    rw[←h.length];exact hn
   simp only[QH,hn,hv]
   exact ih
theorem Das.places{G:Xc}{H:Hp}{L:Addr->Prop}{xs:List V}{ds:List Xa}(h:Das G H L xs ds):∀js:List Nat,Das G H L (js.filterMap (xs[·]?)) (js.filterMap (ds[·]?))
 | []=>.nil
 | j :: js=>by
  have ih:=Das.places h js
  cases hn:ds[j]? with
  | some x=>
   obtain⟨u,hu,ru⟩:=h.get hn
   simp only[QH,hn,hu]
   exact .cons ru ih
  | none=>
   have hv:xs[j]? =none:=by
    rw[Qz]at hn⊢
    rw[h.length];exact hn
   simp only[QH,hn,hv]
   exact ih
theorem Das.pick{G:Xc}{H:Hp}{L:Addr->Prop}{xs:List V}{ds:List Xa}(h:Das G H L xs ds)(lo hi st:Option Int):Das G H L (Zgi xs lo hi st) (Zgi ds lo hi st):=by
 unfold Zgi
 rw[h.length]
 exact h.places _
theorem Vals.pick{xs:List V}{its:List Xf}(h:Vals xs its)(lo hi st:Option Int):Vals (Zgi xs lo hi st) (slicePick its.toArray lo hi st).toList:=by
 have e:(slicePick its.toArray lo hi st).toList=(sliceRange (JX lo hi st xs.length).1 (JX lo hi st xs.length).2.1 (JX lo hi st xs.length).2.2).filterMap (its[·]?):=by
  simp[slicePick,h.length]
 rw[e]
 exact h.places _
theorem Zik{xs:List V}{its:List Xf}(h:Vals xs its)(lo hi st:Option Int):(Zgi xs lo hi st).length≤xs.length:=by
 have e:=(h.pick lo hi st).length
 have s:=slicePick_size_le its.toArray lo hi st
 have l:=h.length
 simp only[XR,Xz]at e s
 omega
section
variable {X:Cx}{e:Expr}{te:TE}{lo hi:Option Expr}{se:Expr}{tl th ts:TO}{pos p2:Pos}
noncomputable def tSt(K:Xc)(te:TE)(tl th ts:TO):TE:=λσ H Q=>te σ H λx H1=>tl σ H1 λl H2=>th σ H2 λu H3=>ts σ H3 λk H4=>∃a xs,x= .ref a∧SqL K H4 a xs∧k≠some 0∧∀p,H4 p=none->Q (.ref p) (upd H4 p (.lst (Zgi xs l u k)))
theorem Z0u(he:PE X e te)(hl:PO X lo tl)(hu:PO X hi th)(hst:PO X (some se) ts):PE X (.Subscript e (.Slice lo hi (some se) p2) pos) (tSt X.K te tl th ts):=by
 intro pins s σ H Q I h
 refine Subscript_ (thn (he pins s σ H _ I h) λv s1 qz9=>?_)
 obtain⟨x,H1,I1,r1,q1⟩:=qz9
 refine wpAny_Slice (thn (hl pins s1 σ H1 _ I1 q1) λvl s2 qz9=>?_)
 obtain⟨l,H2,I2,pl,q2⟩:=qz9
 refine thn (hu pins s2 σ H2 _ I2 q2) λvu s3 qz9=>?_
 obtain⟨u,H3,I3,pu,q3⟩:=qz9
 refine thn (hst pins s3 σ H3 _ I3 q3) λvs s4 qz9=>?_
 obtain⟨k,H4,I4,ps,q4⟩:=qz9
 obtain⟨a,xs,rfl,hx,hk,q⟩:=q4
 cases r1
 have I5:Inv X pins σ H4 { s4 with heap:=s4.heap.push { cls:=.type "slice",data:=.fields #[vl,vu,vs] } }:=I4.kept (t':=s4.toks) λb ob q=>Xg _ q
 obtain⟨its,r,ht,hz⟩:=I5.list hx
 have hlen:=r.length
 show XC (XX X.prog X.w) X.A (subscriptTail e (.Slice lo hi (some se) p2) (.ref a) (.ref s4.heap.objs.size)) (EP X pins σ Q) X.xe { s4 with heap:=s4.heap.push { cls:=.type "slice",data:=.fields #[vl,vu,vs] } }
 refine tail_any (ops:=[.ref a,.ref s4.heap.objs.size]) ht.isList.typeIs slot_list_getitem.lookup ?_ (by with_unfolding_all rfl)
 refine wpAny_getItem_list_slice ht.isList (Heap.IsSliceOf.new ..) pl pu ps hk ?_ (by rw[Xz]<;>omega)
 refine⟨.ref _,_,I5.laid (t':=s4.toks) (o:=.lst (Zgi xs l u k)) (λb ob q=>Xg _ q) (XN _) ?_,rfl,q _ (I5.hok.fresh (XN _))⟩
 exact⟨Qv (Zik r l u k) hz,_,0,r.pick l u k,Xx _ rfl⟩
end
section
variable {X:Cx}{io:List Nat}{p c:Bool}{a e:Expr}{ma:MEt}{lo hi:Option Expr}{se:Expr}{ml mh ms:MOt}{pos p2:Pos}{fa:FE}
noncomputable def Z5c(m:MEt)(ml mh ms:MOt):MEt:=λδ K=>m δ λr δ1=>ml δ1 λlo δ2=>mh δ2 λhi δ3=>ms δ3 λst δ4=>st≠some 0∧asL r.data λds=>K (.nd ((Zgi ds lo hi st).map OT.fz)) δ4
theorem Z7m(ha:ME X io true c a ma)(hl:MO X io true lo ml)(hh:MO X io true hi mh)(hs:MO X io true (some se) ms):ME X io true c (.Subscript a (.Slice lo hi (some se) p2) pos) (Z5c ma ml mh ms):=by
 obtain⟨_,A,s⟩:=ha
 obtain⟨_,B,sl⟩:=hl
 obtain⟨_,D,sh⟩:=hh
 obtain⟨_,F,ss⟩:=hs
 refine⟨_,Z0u A B D F,?_⟩
 intro C H σ δ fp ex K' Q R h k
 refine s C H σ δ fp ex _ _ R h λH1 v r δ1 fp1 new r1 h1=>?_
 refine sl C H1 σ δ1 fp1 ex _ _ r1.base h1 λH2 l δ2 fp2 R2 S2 h2=>?_
 refine sh C H2 σ δ2 fp2 ex _ _ R2 h2 λH3 u δ3 fp3 R3 S3 h3=>?_
 refine ss C H3 σ δ3 fp3 ex _ _ R3 h3 λH4 w δ4 fp4 R4 S4 h4=>?_
 obtain⟨hw,h4⟩:=h4
 have s2:Same H1 H2:=λb o e=>S2.keep b o e (.inl rfl)
 have s3:Same H2 H3:=λb o e=>S3.keep b o e (.inl rfl)
 have s4:Same H3 H4:=λb o e=>S4.keep b o e (.inl rfl)
 obtain⟨e3,e4⟩:=S2.env rfl
 obtain⟨e5,e6⟩:=S3.env rfl
 obtain⟨e7,e8⟩:=S4.env rfl
 have q:=(((r1.da R).same s2).same s3).same s4
 obtain⟨a',xs,ds,rfl,e,qs,h4⟩:=q.lstInv h4
 refine⟨a',xs,rfl,e,hw,λp hp=>?_⟩
 have S:=((r1.stp.trans S2).trans S3).trans S4
 refine k _ _ _ δ4 fp4 [p] (RE.tree R R4 S (Yo hp _) (Zc7 hp) (Zgp p) (Own.list hp ((qs.pick l u w).wide λa l _=>?_))) h4
 rw[e8,e6,e4]
 exact l
noncomputable def stepOf(d:Xa)(lo hi st:Option Int):Option OT:=match d with| .list ds=>if st=some 0 then none else some (.nd ((Zgi ds lo hi st).map OT.fz))|_=>none
noncomputable def Zv9(e:FE)(lo hi st:FO):FE:=λδ=>(e δ).bind λp=>(lo p.2).bind λq=>(hi q.2).bind λr=>(st r.2).bind λt=>(stepOf p.1.data q.1 r.1 t.1).bind λo=>some (o,t.2)
theorem Z1o{lo hi st:FO}(h:ME X io p c e (Z5c (o2 fa) (o2 lo) (o2 hi) (o2 st))):ME X io p c e (o2 (Zv9 fa lo hi st)):=h.weak λδ K h=>by
 obtain⟨r,δ',h,k⟩:=h
 obtain⟨⟨x,δ1⟩,h1,h⟩:=bs h
 obtain⟨⟨y,δ2⟩,h2,h⟩:=bs h
 obtain⟨⟨z,δ3⟩,h3,h⟩:=bs h
 obtain⟨⟨t,δ4⟩,h4,h⟩:=bs h
 obtain⟨o,h5,h⟩:=bs h
 cases h
 refine⟨x,δ1,h1,y,δ2,h2,z,δ3,h3,t,δ4,h4,?_⟩
 unfold stepOf at h5
 dsimp only at h5⊢
 split at h5
 ·rename_i q
  split at h5
  ·cases h5
  ·rename_i n
   cases h5
   refine⟨n,?_⟩
   rw[show x.data=_ from q]
   exact k
 ·cases h5
end
theorem Zks{α β:Type}{f g:α->Option β}:∀{l:List α},(∀k∈l,f k=g k)->l.filterMap f=l.filterMap g
 | [],_=>rfl
 | a :: l,h=>by
  rw[QH,QH,h a (by simp),Zks λk hk=>h k (by simp[hk])]
theorem Zuw{α:Type}(xs:List α):Zgi xs none none (some (-1))=xs.reverse:=by
 unfold Zgi sliceRange JX
 simp only[Uq]
 have d0:¬((-1:Int)>0):=by decide
 simp only[if_neg d0]
 have hc:(if(xs.length:Int)-1> -1 then((xs.length:Int)-1- -1- -1-1)/(- -1)else 0)=(xs.length:Int):=by
  split
  ·simp
  ·omega
 rw[hc,List.filterMap_map,Qp]
 apply List.ext_getElem?
 intro i
 have hf:List.filterMap ((λx=>xs[x]?)∘ λk:Nat=>((xs.length:Int)-1+ -1*(k:Int)).toNat) (Xv xs.length)=xs.reverse:=by
  have:∀k∈Xv xs.length,((λx=>xs[x]?)∘ λk:Nat=>((xs.length:Int)-1+ -1*(k:Int)).toNat) k=xs.reverse[k]?:=λk hk=>by
   have hk:=Ql.mp hk
   show xs[((xs.length:Int)-1+ -1*(k:Int)).toNat]? =_
   rw[List.getElem?_reverse hk]
   congr 1
   omega
  rw[Zks this]
  have gen:∀(ys:List α) (m:Nat),m=ys.length->List.filterMap (λk=>ys[k]?) (Xv m)=ys:=by
   intro ys
   induction ys with
   | nil=>intro m hm;subst hm;rfl
   | cons y ys ih=>
    intro m hm
    subst hm
    rw[BR,List.range_succ_eq_map,QH]
    simp only[List.getElem?_cons_zero,List.filterMap_map]
    exact congrArg _ (ih _ rfl)
  exact gen _ _ (by simp)
 rw[hf]
theorem Zqf{α:Type}(xs:List α):Zgi xs none (some 0) (some (-1))=(xs.drop 1).reverse:=by
 cases xs with
 | nil=>rfl
 | cons y ys=>
  rw[List.drop_succ_cons,List.drop_zero,←Zuw ys]
  unfold Zgi sliceRange JX
  simp only[Uq,BR]
  have d0:¬((-1:Int)>0):=by decide
  have d1:¬((0:Int)<0):=by decide
  simp only[if_neg d0,if_neg d1]
  have e0:max (-1:Int) (min 0 (((ys.length+1:Nat):Int)-1))=0:=by omega
  rw[e0]
  have c1:(if((ys.length+1:Nat):Int)-1>0 then(((ys.length+1:Nat):Int)-1-0- -1-1)/(- -1)else 0)=(ys.length:Int):=by
   split
   ·simp
   ·omega
  have c2:(if(ys.length:Int)-1> -1 then((ys.length:Int)-1- -1- -1-1)/(- -1)else 0)=(ys.length:Int):=by
   split
   ·simp
   ·omega
  rw[c1,c2,List.filterMap_map,List.filterMap_map]
  refine Zks λk hk=>?_
  have hk:k<ys.length:=by simpa using hk
  show(y :: ys)[(((ys.length+1:Nat):Int)-1+ -1*(k:Int)).toNat]? =ys[((ys.length:Int)-1+ -1*(k:Int)).toNat]?
  rw[show(((ys.length+1:Nat):Int)-1+ -1*(k:Int)).toNat=((ys.length:Int)-1+ -1*(k:Int)).toNat+1 by omega,Uc]
theorem Zok(ds:List Xa):stepOf (.list ds) none (some 0) (some (-1))=some (.nd (((ds.drop 1).reverse).map OT.fz)):=by
 show(if some (-1:Int)=some 0 then none else _)=_
 rw[Zqf];exact if_neg (by decide)
section
variable {X:Cx}{io:List Nat}{c1 c2 c3 c4 p:Bool}{a b e d:Expr}{ma mb mc md:MEt}{pos:Pos}{f g h:Int->Int->Bool}{ta tb tc td:TE}{fa fb fc fd:FE}{G:Xc}
noncomputable def Zr1(r r' r'':R2)(ta tb tc td:TE):TE:=λσ H Q=>ta σ H λx H1=>tb σ H1 λy H2=>r x y H2 λz H3=>∃k,z= .bl k∧
 (if k=true then tc σ H3 λw H4=>r' y w H4 λz' H5=>∃k',z'= .bl k'∧(if k'=true then td σ H5 λu H6=>r'' w u H6 Q else Q (.bl false) H5)else Q (.bl false) H3)
theorem Zv2{op op' op'':CmpOp}{r r' r'':R2}(ho:OpR X (QX op) r)(ho':OpR X (QX op') r')(ho'':OpR X (QX op'') r'')(ha:PE X a ta)(hb:PE X b tb)(hc:PE X e tc)(hd:PE X d td)
  (hm:lastMarks [op,op',op''] [b,e,d]=false:=by with_unfolding_all rfl):PT X (.Compare a [op,op',op''] [b,e,d] pos) (Z1w (Zr1 r r' r'' ta tb tc td)):=by
 intro pins s σ H Q I h
 refine isTrue_chain (thn (ha pins s σ H _ I h) λv s1 ⟨x,H1,I1,r1,q1⟩=>test_link (thn (hb pins s1 σ H1 _ I1 q1) λu s2 ⟨y,H2,I2,r2,q2⟩=>
  thn (ho pins s2 σ H2 x y v u _ I2 r1 r2 q2) λd s3 ⟨z,H3,I3,r3,k,e,q3⟩=>?_)) hm
 subst e
 cases r3
 refine Bx ?_
 cases k with
 | false=>
  obtain⟨k',e',q'⟩:=q3
  cases e'
  exact ite_ff ⟨H3,I3,q'⟩
 | true=>
  refine ite_tt (test_link (thn (hc pins s3 σ H3 _ I3 q3) λw' s4 qz9=>?_))
  obtain⟨z',H4,I4,r4,q4⟩:=qz9
  refine thn (ho' pins s4 σ H4 y z' u w' _ I4 r2 r4 q4) λd' s5 qz9=>?_
  obtain⟨z2,H5,I5,r5,k2,e2,q5⟩:=qz9
  subst e2
  cases r5
  refine Bx ?_
  cases k2 with
  | false=>
   obtain⟨k',e',q'⟩:=q5
   cases e'
   exact ite_ff ⟨H5,I5,q'⟩
  | true=>
   refine ite_tt (test_last (thn (hd pins s5 σ H5 _ I5 q5) λw2 s6 qz9=>?_))
   obtain⟨z6,H6,I6,r6,q6⟩:=qz9
   refine thn (ho'' pins s6 σ H6 z' z6 w' w2 _ I6 r4 r6 q6) λd3 s7 qz9=>?_
   obtain⟨z7,H7,I7,r7,k7,e7,q7⟩:=qz9
   subst e7
   cases r7
   exact Bx ⟨H7,I7,q7⟩
noncomputable def Zoi(f g h:Int->Int->Bool)(ma mb mc md:MEt):MEt:=λδ K=>ma δ λx δ1=>mb δ1 λy δ2=>asI x.data λi=>asI y.data λj=>if f i j=true then mc δ2 λz δ3=>asI z.data λk=>(if g j k=true then md δ3 λw δ4=>asI w.data λl=>K (.fz (.bool (h k l))) δ4 else K (.fz (.bool false)) δ3)else K (.fz (.bool false)) δ2
theorem Z2i(ha:SE G io true c1 ta ma)(hb:SE G io true c2 tb mb)(hc:SE G io true c3 tc mc)(hd:SE G io true c4 td md):SE G io true true (Zr1 (rI0 λi j=>.bl (f i j)) (rI0 λi j=>.bl (g i j)) (rI0 λi j=>.bl (h i j)) ta tb tc td) (Zoi f g h ma mb mc md):=by
 intro C H σ δ fp ex K Q R h k
 refine ha.pureAfter R h λH1 x u R1 s1 q1 h1=>?_
 refine hb.pureAfter R1 h1 λH2 y v R2 s2 q2 h2=>?_
 obtain⟨i,rfl,h2⟩:=q1.intInv h2
 obtain⟨j,rfl,h2⟩:=q2.intInv h2
 refine⟨i,j,rfl,rfl,f i j,rfl,?_⟩
 by_cases hf:f i j=true
 ·rw[if_pos hf]at h2⊢
  refine hc.pureAfter R2 h2 λH3 z w R3 s3 q3 h3=>?_
  obtain⟨l,rfl,h3⟩:=q3.intInv h3
  have s13:Same H H3:=(s1.trans s2).trans s3
  refine⟨j,l,rfl,rfl,g j l,rfl,?_⟩
  by_cases hg:g j l=true
  ·rw[if_pos hg]at h3⊢
   refine hd.pureAfter R3 h3 λH4 z4 w4 R4 s4 q4 h4=>?_
   obtain⟨n,rfl,h4⟩:=q4.intInv h4
   have s14:Same H H4:=s13.trans s4
   exact⟨l,n,rfl,rfl,k H4 _ _ δ fp [] (.fz R4 (.same s14 s14.al) (.bl _)) h4⟩
  ·rw[if_neg hg]at h3⊢
   exact k H3 _ _ δ fp [] (.fz R3 (.same s13 s13.al) (.bl _)) h3
 ·rw[if_neg hf]at h2⊢
  have s12:Same H H2:=s1.trans s2
  exact k H2 _ _ δ fp [] (.fz R2 (.same s12 s12.al) (.bl _)) h2
theorem Zvb{op op' op'':CmpOp}(ho:OpR X (QX op) (rI0 λi j=>.bl (f i j)))(ho':OpR X (QX op') (rI0 λi j=>.bl (g i j)))(ho'':OpR X (QX op'') (rI0 λi j=>.bl (h i j)))(ha:ME X io true c1 a ma)(hb:ME X io true c2 b mb)(hc:ME X io true c3 e mc)(hd:ME X io true c4 d md)
  (hm:lastMarks [op,op',op''] [b,e,d]=false:=by with_unfolding_all rfl):MT X io true (.Compare a [op,op',op''] [b,e,d] pos) (λδ K=>Zoi f g h ma mb mc md δ (kB K)):=by
 obtain⟨_,A,sa⟩:=ha
 obtain⟨_,B,sb⟩:=hb
 obtain⟨_,D,sc⟩:=hc
 obtain⟨_,F,sd⟩:=hd
 exact⟨_,Zv2 ho ho' ho'' A B D F hm,Z66 (Z2i sa sb sc sd)⟩
noncomputable def intOf(d:Xa):Option Int:=match d with| .int i=>some i|_=>none
theorem Zfj{d:Xa}{i:Int}(h:intOf d=some i):d= .int i:=by
 unfold intOf at h
 split at h
 ·cases h;rfl
 ·cases h
noncomputable def Zj6(f g h:Int->Int->Bool)(a b c d:FE):FE:=λδ=>(a δ).bind λx=>(b x.2).bind λy=>(intOf x.1.data).bind λi=>(intOf y.1.data).bind λj=>
 if f i j=true then(c y.2).bind λz=>(intOf z.1.data).bind λk=>if g j k=true then(d z.2).bind λw=>(intOf w.1.data).bind λl=>some (.fz (.bool (h k l)),w.2)else some (.fz (.bool false),z.2)else some (.fz (.bool false),y.2)
theorem Zr6{ee:Expr}(hh:MT X io p ee (λδ K=>Zoi f g h (o2 fa) (o2 fb) (o2 fc) (o2 fd) δ (kB K))):MT X io p ee (o2 (tV (Zj6 f g h fa fb fc fd))):=hh.weak λδ K z=>by
 obtain⟨r,δ',h,k⟩:=Ycy z
 obtain⟨⟨x,δ1⟩,h1,h⟩:=bs h
 obtain⟨⟨y,δ2⟩,h2,h⟩:=bs h
 obtain⟨i,hi,h⟩:=bs h
 obtain⟨j,hj,h⟩:=bs h
 refine⟨x,δ1,h1,y,δ2,h2,?_⟩
 dsimp only at h hi hj⊢
 rw[Zfj hi,Zfj hj]
 show(if f i j=true then _ else _)
 by_cases hf:f i j=true
 ·rw[if_pos hf]at h⊢
  obtain⟨⟨z,δ3⟩,h3,h⟩:=bs h
  obtain⟨l,hl,h⟩:=bs h
  refine⟨z,δ3,h3,?_⟩
  dsimp only at h hl⊢
  rw[Zfj hl]
  show(if g j l=true then _ else _)
  by_cases hg:g j l=true
  ·rw[if_pos hg]at h⊢
   obtain⟨⟨w,δ4⟩,h4,h⟩:=bs h
   obtain⟨n,hn,h⟩:=bs h
   cases h
   refine⟨w,δ4,h4,?_⟩
   dsimp only at hn⊢
   rw[Zfj hn]
   exact k
  ·rw[if_neg hg]at h⊢
   cases h
   exact k
 ·rw[if_neg hf]at h⊢
  cases h
  exact k
end
variable {G:Xc}
section
variable {X:Cx}{io:List Nat}{p c:Bool}{a b e:Expr}{mr:MAt}{ra:FA}{i:Nat}
noncomputable def isFn(y:Str)(d:Xa):Bool:=match d with| .dict [(.str x,.bool true)]=>decide (x=y)|_=>false
end
noncomputable def Z02:List Int->Int
 | []=>0
 | x :: xs=>xs.foldl min x
theorem Zr5(xs:List Int)(x:Int):xs.foldl min x∈x :: xs∧∀a∈x :: xs,xs.foldl min x≤a:=by
 induction xs generalizing x with
 | nil=>exact⟨.head _,λa h=>by rw[Xu.mp h];exact Int.le_refl _⟩
 | cons y ys ih=>
  obtain⟨h1,h2⟩:=ih (min x y)
  rw[List.foldl_cons]
  refine⟨?_,λa h=>?_⟩
  ·rcases Xr.mp h1 with h|h
   ·rw[h]
    rcases Int.le_total x y with z|z
    ·rw[Int.min_eq_left z];exact .head _
    ·rw[Int.min_eq_right z];exact .tail _ (.head _)
   ·exact .tail _ (.tail _ h)
  ·have h0:=h2 _ (.head _)
   rcases Xr.mp h with rfl|h
   ·exact U9 h0 (Int.min_le_left ..)
   ·rcases Xr.mp h with rfl|h
    ·exact U9 h0 (Int.min_le_right ..)
    ·exact h2 a (.tail _ h)
theorem Zmm{ns:List Int}(h:0<ns.length):Z02 ns∈ns∧∀a∈ns,Z02 ns≤a:=by
 cases ns with
 | nil=>cases h
 | cons x xs=>exact Zr5 xs x
noncomputable def Z7d(K:Xc):List V->Hp->VK->Prop:=λxs H Q=>∃(a:Addr) (ns:List Int),xs=[.ref a]∧SqL K H a (ns.map V.int)∧0<ns.length∧Q (.int (Z02 ns)) H
theorem Ztk{X:Cx}{K:Xc}(hK:X.K=K)(hc:X.calm=true):Zdt X (.builtin "min") (Z7d K):=by
 subst hK
 intro pins s σ H xs us Q I r h
 obtain⟨a,ns,rfl,hs,hp,q⟩:=h
 obtain⟨u,rfl,ru⟩:=vals1 r
 cases(show u=Qn a from ru)
 obtain⟨its,rv,pl,hz⟩:=I.list hs
 obtain⟨ps,rfl,e2⟩:=Zf4 rv
 have hl:ps.length=ns.length:=by rw[←e2,Xj]
 refine min_intList (xs:=ps.toArray) (I.ok.hd hc) (by simpa [intItems]using pl.isList) (by simpa using hl▸hp) λv h' tk hv hk=>?_
 obtain⟨t,rfl⟩:=intItems_at hv
 obtain⟨h1,h2⟩:=argBest_lt (numAt ps.toArray) (ps.toArray.size-1)
 have hn:∀j,j<ps.length->numAt ps.toArray j=ns.getD j 0:=λj hj=>by
  rw[numAt_eq,←e2]
 refine⟨.int (Z02 ns),H,I.kept (t':=tk) hk,⟨t,?_⟩,q⟩
 have sz:ps.toArray.size=ns.length:=by rw[Xz,hl]
 rw[sz]at h1 h2⊢
 obtain⟨m1,m2⟩:=Zmm hp
 congr 1
 generalize ej:argBest (λi j=>decide (numAt ps.toArray i<numAt ps.toArray j)) (ns.length-1)=j at h1 h2⊢
 rw[hn j (by omega)]
 refine Int.le_antisymm ?_ (m2 _ ?_)
 ·obtain⟨j',hj',e⟩:=List.getElem_of_mem m1
  have:=h2 j' (by omega)
  rw[hn j (by omega),hn j' (by omega),Xe (i:=j'),Xi hj',e]at this
  exact this
 ·rw[Xe,Xi (by omega)]
  exact JH _
noncomputable def Z8m:List Xa->(Xa->Prop)->Prop:=λds k=>n1 (λd=>∃ns:List Int,d= .list (ns.map Xk)∧0<ns.length∧k (.int (Z02 ns))) ds
theorem Z1n:PNs G (Z7d G) Z8m:=λH L xs ds k Q hx h kk=>by
 obtain⟨v,d,rfl,rfl,q,ns,e,hp,h'⟩:=hx.one h
 subst e
 obtain⟨a,rfl,hs⟩:=q.ints_sq
 exact⟨a,ns,rfl,hs,hp,kk _ _ (.int _) h'⟩
noncomputable def Z30:List Xa->Option Xa:=λds=>match ds with|[.list es]=>(Zbj es).bind λns=>if 0<ns.length then some (.int (Z02 ns))else none|_=>none
theorem Z7n:∀ds r k,Z30 ds=some r->k r->Z8m ds k:=λds r k h hk=>by
 unfold Z30 at h
 split at h
 case h_2=>cases h
 obtain⟨ns,h1,h⟩:=bs h
 by_cases hp:0<ns.length
 ·rw[if_pos hp]at h
  cases h
  exact⟨ns,by rw[Jq h1],hp,hk⟩
 ·rw[if_neg hp]at h;cases h
section
variable {X:Cx}{io:List Nat}{p c:Bool}{a:Expr}{mr:MAt}{ra:FA}
end
variable {G:Xc}
theorem Z7a{α:Type}{p:α->Prop}{a b c d:α}(h1:p a)(h2:p b)(h3:p c)(h4:p d):∀x∈[a,b,c,d],p x:=by
 intro x hx
 rcases Xr.mp hx with rfl|hx
 ·exact h1
 rcases Xr.mp hx with rfl|hx
 ·exact h2
 rcases Xr.mp hx with rfl|hx
 ·exact h3
 rcases Xu.mp hx with rfl
 exact h4
theorem Ybl{α:Type}{p:α->Prop}{a b c d e:α}(h1:p a)(h2:p b)(h3:p c)(h4:p d)(h5:p e):∀x∈[a,b,c,d,e],p x:=λx hx=>(Xr.mp hx).elim (λq=>q▸h1) (Z7a h2 h3 h4 h5 x)
theorem no4{α:Type}{a b c d x:α}(h1:x≠a)(h2:x≠b)(h3:x≠c)(h4:x≠d):x∉[a,b,c,d]:=λhx=>Z7a (p:=λy=>x≠y) h1 h2 h3 h4 x hx rfl
noncomputable def SqB(K:Xc)(t:Bool)(H:Hp)(a:Addr)(xs:List V):Prop:=match t with|true=>H a=some (.tup xs)|false=>SqL K H a xs
noncomputable def IsB(t:Bool)(h:Heap)(a:Addr)(its:Array Xf):Prop:=match t with|true=>IsTup h a its|false=>h.IsList a its
noncomputable def ItB(t:Bool)(h:Heap)(it a:Addr)(i:Nat):Prop:=match t with|true=>IsTupIter h it a i|false=>h.IsListIter it a i
theorem ItB.at{t:Bool}{h h':Heap}{it a:Addr}{i:Nat}(x:ItB t h it a i)(k:∀o,h.get? it=some o->h'.get? it=some o):ItB t h' it a i:=by
 cases t with
 | false=>exact Heap.IsListIter.at x k
 | true=>
  obtain⟨o,ho,r⟩:=x
  exact⟨o,k o ho,r⟩
theorem ItB.obj{t:Bool}{h:Heap}{it a:Addr}{i:Nat}(x:ItB t h it a i):∃o,h.get? it=some o∧∀v,o.data≠ .cell v:=by
 cases t with
 | false=>
  obtain⟨o,ho,_,d⟩:=x
  exact⟨o,ho,λv q=>by rw[d]at q;cases q⟩
 | true=>
  obtain⟨o,ho,_,d⟩:=x
  exact⟨o,ho,λv q=>by rw[d]at q;cases q⟩
theorem IsB.lt{t:Bool}{h:Heap}{a:Addr}{its:Array Xf}(x:IsB t h a its):a<h.objs.size:=by
 cases t with
 | false=>
  obtain⟨o,ho,_⟩:=x
  exact XH ho
 | true=>
  obtain⟨o,ho,_⟩:=x
  exact XH ho
theorem SqB.its{X:Cx}{pins:List (Addr×Obj)}{σ:St}{H:Hp}{s:Xh}{t:Bool}{a:Addr}{xs:List V}(I:Inv X pins σ H s)(h:SqB X.K t H a xs):∃its:List Xf,Vals xs its∧IsB t s.heap a its.toArray:=by
 cases t with
 | false=>
  obtain⟨its,r,p,_⟩:=I.list h
  exact⟨its,r,p.isList⟩
 | true=>
  obtain⟨_,its,r,p⟩:=(show ObjOk X.prog X.w H s.heap a (.tup xs)from I.hok a _ h)
  exact⟨its,r,p⟩
theorem SqB.inj{X:Cx}{pins:List (Addr×Obj)}{σ:St}{H:Hp}{s:Xh}{t:Bool}{a:Addr}{xs ys:List V}(I:Inv X pins σ H s)(h:SqB X.K t H a xs)(k:SqB X.K t H a ys):xs=ys:=by
 cases t with
 | false=>exact I.list_inj h k
 | true=>
  have:=(show H a=some (.tup xs)from h).symm.trans k
  cases this
  rfl
section
variable {P:X6}{w:Qq}
theorem Ztw{t:Bool}{it a:Addr}{i:Nat}{items:Array Xf}{x:Xf}(hx:items[i]? =some x):Gives P w it [it,a] (λh=>ItB t h it a i∧IsB t h a items) x (λh=>ItB t h it a (i+1)):=by
 cases t with
 | true=>exact Zru hx
 | false=>
  exact⟨.head _,λst hQ=>wpAny_nextOf_list_item st.1 st.2 hx hQ,λh h' k st=>⟨Heap.IsListIter.at st.1 λo e=>k it (.head _) o e,by
   obtain⟨o,ho,r⟩:=st.2
   exact⟨o,k a (.tail _ (.head _)) o ho,r⟩⟩,λh h' k st=>Heap.IsListIter.at st λo e=>k it (.head _) o e⟩
theorem Z68{t:Bool}{it a:Addr}{i:Nat}{items:Array Xf}(hx:items[i]? =none):Zjn P w it [it,a] (λh=>ItB t h it a i∧IsB t h a items):=by
 cases t with
 | true=>exact Zw3 hx
 | false=>
  exact⟨.head _,λhh st hE=>wpAny_nextOf_list_end hh st.1 st.2 hx hE,λh h' k st=>⟨Heap.IsListIter.at st.1 λo e=>k it (.head _) o e,by
   obtain⟨o,ho,r⟩:=st.2
   exact⟨o,k a (.tail _ (.head _)) o ho,r⟩⟩⟩
end
noncomputable def Ydl(K:Xc)(t:Bool)(a b:Addr):It :=
 ⟨λi H=>∃xs ys x y,SqB K t H a xs∧SqB K t H b ys∧xs[i]? =some x∧ys[i]? =some y,
   λi H v H'=>∃p x y,H p=none∧v= .ref p∧H'=upd H p (.tup [x,y])∧(∀xs,SqB K t H a xs->xs[i]? =some x)∧∀ys,SqB K t H b ys->ys[i]? =some y,
   λi H=>∃xs ys,SqB K t H a xs∧SqB K t H b ys∧(xs.length≤i∨ys.length≤i)⟩
noncomputable def Ydq(t:Bool)(z TI TO i1 i2 a b:Addr)(i:Nat)(h:Heap):Prop:=IsZip h z TI TO .none∧BX h TI (.ref i1) (.ref i2)∧(∃x y,BX h TO x y)∧ItB t h i1 a i∧ItB t h i2 b i
theorem Ztj{P:X6}{w:Qq}{K:Xc}{es:List Expr}{kk:Nat}{pos:Pos}{t:Bool}{z TI TO i1 i2 a b:Addr}(D:ZA z TI TO i1 i2 [i1,a] [i2,b])(D2:TI≠TO∧TI≠i1∧TI≠i2):Turn P w K (.Tuple es kk pos) (Ydl K t a b) [z,TI,TO,i1,i2] z (Ydq t z TI TO i1 i2 a b) where
 mem:=.head _
 obj:=λi h st=>by
  obtain⟨s1,s2,⟨x,y,s3⟩,s4,s5⟩:=st
  exact Ybl ⟨_,s1,λv q=>by cases q⟩ ⟨_,s2,λv q=>by cases q⟩ ⟨_,s3,λv q=>by cases q⟩ s4.obj s5.obj
 keep:=λi h h' st k=>by
  obtain⟨s1,s2,⟨x,y,s3⟩,s4,s5⟩:=st
  have m2:TI∈[z,TI,TO,i1,i2]:=.tail _ (.head _)
  have m3:TO∈[z,TI,TO,i1,i2]:=.tail _ (.tail _ (.head _))
  have m4:i1∈[z,TI,TO,i1,i2]:=.tail _ (.tail _ (.tail _ (.head _)))
  have m5:i2∈[z,TI,TO,i1,i2]:=.tail _ (.tail _ (.tail _ (.tail _ (.head _))))
  exact⟨k z (.head _) _ s1,k TI m2 _ s2,⟨x,y,k TO m3 _ s3⟩,s4.at (k i1 m4),s5.at (k i2 m5)⟩
 item:=by
  intro X hP hw hK hc i pins s σ H E I hf st hg
  subst hP hw hK
  obtain⟨s1,s2,⟨x0,y0,s3⟩,s4,s5⟩:=st
  obtain⟨xs,ys,x,y,hx,hy,ex,ey⟩:=hg
  obtain⟨its,rx,px⟩:=hx.its I
  obtain⟨its',ry,py⟩:=hy.its I
  obtain⟨u,hu,ru⟩:=rx.get ex
  obtain⟨u',hu',ru'⟩:=ry.get ey
  rw[←Ur]at hu hu'
  refine Zrk D (Ztw hu) (Ztw hu') s1 s2 s3 ⟨s4,px⟩ ⟨s5,py⟩ λh' g1 g2 g3 g4 g5 g6=>?_
  refine⟨_,rfl,wpAny_letOwnedTupleGo_zip (s:={ s with heap:=h' }) g1 λh2 z2 sb=>?_⟩
  have up:∀c o,c≠z->h'.get? c=some o->h2.get? c=some o:=λc o n e=>(sb.2 c n).trans e
  have kp:∀c o,c∉[z,TO,i1,i2]->s.heap.get? c=some o->h2.get? c=some o:=λc o n e=>up c o (λq=>n (q▸ .head _)) (g6 c o n e)
  have t5:BX h2 s.heap.objs.size u u':=up _ _ (XJ (XH s1)) g5
  have i1z:=(D.a1 i1 (.head _)).1
  have i2z:=(D.a2 i2 (.head _)).1
  have n3:=g3.at (up i1 · i1z)
  have n4:=g4.at (up i2 · i2z)
  obtain⟨f1,f2,f3,f4,f5⟩:(Zkb X pins H z∧Zkb X pins H TI∧Zkb X pins H TO∧Zkb X pins H i1∧Zkb X pins H i2):=⟨hf _ (.head _),hf _ (.tail _ (.head _)),hf _ (.tail _ (.tail _ (.head _))),hf _ (.tail _ (.tail _ (.tail _ (.head _)))),hf _ (.tail _ (.tail _ (.tail _ (.tail _ (.head _)))))⟩
  have I2:Inv X pins σ (upd H s.heap.objs.size (.tup [x,y])) { s with heap:=h2 } :=
   I.turnTup (ch:=[z,TO,i1,i2]) (its:=[u,u']) (Z7a f1 f3 f4 f5) kp (Z7a ⟨_,z2⟩ ⟨_,up _ _ D.TOz g2⟩ (n3.obj.imp λ_ q=>q.1) (n4.obj.imp λ_ q=>q.1)) (XN _) Z70 (.cons ru (.cons ru' .nil)) ⟨_,t5,rfl,0,rfl⟩
  have lt:∀{c:Addr} {o:Obj},s.heap.get? c=some o->Zkb X pins H c->upd H s.heap.objs.size (.tup [x,y]) c=none:=λe f=>by rw[Z4 (Xn (XH e))];exact f.1
  refine⟨.ref s.heap.objs.size,_,I2,rfl,⟨_,x,y,I.fresh,rfl,rfl,λzs hz=>by rw[hz.inj I hx];exact ex,λzs hz=>by rw[hz.inj I hy];exact ey⟩,⟨z2,kp TI _ (no4 D.TIz D2.1 D2.2.1 D2.2.2) s2,⟨_,_,up _ _ D.TOz g2⟩,n3,n4⟩,?_⟩
  obtain⟨o4,e4,_⟩:=s4.obj
  obtain⟨o5,e5,_⟩:=s5.obj
  exact Ybl (lt s1 f1) (lt s2 f2) (lt s3 f3) (lt e4 f4) (lt e5 f5)
 done:=by
  intro X hP hw hK hc i pins s σ H E I hf st hg
  subst hP hw hK
  obtain⟨s1,s2,⟨x0,y0,s3⟩,s4,s5⟩:=st
  obtain⟨xs,ys,hx,hy,he⟩:=hg
  obtain⟨its,rx,px⟩:=hx.its I
  obtain⟨its',ry,py⟩:=hy.its I
  have l1:=rx.length
  have l2:=ry.length
  refine Zu2 (I.ok.hd hc) D (S1:=λh=>ItB t h i1 a i∧IsB t h a its.toArray) (T1:=λh=>ItB t h i1 a (i+1)) (S2:=λh=>ItB t h i2 b i∧IsB t h b its'.toArray) ?_ s1 s2 s3 ⟨s4,px⟩ ⟨s5,py⟩ λh' k=>⟨rfl,I.turnAll (ch:=[z,TO,i1,i2]) (Z7a (hf _ (.head _)) (hf _ (.tail _ (.tail _ (.head _)))) (hf _ (.tail _ (.tail _ (.tail _ (.head _))))) (hf _ (.tail _ (.tail _ (.tail _ (.tail _ (.head _))))))) k⟩
  cases q:its.toArray[i]? with
  | none=>exact .inl (Z68 q)
  | some v=>
   refine .inr ⟨⟨v,Ztw q⟩,Z68 ?_⟩
   have:=(Array.getElem?_eq_some_iff.mp q).1
   rw[Xz]at this
   rw[Array.getElem?_eq_none_iff,Xz]
   omega
 self:=λ_ _ _ _ _ st h=>wpAny_pyIter_zip st.1 h
theorem Zsb{P:X6}{w:Qq}{A:Qo}{E:Xf->Xh->Prop}{s:Xh}{t:Bool}{a b:Addr}{xs ys:Array Xf}{Q:Xf->Xh->Prop}(h1:IsB t s.heap a xs)(h2:IsB t s.heap b ys)
  (h:∀h' n,n=s.heap.objs.size->IsZip h' (n+4) (n+2) (n+3) .none->BX h' (n+2) (.ref n) (.ref (n+1))->BX h' (n+3) .none .none->ItB t h' n a 0->ItB t h' (n+1) b 0 ->
   (∀ c o,s.heap.get? c=some o->h'.get? c=some o)->Q (.ref (n+4)) { s with heap:=h' }):XC (XX P w) A (call (.type "zip") [.ref a,.ref b]) Q E s:=by
 cases t with
 | true=>exact Zsp h1 h2 h
 | false=>exact call_zip_2 h1 h2 λh' g1 g2 g3 g4 g5 _ g7=>h h' _ rfl g1 g2 g3 g4 g5 g7
noncomputable def Ybm(K:Xc)(ta:TA):TI:=λσ H R=>ta σ H λvs H1=>∃t a b,vs=[.ref a,.ref b]∧(∃xs,SqB K t H1 a xs)∧(∃ys,SqB K t H1 b ys)∧R (Ydl K t a b) H1
theorem Z09{X:Cx}{K:Xc}{a b:Expr}{ta:TA}{p pos pt:Pos}{es:List Expr}{kk:Nat}(hK:X.K=K)(hg:Gl X "zip")(hm:X.mg "zip"=none)(hv:Qh "zip"=some (.type "zip"))(ha:PA X [a,b] ta)
  (he:Xo [a,b] X.env=(false,eval a X.env) :: Xo [b] X.env:=by rfl) (hpl:(JF pos (Xo [b] X.env)).any (·.1)=false:=by rfl) :
  PI X (.Tuple es kk pt) (.Call (.Name "zip" p) [a,b] [] pos) (Ybm K ta):=by
 subst hK
 intro pins s σ H R I h
 refine Vx (Zgz I hg hm hv ?_ (by decide) (by decide))
 refine Bp (thn (ha pos pins s σ H _ I h) λus s1 q=>?_) he hpl
 obtain⟨vs,H1,I1,r1,t,l1,l2,e1,⟨xs,hx⟩,⟨ys,hy⟩,q⟩:=q
 subst e1
 obtain⟨u,u',rfl,ru,ru'⟩:=vals2 r1
 cases(show u=Qn l1 from ru)
 cases(show u'=Qn l2 from ru')
 obtain⟨its,rx,px⟩:=hx.its I1
 obtain⟨its',ry,py⟩:=hy.its I1
 refine Zsb px py λh' n en g1 g2 g3 g4 g5 g7=>?_
 have I2:Inv X pins σ H1 { s1 with heap:=h' }:=I1.kept (t':=s1.toks) g7
 refine wpAny_pyIter_zip (s:={ s1 with heap:=h' }) g1 ?_
 refine⟨_,[_,_,_,_,_],Ydq _ _ _ _ _ _ _ _,_,H1,rfl,I2,Ztj (ZA.new (en▸px.lt) (en▸py.lt)) (ZA.new2 n),⟨g1,g2,⟨_,_,g3⟩,g4,g5⟩,?_,q⟩
 subst en
 have ok:∀k:Nat,Zkb X pins H1 (s1.heap.objs.size+k):=λk=>I1.fpOk (Q5 _ _) (I1.hok.fresh (Q5 _ _))
 exact Ybl (ok 4) (ok 2) (ok 3) (ok 0) (ok 1)
section
variable {X:Cx}{io:List Nat}{p c:Bool}{a b:Expr}{mr:MAt}{ra:FA}
noncomputable def Z8x(t:Bool)(as:List Xa):Xa:=match t with|true=>.tuple as|false=>.list as
theorem Rel.keptSq{C:MC G}{H:Hp}{σ:St}{δ:Zj}{fp:Fp}{ex:Addr->Prop}{v:V}{t:Bool}{ds:List Xa}(R:Rel C io H σ δ fp ex)(q:Da G H (λa=>c=true->Lf C fp ex a) v (Z8x t ds)) :
  ∃a xs,v= .ref a∧∀H':Hp,(∀b o,H b=some o->(c=false∨¬Foot fp b)->H' b=some o)->SqB G t H' a xs∧Das G H' (λa=>c=true->(Lf C fp ex a∧H a≠none)) xs ds:=by
 cases t with
 | false=>exact R.keptList q
 | true=>
  generalize hd:Z8x true ds=d at q
  cases q with
  | tup e r=>
   cases hd
   rename_i a0 xs0
   refine⟨a0,xs0,rfl,λH' kp=>?_⟩
   obtain⟨f1,f2⟩:=R.kept kp
   exact⟨f2 _ (.tup _) e,r.frame f1 f2⟩
  | _=>cases hd
theorem Zwd{ds es:List Xa}(h:Z5r ds=some es):∃t as bs,ds=[Z8x t as,Z8x t bs]∧es=Znh as bs:=by
 unfold Z5r at h
 split at h
 ·cases h;exact⟨false,_,_,rfl,rfl⟩
 ·cases h;exact⟨true,_,_,rfl,rfl⟩
 ·cases h
noncomputable def iZB(mr:MAt):MIt:=λδ K=>mr δ λrs δ'=>∃es,Z5r (OT.datas rs)=some es∧K es δ'
theorem Zof{p' pos pt:Pos}{es:List Expr}{kk:Nat}(hg:Gl X "zip")(hm:X.mg "zip"=none)(hv:Qh "zip"=some (.type "zip"))(ha:MA X io p c [a,b] mr)
  (he:Xo [a,b] X.env=(false,eval a X.env) :: Xo [b] X.env:=by rfl) (hpl:(JF pos (Xo [b] X.env)).any (·.1)=false:=by rfl):MI X io p c (.Tuple es kk pt) (.Call (.Name "zip" p') [a,b] [] pos) (iZB mr):=by
 obtain⟨_,A,s⟩:=ha
 refine⟨_,Z09 rfl hg hm hv A he hpl,λC H σ δ fp ex K' Q R h kk=>s C H σ δ fp ex _ _ R h λH1 vs rs δ1 fp1 new r1 h1=>?_⟩
 have q:=r1.das R
 obtain⟨es,hz,h1⟩:=h1
 obtain⟨t,as,bs,e,rfl⟩:=Zwd hz
 rw[e]at q
 cases q with
 | cons q1 q2=>
  cases q2 with
  | cons q2 q3=>
   cases q3
   have R1:=r1.base
   obtain⟨l1,xs,rfl,k1⟩:=R1.keptSq q1
   obtain⟨l2,ys,rfl,k2⟩:=R1.keptSq q2
   refine⟨t,l1,l2,rfl,⟨_,(k1 H1 λ_ _ e _=>e).1⟩,⟨_,(k2 H1 λ_ _ e _=>e).1⟩,kk _ H1 _ δ1 fp1 R1 r1.stp (λH' kp i=>?_) h1⟩
   obtain⟨s1,d1⟩:=k1 H' kp
   obtain⟨s2,d2⟩:=k2 H' kp
   refine⟨λd hd=>?_,λhd=>⟨_,_,s1,s2,by rw[d1.length,d2.length];exact Zt8 hd⟩⟩
   obtain⟨x,y,hx,hy,rfl⟩:=Zpo hd
   obtain⟨u,hu,qu⟩:=d1.get hx
   obtain⟨w,hw,qw⟩:=d2.get hy
   refine⟨⟨_,_,u,w,s1,s2,hu,hw⟩,λv H'' hyl=>?_⟩
   obtain⟨t',u',w',ht,rfl,rfl,hu',hw'⟩:=hyl
   cases hu.symm.trans (hu' _ s1)
   cases hw.symm.trans (hw' _ s2)
   exact⟨Yo ht _,.tup Yh (.cons (qu.same (Yo ht _)) (.cons (qw.same (Yo ht _)) .nil))⟩
theorem Zn3{tg e:Expr}(g:MI X io p c tg e (iZB (o2 ra))):MI X io p c tg e (o2 (Zg6 ra)):=g.weak λδ K h=>by
 obtain⟨r,δ',h,k⟩:=h
 obtain⟨⟨x,δ1⟩,h1,h⟩:=bs h
 obtain⟨ds,h2,h⟩:=bs h
 cases h
 exact⟨x,_,h1,_,h2,k⟩
end
end L2
namespace L2
open PySem PySem.Spec PyProof.Rows PySem.W
noncomputable def kEv{α:Type}(lt:Nat->Nat->Bool):KasT α->α
 | .ret a=>a
 | .ask i j k=>kEv lt (k (lt i j))
noncomputable def kGood{α:Type}(n:Nat)(P:α->Prop):KasT α->Prop
 | .ret a=>P a
 | .ask i j k=>i<n∧j<n∧∀b,kGood n P (k b)
theorem kGood.bind{α β:Type}{n:Nat}{P:α->Prop}{R:β->Prop}{f:α->KasT β}(hf:∀a,P a->kGood n R (f a)){t:KasT α}(h:kGood n P t):kGood n R (t.bind f):=by
 induction t with
 | ret a=>exact hf a h
 | ask i j k ih=>exact⟨h.1,h.2.1,λb=>ih b (h.2.2 b)⟩
theorem kGood.ev{α:Type}{n:Nat}{P:α->Prop}{lt:Nat->Nat->Bool}{t:KasT α}(h:kGood n P t):P (kEv lt t):=by
 induction t with
 | ret a=>exact h
 | ask i j k ih=>exact ih _ (h.2.2 _)
theorem kGood.wp{α:Type}{n:Nat}{P:α->Prop}{lt:Nat->Nat->Bool}{cmp:Nat->Nat->(Bool->Xh->Prop)->Xh->Prop}{s:Xh}{Q:α->Xh->Prop}(hc:∀i j C,i<n->j<n->C (lt i j) s->cmp i j C s){t:KasT α}(h:kGood n P t)(q:Q (kEv lt t) s):t.kasWp cmp Q s:=by
 induction t with
 | ret a=>exact q
 | ask i j k ih=>exact hc i j _ h.1 h.2.1 (ih _ (h.2.2 _) q)
noncomputable def kP(n:Nat)(p:Array Nat):Prop:=p.toList.Perm (Xv n)
theorem kP.at{n:Nat}{p:Array Nat}(h:kP n p)(h0:0<n)(i:Nat):p.getD i 0<n:=by
 by_cases c:i<p.size
 ·have e:p.getD i 0=p[i]:=by simp[Array.getD,c]
  rw[e]
  exact Ql.mp (h.mem_iff.mp (Array.getElem_mem_toList c))
 ·have e:p.getD i 0=0:=by simp[Array.getD,c]
  rw[e];exact h0
theorem kP.rev{n:Nat}{p:Array Nat}(h:kP n p)(i j:Nat):kP n (kas_rev p i j):=(Array.perm_iff_toList_perm.mp (mirror_perm p i j _)).trans h
theorem kP.bub{n:Nat}{p:Array Nat}(h:kP n p)(i j:Nat):kP n (bubble p i j):=(Array.perm_iff_toList_perm.mp (bubble_perm p i j)).trans h
theorem Zpc{n:Nat}{p:Array Nat}(h:kP n p)(h0:0<n)(f m:Nat):kGood n (λ_=>True) (kas_asc p f m):=by
 induction f generalizing m with
 | zero=>exact trivial
 | succ f ih=>
  refine⟨h.at h0 _,h.at h0 _,λb=>?_⟩
  cases b
  ·exact ih _
  ·exact trivial
theorem Zrr{n:Nat}(h0:0<n)(f:Nat){p:Array Nat}(h:kP n p)(m q:Nat):kGood n (λr:Array Nat×Nat×Nat=>kP n r.1) (kas_desc f p m q):=by
 induction f generalizing p m q with
 | zero=>exact h
 | succ f ih=>
  refine⟨h.at h0 _,h.at h0 _,λb=>?_⟩
  cases b
  ·refine⟨h.at h0 _,h.at h0 _,λb=>?_⟩
   cases b
   ·exact ih h _ _
   ·exact h
  ·show kGood n _ (if q>0 then _ else _)
   split
   ·exact ih (h.rev _ _) _ _
   ·exact ih h _ _
theorem Zml{n:Nat}{p:Array Nat}(h:kP n p)(h0:0<n)(m r:Nat):kGood n (λr:Nat×Array Nat=>kP n r.2) (kas_tail3 m r p):=by
 refine kGood.bind (P:=λ_=>True) (λa _=>?_) (Zpc (h.rev _ _) h0 _ _)
 exact h.rev _ _
theorem Ze9{n:Nat}{p:Array Nat}(h:kP n p)(h0:0<n)(m r:Nat):kGood n (λr:Nat×Array Nat=>kP n r.2) (kas_descPart m r p) :=
 (Zrr h0 _ h _ _).bind λx hx=>by
  show kGood n _ (if x.2.2>0 then _ else _)
  split
  ·exact Zml (hx.rev _ _) h0 _ _
  ·exact Zml hx h0 _ _
theorem Zq7{n:Nat}{p:Array Nat}(h:kP n p)(h0:0<n)(r:Nat):kGood n (λr:Nat×Array Nat=>kP n r.2) (kas_count r p) :=
 (Zpc h h0 _ _).bind λm _=>by
  show kGood n _ (if(m==r)=true then _ else if m>1 then _ else _)
  split
  ·exact h
  ·split
   ·refine⟨h.at h0 _,h.at h0 _,λb=>?_⟩
    cases b
    ·exact Ze9 (h.rev _ _) h0 _ _
    ·exact h
   ·exact Ze9 h h0 _ _
theorem Zre{n:Nat}{p:Array Nat}(h:kP n p)(h0:0<n)(k f l r:Nat):kGood n (λ_=>True) (kas_place p k f l r):=by
 induction f generalizing l r with
 | zero=>exact trivial
 | succ f ih=>
  show kGood n _ (if l≥r then _ else _)
  split
  ·exact trivial
  ·refine⟨h.at h0 _,h.at h0 _,λb=>?_⟩
   cases b
   ·exact ih _ _
   ·exact ih _ _
theorem Zxl{n:Nat}(h0:0<n)(f:Nat){p:Array Nat}(h:kP n p)(k:Nat):kGood n (kP n) (kas_bin f p k):=by
 induction f generalizing p k with
 | zero=>exact h
 | succ f ih=>exact(Zre h h0 _ _ _ _).bind λl _=>ih (h.bub _ _) _
theorem Zif{n:Nat}(h0:0<n):kGood n (kP n) (kas_sort n) :=
 (Zq7 (p:=V0 (Xv n)) (.refl _) h0 n).bind λr hr=>by
  show kGood n _ (if r.1<n then _ else _)
  split
  ·exact Zxl h0 _ hr _
  ·exact hr
noncomputable def Zv4(lt:Nat->Nat->Bool)(n:Nat):List Nat:=(kEv lt (kas_sort n)).toList
theorem Zfg{lt:Nat->Nat->Bool}{n:Nat}(h0:0<n):(Zv4 lt n).Perm (Xv n):=(Zif h0).ev (P:=kP n)
end L2
namespace L2
open PySem PySem.Spec PyProof.Rows PySem.W PySem.SeqAt
open AutoSeq1 (wpAny_loadPart')
open MeetsSeq MeetsSeq2 MeetsSeq3 SeqRoads2
noncomputable def ltI:List Int->List Int->Bool
 | [],[]=>false
 | [],_ :: _=>true
 | _ :: _,[]=>false
 | x :: xs,y :: ys=>if x=y then ltI xs ys else decide (x<y)
theorem Zjo{vs:List Xf}{ns:List Int}(h:JN vs ns)(i:Nat)(hi:i<vs.length):∃x t,vs[i]? =some (.int x t)∧ns.drop i=x :: ns.drop (i+1):=by
 induction h generalizing i with
 | nil=>exact absurd hi (Vg i)
 | cons n t h ih=>
  cases i with
  | zero=>exact⟨n,t,rfl,rfl⟩
  | succ i=>exact ih i (Nat.lt_of_succ_lt_succ hi)
theorem Zd5{vs:List Xf}{ns:List Int}(h:JN vs ns):vs.length=ns.length:=by
 induction h with
 | nil=>rfl
 | cons n t h ih=>exact congrArg Nat.succ ih
theorem Zhh{xs ys:List Int}(h:xs=[]∨ys=[]):ltI xs ys=decide (xs.length<ys.length):=by
 cases xs<;>cases ys<;>first|rfl|(rcases h with h|h<;>cases h)|exact(decide_eq_true (Nat.succ_pos _)).symm
theorem Ztd(l b:Addr)(items items2:Array Xf)(n n2:Nat)(dd dd2:Option Addr)(sl sl2:Array (Option Xf)){xs ys:List Int}(h1:JN items.toList xs)(h2:JN items2.toList ys)(k:Nat) :
  ∀i:Nat,items.size-i=k->i≤items.size->i≤items2.size->Meets (Bo.«list.__eq__.loop» ⟨[.ref l,.ref b,JR i,JR 0],[]⟩)
   (λA R s=>s.heap.get? l=some { cls:=.type "list",dict:=dd,data:=.seq items n,slots:=sl }∧s.heap.get? b=some { cls:=.type "list",dict:=dd2,data:=.seq items2 n2,slots:=sl2 }∧
    R (.ok (.ret (.bool (ltI (xs.drop i) (ys.drop i))))) s):=by
 have e1:items.size=xs.length:=Zd5 h1
 have e2:items2.size=ys.length:=Zd5 h2
 have fin:∀i,i≤items.size->i≤items2.size->(i=items.size∨i=items2.size)->ltI (xs.drop i) (ys.drop i)=decide (items.size<items2.size):=λi u1 u2 c=>by
  rw[Zhh (c.imp (λc=>By (by omega)) λc=>By (by omega)),QK,QK]
  exact decide_eq_decide.mpr (by omega)
 induction k with
 | zero=>
  intro i hk u1 u2 prog w A R s h
  obtain⟨hp,g,d,tk,os⟩:=s;obtain⟨hl,hb,h⟩:=h
  wp_walk using Qd hl,Qd hb
  have hi1:items[((i:Nat):Int).toNat]? =none:=by simp;omega
  rw[fin i u1 u2 (.inl (by omega))]at h
  rw[hi1]
  wp_walk using Qd hl,Qd hb
  exact h
 | succ k ih=>
  intro i hk u1 u2 prog w A R s h
  obtain⟨hp,g,d,tk,os⟩:=s;obtain⟨hl,hb,h⟩:=h
  have hlt:i<items.size:=by omega
  obtain⟨x,t,q1,q2⟩:=Zjo h1 i hlt
  have hi1:items[((i:Nat):Int).toNat]? =some (.int x t):=by rw[Qp,←q1,Qk]
  wp_walk using Qd hl,Qd hb
  by_cases c:i<items2.size
  ·obtain⟨y,u,q3,q4⟩:=Zjo h2 i c
   have hi2:items2[((i:Nat):Int).toNat]? =some (.int y u):=by rw[Qp,←q3,Qk]
   have hc:((i:Int)+1)=((i+1:Nat):Int):=by push_cast;rfl
   rw[q2,q4]at h
   unfold ltI at h
   rw[hi1,hi2]
   refine Xb (EqAt.int_int x t y u prog w _ _ ?_)
   by_cases cx:x=y
   ·rw[if_pos cx]at h
    rw[beq_iff_eq.mpr cx]
    wp_walk
    rw[hc]
    exact⟨Vp VM _,JT entry_eq_loop (by
     rw[Q9 VM _]
     exact ih (i+1) (by omega) (by omega) (by omega) prog w A R _ ⟨hl,hb,h⟩)⟩
   ·rw[if_neg cx]at h
    rw[beq_eq_false_iff_ne.mpr cx]
    wp_walk using Qd hl,Qd hb
    rw[hi1,hi2]
    refine Xb (lt_int ?_)
    wp_walk
    exact h
  ·have hi2:items2[((i:Nat):Int).toNat]? =none:=by simp;omega
   rw[fin i u1 u2 (.inr (by omega))]at h
   rw[hi1,hi2]
   wp_walk using Qd hl,Qd hb
   exact h
theorem Zma(l b:Addr)(items items2:Array Xf)(n n2:Nat)(dd dd2:Option Addr)(sl sl2:Array (Option Xf)){xs ys:List Int}(h1:JN items.toList xs)(h2:JN items2.toList ys) :
  Meets (Bo.«list.__lt__» ⟨[.ref l,.ref b],[]⟩)
   (λA R s=>s.heap.get? l=some { cls:=.type "list",dict:=dd,data:=.seq items n,slots:=sl }∧s.heap.get? b=some { cls:=.type "list",dict:=dd2,data:=.seq items2 n2,slots:=sl2 }∧
    R (.ok (.ret (.bool (ltI xs ys)))) s):=by
 intro prog w A R s h
 obtain⟨hp,g,d,tk,os⟩:=s;obtain⟨hl,hb,h⟩:=h
 have f3:=AutoSeq1.sub_list_list
 wp_walk using Qd hl,Qd hb
 exact⟨Vp VM _,JT entry_eq_loop (by
  rw[Q9 VM _]
  exact Ztd l b items items2 n n2 dd dd2 sl sl2 h1 h2 _ 0 rfl (Qt _) (Qt _) prog w A R _ ⟨hl,hb,h⟩)⟩
section
variable {prog:X6}{w:Qq}{A:Qo}{E:Xf->Xh->Prop}{s:Xh}
theorem Zrf{l b:Addr}{items items2:Array Xf}{xs ys:List Int}{Q:Bool->Xh->Prop}(hu:A.units<cLine)(hl:s.heap.IsList l items)(hb:s.heap.IsList b items2)(h1:JN items.toList xs)(h2:JN items2.toList ys)(h:Q (ltI xs ys) s) :
  XC (XX prog w) A (oneLt' true (.ref l) (.ref b)) Q E s:=by
 obtain⟨⟨cls,dd,data,sl⟩,hl,hc,n,hd⟩:=hl
 obtain⟨⟨cls2,dd2,data2,sl2⟩,hb,hc2,n2,hd2⟩:=hb
 simp only at hc hd hc2 hd2
 subst hc hd hc2 hd2
 rw[oneLt'_eq]
 simp only[if_true]
 refine Xb (wpAny_cRoomFor hu ?_)
 refine Xb (wpAny_callSpecialIfBound?_slot ⟨_,hl,rfl⟩ F.slot_list_lt (U0 F.slot_list_lt ⟨_,hl,rfl⟩ F.entry_list_lt (F.args_list_lt_2 _ _) (Zma l b items items2 n n2 dd dd2 sl sl2 h1 h2) ⟨hl,hb,?_⟩))
 exact Bx h
end
theorem Z4r{prog:X6}{w:Qq}{A:Qo}{E:Xf->Xh->Prop}{s:Xh}{a b:Int}{t u:Tok}{Q:Xf->Xh->Prop}(h:Q (.bool (decide (a<b))) s):XC (XX prog w) A (richCompare .Lt (.int a t) (.int b u)) Q E s:=lt_int h
theorem Zq8(l b:Addr)(items items2:Array Xf)(n n2:Nat)(dd dd2:Option Addr)(sl sl2:Array (Option Xf)){xs ys:List Int}(h1:JN items.toList xs)(h2:JN items2.toList ys) :
  Meets (Bo.«tuple.__lt__» ⟨[.ref l,.ref b],[]⟩)
   (λA R s=>s.heap.get? l=some { cls:=.type "tuple",dict:=dd,data:=.seq items n,slots:=sl }∧s.heap.get? b=some { cls:=.type "tuple",dict:=dd2,data:=.seq items2 n2,slots:=sl2 }∧
    R (.ok (.ret (.bool (ltI xs ys)))) s) :=
 .of_wp λprog w A R s h=>by
  obtain⟨hp,g,d,tk,os⟩:=s;obtain⟨hl,hb,h⟩:=h
  have f2:=AutoSeq1.sub_tuple_tuple
  have e1:items.toList.length=xs.length:=Zd5 h1
  have e2:items2.toList.length=ys.length:=Zd5 h2
  wp_walk using Qd hl,Qd hb,wpAny_forIn_list _ (λrest b s'=>b.1=none∧s'=⟨hp,g,d,tk,os⟩∧∃i,rest=(items.toList.zip items2.toList).drop i∧i≤items.toList.length∧i≤items2.toList.length∧
   R (.ok (.ret (.bool (ltI (xs.drop i) (ys.drop i))))) ⟨hp,g,d,tk,os⟩) _
  case turn=>
   rintro⟨v,u⟩ rest b s' ⟨hb',rfl,i,hz,u1,u2,hR⟩
   have hlt:i<(items.toList.zip items2.toList).length:=by
    rcases V2 i (items.toList.zip items2.toList).length with h'|h'
    ·exact h'
    ·rw[List.drop_of_length_le h']at hz;cases hz
   have hm:=hlt
   rw[Vu]at hm
   obtain⟨x,t,q1,q2⟩:=Zjo h1 i (by omega)
   obtain⟨y,r,q3,q4⟩:=Zjo h2 i (by omega)
   rw[V4 hlt]at hz
   injection hz with hyx hrest
   have hz0:(items.toList.zip items2.toList)[i]? =some (.int x t,.int y r):=by rw[V3];exact⟨q1,q3⟩
   rw[Xi hlt]at hz0
   injection hz0 with hz0
   rw[hz0]at hyx
   cases hyx
   rw[q2,q4]at hR
   unfold ltI at hR
   refine Xb (EqAt.int_int x t y r prog w _ _ ?_)
   by_cases cx:x=y
   ·rw[if_pos cx]at hR
    rw[beq_iff_eq.mpr cx]
    wp_walk
    exact⟨rfl,rfl,i+1,hrest,by omega,by omega,hR⟩
   ·rw[if_neg cx]at hR
    rw[beq_eq_false_iff_ne.mpr cx]
    wp_walk using Z4r
    exact⟨_,rfl,hR⟩
  case fin=>
   rintro⟨b1,b2⟩ s' ⟨hb',rfl,i,hz,u1,u2,hR⟩
   simp only at hb'
   subst hb'
   have hge:min items.toList.length items2.toList.length≤i:=by
    rcases V2 i (items.toList.zip items2.toList).length with h'|h'
    ·rw[V4 h']at hz;cases hz
    ·rw[Vu]at h';exact h'
   have hv:ltI (xs.drop i) (ys.drop i)=decide (items.size<items2.size):=by
    rw[Zhh ((show i=items.toList.length∨i=items2.toList.length by omega).imp (λc=>By (by omega)) λc=>By (by omega)),QK,QK]
    rw[XR]at e1 e2 u1 u2
    exact decide_eq_decide.mpr (by omega)
   rw[hv]at hR
   wp_walk
   exact⟨_,rfl,hR⟩
  case h=>
   exact⟨rfl,rfl,0,rfl,Qt _,Qt _,h⟩
section
variable {prog:X6}{w:Qq}{A:Qo}{E:Xf->Xh->Prop}{s:Xh}
theorem Zrv{l b:Addr}{items items2:Array Xf}{xs ys:List Int}{Q:Bool->Xh->Prop}(hu:A.units<cLine)(hl:s.heap.IsTuple l items)(hb:s.heap.IsTuple b items2)(h1:JN items.toList xs)(h2:JN items2.toList ys)(h:Q (ltI xs ys) s) :
  XC (XX prog w) A (oneLt' false (.ref l) (.ref b)) Q E s:=by
 obtain⟨⟨cls,dd,data,sl⟩,hl,hc,n,hd⟩:=hl
 obtain⟨⟨cls2,dd2,data2,sl2⟩,hb,hc2,n2,hd2⟩:=hb
 simp only at hc hd hc2 hd2
 subst hc hd hc2 hd2
 exact kat_one _ _ (richCompare_meets_room (op:=.Lt) ⟨_,hl,rfl⟩ ⟨_,hb,rfl⟩ F.slot_tuple_lt F.entry_tuple_lt (F.args_tuple_lt_2 _ _) (Zq8 l b items items2 n n2 dd dd2 sl sl2 h1 h2)
  ⟨hl,hb,show U8 (ltI xs ys)≠Value.notImplemented∧_ from⟨(λx=>nomatch x),h⟩⟩ hu)
end
end L2
namespace L2
open PySem PySem.Spec PyProof.Rows PySem.W
noncomputable def sLay{α:Type}(d:α)(lt:Nat->Nat->Bool)(vs:List α):List α:=if vs.length<2 then vs else(Zv4 lt vs.length).map λi=>vs.getD i d
theorem Zrn{α:Type}(d:α)(vs:List α):((Xv vs.length).map λi=>vs.getD i d)=vs:=by
 refine List.ext_getElem? λi=>?_
 rw[Xq]
 by_cases c:i<vs.length
 ·rw[Vn c,Xi c]
  show some (vs.getD i d)=_
  rw[Xe,Xi c];rfl
 ·rw[Q6 (by rw[X8];omega),Q6 (by omega)];rfl
theorem Zmy{α:Type}(d:α)(lt:Nat->Nat->Bool)(vs:List α):(sLay d lt vs).Perm vs:=by
 unfold sLay
 split
 ·exact .refl _
 ·have:=(Zfg (lt:=lt) (n:=vs.length) (by omega)).map λi=>vs.getD i d
  rwa[Zrn]at this
theorem Zyk{α β:Type}(f:α->β)(d:α)(lt:Nat->Nat->Bool)(vs:List α):sLay (f d) lt (vs.map f)=(sLay d lt vs).map f:=by
 unfold sLay
 rw[Xj]
 split
 ·rfl
 ·rw[X5]
  refine Qg λi _=>?_
  show(vs.map f).getD i (f d)=f (vs.getD i d)
  rw[Xe,Xe,Xq]
  cases vs[i]? <;>rfl
theorem Zuu{lt:Nat->Nat->Bool}{xs:List V}{us:List Xf}(h:Vals xs us):Vals (sLay .non lt xs) (sLay .none lt us):=by
 unfold sLay
 rw[h.length]
 split
 ·exact h
 ·generalize Zv4 lt _=l
  induction l with
  | nil=>exact .nil
  | cons i l ih=>
   refine .cons ?_ ih
   show RelV (xs.getD i V.non) (us.getD i QT)
   rw[Xe,Xe]
   cases e:xs[i]? with
   | some x=>
    obtain⟨u,e',r⟩:=h.get e
    rw[e'];exact r
   | none=>
    have:us[i]? =none:=Q6 (by rw[←h.length];exact Qz.mp e)
    rw[this];exact rfl
section
variable {prog:X6}{w:Qq}{A:Qo}{E:Xf->Xh->Prop}{s:Xh}
theorem Zra{κ:SortKind}{lt:Nat->Nat->Bool}{h0:Heap}{a:Addr}{vs:List Xf}{n:Nat}{P:PySem.Fin->Xh->Prop}(ho:s.heap.get? a=some (BJ "list" vs.toArray n))
  (k0:∀b o,h0.get? b=some o->s.heap.get? b=some o) (ha0:h0.get? a=none) (h64:vs.length<64)
  (hk:2≤vs.length->∀s':Xh,(∀b o,h0.get? b=some o->s'.heap.get? b=some o)->∀Q:SortKind->Xh->Prop,Q κ s'->XC (XX prog w) A (keyKind' vs.toArray) Q E s')
  (hc:2≤vs.length->∀s':Xh,(∀b o,h0.get? b=some o->s'.heap.get? b=some o)->∀i j C,i<vs.length->j<vs.length->C (lt i j) s'->kas_ask prog w A κ vs i j C s')
  (h:P (.done (.ret .none)) { s with heap:=sortedHeap s.heap a vs (V0 (sLay QT lt vs)) }):XC (XX prog w) A (Bo.«list.sort» ⟨[.ref a],[]⟩) P E s:=by
 have ha:a<s.heap.objs.size:=XH ho
 obtain⟨e1,ho1⟩:∃e1,(s.heap.update a (Bb λ_=>(#[]:Array Xf))).get? a=some (BJ "list" #[] e1):=⟨_,get?_update_seq ho λ_=>#[]⟩
 have ho6:(((s.heap.update a (Bb λ_=>(#[]:Array Xf))).push (BJ "tuple" vs.toArray 0)).push (BJ "list" #[] 0)).get? a=some (BJ "list" #[] e1):=Xg _ (Xg _ ho1)
 have k6:∀b o,h0.get? b=some o->(((s.heap.update a (Bb λ_=>(#[]:Array Xf))).push (BJ "tuple" vs.toArray 0)).push (BJ "list" #[] 0)).get? b=some o:=λb o e=>by
  refine Xg _ (Xg _ ?_)
  rw[Heap.get?_update_ne _ _ _ _ (λq=>by rw[q,ha0]at e;cases e)]
  exact k0 b o e
 rw[list_sort_plain]
 refine Xb (listItems_at ho rfl ?_)
 refine Xb (listUpdate_at ho rfl ?_ (by rw[Xz,Qa];omega) (Qt _))
 refine Xb (seqEpoch_at ho1 rfl ?_)
 refine Xb (wpAny_newTuple ?_ (by show vs.length≤_;rw[Qa];omega))
 refine Xb (wpAny_newList ?_ (Qt _))
 refine Bs ?_
 show XC (XX prog w) A _ P E { s with heap:=((s.heap.update a (Bb λ_=>(#[]:Array Xf))).push (BJ "tuple" vs.toArray 0)).push (BJ "list" #[] 0) }
 dsimp only
 have hs:vs.toArray.size=vs.length:=Xz ..
 by_cases h2:vs.toArray.size<2
 ·have el:sLay QT lt vs=vs:=if_pos (hs▸h2)
  rw[el]at h
  rw[if_pos h2,if_pos h2]
  refine Xb (Xl ?_)
  rw[StateT.run_pure]
  refine Xb (Xl ?_)
  dsimp only
  refine Xb (seqEpoch_at ho6 rfl ?_)
  have ez:((vs.toArray.zip vs.toArray).map (·.2))=vs.toArray:=by
   apply Array.toList_inj.mp
   rw[Array.toList_map,Array.toList_zip,List.map_snd_zip (XN _)]
  show XC _ _ (Builtin.List.listUpdate _ (λ_=>(vs.toArray.zip vs.toArray).map (·.2))>>=_) _ _ _
  rw[ez]
  refine Xb (listUpdate_at ho6 rfl ?_ (Qt _) (by rw[hs,Qa];omega))
  simp only[bne_self_eq_false,Qi,if_false]
  exact Xl h
 ·rw[if_neg h2,if_neg h2]
  have h2':2≤vs.length:=by omega
  have el:sLay QT lt vs=(Zv4 lt vs.length).map λi=>vs.getD i QT:=if_neg (by omega)
  rw[el]at h
  refine Xb (hk h2' _ k6 _ ?_)
  have est:SortSt.mk' κ (vs.toArray.zip vs.toArray) #[] 7 none=kas_st κ (pairsOf vs) (V0 (Xv vs.length)):=by
   have e:=kas_range (pairsOf vs)
   rw[pairsOf_size]at e
   show SortSt.mk' κ (pairsOf vs) #[] 7 none=SortSt.mk' κ ((V0 (Xv vs.length)).map (kas_item (pairsOf vs))) #[] 7 none
   rw[e]
  have run:=kas_runs (prog:=prog) (w:=w) (A:=A) (κ:=κ) (it:=pairsOf vs) (E:=E) (s:={ s with heap:=((s.heap.update a (Bb λ_=>(#[]:Array Xf))).push (BJ "tuple" vs.toArray 0)).push (BJ "list" #[] 0) })
   (Q:=λ_ st' s'=>arrOf st'=(kEv lt (kas_sort vs.length)).map (kas_item (pairsOf vs))∧failedOf st'=none∧s'={ s with heap:=((s.heap.update a (Bb λ_=>(#[]:Array Xf))).push (BJ "tuple" vs.toArray 0)).push (BJ "list" #[] 0) })
   (G:=λp s'=>p=kEv lt (kas_sort vs.length)∧s'={ s with heap:=((s.heap.update a (Bb λ_=>(#[]:Array Xf))).push (BJ "tuple" vs.toArray 0)).push (BJ "list" #[] 0) })
   h2' h64 (λp' st' s' _ a2 a3 a4=>⟨a4.1▸a2,a3,a4.2⟩) (by
    rw[←kas_ask_eq]
    exact(Zif (n:=vs.length) (by omega)).wp (hc h2' _ k6) ⟨rfl,rfl⟩)
  rw[←est]at run
  refine Xb (Vd run ?_ λ_ _ e=>e)
  intro r s' z
  obtain⟨har,hf,rfl⟩:=z
  have hout:(arrOf r.2).map (·.2)=V0 ((Zv4 lt vs.length).map λi=>vs.getD i QT):=by
   apply Array.toList_inj.mp
   rw[har,Array.map_map,Array.toList_map]
   exact Qg λi _=>by show(kas_item (pairsOf vs) i).2=_;rw[kas_item_eq]
  rw[hout]
  refine Xb (seqEpoch_at ho6 rfl ?_)
  refine Xb (listUpdate_at ho6 rfl ?_ (Qt _) (by rw[Xz,Xj,(Zfg (by omega)).length_eq,X8,Qa];omega))
  rw[hf]
  simp only[bne_self_eq_false,Qi,if_false]
  exact Xl h
theorem Z1b{κ:SortKind}{lt:Nat->Nat->Bool}{l:Addr}{vs:List Xf}{Q:Xf->Xh->Prop}(hl:s.heap.IsList l vs.toArray)(h64:vs.length<64)
  (hk:2≤vs.length->∀s':Xh,(∀b o,s.heap.get? b=some o->s'.heap.get? b=some o)->∀Q:SortKind->Xh->Prop,Q κ s'->XC (XX prog w) A.in1.in1 (keyKind' vs.toArray) Q E s')
  (hc:2≤vs.length->∀s':Xh,(∀b o,s.heap.get? b=some o->s'.heap.get? b=some o)->∀i j C,i<vs.length->j<vs.length->C (lt i j) s'->kas_ask prog w A.in1.in1 κ vs i j C s')
  (h:Q (.ref (s.heap.objs.size+1)) { s with heap:=sortedAll s.heap vs (V0 (sLay QT lt vs)) }):XC (XX prog w) A (call (.builtin "sorted") [.ref l]) Q E s:=by
 refine Calls.call_function_entry kind_sorted plain_sorted entry_sorted (args_sorted1 _) ?_
 unfold Bo.«sorted»
 refine Xb (m:=checkCount "sorted" 1 1 _) (Xl ?_)
 refine Xb (collect_list hl ?_ (by rw[Qa];omega))
 refine Xb (wpAny_newList ?_ (by rw[Qa];omega))
 have hsz:((s.heap.push (BJ "list" #[] 0)).update s.heap.objs.size (Bb (· ++ vs.toArray))).objs.size=s.heap.objs.size+1:=by
  rw[Heap.size_update,size_push']
 have hoL:(((s.heap.push (BJ "list" #[] 0)).update s.heap.objs.size (Bb (· ++ vs.toArray))).push (BJ "list" vs.toArray 0)).get? (s.heap.objs.size+1)=some (BJ "list" vs.toArray 0):=by
  rw[←hsz];exact Xx _ rfl
 have keep:∀b o,s.heap.get? b=some o->(((s.heap.push (BJ "list" #[] 0)).update s.heap.objs.size (Bb (· ++ vs.toArray))).push (BJ "list" vs.toArray 0)).get? b=some o:=λb o q=>by
  have hlt:b<s.heap.objs.size:=XH q
  rw[Heap.get?_push_ne _ _ _ (by rw[hsz];exact Xn (Bc hlt)),Heap.get?_update_ne _ _ _ _ (Xn hlt),Heap.get?_push_ne _ _ _ (Xn hlt)]
  exact q
 show XC _ _ _ _ _ { s with heap:=((s.heap.push (BJ "list" #[] 0)).update s.heap.objs.size (Bb (· ++ vs.toArray))).push (BJ "list" vs.toArray 0) }
 rw[hsz]
 refine Xb (Bs (Q8 slot_list_sort ⟨_,hoL,rfl⟩ entry_list_sort (Zra (h0:=s.heap) hoL keep (Heap.get?_none_of_le (Nat.le_succ _)) h64 hk hc ⟨_,rfl,?_⟩) (args_list_sort _)))
 exact Xl ⟨_,rfl,h⟩
end
end L2
namespace L2
open PySem PySem.Spec PyProof.Rows PySem.W
variable {G:Xc}
structure Ycf{α:Type}(kd:Xa->Option α)(lt:α->α->Bool):Prop where
 lay:∀d k,kd d=some k->d.canLay0=true
 run:∃κ:SortKind,(∀(prog:X6) (w:Qq) (A:Qo) (E:Xf->Xh->Prop) (s:Xh) (vs:List Xf) (ds:List Xa) (as:List Addr) (Q:SortKind->Xh->Prop),2≤vs.length->ReadsAll s.heap vs ds as->(∀d∈ds,∃k,kd d=some k)->Q κ s->XC (XX prog w) A (keyKind' vs.toArray) Q E s)∧
  ∀(prog:X6) (w:Qq) (A:Qo) (E:Xf->Xh->Prop) (s:Xh) (u v:Xf) (d e:Xa) (as bs:List Addr) (k m:α) (C:Bool->Xh->Prop),A.units+32<cLine->Reads s.heap u d as->Reads s.heap v e bs->kd d=some k->kd e=some m->C (lt k m) s->XC (XX prog w) A (keyLt' κ u v) C E s
theorem readsAll_ints{h:Heap}(ns:List Int){vs:List Xf}{as:List Addr}(r:ReadsAll h vs (ns.map Xk) as):JN vs ns:=by
 induction ns generalizing vs as with
 | nil=>cases r;exact .nil
 | cons n ns ih=>
  cases r with
  | cons r q=>
   cases r
   exact .cons _ _ (ih q)
theorem Jo{h:Heap}{ns:List Int}{u:Xf}{as:List Addr}(r:Reads h u (.list (ns.map Xk)) as):∃a items,u= .ref a∧h.IsList a items∧JN items.toList ns:=by
 cases r with
 | list e c d q=>exact⟨_,_,rfl,⟨_,e,c,_,d⟩,readsAll_ints ns q⟩
theorem Zf2{h:Heap}{ns:List Int}{u:Xf}{as:List Addr}(r:Reads h u (.tuple (ns.map Xk)) as):∃a items,u= .ref a∧h.IsTuple a items∧JN items.toList ns:=by
 cases r with
 | tuple e c d q=>exact⟨_,_,rfl,⟨_,e,c,_,d⟩,readsAll_ints ns q⟩
theorem readsAll_get{h:Heap}{vs:List Xf}{ds:List Xa}{as:List Addr}(r:ReadsAll h vs ds as):vs.length=ds.length∧∀(i:Nat) d,ds[i]? =some d->∃v bs,vs[i]? =some v∧Reads h v d bs:=by
 induction ds generalizing vs as with
 | nil=>cases r;exact⟨rfl,λi d e=>by rw[List.getElem?_nil]at e;cases e⟩
 | cons d ds ih=>
  cases r with
  | cons r q=>
   obtain⟨z1,z2⟩:=ih q
   refine⟨congrArg Nat.succ z1,λi e he=>?_⟩
   cases i with
   | zero=>cases he;exact⟨_,_,rfl,r⟩
   | succ i=>exact z2 i e he
theorem lay_ints(ns:List Int):Sh 1 (.list (ns.map Xk)):=Zos λd m=>by
 obtain⟨x,_,rfl⟩:=Qe.mp m
 exact Ztz x
theorem Zca(ns:List Int):Sh 1 (.tuple (ns.map Xk)):=Zzc λd m=>by
 obtain⟨x,_,rfl⟩:=Qe.mp m
 exact Ztz x
theorem Zq3{M:Model}{h:Heap}{a:Addr}{items:Array Xf}(e:h.IsList a items):Looks M h (typeOf (.ref a)) (.type "list"):=by
 obtain⟨o,e,c,_⟩:=e
 have:Looks M h (typeOf (.ref a)) o.cls:=(Looks.ld e).andThen .now
 rwa[c]at this
noncomputable def kdT:Xa->Option (List Int×List Int):=λd=>match d with| .tuple [.list es,.tuple fs]=>(Zbj es).bind λns=>(Zbj fs).bind λms=>some (ns,ms)|_=>none
noncomputable def ltT:List Int×List Int->List Int×List Int->Bool:=λa b=>if a.1=b.1 then(if a.2=b.2 then false else ltI a.2 b.2)else ltI a.1 b.1
theorem Zg7{d:Xa}{k:List Int×List Int}(h:kdT d=some k):d= .tuple [.list (k.1.map Xk),.tuple (k.2.map Xk)]:=by
 unfold kdT at h
 split at h
 case h_2=>cases h
 obtain⟨ns,h1,h⟩:=bs h
 obtain⟨ms,h2,h⟩:=bs h
 cases h
 rw[Jq h1,Jq h2]
theorem Zn4{h:Heap}{k:List Int×List Int}{u:Xf}{as:List Addr}(r:Reads h u (.tuple [.list (k.1.map Xk),.tuple (k.2.map Xk)]) as):∃t o n a b,u= .ref t∧h.get? t=some o∧o.cls= .type "tuple"∧o.data= .seq #[.ref a,.ref b] n∧(∃bs,Reads h (.ref a) (.list (k.1.map Xk)) bs)∧∃bs,Reads h (.ref b) (.tuple (k.2.map Xk)) bs:=by
 cases r with
 | @tuple t o vs n xs as e c d q=>
  obtain⟨l,hl⟩:∃l,l=vs.toList:=⟨_,rfl⟩
  rw[←hl]at q
  cases q with
  | cons r1 q=>
   cases q with
   | cons r2 q=>
    cases q
    obtain⟨a,_,rfl,_⟩:=Jo r1
    obtain⟨b,_,rfl,_⟩:=Zf2 r2
    have:vs=#[.ref a,.ref b]:=Array.toList_inj.mp hl.symm
    subst this
    exact⟨t,o,n,a,b,rfl,e,c,d,⟨_,r1⟩,_,r2⟩
theorem Zim(a b:List Int):Qs (.list (a.map Xk)) (.list (b.map Xk))=decide (a=b):=by
 have p:∀l:List Int,Wh (.list (l.map Xk))=true:=λl=>by rw[Wh];induction l with|nil=>rfl|cons x l ih=>exact ih
 have inj:∀{l m:List Int},Qy (l.map Xk)= .list (m.map Xk)->l=m:=λh=>by
  injection h with h
  exact(List.map_inj_right λx y z=>by injection z).mp h
 by_cases c:a=b
 ·rw[Zu8 (p a) (p b) (by rw[c]),decide_eq_true c]
 ·rw[Zsy (p a) (p b) λz=>c (inj z),decide_eq_false c]
theorem Zry(a b:List Int):Qs (.tuple (a.map Xk)) (.tuple (b.map Xk))=decide (a=b):=by
 have e:∀xs ys:List Xa,Qs (.tuple xs) (.tuple ys)=Qs (.list xs) (.list ys):=λxs ys=>by
  rw[Qs,Qs]
 rw[e,Zim]
theorem Z8i:Ycf kdT ltT:=by
 refine⟨λd k h=>?_,tuples' true,λprog w A E s vs ds as Q h2 r hk q=>?_,λprog w A E s u v d e as bs k m C hu r1 r2 h1 h2 h=>?_⟩
 ·rw[Zg7 h]
  exact(Zzc (n:=1) λd m=>by
   rcases Xr.mp m with rfl|m
   ·exact lay_ints _
   ·rw[Xu.mp m];exact Zca _).1
 ·have key:∃fs:List Xf,KatTups s.heap vs fs∧fs.length=vs.length∧∀v∈fs,∃a items,v= .ref a∧s.heap.IsList a items:=by
   clear h2 q
   induction ds generalizing vs as with
   | nil=>cases r;exact⟨[],trivial,rfl,λ_ m=>nomatch m⟩
   | cons d ds ih=>
    cases r with
    | cons r q=>
     obtain⟨fs,t,l,z⟩:=ih _ _ q λd m=>hk d (.tail _ m)
     obtain⟨k,hk⟩:=hk d (.head _)
     rw[Zg7 hk]at r
     obtain⟨t',o,n,a,b,rfl,e,c,hd,⟨_,x1⟩,_⟩:=Zn4 r
     obtain⟨a',items,ea,ex,_⟩:=Jo x1
     cases ea
     refine⟨.ref a :: fs,KatTups.cons e c hd rfl t,congrArg Nat.succ l,λv hv=>?_⟩
     rcases Xr.mp hv with rfl|hv
     ·exact⟨a,items,rfl,ex⟩
     ·exact z v hv
  obtain⟨fs,t,l,z⟩:=key
  exact kat_kind (T:=.type "list") t (by omega) (λv hv=>by obtain⟨a,items,rfl,e⟩:=z v hv;exact Zq3 e) rfl q
 ·rw[Zg7 h1]at r1
  rw[Zg7 h2]at r2
  obtain⟨t1,o1,n1,a1,b1,rfl,g1,c1,d1,⟨_,x1⟩,_,y1⟩:=Zn4 r1
  obtain⟨t2,o2,n2,a2,b2,rfl,g2,c2,d2,⟨_,x2⟩,_,y2⟩:=Zn4 r2
  refine kat_lt g1 d1 g2 d2 (kat_cons ?_)
  refine SeqAt.eqAt_reads _ _ A s _ _ _ _ x1 x2 (lay_ints _).1 (lay_ints _).1 (by have:=(lay_ints k.1).2;omega) prog w _ _ ?_
  rw[Zim]
  unfold ltT at h
  obtain⟨p1,i1,e1,l1,z1⟩:=Jo x1
  obtain⟨p2,i2,e2,l2,z2⟩:=Jo x2
  cases e1;cases e2
  by_cases c:k.1=m.1
  ·rw[if_pos c]at h
   rw[decide_eq_true c]
   refine kat_yes (kat_cons ?_)
   refine SeqAt.eqAt_reads _ _ A s _ _ _ _ y1 y2 (Zca _).1 (Zca _).1 (by have:=(Zca k.2).2;omega) prog w _ _ ?_
   rw[Zry]
   obtain⟨p1,i1,e1,l1,z1⟩:=Zf2 y1
   obtain⟨p2,i2,e2,l2,z2⟩:=Zf2 y2
   cases e1;cases e2
   by_cases c':k.2=m.2
   ·rw[if_pos c']at h
    rw[decide_eq_true c']
    exact kat_yes (kat_nil h)
   ·rw[if_neg c']at h
    rw[decide_eq_false c']
    exact kat_no (Zrv (by omega) l1 l2 z1 z2 h)
  ·rw[if_neg c]at h
   rw[decide_eq_false c]
   exact kat_no (Zrf (by omega) l1 l2 z1 z2 h)
end L2
namespace L2
open PySem PySem.Spec PyProof.Rows PySem.W
variable {G:Xc}
noncomputable def lk{α:Type}(kd:Xa->Option α)(lt:α->α->Bool)(es:List Xa):Nat->Nat->Bool:=λi j=>((kd (es.getD i .none)).bind λa=>(kd (es.getD j .none)).map λb=>lt a b).getD false
noncomputable def keyed{α:Type}(kd:Xa->Option α)(es:List Xa):Prop:=∀d∈es,∃k,kd d=some k
theorem Zq1{es:List Xa}(h:∀d∈es,d.canLay0=true):JV es=true:=by
 induction es with
 | nil=>rw[JV]
 | cons d es ih=>rw[JV,h d (.head _),ih λd m=>h d (.tail _ m)];rfl
theorem Das.sLay{H:Hp}{L:Addr->Prop}{lt:Nat->Nat->Bool}{xs:List V}{ds:List Xa}(h:Das G H L xs ds):Das G H L (L2.sLay .non lt xs) (L2.sLay .none lt ds):=by
 unfold L2.sLay
 rw[h.length]
 split
 ·exact h
 ·generalize Zv4 lt _=l
  induction l with
  | nil=>exact .nil
  | cons i l ih=>
   refine .cons ?_ ih
   show Da G H L (xs.getD i .non) (ds.getD i .none)
   rw[Xe,Xe]
   cases e:xs[i]? with
   | some x=>
    obtain⟨u,e',r⟩:=h.get' e
    rw[e'];exact r
   | none=>
    have:ds[i]? =none:=Q6 (by rw[←h.length];exact Qz.mp e)
    rw[this];exact .non
noncomputable def Zzr{α:Type}(kd:Xa->Option α)(lt:α->α->Bool)(K:Xc):List V->Hp->VK->Prop:=λxs H Q=>∃(a:Addr) (vs:List V) (L:Addr->Prop) (es:List Xa),xs=[.ref a]∧SqL K H a vs∧Das K H L vs es∧vs.length<64∧keyed kd es∧∀l,H l=none->Q (.ref l) (upd H l (.lst (sLay .non (lk kd lt es) vs)))
section
variable {X:Cx}{α:Type}{kd:Xa->Option α}{lt:α->α->Bool}
theorem Zqq{K:Xc}(S:Ycf kd lt)(hK:X.K=K)(hu:X.A.units+64<cLine):Zdt X (.builtin "sorted") (Zzr kd lt K):=by
 subst hK
 intro pins s σ H xs us Q I r h
 obtain⟨l,vs,L,es,rfl,hs,hd,h64,hk,q⟩:=h
 obtain⟨u,rfl,ru⟩:=vals1 r
 cases(show u=Qn l from ru)
 obtain⟨its,rv,pl,hz⟩:=I.list hs
 have hl:=rv.length
 obtain⟨as,ra⟩:=hd.reads rfl I rv (Zq1 λd m=>by obtain⟨k,e⟩:=hk d m;exact S.lay d k e)
 obtain⟨κ,S1,S2⟩:=S.run
 obtain⟨z1,z2⟩:=readsAll_get ra
 refine Z1b (κ:=κ) (lt:=lk kd lt es) pl.isList (by omega) (λh2 s' k Q q=>S1 _ _ _ _ s' _ es as Q h2 (ReadsAll.keeps k ra) hk q) (λh2 s' k i j C hi hj hc=>?_) ?_
 ·rw[z1]at hi hj
  obtain⟨v,b1,e1,r1⟩:=z2 i _ (Xi hi)
  obtain⟨w,b2,e2,r2⟩:=z2 j _ (Xi hj)
  obtain⟨k1,q1⟩:=hk _ (JH hi)
  obtain⟨k2,q2⟩:=hk _ (JH hj)
  have ek:lk kd lt es i j=lt k1 k2:=by
   unfold lk
   rw[Xe,Xe,Xi hi,Xi hj]
   show((kd es[i]).bind λa=>(kd es[j]).map λb=>lt a b).getD false=_
   rw[q1,q2];rfl
  rw[ek]at hc
  unfold kas_ask
  rw[Xe,Xe,e1,e2]
  exact S2 _ _ _ _ s' v w _ _ _ _ k1 k2 C (show X.A.units+1+1+32<cLine by omega) (Reads.keeps k r1) (Reads.keeps k r2) q1 q2 hc
 ·obtain⟨e,he⟩:=sortedAll_at s.heap its (V0 (sLay QT (lk kd lt es) its))
  refine⟨.ref (s.heap.objs.size+1),_,I.laid (t':=s.toks) (o:=.lst (sLay .non (lk kd lt es) vs)) (λb ob q=>sortedAll_old q) (by omega) ⟨?_,sLay QT (lk kd lt es) its,e,Zuu rv,he⟩,rfl,q _ (I.hok.fresh (by omega))⟩
  rw[(Zmy _ _ _).length_eq,Qa];omega
noncomputable def Zy2(kd:Xa->Option α)(lt:α->α->Bool):List Xa->(OT->Prop)->Prop:=λds k=>n1 (λd=>∃es:List Xa,d= .list es∧es.length<64∧keyed kd es∧k (.nd ((sLay .none (lk kd lt es) es).map OT.fz))) ds
theorem Zwz:PN G (Zzr kd lt G) (Zy2 kd lt):=λH L xs ds k Q hx h kk=>by
 obtain⟨v,d,rfl,rfl,q,es,e,h64,hk,h⟩:=hx.one h
 have fin:∀(vs:List V) (p:Addr),Das G H L vs es->H p=none->Q (.ref p) (upd H p (.lst (sLay .non (lk kd lt es) vs))):=λvs p hv hp=>kk _ _ _ [p] (Yo hp _) (Own.list hp hv.sLay) (Zgp p) (Zc7 hp) h
 subst e
 generalize ed:Qy es=d at q
 cases q with
 | lst l e r=>
  cases ed
  exact⟨_,_,L,es,rfl,.inl e,r,by rw[r.length];exact h64,hk,λp hp=>fin _ p r hp⟩
 | scr ks=>
  cases ed
  exact⟨_,_,L,_,rfl,ks.sq,Das.ints _,by rw[(Das.ints (G:=G) (H:=H) (L:=L) _).length];exact h64,hk,λp hp=>fin _ p (Das.ints _) hp⟩
 | _=>cases ed
noncomputable def Zqd(kd:Xa->Option α)(lt:α->α->Bool):List Xa->Option OT:=λds=>match ds with|[.list es]=>if(decide (es.length<64)&&es.all λd=>(kd d).isSome)=true then some (.nd ((sLay .none (lk kd lt es) es).map OT.fz))else none|_=>none
theorem Z0e:∀ds r k,Zqd kd lt ds=some r->k r->Zy2 kd lt ds k:=λds r k h hk=>by
 unfold Zqd at h
 split at h
 case h_2=>cases h
 split at h
 case isFalse=>cases h
 rename_i h2
 rw[XD]at h2
 cases h
 exact⟨_,rfl,of_decide_eq_true h2.1,λd m=>Option.isSome_iff_exists.mp (Uv.mp h2.2 d m),hk⟩
end
end L2
namespace L2
open PySem PySem.Spec PyProof.Rows
section
variable {X:Cx}{io:List Nat}{p p' c c' q r:Bool}{a b e:Expr}{fa fb:FE}{es:List Expr}{ra:FA}{st:Stmt}{sts ss ss':List Stmt}{f g:FS}{ta:FT}
theorem xv(i:Nat){x:Str}{pos:Pos}(hN:X.N[i]? =some x:=by rfl)(hv:Vis X.env.scope x:=by first|exact QB rfl|exact Qw (QB rfl)|exact Qw (Qw rfl))(hd:(x==("__debug__" : Str))=false:=by decide)(he:(x==("__classdict__" : Str))=false:=by decide):ME X io true true (.Name x pos) (o2 (Zd i)):=W9 (mv i hN hv hd he)
theorem xo(i:Nat){x:Str}{pos:Pos}(hN:X.N[i]? =some x:=by rfl)(hv:Vis X.env.scope x:=by first|exact QB rfl|exact Qw (QB rfl)|exact Qw (Qw rfl))(hd:(x==("__debug__" : Str))=false:=by decide)(he:(x==("__classdict__" : Str))=false:=by decide):ME X io true false (.Name x pos) (o2 (Zj0 i)):=Z6w (mo i hN hv hd he)
theorem xci{i:Int}{j:Nat}{pos:Pos}:ME X io true true (.Constant (.int i) j pos) (o2 (fC (.int i))):=Zc6 Zjy
theorem xix{pos:Pos}(ha:ME X io p c a (o2 fa))(hb:ME X io p' c' b (o2 fb))(hc:p'=true∨c=true:=by first|exact QB rfl|exact Qw rfl)(hs:Zhz b:=by exact λ_ _=>rfl)(h2:(p&&p')=q:=by rfl)(h3:(c&&c')=r:=by rfl):ME X io q r (.Subscript a b pos) (o2 (Z6 gIx fa fb)):=h2▸h3▸Zef Yag (Yax (Zkw rfl) Z31 ha hb hc (hs:=hs))
theorem xa0:MA X io true true [] (o2 Zm):=Zep Zej
theorem xa1[NoStar e](ha:ME X io p c e (o2 fa))(h2:(p&&true)=q:=by rfl)(h3:(c&&true)=r:=by rfl):MA X io q r [e] (o2 (Zc fa Zm)):=Ze ha xa0 (.inl rfl) h2 h3
theorem xsq(h:MS X io st (oS f))(k:MSs X io sts (oS g)):MSs X io (st :: sts) (oS (Zz f g)):=Zmw (Zft h k)
theorem xst{pos px:Pos}(i:Nat){x:Str}(hN:X.N.Nodup)(he:ME X io p true e (o2 fa))(hi:X.N[i]? =some x:=by rfl)(hx:Loc X.env.scope x:=by first|exact QB rfl|exact Qw rfl)(hio:i∉io:=by decide)(hs:VL e (some (.Name x px)) pos.line X.env=pure false:=by rfl)(hf:X.fn x=true∨X.env.scope.names.lookup x=some .local:=by first|exact .inl rfl|exact .inr rfl|assumption):MS X io (.Assign [.Name x px] e pos) (oS (wE fa (Yt i))):=Zvv (Zvc hN hi hx he hio hs hf)
theorem xrt{pos:Pos}(h:ME X io p true e (o2 fa)):MS X io (.Return (some e) pos) (oS (wE fa Ji)):=Zpv (Zpy h)
theorem xg{pos:Pos}(i:Nat){x:Str}(hN:X.N.Nodup)(hi:X.N[i]? =some x:=by rfl)(hx:Loc X.env.scope x:=by first|exact QB rfl|exact Qw rfl)(hio:i∉io:=by decide)(hf:X.fn x=true∨X.env.scope.names.lookup x=some .local:=by first|exact .inl rfl|exact .inr rfl|assumption):MG X io true (.Name x pos) (oG (gNm i)):=Zto (Zsx hN hi hx hio hf)
theorem xif{pos:Pos}(h:MT X io p e (o2 ta))(k:MSs X io ss (oS f))(l:MSs X io ss' (oS g)):MS X io (.If e ss ss' pos) (oS (Wz ta f g)):=Zxi (Zwt h k l)
theorem xnl:MSs X io [] (oS fNx):=Zk5 Zlq
theorem xtp{pos:Pos}{n:Nat}(h:MA X io p c es (o2 ra)):ME X io p c (.Tuple es n pos) (o2 (Zlu ra)):=Z8w (Z94 h)
theorem xls{pos:Pos}(h:MA X io p c es (o2 ra)):ME X io p c (.List es pos) (o2 (Zch ra)):=Zuo (Z28 h)
theorem xil{tg:Expr}(h:ME X io p c e (o2 fa)):MI X io p c tg e (o2 (Zjx fa)):=Z1t (Z0s h)
theorem xno{pos:Pos}(h:MT X io p e (o2 ta)):MT X io p (.UnaryOp .Not e pos) (o2 (tNo ta)):=Z7b (Z6f h)
theorem Zeb{pos:Pos}(ha:ME X io p c a (o2 fa))(hb:ME X io p' c' b (o2 fb))(hc:p'=true∨c=true:=by first|exact QB rfl|exact Qw rfl)(h2:(p&&p')=q:=by rfl):ME X io q true (.BinOp a .Add b pos) (o2 (Zf J0 fa fb)):=h2▸W0 Z97 (Zl9 Z4g Zka ha hb hc)
theorem Zxv{pos:Pos}(ha:ME X io p c a (o2 fa))(hb:ME X io p' c' b (o2 fb))(hc:p'=true∨c=true:=by first|exact QB rfl|exact Qw rfl)(h2:(p&&p')=q:=by rfl):ME X io q true (.BinOp a .Sub b pos) (o2 (Zf gSb fa fb)):=h2▸W0 Z1r (Zl9 Zv0 Zka ha hb hc)
theorem Zjw{pos:Pos}(ha:ME X io p c a (o2 fa))(hb:ME X io p' c' b (o2 fb))(hc:p'=true∨c=true:=by first|exact QB rfl|exact Qw rfl)(h2:(p&&p')=q:=by rfl):ME X io q true (.BinOp a .Mult b pos) (o2 (Zf Zc4 fa fb)):=h2▸W0 Yb5 (Zl9 Z1j Z6y ha hb hc)
theorem Zfh{pos:Pos}(ha:ME X io p c a (o2 fa))(hb:ME X io p' c' b (o2 fb))(hc:p'=true∨c=true:=by first|exact QB rfl|exact Qw rfl)(h2:(p&&p')=q:=by rfl):ME X io q true (.BinOp a .Mod b pos) (o2 (Zf Zay fa fb)):=h2▸W0 Yam (Zl9 Z3s Z8n ha hb hc)
theorem Zlv{pos:Pos}(ha:ME X io p c a (o2 fa))(hb:ME X io p' c' b (o2 fb))(hc:p'=true∨c=true:=by first|exact QB rfl|exact Qw rfl)(h2:(p&&p')=q:=by rfl):ME X io q true (.BinOp a .FloorDiv b pos) (o2 (Zf Je fa fb)):=h2▸W0 Z4q (Zl9 Zyi Z6l ha hb hc)
theorem Z39{pos:Pos}(ha:ME X io p c a (o2 fa))(hb:ME X io p' c' b (o2 fb))(hc:p'=true∨c=true:=by first|exact QB rfl|exact Qw rfl)(h2:(p&&p')=q:=by rfl):ME X io q true (.BinOp a .Pow b pos) (o2 (Zf Zo7 fa fb)):=h2▸W0 Yat (Zl9 Z0n Z4e ha hb hc)
theorem xeq{pos:Pos}(hu:X.A.units+64<cLine)(ha:ME X io p c a (o2 fa))(hb:ME X io p' c' b (o2 fb))(hc:p'=true∨c=true:=by first|exact QB rfl|exact Qw rfl)(h2:(p&&p')=q:=by rfl):MT X io q (.Compare a [.Eq] [b] pos) (o2 (tV (Zf gEq fa fb))):=h2▸Zbn Z7f (Zbp (Zne hu) Zum ha hb hc (hm:=Zai _))
theorem xne{pos:Pos}(hu:X.A.units+64<cLine)(ha:ME X io p c a (o2 fa))(hb:ME X io p' c' b (o2 fb))(hc:p'=true∨c=true:=by first|exact QB rfl|exact Qw rfl)(h2:(p&&p')=q:=by rfl):MT X io q (.Compare a [.NotEq] [b] pos) (o2 (tV (Zf gNe fa fb))):=h2▸Zbn Yfj (Zbp (Z53 hu) Ybp ha hb hc (hm:=Zai _))
theorem xlt{pos:Pos}(ha:ME X io p c a (o2 fa))(hb:ME X io p' c' b (o2 fb))(hc:p'=true∨c=true:=by first|exact QB rfl|exact Qw rfl)(h2:(p&&p')=q:=by rfl):MT X io q (.Compare a [.Lt] [b] pos) (o2 (tV (Zf gLt fa fb))):=h2▸Zbn Z87 (Zbp Zqj Zjv ha hb hc (hm:=Zai _))
theorem xgt{pos:Pos}(ha:ME X io p c a (o2 fa))(hb:ME X io p' c' b (o2 fb))(hc:p'=true∨c=true:=by first|exact QB rfl|exact Qw rfl)(h2:(p&&p')=q:=by rfl):MT X io q (.Compare a [.Gt] [b] pos) (o2 (tV (Zf gGt fa fb))):=h2▸Zbn Yez (Zbp Ya5 Zjv ha hb hc (hm:=Zai _))
theorem xge{pos:Pos}(ha:ME X io p c a (o2 fa))(hb:ME X io p' c' b (o2 fb))(hc:p'=true∨c=true:=by first|exact QB rfl|exact Qw rfl)(h2:(p&&p')=q:=by rfl):MT X io q (.Compare a [.GtE] [b] pos) (o2 (tV (Zf gGe fa fb))):=h2▸Zbn Yfs (Zbp Z90 Zjv ha hb hc (hm:=Zai _))
theorem xfr{pos:Pos}{tg:Expr}{it:FI}{gg:FG}(hp:PassesOwn (XX X.prog X.w) X.A X.env X.xe)(hc:X.calm=true)(hi:MI X io p true tg e (o2 it))(hg:MG X io true tg (oG gg))(hb:MSs X io ss (oS f))(hs:∀x,Bf e X.env x=pure x:=by intro _;rfl):MS X io (.For tg e ss [] pos) (oS (Zb0 it gg f)):=Zzj (Zyr hp hc hi hg hb hs)
theorem xg2{pos:Pos}{n:Nat}{g1 g2:FG}(hc:X.calm=true)(ha:MG X io true a (oG g1))(hb:MG X io true b (oG g2))(h1:List.map (λx=>x.snd) (JQ [a,b] X.env)=U3 a X.env :: List.map (λx=>x.snd) (JQ [b] X.env):=by rfl)(h2:List.map (λx=>x.snd) (JQ [b] X.env)=U3 b X.env :: List.map (λx=>x.snd) (JQ [] X.env):=by rfl)(h3:(JQ [a,b] X.env).length=2:=by rfl)(h4:List.findIdx? (λx=>x.fst) (JQ [a,b] X.env)=none:=by rfl):MG X io true (.Tuple [a,b] n pos) (oG (gTp 2 (gCn g1 (gCn g2 gNl)))):=Z69 (Z71 (n:=2) hc (Zpm (Zp1 ha (Zpm (Zp1 hb (Z0l Z1x) h2)) h1)) h3 h4)
theorem xso{pos px:Pos}(i:Nat){x:Str}(hN:X.N.Nodup)(he:ME X io p true e (o2 fa))(hi:X.N[i]? =some x:=by rfl)(hx:Loc X.env.scope x:=by first|exact QB rfl|exact Qw rfl)(hio:i∉io:=by decide)(hs:VL e (some (.Name x px)) pos.line X.env=pure false:=by rfl)(hf:X.fn x=true∨X.env.scope.names.lookup x=some .local:=by first|exact .inl rfl|exact .inr rfl|assumption):MS X io (.Assign [.Name x px] e pos) (oS (wE fa (Zap i))):=Z22 (Z2v hN hi hx he hio hs hf)
theorem xcl{pos pp:Pos}{k:Nat}{f:Addr}{fd:XQ}{ps:List Str}{x:Str}{F:FD}(G:FnOk X.prog X.w X.K X.mg X.base CX0 k f fd ps (spD X.K (sD F)))(hr:Room k X.A)(hm:X.mg x=some (.ref f))(hk:Vz X.K (.ref f)=true)(hb:Binds X.K fd ps [])(ha:MA X io p c (e :: es) (o2 ra))(hg:Gl X x:=by rfl)(h1:(x==("__debug__" : Str))=false:=by decide)(h2:Xo (e :: es) X.env=(false,eval e X.env) :: Xo es X.env:=by rfl)(h3:((JF pos (Xo es X.env)).any λx=>x.fst)=false:=by rfl):ME X io p c (.Call (.Name x pp) (e :: es) [] pos) (o2 (Zr F ra)):=Zkk (Zqa G hr hg hm hk hb Zxo ha h1 h2 h3)
theorem xln{pos pp:Pos}(hm:X.mg "len"=none)(ha:MA X io p c [e] (o2 ra))(hg:Gl X "len" :=by rfl)(h2:Xo [e] X.env=(false,eval e X.env) :: Xo [] X.env:=by rfl):ME X io p true (.Call (.Name "len" pp) [e] [] pos) (o2 (J2 J6 ra)):=Zer Zyl (Zi9 Zp2 (Zfs rfl) hg hm L2.B.boot_len ha (by decide) (by decide) h2 (by rfl))
end
noncomputable def tbl(P:List Nat)(led:Bool):QZ:={ mask:=7,place:=P.toArray,dummies:=#[],finger:=0,led,moves:=0,plain:=true }
noncomputable def hT(k:List Int):Int:=reduceHash (Builtin.Tuple.tupleHashOf (k.map hashInt))
noncomputable def hAt(ks:List (List Int))(i:Nat):Int:=(ks[i]?.map hT).getD 0
noncomputable def Yaj(P:List Nat)(j:Nat):List Nat:=((tbl P false).put j).1.place.toList
noncomputable def Ydw(P:List Nat)(j:Nat):Nat:=((tbl P false).put j).2
noncomputable def Ye4(ks:List (List Int))(p:Nat)(k:List Int):List (List Int):=ks.take p ++ k :: ks.drop p
noncomputable def Yf5(P:List Nat)(ks:List (List Int))(k:List Int):Option (List Nat×List (List Int)) :=
 match(tbl P false).probe (hAt ks) (hT k) ((tbl P false).probeStart (hT k))with
 | some (.empty j none)=>if(tbl (Yaj P j) false).tooFull=false∧(Yaj P j).length=ks.length+1∧ks.length≤6∧Ydw P j≤ks.length then some (Yaj P j,Ye4 ks (Ydw P j) k)else none
 | some (.candidate _ i _)=>if ks[i]? =some k then some (P,ks)else none
 | _=>none
noncomputable def grow(K:List (List Int)):Nat->List (List Nat×List (List Int))->List (List Nat×List (List Int))
 | 0,S=>S
 | n+1,S=>grow K n (S ++ (S.flatMap λs=>K.filterMap λk=>Yf5 s.1 s.2 k).filter λs=>!S.contains s)
noncomputable def K2:List (List Int):=[[0,0],[0,1],[1,0],[1,1]]
noncomputable def S2:List (List Nat×List (List Int)):=(grow K2 4 [([],[])]).eraseDups
section
variable {prog:X6}{w:Qq}{A:Qo}{E:Xf->Xh->Prop}{s:Xh}
inductive KeysIn(U:Addr->List Int->Prop):List (List Int)->List (Int×Xf)->Prop
 | nil:KeysIn U [] []
 | cons {k:List Int} {a:Addr} {ks:List (List Int)} {l:List (Int×Xf)} (h:U a k) (t:KeysIn U ks l):KeysIn U (k :: ks) ((hT k,.ref a) :: l)
noncomputable def Ts(U:Addr->List Int->Prop)(h:Heap)(S:Addr)(P:List Nat)(ks:List (List Int)):Prop :=
 ∃o es ep led,h.get? S=some o∧o.ExactSet∧o.data= .set es ep (tbl P led)∧P.length=es.size∧es.size≤7∧KeysIn U ks es.toList
noncomputable abbrev IK(prog:X6)(w:Qq)(h:Heap)(k:List Int)(a:Addr):Prop:=IsTupleKey (Vy prog w) h k a
theorem items_int{ks:List Int}{vs:List Xf}(h:ItemsAre (Vy prog w) ks vs):∀v∈vs,∃i t,v= .int i t:=by
 induction h with
 | nil=>exact λ_ m=>nomatch m
 | cons h _ ih=>
  intro v hv
  rcases Xr.mp hv with rfl|hv
  ·obtain⟨t,e⟩:=Value.isInt_shape h
   exact⟨_,t,e⟩
  ·exact ih v hv
end
section
variable {prog:X6}{w:Qq}{A:Qo}{R:Result->Xh->Prop}{I:Addr}{fp wr:List Addr}{n:Nat}{Pv:Nat->Xf->Prop}{St:Nat->Heap->Prop}
end
inductive Ybe(H:Hp):List V->List (List Int)->Prop
 | nil:Ybe H [] []
 | cons {a:Addr} {k:List Int} {xs:List V} {ks:List (List Int)} (h:H a=some (.tup (k.map V.int))) (t:Ybe H xs ks):Ybe H (.ref a :: xs) (k :: ks)
section
variable {X:Cx}{p c:Bool}{io:List Nat}{a e:Expr}{pos pos' pl pr:Pos}{t:TA}{mr:MAt}{ra:FA}
end
section
variable {G:Xc}{io:List Nat}{p pt pe:Bool}{own:List Str}{caps:List Nat}{g:MGt}{mt:MTt}{me:MEt}{i:Nat}
noncomputable def Zl0:List OT->Bool
 | []=>true
 | .fz _ :: r=>Zl0 r
 | _ :: _=>false
theorem Owns.fz_das{H:Hp}{L:Addr->Prop}:∀{ts:List OT} {xs:List V} {bs:List Addr},Owns G H L xs ts bs->Zl0 ts=true->Das G H L xs (OT.datas ts):=fun{ts}=>by
 induction ts with
 | nil=>
  intro xs bs h _
  cases h
  rw[Zcc];exact .nil
 | cons t ts ih=>
  intro xs bs h a
  cases t with
  | fz d=>
   cases h with
   | cons h r=>
    cases h with
    | fz q=>
     rw[Zaz,OT.data_fz]
     exact .cons q (ih r a)
  | nd _=>cases a
  | tp _=>cases a
  | dc _ _ _=>cases a
end
section
variable {X:Cx}{io:List Nat}{p pt pe:Bool}{own:List Str}{caps:List Nat}{N':List Str}{sc:Uo}{i:Nat}{x:Str}{px:Pos}{tg elt:Expr}{ifs:List Expr}{g:MGt}{mt:MTt}{me:MEt}{pos:Pos}
noncomputable def Z4b(o:Option (Option OT)):Option (List OT):=match o with|some (some (.nd ts))=>if Zl0 ts=true then some ts else none|_=>none
theorem Zsm{o:Option (Option OT)}{ts:List OT}(h:Z4b o=some ts):o=some (some (.nd ts))∧Zl0 ts=true:=by
 unfold Z4b at h
 split at h
 ·split at h
  ·cases h;exact⟨rfl,‹_›⟩
  ·cases h
 ·cases h
end
section
variable {X:Cx}{G:Xc}
noncomputable def Z2o(d:Xa)(ds:List Xa):Bool:=ds.any λy=>Qs y d
noncomputable def Ydc(neg:Bool)(K:Xc):R2:=λx y H Q=>∃(L L':Addr->Prop) (d e:Xa) (ds:List Xa),Da K H L x d∧Da K H L' y e∧Zo8 e=some ds∧d.canLay0=true∧e.canLay0=true∧d.depth≤32∧Q (.bl (if neg then !Z2o d ds else Z2o d ds)) H
theorem Z3u{A:Qo}{d:Xa}{ds:List Xa}(hd:d.depth≤32)(hu:A.units+64<cLine):A.units+1+min (UG ds) d.depth<cLine:=by
 have:=Nat.min_le_right (UG ds) d.depth
 omega
theorem Zve(hu:X.A.units+64<cLine):OpR X (QX .NotIn) (Ydc true X.K):=by
 intro pins s σ H x y v u Q I rx ry h
 obtain⟨L,L',d,e,ds,h1,h2,h3,s1,s2,hd,q⟩:=h
 obtain⟨as,k1⟩:=h1.reads rfl I rx s1
 obtain⟨bs,k2⟩:=h2.reads rfl I ry s2
 cases e<;>cases h3
 ·exact SeqAt.notIn_list_reads k2 k1 s2 s1 (Z3u hd hu) ⟨.bl _,H,I,rfl,q⟩
 ·exact SeqAt.notIn_tuple_reads k2 k1 s2 s1 (Z3u hd hu) ⟨.bl _,H,I,rfl,q⟩
noncomputable def Zup(neg:Bool):Xa->Xa->Option Xa:=λd e=>match Zo8 e with
 | some ds=>if(d.canLay0&&(e.canLay0&&decide (d.depth≤32)))=true then some (.bool (if neg then !Z2o d ds else Z2o d ds))else none
 | none=>none
noncomputable def Yce(neg:Bool):Xa->Xa->(Xa->Prop)->Prop:=λd e k=>∃r,Zup neg d e=some r∧k r
theorem Z49{neg:Bool}:P2s G (Ydc neg G) (Yce neg):=λH L x y d e k Q hx hy h kk=>by
 obtain⟨r,h,hk⟩:=h
 unfold Zup at h
 split at h
 case h_2=>cases h
 rename_i ds q
 split at h
 case isFalse=>cases h
 rename_i q2
 rw[XD,XD,decide_eq_true_eq]at q2
 cases h
 exact⟨L,L,d,e,ds,hx,hy,q,q2.1,q2.2.1,q2.2.2,kk _ _ (.bl _) hk⟩
theorem Z8j{neg:Bool}:ByS (Zup neg) (Yce neg):=λd e r k h hk=>⟨r,h,hk⟩
end
noncomputable abbrev Ye7(h:Heap)(T:Addr)(a b c:Xf):Prop:=h.get? T=some { cls:=.type "tuple",data:=.seq #[a,b,c] }
structure Z3A(z TI TO i1 i2 i3:Addr)(f1 f2 f3:List Addr):Prop where
 TIz:TI≠z
 TOz:TO≠z
 a1:∀c∈f1,c≠z∧c≠TO∧c≠i2∧c≠i3
 a2:∀c∈f2,c≠z∧c≠TO∧c≠i1∧c≠i3
 a3:∀c∈f3,c≠z∧c≠TO∧c≠i1∧c≠i2
section
variable {P:X6}{w:Qq}{A:Qo}{E:Xf->Xh->Prop}{s:Xh}
end
noncomputable abbrev z3A(h:Heap)(a:Addr):Heap:=h.push { cls:=.type "list_iterator",data:=.fields #[.ref a,.int 0 0] }
noncomputable abbrev z3B(h:Heap)(a b:Addr):Heap:=z3A (z3A h a) b
noncomputable abbrev z3C(h:Heap)(a b c:Addr):Heap:=z3A (z3B h a b) c
noncomputable abbrev z3D(h:Heap)(a b c:Addr):Heap:=(z3C h a b c).push { cls:=.type "tuple",data:=.seq #[.ref h.objs.size,.ref (z3A h a).objs.size,.ref (z3B h a b).objs.size] }
noncomputable abbrev z3E(h:Heap)(a b c:Addr):Heap:=(z3D h a b c).push { cls:=.type "tuple",data:=.seq #[.none,.none,.none] }
noncomputable abbrev z3F(h:Heap)(a b c:Addr):Heap:=(z3E h a b c).push { cls:=.type "zip",data:=.fields #[.none,.bool false,.bool false,.ref (z3C h a b c).objs.size,.ref (z3D h a b c).objs.size] }
section
variable {P:X6}{w:Qq}{A:Qo}{E:Xf->Xh->Prop}{s:Xh}
end
section
variable {X:Cx}{io:List Nat}{p c:Bool}{a b e:Expr}{mr:MAt}{ra:FA}
end
variable {G:Xc}
section
variable {X:Cx}{io:List Nat}{p c:Bool}{e:Expr}{m:MEt}{pos apos cpos px:Pos}{i:Nat}{x:Str}{st:Stmt}{fa:FE}
noncomputable def Zkq(i:Nat)(m:MEt):MSt:=λD δ=>match δ[i]? with
 | some (some (.nd _))=>m δ λr δ1=>match r,δ1[i]? with
  | .nd rs,some (some (.nd ts))=>ts.length+rs.length≤Xy∧D.nx (δ1.set i (some (.nd (ts ++ (OT.datas rs).map OT.fz))))
  | _,_=>False
 | _=>False
theorem Owns.app{H:Hp}{L:Addr->Prop}{ds:List Xa}:∀{zs xs:List V} {ts:List OT} {bs:List Addr},Owns G H L xs ts bs->Das G H L zs ds->Owns G H L (xs ++ zs) (ts ++ ds.map OT.fz) bs:=by
 induction ds with
 | nil=>
  intro zs xs ts bs h g
  cases g
  rw[Q4,List.map_nil,Q4];exact h
 | cons d ds ih=>
  intro zs xs ts bs h g
  cases g with
  | cons q g=>
   have:=ih (h.snoc (.fz q)) g
   rw[Q4,Q7,Q7]at this
   exact this
theorem Zvd(i:Nat)(he:ME X io p true e m)(hN:X.N[i]? =some x:=by rfl)(hv:Vis X.env.scope x:=by first|exact QB rfl|exact Qw (QB rfl)|exact Qw (Qw rfl))(hd:(x==("__debug__" : Str))=false:=by decide)
  (hcd:(x==("__classdict__" : Str))=false:=by decide)
  (hbase:VN (.Name x px) "extend" X.env (eval (.Name x px) X.env)=eval (.Name x px) X.env:=by rfl)
  (hfew:((JF cpos (Xo [e] X.env)).all (λx=>!x.1)&&(backToKw cpos (Um [] X.env)).all (λx=>x.1.isSome)
   &&decide ([e].length+([]:List VB).length+(if([]:List VB).isEmpty then 0 else 1)<30))=true:=by rfl)
  (hline:(apos.endLine==cpos.line)=true:=by rfl) (hs:Xo [e] X.env=(false,eval e X.env) :: Xo [] X.env:=by rfl) (hplain:(JF cpos (Xo [] X.env)).any (·.1)=false:=by rfl)
  (hsw:VL (.Call (.Attribute (.Name x px) "extend" apos) [e] [] cpos) none pos.line X.env=pure false:=by rfl) :
  MS X io (.Expr (.Call (.Attribute (.Name x px) "extend" apos) [e] [] cpos) pos) (Zkq i m):=by
 obtain⟨_,A,s⟩:=he
 refine⟨_,Zoe (Zsr Vl PySem.F.slot_list_extend PySem.F.type_list_extend Zs7 (pv i hN hv hd hcd) (Za5 A Zen hs) hbase hfew hline hs hplain) hsw,λC H σ δ fp ex D D' R h E=>?_⟩
 unfold Zkq at h
 split at h
 case h_2=>exact h.elim
 rename_i ts0 hi0
 obtain⟨a',xs0,bs0,hv0,hx0,_,_⟩:=R.ownNd hi0
 refine⟨_,hv0,.inl ⟨rfl,xs0,.inl (.inl hx0)⟩,?_⟩
 refine s C H σ δ fp ex _ _ R h λH1 v r δ1 fp1 new r1 h1=>?_
 split at h1
 case h_2=>exact h1.elim
 rename_i rs ts1 hi1
 have R1:=r1.base
 obtain⟨a1,xs1,bs1,hv1,hx1,o1,hf1⟩:=R1.ownNd hi1
 rw[hv0]at hv1
 cases hv1
 obtain⟨b,zs,rfl,hb,lz,qs⟩:∃b zs,v= .ref b∧H1 b=some (.lst zs)∧zs.length=rs.length∧Das X.K H1 (Lf C fp1 ex) zs (OT.datas rs):=by
  have ow:=r1.own
  have nw:∀a∈new,Lf C fp1 ex a:=λa m=>by
   refine⟨λqz=>?_,(R.newOk (r1.fresh a m)).2.1,.inr (R.newOk (r1.fresh a m)).2.2⟩
   obtain⟨i,z⟩:=qz
   exact r1.rel.dx i a z (.inr m)
  cases ow with
  | nd hb r=>exact⟨_,_,rfl,hb,r.length,r.das (λa l _=>⟨(l rfl).1,λz=>(l rfl).2.1 (.inl z),(l rfl).2.2⟩) λa m=>nw a (.tail _ m)⟩
 refine⟨a',b,xs1,zs,rfl,rfl,hx1,hb,by rw[o1.length,lz];exact h1.1,?_⟩
 obtain⟨R2,S2⟩:=R1.top hi1 hv0 hf1 hx1 (o1.app qs) (List.Sublist.refl _)
 exact E.nx _ σ _ _ R2 (r1.stp.kp.trans S2.kp) h1.2
noncomputable def Zhr(i:Nat)(e:FE):FS:=λδ=>match δ[i]? with
 | some (some (.nd _))=>wE e (λr δ1=>match r,δ1[i]? with
  | .nd rs,some (some (.nd ts))=>if ts.length+rs.length≤Xy then .nx (δ1.set i (some (.nd (ts ++ (OT.datas rs).map OT.fz))))else .bad
  | _,_=>.bad) δ
 | _=>.bad
theorem Zvg(h:MS X io st (Zkq i (o2 fa))):MS X io st (oS (Zhr i fa)):=h.weak λD δ h=>by
 unfold oS Zhr at h;unfold Zkq
 split at h
 case h_2=>exact h.elim
 rename_i q;(try rw[q])
 refine(Zq4 h).imp λr δ' z=>?_
 split at z
 ·rename_i q2;(try rw[q2]);exact Zo4 z
 ·exact z.elim
end
noncomputable def Up(xs:List Nat):Prop:=xs.Pairwise (·<·)
theorem Zxn{xs:List Nat}(h:Up xs){i j:Nat}{a b:Nat}(ha:xs[i]? =some a)(hb:xs[j]? =some b)(l:i<j):a<b:=by
 obtain⟨hi,rfl⟩:=Xm.mp ha
 obtain⟨hj,rfl⟩:=Xm.mp hb
 exact Bg.mp h i j hi hj l
theorem getD_at{xs:Array Nat}{i d:Nat}(h:i<xs.size):xs.toList[i]? =some (xs.getD i d):=by
 rw[Qk,Vb h,Array.getD,dif_pos h];rfl
theorem Zwl{xs:Array Nat}{j:Nat}(up:Up xs.toList):∀(fuel lo hi:Nat),hi-lo≤fuel->lo≤hi->hi≤xs.size->(∀i a,i<lo->xs.toList[i]? =some a->a<j)->(∀i a,hi≤i->xs.toList[i]? =some a->j≤a) ->
  ∃p,SetTable.below.go xs j fuel lo hi=p∧p≤xs.size∧(∀i a,i<p->xs.toList[i]? =some a->a<j)∧∀i a,p≤i->xs.toList[i]? =some a->j≤a:=by
 intro fuel
 induction fuel with
 | zero=>
  intro lo hi f l z h1 h2
  have e:lo=hi:=by omega
  exact⟨lo,rfl,by omega,h1,λi a q=>h2 i a (by omega)⟩
 | succ fuel ih=>
  intro lo hi f l z h1 h2
  rw[SetTable.below.go]
  by_cases c:lo<hi
  ·rw[if_pos c]
   have hm:(lo+hi)/2<xs.size:=by omega
   have em:=getD_at (xs:=xs) (d:=j) hm
   by_cases q:xs.getD ((lo+hi)/2) j<j
   ·simp only[if_pos q]
    refine ih _ _ (by omega) (by omega) z (λi a li ea=>?_) h2
    by_cases e:i=(lo+hi)/2
    ·subst e
     rw[em]at ea
     cases ea
     exact q
    ·exact Vr (Zxn up ea em (by omega)) q
   ·simp only[if_neg q]
    refine ih _ _ (by omega) (by omega) (by omega) h1 λi a li ea=>?_
    by_cases e:i=(lo+hi)/2
    ·subst e
     rw[em]at ea
     cases ea
     omega
    ·have:=Zxn up em ea (by omega)
     omega
  ·rw[if_neg c]
   have e:lo=hi:=by omega
   exact⟨lo,rfl,by omega,h1,λi a q=>h2 i a (by omega)⟩
theorem Zln{xs:Array Nat}(up:Up xs.toList)(j:Nat):QR xs j≤xs.size∧(∀i a,i<QR xs j->xs.toList[i]? =some a->a<j)∧∀i a,QR xs j≤i->xs.toList[i]? =some a->j≤a:=by
 obtain⟨p,e,h⟩:=Zwl (j:=j) up xs.size 0 xs.size (by omega) (Qt _) (XN _) (λi a q=>absurd q (Vg _)) λi a q ea=>by
  have:=(Xm.mp ea).1
  rw[XR]at this
  omega
 unfold QR
 rw[e];exact h
theorem Zqw{xs:Array Nat}(up:Up xs.toList){i a:Nat}(h:xs.toList[i]? =some a):QR xs (a+1)=i+1:=by
 obtain⟨b0,b1,b2⟩:=Zln up (a+1)
 have hi:=(Xm.mp h).1
 rw[XR]at hi
 rcases VD (QR xs (a+1)) (i+1)with c|c|c
 ·have:=b2 i a (by omega) h
  omega
 ·exact c
 ·have hs:i+1<xs.toList.length:=by rw[XR];omega
  have e1:=Xi hs
  have:=b1 (i+1) _ c e1
  have:=Zxn up h e1 (Qx _)
  omega
theorem Zqp{xs:Array Nat}(up:Up xs.toList):QR xs 0=0:=by
 obtain⟨b0,b1,_⟩:=Zln up 0
 cases e:QR xs 0 with
 | zero=>rfl
 | succ k=>
  rw[e]at b0 b1
  have hs:0<xs.toList.length:=by rw[XR];omega
  exact absurd (b1 0 _ (Nat.zero_lt_succ _) (Xi hs)) (Vg _)
theorem Z5y{xs:List Nat}(up:Up xs){p j:Nat}(h1:∀i a,i<p->xs[i]? =some a->a<j)(h2:∀i a,p≤i->xs[i]? =some a->j<a):Up (xs.take p ++ j :: xs.drop p):=by
 refine List.pairwise_append.mpr ⟨up.sublist (List.take_sublist ..),List.pairwise_cons.mpr ⟨λa ha=>?_,up.sublist (List.drop_sublist ..)⟩,λa ha b hb=>?_⟩
 ·obtain⟨i,hi⟩:=Bq ha
  rw[V9]at hi
  exact h2 _ a (Q5 _ _) hi
 ·obtain⟨i,hi⟩:=Bq ha
  have ip:i<p:=by
   have:=(Xm.mp hi).1
   rw[BP]at this
   omega
  rw[List.getElem?_take_of_lt ip]at hi
  have aj:=h1 i a ip hi
  rcases Xr.mp hb with rfl|hb
  ·exact aj
  ·obtain⟨k,hk⟩:=Bq hb
   rw[V9]at hk
   exact Vr aj (h2 _ b (Q5 _ _) hk)
noncomputable def Zf7(t:QZ)(j:Nat):Prop:=t.place[QR t.place j]? ≠some j
structure Tb(b:Bool)(t:QZ):Prop where
 led:t.led=b
 up:t.plain=true->Up t.place.toList
theorem Zpw{t:QZ}{j:Nat}(h:t.slot j= .empty∨t.slot j= .dummy):Zf7 t j:=λz=>by
 have:t.slot j= .live (QR t.place j):=by
  unfold QZ.slot
  rw[if_pos (beq_iff_eq.mpr z)]
 rcases h with h|h<;>rw[this]at h<;>cases h
theorem Zt9{t:QZ}{f:Nat->Int}{h:Int}:∀(fuel:Nat) (p:SetTable.Probe),(∀d,p.dummy=some d->Zf7 t d)->∀j dm,SetTable.probe.go t f h fuel p=some (.empty j dm)->Zf7 t j∧∀d,dm=some d->Zf7 t d:=by
 intro fuel
 induction fuel with
 | zero=>intro p _ j dm e;cases e
 | succ fuel ih=>
  have adv:∀q:SetTable.Probe,(t.advance q).dummy=q.dummy:=λq=>by
   unfold QZ.advance
   split<;>rfl
  intro p hp j dm e
  rw[SetTable.probe.go]at e
  split at e
  ·rename_i c
   cases e
   exact⟨Zpw (.inl c),hp⟩
  ·rename_i c
   refine ih _ (λd hd=>?_) j dm e
   rw[adv]at hd
   cases hd
   exact Zpw (.inr c)
  ·split at e
   ·cases e
   ·exact ih _ (λd hd=>hp d (by rw[adv]at hd;exact hd)) j dm e
theorem Zyj{t:QZ}{h:Int}{j:Nat}{d:Bool}(e:t.freeSlot h=some (j,d)):Zf7 t j:=by
 unfold QZ.freeSlot at e
 split at e
 ·rename_i j' dm q
  cases e
  obtain⟨h1,h2⟩:=Zt9 _ _ (λd hd=>by cases hd) _ _ q
  cases dm with
  | none=>exact h1
  | some d=>exact h2 d rfl
 ·cases e
theorem Z72{t:QZ}{j:Nat}(up:Up t.place.toList)(n:Zf7 t j):Up (t.put j).1.place.toList:=by
 show Up (QZ.insertAt t.place (QR t.place j) j).toList
 obtain⟨b0,b1,b2⟩:=Zln up j
 rw[SetTable.toList_insertAt]
 refine Z5y up b1 λi a l ea=>?_
 have ja:=b2 i a l ea
 rcases V2 j a with c|c
 ·exact c
 ·have e:a=j:=by omega
  subst e
  exfalso
  rcases V2 (QR t.place a) i with c2|c2
  ·have hs:QR t.place a<t.place.toList.length:=Vr c2 (Xm.mp ea).1
   have e1:=Xi hs
   have:=Zxn up e1 ea c2
   have:=b2 _ _ (XN _) e1
   omega
  ·have e:i=QR t.place a:=by omega
   subst e
   exact n (by rw[←Qk];exact ea)
theorem Tb.stand{b:Bool}{t:QZ}(h:Tb b t)(n:Nat):Tb b (t.standIn n):=⟨h.led,λz=>nomatch z⟩
theorem Tb.lay{b:Bool}{t:QZ}(h:Tb b t)(es:Array (Int×Xf))(k:Int)(x:Xf):Tb b (layNew t es k x).2.1:=by
 unfold layNew
 split
 ·rename_i j d e
  dsimp only
  unfold QZ.orStandIn
  split
  ·exact⟨h.led,λz=>Z72 (h.up z) (Zyj e)⟩
  ·exact⟨h.led,λz=>nomatch z⟩
 ·exact h.stand _
theorem Z14(f:Nat->Option Nat)(n:Nat):Up (((Xv n).filterMap λj=>(f j).map (j,·)).map (·.1)):=by
 have e:∀l:List Nat,((l.filterMap λj=>(f j).map (j,·)).map (·.1)).Sublist l:=λl=>by
  induction l with
  | nil=>exact .slnil
  | cons a l ih=>
   rw[QH]
   cases f a with
   | none=>exact ih.cons a
   | some v=>exact ih.cons_cons a
 exact List.Pairwise.sublist (e _) List.pairwise_lt_range
theorem Tb.relay{b:Bool}{t:QZ}(h:Tb b t)(es:Array (Int×Xf))(n:Nat):Tb b (relayAll t es n).2.1:=by
 unfold relayAll
 split
 ·rename_i t' order e
  dsimp only
  split
  ·unfold QZ.relaid QZ.laid at e
   obtain⟨ow,_,e⟩:=Option.bind_eq_some_iff.mp e
   cases e
   exact⟨h.led,λ_=>Z14 _ _⟩
  ·exact h.stand _
 ·exact h.stand _
noncomputable def vI:Xf->Int
 | .int k _=>k
 | _=>0
noncomputable def SetI(prog:X6)(w:Qq)(b:Bool)(h:Heap)(S:Addr)(ks:List Int):Prop :=
 ∃o es ep t,h.get? S=some o∧o.ExactSet∧o.data= .set es ep t∧ElemsOf (Vy prog w) es.toList∧es.size<scanBound∧t.fits es.size=true∧Tb b t∧es.toList.map (λe=>vI e.2)=ks
section
variable {prog:X6}{w:Qq}{A:Qo}{E:Xf->Xh->Prop}{s:Xh}{b:Bool}
theorem Zug{k:Int}{v:Xf}(h:(Vy prog w).is k v=true):∃t,v= .int k t:=by
 cases v<;>simp_all [Vy,Xf.isInt]
theorem SetI.stay{h h':Heap}{S:Addr}{ks:List Int}(hS:SetI prog w b h S ks)(k:∀o,h.get? S=some o->h'.get? S=some o):SetI prog w b h' S ks:=by
 obtain⟨o,es,ep,t,ho,r⟩:=hS
 exact⟨o,es,ep,t,k o ho,r⟩
theorem SetI.put{h:Heap}{S:Addr}{o:Obj}{es es':Array (Int×Xf)}{ep:Nat}{t t':QZ}(ho:h.get? S=some o)(hex:o.ExactSet)(hd:o.data= .set es ep t)(he:ElemsOf (Vy prog w) es'.toList)(hb:es'.size<scanBound)(hf:t'.fits es'.size=true)(ht:Tb b t') :
  (h.update S (Obj.putSet es' t')).get? S=some { o with data:=.set es' (ep+1) t' }∧SetI prog w b (h.update S (Obj.putSet es' t')) S (es'.toList.map λe=>vI e.2):=by
 have g:=Heap.get?_update_self (Obj.putSet es' t') ho (by rw[putSet_of es' t' hd];rfl)
 rw[putSet_of es' t' hd]at g
 exact⟨g,_,es',ep+1,t',g,hex,rfl,he,hb,hf,ht,rfl⟩
theorem Zz7{g:Bool->Sem Unit}(hg:∀(c:Bool) (s₁:Xh) (Q':Unit->Xh->Prop),Q' () s₁->XC (XX prog w) A (g c) Q' E s₁){S:Addr}{o:Obj}{es es1:Array (Int×Xf)}{ep:Nat}{t t1:QZ}{wasDummy:Bool}{R:Option Bool->Xh->Prop}
  (ho:s.heap.get? S=some o) (hex:o.ExactSet) (hd:o.data= .set es ep t) (he:ElemsOf (Vy prog w) es1.toList) (hb:es1.size<scanBound) (hf:t1.fits es1.size=true) (ht:Tb b t1)
  (q:∀h' ks',JK S s.heap h'->SetI prog w b h' S ks'->ks'.Perm (es1.toList.map λe=>vI e.2)->R (some true) { s with heap:=h' }) :
  XC (XX prog w) A (do
    storeSet S es1 t1
    if(!wasDummy&&t1.tooFull)=true then do
      g (relayAll t1 es1 (Vw es1.size)).2.2
      storeSet S (relayAll t1 es1 (Vw es1.size)).1 (relayAll t1 es1 (Vw es1.size)).2.1
      pure (some true)
     else pure (some true)) R E s:=by
 refine Xb (wpAny_storeSet_of ho hd ?_ (fits_of_scanBound hb))
 obtain⟨g1,S1⟩:=SetI.put (b:=b) ho hex hd he hb hf ht
 split
 ·have pm:=relayAll_perm t1 es1 (Vw es1.size)
  have ff:=relayAll_fits t1 es1 (Vw es1.size)
  have tt:=ht.relay es1 (Vw es1.size)
  generalize relayAll t1 es1 (Vw es1.size)=Rl at pm ff tt⊢
  obtain⟨es2,t3,gv⟩:=Rl
  have sz:es2.size=es1.size:=by rw[←XR,pm.length_eq,XR]
  have b2:es2.size<scanBound:=by rw[sz];exact hb
  refine Xb (hg _ _ _ (Xb (wpAny_storeSet_of g1 rfl ?_ (fits_of_scanBound b2))))
  obtain⟨_,S2⟩:=SetI.put (b:=b) g1 hex rfl (he.perm pm) b2 ff tt
  exact Xl (q _ _ ((JD s.heap S _).trans (JD _ S _)) S2 (pm.map _))
 ·exact Xl (q _ _ (JD s.heap S _) S1 (.refl _))
theorem Yb4{S:Addr}{ks:List Int}{k:Int}{u:Tok}{Q:Bool->Xh->Prop}(hS:SetI prog w b s.heap S ks)(hr:ks.length+1<scanBound)
  (q:∀v h' tk ks',JK S s.heap h'->SetI prog w b h' S ks'->(k∈ks->ks'=ks)->(k∉ks->ks'.Perm (ks ++ [k]))->Q v { s with heap:=h',toks:=tk }):XC (XX prog w) A (setAdd S (.int k u)) Q E s:=by
 have hS0:=hS
 obtain⟨o,es,ep,t,ho,hex,hd,he,hb,hf,ht,rfl⟩:=hS
 unfold setAdd
 refine Bs (Xb ((Vy prog w).pyHash (k:=k) (intKind_is _ _ _ _) ?_))
 show XC _ _ (setAddHashed S (.int k u) ((Vy prog w).hash k)) Q E { s with toks:=s.toks+1 }
 unfold setAddHashed setAddHashedIn
 refine Bs (Xb (Uw (s:={ s with toks:=s.toks+1 }) ho hd hf ?_))
 dsimp only
 rw[byScan_of (x:=.int k u) rfl hb he,if_pos rfl]
 unfold setAddByScan
 refine Xb (Xb (Uk (Xb (wpAny_setScan_of (s:={ s with toks:=s.toks+1 }) (intKind_is prog w k u) ho hd hf he ?_))))
 cases hx:List.findIdx? (λe=>(Vy prog w).is k e.2) es.toList with
 | some j=>
  dsimp only
  obtain⟨hj,pj,_⟩:=List.findIdx?_eq_some_iff_getElem.mp hx
  obtain⟨tj,ej⟩:=Zug pj
  have hk:k∈es.toList.map λe=>vI e.2:=Qe.mpr ⟨_,JH hj,by rw[ej];rfl⟩
  exact Xl (Xl (q _ s.heap _ _ (JK.refl ..) hS0 (λ_=>rfl) λz=>absurd hk z))
 | none=>
  dsimp only
  have hk:k∉es.toList.map λe=>vI e.2:=λz=>by
   obtain⟨e,m,ev⟩:=Qe.mp z
   obtain⟨⟨k',i1,_⟩,_⟩:=he e m
   obtain⟨t',e2⟩:=Zug i1
   have:=List.findIdx?_eq_none_iff.mp hx e m
   rw[e2]at this ev
   cases ev
   have z2:(Vy prog w).is k' (.int k' t')=false:=this
   rw[intKind_is]at z2
   cases z2
  have gw:∀(c:Bool) {s₁:Xh} {Q':Unit->Xh->Prop},Q' () s₁->XC (XX prog w) A (match c with|true=>rule "set.scan.the-table-gave-way"|false=>pure ()) Q' E s₁:=λc s₁ Q' z=>by
   cases c<;>first|exact Xl z|exact Uk z
  have pm:=layNew_perm t es ((Vy prog w).hash k) (.int k u)
  have ff:=layNew_fits t es ((Vy prog w).hash k) (.int k u)
  have tt:=ht.lay es ((Vy prog w).hash k) (.int k u)
  generalize layNew t es ((Vy prog w).hash k) (.int k u)=Ln at pm ff tt⊢
  obtain⟨es1,t1,wd,gv⟩:=Ln
  dsimp only at pm ff tt⊢
  rw[Array.toList_push]at pm
  have he1:ElemsOf (Vy prog w) es1.toList:=(he.push (intKind_is prog w k u) rfl).perm pm
  have hb1:es1.size<scanBound:=by
   rw[←XR,pm.length_eq,Xw]
   rw[Xj]at hr
   exact hr
  refine Xb (gw _ ?_)
  have fin:∀h' ks',JK S s.heap h'->SetI prog w b h' S ks'->ks'.Perm (es1.toList.map λe=>vI e.2)->XC (XX prog w) A (pure true) Q E { s with heap:=h',toks:=s.toks+1 }:=λh' ks' sb S' p'=>Xl (q _ h' _ ks' sb S' (λz=>absurd z hk) λ_=>p'.trans (by
   have:=pm.map (λe:Int×Xf=>vI e.2)
   rw[Qu]at this
   exact this))
  have hv:hashByValue 8 (.int k u)=pure true:=hashByValue_scannable 8 (x:=.int k u) rfl
  split
  ·refine Xb ?_
   rw[hv]
   refine Xl ?_
   simp only[if_true]
   exact Zz7 (s:={ s with toks:=s.toks+1 }) (by intro c s₁ Q' z;cases c<;>first|exact Xl z|exact Uk z) ho hex hd he1 hb1 ff tt λh' ks' sb S' p'=>fin h' ks' sb S' p'
  ·refine Xb (Xl ?_)
   simp only[if_true]
   exact Zz7 (s:={ s with toks:=s.toks+1 }) (by intro c s₁ Q' z;cases c<;>first|exact Xl z|exact Uk z) ho hex hd he1 hb1 ff tt λh' ks' sb S' p'=>fin h' ks' sb S' p'
end
noncomputable def byT(w:Qq):Bool:=w.params.followText "set-order"
noncomputable def OfL{α:Type}(ks ns:List α):Prop:=ks.Nodup∧∀x,x∈ks↔x∈ns
theorem OfL.add{α:Type}[DecidableEq α]{ks ks2 ns:List α}{k:α}(h:OfL ks ns)(c1:k∈ks->ks2=ks)(c2:k∉ks->ks2.Perm (ks ++ [k])):OfL ks2 (ns ++ [k])∧ks2.length≤ks.length+1:=by
 by_cases c:k∈ks
 ·rw[c1 c]
  refine⟨⟨h.1,λx=>?_⟩,Nat.le_succ _⟩
  rw[QJ,←h.2,Xu]
  exact⟨.inl,λm=>m.elim id λe=>e▸c⟩
 ·have pm:=c2 c
  refine⟨⟨pm.nodup_iff.mpr (Vh.mpr ⟨h.1,Qm.mpr ⟨(λz=>nomatch z),.nil⟩,λa ha y hy e=>c (by rw[←Xu.mp hy,←e];exact ha)⟩),λx=>?_⟩,by rw[pm.length_eq,Xw];exact XN _⟩
  rw[pm.mem_iff,QJ,QJ,h.2]
noncomputable abbrev Of(ks ns:List Int):Prop:=OfL ks ns
structure Yb8{τ:Type}(prog:X6)(w:Qq)(A:Qo)(S:Addr)(T:Heap->List τ->Prop)(h0:Heap)(n:Nat)(Ok:Xf->τ->Prop):Prop where
 stay:∀h h' ks,T h ks->(∀o,h.get? S=some o->h'.get? S=some o)->T h' ks
 add:∀(s:Xh) (E:Xf->Xh->Prop) (v:Xf) (k:τ) (ks:List τ) (Q:Bool->Xh->Prop),Ok v k->(∀b o,b<S->h0.get? b=some o->s.heap.get? b=some o)->T s.heap ks->ks.length<n->(∀c h' tk ks',JK S s.heap h'->T h' ks'->(k∈ks->ks'=ks)->(k∉ks->ks'.Perm (ks ++ [k]))->Q c { s with heap:=h',toks:=tk })->XC (XX prog w) A (setAdd S v) Q E s
section
variable {prog:X6}{w:Qq}{A:Qo}{R:Result->Xh->Prop}{I S:Addr}{fp wr:List Addr}{n:Nat}{Pv:Nat->Xf->Prop}{St:Nat->Heap->Prop}{τ:Type}{T:Heap->List τ->Prop}{h0:Heap}{Ok:Xf->τ->Prop}
theorem Z6n[DecidableEq τ](W:Walks prog w A.in1 I fp wr n Pv St)(D:Yb8 prog w A.in1 S T h0 n Ok)(sf:S∉fp)(zw:∀b∈wr,S<b)(ns:List τ)(ln:ns.length=n)(hv:∀i v,Pv i v->∃k,ns[i]? =some k∧Ok v k) :
  ∀(m i:Nat) (s:Xh) (ks:List τ),n-i=m->i≤n->St i s.heap->T s.heap ks->(∀b o,b<S->h0.get? b=some o->s.heap.get? b=some o)->OfL ks (ns.take i)->ks.length≤i ->
  (∀ h' tk ks',T h' ks'->OfL ks' ns->(∀b o,b<S->h0.get? b=some o->h'.get? b=some o)->R (.ok (.ret .none)) { s with heap:=h',toks:=tk }) ->
  U6 (XX prog w) A (.builtin "set.update.loop" ⟨[.ref S,.ref I],[]⟩) R s:=by
 have sw:S∉wr:=λh=>sf (W.sub _ h)
 have lw:∀b,b<S->b∉wr:=λb l m=>Nat.lt_asymm l (zw b m)
 intro m
 induction m with
 | zero=>
  intro i s ks em ei st hS hG hO lk r
  have en:i=n:=by omega
  refine JT F.entry_set_update_loop ?_;rw[Q9 F.plain_set_update_loop _]
  show XC _ A.in1 (Ub (.ref I)>>=_) _ _ _
  refine Xb (W.done s _ _ (en▸st) λh' tk kp=>?_)
  show XC _ A.in1 (ret QT) _ _ { s with heap:=h',toks:=tk }
  rw[List.take_of_length_le (by omega)]at hO
  exact Xl (r h' tk ks (D.stay _ _ _ hS λo e=>kp S o sw e) hO λb o l e=>kp b o (lw b l) (hG b o l e))
 | succ m ih=>
  intro i s ks em ei st hS hG hO lk r
  have lt:i<n:=by omega
  refine JT F.entry_set_update_loop ?_;rw[Q9 F.plain_set_update_loop _]
  show XC _ A.in1 (Ub (.ref I)>>=_) _ _ _
  refine Xb (W.item i s _ _ lt st λv h' tk pv st' kp=>?_)
  obtain⟨k,ek,ok⟩:=hv i v pv
  show XC _ A.in1 (holding [v] (setAdd S v)>>=_) _ _ { s with heap:=h',toks:=tk }
  have hG':∀b o,b<S->h0.get? b=some o->h'.get? b=some o:=λb o l e=>kp b o (lw b l) (hG b o l e)
  refine Xb (Bs (D.add { s with heap:=h',toks:=tk } _ v k ks _ ok hG' (D.stay _ _ _ hS λo e=>kp S o sw e) (by omega) λv h2 tk2 ks2 sb hS2 c1 c2=>?_))
  have k2:∀b o,b≠S->h'.get? b=some o->h2.get? b=some o:=λb o nS e=>by rw[sb.2 b nS];exact e
  have et:ns.take (i+1)=ns.take i ++ [k]:=by rw[List.take_succ,ek];rfl
  obtain⟨O2,l2⟩:=hO.add c1 c2
  rw[←et]at O2
  exact Xl ⟨Vp F.plain_set_update_loop _,ih (i+1) _ ks2 (by omega) lt (W.frame _ _ _ st' λb bf o e=>k2 b o (λh:b=S=>sf (by rw[←h];exact bf)) e) hS2 (λb o l e=>k2 b o (Xn l) (hG' b o l e)) O2 (by omega) r⟩
end
section
variable {prog:X6}{w:Qq}{A:Qo}{E:Xf->Xh->Prop}{s:Xh}
theorem Yb7(a:Xf){Q₁:Xf->Xh->Prop}(h:Q₁ (.ref s.heap.objs.size) { s with heap:=s.heap.push { cls:=.type "set",dict:=none,data:=.set #[] 0 (.fresh 0 0 (!byT w)) } }) :
  U6 (XX prog w) A (.call (.builtin "set.__new__") ⟨[.type "set",a],[]⟩) (wants Q₁ E) s:=by
 refine codeAny_of_tree ?_;show XC _ A.in1 (do checkBuiltinCall "set.__new__" ⟨[.type "set",a],[]⟩;again (.builtin "set.__new__" ⟨[.type "set",a],[]⟩)) _ _ s
 refine Xb (wpAny_of_eq (F.newCall_set_1 a) (Xl ⟨Vp F.plain_set_new _,JT F.entry_set_new ?_⟩));rw[Q9 F.plain_set_new _]
 unfold Bo.«set.__new__» Builtin.Frozenset.newClass
 have hsub:=sub_set_self
 obtain⟨hp,g,d,tk,os⟩:=s
 dsimp only
 wp_walk
 refine wpAny_askSetting (Xl ?_);dsimp only;simp only[newObj]
 exact Xb (wpAny_alloc (Xl (Xl h)))
theorem Z5o{τ:Type}[DecidableEq τ]{T:Heap->List τ->Prop}{Ok:Xf->τ->Prop}{l:Addr}{its:Array Xf}{ns:List τ}{b:Bool}{Q:Xf->Xh->Prop}(hh:A.handled=none)(hl:s.heap.IsList l its)(ln:ns.length=its.size)(D:∀A':Qo,A'.units=A.units+1->Yb8 prog w A' s.heap.objs.size T s.heap its.size Ok)(emp:∀h',h'.get? s.heap.objs.size=some { cls:=.type "set",dict:=none,data:=.set #[] 0 (.fresh 0 0 b) }->T h' [])(hv:∀(i:Nat) (v:Xf),its[i]? =some v->∃k,ns[i]? =some k∧Ok v k)
  (q:∀h' tk ks,T h' ks->OfL ks ns->(∀b o,b<s.heap.objs.size->s.heap.get? b=some o->h'.get? b=some o)->Q .none { s with heap:=h',toks:=tk }) :
  XC (XX prog w) A (Bo.«set.__init__» ⟨[Qn s.heap.objs.size,Qn l],[]⟩) (λfin s'=>∃v,fin= .done (.ret v)∧Q v s') E { s with heap:=s.heap.push { cls:=.type "set",dict:=none,data:=.set #[] 0 (.fresh 0 0 b) } }:=by
 obtain⟨ol,hol,hcl,nl,hdl⟩:=id hl
 obtain⟨ocls,odict,odata,oslots⟩:=ol
 simp only at hcl hdl
 subst hcl hdl
 have ho':(s.heap.push { cls:=.type "set",dict:=none,data:=.set #[] 0 (.fresh 0 0 b) }).get? l=some { cls:=.type "list",dict:=odict,data:=.seq its nl,slots:=oslots }:=Xg _ hol
 have gS:(s.heap.push { cls:=.type "set",dict:=none,data:=.set #[] 0 (.fresh 0 0 b) }).get? s.heap.objs.size=some { cls:=.type "set",dict:=none,data:=.set #[] 0 (.fresh 0 0 b) }:=Xx _ rfl
 have hT:Shared.TypeIs { s with heap:=s.heap.push { cls:=.type "set",dict:=none,data:=.set #[] 0 (.fresh 0 0 b) } } (.ref s.heap.objs.size) "set" :=⟨_,gS,rfl⟩
 have h1:=F.sub_list_set
 have h2:=F.sub_list_frozenset
 have h3:(Value.type "list"==Value.type "dict")=false:=by decide
 have hl1:(s.heap.push { cls:=.type "set",dict:=none,data:=.set #[] 0 (.fresh 0 0 b) }).IsList l its:=⟨_,ho',rfl,nl,rfl⟩
 unfold Bo.«set.__init__» noKeywords Builtin.Frozenset.updateFrom
 generalize hPI:pyIter=PI
 wp_walk
 subst hPI
 refine wpAny_pyIter_list hl1 (Xb (wpAny_runValue ?_))
 have lS:l<s.heap.objs.size:=XH hol
 refine Z6n (Walks.list (by simpa using hh) _ l ?hne its) (D _ rfl) ?sf ?zw ns ln hv its.size 0 _ [] (by omega) (Qt _) ⟨⟨_,Xx _ rfl,rfl,rfl⟩,hl1.push _⟩ (emp _ (Xg _ gS)) (λb o _ e=>Xg _ (Xg _ e)) ⟨.nil,λx=>by rw[List.take_zero]⟩ (XN _) λh' tk ks hS hO kp=>?_
 case hne=>rw[QC];exact Xn (Bc lS)
 case sf=>
  rw[QC]
  intro m
  rcases Xr.mp m with e|m
  ·exact Xn (Qx _) e
  ·exact XJ lS (Xu.mp m)
 case zw=>
  rw[QC]
  exact λb m=>Xu.mp m▸Qx _
 refine Xl ?_;show XC _ _ (ret QT) _ _ { s with heap:=h',toks:=tk }
 exact Xl ⟨_,rfl,q h' tk ks hS hO kp⟩
theorem Zsh{τ:Type}[DecidableEq τ]{T:Heap->List τ->Prop}{Ok:Xf->τ->Prop}{l:Addr}{its:Array Xf}{ns:List τ}{Q:Xf->Xh->Prop}(hh:A.handled=none)(hl:s.heap.IsList l its)(ln:ns.length=its.size)(D:∀A':Qo,A'.units≤A.units+24->Yb8 prog w A' s.heap.objs.size T s.heap its.size Ok)(emp:∀h',h'.get? s.heap.objs.size=some { cls:=.type "set",dict:=none,data:=.set #[] 0 (.fresh 0 0 (!byT w)) }->T h' [])(hv:∀(i:Nat) (v:Xf),its[i]? =some v->∃k,ns[i]? =some k∧Ok v k)
  (q:∀h' tk ks,T h' ks->OfL ks ns->(∀b o,b<s.heap.objs.size->s.heap.get? b=some o->h'.get? b=some o)->Q (Qn s.heap.objs.size) { s with heap:=h',toks:=tk }) :
  XC (XX prog w) A (call (.type "set") [Qn l]) Q E s:=by
 obtain⟨c,tl,e0⟩:=V5.mro
 have e1:=V5.made
 have e2:=V5.sub
 refine wpAny_call (codeAny_of_tree ?_);show XC _ _ (callAny (.type "set") _) _ _ _
 refine Xl ⟨Code.quiet_builtin _ (by decide +kernel),JT F.entry_type_call ?_⟩;rw[Qo.under_plain (weight_type_call_type "set" [Qn l] []) rfl]
 have e3:=V5.notType
 have e4:=V5.canCreate
 have e5:=F.typeCall_set_1 (Qn l)
 repeat any_goals first|assumption|wp_step
 refine codeAny_mono (Yb7 (Qn l) (E:=E) (Q₁:=λobj s1=>obj=Qn s.heap.objs.size∧s1={ s with heap:=s.heap.push { cls:=.type "set",dict:=none,data:=.set #[] 0 (.fresh 0 0 (!byT w)) } }) ⟨rfl,rfl⟩) λr s1 r1=>?_
 cases r with
 | error e=>exact r1
 | ok fl=>
  cases fl with
  | ret obj=>
   obtain⟨rfl,rfl⟩:=r1
   have gS:(s.heap.push { cls:=.type "set",dict:=none,data:=.set #[] 0 (.fresh 0 0 (!byT w)) }).get? s.heap.objs.size=some { cls:=.type "set",dict:=none,data:=.set #[] 0 (.fresh 0 0 (!byT w)) }:=Xx _ rfl
   have hT:Shared.TypeIs { s with heap:=s.heap.push { cls:=.type "set",dict:=none,data:=.set #[] 0 (.fresh 0 0 (!byT w)) } } (Qn s.heap.objs.size) "set" :=⟨_,gS,rfl⟩
   have e6:=V5.init.lookup
   have e7:=V5.init.bind (Qn s.heap.objs.size)
   repeat any_goals first|assumption|wp_step
   refine codeAny_mono (codeAny_call_builtin (R:=wants (λr s2=>r= .none∧∃h' tk ks,s2={ s with heap:=h',toks:=tk }∧T h' ks∧OfL ks ns∧∀b o,b<s.heap.objs.size->s.heap.get? b=some o->h'.get? b=some o) E) V5.init.plain F.entry_set_init (check_set_init_1 hT ?_)) λr2 s2 hr2=>?_
   ·refine Vd (Z5o (T:=T) (Ok:=Ok) (by simpa using hh) hl ln (λA' e=>D A' (by rw[e];show _≤_;dsimp only;omega)) emp hv (Q:=λr s2=>r= .none∧∃h' tk ks,s2={ s with heap:=h',toks:=tk }∧T h' ks∧OfL ks ns∧∀b o,b<s.heap.objs.size->s.heap.get? b=some o->h'.get? b=some o) λh' tk ks a1 a2 a3=>⟨rfl,h',tk,ks,rfl,a1,a2,a3⟩) (λfin s' hf=>?_) λ_ _ x=>x
    obtain⟨v,rfl,hq⟩:=hf
    exact hq
   ·cases r2 with
    | error e=>exact hr2
    | ok fl2=>
     cases fl2 with
     | ret r=>
      obtain⟨rfl,h',tk,ks,rfl,a1,a2,a3⟩:=hr2
      repeat any_goals first|assumption|wp_step
      exact q h' tk ks a1 a2 a3
     | _=>exact hr2.elim
  | _=>exact r1.elim
theorem Zse{l:Addr}{its:Array Xf}{ns:List Int}{Q:Xf->Xh->Prop}(hh:A.handled=none)(hl:s.heap.IsList l its)(ln:ns.length=its.size)(lb:its.size+1<scanBound)(hv:∀(i:Nat) (v:Xf),its[i]? =some v->∃k t,v=Vs k t∧ns[i]? =some k)
  (q:∀h' tk ks,SetI prog w (!byT w) h' s.heap.objs.size ks->Of ks ns->(∀b o,b<s.heap.objs.size->s.heap.get? b=some o->h'.get? b=some o)->Q (Qn s.heap.objs.size) { s with heap:=h',toks:=tk }) :
  XC (XX prog w) A (call (.type "set") [Qn l]) Q E s :=
 Zsh (T:=λh ks=>SetI prog w (!byT w) h s.heap.objs.size ks) (Ok:=λv k=>∃t,v=Vs k t) hh hl ln (λ_ _=>⟨λ_ _ _ h k=>h.stay k,λs' E v k ks Q ok _ hS hl r=>by
  obtain⟨t,rfl⟩:=ok
  exact Yb4 hS (by omega) r⟩) (λh' e=>⟨_,#[],0,_,e,⟨rfl,rfl,rfl⟩,rfl,(λe m=>nomatch m),(by decide),rfl,⟨rfl,λ_=>.nil⟩,rfl⟩) (λi v e=>by
  obtain⟨k,t,h1,h2⟩:=hv i v e
  exact⟨k,h2,t,h1⟩) q
end
theorem Z0:Slot "set_iterator" "__next__" "set_iterator.__next__" :=
 .of (owner :="set_iterator") (n :="__next__") (by rw[typeLookup_type,builtinLookup_eq_fast];kernel_rfl) (by decide +kernel) (by decide +kernel) (by decide +kernel) (by first|exact .inl (by decide +kernel)|exact .inr (by decide +kernel)) (by rw[isSubtype_type];kernel_rfl)
theorem Wx:entryFor table "set_iterator.__next__"=some Bo.«set_iterator.__next__»:=entryFor_of_fast (by kernel_rfl)
theorem W6(a:Xf):argsOk "set_iterator.__next__" ⟨[a],[]⟩:=by unfold argsOk;kernel_rfl
noncomputable def Z9g(h:Heap)(I S:Addr)(slot i n ep:Nat):Prop:=h.get? I=some { cls:=.type "set_iterator",data:=.fields #[JR slot,JR i,.ref S,JR n,JR ep] }
theorem Zr3{α:Type}:∀{l:List α} {i:Nat} (h:i<l.length),(l[i] :: l.eraseIdx i).Perm l:=fun{l}=>by
 induction l with
 | nil=>intro i h;cases h
 | cons a l ih=>
  intro i h
  cases i with
  | zero=>exact .refl _
  | succ i=>exact(List.Perm.swap ..).trans ((ih (Nat.lt_of_succ_lt_succ h)).cons a)
theorem Z1i{α:Type}(f:Nat->Nat):∀(fuel k:Nat) (left:List α) (out:Array α),left.length=fuel->(pickOrder.go f fuel k left out).toList.Perm (out.toList ++ left):=by
 intro fuel
 induction fuel with
 | zero=>
  intro k left out l
  rw[List.length_eq_zero_iff.mp l,Q4,pickOrder.go]
 | succ fuel ih=>
  intro k left out l
  rw[pickOrder.go]
  have hlt:f k%left.length<left.length:=Nat.mod_lt _ (by omega)
  rw[Xi hlt]
  dsimp only
  refine(ih (k+1) _ _ (by rw[VR hlt];omega)).trans ?_
  rw[Array.toList_push,Q7]
  exact List.Perm.append_left _ (Zr3 hlt)
theorem Ztb{α:Type}(f:Nat->Nat)(xs:Array α):(pickOrder f xs).toList.Perm xs.toList:=by
 unfold pickOrder
 have:=Z1i f xs.size 0 xs.toList #[] (by rw[XR])
 rwa[UV]at this
section
variable {prog:X6}{w:Qq}{A:Qo}{E:Xf->Xh->Prop}{s:Xh}
theorem Zuh{src:Source}{n:Nat}{Q:Nat->Xh->Prop}(hn:n≠0)(h:∀i,i<n->Q i { s with drawn:=s.drawn.bump src }):XC (XX prog w) A (choose src n) Q E s:=fun Γ p _=>by
 show Sem.wp _ _ (.choose src n .pure) _ _ _ _
 rw[Sem.wp_choose]
 exact⟨hn,h _ (Nat.mod_lt _ (Nat.pos_of_ne_zero hn))⟩
theorem Z0t{α:Type}:∀(n:Nat) (xs:List α) (s:Xh) (Q:List α->Xh->Prop),xs.length=n->(∀ys d,ys.Perm xs->Q ys { s with drawn:=d })->XC (XX prog w) A (drawOrder n xs) Q E s:=by
 intro n
 induction n with
 | zero=>
  intro xs s Q l q
  rw[List.length_eq_zero_iff.mp l]at q⊢
  exact Xl (q [] s.drawn (.refl _))
 | succ n ih=>
  intro xs s Q l q
  cases xs with
  | nil=>cases l
  | cons a xs=>
   rw[drawOrder]
   refine Xb (Zuh (by rw[l];exact Nat.succ_ne_zero _) λi hi=>?_)
   rw[Xi hi]
   dsimp only
   refine Xb (ih _ _ _ (by rw[VR hi];omega) λys d pm=>Xl (q _ d ?_))
   ·exact(pm.cons _).trans (Zr3 hi)
   ·intro z;cases z
noncomputable def Zgf(w:Qq)(S:Addr)(ep:Nat)(es:Array (Int×Xf)):List Xf:=(if byT w then(pickOrder (w.params.setOrder S ep) es).toList else es.toList).map (·.2)
theorem Zfb{w:Qq}{S:Addr}{ep:Nat}{es:Array (Int×Xf)}:(Zgf w S ep es).Perm (es.toList.map (·.2)):=by
 unfold Zgf
 split
 ·exact(Ztb _ es).map _
 ·exact .refl _
noncomputable def Zjt(w:Qq)(t:QZ)(slot i:Nat):Prop:=byT w=false->QR t.place slot=i
theorem Zit{Q:Bool->Xh->Prop}(h:Q (byT w) s):XC (XX prog w) A setsByText Q E s:=by
 unfold setsByText
 exact Xb (wpAny_askSetting (Xl h))
theorem Zjl{S:Addr}{o:Obj}{es:Array (Int×Xf)}{ep slot i:Nat}{t:QZ}{Q:Option (Xf×Nat)->Xh->Prop}(ho:s.heap.get? S=some o)(hd:o.data= .set es ep t)(hf:t.fits es.size=true)(tb:Tb (!byT w) t)(hdr:byT w=false->t.plain=true∨es.size≤1)(hs:Zjt w t slot i)
  (q:∀r,(∀x,(Zgf w S ep es)[i]? =some x->∃nx,r=some (x,nx)∧Zjt w t nx (i+1))->((Zgf w S ep es)[i]? =none->r=none)->Q r s):XC (XX prog w) A (setNext S slot i ep) Q E s:=by
 unfold setNext
 refine Xb (Uw ho hd hf (Xb (Zit ?_)))
 cases hb:byT w with
 | true=>
  have ew:Zgf w S ep es=(pickOrder (w.params.setOrder S ep) es).toList.map (·.2):=by unfold Zgf;rw[hb,if_pos rfl]
  simp only[if_true,bne_self_eq_false,Qi,if_false]
  unfold setWalk
  refine Xb (Xb (Uw ho hd hf (Xb (Zit ?_))))
  rw[hb]
  simp only[if_true]
  refine Xb (wpAny_askSetting (Xl (Xl (q _ (λx hx=>?_) λhx=>?_))))
  ·rw[ew,Xq,Qk]at hx
   show∃nx,Option.map _ (pickOrder (w.params.setOrder S ep) es)[i]? =_∧_
   cases e:(pickOrder (w.params.setOrder S ep) es)[i]? with
   | none=>rw[e]at hx;cases hx
   | some y=>
    rw[e]at hx
    cases hx
    exact⟨slot,rfl,λz=>by rw[hb]at z;cases z⟩
  ·rw[ew,Xq,Qk]at hx
   show Option.map _ (pickOrder (w.params.setOrder S ep) es)[i]? =_
   cases e:(pickOrder (w.params.setOrder S ep) es)[i]? with
   | none=>rfl
   | some y=>rw[e]at hx;cases hx
 | false=>
  have ew:Zgf w S ep es=es.toList.map (·.2):=by unfold Zgf;rw[hb];rfl
  have pl:=hdr hb
  have le:=tb.led
  rw[hb]at le
  have bl:=hs hb
  obtain⟨mask,place,dummies,finger,led,moves,plain⟩:=t
  dsimp only at pl le bl
  subst le
  have sz0:place.size=es.size:=by
   unfold SetTable.fits at hf
   rw[XD,beq_iff_eq]at hf
   exact hf.1
  have up:Up place.toList:=by
   rcases pl with pl|pl
   ·exact tb.up pl
   ·have l1:place.toList.length≤1:=by rw[XR,sz0];exact pl
    generalize place.toList=l at l1
    match l,l1 with
    | [],_=>exact .nil
    | [a],_=>exact List.pairwise_singleton _ _
  have dr:(!plain&&decide (es.size>1))=false:=by
   rcases pl with pl|pl
   ·rw[pl];rfl
   ·rw[decide_eq_false (by omega),Bool.and_false]
  simp only[Qi,if_false]
  show XC _ _ (if(!plain&&decide (es.size>1))=true then _ else _) _ _ _
  rw[dr]
  simp only[Qi,if_false]
  refine Xb (Xl ?_)
  have sz:place.size=es.size:=by
   unfold SetTable.fits at hf
   rw[XD,beq_iff_eq]at hf
   exact hf.1
  rw[bl]
  refine Xl (q _ (λx hx=>?_) λhx=>?_)
  ·rw[ew,Xq,Qk]at hx
   cases e:es[i]? with
   | none=>rw[e]at hx;cases hx
   | some y=>
    rw[e]at hx
    cases hx
    have hi:i<place.size:=by rw[sz];exact(Array.getElem?_eq_some_iff.mp e).1
    have ep:place[i]? =some place[i]:=Vb hi
    rw[ep]
    exact⟨place[i]+1,rfl,λ_=>Zqw up (by rw[Qk];exact ep)⟩
  ·rw[ew,Xq,Qk]at hx
   cases e:es[i]? with
   | none=>rfl
   | some y=>rw[e]at hx;cases hx
end
section
variable {prog:X6}{w:Qq}{A:Qo}{E:Xf->Xh->Prop}{s:Xh}
theorem Zqv{I S:Addr}{o:Obj}{es:Array (Int×Xf)}{ep slot i:Nat}{t:QZ}{x:Xf}{Q:Option Xf->Xh->Prop}(hI:Z9g s.heap I S slot i es.size ep)(ho:s.heap.get? S=some o)(hd:o.data= .set es ep t)(hf:t.fits es.size=true)(tb:Tb (!byT w) t)(hdr:byT w=false->t.plain=true∨es.size≤1)(hs:Zjt w t slot i)(hx:(Zgf w S ep es)[i]? =some x)
  (q:∀h' nx,Z9g h' I S nx (i+1) es.size ep->Zjt w t nx (i+1)->JK I s.heap h'->Q (some x) { s with heap:=h' }):XC (XX prog w) A (Ub (.ref I)) Q E s:=by
 have hT:s.TypeIs (.ref I) "set_iterator" :=⟨_,hI,rfl⟩
 unfold Ub
 refine Xb (U5 (JG (name:=V1 "__next__") hT Z0 (Q8 Z0 hT Wx ?_ (W6 _))))
 unfold Bo.«set_iterator.__next__» slotArgs fieldsOf
 simp only[Uu,V7,Qi,if_false,Vf,bne_self_eq_false,pure_bind,bind_assoc]
 refine Xb (wpAny_load hI ?_)
 dsimp only
 refine Xb (Xl ?_)
 show XC _ _ (setEntries S>>=_) _ _ _
 refine Xb (Ua ho hd hf ?_)
 rw[show(((es.size:Nat):Int) !=((es.size:Nat):Int))=false from bne_self_eq_false _]
 simp only[Qi,if_false]
 show XC _ _ (setNext S slot i ep>>=_) _ _ _
 refine Xb (Zjl ho hd hf tb hdr hs λr h1 _=>?_)
 obtain⟨nx,rfl,sk⟩:=h1 x hx
 dsimp only
 refine Xb (QS hI (by simp) λh2 g2 b2=>?_)
 refine Xb (QS g2 (by simp) λh3 g3 b3=>?_)
 exact Xl ⟨_,rfl,Xl (q h3 nx g3 sk (b2.trans b3))⟩
theorem Zvh{I S:Addr}{o:Obj}{es:Array (Int×Xf)}{ep slot i:Nat}{t:QZ}{Q:Option Xf->Xh->Prop}(hh:A.handled=none)(hI:Z9g s.heap I S slot i es.size ep)(ho:s.heap.get? S=some o)(hd:o.data= .set es ep t)(hf:t.fits es.size=true)(tb:Tb (!byT w) t)(hdr:byT w=false->t.plain=true∨es.size≤1)(hs:Zjt w t slot i)(hx:(Zgf w S ep es)[i]? =none)
  (q:∀h',Heap.ExtBut I s.heap h'->Q none { s with heap:=h' }):XC (XX prog w) A (Ub (.ref I)) Q E s:=by
 have hT:s.TypeIs (.ref I) "set_iterator" :=⟨_,hI,rfl⟩
 unfold Ub
 refine Xb (U5 (JG (name:=V1 "__next__") hT Z0 (Q8 Z0 hT Wx ?_ (W6 _))))
 unfold Bo.«set_iterator.__next__» slotArgs fieldsOf
 simp only[Uu,V7,Qi,if_false,Vf,bne_self_eq_false,pure_bind,bind_assoc]
 refine Xb (wpAny_load hI ?_)
 dsimp only
 refine Xb (Xl ?_)
 show XC _ _ (setEntries S>>=_) _ _ _
 refine Xb (Ua ho hd hf ?_)
 rw[show(((es.size:Nat):Int) !=((es.size:Nat):Int))=false from bne_self_eq_false _]
 simp only[Qi,if_false]
 show XC _ _ (setNext S slot i ep>>=_) _ _ _
 refine Xb (Zjl ho hd hf tb hdr hs λr _ h2=>?_)
 rw[h2 hx]
 dsimp only
 refine Xb (QS hI (by simp) λh3 g3 b3=>?_)
 show XC _ _ (newExc (.type "StopIteration") []>>=_) _ _ _
 refine Xb ?_
 simp only[newExc,newTuple]
 refine Xb (JB ?_ (by size_fits))
 refine Xb (m:=Uy _ _) (wpAny_of_eq (a:=QT) (by first|rfl|(simp only[Uy];rfl)) ?_)
 refine JB ?_ (by size_fits)
 simp only[raiseNew]
 refine Xb (wpAny_handled ?_)
 rw[show A.in1.handled=none from hh]
 refine Xb (Xl (wpAny_throw ?_))
 exact Xb (wpAny_isInstance (T :="StopIteration") (b:=true) ⟨_,Xx _ rfl,rfl⟩ isSubtype_stop (Xl (q _ ((b3.extBut.push _).push _))))
end
noncomputable def Z9h(h:Heap)(I S T:Addr)(i n ep:Nat):Prop:=h.get? I=some { cls:=.type "set_iterator",data:=.fields #[.ref T,JR i,.ref S,JR n,JR ep] }
noncomputable def Zs6(ps:List Nat):Array Xf:=(ps.map λ(i:Nat)=>JR i).toArray
theorem Z2n{ps:List Nat}{i p:Nat}(h:ps[i]? =some p):(Zs6 ps)[i]? =some (JR p):=by
 unfold Zs6
 rw[Ur,Xq,h];rfl
theorem Zvk{ps:List Nat}{i:Nat}(h:ps[i]? =none):(Zs6 ps)[i]? =none:=by
 unfold Zs6
 rw[Ur,Xq,h];rfl
section
variable {prog:X6}{w:Qq}{A:Qo}{E:Xf->Xh->Prop}{s:Xh}
theorem Zq5{I S T:Addr}{o:Obj}{es:Array (Int×Xf)}{ep i p:Nat}{t:QZ}{ps:List Nat}{x:Int×Xf}{Q:Option Xf->Xh->Prop}(hI:Z9h s.heap I S T i es.size ep)(hT2:s.heap.get? T=some { cls:=.type "tuple",data:=.seq (Zs6 ps) })(ho:s.heap.get? S=some o)(hd:o.data= .set es ep t)(hf:t.fits es.size=true)(hp:ps[i]? =some p)(hx:es[p]? =some x)
  (q:∀h',Z9h h' I S T (i+1) es.size ep->JK I s.heap h'->Q (some x.2) { s with heap:=h' }):XC (XX prog w) A (Ub (.ref I)) Q E s:=by
 have hT:s.TypeIs (.ref I) "set_iterator" :=⟨_,hI,rfl⟩
 unfold Ub
 refine Xb (U5 (JG (name:=V1 "__next__") hT Z0 (Q8 Z0 hT Wx ?_ (W6 _))))
 unfold Bo.«set_iterator.__next__» slotArgs fieldsOf
 simp only[Uu,V7,Qi,if_false,Vf,bne_self_eq_false,pure_bind,bind_assoc]
 refine Xb (wpAny_load hI ?_)
 dsimp only
 refine Xb (Xl ?_)
 show XC _ _ (setEntries S>>=_) _ _ _
 refine Xb (Ua ho hd hf ?_)
 rw[show(((es.size:Nat):Int) !=((es.size:Nat):Int))=false from bne_self_eq_false _]
 simp only[Qi,if_false]
 show XC _ _ (seqItems? (.ref T)>>=_) _ _ _
 refine Xb (Bv hT2 rfl ?_)
 dsimp only
 rw[Qp,Z2n hp]
 show XC _ _ (setNextDrawn S p ep>>=_) _ _ _
 unfold setNextDrawn
 refine Xb (Xb (Uw ho hd hf ?_))
 dsimp only
 rw[bne_self_eq_false]
 simp only[Qi,if_false]
 rw[hx]
 refine Xl ?_
 refine Xb (QS hI (by simp) λh2 g2 b2=>?_)
 exact Xl ⟨_,rfl,Xl (q h2 g2 b2)⟩
theorem Zui{I S T:Addr}{o:Obj}{es:Array (Int×Xf)}{ep i:Nat}{t:QZ}{ps:List Nat}{Q:Option Xf->Xh->Prop}(hh:A.handled=none)(hI:Z9h s.heap I S T i es.size ep)(hT2:s.heap.get? T=some { cls:=.type "tuple",data:=.seq (Zs6 ps) })(ho:s.heap.get? S=some o)(hd:o.data= .set es ep t)(hf:t.fits es.size=true)(hp:ps[i]? =none)
  (q:∀h',Heap.ExtBut I s.heap h'->Q none { s with heap:=h' }):XC (XX prog w) A (Ub (.ref I)) Q E s:=by
 have hT:s.TypeIs (.ref I) "set_iterator" :=⟨_,hI,rfl⟩
 unfold Ub
 refine Xb (U5 (JG (name:=V1 "__next__") hT Z0 (Q8 Z0 hT Wx ?_ (W6 _))))
 unfold Bo.«set_iterator.__next__» slotArgs fieldsOf
 simp only[Uu,V7,Qi,if_false,Vf,bne_self_eq_false,pure_bind,bind_assoc]
 refine Xb (wpAny_load hI ?_)
 dsimp only
 refine Xb (Xl ?_)
 show XC _ _ (setEntries S>>=_) _ _ _
 refine Xb (Ua ho hd hf ?_)
 rw[show(((es.size:Nat):Int) !=((es.size:Nat):Int))=false from bne_self_eq_false _]
 simp only[Qi,if_false]
 show XC _ _ (seqItems? (.ref T)>>=_) _ _ _
 refine Xb (Bv hT2 rfl ?_)
 dsimp only
 rw[Qp,Zvk hp]
 dsimp only
 refine Xb (QS hI (by simp) λh2 g2 b2=>?_)
 refine Xb (QS g2 (by simp) λh3 g3 b3=>?_)
 show XC _ _ (newExc (.type "StopIteration") []>>=_) _ _ _
 refine Xb ?_
 simp only[newExc,newTuple]
 refine Xb (JB ?_ (by size_fits))
 refine Xb (m:=Uy _ _) (wpAny_of_eq (a:=QT) (by first|rfl|(simp only[Uy];rfl)) ?_)
 refine JB ?_ (by size_fits)
 simp only[raiseNew]
 refine Xb (wpAny_handled ?_)
 rw[show A.in1.handled=none from hh]
 refine Xb (Xl (wpAny_throw ?_))
 exact Xb (wpAny_isInstance (T :="StopIteration") (b:=true) ⟨_,Xx _ rfl,rfl⟩ isSubtype_stop (Xl (q _ (((b2.trans b3).extBut.push _).push _))))
end
theorem Zi7:entryFor table "set.__iter__"=some Bo.«frozenset.__iter__»:=entryFor_alias (id' :="frozenset.__iter__") (by kernel_rfl) rfl (by decide +kernel) (by kernel_rfl)
theorem Zb7:Slot "set_iterator" "__iter__" "set_iterator.__iter__" :=
 .of (owner :="set_iterator") (n :="__iter__") (by rw[typeLookup_type,builtinLookup_eq_fast];kernel_rfl) (by decide +kernel) (by decide +kernel) (by decide +kernel) (by first|exact .inl (by decide +kernel)|exact .inr (by decide +kernel)) (by rw[isSubtype_type];kernel_rfl)
theorem Zfr:entryFor table "set_iterator.__iter__"=some Bo.«dict_keyiterator.__iter__»:=entryFor_alias (id' :="dict_keyiterator.__iter__") (by kernel_rfl) (by first|rfl|decide +kernel|(unfold String.splitOn;simp +decide [String.splitOnAux])) (by decide +kernel) (by kernel_rfl)
theorem Zfx(a:Xf):argsOk "set_iterator.__iter__" ⟨[a],[]⟩:=by unfold argsOk;kernel_rfl
section
variable {prog:X6}{w:Qq}{A:Qo}{E:Xf->Xh->Prop}{s:Xh}
theorem Zjk{I:Addr}{vs:Array Xf}{Q:Xf->Xh->Prop}(hI:s.heap.get? I=some { cls:=.type "set_iterator",data:=.fields vs })(h:Q (.ref I) s):XC (XX prog w) A (pyIter (.ref I)) Q E s:=by
 have hT:s.TypeIs (.ref I) "set_iterator" :=⟨_,hI,rfl⟩
 refine wpAny_pyIter_slot hT Zb7 (Q8 Zb7 hT Zfr ?_ (Zfx _))
 show XC _ _ (ret (.ref I)) _ _ s
 exact Xl ⟨_,rfl,"set_iterator",_,hT,Z0.lookup,h⟩
theorem Z4d{S:Addr}{o:Obj}{es:Array (Int×Xf)}{ep:Nat}{t:QZ}{Q:Xf->Xh->Prop}(ho:s.heap.get? S=some o)(hex:o.ExactSet)(hd:o.data= .set es ep t)(hf:t.fits es.size=true)(hz:es.size≤1000)
  (q1:(byT w=false->t.plain=true∨es.size≤1)->Q (.ref s.heap.objs.size) { s with heap:=s.heap.push { cls:=.type "set_iterator",data:=.fields #[JR 0,JR 0,.ref S,JR es.size,JR ep] } })
  (q2:∀ps d,ps.Perm (Xv es.size)->Q (.ref (s.heap.objs.size+1)) { s with heap:=(s.heap.push { cls:=.type "tuple",data:=.seq (Zs6 ps) }).push { cls:=.type "set_iterator",data:=.fields #[.ref s.heap.objs.size,JR 0,.ref S,JR es.size,JR ep] },drawn:=d }):XC (XX prog w) A (pyIter (.ref S)) Q E s:=by
 have hT:s.TypeIs (.ref S) "set" :=⟨o,ho,hex.1⟩
 refine wpAny_pyIter_slot hT F.slot_set_iter (Q8 F.slot_set_iter hT Zi7 ?_ (F.args_set_iter_1 _))
 unfold Bo.«frozenset.__iter__» Builtin.Frozenset.slot0 slotArgs
 simp only[Uu,V7,Qi,if_false,Vf,bne_self_eq_false,pure_bind,bind_assoc]
 unfold Builtin.Frozenset.addrOf Builtin.Frozenset.sizeOf setDrawn
 refine Xb (Xl ?_)
 refine Xb (Xb (Ua ho hd hf (Xl ?_)))
 refine Xb (Xb (Uw ho hd hf (Xb (Zit (Xl ?_)))))
 show XC _ _ (if(!byT w&&(!t.plain&&decide (es.size>1)))=true then _ else _) _ _ _
 by_cases c:(!byT w&&(!t.plain&&decide (es.size>1)))=true
 ·rw[if_pos c]
  refine Xb (Z0t _ _ _ _ X8 λps d pm=>?_)
  refine Xb (wpAny_newTuple ?_ (by rw[Xj,pm.length_eq,X8,Qa];omega))
  refine Xb (wpAny_setEpoch_of (Xg _ ho) hd hf ?_)
  have e:(s.heap.push { cls:=.type "tuple",data:=.seq (Zs6 ps) }).objs.size=s.heap.objs.size+1:=QC ..
  refine Xb (JB (Xl ⟨_,rfl,"set_iterator",_,⟨_,Xx _ rfl,rfl⟩,Z0.lookup,?_⟩))
  have:=q2 ps d pm
  rw[←e]at this
  exact this
 ·rw[if_neg c]
  refine Xb (wpAny_setEpoch_of ho hd hf ?_)
  refine Xb (JB (Xl ⟨_,rfl,"set_iterator",_,⟨_,Xx _ rfl,rfl⟩,Z0.lookup,q1 λhb=>?_⟩))
  rw[hb]at c
  cases hp:t.plain with
  | true=>exact .inl rfl
  | false=>
   rw[hp]at c
   exact .inr (Nat.le_of_not_lt λz=>c (by rw[decide_eq_true z];rfl))
theorem Z8p(hh:A.handled=none){I S:Addr}(ne:S≠I){o:Obj}{es:Array (Int×Xf)}{ep:Nat}{t:QZ}(hd:o.data= .set es ep t)(hf:t.fits es.size=true)(tb:Tb (!byT w) t)(hdr:byT w=false->t.plain=true∨es.size≤1) :
  Walks prog w A I [I,S] [I] es.size (λi v=>(Zgf w S ep es)[i]? =some v) (λi h=>(∃slot,Z9g h I S slot i es.size ep∧Zjt w t slot i)∧h.get? S=some o) where
 sub:=λb hb=>by rw[Xu.mp hb];exact .head _
 frame:=λi h h' st k=>by
  obtain⟨⟨slot,h1,h2⟩,h3⟩:=st
  exact⟨⟨slot,k I (.head _) _ h1,h2⟩,k S (.tail _ (.head _)) _ h3⟩
 item:=λi s Q E hi st q=>by
  obtain⟨⟨slot,h1,h2⟩,h3⟩:=st
  have hl:i<(Zgf w S ep es).length:=by rw[Zfb.length_eq,Xj,XR];exact hi
  have hx:=Xi hl
  refine Zqv h1 h3 hd hf tb hdr h2 hx λh' nx g1 g2 g3=>?_
  exact q _ h' s.toks hx ⟨⟨nx,g1,g2⟩,g3.extBut _ _ ne h3⟩ λb o nb e=>g3.extBut _ _ (λz=>nb (Xu.mpr z)) e
 done:=λs Q E st q=>by
  obtain⟨⟨slot,h1,h2⟩,h3⟩:=st
  refine Zvh hh h1 h3 hd hf tb hdr h2 (Q6 (by rw[Zfb.length_eq,Xj,XR];exact XN _)) λh' g=>?_
  exact q h' s.toks λb o nb e=>g _ _ (λz=>nb (Xu.mpr z)) e
 self:=λi s Q E st q=>by
  obtain⟨⟨slot,h1,h2⟩,h3⟩:=st
  exact Zjk h1 q
noncomputable def Zla(ps:List Nat)(es:Array (Int×Xf)):List Xf:=ps.filterMap λp=>es[p]?.map (·.2)
theorem Zl5{ps:List Nat}{es:Array (Int×Xf)}(pm:ps.Perm (Xv es.size)):(Zla ps es).Perm (es.toList.map (·.2)):=by
 have e:Zla (Xv es.size) es=es.toList.map (·.2):=by
  have h:=filterMap_getElem?_range es
  unfold Zla
  rw[←List.map_filterMap,h]
 rw[←e]
 exact pm.filterMap _
theorem Z0k{ps:List Nat}{es:Array (Int×Xf)}(h:∀p∈ps,p<es.size):∀{i p:Nat},ps[i]? =some p->∃x,es[p]? =some x∧(Zla ps es)[i]? =some x.2:=by
 induction ps with
 | nil=>intro i p e;cases e
 | cons a ps ih=>
  intro i p e
  have ha:=h a (.head _)
  have ea:es[a]? =some es[a]:=Vb ha
  have ed:Zla (a :: ps) es=es[a].2 :: Zla ps es:=by
   unfold Zla
   rw[QH,ea];rfl
  rw[ed]
  cases i with
  | zero=>
   cases e
   exact⟨_,ea,rfl⟩
  | succ i=>exact ih (λp m=>h p (.tail _ m)) e
theorem Z5b(hh:A.handled=none){I S T:Addr}(n1:S≠I)(n2:T≠I){o:Obj}{es:Array (Int×Xf)}{ep:Nat}{t:QZ}{ps:List Nat}(hd:o.data= .set es ep t)(hf:t.fits es.size=true)(pm:ps.Perm (Xv es.size)) :
  Walks prog w A I [I,S,T] [I] es.size (λi v=>(Zla ps es)[i]? =some v) (λi h=>Z9h h I S T i es.size ep∧h.get? S=some o∧h.get? T=some { cls:=.type "tuple",data:=.seq (Zs6 ps) }) where
 sub:=λb hb=>by rw[Xu.mp hb];exact .head _
 frame:=λi h h' st k=>⟨k I (.head _) _ st.1,k S (.tail _ (.head _)) _ st.2.1,k T (.tail _ (.tail _ (.head _))) _ st.2.2⟩
 item:=λi s Q E hi st q=>by
  have hl:i<ps.length:=by rw[pm.length_eq,X8];exact hi
  have hp:=Xi hl
  obtain⟨x,h1,h2⟩:=Z0k (es:=es) (λp m=>Ql.mp (pm.mem_iff.mp m)) hp
  refine Zq5 st.1 st.2.2 st.2.1 hd hf hp h1 λh' g1 g3=>?_
  exact q _ h' s.toks h2 ⟨g1,g3.extBut _ _ n1 st.2.1,g3.extBut _ _ n2 st.2.2⟩ λb o nb e=>g3.extBut _ _ (λz=>nb (Xu.mpr z)) e
 done:=λs Q E st q=>by
  refine Zui hh st.1 st.2.2 st.2.1 hd hf (Q6 (by rw[pm.length_eq,X8];exact XN _)) λh' g=>?_
  exact q h' s.toks λb o nb e=>g _ _ (λz=>nb (Xu.mpr z)) e
 self:=λi s Q E st q=>Zjk st.1 q
end
theorem Z1p:typeLookup (.type "set") "__len__"=pure (some (.builtin "set.__len__")):=F.slot_set_len.lookup
section
variable {prog:X6}{w:Qq}{A:Qo}{E:Xf->Xh->Prop}{s:Xh}
theorem Zy9{S:Addr}{o:Obj}{Q:Bool->Xh->Prop}(ho:s.heap.get? S=some o)(hex:o.ExactSet)(h:Q false s):XC (XX prog w) A (Builtin.List.listLengthHint (.ref S)) Q E s:=by
 have hT:s.TypeIs (.ref S) "set" :=⟨o,ho,hex.1⟩
 unfold Builtin.List.listLengthHint
 refine Xb (wpAny_specialOf hT Z1p ?_)
 generalize hid:("set.__len__" : String)=id0
 (fail_if_success (clear hid id0))
 wp_delta
 rw[show splitId id0=some ("set","__len__")from by subst hid;decide +kernel]
 subst hid
 refine Xb (wpAny_isInstance (b:=true) hT (by rw[isSubtype_type];kernel_rfl) ?_)
 simp only[V7,Qi,if_false]
 rw[if_pos (by decide +kernel)]
 refine Xb (wpAny_typeOf hT ?_)
 exact Xl h
theorem Zl4{I N:Addr}{fp wr:List Addr}{n:Nat}{P:Nat->Xf->Prop}{St:Nat->Heap->Prop}{R:Result->Xh->Prop}(W:Walks prog w A.in1 I fp wr n P St)(hn:n≤1000)(hN:N∉fp)(st:St 0 s.heap)(gN:s.heap.get? N=some { cls:=.type "list",data:=.seq #[] 2 })
  (q:∀h' tk (acc:Array Xf) c,acc.size=n->(∀(j:Nat) v,acc[j]? =some v->P j v)->h'.get? N=some { cls:=.type "list",data:=.seq acc c }->(∀b o,b∉N :: wr->s.heap.get? b=some o->h'.get? b=some o)->R (.ok (.ret (.ref N))) { s with heap:=h',toks:=tk }) :
  U6 (XX prog w) A (.builtin "list.extend.loop" ⟨[.ref N,.ref I,.ref N],[]⟩) R s:=by
 refine codeAny_extend_loopS W.toS (by rw[Qa];omega) N hN (.ref N) n 0 s #[] 2 rfl (Qt _) st gN (ItemsOf.nil P) λs' acc c hm g it=>?_
 obtain⟨h',g',d',tk',os'⟩:=s'
 have eg:g'=s.gens:=hm.gens
 have ed:d'=s.drawn:=hm.drawn
 have eo:os'=s.os:=hm.os
 subst eg ed eo
 exact q h' tk' acc c it.1 it.2 g hm.heap
theorem Ztl{N:Addr}{Q:Unit->Xh->Prop}(gN:s.heap.get? N=some { cls:=.type "list",data:=.seq #[] 0 })(q:∀h',h'.get? N=some { cls:=.type "list",data:=.seq #[] 2 }->JK N s.heap h'->Q () { s with heap:=h' }):XC (XX prog w) A (Builtin.List.listTouch (.ref N)) Q E s:=by
 unfold Builtin.List.listTouch
 refine Xb (listUpdate_at gN rfl ?_ (by rw[Qa];exact Qt _) (by rw[Qa];exact Nat.le_of_ble_eq_true rfl))
 have g1:=get?_update_seq (c :="list") (n:=0) gN (·.push .none)
 refine listUpdate_at g1 rfl (q _ ?_ ((JD ..).trans (JD ..))) (by rw[Qa];exact Nat.le_of_ble_eq_true rfl) (by rw[Qa];exact Qt _)
 exact get?_update_seq (c :="list") g1 (·.pop)
end
section
variable {prog:X6}{w:Qq}{A:Qo}{E:Xf->Xh->Prop}{s:Xh}
theorem Zjc{α:Type}{l:List α}{acc:Array α}(h:acc.size=l.length)(k:∀(j:Nat) v,acc[j]? =some v->l[j]? =some v):acc.toList=l:=by
 refine List.ext_getElem? λj=>?_
 rw[Qk]
 cases e:acc[j]? with
 | some v=>exact(k j v e).symm
 | none=>
  have:=Array.getElem?_eq_none_iff.mp e
  exact(Q6 (by omega)).symm
theorem Zvx{S:Addr}{o:Obj}{es:Array (Int×Xf)}{ep:Nat}{t:QZ}{Q:List Xf->Xh->Prop}(hh:A.handled=none)(ho:s.heap.get? S=some o)(hex:o.ExactSet)(hd:o.data= .set es ep t)(hf:t.fits es.size=true)(tb:Tb (!byT w) t)(hz:es.size≤1000)
  (q:∀h' tk d acc,acc.Perm (es.toList.map (·.2))->s.heap.objs.size≤h'.objs.size->(∀b o,b<s.heap.objs.size->s.heap.get? b=some o->h'.get? b=some o)->Q acc { s with heap:=h',toks:=tk,drawn:=d }):XC (XX prog w) A (collect (.ref S)) Q E s:=by
 have lS:S<s.heap.objs.size:=XH ho
 unfold collect
 refine Xb (wpAny_runValue (JT F.entry_proto_collect ?_));rw[Q9 F.plain_proto_collect _]
 show XC _ A.in1 (newList []>>= λl=>again (.builtin "list.__iadd__" ⟨[l,.ref S],[]⟩)) _ _ s
 refine Xb (JB (Xl ⟨Vp F.plain_list_iadd _,JT F.entry_list_iadd ?_⟩));rw[Q9 F.plain_list_iadd _]
 have g0:(s.heap.push { cls:=.type "list",data:=.seq ([]:List Xf).toArray }).get? s.heap.objs.size=some { cls:=.type "list",data:=.seq #[] 0 }:=Xx _ rfl
 have s0:(s.heap.push { cls:=.type "list",data:=.seq ([]:List Xf).toArray }).objs.size=s.heap.objs.size+1:=QC ..
 have ho1:(s.heap.push { cls:=.type "list",data:=.seq ([]:List Xf).toArray }).get? S=some o:=Xg _ ho
 generalize hH:s.heap.push { cls:=.type "list",data:=.seq ([]:List Xf).toArray }=H1 at g0 s0 ho1⊢
 have old:∀b o,s.heap.get? b=some o->H1.get? b=some o:=λb o e=>by rw[←hH];exact Xg _ e
 show XC _ A.in1 (Builtin.List.listExtendWith (.ref s.heap.objs.size) (.ref S) (.ref s.heap.objs.size)) _ _ { s with heap:=H1 }
 have hT1:Shared.TypeIs { s with heap:=H1 } (.ref S) "set" :=⟨o,ho1,hex.1⟩
 have ns:Builtin.List.listSameRef (.ref s.heap.objs.size) (.ref S)=false:=by simp[Builtin.List.listSameRef,XJ lS]
 unfold Builtin.List.listExtendWith
 refine Xb (wpAny_typeOf hT1 ?_)
 rw[if_neg (by rw[ns];decide)]
 refine Xb (Z4d (s:={ s with heap:=H1 }) ho1 hex hd hf hz (λhdr=>?_) λps d pm=>?_)
 ·refine Xb (Bs (Zy9 (Xg _ ho1) hex ?_))
  rw[if_pos (by decide +kernel)]
  refine Xb (Uk (Xb (Ztl (Xg _ g0) λh2 g2 b2=>Xl ⟨Vp F.plain_extend_loop _,?_⟩)))
  have gI:h2.get? H1.objs.size=some { cls:=.type "set_iterator",data:=.fields #[JR 0,JR 0,.ref S,JR es.size,JR ep] }:=b2.extBut _ _ (by rw[s0];exact XJ (Qx _)) (Xx _ rfl)
  have gS:h2.get? S=some o:=b2.extBut _ _ (Xn lS) (Xg _ ho1)
  refine Zl4 (I:=H1.objs.size) (s:={ s with heap:=h2 }) (Z8p (S:=S) (by simpa using hh) (by rw[s0];exact Xn (Bc lS)) hd hf tb hdr) hz (λm=>?_) ⟨⟨0,gI,λhb=>?_⟩,gS⟩ g2 λh' tk acc c l1 l2 g k=>?_
  ·rw[s0]at m
   rcases Xr.mp m with e|m
   ·exact Xn (Qx _) e
   ·exact XJ lS (Xu.mp m)
  ·refine Zqp ?_
   rcases hdr hb with z|z
   ·exact tb.up z
   ·have sz:t.place.size=es.size:=by
     unfold SetTable.fits at hf
     rw[XD,beq_iff_eq]at hf
     exact hf.1
    have l1:t.place.toList.length≤1:=by rw[XR,sz];exact z
    generalize t.place.toList=l at l1
    match l,l1 with
    | [],_=>exact .nil
    | [a],_=>exact List.pairwise_singleton _ _
  ·have ea:acc.toList=Zgf w S ep es:=Zjc (by rw[l1,Zfb.length_eq,Xj,XR]) l2
   show XC _ A (load s.heap.objs.size>>=_) _ _ { s with heap:=h',toks:=tk }
   refine Xb (wpAny_load g (Xl (q h' tk s.drawn acc.toList (ea▸Zfb) (Ul (XH g)) λb o lb e=>k b o (λm=>?_) (b2.extBut _ _ (Xn lb) (Xg _ (old b o e))))))
   rcases Xr.mp m with z|m
   ·exact Xn lb z
   ·rw[Xu.mp m,s0]at lb
    exact BL _ (Nat.lt_of_succ_lt lb)
 ·refine Xb (Bs (Zy9 (Xg _ (Xg _ ho1)) hex ?_))
  rw[if_pos (by decide +kernel)]
  refine Xb (Uk (Xb (Ztl (Xg _ (Xg _ g0)) λh2 g2 b2=>Xl ⟨Vp F.plain_extend_loop _,?_⟩)))
  have s1:(H1.push { cls:=.type "tuple",data:=.seq (Zs6 ps) }).objs.size=s.heap.objs.size+1+1:=by rw[QC,s0]
  have gI:h2.get? (s.heap.objs.size+1+1)=some { cls:=.type "set_iterator",data:=.fields #[.ref H1.objs.size,JR 0,.ref S,JR es.size,JR ep] }:=b2.extBut _ _ (XJ (Bc (Qx _))) (by rw[←s1];exact Xx _ rfl)
  have gS:h2.get? S=some o:=b2.extBut _ _ (Xn lS) (Xg _ (Xg _ ho1))
  have gT:h2.get? H1.objs.size=some { cls:=.type "tuple",data:=.seq (Zs6 ps) }:=b2.extBut _ _ (by rw[s0];exact XJ (Qx _)) (Xg _ (Xx _ rfl))
  rw[show H1.objs.size+1=s.heap.objs.size+1+1 by rw[s0]]
  refine Zl4 (I:=s.heap.objs.size+1+1) (s:={ s with heap:=h2,drawn:=d }) (Z5b (S:=S) (T:=H1.objs.size) (by simpa using hh) (Xn (Bc (Bc lS))) (by rw[s0];exact Xn (Qx _)) hd hf pm) hz (λm=>?_) ⟨gI,gS,gT⟩ g2 λh' tk acc c l1 l2 g k=>?_
  ·rcases Xr.mp m with e|m
   ·exact Xn (Bc (Qx _)) e
   rcases Xr.mp m with e|m
   ·exact XJ lS e
   ·have:=Xu.mp m
    rw[s0]at this
    exact Xn (Qx _) this
  ·have ea:acc.toList=Zla ps es:=Zjc (by rw[l1,(Zl5 pm).length_eq,Xj,XR]) l2
   show XC _ A (load s.heap.objs.size>>=_) _ _ { s with heap:=h',toks:=tk,drawn:=d }
   refine Xb (wpAny_load g (Xl (q h' tk d acc.toList (ea▸Zl5 pm) (Ul (XH g)) λb o lb e=>k b o (λm=>?_) (b2.extBut _ _ (Xn lb) (Xg _ (Xg _ (old b o e)))))))
   rcases Xr.mp m with z|m
   ·exact Xn lb z
   ·rw[Xu.mp m]at lb
    exact BL _ (Nat.lt_of_succ_lt (Nat.lt_of_succ_lt lb))
end
theorem ints_of{vs:List Xf}(h:∀v∈vs,∃k t,v= .int k t):JN vs (vs.map vI):=by
 induction vs with
 | nil=>exact .nil
 | cons v vs ih=>
  obtain⟨k,t,rfl⟩:=h v (.head _)
  exact .cons k t (ih λu m=>h u (.tail _ m))
section
variable {prog:X6}{w:Qq}{A:Qo}{E:Xf->Xh->Prop}{s:Xh}
theorem Zw5{S:Addr}{ks:List Int}{Q:Xf->Xh->Prop}(hh:A.handled=none)(hS:SetI prog w (!byT w) s.heap S ks)(h64:ks.length<64)
  (q:∀h' tk d L (out:List Xf) c,s.heap.objs.size≤L->h'.get? L=some { cls:=.type "list",data:=.seq out.toArray c }->JN out (Yv ks)->(∀b o,b<s.heap.objs.size->s.heap.get? b=some o->h'.get? b=some o)->Q (.ref L) { s with heap:=h',toks:=tk,drawn:=d }):XC (XX prog w) A (call (.builtin "sorted") [.ref S]) Q E s:=by
 obtain⟨o,es,ep,t,ho,hex,hd,he,hb,hf,tb,rfl⟩:=hS
 rw[Xj,XR]at h64
 refine Calls.call_function_entry kind_sorted plain_sorted entry_sorted (args_sorted1 _) ?_
 unfold Bo.«sorted»
 refine Xb (m:=checkCount "sorted" 1 1 _) (Xl ?_)
 refine Xb (Zvx (by simpa using hh) ho hex hd hf tb (by omega) λh1 tk d acc pm lN k1=>?_)
 have la:acc.length=es.size:=by rw[pm.length_eq,Xj,XR]
 refine Xb (wpAny_newList ?_ (by rw[Qa];omega))
 have ga:(h1.push (BJ "list" acc.toArray 0)).get? h1.objs.size=some (BJ "list" acc.toArray 0):=Xx _ rfl
 have ia:JN acc (acc.map vI):=ints_of λv m=>by
  obtain⟨e,me,rfl⟩:=Qe.mp (pm.mem_iff.mp m)
  obtain⟨⟨k,i1,_⟩,_⟩:=he e me
  obtain⟨t',e2⟩:=Zug i1
  exact⟨k,t',e2⟩
 refine Xb (Bs (Q8 slot_list_sort ⟨_,ga,rfl⟩ entry_list_sort (list_sort_tree ga ia (by omega) λout ns' a1 a2 a3=>⟨_,rfl,?_⟩) (args_list_sort _)))
 have en:ns'=Yv (es.toList.map λe=>vI e.2):=Wo (a2.trans (((pm.map vI).trans (by rw[X5];exact .refl _)).trans (Z8 _).symm)) a3 (Y6 _)
 subst en
 have g1:=get?_update_seq (c :="list") ga (λ_=>(#[]:Array Xf))
 have g3:=get?_update_seq (c :="list") (Xg (BJ "list" #[] 0) (Xg (BJ "tuple" acc.toArray 0) g1)) (λ_=>out)
 refine Xl ⟨_,rfl,q _ tk d _ out.toList _ lN (by rw[Array.toArray_toList];exact g3) a1 λb o lb e=>?_⟩
 have nb:b≠h1.objs.size:=Xn (X4 lb lN)
 exact(JD ..).extBut _ _ nb (Xg _ (Xg _ ((JD ..).extBut _ _ nb (Xg _ (k1 b o lb e)))))
end
theorem Inv.drawn{X:Cx}{pins:List (Addr×Obj)}{σ:St}{H:Hp}{s:Xh}(I:Inv X pins σ H s)(d:Drawn):Inv X pins σ H { s with drawn:=d }:=by
 refine I.call (ch:=[]) (g':=s.gens) (d':=d) (t':=s.toks) ⟨λb o e _ _ _=>e,λb o e _ _ _=>⟨o.slots,e⟩,λb o e n _=>n,λb o e _=>⟨o,e⟩,λb ys e=>e,λb o u e=>e,λb ps e=>⟨#[],by rw[e];simp⟩⟩ (λb u e=>I.hok b u e) I.bare (λb hb=>nomatch hb)
noncomputable def dnc:List Int->List Int
 | []=>[]
 | x :: xs=>if x∈xs then dnc xs else x :: dnc xs
theorem Zmi(ns:List Int):Of (dnc ns) ns:=by
 induction ns with
 | nil=>exact⟨.nil,λx=>.rfl⟩
 | cons a ns ih=>
  rw[dnc]
  split
  ·rename_i c
   exact⟨ih.1,λx=>by rw[ih.2,Xr];exact⟨.inr,λm=>m.elim (λe=>e▸c) id⟩⟩
  ·rename_i c
   exact⟨Qm.mpr ⟨λm=>c ((ih.2 a).mp m),ih.1⟩,λx=>by rw[Xr,Xr,ih.2]⟩
theorem Z18(ns:List Int):(dnc ns).length≤ns.length:=by
 induction ns with
 | nil=>exact XN _
 | cons a ns ih=>
  rw[dnc]
  split
  ·exact Nat.le_succ_of_le ih
  ·exact Nat.succ_le_succ ih
theorem Z4z{ks ns:List Int}(h:Of ks ns):ks.length≤ns.length:=by
 have pm:ks.Perm (dnc ns):=(VP h.1 (Zmi ns).1).mpr λx=>by rw[h.2,(Zmi ns).2]
 rw[pm.length_eq];exact Z18 ns
theorem Ztu{ks ns:List Int}(h:Of ks ns):Yv ks=Yv (dnc ns):=by
 have pm:ks.Perm (dnc ns):=(VP h.1 (Zmi ns).1).mpr λx=>by rw[h.2,(Zmi ns).2]
 exact Wo ((Z8 ks).trans (pm.trans (Z8 _).symm)) (Y6 _) (Y6 _)
section
variable {X:Cx}{p c:Bool}{io:List Nat}{a e:Expr}{pos pos' pl pr:Pos}{t:TA}{mr:MAt}{ra:FA}
noncomputable def tSS(K:Xc)(t:TA):TE:=λσ H Q=>t σ H λvs H1=>∃(l:Addr) (ns:List Int),vs=[.ref l]∧SqL K H1 l (ns.map V.int)∧ns.length<64∧∀p,H1 p=none->Q (.ref p) (upd H1 p (.lst ((Yv (dnc ns)).map V.int)))
theorem Zrj(hc:X.calm=true)(hgl:Gl X "sorted")(hml:X.mg "sorted"=none)(hvl:Qh "sorted"=some (.builtin "sorted"))(hg:Gl X "set")(hm:X.mg "set"=none)(hv:Qh "set"=some (.type "set"))(ha:PA X [a] t)
  (he:Xo [a] X.env=(false,eval a X.env) :: Xo [] X.env:=by rfl) (hpl:(JF pos' (Xo [] X.env)).any (·.1)=false:=by rfl)
  (he':Xo [.Call (.Name "set" pr) [a] [] pos'] X.env=(false,eval (.Call (.Name "set" pr) [a] [] pos') X.env) :: Xo [] X.env:=by rfl) (hpl':(JF pos (Xo [] X.env)).any (·.1)=false:=by rfl) :
  PE X (.Call (.Name "sorted" pl) [.Call (.Name "set" pr) [a] [] pos'] [] pos) (tSS X.K t):=by
 intro pins s σ H Q I h
 refine Vx (Zgz I hgl hml hvl ?_ (by decide) (by decide))
 refine PyProof.Rows.callWith_builtin1 ?_ he' hpl'
 rw[he']
 show XC _ _ (spliced ((false,eval (.Call (.Name "set" pr) [a] [] pos') X.env) :: JF pos (Xo [] X.env))) _ _ s
 have inner:XC (XX X.prog X.w) X.A (eval (.Call (.Name "set" pr) [a] [] pos') X.env) (λu s2=>∃(S:Addr) (ks ns:List Int) (H1:Hp),u=Qn S∧SetI X.prog X.w (!byT X.w) s2.heap S ks∧Of ks ns∧ns.length<64∧Inv X pins σ H1 s2∧∀p,H1 p=none->Q (.ref p) (upd H1 p (.lst ((Yv (dnc ns)).map V.int)))) X.xe s:=by
  refine Vx (Zgz I hg hm hv ?_ (by decide) (by decide))
  refine Bp (thn (ha pos' pins s σ H _ I h) λus s1 qz=>?_) he hpl
  obtain⟨vs,H1,I1,r1,l,ns,rfl,hs,h64,q⟩:=qz
  obtain⟨u,rfl,ru⟩:=vals1 r1
  cases(show u=Qn l from ru)
  obtain⟨its,rv,pl,hz⟩:=I1.list hs
  obtain⟨ps,rfl,e2⟩:=Zf4 rv
  have lp:ps.length=ns.length:=by rw[←e2,Xj]
  refine Zse (its:=(ps.map λp=>Vs p.1 p.2).toArray) (ns:=ns) (I1.ok.hd hc) pl.isList (by simp[lp]) (by rw[Xz,Xj];unfold scanBound;omega) (λi v ev=>?_) λh' tk ks a1 a2 a3=>?_
  ·rw[Ur,Xq]at ev
   cases ep:ps[i]? with
   | none=>rw[ep]at ev;cases ev
   | some p=>
    rw[ep]at ev
    cases ev
    exact⟨p.1,p.2,rfl,by rw[←e2,Xq,ep];rfl⟩
  ·exact⟨_,ks,ns,H1,rfl,a1,a2,h64,I1.kept (t':=tk) (λb u e=>a3 b u (XH e) e),q⟩
 refine Calls.spliced_cons (thn inner λu s2 qz=>?_)
 obtain⟨S,ks,ns,H1,rfl,hS,hO,h64,I2,q⟩:=qz
 refine Calls.spliced_nil ?_
 have lk:ks.length≤ns.length:=Z4z hO
 refine Zw5 (I2.ok.hd hc) hS (by omega) λh' tk d L out cc lN g io k=>?_
 rw[Ztu hO]at io
 have ld:((Yv (dnc ns)).map V.int).length≤Xy:=by
  rw[Xj,←Ztu hO,(Z8 ks).length_eq,Qa];omega
 refine⟨.ref L,_,(I2.laid (t':=tk) (o:=.lst ((Yv (dnc ns)).map V.int)) (λb ob e=>k b ob (XH e) e) lN ⟨ld,out,cc,Z00 io,g⟩).drawn d,rfl,q _ (I2.hok.fresh lN)⟩
noncomputable def Zqc(mr:MAt):MEt:=λδ K=>mr δ λrs δ'=>n1 (λd=>∃ns:List Int,d= .list (ns.map Xk)∧ns.length<64∧K (.nd (((Yv (dnc ns)).map Xk).map OT.fz)) δ') (OT.datas rs)
theorem Zvf(hc:X.calm=true)(hgl:Gl X "sorted")(hml:X.mg "sorted"=none)(hvl:Qh "sorted"=some (.builtin "sorted"))(hg:Gl X "set")(hm:X.mg "set"=none)(hv:Qh "set"=some (.type "set"))(ha:MA X io p c [a] mr)
  (he:Xo [a] X.env=(false,eval a X.env) :: Xo [] X.env:=by rfl) (hpl:(JF pos' (Xo [] X.env)).any (·.1)=false:=by rfl)
  (he':Xo [.Call (.Name "set" pr) [a] [] pos'] X.env=(false,eval (.Call (.Name "set" pr) [a] [] pos') X.env) :: Xo [] X.env:=by rfl) (hpl':(JF pos (Xo [] X.env)).any (·.1)=false:=by rfl) :
  ME X io p true (.Call (.Name "sorted" pl) [.Call (.Name "set" pr) [a] [] pos'] [] pos) (Zqc mr):=by
 obtain⟨_,A,s⟩:=ha
 refine⟨_,Zrj hc hgl hml hvl hg hm hv A he hpl he' hpl',λC H σ δ fp ex K Q R h kk=>s C H σ δ fp ex _ _ R h λH1 vs rs δ1 fp1 new r1 h1=>?_⟩
 obtain⟨v,d,rfl,e2,q,ns,e,h64,h2⟩:=(r1.das R).one h1
 subst e
 obtain⟨l,rfl,hs⟩:=q.ints_sq
 refine⟨l,ns,rfl,hs,h64,λp hp=>?_⟩
 have sm:=Yo hp (.lst ((Yv (dnc ns)).map V.int))
 exact kk _ _ _ δ1 fp1 [p] (RE.tree R r1.base r1.stp sm (Zc7 hp) (Zgp p) (Own.list hp (Das.ints _))) h2
noncomputable def Zhb(a:FA):FE:=λδ=>(a δ).bind λq=>match OT.datas q.1 with|[.list es]=>(Zbj es).bind λns=>if ns.length<64 then some (.nd (((Yv (dnc ns)).map Xk).map OT.fz),q.2)else none|_=>none
theorem Zrd{c:Bool}{e:Expr}(h:ME X io p c e (Zqc (o2 ra))):ME X io p c e (o2 (Zhb ra)):=h.weak λδ K h=>by
 obtain⟨r,δ',h,k⟩:=h
 obtain⟨⟨x,δ1⟩,h1,h⟩:=bs h
 refine⟨x,δ1,h1,?_⟩
 dsimp only at h⊢
 split at h
 case h_2=>cases h
 rename_i es q
 rw[q]
 obtain⟨ns,h2,h⟩:=bs h
 split at h
 case isFalse=>cases h
 rename_i l64
 cases h
 exact⟨ns,by rw[Jq h2],l64,k⟩
end
section
variable {κ:Type}[DecidableEq κ]
noncomputable def Zv5(kvs:List (κ×V))(k:κ):Option V:=(kvs.find? λkv=>decide (kv.1=k)).map (·.2)
noncomputable def putK(kvs:List (κ×V))(k:κ)(v:V):List (κ×V) :=
 if(kvs.any λkv=>decide (kv.1=k))=true then kvs.map (λkv=>if kv.1=k then(kv.1,v)else kv)else kvs ++ [(k,v)]
theorem Zw8{p:κ×V}{r:List (κ×V)}{k:κ}(e:p.1=k):Zv5 (p :: r) k=some p.2:=by simp[Zv5,List.find?_cons,e]
theorem Zws{p:κ×V}{r:List (κ×V)}{k:κ}(e:¬p.1=k):Zv5 (p :: r) k=Zv5 r k:=by simp[Zv5,List.find?_cons,e]
theorem KV.length{kvs:List (κ×V)}{vs:List (κ×Xf)}(r:KV kvs vs):kvs.length=vs.length:=Paired.length r
end
noncomputable abbrev KT(H:Hp):List (List Key×V)->List (List Key×Addr×Xf)->Prop:=Paired λp q=>p.1=q.1∧H q.2.1=some (.tup (p.1.map kV))∧RelV p.2 q.2.2
section
variable {P:X6}{w:Qq}{H:Hp}{h:Heap}{a:Addr}
end
noncomputable def DGet(H:Hp)(a:Addr)(y:V)(r:Option V):Prop :=
 (∃ kvs k,Rd H a (.dK kvs)∧y=kV k∧r=Zv5 kvs k)∨∃kvs k b,Rd H a (.dT kvs)∧y= .ref b∧H b=some (.tup (k.map kV))∧r=Zv5 kvs k
noncomputable def DPut(H:Hp)(a:Addr)(y v:V)(H':Hp):Prop :=
 (∃ kvs k,H a=some (.dK kvs)∧y=kV k∧kvs.length<Xy∧H'=upd H a (.dK (putK kvs k v)))∨
 ∃kvs k b,H a=some (.dT kvs)∧y= .ref b∧H b=some (.tup (k.map kV))∧kvs.length<Xy∧H'=upd H a (.dT (putK kvs k v))
theorem DGet.k{H:Hp}{a:Addr}{kvs:List (Key×V)}{k:Key}(e:H a=some (.dK kvs)):DGet H a (kV k) (Zv5 kvs k):=.inl ⟨kvs,k,.inl e,rfl,rfl⟩
theorem DGet.t{H:Hp}{a b:Addr}{kvs:List (List Key×V)}{k:List Key}(e:H a=some (.dT kvs))(eb:H b=some (.tup (k.map kV))):DGet H a (.ref b) (Zv5 kvs k):=.inr ⟨kvs,k,b,.inl e,rfl,eb,rfl⟩
theorem DPut.k{H:Hp}{a:Addr}{kvs:List (Key×V)}{k:Key}{v:V}(e:H a=some (.dK kvs))(hl:kvs.length<Xy):DPut H a (kV k) v (upd H a (.dK (putK kvs k v))):=.inl ⟨kvs,k,e,rfl,hl,rfl⟩
theorem DPut.t{H:Hp}{a b:Addr}{kvs:List (List Key×V)}{k:List Key}{v:V}(e:H a=some (.dT kvs))(eb:H b=some (.tup (k.map kV)))(hl:kvs.length<Xy) :
  DPut H a (.ref b) v (upd H a (.dT (putK kvs k v))):=.inr ⟨kvs,k,b,e,rfl,eb,hl,rfl⟩
section
variable {X:Cx}{pins:List (Addr×Obj)}{σ:St}{H:Hp}{s:Xh}{a:Addr}{y v:V}{u r:Xf}{o:Option V}{A:Qo}{E:Xf->Xh->Prop}
end
section
variable {X:Cx}{pins:List (Addr×Obj)}{σ:St}{H:Hp}{s:Xh}{a:Addr}{kvs:List (Key×V)}{k:Key}{u:Xf}{A:Qo}{E:Xf->Xh->Prop}
end
section
variable {X:Cx}{o i e value:Expr}{pos pos' tpos:Pos}{td ty tv:TE}
end
section
variable {X:Cx}{pos:Pos}
end
noncomputable abbrev VV:List (V×V)->List (Xf×Xf)->Prop:=Paired λp q=>RelV p.1 q.1∧RelV p.2 q.2
structure M1(X:Cx)(o:Expr)(m:Str)(apos:Pos)(e:Expr)(cpos:Pos):Prop where
 base:VN o m X.env (eval o X.env)=eval o X.env
 few:((JF cpos (Xo [e] X.env)).all (λx=>!x.1)&&(backToKw cpos (Um [] X.env)).all (λx=>x.1.isSome)
  &&decide (([e]:List Expr).length+([]:List VB).length+(if([]:List VB).isEmpty then 0 else 1)<30))=true
 line:(apos.endLine==cpos.line)=true
 trees:JF cpos (Xo [e] X.env)=[(false,eval e X.env)]
structure M2(X:Cx)(o:Expr)(m:Str)(apos:Pos)(e f:Expr)(cpos:Pos):Prop where
 base:VN o m X.env (eval o X.env)=eval o X.env
 few:((JF cpos (Xo [e,f] X.env)).all (λx=>!x.1)&&(backToKw cpos (Um [] X.env)).all (λx=>x.1.isSome)
  &&decide (([e,f]:List Expr).length+([]:List VB).length+(if([]:List VB).isEmpty then 0 else 1)<30))=true
 line:(apos.endLine==cpos.line)=true
 trees:JF cpos (Xo [e,f] X.env)=[(false,eval e X.env),(false,eval f X.env)]
section
variable {X:Cx}{pins:List (Addr×Obj)}{σ:St}{H:Hp}{s:Xh}{a:Addr}{y d:V}{u r:Xf}{o:Option V}{A:Qo}{E:Xf->Xh->Prop}
end
section
variable {X:Cx}{o e f:Expr}{apos cpos:Pos}{td ty tx:TE}
end
variable {G:Xc}
noncomputable def Yb2(k:KY):List KY->List Xa->Option Xa
 | [],_=>none
 | _ :: _,[]=>none
 | j :: ks,d :: ds=>if j=k then some d else Yb2 k ks ds
section
variable {H:Hp}{L:Addr->Prop}{κ:Type}[DecidableEq κ]{f:κ->KY}
noncomputable def Yde(G:Xc)(H:Hp)(L:Addr->Prop)(a:Option V)(b:Option Xa):Prop:=(∃v d,a=some v∧b=some d∧Da G H L v d)∨(a=none∧b=none)
theorem look(hf:∀a b,f a=f b->a=b)(k:κ)(kvs:List (κ×V)):∀ds,Das G H L (kvs.map (·.2)) ds->Yde G H L (Zv5 kvs k) (Yb2 (f k) (kvs.map λp=>f p.1) ds):=by
 induction kvs with
 | nil=>exact λds _=>.inr ⟨rfl,rfl⟩
 | cons p kvs ih=>
  intro ds h
  cases h with
  | cons h r=>
   rename_i d ds
   show Yde G H L _ (if f p.1=f k then some d else Yb2 (f k) (kvs.map λp=>f p.1) ds)
   by_cases e:p.1=k
   ·rw[Zw8 e,if_pos (congrArg f e)]
    exact .inl ⟨_,_,rfl,rfl,h⟩
   ·rw[Zws e,if_neg λz=>e (hf _ _ z)]
    exact ih _ r
end
section
variable {H:Hp}{L:Addr->Prop}{y:V}{e:Xa}
end
noncomputable def Ydg(o:Option (Option OT))(δ:Zj):Option (OT×Zj):=match o with|some (some (.fz d))=>some (.fz d,δ)|_=>none
theorem Zkm(d:Xa)(δ:Zj):Ydg (some (some (.fz d))) δ=some (.fz d,δ):=rfl
noncomputable def Z6v(o:Option (Option OT))(δ:Zj):Option (OT×Zj):=match o with|some (some t)=>some (.fz t.data,δ)|_=>none
theorem Z03(t:OT)(δ:Zj):Z6v (some (some t)) δ=some (.fz t.data,δ):=rfl
theorem Zlf(i:Nat)(δ:Zj):Zd i δ=Ydg δ[i]? δ:=rfl
theorem Z1m(i:Nat)(δ:Zj):Zj0 i δ=Z6v δ[i]? δ:=rfl
theorem Z91(d:Xa)(δ:Zj):fC d δ=some (.fz d,δ):=rfl
theorem Zw4(g:Xa->Xa->Option Xa)(a b:FE)(δ:Zj):Zf g a b δ=(a δ).bind λp=>(b p.2).bind λq=>(g p.1.data q.1.data).bind λd=>some (.fz d,q.2):=rfl
theorem Z3w(g:Xa->Xa->Option OT)(a b:FE)(δ:Zj):Z6 g a b δ=(a δ).bind λp=>(b p.2).bind λq=>(g p.1.data q.1.data).bind λd=>some (d,q.2):=rfl
theorem Z7p(g:Xa->Option Xa)(a:FE)(δ:Zj):fUn g a δ=(a δ).bind λp=>(g p.1.data).bind λd=>some (.fz d,p.2):=rfl
noncomputable def onB{α:Type}(d:Xa)(x y:Option α):Option α:=match d with| .bool true=>x| .bool false=>y|_=>none
theorem Z9x{α:Type}(x y:Option α):onB (.bool true) x y=x:=rfl
theorem Yca{α:Type}(x y:Option α):onB (.bool false) x y=y:=rfl
theorem Zvz(a b:FE)(δ:Zj):Zwi a b δ=(a δ).bind λp=>onB p.1.data (b p.2) (some (.fz (.bool false),p.2)):=by
 unfold Zwi onB
 cases a δ with
 | none=>rfl
 | some p=>first|rfl|(simp only[Xd];done)|(simp only[Xd];generalize p.1.data=d;cases d<;>first|rfl|(rename_i b;cases b<;>rfl))
theorem Ydv(a b:FE)(δ:Zj):fOr a b δ=(a δ).bind λp=>onB p.1.data (some (.fz (.bool true),p.2)) (b p.2):=by
 unfold fOr onB
 cases a δ with
 | none=>rfl
 | some p=>first|rfl|(simp only[Xd];done)|(simp only[Xd];generalize p.1.data=d;cases d<;>first|rfl|(rename_i b;cases b<;>rfl))
theorem Zz4(t:FT)(a b:FE)(δ:Zj):fIf t a b δ=(t δ).bind λp=>if p.1=true then a p.2 else b p.2:=rfl
noncomputable def Yba(t:OT)(δ:Zj):Option (Bool×Zj):=match t with| .fz (.bool b)=>some (b,δ)|_=>none
theorem Z6c(b:Bool)(δ:Zj):Yba (.fz (.bool b)) δ=some (b,δ):=rfl
theorem Yaw(e:FE)(δ:Zj):tV e δ=(e δ).bind λp=>Yba p.1 p.2:=by
 unfold tV Yba
 cases e δ with
 | none=>rfl
 | some p=>rfl
theorem Z4t(t:FT)(δ:Zj):tNo t δ=(t δ).bind λp=>some (!p.1,p.2):=rfl
theorem Zzo(t u:FT)(δ:Zj):tAn t u δ=(t δ).bind λp=>if p.1=true then u p.2 else some (false,p.2):=rfl
theorem Z57(t u:FT)(δ:Zj):tO t u δ=(t δ).bind λp=>if p.1=true then some (true,p.2)else u p.2:=rfl
theorem Ybg(e:FE)(δ:Zj):tD e δ=(e δ).bind λp=>(Zw9 p.1.data).bind λb=>some (b,p.2):=rfl
theorem Yaa(δ:Zj):Zg5 δ=some (true,δ):=rfl
theorem Zsa(δ:Zj):Zm δ=some ([],δ):=rfl
theorem Zlb(e:FE)(a:FA)(δ:Zj):Zc e a δ=(e δ).bind λp=>(a p.2).bind λq=>some (p.1 :: q.1,q.2):=rfl
theorem Z0c(a:FA)(δ:Zj):Zlu a δ=(a δ).bind λp=>if p.1.length≤Xy then some (.fz (.tuple (OT.datas p.1)),p.2)else none:=rfl
theorem Zux(a:FA)(δ:Zj):Zch a δ=(a δ).bind λp=>if p.1.length≤Xy then some (.nd p.1,p.2)else none:=rfl
theorem Z9c(a:FA)(δ:Zj):Ybx a δ=(a δ).bind λp=>if p.1.length≤Xy then some (.tp p.1,p.2)else none:=rfl
theorem Zym(e:FE)(δ:Zj):Zt4 e δ=(e δ).bind λp=>if Zbw p.1.data=true then some (.fz p.1.data,p.2)else none:=rfl
theorem Z63(e:FE)(δ:Zj):Z4n e δ=(e δ).bind λp=>if Z0x p.1=true then some (p.1,p.2)else none:=rfl
noncomputable def okO(x:RF)(δ:Zj):Option (OT×Zj):=match x with| .ok r=>some (r,δ)|_=>none
theorem Z7e(r:OT)(δ:Zj):okO (.ok r) δ=some (r,δ):=rfl
theorem Zpn(F:FD)(a:FA)(δ:Zj):Zr F a δ=(a δ).bind λp=>okO (F (OT.datas p.1)) p.2:=by
 unfold Zr okO
 cases a δ with
 | none=>rfl
 | some p=>rfl
noncomputable def atO{α:Type}(o:Option (Option OT))(k:OT->Option α):Option α:=match o with|some (some t)=>k t|_=>none
theorem Yen{α:Type}(t:OT)(k:OT->Option α):atO (some (some t)) k=k t:=rfl
theorem Z8f(i:Nat)(F:FIO)(a:FA)(δ:Zj):Zzw i F a δ=atO δ[i]? λ_=>(a δ).bind λp=>atO p.2[i]? λt=>(F t (OT.datas p.1)).bind λq=>some (q.1,p.2.set i (some q.2)):=by
 unfold Zzw
 generalize δ[i]? =o
 rcases o with _|_|t
 ·rfl
 ·rfl
 ·show(a δ).bind _=(a δ).bind _
  cases a δ with
  | none=>rfl
  | some p=>
   show(λo:Option (Option OT)=>(match o with|some (some t)=>(F t (OT.datas p.1)).bind λq=>some (q.1,p.2.set i (some q.2))|_=>none)) p.2[i]? =atO p.2[i]? _
   generalize p.2[i]? =o
   rcases o with _|_|t<;>rfl
theorem Z3e(g:List Xa->Option Xa)(a:FA)(δ:Zj):J2 g a δ=(a δ).bind λp=>(g (OT.datas p.1)).bind λd=>some (.fz d,p.2):=rfl
theorem Zzg(g:List Xa->Option OT)(a:FA)(δ:Zj):fBl g a δ=(a δ).bind λp=>(g (OT.datas p.1)).bind λd=>some (d,p.2):=rfl
theorem Z2q(T:String)(e:FE)(δ:Zj):Ziw T e δ=(e δ).bind λp=>if Ziz p.1.data=true then none else some (.fz (.bool (Zrp T p.1.data)),p.2):=rfl
theorem Yby(δ:Zj):oN δ=some (none,δ):=rfl
noncomputable def asInt{α:Type}(d:Xa)(k:Int->Option α):Option α:=match d with| .int i=>k i|_=>none
theorem Zuv{α:Type}(i:Int)(k:Int->Option α):asInt (.int i) k=k i:=rfl
noncomputable def Zs0{α:Type}(d:Xa)(k:List Xa->Option α):Option α:=match d with| .list i=>k i|_=>none
theorem Zt5{α:Type}(i:List Xa)(k:List Xa->Option α):Zs0 (.list i) k=k i:=rfl
noncomputable def Z0v{α:Type}(d:Xa)(k:List Xa->Option α):Option α:=match d with| .tuple i=>k i|_=>none
theorem Ybi{α:Type}(i:List Xa)(k:List Xa->Option α):Z0v (.tuple i) k=k i:=rfl
theorem Yb0(e:FE)(δ:Zj):oI e δ=(e δ).bind λp=>asInt p.1.data λi=>some (some i,p.2):=by
 unfold oI asInt
 cases e δ with
 | none=>rfl
 | some p=>rfl
theorem Z42(e:FE)(lo hi:FO)(δ:Zj):fSl e lo hi δ=(e δ).bind λp=>(lo p.2).bind λq=>(hi q.2).bind λr=>Zs0 p.1.data λds=>some (.nd ((cutD ds q.1 r.1).map OT.fz),r.2):=by
 unfold fSl Zs0;rfl
theorem Z2e(e:FE)(δ:Zj):Zjx e δ=(e δ).bind λp=>Zs0 p.1.data λds=>some (ds,p.2):=by
 unfold Zjx Zs0;rfl
theorem Z7z(e:FE)(δ:Zj):iTp e δ=(e δ).bind λp=>Z0v p.1.data λds=>some (ds,p.2):=by
 unfold iTp Z0v;rfl
noncomputable def as1{α:Type}(ds:List Xa)(k:Int->Option α):Option α:=match ds with|[.int i]=>k i|_=>none
theorem Zx5{α:Type}(i:Int)(k:Int->Option α):as1 [.int i] k=k i:=rfl
noncomputable def as2{α:Type}(ds:List Xa)(k:Int->Int->Option α):Option α:=match ds with|[.int i,.int j]=>k i j|_=>none
theorem Z9v{α:Type}(i j:Int)(k:Int->Int->Option α):as2 [.int i,.int j] k=k i j:=rfl
theorem Z8v(a:FA)(δ:Zj):iRa a δ=(a δ).bind λp=>as1 (OT.datas p.1) λj=>if rOk j=true then some (Zci 0 j.toNat,p.2)else none:=by
 unfold iRa as1;rfl
theorem Z4w(a:FA)(δ:Zj):iRb a δ=(a δ).bind λp=>as2 (OT.datas p.1) λi j=>if(rOk i&&rOk j)=true then some (Zci i (j-i).toNat,p.2)else none:=by
 unfold iRb as2;rfl
theorem Znl(a:FA)(δ:Zj):Zr9 a δ=(a δ).bind λp=>as1 (OT.datas p.1) λj=>if rOk j=true∧j.toNat≤Xy then some (.nd ((Zci 0 j.toNat).map OT.fz),p.2)else none:=by
 unfold Zr9 as1;rfl
theorem Z2a(a b:FE)(δ:Zj):Zzp a b δ=(a δ).bind λp=>(b p.2).bind λq=>asInt q.1.data λk=>if rOk k=true∧k.toNat≤Xy then some (.nd (XF k.toNat (.fz p.1.data)),p.2)else none:=by
 unfold Zzp asInt;rfl
noncomputable def Ybc{α:Type}(ds:List Xa)(k:List Xa->List Xa->Option α):Option α:=match ds with|[.list i,.list j]=>k i j|_=>none
theorem Ydi{α:Type}(i j:List Xa)(k:List Xa->List Xa->Option α):Ybc [.list i,.list j] k=k i j:=rfl
theorem Z8z(a:FA)(δ:Zj):Z55 a δ=(a δ).bind λp=>Ybc (OT.datas p.1) λas bs=>some (Znh as bs,p.2):=by
 unfold Z55 Ybc;rfl
theorem Yc0(i:Nat)(d:Xa)(δ:Zj):gNm i d δ=some (δ.set i (some (.fz d))):=rfl
theorem Ya2(i:Nat)(d:Xa)(δ:Zj):Yfz i d δ=if Zbw d=true then some (δ.set i (some (.fz d)))else none:=rfl
theorem Ydp(δ:Zj):gNl [] δ=some δ:=rfl
theorem Yc6(g:FG)(gs:FGs)(d:Xa)(r:List Xa)(δ:Zj):gCn g gs (d :: r) δ=(g d δ).bind (gs r):=rfl
theorem Ycj(n:Nat)(gs:FGs)(ds:List Xa)(δ:Zj):gTp n gs (.tuple ds) δ=if ds.length=n then gs ds δ else none:=rfl
theorem Yc7(n:Nat)(gs:FGs)(ds:List Xa)(δ:Zj):gLs n gs (.list ds) δ=if ds.length=n then gs ds δ else none:=rfl
noncomputable def RS.thn(r:RS)(g:FS):RS:=match r with| .nx δ=>g δ|r=>r
theorem Z6o(δ:Zj)(g:FS):(RS.nx δ).thn g=g δ:=rfl
theorem Z4o(r:OT)(δ:Zj)(g:FS):(RS.rt r δ).thn g= .rt r δ:=rfl
theorem Yck(δ:Zj)(g:FS):(RS.bk δ).thn g= .bk δ:=rfl
theorem Ycl(δ:Zj)(g:FS):(RS.ct δ).thn g= .ct δ:=rfl
theorem Ych(c:Str)(δ:Zj)(g:FS):(RS.ex c δ).thn g= .ex c δ:=rfl
theorem Zut(f g:FS)(δ:Zj):Zz f g δ=(f δ).thn g:=rfl
theorem Yd0(δ:Zj):fNx δ= .nx δ:=rfl
theorem Ybz(δ:Zj):Ye1 δ= .bk δ:=rfl
theorem Yaq(δ:Zj):Yeq δ= .ct δ:=rfl
theorem Z6s(c:Str)(δ:Zj):Zmd c δ= .ex c δ:=rfl
theorem Z9m(δ:Zj):Z9z δ= .rt (.fz .none) δ:=rfl
noncomputable def onO{α:Type}(o:Option (α×Zj))(k:α->Zj->RS):RS:=match o with|some (r,δ')=>k r δ'|none=>.bad
theorem Wn{α:Type}(r:α)(δ:Zj)(k:α->Zj->RS):onO (some (r,δ)) k=k r δ:=rfl
theorem Zez(e:FE)(k:OT->Zj->RS)(δ:Zj):wE e k δ=onO (e δ) k:=by
 unfold wE onO
 cases e δ<;>rfl
noncomputable def onF(x:RF)(δ:Zj)(k:OT->Zj->RS):RS:=match x with| .ok r=>k r δ| .exn c=>.ex c δ| .bad=>.bad
theorem Yd2(r:OT)(δ:Zj)(k:OT->Zj->RS):onF (.ok r) δ k=k r δ:=rfl
theorem Yc1(c:Str)(δ:Zj)(k:OT->Zj->RS):onF (.exn c) δ k= .ex c δ:=rfl
theorem Ye9(F:FD)(a:FA)(k:OT->Zj->RS)(δ:Zj):wX F a k δ=onO (a δ) λrs δ1=>onF (F (OT.datas rs)) δ1 k:=by
 unfold wX onO onF
 cases a δ with
 | none=>rfl
 | some p=>rfl
theorem Zt3(t:FT)(u w:FS)(δ:Zj):Wz t u w δ=onO (t δ) λb δ'=>if b=true then u δ' else w δ':=by
 unfold Wz onO
 cases t δ<;>rfl
theorem Z1k(it:FI)(g:FG)(u:FS)(δ:Zj):Zb0 it g u δ=onO (it δ) λds δ1=>forLoop g u ds δ1:=by
 unfold Zb0 onO
 cases it δ<;>rfl
theorem Zye(r:OT)(δ:Zj):Zn7 r δ= .nx δ:=rfl
theorem Z3p(r:OT)(δ:Zj):Ji r δ= .rt r δ:=rfl
theorem Z81(r:OT)(δ:Zj):Z9u r δ=if Zbw r.data=true then .rt (.fz r.data) δ else .bad:=rfl
theorem Zrt(i:Nat)(r:OT)(δ:Zj):Yt i r δ= .nx (δ.set i (some (.fz r.data))):=rfl
theorem Z9n(i:Nat)(r:OT)(δ:Zj):Z9p i r δ=if Zbw r.data=true then .nx (δ.set i (some (.fz r.data)))else .bad:=rfl
theorem Zxa(i:Nat)(r:OT)(δ:Zj):Zap i r δ= .nx (δ.set i (some r)):=rfl
noncomputable def onD(o:Option Zj):RS:=match o with|some δ=>.nx δ|none=>.bad
theorem Z84(δ:Zj):onD (some δ)= .nx δ:=rfl
theorem Ybf(g:FG)(r:OT)(δ:Zj):Z7k g r δ=onD (g r.data δ):=rfl
noncomputable def onT(o:Option (Option OT))(k:OT->RS):RS:=match o with|some (some t)=>k t|_=>.bad
theorem Z2y(t:OT)(k:OT->RS):onT (some (some t)) k=k t:=rfl
theorem Zp0(i:Nat)(δ:Zj):Zea i δ=onT δ[i]? λt=>.rt t (δ.set i none):=rfl
theorem Zqi(i:Nat)(u:FS)(δ:Zj):Zcp i u δ=onT δ[i]? λt=>u (δ.set i (some (.fz t.data))):=rfl
noncomputable def onN(o:Option (Option OT))(k:List OT->RS):RS:=match o with|some (some (.nd ts))=>k ts|_=>.bad
theorem Zwc(t:List OT)(k:List OT->RS):onN (some (some (.nd t))) k=k t:=rfl
theorem Zjj(i:Nat)(e:FE)(δ:Zj):Wq i e δ=onN δ[i]? λ_=>onO (e δ) λr δ1=>onN δ1[i]? λts=>if ts.length<Xy then .nx (δ1.set i (some (.nd (ts ++ [.fz r.data]))))else .bad:=by
 unfold Wq
 generalize δ[i]? =o
 rcases o with _|_|(_|_|_|_)
 ·rfl
 ·rfl
 ·rfl
 ·show wE e _ δ=onO (e δ) _
  rw[Zez]
  congr 1
 ·rfl
 ·rfl
theorem Z2c(i:Nat)(e:FE)(δ:Zj):Zp9 i e δ=onN δ[i]? λ_=>onO (e δ) λr δ1=>onN δ1[i]? λts=>if ts.length<Xy then .nx (δ1.set i (some (.nd (ts ++ [r]))))else .bad:=by
 unfold Zp9
 generalize δ[i]? =o
 rcases o with _|_|(_|_|_|_)
 ·rfl
 ·rfl
 ·rfl
 ·show wE e _ δ=onO (e δ) _
  rw[Zez]
  congr 1
 ·rfl
 ·rfl
noncomputable def onI(d:Xa)(k:Int->RS):RS:=match d with| .int i=>k i|_=>.bad
theorem Yfr(i:Int)(k:Int->RS):onI (.int i) k=k i:=rfl
noncomputable def onX(o:Option Nat)(k:Nat->RS):RS:=match o with|some i=>k i|_=>.bad
theorem Yft(i:Nat)(k:Nat->RS):onX (some i) k=k i:=rfl
theorem Ya9(i:Nat)(e j:FE)(δ:Zj):Yd3 i e j δ=onO (e δ) λr δ1=>onN δ1[i]? λts=>onO (j δ1) λn _=>onI n.data λk=>onX (ixN ts.length k) λj=>.nx (δ1.set i (some (.nd (ts.set j (.fz r.data))))):=by
 unfold Yd3
 rw[Zez]
 congr 1
 funext r δ1
 generalize δ1[i]? =o
 rcases o with _|_|(_|_|_|_)
 ·rfl
 ·rfl
 ·rfl
 ·show wE j _ δ1=onO (j δ1) _
  rw[Zez]
  congr 1
  funext n δ2
  generalize n.data=d
  cases d<;>try rfl
  show(match ixN _ _ with|some j=>_|none=>_)=onX (ixN _ _) _
  generalize ixN _ _=x
  cases x<;>rfl
 ·rfl
 ·rfl
noncomputable def onU(o:Option OT)(k:List OT->RS):RS:=match o with|some (.nd ts)=>k ts|_=>.bad
theorem Ye6(t:List OT)(k:List OT->RS):onU (some (.nd t)) k=k t:=rfl
noncomputable def onP(o:Option (Option OT))(k:List OT->RS):RS:=match o with|some (some (.tp ts))=>k ts|_=>.bad
theorem Yet(t:List OT)(k:List OT->RS):onP (some (some (.tp t))) k=k t:=rfl
theorem Z7h(i c:Nat)(e:FE)(δ:Zj):Zy8 i c e δ=onP δ[i]? λts=>onU ts[c]? λus=>onO (e δ) λr _=>if us.length<Xy then .nx (δ.set i (some (.tp (ts.set c (.nd (us ++ [.fz r.data]))))))else .bad:=by
 unfold Zy8
 generalize δ[i]? =o
 rcases o with _|_|(_|_|ts|_)
 ·rfl
 ·rfl
 ·rfl
 ·rfl
 ·show(match ts[c]? with|some (.nd us)=>wE e _ δ|_=>_)=onU ts[c]? _
  generalize ts[c]? =o
  rcases o with _|(_|_|_|_)
  ·rfl
  ·rfl
  ·show wE e _ δ=onO (e δ) _
   rw[Zez]
  ·rfl
  ·rfl
 ·rfl
noncomputable def on2(ds:List Xa)(k:Xa->Xa->RS):RS:=match ds with|[d,e]=>k d e|_=>.bad
theorem Yf1(d e:Xa)(k:Xa->Xa->RS):on2 [d,e] k=k d e:=rfl
theorem Yak(i j:Nat)(a:FA)(δ:Zj):Ycx i j a δ=onO (a δ) λrs δ1=>on2 (OT.datas rs) λd e=>.nx ((δ1.set i (some (.fz d))).set j (some (.fz e))):=by
 unfold Ycx onO on2
 cases a δ<;>rfl
theorem Zn1{np n:Nat}{S:FS}{ds:List Xa}(h:ds.length=np):Zae np n S ds=(S (Zes n ds)).told:=by
 unfold Zae;rw[if_pos h]
theorem Z05(δ:Zj):(RS.nx δ).told= .ok (.fz .none):=rfl
theorem Zsn(r:OT)(δ:Zj):(RS.rt r δ).told= .ok r:=rfl
theorem Yb3(c:Str)(δ:Zj):(RS.ex c δ).told= .exn c:=rfl
theorem Yds(i j:Int):J0 (.int i) (.int j)=some (.int (i+j)):=rfl
theorem Yer(i j:Int):gSb (.int i) (.int j)=some (.int (i-j)):=rfl
theorem Yff(i j:Int):gLt (.int i) (.int j)=some (.bool (decide (i<j))):=rfl
theorem Yfe(i j:Int):gLe (.int i) (.int j)=some (.bool (decide (i≤j))):=rfl
theorem Yaf(i j:Int):gGt (.int i) (.int j)=some (.bool (decide (j<i))):=rfl
theorem Ya1(i j:Int):gGe (.int i) (.int j)=some (.bool (decide (j≤i))):=rfl
theorem Zgv{i j:Int}(h:Z2p i j=true):Zc4 (.int i) (.int j)=some (.int (i*j)):=by
 unfold Zc4 i2c;dsimp only;rw[if_pos h]
theorem Zgn{i j:Int}(h:Z78 i j=true):Je (.int i) (.int j)=some (.int (i.fdiv j)):=by
 unfold Je i2c;dsimp only;rw[if_pos h]
theorem Zzz{i j:Int}(h:j≠0):Zay (.int i) (.int j)=some (.int (i.fmod j)):=by
 unfold Zay i2c Ydr;dsimp only;rw[if_pos (decide_eq_true h)]
theorem Zoq{m n:Nat}{x y:Int}(h:Bt m x)(k:Bt n y)(hmn:m+n≤100000000:=by decide):Z2p x y=true:=Zhe.mpr (h.mulOk k hmn)
theorem Zox{x y:Int}(h:x.natAbs<2^64):Z2p x y=true:=Zhe.mpr (.of_left (intBits_le_64 (by omega) (by omega)))
theorem Z73{x y:Int}(h:y.natAbs<2^64):Z2p x y=true:=Zhe.mpr (.of_right (intBits_le_64 (by omega) (by omega)))
theorem Zf8{n:Nat}{i j:Int}(h0:j≠0)(h:Bt n j)(hn:n≤9000:=by decide):Z78 i j=true:=by
 obtain⟨h1,h2⟩:=DivOk.of (i:=i) h0 h hn
 unfold Z78
 rw[decide_eq_true h1,decide_eq_true h2];rfl
theorem Ybo(i j:Int):gEq (.int i) (.int j)=some (.bool (decide (i=j))):=by
 show some (Us (i==j))=_
 rw[show(i==j)=decide (i=j)from rfl]
theorem Yar(i j:Int):gNe (.int i) (.int j)=some (.bool (!decide (i=j))):=by
 show some (Us (!(i==j)))=_
 rw[show(i==j)=decide (i=j)from rfl]
theorem Yev(d:Xa):gIs d .none=some (.bool (Zew d)):=rfl
theorem Z89(d:Xa):Zfv d .none=some (.bool (!Zew d)):=rfl
theorem Zu9(ds:List Xa)(i:Int):gIx (.list ds) (.int i)=(atI ds i).bind λx=>some (.fz x):=rfl
theorem Yey(ds:List Xa)(i:Int):gIx (.tuple ds) (.int i)=(atI ds i).bind λx=>some (.fz x):=rfl
theorem Zsv(ds:List Xa):J6 [.list ds]=some (.int ds.length):=rfl
theorem Yd9(ds:List Xa):J6 [.tuple ds]=some (.int ds.length):=rfl
theorem Zue(i:Int):Z35 [.int i]=some (.int (i.natAbs:Int)):=by
 show some (Xk (if i<0 then -i else i))=_
 congr 2;split<;>omega
theorem Z4m(i j:Int):Z6m [.int i,.int j]=some (.int (if j>i then j else i)):=rfl
theorem Z7v(i j:Int):Z7o [.int i,.int j]=some (.int (if j<i then j else i)):=rfl
theorem Ycg(i:Int):Yc5 [.int i]=some (.int i):=rfl
theorem Ydb(b:Bool):Yc5 [.bool b]=some (.int (if b then 1 else 0)):=rfl
theorem Z92(ds:List Xa):Z7x [.list ds]=some (.nd (ds.map OT.fz)):=rfl
theorem Ya7(ds:List Xa):Z7x [.tuple ds]=some (.nd (ds.map OT.fz)):=rfl
theorem Z77{ds es:List Xa}(h:ds.length+es.length≤Xy):Zk3 (.list ds) (.list es)=some (.nd ((ds ++ es).map OT.fz)):=by
 unfold Zk3;dsimp only;rw[if_pos h]
theorem Z7y(i:Int):Znj (.int i)=some (.int (-i)):=rfl
theorem Yc4(b:Bool):Z9t (.bool b)=some (.bool (!b)):=rfl
theorem Yc2(b:Bool):Zw9 (.bool b)=some b:=rfl
theorem Yef(i:Int):Zw9 (.int i)=some (i !=0):=rfl
theorem Yct:Zw9 .none=some false:=rfl
theorem Ydo(ds:List Xa):Zw9 (.list ds)=some (!ds.isEmpty):=rfl
theorem Zx3{n:Nat}{d:Xa}(h:Sh n d)(hp:Wh d=true)(hn:n≤60):gNe d d=some (.bool false):=by
 have s:Vq d=true:=(h.shp (by omega)).ok
 unfold gNe
 rw[if_pos (by rw[s];rfl),Zkg hp];rfl
theorem Zo6{gg:FG}{u:FS}{ds:List Xa}{δ:Zj}(I:Nat->Zj->Prop)(h0:I 0 δ)
  (turn:∀(i:Nat) (d:Xa) (δ:Zj),ds[i]? =some d->I i δ->∃δ1 δ2,gg d δ=some δ1∧(u δ1= .nx δ2∨u δ1= .ct δ2)∧I (i+1) δ2):∃δ',forLoop gg u ds δ= .nx δ'∧I ds.length δ':=by
 induction ds generalizing δ I with
 | nil=>exact⟨δ,rfl,h0⟩
 | cons d ds ih=>
  obtain⟨δ1,δ2,e1,e2,h1⟩:=turn 0 d δ rfl h0
  obtain⟨δ',e3,h3⟩:=ih (δ:=δ2) (λi δ=>I (i+1) δ) h1 λi d' δ hd hi=>turn (i+1) d' δ (by simpa using hd) hi
  refine⟨δ',?_,h3⟩
  rw[Zgx,e1]
  dsimp only
  rcases e2 with e2|e2<;>rw[e2]<;>exact e3
noncomputable def Goes(r:RS)(Q:Zj->Prop):Prop:=∃δ,(r= .nx δ∨r= .ct δ)∧Q δ
theorem Goes.nx{δ:Zj}{Q:Zj->Prop}(h:Q δ):Goes (.nx δ) Q:=⟨δ,.inl rfl,h⟩
theorem Goes.ct{δ:Zj}{Q:Zj->Prop}(h:Q δ):Goes (.ct δ) Q:=⟨δ,.inr rfl,h⟩
theorem Zuc{α:Type}{me:FE}{cs:Zj}(mk:α->Xa)(f:α->OT):∀(xs:List α) (z:Option OT),(∀x∈xs,me (some (.fz (mk x)) :: cs)=some (f x,some (.fz (mk x)) :: cs)) ->
  ∃z',compLoop (gNm 0) Zg5 me (xs.map mk) (z :: cs)=some (xs.map f,z' :: cs)
 | [],z,_=>⟨z,rfl⟩
 | x :: xs,z,h=>by
  obtain⟨z',e⟩:=Zuc mk f xs (some (.fz (mk x))) λy hy=>h y (.tail _ hy)
  refine⟨z',?_⟩
  rw[X3,compLoop]
  show(some (some (OT.fz (mk x)) :: cs)).bind _=_
  rw[Xd]
  show(some (true,some (OT.fz (mk x)) :: cs)).bind _=_
  rw[Xd,if_pos rfl,h x (.head _),Xd,e];rfl
theorem Zpq{α:Type}{t:FT}{me:FE}{cs:Zj}(mk:α->Xa)(p:α->Bool)(f:α->OT):∀(xs:List α) (z:Option OT),(∀x∈xs,t (some (.fz (mk x)) :: cs)=some (p x,some (.fz (mk x)) :: cs))->(∀x∈xs,p x=true->me (some (.fz (mk x)) :: cs)=some (f x,some (.fz (mk x)) :: cs)) ->
  ∃z',compLoop (gNm 0) t me (xs.map mk) (z :: cs)=some ((xs.filter p).map f,z' :: cs)
 | [],z,_,_=>⟨z,rfl⟩
 | x :: xs,z,ht,h=>by
  obtain⟨z',e⟩:=Zpq mk p f xs (some (.fz (mk x))) (λy hy=>ht y (.tail _ hy)) λy hy=>h y (.tail _ hy)
  refine⟨z',?_⟩
  rw[X3,compLoop]
  show(some (some (OT.fz (mk x)) :: cs)).bind _=_
  rw[Xd,ht x (.head _),Xd]
  dsimp only
  by_cases hp:p x=true
  ·rw[if_pos hp,h x (.head _) hp,Xd,e,Ud hp];rfl
  ·rw[if_neg hp,e,Ue hp]
theorem Zlh{α:Type}{caps:List Nat}{it:FI}{me:FE}{cs δ δ1:Zj}(xs:List α)(mk:α->Xa)(f:α->OT)(hi:it δ=some (xs.map mk,δ1))(hz:xs.length≤Xy)(hb:blk 1 caps δ1=none :: cs)
  (h:∀x∈xs,me (some (.fz (mk x)) :: cs)=some (f x,some (.fz (mk x)) :: cs)):Wt 1 caps it (gNm 0) Zg5 me δ=some (.nd (xs.map f),δ1):=by
 unfold Wt
 rw[hi,Xd]
 dsimp only
 rw[if_pos (by rw[Xj];exact hz),hb]
 obtain⟨z',e⟩:=Zuc (me:=me) (cs:=cs) mk f xs none h
 rw[e];rfl
theorem Zuy{α:Type}{caps:List Nat}{it:FI}{t:FT}{me:FE}{cs δ δ1:Zj}(xs:List α)(mk:α->Xa)(p:α->Bool)(f:α->OT)(hi:it δ=some (xs.map mk,δ1))(hz:xs.length≤Xy)(hb:blk 1 caps δ1=none :: cs)
  (ht:∀x∈xs,t (some (.fz (mk x)) :: cs)=some (p x,some (.fz (mk x)) :: cs)) (h:∀x∈xs,p x=true->me (some (.fz (mk x)) :: cs)=some (f x,some (.fz (mk x)) :: cs)):Wt 1 caps it (gNm 0) t me δ=some (.nd ((xs.filter p).map f),δ1):=by
 unfold Wt
 rw[hi,Xd]
 dsimp only
 rw[if_pos (by rw[Xj];exact hz),hb]
 obtain⟨z',e⟩:=Zpq (t:=t) (me:=me) (cs:=cs) mk p f xs none ht h
 rw[e];rfl
theorem Yf6:(2≤Xy)=True:=by simp[Qa]
theorem Yfk:(1≤Xy)=True:=by simp[Qa]
theorem Ye5:(0≤Xy)=True:=by simp
theorem Z9y:(3≤Xy)=True:=by simp[Qa]
theorem Zq9{α:Type}(f:α->Xa)(xs:List α):(xs.map λx=>OT.fz (f x)).map OT.data=xs.map f:=by
 rw[X5];exact Qg λx _=>OT.data_fz _
theorem Z0r{α:Type}{j:Int}{x:α}(h0:0≤j)(h1:j≤1000000):(if rOk j=true then some x else none)=some x:=if_pos (Zhs (by omega) h1)
theorem Z3n{α:Type}{i j:Int}{x:α}(h0:0≤i)(h1:i≤1000000)(h2:0≤j)(h3:j≤1000000):(if(rOk i&&rOk j)=true then some x else none)=some x:=if_pos (by rw[Zhs (by omega) h1,Zhs (by omega) h3];rfl)
theorem Zz6{r:RS}{k:Nat}(h:k≤1000000):(if k<Xy then r else .bad)=r:=if_pos (by rw[Qa];omega)
noncomputable def EvV(e:FE)(δ:Zj)(d:Xa):Prop:=∃t,e δ=some (t,δ)∧t.data=d
noncomputable def EvA(a:FA)(δ:Zj)(ds:List Xa):Prop:=∃ts,a δ=some (ts,δ)∧OT.datas ts=ds
noncomputable def EvT(t:FT)(δ:Zj)(b:Bool):Prop:=t δ=some (b,δ)
noncomputable def Told(F:FD)(ds:List Xa)(d:Xa):Prop:=∃t,F ds= .ok t∧t.data=d
section
variable {e a b:FE}{as:FA}{δ δ':Zj}{x y d:Xa}{xs ds:List Xa}{i j:Nat}{p q:Bool}{t u:FT}{S S':FS}{r:RS}
theorem EvV.cast{e:FE}{δ:Zj}{x y:Xa}(h:EvV e δ x)(k:x=y):EvV e δ y:=k▸h
theorem Za(h:δ[i]? =some (some (.fz d)):=by rfl):EvV (Zd i) δ d:=⟨_,by rw[Zlf,h,Zkm],OT.data_fz _⟩
theorem Zpe{t:OT}(h:δ[i]? =some (some t))(hd:t.data=d):EvV (Zj0 i) δ d:=⟨_,by rw[Z1m,h,Z03],by rw[OT.data_fz,hd]⟩
theorem Zt:EvV (fC d) δ d:=⟨_,rfl,OT.data_fz _⟩
theorem Zo{g:Xa->Xa->Option Xa}(ha:EvV a δ x)(hb:EvV b δ y)(h:g x y=some d):EvV (Zf g a b) δ d:=by
 obtain⟨_,e1,d1⟩:=ha
 obtain⟨_,e2,d2⟩:=hb
 exact⟨_,by rw[Zw4,e1,Xd,e2,Xd,d1,d2,h,Xd],OT.data_fz _⟩
theorem Zzs{g:Xa->Xa->Option OT}{o:OT}(ha:EvV a δ x)(hb:EvV b δ y)(h:g x y=some o)(hd:o.data=d):EvV (Z6 g a b) δ d:=by
 obtain⟨_,e1,d1⟩:=ha
 obtain⟨_,e2,d2⟩:=hb
 exact⟨_,by rw[Z3w,e1,Xd,e2,Xd,d1,d2,h,Xd],hd⟩
theorem Y5(ha:EvV a δ x)(hb:EvV b δ y)(h:gIx x y=some (.fz d)):EvV (Z6 gIx a b) δ d:=Zzs ha hb h (OT.data_fz _)
theorem Yk{i j:Int}(ha:EvV a δ (.int i))(hb:EvV b δ (.int j)):EvV (Zf J0 a b) δ (.int (i+j)):=Zo ha hb rfl
theorem Zb8{i j:Int}(ha:EvV a δ (.int i))(hb:EvV b δ (.int j)):EvV (Zf gSb a b) δ (.int (i-j)):=Zo ha hb rfl
theorem Z95{g:Xa->Option Xa}(ha:EvV a δ x)(h:g x=some d):EvV (fUn g a) δ d:=by
 obtain⟨_,e1,d1⟩:=ha
 exact⟨_,by rw[Z7p,e1,Xd,d1,h,Xd],OT.data_fz _⟩
theorem Zk2(ha:EvV a δ (.bool true))(hb:EvV b δ d):EvV (Zwi a b) δ d:=by
 obtain⟨_,e1,d1⟩:=ha
 obtain⟨_,e2,d2⟩:=hb
 exact⟨_,by rw[Zvz,e1,Xd,d1,Z9x,e2],d2⟩
theorem Zxh(ha:EvV a δ (.bool false)):EvV (Zwi a b) δ (.bool false):=by
 obtain⟨_,e1,d1⟩:=ha
 exact⟨_,by rw[Zvz,e1,Xd,d1,Yca],OT.data_fz _⟩
theorem Z8l{T:String}(ha:EvV a δ x)(hf:Ziz x=false:=by rfl):EvV (Ziw T a) δ (.bool (Zrp T x)):=by
 obtain⟨_,e1,d1⟩:=ha
 exact⟨_,by rw[Z2q,e1,Xd,d1,if_neg (by rw[hf];decide)],OT.data_fz _⟩
theorem Zi:EvA Zm δ []:=⟨_,rfl,Zcc⟩
theorem Zb(h:EvV e δ d)(k:EvA as δ ds):EvA (Zc e as) δ (d :: ds):=by
 obtain⟨_,e1,d1⟩:=h
 obtain⟨_,e2,d2⟩:=k
 exact⟨_,by rw[Zlb,e1,Xd,e2,Xd],by rw[Zaz,d1,d2]⟩
theorem Zk{F:FD}(h:EvA as δ ds)(k:Told F ds d):EvV (Zr F as) δ d:=by
 obtain⟨_,e1,d1⟩:=h
 obtain⟨_,e2,d2⟩:=k
 exact⟨_,by rw[Zpn,e1,Xd,d1,e2,Z7e],d2⟩
theorem Jm{g:List Xa->Option Xa}(h:EvA as δ ds)(k:g ds=some d):EvV (J2 g as) δ d:=by
 obtain⟨_,e1,d1⟩:=h
 exact⟨_,by rw[Z3e,e1,Xd,d1,k,Xd],OT.data_fz _⟩
theorem Zvm{g:List Xa->Option OT}{o:OT}(h:EvA as δ ds)(k:g ds=some o)(hd:o.data=d):EvV (fBl g as) δ d:=by
 obtain⟨_,e1,d1⟩:=h
 exact⟨_,by rw[Zzg,e1,Xd,d1,k,Xd],hd⟩
theorem Zfp:∀ts:List OT,(OT.datas ts).length=ts.length
 | []=>by rw[Zcc];rfl
 | t :: ts=>by rw[Zaz,BR,BR,Zfp ts]
theorem datas_map:∀ts:List OT,OT.datas ts=ts.map OT.data
 | []=>Zcc
 | t :: ts=>by rw[Zaz,X3,datas_map ts]
theorem Zff(h:EvA as δ ds)(hl:ds.length≤1000):EvV (Zlu as) δ (.tuple ds):=by
 obtain⟨ts,e1,d1⟩:=h
 have:=Zfp ts
 rw[d1]at this
 exact⟨_,by rw[Z0c,e1,Xd,if_pos (by rw[Qa];show ts.length≤_;omega)],by rw[OT.data_fz];exact congrArg _ d1⟩
theorem Zh7(h:EvA as δ ds)(hl:ds.length≤1000):EvV (Zch as) δ (.list ds):=by
 obtain⟨ts,e1,d1⟩:=h
 have:=Zfp ts
 rw[d1]at this
 exact⟨_,by rw[Zux,e1,Xd,if_pos (by rw[Qa];show ts.length≤_;omega)],by rw[OT.data_nd,←datas_map,d1]⟩
theorem Zmz{o:OT}{b:Bool}(h:o.data= .bool b):o= .fz (.bool b):=by
 cases o with
 | fz d=>rw[OT.data_fz]at h;rw[h]
 | nd ts=>rw[OT.data_nd]at h;cases h
 | tp ts=>rw[OT.data_tp]at h;cases h
 | dc _ _ _=>rw[OT.data_dc]at h;cases h
theorem Wy(h:EvV e δ (.bool p)):EvT (tV e) δ p:=by
 obtain⟨_,e1,d1⟩:=h
 unfold EvT
 rw[Yaw,e1,Xd,Zmz d1,Z6c]
theorem Yfd(h:EvV e δ d)(k:Zw9 d=some p):EvT (tD e) δ p:=by
 obtain⟨_,e1,d1⟩:=h
 unfold EvT
 rw[Ybg,e1,Xd,d1,k,Xd]
theorem Zec(h:EvV e δ (.bool p)):EvT (tD e) δ p:=Yfd h rfl
theorem Zfw(h:EvT t δ p):EvT (tNo t) δ (!p):=by
 unfold EvT at h⊢
 rw[Z4t,h,Xd]
theorem Zmq(h:EvT t δ true)(k:EvT u δ p):EvT (tAn t u) δ p:=by
 unfold EvT at h k⊢
 rw[Zzo,h,Xd,if_pos rfl,k]
theorem Zlk(h:EvT t δ false):EvT (tAn t u) δ false:=by
 unfold EvT at h⊢
 rw[Zzo,h,Xd,if_neg Xp]
theorem Zht(h:EvT t δ false)(k:EvT u δ p):EvT (tO t u) δ p:=by
 unfold EvT at h k⊢
 rw[Z57,h,Xd,if_neg Xp,k]
theorem Zvr(h:EvT t δ true):EvT (tO t u) δ true:=by
 unfold EvT at h⊢
 rw[Z57,h,Xd,if_pos rfl]
theorem Z5(h:S δ= .nx δ')(k:S' δ'=r):Zz S S' δ=r:=by rw[Zut,h,Z6o,k]
theorem Zsd{o:OT}(h:S δ= .rt o δ'):Zz S S' δ= .rt o δ':=by rw[Zut,h,Z4o]
theorem Zq(h:EvV e δ d):wE e (Yt i) δ= .nx (δ.set i (some (.fz d))):=by
 obtain⟨_,e1,d1⟩:=h
 rw[Zez,e1,Wn,Zrt,d1]
theorem Zzh(h:EvV e δ d):∃o,wE e Ji δ= .rt o δ∧o.data=d:=by
 obtain⟨_,e1,d1⟩:=h
 exact⟨_,by rw[Zez,e1,Wn,Z3p],d1⟩
theorem W2(h:EvT t δ true)(k:S δ=r):Wz t S S' δ=r:=by
 unfold EvT at h
 rw[Zt3,h,Wn,if_pos rfl,k]
theorem Zx(h:EvT t δ false)(k:S' δ=r):Wz t S S' δ=r:=by
 unfold EvT at h
 rw[Zt3,h,Wn,if_neg (by decide),k]
noncomputable def Zkc(S:FS)(δ:Zj)(d:Xa):Prop:=∃o δ',S δ= .rt o δ'∧o.data=d
theorem Zv(h:S δ= .nx δ')(k:Zkc S' δ' d):Zkc (Zz S S') δ d:=by
 obtain⟨o,δ2,e,hd⟩:=k
 exact⟨o,δ2,Z5 h e,hd⟩
theorem Jp(k:Zkc S δ d):Zkc (Zz S S') δ d:=by
 obtain⟨o,δ2,e,hd⟩:=k
 exact⟨o,δ2,Zsd e,hd⟩
theorem Yi(h:EvV e δ d):Zkc (wE e Ji) δ d:=by
 obtain⟨o,e1,hd⟩:=Zzh h
 exact⟨o,δ,e1,hd⟩
theorem Zbf(h:EvT t δ true)(k:Zkc S δ d):Zkc (Wz t S S') δ d:=by
 obtain⟨o,δ2,e,hd⟩:=k
 exact⟨o,δ2,W2 h e,hd⟩
theorem Z2{np n:Nat}(hl:xs.length=np)(k:Zkc S (Zes n xs) d):Told (Zae np n S) xs d:=by
 obtain⟨o,δ2,e,hd⟩:=k
 exact⟨o,by rw[Zn1 hl,e,Zsn],hd⟩
noncomputable def EvO(o:FO)(δ:Zj)(l:Option Int):Prop:=o δ=some (l,δ)
theorem Z9d:EvO oN δ none:=rfl
theorem Zyq{i:Int}(h:EvV e δ (.int i)):EvO (oI e) δ (some i):=by
 obtain⟨_,e1,d1⟩:=h
 unfold EvO
 rw[Yb0,e1,Xd,d1,Zuv]
theorem Z41{lo hi:FO}{l h:Option Int}(he:EvV e δ (.list ds))(hl:EvO lo δ l)(hh:EvO hi δ h):EvV (fSl e lo hi) δ (.list (cutD ds l h)):=by
 obtain⟨_,e1,d1⟩:=he
 unfold EvO at hl hh
 exact⟨_,by rw[Z42,e1,Xd,hl,Xd,hh,Xd,d1,Zt5],by rw[OT.data_nd,OT.map_fz]⟩
theorem Zz3{es:List Xa}(ha:EvV a δ (.list ds))(hb:EvV b δ (.list es))(h:ds.length+es.length≤1000000):EvV (Z6 Zk3 a b) δ (.list (ds ++ es)) :=
 Zzs ha hb (Z77 (by rw[Qa];omega)) (by rw[OT.data_nd,OT.map_fz])
noncomputable def EvI(it:FI)(δ:Zj)(ds:List Xa):Prop:=it δ=some (ds,δ)
theorem Zcg(h:EvV e δ (.list ds)):EvI (Zjx e) δ ds:=by
 obtain⟨_,e1,d1⟩:=h
 unfold EvI
 rw[Z2e,e1,Xd,d1,Zt5]
theorem Zee{n:Nat}(h:EvA as δ [.int n])(hn:n≤1000000):EvI (iRa as) δ (Zci 0 n):=by
 obtain⟨_,e1,d1⟩:=h
 unfold EvI
 rw[Z8v,e1,Xd,d1,Zx5,Z0r (by omega) (by omega),Qp]
theorem Zem{it:FI}{g:FG}(h:EvI it δ ds)(k:forLoop g S ds δ=r):Zb0 it g S δ=r:=by
 unfold EvI at h
 rw[Z1k,h,Wn,k]
theorem Zil{α:Type}{caps:List Nat}{it:FI}{me:FE}{cs:Zj}(xs:List α)(mk f:α->Xa)(hi:EvI it δ (xs.map mk))(hz:xs.length≤1000000)(hb:blk 1 caps δ=none :: cs)(h:∀x∈xs,EvV me (some (.fz (mk x)) :: cs) (f x)):EvV (Wt 1 caps it (gNm 0) Zg5 me) δ (.list (xs.map f)):=by
 have g:∀x,∃o:OT,x∈xs->me (some (.fz (mk x)) :: cs)=some (o,some (.fz (mk x)) :: cs)∧o.data=f x:=λx=>by
  by_cases c:x∈xs
  ·obtain⟨o,h1,h2⟩:=h x c
   exact⟨o,λ_=>⟨h1,h2⟩⟩
  ·exact⟨.fz .none,λz=>absurd z c⟩
 obtain⟨o,ho⟩:=Classical.axiomOfChoice g
 unfold EvI at hi
 refine⟨_,Zlh (cs:=cs) xs mk o hi (by rw[Qa];omega) hb (λx hx=>(ho x hx).1),?_⟩
 rw[OT.data_nd,X5]
 exact congrArg _ (Qg λx hx=>(ho x hx).2)
theorem Zlx{ts:List OT}(h:EvV e δ d)(hi:δ[i]? =some (some (.nd ts)))(hl:ts.length≤1000000):Wq i e δ= .nx (δ.set i (some (.nd (ts ++ [.fz d])))):=by
 obtain⟨_,e1,d1⟩:=h
 rw[Zjj,hi,Zwc,e1,Wn,hi,Zwc,Zz6 hl,d1]
theorem Zd0{o:OT}(h:e δ=some (o,δ)):wE e (Zap i) δ= .nx (δ.set i (some o)):=by rw[Zez,h,Wn,Zxa]
theorem Yb6{o:OT}(h:δ[i]? =some (some o))(hd:o.data=d):Zkc (Zea i) δ d:=⟨o,_,by rw[Zp0,h,Z2y],hd⟩
theorem Zig{o:OT}(h:δ[i]? =some (some o))(k:S (δ.set i (some (.fz o.data)))=r):Zcp i S δ=r:=by rw[Zqi,h,Z2y,k]
theorem Zor(h:EvV e δ d):wE e Zn7 δ= .nx δ:=by
 obtain⟨_,e1,d1⟩:=h
 rw[Zez,e1,Wn,Zye]
theorem Zm5{np n:Nat}(hl:xs.length=np)(k:S (Zes n xs)= .nx δ'):Told (Zae np n S) xs .none:=⟨_,by rw[Zn1 hl,k,Z05],OT.data_fz _⟩
theorem Told.ok{F:FD}{b:Bool}(h:Told F ds (.bool b)):F ds= .ok (.fz (.bool b)):=by
 obtain⟨o,e1,d1⟩:=h
 rw[e1,Zmz d1]
theorem Zg9{o:OT}{i:Int}(h:o.data= .int i):o= .fz (.int i):=by
 cases o with
 | fz d=>rw[OT.data_fz]at h;rw[h]
 | nd ts=>rw[OT.data_nd]at h;cases h
 | tp ts=>rw[OT.data_tp]at h;cases h
 | dc _ _ _=>rw[OT.data_dc]at h;cases h
theorem Told.int{F:FD}{i:Int}(h:Told F ds (.int i)):F ds= .ok (.fz (.int i)):=by
 obtain⟨o,e1,d1⟩:=h
 rw[e1,Zg9 d1]
theorem Zu5{o:OT}(h:o.data= .none):o= .fz .none:=by
 cases o with
 | fz d=>rw[OT.data_fz]at h;rw[h]
 | nd ts=>rw[OT.data_nd]at h;cases h
 | tp ts=>rw[OT.data_tp]at h;cases h
 | dc _ _ _=>rw[OT.data_dc]at h;cases h
theorem Told.of{F:FD}{o:OT}(h:F ds= .ok o)(hd:o.data=d):Told F ds d:=⟨o,h,hd⟩
end
section
variable {e a b:FE}{as:FA}{δ δ':Zj}{x y d:Xa}{xs ds:List Xa}{i j:Int}{k:Nat}{p q:Bool}{t u:FT}{S S':FS}{r:RS}{Q:Xa->Prop}
theorem Wj(ha:EvV a δ (.int i))(hb:EvV b δ (.int j))(h:j≠0):EvV (Zf Zay a b) δ (.int (i.fmod j)):=Zo ha hb (Zzz h)
theorem Z8h{i j:Int}(h:(decide (0<j)&&decide (j<18446744073709551616))=true):Je (.int i) (.int j)=some (.int (i.fdiv j)):=by
 rw[XD,decide_eq_true_eq,decide_eq_true_eq]at h
 exact Zgn (Zf8 (n:=64) (by omega) (Bt.of_lt (by omega) (by omega)))
theorem Zaa(ha:EvV a δ (.int i))(hb:EvV b δ (.int j))(h:(decide (0<j)&&decide (j<18446744073709551616))=true:=by decide):EvV (Zf Je a b) δ (.int (i.fdiv j)):=Zo ha hb (Z8h h)
theorem Zan(ha:EvV a δ (.int i))(hb:EvV b δ (.int j))(h:i.natAbs<2^64:=by decide):EvV (Zf Zc4 a b) δ (.int (i*j)):=Zo ha hb (Zgv (Zox h))
theorem Zst(ha:EvV a δ (.int i))(hb:EvV b δ (.int j))(h:j.natAbs<2^64:=by decide):EvV (Zf Zc4 a b) δ (.int (i*j)):=Zo ha hb (Zgv (Z73 h))
theorem Zbk(ha:EvV a δ (.int i))(hb:EvV b δ (.int j))(h:decide (i<j)=p):EvV (Zf gLt a b) δ (.bool p):=h▸Zo ha hb rfl
theorem Zrc(ha:EvV a δ (.int i))(hb:EvV b δ (.int j))(h:decide (j<i)=p):EvV (Zf gGt a b) δ (.bool p):=h▸Zo ha hb (Yaf _ _)
theorem Z24(ha:EvV a δ (.int i))(hb:EvV b δ (.int j))(h:decide (j≤i)=p):EvV (Zf gGe a b) δ (.bool p):=h▸Zo ha hb (Ya1 _ _)
theorem Zed(ha:EvV a δ (.int i))(hb:EvV b δ (.int j))(h:decide (i=j)=p):EvV (Zf gEq a b) δ (.bool p):=h▸Zo ha hb (Ybo _ _)
theorem Zmb(ha:EvV a δ (.int i))(hb:EvV b δ (.int j))(h:(!decide (i=j))=p):EvV (Zf gNe a b) δ (.bool p):=h▸Zo ha hb (Yar _ _)
theorem Zhg(ha:EvV a δ (.int i)):EvV (fUn Znj a) δ (.int (-i)):=Z95 ha (Z7y _)
theorem Znf{ds:List Xa}(h:EvV e δ (.list ds)):EvV (J2 J6 (Zc e Zm)) δ (.int ds.length):=Jm (Zb h Zi) (Zsv ds)
theorem Zsl(ha:EvV a δ (.list ds))(hb:EvV b δ (.int i))(h:atI ds i=some d):EvV (Z6 gIx a b) δ d:=Y5 ha hb (by rw[Zu9,h];rfl)
noncomputable def Zqk(S:FS)(δ:Zj)(Q:Xa->Prop):Prop:=∃d,Zkc S δ d∧Q d
theorem Jd(h:S δ= .nx δ')(k:Zqk S' δ' Q):Zqk (Zz S S') δ Q:=k.imp λ_ k=>⟨Zv h k.1,k.2⟩
theorem Zw6(k:Zqk S δ Q):Zqk (Zz S S') δ Q:=k.imp λ_ k=>⟨Jp k.1,k.2⟩
theorem Zo2(h:EvV e δ d)(k:Q d):Zqk (wE e Ji) δ Q:=⟨d,Yi h,k⟩
theorem Z04(h:EvT t δ true)(k:Zqk S δ Q):Zqk (Wz t S S') δ Q:=k.imp λ_ k=>⟨Zbf h k.1,k.2⟩
theorem Z5x{o:OT}(h:δ[k]? =some (some o))(hd:Q o.data):Zqk (Zea k) δ Q:=⟨_,Yb6 h rfl,hd⟩
theorem Zku{np n:Nat}(hl:xs.length=np)(h:Zqk S (Zes n xs) Q):∃d,Told (Zae np n S) xs d∧Q d:=h.imp λ_ k=>⟨Z2 hl k.1,k.2⟩
theorem Zin{it:FI}{g:FG}(I:Nat->Zj->Prop)(hi:EvI it δ ds)(h0:I 0 δ)(turn:∀(i:Nat) (d:Xa) (δ:Zj),ds[i]? =some d->I i δ->∃δ1 δ2,g d δ=some δ1∧(S δ1= .nx δ2∨S δ1= .ct δ2)∧I (i+1) δ2)(k:∀δ',I ds.length δ'->Zqk S' δ' Q):Zqk (Zz (Zb0 it g S) S') δ Q:=by
 obtain⟨δ',e,h⟩:=Zo6 I h0 turn
 exact Jd (Zem hi e) (k δ' h)
theorem Zjg{it:FI}{g:FG}(I:Nat->Zj->Prop)(hi:EvI it δ ds)(h0:I 0 δ)(turn:∀(i:Nat) (d:Xa) (δ:Zj),ds[i]? =some d->I i δ->∃δ1 δ2,g d δ=some δ1∧(S δ1= .nx δ2∨S δ1= .ct δ2)∧I (i+1) δ2)(k:∀δ',I ds.length δ'->Zkc S' δ' d):Zkc (Zz (Zb0 it g S) S') δ d:=by
 obtain⟨δ',e,h⟩:=Zo6 I h0 turn
 exact Zv (Zem hi e) (k δ' h)
theorem Zkj{it:FI}{g:FG}(I:Nat->Zj->Prop)(hi:EvI it δ ds)(h0:I 0 δ)(turn:∀(i:Nat) (d:Xa) (δ:Zj),ds[i]? =some d->I i δ->∃δ1 δ2,g d δ=some δ1∧(S δ1= .nx δ2∨S δ1= .ct δ2)∧I (i+1) δ2):∃δ',Zb0 it g S δ= .nx δ'∧I ds.length δ':=by
 obtain⟨δ',e,h⟩:=Zo6 I h0 turn
 exact⟨δ',Zem hi e,h⟩
theorem Zsk{m n:Nat}(h:EvA as δ [.int m,.int n])(hm:m≤1000000)(hn:n≤1000000):EvI (iRb as) δ (Zci m (n-m)):=by
 obtain⟨_,e1,d1⟩:=h
 unfold EvI
 rw[Z4w,e1,Xd,d1,Z9v,Z3n (by omega) (by omega) (by omega) (by omega),show((n:Int)-(m:Int)).toNat=n-m by omega]
theorem Zjq:wE (Zch Zm) (Zap k) δ= .nx (δ.set k (some (.nd []))):=Zd0 (by rw[Zux];rfl)
theorem Za1{i:Int}(h:0<j):0≤i.fmod j:=by rw[Zd3 h];exact Int.emod_nonneg _ (by omega)
theorem Za3{i:Int}(h:0<j):i.fmod j<j:=by rw[Zd3 h];exact Int.emod_lt_of_pos _ h
theorem Zdm(i:Int){n:Nat}(h:0<n):∃m:Nat,i.fmod (n:Int)=m∧m<n:=by
 have h0:=Za1 (i:=i) (j:=n) (by omega)
 have h1:=Za3 (i:=i) (j:=n) (by omega)
 exact⟨(i.fmod n).toNat,by omega,by omega⟩
theorem Z9o{n:Int}(h:EvA as δ [.int n])(h0:0≤n)(h1:n≤1000000):EvV (Zr9 as) δ (.list (Zci 0 n.toNat)):=by
 obtain⟨_,e1,d1⟩:=h
 exact⟨_,by rw[Znl,e1,Xd,d1,Zx5,if_pos ⟨Zhs (by omega) (by omega),by rw[Qa];omega⟩],by rw[OT.data_nd,OT.map_fz]⟩
theorem Ztf{o:OT}(h:δ[k]? =some (some o))(g:Zqk S (δ.set k (some (.fz o.data))) Q):Zqk (Zcp k S) δ Q:=by
 obtain⟨d,⟨o',δ2,e,hd⟩,hq⟩:=g
 exact⟨d,⟨o',δ2,Zig h e,hd⟩,hq⟩
theorem Z0j{o:OT}{ts ts0:List OT}(h:e δ=some (o,δ'))(h0:δ[k]? =some (some (.nd ts0)))(h1:δ'[k]? =some (some (.nd ts)))(hl:ts.length≤1000000):Wq k e δ= .nx (δ'.set k (some (.nd (ts ++ [.fz o.data])))):=by
 rw[Zjj,h0,Zwc,h,Wn,h1,Zwc,Zz6 hl]
theorem Z2b{es:List Xa}(h:EvA as δ ds)(hz:Z5r ds=some es):EvI (Zg6 as) δ es:=by
 obtain⟨_,e1,d1⟩:=h
 unfold EvI Zg6
 rw[e1,Xd,d1,hz,Xd]
theorem Zyx{n:Nat}(hn:n≤1000000){v:Option OT}:(Zzp (fC d) (Zd 1)) [v,some (.fz (.int n))]=some (.nd (XF n (.fz d)),[v,some (.fz (.int n))]):=by
 obtain⟨_,e1,d1⟩:=Za (δ:=[v,some (.fz (.int n))]) (i:=1) (d:=.int n)
 rw[Z2a,Z91,Xd,e1,Xd,d1,Zuv,if_pos ⟨Zhs (by omega) (by omega),by rw[Qa];omega⟩,Qp,OT.data_fz]
theorem Zv7{δ:Zj}{v:Option OT}(h:δ[k]? =some v):δ.set k v=δ:=by
 obtain⟨hk,e⟩:=Xm.mp h
 rw[←e,List.set_getElem_self]
theorem Zlt{it:FI}{g gg:FG}{δ1:Zj}(I:Nat->Zj->Prop){J:Zj->Prop}(hg:gg d δ=some δ1)(hi:EvI it δ1 ds)(h0:I 0 δ1)(turn:∀(i:Nat) (d:Xa) (δ:Zj),ds[i]? =some d->I i δ->∃δ1 δ2,g d δ=some δ1∧(S δ1= .nx δ2∨S δ1= .ct δ2)∧I (i+1) δ2)(hJ:∀δ',I ds.length δ'->J δ'):∃δ1 δ2,gg d δ=some δ1∧(Zb0 it g S δ1= .nx δ2∨Zb0 it g S δ1= .ct δ2)∧J δ2:=by
 obtain⟨δ',e,h⟩:=Zo6 I h0 turn
 exact⟨δ1,δ',hg,.inl (Zem hi e),hJ δ' h⟩
theorem Zgs{T:String}(ha:EvV a δ x)(h:Zrp T x=p)(hf:Ziz x=false:=by rfl):EvV (Ziw T a) δ (.bool p):=(Z8l ha hf).cast (by rw[h])
theorem Zsc{f g h:Int->Int->Bool}{c d:FE}{m n:Int}(ha:EvV a δ (.int i))(hb:EvV b δ (.int j))(hc:EvV c δ (.int m))(hd:EvV d δ (.int n)):EvV (Zj6 f g h a b c d) δ (.bool (f i j&&(g j m&&h m n))):=by
 obtain⟨_,e1,d1⟩:=ha
 obtain⟨_,e2,d2⟩:=hb
 obtain⟨_,e3,d3⟩:=hc
 obtain⟨_,e4,d4⟩:=hd
 have io:∀i,intOf (.int i)=some i:=λ_=>rfl
 unfold EvV Zj6
 rw[e1,Xd,e2,Xd,d1,io,Xd,d2,io,Xd]
 cases f i j with
 | false=>exact⟨_,rfl,OT.data_fz _⟩
 | true=>
  rw[if_pos rfl,e3,Xd,d3,io,Xd]
  cases g j m with
  | false=>exact⟨_,rfl,OT.data_fz _⟩
  | true=>exact⟨_,by rw[if_pos rfl,e4,Xd,d4,io,Xd];rfl,OT.data_fz _⟩
theorem Zn8{a b:FE}{bs es:List Xa}{as:List Xa}(ha:EvV a δ (.list as))(hb:EvV b δ (.list bs))(hz:Znh as bs=es):EvI (Zg6 (Zc a (Zc b Zm))) δ es:=Z2b (Zb ha (Zb hb Zi)) (congrArg some hz)
theorem Zpl{α:Type}{caps:List Nat}{it:FI}{me:FE}{t:FT}{cs:Zj}(xs:List α)(mk:α->Xa)(pr:α->Bool)(hi:EvI it δ (xs.map mk))(hz:xs.length≤1000000)(hb:blk 1 caps δ=none :: cs)(ht:∀x∈xs,EvT t (some (.fz (mk x)) :: cs) (pr x))(h:∀x∈xs,pr x=true->me (some (.fz (mk x)) :: cs)=some (.fz (mk x),some (.fz (mk x)) :: cs)):EvV (Wt 1 caps it (gNm 0) t me) δ (.list ((xs.filter pr).map mk)):=by
 unfold EvI at hi
 refine⟨_,Zuy (cs:=cs) xs mk pr (λx=>.fz (mk x)) hi (by rw[Qa];omega) hb (λx hx=>ht x hx) h,?_⟩
 rw[OT.data_nd,X5]
 exact congrArg _ (Qg λx _=>OT.data_fz _)
theorem Told.none{F:FD}(h:Told F ds .none):F ds= .ok (.fz .none):=by
 obtain⟨o,e1,d1⟩:=h
 rw[e1,Zu5 d1]
end
end L2
namespace My
open PySem L2 PySem.Spec
noncomputable def Jz:FS :=
 (Zz (wE (J2 Z35 (Zc (Zd 0) Zm)) (Yt 0))
  (Zz (wE (J2 Z35 (Zc (Zd 1) Zm)) (Yt 1))
  (Zz (Zjm (tV (Zf gNe (Zd 1) (fC (.int 0)))) (Zz (wE (Zf Zay (Zd 0) (Zd 1)) (Yt 2))
  (Zz (wE (Zd 1) (Yt 0))
  (wE (Zd 2) (Yt 1)))))
  (wE (Zd 0) Ji))))
noncomputable def Yb:FD:=Zae 2 3 Jz
theorem Zj5{f1 f2:Int->Int->Option OT->Zj}{t:FT}{u:FS}(ht:∀x y z,t (f1 x y z)=some (!decide (y=0),f1 x y z))(hu:∀x y z,y≠0->∃z',u (f1 x y z)= .nx (f1 y (x.fmod y) z')) :
  ∀(n:Nat) (x y:Int) (z:Option OT),0≤x->0≤y->y.toNat<n->∃z',whileLoop t u n (f1 x y z)= .nx (f1 (Be x y:Int) 0 z')
 | 0,_,_,_,_,_,h=>absurd h (Vg _)
 | n+1,x,y,z,hx,hy,h=>by
  unfold whileLoop
  rw[ht]
  dsimp only
  by_cases c:y=0
  ·subst c
   refine⟨z,?_⟩
   simp only[decide_true,V7,Qi,if_false]
   rw[Int.gcd_zero_right]
   congr 2
   omega
  ·simp only[c,decide_false,Bool.not_false,if_true]
   obtain⟨z1,e1⟩:=hu x y z c
   rw[e1]
   dsimp only
   have hm:x.fmod y=x%y:=Zd3 (by omega)
   have h1:0≤x%y:=Int.emod_nonneg x c
   have h2:x%y<y:=Int.emod_lt_of_pos x (by omega)
   obtain⟨z2,e2⟩:=Zj5 (f1:=f1) (f2:=f2) ht hu n y (x.fmod y) z1 hy (by omega) (by omega)
   exact⟨z2,by rw[e2,Zwy hx (by omega)]⟩
theorem Za6(a b:Int):Yb [.int a,.int b]= .ok (.fz (.int (Be a b:Int))):=by
 obtain⟨z',e⟩:=Zj5 (f1:=λx y z=>[some (.fz (.int x)),some (.fz (.int y)),z]) (f2:=λx y z=>[]) (t:=tV (Zf gNe (Zd 1) (fC (.int 0)))) (u:=Zz (wE (Zf Zay (Zd 0) (Zd 1)) (Yt 2)) (Zz (wE (Zd 1) (Yt 0)) (wE (Zd 2) (Yt 1)))) (λx y z=>Wy (Zmb Za Zt rfl)) (λx y z hy=>⟨_,Z5 (Zq (Wj Za Za hy)) (Z5 (Zq Za) (Zq Za))⟩) ((b.natAbs:Int).toNat+1) (a.natAbs:Int) (b.natAbs:Int) none (by omega) (by omega) (by omega)
 rw[Vv,Int.natAbs_natCast,Int.natAbs_natCast]at e
 exact Told.int<|Z2 rfl<|Zv (Zq (Jm (Zb Za Zi) (Zue a)))<|Zv (Zq (Jm (Zb Za Zi) (Zue b)))<|Zv (Zm2 _ e (by intro z;cases z)) (Yi Za)
noncomputable def Zdu:FS :=
 (Zz (wE (Zr Yb (Zc (Zd 0) (Zc (Zd 1) Zm))) (Yt 2))
  (Zz (Wz (tV (Zf gLt (Zd 1) (fC (.int 0))))
  (wE (fUn Znj (Zd 2)) (Yt 2))
  fNx)
  (wE (Zlu (Zc (Zf Je (Zd 0) (Zd 2)) (Zc (Zf Je (Zd 1) (Zd 2)) Zm))) Ji)))
noncomputable def Za2:FD:=Zae 2 3 Zdu
theorem Z8d{n:Nat}{t b:Int}(hb:b≠0)(hB:Bt n b)(hn:n≤9000)(s:Int)(e:s=shr t b):Je (.int t) (.int s)=some (.int (XM t b).num)∧Je (.int b) (.int s)=some (.int ((XM t b).den:Int)):=by
 subst e
 rw[Zgn (Zf8 (Zyw hb) (Zy3 hb hB) hn),Zgn (Zf8 (Zyw hb) (Zy3 hb hB) hn),Z1a hb,Z3g hb]
 exact⟨rfl,rfl⟩
theorem Znn{n:Nat}{t b:Int}(hb:b≠0)(hB:Bt n b)(hn:n≤9000:=by decide):Told Za2 [.int t,.int b] (frD (XM t b)):=by
 have fin:∀{δ:Zj} {s:Int},s=shr t b->δ[0]? =some (some (.fz (.int t)))->δ[1]? =some (some (.fz (.int b)))->δ[2]? =some (some (.fz (.int s)))->Zkc (wE (Zlu (Zc (Zf Je (Zd 0) (Zd 2)) (Zc (Zf Je (Zd 1) (Zd 2)) Zm))) Ji) δ (frD (XM t b)):=λe h0 h1 h2=>by
  obtain⟨e1,e2⟩:=Z8d hb hB hn _ e
  exact Yi (Zff (Zb (Zo (Za h0) (Za h2) e1) (Zb (Zo (Za h1) (Za h2) e2) Zi)) (show 2≤1000 by decide))
 have g:Told Yb [.int t,.int b] _:=.of (Za6 t b) (OT.data_fz _)
 by_cases c:b<0
 ·exact Z2 rfl<|Zv (Zq (Zk (Zb Za (Zb Za Zi)) g))<|Zv (W2 (Wy (Zbk Za Zt (decide_eq_true c))) (Zq (Zhg Za))) (fin (by unfold shr;rw[if_pos c]) rfl rfl rfl)
 ·exact Z2 rfl<|Zv (Zq (Zk (Zb Za (Zb Za Zi)) g))<|Zv (Zx (Wy (Zbk Za Zt (decide_eq_false c))) rfl) (fin (by unfold shr;rw[if_neg c]) rfl rfl rfl)
noncomputable def Zdo:FS :=
 (wE (Zwi (Ziw "int" (Zd 0)) (fUn Z9t (Ziw "bool" (Zd 0)))) Ji)
noncomputable def We:FD:=Zae 1 1 Zdo
theorem Zgt(i:Int):We [.int i]= .ok (.fz (.bool true)):=rfl
noncomputable def Zc8:FS :=
 (Zz (Wz (tO (tNo (tD (Zr We (Zc (Zd 0) Zm)))) (tO (tNo (tD (Zr We (Zc (Zd 1) Zm)))) (tV (Zf gEq (Zd 1) (fC (.int 0))))))
  (Zmd "NoNumber")
  fNx)
  (wE (Zr Za2 (Zc (Zd 0) (Zc (Zd 1) Zm))) Ji))
noncomputable def Y0:FD:=Zae 2 2 Zc8
theorem Zhi{n:Nat}{t b:Int}(hb:b≠0)(hB:Bt n b)(hn:n≤9000:=by decide):Told Y0 [.int t,.int b] (frD (XM t b)):=by
 have w:∀{i:Int},Told We [.int i] (.bool true):=fun{i}=>.of (Zgt i) (OT.data_fz _)
 exact Z2 rfl<|Zv (Zx (Zht (Zfw (p:=true) (Zec (Zk (Zb Za Zi) w))) (Zht (Zfw (p:=true) (Zec (Zk (Zb Za Zi) w))) (Wy (Zed Za Zt (decide_eq_false hb))))) rfl) (Yi (Zk (Zb Za (Zb Za Zi)) (Znn hb hB hn)))
noncomputable def Zav:FS :=
 (Zz (wE (fC (.int 1)) (Yt 1))
  (Zz (Zb0 (Zjx (Zd 0)) (gNm 2)
  (wE (Zf Zc4 (Zf Je (Zd 1) (Zr Yb (Zc (Zd 1) (Zc (Z6 gIx (Zd 2) (fC (.int 1))) Zm)))) (Z6 gIx (Zd 2) (fC (.int 1)))) (Yt 1)))
  (wE (Zd 1) Ji)))
noncomputable def Wc:FD:=Zae 1 3 Zav
noncomputable def prD(p:Int×Int):Xa:=.tuple [.int p.1,.int p.2]
theorem Zxk{a b B:Int}(ha:0<a)(hb:0<b)(h1:a∣B)(h2:b∣B)(hB:0<B):0<a.fdiv (Be a b)*b∧a∣a.fdiv (Be a b)*b∧b∣a.fdiv (Be a b)*b∧a.fdiv (Be a b)*b∣B:=by
 have hg:0<(Be a b:Int):=Zfu (by omega)
 have d1:(Be a b:Int)∣a:=Int.gcd_dvd_left ..
 have d2:(Be a b:Int)∣b:=Int.gcd_dvd_right ..
 rw[Y9 hg]
 have e:a/(Be a b:Int)*b=(Int.lcm a b:Int):=by
  have q:=Int.gcd_mul_lcm a b
  have h3:(Be a b:Int)*(Int.lcm a b:Int)=a*b:=by
   rw[←Int.natCast_mul,q,Int.natCast_mul,Int.natAbs_of_nonneg (by omega),Int.natAbs_of_nonneg (by omega)]
  obtain⟨k,hk⟩:=d1
  have e1:a/(Be a b:Int)=k:=Int.ediv_eq_of_eq_mul_right (by omega) hk
  rw[e1]
  apply Int.eq_of_mul_eq_mul_left (a:=(Be a b:Int)) (by omega)
  rw[h3,←Int.mul_assoc,←hk]
 rw[e]
 refine⟨?_,Int.dvd_lcm_left ..,Int.dvd_lcm_right ..,Int.coe_lcm_dvd h1 h2⟩
 have:Int.lcm a b≠0:=by
  rw[Ne,Int.lcm_eq_zero_iff]
  omega
 omega
theorem Zij{n:Nat}{a B:Int}(hB:0<B)(h:a∣B)(b:Bt n B):Bt n a:=by
 refine Bt.of_le b ?_
 have:=Int.natAbs_dvd_natAbs.mpr h
 exact Nat.le_of_dvd (by omega) this
theorem Zg2{n:Nat}{B:Int}(hB:0<B)(bB:Bt n B)(hn:n≤9000:=by decide)(ps:List (Int×Int))(h:∀p∈ps,0<p.2∧p.2∣B) :
  ∃m,Told Wc [.list (ps.map prD)] (.int m)∧0<m∧(∀p∈ps,p.2∣m)∧m∣B:=by
 have key:∃d,Told Wc [.list (ps.map prD)] d∧∃m,d= .int m∧0<m∧(∀p∈ps,p.2∣m)∧m∣B:=by
  refine Zku rfl<|Jd (Zq Zt)<|Zin (ds:=ps.map prD) (λi δ=>∃m z,δ=[some (.fz (.list (ps.map prD))),some (.fz (.int m)),z]∧0<m∧(∀j p,j<i->ps[j]? =some p->p.2∣m)∧m∣B) (Zcg Za) ⟨1,none,rfl,by decide,λj p hj=>absurd hj (Vg j),Int.one_dvd _⟩ (λi d δ hd hi=>?_) λδ' hi=>?_
  ·obtain⟨m,z,hδ,h1,h2,h3⟩:=hi
   subst hδ
   rw[Xq]at hd
   cases e:ps[i]? with
   | none=>rw[e]at hd;cases hd
   | some p=>
    rw[e]at hd
    cases hd
    obtain⟨q1,q2⟩:=h p (QL e)
    obtain⟨s1,s2,s3,s4⟩:=Zxk h1 q1 h3 q2 hB
    have g0:0<(Be m p.2:Int):=Zfu (by omega)
    have bg:Bt n (Be m p.2:Int):=Zij hB (Int.dvd_trans (Int.gcd_dvd_right ..) q2) bB
    have bm:Bt n (m.fdiv (Be m p.2)):=by
     rw[Y9 g0]
     exact Bt.of_le (Zij hB h3 bB) (Int.natAbs_ediv_le_natAbs _ _)
    have at1:∀{δ:Zj},δ[2]? =some (some (.fz (prD p)))->EvV (Z6 gIx (Zd 2) (fC (.int 1))) δ (.int p.2):=λh=>Y5 (Za h) Zt rfl
    refine⟨_,_,rfl,.inl (Zq (Zo (Zo Za (Zk (Zb Za (Zb (at1 rfl) Zi)) (.of (Za6 m p.2) (OT.data_fz _))) (Zgn (Zf8 (by omega) bg hn))) (at1 rfl) (Zgv (Zoq bm (Zij hB q2 bB) (by omega))))),_,_,rfl,s1,λj p' hj hp=>?_,s4⟩
    by_cases z:j=i
    ·subst z
     rw[e]at hp;cases hp
     exact s3
    ·exact Int.dvd_trans (h2 j p' (by omega) hp) s2
  ·obtain⟨m,z,rfl,h1,h2,h3⟩:=hi
   refine Zo2 Za ⟨m,rfl,h1,λp hp=>?_,h3⟩
   obtain⟨j,hj⟩:=Bq hp
   exact h2 j p (by have:=(Xm.mp hj).1;rwa[Xj]) hj
 obtain⟨d,h,m,rfl,hm⟩:=key
 exact⟨m,h,hm⟩
noncomputable def Za0:FS :=
 (Zz (wE (fC (.int 1)) (Yt 1))
  (Zz (Zb0 (Zjx (Zd 0)) (gNm 2)
  (wE (Zr Wc (Zc (Z6 Zk3 (Zch (Zc (Zlu (Zc (fC (.int 1)) (Zc (Zd 1) Zm))) Zm)) (Zd 2)) Zm)) (Yt 1)))
  (wE (Zd 1) Ji)))
noncomputable def Z3:FD:=Zae 1 3 Za0
theorem Z1h(r:List Rat):r.map frD=(r.map λq=>(q.num,(q.den:Int))).map prD:=by rw[X5];rfl
noncomputable def Z8k(T:List (List Rat))(B:Int):Prop:=∀r∈T,∀q∈r,(q.den:Int)∣B
theorem Zio{n:Nat}{B:Int}(hB:0<B)(bB:Bt n B)(hn:n≤9000:=by decide)(T:List (List Rat))(hz:∀r∈T,r.length≤1000)(h:Z8k T B) :
  ∃m,Told Z3 [tbD T] (.int m)∧0<m∧Z8k T m∧m∣B:=by
 have key:∃d,Told Z3 [.list (T.map Zro)] d∧∃m,d= .int m∧0<m∧Z8k T m∧m∣B:=by
  refine Zku rfl<|Jd (Zq Zt)<|Zin (ds:=T.map Zro) (λi δ=>∃m z,δ=[some (.fz (.list (T.map Zro))),some (.fz (.int m)),z]∧0<m∧(∀j r,j<i->T[j]? =some r->∀q∈r,(q.den:Int)∣m)∧m∣B) (Zcg Za) ⟨1,none,rfl,by decide,λj p hj=>absurd hj (Vg j),Int.one_dvd _⟩ (λi d δ hd hi=>?_) λδ' hi=>?_
  ·obtain⟨m,z,hδ,h1,h2,h3⟩:=hi
   subst hδ
   rw[Xq]at hd
   cases e:T[i]? with
   | none=>rw[e]at hd;cases hd
   | some r=>
    rw[e]at hd
    cases hd
    have hr:=QL e
    obtain⟨m',e1,p1,p2,p3⟩:=Zg2 hB bB hn ((1,m) :: r.map λq=>(q.num,(q.den:Int))) λp hp=>by
     rcases Xr.mp hp with rfl|hp
     ·exact⟨h1,h3⟩
     ·obtain⟨q,hq,rfl⟩:=Qe.mp hp
      exact⟨Zaw q,h r hr q hq⟩
    rw[X3,←Z1h]at e1
    have hl:=hz r hr
    refine⟨_,_,rfl,.inl (Zq (Zk (Zb (Zz3 (ds:=[prD (1,m)]) (es:=r.map frD) (Zh7 (Zb (Zff (Zb Zt (Zb Za Zi)) (show 2≤1000 by decide)) Zi) (show 1≤1000 by decide)) Za (by rw[Xj,JP];omega)) Zi) e1)),m',_,rfl,p1,λj r' hj hr' q hq=>?_,p3⟩
    by_cases z:j=i
    ·subst z
     rw[e]at hr';cases hr'
     exact p2 (q.num,(q.den:Int)) (.tail _ (Qe.mpr ⟨q,hq,rfl⟩))
    ·exact Int.dvd_trans (h2 j r' (by omega) hr' q hq) (p2 (1,m) (.head _))
  ·obtain⟨m,z,rfl,h1,h2,h3⟩:=hi
   refine Zo2 Za ⟨m,rfl,h1,λr hr q hq=>?_,h3⟩
   obtain⟨j,hj⟩:=Bq hr
   exact h2 j r (by have:=(Xm.mp hj).1;rwa[Xj]) hj q hq
 obtain⟨d,h,m,rfl,hm⟩:=key
 exact⟨m,h,hm⟩
noncomputable def scI(m:Int)(q:Rat):Int:=q.num*(m/(q.den:Int))
theorem Zze{m:Int}{q:Rat}(h:(q.den:Int)∣m):(scI m q:Rat)=q*(m:Rat):=by
 obtain⟨k,rfl⟩:=h
 unfold scI
 rw[Int.mul_ediv_cancel_left _ (Zrz q)]
 rw[Rat.intCast_mul,Rat.intCast_mul,Yfa,Rat.mul_assoc]
noncomputable def Zc0:FS :=
 (wE (Wt 1 [0] (Zjx (Zd 1)) (gNm 0) Zg5 (Zf Zc4 (Z6 gIx (Zd 0) (fC (.int 0))) (Zf Je (Zd 1) (Z6 gIx (Zd 0) (fC (.int 1)))))) Ji)
noncomputable def Zar:FD:=Zae 2 2 Zc0
theorem Zm6{n:Nat}{m:Int}(hm:0<m)(bm:Bt n m)(r:List Rat)(hz:r.length≤1000)(h:∀q∈r,(q.den:Int)∣m∧Bt n q.num)(hn:n≤9000:=by decide) :
  Told Zar [.int m,Zro r] (.list (r.map λq=>.int (scI m q))) :=
 Z2 rfl<|Yi<|Zil (cs:=[some (.fz (.int m))]) r frD (λq=>.int (scI m q)) (Zcg Za) (by omega) rfl λq hq=>by
  obtain⟨h1,h2⟩:=h q hq
  refine(Zo (Y5 (d:=.int q.num) Za Zt rfl) (Zo Za (Y5 (d:=.int (q.den:Int)) Za Zt rfl) (Zgn (Zf8 (Zrz q) (Zij hm h1 bm) hn))) (Zgv ?_)).cast ?_
  ·rw[Y9 (Zaw q)]
   exact Zoq h2 (Bt.of_le bm (Int.natAbs_ediv_le_natAbs _ _)) (by omega)
  ·rw[Y9 (Zaw q)];rfl
noncomputable def Zb1:FS :=
 (wE (Wt 1 [0] (Zjx (Zd 1)) (gNm 0) Zg5 (Zr Zar (Zc (Zd 1) (Zc (Zd 0) Zm)))) Ji)
noncomputable def Ye:FD:=Zae 2 2 Zb1
theorem Zj9{n:Nat}{m:Int}(hm:0<m)(bm:Bt n m)(T:List (List Rat))(hT:T.length≤1000)(hz:∀r∈T,r.length≤1000)(h:Z8k T m)(hb:∀r∈T,∀q∈r,Bt n q.num)(hn:n≤9000:=by decide) :
  Told Ye [.int m,tbD T] (.list (T.map λr=>.list (r.map λq=>.int (scI m q)))) :=
 Z2 rfl<|Yi<|Zil (cs:=[some (.fz (.int m))]) T Zro (λr=>.list (r.map λq=>.int (scI m q))) (Zcg Za) (by omega) rfl λr hr=>Zk (Zb Za (Zb Za Zi)) (Zm6 hm bm r (hz r hr) (λq hq=>⟨h r hr q hq,hb r hr q hq⟩) hn)
noncomputable def Zda:FS :=
 (Zz (wE (Zch Zm) (Zap 1))
  (Zz (Zb0 (iRa (Zc (Zd 0) Zm)) (gNm 2)
  (Zb0 (iRb (Zc (Zf J0 (Zd 2) (fC (.int 1))) (Zc (Zd 0) Zm))) (gNm 3)
  (Wq 1 (Zlu (Zc (Zd 2) (Zc (Zd 3) Zm))))))
  (Zea 1)))
noncomputable def Jt:FD:=Zae 1 4 Zda
noncomputable def Yc(n:Nat):List (Nat×Nat):=(Xv n).flatMap λi=>(Xv (n-(i+1))).map λj=>(i,i+1+j)
noncomputable def ptD(p:Nat×Nat):Xa:=.tuple [.int p.1,.int p.2]
theorem Wg{n:Nat}{p:Nat×Nat}(h:p∈Yc n):p.1<p.2∧p.2<n:=by
 unfold Yc at h
 obtain⟨i,hi,hp⟩:=List.mem_flatMap.mp h
 obtain⟨j,hj,rfl⟩:=Qe.mp hp
 have:=Ql.mp hi
 have:=Ql.mp hj
 dsimp only
 omega
theorem Zql{n i j:Nat}(h:i<j)(hj:j<n):(i,j)∈Yc n:=by
 unfold Yc
 exact List.mem_flatMap.mpr ⟨i,Ql.mpr (by omega),Qe.mpr ⟨j-(i+1),Ql.mpr (by omega),by congr 1;omega⟩⟩
noncomputable def Zhk(n i:Nat):List (Nat×Nat):=(Xv i).flatMap λi=>(Xv (n-(i+1))).map λj=>(i,i+1+j)
theorem Zhp(n:Nat):∀i,(Zhk n i).length≤i*n
 | 0=>by simp[Zhk]
 | i+1=>by
  have:=Zhp n i
  unfold Zhk at this⊢
  rw[UT,List.flatMap_append,Xw]
  simp only[List.flatMap_cons,List.flatMap_nil,Q4,Xj,X8]
  have e:(i+1)*n=i*n+n:=by rw[Nat.succ_mul]
  omega
theorem Zf5(n i:Nat):Zhk n (i+1)=Zhk n i ++ (Xv (n-(i+1))).map λj=>(i,i+1+j):=by
 unfold Zhk;rw[UT,List.flatMap_append];simp
theorem Zny(n:Nat)(hn:n≤1000):Told Jt [.int n] (.list ((Yc n).map ptD)):=by
 refine Z2 rfl<|Zv Zjq<|Zjg (ds:=Zci 0 n) (λi δ=>∃z1 z2,δ=[some (.fz (.int n)),some (.nd (((Zhk n i).map ptD).map OT.fz)),z1,z2]) (Zee (Zb Za Zi) (by omega)) ⟨_,_,rfl⟩ (λi d δ hd h=>?_) λδ' h=>?_
 ·obtain⟨z1,z2,rfl⟩:=h
  obtain⟨hi,rfl⟩:=Ws hd
  rw[JL]
  have ln:=Zhp n i
  have l2:i*n≤999*1000:=Nat.mul_le_mul (by omega) hn
  refine Zlt (ds:=Zci ((i+1:Nat):Int) (n-(i+1))) (λj δ=>∃z,δ=[some (.fz (.int n)),some (.nd (((Zhk n i ++ (Xv j).map λj=>(i,i+1+j)).map ptD).map OT.fz)),some (.fz (.int i)),z]) rfl (Zsk (m:=i+1) (Zb (EvV.cast (Yk Za Zt) rfl) (Zb Za Zi)) (by omega) (by omega)) ⟨z2,by rw[List.range_zero,List.map_nil,Q4];rfl⟩ (λj d δ hd h=>?_) λδ' h=>?_
  ·obtain⟨z,rfl⟩:=h
   obtain⟨hj,rfl⟩:=Ws hd
   refine⟨_,_,rfl,.inl (Zlx (Zff (Zb Za (Zb Za Zi)) (show 2≤1000 by decide)) rfl (by rw[Xj,Xj,Xw,Xj,X8];omega)),some (.fz (.int (((i+1:Nat):Int)+j))),?_⟩
   rw[UT]
   simp only[Qu,Q7]
   rfl
  ·obtain⟨z,rfl⟩:=h
   rw[Wl,←Zf5]
   exact⟨_,_,rfl⟩
 ·obtain⟨z1,z2,rfl⟩:=h
  rw[Wl]
  exact Yb6 rfl (by rw[OT.data_nd,OT.map_fz];rfl)
end My
namespace My
open PySem L2 PySem.Spec
noncomputable def Zbm:FS :=
 (Zz (Wz (tV (Zf gLt (Zd 1) (J2 J6 (Zc (Zd 0) Zm))))
  (wE (Z6 gIx (Zd 0) (Zd 1)) Ji)
  fNx)
  (wE (fC (.int 0)) Ji))
noncomputable def Yr:FD:=Zae 2 2 Zbm
noncomputable def Zdx:FS :=
 (Zz (Wz (tV (Zf gEq (Zf Zay (Zf Je (Zd 0) (fC (.int 7))) (fC (.int 8))) (fC (.int 3))))
  (wE (Zf J0 (Zf J0 (Zd 2) (fC (.int 1))) (Zf Zay (Zf Je (Zd 0) (fC (.int 56))) (Zf gSb (Zd 3) (Zd 2)))) Ji)
  fNx)
  (wE (Zf J0 (Zd 1) (Zf Zay (Zd 0) (Zf gSb (Zf J0 (Zd 2) (fC (.int 1))) (Zd 1)))) Ji))
noncomputable def Ju:FD:=Zae 4 4 Zdx
noncomputable def Zdn:FS :=
 (Zz (wE (Zf Zay (Zf Zc4 (Zf J0 (Zf J0 (Zf Zay (Zd 0) (fC (.int 2147483629))) (Zf Zc4 (fC (.int 9973)) (Zd 1))) (fC (.int 5))) (fC (.int 48271))) (fC (.int 2147483647))) (Yt 2))
  (Zz (wE (Zf Zay (Zf Zc4 (Zd 2) (Zd 2)) (fC (.int 2147483587))) (Yt 2))
  (wE (Zf Je (Zf Zay (Zf Zc4 (Zf J0 (Zd 2) (Zf Zc4 (fC (.int 7919)) (Zd 1))) (fC (.int 16807))) (fC (.int 2147483563))) (fC (.int 8))) Ji)))
noncomputable def Zu:FD:=Zae 2 3 Zdn
noncomputable def Zbl:FS :=
 (Zz (wE (Zch Zm) (Zap 2))
  (Zz (wE (Zd 0) (Yt 3))
  (Zz (Zb0 (iRa (Zc (Zd 1) Zm)) (gNm 4)
  (Zz (wE (Zr Zu (Zc (Zd 0) (Zc (Zd 4) Zm))) (Yt 5))
  (Zz (Wz (tV (Zf gGe (Zd 0) (Zf Zo7 (fC (.int 10)) (fC (.int 18)))))
  (wE (Zf Zay (Zd 3) (fC (.int 720720))) (Yt 5))
  fNx)
  (Zz (wE (Zf Je (Zd 3) (fC (.int 720720))) (Yt 3))
  (Wq 2 (Zd 5))))))
  (Zea 2))))
noncomputable def Y8:FD:=Zae 2 6 Zbl
noncomputable def Zg(p:List Int):Xa:=.list (p.map Xk)
theorem Zp4{p:List Int}{i:Int}(h0:0≤i)(h1:i<p.length):atI (p.map Xk) i=some (.int (p.getD i.toNat 0)):=by
 rw[Zms h0,Xq,Xi (by omega)]
 simp[Xe,Xi (show i.toNat<p.length by omega)]
theorem Jc{a b:FE}{δ:Zj}{p:List Int}{i:Int}(ha:EvV a δ (Zg p))(hb:EvV b δ (.int i))(h0:0≤i)(h1:i<p.length):EvV (Z6 gIx a b) δ (.int (p.getD i.toNat 0)):=Zsl ha hb (Zp4 h0 h1)
theorem Yz{a:FE}{δ:Zj}{p:List Int}(ha:EvV a δ (Zg p)):EvV (J2 J6 (Zc a Zm)) δ (.int p.length):=by
 have:=Znf (ds:=p.map Xk) ha
 rwa[Xj]at this
theorem Yei:Zo7 (.int 10) (.int 18)=some (.int 1000000000000000000):=rfl
theorem Zd6(ns:List Int){k:Int}(h0:0≤k):∃c,Yr [Zg ns,.int k]= .ok (.fz (.int c)):=by
 by_cases c:k<ns.length
 ·exact⟨_,Told.int<|Z2 rfl<|Jp (Zbf (Wy (Zbk Za (Yz Za) (decide_eq_true c))) (Yi (Jc Za Za h0 c)))⟩
 ·exact⟨_,Told.int<|Z2 rfl<|Zv (Zx (Wy (Zbk Za (Yz Za) (decide_eq_false c))) rfl) (Yi Zt)⟩
theorem Z3j(c:Int){a b d:Int}(h1:a≤b)(h2:b<d):∃n:Int,Ju [.int c,.int a,.int b,.int d]= .ok (.fz (.int n))∧a≤n∧n≤d:=by
 by_cases k:(c.fdiv 7).fmod 8=3
 ·have q0:=Za1 (i:=c.fdiv 56) (j:=d-b) (by omega)
  have q1:=Za3 (i:=c.fdiv 56) (j:=d-b) (by omega)
  exact⟨_,Told.int<|Z2 rfl<|Jp (Zbf (Wy (Zed (Wj (Zaa Za Zt) Zt (by decide)) Zt (decide_eq_true k)))
   (Yi (Yk (Yk Za Zt) (Wj (Zaa Za Zt) (Zb8 Za Za) (by omega))))),by omega,by omega⟩
 ·have q0:=Za1 (i:=c) (j:=b+1-a) (by omega)
  have q1:=Za3 (i:=c) (j:=b+1-a) (by omega)
  exact⟨_,Told.int<|Z2 rfl<|Zv (Zx (Wy (Zed (Wj (Zaa Za Zt) Zt (by decide)) Zt (decide_eq_false k))) rfl)
   (Yi (Yk Za (Wj Za (Zb8 (Yk Za Zt) Za) (by omega)))),by omega,by omega⟩
theorem Zdb(c k:Int):∃v,Told Zu [.int c,.int k] (.int v):=by
 have n0:=Za1 (i:=(c.fmod 2147483629+9973*k+5)*48271) (j:=2147483647) (by decide)
 have n1:=Za3 (i:=(c.fmod 2147483629+9973*k+5)*48271) (j:=2147483647) (by decide)
 exact⟨_,Z2 rfl<|Zv (Zq (Wj (Zst (Yk (Yk (Wj Za Zt (by decide)) (Zan Zt Za)) Zt) Zt) Zt (by decide)))<|
  Zv (Zq (Wj (Zan Za Za (by omega)) Zt (by decide)))<|
  Yi (Zaa (Wj (Zst (Yk Za (Zan Zt Za)) Zt) Zt (by decide)) Zt)⟩
theorem Zkl{i:Nat}{e:FE}{δ:Zj}{vs:List Int}{v:Int}(h:EvV e δ (.int v))(hi:δ[i]? =some (some (.nd (vs.map λv=>.fz (.int v)))))(hl:vs.length≤1000000):Wq i e δ= .nx (δ.set i (some (.nd ((vs ++ [v]).map λv=>.fz (.int v))))):=by
 rw[Zlx h hi (by rw[Xj];exact hl),Qu];rfl
theorem Zvq{i:Nat}{e:FE}{δ δ':Zj}{vs:List Int}{ts:List OT}{v:Int}(h:e δ=some (.fz (.int v),δ'))(h0:δ[i]? =some (some (.nd ts)))(h1:δ'[i]? =some (some (.nd (vs.map λv=>.fz (.int v)))))(hl:vs.length≤1000000):Wq i e δ= .nx (δ'.set i (some (.nd ((vs ++ [v]).map λv=>.fz (.int v))))):=by
 rw[Z0j h h0 h1 (by rw[Xj];exact hl),Qu,OT.data_fz];rfl
theorem Zev(p:List Int):(OT.nd ((p.map Xk).map OT.fz)).data=Zg p:=by
 rw[OT.data_nd,OT.map_fz];rfl
theorem Zd1(vs:List Int):(OT.nd (vs.map λv=>OT.fz (.int v))).data=Zg vs:=by rw[OT.data_nd,Zq9];rfl
theorem Zju(c:Int)(m:Nat)(hm:m≤1000):∃vs:List Int,Told Y8 [.int c,.int m] (Zg vs)∧vs.length=m:=by
 have key:∃d,Told Y8 [.int c,.int m] d∧∃vs,d=Zg vs∧vs.length=m :=
  Zku rfl<|Jd Zjq<|Jd (Zq Za)<|Zin (ds:=Zci 0 m) (λi δ=>∃(vs:List Int) (x:Int) (z1 z2:Option OT),δ=[some (.fz (.int c)),some (.fz (.int m)),some (.nd (vs.map λv=>.fz (.int v))),some (.fz (.int x)),z1,z2]∧vs.length=i)
   (Zee (Zb Za Zi) (by omega)) ⟨[],c,none,none,rfl,rfl⟩ (λi d δ hd q91=>by
    obtain⟨vs,x,z1,z2,e,hl⟩:=q91
    subst e
    obtain⟨hi,rfl⟩:=Ws hd
    obtain⟨v,ev⟩:=Zdb c (0+(i:Int))
    by_cases q:1000000000000000000≤c
    ·exact⟨_,_,rfl,.inl (Z5 (Zq (Zk (Zb Za (Zb Za Zi)) ev))<|Z5 (W2 (Wy (Z24 Za (Zo Zt Zt Yei) (decide_eq_true q))) (Zq (Wj Za Zt (by decide))))<|
      Z5 (Zq (Zaa Za Zt)) (Zkl (vs:=vs) Za rfl (by omega))),_,_,_,_,rfl,by rw[Xw,hl];rfl⟩
    ·exact⟨_,_,rfl,.inl (Z5 (Zq (Zk (Zb Za (Zb Za Zi)) ev))<|Z5 (Zx (Wy (Z24 Za (Zo Zt Zt Yei) (decide_eq_false q))) rfl)<|
      Z5 (Zq (Zaa Za Zt)) (Zkl (vs:=vs) Za rfl (by omega))),_,_,_,_,rfl,by rw[Xw,hl];rfl⟩)
   λδ' q92=>by
    obtain⟨vs,x,z1,z2,e,hl⟩:=q92
    subst e
    rw[Wl]at hl
    exact Z5x rfl ⟨vs,Zd1 vs,hl⟩
 obtain⟨d,h,vs,rfl,hl⟩:=key
 exact⟨vs,h,hl⟩
end My
namespace L2
open PySem PySem.Spec PyProof.Rows
variable {G:Xc}
section
variable {P:X6}{w:Qq}{A:Qo}{E:Xf->Xh->Prop}{s:Xh}
structure Ap(z TI TO i1 i2:Addr):Prop where
 a1:TI≠z
 a2:TO≠z
 a3:i1≠z
 a4:i2≠z
 a5:i1≠TO
 a6:i2≠TO
 a7:i1≠i2
 a8:TI≠TO
 a9:TI≠i1
 a10:TI≠i2
noncomputable abbrev yT1(h:Heap)(x:Str)(t:Tok):Heap:=h.push { cls:=.type (strIterType x),data:=.fields #[.str x t,.int 0 0] }
noncomputable abbrev yT2(h:Heap)(x y:Str)(t u:Tok):Heap:=yT1 (yT1 h x t) y u
noncomputable abbrev yT3(h:Heap)(x y:Str)(t u:Tok):Heap:=(yT2 h x y t u).push { cls:=.type "tuple",data:=.seq #[.ref h.objs.size,.ref (yT1 h x t).objs.size] }
noncomputable abbrev yT4(h:Heap)(x y:Str)(t u:Tok):Heap:=(yT3 h x y t u).push { cls:=.type "tuple",data:=.seq #[.none,.none] }
noncomputable abbrev yT5(h:Heap)(x y:Str)(t u:Tok):Heap:=(yT4 h x y t u).push { cls:=.type "zip",data:=.fields #[.none,.bool false,.bool false,.ref (yT2 h x y t u).objs.size,.ref (yT3 h x y t u).objs.size] }
end
section
variable {X:Cx}{io:List Nat}{p c:Bool}{a b:Expr}{mr:MAt}{ra:FA}
end
end L2
namespace L2
open PySem PySem.Spec PyProof.Rows PySem.W PySem.SeqAt
open AutoSeq1 (wpAny_loadPart')
open MeetsSeq MeetsSeq2 MeetsSeq3 SeqRoads2
theorem Zs2(l b:Addr)(items items2:Array Xf)(n n2:Nat)(dd dd2:Option Addr)(sl sl2:Array (Option Xf)){xs ys:List Int}(h1:JN items.toList xs)(h2:JN items2.toList ys)(k:Nat) :
  ∀i:Nat,items.size-i=k->i≤items.size->i≤items2.size->Meets (Bo.«list.__eq__.loop» ⟨[.ref l,.ref b,JR i,JR 5],[]⟩)
   (λA R s=>s.heap.get? l=some { cls:=.type "list",dict:=dd,data:=.seq items n,slots:=sl }∧s.heap.get? b=some { cls:=.type "list",dict:=dd2,data:=.seq items2 n2,slots:=sl2 }∧
    R (.ok (.ret (.bool (!ltI (xs.drop i) (ys.drop i))))) s):=by
 have e1:items.size=xs.length:=Zd5 h1
 have e2:items2.size=ys.length:=Zd5 h2
 have fin:∀i,i≤items.size->i≤items2.size->(i=items.size∨i=items2.size)->(!ltI (xs.drop i) (ys.drop i))=decide (items.size≥items2.size):=λi u1 u2 c=>by
  rw[Zhh (c.imp (λc=>By (by omega)) λc=>By (by omega)),QK,QK,←decide_not]
  exact decide_eq_decide.mpr (by omega)
 induction k with
 | zero=>
  intro i hk u1 u2 prog w A R s h
  obtain⟨hp,g,d,tk,os⟩:=s;obtain⟨hl,hb,h⟩:=h
  wp_walk using Qd hl,Qd hb
  have hi1:items[((i:Nat):Int).toNat]? =none:=by simp;omega
  rw[fin i u1 u2 (.inl (by omega))]at h
  rw[hi1]
  wp_walk using Qd hl,Qd hb
  exact h
 | succ k ih=>
  intro i hk u1 u2 prog w A R s h
  obtain⟨hp,g,d,tk,os⟩:=s;obtain⟨hl,hb,h⟩:=h
  have hlt:i<items.size:=by omega
  obtain⟨x,t,q1,q2⟩:=Zjo h1 i hlt
  have hi1:items[((i:Nat):Int).toNat]? =some (.int x t):=by rw[Qp,←q1,Qk]
  wp_walk using Qd hl,Qd hb
  by_cases c:i<items2.size
  ·obtain⟨y,u,q3,q4⟩:=Zjo h2 i c
   have hi2:items2[((i:Nat):Int).toNat]? =some (.int y u):=by rw[Qp,←q3,Qk]
   have hc:((i:Int)+1)=((i+1:Nat):Int):=by push_cast;rfl
   rw[q2,q4]at h
   unfold ltI at h
   rw[hi1,hi2]
   refine Xb (EqAt.int_int x t y u prog w _ _ ?_)
   by_cases cx:x=y
   ·rw[if_pos cx]at h
    rw[beq_iff_eq.mpr cx]
    wp_walk
    rw[hc]
    exact⟨Vp VM _,JT entry_eq_loop (by
     rw[Q9 VM _]
     exact ih (i+1) (by omega) (by omega) (by omega) prog w A R _ ⟨hl,hb,h⟩)⟩
   ·rw[if_neg cx,←decide_not,decide_eq_decide.mpr (show¬x<y↔y≤x by omega)]at h
    rw[beq_eq_false_iff_ne.mpr cx]
    wp_walk using Qd hl,Qd hb
    rw[hi1,hi2]
    refine Xb (PyProof.Rows.ge_int ?_)
    wp_walk
    exact h
  ·have hi2:items2[((i:Nat):Int).toNat]? =none:=by simp;omega
   rw[fin i u1 u2 (.inr (by omega))]at h
   rw[hi1,hi2]
   wp_walk using Qd hl,Qd hb
   exact h
theorem Zr8(l b:Addr)(items items2:Array Xf)(n n2:Nat)(dd dd2:Option Addr)(sl sl2:Array (Option Xf)){xs ys:List Int}(h1:JN items.toList xs)(h2:JN items2.toList ys) :
  Meets (Bo.«list.__ge__» ⟨[.ref l,.ref b],[]⟩)
   (λA R s=>s.heap.get? l=some { cls:=.type "list",dict:=dd,data:=.seq items n,slots:=sl }∧s.heap.get? b=some { cls:=.type "list",dict:=dd2,data:=.seq items2 n2,slots:=sl2 }∧
    R (.ok (.ret (.bool (!ltI xs ys)))) s):=by
 intro prog w A R s h
 obtain⟨hp,g,d,tk,os⟩:=s;obtain⟨hl,hb,h⟩:=h
 have f3:=AutoSeq1.sub_list_list
 wp_walk using Qd hl,Qd hb
 exact⟨Vp VM _,JT entry_eq_loop (by
  rw[Q9 VM _]
  exact Zs2 l b items items2 n n2 dd dd2 sl sl2 h1 h2 _ 0 rfl (Qt _) (Qt _) prog w A R _ ⟨hl,hb,h⟩)⟩
end L2
namespace L2
open PySem PySem.Spec PyProof.Rows
variable {G:Xc}
section
variable {X:Cx}
noncomputable def Yem(K:Xc):R2:=λx y H Q=>∃(L L':Addr->Prop) (ns ms:List Int),Da K H L x (.list (ns.map Xk))∧Da K H L' y (.list (ms.map Xk))∧Q (.bl (!ltI ns ms)) H
theorem Z62(hu:X.A.units+64<cLine):OpR X (QX .GtE) (Yem X.K):=by
 intro pins s σ H x y v u Q I rx ry h
 obtain⟨L,L',ns,ms,h1,h2,q⟩:=h
 obtain⟨as,k1⟩:=h1.reads rfl I rx (lay_ints ns).1
 obtain⟨bs,k2⟩:=h2.reads rfl I ry (lay_ints ms).1
 obtain⟨a,i1,rfl,⟨⟨cls,dd,data,sl⟩,hl,hc,n,hd⟩,z1⟩:=Jo k1
 obtain⟨b,i2,rfl,⟨⟨cls2,dd2,data2,sl2⟩,hl2,hc2,n2,hd2⟩,z2⟩:=Jo k2
 simp only at hc hd hc2 hd2
 subst hc hd hc2 hd2
 exact richCompare_meets_room (op:=.GtE) ⟨_,hl,rfl⟩ ⟨_,hl2,rfl⟩ F.slot_list_ge F.entry_list_ge (F.args_list_ge_2 _ _) (Zr8 a b i1 i2 n n2 dd dd2 sl sl2 z1 z2)
  ⟨hl,hl2,show U8 (!ltI ns ms)≠Value.notImplemented∧_ from⟨(λx=>nomatch x),⟨.bl (!ltI ns ms),H,I,rfl,q⟩⟩⟩ (by omega)
noncomputable def Z4a:Xa->Xa->Option Xa:=λd e=>match d,e with
 | .list ds,.list es=>(Zbj ds).bind λns=>(Zbj es).bind λms=>some (.bool (!ltI ns ms))
 | _,_=>none
noncomputable def Yc3:Xa->Xa->(Xa->Prop)->Prop:=λd e k=>∃r,Z4a d e=some r∧k r
theorem Yae:ByS Z4a Yc3:=λ_ _ r _ h hk=>⟨r,h,hk⟩
theorem Z6t:P2s G (Yem G) Yc3:=λH L x y d e k Q hx hy h kk=>by
 obtain⟨r,h,hk⟩:=h
 unfold Z4a at h
 split at h
 case h_2=>cases h
 obtain⟨ns,h1,h⟩:=bs h
 obtain⟨ms,h2,h⟩:=bs h
 cases h
 rw[Jq h1]at hx
 rw[Jq h2]at hy
 exact⟨L,L,ns,ms,hx,hy,kk _ _ (.bl _) hk⟩
end
end L2
namespace L2
open PySem PySem.Spec PyProof.Rows PySem.W
theorem Zfi{α β:Type}{lt:Nat->Nat->Bool}{f:α->KasT β}(t:KasT α):kEv lt (t.bind f)=kEv lt (f (kEv lt t)):=by
 induction t with
 | ret a=>rfl
 | ask i j k ih=>exact ih _
structure Tot(lt:Nat->Nat->Bool)(n:Nat):Prop where
 tr:∀i j k,i<n->j<n->k<n->lt i j=true->lt j k=true->lt i k=true
 tot:∀i j,i<n->j<n->i≠j->lt i j=false->lt j i=true
 asy:∀i j,i<n->j<n->lt i j=true->lt j i=false
section
variable {lt:Nat->Nat->Bool}{n:Nat}
noncomputable abbrev gD(p:Array Nat)(i:Nat):Nat:=p.getD i 0
theorem kP.size{p:Array Nat}(h:kP n p):p.size=n:=by rw[←XR,List.Perm.length_eq h,X8]
theorem Zns{p:Array Nat}{i:Nat}(h:i<p.size):p[i]? =some (gD p i):=by rw[Vb h];simp[gD,Array.getD,h]
theorem Zwp{p q:Array Nat}{i j:Nat}(h:p[i]? =q[j]?):gD p i=gD q j:=by
 show p.getD i 0=q.getD j 0
 rw[Array.getD_eq_getD_getElem?,Array.getD_eq_getD_getElem?,h]
theorem kP.blw{p:Array Nat}(h:kP n p){i:Nat}(hi:i<n):gD p i<n:=h.at (Nat.lt_of_le_of_lt (Qt _) hi) i
theorem kP.ne{p:Array Nat}(h:kP n p){i j:Nat}(hi:i<j)(hj:j<n):gD p i≠gD p j:=λe=>by
 have nd:p.toList.Nodup:=(List.Perm.nodup_iff h).mpr List.nodup_range
 have sz:=h.size
 have a:=Zns (p:=p) (i:=i) (by omega)
 have b:=Zns (p:=p) (i:=j) (by omega)
 rw[←Qk]at a b
 obtain⟨a1,a2⟩:=Xm.mp a
 obtain⟨b1,b2⟩:=Xm.mp b
 exact Bg.mp nd i j a1 b1 hi (by rw[a2,b2,e])
noncomputable def Ri(lt:Nat->Nat->Bool)(p:Array Nat)(m:Nat):Prop:=∀i j,i<j->j<m->lt (gD p i) (gD p j)=true
noncomputable def Fa(lt:Nat->Nat->Bool)(p:Array Nat)(m:Nat):Prop:=∀i j,i<j->j<m->lt (gD p j) (gD p i)=true
variable (T:Tot lt n)
include T
theorem Zzu{p:Array Nat}(h:kP n p)(f:Nat):∀m,1≤m->m+f≤n->Ri lt p m->Ri lt p (kEv lt (kas_asc p f m))∧m≤kEv lt (kas_asc p f m)∧kEv lt (kas_asc p f m)≤m+f∧(kEv lt (kas_asc p f m)<m+f->lt (gD p (kEv lt (kas_asc p f m))) (gD p (kEv lt (kas_asc p f m)-1))=true):=by
 induction f with
 | zero=>exact λm _ _ r=>⟨r,XN _,XN _,λz=>absurd z (BL _)⟩
 | succ f ih=>
  intro m h1 hn r
  show _∧_
  rw[kas_asc,kEv]
  cases c:lt (p.getD m 0) (p.getD (m-1) 0)with
  | true=>
   rw[if_pos rfl,kEv]
   exact⟨r,XN _,Q5 _ _,λ_=>c⟩
  | false=>
   rw[if_neg Xp]
   have up:lt (gD p (m-1)) (gD p m)=true:=T.tot _ _ (h.blw (by omega)) (h.blw (by omega)) (h.ne (by omega) (by omega)).symm c
   have r2:Ri lt p (m+1):=λi j hij hj=>by
    rcases V2 j m with q|q
    ·exact r i j hij q
    ·have:j=m:=by omega
     subst this
     rcases V2 i (j-1)with q2|q2
     ·exact T.tr _ _ _ (h.blw (by omega)) (h.blw (by omega)) (h.blw (by omega)) (r i (j-1) q2 (by omega)) up
     ·have:i=j-1:=by omega
      subst this
      exact up
   obtain⟨a,b,c,d⟩:=ih (m+1) (by omega) (by omega) r2
   exact⟨a,by omega,by omega,λz=>d (by omega)⟩
theorem Z2w{p:Array Nat}(h:kP n p)(f:Nat):∀m,1≤m->m+f≤n->Fa lt p m->∃m',kEv lt (kas_desc f p m 0)=(p,m',0)∧Fa lt p m'∧m≤m'∧m'≤m+f:=by
 induction f with
 | zero=>exact λm _ _ r=>⟨m,rfl,r,XN _,XN _⟩
 | succ f ih=>
  intro m h1 hn r
  rw[kas_desc,kEv]
  cases c:lt (p.getD m 0) (p.getD (m-1) 0)with
  | true=>
   rw[if_pos rfl,if_neg (BL _)]
   have r2:Fa lt p (m+1):=λi j hij hj=>by
    rcases V2 j m with q|q
    ·exact r i j hij q
    ·have:j=m:=by omega
     subst this
     rcases V2 i (j-1)with q2|q2
     ·exact T.tr _ _ _ (h.blw (by omega)) (h.blw (by omega)) (h.blw (by omega)) c (r i (j-1) q2 (by omega))
     ·have:i=j-1:=by omega
      subst this
      exact c
   obtain⟨m',e,a,b,d⟩:=ih (m+1) (by omega) (by omega) r2
   exact⟨m',e,a,by omega,by omega⟩
  | false=>
   rw[if_neg Xp,kEv]
   have up:lt (p.getD (m-1) 0) (p.getD m 0)=true:=T.tot _ _ (h.blw (by omega)) (h.blw (by omega)) (h.ne (by omega) (by omega)).symm c
   rw[up,if_pos rfl,kEv]
   exact⟨m,rfl,r,XN _,Q5 _ _⟩
theorem Zwx{p:Array Nat}(h:kP n p)(h0:0<n):∃m p',kEv lt (kas_count n p)=(m,p')∧kP n p'∧Ri lt p' m∧1≤m∧m≤n:=by
 rw[kas_count,Zfi]
 obtain⟨a,b,c,d⟩:=Zzu T h (n-1) 1 (XN _) (by omega) λi j _ _=>by omega
 generalize kEv lt (kas_asc p (n-1) 1)=m at a b c d
 by_cases e:m=n
 ·rw[if_pos (by rw[e];exact beq_self_eq_true _),kEv]
  exact⟨m,p,rfl,h,a,b,by omega⟩
 rw[if_neg (λz=>e (beq_iff_eq.mp z))]
 by_cases m1:m>1
 ·rw[if_pos m1,kEv,a 0 (m-1) (by omega) (by omega),if_pos rfl,kEv]
  exact⟨m,p,rfl,h,a,b,by omega⟩
 rw[if_neg m1]
 have em:m=1:=by omega
 subst em
 have lt1:=d (by omega)
 rw[kas_descPart,Zfi]
 obtain⟨m',e2,f2,b2,d2⟩:=Z2w T h (n-(1+1)) (1+1) (by omega) (by omega) λi j hij hj=>by
  have:i=0:=by omega
  have:j=1:=by omega
  subst i j
  exact lt1
 rw[e2,if_neg (BL _),kas_tail3,Zfi,kEv]
 have kr:kP n (kas_rev p 0 m'):=h.rev _ _
 have rr:Ri lt (kas_rev p 0 m') m':=λi j hij hj=>by
  have ge:∀k,k<m'->gD (kas_rev p 0 m') k=gD p (m'-1-k):=λk hk=>Zwp (by
   have:=getElem?_mirror_all (xs:=p) (i:=0) (j:=m') (by rw[h.size];omega) k
   rw[if_pos ⟨Qt _,hk⟩,Nat.zero_add]at this
   exact this)
  rw[ge i (by omega),ge j hj]
  exact f2 _ _ (by omega) (by omega)
 obtain⟨a,b,c,_⟩:=Zzu T kr (n-m') m' (by omega) (by omega) rr
 have n2:2≤n:=by omega
 have:m'≤n:=by omega
 refine⟨_,_,rfl,kr,a,?_,?_⟩
 ·exact Qv (by omega) b
 ·exact Qv c (by omega)
theorem Zx7{p:Array Nat}(h:kP n p){k:Nat}(hk:k<n)(f:Nat):∀l r,l≤r->r≤k->r-l≤f->(∀i,i<l->lt (gD p i) (gD p k)=true)->(∀i,r≤i->i<k->lt (gD p k) (gD p i)=true)->Ri lt p k ->
  kEv lt (kas_place p k f l r)≤k∧(∀i,i<kEv lt (kas_place p k f l r)->lt (gD p i) (gD p k)=true)∧∀i,kEv lt (kas_place p k f l r)≤i->i<k->lt (gD p k) (gD p i)=true:=by
 induction f with
 | zero=>
  intro l r lr rk z a b R
  have:l=r:=by omega
  subst this
  exact⟨rk,a,b⟩
 | succ f ih=>
  intro l r lr rk z a b R
  rw[kas_place]
  by_cases c:l≥r
  ·rw[if_pos c,kEv]
   exact⟨by omega,a,λi x y=>b i (by omega) y⟩
  rw[if_neg c,kEv]
  have hm:(l+r)/2<k:=by omega
  cases q:lt (p.getD k 0) (p.getD ((l+r)/2) 0)with
  | true=>
   rw[if_pos rfl]
   refine ih _ _ (by omega) (by omega) (by omega) a (λi x y=>?_) R
   by_cases e:i=(l+r)/2
   ·subst e;exact q
   ·exact T.tr _ _ _ (h.blw hk) (h.blw (by omega)) (h.blw (by omega)) q (R _ _ (by omega) y)
  | false=>
   rw[if_neg Xp]
   have up:lt (gD p ((l+r)/2)) (gD p k)=true:=T.tot _ _ (h.blw hk) (h.blw (by omega)) (h.ne hm hk).symm q
   refine ih _ _ (by omega) (by omega) (by omega) (λi x=>?_) b R
   by_cases e:i=(l+r)/2
   ·subst e;exact up
   ·exact T.tr _ _ _ (h.blw (by omega)) (h.blw (by omega)) (h.blw hk) (R _ _ (by omega) hm) up
theorem Z7l(f:Nat):∀{p:Array Nat} (h:kP n p) (k:Nat),k+f≤n->Ri lt p k->Ri lt (kEv lt (kas_bin f p k)) (k+f):=by
 induction f with
 | zero=>exact λh k _ r=>r
 | succ f ih=>
  intro p h k hn r
  rw[kas_bin,Zfi]
  obtain⟨a,b,c⟩:=Zx7 T h (k:=k) (by omega) k 0 k (Qt _) (XN _) (by omega) (λi z=>absurd z (Vg _)) (λi x y=>absurd y (by omega)) r
  generalize kEv lt (kas_place p k k 0 k)=l at a b c
  have ge:∀j,gD (bubble p k (k-l)) j=if j=l then gD p k else if l<j∧j≤k then gD p (j-1)else gD p j:=λj=>by
   have e:=getElem?_bubble (xs:=p) (src:=k) (by rw[h.size];omega) (k-l) (by omega) j
   have e0:k-(k-l)=l:=by omega
   rw[e0]at e
   by_cases c1:j=l
   ·rw[if_pos c1]at e⊢
    exact Zwp e
   ·rw[if_neg c1]at e⊢
    by_cases c2:l<j∧j≤k
    ·rw[if_pos c2]at e⊢
     exact Zwp e
    ·rw[if_neg c2]at e⊢
     exact Zwp e
  have:=ih (h.bub k (k-l)) (k+1) (by omega) λi j hij hj=>?_
  ·rw[show k+1+f=k+(f+1) by omega]at this
   exact this
  rw[ge,ge]
  rcases VD j l with q|q|q
  ·rw[if_neg (by omega),if_neg (by omega),if_neg (by omega),if_neg (by omega)]
   exact r i j hij (by omega)
  ·rw[if_neg (by omega),if_neg (by omega),if_pos q]
   exact b i (by omega)
  ·rw[if_neg (show¬j=l by omega),if_pos (show l<j∧j≤k by omega)]
   rcases VD i l with q2|q2|q2
   ·rw[if_neg (by omega),if_neg (by omega)]
    exact r i (j-1) (by omega) (by omega)
   ·rw[if_pos q2]
    exact c (j-1) (by omega) (by omega)
   ·rw[if_neg (by omega),if_pos (by omega)]
    exact r (i-1) (j-1) (by omega) (by omega)
theorem Z0y(h0:0<n):Ri lt (kEv lt (kas_sort n)) n:=by
 rw[kas_sort,Zfi]
 obtain⟨m,p,e,kp,r,l1,l2⟩:=Zwx T (p:=V0 (Xv n)) (List.Perm.refl _) h0
 rw[e]
 by_cases c:m<n
 ·rw[if_pos c]
  have em:max m 1=m:=by omega
  rw[em]
  have:=Z7l T (n-m) kp m (by omega) r
  rw[show m+(n-m)=n by omega]at this
  exact this
 ·rw[if_neg c,kEv]
  have:m=n:=by omega
  rw[this]at r
  exact r
theorem Z1z(h0:0<n):(Zv4 lt n).Pairwise λi j=>lt i j=true:=by
 have h:kP n (kEv lt (kas_sort n)):=(Zif h0).ev (P:=kP n)
 have r:=Z0y T h0
 refine Bg.mpr λi j hi hj hij=>?_
 have sz:=h.size
 rw[←XR]at sz
 have l2:(Zv4 lt n).length=n:=sz
 have ge:∀k (hk:k<(Zv4 lt n).length),(Zv4 lt n)[k]=gD (kEv lt (kas_sort n)) k:=λk hk=>by
  have:=Zns (p:=kEv lt (kas_sort n)) (i:=k) (by rw[h.size];omega)
  rw[←Qk]at this
  exact(Xm.mp this).2
 rw[ge,ge]
 exact r i j hij (by omega)
end
theorem Z17{α β:Type}{d:α}{lt:Nat->Nat->Bool}{vs:List α}{R:α->α->Prop}(T:Tot lt vs.length)(hR:∀i j,i<vs.length->j<vs.length->lt i j=true->R (vs.getD i d) (vs.getD j d)):(sLay d lt vs).Pairwise R:=by
 unfold sLay
 split
 ·rename_i c
  match vs,c with
  | [],_=>exact .nil
  | [a],_=>exact List.pairwise_singleton _ _
 ·rename_i c
  have pm:=Zfg (lt:=lt) (n:=vs.length) (by omega)
  have up:=Z1z T (by omega)
  have h:=List.Pairwise.imp_of_mem (fun{i j} hi hj e=>hR i j (Ql.mp (pm.mem_iff.mp hi)) (Ql.mp (pm.mem_iff.mp hj)) e) up
  exact List.pairwise_map.mpr h
end L2
namespace L2
open PySem PySem.Spec PyProof.Rows
variable {G:Xc}
section
variable {X:Cx}
noncomputable def Yd1(K:Xc):R2:=λx y H Q=>∃(L L':Addr->Prop) (ns ms:List Int),Da K H L x (.list (ns.map Xk))∧Da K H L' y (.list (ms.map Xk))∧Q (.bl (ltI ns ms)) H
theorem Z8a(hu:X.A.units+64<cLine):OpR X (QX .Lt) (Yd1 X.K):=by
 intro pins s σ H x y v u Q I rx ry h
 obtain⟨L,L',ns,ms,h1,h2,q⟩:=h
 obtain⟨as,k1⟩:=h1.reads rfl I rx (lay_ints ns).1
 obtain⟨bs,k2⟩:=h2.reads rfl I ry (lay_ints ms).1
 obtain⟨a,i1,rfl,⟨⟨cls,dd,data,sl⟩,hl,hc,n,hd⟩,z1⟩:=Jo k1
 obtain⟨b,i2,rfl,⟨⟨cls2,dd2,data2,sl2⟩,hl2,hc2,n2,hd2⟩,z2⟩:=Jo k2
 simp only at hc hd hc2 hd2
 subst hc hd hc2 hd2
 exact richCompare_meets_room (op:=.Lt) ⟨_,hl,rfl⟩ ⟨_,hl2,rfl⟩ F.slot_list_lt F.entry_list_lt (F.args_list_lt_2 _ _) (Zma a b i1 i2 n n2 dd dd2 sl sl2 z1 z2)
  ⟨hl,hl2,show U8 (ltI ns ms)≠Value.notImplemented∧_ from⟨(λx=>nomatch x),⟨.bl (ltI ns ms),H,I,rfl,q⟩⟩⟩ (by omega)
noncomputable def Z33:Xa->Xa->Option Xa:=λd e=>match d,e with
 | .list ds,.list es=>(Zbj ds).bind λns=>(Zbj es).bind λms=>some (.bool (ltI ns ms))
 | _,_=>none
noncomputable def Yc9:Xa->Xa->(Xa->Prop)->Prop:=λd e k=>∃r,Z33 d e=some r∧k r
theorem Yac:ByS Z33 Yc9:=λ_ _ r _ h hk=>⟨r,h,hk⟩
theorem Z56:P2s G (Yd1 G) Yc9:=λH L x y d e k Q hx hy h kk=>by
 obtain⟨r,h,hk⟩:=h
 unfold Z33 at h
 split at h
 case h_2=>cases h
 obtain⟨ns,h1,h⟩:=bs h
 obtain⟨ms,h2,h⟩:=bs h
 cases h
 rw[Jq h1]at hx
 rw[Jq h2]at hy
 exact⟨L,L,ns,ms,hx,hy,kk _ _ (.bl _) hk⟩
end
variable {G:Xc}
noncomputable def Z36(d:Xa)(ds:List Xa):Option Nat:=ds.findIdx? λy=>Qs y d
section
variable {X:Cx}{io:List Nat}{c:Bool}{e:Expr}{m mb:MEt}
noncomputable def Z1v(K:Xc):V->List V->Hp->VK->Prop:=λx vs H Q=>∃(L L':Addr->Prop) (ds:List Xa) (d:Xa) (w:V) (j:Nat),vs=[w]∧Da K H L x (.list ds)∧Da K H L' w d∧(Qy ds).canLay0=true∧d.canLay0=true∧d.depth≤32∧ds.length≤2^20∧Z36 d ds=some j∧Q (.int j) H
theorem Ztx(hu:X.A.units+64<cLine):MtR X "list.index" (Z1v X.K):=by
 intro pins s σ H x vs v us Q I rx rv h
 obtain⟨L,L',ds,d,w,j,rfl,h1,h2,s1,s2,hd,hb,hj,q⟩:=h
 obtain⟨u,rfl,ru⟩:=vals1 rv
 obtain⟨as,k1⟩:=h1.reads rfl I rx s1
 obtain⟨bs,k2⟩:=h2.reads rfl I ru s2
 obtain⟨hj1,hj2,hj3⟩:=List.findIdx?_eq_some_iff_getElem.mp hj
 cases k1 with
 | @list a o vs n _ as' e1 e2 e3 e4=>
  obtain⟨cls,dd,data,sl⟩:=o
  simp only at e2 e3
  subst e2 e3
  have mp:=SeqAt.readsAll_map ds _ _ s1 e4
  have ln:vs.size=ds.length:=by rw[←mp,Xj,XR]
  have at':∀k (h:k<vs.size) (h':k<ds.length),SeqAt.readOf s.heap vs[k]=ds[k]:=λk h h'=>by
   have:(vs.toList.map (SeqAt.readOf s.heap))[k]? =ds[k]?:=by rw[mp]
   rw[Xq,Qk,Vb h,Xi h']at this
   exact QD this
  refine U0 V6 ⟨_,e1,rfl⟩ PySem.F.entry_list_index (PySem.F.args_list_index_2 _ _)
   (SeqAt.list_indexAt _ vs n dd sl u (λy=>Qs (SeqAt.readOf s.heap y) d) j (by omega) (by omega) ?_ ?_) ⟨e1,SeqAt.items_eqAt e4 k2 s1 s2 (Z3u hd hu),⟨.int j,H,I.kept (h':=s.heap) (λb o e=>e),⟨_,rfl⟩,q⟩⟩
  ·show Qs (SeqAt.readOf s.heap vs[j]) d=true
   rw[at' j (by omega) hj1];exact hj2
  ·intro k hk hlt
   show Qs (SeqAt.readOf s.heap vs[k]) d=false
   rw[at' k hk (by omega)]
   exact Bu.mpr (hj3 k hlt)
noncomputable def Zsw(m mb:MEt):MEt:=λδ K=>m δ λr δ1=>∃ds:List Xa,r.data= .list ds∧(Qy ds).canLay0=true∧ds.length≤2^20∧mb δ1 λn δ2=>n.data.canLay0=true∧n.data.depth≤32∧∃j,Z36 n.data ds=some j∧K (.fz (.int (j:Nat))) δ2
theorem Zw0{o:Expr}{apos cpos:Pos}(hu:X.A.units+64<cLine)(ho:ME X io true true o m)(he:ME X io true c e mb)
  (hbase:VN o "index" X.env (eval o X.env)=eval o X.env:=by rfl)
  (hfew:((JF cpos (Xo [e] X.env)).all (λx=>!x.1)&&(backToKw cpos (Um [] X.env)).all (λx=>x.1.isSome)
   &&decide ([e].length+([]:List VB).length+(if([]:List VB).isEmpty then 0 else 1)<30))=true:=by rfl)
  (hline:(apos.endLine==cpos.line)=true:=by rfl) (hs:Xo [e] X.env=(false,eval e X.env) :: Xo [] X.env:=by rfl) (hplain:(JF cpos (Xo [] X.env)).any (·.1)=false:=by rfl) :
  ME X io true true (.Call (.Attribute o "index" apos) [e] [] cpos) (Zsw m mb):=by
 obtain⟨_,A,sa⟩:=ho
 obtain⟨_,B,sb⟩:=he
 refine⟨_,Zsr Vl V6 PySem.F.type_list_index (Ztx hu) A (Za5 B Zen hs) hbase hfew hline hs hplain,λC H σ δ fp ex K Q R h kk=>?_⟩
 refine sa.pureAfter R h λH1 v r R1 s1 q1 h1=>?_
 obtain⟨ds,e1,l1,hb,h1⟩:=h1
 rw[e1]at q1
 obtain⟨a,xs,_,rfl,hsq,_,_⟩:=q1.lstInv (k:=λ_=>True) trivial
 refine⟨.inl ⟨rfl,_,hsq⟩,?_⟩
 refine sb.pureAfter R1 h1 λH2 w n R2 s2 q2 h2=>?_
 obtain⟨l2,hd,j,hj,h2⟩:=h2
 have s12:Same H H2:=s1.trans s2
 exact⟨_,_,ds,n.data,w,j,rfl,q1.same s2,q2,l1,l2,hd,hb,hj,kk H2 _ _ δ fp [] (.fz R2 (.same s12 s12.al) (.int _)) h2⟩
end
noncomputable def Zhj(a b:FE):FE:=λδ=>(a δ).bind λp=>match p.1.data with
 | .list ds=>if(Qy ds).canLay0=true∧ds.length≤2^20 then(b p.2).bind λq=>if q.1.data.canLay0=true∧q.1.data.depth≤32 then(Z36 q.1.data ds).bind λj=>some (.fz (.int (j:Nat)),q.2)else none else none
 | _=>none
section
variable {X:Cx}{io:List Nat}{p c:Bool}{e:Expr}{fa fb:FE}
theorem Zsj(h:ME X io p c e (Zsw (o2 fa) (o2 fb))):ME X io p c e (o2 (Zhj fa fb)):=h.weak λδ K h=>by
 obtain⟨r,δ',h,k⟩:=h
 unfold Zhj at h
 obtain⟨⟨x,δ1⟩,h1,h⟩:=bs h
 refine⟨x,δ1,h1,?_⟩
 try dsimp only at h⊢
 split at h
 case h_2=>cases h
 rename_i ds q
 split at h
 case isFalse=>cases h
 rename_i c1
 obtain⟨⟨y,δ2⟩,h2,h⟩:=bs h
 refine⟨ds,(by first|exact q|rfl),c1.1,c1.2,y,δ2,h2,?_⟩
 try dsimp only at h⊢
 split at h
 case isFalse=>cases h
 rename_i c2
 obtain⟨j,h3,h⟩:=bs h
 cases h
 exact⟨c2.1,c2.2,j,h3,k⟩
theorem Zu7{δ:Zj}{ds:List Xa}{d:Xa}{j:Nat}(ha:EvV fa δ (.list ds))(hb:EvV fb δ d)(l1:(Qy ds).canLay0=true)(hl:ds.length≤1000000)(l2:d.canLay0=true)(hd:d.depth≤32)(hj:Z36 d ds=some j):EvV (Zhj fa fb) δ (.int (j:Nat)):=by
 obtain⟨t1,e1,g1⟩:=ha
 obtain⟨t2,e2,g2⟩:=hb
 refine⟨.fz (.int (j:Nat)),?_,OT.data_fz _⟩
 unfold Zhj
 rw[e1,Xd]
 dsimp only
 rw[g1]
 dsimp only
 rw[if_pos ⟨l1,by omega⟩,e2,Xd]
 dsimp only
 rw[g2,if_pos ⟨l2,hd⟩,hj];rfl
end
variable {G:Xc}
noncomputable def Z2h(m:MEt):MEt:=λδ K=>m δ λr δ1=>match r with| .nd ts=>K (.nd ((OT.datas ts).map OT.fz)) δ1|_=>False
section
variable {X:Cx}{io:List Nat}{p c:Bool}{e b:Expr}{m mb:MEt}{i:Nat}{x:Str}{px pp pos:Pos}
theorem Ybr{t:TE}(s:SE G io p true t m):SE G io p true t (Z2h m):=by
 refine λC H σ δ fp ex K Q R h kk=>s C H σ δ fp ex _ _ R h λH1 v r δ1 fp1 new r1 h1=>?_
 split at h1
 case h_2=>exact h1.elim
 rename_i ts
 obtain⟨rel,stp,own,nd,fresh⟩:=r1
 generalize et:OT.nd ts=o at own
 cases own with
 | nd e1 ow=>
  rename_i a xs ts' bs
  cases et
  have hn:=Qm.mp nd
  refine kk H1 (.ref a) _ δ1 fp1 [a] ⟨rel.drop λb z=>z.imp id λz=>by rw[Xu.mp z];exact .head _,stp,.nd e1 (Das.owns (ow.das (λb l q hc=>?_) λb hb hc=>?_)),Qm.mpr ⟨(λz=>nomatch z),.nil⟩,λb hb=>by rw[Xu.mp hb];exact fresh a (.head _)⟩ h1
  ·exact⟨(l hc).1,λz=>(l hc).2.1 (z.imp id λz=>by rw[Xu.mp z];exact .head _),(l hc).2.2⟩
  ·have ok:=R.newOk (fresh b (.tail _ hb))
   refine⟨λz=>?_,λz=>z.elim ok.2.1 λz=>hn.1 (by rw[←Xu.mp z];exact hb),.inr ok.2.2⟩
   obtain⟨j,z⟩:=z
   exact rel.dx j b z (.inr (.tail _ hb))
 | _=>cases et
theorem Zoj{ci pt pe:Bool}{g:MGt}{mt:MTt}{me:MEt}{mi:MIt}{own:List Str}{caps:List Nat}{N':List Str}{sc:Uo}{tg elt iter:Expr}{ifs:List Expr}{y:Str}{py spos:Pos}(hN:X.N.Nodup)(hy:X.N[i]? =some y)(hx:Loc X.env.scope y)(S:CompScope X own caps N' sc)(hc:X.calm=true)(nd:caps.Nodup)(hi:MI X io p ci tg iter mi)
  (hg:∀C cells s₂ H₂ fp,MG (Wb X N' sc C cells s₂ H₂ fp) (Zah own.length caps) ci tg g) (ht:∀C cells s₂ H₂ fp,MIfs (Wb X N' sc C cells s₂ H₂ fp) (Zah own.length caps) pt ifs mt) (he:∀C cells s₂ H₂ fp,ME (Wb X N' sc C cells s₂ H₂ fp) (Zah own.length caps) pe true elt me)
  (hp:(pt&&pe)=true:=by rfl) (hio:i∉io:=by decide)
  (hsw:VL (.ListComp elt [⟨tg,iter,ifs,0⟩] sc pos) (some (.Name y py)) spos.line X.env=pure true:=by rfl)
  (hs:∀x,Bf iter X.env x=pure x:=by intro _;rfl) (hf:X.fn y=true∨X.env.scope.names.lookup y=some .local:=by first|exact .inl rfl|exact .inr rfl|assumption) :
  MS X io (.Assign [.Name y py] (.ListComp elt [⟨tg,iter,ifs,0⟩] sc pos) spos) (Zl3 i (Z2h (Zgd own.length caps mi g mt me))):=by
 obtain⟨_,A,si⟩:=hi
 exact⟨_,Zjh (g:=gM X.K (Zah own.length caps) ci g) (tt:=ttM X.K (Zah own.length caps) pt mt) (te:=tM X.K (Zah own.length caps) pe true me) hN hy hx S hc A (λC cells s₂ H₂ fp=>(hg C cells s₂ H₂ fp).canon) (λC cells s₂ H₂ fp=>(ht C cells s₂ H₂ fp).canon) (λC cells s₂ H₂ fp=>(he C cells s₂ H₂ fp).canon) hsw hs hf,Z3i (Ybr (Zyp si nd hp)) hio⟩
noncomputable def Zz1(i:Nat):MEt:=λδ K=>∃ts,δ[i]? =some (some (.nd ts))∧Zl0 ts=true∧K (.nd ((OT.datas ts).map OT.fz)) δ
theorem Z1q(i:Nat)(hg:Gl X "list")(hm:X.mg "list"=none)(hvb:Qh "list"=some (.type "list"))
  (hN:X.N[i]? =some x:=by rfl) (hv:Vis X.env.scope x:=by first|exact QB rfl|exact Qw (QB rfl)|exact Qw (Qw rfl)) (hd:(x==("__debug__" : Str))=false:=by decide) (hcd:(x==("__classdict__" : Str))=false:=by decide)
  (he:Xo [.Name x px] X.env=(false,eval (.Name x px) X.env) :: Xo [] X.env:=by rfl) (hpl:(JF pos (Xo [] X.env)).any (·.1)=false:=by rfl):ME X io true true (.Call (.Name "list" pp) [.Name x px] [] pos) (Zz1 i):=by
 refine⟨_,Zh8 (Zqs rfl) hg hm hvb (Za5 (pv i hN hv hd hcd) Zen he) (by decide) (by decide) he hpl,λC H σ δ fp ex K Q R h kk=>?_⟩
 obtain⟨ts,hi,hz,h⟩:=h
 obtain⟨a',xs,bs,hv0,hx,ow,hfp⟩:=R.ownNd hi
 refine⟨_,hv0,a',xs,rfl,.inl (.inl (.inl hx)),λl hl=>?_⟩
 have s:=Yo hl (.lst xs)
 refine kk _ (.ref l) _ δ fp [l] (RE.tree R R (Stp.refl true H δ fp) s (λa m=>by rw[Xu.mp m];exact hl) (Qm.mpr ⟨(λz=>nomatch z),.nil⟩) (.nd Yh (Das.owns (((ow.fz_das hz).wide (L':=λa=>((true=true->Lf C fp ex a)∨H a=none)∧a∉[l]) λa q n=>⟨.inl λ_=>q,λz=>n (by rw[Xu.mp z];exact hl)⟩).same s)))) h
noncomputable def Yeb(i:Nat)(mb:MEt):MEt:=λδ K=>∃ts,δ[i]? =some (some (.nd ts))∧Zl0 ts=true∧mb δ λn δ1=>asI n.data λk=>match atI (OT.datas ts) k with|some d=>K (.fz d) δ|none=>False
theorem Yah(i:Nat)(hb:ME X io true c b mb)(hs:Zhz b)
  (hN:X.N[i]? =some x:=by rfl) (hv:Vis X.env.scope x:=by first|exact QB rfl|exact Qw (QB rfl)|exact Qw (Qw rfl)) (hd:(x==("__debug__" : Str))=false:=by decide) (hcd:(x==("__classdict__" : Str))=false:=by decide):ME X io true true (.Subscript (.Name x px) b pos) (Yeb i mb):=by
 obtain⟨_,B,sb⟩:=hb
 refine⟨_,Z08 (Zkw rfl) (pv i hN hv hd hcd) B hs,λC H σ δ fp ex K Q R h kk=>?_⟩
 obtain⟨ts,hi,hz,h⟩:=h
 obtain⟨a',xs,bs,hv0,hx,ow,hfp⟩:=R.ownNd hi
 refine⟨_,hv0,sb.pureAfter R h λH2 w n R2 s2 q2 h2=>?_⟩
 obtain⟨k,e2,h2⟩:=q2.intInv h2
 subst e2
 split at h2
 case h_2=>exact h2.elim
 rename_i d ed
 have qs:=(ow.fz_das hz).same s2
 obtain⟨v,e3,q⟩:=qs.atI ed
 exact .inl ⟨a',xs,k,v,rfl,rfl,.inl (.inl (s2 _ _ hx)),e3,kk H2 v _ δ fp [] (.fz R2 (.same s2 s2.al) (q.wide λa l _ _=>l)) h2⟩
end
noncomputable def Zxu(e:FE):FE:=λδ=>(e δ).bind λp=>match p.1 with| .nd ts=>some (.nd ((OT.datas ts).map OT.fz),p.2)|_=>none
noncomputable def Zot(i:Nat):FE:=λδ=>(Z4b δ[i]?).bind λts=>some (.nd ((OT.datas ts).map OT.fz),δ)
noncomputable def Z9a(i:Nat)(b:FE):FE:=λδ=>(Z4b δ[i]?).bind λts=>(b δ).bind λq=>match q.1.data with
 | .int k=>(atI (OT.datas ts) k).bind λd=>some (.fz d,δ)
 | _=>none
section
variable {X:Cx}{io:List Nat}{p c:Bool}{e:Expr}{fa fb:FE}{i:Nat}
theorem Zxf{st:Stmt}{n:Nat}{caps:List Nat}{it:FI}{gg:FG}{t:FT}{me:FE}(h:MS X io st (Zl3 i (Z2h (Zgd n caps (o2 it) (oG gg) (o2 t) (o2 me))))):MS X io st (oS (wE (Zxu (Wt n caps it gg t me)) (Zap i))):=h.weak λD δ h=>by
 obtain⟨r,δ',h,k⟩:=Zq4 h
 obtain⟨⟨x,δ1⟩,h1,h⟩:=bs h
 refine Zoy ⟨x,δ1,h1,?_⟩
 try dsimp only at h⊢
 split at h
 case h_2=>cases h
 cases h
 exact k
theorem Zxy(h:ME X io p c e (Zz1 i)):ME X io p c e (o2 (Zot i)):=h.weak λδ K h=>by
 obtain⟨r,δ',h,k⟩:=h
 obtain⟨ts,h1,h⟩:=bs h
 obtain⟨e1,e2⟩:=Zsm h1
 cases h
 exact⟨ts,e1,e2,k⟩
theorem Z7r(h:ME X io p c e (Yeb i (o2 fb))):ME X io p c e (o2 (Z9a i fb)):=h.weak λδ K h=>by
 obtain⟨r,δ',h,k⟩:=h
 obtain⟨ts,h1,h⟩:=bs h
 obtain⟨e1,e2⟩:=Zsm h1
 obtain⟨⟨y,δ2⟩,h2,h⟩:=bs h
 refine⟨ts,e1,e2,y,δ2,h2,?_⟩
 try dsimp only at h⊢
 split at h
 case h_2=>cases h
 rename_i n q
 obtain⟨d,h3,h⟩:=bs h
 cases h
 rw[q]
 show(match atI (OT.datas ts) n with|some d=>K (.fz d) δ|none=>False)
 rw[h3]
 exact k
end
end L2
namespace My
open PySem L2 PySem.Spec
noncomputable def Zcf:FS :=
 (wE (Z6 gIx (Zch (Zc (fC (.int 1)) (Zc (fC (.int 2)) (Zc (fC (.int 6)) (Zc (Zf J0 (Zf Zo7 (fC (.int 10)) (fC (.int 15))) (fC (.int 37))) Zm))))) (Zf Zay (Zf Je (Zd 0) (fC (.int 3))) (fC (.int 4)))) Ji)
noncomputable def W7:FD:=Zae 1 1 Zcf
noncomputable def Zbb:FS :=
 (Zz (wE (Zr Y8 (Zc (Zd 0) (Zc (Zf Zc4 (fC (.int 2)) (Zd 1)) Zm))) (Yt 2))
  (Zz (wE (Zxu (Wt 1 [] (iRb (Zc (fC (.int 1)) (Zc (Zd 1) Zm))) (gNm 0) Zg5 (Zch (Zc (Zd 0) Zm)))) (Zap 3))
  (Zz (wE (Zot 3) (Zap 4))
  (Zz (Zb0 (iRa (Zc (Zf gSb (Zd 1) (fC (.int 2))) Zm)) (gNm 5)
  (Zz (wE (Zxs 3 (Zf Zay (Z6 gIx (Zd 2) (Zf Zc4 (fC (.int 2)) (Zd 5))) (J2 J6 (Zc (Zj0 3) Zm)))) (Yt 6))
  (Zz (wE (Zxs 3 (Zf Zay (Z6 gIx (Zd 2) (Zf J0 (Zf Zc4 (fC (.int 2)) (Zd 5)) (fC (.int 1)))) (J2 J6 (Zc (Zj0 3) Zm)))) (Yt 7))
  (Zz (Wq 3 (fBl Zcx (Zc (Z6 Zk3 (Zd 6) (Zd 7)) Zm)))
  (Wq 4 (Z9a 3 (fUn Znj (fC (.int 1)))))))))
  (Zea 4)))))
noncomputable def Z7:FD:=Zae 2 8 Zbb
noncomputable def Zcz:FS :=
 (Zz (wE (Wt 1 [2] (iRa (Zc (Zd 2) Zm)) (gNm 0) Zg5 (Zzp (fC (.int 0)) (Zd 1))) (Zap 5))
  (Zz (Zb0 (iRa (Zc (Zd 2) Zm)) (gNm 6)
  (Zb0 (iRa (Zc (Zd 6) Zm)) (gNm 7)
  (Zz (wE (Zf J0 (Zf Je (Zf Zc4 (Zd 6) (Zf gSb (Zd 6) (fC (.int 1)))) (fC (.int 2))) (Zd 7)) (Yt 8))
  (Zz (wE (Zr Zu (Zc (Zd 4) (Zc (Zf J0 (fC (.int 90)) (Zd 8)) Zm))) (Yt 9))
  (Zz (Wz (tV (Zf gLt (Zf J0 (Zd 1) (Zd 8)) (J2 J6 (Zc (Zd 0) Zm))))
  (wE (Z6 gIx (Zd 0) (Zf J0 (Zd 1) (Zd 8))) (Yt 9))
  fNx)
  (Zz (Zia 5 (Zf Zay (Zd 9) (Zd 3)) (Zd 6) (Zd 7))
  (Zia 5 (Zf Zay (Zd 9) (Zd 3)) (Zd 7) (Zd 6))))))))
  (Zea 5)))
noncomputable def Jk:FD:=Zae 5 10 Zcz
noncomputable def Zdg:FS :=
 (Zz (wE (Wt 1 [0] (iRa (Zc (Zd 0) Zm)) (gNm 0) Zg5 (Zzp (fC (.int 0)) (Zd 1))) (Zap 3))
  (Zz (Zb0 (Zg6 (Zc (Zd 1) (Zc (Zd 2) Zm))) (gTp 2 (gCn (gNm 4) (gCn (gNm 5) gNl)))
  (Zb0 (iRa (Zc (Zd 0) Zm)) (gNm 6)
  (Zb0 (iRa (Zc (Zd 0) Zm)) (gNm 7)
  (Wz (tV (Zf gNe (Zf (Znk false) (Zd 6) (Zd 4)) (Zf (Znk false) (Zd 7) (Zd 4))))
  (Zia 3 (Zf J0 (Z6 gIx (Z6 gIx (Zj0 3) (Zd 6)) (Zd 7)) (Zd 5)) (Zd 6) (Zd 7))
  fNx))))
  (Zea 3)))
noncomputable def Ym:FD:=Zae 3 8 Zdg
noncomputable def Zbq:FS :=
 (Zz (wE (Z6 gIx (Zch (Zc (fC (.int 3)) (Zc (fC (.int 12)) (Zc (Zf Zo7 (fC (.int 10)) (fC (.int 20))) Zm)))) (Zf Zay (Zd 3) (fC (.int 3)))) (Yt 4))
  (Zz (wE (Zch Zm) (Zap 5))
  (Zz (Zb0 (iRa (Zc (Zd 2) Zm)) (gNm 6)
  (Zz (wE (Zr Zu (Zc (Zd 3) (Zc (Zf J0 (fC (.int 50)) (Zd 6)) Zm))) (Yt 7))
  (Zz (Wz (tV (Zf gLt (Zf J0 (Zd 1) (Zd 6)) (J2 J6 (Zc (Zd 0) Zm))))
  (wE (Z6 gIx (Zd 0) (Zf J0 (Zd 1) (Zd 6))) (Yt 7))
  fNx)
  (Wq 5 (Zf Zay (Zd 7) (Zd 4))))))
  (Zea 5))))
noncomputable def Yq:FD:=Zae 4 8 Zbq
noncomputable def Zc3:FS :=
 (Zz (wE (Zf Zay (Zf Je (Zd 3) (fC (.int 12))) (fC (.int 5))) (Yt 4))
  (Zz (Wz (tV (Zf gEq (Zd 4) (fC (.int 4))))
  (wE (Zr Jk (Zc (Zd 0) (Zc (Zd 1) (Zc (Zd 2) (Zc (Z6 gIx (Zch (Zc (fC (.int 2)) (Zc (fC (.int 3)) (Zc (fC (.int 5)) (Zc (Zf Zo7 (fC (.int 10)) (fC (.int 20))) Zm))))) (Zf Zay (Zf Je (Zd 3) (fC (.int 60))) (fC (.int 4)))) (Zc (Zd 3) Zm)))))) Ji)
  fNx)
  (Zz (wE (Zr Z7 (Zc (Zf Je (Zd 3) (fC (.int 60))) (Zc (Zd 2) Zm))) (Yt 5))
  (Zz (wE (Zr Ym (Zc (Zd 2) (Zc (Zd 5) (Zc (Zr Yq (Zc (Zd 0) (Zc (Zd 1) (Zc (J2 J6 (Zc (Zd 5) Zm)) (Zc (Zd 3) Zm))))) Zm)))) (Zap 6))
  (Zz (Wz (tV (Zf gEq (Zd 4) (fC (.int 2))))
  (Zz (wE (Zr Z7 (Zc (Zr Zu (Zc (Zd 3) (Zc (fC (.int 40)) Zm))) (Zc (Zd 2) Zm))) (Yt 5))
  (Zz (wE (Zr Ym (Zc (Zd 2) (Zc (Zd 5) (Zc (Zr Yq (Zc (Zd 0) (Zc (Zf J0 (Zd 1) (fC (.int 9))) (Zc (J2 J6 (Zc (Zd 5) Zm)) (Zc (Zd 3) Zm))))) Zm)))) (Yt 7))
  (Zcp 6 (wE (Wt 2 [] (Zg6 (Zc (Zd 6) (Zc (Zd 7) Zm))) (gTp 2 (gCn (gNm 0) (gCn (gNm 1) gNl))) Zg5 (Wt 2 [] (Zg6 (Zc (Zd 0) (Zc (Zd 1) Zm))) (gTp 2 (gCn (gNm 0) (gCn (gNm 1) gNl))) Zg5 (Zf J0 (Zd 0) (Zd 1)))) (Zap 6)))))
  fNx)
  (Zz (Wz (tO (tV (Zf gEq (Zd 4) (fC (.int 1)))) (tV (Zf gEq (Zd 4) (fC (.int 3)))))
  (Zz (wE (Zf Zay (Zr Zu (Zc (Zd 3) (Zc (fC (.int 41)) Zm))) (Zd 2)) (Yt 8))
  (Zz (wE (Zf Zay (Zr Zu (Zc (Zd 3) (Zc (fC (.int 42)) Zm))) (Zd 2)) (Yt 9))
  (Zz (wE (Z6 gIx (Zch (Zc (fC (.int 1)) (Zc (Zf Zc4 (fC (.int 2)) (Zd 4)) (Zc (Zf Zo7 (fC (.int 10)) (fC (.int 21))) Zm)))) (Zf Zay (Zr Zu (Zc (Zd 3) (Zc (fC (.int 43)) Zm))) (fC (.int 3)))) (Yt 10))
  (Wz (tV (Zf gNe (Zd 8) (Zd 9)))
  (Zz (Zia 6 (J2 Z6m (Zc (fC (.int 0)) (Zc (Zf J0 (Z6 gIx (Z6 gIx (Zj0 6) (Zd 8)) (Zd 9)) (Zf Zc4 (Zf gSb (fC (.int 2)) (Zd 4)) (Zd 10))) Zm))) (Zd 8) (Zd 9))
  (Zia 6 (Zt4 (Z6 gIx (Z6 gIx (Zj0 6) (Zd 8)) (Zd 9))) (Zd 9) (Zd 8)))
  fNx))))
  fNx)
  (Zea 6)))))))
noncomputable def Zal:FD:=Zae 4 11 Zc3
noncomputable def Zat:FS :=
 (Zz (wE (Zly (Zd 0) (fC (.int 0))) (Yt 1))
  (Zz (wE (Z6 Zk3 (fSl (Zd 0) (oI (Zd 1)) oN) (fSl (Zd 0) oN (oI (Zd 1)))) (Yt 2))
  (Zz (Wz (tAn (tV (Zf gGt (J2 J6 (Zc (Zd 2) Zm)) (fC (.int 2)))) (tV (Zf gGt (Z6 gIx (Zd 2) (fC (.int 1))) (Z6 gIx (Zd 2) (fUn Znj (fC (.int 1)))))))
  (wE (Z6 Zk3 (fSl (Zd 2) oN (oI (fC (.int 1)))) (Zv9 (Zd 2) oN (oI (fC (.int 0))) (oI (fUn Znj (fC (.int 1)))))) (Yt 2))
  fNx)
  (wE (Zd 2) Ji))))
noncomputable def Ja:FD:=Zae 1 3 Zat
noncomputable def Zdz:FS :=
 (Zz (wE (Zr Y8 (Zc (Zd 0) (Zc (Zd 1) Zm))) (Yt 2))
  (Zz (wE (Zr9 (Zc (Zd 1) Zm)) (Zap 3))
  (Zz (wE (Zch Zm) (Zap 4))
  (Zz (Zb0 (iRa (Zc (Zd 1) Zm)) (gNm 5)
  (Wq 4 (Zxs 3 (Zf Zay (Z6 gIx (Zd 2) (Zd 5)) (J2 J6 (Zc (Zj0 3) Zm))))))
  (Zcp 4 (wE (Zr Ja (Zc (Zd 4) Zm)) Ji))))))
noncomputable def Wi:FD:=Zae 2 6 Zdz
noncomputable def Jy:FS :=
 (Zz (wE (Z6 gIx (Zch (Zc (fC (.int 3)) (Zc (fC (.int 12)) (Zc (Zf Zo7 (fC (.int 10)) (fC (.int 20))) Zm)))) (Zf Zay (Zd 3) (fC (.int 3)))) (Yt 4))
  (Zz (wE (Zch Zm) (Zap 5))
  (Zz (Zb0 (iRa (Zc (Zf Je (Zf Zc4 (Zd 2) (Zf gSb (Zd 2) (fC (.int 1)))) (fC (.int 2))) Zm)) (gNm 6)
  (Zz (wE (Zr Zu (Zc (Zd 3) (Zc (Zf J0 (fC (.int 50)) (Zd 6)) Zm))) (Yt 7))
  (Zz (Wz (tV (Zf gLt (Zf J0 (Zd 1) (Zd 6)) (J2 J6 (Zc (Zd 0) Zm))))
  (wE (Z6 gIx (Zd 0) (Zf J0 (Zd 1) (Zd 6))) (Yt 7))
  fNx)
  (Wq 5 (Zf Zay (Zd 7) (Zd 4))))))
  (Zea 5))))
noncomputable def Yx:FD:=Zae 4 8 Jy
noncomputable def Zdr:FS :=
 (Zz (wE (Zch Zm) (Zap 1))
  (Zz (Zb0 (iRa (Zc (Zd 0) Zm)) (gNm 2)
  (Zhr 1 (Wt 1 [2] (iRb (Zc (Zf J0 (Zd 2) (fC (.int 1))) (Zc (Zd 0) Zm))) (gNm 0) Zg5 (Zlu (Zc (Zd 1) (Zc (Zd 0) Zm))))))
  (Zea 1)))
noncomputable def Jv:FD:=Zae 1 3 Zdr
noncomputable def Zc2:FS :=
 (wE (Wt 2 [0] (Zjx (Zr Jv (Zc (J2 J6 (Zc (Zd 0) Zm)) Zm))) (gTp 2 (gCn (gNm 0) (gCn (gNm 1) gNl))) Zg5 (fBl Zcx (Zc (fSl (Zd 2) (oI (Zf J0 (Zd 0) (fC (.int 1)))) (oI (Zf J0 (Zd 1) (fC (.int 1))))) Zm))) Ji)
noncomputable def Jj:FD:=Zae 1 1 Zc2
noncomputable def Zeh:FS :=
 (Zz (wE (J2 Z35 (Zc (Zd 0) Zm)) (Yt 2))
  (Zz (wE (Zd 1) (Yt 3))
  (Zz (Zjm (tV (Zf gNe (Zd 3) (fC (.int 0)))) (Zz (wE (Zf Zay (Zd 2) (Zd 3)) (Yt 4))
  (Zz (wE (Zd 3) (Yt 2))
  (wE (Zd 4) (Yt 3)))))
  (wE (Zlu (Zc (Zf Je (Zd 0) (Zd 2)) (Zc (Zf Je (Zd 1) (Zd 2)) Zm))) Ji))))
noncomputable def Jb:FD:=Zae 2 5 Zeh
noncomputable def Zcy:FS :=
 (wE (Wt 1 [1] (Zjx (Zd 0)) (gNm 0) Zg5 (Wt 1 [1] (Zjx (Zd 0)) (gNm 0) Zg5 (Zr Jb (Zc (Zd 0) (Zc (Zd 1) Zm))))) Ji)
noncomputable def Zak:FD:=Zae 2 2 Zcy
noncomputable def Za8:FS :=
 (Zz (Wz (tNo (tD (Ziw "list" (Zd 1))))
  (wE (fC (.bool false)) Ji)
  fNx)
  (Zz (Zb0 (Zjx (Zd 1)) (gNm 3)
  (Zz (Wz (tO (tNo (tD (Ziw "tuple" (Zd 3)))) (tO (tV (Zf gNe (J2 J6 (Zc (Zd 3) Zm)) (fC (.int 2)))) (tNo (tD (Ziw "list" (Z6 gIx (Zd 3) (fC (.int 0))))))))
  (wE (fC (.bool false)) Ji)
  fNx)
  (Zz (wE (Z6 gIx (Zd 3) (fC (.int 0))) (Yt 4))
  (Zz (Wz (tV (Zf gNe (Wt 1 [] (Zjx (Zd 4)) (gNm 0) (tO (tD (Ziw "bool" (Zd 0))) (tNo (tD (Ziw "int" (Zd 0))))) (Zd 0)) (Zch Zm)))
  (wE (fC (.bool false)) Ji)
  fNx)
  (Zz (Wz (tO (tV (Zf gNe (Zd 4) (Zhb (Zc (Zd 4) Zm)))) (tO (tV (Zf gEq (Zd 4) (Zch Zm))) (tO (tV (Zf gLt (Z6 gIx (Zd 4) (fC (.int 0))) (fC (.int 1)))) (tV (Zf gGe (Z6 gIx (Zd 4) (fUn Znj (fC (.int 1)))) (Zd 0))))))
  (wE (fC (.bool false)) Ji)
  fNx)
  (Zz (wE (Z6 gIx (Zd 3) (fC (.int 1))) (Yt 5))
  (Zz (Wz (tO (tNo (tD (Ziw "tuple" (Zd 5)))) (tV (Zf gNe (J2 J6 (Zc (Zd 5) Zm)) (fC (.int 2)))))
  (wE (fC (.bool false)) Ji)
  fNx)
  (Zz (Wz (tV (Zf gNe (Wt 1 [] (iTp (Zd 5)) (gNm 0) (tO (tD (Ziw "bool" (Zd 0))) (tNo (tD (Ziw "int" (Zd 0))))) (Zd 0)) (Zch Zm)))
  (wE (fC (.bool false)) Ji)
  fNx)
  (Wz (tO (tV (Zf gLt (Z6 gIx (Zd 5) (fC (.int 0))) (fC (.int 1)))) (tO (tV (Zf gLt (Z6 gIx (Zd 5) (fC (.int 1))) (fC (.int 1)))) (tO (tV (Zf gNe (Zr Jb (Zc (Z6 gIx (Zd 5) (fC (.int 0))) (Zc (Z6 gIx (Zd 5) (fC (.int 1))) Zm))) (Zd 5))) (tV (Zf gGt (Zf Zay (Zf Zc4 (fC (.int 2)) (Zd 2)) (Z6 gIx (Zd 5) (fC (.int 1)))) (fC (.int 0)))))))
  (wE (fC (.bool false)) Ji)
  fNx)))))))))
  (wE (Zf gEq (Wt 1 [1] (iRb (Zc (fC (.int 1)) (Zc (J2 J6 (Zc (Zd 1) Zm)) Zm))) (gNm 0) (tV (Zf Z4a (Z6 gIx (Z6 gIx (Zd 1) (Zf gSb (Zd 0) (fC (.int 1)))) (fC (.int 0))) (Z6 gIx (Z6 gIx (Zd 1) (Zd 0)) (fC (.int 0))))) (Zd 0)) (Zch Zm)) Ji)))
noncomputable def Jl:FD:=Zae 3 6 Za8
noncomputable def Zb9:FS :=
 (Zz (Zb0 (iRa (Zc (Zd 0) Zm)) (gNm 4)
  (Zb0 (iRa (Zc (Zd 0) Zm)) (gNm 5)
  (Zz (wE (fC (.int 0)) (Yt 6))
  (Zz (Zb0 (Zjx (Zd 1)) (gTp 2 (gCn (gNm 7) (gCn (gNm 8) gNl)))
  (Wz (tV (Zf gNe (Zf (Znk false) (Zd 4) (Zd 7)) (Zf (Znk false) (Zd 5) (Zd 7))))
  (wE (Zf J0 (Zd 6) (Zf Zc4 (Z6 gIx (Zd 8) (fC (.int 0))) (Zf Je (Zf Zc4 (fC (.int 2)) (Zd 2)) (Z6 gIx (Zd 8) (fC (.int 1)))))) (Yt 6))
  fNx))
  (Wz (tV (Zf gNe (Zd 6) (Zf Zc4 (fC (.int 2)) (Z6 gIx (Z6 gIx (Zd 3) (Zd 4)) (Zd 5)))))
  (wE (fC (.bool false)) Ji)
  fNx)))))
  (wE (fC (.bool true)) Ji))
noncomputable def J5:FD:=Zae 4 9 Zb9
noncomputable def Zel:FS :=
 (Zz (Zb0 (Zjx (Zd 1)) (gNm 2)
  (Wz (tNo (tD (Zr We (Zc (Zd 2) Zm))))
  (wE (fC (.bool false)) Ji)
  fNx))
  (Zz (Wz (tO (tV (Zf gLt (Zd 0) (fC (.int 3)))) (tV (Zf gNe (fBl Zcx (Zc (Zd 1) Zm)) (Zr9 (Zc (Zd 0) Zm)))))
  (wE (fC (.bool false)) Ji)
  fNx)
  (wE (Zwi (Zf gEq (Z6 gIx (Zd 1) (fC (.int 0))) (fC (.int 0))) (Zf gLt (Z6 gIx (Zd 1) (fC (.int 1))) (Z6 gIx (Zd 1) (fUn Znj (fC (.int 1)))))) Ji)))
noncomputable def Zbs:FD:=Zae 2 3 Zel
noncomputable def Zb3:FS :=
 (Wz (tNo (tD (Zr Zbs (Zc (Zd 0) (Zc (Zd 1) Zm)))))
  (Zmd "NoOrder")
  fNx)
noncomputable def Wd:FD:=Zae 2 2 Zb3
noncomputable def Zbc:FS :=
 (Zz (wE (Z6 gIx (Zd 1) (Zd 2)) (Yt 4))
  (Zz (wE (Z6 gIx (Zd 1) (Zf J0 (Zd 2) (fC (.int 1)))) (Yt 5))
  (Zz (wE (Z6 gIx (Zd 1) (Zd 3)) (Yt 6))
  (Zz (wE (Z6 gIx (Zd 1) (Zf Zay (Zf J0 (Zd 3) (fC (.int 1))) (J2 J6 (Zc (Zd 0) Zm)))) (Yt 7))
  (wE (Zf gSb (Zf gSb (Zf J0 (Z6 gIx (Z6 gIx (Zd 0) (Zd 4)) (Zd 6)) (Z6 gIx (Z6 gIx (Zd 0) (Zd 5)) (Zd 7))) (Z6 gIx (Z6 gIx (Zd 0) (Zd 4)) (Zd 7))) (Z6 gIx (Z6 gIx (Zd 0) (Zd 5)) (Zd 6))) Ji)))))
noncomputable def Zy:FD:=Zae 4 8 Zbc
noncomputable def Zc5:FS :=
 (Zz (wE (Zr Wd (Zc (J2 J6 (Zc (Zd 0) Zm)) (Zc (Zd 1) Zm))) Zn7)
  (Zz (wE (Zr Z3 (Zc (Zd 0) Zm)) (Yt 2))
  (Zz (wE (Zr Ye (Zc (Zd 2) (Zc (Zd 0) Zm))) (Yt 3))
  (Zz (wE (Zch Zm) (Zap 4))
  (Zz (Zb0 (Zjx (Zr Jt (Zc (J2 J6 (Zc (Zd 0) Zm)) Zm))) (gTp 2 (gCn (gNm 5) (gCn (gNm 6) gNl)))
  (Zz (wE (Zr Zy (Zc (Zd 3) (Zc (Zd 1) (Zc (Zd 5) (Zc (Zd 6) Zm))))) (Yt 7))
  (Zz (Wz (tV (Zf gLt (Zd 7) (fC (.int 0))))
  (wE (Zlu (Zc (fC (.str "bars")) (Zc (Zlu (Zc (Zd 5) (Zc (Zd 6) Zm))) Zm))) Ji)
  fNx)
  (Wz (tV (Zf gGt (Zd 7) (fC (.int 0))))
  (Wq 4 (Zlu (Zc (fBl Zcx (Zc (fSl (Zd 1) (oI (Zf J0 (Zd 5) (fC (.int 1)))) (oI (Zf J0 (Zd 6) (fC (.int 1))))) Zm)) (Zc (Zr Y0 (Zc (Zd 7) (Zc (Zf Zc4 (fC (.int 2)) (Zd 2)) Zm))) Zm))))
  fNx))))
  (Zcp 4 (wE (Zlu (Zc (fC (.str "ring")) (Zc (fBl (Zqd kdT ltT) (Zc (Zd 4) Zm)) Zm))) Ji)))))))
noncomputable def Yu:FD:=Zae 2 8 Zc5
noncomputable def Zb2:FS :=
 (Wz (tNo (tV (Zj6 (λi j=>decide (i≤j)) (λi j=>decide (i<j)) (λi j=>decide (i<j)) (fC (.int 0)) (Zd 1) (Zd 2) (Zd 0))))
  (Zmd "NoOrder")
  fNx)
noncomputable def Zab:FD:=Zae 3 3 Zb2
noncomputable def Zbo:FS :=
 (Zz (wE (Zr Wd (Zc (J2 J6 (Zc (Zd 0) Zm)) (Zc (Zd 1) Zm))) Zn7)
  (Zz (wE (Zr Zab (Zc (J2 J6 (Zc (Zd 0) Zm)) (Zc (Zd 2) (Zc (Zd 3) Zm)))) Zn7)
  (Zz (wE (Zr Z3 (Zc (Zd 0) Zm)) (Yt 4))
  (wE (Zr Y0 (Zc (Zr Zy (Zc (Zr Ye (Zc (Zd 4) (Zc (Zd 0) Zm))) (Zc (Zd 1) (Zc (Zd 2) (Zc (Zd 3) Zm))))) (Zc (Zf Zc4 (fC (.int 2)) (Zd 4)) Zm))) Ji))))
noncomputable def Yp:FD:=Zae 4 5 Zbo
noncomputable def Zaf:FS :=
 (Zz (wE (Zr Yu (Zc (Zd 0) (Zc (Zd 1) Zm))) (Z7k (gTp 2 (gCn (gNm 4) (gCn (gNm 5) gNl)))))
  (Zz (Wz (tV (Zf gEq (Zd 4) (fC (.str "ring"))))
  (wE (Zwi (Zr Jl (Zc (J2 J6 (Zc (Zd 2) Zm)) (Zc (Zd 5) (Zc (Zd 3) Zm)))) (Zr J5 (Zc (J2 J6 (Zc (Zd 2) Zm)) (Zc (Zd 5) (Zc (Zd 3) (Zc (Zd 2) Zm)))))) Ji)
  fNx)
  (Zz (wE (Zr Jv (Zc (J2 J6 (Zc (Zd 1) Zm)) Zm)) (Yt 6))
  (Zz (Wz (tO (tV (Zf gNe (Zd 4) (fC (.str "bars")))) (tO (tNo (tD (Ziw "tuple" (Zd 5)))) (tV (Zf (Zup true) (Zd 5) (Zd 6)))))
  (wE (fC (.bool false)) Ji)
  fNx)
  (Zz (wE (Wt 2 [0,1] (Zjx (fSl (Zd 6) oN (oI (Zhj (Zd 6) (Zd 5))))) (gTp 2 (gCn (gNm 0) (gCn (gNm 1) gNl))) Zg5 (Z6 gIx (Zr Yp (Zc (Zd 2) (Zc (Zd 3) (Zc (Zd 0) (Zc (Zd 1) Zm))))) (fC (.int 0)))) (Yt 7))
  (wE (Zwi (Zf gLt (Z6 gIx (Zr Yp (Zc (Zd 0) (Zc (Zd 1) (Zc (Z6 gIx (Zd 5) (fC (.int 0))) (Zc (Z6 gIx (Zd 5) (fC (.int 1))) Zm))))) (fC (.int 0))) (fC (.int 0))) (Zf gEq (J2 Z30 (Zc (Z6 Zk3 (Zch (Zc (fC (.int 0)) Zm)) (Zd 7)) Zm)) (fC (.int 0)))) Ji))))))
noncomputable def Yj:FD:=Zae 4 8 Zaf
noncomputable def Zdy:FS :=
 (Zz (Zb0 (iRa (Zc (Zd 2) Zm)) (gNm 3)
  (Wz (tV (Zf gLt (Zr Zy (Zc (Zd 0) (Zc (Zd 1) (Zc (Zd 3) (Zc (Zd 2) Zm))))) (fC (.int 0))))
  (wE (fC (.bool false)) Ji)
  fNx))
  (wE (fC (.bool true)) Ji))
noncomputable def Yn:FD:=Zae 3 4 Zdy
noncomputable def Ww(R:FD):FS :=
 (Zz (wE (J2 J6 (Zc (Zd 0) Zm)) (Yt 2))
  (Zz (Wz (tV (Zf gEq (J2 J6 (Zc (Zd 1) Zm)) (Zd 2)))
  (wE (fIf (tAn (tV (Zf gLt (Z6 gIx (Zd 1) (fC (.int 1))) (Z6 gIx (Zd 1) (fUn Znj (fC (.int 1)))))) (tD (Zr Yn (Zc (Zd 0) (Zc (Zd 1) (Zc (Zf gSb (Zd 2) (fC (.int 1))) Zm)))))) (Zd 1) (fC .none)) Ji)
  fNx)
  (Zz (Zb0 (iRb (Zc (fC (.int 1)) (Zc (Zd 2) Zm))) (gNm 3)
  (Wz (tAn (tV (Zf (Znk true) (Zd 3) (Zd 1))) (tD (Zr Yn (Zc (Zd 0) (Zc (Z6 Zk3 (Zd 1) (Zch (Zc (Zd 3) Zm))) (Zc (Zf gSb (J2 J6 (Zc (Zd 1) Zm)) (fC (.int 1))) Zm))))))
  (Zz (wE (Zr R (Zc (Zd 0) (Zc (Z6 Zk3 (Zd 1) (Zch (Zc (Zd 3) Zm))) Zm))) (Yt 4))
  (Wz (tV (Zf Zfv (Zd 4) (fC .none)))
  (wE (Zd 4) Ji)
  fNx))
  fNx))
  (wE (fC .none) Ji))))
noncomputable def Z1:Nat->FD
 | 0=>λ_=>RF.bad
 | k+1=>Zae 2 5 (Ww (Z1 k))
noncomputable def Zb4:FS :=
 (Zz (Wz (tV (Zf gLt (J2 J6 (Zc (Zd 0) Zm)) (fC (.int 3))))
  (wE (fC .none) Ji)
  fNx)
  (wE (Zr (Z1 8) (Zc (Zr Ye (Zc (Zr Z3 (Zc (Zd 0) Zm)) (Zc (Zd 0) Zm))) (Zc (Zch (Zc (fC (.int 0)) Zm)) Zm))) Ji))
noncomputable def J8:FD:=Zae 1 1 Zb4
noncomputable def Zjb:FS :=
 (Zz (wE (Zr Ju (Zc (Zr Yr (Zc (Zd 0) (Zc (fC (.int 0)) Zm))) (Zc (fC (.int 3)) (Zc (fC (.int 6)) (Zc (fC (.int 8)) Zm))))) (Yt 1))
  (Zz (wE (Zr Yr (Zc (Zd 0) (Zc (fC (.int 2)) Zm))) (Yt 2))
  (Zz (Wz (tV (Zf gEq (Zf Zay (Zd 2) (fC (.int 2))) (fC (.int 0))))
  (wE (J2 Z7o (Zc (Zd 1) (Zc (fC (.int 7)) Zm))) (Yt 1))
  fNx)
  (Zz (wE (Zr Yr (Zc (Zd 0) (Zc (fC (.int 1)) Zm))) (Yt 3))
  (Zz (wE (Zr W7 (Zc (Zd 3) Zm)) (Yt 4))
  (Zz (wE (Zr Zal (Zc (Zd 0) (Zc (fC (.int 4)) (Zc (Zd 1) (Zc (Zd 3) Zm))))) (Yt 5))
  (Zz (Wz (tV (Zf gEq (Zf Zay (Zd 2) (fC (.int 2))) (fC (.int 1))))
  (wE (Zr Ym (Zc (Zd 1) (Zc (Zr Jj (Zc (Zr Wi (Zc (Zf Je (Zd 2) (fC (.int 2))) (Zc (Zd 1) Zm))) Zm)) (Zc (Zr Yx (Zc (Zd 0) (Zc (fC (.int 4)) (Zc (Zd 1) (Zc (Zd 3) Zm))))) Zm)))) (Yt 5))
  fNx)
  (Zz (wE (Zr Zak (Zc (Zd 5) (Zc (Zd 4) Zm))) (Yt 6))
  (Zz (wE (Zr J8 (Zc (Zd 6) Zm)) (Yt 7))
  (Zz (Wz (tV (Zf Zfv (Zd 7) (fC .none)))
  (Zz (Wz (tO (tNo (tD (Ziw "list" (Zd 7)))) (tO (tV (Zf gNe (fBl Zcx (Zc (Zd 7) Zm)) (Zr9 (Zc (Zd 1) Zm)))) (tO (tV (Zf gNe (Z6 gIx (Zd 7) (fC (.int 0))) (fC (.int 0)))) (tV (Zf gGt (Z6 gIx (Zd 7) (fC (.int 1))) (Z6 gIx (Zd 7) (fUn Znj (fC (.int 1)))))))))
  (wE (fC (.bool false)) Ji)
  fNx)
  (Wz (tO (tV (Zf gNe (Z6 gIx (Zr Yu (Zc (Zd 6) (Zc (Zd 7) Zm))) (fC (.int 0))) (fC (.str "ring")))) (tNo (tD (Zr Yj (Zc (Zd 6) (Zc (Zd 7) (Zc (Zd 5) (Zc (Zd 4) Zm))))))))
  (wE (fC (.bool false)) Ji)
  fNx))
  fNx)
  (Zz (Zb0 (iRa (Zc (fC (.int 3)) Zm)) (gNm 8)
  (Zz (wE (Zr Wi (Zc (Zr Zu (Zc (Zr Yr (Zc (Zd 0) (Zc (fC (.int 3)) Zm))) (Zc (Zd 8) Zm))) (Zc (Zd 1) Zm))) (Yt 9))
  (Zz (Wz (tNo (tD (Zr Yj (Zc (Zd 6) (Zc (Zd 9) (Zc (Zd 5) (Zc (Zd 4) Zm)))))))
  (wE (fC (.bool false)) Ji)
  fNx)
  (Wz (tAn (tO (tV (Zf gIs (Zd 7) (fC .none))) (tV (Zf Z33 (Zd 9) (Zd 7)))) (tV (Zf gNe (Z6 gIx (Zr Yu (Zc (Zd 6) (Zc (Zd 9) Zm))) (fC (.int 0))) (fC (.str "bars")))))
  (wE (fC (.bool false)) Ji)
  fNx))))
  (wE (fC (.bool true)) Ji))))))))))))
noncomputable def Zf1:FD:=Zae 1 10 Zjb
end My
namespace My
open PySem L2 PySem.Spec
theorem Znw(p:List Int):Sh 1 (Zg p):=Zos λd m=>by
 obtain⟨x,_,rfl⟩:=Qe.mp m
 exact Ztz x
theorem Zqm{ds:List Xa}(h:∀d∈ds,Wh d=true):Wh (.list ds)=true:=by
 rw[Wh]
 induction ds with
 | nil=>rfl
 | cons d ds ih=>rw[Zet,h d (.head _),ih λe he=>h e (.tail _ he)];rfl
theorem Zge(p:List Int):Wh (Zg p)=true:=Zqm λd m=>by
 obtain⟨x,_,rfl⟩:=Qe.mp m
 rfl
theorem Zyh{a b:List Int}(h:Zg a=Zg b):a=b:=by
 unfold Zg at h
 injection h with h
 exact List.map_inj_right (λx y z=>by injection z)|>.mp h
theorem Zg8(a b:List Int):gNe (Zg a) (Zg b)=some (.bool (!decide (a=b))):=by
 have s:Vq (Zg a)=true:=((Znw a).shp (by omega)).ok
 have t:Vq (Zg b)=true:=((Znw b).shp (by omega)).ok
 unfold gNe
 rw[if_pos (by rw[s,t];rfl)]
 by_cases c:a=b
 ·subst c
  rw[Zkg (Zge a)]
  simp
 ·have:Qs (Zg a) (Zg b)=false:=by
   cases e:Qs (Zg a) (Zg b)with
   | false=>rfl
   | true=>exact absurd (Zyh ((Zj3 _ _ (Zge a) (Zge b)).mp e)) c
  rw[this,decide_eq_false c]
theorem Zcb{p:List Int}(h:p.length<64):Zcx [Zg p]=some (.nd (((Yv p).map Xk).map OT.fz)):=by
 show((Zbj (p.map Xk)).bind λns=>if ns.length<64 then some (OT.nd (((Yv ns).map Xk).map OT.fz))else none)=_
 rw[Jf,Xd,if_pos h]
theorem Zd7{p:List Int}{i:Int}(h0:0≤i)(h1:i<p.length):gIx (Zg p) (.int i)=some (.fz (.int (p.getD i.toNat 0))):=by
 unfold Zg
 rw[Zu9,Zp4 h0 h1];rfl
theorem Zfk{p:List Int}(h:0<p.length):gIx (Zg p) (.int (-1))=some (.fz (.int (p.getD (p.length-1) 0))):=by
 unfold Zg
 rw[Zu9]
 have e:p=p.dropLast ++ [p.getLast (by intro z;rw[z]at h;simp at h)]:=(List.dropLast_concat_getLast _).symm
 have g:p.getD (p.length-1) 0=p.getLast (by intro z;rw[z]at h;simp at h):=by
  rw[List.getLast_eq_getElem,Xe,Xi (by omega)];rfl
 rw[g]
 conv=>lhs;rw[e,Qu]
 rw[X3,List.map_nil,Zpz];rfl
noncomputable def W8(n:Int):List Int:=(Xv n.toNat).map λi:Nat=>(i:Int)
theorem Zpa(n:Int):Qy (Zci 0 n.toNat)=Zg (W8 n):=by
 unfold Zg W8 Zci
 rw[X5]
 refine congrArg _ (Qg λi _=>?_)
 show Xk (0+(i:Int))=Xk (i:Int)
 rw[JL]
noncomputable def ringB(n:Int)(p:List Int):Bool:=decide (3≤n)&&(decide (Yv p=W8 n)&&(decide (p.getD 0 0=0)&&decide (p.getD 1 0<p.getD (p.length-1) 0)))
theorem Zq2{n:Int}{p:List Int}(h:p.length<64)(hn:n≤1000000):Zbs [.int n,Zg p]= .ok (.fz (.bool (ringB n p))):=by
 refine Told.ok (Z2 rfl (Zjg (ds:=p.map Xk) (λi δ=>∃z,δ=[some (.fz (.int n)),some (.fz (Zg p)),z]) (Zcg Za) ⟨_,rfl⟩ (λi d δ hd q=>?_) λδ' q=>?_))
 ·obtain⟨z,rfl⟩:=q
  obtain⟨x,_,rfl⟩:=Qe.mp (QL hd)
  exact⟨_,_,rfl,.inl (Zx (Zfw (p:=true) (Zec (Zk (Zb Za Zi) (.of (Zgt x) (OT.data_fz _))))) rfl),_,rfl⟩
 obtain⟨z,rfl⟩:=q
 unfold ringB
 by_cases c:n<3
 ·rw[decide_eq_false (show¬3≤n by omega)]
  exact Jp (Zbf (Zvr (Wy (Zbk Za Zt (decide_eq_true c)))) (Yi Zt))
 have t1:∀{b:Bool},(!decide (Yv p=W8 n))=b->EvT (tO (tV (Zf gLt (Zd 0) (fC (.int 3)))) (tV (Zf gNe (fBl Zcx (Zc (Zd 1) Zm)) (Zr9 (Zc (Zd 0) Zm))))) [some (.fz (.int n)),some (.fz (Zg p)),z] b:=λhb=>Zht (Wy (Zbk Za Zt (decide_eq_false c))) (Wy (Zo (Zvm (Zb Za Zi) (Zcb h) (Zev _)) (Z9o (Zb Za Zi) (by omega) hn) (by rw[Zpa,Zg8,hb])))
 rw[decide_eq_true (show 3≤n by omega)]
 by_cases c2:Yv p=W8 n
 ·have hp:n.toNat=p.length:=by
   have:=congrArg List.length c2
   rw[(Z8 p).length_eq]at this
   unfold W8 at this
   simpa using this.symm
  rw[decide_eq_true c2]at t1⊢
  refine Zv (Zx (t1 rfl) rfl) (Yi ?_)
  have a0:=Jc (p:=p) (δ:=[some (.fz (.int n)),some (.fz (Zg p)),z]) (Za (i:=1)) (Zt (d:=.int 0)) (by decide) (by omega)
  by_cases c3:p.getD 0 0=0
  ·rw[decide_eq_true c3]
   exact Zk2 (Zed a0 Zt (decide_eq_true c3)) (Zbk (Jc Za Zt (by decide) (by omega)) (Y5 Za (Zhg Zt) (Zfk (by omega))) rfl)
  ·rw[decide_eq_false c3]
   exact Zxh (Zed a0 Zt (decide_eq_false c3))
 ·rw[decide_eq_false c2]at t1⊢
  exact Jp (Zbf (t1 rfl) (Yi Zt))
noncomputable def Zzk(n:Nat)(f:Nat->Int):Xa:=.list ((Xv n).map λj=>.int (f j))
noncomputable def Yw(n:Nat)(r:Nat->Nat->Int):Xa:=.list ((Xv n).map λi=>Zzk n (r i))
theorem Zoz{α:Type}{n i:Nat}(f:Nat->α)(h:i<n):atI ((Xv n).map f) (i:Int)=some (f i):=by
 rw[Z8g,Xq,Vn h];rfl
theorem Zs4{n j:Nat}{f:Nat->Int}(h:j<n):gIx (Zzk n f) (.int (j:Int))=some (.fz (.int (f j))):=by
 unfold Zzk;rw[Zu9,Zoz _ h];rfl
theorem Zpj{n i:Nat}{r:Nat->Nat->Int}(h:i<n):gIx (Yw n r) (.int (i:Int))=some (.fz (Zzk n (r i))):=by
 unfold Yw;rw[Zu9,Zoz _ h];rfl
theorem Zds(n:Nat)(r:Nat->Nat->Int):J6 [Yw n r]=some (.int n):=by
 unfold Yw;rw[Zsv,Xj,X8]
theorem Zon{t b:Int}(hb:b≠0):((XM t b).den:Int)∣b:=by
 rw[Rat.den_divInt,if_neg hb]
 have:(b.natAbs/b.gcd t:Nat)∣b.natAbs:=Nat.div_dvd_of_dvd (by rw[Vv];exact Nat.gcd_dvd_left ..)
 exact Int.ofNat_dvd_left.mpr this
theorem Zrm{a m k:Int}(hk:0<k)(hm:0<m):XM (k*a) (m*k)=XM a m:=by
 rw[Int.mul_comm k a]
 exact Rat.divInt_mul_right (by omega)
theorem Zfc{n:Int}{p:List Int}(h:p.length<64)(hn:n≤1000000)(c:ringB n p=true):Wd [.int n,Zg p]= .ok (.fz .none) :=
 (Zm5 rfl (Zx (Zfw (p:=true) (Zec (Zk (Zb Za (Zb Za Zi)) (.of (by rw[Zq2 h hn,c]) (OT.data_fz _))))) rfl)).none
noncomputable def Ydz(n a b:Int):Bool:=decide (0≤a)&&(decide (a<b)&&decide (b<n))
theorem Zlc{n a b:Int}(c:Ydz n a b=true):Zab [.int n,.int a,.int b]= .ok (.fz .none) :=
 (Zm5 rfl (Zx (Zfw (p:=true) (Wy (EvV.cast (Zsc Zt Za Za Za) (by exact congrArg Us c)))) rfl)).none
noncomputable def tw(S:Nat->Nat->Int)(x p y q:Nat):Int:=S x y+S p q-S x q-S p y
noncomputable def pn(p:List Int)(i:Nat):Nat:=(p.getD i 0).toNat
noncomputable def InR(n:Nat)(p:List Int):Prop:=p.length=n∧∀i,i<n->0≤p.getD i 0∧p.getD i 0<n
theorem InR.at{n:Nat}{p:List Int}(h:InR n p){i:Nat}(hi:i<n):gIx (Zg p) (.int (i:Int))=some (.fz (.int (pn p i:Nat)))∧pn p i<n:=by
 obtain⟨h1,h2⟩:=h
 obtain⟨a,b⟩:=h2 i hi
 rw[Zd7 (by omega) (by omega),Qp]
 unfold pn
 rw[Int.toNat_of_nonneg a]
 exact⟨rfl,by omega⟩
theorem Zpf{b n:Nat}(h:0<n):Zay (.int ((b:Int)+1)) (.int (n:Int))=some (.int (((b+1)%n:Nat):Int)):=by
 rw[Zzz (by omega),show((b:Int)+1).fmod (n:Int)=(((b+1)%n:Nat):Int) by rw[Zd3 (by omega)];push_cast;rfl]
theorem Zgy{n x y i j:Nat}{S:Nat->Nat->Int}{δ:Zj}(hx:x<n)(hy:y<n)(h0:δ[0]? =some (some (.fz (Yw n S))))(h1:δ[i]? =some (some (.fz (.int x))))(h2:δ[j]? =some (some (.fz (.int y)))):EvV (Z6 gIx (Z6 gIx (Zd 0) (Zd i)) (Zd j)) δ (.int (S x y)):=Y5 (Y5 (Za h0) (Za h1) (Zpj hx)) (Za h2) (Zs4 hy)
theorem Zc9{n a b:Nat}{S:Nat->Nat->Int}{p:List Int}(h:InR n p)(hab:a<b)(hb:b<n):Zy [Yw n S,Zg p,.int a,.int b]= .ok (.fz (.int (tw S (pn p a) (pn p (a+1)) (pn p b) (pn p ((b+1)%n))))):=by
 have hm:(b+1)%n<n:=Nat.mod_lt _ (by omega)
 obtain⟨e1,l1⟩:=h.at (i:=a) (by omega)
 obtain⟨e2,l2⟩:=h.at (i:=a+1) (by omega)
 obtain⟨e3,l3⟩:=h.at hb
 obtain⟨e4,l4⟩:=h.at hm
 exact Told.int<|Z2 rfl<|Zv (Zq (Y5 Za Za e1))<|Zv (Zq (Y5 Za (Yk Za Zt) e2))<|Zv (Zq (Y5 Za Za e3))<|
  Zv (Zq (Y5 Za (Zo (Yk Za Zt) (Jm (Zb Za Zi) (Zds n S)) (Zpf (by omega))) e4))<|
  Yi (Zb8 (Zb8 (Yk (Zgy l1 l3 rfl rfl rfl) (Zgy l2 l4 rfl rfl rfl)) (Zgy l1 l4 rfl rfl rfl)) (Zgy l2 l3 rfl rfl rfl))
noncomputable def Zck(n:Nat)(R:Nat->Nat->Int)(b:Int):List (List Rat):=(Xv n).map λi=>(Xv n).map λj=>XM (R i j) b
theorem Zoh(T:List (List Rat)):J6 [tbD T]=some (.int T.length):=by
 unfold tbD
 rw[Zsv,Xj]
theorem Zhf(n:Nat)(R:Nat->Nat->Int)(b:Int):(Zck n R b).length=n:=by unfold Zck;simp
theorem Zmu{S R:Nat->Nat->Int}{m k:Int}(hm:0<m)(hk:0<k){x p y q:Nat}(h1:k*S x y=R x y)(h2:k*S p q=R p q)(h3:k*S x q=R x q)(h4:k*S p y=R p y) :
  XM (tw S x p y q) (2*m)=XM (tw R x p y q) (2*(m*k)):=by
 have e:tw R x p y q=k*tw S x p y q:=by
  unfold tw
  rw[←h1,←h2,←h3,←h4]
  simp only[Int.mul_add,Int.mul_sub]
 rw[e,show 2*(m*k)=(2*m)*k by rw[Int.mul_assoc],Zrm hk (by omega)]
theorem Ztn{n:Nat}{R:Nat->Nat->Int}{b:Int}(hn:n<64)(hb:0<b)(bb:Bt 300 b)(bR:∀i j,i<n->j<n->Bt 300 (R i j)):∃(m k:Int) (S:Nat->Nat->Int),Told Z3 [tbD (Zck n R b)] (.int m)∧Told Ye [.int m,tbD (Zck n R b)] (Yw n S)∧0<m∧0<k∧b=m*k∧Bt 300 m∧∀x y,x<n->y<n->k*S x y=R x y:=by
 have hz:∀r∈Zck n R b,r.length≤1000:=λr hr=>by
  unfold Zck at hr
  obtain⟨x,_,rfl⟩:=Qe.mp hr
  rw[Xj,X8];omega
 have hB:Z8k (Zck n R b) b:=λr hr q hq=>by
  unfold Zck at hr
  obtain⟨x,_,rfl⟩:=Qe.mp hr
  obtain⟨y,_,rfl⟩:=Qe.mp hq
  exact Zon (by omega)
 have hN:∀r∈Zck n R b,∀q∈r,Bt 300 q.num:=λr hr q hq=>by
  unfold Zck at hr
  obtain⟨x,hx,rfl⟩:=Qe.mp hr
  obtain⟨y,hy,rfl⟩:=Qe.mp hq
  exact Zy4 (by omega) (bR x y (Ql.mp hx) (Ql.mp hy))
 obtain⟨m,e1,m0,hm,k,rfl⟩:=Zio hb bb (by decide) (Zck n R b) hz hB
 have k0:0<k:=by
  by_cases c:0<k
  ·exact c
  ·have:=Int.mul_nonpos_of_nonneg_of_nonpos (a:=m) (b:=k) (by omega) (by omega)
   omega
 have bm:Bt 300 m:=Zij hb ⟨k,rfl⟩ bb
 have e2:=Zj9 m0 bm (Zck n R (m*k)) (by rw[Zhf];omega) hz hm hN
 have sc:∀x y,x<n->y<n->k*scI m (XM (R x y) (m*k))=R x y:=λx y hx hy=>by
  have hd:((XM (R x y) (m*k)).den:Int)∣m:=hm _ (Qe.mpr ⟨x,Ql.mpr hx,rfl⟩) _ (Qe.mpr ⟨y,Ql.mpr hy,rfl⟩)
  have:=Zze hd
  have e:((k*scI m (XM (R x y) (m*k)):Int):Rat)=((R x y:Int):Rat):=by
   have nk:((k:Int):Rat)≠0:=by
    intro z
    have:k=0:=by exact_mod_cast z
    omega
   have nm:((m:Int):Rat)≠0:=by
    intro z
    have:m=0:=by exact_mod_cast z
    omega
   rw[Rat.intCast_mul,this,Rat.divInt_eq_div,Rat.intCast_mul]
   rw[Rat.mul_comm,Rat.mul_assoc]
   exact Rat.div_mul_cancel (λz=>(Rat.mul_eq_zero.mp z).elim nm nk)
  exact_mod_cast e
 have er:Qy ((Zck n R (m*k)).map λr=>.list (r.map λq=>.int (scI m q)))=Yw n (λi j=>scI m (XM (R i j) (m*k))):=by
  unfold Zck Yw
  rw[X5]
  refine congrArg Qy (Qg λi _=>?_)
  show Qy _=Zzk _ _
  rw[X5];rfl
 exact⟨m,k,_,e1,er▸e2,m0,k0,rfl,bm,sc⟩
theorem Zi1{n a c:Nat}{R:Nat->Nat->Int}{b:Int}{p:List Int}(h:InR n p)(hr:ringB n p=true)(hn:n<64)(hac:a<c)(hc:c<n)(hb:0<b)(bb:Bt 300 b)(bR:∀i j,i<n->j<n->Bt 300 (R i j)) :
  Told Yp [tbD (Zck n R b),Zg p,.int a,.int c] (frD (XM (tw R (pn p a) (pn p (a+1)) (pn p c) (pn p ((c+1)%n))) (2*b))):=by
 obtain⟨m,k,S,e1,eS,m0,k0,rfl,bm,sc⟩:=Ztn hn hb bb bR
 have hmod:(c+1)%n<n:=Nat.mod_lt _ (by omega)
 obtain⟨_,l1⟩:=h.at (i:=a) (by omega)
 obtain⟨_,l2⟩:=h.at (i:=a+1) (by omega)
 obtain⟨_,l3⟩:=h.at hc
 obtain⟨_,l4⟩:=h.at hmod
 have hg:Zc4 (.int 2) (.int m)=some (.int (2*m)):=Zgv (Zox (by decide))
 have hle:J6 [tbD (Zck n R (m*k))]=some (.int n):=by rw[Zoh,Zhf]
 have eF:=Zhi (n:=302) (t:=tw S (pn p a) (pn p (a+1)) (pn p c) (pn p ((c+1)%n))) (b:=2*m) (by omega) (Bt.mul (m:=2) (Bt.of_lt (by decide) (by decide)) bm)
 rw[Zmu m0 k0 (sc _ _ l1 l3) (sc _ _ l2 l4) (sc _ _ l1 l4) (sc _ _ l2 l3)]at eF
 exact Z2 rfl<|Zv (Zor (Zk (Zb (Jm (Zb Za Zi) hle) (Zb Za Zi)) (.of (Zfc (by rw[h.1];omega) (by omega) hr) (OT.data_fz _))))<|
  Zv (Zor (Zk (Zb (Jm (Zb Za Zi) hle) (Zb Za (Zb Za Zi))) (.of (Zlc (by unfold Ydz;simp;omega)) (OT.data_fz _))))<|
  Zv (Zq (Zk (Zb Za Zi) e1))<|
  Yi (Zk (Zb (Zk (Zb (Zk (Zb Za (Zb Za Zi)) eS) (Zb Za (Zb Za (Zb Za Zi)))) (.of (Zc9 h hac hc) (OT.data_fz _))) (Zb (Zo Zt Za hg) Zi)) eF)
theorem Zjz{n:Nat}{t b:Int}(hb:0<b)(hB:Bt n b)(hn:n≤9000:=by decide):Told Jb [.int t,.int b] (frD (XM t b)):=by
 obtain⟨z',e⟩:=Zj5 (f1:=λx y z=>[some (.fz (.int t)),some (.fz (.int b)),some (.fz (.int x)),some (.fz (.int y)),z]) (f2:=λx y z=>[]) (t:=tV (Zf gNe (Zd 3) (fC (.int 0)))) (u:=Zz (wE (Zf Zay (Zd 2) (Zd 3)) (Yt 4)) (Zz (wE (Zd 3) (Yt 2)) (wE (Zd 4) (Yt 3)))) (λx y z=>Wy (Zmb Za Zt rfl)) (λx y z hy=>⟨_,Z5 (Zq (Wj Za Za hy)) (Z5 (Zq Za) (Zq Za))⟩) (b.toNat+1) (t.natAbs:Int) b none (by omega) (by omega) (by omega)
 have eg:(Be (t.natAbs:Int) b:Int)=shr t b:=by
  unfold shr
  rw[if_neg (by omega),Vv,Vv,Int.natAbs_natCast]
 obtain⟨e1,e2⟩:=Z8d (t:=t) (b:=b) (by omega) hB hn _ eg
 exact Z2 rfl<|Zv (Zq (Jm (Zb Za Zi) (Zue t)))<|Zv (Zq Za)<|Zv (Zm2 _ e (by intro z;cases z)) (Yi (Zff (Zb (Zo Za Za e1) (Zb (Zo Za Za e2) Zi)) (show 2≤1000 by decide)))
theorem Ycz:Zo7 (.int 10) (.int 20)=some (.int 100000000000000000000):=rfl
theorem Ye2:Zo7 (.int 10) (.int 15)=some (.int 1000000000000000):=rfl
theorem btc{n:Nat}{m:Int}(h1:decide (-(2^n)<m)=true)(h2:decide (m<2^n)=true):Bt n m:=Bt.of_lt (of_decide_eq_true h1) (of_decide_eq_true h2)
noncomputable def Zb5(r:List Int):OT:=.nd (r.map λx=>.fz (.int x))
noncomputable def Dr(n:Nat)(base:Int)(L:List (List Int)):Prop:=L.length=n∧∀r∈L,r.length=n∧∀x∈r,0≤x∧x<base
theorem Dr.put{n:Nat}{base v:Int}{L:List (List Int)}(h:Dr n base L)(h0:0≤v)(h1:v<base)(a b:Nat):Dr n base (L.set a ((L.getD a []).set b v)):=by
 refine⟨by rw[Ve];exact h.1,λr hr=>?_⟩
 rcases List.mem_or_eq_of_mem_set hr with hr|rfl
 ·exact h.2 r hr
 ·by_cases c:a<L.length
  ·have m:L.getD a []∈L:=by rw[Xe,Xi c];exact JH c
   obtain⟨h3,h4⟩:=h.2 _ m
   refine⟨by rw[Ve];exact h3,λx hx=>?_⟩
   rcases List.mem_or_eq_of_mem_set hx with hx|rfl
   ·exact h4 x hx
   ·exact⟨h0,h1⟩
  ·rw[List.set_eq_of_length_le (by omega)]at hr
   exact h.2 _ hr
theorem Zie{i:Nat}{e j j2:FE}{δ:Zj}{d:Int}{L:List (List Int)}{a b:Nat}(he:EvV e δ (.int d))(hi:δ[i]? =some (some (.nd (L.map Zb5))))(hj:EvV j δ (.int a))(ha:a<L.length)(hk:EvV j2 δ (.int b))(hb:b<(L.getD a []).length) :
  Zia i e j j2 δ= .nx (δ.set i (some (.nd ((L.set a ((L.getD a []).set b d)).map Zb5)))):=by
 have e1:(L.map Zb5)[a]? =some (.nd ((L.getD a []).map λx=>.fz (.int x))):=by
  rw[Xq,Xi ha,Xe,Xi ha];rfl
 obtain⟨_,e2,d2⟩:=he
 obtain⟨_,e3,d3⟩:=hj
 obtain⟨_,e4,d4⟩:=hk
 unfold Zia
 rw[Zez,e2,Wn,hi]
 dsimp only
 rw[Zez,e3,Wn,d3]
 dsimp only
 rw[Zmf (by rw[Xj];exact ha)]
 dsimp only
 rw[e1]
 dsimp only
 rw[Zez,e4,Wn,d4]
 dsimp only
 rw[Zmf (by rw[Xj];exact hb)]
 dsimp only
 rw[d2]
 refine congrArg RS.nx (congrArg (δ.set i) (congrArg some (congrArg OT.nd ?_)))
 rw[List.map_set]
 refine congrArg _ ?_
 show _=OT.nd _
 rw[List.map_set]
noncomputable def fnL(L:List (List Int))(i j:Nat):Int:=(L.getD i []).getD j 0
theorem Zhu{L:List (List Int)}{a b:Nat}{v:Int}(ha:a<L.length)(hb:b<(L.getD a []).length)(x y:Nat):fnL (L.set a ((L.getD a []).set b v)) x y=if x=a∧y=b then v else fnL L x y:=by
 unfold fnL
 rw[Xe (l:=L.set a _),List.getElem?_set]
 by_cases c:a=x
 ·subst c
  rw[if_pos rfl,if_pos ha]
  show(((L.getD a []).set b v).getD y 0)=_
  rw[Xe,List.getElem?_set]
  by_cases e:b=y
  ·subst e
   rw[if_pos rfl,if_pos hb,if_pos ⟨rfl,rfl⟩];rfl
  ·rw[if_neg e,if_neg λz=>e z.2.symm,←Xe]
 ·rw[if_neg c,if_neg λz=>c z.1.symm,←Xe]
noncomputable def Sy(n:Nat)(L:List (List Int)):Prop:=∀i j,i<n->j<n->fnL L i j=fnL L j i∧fnL L i i=0
theorem Zxq(ns:List Int)(n:Nat)(hn:n≤10){base:Int}(hb:0<base)(c:Int):∃L,Told Jk [Zg ns,.int 4,.int n,.int base,.int c] (OT.nd (L.map Zb5)).data∧Dr n base L∧Sy n L:=by
 have e0:∀{δ:Zj},δ[2]? =some (some (.fz (.int n)))->blk 1 [2] δ=[none,some (.fz (.int n))]->(Wt 1 [2] (iRa (Zc (Zd 2) Zm)) (gNm 0) Zg5 (Zzp (fC (.int 0)) (Zd 1))) δ=some (.nd ((Xv n).map λ_=>Zb5 (XF n 0)),δ):=λh2 hb=>Zlh (cs:=[some (.fz (.int n))]) (Xv n) (λi:Nat=>Xk (0+(i:Int))) (λ_=>Zb5 (XF n 0)) (Zee (Zb (Za h2) Zi) (by omega)) (by rw[X8,Qa];omega) hb λx _=>by
  unfold Zb5
  rw[List.map_replicate]
  exact Zyx (by omega)
 have len:∀{L:List (List Int)} (k:Nat),Dr n base L->k<n->(L.getD k []).length=n:=fun{L} k h hk=>by
  refine(h.2 _ ?_).1
  rw[Xe,Xi (by rw[h.1];exact hk)]
  exact JH _
 have key:∃d,Told Jk [Zg ns,(.int 4),.int n,.int base,.int c] d∧∃L,d=(OT.nd (L.map Zb5)).data∧Dr n base L∧Sy n L:=by
  refine Zku rfl<|Jd (Zd0 (e0 rfl rfl))<|Zin (ds:=Zci 0 n) (λi δ=>∃(L:List (List Int)) (z1 z2 z3 z4:Option OT),δ=[some (.fz (Zg ns)),some (.fz (.int 4)),some (.fz (.int n)),some (.fz (.int base)),some (.fz (.int c)),some (.nd (L.map Zb5)),z1,z2,z3,z4]∧Dr n base L∧Sy n L) (Zee (Zb Za Zi) (by omega)) ⟨(Xv n).map λ_=>XF n 0,none,none,none,none,by rw[X5];rfl,⟨by rw[Xj,X8],λr hr=>by
   obtain⟨_,_,rfl⟩:=Qe.mp hr
   exact⟨BW,λx hx=>by rw[List.eq_of_mem_replicate hx];omega⟩⟩,λi j hi hj=>by
   have z:∀i j,i<n->j<n->fnL ((Xv n).map λ_=>XF n 0) i j=0:=λi j hi hj=>by
    unfold fnL
    rw[Xe (l:=List.map _ _),Xq,Vn hi]
    show(XF n (0:Int)).getD j 0=0
    rw[Xe,Vo,if_pos hj];rfl
   exact⟨by rw[z i j hi hj,z j i hj hi],z i i hi hi⟩⟩ (λi d δ hd q=>?_) λδ' q=>by obtain⟨L,z1,z2,z3,z4,rfl,hL,sy⟩:=q;exact Z5x rfl ⟨L,rfl,hL,sy⟩
  obtain⟨L,z1,z2,z3,z4,rfl,hL,sy⟩:=q
  obtain⟨hi,rfl⟩:=Ws hd
  rw[JL]
  refine Zlt (ds:=Zci 0 i) (λj δ=>∃(L:List (List Int)) (z2 z3 z4:Option OT),δ=[some (.fz (Zg ns)),some (.fz (.int 4)),some (.fz (.int n)),some (.fz (.int base)),some (.fz (.int c)),some (.nd (L.map Zb5)),some (.fz (.int i)),z2,z3,z4]∧Dr n base L∧Sy n L) rfl (Zee (Zb Za Zi) (by omega)) ⟨L,z2,z3,z4,rfl,hL,sy⟩ (λj d δ hd q=>?_) λδ' q=>by obtain⟨L,z2,z3,z4,e,hL,sy⟩:=q;exact⟨L,_,_,_,_,e,hL,sy⟩
  ·obtain⟨L,z2,z3,z4,rfl,hL,sy⟩:=q
   obtain⟨hj,rfl⟩:=Ws hd
   rw[JL]
   obtain⟨at',hat,a0⟩:∃k,((i:Int)*((i:Int)-1)).fdiv 2+(j:Int)=k∧0≤k:=by
    refine⟨_,rfl,?_⟩
    have hsm:0≤(i:Int)*((i:Int)-1):=Int.mul_nonneg (by omega) (by omega)
    rw[Y9 (by decide)]
    omega
   obtain⟨v,ev⟩:=Zdb c (90+at')
   have w1:∀{δ:Zj},δ[6]? =some (some (.fz (.int i)))->δ[7]? =some (some (.fz (.int j)))->EvV (Zf J0 (Zf Je (Zf Zc4 (Zd 6) (Zf gSb (Zd 6) (fC (.int 1)))) (fC (.int 2))) (Zd 7)) δ (.int at'):=λh6 h7=>hat▸Yk (Zaa (Zan (Za h6) (Zb8 (Za h6) Zt) (by omega)) Zt) (Za h7)
   have w3:∀{δ:Zj},δ[0]? =some (some (.fz (Zg ns)))->δ[1]? =some (some (.fz (.int 4)))->δ[8]? =some (some (.fz (.int at')))->δ[9]? =some (some (.fz (.int v)))->∃w,Wz (tV (Zf gLt (Zf J0 (Zd 1) (Zd 8)) (J2 J6 (Zc (Zd 0) Zm)))) (wE (Z6 gIx (Zd 0) (Zf J0 (Zd 1) (Zd 8))) (Yt 9)) fNx δ= .nx (δ.set 9 (some (.fz (.int w)))):=fun{δ} h0 h1 h8 h9=>by
    by_cases q:4+at'<ns.length
    ·exact⟨_,W2 (Wy (Zbk (Yk (Za h1) (Za h8)) (Yz (Za h0)) (decide_eq_true q))) (Zq (Jc (Za h0) (Yk (Za h1) (Za h8)) (by omega) q))⟩
    ·exact⟨v,(Zx (Wy (Zbk (Yk (Za h1) (Za h8)) (Yz (Za h0)) (decide_eq_false q))) rfl).trans (congrArg RS.nx (Zv7 h9).symm)⟩
   obtain⟨w,e3⟩:=w3 (δ:=[some (.fz (Zg ns)),some (.fz (.int 4)),some (.fz (.int n)),some (.fz (.int base)),some (.fz (.int c)),some (.nd (L.map Zb5)),some (.fz (.int i)),some (.fz (.int j)),some (.fz (.int at')),some (.fz (.int v))]) rfl rfl rfl rfl
   have w0:0≤w.fmod base:=Za1 hb
   have w1':w.fmod base<base:=Za3 hb
   have D1:=hL.put w0 w1' i j
   exact⟨_,_,rfl,.inl (Z5 (Zq (w1 rfl rfl))<|Z5 (Zq (Zk (Zb Za (Zb (Yk Zt Za) Zi)) ev))<|Z5 e3<|
    Z5 (Zie (L:=L) (a:=i) (b:=j) (Wj Za Za (by omega)) rfl Za (by rw[hL.1];exact hi) Za (by rw[len i hL hi];omega)) (Zie (L:=L.set i ((L.getD i []).set j (w.fmod base))) (a:=j) (b:=i) (Wj Za Za (by omega)) rfl Za (by rw[D1.1];omega) Za (by rw[len j D1 (by omega)];omega))),_,_,_,_,rfl,D1.put w0 w1' j i,λx y hx hy=>by
     have f2:=Zhu (L:=L.set i ((L.getD i []).set j (w.fmod base))) (a:=j) (b:=i) (v:=w.fmod base) (by rw[D1.1];omega) (by rw[len j D1 (by omega)];exact hi)
     have f1:=Zhu (L:=L) (a:=i) (b:=j) (v:=w.fmod base) (by rw[hL.1];exact hi) (by rw[len i hL hi];omega)
     rw[f2,f2,f2,f1,f1,f1]
     obtain⟨s1,s2⟩:=sy x y hx hy
     refine⟨?_,by rw[if_neg (by omega),if_neg (by omega)];exact s2⟩
     by_cases c1:x=j∧y=i
     ·rw[if_pos c1,if_neg (by omega),if_pos ⟨c1.2,c1.1⟩]
     ·rw[if_neg c1]
      by_cases c2:x=i∧y=j
      ·rw[if_pos c2,if_pos ⟨c2.2,c2.1⟩]
      ·rw[if_neg c2,if_neg (by omega),if_neg (by omega)];exact s1⟩
 obtain⟨d,h,L,rfl,hL,sy⟩:=key
 exact⟨L,h,hL,sy⟩
noncomputable def Zwh(p:List Int)(lo hi:Option Int):List Int:=(p.drop (HT.sIx p.length 0 lo)).take (HT.sIx p.length p.length hi-HT.sIx p.length 0 lo)
theorem Zxb(p:List Int)(lo hi:Option Int):cutD (p.map Xk) lo hi=(Zwh p lo hi).map Xk:=by
 unfold cutD Zwh
 rw[Xj,List.map_take,List.map_drop]
theorem Zts{p:List Int}{k:Nat}(h:k≤p.length):Zwh p none (some (k:Int))=p.take k:=by
 unfold Zwh
 rw[HT.sIx_none,HT.sIx_nat,List.drop_zero,Nat.sub_zero,Nat.min_eq_left h]
theorem Ztv{p:List Int}{k:Nat}(h:k≤p.length):Zwh p (some (k:Int)) none=p.drop k:=by
 unfold Zwh
 rw[HT.sIx_none,HT.sIx_nat,Nat.min_eq_left h,List.take_of_length_le (by rw[QK];omega)]
theorem Zwe(e:FE)(lo hi st:FO)(δ:Zj):Zv9 e lo hi st δ=(e δ).bind λp=>(lo p.2).bind λq=>(hi q.2).bind λr=>(st r.2).bind λt=>(stepOf p.1.data q.1 r.1 t.1).bind λo=>some (o,t.2):=rfl
theorem Zsg(p:List Int):stepOf (Zg p) none (some 0) (some (-1))=some (.nd ((((p.drop 1).reverse).map Xk).map OT.fz)):=by
 unfold Zg
 rw[Zok,show((p.map Xk).drop 1).reverse=((p.drop 1).reverse).map Xk by rw[List.map_reverse,List.map_drop]]
noncomputable def Pm(n:Nat)(p:List Int):Prop:=p.Perm (W8 n)
theorem J7{n:Nat}{x:Int}:x∈W8 n↔0≤x∧x<n:=by
 unfold W8
 rw[Qp,Qe]
 constructor
 ·rintro⟨i,hi,rfl⟩
  have:=Ql.mp hi
  omega
 ·rintro⟨h0,h1⟩
  exact⟨x.toNat,Ql.mpr (by omega),by omega⟩
theorem Zgu(n:Nat):(W8 n).Nodup:=by
 unfold W8
 rw[Qp]
 exact List.pairwise_map.mpr (List.nodup_range.imp λh e=>h (by omega))
theorem Zfm(n:Nat):(W8 n).Pairwise (·≤·):=by
 unfold W8
 rw[Qp,List.pairwise_map]
 exact List.pairwise_lt_range.imp λh=>by omega
theorem Zd4(n:Nat):(W8 n).length=n:=by unfold W8;simp
theorem Pm.len{n:Nat}{p:List Int}(h:Pm n p):p.length=n:=by rw[h.length_eq,Zd4]
theorem Pm.nodup{n:Nat}{p:List Int}(h:Pm n p):p.Nodup:=h.nodup_iff.mpr (Zgu n)
theorem getD_mem{p:List Int}{i:Nat}(h:i<p.length):p.getD i 0∈p:=by
 rw[Xe,Xi h];exact JH h
theorem Pm.inR{n:Nat}{p:List Int}(h:Pm n p):InR n p:=⟨h.len,λi hi=>J7.mp (h.mem_iff.mp (getD_mem (by rw[h.len];exact hi)))⟩
theorem Pm.ne{n:Nat}{p:List Int}(h:Pm n p){i j:Nat}(hi:i<n)(hj:j<n)(e:p.getD i 0=p.getD j 0):i=j:=by
 have hl:=h.len
 rw[Xe,Xe,Xi (by omega),Xi (by omega)]at e
 have nd:=Bg.mp h.nodup
 rcases VD i j with c|c|c
 ·exact(nd i j (by omega) (by omega) c e).elim
 ·exact c
 ·exact(nd j i (by omega) (by omega) c e.symm).elim
theorem Pm.ringB{n:Nat}{p:List Int}(h:Pm n p)(h3:3≤n)(h0:p.getD 0 0=0)(h1:p.getD 1 0<p.getD (n-1) 0):ringB n p=true:=by
 unfold My.ringB
 rw[decide_eq_true (show(3:Int)≤n by omega),decide_eq_true (Wo ((Z8 p).trans h) (Y6 p) (Zfm n)),decide_eq_true h0,h.len,decide_eq_true h1]
 rfl
theorem Zqu{n:Nat}{p:List Int}(h:ringB n p=true):Pm n p∧3≤n∧p.getD 0 0=0∧p.getD 1 0<p.getD (p.length-1) 0:=by
 unfold ringB at h
 simp only[XD,decide_eq_true_eq]at h
 obtain⟨h1,h2,h3,h4⟩:=h
 exact⟨by unfold Pm;rw[←h2];exact(Z8 p).symm,by omega,h3,h4⟩
theorem Zx8{a b:FE}{δ:Zj}{p:List Int}{k:Int}(ha:a δ=some (.fz (Zg p),δ))(hp:p.length≤1000)(hb:b δ=some (.fz (.int k),δ))(hk:k∈p):Zly a b δ=some (.fz (.int (p.idxOf k:Nat)),δ):=by
 unfold Zly
 rw[ha,Xd,OT.data_fz]
 unfold Zg
 dsimp only
 rw[Jf,Xd,if_pos (by omega),hb,Xd,OT.data_fz]
 dsimp only
 rw[if_pos hk]
noncomputable def flip(w:List Int):List Int:=w.take 1 ++ (w.drop 1).reverse
theorem Zmn(a:Int)(t:List Int):flip (a :: t)=a :: t.reverse:=rfl
theorem Zv1(w:List Int):(flip w).Perm w:=by
 cases w with
 | nil=>exact .nil
 | cons a t=>rw[Zmn];exact(List.reverse_perm t).cons a
theorem Zyo{w:List Int}(h:2≤w.length):(flip w).getD 0 0=w.getD 0 0∧(flip w).getD 1 0=w.getD (w.length-1) 0∧(flip w).getD (w.length-1) 0=w.getD 1 0:=by
 match w,h with
 | a :: b :: t,_=>
  rw[Zmn]
  simp only[Xe,BR]
  refine⟨rfl,?_,?_⟩
  ·rw[Uc,List.getElem?_reverse (by simp)]
   simp only[BR,Nat.add_sub_cancel,Nat.sub_zero]
   rw[Uc (l:=b :: t)]
  ·rw[show t.length+1+1-1=t.length+1 by omega,Uc,List.getElem?_reverse (by simp)]
   simp
theorem Zvt{e:FE}{δ:Zj}{r p:List Int}{lo hi:FO}{l h:Option Int}(he:EvV e δ (Zg r))(hl:EvO lo δ l)(hh:EvO hi δ h)(hp:Zwh r l h=p):EvV (fSl e lo hi) δ (Zg p):=hp▸(Z41 (ds:=r.map Xk) he hl hh).cast (by rw[Zxb];rfl)
theorem Zna{a b:FE}{δ:Zj}{p q:List Int}(ha:EvV a δ (Zg p))(hb:EvV b δ (Zg q))(h:p.length≤1000)(k:q.length≤1000):EvV (Z6 Zk3 a b) δ (Zg (p ++ q)):=(Zz3 (ds:=p.map Xk) (es:=q.map Xk) ha hb (by rw[Xj,Xj];omega)).cast (by rw[←Qu];rfl)
theorem Zpr{e:FE}{δ:Zj}{x:Int}(h:EvV e δ (.int x)):EvV (Zch (Zc e Zm)) δ (Zg [x]):=Zh7 (Zb h Zi) (show 1≤1000 by decide)
theorem Zo9{δ:Zj}:EvV (Zch Zm) δ (Zg []):=Zh7 Zi (show 0≤1000 by decide)
theorem Z07{e:FE}{δ:Zj}{r:List Int}{hi st:FO}(he:EvV e δ (Zg r))(hh:EvO hi δ (some 0))(hs:EvO st δ (some (-1))):EvV (Zv9 e oN hi st) δ (Zg ((r.drop 1).reverse)):=by
 obtain⟨t,e1,d1⟩:=he
 unfold EvO at hh hs
 exact⟨_,by rw[Zwe,e1,Xd,Yby,Xd,hh,Xd,hs,Xd,d1,Zsg,Xd],Zev _⟩
theorem Zng{n:Nat}{p:List Int}(h:Pm n p)(h3:3≤n)(hn:n≤10):∃r,Told Ja [Zg p] (Zg r)∧Pm n r∧r.getD 0 0=0∧r.getD 1 0<r.getD (n-1) 0:=by
 have hl:=h.len
 have m0:(0:Int)∈p:=h.mem_iff.mpr (J7.mpr (by omega))
 have hk:p.idxOf 0<p.length:=List.idxOf_lt_length_of_mem m0
 obtain⟨k,ek⟩:∃k,p.idxOf 0=k:=⟨_,rfl⟩
 obtain⟨w,ew⟩:∃w,p.drop k ++ p.take k=w:=⟨_,rfl⟩
 have hw:Pm n w:=by
  unfold Pm
  rw[←ew]
  refine(List.perm_append_comm.trans ?_).trans h
  rw[List.take_append_drop]
 have wl:=hw.len
 have w0:w.getD 0 0=0:=by
  rw[←ew,Xe,Vc (by rw[QK];omega),V9,Nat.add_zero,Xi (by omega)]
  subst ek
  exact List.getElem_idxOf hk
 have e1:∀{δ:Zj},δ[0]? =some (some (.fz (Zg p)))->EvV (Zly (Zd 0) (fC (.int 0))) δ (.int k):=λh0=>⟨_,by rw[Zx8 (p:=p) (k:=0) (by rw[Zlf,h0,Zkm]) (by omega) rfl m0,ek],OT.data_fz _⟩
 have e2:∀{δ:Zj},δ[0]? =some (some (.fz (Zg p)))->δ[1]? =some (some (.fz (.int k)))->EvV (Z6 Zk3 (fSl (Zd 0) (oI (Zd 1)) oN) (fSl (Zd 0) oN (oI (Zd 1)))) δ (Zg w):=λh0 h1=>ew▸Zna (Zvt (Za h0) (Zyq (Za h1)) Z9d (Ztv (by omega))) (Zvt (Za h0) Z9d (Zyq (Za h1)) (Zts (by omega))) (by rw[QK];omega) (by rw[BP];omega)
 have e3:∀{δ:Zj} {b:Bool},decide (w.getD (n-1) 0<w.getD 1 0)=b->δ[2]? =some (some (.fz (Zg w)))->EvT (tAn (tV (Zf gGt (J2 J6 (Zc (Zd 2) Zm)) (fC (.int 2)))) (tV (Zf gGt (Z6 gIx (Zd 2) (fC (.int 1))) (Z6 gIx (Zd 2) (fUn Znj (fC (.int 1))))))) δ b:=λhb h2=>Zmq (Wy (Zrc (Yz (Za h2)) Zt (decide_eq_true (by omega)))) (Wy (Zrc (Jc (Za h2) Zt (by decide) (by omega)) (Y5 (Za h2) (Zhg Zt) (Zfk (by omega))) (by rw[wl];exact hb)))
 by_cases c:w.getD (n-1) 0<w.getD 1 0
 ·obtain⟨g0,g1,g2⟩:=Zyo (w:=w) (by omega)
  rw[wl]at g1 g2
  exact⟨flip w,Z2 rfl<|Zv (Zq (e1 rfl))<|Zv (Zq (e2 rfl rfl))<|Zv (W2 (e3 (decide_eq_true c) rfl) (Zq (Zna (Zvt Za Z9d (Zyq Zt) (Zts (k:=1) (by omega))) (Z07 Za rfl rfl) (by rw[BP];omega) (by rw[List.length_reverse,QK];omega)))) (Yi Za),(Zv1 w).trans hw,by rw[g0,w0],by rw[g1,g2];exact c⟩
 ·refine⟨w,Z2 rfl<|Zv (Zq (e1 rfl))<|Zv (Zq (e2 rfl rfl))<|Zv (Zx (e3 (decide_eq_false c) rfl) rfl) (Yi Za),hw,w0,?_⟩
  have:w.getD 1 0≠w.getD (n-1) 0:=λe=>by
   have:=hw.ne (by omega) (by omega) e
   omega
  omega
theorem Zfa{α β:Type}(f:α->β):∀(l:List α) (j:Nat),(l.map f).eraseIdx j=(l.eraseIdx j).map f
 | [],_=>rfl
 | _ :: _,0=>rfl
 | a :: l,j+1=>by
  show f a :: (l.map f).eraseIdx j=f a :: (l.eraseIdx j).map f
  rw[Zfa f l j]
theorem Zji:∀(l:List Int) (j:Nat),j<l.length->(l.getD j 0 :: l.eraseIdx j).Perm l
 | [],_,h=>by simp at h
 | a :: l,0,_=>.refl _
 | a :: l,j+1,h=>by
  have:=Zji l j (by simpa using h)
  show(l.getD j 0 :: a :: l.eraseIdx j).Perm (a :: l)
  exact(List.Perm.swap _ _ _).trans (this.cons a)
theorem Z6k{i:Nat}{a:FE}{δ:Zj}{l:List Int}{j:Nat}(hi:δ[i]? =some (some (.nd (l.map λx=>.fz (.int x)))))(ha:a δ=some (.fz (.int j),δ))(hj:j<l.length)(hl:l.length≤1000) :
  Zxs i a δ=some (.fz (.int (l.getD j 0)),δ.set i (some (.nd ((l.eraseIdx j).map λx=>.fz (.int x))))):=by
 have e1:(l.map λx=>OT.fz (.int x))[j]? =some (.fz (.int (l.getD j 0))):=by
  rw[Xq,Xe,Xi hj];rfl
 unfold Zxs
 rw[hi]
 dsimp only
 rw[ha,Xd]
 dsimp only
 rw[hi]
 dsimp only
 rw[OT.data_fz]
 dsimp only
 rw[Zmf (by rw[Xj];exact hj)]
 dsimp only
 rw[e1]
 dsimp only
 rw[if_pos (by rw[Xj,Qa];omega)]
 refine congrArg some (congrArg (Prod.mk _) (congrArg (δ.set i) (congrArg some (congrArg OT.nd ?_))))
 rw[Zfa]
theorem Zii(c:Int){n:Nat}(h3:3≤n)(hn:n≤10):∃r,Told Wi [.int c,.int n] (Zg r)∧Pm n r∧r.getD 0 0=0∧r.getD 1 0<r.getD (n-1) 0:=by
 obtain⟨vs,e0,hv⟩:=Zju c n (by omega)
 have e1:∀{δ:Zj},δ[1]? =some (some (.fz (.int n)))->(Zr9 (Zc (Zd 1) Zm)) δ=some (.nd ((W8 n).map λx=>OT.fz (.int x)),δ):=λh1=>by
  rw[Znl,Zlb,Zlf,h1,Zkm,Xd,Zsa,Xd,Xd,Zaz,Zcc,OT.data_fz,Zx5,if_pos ⟨Zhs (by omega) (by omega),by rw[Qa];omega⟩]
  refine congrArg some (congrArg (λt=>(t,_)) (congrArg OT.nd ?_))
  unfold Zci W8
  rw[X5,X5]
  refine Qg λi _=>?_
  show OT.fz (.int (0+(i:Int)))=OT.fz (.int (i:Int))
  rw[JL]
 have key:∃d,Told Wi [.int c,.int n] d∧∃r,d=Zg r∧Pm n r∧r.getD 0 0=0∧r.getD 1 0<r.getD (n-1) 0:=by
  refine Zku rfl<|Jd (Zq (Zk (Zb Za (Zb Za Zi)) e0))<|Jd (Zd0 (e1 rfl))<|Jd Zjq<|Zin (ds:=Zci 0 n) (λi δ=>∃(l r:List Int) (z:Option OT),δ=[some (.fz (.int c)),some (.fz (.int n)),some (.fz (Zg vs)),some (.nd (l.map λx=>.fz (.int x))),some (.nd (r.map λx=>.fz (.int x))),z]∧(r ++ l).Perm (W8 n)∧r.length=i) (Zee (Zb Za Zi) (by omega)) ⟨W8 n,[],none,rfl,.refl _,rfl⟩ (λi d δ hd q=>?_) λδ' q=>?_
  ·obtain⟨l,r,z,rfl,hp,hr⟩:=q
   obtain⟨hi,rfl⟩:=Ws hd
   rw[JL]
   have hl:=hp.length_eq
   rw[Xw,Zd4]at hl
   obtain⟨j,ej,hj⟩:=Zdm (vs.getD i 0) (n:=l.length) (by omega)
   have ep:EvV (Zf Zay (Z6 gIx (Zd 2) (Zd 5)) (J2 J6 (Zc (Zj0 3) Zm))) [some (.fz (.int c)),some (.fz (.int n)),some (.fz (Zg vs)),some (.nd (l.map λx=>.fz (.int x))),some (.nd (r.map λx=>.fz (.int x))),some (.fz (.int i))] (.int j):=EvV.cast (Wj (j:=l.length) (Jc (p:=vs) (i:=(i:Int)) Za Za (by omega) (by omega)) (Yz (Zpe rfl (Zd1 l))) (by omega)) (congrArg _ ej)
   obtain⟨t,e2,d2⟩:=ep
   rw[Zg9 d2]at e2
   refine⟨_,_,rfl,.inl (Zvq (vs:=r) (Z6k (l:=l) (j:=j) rfl e2 hj (by omega)) rfl rfl (by omega)),l.eraseIdx j,r ++ [l.getD j 0],some (.fz (.int i)),rfl,?_,by rw[Xw,hr];rfl⟩
   rw[Q7]
   exact(List.Perm.append_left r (Zji l j hj)).trans hp
  ·obtain⟨l,r,z,rfl,hp,hr⟩:=q
   rw[Wl]at hr
   have hl:=hp.length_eq
   rw[Xw,Zd4]at hl
   have hl:l=[]:=List.length_eq_zero_iff.mp (by omega)
   subst hl
   rw[Q4]at hp
   obtain⟨q,e1,h1⟩:=Zng hp h3 hn
   exact Ztf rfl (Zo2 (Zk (Zb (Za (d:=Zg r) (by rw[Zd1];rfl)) Zi) e1) ⟨q,rfl,h1⟩)
 obtain⟨d,h,r,rfl,hr⟩:=key
 exact⟨r,h,hr⟩
noncomputable def sm(f:Nat->Int):Nat->Int
 | 0=>0
 | n+1=>sm f n+f n
theorem Zfl{f g:Nat->Int}:∀n,(∀i,i<n->f i=g i)->sm f n=sm g n
 | 0,_=>rfl
 | n+1,h=>by rw[sm,sm,Zfl n λi hi=>h i (Bc hi),h n (Qx n)]
theorem Zzq(f g:Nat->Int):∀n,sm (λi=>f i+g i) n=sm f n+sm g n
 | 0=>rfl
 | n+1=>by rw[sm,sm,sm,Zzq f g n];omega
theorem Zkd:∀n,sm (λ_=>0) n=0
 | 0=>rfl
 | n+1=>by rw[sm,Zkd n];rfl
noncomputable def cl(lo hi x:Nat):Nat:=if x<lo then lo else if x<hi then x else hi
theorem Z83(k:Nat->Int){lo hi:Nat}(h:lo≤hi)(s:Nat):∀m,sm (λj=>if lo≤s+j∧s+j<hi then k (s+j)-k (s+j+1)else 0) m=k (cl lo hi s)-k (cl lo hi (s+m))
 | 0=>by rw[sm,Nat.add_zero];omega
 | m+1=>by
  rw[sm,Z83 k h s m]
  have e:s+(m+1)=s+m+1:=rfl
  rw[e]
  generalize s+m=x
  by_cases a:lo≤x∧x<hi
  ·rw[if_pos a]
   have e1:cl lo hi x=x:=by unfold cl;rw[if_neg (by omega),if_pos a.2]
   have e2:cl lo hi (x+1)=x+1:=by
    unfold cl
    rw[if_neg (by omega)]
    by_cases c:x+1<hi
    ·rw[if_pos c]
    ·rw[if_neg c];omega
   rw[e1,e2];omega
  ·rw[if_neg a]
   have e1:cl lo hi (x+1)=cl lo hi x:=by
    unfold cl
    by_cases b:x<lo
    ·rw[if_pos b]
     by_cases c:x+1<lo
     ·rw[if_pos c]
     ·rw[if_neg c]
      by_cases d:x+1<hi
      ·rw[if_pos d];omega
      ·rw[if_neg d];omega
    ·rw[if_neg b,if_neg (by omega),if_neg (by omega),if_neg (by omega)]
   rw[e1];omega
theorem Z0z{lo hi x:Nat}(h:lo≤hi)(a:x≤lo):cl lo hi x=lo:=by
 unfold cl
 by_cases c:x<lo
 ·rw[if_pos c]
 ·rw[if_neg c]
  by_cases d:x<hi
  ·rw[if_pos d];omega
  ·rw[if_neg d];omega
theorem Zz8{lo hi x:Nat}(h:lo≤hi)(a:hi≤x):cl lo hi x=hi:=by
 unfold cl
 rw[if_neg (by omega),if_neg (by omega)]
noncomputable def twP(n:Nat)(D:Nat->Nat->Int)(a c:Nat):Int:=D a c+D (a+1) ((c+1)%n)-D a ((c+1)%n)-D (a+1) c
noncomputable def inS(a c x:Nat):Bool:=decide (a<x)&&decide (x≤c)
noncomputable def Zh9(a c u v:Nat):Bool:=inS a c u !=inS a c v
theorem Zaq{a c x:Nat}:inS a c x=true↔a<x∧x≤c:=by
 unfold inS
 rw[XD,decide_eq_true_eq,decide_eq_true_eq]
theorem Zlp{a c u v:Nat}:Zh9 a c u v=true↔¬((a<u∧u≤c)↔(a<v∧v≤c)):=by
 unfold Zh9
 rw[bne_iff_ne,ne_eq,Bool.eq_iff_iff,Zaq,Zaq]
noncomputable def kw(n:Nat)(D:Nat->Nat->Int)(a c:Nat):Int:=if c=n then D a 0-D (a+1) 0 else D a c-D (a+1) c
noncomputable def kA(D:Nat->Nat->Int)(u v a:Nat):Int:=D a u-D a v
theorem Z3x{n u v a:Nat}(D:Nat->Nat->Int)(huv:u<v)(hv:v<n)(ha:a<n):sm (λj=>if Zh9 a (a+1+j) u v=true then twP n D a (a+1+j)else 0) (n-(a+1))=
  (if 0≤0+a∧0+a<u then kA D u v (0+a)-kA D u v (0+a+1)else 0)+(if u≤0+a∧0+a<v then kA D v 0 (0+a)-kA D v 0 (0+a+1)else 0):=by
 rw[Nat.zero_add]
 have tk:∀c,c<n->twP n D a c=kw n D a c-kw n D a (c+1):=λc hc=>by
  unfold twP kw
  rw[if_neg (show¬c=n by omega)]
  by_cases e:c+1=n
  ·rw[if_pos e,e,Nat.mod_self];omega
  ·rw[if_neg e,Nat.mod_eq_of_lt (by omega)];omega
 have go:∀lo hi,lo≤hi->a+1≤lo->hi≤n->(∀c,a<c->c<n->(Zh9 a c u v=true↔lo≤c∧c<hi))->sm (λj=>if Zh9 a (a+1+j) u v=true then twP n D a (a+1+j)else 0) (n-(a+1))=kw n D a lo-kw n D a hi:=λlo hi h1 h2 h3 h4=>by
  have e:sm (λj=>if Zh9 a (a+1+j) u v=true then twP n D a (a+1+j)else 0) (n-(a+1))=sm (λj=>if lo≤a+1+j∧a+1+j<hi then kw n D a (a+1+j)-kw n D a (a+1+j+1)else 0) (n-(a+1)):=Zfl _ λj hj=>by
   rw[←tk _ (by omega)]
   have h:=h4 (a+1+j) (by omega) (by omega)
   by_cases p:Zh9 a (a+1+j) u v=true
   ·rw[if_pos p,if_pos (h.mp p)]
   ·rw[if_neg p,if_neg λz=>p (h.mpr z)]
  rw[e,Z83 (kw n D a) h1 (a+1),Z0z h1 h2,Zz8 h1 (by omega)]
 by_cases h1:a<u
 ·rw[if_pos ⟨Qt _,h1⟩,if_neg (by omega),go u v (by omega) (by omega) (by omega) λc h2 h3=>by rw[Zlp];omega]
  unfold kw kA
  rw[if_neg (by omega),if_neg (by omega)];omega
 ·rw[if_neg (by omega)]
  by_cases h2:a<v
  ·rw[if_pos ⟨by omega,h2⟩,go v n (by omega) (by omega) (by omega) λc h2 h3=>by rw[Zlp];omega]
   unfold kw kA
   rw[if_neg (by omega),if_pos rfl];omega
  ·rw[if_neg (by omega)]
   refine(Zfl _ λj hj=>?_).trans (Zkd _)
   exact if_neg (by rw[Zlp];omega)
noncomputable def Z86(n:Nat)(F:Nat->Nat->Int):Int:=sm (λa=>sm (λj=>F a (a+1+j)) (n-(a+1))) n
theorem Zyd{n u v:Nat}{D:Nat->Nat->Int}(sy:∀i j,i<n->j<n->D i j=D j i∧D i i=0)(hu:u<n)(hv:v<n):Z86 n (λa c=>if Zh9 a c u v=true then twP n D a c else 0)=2*D u v:=by
 have key:∀u v,u<v->v<n->Z86 n (λa c=>if Zh9 a c u v=true then twP n D a c else 0)=2*D u v:=λu v huv hv=>by
  unfold Z86
  rw[Zfl n λa ha=>Z3x D huv hv ha,Zzq,Z83 (kA D u v) (Qt u) 0,Z83 (kA D v 0) (show u≤v by omega) 0,Z0z (Qt _) (XN _),Zz8 (Qt _) (by omega),Z0z (by omega) (Qt _),Zz8 (by omega) (by omega)]
  unfold kA
  have s1:=sy 0 u (by omega) (by omega)
  have s2:=sy 0 v (by omega) (by omega)
  have s3:=sy u v (by omega) (by omega)
  have s4:=sy v u (by omega) (by omega)
  omega
 have sw:∀a c,Zh9 a c u v=Zh9 a c v u:=λa c=>by unfold Zh9;cases inS a c u<;>cases inS a c v<;>rfl
 rcases VD u v with h|h|h
 ·exact key u v h hv
 ·subst h
  have:(λa c=>if Zh9 a c u u=true then twP n D a c else 0)= λ_ _=>(0:Int):=funext λa=>funext λc=>if_neg (by unfold Zh9;rw[bne_self_eq_false];exact Xp)
  rw[this,(sy u u hu hu).2]
  unfold Z86
  exact(Zfl n λa _=>Zkd _).trans (Zkd n)
 ·have:(λa c=>if Zh9 a c u v=true then twP n D a c else 0)= λa c=>if Zh9 a c v u=true then twP n D a c else 0:=funext λa=>funext λc=>by rw[sw]
  rw[this,key v u h hu,(sy v u hv hu).1]
theorem Zr7{e:FE}{δ:Zj}{i:Nat}{ts rs:List OT}{ds:List Xa}(h:e δ=some (.nd rs,δ))(hd:OT.datas rs=ds)(hi:δ[i]? =some (some (.nd ts)))(hl:ts.length+ds.length≤1000000):Zhr i e δ= .nx (δ.set i (some (.nd (ts ++ ds.map OT.fz)))):=by
 unfold Zhr
 rw[hi]
 dsimp only
 rw[Zez,h,Wn,hi]
 dsimp only
 have lr:rs.length=ds.length:=by rw[←hd,Zfp]
 rw[if_pos (by rw[Qa,lr];omega),hd]
theorem Zt1{α:Type}{caps:List Nat}{it:FI}{me:FE}{cs:Zj}{δ:Zj}(xs:List α)(mk f:α->Xa)(hi:EvI it δ (xs.map mk))(hz:xs.length≤1000000)(hb:blk 1 caps δ=none :: cs)(h:∀x∈xs,EvV me (some (.fz (mk x)) :: cs) (f x)):∃rs,Wt 1 caps it (gNm 0) Zg5 me δ=some (.nd rs,δ)∧OT.datas rs=xs.map f:=by
 obtain⟨t,e1,e2⟩:=Zil xs mk f hi hz hb h
 cases t with
 | fz d=>
  unfold Wt at e1
  unfold EvI at hi
  rw[hi,Xd]at e1
  split at e1
  ·obtain⟨z,h1,h2⟩:=bs e1
   cases h2
  ·cases e1
 | tp ts=>rw[OT.data_tp]at e2;cases e2
 | dc _ _ _=>rw[OT.data_dc]at e2;cases e2
 | nd rs=>
  rw[OT.data_nd,←datas_map]at e2
  injection e2 with e2
  exact⟨rs,e1,e2⟩
theorem Zva(n:Nat)(hn:n≤20):Told Jv [.int n] (.list ((Yc n).map ptD)):=by
 refine Z2 rfl<|Zv Zjq ?_
 refine Zjg (ds:=Zci 0 n) (λi δ=>∃z,δ=[some (.fz (.int n)),some (.nd (((Zhk n i).map ptD).map OT.fz)),z]) (Zee (Zb Za Zi) (by omega)) ⟨none,rfl⟩ (λi d δ hd q=>?_) λδ' q=>?_
 ·obtain⟨z,rfl⟩:=q
  obtain⟨hi,rfl⟩:=Ws hd
  rw[JL]
  have lp:=Zhp n i
  have:i*n≤20*20:=Nat.mul_le_mul (by omega) hn
  obtain⟨rs,e1,e2⟩:=Zt1 (δ:=[some (.fz (.int n)),some (.nd (((Zhk n i).map ptD).map OT.fz)),some (.fz (.int i))]) (caps:=[2]) (cs:=[some (.fz (.int i))]) (me:=Zlu (Zc (Zd 1) (Zc (Zd 0) Zm))) (it:=iRb (Zc (Zf J0 (Zd 2) (fC (.int 1))) (Zc (Zd 0) Zm))) (Xv (n-(i+1))) (λj:Nat=>Xk (((i+1:Nat):Int)+(j:Int))) (λj=>ptD (i,i+1+j)) (Zsk (m:=i+1) (Zb ((Yk Za Zt).cast (by rw[Int.natCast_add];rfl)) (Zb Za Zi)) (by omega) (by omega)) (by rw[X8];omega) rfl λj _=>(Zff (Zb Za (Zb Za Zi)) (show 2≤1000 by decide)).cast (by
   show Xa.tuple [.int (i:Int),.int (((i+1:Nat):Int)+(j:Int))]= .tuple [.int (i:Int),.int ((i+1+j:Nat):Int)]
   rw[Int.natCast_add (i+1) j])
  refine⟨_,_,rfl,.inl (Zr7 e1 e2 rfl (by rw[Xj,Xj,Xj,X8];omega)),some (.fz (.int i)),?_⟩
  have em:(Xv (n-(i+1))).map (λj=>ptD (i,i+1+j))=((Xv (n-(i+1))).map λj=>(i,i+1+j)).map ptD:=by rw[X5];rfl
  rw[Zf5,Qu,Qu,em];rfl
 ·obtain⟨z,rfl⟩:=q
  rw[Wl]
  exact Yb6 rfl (by rw[OT.data_nd,OT.map_fz];rfl)
theorem Zdp(neg:Bool)(x:Int)(p:List Int):Znk neg (.int x) (Zg p)=some (.bool (if neg then !decide (x∈p)else decide (x∈p))):=by
 have e:memS (.int x) (p.map Xk)=decide (x∈p):=by
  unfold memS
  rw[List.any_map]
  rw[Bool.eq_iff_iff,List.any_eq_true,decide_eq_true_eq]
  constructor
  ·rintro⟨y,hy,h⟩
   have:(y==x)=true:=h
   rw[←eq_of_beq this];exact hy
  ·intro h
   exact⟨x,h,(show(x==x)=true from beq_self_eq_true x)⟩
 have s:(p.map Xk).all scD=true:=by
  rw[Uv]
  intro d hd
  obtain⟨y,_,rfl⟩:=Qe.mp hd
  rfl
 show(if(scD (.int x)&&(p.map Xk).all scD)=true then some (Us (if neg then !memS (.int x) (p.map Xk)else memS (.int x) (p.map Xk)))else none)=_
 rw[s,e];rfl
theorem Zzm(x y:Bool):gNe (.bool x) (.bool y)=some (.bool (x !=y)):=by
 cases x<;>cases y<;>rfl
noncomputable def sd(p:List Int)(q:Nat×Nat):List Int:=(p.drop (q.1+1)).take (q.2-q.1)
theorem Zfd{n:Nat}{p:List Int}(h:Pm n p){u:Nat}(hu:u<n){q:Nat×Nat}(h1:q.1<q.2)(h2:q.2<n):decide (p.getD u 0∈sd p q)=inS q.1 q.2 u:=by
 rw[Bool.eq_iff_iff,decide_eq_true_eq,Zaq]
 have lp:=h.len
 unfold sd
 constructor
 ·intro m
  obtain⟨k,hk⟩:=Bq m
  rw[List.getElem?_take]at hk
  split at hk
  ·rw[V9]at hk
   have hl:=(Xm.mp hk).1
   have e:p.getD (q.1+1+k) 0=p.getD u 0:=by rw[Xe,hk];rfl
   have:=h.ne (by omega) hu e
   omega
  ·cases hk
 ·rintro⟨h3,h4⟩
  refine QL (i:=u-(q.1+1)) ?_
  rw[List.getElem?_take,if_pos (by omega),V9,show q.1+1+(u-(q.1+1))=u by omega,Xe,Xi (by omega)];rfl
theorem Zyy{p:List Int}{q:Nat×Nat}(h1:q.1<q.2)(h2:q.2<p.length):Zwh p (some ((q.1:Int)+1)) (some ((q.2:Int)+1))=sd p q:=by
 have e1:(q.1:Int)+1=((q.1+1:Nat):Int):=by omega
 have e2:(q.2:Int)+1=((q.2+1:Nat):Int):=by omega
 have f:∀k d:Nat,k≤p.length->HT.sIx p.length d (some (k:Int))=k:=λk d hk=>by
  show(if(k:Int)<0 then((k:Int)+(p.length:Int)).toNat else min (k:Int).toNat p.length)=k
  rw[if_neg (by omega)]
  omega
 unfold Zwh sd
 rw[e1,e2,f _ _ (by omega),f _ _ (by omega),show q.2+1-(q.1+1)=q.2-q.1 by omega]
theorem Pm.at{n:Nat}{p:List Int}(h:Pm n p){i:Nat}(hi:i<n):∃u,u<n∧p.getD u 0=(i:Int):=by
 have m:(i:Int)∈p:=h.mem_iff.mpr (J7.mpr ⟨by omega,by omega⟩)
 obtain⟨u,hu⟩:=Bq m
 exact⟨u,by rw[←h.len];exact(Xm.mp hu).1,by rw[Xe,hu];rfl⟩
noncomputable def smL(F:Nat×Nat->Int)(L:List (Nat×Nat)):Int:=(L.map F).sum
theorem Zvi(F:Nat×Nat->Int)(L M:List (Nat×Nat)):smL F (L ++ M)=smL F L+smL F M:=by
 unfold smL
 rw[Qu,List.sum_append]
theorem Zm0(F:Nat×Nat->Int)(i:Nat):∀m,smL F ((Xv m).map λj=>(i,i+1+j))=sm (λj=>F (i,i+1+j)) m
 | 0=>rfl
 | m+1=>by
  rw[UT,Qu,Zvi,Zm0 F i m,sm]
  refine congrArg (_+·) ?_
  show F (i,i+1+m)+0=_
  omega
theorem Zo0(F:Nat×Nat->Int)(n:Nat):∀m,smL F (Zhk n m)=sm (λa=>sm (λj=>F (a,a+1+j)) (n-(a+1))) m
 | 0=>rfl
 | m+1=>by rw[Zf5,Zvi,Zo0 F n m,Zm0,sm]
theorem Zkt{T m:Int}(hm:0<m):(XM T m).num*(m.fdiv ((XM T m).den:Int))=T∧m.fmod ((XM T m).den:Int)=0:=by
 have hd:((XM T m).den:Int)∣m:=Zon (by omega)
 have hp:=Zaw (XM T m)
 refine⟨?_,by rw[Zd3 hp];exact Int.emod_eq_zero_of_dvd hd⟩
 rw[Y9 hp]
 have e:=Zze hd
 have nz:(m:Rat)≠0:=by
  intro z
  have:m=0:=by exact_mod_cast z
  omega
 have:(XM T m)*(m:Rat)=(T:Rat):=by
  rw[Rat.divInt_eq_div]
  exact Rat.div_mul_cancel nz
 rw[this]at e
 exact_mod_cast e
theorem Ya8{n:Nat}{D:Nat->Nat->Int}{a c:Nat}(h:∀i j,i<n->j<n->Bt 300 (D i j))(hac:a<c)(hc:c<n):Bt 303 (twP n D a c):=by
 have hm:(c+1)%n<n:=Nat.mod_lt _ (by omega)
 unfold twP
 exact(((h a c (by omega) hc).add' (h (a+1) _ (by omega) hm)).sub' ((h a _ (by omega) hm).mono (by decide))).sub' ((h (a+1) c (by omega) hc).mono (by decide))
theorem Ydd{b:Int}(h:Bt 300 b):Bt 302 (2*b):=(show Bt 2 2 by unfold Bt;decide).mul h
theorem Z4k{b:Int}{q:Rat}(hb:0<b)(bb:Bt 300 b)(hd:(q.den:Int)∣2*b):Bt 302 ((2*b).fdiv (q.den:Int)):=by
 rw[Y9 (Zaw q)]
 exact Zij (by omega) (Int.ediv_dvd_of_dvd hd) (Ydd bb)
theorem Z40{T b:Int}(hb:0<b):((XM T (2*b)).den:Int)∣2*b:=Zon (by omega)
theorem list_range{α β:Type}(p:List α)(d:α)(f:α->β):p.map f=(Xv p.length).map λi=>f (p.getD i d):=by
 refine List.ext_getElem? λi=>?_
 rw[Xq,Xq]
 by_cases c:i<p.length
 ·rw[Vn c,Xi c]
  simp[Xe,Xi c]
 ·rw[Q6 (by omega),Q6 (by simp;omega)];rfl
theorem Z3q{n:Nat}{base:Int}{L:List (List Int)}(h:Dr n base L):Qy ((L.map Zb5).map OT.data)=Yw n (fnL L)∧∀i j,i<n->j<n->0≤fnL L i j∧fnL L i j<base:=by
 refine⟨?_,λi j hi hj=>?_⟩
 ·unfold Yw
  refine congrArg Qy ?_
  rw[X5,list_range L [],h.1]
  refine Qg λi hi=>?_
  have hi:i<n:=by simpa using hi
  have hr:(L.getD i []).length=n:=by
   refine(h.2 _ ?_).1
   rw[Xe,Xi (by rw[h.1];exact hi)]
   exact JH _
  show(OT.nd _).data=Zzk n _
  rw[OT.data_nd]
  unfold Zzk
  refine congrArg Qy ?_
  rw[X5,list_range (L.getD i []) 0,hr]
  rfl
 ·have m1:L.getD i []∈L:=by
   rw[Xe,Xi (by rw[h.1];exact hi)]
   exact JH _
  obtain⟨h1,h2⟩:=h.2 _ m1
  exact h2 _ (getD_mem (by omega))
theorem Zy5{e:FE}{δ δ':Zj}{d:Xa}{g:FG}(h:EvV e δ d)(hg:g d δ=some δ'):wE e (Z7k g) δ= .nx δ':=by
 obtain⟨t,e1,e2⟩:=h
 rw[Zez,e1,Wn]
 show(match g t.data δ with|some δ'=>RS.nx δ'|none=>.bad)=_
 rw[e2,hg]
theorem ix3{x y z:Xa}{v:Int}(h0:0≤v)(h1:v<3):∃d,gIx (.list [x,y,z]) (.int v)=some (.fz d)∧(d=x∨d=y∨d=z):=by
 obtain⟨n,rfl⟩:∃n:Nat,v=n:=⟨v.toNat,by omega⟩
 match n with
 | 0=>exact⟨x,rfl,.inl rfl⟩
 | 1=>exact⟨y,rfl,.inr (.inl rfl)⟩
 | 2=>exact⟨z,rfl,.inr (.inr rfl)⟩
 | n+3=>exact absurd h1 (by omega)
theorem ix4{x y z w:Xa}{v:Int}(h0:0≤v)(h1:v<4):∃d,gIx (.list [x,y,z,w]) (.int v)=some (.fz d)∧(d=x∨d=y∨d=z∨d=w):=by
 obtain⟨n,rfl⟩:∃n:Nat,v=n:=⟨v.toNat,by omega⟩
 match n with
 | 0=>exact⟨x,rfl,.inl rfl⟩
 | 1=>exact⟨y,rfl,.inr (.inl rfl)⟩
 | 2=>exact⟨z,rfl,.inr (.inr (.inl rfl))⟩
 | 3=>exact⟨w,rfl,.inr (.inr (.inr rfl))⟩
 | n+4=>exact absurd h1 (by omega)
theorem Zuf(c:Int):∃b,Told W7 [.int c] (.int b)∧0<b∧Bt 300 b:=by
 obtain⟨d,e,h⟩:=ix4 (x:=.int 1) (y:=.int 2) (z:=.int 6) (w:=.int (1000000000000000+37)) (v:=(c.fdiv 3).fmod 4) (Za1 (by decide)) (Za3 (by decide))
 have key:∀b:Int,d= .int b->0<b->Bt 300 b->∃b,Told W7 [.int c] (.int b)∧0<b∧Bt 300 b:=λb hd h1 h2=>⟨b,Z2 rfl (Yi (hd▸Y5 (Zh7 (Zb Zt (Zb Zt (Zb Zt (Zb (Yk (Zo Zt Zt Ye2) Zt) Zi)))) (show 4≤1000 by decide)) (Wj (Zaa Za Zt) Zt (by decide)) e)),h1,h2⟩
 rcases h with h|h|h|h
 ·exact key _ h (by decide) (btc (by decide +kernel) (by decide +kernel))
 ·exact key _ h (by decide) (btc (by decide +kernel) (by decide +kernel))
 ·exact key _ h (by decide) (btc (by decide +kernel) (by decide +kernel))
 ·exact key _ h (by decide) (btc (by decide +kernel) (by decide +kernel))
noncomputable def B20:Int:=100000000000000000000
noncomputable def wtB(cnt:FE):FS:=(Zz (wE (Z6 gIx (Zch (Zc (fC (.int 3)) (Zc (fC (.int 12)) (Zc (Zf Zo7 (fC (.int 10)) (fC (.int 20))) Zm)))) (Zf Zay (Zd 3) (fC (.int 3)))) (Yt 4))
  (Zz (wE (Zch Zm) (Zap 5))
  (Zz (Zb0 (iRa (Zc cnt Zm)) (gNm 6)
  (Zz (wE (Zr Zu (Zc (Zd 3) (Zc (Zf J0 (fC (.int 50)) (Zd 6)) Zm))) (Yt 7))
  (Zz (Wz (tV (Zf gLt (Zf J0 (Zd 1) (Zd 6)) (J2 J6 (Zc (Zd 0) Zm))))
  (wE (Z6 gIx (Zd 0) (Zf J0 (Zd 1) (Zd 6))) (Yt 7))
  fNx)
  (Wq 5 (Zf Zay (Zd 7) (Zd 4))))))
  (Zea 5))))
theorem Z5s(ns:List Int)(st:Nat)(x c:Int){cnt:FE}{m:Nat}(hm:m≤1000)(hc:∀{δ:Zj},δ[2]? =some (some (.fz (.int x)))->EvV cnt δ (.int m)):∃vs:List Int,Told (Zae 4 8 (wtB cnt)) [Zg ns,.int st,.int x,.int c] (Zg vs)∧vs.length=m∧∀v∈vs,0≤v∧v<B20:=by
 obtain⟨d,e,h⟩:=ix3 (x:=.int 3) (y:=.int 12) (z:=.int B20) (v:=c.fmod 3) (Za1 (by decide)) (Za3 (by decide))
 obtain⟨b,rfl,b0,b1⟩:∃b:Int,d= .int b∧0<b∧b≤B20:=by
  unfold B20 at h⊢
  rcases h with h|h|h<;>exact⟨_,h,by decide,by decide⟩
 have key:∃d,Told (Zae 4 8 (wtB cnt)) [Zg ns,.int st,.int x,.int c] d∧∃vs:List Int,d=Zg vs∧vs.length=m∧∀v∈vs,0≤v∧v<B20:=by
  refine Zku rfl<|Jd (Zq (Y5 (Zh7 (Zb Zt (Zb Zt (Zb (Zo Zt Zt Ycz) Zi))) (show 3≤1000 by decide)) (Wj Za Zt (by decide)) e))<|Jd Zjq<|Zin (ds:=Zci 0 m) (λi δ=>∃(vs:List Int) (z6 z7:Option OT),δ=[some (.fz (Zg ns)),some (.fz (.int st)),some (.fz (.int x)),some (.fz (.int c)),some (.fz (.int b)),some (.nd (vs.map λv=>.fz (.int v))),z6,z7]∧vs.length=i∧∀v∈vs,0≤v∧v<B20) (Zee (Zb (hc rfl) Zi) (by omega)) ⟨[],none,none,rfl,rfl,λ_ h=>nomatch h⟩ (λi d δ hd q=>?_) λδ' q=>?_
  ·obtain⟨vs,z6,z7,rfl,hl,hv⟩:=q
   obtain⟨hi,rfl⟩:=Ws hd
   rw[JL]
   obtain⟨v,ev⟩:=Zdb c (50+(i:Int))
   obtain⟨w,e3⟩:∃w,Wz (tV (Zf gLt (Zf J0 (Zd 1) (Zd 6)) (J2 J6 (Zc (Zd 0) Zm)))) (wE (Z6 gIx (Zd 0) (Zf J0 (Zd 1) (Zd 6))) (Yt 7)) fNx [some (.fz (Zg ns)),some (.fz (.int st)),some (.fz (.int x)),some (.fz (.int c)),some (.fz (.int b)),some (.nd (vs.map λv=>.fz (.int v))),some (.fz (.int i)),some (.fz (.int v))]= .nx [some (.fz (Zg ns)),some (.fz (.int st)),some (.fz (.int x)),some (.fz (.int c)),some (.fz (.int b)),some (.nd (vs.map λv=>.fz (.int v))),some (.fz (.int i)),some (.fz (.int w))]:=by
    by_cases q:(st:Int)+(i:Int)<ns.length
    ·exact⟨_,W2 (Wy (Zbk (Yk Za Za) (Yz Za) (decide_eq_true q))) (Zq (Jc Za (Yk Za Za) (by omega) q))⟩
    ·exact⟨v,Zx (Wy (Zbk (Yk Za Za) (Yz Za) (decide_eq_false q))) rfl⟩
   refine⟨_,_,rfl,.inl (Z5 (Zq (Zk (Zb Za (Zb (Yk Zt Za) Zi)) ev))<|Z5 e3 (Zkl (vs:=vs) (Wj Za Za (by omega)) rfl (by omega))),vs ++ [w.fmod b],_,_,rfl,by rw[Xw,hl];rfl,λu hu=>?_⟩
   rcases QJ.mp hu with q|q
   ·exact hv u q
   ·rw[Xu.mp q]
    exact⟨Za1 b0,Int.lt_of_lt_of_le (Za3 b0) b1⟩
  ·obtain⟨vs,z6,z7,rfl,hl,hv⟩:=q
   rw[Wl]at hl
   exact Z5x rfl ⟨vs,Zd1 vs,hl,hv⟩
 obtain⟨d,h,vs,rfl,r⟩:=key
 exact⟨vs,h,r⟩
theorem Zqo(ns:List Int)(st:Nat)(m:Nat)(c:Int)(hm:m≤1000):∃vs:List Int,Told Yq [Zg ns,.int st,.int m,.int c] (Zg vs)∧vs.length=m∧∀v∈vs,0≤v∧v<B20:=Z5s ns st m c (cnt:=Zd 2) hm λh=>Za h
theorem Zh1(ns:List Int)(st n:Nat)(c:Int)(hn:n≤10):∃vs:List Int,Told Yx [Zg ns,.int st,.int n,.int c] (Zg vs)∧vs.length=n*(n-1)/2∧∀v∈vs,0≤v∧v<B20:=by
 refine Z5s ns st n c (m:=n*(n-1)/2) ?_ λh=>(Zaa (Zan (Za h) (Zb8 (Za h) Zt) (by omega)) Zt).cast (congrArg Xk ?_)
 ·have:n*(n-1)≤10*10:=Nat.mul_le_mul hn (by omega)
  omega
 ·cases n with
  | zero=>rfl
  | succ k=>
   rw[Y9 (by decide),show((k+1:Nat):Int)-1=(k:Int) by omega,←Int.natCast_mul]
   rfl
noncomputable def lO(L:List (List Int)):OT:=.nd ((L.map Zg).map OT.fz)
theorem Zj7(L:List (List Int)):(lO L).data= .list (L.map Zg):=by unfold lO;rw[OT.data_nd,OT.map_fz]
theorem Zuj(L:List (List Int))(x:List Int):lO (L ++ [x])= .nd ((L.map Zg).map OT.fz ++ [OT.fz (Zg x)]):=by
 unfold lO
 rw[Qu,Qu];rfl
theorem Zpp(L:List (List Int)):OT.datas ((L.map Zg).map OT.fz)=L.map Zg:=by
 have:=Zj7 L
 unfold lO at this
 rw[OT.data_nd]at this
 rw[OT.datas_map]
 exact PyData.list.inj this
theorem Z9s(L:List (List Int)):Zl0 ((L.map Zg).map OT.fz)=true:=by
 induction L with
 | nil=>rfl
 | cons x L ih=>exact ih
theorem Zso{δ:Zj}{i:Nat}{L:List (List Int)}(h:δ[i]? =some (some (lO L))):Z4b δ[i]? =some ((L.map Zg).map OT.fz):=by
 rw[h]
 show(if Zl0 ((L.map Zg).map OT.fz)=true then some ((L.map Zg).map OT.fz)else none)=_
 rw[if_pos (Z9s L)]
theorem Zxp{δ:Zj}{i:Nat}{L:List (List Int)}(h:δ[i]? =some (some (lO L))):Zot i δ=some (lO L,δ):=by
 unfold Zot
 rw[Zso h,Xd,Zpp];rfl
theorem Yd8{i:Nat}{a:FE}{δ:Zj}{l:List (List Int)}{j:Nat}(hi:δ[i]? =some (some (lO l)))(ha:EvV a δ (.int j))(hj:j<l.length)(hl:l.length≤1000) :
  Zxs i a δ=some (.fz (Zg (l.getD j [])),δ.set i (some (lO (l.eraseIdx j)))):=by
 obtain⟨t,e0,d0⟩:=ha
 rw[Zg9 d0]at e0
 have e1:((l.map Zg).map OT.fz)[j]? =some (.fz (Zg (l.getD j []))):=by
  rw[Xq,Xq,Xe,Xi hj];rfl
 unfold lO at hi⊢
 unfold Zxs
 rw[hi]
 dsimp only
 rw[e0,Xd]
 dsimp only
 rw[hi]
 dsimp only
 rw[OT.data_fz]
 dsimp only
 rw[Zmf (by rw[Xj,Xj];exact hj)]
 dsimp only
 rw[e1]
 dsimp only
 rw[if_pos (by rw[Xj,Xj,Qa];omega),Zfa,Zfa]
theorem popS{e:FE}{δ δ':Zj}{o:OT}{i:Nat}(h:e δ=some (o,δ')):wE e (Yt i) δ= .nx (δ'.set i (some (.fz o.data))):=by
 rw[Zez,h,Wn,Zrt]
theorem Zwq{δ:Zj}{i:Nat}{L:List (List Int)}{x:List Int}(h:δ[i]? =some (some (lO (L ++ [x])))):EvV (Z9a i (fUn Znj (fC (.int 1)))) δ (Zg x):=by
 obtain⟨t,e,d⟩:=Zhg (Zt (δ:=δ) (d:=.int 1))
 refine⟨.fz (Zg x),?_,OT.data_fz _⟩
 unfold Z9a
 rw[Zso h,Xd,e,Xd]
 dsimp only
 rw[d,Zpp,Qu]
 dsimp only
 rw[show atI (L.map Zg ++ [x].map Zg) (-1)=some (Zg x)from Zpz _ _];rfl
noncomputable def sL(l:List (List Int)):Nat:=(l.map List.length).sum
theorem Zlo:∀(l:List (List Int)) (j:Nat),j<l.length->sL (l.eraseIdx j)+(l.getD j []).length=sL l
 | [],_,h=>by simp at h
 | a :: l,0,_=>by unfold sL;rw[X3,BK];exact Nat.add_comm _ _
 | a :: l,j+1,h=>by
  have:=Zlo l j (by simpa using h)
  unfold sL at this⊢
  rw[X3,BK,←this]
  show(a.length+_)+_=_
  exact Nat.add_assoc _ _ _
theorem Zob(c:Int){n:Nat}(h3:3≤n)(hn:n≤10):∃Ls:List (List Int),Told Z7 [.int c,.int n] (.list (Ls.map Zg))∧Ls.length≤20:=by
 obtain⟨vs,e0,hv⟩:=Zju c (2*n) (by omega)
 have s0:EvV (Zf Zc4 (fC (.int 2)) (Zd 1)) (Zes 8 [.int c,.int n]) (.int (2*n:Nat)):=(Zan Zt Za (by decide)).cast (congrArg Xk (by omega))
 have e1:Zxu (Wt 1 [] (iRb (Zc (fC (.int 1)) (Zc (Zd 1) Zm))) (gNm 0) Zg5 (Zch (Zc (Zd 0) Zm))) [some (.fz (.int c)),some (.fz (.int n)),some (.fz (Zg vs)),none,none,none,none,none]=some (lO ((Xv (n-1)).map λi:Nat=>[1+(i:Int)]),[some (.fz (.int c)),some (.fz (.int n)),some (.fz (Zg vs)),none,none,none,none,none]):=by
  obtain⟨rs,h1,h2⟩:=Zt1 (caps:=[]) (it:=iRb (Zc (fC (.int 1)) (Zc (Zd 1) Zm))) (me:=Zch (Zc (Zd 0) Zm)) (cs:=[]) (δ:=[some (.fz (.int c)),some (.fz (.int n)),some (.fz (Zg vs)),none,none,none,none,none]) (Xv (n-1)) (λi:Nat=>Xk (1+(i:Int))) (λi:Nat=>Zg [1+(i:Int)]) (Zsk (m:=1) (n:=n) (Zb Zt (Zb Za Zi)) (by decide) (by omega)) (by rw[X8];omega) rfl λi _=>Zpr Za
  unfold Zxu
  rw[h1,Xd]
  dsimp only
  rw[h2]
  unfold lO
  rw[X5,X5,X5];rfl
 have key:∃d,Told Z7 [.int c,.int n] d∧∃Ls:List (List Int),d= .list (Ls.map Zg)∧Ls.length≤20:=by
  refine Zku rfl<|Jd (Zq (Zk (Zb Za (Zb s0 Zi)) e0))<|Jd (Zd0 e1)<|Jd (Zd0 (Zxp (i:=3) rfl))<|Zin (ds:=Zci 0 (n-2)) (λi δ=>∃(l f:List (List Int)) (z5 z6 z7:Option OT),δ=[some (.fz (.int c)),some (.fz (.int n)),some (.fz (Zg vs)),some (lO l),some (lO f),z5,z6,z7]∧l.length+i=n-1∧sL l=n-1∧f.length=n-1+i) (Zee (n:=n-2) (Zb ((Zb8 Za Zt).cast (congrArg Xk (by omega))) Zi) (by omega)) ⟨(Xv (n-1)).map λi:Nat=>[1+(i:Int)],(Xv (n-1)).map λi:Nat=>[1+(i:Int)],_,_,_,rfl,by rw[Xj,X8];rfl,?_,by rw[Xj,X8];rfl⟩ (λi d δ hd q=>?_) λδ' q=>?_
  ·unfold sL
   rw[X5]
   generalize n-1=k
   induction k with
   | zero=>rfl
   | succ k ih=>rw[UT,Qu,List.sum_append,ih];rfl
  ·obtain⟨l,f,z5,z6,z7,rfl,ll,sl,lf⟩:=q
   obtain⟨hi,rfl⟩:=Ws hd
   rw[JL]
   obtain⟨j,ej,hj⟩:=Zdm (vs.getD (2*i) 0) (n:=l.length) (by omega)
   have l1:(l.eraseIdx j).length=l.length-1:=VR hj
   obtain⟨j2,ej2,hj2⟩:=Zdm (vs.getD (2*i+1) 0) (n:=(l.eraseIdx j).length) (by omega)
   have l2:((l.eraseIdx j).eraseIdx j2).length=l.length-2:=by rw[VR hj2,l1];omega
   have x1:=Zlo l j hj
   have x2:=Zlo (l.eraseIdx j) j2 hj2
   have p1:EvV (Zf Zay (Z6 gIx (Zd 2) (Zf Zc4 (fC (.int 2)) (Zd 5))) (J2 J6 (Zc (Zj0 3) Zm))) [some (.fz (.int c)),some (.fz (.int n)),some (.fz (Zg vs)),some (lO l),some (lO f),some (.fz (.int i)),z6,z7] (.int j):=(Wj (j:=l.length) ((Jc (p:=vs) (i:=2*(i:Int)) Za (Zan Zt Za (by decide)) (by omega) (by omega)).cast (by rw[show(2*(i:Int)).toNat=2*i by omega])) ((Znf (Zpe rfl (Zj7 l))).cast (by rw[Xj])) (by omega)).cast (congrArg _ ej)
   have p2:EvV (Zf Zay (Z6 gIx (Zd 2) (Zf J0 (Zf Zc4 (fC (.int 2)) (Zd 5)) (fC (.int 1)))) (J2 J6 (Zc (Zj0 3) Zm))) [some (.fz (.int c)),some (.fz (.int n)),some (.fz (Zg vs)),some (lO (l.eraseIdx j)),some (lO f),some (.fz (.int i)),some (.fz (Zg (l.getD j []))),z7] (.int j2):=(Wj (j:=(l.eraseIdx j).length) ((Jc (p:=vs) (i:=2*(i:Int)+1) Za (Yk (Zan Zt Za (by decide)) Zt) (by omega) (by omega)).cast (by rw[show(2*(i:Int)+1).toNat=2*i+1 by omega])) ((Znf (Zpe rfl (Zj7 _))).cast (by rw[Xj])) (by omega)).cast (congrArg _ ej2)
   obtain⟨y,hy⟩:∃y,y=Yv (l.getD j [] ++ (l.eraseIdx j).getD j2 []):=⟨_,rfl⟩
   have ly:y.length=(l.getD j []).length+((l.eraseIdx j).getD j2 []).length:=by rw[hy,(Z8 _).length_eq,Xw]
   refine⟨_,_,rfl,.inl (Z5 (popS (i:=6) (Yd8 (i:=3) rfl p1 hj (by omega)))<|Z5 (popS (i:=7) (Yd8 (i:=3) rfl p2 hj2 (by omega)))<|Z5 (δ':=[some (.fz (.int c)),some (.fz (.int n)),some (.fz (Zg vs)),some (lO ((l.eraseIdx j).eraseIdx j2 ++ [y])),some (lO f),some (.fz (.int i)),some (.fz (Zg (l.getD j []))),some (.fz (Zg ((l.eraseIdx j).getD j2 [])))]) ?_ ?_),(l.eraseIdx j).eraseIdx j2 ++ [y],f ++ [y],some (.fz (.int i)),some (.fz (Zg (l.getD j []))),some (.fz (Zg ((l.eraseIdx j).getD j2 []))),rfl,by rw[Xw];show _+1+_=_;omega,?_,by rw[Xw];show _+1=_;omega⟩
   ·refine(Zlx (ts:=(((l.eraseIdx j).eraseIdx j2).map Zg).map OT.fz) (d:=Zg y) ?_ rfl (by rw[Xj,Xj];omega)).trans (by rw[Zuj];rfl)
    rw[hy]
    exact Zvm (Zb (Zna Za Za (by omega) (by omega)) Zi) (Zcb (by rw[Xw];omega)) (Zev _)
   ·refine(Zlx (ts:=(f.map Zg).map OT.fz) (d:=Zg y) ?_ rfl (by rw[Xj,Xj];omega)).trans (by rw[Zuj f y];rfl)
    exact Zwq rfl
   ·unfold sL
    rw[Qu,List.sum_append]
    show sL _+(y.length+0)=_
    omega
  ·obtain⟨l,f,z5,z6,z7,rfl,ll,sl,lf⟩:=q
   rw[Wl]at lf
   exact Z5x (o:=lO f) rfl ⟨f,Zj7 f,by omega⟩
 obtain⟨d,h,Ls,rfl,r⟩:=key
 exact⟨Ls,h,r⟩
theorem Z3t{np n:Nat}{S:FS}{xs:List Xa}{o:OT}{δ':Zj}(hl:xs.length=np)(k:S (Zes n xs)= .rt o δ'):Zae np n S xs= .ok o:=by rw[Zn1 hl,k,Zsn]
theorem Z12{δ:Zj}{i:Nat}{o:OT}(h:δ[i]? =some (some o)):Zea i δ= .rt o (δ.set i none):=by rw[Zp0,h,Z2y]
noncomputable def B25:Int:=10000000000000000000000000
noncomputable def sep(s:List Int)(x y:Nat):Bool:=decide ((x:Int)∈s) !=decide ((y:Int)∈s)
theorem Dr.len{n:Nat}{base:Int}{L:List (List Int)}(h:Dr n base L){k:Nat}(hk:k<n):(L.getD k []).length=n:=by
 refine(h.2 _ ?_).1
 rw[Xe,Xi (by rw[h.1];exact hk)]
 exact JH _
theorem Zvo{δ:Zj}{a b:FE}{i x y:Nat}{n:Nat}{base:Int}{L:List (List Int)}(h:Dr n base L)(hi:δ[i]? =some (some (.nd (L.map Zb5))))(ha:EvV a δ (.int x))(hx:x<n)(hb:EvV b δ (.int y))(hy:y<n):EvV (Z6 gIx (Z6 gIx (Zj0 i) a) b) δ (.int (fnL L x y)):=by
 have e1:EvV (Zj0 i) δ (.list (L.map Zg)):=Zpe hi (by
  rw[OT.data_nd,X5]
  exact congrArg Qy (Qg λr _=>Zd1 r))
 have e2:EvV (Z6 gIx (Zj0 i) a) δ (Zg (L.getD x [])):=Zsl e1 ha (Zua (by rw[Xq,Xe,Xi (by rw[h.1];exact hx)];rfl))
 exact(Jc e2 hb (by omega) (by rw[h.len hx];omega)).cast (by rw[show(y:Int).toNat=y by omega];rfl)
noncomputable def rE(n:Nat)(A B:Xa)(L:List (List Int))(s:List Int)(w:Int)(z6 z7:Option OT):Zj:=[some (.fz (.int n)),some (.fz A),some (.fz B),some (.nd (L.map Zb5)),some (.fz (Zg s)),some (.fz (.int w)),z6,z7]
noncomputable def Zrg:FS:=Wz (tV (Zf gNe (Zf (Znk false) (Zd 6) (Zd 4)) (Zf (Znk false) (Zd 7) (Zd 4))))
  (Zia 3 (Zf J0 (Z6 gIx (Z6 gIx (Zj0 3) (Zd 6)) (Zd 7)) (Zd 5)) (Zd 6) (Zd 7))
  fNx
structure Up(n:Nat)(L0:List (List Int))(s:List Int)(w:Int)(P:Nat->Nat->Prop)(L:List (List Int)):Prop where
 dr:Dr n B25 L
 yes:∀x y,x<n->y<n->P x y->fnL L x y=fnL L0 x y+(if sep s x y=true then w else 0)
 no:∀x y,x<n->y<n->¬P x y->fnL L x y=fnL L0 x y
theorem Up.mono{n:Nat}{L0 L:List (List Int)}{s:List Int}{w:Int}{P Q:Nat->Nat->Prop}(h:Up n L0 s w P L)(e:∀x y,x<n->y<n->(P x y↔Q x y)):Up n L0 s w Q L:=⟨h.dr,λx y hx hy q=>h.yes x y hx hy ((e x y hx hy).mpr q),λx y hx hy q=>h.no x y hx hy λz=>q ((e x y hx hy).mp z)⟩
theorem Z2t{n:Nat}{A B:Xa}{L0 L:List (List Int)}{s:List Int}{w:Int}{P:Nat->Nat->Prop}{i j:Nat}(hi:i<n)(hj:j<n)(U:Up n L0 s w P L)(np:¬P i j)(lo:0≤fnL L0 i j)(w0:0≤w)(hb:fnL L0 i j+w<B25) :
  ∃L',Zrg (rE n A B L s w (some (.fz (.int i))) (some (.fz (.int j))))= .nx (rE n A B L' s w (some (.fz (.int i))) (some (.fz (.int j))))∧Up n L0 s w (λx y=>P x y∨(x=i∧y=j)) L':=by
 have t:=Wy (Zo (g:=gNe) (δ:=rE n A B L s w (some (.fz (.int i))) (some (.fz (.int j)))) (Zo (Za (i:=6) rfl) (Za (i:=4) rfl) (Zdp false (i:Int) s)) (Zo (Za (i:=7) rfl) (Za (i:=4) rfl) (Zdp false (j:Int) s)) (Zzm _ _))
 have t:EvT _ _ (sep s i j):=t
 cases c:sep s i j with
 | false=>
  rw[c]at t
  refine⟨L,Zx t rfl,U.dr,λx y hx hy q=>?_,λx y hx hy q=>U.no x y hx hy λz=>q (.inl z)⟩
  rcases q with q|⟨rfl,rfl⟩
  ·exact U.yes x y hx hy q
  ·rw[U.no x y hx hy np,c,if_neg Xp,Int.add_zero]
 | true=>
  rw[c]at t
  have f:=Zhu (L:=L) (a:=i) (b:=j) (v:=fnL L i j+w) (by rw[U.dr.1];exact hi) (by rw[U.dr.len hi];exact hj)
  have e:=U.no i j hi hj np
  refine⟨_,W2 t (Zie (L:=L) (a:=i) (b:=j) (d:=fnL L i j+w) (Yk (Zvo U.dr rfl (Za rfl) hi (Za rfl) hj) (Za rfl)) rfl (Za rfl) (by rw[U.dr.1];exact hi) (Za rfl) (by rw[U.dr.len hi];exact hj)),U.dr.put (by rw[e];omega) (by rw[e];exact hb) i j,λx y hx hy q=>?_,λx y hx hy q=>?_⟩
  ·rw[f]
   by_cases z:x=i∧y=j
   ·obtain⟨rfl,rfl⟩:=z
    rw[if_pos ⟨rfl,rfl⟩,e,c,if_pos rfl]
   ·rw[if_neg z]
    exact U.yes x y hx hy (q.resolve_right z)
  ·rw[f,if_neg λz=>q (.inr z)]
   exact U.no x y hx hy λz=>q (.inl z)
theorem Zwv{n:Nat}{A B:Xa}{L0 L:List (List Int)}{s:List Int}{w:Int}{i:Nat}{z7:Option OT}(n10:n≤10)(hi:i<n)(U:Up n L0 s w (λx _=>x<i) L)(lo:∀x y,x<n->y<n->0≤fnL L0 x y)(w0:0≤w)(hb:∀x y,x<n->y<n->fnL L0 x y+w<B25) :
  ∃L' z7',Zb0 (iRa (Zc (Zd 0) Zm)) (gNm 7) Zrg (rE n A B L s w (some (.fz (.int i))) z7)= .nx (rE n A B L' s w (some (.fz (.int i))) z7')∧Up n L0 s w (λx _=>x<i+1) L':=by
 obtain⟨δ',e,L',z7',rfl,U'⟩:=Zkj (S:=Zrg) (g:=gNm 7) (it:=iRa (Zc (Zd 0) Zm)) (δ:=rE n A B L s w (some (.fz (.int i))) z7) (ds:=Zci 0 n) (λj δ=>∃L' z7',δ=rE n A B L' s w (some (.fz (.int i))) z7'∧Up n L0 s w (λx y=>x<i∨(x=i∧y<j)) L') (Zee (Zb (Za rfl) Zi) (by omega)) ⟨L,z7,rfl,U.mono λx y _ _=>by omega⟩ λj d δ hd q=>by
  obtain⟨L',z7',rfl,U'⟩:=q
  obtain⟨hj,rfl⟩:=Ws hd
  rw[JL]
  obtain⟨L2,e2,U2⟩:=Z2t (A:=A) (B:=B) hi hj U' (by omega) (lo i j hi hj) w0 (hb i j hi hj)
  exact⟨_,_,rfl,.inl e2,L2,_,rfl,U2.mono λx y _ _=>by omega⟩
 rw[Wl]at U'
 exact⟨L',z7',e,U'.mono λx y _ hy=>by omega⟩
theorem Zwo{n:Nat}{A B:Xa}{L0:List (List Int)}{s:List Int}{w:Int}{z6 z7:Option OT}(n10:n≤10)(D:Dr n B25 L0)(lo:∀x y,x<n->y<n->0≤fnL L0 x y)(w0:0≤w)(hb:∀x y,x<n->y<n->fnL L0 x y+w<B25) :
  ∃L' z6' z7',Zb0 (iRa (Zc (Zd 0) Zm)) (gNm 6) (Zb0 (iRa (Zc (Zd 0) Zm)) (gNm 7) Zrg) (rE n A B L0 s w z6 z7)= .nx (rE n A B L' s w z6' z7')∧Dr n B25 L'∧∀x y,x<n->y<n->fnL L' x y=fnL L0 x y+(if sep s x y=true then w else 0):=by
 obtain⟨δ',e,L',z6',z7',rfl,U'⟩:=Zkj (S:=Zb0 (iRa (Zc (Zd 0) Zm)) (gNm 7) Zrg) (g:=gNm 6) (it:=iRa (Zc (Zd 0) Zm)) (δ:=rE n A B L0 s w z6 z7) (ds:=Zci 0 n) (λi δ=>∃L' z6' z7',δ=rE n A B L' s w z6' z7'∧Up n L0 s w (λx _=>x<i) L') (Zee (Zb (Za rfl) Zi) (by omega)) ⟨L0,z6,z7,rfl,D,λ_ _ _ _ z=>absurd z (Vg _),λ_ _ _ _ _=>rfl⟩ λi d δ hd q=>by
  obtain⟨L',z6',z7',rfl,U'⟩:=q
  obtain⟨hi,rfl⟩:=Ws hd
  rw[JL]
  obtain⟨L2,z,e2,U2⟩:=Zwv (A:=A) (B:=B) (z7:=z7') n10 hi U' lo w0 hb
  exact⟨_,_,rfl,.inl e2,L2,_,z,rfl,U2⟩
 rw[Wl]at U'
 exact⟨L',z6',z7',e,U'.dr,λx y hx hy=>U'.yes x y hx hy hx⟩
theorem Zww(s:List Int)(x y:Nat):sep s x y=sep s y x:=by unfold sep;cases decide ((x:Int)∈s)<;>cases decide ((y:Int)∈s)<;>rfl
theorem Zyc(s:List Int)(x:Nat):sep s x x=false:=by unfold sep;cases decide ((x:Int)∈s)<;>rfl
theorem Zxc{n:Nat}:Dr n B25 ((Xv n).map λ_=>XF n 0)∧∀x y,x<n->y<n->fnL ((Xv n).map λ_=>XF n 0) x y=0:=by
 refine⟨⟨by rw[Xj,X8],λr hr=>?_⟩,λi j hi hj=>?_⟩
 ·obtain⟨_,_,rfl⟩:=Qe.mp hr
  exact⟨BW,λx hx=>by rw[List.eq_of_mem_replicate hx];decide⟩
 ·unfold fnL
  rw[Xe (l:=List.map _ _),Xq,Vn hi]
  show(XF n (0:Int)).getD j 0=0
  rw[Xe,Vo,if_pos hj];rfl
theorem Zu6{n:Nat}(n10:n≤10){Ls:List (List Int)}{vs:List Int}(hl:Ls.length≤60)(hv:∀v∈vs,0≤v∧v<B20):∃L,Ym [.int n,.list (Ls.map Zg),Zg vs]= .ok (.nd (L.map Zb5))∧Dr n B25 L∧Sy n L∧∀x y,x<n->y<n->0≤fnL L x y∧fnL L x y≤60*B20:=by
 obtain⟨D0,f0⟩:=Zxc (n:=n)
 have s1:wE (Wt 1 [0] (iRa (Zc (Zd 0) Zm)) (gNm 0) Zg5 (Zzp (fC (.int 0)) (Zd 1))) (Zap 3) (Zes 8 [.int n,.list (Ls.map Zg),Zg vs])= .nx [some (.fz (.int n)),some (.fz (.list (Ls.map Zg))),some (.fz (Zg vs)),some (.nd (((Xv n).map λ_=>XF n 0).map Zb5)),none,none,none,none]:=by
  refine(Zd0 (Zlh (cs:=[some (.fz (.int n))]) (Xv n) (λi:Nat=>Xk (0+(i:Int))) (λ_=>Zb5 (XF n 0)) (Zee (Zb (Za rfl) Zi) (by omega)) (by rw[X8,Qa];omega) rfl λx _=>?_)).trans (by rw[X5];rfl)
  unfold Zb5
  rw[List.map_replicate]
  exact Zyx (by omega)
 obtain⟨δ',e,L,z4,z5,z6,z7,rfl,D,sy,bd⟩:=Zkj (S:=Zb0 (iRa (Zc (Zd 0) Zm)) (gNm 6) (Zb0 (iRa (Zc (Zd 0) Zm)) (gNm 7) Zrg)) (g:=gTp 2 (gCn (gNm 4) (gCn (gNm 5) gNl))) (it:=Zg6 (Zc (Zd 1) (Zc (Zd 2) Zm))) (δ:=[some (.fz (.int n)),some (.fz (.list (Ls.map Zg))),some (.fz (Zg vs)),some (.nd (((Xv n).map λ_=>XF n 0).map Zb5)),none,none,none,none]) (ds:=Znh (Ls.map Zg) (vs.map Xk)) (λk δ=>∃(L:List (List Int)) (z4 z5 z6 z7:Option OT),δ=[some (.fz (.int n)),some (.fz (.list (Ls.map Zg))),some (.fz (Zg vs)),some (.nd (L.map Zb5)),z4,z5,z6,z7]∧Dr n B25 L∧Sy n L∧∀x y,x<n->y<n->0≤fnL L x y∧fnL L x y≤k*B20) (Zn8 (Za rfl) (Za (d:=Zg vs) rfl) rfl) ⟨_,_,_,_,_,rfl,D0,λi j hi hj=>⟨by rw[f0 i j hi hj,f0 j i hj hi],f0 i i hi hi⟩,λx y hx hy=>by rw[f0 x y hx hy];exact⟨Int.le_refl _,Int.le_of_eq (by rw[Int.natCast_zero,Int.zero_mul])⟩⟩ λk d δ hd q=>by
  obtain⟨L,z4,z5,z6,z7,rfl,D,sy,bd⟩:=q
  obtain⟨a,b,ha,hb,rfl⟩:=Zpo hd
  rw[Xq]at ha hb
  obtain⟨s,hs,rfl⟩:=Option.map_eq_some_iff.mp ha
  obtain⟨w,hw,rfl⟩:=Option.map_eq_some_iff.mp hb
  have k60:k<60:=X4 (Xm.mp hs).1 hl
  obtain⟨w0,w1⟩:=hv w (QL hw)
  have kB:(k:Int)*B20≤60*B20:=Uz (by omega) (by decide)
  obtain⟨L',y6,y7,e,D',f⟩:=Zwo (A:=.list (Ls.map Zg)) (B:=Zg vs) (s:=s) (z6:=z6) (z7:=z7) n10 D (λx y hx hy=>(bd x y hx hy).1) w0 λx y hx hy=>by
   have:=(bd x y hx hy).2
   have:B25=100000*B20:=by decide
   omega
  refine⟨_,_,rfl,.inl e,L',_,_,y6,y7,rfl,D',λi j hi hj=>⟨?_,?_⟩,λx y hx hy=>?_⟩
  ·rw[f i j hi hj,f j i hj hi,Zww,(sy i j hi hj).1]
  ·rw[f i i hi hi,Zyc,if_neg Xp,(sy i i hi hi).2];rfl
  ·have:=bd x y hx hy
   rw[f x y hx hy,Int.natCast_succ,Int.add_mul,Int.one_mul]
   split<;>omega
 refine⟨L,?_,D,sy,λx y hx hy=>⟨(bd x y hx hy).1,?_⟩⟩
 ·exact Z3t rfl (Z5 s1 (Z5 e (Z12 (i:=3) rfl)))
 ·have kl:(Znh (Ls.map Zg) (vs.map Xk)).length≤60:=by
   unfold Znh
   rw[Xj,Vu,Xj]
   exact Qv (Nat.min_le_left _ _) hl
  exact U9 (bd x y hx hy).2 (Uz (by omega) (by decide))
theorem Ya0{F:FD}{as:FA}{δ:Zj}{ds:List Xa}{o:OT}(h:EvA as δ ds)(hF:F ds= .ok o):Zr F as δ=some (o,δ):=by
 obtain⟨ts,e1,d1⟩:=h
 rw[Zpn,e1,Xd]
 dsimp only
 rw[d1,hF];rfl
theorem Z2u{e:FE}{δ:Zj}{d:Xa}(h:EvV e δ d)(hf:Zbw d=true):EvV (Zt4 e) δ d:=by
 obtain⟨t,e1,d1⟩:=h
 exact⟨_,by rw[Zym,e1,Xd,d1,if_pos hf],OT.data_fz _⟩
noncomputable def B30:Int:=1000000000000000000000000000000
theorem Dr.wide{n:Nat}{a b:Int}{L:List (List Int)}(h:Dr n a L)(l:a≤b):Dr n b L:=⟨h.1,λr hr=>⟨(h.2 r hr).1,λx hx=>⟨((h.2 r hr).2 x hx).1,Int.lt_of_lt_of_le ((h.2 r hr).2 x hx).2 l⟩⟩⟩
theorem Zow(L:List (List Int)):(OT.nd (L.map Zb5)).data= .list (L.map Zg):=by
 rw[OT.data_nd,X5]
 exact congrArg Qy (Qg λr _=>Zd1 r)
theorem Ybw{α:Type}{g:FG}{t:FT}{me:FE}{cs:Zj}(x1 x2:α->Xa)(p:α->Bool)(f:α->OT):∀(xs:List α) (z0 z1:Option OT),(∀x∈xs,∀z0 z1,g (.tuple [x1 x,x2 x]) (z0 :: z1 :: cs)=some (some (.fz (x1 x)) :: some (.fz (x2 x)) :: cs))->(∀x∈xs,t (some (.fz (x1 x)) :: some (.fz (x2 x)) :: cs)=some (p x,some (.fz (x1 x)) :: some (.fz (x2 x)) :: cs))->(∀x∈xs,p x=true->me (some (.fz (x1 x)) :: some (.fz (x2 x)) :: cs)=some (f x,some (.fz (x1 x)) :: some (.fz (x2 x)) :: cs)) ->
  ∃z0' z1',compLoop g t me (xs.map λx=>.tuple [x1 x,x2 x]) (z0 :: z1 :: cs)=some ((xs.filter p).map f,z0' :: z1' :: cs):=by
 intro xs
 induction xs with
 | nil=>exact λz0 z1 _ _ _=>⟨z0,z1,rfl⟩
 | cons x xs ih=>
  intro z0 z1 hg ht hm
  obtain⟨y0,y1,e⟩:=ih (some (.fz (x1 x))) (some (.fz (x2 x))) (λy hy=>hg y (.tail _ hy)) (λy hy=>ht y (.tail _ hy)) λy hy=>hm y (.tail _ hy)
  refine⟨y0,y1,?_⟩
  rw[X3,compLoop,hg x (.head _),Xd,ht x (.head _),Xd]
  dsimp only
  cases hp:p x with
  | true=>rw[if_pos rfl,hm x (.head _) hp,Xd,Ud hp,X3];dsimp only;rw[e];rfl
  | false=>rw[if_neg Xp,Ue (by rw[hp];exact Xp)];exact e
theorem Zpg{α:Type}{caps:List Nat}{it:FI}{g:FG}{t:FT}{me:FE}{cs δ:Zj}(xs:List α)(x1 x2:α->Xa)(p:α->Bool)(f:α->OT)(hi:EvI it δ (xs.map λx=>.tuple [x1 x,x2 x]))(hz:xs.length≤1000000)(hb:blk 2 caps δ=none :: none :: cs)
  (hg:∀x∈xs,∀z0 z1,g (.tuple [x1 x,x2 x]) (z0 :: z1 :: cs)=some (some (.fz (x1 x)) :: some (.fz (x2 x)) :: cs)) (ht:∀x∈xs,t (some (.fz (x1 x)) :: some (.fz (x2 x)) :: cs)=some (p x,some (.fz (x1 x)) :: some (.fz (x2 x)) :: cs)) (hm:∀x∈xs,p x=true->me (some (.fz (x1 x)) :: some (.fz (x2 x)) :: cs)=some (f x,some (.fz (x1 x)) :: some (.fz (x2 x)) :: cs)) :
  Wt 2 caps it g t me δ=some (.nd ((xs.filter p).map f),δ):=by
 obtain⟨z0,z1,e⟩:=Ybw x1 x2 p f xs none none hg ht hm
 unfold EvI at hi
 unfold Wt
 rw[hi,Xd]
 dsimp only
 rw[if_pos (by rw[Qa,Xj];omega),hb,e];rfl
noncomputable def Ztg(L M:List (List Int)):List (List Int):=(L.zip M).map λx=>(x.1.zip x.2).map λq=>q.1+q.2
theorem Zpx{α β:Type}(f:α->Xa)(g:β->Xa)(r:List α)(s:List β):Znh (r.map f) (s.map g)=(r.zip s).map λq=>.tuple [f q.1,g q.2]:=by
 unfold Znh
 rw[List.zip_map,X5];rfl
theorem Znt{n:Nat}{base:Int}{L:List (List Int)}(h:Dr n base L){i j:Nat}(hi:i<n)(hj:j<n):∃r,L[i]? =some r∧r[j]? =some (fnL L i j)∧r.length=n:=by
 have l1:i<L.length:=by rw[h.1];exact hi
 have l2:=(h.2 _ (JH l1)).1
 refine⟨L[i],Xi l1,?_,l2⟩
 unfold fnL
 rw[Xe (l:=L),Xi l1]
 show L[i][j]? =some (L[i].getD j 0)
 rw[Xe,Xi (by rw[l2];exact hj)];rfl
theorem Zoc{n:Nat}{a b:Int}{L M:List (List Int)}(h:Dr n a L)(k:Dr n b M){i j:Nat}(hi:i<n)(hj:j<n):fnL (Ztg L M) i j=fnL L i j+fnL M i j:=by
 obtain⟨r,r1,r2,_⟩:=Znt h hi hj
 obtain⟨s,s1,s2,_⟩:=Znt k hi hj
 have e:(Ztg L M)[i]? =some ((r.zip s).map λq=>q.1+q.2):=by
  unfold Ztg
  rw[Xq,(V3 (z:=(r,s))).mpr ⟨r1,s1⟩];rfl
 have e2:((r.zip s).map λq=>q.1+q.2)[j]? =some (fnL L i j+fnL M i j):=by
  rw[Xq,(V3 (z:=(fnL L i j,fnL M i j))).mpr ⟨r2,s2⟩];rfl
 show((Ztg L M).getD i []).getD j 0=_
 rw[Xe (l:=Ztg L M),e]
 show(List.map _ _).getD j 0=_
 rw[Xe,e2];rfl
theorem Dr.sum{n:Nat}{a b:Int}{L M:List (List Int)}(h:Dr n a L)(k:Dr n b M):Dr n (a+b) (Ztg L M):=by
 refine⟨?_,λr hr=>?_⟩
 ·unfold Ztg
  rw[Xj,Vu,h.1,k.1,Nat.min_self]
 ·obtain⟨⟨x,y⟩,hx,rfl⟩:=Qe.mp hr
  obtain⟨h1,h2⟩:=V8 hx
  refine⟨by rw[Xj,Vu,(h.2 x h1).1,(k.2 y h2).1,Nat.min_self],λv hv=>?_⟩
  obtain⟨⟨p,q⟩,hp,rfl⟩:=Qe.mp hv
  obtain⟨g1,g2⟩:=V8 hp
  have:=(h.2 x h1).2 p g1
  have:=(k.2 y h2).2 q g2
  show 0≤p+q∧p+q<a+b
  omega
theorem Z8s{n:Nat}{a b:Int}{L M:List (List Int)}(hn:n≤10)(h:Dr n a L)(k:Dr n b M){δ:Zj}{i j:Nat}(hi:δ[i]? =some (some (.fz (.list (L.map Zg)))))(hj:δ[j]? =some (some (.fz (.list (M.map Zg)))))(hb:blk 2 [] δ=[none,none]) :
  Wt 2 [] (Zg6 (Zc (Zd i) (Zc (Zd j) Zm))) (gTp 2 (gCn (gNm 0) (gCn (gNm 1) gNl))) Zg5 (Wt 2 [] (Zg6 (Zc (Zd 0) (Zc (Zd 1) Zm))) (gTp 2 (gCn (gNm 0) (gCn (gNm 1) gNl))) Zg5 (Zf J0 (Zd 0) (Zd 1))) δ=some (.nd ((Ztg L M).map Zb5),δ):=by
 have g:∀x y:Xa,∀z0 z1:Option OT,gTp 2 (gCn (gNm 0) (gCn (gNm 1) gNl)) (.tuple [x,y]) [z0,z1]=some [some (.fz x),some (.fz y)]:=λ_ _ _ _=>rfl
 have lz:(L.zip M).length≤10:=by rw[Vu,h.1];omega
 refine(Zpg (cs:=[]) (L.zip M) (λx=>Zg x.1) (λx=>Zg x.2) (λ_=>true) (λx=>Zb5 ((x.1.zip x.2).map λq=>q.1+q.2)) ?_ (by omega) hb (λx _ z0 z1=>g _ _ _ _) (λx _=>rfl) λx hx _=>?_).trans ?_
 ·rw[←Zpx]
  exact Zn8 (Za hi) (Za hj) rfl
 ·obtain⟨h1,_⟩:=V8 hx
  have lx:(x.1.zip x.2).length≤10:=by rw[Vu,(h.2 _ h1).1];omega
  refine(Zpg (cs:=[]) (x.1.zip x.2) (λq=>.int q.1) (λq=>.int q.2) (λ_=>true) (λq=>.fz (.int (q.1+q.2))) ?_ (by omega) rfl (λq _ z0 z1=>g _ _ _ _) (λq _=>rfl) λq _ _=>?_).trans ?_
  ·rw[←Zpx]
   exact Zn8 (Za (d:=Zg x.1) rfl) (Za (d:=Zg x.2) rfl) rfl
  ·obtain⟨t,e,d⟩:=Yk (Za (δ:=[some (.fz (.int q.1)),some (.fz (.int q.2))]) (i:=0) (d:=.int q.1) rfl) (Za (i:=1) (d:=.int q.2) rfl)
   rw[e,Zg9 d]
  ·rw[U4.mpr λ_ _=>rfl]
   unfold Zb5
   rw[X5];rfl
 ·rw[U4.mpr λ_ _=>rfl]
  unfold Ztg
  rw[X5];rfl
noncomputable def GoodR(n:Nat)(d:Xa):Prop:=∃L,d=(OT.nd (L.map Zb5)).data∧Dr n B30 L∧Sy n L
noncomputable def bE(ns:List Int)(n:Nat)(c w:Int)(o5 o6 o7 o8 o9 oa:Option OT):Zj:=[some (.fz (Zg ns)),some (.fz (.int 4)),some (.fz (.int n)),some (.fz (.int c)),some (.fz (.int w)),o5,o6,o7,o8,o9,oa]
theorem Zl1(ns:List Int){n:Nat}(h3:3≤n)(hn:n≤10)(c x:Int)(st:Nat):∃(Ls:List (List Int)) (vs:List Int) (L:List (List Int)),Told Z7 [.int x,.int n] (.list (Ls.map Zg))∧Told Yq [Zg ns,.int st,.int Ls.length,.int c] (Zg vs)∧Ym [.int n,.list (Ls.map Zg),Zg vs]= .ok (.nd (L.map Zb5))∧Dr n B25 L∧Sy n L:=by
 obtain⟨Ls,T1,l1⟩:=Zob x h3 hn
 obtain⟨vs,T2,_,hv⟩:=Zqo ns st Ls.length c (by omega)
 obtain⟨L,e,D,sy,_⟩:=Zu6 hn (Ls:=Ls) (by omega) hv
 exact⟨Ls,vs,L,T1,T2,e,D,sy⟩
theorem Sy.sum{n:Nat}{a b:Int}{L M:List (List Int)}(h:Dr n a L)(k:Dr n b M)(s:Sy n L)(t:Sy n M):Sy n (Ztg L M):=λi j hi hj=>by
 rw[Zoc h k hi hj,Zoc h k hj hi,Zoc h k hi hi,(s i j hi hj).1,(t i j hi hj).1,(s i i hi hi).2,(t i i hi hi).2]
 exact⟨rfl,rfl⟩
theorem Sy.two{n:Nat}{base v:Int}{L:List (List Int)}(D:Dr n base L)(s:Sy n L)(h0:0≤v)(h1:v<base){i j:Nat}(hi:i<n)(hj:j<n)(ne:i≠j):Dr n base ((L.set i ((L.getD i []).set j v)).set j (((L.set i ((L.getD i []).set j v)).getD j []).set i v))∧Sy n ((L.set i ((L.getD i []).set j v)).set j (((L.set i ((L.getD i []).set j v)).getD j []).set i v))∧fnL (L.set i ((L.getD i []).set j v)) i j=v:=by
 have D1:=D.put h0 h1 i j
 have f1:=Zhu (L:=L) (a:=i) (b:=j) (v:=v) (by rw[D.1];exact hi) (by rw[D.len hi];exact hj)
 have f2:=Zhu (L:=L.set i ((L.getD i []).set j v)) (a:=j) (b:=i) (v:=v) (by rw[D1.1];exact hj) (by rw[D1.len hj];exact hi)
 refine⟨D1.put h0 h1 j i,λx y hx hy=>?_,by rw[f1,if_pos ⟨rfl,rfl⟩]⟩
 rw[f2,f2,f2,f1,f1,f1]
 obtain⟨s1,s2⟩:=s x y hx hy
 refine⟨?_,by rw[if_neg (by omega),if_neg (by omega)];exact s2⟩
 by_cases c1:x=j∧y=i
 ·rw[if_pos c1,if_neg (by omega),if_pos ⟨c1.2,c1.1⟩]
 ·rw[if_neg c1]
  by_cases c2:x=i∧y=j
  ·rw[if_pos c2,if_pos ⟨c2.2,c2.1⟩]
  ·rw[if_neg c2,if_neg (by omega),if_neg (by omega)];exact s1
noncomputable def Yfo:FS:=Wz (tO (tV (Zf gEq (Zd 4) (fC (.int 1)))) (tV (Zf gEq (Zd 4) (fC (.int 3)))))
  (Zz (wE (Zf Zay (Zr Zu (Zc (Zd 3) (Zc (fC (.int 41)) Zm))) (Zd 2)) (Yt 8))
  (Zz (wE (Zf Zay (Zr Zu (Zc (Zd 3) (Zc (fC (.int 42)) Zm))) (Zd 2)) (Yt 9))
  (Zz (wE (Z6 gIx (Zch (Zc (fC (.int 1)) (Zc (Zf Zc4 (fC (.int 2)) (Zd 4)) (Zc (Zf Zo7 (fC (.int 10)) (fC (.int 21))) Zm)))) (Zf Zay (Zr Zu (Zc (Zd 3) (Zc (fC (.int 43)) Zm))) (fC (.int 3)))) (Yt 10))
  (Wz (tV (Zf gNe (Zd 8) (Zd 9)))
  (Zz (Zia 6 (J2 Z6m (Zc (fC (.int 0)) (Zc (Zf J0 (Z6 gIx (Z6 gIx (Zj0 6) (Zd 8)) (Zd 9)) (Zf Zc4 (Zf gSb (fC (.int 2)) (Zd 4)) (Zd 10))) Zm))) (Zd 8) (Zd 9))
  (Zia 6 (Zt4 (Z6 gIx (Z6 gIx (Zj0 6) (Zd 8)) (Zd 9))) (Zd 9) (Zd 8)))
  fNx))))
  fNx
theorem Yfc:Zo7 (.int 10) (.int 21)=some (.int 1000000000000000000000):=rfl
theorem Z5j{ns:List Int}{n:Nat}(n1:1≤n){c w:Int}(w0:0≤w)(w5:w<5){o5 o7 o8 o9 oa:Option OT}{L:List (List Int)}(D:Dr n (2*B25) L)(sy:Sy n L) :
  ∃L' o8' o9' oa',Yfo (bE ns n c w o5 (some (.nd (L.map Zb5))) o7 o8 o9 oa)= .nx (bE ns n c w o5 (some (.nd (L'.map Zb5))) o7 o8' o9' oa')∧Dr n B30 L'∧Sy n L':=by
 have wide:(2*B25)≤B30:=by decide
 obtain⟨b,T⟩:∃b,EvT (tO (tV (Zf gEq (Zd 4) (fC (.int 1)))) (tV (Zf gEq (Zd 4) (fC (.int 3))))) (bE ns n c w o5 (some (.nd (L.map Zb5))) o7 o8 o9 oa) b:=by
  have t1:=Wy (Zed (δ:=bE ns n c w o5 (some (.nd (L.map Zb5))) o7 o8 o9 oa) (Za (i:=4) (d:=.int w) rfl) (Zt (d:=.int 1)) rfl)
  have t2:=Wy (Zed (δ:=bE ns n c w o5 (some (.nd (L.map Zb5))) o7 o8 o9 oa) (Za (i:=4) (d:=.int w) rfl) (Zt (d:=.int 3)) rfl)
  cases e:decide (w=1)with
  | true=>rw[e]at t1;exact⟨_,Zvr t1⟩
  | false=>rw[e]at t1;exact⟨_,Zht t1 t2⟩
 cases b with
 | false=>exact⟨L,_,_,_,Zx T rfl,D.wide wide,sy⟩
 | true=>
  obtain⟨v1,T1⟩:=Zdb c 41
  obtain⟨v2,T2⟩:=Zdb c 42
  obtain⟨v3,T3⟩:=Zdb c 43
  obtain⟨i,ei,li⟩:=Zdm v1 (n:=n) n1
  obtain⟨j,ej,lj⟩:=Zdm v2 (n:=n) n1
  obtain⟨d,eb,hd⟩:=ix3 (x:=.int 1) (y:=.int (2*w)) (z:=.int 1000000000000000000000) (v:=v3.fmod 3) (Za1 (by decide)) (Za3 (by decide))
  obtain⟨b,rfl,b0,b1⟩:∃b:Int,d= .int b∧0≤b∧b≤1000000000000000000000:=by
   rcases hd with h|h|h<;>exact⟨_,h,by omega,by omega⟩
  have n0:(n:Int)≠0:=by omega
  have s1:∀{S:FS} {R:RS},S (bE ns n c w o5 (some (.nd (L.map Zb5))) o7 (some (.fz (.int i))) (some (.fz (.int j))) (some (.fz (.int b))))=R->Zz _ (Zz _ (Zz _ S)) (bE ns n c w o5 (some (.nd (L.map Zb5))) o7 o8 o9 oa)=R:=λh=>
   Z5 (δ':=bE ns n c w o5 (some (.nd (L.map Zb5))) o7 (some (.fz (.int i))) o9 oa) ((Zq (d:=.int i) ((Wj (Zk (Zb (Za (i:=3) rfl) (Zb (Zt (d:=.int 41)) Zi)) T1) (Za (i:=2) rfl) n0).cast (congrArg Xk ei)) (i:=8)).trans rfl)<|
   Z5 (δ':=bE ns n c w o5 (some (.nd (L.map Zb5))) o7 (some (.fz (.int i))) (some (.fz (.int j))) oa) ((Zq (d:=.int j) ((Wj (Zk (Zb (Za (i:=3) rfl) (Zb (Zt (d:=.int 42)) Zi)) T2) (Za (i:=2) rfl) n0).cast (congrArg Xk ej)) (i:=9)).trans rfl)<|
   Z5 (δ':=bE ns n c w o5 (some (.nd (L.map Zb5))) o7 (some (.fz (.int i))) (some (.fz (.int j))) (some (.fz (.int b)))) ((Zq (d:=.int b) (Y5 (Zh7 (Zb (Zt (d:=.int 1)) (Zb (Zan (Zt (d:=.int 2)) (Za (i:=4) rfl) (by decide)) (Zb (Zo (Zt (d:=.int 10)) (Zt (d:=.int 21)) Yfc) Zi))) (show 3≤1000 by decide)) (Wj (Zk (Zb (Za (i:=3) rfl) (Zb (Zt (d:=.int 43)) Zi)) T3) (Zt (d:=.int 3)) (by decide)) eb) (i:=10)).trans rfl) h
  by_cases ne:i=j
  ·exact⟨L,_,_,_,W2 T (s1 (Zx (Wy (Zmb (Za (i:=8) (d:=.int i) rfl) (Za (i:=9) (d:=.int j) rfl) (by rw[decide_eq_true (congrArg Nat.cast ne)];rfl))) rfl)),D.wide wide,sy⟩
  ·obtain⟨v,hv⟩:∃v:Int,v=if fnL L i j+(2-w)*b>0 then fnL L i j+(2-w)*b else 0:=⟨_,rfl⟩
   have D':=D.wide wide
   obtain⟨r,r1,r2,_⟩:=Znt D li lj
   have fb:=(D.2 r (QL r1)).2 _ (QL r2)
   have mb:(2-w)*b≤2*1000000000000000000000:=U9 (Uz (show 2-w≤2 by omega) b0) (Int.mul_le_mul_of_nonneg_left b1 (by decide))
   have v0:0≤v:=by rw[hv];split<;>omega
   have v1':v<B30:=by
    have:(2*B25)+2*1000000000000000000000<B30:=by decide
    have:0<B30:=by decide
    rw[hv];split<;>omega
   obtain⟨D2,sy2,fv⟩:=Sy.two D' sy v0 v1' li lj ne
   have D1:=D'.put v0 v1' i j
   refine⟨_,_,_,_,W2 T (s1 (W2 (Wy (Zmb (Za (i:=8) (d:=.int i) rfl) (Za (i:=9) (d:=.int j) rfl) (by rw[decide_eq_false (show¬(i:Int)=j from λz=>ne (Int.ofNat.inj z))];rfl))) (Z5 (δ':=bE ns n c w o5 (some (.nd ((L.set i ((L.getD i []).set j v)).map Zb5))) o7 (some (.fz (.int i))) (some (.fz (.int j))) (some (.fz (.int b)))) ((Zie (L:=L) (a:=i) (b:=j) (d:=v) ?_ rfl (Za rfl) (by rw[D.1];exact li) (Za rfl) (by rw[D.len li];exact lj)).trans rfl) ((Zie (L:=L.set i ((L.getD i []).set j v)) (a:=j) (b:=i) (d:=v) (Z2u ((Zvo D1 rfl (Za rfl) li (Za rfl) lj).cast (by rw[fv])) (by rw[Zbw])) rfl (Za rfl) (by rw[D1.1];exact lj) (Za rfl) (by rw[D1.len lj];exact li)).trans rfl)))),D2,sy2⟩
   rw[hv]
   exact Jm (Zb Zt (Zb (Yk (Zvo D rfl (Za rfl) li (Za rfl) lj) (Zo (Zb8 Zt (Za rfl)) (Za rfl) (Zgv (Zox (by omega))))) Zi)) (Z4m _ _)
theorem Zv8(ns:List Int){n:Nat}(h3:3≤n)(hn:n≤10)(c:Int):∃d,Told Zal [Zg ns,.int 4,.int n,.int c] d∧GoodR n d:=by
 obtain⟨w,hw⟩:∃w,w=(c.fdiv 12).fmod 5:=⟨_,rfl⟩
 have w0:0≤w:=hw▸Za1 (by decide)
 have w5:w<5:=hw▸Za3 (by decide)
 have s1:wE (Zf Zay (Zf Je (Zd 3) (fC (.int 12))) (fC (.int 5))) (Yt 4) (Zes 11 [Zg ns,.int 4,.int n,.int c])= .nx (bE ns n c w none none none none none none):=(Zq (d:=.int w) (hw▸Wj (Zaa Za Zt) Zt (by decide))).trans rfl
 by_cases w4:w=4
 ·obtain⟨d,e,hd⟩:=ix4 (x:=.int 2) (y:=.int 3) (z:=.int 5) (w:=.int B20) (v:=(c.fdiv 60).fmod 4) (Za1 (by decide)) (Za3 (by decide))
  obtain⟨b,rfl,b0,b1⟩:∃b:Int,d= .int b∧0<b∧b≤B20:=by
   unfold B20 at hd⊢
   rcases hd with h|h|h|h<;>exact⟨_,h,by decide,by decide⟩
  obtain⟨L,T,D,sy⟩:=Zxq ns n hn b0 c
  exact Zku rfl<|Jd s1<|Zw6 (Z04 (Wy (Zed (Za rfl) Zt (decide_eq_true w4))) (Zo2 (Zk (Zb (Za rfl) (Zb (Za rfl) (Zb (Za rfl) (Zb (Y5 (Zh7 (Zb Zt (Zb Zt (Zb Zt (Zb (Zo Zt Zt Ycz) Zi)))) (show 4≤1000 by decide)) (Wj (Zaa (Za rfl) Zt) Zt (by decide)) e) (Zb (Za rfl) Zi))))) T) ⟨L,rfl,D.wide (U9 b1 (by decide)),sy⟩))
 obtain⟨Ls,vs,L,T1,T2,e1,D1,sy1⟩:=Zl1 ns h3 hn c (c.fdiv 60) 4
 have len:∀{δ:Zj} {Ls:List (List Int)},δ[5]? =some (some (.fz (.list (Ls.map Zg))))->EvV (J2 J6 (Zc (Zd 5) Zm)) δ (.int Ls.length):=λh=>(Znf (Za h)).cast (by rw[Xj])
 refine Zku rfl<|Jd s1<|Jd (Zx (Wy (Zed (Za rfl) Zt (decide_eq_false w4))) rfl)<|Jd (Zq (Zk (Zb (Zaa (Za rfl) Zt) (Zb (Za rfl) Zi)) T1))<|
  Jd (δ':=bE ns n c w (some (.fz (.list (Ls.map Zg)))) (some (.nd (L.map Zb5))) none none none none) ((Zd0 (Ya0 (Zb (Za rfl) (Zb (Za rfl) (Zb (Zk (Zb (Za rfl) (Zb (Za rfl) (Zb (len rfl) (Zb (Za rfl) Zi)))) T2) Zi))) e1)).trans rfl) ?_
 obtain⟨L2,o5,o7,D2,sy2,s2⟩:∃L2 o5 o7,Dr n (2*B25) L2∧Sy n L2∧(Wz (tV (Zf gEq (Zd 4) (fC (.int 2))))
  (Zz (wE (Zr Z7 (Zc (Zr Zu (Zc (Zd 3) (Zc (fC (.int 40)) Zm))) (Zc (Zd 2) Zm))) (Yt 5))
  (Zz (wE (Zr Ym (Zc (Zd 2) (Zc (Zd 5) (Zc (Zr Yq (Zc (Zd 0) (Zc (Zf J0 (Zd 1) (fC (.int 9))) (Zc (J2 J6 (Zc (Zd 5) Zm)) (Zc (Zd 3) Zm))))) Zm)))) (Yt 7))
  (Zcp 6 (wE (Wt 2 [] (Zg6 (Zc (Zd 6) (Zc (Zd 7) Zm))) (gTp 2 (gCn (gNm 0) (gCn (gNm 1) gNl))) Zg5 (Wt 2 [] (Zg6 (Zc (Zd 0) (Zc (Zd 1) Zm))) (gTp 2 (gCn (gNm 0) (gCn (gNm 1) gNl))) Zg5 (Zf J0 (Zd 0) (Zd 1)))) (Zap 6)))))
  fNx) (bE ns n c w (some (.fz (.list (Ls.map Zg)))) (some (.nd (L.map Zb5))) none none none none)= .nx (bE ns n c w o5 (some (.nd (L2.map Zb5))) o7 none none none):=by
  by_cases w2:w=2
  ·obtain⟨x,Tx⟩:=Zdb c 40
   obtain⟨Ms,us,M,U1,U2,e2,E1,ty⟩:=Zl1 ns h3 hn c x 13
   refine⟨Ztg L M,some (.fz (.list (Ms.map Zg))),some (.fz (.list (M.map Zg))),(D1.sum E1).wide (Int.le_of_eq (by omega)),sy1.sum D1 E1 ty,W2 (Wy (Zed (Za rfl) Zt (decide_eq_true w2)))<|Z5 (Zq (Zk (Zb (Zk (Zb (Za rfl) (Zb Zt Zi)) Tx) (Zb (Za rfl) Zi)) U1))<|Z5 (Zq (d:=.list (M.map Zg)) (Zk (Zb (Za rfl) (Zb (Za rfl) (Zb (Zk (Zb (Za rfl) (Zb ((Yk (Za rfl) Zt).cast (show Xk (4+9)=_ from rfl)) (Zb (len rfl) (Zb (Za rfl) Zi)))) U2) Zi))) ⟨_,e2,Zow M⟩))<|Zig (o:=.nd (L.map Zb5)) rfl ?_⟩
   rw[Zow]
   exact(Zd0 (Z8s hn D1 E1 (i:=6) (j:=7) rfl rfl rfl)).trans rfl
  ·exact⟨L,_,_,D1.wide (by decide),sy1,Zx (Wy (Zed (Za rfl) Zt (decide_eq_false w2))) rfl⟩
 obtain⟨L3,o8,o9,oa,s3,D3,sy3⟩:=Z5j (ns:=ns) (c:=c) (o5:=o5) (o7:=o7) (o8:=none) (o9:=none) (oa:=none) (by omega:1≤n) w0 w5 D2 sy2
 exact Jd s2<|Jd s3<|Z5x rfl ⟨L3,rfl,D3,sy3⟩
theorem Ze4:∀m≤10,(Yc m).length≤60:=by decide
theorem Zwr{n:Nat}{r:List Int}(hr:r.length=n)(hn:n≤10):∃Ls:List (List Int),Told Jj [Zg r] (.list (Ls.map Zg))∧Ls.length≤60:=by
 refine⟨(Yc n).map λq=>Yv (sd r q),Z2 rfl (Yi ⟨_,Zpg (cs:=[some (.fz (Zg r))]) (Yc n) (λq=>.int (q.1:Int)) (λq=>.int (q.2:Int)) (λ_=>true) (λq=>.nd (((Yv (sd r q)).map Xk).map OT.fz)) (Zcg (Zk (Zb ((Yz Za).cast (by rw[hr])) Zi) (Zva n (by omega)))) (Qv (Ze4 n hn) (by decide)) rfl (λq _ z0 z1=>rfl) (λq _=>rfl) λq hq _=>?_,?_⟩),by rw[Xj];exact Ze4 n hn⟩
 ·obtain⟨l1,l2⟩:=Wg hq
  have ls:(sd r q).length<64:=by
   unfold sd
   rw[BP,QK];omega
  obtain⟨ts,e1,d1⟩:=Zb (Zvt (e:=Zd 2) (δ:=[some (.fz (.int (q.1:Int))),some (.fz (.int (q.2:Int))),some (.fz (Zg r))]) (r:=r) Za (Zyq (Yk (Za (i:=0) (d:=.int (q.1:Int)) rfl) (Zt (d:=.int 1)))) (Zyq (Yk (Za (i:=1) (d:=.int (q.2:Int)) rfl) (Zt (d:=.int 1)))) (Zyy l1 (by omega))) Zi
  rw[Zzg,e1,Xd]
  dsimp only
  rw[d1,Zcb ls];rfl
 ·rw[U4.mpr λ_ _=>rfl,OT.data_nd,X5,X5]
  exact congrArg Qy (Qg λq _=>Zev _)
theorem Zl7{n:Nat}(hn:n≤10)(R:Nat->Nat->Int){b:Int}(hb:0<b)(bb:Bt 300 b):Told Zak [Yw n R,.int b] (tbD (Zck n R b)):=by
 have e:tbD (Zck n R b)= .list ((Xv n).map λi=>.list ((Xv n).map λj=>frD (XM (R i j) b))):=by
  unfold tbD Zck
  rw[X5]
  refine congrArg Qy (Qg λi _=>?_)
  show Zro _=_
  unfold Zro
  rw[X5];rfl
 rw[e]
 exact Z2 rfl<|Yi<|Zil (cs:=[some (.fz (.int b))]) (Xv n) (λi=>Zzk n (R i)) (λi=>.list ((Xv n).map λj=>frD (XM (R i j) b))) (Zcg Za) (by rw[X8];omega) rfl λi _=>
  Zil (cs:=[some (.fz (.int b))]) (Xv n) (λj=>.int (R i j)) (λj=>frD (XM (R i j) b)) (Zcg Za) (by rw[X8];omega) rfl λj _=>Zk (Zb Za (Zb Za Zi)) (Zjz hb bb)
structure Rw(n:Nat)(R:Nat->Nat->Int):Prop where
 sy:∀i j,i<n->j<n->R i j=R j i∧R i i=0
 bt:∀i j,i<n->j<n->Bt 300 (R i j)
theorem GoodR.rows{n:Nat}{d:Xa}(h:GoodR n d):∃R,d=Yw n R∧Rw n R:=by
 obtain⟨L,rfl,D,sy⟩:=h
 obtain⟨e,f⟩:=Z3q D
 refine⟨fnL L,by rw[OT.data_nd,e],sy,λi j hi hj=>?_⟩
 have:=f i j hi hj
 refine Bt.of_lt ?_ ?_
 ·have:(0:Int)<2^300:=by decide +kernel
  omega
 ·have:B30<2^300:=by decide +kernel
  omega
noncomputable def ctD(p:List Int×Rat):Xa:=.tuple [Zg p.1,frD p.2]
noncomputable def Zni(L:List (List Int×Rat)):Xa:=.list (L.map ctD)
theorem Zz0(p:List Int×Rat):kdT (ctD p)=some (p.1,[p.2.num,(p.2.den:Int)]):=by
 show((Zbj (p.1.map Xk)).bind λns=>(Zbj [.int p.2.num,.int (p.2.den:Int)]).bind λms=>some (ns,ms))=_
 rw[Jf];rfl
theorem Zud:∀{a b c:List Int},ltI a b=true->ltI b c=true->ltI a c=true:=by
 intro a
 induction a with
 | nil=>
  intro b c h1 h2
  cases b with
  | nil=>cases h1
  | cons y b=>cases c with
   | nil=>cases h2
   | cons z c=>rfl
 | cons x a ih=>
  intro b c h1 h2
  cases b with
  | nil=>cases h1
  | cons y b=>cases c with
   | nil=>cases h2
   | cons z c=>
    unfold ltI at h1 h2⊢
    by_cases e1:x=y
    ·subst e1
     rw[if_pos rfl]at h1
     by_cases e2:x=z
     ·rw[if_pos e2]at h2⊢;exact ih h1 h2
     ·rw[if_neg e2]at h2⊢;exact h2
    ·rw[if_neg e1]at h1
     have l1:=of_decide_eq_true h1
     by_cases e2:y=z
     ·subst e2
      rw[if_neg e1];exact h1
     ·rw[if_neg e2]at h2
      have l2:=of_decide_eq_true h2
      rw[if_neg (by omega)]
      exact decide_eq_true (by omega)
theorem Zol:∀a:List Int,ltI a a=false:=by
 intro a
 induction a with
 | nil=>rfl
 | cons x a ih=>unfold ltI;rw[if_pos rfl];exact ih
theorem Z3d:∀{a b:List Int},a≠b->ltI a b=false->ltI b a=true:=by
 intro a
 induction a with
 | nil=>
  intro b ne h
  cases b with
  | nil=>exact absurd rfl ne
  | cons y b=>cases h
 | cons x a ih=>
  intro b ne h
  cases b with
  | nil=>rfl
  | cons y b=>
   unfold ltI at h⊢
   by_cases e:x=y
   ·subst e
    rw[if_pos rfl]at h⊢
    exact ih (λz=>ne (z▸rfl)) h
   ·rw[if_neg e]at h
    rw[if_neg (Vt e)]
    have:=of_decide_eq_false h
    exact decide_eq_true (by omega)
noncomputable def sCt(L:List (List Int×Rat)):List (List Int×Rat):=sLay ([],0) (lk kdT ltT (L.map ctD)) L
noncomputable def Dst(L:List (List Int×Rat)):Prop:=∀k l,k<l->l<L.length->(L.getD k ([],0)).1≠(L.getD l ([],0)).1
theorem Zzb{L:List (List Int×Rat)}(h:Dst L){i j:Nat}(hi:i<L.length)(hj:j<L.length):lk kdT ltT (L.map ctD) i j=ltI (L.getD i ([],0)).1 (L.getD j ([],0)).1:=by
 have e:∀k,k<L.length->kdT ((L.map ctD).getD k .none)=some ((L.getD k ([],0)).1,[(L.getD k ([],0)).2.num,((L.getD k ([],0)).2.den:Int)]):=λk hk=>by
  rw[Xe,Xq,Xi hk,Xe,Xi hk]
  exact Zz0 _
 unfold lk
 rw[e i hi,e j hj]
 show ltT _ _=_
 unfold ltT
 by_cases c:i=j
 ·subst c
  rw[if_pos rfl,if_pos rfl,Zol]
 ·rw[if_neg]
  rcases Nat.lt_or_gt_of_ne c with z|z
  ·exact h i j z hj
  ·exact λq=>h j i z hi q.symm
theorem Z7u{L:List (List Int×Rat)}(h:Dst L):(sCt L).Pairwise λa b=>ltI a.1 b.1=true:=by
 refine Z17 (β:=Nat) (d:=([],0)) (vs:=L) ⟨λi j k hi hj hk h1 h2=>?_,λi j hi hj c q=>?_,λi j hi hj q=>?_⟩ λi j hi hj q=>?_
 ·rw[Zzb h hi hj]at h1
  rw[Zzb h hj hk]at h2
  rw[Zzb h hi hk]
  exact Zud h1 h2
 ·rw[Zzb h hi hj]at q
  rw[Zzb h hj hi]
  refine Z3d ?_ q
  rcases Nat.lt_or_gt_of_ne c with z|z
  ·exact h i j z hj
  ·exact λq=>h j i z hi q.symm
 ·rw[Zzb h hi hj]at q
  rw[Zzb h hj hi]
  refine Bu.mpr λz=>?_
  have:=Zud q z
  rw[Zol]at this
  cases this
 ·rw[Zzb h hi hj]at q
  exact q
theorem Z1c{α:Type}(d d':α)(lt:Nat->Nat->Bool)(vs:List α):sLay d lt vs=sLay d' lt vs:=by
 unfold sLay
 split
 ·rfl
 ·refine Qg λi hi=>?_
  have:=Ql.mp ((Zfg (by omega)).mem_iff.mp hi)
  rw[Xe,Xe,Xi this];rfl
theorem Zk0{α:Type}{g:FG}{u:FS}(mk:α->Xa)(P:α->Bool)(I:List α->Zj->Prop)(V:α->Xa)(all:List α)(t:∀x done rest,done ++ x :: rest=all->∀δ,I done δ->∃δ1,g (mk x) δ=some δ1∧(P x=false->∃δ2,u δ1= .nx δ2∧I (done ++ [x]) δ2)∧(P x=true->Zkc u δ1 (V x))):∀(xs done:List α),done ++ xs=all->∀(δ:Zj),I done δ ->
  (xs.find? P=none->∃δ2,forLoop g u (xs.map mk) δ= .nx δ2∧I all δ2)∧∀x,xs.find? P=some x->Zkc (forLoop g u (xs.map mk)) δ (V x):=by
 intro xs
 induction xs with
 | nil=>exact λdone e δ h=>⟨λ_=>⟨δ,rfl,by rw[Q4]at e;exact e▸h⟩,λx z=>nomatch z⟩
 | cons x xs ih=>
  intro done ea δ h
  obtain⟨δ1,e1,a,b⟩:=t x done xs ea δ h
  cases c:P x with
  | true=>
   rw[List.find?_cons_of_pos c]
   refine⟨λz=>(nomatch z),λy hy=>?_⟩
   cases hy
   obtain⟨o,δ2,e2,d⟩:=b c
   refine⟨o,δ2,?_,d⟩
   rw[X3,forLoop,e1]
   dsimp only
   rw[e2]
  | false=>
   rw[List.find?_cons_of_neg (by rw[c];exact Xp)]
   obtain⟨δ2,e2,h2⟩:=a c
   have e:forLoop g u ((x :: xs).map mk) δ=forLoop g u (xs.map mk) δ2:=by
    rw[X3,forLoop,e1]
    dsimp only
    rw[e2]
   have:=ih (done ++ [x]) (by rw[Q7];exact ea) δ2 h2
   unfold Zkc at this⊢
   rw[e]
   exact this
theorem Z0b{e:FE}{δ:Zj}{L:List (List Int×Rat)}(he:EvV e δ (Zni L))(h:L.length<64):EvV (fBl (Zqd kdT ltT) (Zc e Zm)) δ (Zni (sCt L)):=by
 refine Zvm (Zb he Zi) (o:=.nd (((sCt L).map ctD).map OT.fz)) ?_ (by rw[OT.data_nd,OT.map_fz];rfl)
 unfold sCt
 rw[←Zyk,Z1c (ctD ([],0)) Xa.none]
 refine if_pos ?_
 rw[XD,decide_eq_true_eq,Xj,Uv]
 refine⟨h,λd m=>?_⟩
 obtain⟨p,_,rfl⟩:=Qe.mp m
 rw[Zz0];rfl
noncomputable def tq(n:Nat)(R:Nat->Nat->Int)(p:List Int)(q:Nat×Nat):Int:=twP n (λu v=>R (pn p u) (pn p v)) q.1 q.2
noncomputable def cL(n:Nat)(R:Nat->Nat->Int)(p:List Int)(b:Int)(Q:List (Nat×Nat)):List (List Int×Rat):=(Q.filter λq=>decide (0<tq n R p q)).map λq=>(Yv (sd p q),XM (tq n R p q) (2*b))
noncomputable def Zqb(n:Nat)(R:Nat->Nat->Int)(p:List Int):Option (Nat×Nat):=(Yc n).find? λq=>decide (tq n R p q<0)
noncomputable def Zvn(n:Nat)(R:Nat->Nat->Int)(p:List Int)(b:Int):Xa:=match Zqb n R p with
 | some q=>.tuple [.str "bars",ptD q]
 | none=>.tuple [.str "ring",Zni (sCt (cL n R p b (Yc n)))]
theorem Ztr(n:Nat)(R:Nat->Nat->Int)(p:List Int)(b:Int)(Q:List (Nat×Nat))(q:Nat×Nat):cL n R p b (Q ++ [q])=cL n R p b Q ++ (if 0<tq n R p q then[(Yv (sd p q),XM (tq n R p q) (2*b))]else[]):=by
 unfold cL
 rw[List.filter_append,Qu]
 by_cases c:0<tq n R p q
 ·rw[if_pos c,Ud (p:=λq=>decide (0<tq n R p q)) (decide_eq_true c)];rfl
 ·rw[if_neg c,Ue (p:=λq=>decide (0<tq n R p q)) (by rw[decide_eq_false c];exact Xp)];rfl
theorem Zs3(n:Nat)(R:Nat->Nat->Int)(p:List Int)(b:Int)(Q:List (Nat×Nat)):(cL n R p b Q).length≤Q.length:=by
 unfold cL
 rw[Xj]
 exact List.length_filter_le _ _
theorem Zdq{n:Nat}{R:Nat->Nat->Int}{b:Int}{p:List Int}(h:Pm n p)(hr:ringB n p=true)(hn:n≤10)(hb:0<b)(bb:Bt 300 b)(W:Rw n R):Told Yu [tbD (Zck n R b),Zg p] (Zvn n R p b):=by
 obtain⟨m,k,S,e1,eS,m0,k0,rfl,bm,sc⟩:=Ztn (by omega:n<64) hb bb W.bt
 have hI:=h.inR
 have hle:J6 [tbD (Zck n R (m*k))]=some (.int n):=by rw[Zoh,Zhf]
 have hg:Zc4 (.int 2) (.int m)=some (.int (2*m)):=Zgv (Zox (by decide))
 obtain⟨E,hE⟩:∃E:List (List Int×Rat)->Option OT->Option OT->Option OT->Zj,E= λL z5 z6 z7=>[some (.fz (tbD (Zck n R (m*k)))),some (.fz (Zg p)),some (.fz (.int m)),some (.fz (Yw n S)),some (.nd ((L.map ctD).map OT.fz)),z5,z6,z7]:=⟨_,rfl⟩
 have key:=Zk0 (g:=gTp 2 (gCn (gNm 5) (gCn (gNm 6) gNl))) (u:=Zz (wE (Zr Zy (Zc (Zd 3) (Zc (Zd 1) (Zc (Zd 5) (Zc (Zd 6) Zm))))) (Yt 7))
  (Zz (Wz (tV (Zf gLt (Zd 7) (fC (.int 0))))
  (wE (Zlu (Zc (fC (.str "bars")) (Zc (Zlu (Zc (Zd 5) (Zc (Zd 6) Zm))) Zm))) Ji)
  fNx)
  (Wz (tV (Zf gGt (Zd 7) (fC (.int 0))))
  (Wq 4 (Zlu (Zc (fBl Zcx (Zc (fSl (Zd 1) (oI (Zf J0 (Zd 5) (fC (.int 1)))) (oI (Zf J0 (Zd 6) (fC (.int 1))))) Zm)) (Zc (Zr Y0 (Zc (Zd 7) (Zc (Zf Zc4 (fC (.int 2)) (Zd 2)) Zm))) Zm))))
  fNx))) ptD (λq=>decide (tq n R p q<0)) (λQ δ=>∃z5 z6 z7,δ=E (cL n R p (m*k) Q) z5 z6 z7) (λq=>.tuple [.str "bars",ptD q]) (Yc n) (λq done rest ea δ hI'=>?_) (Yc n) [] rfl (E [] none none none) ⟨_,_,_,rfl⟩
 ·have l0:=Ze4 n hn
  have st:∀{S':FS} {d:Xa},Zkc S' (E [] none none none) d->Told (Zae 2 8 (Zz (wE (Zr Wd (Zc (J2 J6 (Zc (Zd 0) Zm)) (Zc (Zd 1) Zm))) Zn7) (Zz (wE (Zr Z3 (Zc (Zd 0) Zm)) (Yt 2)) (Zz (wE (Zr Ye (Zc (Zd 2) (Zc (Zd 0) Zm))) (Yt 3)) (Zz (wE (Zch Zm) (Zap 4)) S'))))) [tbD (Zck n R (m*k)),Zg p] d:=fun{S' d} q=>
   Z2 rfl<|Zv (Zor (Zk (Zb (Jm (Zb Za Zi) hle) (Zb Za Zi)) (.of (Zfc (by rw[hI.1];omega) (by omega) hr) (OT.data_fz _))))<|Zv (Zq (Zk (Zb Za Zi) e1))<|Zv (Zq (Zk (Zb Za (Zb Za Zi)) eS))<|Zv Zjq (by rw[hE]at q;exact q)
  have hi:EvI (Zjx (Zr Jt (Zc (J2 J6 (Zc (Zd 0) Zm)) Zm))) (E [] none none none) ((Yc n).map ptD):=by
   rw[hE]
   exact Zcg (Zk (Zb (Jm (Zb (Za (i:=0) rfl) Zi) hle) Zi) (Zny n (by omega)))
  refine st ?_
  unfold Zvn
  cases c:Zqb n R p with
  | some q=>
   obtain⟨o,δ',e,d⟩:=key.2 q c
   exact Jp ⟨o,δ',Zem hi e,d⟩
  | none=>
   obtain⟨δ',e,q⟩:=key.1 c
   obtain⟨z5,z6,z7,rfl⟩:=q
   refine Zv (Zem hi e) ?_
   have ll:=Zs3 n R p (m*k) (Yc n)
   obtain⟨o,h1,h2⟩:=Zzh (Zff (Zb (Zt (δ:=[some (.fz (tbD (Zck n R (m*k)))),some (.fz (Zg p)),some (.fz (.int m)),some (.fz (Yw n S)),some (.fz (Zni (cL n R p (m*k) (Yc n)))),z5,z6,z7]) (d:=.str "ring")) (Zb (Z0b (e:=Zd 4) (L:=cL n R p (m*k) (Yc n)) (Za rfl) (by omega)) Zi)) (show 2≤1000 by decide))
   rw[hE]
   exact⟨o,_,Zig (o:=.nd (((cL n R p (m*k) (Yc n)).map ctD).map OT.fz)) rfl (by rw[OT.data_nd,OT.map_fz];exact h1),h2⟩
 ·obtain⟨l1,l2⟩:=Wg (p:=q) (by rw[←ea];exact Qc _ (.head _))
  have dl:done.length≤60:=by
   have:=Ze4 n hn
   rw[←ea,Xw]at this
   omega
  obtain⟨z5,z6,z7,rfl⟩:=hI'
  have hmod:(q.2+1)%n<n:=Nat.mod_lt _ (by omega)
  obtain⟨_,a1⟩:=hI.at (i:=q.1) (by omega)
  obtain⟨_,a2⟩:=hI.at (i:=q.1+1) (by omega)
  obtain⟨_,a3⟩:=hI.at l2
  obtain⟨_,a4⟩:=hI.at hmod
  obtain⟨v,hv⟩:∃v,v=tw S (pn p q.1) (pn p (q.1+1)) (pn p q.2) (pn p ((q.2+1)%n)):=⟨_,rfl⟩
  have kv:k*v=tq n R p q:=by
   rw[hv]
   show k*(S _ _+S _ _-S _ _-S _ _)=R _ _+R _ _-R _ _-R _ _
   rw[Int.mul_sub,Int.mul_sub,Int.mul_add,sc _ _ a1 a3,sc _ _ a2 a4,sc _ _ a1 a4,sc _ _ a2 a3]
  have neg:(v<0)↔tq n R p q<0:=by
   rw[←kv]
   exact⟨λz=>Int.mul_neg_of_pos_of_neg k0 z,λz=>Int.not_le.mp λy=>Ug.mpr (Int.mul_nonneg (Int.le_of_lt k0) y) z⟩
  have ps:(0<v)↔0<tq n R p q:=by
   rw[←kv]
   exact⟨λz=>Int.mul_pos k0 z,λz=>Int.not_le.mp λy=>Ug.mpr (Int.mul_nonpos_of_nonneg_of_nonpos (Int.le_of_lt k0) y) z⟩
  have eF:=Zhi (n:=302) (t:=tw S (pn p q.1) (pn p (q.1+1)) (pn p q.2) (pn p ((q.2+1)%n))) (b:=2*m) (by omega) (Bt.mul (m:=2) (Bt.of_lt (by decide) (by decide)) bm)
  rw[Zmu m0 k0 (sc _ _ a1 a3) (sc _ _ a2 a4) (sc _ _ a1 a4) (sc _ _ a2 a3),←hv]at eF
  have eF:Told Y0 [.int v,.int (2*m)] (frD (XM (tq n R p q) (2*(m*k)))):=eF
  rw[hE]
  have s7:∀{S':FS} {r:RS},S' [some (.fz (tbD (Zck n R (m*k)))),some (.fz (Zg p)),some (.fz (.int m)),some (.fz (Yw n S)),some (.nd (((cL n R p (m*k) done).map ctD).map OT.fz)),some (.fz (.int (q.1:Int))),some (.fz (.int (q.2:Int))),some (.fz (.int v))]=r->Zz (wE (Zr Zy (Zc (Zd 3) (Zc (Zd 1) (Zc (Zd 5) (Zc (Zd 6) Zm))))) (Yt 7)) S' [some (.fz (tbD (Zck n R (m*k)))),some (.fz (Zg p)),some (.fz (.int m)),some (.fz (Yw n S)),some (.nd (((cL n R p (m*k) done).map ctD).map OT.fz)),some (.fz (.int (q.1:Int))),some (.fz (.int (q.2:Int))),z7]=r:=λh=>Z5 (Zq (d:=.int v) (Zk (Zb (Za rfl) (Zb (Za rfl) (Zb (Za rfl) (Zb (Za rfl) Zi)))) (.of (hv▸Zc9 hI l1 l2) (OT.data_fz _)))) h
  refine⟨_,rfl,λc=>?_,λc=>?_⟩
  ·have nn:¬v<0:=λz=>of_decide_eq_false c (neg.mp z)
   by_cases pv:0<v
   ·refine⟨_,s7 (Z5 (Zx (Wy (Zbk (Za rfl) Zt (decide_eq_false nn))) rfl) (W2 (Wy (Zrc (Za rfl) Zt (decide_eq_true pv))) (Zlx (ts:=((cL n R p (m*k) done).map ctD).map OT.fz) (d:=ctD (Yv (sd p q),XM (tq n R p q) (2*(m*k)))) (Zff (Zb (Zvm (Zb (Zvt (r:=p) (Za rfl) (Zyq (Yk (Za rfl) Zt)) (Zyq (Yk (Za rfl) Zt)) (Zyy l1 (by rw[hI.1];exact l2))) Zi) (Zcb ?_) (Zev _)) (Zb (Zk (Zb (Za rfl) (Zb (Zo Zt (Za rfl) hg) Zi)) eF) Zi)) (show 2≤1000 by decide)) rfl ?_))),some (.fz (.int (q.1:Int))),some (.fz (.int (q.2:Int))),some (.fz (.int v)),?_⟩
    ·unfold sd
     rw[BP,QK,hI.1];omega
    ·rw[Xj,Xj]
     have:=Zs3 n R p (m*k) done
     omega
    ·rw[Ztr,if_pos (ps.mp pv)]
     dsimp only
     rw[Qu,Qu];rfl
   ·refine⟨_,s7 (Z5 (Zx (Wy (Zbk (Za rfl) Zt (decide_eq_false nn))) rfl) (Zx (Wy (Zrc (Za rfl) Zt (decide_eq_false pv))) rfl)),some (.fz (.int (q.1:Int))),some (.fz (.int (q.2:Int))),some (.fz (.int v)),?_⟩
    rw[Ztr,if_neg λz=>pv (ps.mpr z),Q4]
  ·obtain⟨o,δ2,e,d⟩:=Jp (S':=Wz (tV (Zf gGt (Zd 7) (fC (.int 0)))) (Wq 4 (Zlu (Zc (fBl Zcx (Zc (fSl (Zd 1) (oI (Zf J0 (Zd 5) (fC (.int 1)))) (oI (Zf J0 (Zd 6) (fC (.int 1))))) Zm)) (Zc (Zr Y0 (Zc (Zd 7) (Zc (Zf Zc4 (fC (.int 2)) (Zd 2)) Zm))) Zm)))) fNx) (Zbf (S':=fNx) (Wy (Zbk (δ:=[some (.fz (tbD (Zck n R (m*k)))),some (.fz (Zg p)),some (.fz (.int m)),some (.fz (Yw n S)),some (.nd (((cL n R p (m*k) done).map ctD).map OT.fz)),some (.fz (.int (q.1:Int))),some (.fz (.int (q.2:Int))),some (.fz (.int v))]) (Za (i:=7) rfl) (Zt (d:=.int 0)) (decide_eq_true (neg.mpr (of_decide_eq_true c))))) (Yi (Zff (Zb (Zt (d:=.str "bars")) (Zb (Zff (Zb (Za (i:=5) rfl) (Zb (Za (i:=6) rfl) Zi)) (show 2≤1000 by decide)) Zi)) (show 2≤1000 by decide))))
   exact⟨o,δ2,s7 e,d⟩
theorem Zx2{α:Type}(f:α->Int){l m:List α}(h:l.Perm m):(l.map f).sum=(m.map f).sum:=by
 induction h with
 | nil=>rfl
 | cons x _ ih=>rw[X3,X3,BK,BK,ih]
 | swap x y l=>rw[X3,X3,X3,X3,BK,BK,BK,BK];omega
 | trans _ _ a b=>exact a.trans b
noncomputable def wt1(b:Int)(i j:Nat)(c:List Int×Rat):Int:=if sep c.1 i j=true then c.2.num*((2*b).fdiv (c.2.den:Int))else 0
noncomputable def wsum(b:Int)(i j:Nat)(C:List (List Int×Rat)):Int:=(C.map (wt1 b i j)).sum
structure CtB(b:Int)(c:List Int×Rat):Prop where
 n:Bt 303 c.2.num
 d:Bt 302 (c.2.den:Int)
 q:Bt 302 ((2*b).fdiv (c.2.den:Int))
theorem wsum_snoc(b:Int)(i j:Nat)(C:List (List Int×Rat))(c:List Int×Rat):wsum b i j (C ++ [c])=wsum b i j C+wt1 b i j c:=by
 unfold wsum
 rw[Qu,List.sum_append]
 show _+(_+0)=_
 rw[Int.add_zero]
theorem Z6h{n:Nat}(hn:n≤10){R:Nat->Nat->Int}{b:Int}{C:List (List Int×Rat)}(hC:∀c∈C,CtB b c)(hs:∀i j,i<n->j<n->wsum b i j C=2*R i j):Told J5 [.int n,Zni C,.int b,Yw n R] (.bool true):=by
 obtain⟨E,hE⟩:∃E:Option OT->Option OT->Option OT->Option OT->Option OT->Zj,E= λz4 z5 z6 z7 z8=>[some (.fz (.int n)),some (.fz (Zni C)),some (.fz (.int b)),some (.fz (Yw n R)),z4,z5,z6,z7,z8]:=⟨_,rfl⟩
 refine Z2 rfl<|Zjg (ds:=Zci 0 n) (λ_ δ=>∃z4 z5 z6 z7 z8,δ=E z4 z5 z6 z7 z8) (Zee (Zb Za Zi) (by omega)) ⟨none,none,none,none,none,hE▸rfl⟩ (λi d δ hd q=>?_) λδ' q=>by obtain⟨z4,z5,z6,z7,z8,rfl⟩:=q;exact Yi Zt
 obtain⟨z4,z5,z6,z7,z8,rfl⟩:=q
 obtain⟨hi,rfl⟩:=Ws hd
 rw[JL,hE]
 refine Zlt (ds:=Zci 0 n) (λ_ δ=>∃z5 z6 z7 z8,δ=E (some (.fz (.int i))) z5 z6 z7 z8) rfl (Zee (Zb Za Zi) (by omega)) ⟨z5,z6,z7,z8,by rw[hE];try rfl⟩ (λj d δ hd q=>?_) λδ' q=>by obtain⟨z5,z6,z7,z8,e⟩:=q;exact⟨_,z5,z6,z7,z8,by rw[e,hE]⟩
 obtain⟨z5,z6,z7,z8,rfl⟩:=q
 obtain⟨hj,rfl⟩:=Ws hd
 rw[JL,hE]
 obtain⟨δ',e,y7,y8,rfl⟩:=Zkj (it:=Zjx (Zd 1)) (g:=gTp 2 (gCn (gNm 7) (gCn (gNm 8) gNl))) (S:=Wz (tV (Zf gNe (Zf (Znk false) (Zd 4) (Zd 7)) (Zf (Znk false) (Zd 5) (Zd 7))))
  (wE (Zf J0 (Zd 6) (Zf Zc4 (Z6 gIx (Zd 8) (fC (.int 0))) (Zf Je (Zf Zc4 (fC (.int 2)) (Zd 2)) (Z6 gIx (Zd 8) (fC (.int 1)))))) (Yt 6))
  fNx) (δ:=[some (.fz (.int n)),some (.fz (Zni C)),some (.fz (.int b)),some (.fz (Yw n R)),some (.fz (.int i)),some (.fz (.int j)),some (.fz (.int 0)),z7,z8]) (ds:=C.map ctD) (λk δ=>∃z7 z8,δ=[some (.fz (.int n)),some (.fz (Zni C)),some (.fz (.int b)),some (.fz (Yw n R)),some (.fz (.int i)),some (.fz (.int j)),some (.fz (.int (wsum b i j (C.take k)))),z7,z8]) (Zcg (Za rfl)) ⟨z7,z8,rfl⟩ λk d δ hd q=>by
   obtain⟨z7,z8,rfl⟩:=q
   rw[Xq]at hd
   obtain⟨c,hc,rfl⟩:=Option.map_eq_some_iff.mp hd
   have B:=hC c (QL hc)
   have et:C.take (k+1)=C.take k ++ [c]:=by rw[List.take_succ,hc];rfl
   rw[et,wsum_snoc]
   have t:EvT (tV (Zf gNe (Zf (Znk false) (Zd 4) (Zd 7)) (Zf (Znk false) (Zd 5) (Zd 7)))) [some (.fz (.int n)),some (.fz (Zni C)),some (.fz (.int b)),some (.fz (Yw n R)),some (.fz (.int i)),some (.fz (.int j)),some (.fz (.int (wsum b i j (C.take k)))),some (.fz (Zg c.1)),some (.fz (frD c.2))] (sep c.1 i j):=Wy (Zo (Zo (Za rfl) (Za rfl) (Zdp false _ _)) (Zo (Za rfl) (Za rfl) (Zdp false _ _)) (Zzm _ _))
   have dp:=Zaw c.2
   cases s:sep c.1 i j with
   | true=>
    rw[s]at t
    have w:wt1 b i j c=c.2.num*((2*b).fdiv (c.2.den:Int)):=by unfold wt1;rw[s,if_pos rfl]
    rw[w]
    exact⟨_,_,rfl,.inl (W2 t (Zq (Yk (Za rfl) (Zo (Y5 (d:=.int c.2.num) (Za rfl) Zt rfl) (Zo (Zan Zt (Za rfl)) (Y5 (d:=.int (c.2.den:Int)) (Za rfl) Zt rfl) (Zgn (Zf8 (by omega) B.d))) (Zgv (Zoq B.n B.q)))))),some (.fz (Zg c.1)),some (.fz (frD c.2)),rfl⟩
   | false=>
    rw[s]at t
    have w:wt1 b i j c=0:=by unfold wt1;rw[s,if_neg Xp]
    rw[w,Int.add_zero]
    exact⟨_,_,rfl,.inl (Zx t rfl),some (.fz (Zg c.1)),some (.fz (frD c.2)),rfl⟩
 rw[Xj,List.take_length,hs i j hi hj]at e
 exact⟨_,_,rfl,.inl (Z5 (Zq Zt) (Z5 e (Zx (Wy (Zmb (Za rfl) (Zan Zt (Y5 (Y5 (Za rfl) (Za rfl) (Zpj hi)) (Za rfl) (Zs4 hj))) (by rw[decide_eq_true rfl];rfl))) rfl))),some (.fz (.int j)),some (.fz (.int (2*R i j))),y7,y8,rfl⟩
theorem Z4f{n:Nat}{R:Nat->Nat->Int}{b:Int}{p:List Int}(h:Pm n p)(hb:0<b)(W:Rw n R)(nb:∀q∈Yc n,0≤tq n R p q){i j:Nat}(hi:i<n)(hj:j<n):wsum b i j (cL n R p b (Yc n))=2*R i j:=by
 have hin:=h.inR
 have pnlt:∀u,u<n->pn p u<n:=λu hu=>(hin.at hu).2
 obtain⟨u,hu,eu⟩:=h.at hi
 obtain⟨v,hv,ev⟩:=h.at hj
 have fin:smL (λq=>if Zh9 q.1 q.2 u v=true then tq n R p q else 0) (Yc n)=2*R i j:=by
  have:=Zyd (n:=n) (u:=u) (v:=v) (D:=λu v=>R (pn p u) (pn p v)) (λi j hi hj=>W.sy _ _ (pnlt i hi) (pnlt j hj)) hu hv
  have pu:pn p u=i:=by unfold pn;rw[eu];rfl
  have pv:pn p v=j:=by unfold pn;rw[ev];rfl
  rw[pu,pv]at this
  exact(Zo0 _ n n).trans this
 rw[←fin]
 have key:∀Q:List (Nat×Nat),(∀q∈Q,q∈Yc n)->wsum b i j (cL n R p b Q)=smL (λq=>if Zh9 q.1 q.2 u v=true then tq n R p q else 0) Q:=by
  intro Q
  induction Q with
  | nil=>exact λ_=>rfl
  | cons q Q ih=>
   intro hQ
   have hq:=hQ q (.head _)
   obtain⟨h1,h2⟩:=Wg hq
   have ih:=ih λx hx=>hQ x (.tail _ hx)
   have es:smL (λq=>if Zh9 q.1 q.2 u v=true then tq n R p q else 0) (q :: Q)=(if Zh9 q.1 q.2 u v=true then tq n R p q else 0)+smL (λq=>if Zh9 q.1 q.2 u v=true then tq n R p q else 0) Q:=by
    unfold smL
    rw[X3,BK]
   rw[es,←ih]
   by_cases c:0<tq n R p q
   ·have e1:cL n R p b (q :: Q)=(Yv (sd p q),XM (tq n R p q) (2*b)) :: cL n R p b Q:=by
     unfold cL
     rw[Ud (p:=λq=>decide (0<tq n R p q)) (decide_eq_true c),X3]
    have e2:wsum b i j (cL n R p b (q :: Q))=wt1 b i j (Yv (sd p q),XM (tq n R p q) (2*b))+wsum b i j (cL n R p b Q):=by
     rw[e1]
     unfold wsum
     rw[X3,BK]
    rw[e2]
    refine congrArg (·+_) ?_
    have es:sep (Yv (sd p q)) i j=Zh9 q.1 q.2 u v:=by
     unfold sep Zh9
     have m:∀x:Int,decide (x∈Yv (sd p q))=decide (x∈sd p q):=λx=>decide_eq_decide.mpr (Z8 _).mem_iff
     rw[m,m,←eu,←ev,Zfd h hu h1 h2,Zfd h hv h1 h2]
    unfold wt1
    rw[es]
    dsimp only
    rw[(Zkt (T:=tq n R p q) (m:=2*b) (by omega)).1]
   ·have e1:cL n R p b (q :: Q)=cL n R p b Q:=by
     unfold cL
     rw[Ue (p:=λq=>decide (0<tq n R p q)) (by rw[decide_eq_false c];exact Xp)]
    have z:tq n R p q=0:=by have:=nb q hq;omega
    rw[e1,z]
    split<;>rw[JL]
 exact key _ λ_ h=>h
theorem Zps(a b:List Int):gEq (Zg a) (Zg b)=some (.bool (decide (a=b))):=by
 have s:∀p,Vq (Zg p)=true:=λp=>((Znw p).shp (by omega)).ok
 unfold gEq
 rw[if_pos (by rw[s,s];rfl)]
 exact congrArg (λz=>some (Us z)) (Zim a b)
theorem Zth(a b:List Int):Z4a (Zg a) (Zg b)=some (.bool (!ltI a b)):=by
 show(Zbj (a.map Xk)).bind _=_
 rw[Jf,Xd,Jf,Xd]
theorem Zrb{δ:Zj}{i:Nat}{ns:List Int}(h:δ[i]? =some (some (.fz (Zg ns))))(l:ns.length<64):EvV (Zhb (Zc (Zd i) Zm)) δ (Zg (Yv (dnc ns))):=by
 obtain⟨ts,e1,e2⟩:=Zb (Za h) (Zi (δ:=δ))
 refine⟨.nd (((Yv (dnc ns)).map Xk).map OT.fz),?_,Zev _⟩
 unfold Zhb
 rw[e1,Xd]
 show(match OT.datas ts with|[.list es]=>(Zbj es).bind λns=>if ns.length<64 then some (OT.nd (((Yv (dnc ns)).map Xk).map OT.fz),δ)else none|_=>none)=_
 rw[e2]
 show(Zbj (ns.map Xk)).bind _=_
 rw[Jf,Xd,if_pos l]
theorem Ybk{e:FE}{δ:Zj}{ds:List Xa}(h:EvV e δ (.tuple ds)):EvI (iTp e) δ ds:=by
 obtain⟨t,e1,d1⟩:=h
 unfold EvI
 rw[Z7z,e1,Xd,d1];rfl
structure CtG(n:Nat)(b:Int)(c:List Int×Rat):Prop where
 srt:Yv (dnc c.1)=c.1
 len:c.1.length<64
 ne:c.1≠[]
 lo:1≤c.1.getD 0 0
 hi:c.1.getD (c.1.length-1) 0<n
 pos:0<c.2.num
 dv:(2*b).fmod (c.2.den:Int)=0
theorem Zz2{it:FI}{δ:Zj}{ns:List Int}(hi:EvI it δ (ns.map Xk))(hb:blk 1 [] δ=[none])(hl:ns.length≤1000):EvV (Wt 1 [] it (gNm 0) (tO (tD (Ziw "bool" (Zd 0))) (tNo (tD (Ziw "int" (Zd 0))))) (Zd 0)) δ (Zg []):=by
 have:=Zpl (δ:=δ) (caps:=[]) (it:=it) (me:=Zd 0) (t:=tO (tD (Ziw "bool" (Zd 0))) (tNo (tD (Ziw "int" (Zd 0))))) (cs:=[]) ns Xk (λ_=>false) hi (by omega) hb (λx _=>Zht (Zec (Zgs (Za (d:=.int x) rfl) rfl)) (Zfw (p:=true) (Zec (Zgs (Za (d:=.int x) rfl) rfl)))) λx _ z=>nomatch z
 rwa[List.filter_eq_nil_iff.mpr λ_ _=>Xp]at this
theorem Zn2{n:Nat}{b:Int}{C:List (List Int×Rat)}(hl:C.length≤1000)(hC:∀c∈C,CtG n b c∧CtB b c)(up:C.Pairwise λa b=>ltI a.1 b.1=true):Told Jl [.int n,Zni C,.int b] (.bool true):=by
 have nn:gNe (Zg []) (Zg [])=some (.bool false):=by rw[Zg8,decide_eq_true rfl];rfl
 refine Z2 rfl<|Zv (Zx (Zfw (p:=true) (Zec (Zgs (Za (d:=Zni C) rfl) rfl))) rfl)<|Zjg (ds:=C.map ctD) (λ_ δ=>∃z3 z4 z5,δ=[some (.fz (.int n)),some (.fz (Zni C)),some (.fz (.int b)),z3,z4,z5]) (Zcg (Za rfl)) ⟨_,_,_,rfl⟩ (λk d δ hd q=>?_) λδ' q=>?_
 ·obtain⟨z3,z4,z5,rfl⟩:=q
  obtain⟨c,hc,rfl⟩:=Qe.mp (QL hd)
  obtain⟨G,B⟩:=hC c hc
  have dp:=Zaw c.2
  have lp:=List.length_pos_iff.mpr G.ne
  have low:Told Jb [.int c.2.num,.int (c.2.den:Int)] (frD c.2):=by
   have:=Zjz (t:=c.2.num) (b:=(c.2.den:Int)) (by omega) B.d
   rwa[Rat.num_divInt_den]at this
  refine⟨_,_,rfl,.inl ?_,some (.fz (ctD c)),some (.fz (Zg c.1)),some (.fz (frD c.2)),rfl⟩
  refine Z5 (Zx (Zht (Zfw (p:=true) (Zec (Zgs (Za (d:=ctD c) rfl) rfl))) (Zht (Wy (Zmb (Jm (Zb (Za (d:=ctD c) rfl) Zi) rfl) Zt rfl)) (Zfw (p:=true) (Zec (Zgs (Y5 (d:=Zg c.1) (Za (d:=ctD c) rfl) Zt rfl) rfl))))) rfl) ?_
  refine Z5 (Zq (d:=Zg c.1) (Y5 (Za (d:=ctD c) rfl) Zt rfl)) ?_
  refine Z5 (Zx (Wy (Zo (Zz2 (ns:=c.1) (Zcg (Za rfl)) rfl (by have:=G.len;omega)) Zo9 nn)) rfl) ?_
  refine Z5 (Zx (Zht (Wy (Zo (Za rfl) (Zrb rfl G.len) (by rw[G.srt,Zg8,decide_eq_true rfl];rfl))) (Zht (Wy (Zo (Za rfl) Zo9 (by rw[Zps,decide_eq_false G.ne]))) (Zht (Wy (Zbk (Y5 (Za rfl) Zt (Zd7 (i:=0) (by decide) (by omega))) Zt (decide_eq_false (by have:=G.lo;show¬c.1.getD 0 0<1;omega)))) (Wy (Z24 (Y5 (Za rfl) (Zhg Zt) (Zfk lp)) (Za rfl) (decide_eq_false (by have:=G.hi;omega))))))) rfl) ?_
  refine Z5 (Zq (d:=frD c.2) (Y5 (Za (d:=ctD c) rfl) Zt rfl)) ?_
  refine Z5 (Zx (Zht (Zfw (p:=true) (Zec (Zgs (Za (d:=frD c.2) rfl) rfl))) (Wy (Zmb (Jm (Zb (Za (d:=frD c.2) rfl) Zi) rfl) Zt rfl))) rfl) ?_
  refine Z5 (Zx (Wy (Zo (Zz2 (ns:=[c.2.num,(c.2.den:Int)]) (Ybk (Za (d:=frD c.2) rfl)) rfl (show 2≤1000 by decide)) Zo9 nn)) rfl) ?_
  exact Zx (Zht (Wy (Zbk (Y5 (d:=.int c.2.num) (Za rfl) Zt rfl) Zt (decide_eq_false (by have:=G.pos;omega)))) (Zht (Wy (Zbk (Y5 (d:=.int (c.2.den:Int)) (Za rfl) Zt rfl) Zt (decide_eq_false (by omega)))) (Zht (Wy (Zo (Zk (Zb (Y5 (d:=.int c.2.num) (Za rfl) Zt rfl) (Zb (Y5 (d:=.int (c.2.den:Int)) (Za rfl) Zt rfl) Zi)) low) (Za rfl) (Zx3 (n:=1) (Zca [c.2.num,(c.2.den:Int)]) rfl (by decide)))) (Wy (Zrc (Wj (Zan Zt (Za rfl)) (Y5 (d:=.int (c.2.den:Int)) (Za rfl) Zt rfl) (by omega)) Zt (decide_eq_false (by rw[G.dv];decide))))))) rfl
 ·obtain⟨z3,z4,z5,rfl⟩:=q
  have at':∀{δ:Zj} {e:FE} {k:Nat},δ[1]? =some (some (.fz (Zni C)))->EvV e δ (.int (k:Int))->k<C.length->EvV (Z6 gIx (Z6 gIx (Zd 1) e) (fC (.int 0))) δ (Zg (C.getD k ([],0)).1):=fun{δ e k} h he hk=>Y5 (Zsl (ds:=C.map ctD) (d:=ctD (C.getD k ([],0))) (Za h) he (Zua (by rw[Xq,Xe,Xi hk];rfl))) Zt rfl
  have:=Zpl (δ:=[some (.fz (.int n)),some (.fz (Zni C)),some (.fz (.int b)),z3,z4,z5]) (caps:=[1]) (it:=iRb (Zc (fC (.int 1)) (Zc (J2 J6 (Zc (Zd 1) Zm)) Zm))) (me:=Zd 0) (t:=tV (Zf Z4a (Z6 gIx (Z6 gIx (Zd 1) (Zf gSb (Zd 0) (fC (.int 1)))) (fC (.int 0))) (Z6 gIx (Z6 gIx (Zd 1) (Zd 0)) (fC (.int 0))))) (cs:=[some (.fz (Zni C))]) (Xv (C.length-1)) (λi:Nat=>Xk (1+(i:Int))) (λ_=>false) (Zsk (m:=1) (n:=C.length) (Zb Zt (Zb ((Znf (Za (d:=Zni C) rfl)).cast (by rw[Xj])) Zi)) (by decide) (by omega)) (by rw[X8];omega) rfl (λi hi=>?_) λx _ z=>nomatch z
  ·rw[List.filter_eq_nil_iff.mpr λ_ _=>Xp]at this
   exact Yi (Zo this Zo9 (by rw[show Qy (List.map (λi:Nat=>Xk (1+(i:Int))) [])=Zg []from rfl,Zps,decide_eq_true rfl]))
  ·have hi:=Ql.mp hi
   have u:=Bg.mp up i (1+i) (by omega) (by omega) (by omega)
   refine Wy (Zo (at' (k:=i) rfl ((Zb8 (Za rfl) Zt).cast (congrArg Xk (by omega))) (by omega)) (at' (k:=1+i) rfl ((Za (d:=.int (1+(i:Int))) rfl).cast (congrArg Xk (by omega))) (by omega)) ?_)
   rw[Zth,Xe,Xi (by omega),Xe,Xi (by omega)]
   exact congrArg (λz=>some (Us (!z))) u
theorem Z61{n:Nat}{p:List Int}(h:Pm n p)(h0:p.getD 0 0=0){q:Nat×Nat}(h1:q.1<q.2)(h2:q.2<n){x:Int}(m:x∈sd p q):1≤x∧x<n:=by
 have mp:x∈p:=List.mem_of_mem_drop (List.mem_of_mem_take m)
 obtain⟨a,b⟩:=J7.mp (h.mem_iff.mp mp)
 have z:=Zfd h (u:=0) (by omega) h1 h2
 rw[h0]at z
 have z0:inS q.1 q.2 0=false:=Bu.mpr λy=>by have:=Zaq.mp y;omega
 rw[z0]at z
 have ne:x≠0:=λe=>of_decide_eq_false z (e▸m)
 omega
theorem Z48{n:Nat}{p:List Int}(h:Pm n p){q:Nat×Nat}(h1:q.1<q.2)(h2:q.2<n):(sd p q).length=q.2-q.1:=by
 unfold sd
 rw[BP,QK,h.len];omega
theorem Zv6{n:Nat}{R:Nat->Nat->Int}{b:Int}{p:List Int}(h:Pm n p)(h0:p.getD 0 0=0)(hn:n≤10)(hb:0<b)(bb:Bt 300 b)(W:Rw n R){c:List Int×Rat}(hc:c∈cL n R p b (Yc n)):CtG n b c∧CtB b c:=by
 obtain⟨q,hq,rfl⟩:=Qe.mp hc
 obtain⟨hq,tp⟩:=UW.mp hq
 have tp:=of_decide_eq_true tp
 obtain⟨h1,h2⟩:=Wg hq
 have pnlt:∀u,u<n->pn p u<n:=λu hu=>(h.inR.at hu).2
 have pm:=Z8 (sd p q)
 have nd:(Yv (sd p q)).Nodup:=pm.nodup_iff.mpr ((h.nodup.sublist (List.drop_sublist _ _)).sublist (List.take_sublist _ _))
 have ln:(Yv (sd p q)).length=q.2-q.1:=by rw[pm.length_eq,Z48 h h1 h2]
 have mem:∀x∈Yv (sd p q),1≤x∧x<n:=λx hx=>Z61 h h0 h1 h2 (pm.mem_iff.mp hx)
 have tT:Bt 303 (tq n R p q):=Ya8 (λi j hi hj=>W.bt _ _ (pnlt i hi) (pnlt j hj)) h1 h2
 obtain⟨lb1,lb2⟩:=Zkt (T:=tq n R p q) (m:=2*b) (by omega)
 have hdv:=Z40 (T:=tq n R p q) hb
 have dp:=Zaw (XM (tq n R p q) (2*b))
 have bd:Bt 302 ((XM (tq n R p q) (2*b)).den:Int):=Zij (by omega) hdv (Ydd bb)
 refine⟨⟨?_,by show(Yv (sd p q)).length<64;omega,λe=>?_,(mem _ (getD_mem (show 0<(Yv (sd p q)).length by omega))).1,(mem _ (getD_mem (show(Yv (sd p q)).length-1<(Yv (sd p q)).length by omega))).2,?_,lb2⟩,Zy4 (by omega) tT,bd,Z4k hb bb hdv⟩
 ·have o:=Zmi (Yv (sd p q))
  exact Wo ((Z8 _).trans ((VP o.1 nd).mpr o.2)) (Y6 _) (Y6 _)
 ·have e:Yv (sd p q)=[]:=e
  rw[e]at ln
  exact absurd ln (by rw[Vf];omega)
 ·refine Int.not_le.mp λy=>?_
  have y:(XM (tq n R p q) (2*b)).num≤0:=y
  have f0:0≤(2*b).fdiv ((XM (tq n R p q) (2*b)).den:Int):=Int.fdiv_nonneg (by omega) (by omega)
  have:=Int.mul_nonpos_of_nonpos_of_nonneg y f0
  omega
theorem Zvy:∀m≤10,(Yc m).Nodup:=by decide +kernel
theorem Z6p{n:Nat}{p:List Int}(h:Pm n p){q r:Nat×Nat}(h1:q.1<q.2)(h2:q.2<n)(g1:r.1<r.2)(g2:r.2<n)(e:Yv (sd p q)=Yv (sd p r)):q=r:=by
 have key:∀u<n,inS q.1 q.2 u=inS r.1 r.2 u:=λu hu=>by
  rw[←Zfd h hu h1 h2,←Zfd h hu g1 g2]
  refine decide_eq_decide.mpr ?_
  rw[←(Z8 (sd p q)).mem_iff,e,(Z8 (sd p r)).mem_iff]
 have a1:=Zaq.mp ((key (q.1+1) (by omega)).symm.trans (Zaq.mpr ⟨by omega,by omega⟩))
 have a2:=Zaq.mp ((key q.2 h2).symm.trans (Zaq.mpr ⟨by omega,by omega⟩))
 have a3:=Zaq.mp ((key (r.1+1) (by omega)).trans (Zaq.mpr ⟨by omega,by omega⟩))
 have a4:=Zaq.mp ((key r.2 g2).trans (Zaq.mpr ⟨by omega,by omega⟩))
 exact Prod.ext (by omega) (by omega)
theorem Z6z{n:Nat}{R:Nat->Nat->Int}{b:Int}{p:List Int}(h:Pm n p)(hn:n≤10):Dst (cL n R p b (Yc n)):=by
 have pw:(cL n R p b (Yc n)).Pairwise λx y=>x.1≠y.1:=by
  unfold cL
  rw[List.pairwise_map]
  refine List.Pairwise.imp_of_mem (fun{q r} hq hr ne e=>ne ?_) ((Zvy n hn).filter _)
  obtain⟨h1,h2⟩:=Wg (UW.mp hq).1
  obtain⟨g1,g2⟩:=Wg (UW.mp hr).1
  exact Z6p h h1 h2 g1 g2 e
 intro k l kl hl
 rw[Xe,Xi (by omega),Xe,Xi hl]
 exact Bg.mp pw k l (by omega) hl kl
theorem Zs8(a b:Nat×Nat):Qs (ptD a) (ptD b)=decide (a=b):=by
 by_cases c:a=b
 ·rw[Zu8 rfl rfl (by rw[c]),decide_eq_true c]
 ·rw[Zsy rfl rfl λz=>c ?_,decide_eq_false c]
  injection z with z
  injection z with z1 z2
  injection z2 with z2 _
  exact Prod.ext (Int.ofNat.inj (PyData.int.inj z1)) (Int.ofNat.inj (PyData.int.inj z2))
theorem Zmh(q:Nat×Nat):Sh 1 (ptD q):=Zca [(q.1:Int),(q.2:Int)]
theorem Zvs(L:List (Nat×Nat)):(Qy (L.map ptD)).canLay0=true:=(Zos (n:=1) λd m=>by
 obtain⟨q,_,rfl⟩:=Qe.mp m
 exact Zmh q).1
theorem Z7q{L:List (Nat×Nat)}{q:Nat×Nat}(h:q∈L):Zup true (ptD q) (.list (L.map ptD))=some (.bool false):=by
 have d32:(ptD q).depth≤32:=Qv (Zmh q).2 (by decide)
 have e:Z2o (ptD q) (L.map ptD)=true:=by
  unfold Z2o
  rw[List.any_map,List.any_eq_true]
  exact⟨q,h,(Zs8 q q).trans (decide_eq_true rfl)⟩
 show(if _ then some (Us (!Z2o (ptD q) (L.map ptD)))else none)=_
 rw[if_pos (by rw[(Zmh q).1,Zvs,decide_eq_true d32];rfl),e];rfl
theorem Z5p{as bs:List (Nat×Nat)}{q:Nat×Nat}(h:∀a∈as,a≠q):Z36 (ptD q) ((as ++ q :: bs).map ptD)=some as.length:=by
 unfold Z36
 induction as with
 | nil=>
  rw[UV,X3,List.findIdx?_cons,Zs8,decide_eq_true rfl];rfl
 | cons a as ih=>
  rw[List.cons_append,X3,List.findIdx?_cons,Zs8,decide_eq_false (h a (.head _)),ih λx hx=>h x (.tail _ hx)];rfl
theorem Z0f{ds:List Xa}{k:Nat}(h:k≤ds.length):cutD ds none (some (k:Int))=ds.take k:=by
 unfold cutD
 rw[HT.sIx_none,HT.sIx_nat,Nat.min_eq_left h,List.drop_zero,Nat.sub_zero]
theorem Zus{T m:Int}(hm:0<m):(T<0->(XM T m).num<0)∧(0≤T->0≤(XM T m).num):=by
 have lb:=(Zkt (T:=T) hm).1
 have dp:=Zaw (XM T m)
 have f0:0≤m.fdiv ((XM T m).den:Int):=Int.fdiv_nonneg (by omega) (by omega)
 constructor
 ·intro h
  refine Int.not_le.mp λy=>?_
  have:=Int.mul_nonneg y f0
  omega
 ·intro h
  refine Ug.mp λy=>?_
  rcases Int.lt_or_eq_of_le f0 with z|z
  ·have:=Int.mul_neg_of_neg_of_pos y z
   omega
  ·rw[←z,Int.mul_zero]at lb
   rw[←lb,Rat.zero_divInt]at y
   exact absurd y (by decide)
theorem Z01{d:Xa}{n:Nat}(h:Sh n d)(hn:n≤64)(hp:Wh d=true):gEq d d=some (.bool true)∧gNe d d=some (.bool false):=by
 have s:=(h.shp hn).ok
 unfold gEq gNe
 rw[if_pos (by rw[s];rfl),if_pos (by rw[s];rfl),Zkg hp]
 exact⟨rfl,rfl⟩
theorem Zty{w:Str}(h:UL w=true):Sh 0 (.str w):=⟨by rw[Bl];exact h,Nat.le_of_eq rfl⟩
theorem Zh3(w:Str):Wh (.str w)=true:=by rw[Wh]
theorem Zhd{w:Str}(h:UL w=true):gNe (.str w) (.str w)=some (.bool false)∧gEq (.str w) (.str w)=some (.bool true):=by
 have:=Z01 (Zty h) (by decide) (Zh3 w)
 exact⟨this.2,this.1⟩
theorem Zzn{a b:Str}(ha:UL a=true)(hb:UL b=true)(h:a≠b):gNe (.str a) (.str b)=some (.bool true)∧gEq (.str a) (.str b)=some (.bool false):=by
 have s1:=((Zty ha).shp (by decide)).ok
 have s2:=((Zty hb).shp (by decide)).ok
 unfold gNe gEq
 rw[if_pos (by rw[s1,s2];rfl),if_pos (by rw[s1,s2];rfl),Zsy (Zh3 a) (Zh3 b) λz=>h (Xa.str.inj z)]
 exact⟨rfl,rfl⟩
theorem Zki:UL "ring"=true:=by decide +kernel
theorem Zj4:UL "bars"=true:=by decide +kernel
theorem Zfo{n:Nat}{R:Nat->Nat->Int}{b:Int}{p:List Int}(h:Pm n p)(hr:ringB n p=true)(hn:n≤10)(hb:0<b)(bb:Bt 300 b)(W:Rw n R):Told Yj [tbD (Zck n R b),Zg p,Yw n R,.int b] (.bool true):=by
 obtain⟨_,h3,h0,_⟩:=Zqu hr
 have T:=Zdq h hr hn hb bb W
 have hin:=h.inR
 have rl:J6 [Yw n R]=some (.int n):=Zds n R
 unfold Zvn at T
 cases c:Zqb n R p with
 | none=>
  rw[c]at T
  have nb:∀q∈Yc n,0≤tq n R p q:=λq hq=>by
   have:=List.find?_eq_none.mp c q hq
   exact Ug.mp λz=>this (decide_eq_true z)
  have pm:(sCt (cL n R p b (Yc n))).Perm (cL n R p b (Yc n)):=Zmy _ _ _
  have gd:∀x∈sCt (cL n R p b (Yc n)),CtG n b x∧CtB b x:=λx hx=>Zv6 h h0 hn hb bb W (pm.mem_iff.mp hx)
  have ll:(sCt (cL n R p b (Yc n))).length≤1000:=by
   rw[pm.length_eq]
   exact Qv (Zs3 n R p b _) (Qv (Ze4 n hn) (by decide))
  have A:=Zn2 ll gd (Z7u (Z6z h hn))
  have B:=Z6h hn (R:=R) (b:=b) (C:=sCt (cL n R p b (Yc n))) (λx hx=>(gd x hx).2) λi j hi hj=>(Zx2 _ pm).trans (Z4f h hb W nb hi hj)
  exact Z2 rfl<|Zv (Zy5 (Zk (Zb Za (Zb Za Zi)) T) rfl)<|Jp<|Zbf (Wy (Zo (Za rfl) Zt (Zhd Zki).2))<|Yi<|Zk2 (Zk (Zb (Jm (Zb (Za rfl) Zi) rl) (Zb (Za rfl) (Zb (Za rfl) Zi))) A) (Zk (Zb (Jm (Zb (Za rfl) Zi) rl) (Zb (Za rfl) (Zb (Za rfl) (Zb (Za rfl) Zi)))) B)
 | some q=>
  rw[c]at T
  obtain⟨pq,as,bs,eL,ha⟩:=List.find?_eq_some_iff_append.mp c
  have pq:=of_decide_eq_true pq
  have hq:q∈Yc n:=by rw[eL];exact Qc _ (.head _)
  obtain⟨l1,l2⟩:=Wg hq
  have na:∀a∈as,0≤tq n R p a:=λa h=>Ug.mp λz=>by
   have:=ha a h
   rw[decide_eq_true z]at this
   cases this
  have rw_:∀x∈Yc n,Told Yp [tbD (Zck n R b),Zg p,.int (x.1:Int),.int (x.2:Int)] (frD (XM (tq n R p x) (2*b))):=λx hx=>Zi1 hin hr (by omega) (Wg hx).1 (Wg hx).2 hb bb W.bt
  have asl:as.length≤60:=by
   have:=Ze4 n hn
   rw[eL,Xw]at this
   omega
  refine Z2 rfl<|Zv (Zy5 (Zk (Zb Za (Zb Za Zi)) T) rfl)<|Zv (Zx (Wy (Zo (Za rfl) Zt (Zzn Zj4 Zki (by decide +kernel)).2)) rfl)<|Zv (Zq (Zk (Zb ((Yz (Za rfl)).cast (by rw[h.len])) Zi) (Zva n (by omega))))<|Zv (Zx (Zht (Wy (Zo (Za rfl) Zt (Zhd Zj4).1)) (Zht (Zfw (p:=true) (Zec (Zgs (Za (d:=ptD q) rfl) rfl))) (Wy (Zo (Za rfl) (Za rfl) (Z7q hq))))) rfl)<|Zv (Zq (d:=Zg (as.map λa=>(XM (tq n R p a) (2*b)).num)) ?_)<|Yi<|Zk2 (Zbk (Y5 (d:=.int (XM (tq n R p q) (2*b)).num) (Zk (Zb (Za rfl) (Zb (Za rfl) (Zb (Y5 (d:=.int (q.1:Int)) (Za (d:=ptD q) rfl) Zt rfl) (Zb (Y5 (d:=.int (q.2:Int)) (Za (d:=ptD q) rfl) Zt rfl) Zi)))) (rw_ q hq)) Zt rfl) Zt (decide_eq_true ((Zus (by omega)).1 pq))) (Zed (Jm (Zb (Zna (Zpr Zt) (Za rfl) (by decide) (by rw[Xj];omega)) Zi) ?_) Zt (decide_eq_true rfl))
  ·have cut:cutD ((Yc n).map ptD) none (some (as.length:Int))=as.map ptD:=by
    rw[eL,Z0f (by rw[Xj,Xw];omega),←List.map_take,List.take_append_of_le_length (XN _),List.take_length]
   have g:∀a:Nat×Nat,∃o:OT,a∈as->Z6 gIx (Zr Yp (Zc (Zd 2) (Zc (Zd 3) (Zc (Zd 0) (Zc (Zd 1) Zm))))) (fC (.int 0)) [some (.fz (.int (a.1:Int))),some (.fz (.int (a.2:Int))),some (.fz (tbD (Zck n R b))),some (.fz (Zg p))]=some (o,[some (.fz (.int (a.1:Int))),some (.fz (.int (a.2:Int))),some (.fz (tbD (Zck n R b))),some (.fz (Zg p))])∧o.data= .int (XM (tq n R p a) (2*b)).num:=λa=>by
    by_cases m:a∈as
    ·obtain⟨o,e1,e2⟩:=Y5 (d:=.int (XM (tq n R p a) (2*b)).num) (Zk (Zb (Za (δ:=[some (.fz (.int (a.1:Int))),some (.fz (.int (a.2:Int))),some (.fz (tbD (Zck n R b))),some (.fz (Zg p))]) (i:=2) rfl) (Zb (Za (i:=3) rfl) (Zb (Za (i:=0) rfl) (Zb (Za (i:=1) rfl) Zi)))) (rw_ a (by rw[eL];exact Vi _ m))) (Zt (d:=.int 0)) rfl
     exact⟨o,λ_=>⟨e1,e2⟩⟩
    ·exact⟨.fz .none,λz=>absurd z m⟩
   obtain⟨o,ho⟩:=Classical.axiomOfChoice g
   refine⟨_,Zpg (cs:=[some (.fz (tbD (Zck n R b))),some (.fz (Zg p))]) as (λa=>.int (a.1:Int)) (λa=>.int (a.2:Int)) (λ_=>true) o ?_ (by omega) rfl (λa _ z0 z1=>rfl) (λa _=>rfl) (λa ha _=>(ho a ha).1),?_⟩
   ·exact Zcg ((Z41 (ds:=(Yc n).map ptD) (Za rfl) Z9d (Zyq (Zu7 (j:=as.length) (Za rfl) (Za rfl) (Zvs _) (by rw[Xj];exact Qv (Ze4 n hn) (by decide)) (Zmh q).1 (Qv (Zmh q).2 (by decide)) (by rw[eL];exact Z5p λa ha' e=>by have:=na a ha';rw[e]at this;omega)))).cast (by rw[cut];rfl))
   ·rw[U4.mpr λ_ _=>rfl,OT.data_nd,X5]
    unfold Zg
    rw[X5]
    exact congrArg Qy (Qg λa ha=>(ho a ha).2)
  ·show(Zbj (([0] ++ as.map λa=>(XM (tq n R p a) (2*b)).num).map Xk)).bind _=_
   obtain⟨m1,m2⟩:=Zmm (ns:=[0] ++ as.map λa=>(XM (tq n R p a) (2*b)).num) (by rw[Xw];exact X4 Nat.zero_lt_one (Q5 _ _))
   have z:Z02 ([0] ++ as.map λa=>(XM (tq n R p a) (2*b)).num)=0:=by
    refine Int.le_antisymm (m2 0 (.head _)) ?_
    rcases QJ.mp m1 with y|y
    ·rw[Xu.mp y];exact Int.le_refl _
    ·obtain⟨a,ha',e⟩:=Qe.mp y
     rw[←e]
     exact(Zus (by omega)).2 (na a ha')
   rw[Jf,Xd,z,if_pos (by rw[Xw];exact X4 Nat.zero_lt_one (Q5 _ _))]
noncomputable def twS(n:Nat)(S:Nat->Nat->Int)(p:List Int)(a b:Nat):Int:=tw S (pn p a) (pn p (a+1)) (pn p b) (pn p ((b+1)%n))
noncomputable def Ent(n:Nat)(p:List Int):Prop:=∀x∈p,0≤x∧x<(n:Int)
theorem Ent.at{n:Nat}{p:List Int}(h:Ent n p){i:Nat}(hi:i<p.length):gIx (Zg p) (.int (i:Int))=some (.fz (.int (pn p i:Nat)))∧pn p i<n:=by
 obtain⟨a,b⟩:=h _ (getD_mem hi)
 rw[Zd7 (by omega) (by omega),Qp]
 unfold pn
 rw[Int.toNat_of_nonneg a]
 exact⟨rfl,by omega⟩
theorem Z25{n a b:Nat}{S:Nat->Nat->Int}{p:List Int}(h:Ent n p)(hab:a<b)(hb:b<p.length)(hc:(b+1)%n<p.length)(hn:0<n):Told Zy [Yw n S,Zg p,.int a,.int b] (.int (twS n S p a b)):=by
 obtain⟨e1,l1⟩:=h.at (i:=a) (by omega)
 obtain⟨e2,l2⟩:=h.at (i:=a+1) (by omega)
 obtain⟨e3,l3⟩:=h.at hb
 obtain⟨e4,l4⟩:=h.at hc
 exact Z2 rfl<|Zv (Zq (Y5 Za Za e1))<|Zv (Zq (Y5 Za (Yk Za Zt) e2))<|Zv (Zq (Y5 Za Za e3))<|
  Zv (Zq (Y5 Za (Zo (Yk Za Zt) (Jm (Zb Za Zi) (Zds n S)) (Zpf hn)) e4))<|
  Yi (Zb8 (Zb8 (Yk (Zgy l1 l3 rfl rfl rfl) (Zgy l2 l4 rfl rfl rfl)) (Zgy l1 l4 rfl rfl rfl)) (Zgy l2 l3 rfl rfl rfl))
noncomputable def fits(n:Nat)(S:Nat->Nat->Int)(p:List Int)(b:Nat):Bool:=((Xv b).find? λa=>decide (twS n S p a b<0)).isNone
theorem Zhc{n:Nat}{S:Nat->Nat->Int}{p:List Int}{b:Nat}:fits n S p b=true↔∀a<b,0≤twS n S p a b:=by
 unfold fits
 rw[Option.isNone_iff_eq_none,List.find?_eq_none]
 exact⟨λh a ha=>Ug.mp λz=>h a (Ql.mpr ha) (decide_eq_true z),λh a ha z=>Ug.mpr (h a (Ql.mp ha)) (of_decide_eq_true z)⟩
theorem Zvw{n b:Nat}{S:Nat->Nat->Int}{p:List Int}(h:Ent n p)(hb:b<p.length)(hc:(b+1)%n<p.length)(hn:0<n)(b10:b≤100):Told Yn [Yw n S,Zg p,.int b] (.bool (fits n S p b)):=by
 have key:=Zk0 (g:=gNm 3) (u:=Wz (tV (Zf gLt (Zr Zy (Zc (Zd 0) (Zc (Zd 1) (Zc (Zd 3) (Zc (Zd 2) Zm))))) (fC (.int 0)))) (wE (fC (.bool false)) Ji) fNx) (λa:Nat=>Xk (0+(a:Int))) (λa=>decide (twS n S p a b<0)) (λ_ δ=>∃z,δ=[some (.fz (Yw n S)),some (.fz (Zg p)),some (.fz (.int b)),z]) (λ_=>.bool false) (Xv b) (λa done rest ea δ hI=>?_) (Xv b) [] rfl [some (.fz (Yw n S)),some (.fz (Zg p)),some (.fz (.int b)),none] ⟨_,rfl⟩
 ·have hi:EvI (iRa (Zc (Zd 2) Zm)) [some (.fz (Yw n S)),some (.fz (Zg p)),some (.fz (.int b)),none] ((Xv b).map λa:Nat=>Xk (0+(a:Int))):=Zee (n:=b) (Zb (Za rfl) Zi) (by omega)
  unfold fits
  cases c:(Xv b).find? λa=>decide (twS n S p a b<0)with
  | none=>
   obtain⟨δ',e,z,rfl⟩:=key.1 c
   exact Z2 rfl (Zv (Zem hi e) (Yi Zt))
  | some a=>
   obtain⟨o,δ',e,d⟩:=key.2 a c
   exact Z2 rfl (Jp ⟨o,δ',Zem hi e,d⟩)
 ·obtain⟨z,rfl⟩:=hI
  have ha:a<b:=Ql.mp (by rw[←ea];exact Qc _ (.head _))
  have ev:EvV (Zr Zy (Zc (Zd 0) (Zc (Zd 1) (Zc (Zd 3) (Zc (Zd 2) Zm))))) [some (.fz (Yw n S)),some (.fz (Zg p)),some (.fz (.int b)),some (.fz (.int (0+(a:Int))))] (.int (twS n S p a b)):=Zk (Zb (Za rfl) (Zb (Za rfl) (Zb ((Za (d:=.int (0+(a:Int))) rfl).cast (by rw[JL])) (Zb (Za rfl) Zi)))) (Z25 h ha hb hc hn)
  exact⟨_,rfl,λc=>⟨_,Zx (Wy (Zbk ev Zt c)) rfl,_,rfl⟩,λc=>Zbf (Wy (Zbk ev Zt c)) (Yi Zt)⟩
structure OKr(n:Nat)(S:Nat->Nat->Int)(r:List Int):Prop where
 pm:Pm n r
 z:r.getD 0 0=0
 lt:r.getD 1 0<r.getD (n-1) 0
 ok:∀b<n,fits n S r b=true
theorem Zs5:∀(p:List Int) {x y:Int} {s t:List Int},x<y->ltI (p ++ x :: s) (p ++ y :: t)=true
 | [],x,y,s,t,h=>by
  rw[UV,UV,ltI,if_neg (by omega)]
  exact decide_eq_true h
 | a :: p,x,y,s,t,h=>by
  rw[List.cons_append,List.cons_append,ltI,if_pos rfl]
  exact Zs5 p h
noncomputable def opD(o:Option (List Int)):Xa:=match o with|none=>.none|some r=>Zg r
structure Zoa(n:Nat)(S:Nat->Nat->Int)(p:List Int)(o:Option (List Int)):Prop where
 ok:∀r,o=some r->OKr n S r∧p<+: r
 first:∀r',OKr n S r'->p<+: r'->∃r,o=some r∧(r=r'∨ltI r r'=true)
structure Beg(n:Nat)(S:Nat->Nat->Int)(p:List Int):Prop where
 ent:Ent n p
 nd:p.Nodup
 z:∃t,p=0 :: t
 ok:∀b,b+1<p.length->fits n S p b=true
theorem Zpd{p r:List Int}(h:p<+: r){i:Nat}(hi:i<p.length):pn p i=pn r i:=by
 obtain⟨t,rfl⟩:=h
 unfold pn
 rw[Xe,Xe,Vc hi]
theorem Zo5{n b:Nat}{S:Nat->Nat->Int}{p r:List Int}(h:p<+: r)(hb:b+1<p.length)(hn:p.length≤n):fits n S p b=fits n S r b:=by
 have e:∀a<b,twS n S p a b=twS n S r a b:=λa ha=>by
  unfold twS
  rw[Nat.mod_eq_of_lt (by omega),Zpd h (by omega),Zpd h (by omega),Zpd h (by omega),Zpd h hb]
 rw[Bool.eq_iff_iff,Zhc,Zhc]
 exact⟨λq a ha=>e a ha▸q a ha,λq a ha=>(e a ha).symm▸q a ha⟩
theorem Pm.of{n:Nat}{p:List Int}(h:Ent n p)(nd:p.Nodup)(l:p.length=n):Pm n p:=by
 refine(VP nd (Zgu n)).mpr λx=>⟨λhx=>J7.mpr (h x hx),λhx=>Classical.byContradiction λc=>?_⟩
 have nd2:(x :: p).Nodup:=Qm.mpr ⟨c,nd⟩
 have:=nd2.length_le_of_subset (l₂:=W8 n) λy hy=>(Xr.mp hy).elim (λe=>e▸hx) λm=>J7.mpr (h y m)
 rw[Zd4,BR]at this
 omega
theorem Z3m{t:FT}{a b:FE}{δ:Zj}{d:Xa}(h:EvT t δ true)(k:EvV a δ d):EvV (fIf t a b) δ d:=by
 obtain⟨o,e,d1⟩:=k
 exact⟨o,by rw[Zz4,h,Xd];exact e,d1⟩
theorem Zs1{t:FT}{a b:FE}{δ:Zj}{d:Xa}(h:EvT t δ false)(k:EvV b δ d):EvV (fIf t a b) δ d:=by
 obtain⟨o,e,d1⟩:=k
 exact⟨o,by rw[Zz4,h,Xd];exact e,d1⟩
noncomputable def cnd(n:Nat)(S:Nat->Nat->Int)(p:List Int)(x:Int):Bool:=!decide (x∈p)&&fits n S (p ++ [x]) (p.length-1)
theorem Beg.add{n:Nat}{S:Nat->Nat->Int}{p:List Int}(B:Beg n S p)(l:p.length<n){x:Int}(h0:0≤x)(h1:x<n)(c:cnd n S p x=true):Beg n S (p ++ [x]):=by
 unfold cnd at c
 rw[XD]at c
 obtain⟨c1,c2⟩:=c
 have c1:x∉p:=λm=>by rw[decide_eq_true m]at c1;cases c1
 obtain⟨t,ht⟩:=B.z
 refine⟨λy hy=>?_,?_,⟨t ++ [x],by rw[ht];rfl⟩,λb hb=>?_⟩
 ·rcases QJ.mp hy with q|q
  ·exact B.ent y q
  ·rw[Xu.mp q];exact⟨h0,h1⟩
 ·exact Vh.mpr ⟨B.nd,Qm.mpr ⟨(λz=>nomatch z),.nil⟩,λa ha b hb e=>c1 (by rw[←Xu.mp hb,←e];exact ha)⟩
 ·rw[Xw]at hb
  have hb:b+1<p.length+1:=hb
  by_cases q:b+1<p.length
  ·rw[←Zo5 (p:=p) ⟨[x],rfl⟩ q (by omega)]
   exact B.ok b q
  ·rw[show b=p.length-1 by omega];exact c2
theorem Zsi{n:Nat}(h3:3≤n)(hn:n≤10){S:Nat->Nat->Int}{F:FD}{p:List Int}(B:Beg n S p)(l:p.length=n):∃o,Told (Zae 2 5 (Ww F)) [Yw n S,Zg p] (opD o)∧Zoa n S p o:=by
 obtain⟨t,ht⟩:=B.z
 have pz:p.getD 0 0=0:=by rw[ht];rfl
 have st:∀{d:Xa},EvV (fIf (tAn (tV (Zf gLt (Z6 gIx (Zd 1) (fC (.int 1))) (Z6 gIx (Zd 1) (fUn Znj (fC (.int 1)))))) (tD (Zr Yn (Zc (Zd 0) (Zc (Zd 1) (Zc (Zf gSb (Zd 2) (fC (.int 1))) Zm)))))) (Zd 1) (fC .none)) [some (.fz (Yw n S)),some (.fz (Zg p)),some (.fz (.int n)),none,none] d->Told (Zae 2 5 (Ww F)) [Yw n S,Zg p] d:=λh=>Z2 rfl<|Zv (Zq (Jm (Zb Za Zi) (Zds n S)))<|Jp<|Zbf (Wy (Zed (Yz Za) Za (decide_eq_true (congrArg Nat.cast l))))<|Yi h
 have t1:EvT (tV (Zf gLt (Z6 gIx (Zd 1) (fC (.int 1))) (Z6 gIx (Zd 1) (fUn Znj (fC (.int 1)))))) [some (.fz (Yw n S)),some (.fz (Zg p)),some (.fz (.int n)),none,none] (decide (p.getD 1 0<p.getD (n-1) 0)):=Wy (Zbk (Y5 (Za (i:=1) rfl) (Zt (d:=.int 1)) (Zd7 (p:=p) (i:=1) (by decide) (by omega))) (Y5 (Za (i:=1) rfl) (Zhg (Zt (d:=.int 1))) (Zfk (p:=p) (by omega))) (by rw[l];rfl))
 have t2:EvT (tD (Zr Yn (Zc (Zd 0) (Zc (Zd 1) (Zc (Zf gSb (Zd 2) (fC (.int 1))) Zm))))) [some (.fz (Yw n S)),some (.fz (Zg p)),some (.fz (.int n)),none,none] (fits n S p (n-1)):=Zec (Zk (Zb (Za rfl) (Zb (Za rfl) (Zb ((Zb8 (Za (i:=2) (d:=.int n) rfl) (Zt (d:=.int 1))).cast (congrArg Xk (by omega:(n:Int)-1=((n-1:Nat):Int)))) Zi))) (Zvw B.ent (by omega) (by rw[show n-1+1=n by omega,Nat.mod_self];omega) (by omega) (by omega)))
 have no:(OKr n S p->False)->Zoa n S p none:=λq=>⟨λr z=>(nomatch z),λr' h hp=>by
  have e:=hp.eq_of_length (by rw[l,h.pm.len])
  exact(q (e▸h)).elim⟩
 cases c1:decide (p.getD 1 0<p.getD (n-1) 0)with
 | false=>
  rw[c1]at t1
  exact⟨none,st (Zs1 (Zlk t1) Zt),no λh=>of_decide_eq_false c1 h.lt⟩
 | true=>
  rw[c1]at t1
  cases c2:fits n S p (n-1)with
  | false=>
   rw[c2]at t2
   exact⟨none,st (Zs1 (Zmq t1 t2) Zt),no λh=>by have:=h.ok (n-1) (by omega);rw[c2]at this;cases this⟩
  | true=>
   rw[c2]at t2
   have ok:OKr n S p:=⟨.of B.ent B.nd l,pz,of_decide_eq_true c1,λb hb=>by
    by_cases q:b+1<n
    ·exact B.ok b (by omega)
    ·rw[show b=n-1 by omega];exact c2⟩
   refine⟨some p,st (Z3m (Zmq t1 t2) Za),λr hr=>?_,λr' h hp=>⟨p,rfl,.inl (hp.eq_of_length (by rw[l,h.pm.len]))⟩⟩
   cases hr
   exact⟨ok,List.prefix_refl _⟩
theorem Znv{n:Nat}{S:Nat->Nat->Int}{p:List Int}(B:Beg n S p)(l:p.length<n){g:Nat->Option (List Int)}(hg:∀i,i<n-1->(cnd n S p (1+(i:Int))=true->Zoa n S (p ++ [1+(i:Int)]) (g i))∧(cnd n S p (1+(i:Int))=false->g i=none)):Zoa n S p (((Xv (n-1)).find? λi=>(g i).isSome).bind g):=by
 have lead:∀r',OKr n S r'->p<+: r'->∃j r t,j<n-1∧g j=some r∧r'=p ++ (1+(j:Int)) :: t∧(r=r'∨ltI r r'=true):=λr' h hp=>by
  obtain⟨t,rfl⟩:=hp
  have len:=h.pm.len
  rw[Xw]at len
  cases t with
  | nil=>rw[Vf]at len;omega
  | cons y t=>
   have ym:y∈p ++ y :: t:=Qc _ (.head _)
   obtain⟨y0,y1⟩:=J7.mp (h.pm.mem_iff.mp ym)
   obtain⟨_,_,dj⟩:=Vh.mp h.pm.nodup
   have yn:y∉p:=λm=>dj y m y (.head _) rfl
   obtain⟨s,hs⟩:=B.z
   have yz:y≠0:=λe=>yn (by rw[e,hs];exact .head _)
   have ey:1+((y.toNat-1:Nat):Int)=y:=by omega
   have pre:p ++ [y]<+: p ++ y :: t:=⟨t,by rw[Q7];rfl⟩
   have pl:0<p.length:=by rw[hs];exact Nat.succ_pos _
   have c:cnd n S p y=true:=by
    unfold cnd
    rw[decide_eq_false yn,Zo5 pre (by rw[Xw,JP];omega) (by rw[Xw,JP];omega),h.ok _ (by omega)];rfl
   have G:=(hg (y.toNat-1) (by omega)).1
   rw[ey]at G
   obtain⟨r,hr,lr⟩:=(G c).first _ h pre
   exact⟨y.toNat-1,r,t,by omega,hr,by rw[ey],lr⟩
 have okx:∀i r,i<n-1->g i=some r->OKr n S r∧p ++ [1+(i:Int)]<+: r:=λi r hi hr=>by
  cases c:cnd n S p (1+(i:Int))with
  | false=>rw[(hg i hi).2 c]at hr;cases hr
  | true=>exact((hg i hi).1 c).ok r hr
 cases c:(Xv (n-1)).find? λi=>(g i).isSome with
 | none=>
  refine⟨λr z=>(nomatch z),λr' h hp=>?_⟩
  obtain⟨j,r,t,hj,e,_⟩:=lead r' h hp
  exact absurd (by rw[e];rfl) (List.find?_eq_none.mp c j (Ql.mpr hj))
 | some i=>
  obtain⟨s,hi,bef⟩:=List.find?_range_eq_some.mp c
  have hi:=Ql.mp hi
  obtain⟨r,er⟩:=Option.isSome_iff_exists.mp s
  obtain⟨o1,o2⟩:=okx i r hi er
  show Zoa n S p (g i)
  rw[er]
  refine⟨λr2 z=>?_,λr' h hp=>?_⟩
  ·cases z
   exact⟨o1,(List.prefix_append _ _).trans o2⟩
  ·obtain⟨j,r2,t,hj,e,et,lr⟩:=lead r' h hp
   refine⟨r,rfl,?_⟩
   rcases VD i j with q|q|q
   ·obtain⟨u,hu⟩:=o2
    rw[Q7]at hu
    refine .inr ?_
    rw[←hu,et]
    exact Zs5 p (by omega)
   ·subst q
    rw[er]at e
    cases e
    exact lr
   ·have:=bef j q
    rw[e]at this
    cases this
theorem Zzy(o:Option (List Int)):Zfv (opD o) .none=some (.bool o.isSome):=by cases o<;>rfl
theorem Zwg{n:Nat}(h3:3≤n)(hn:n≤10){S:Nat->Nat->Int}:∀(k:Nat) (p:List Int),Beg n S p->p.length≤n->n<p.length+k->∃o,Told (Z1 k) [Yw n S,Zg p] (opD o)∧Zoa n S p o:=by
 intro k
 induction k with
 | zero=>exact λp _ a b=>absurd b (by omega)
 | succ k ih=>
  intro p B l1 l2
  by_cases l:p.length=n
  ·exact Zsi h3 hn B l
  have ll:p.length<n:=by omega
  have l0:0<p.length:=by obtain⟨t,ht⟩:=B.z;rw[ht];exact Nat.succ_pos _
  have ex:∀i:Nat,∃o,i<n-1->(cnd n S p (1+(i:Int))=true->Told (Z1 k) [Yw n S,Zg (p ++ [1+(i:Int)])] (opD o)∧Zoa n S (p ++ [1+(i:Int)]) o)∧(cnd n S p (1+(i:Int))=false->o=none):=λi=>by
   by_cases q:i<n-1∧cnd n S p (1+(i:Int))=true
   ·obtain⟨o,h1,h2⟩:=ih (p ++ [1+(i:Int)]) (B.add ll (by omega) (by omega) q.2) (by rw[Xw];exact ll) (by rw[Xw,JP];omega)
    exact⟨o,λ_=>⟨λ_=>⟨h1,h2⟩,λz=>by rw[q.2]at z;cases z⟩⟩
   ·exact⟨none,λhi=>⟨λc=>absurd ⟨hi,c⟩ q,λ_=>rfl⟩⟩
  obtain⟨g,hg⟩:=Classical.axiomOfChoice ex
  refine⟨_,?_,Znv B ll λi hi=>⟨λc=>((hg i hi).1 c).2,(hg i hi).2⟩⟩
  have key:=Zk0 (g:=gNm 3) (u:=Wz (tAn (tV (Zf (Znk true) (Zd 3) (Zd 1))) (tD (Zr Yn (Zc (Zd 0) (Zc (Z6 Zk3 (Zd 1) (Zch (Zc (Zd 3) Zm))) (Zc (Zf gSb (J2 J6 (Zc (Zd 1) Zm)) (fC (.int 1))) Zm))))))
  (Zz (wE (Zr (Z1 k) (Zc (Zd 0) (Zc (Z6 Zk3 (Zd 1) (Zch (Zc (Zd 3) Zm))) Zm))) (Yt 4))
  (Wz (tV (Zf Zfv (Zd 4) (fC .none)))
  (wE (Zd 4) Ji)
  fNx))
  fNx) (λi:Nat=>Xk (1+(i:Int))) (λi=>(g i).isSome) (λ_ δ=>∃z3 z4,δ=[some (.fz (Yw n S)),some (.fz (Zg p)),some (.fz (.int n)),z3,z4]) (λi=>opD (g i)) (Xv (n-1)) (λi done rest ea δ hI=>?_) (Xv (n-1)) [] rfl [some (.fz (Yw n S)),some (.fz (Zg p)),some (.fz (.int n)),none,none] ⟨_,_,rfl⟩
  ·have hi:EvI (iRb (Zc (fC (.int 1)) (Zc (Zd 2) Zm))) [some (.fz (Yw n S)),some (.fz (Zg p)),some (.fz (.int n)),none,none] ((Xv (n-1)).map λi:Nat=>Xk (1+(i:Int))):=Zsk (m:=1) (n:=n) (Zb Zt (Zb (Za rfl) Zi)) (by decide) (by omega)
   have st:∀{S' S2:FS} {d:Xa},Zkc S' [some (.fz (Yw n S)),some (.fz (Zg p)),some (.fz (.int n)),none,none] d->Zkc (Zz (wE (J2 J6 (Zc (Zd 0) Zm)) (Yt 2)) (Zz (Wz (tV (Zf gEq (J2 J6 (Zc (Zd 1) Zm)) (Zd 2))) S2 fNx) S')) (Zes 5 [Yw n S,Zg p]) d:=λq=>Zv (Zq (Jm (Zb Za Zi) (Zds n S)))<|Zv (Zx (Wy (Zed (Yz Za) Za (decide_eq_false λz=>l (Int.ofNat.inj z)))) rfl) q
   cases c:(Xv (n-1)).find? λi=>(g i).isSome with
   | none=>
    obtain⟨δ',e,z3,z4,rfl⟩:=key.1 c
    exact Z2 rfl (st (Zv (Zem hi e) (Yi Zt)))
   | some i=>
    obtain⟨o,δ',e,d⟩:=key.2 i c
    exact Z2 rfl (st (Jp ⟨o,δ',Zem hi e,d⟩))
  ·obtain⟨z3,z4,rfl⟩:=hI
   have hi:i<n-1:=Ql.mp (by rw[←ea];exact Qc _ (.head _))
   obtain⟨g1,g2⟩:=hg i hi
   have t1:EvT (tV (Zf (Znk true) (Zd 3) (Zd 1))) [some (.fz (Yw n S)),some (.fz (Zg p)),some (.fz (.int n)),some (.fz (.int (1+(i:Int)))),z4] (!decide (1+(i:Int)∈p)):=Wy (Zo (Za rfl) (Za rfl) (Zdp true _ _))
   have cat:∀{δ:Zj},δ[1]? =some (some (.fz (Zg p)))->δ[3]? =some (some (.fz (.int (1+(i:Int)))))->EvV (Z6 Zk3 (Zd 1) (Zch (Zc (Zd 3) Zm))) δ (Zg (p ++ [1+(i:Int)])):=λh1 h3=>Zna (Za h1) (Zpr (Za h3)) (by omega) (show 1≤1000 by decide)
   by_cases m:1+(i:Int)∈p
   ·rw[decide_eq_true m]at t1
    have gn:=g2 (by unfold cnd;rw[decide_eq_true m];rfl)
    exact⟨_,rfl,λ_=>⟨_,Zx (Zlk t1) rfl,_,_,rfl⟩,λz=>by rw[gn]at z;cases z⟩
   rw[decide_eq_false m]at t1
   have ent:Ent n (p ++ [1+(i:Int)]):=λy hy=>by
    rcases QJ.mp hy with q|q
    ·exact B.ent y q
    ·rw[Xu.mp q];exact⟨by omega,by omega⟩
   have t2:EvT (tD (Zr Yn (Zc (Zd 0) (Zc (Z6 Zk3 (Zd 1) (Zch (Zc (Zd 3) Zm))) (Zc (Zf gSb (J2 J6 (Zc (Zd 1) Zm)) (fC (.int 1))) Zm))))) [some (.fz (Yw n S)),some (.fz (Zg p)),some (.fz (.int n)),some (.fz (.int (1+(i:Int)))),z4] (fits n S (p ++ [1+(i:Int)]) (p.length-1)):=Zec (Zk (Zb (Za rfl) (Zb (cat rfl rfl) (Zb ((Zb8 (Yz (p:=p) (Za rfl)) Zt).cast (congrArg Xk (by omega:(p.length:Int)-1=((p.length-1:Nat):Int)))) Zi))) (Zvw ent (by rw[Xw];omega) (by rw[show p.length-1+1=p.length by omega,Nat.mod_eq_of_lt ll,Xw];exact Qx _) (by omega) (by omega)))
   cases c:fits n S (p ++ [1+(i:Int)]) (p.length-1)with
   | false=>
    rw[c]at t2
    have gn:=g2 (by unfold cnd;rw[c,Bool.and_false])
    exact⟨_,rfl,λ_=>⟨_,Zx (Zmq t1 t2) rfl,_,_,rfl⟩,λz=>by rw[gn]at z;cases z⟩
   | true=>
    rw[c]at t2
    have T:=(g1 (by unfold cnd;rw[c,decide_eq_false m];rfl)).1
    have s4:wE (Zr (Z1 k) (Zc (Zd 0) (Zc (Z6 Zk3 (Zd 1) (Zch (Zc (Zd 3) Zm))) Zm))) (Yt 4) [some (.fz (Yw n S)),some (.fz (Zg p)),some (.fz (.int n)),some (.fz (.int (1+(i:Int)))),z4]= .nx [some (.fz (Yw n S)),some (.fz (Zg p)),some (.fz (.int n)),some (.fz (.int (1+(i:Int)))),some (.fz (opD (g i)))]:=(Zq (Zk (Zb (Za rfl) (Zb (cat rfl rfl) Zi)) T)).trans rfl
    have t4:EvT (tV (Zf Zfv (Zd 4) (fC .none))) [some (.fz (Yw n S)),some (.fz (Zg p)),some (.fz (.int n)),some (.fz (.int (1+(i:Int)))),some (.fz (opD (g i)))] (g i).isSome:=Wy (Zo (Za rfl) Zt (Zzy _))
    refine⟨_,rfl,λz=>?_,λz=>?_⟩
    ·have z:(g i).isSome=false:=z
     rw[z]at t4
     exact⟨_,W2 (Zmq t1 t2) (Z5 s4 (Zx t4 rfl)),_,_,rfl⟩
    ·have z:(g i).isSome=true:=z
     rw[z]at t4
     exact Zbf (Zmq t1 t2) (Zv s4 (Zbf t4 (Yi (Za rfl))))
theorem Zkp{n:Nat}{R:Nat->Nat->Int}{b:Int}(h3:3≤n)(hn:n≤8)(hb:0<b)(bb:Bt 300 b)(W:Rw n R):∃o,Told J8 [tbD (Zck n R b)] (opD o)∧(∀r,o=some r->Pm n r∧r.getD 0 0=0∧r.getD 1 0<r.getD (n-1) 0∧Zqb n R r=none)∧∀r,Pm n r->r.getD 0 0=0->r.getD 1 0<r.getD (n-1) 0->Zqb n R r=none->∃r1,o=some r1∧(r1=r∨ltI r1 r=true):=by
 obtain⟨m,k,S,e1,eS,m0,k0,rfl,bm,sc⟩:=Ztn (by omega:n<64) hb bb W.bt
 have hle:J6 [tbD (Zck n R (m*k))]=some (.int n):=by rw[Zoh,Zhf]
 have kv:∀r,Pm n r->∀q∈Yc n,k*twS n S r q.1 q.2=tq n R r q:=λr h q hq=>by
  have hI:=h.inR
  obtain⟨l1,l2⟩:=Wg hq
  obtain⟨_,a1⟩:=hI.at (i:=q.1) (by omega)
  obtain⟨_,a2⟩:=hI.at (i:=q.1+1) (by omega)
  obtain⟨_,a3⟩:=hI.at l2
  obtain⟨_,a4⟩:=hI.at (Nat.mod_lt (q.2+1) (by omega:0<n))
  show k*(S _ _+S _ _-S _ _-S _ _)=R _ _+R _ _-R _ _-R _ _
  rw[Int.mul_sub,Int.mul_sub,Int.mul_add,sc _ _ a1 a3,sc _ _ a2 a4,sc _ _ a1 a4,sc _ _ a2 a3]
 have bar:∀r,Pm n r->(Zqb n R r=none↔∀b<n,fits n S r b=true):=λr h=>by
  unfold Zqb
  rw[List.find?_eq_none]
  constructor
  ·intro q b hb
   refine Zhc.mpr λa ha=>Ug.mp λz=>?_
   have hm:(a,b)∈Yc n:=Zql ha hb
   refine q (a,b) hm (decide_eq_true ?_)
   rw[←kv r h _ hm]
   exact Int.mul_neg_of_pos_of_neg k0 z
  ·intro q x hx z
   obtain⟨l1,l2⟩:=Wg hx
   have:=Zhc.mp (q x.2 l2) x.1 l1
   have z:=of_decide_eq_true z
   rw[←kv r h _ hx]at z
   exact Ug.mpr (Int.mul_nonneg (Int.le_of_lt k0) this) z
 have B0:Beg n S [0]:=⟨λx hx=>by rw[Xu.mp hx];exact⟨Int.le_refl _,by omega⟩,Qm.mpr ⟨(λz=>nomatch z),.nil⟩,⟨[],rfl⟩,λb hb=>absurd hb (by rw[JP];omega)⟩
 obtain⟨o,T,G⟩:=Zwg h3 (by omega) (S:=S) 8 [0] B0 (by rw[JP];omega) (by rw[JP];omega)
 refine⟨o,Z2 rfl<|Zv (Zx (Wy (Zbk (Jm (Zb Za Zi) hle) Zt (decide_eq_false (by omega)))) rfl)<|Yi (Zk (Zb (Zk (Zb (Zk (Zb Za Zi) e1) (Zb Za Zi)) eS) (Zb (Zpr Zt) Zi)) T),λr hr=>?_,λr h z l q=>?_⟩
 ·obtain⟨K,_⟩:=G.ok r hr
  exact⟨K.pm,K.z,K.lt,(bar r K.pm).mpr K.ok⟩
 ·refine G.first r ⟨h,z,l,(bar r h).mp q⟩ ?_
  have len:=h.len
  cases r with
  | nil=>rw[Vf]at len;omega
  | cons x r=>
   have z:x=0:=z
   exact⟨r,by rw[z];rfl⟩
theorem Zu4(a b:List Int):Z33 (Zg a) (Zg b)=some (.bool (ltI a b)):=by
 show(Zbj (a.map Xk)).bind _=_
 rw[Jf,Xd,Jf,Xd]
theorem Yap(o:Option (List Int)):gIs (opD o) .none=some (.bool o.isNone):=by cases o<;>rfl
theorem Z4p{δ:Zj}{i n:Nat}(h:δ[i]? =some (some (.fz (.int n))))(hn:n≤10):EvV (Zr9 (Zc (Zd i) Zm)) δ (Zg (W8 n)):=by
 refine⟨.nd ((Zci 0 n).map OT.fz),?_,by rw[OT.data_nd,OT.map_fz];exact Zpa n⟩
 rw[Znl,Zlb,Zlf,h,Zkm,Xd,Zsa,Xd,Xd,Zaz,Zcc,OT.data_fz,Zx5,if_pos ⟨Zhs (by omega) (by omega),by rw[Qa];omega⟩];rfl
theorem Pm.sort{n:Nat}{r:List Int}(h:Pm n r):Yv r=W8 n:=Wo ((Z8 r).trans h) (Y6 r) (Zfm n)
noncomputable def lE(ns:List Int)(n:Nat)(c2:Int)(o3 o4 o5 o6 o7 o8 o9:Option OT):Zj:=[some (.fz (Zg ns)),some (.fz (.int n)),some (.fz (.int c2)),o3,o4,o5,o6,o7,o8,o9]
theorem Z5t{n:Nat}{R:Nat->Nat->Int}{p:List Int}{b:Int}:gIx (Zvn n R p b) (.int 0)=some (.fz (.str (if(Zqb n R p).isSome=true then"bars"else"ring"))):=by
 unfold Zvn
 cases Zqb n R p<;>rfl
theorem Zwa(ns:List Int)(hl:ns.length≤63):Zf1 [.list (ns.map Xk)]= .ok (.fz (.bool true)):=by
 show Zf1 [Zg ns]=_
 obtain⟨c0,e0⟩:=Zd6 ns (k:=0) (by decide)
 obtain⟨c1,e1⟩:=Zd6 ns (k:=1) (by decide)
 obtain⟨c2,e2⟩:=Zd6 ns (k:=2) (by decide)
 obtain⟨c3,e3⟩:=Zd6 ns (k:=3) (by decide)
 obtain⟨n0,en,h03,h08⟩:∃n:Nat,Ju [.int c0,.int 3,.int 6,.int 8]= .ok (.fz (.int n))∧3≤n∧n≤8:=by
  obtain⟨m,e,h1,h2⟩:=Z3j c0 (a:=3) (b:=6) (d:=8) (by decide) (by decide)
  exact⟨m.toNat,by rw[e,Int.toNat_of_nonneg (by omega)],by omega,by omega⟩
 obtain⟨n,h3,hn,s3⟩:∃n:Nat,3≤n∧n≤8∧(Wz (tV (Zf gEq (Zf Zay (Zd 2) (fC (.int 2))) (fC (.int 0)))) (wE (J2 Z7o (Zc (Zd 1) (Zc (fC (.int 7)) Zm))) (Yt 1)) fNx) (lE ns n0 c2 none none none none none none none)= .nx (lE ns n c2 none none none none none none none):=by
  have t:=Wy (Zed (δ:=lE ns n0 c2 none none none none none none none) (Wj (Za (i:=2) rfl) (Zt (d:=.int 2)) (by decide)) (Zt (d:=.int 0)) rfl)
  cases c:decide (c2.fmod 2=0)with
  | false=>
   rw[c]at t
   exact⟨n0,h03,h08,Zx t rfl⟩
  | true=>
   rw[c]at t
   refine⟨min n0 7,by omega,by omega,W2 t ((Zq (d:=.int ((min n0 7:Nat):Int)) ((Jm (Zb (Za (i:=1) rfl) (Zb (Zt (d:=.int 7)) Zi)) (Z7v _ _)).cast (congrArg Xk ?_))).trans rfl)⟩
   split<;>omega
 have n10:n≤10:=by omega
 obtain⟨b,Tb,hb,bb⟩:=Zuf c1
 obtain⟨d1,T1,G1⟩:=Zv8 ns h3 n10 c1
 obtain⟨d2,G2,s5⟩:∃d2,GoodR n d2∧(Wz (tV (Zf gEq (Zf Zay (Zd 2) (fC (.int 2))) (fC (.int 1))))
  (wE (Zr Ym (Zc (Zd 1) (Zc (Zr Jj (Zc (Zr Wi (Zc (Zf Je (Zd 2) (fC (.int 2))) (Zc (Zd 1) Zm))) Zm)) (Zc (Zr Yx (Zc (Zd 0) (Zc (fC (.int 4)) (Zc (Zd 1) (Zc (Zd 3) Zm))))) Zm)))) (Yt 5))
  fNx) (lE ns n c2 (some (.fz (.int c1))) (some (.fz (.int b))) (some (.fz d1)) none none none none)= .nx (lE ns n c2 (some (.fz (.int c1))) (some (.fz (.int b))) (some (.fz d2)) none none none none):=by
  have t:=Wy (Zed (δ:=lE ns n c2 (some (.fz (.int c1))) (some (.fz (.int b))) (some (.fz d1)) none none none none) (Wj (Za (i:=2) rfl) (Zt (d:=.int 2)) (by decide)) (Zt (d:=.int 1)) rfl)
  cases c:decide (c2.fmod 2=1)with
  | false=>
   rw[c]at t
   exact⟨d1,G1,Zx t rfl⟩
  | true=>
   rw[c]at t
   obtain⟨r,Tr,pr,_⟩:=Zii (c2.fdiv 2) h3 n10
   obtain⟨Ls,Ts,lL⟩:=Zwr pr.len n10
   obtain⟨vs,Tv,_,hv⟩:=Zh1 ns 4 n c1 n10
   obtain⟨L,eL,D,sy,_⟩:=Zu6 n10 (Ls:=Ls) lL hv
   exact⟨_,⟨L,rfl,D.wide (by decide),sy⟩,W2 t ((Zq (Zk (Zb (Za (i:=1) rfl) (Zb (Zk (Zb (Zk (Zb (Zaa (Za (i:=2) rfl) Zt) (Zb (Za (i:=1) rfl) Zi)) Tr) Zi) Ts) (Zb (Zk (Zb (Za (i:=0) rfl) (Zb (Zt (d:=.int 4)) (Zb (Za (i:=1) rfl) (Zb (Za (i:=3) rfl) Zi)))) Tv) Zi))) ⟨_,eL,rfl⟩)).trans rfl)⟩
 obtain⟨R,rfl,W⟩:=G2.rows
 have Tt:=Zl7 n10 R hb bb
 obtain⟨o,To,ok,first⟩:=Zkp h3 hn hb bb W
 have rb:∀{r:List Int},Pm n r->r.getD 0 0=0->r.getD 1 0<r.getD (n-1) 0->ringB n r=true:=λh z l=>h.ringB h3 z l
 obtain⟨E,hE⟩:∃E:Option OT->Option OT->Zj,E= λz8 z9=>lE ns n c2 (some (.fz (.int c1))) (some (.fz (.int b))) (some (.fz (Yw n R))) (some (.fz (tbD (Zck n R b)))) (some (.fz (opD o))) z8 z9:=⟨_,rfl⟩
 have s8:(Wz (tV (Zf Zfv (Zd 7) (fC .none)))
  (Zz (Wz (tO (tNo (tD (Ziw "list" (Zd 7)))) (tO (tV (Zf gNe (fBl Zcx (Zc (Zd 7) Zm)) (Zr9 (Zc (Zd 1) Zm)))) (tO (tV (Zf gNe (Z6 gIx (Zd 7) (fC (.int 0))) (fC (.int 0)))) (tV (Zf gGt (Z6 gIx (Zd 7) (fC (.int 1))) (Z6 gIx (Zd 7) (fUn Znj (fC (.int 1)))))))))
  (wE (fC (.bool false)) Ji)
  fNx)
  (Wz (tO (tV (Zf gNe (Z6 gIx (Zr Yu (Zc (Zd 6) (Zc (Zd 7) Zm))) (fC (.int 0))) (fC (.str "ring")))) (tNo (tD (Zr Yj (Zc (Zd 6) (Zc (Zd 7) (Zc (Zd 5) (Zc (Zd 4) Zm))))))))
  (wE (fC (.bool false)) Ji)
  fNx))
  fNx) (E none none)= .nx (E none none):=by
  rw[hE]
  have t:=Wy (Zo (δ:=lE ns n c2 (some (.fz (.int c1))) (some (.fz (.int b))) (some (.fz (Yw n R))) (some (.fz (tbD (Zck n R b)))) (some (.fz (opD o))) none none) (Za (i:=7) rfl) (Zt (d:=.none)) (Zzy o))
  cases co:o with
  | none=>
   rw[co]at t
   exact Zx t rfl
  | some r=>
   rw[co]at t
   obtain⟨pm,z,lt,nb⟩:=ok r co
   have len:=pm.len
   refine W2 t (Z5 (Zx (Zht (Zfw (p:=true) (Zec (Zgs (Za (i:=7) (d:=Zg r) rfl) rfl))) (Zht (Wy (Zo (Zvm (Zb (Za (i:=7) (d:=Zg r) rfl) Zi) (Zcb (by omega)) (Zev _)) (Z4p (i:=1) rfl n10) (by rw[pm.sort,Zg8,decide_eq_true rfl];rfl))) (Zht (Wy (Zmb (Y5 (Za (i:=7) (d:=Zg r) rfl) (Zt (d:=.int 0)) (Zd7 (p:=r) (i:=0) (by decide) (by omega))) (Zt (d:=.int 0)) (by rw[show r.getD (0:Int).toNat 0=0 from z,decide_eq_true rfl];rfl))) (Wy (Zrc (Y5 (Za (i:=7) (d:=Zg r) rfl) (Zt (d:=.int 1)) (Zd7 (p:=r) (i:=1) (by decide) (by omega))) (Y5 (Za (i:=7) (d:=Zg r) rfl) (Zhg (Zt (d:=.int 1))) (Zfk (p:=r) (by omega))) (decide_eq_false (by rw[len];show¬r.getD (n-1) 0<r.getD 1 0;omega))))))) rfl) (Zx (Zht (Wy (Zo (Y5 (Zk (Zb (Za (i:=6) rfl) (Zb (Za (i:=7) (d:=Zg r) rfl) Zi)) (Zdq pm (rb pm z lt) n10 hb bb W)) (Zt (d:=.int 0)) Z5t) (Zt (d:=.str "ring")) (by rw[nb];exact(Zhd Zki).1))) (Zfw (p:=true) (Zec (Zk (Zb (Za (i:=6) rfl) (Zb (Za (i:=7) (d:=Zg r) rfl) (Zb (Za (i:=5) rfl) (Zb (Za (i:=4) rfl) Zi)))) (Zfo pm (rb pm z lt) n10 hb bb W))))) rfl))
 refine Told.ok (Z2 rfl ?_)
 refine Zv (Zq (Zk (Zb (Zk (Zb Za (Zb Zt Zi)) (.of e0 (OT.data_fz _))) (Zb Zt (Zb Zt (Zb Zt Zi)))) (.of en (OT.data_fz _))))<|Zv (Zq (Zk (Zb Za (Zb Zt Zi)) (.of e2 (OT.data_fz _))))<|Zv s3<|Zv (Zq (Zk (Zb (Za (i:=0) rfl) (Zb Zt Zi)) (.of e1 (OT.data_fz _))))<|Zv (Zq (Zk (Zb (Za rfl) Zi) Tb))<|Zv (Zq (Zk (Zb (Za (i:=0) rfl) (Zb Zt (Zb (Za (i:=1) rfl) (Zb (Za (i:=3) rfl) Zi)))) T1))<|Zv s5<|Zv (Zq (Zk (Zb (Za rfl) (Zb (Za rfl) Zi)) Tt))<|Zv (δ':=E none none) ((Zq (Zk (Zb (Za rfl) Zi) To)).trans (by rw[hE];rfl))<|Zv s8 ?_
 refine Zjg (ds:=Zci 0 3) (λ_ δ=>∃z8 z9,δ=E z8 z9) (by rw[hE];exact Zee (n:=3) (Zb Zt Zi) (by decide)) ⟨_,_,rfl⟩ (λi d δ hd q=>?_) λδ' q=>by obtain⟨z8,z9,rfl⟩:=q;exact Yi Zt
 obtain⟨z8,z9,rfl⟩:=q
 obtain⟨_,rfl⟩:=Ws hd
 obtain⟨v,Tv⟩:=Zdb c3 (0+(i:Int))
 obtain⟨r,Tr,pm,z,lt⟩:=Zii v h3 n10
 rw[hE]
 refine⟨_,_,rfl,.inl (Z5 (Zq (Zk (Zb (Zk (Zb (Zk (Zb (Za (i:=0) rfl) (Zb Zt Zi)) (.of e3 (OT.data_fz _))) (Zb (Za (i:=8) rfl) Zi)) Tv) (Zb (Za (i:=1) rfl) Zi)) Tr))<|Z5 (Zx (Zfw (p:=true) (Zec (Zk (Zb (Za (i:=6) rfl) (Zb (Za (i:=9) rfl) (Zb (Za (i:=5) rfl) (Zb (Za (i:=4) rfl) Zi)))) (Zfo pm (rb pm z lt) n10 hb bb W)))) rfl) (Zx ?_ rfl)),_,_,rfl⟩
 obtain⟨δ,hδ⟩:∃δ,δ=lE ns n c2 (some (.fz (.int c1))) (some (.fz (.int b))) (some (.fz (Yw n R))) (some (.fz (tbD (Zck n R b)))) (some (.fz (opD o))) (some (.fz (.int (0+(i:Int))))) (some (.fz (Zg r))):=⟨_,rfl⟩
 have ta:=Wy (Zo (δ:=δ) (Za (i:=7) (d:=opD o) (hδ▸rfl)) (Zt (d:=.none)) (Yap o))
 have tc:=Wy (Zo (g:=gNe) (δ:=δ) (Y5 (Zk (Zb (Za (i:=6) (d:=tbD (Zck n R b)) (hδ▸rfl)) (Zb (Za (i:=9) (d:=Zg r) (hδ▸rfl)) Zi)) (Zdq pm (rb pm z lt) n10 hb bb W)) (Zt (d:=.int 0)) Z5t) (Zt (d:=.str "bars")) (d:=.bool (!(Zqb n R r).isSome)) (by
  cases(Zqb n R r).isSome
  ·exact(Zzn Zki Zj4 (by decide +kernel)).1
  ·exact(Zhd Zj4).1))
 have goal:EvT (tAn (tO (tV (Zf gIs (Zd 7) (fC .none))) (tV (Zf Z33 (Zd 9) (Zd 7)))) (tV (Zf gNe (Z6 gIx (Zr Yu (Zc (Zd 6) (Zc (Zd 9) Zm))) (fC (.int 0))) (fC (.str "bars"))))) δ false:=by
  have nob:Zqb n R r=none->∃r1,o=some r1∧ltI r r1=false:=λq=>by
   obtain⟨r1,h1,h2⟩:=first r pm z lt q
   refine⟨r1,h1,Bu.mpr λy=>?_⟩
   have ir:=Zol r
   rcases h2 with rfl|h2
   ·rw[y]at ir;cases ir
   ·rw[Zud y h2]at ir;cases ir
  cases co:o with
  | none=>
   rw[co]at ta
   cases q:Zqb n R r with
   | none=>
    obtain⟨r1,h1,_⟩:=nob q
    rw[co]at h1
    cases h1
   | some x=>
    rw[q]at tc
    exact Zmq (Zvr ta) tc
  | some r1=>
   rw[co]at ta
   have tb:=Wy (Zo (δ:=δ) (Za (i:=9) (d:=Zg r) (hδ▸rfl)) (Za (i:=7) (d:=Zg r1) (by rw[hδ,co];rfl)) (Zu4 r r1))
   cases q:Zqb n R r with
   | none=>
    obtain⟨r2,h1,h2⟩:=nob q
    rw[co]at h1
    cases h1
    rw[h2]at tb
    exact Zlk (Zht ta tb)
   | some x=>
    rw[q]at tc
    cases y:ltI r r1 with
    | true=>
     rw[y]at tb
     exact Zmq (Zht ta tb) tc
    | false=>
     rw[y]at tb
     exact Zlk (Zht ta tb)
 rw[hδ]at goal
 exact goal
end My
namespace L2
open PySem PySem.Spec PyProof.Rows
structure Ei(K:Xc)(x:Str)(st:Stmt)(f:Addr)(fd:XQ):Prop where
 a:QQ K Qj x=some (some (.ref f))
 F:Fun K x x st f fd
structure En(K:Xc)(mg:Str->Option Xf)(x:Str)(st:Stmt)(ps:List Str)(f:Addr)(fd:XQ):Prop where
 F:Fun K x x st f fd
 b:Binds K fd ps []
 m:mg x=some (.ref f)
structure Ec(K:Xc)(mg:Str->Option Xf)(x:Str)(f:Addr):Prop where
 m:mg x=some (.ref f)
 a:ClsAt K x f
section
variable {K:Xc}{h:Heap}{mg:Str->Option Xf}{x:Str}{st:Stmt}{f:Addr}{fd:XQ}
theorem en0(X:K.In h)(G:h.Ns Qj mg)(q:Ei K x st f fd){ps:List Str}(hb:∀(kV doc pm:Xf) (an:Option Addr) (cdv ct:Xf) (us:List Xf),us.length=ps.length->bindArgs (VH x x (Zf9 st) (Zcr st) (Zn st) .none kV doc pm an cdv ct) ⟨us,[]⟩=pure (ps.zip us)):En K mg x st ps f fd:=⟨q.F,q.F.binds hb,PySem.W.mg_of X G q.a⟩
noncomputable abbrev Bd(x:Str)(st:Stmt)(ps:List Str)(us:List Xf):Prop:=∀(kV doc pm:Xf) (an:Option Addr) (cdv ct:Xf),bindArgs (VH x x (Zf9 st) (Zcr st) (Zn st) .none kV doc pm an cdv ct) ⟨us,[]⟩=pure (ps.zip us)
theorem l_c{us:List Xf}{n:Nat}(h:us.length=n+1):∃u vs,us=u :: vs∧vs.length=n:=by
 cases us with
 | nil=>cases h
 | cons u vs=>exact⟨u,vs,rfl,Nat.succ.inj h⟩
theorem en1(X:K.In h)(G:h.Ns Qj mg)(q:Ei K x st f fd){p0:Str}(hb:∀v0,Bd x st [p0] [v0]:=by exact λ_ _ _ _ _ _ _=>rfl):En K mg x st [p0] f fd:=en0 X G q λa b c d e g us hl=>by
 have h0:us.length=1:=hl
 obtain⟨u0,us0,e0,h1⟩:=l_c h0
 cases Br h1
 subst e0
 exact hb u0 a b c d e g
theorem en2(X:K.In h)(G:h.Ns Qj mg)(q:Ei K x st f fd){p0 p1:Str}(hb:∀v0 v1,Bd x st [p0,p1] [v0,v1]:=by exact λ_ _ _ _ _ _ _ _=>rfl):En K mg x st [p0,p1] f fd:=en0 X G q λa b c d e g us hl=>by
 have h0:us.length=2:=hl
 obtain⟨u0,us0,e0,h1⟩:=l_c h0
 obtain⟨u1,us1,e1,h2⟩:=l_c h1
 cases Br h2
 subst e1
 subst e0
 exact hb u0 u1 a b c d e g
theorem en3(X:K.In h)(G:h.Ns Qj mg)(q:Ei K x st f fd){p0 p1 p2:Str}(hb:∀v0 v1 v2,Bd x st [p0,p1,p2] [v0,v1,v2]:=by exact λ_ _ _ _ _ _ _ _ _=>rfl):En K mg x st [p0,p1,p2] f fd:=en0 X G q λa b c d e g us hl=>by
 have h0:us.length=3:=hl
 obtain⟨u0,us0,e0,h1⟩:=l_c h0
 obtain⟨u1,us1,e1,h2⟩:=l_c h1
 obtain⟨u2,us2,e2,h3⟩:=l_c h2
 cases Br h3
 subst e2
 subst e1
 subst e0
 exact hb u0 u1 u2 a b c d e g
theorem en4(X:K.In h)(G:h.Ns Qj mg)(q:Ei K x st f fd){p0 p1 p2 p3:Str}(hb:∀v0 v1 v2 v3,Bd x st [p0,p1,p2,p3] [v0,v1,v2,v3]:=by exact λ_ _ _ _ _ _ _ _ _ _=>rfl):En K mg x st [p0,p1,p2,p3] f fd:=en0 X G q λa b c d e g us hl=>by
 have h0:us.length=4:=hl
 obtain⟨u0,us0,e0,h1⟩:=l_c h0
 obtain⟨u1,us1,e1,h2⟩:=l_c h1
 obtain⟨u2,us2,e2,h3⟩:=l_c h2
 obtain⟨u3,us3,e3,h4⟩:=l_c h3
 cases Br h4
 subst e3
 subst e2
 subst e1
 subst e0
 exact hb u0 u1 u2 u3 a b c d e g
theorem en5(X:K.In h)(G:h.Ns Qj mg)(q:Ei K x st f fd){p0 p1 p2 p3 p4:Str}(hb:∀v0 v1 v2 v3 v4,Bd x st [p0,p1,p2,p3,p4] [v0,v1,v2,v3,v4]:=by exact λ_ _ _ _ _ _ _ _ _ _ _=>rfl):En K mg x st [p0,p1,p2,p3,p4] f fd:=en0 X G q λa b c d e g us hl=>by
 have h0:us.length=5:=hl
 obtain⟨u0,us0,e0,h1⟩:=l_c h0
 obtain⟨u1,us1,e1,h2⟩:=l_c h1
 obtain⟨u2,us2,e2,h3⟩:=l_c h2
 obtain⟨u3,us3,e3,h4⟩:=l_c h3
 obtain⟨u4,us4,e4,h5⟩:=l_c h4
 cases Br h5
 subst e4
 subst e3
 subst e2
 subst e1
 subst e0
 exact hb u0 u1 u2 u3 u4 a b c d e g
theorem ec(X:K.In h)(G:h.Ns Qj mg)(a:QQ K Qj x=some (some (.ref f))):Ec K mg x f:=⟨PySem.W.mg_of X G a,a⟩
end
theorem fsc{N P:List Str}{sc:Uo}(h1:sc.kind= .function:=by rfl)(h2:sc.isCoroutine=false:=by rfl)(h3:sc.isGenerator=false:=by rfl)(h4:N.Nodup:=by decide +kernel)(h5:N.take P.length=P:=by rfl)(h6:∀x∈P,sc.names.lookup x=some .local∨sc.names.lookup x=some .cell:=by decide +kernel)(h7:∀y∈sc.names,y.2≠ .free:=by decide +kernel):Zw N P sc:=⟨h1,h2,h3,h4,h5,h6,h7⟩
section
variable {X:Cx}{io:List Nat}{st:Stmt}{sts ss ss':List Stmt}{f g:FS}{e:Expr}{es:List Expr}{p c:Bool}{ta:FT}{pos:Pos}{ra:FA}
noncomputable abbrev BS(X:Cx)(io:List Nat)(st:Stmt)(f:FS):Prop:=MS X io st (oS f)∧XS X io st (xS X.K f)
noncomputable abbrev BSs(X:Cx)(io:List Nat)(sts:List Stmt)(f:FS):Prop:=MSs X io sts (oS f)∧XSs X io sts (xS X.K f)
end
section
variable {X:Cx}{io:List Nat}{e:Expr}{es:List Expr}{p c:Bool}{ra:FA}{pos pp:Pos}{k k':Nat}{f:Addr}{fd:XQ}{ps:List Str}{x:Str}{F:FD}{st:Stmt}
theorem xce(G:FnOk X.prog X.w X.K X.mg X.base CX0 k f fd ps (spD X.K (sD F)))(hr:Room k' X.A)(E:En X.K X.mg x st ps f fd)(ha:MA X io p c (e :: es) (o2 ra))(hle:k≤k':=by decide)(hg:Gl X x:=by rfl)(h1:(x==("__debug__" : Str))=false:=by decide)(h2:Xo (e :: es) X.env=(false,eval e X.env) :: Xo es X.env:=by rfl)(h3:((JF pos (Xo es X.env)).any λx=>x.fst)=false:=by rfl):ME X io p c (.Call (.Name x pp) (e :: es) [] pos) (o2 (Zr F ra)):=xcl G (hr.mono hle) E.m E.F.kp E.b ha hg h1 h2 h3
end
section
variable {X:Cx}{io:List Nat}{p ci pt pe:Bool}{tg iter elt:Expr}{ifs:List Expr}{sc:Uo}{pos:Pos}{mi:MIt}{g:MGt}{mt:MTt}{me:MEt}
theorem Zi5(own:List Str)(caps:List Nat)(N':List Str)(hi:MI X io p ci tg iter mi)
  (hg:∀C cells s₂ H₂ fp,MG (Wb X N' sc C cells s₂ H₂ fp) (Zah own.length caps) ci tg g) (ht:∀C cells s₂ H₂ fp,MIfs (Wb X N' sc C cells s₂ H₂ fp) (Zah own.length caps) pt ifs mt) (he:∀C cells s₂ H₂ fp,ME (Wb X N' sc C cells s₂ H₂ fp) (Zah own.length caps) pe true elt me)
  (S:CompScope X own caps N' sc:=by exact⟨rfl,by decide +kernel,rfl,by decide +kernel,rfl,rfl⟩) (hc:X.calm=true:=by rfl) (nd:caps.Nodup:=by decide) (hp:(pt&&pe)=true:=by rfl) (hs:∀x,Bf iter X.env x=pure x:=by intro _;rfl):ME X io p true (.ListComp elt [⟨tg,iter,ifs,0⟩] sc pos) (Zgd own.length caps mi g mt me):=Z5v S hc nd hi hg ht he hp hs
end
end L2
namespace My
open PySem L2 PySem.Spec
noncomputable def top(i:Nat):Stmt:=PySem.Challenge.pw_farcuts_k32_whole_rings.main.body.getD i (.Pass ⟨0,0,0,0⟩)
noncomputable abbrev Zdw:Stmt:=top 33
noncomputable abbrev Zfz:Stmt:=top 28
noncomputable abbrev Zct:Stmt:=top 29
noncomputable abbrev Zbz:Stmt:=top 31
noncomputable abbrev Ze2:Stmt:=top 37
noncomputable abbrev Zgl:Stmt:=top 34
noncomputable abbrev Zcj:Stmt:=top 32
noncomputable abbrev Zey:Stmt:=top 38
noncomputable abbrev Zcn:Stmt:=top 27
noncomputable abbrev Zba:Stmt:=top 39
noncomputable abbrev Zf3:Stmt:=top 40
noncomputable abbrev Jr:Stmt:=top 43
noncomputable abbrev Zf6:Stmt:=top 41
noncomputable abbrev Ze6:Stmt:=top 42
noncomputable abbrev Zgh:Stmt:=top 36
noncomputable abbrev Zir:Stmt:=top 30
noncomputable abbrev Ze1:Stmt:=top 35
noncomputable abbrev Zbr:Stmt:=top 45
noncomputable abbrev Zdi:Stmt:=top 44
noncomputable abbrev Zga:Stmt:=top 5
noncomputable abbrev Zhw:Stmt:=top 17
noncomputable abbrev Zdc:Stmt:=top 18
noncomputable abbrev Jx:Stmt:=top 6
noncomputable abbrev Zgb:Stmt:=top 7
noncomputable abbrev Zgc:Stmt:=top 8
noncomputable abbrev Zgm:Stmt:=top 10
noncomputable abbrev Zbd:Stmt:=top 12
noncomputable abbrev Zbv:Stmt:=top 14
noncomputable abbrev Ze8:Stmt:=top 13
noncomputable abbrev Zdl:Stmt:=top 15
noncomputable abbrev Zbx:Stmt:=top 20
noncomputable abbrev Ze3:Stmt:=top 22
noncomputable abbrev Zdd:Stmt:=top 19
noncomputable abbrev Zcq:Stmt:=top 21
noncomputable abbrev Zam:Stmt:=top 46
noncomputable abbrev Zf0:Stmt:=top 23
noncomputable abbrev Zcv:Stmt:=top 24
noncomputable abbrev Zdh:Stmt:=top 25
noncomputable abbrev Z1l:Stmt:=top 47
set_option genInjectivity false in
set_option genSizeOfSpec false in
structure Txt(K:Xc)(mg:Str->Option Xf)(f:Nat->Addr)(fd:Nat->XQ)(cls:Nat->Addr):Prop where
 e_law_bottom:En K mg "_law_bottom" Zdw ["cell"] (f 0) (fd 0)
 e_law_stir:En K mg "_law_stir" Zfz ["cell","k"] (f 1) (fd 1)
 e_law_numbers:En K mg "_law_numbers" Zct ["cell","many"] (f 2) (fd 2)
 e_law_clusters:En K mg "_law_clusters" Zbz ["cell","n"] (f 3) (fd 3)
 e_law_drawn:En K mg "_law_drawn" Ze2 ["script","start","n","base","cell"] (f 4) (fd 4)
 e_law_rows:En K mg "_law_rows" Zgl ["n","sides","weights"] (f 5) (fd 5)
 e_law_weights:En K mg "_law_weights" Zcj ["script","start","many","cell"] (f 6) (fd 6)
 e_law_built:En K mg "_law_built" Zey ["script","start","n","cell"] (f 7) (fd 7)
 e_law_cell_at:En K mg "_law_cell_at" Zcn ["script","k"] (f 8) (fd 8)
 e_law_put_right:En K mg "_law_put_right" Zba ["ring"] (f 9) (fd 9)
 e_law_ring:En K mg "_law_ring" Zf3 ["cell","n"] (f 10) (fd 10)
 e_law_ring_weights:En K mg "_law_ring_weights" Jr ["script","start","n","cell"] (f 11) (fd 11)
 e_law_gaps:En K mg "_law_gaps" Zf6 ["n"] (f 12) (fd 12)
 e_law_sides:En K mg "_law_sides" Ze6 ["ring"] (f 13) (fd 13)
 e_law_size:En K mg "_law_size" Zgh ["cell","least","most","great"] (f 14) (fd 14)
 e_law_low:En K mg "_law_low" Zir ["top","bottom"] (f 15) (fd 15)
 e_law_table:En K mg "_law_table" Ze1 ["rows","bottom"] (f 16) (fd 16)
 e_law_are_cuts:En K mg "_law_are_cuts" Zbr ["n","cuts","bottom"] (f 17) (fd 17)
 e_law_sum_of:En K mg "_law_sum_of" Zdi ["n","cuts","bottom","rows"] (f 18) (fd 18)
 e_is_whole:En K mg "is_whole" Zga ["thing"] (f 19) (fd 19)
 e_is_ring:En K mg "is_ring" Zhw ["n","ring"] (f 20) (fd 20)
 e_check_ring:En K mg "check_ring" Zdc ["n","ring"] (f 21) (fd 21)
 e_greatest_divisor:En K mg "greatest_divisor" Jx ["a","b"] (f 22) (fd 22)
 e_in_least:En K mg "in_least" Zgb ["top","bottom"] (f 23) (fd 23)
 e_fraction:En K mg "fraction" Zgc ["top","bottom"] (f 24) (fd 24)
 e_pairs_of:En K mg "pairs_of" Zgm ["n"] (f 25) (fd 25)
 e_shared_bottom:En K mg "shared_bottom" Zbd ["numbers"] (f 26) (fd 26)
 e_table_bottom:En K mg "table_bottom" Zbv ["table"] (f 27) (fd 27)
 e_tops_over:En K mg "tops_over" Ze8 ["bottom","numbers"] (f 28) (fd 28)
 e_table_over:En K mg "table_over" Zdl ["bottom","table"] (f 29) (fd 29)
 e_twice_weight:En K mg "twice_weight" Zbx ["rows","ring","a","b"] (f 30) (fd 30)
 e_ring_told:En K mg "ring_told" Ze3 ["table","ring"] (f 31) (fd 31)
 e_check_gaps:En K mg "check_gaps" Zdd ["n","a","b"] (f 32) (fd 32)
 e_ring_weight:En K mg "ring_weight" Zcq ["table","ring","a","b"] (f 33) (fd 33)
 e_law_told_right:En K mg "_law_told_right" Zam ["table","ring","rows","bottom"] (f 34) (fd 34)
 e_fits_gap:En K mg "fits_gap" Zf0 ["rows","ring","b"] (f 35) (fd 35)
 e_first_grown:En K mg "first_grown" Zcv ["rows","begun"] (f 36) (fd 36)
 e_first_ring:En K mg "first_ring" Zdh ["table"] (f 37) (fd 37)
 e_law:En K mg "law" Z1l ["script"] (f 38) (fd 38)
 z_abs:mg "abs"=none
 z_bool:mg "bool"=none
 z_int:mg "int"=none
 z_isinstance:mg "isinstance"=none
 z_len:mg "len"=none
 z_list:mg "list"=none
 z_max:mg "max"=none
 z_min:mg "min"=none
 z_range:mg "range"=none
 z_set:mg "set"=none
 z_sorted:mg "sorted"=none
 z_tuple:mg "tuple"=none
 z_zip:mg "zip"=none
 c_NoNumber:Ec K mg "NoNumber" (cls 0)
 c_NoOrder:Ec K mg "NoOrder" (cls 1)
 x_NoNumber:Zgj K (cls 0)
 x_NoOrder:Zgj K (cls 1)
 r_NoNumber:Zxt K (cls 0)
 r_NoOrder:Zxt K (cls 1)
section
variable {P:X6}{w:Qq}{K:Xc}{mg:Str->Option Xf}{base:Heap}
theorem Zll:Zw ["cell"] ["cell"] (Zn Zdw):=fsc
theorem Zkn{f:Nat->Addr}{fd:Nat->XQ}{cls:Nat->Addr}(T:Txt K mg f fd cls):FnOk P w K mg base CX0 1 (f 0) (fd 0) ["cell"] (spD K (sD W7)):=by
 refine Z9 T.e_law_bottom.F Zll (S:=Zcf) rfl rfl (λcdv A outer s H E hr=>?_)
 exact(Zh (xrt (xix (xls (Ze xci (Ze xci (Ze xci (xa1 (Zeb (Z39 xci xci) xci)))))) (Zfh (Zlv (xv 0) xci) xci))))
theorem Ze7:Zw ["cell","k","one"] ["cell","k"] (Zn Zfz):=fsc
theorem J9{f:Nat->Addr}{fd:Nat->XQ}{cls:Nat->Addr}(T:Txt K mg f fd cls):FnOk P w K mg base CX0 1 (f 1) (fd 1) ["cell","k"] (spD K (sD Zu)):=by
 refine Z9 T.e_law_stir.F Ze7 (S:=Zdn) rfl rfl (λcdv A outer s H E hr=>?_)
 exact(xsq (xst 2 Ze7.nd (Zfh (Zjw (Zeb (Zeb (Zfh (xv 0) xci) (Zjw xci (xv 1))) xci) xci) xci)) (xsq (xst 2 Ze7.nd (Zfh (Zjw (xv 2) (xv 2)) xci)) (Zh (xrt (Zlv (Zfh (Zjw (Zeb (xv 2) (Zjw xci (xv 1))) xci) xci) xci)))))
theorem Wa:Zw ["cell","many","found","digits","k","number"] ["cell","many"] (Zn Zct):=fsc
theorem Zeg{f:Nat->Addr}{fd:Nat->XQ}{cls:Nat->Addr}(T:Txt K mg f fd cls):FnOk P w K mg base CX0 2 (f 2) (fd 2) ["cell","many"] (spD K (sD Y8)):=by
 have G_law_stir:=J9 (P:=P) (w:=w) (base:=base) T
 refine Z9 T.e_law_numbers.F Wa (S:=Zbl) rfl rfl (λcdv A outer s H E hr=>?_)
 exact(xsq (xso 2 Wa.nd (xls xa0)) (xsq (xst 3 Wa.nd (xv 0)) (xsq (xfr X7 rfl (Zdf (Yl (by rfl) T.z_range (xa1 (xv 1)))) (xg 4 Wa.nd) (xsq (xst 5 Wa.nd (xce G_law_stir hr T.e_law_stir (Ze (xv 0) (xa1 (xv 4))))) (xsq (xif (xge (xv 0) (Z39 xci xci)) (Zh (xst 5 Wa.nd (Zfh (xv 3) xci))) xnl) (xsq (xst 3 Wa.nd (Zlv (xv 3) xci)) (Zh (Zag (Zaj 2 (xv 5)))))))) (Zh (Zcl (Zcs 2))))))
theorem Y4:Zw ["cell","n","numbers","left","found","k","one","other"] ["cell","n"] (Zn Zbz):=fsc
theorem Zh2{f:Nat->Addr}{fd:Nat->XQ}{cls:Nat->Addr}(T:Txt K mg f fd cls):FnOk P w K mg base CX0 3 (f 3) (fd 3) ["cell","n"] (spD K (sD Z7)):=by
 have G_law_numbers:=Zeg (P:=P) (w:=w) (base:=base) T
 refine Z9 T.e_law_clusters.F Y4 (S:=Zbb) rfl rfl (λcdv A outer s H E hr=>?_)
 exact(xsq (xst 2 Y4.nd (xce G_law_numbers hr T.e_law_numbers (Ze (xv 0) (xa1 (Zjw xci (xv 1)))))) (xsq (Zxf (Zoj (i:=3) (own:=["point"]) (caps:=[]) (N':=["point"]) Y4.nd rfl (QB rfl) (by exact⟨rfl,by decide +kernel,rfl,by decide +kernel,rfl,rfl⟩) (by rfl) (by decide) (Zt0 (Zdk (by rfl) T.z_range (Ze xci (xa1 (xv 1))))) (λ_ _ _ _ _=>(xg 0 (by show JC (["point"]:List Str);decide +kernel))) (λ_ _ _ _ _=>(Zao Zas)) (λ_ _ _ _ _=>(xls (xa1 (xv 0)))))) (xsq (xso 4 Y4.nd (Zxy (Z1q 3 (by rfl) T.z_list L2.B.boot_list))) (xsq (xfr X7 rfl (Zdf (Yl (by rfl) T.z_range (xa1 (Zxv (xv 1) xci)))) (xg 5 Y4.nd) (xsq (xst 6 Y4.nd (Zvj (Z2x 3 (Zfh (xix (xv 2) (Zjw xci (xv 5))) (xln T.z_len (xa1 (xo 3))))))) (xsq (xst 7 Y4.nd (Zvj (Z2x 3 (Zfh (xix (xv 2) (Zeb (Zjw xci (xv 5)) xci)) (xln T.z_len (xa1 (xo 3))))))) (xsq (Zag (Zaj 3 (Zrh Zhy (Z38 Zfn (Zce rfl) (by rfl) T.z_sorted L2.B.boot_sorted (xa1 (Zi3 (Zef Zop (Z3r (Zeu rfl) Zh5 (xv 6) (xv 7))))))))) (Zh (Zag (Zaj 4 (Z7r (Yah 3 (Zgq (Zmc xci)) (λ_ _=>rfl)))))))))) (Zh (Zcl (Zcs 4)))))))
theorem W4:Zw ["script","start","n","base","cell","rows","i","j","at","number"] ["script","start","n","base","cell"] (Zn Ze2):=fsc
theorem Zl2{f:Nat->Addr}{fd:Nat->XQ}{cls:Nat->Addr}(T:Txt K mg f fd cls):FnOk P w K mg base CX0 2 (f 4) (fd 4) ["script","start","n","base","cell"] (spD K (sD Jk)):=by
 have G_law_stir:=J9 (P:=P) (w:=w) (base:=base) T
 refine Z9 T.e_law_drawn.F W4 (S:=Zcz) rfl rfl (λcdv A outer s H E hr=>?_)
 exact(xsq (Zke (Zd2 (i:=5) (own:=["point"]) (caps:=[2]) (N':=["point","n"]) true W4.nd rfl (QB rfl) (by exact⟨rfl,by decide +kernel,rfl,by decide +kernel,rfl,rfl⟩) (by rfl) (by decide) (Zdf (Yl (by rfl) T.z_range (xa1 (xv 2)))) (λ_ _ _ _ _=>(xg 0 (by show JC (["point","n"]:List Str);decide +kernel))) (λ_ _ _ _ _=>(Zao Zas)) (λ_ _ _ _ _=>(Zzv (Z4i xci (xv 1)))))) (xsq (xfr X7 rfl (Zdf (Yl (by rfl) T.z_range (xa1 (xv 2)))) (xg 6 W4.nd) (Zh (xfr X7 rfl (Zdf (Yl (by rfl) T.z_range (xa1 (xv 6)))) (xg 7 W4.nd) (xsq (xst 8 W4.nd (Zeb (Zlv (Zjw (xv 6) (Zxv (xv 6) xci)) xci) (xv 7))) (xsq (xst 9 W4.nd (xce G_law_stir hr T.e_law_stir (Ze (xv 4) (xa1 (Zeb xci (xv 8)))))) (xsq (xif (xlt (Zeb (xv 1) (xv 8)) (xln T.z_len (xa1 (xv 0)))) (Zh (xst 9 W4.nd (xix (xv 0) (Zeb (xv 1) (xv 8))))) xnl) (xsq (Zhn (Zhv 5 (Zfh (xv 9) (xv 3)) (xv 6) (xv 7) (λ_ _=>rfl))) (Zh (Zhn (Zhv 5 (Zfh (xv 9) (xv 3)) (xv 7) (xv 6) (λ_ _=>rfl))))))))))) (Zh (Zcl (Zcs 5)))))
theorem Zac:Zw ["n","sides","weights","rows","side","weight","i","j"] ["n","sides","weights"] (Zn Zgl):=fsc
theorem Zip{f:Nat->Addr}{fd:Nat->XQ}{cls:Nat->Addr}(T:Txt K mg f fd cls):FnOk P w K mg base CX0 1 (f 5) (fd 5) ["n","sides","weights"] (spD K (sD Ym)):=by
 refine Z9 T.e_law_rows.F Zac (S:=Zdg) rfl rfl (λcdv A outer s H E hr=>?_)
 have hu:=hr.units
 exact(xsq (Zke (Zd2 (i:=3) (own:=["point"]) (caps:=[0]) (N':=["point","n"]) true Zac.nd rfl (QB rfl) (by exact⟨rfl,by decide +kernel,rfl,by decide +kernel,rfl,rfl⟩) (by rfl) (by decide) (Zdf (Yl (by rfl) T.z_range (xa1 (xv 0)))) (λ_ _ _ _ _=>(xg 0 (by show JC (["point","n"]:List Str);decide +kernel))) (λ_ _ _ _ _=>(Zao Zas)) (λ_ _ _ _ _=>(Zzv (Z4i xci (xv 1)))))) (xsq (xfr X7 rfl (Zn3 (Zof (by rfl) T.z_zip L2.B.boot_zip (Ze (xv 1) (xa1 (xv 2))))) (xg2 rfl (xg 4 Zac.nd) (xg 5 Zac.nd)) (Zh (xfr X7 rfl (Zdf (Yl (by rfl) T.z_range (xa1 (xv 0)))) (xg 6 Zac.nd) (Zh (xfr X7 rfl (Zdf (Yl (by rfl) T.z_range (xa1 (xv 0)))) (xg 7 Zac.nd) (Zh (xif (xne hu (W0 Zte (Zk6 (Zpu rfl) Zss (xv 6) (xv 4) (hm:=(by with_unfolding_all rfl)))) (W0 Zte (Zk6 (Zpu rfl) Zss (xv 7) (xv 4) (hm:=(by with_unfolding_all rfl))))) (Zh (Zhn (Zhv 3 (Zeb (xix (xix (xo 3) (xv 6)) (xv 7)) (xv 5)) (xv 6) (xv 7) (λ_ _=>rfl)))) xnl))))))) (Zh (Zcl (Zcs 3)))))
theorem Wv:Zw ["script","start","many","cell","base","found","k","number"] ["script","start","many","cell"] (Zn Zcj):=fsc
theorem Ziv{f:Nat->Addr}{fd:Nat->XQ}{cls:Nat->Addr}(T:Txt K mg f fd cls):FnOk P w K mg base CX0 2 (f 6) (fd 6) ["script","start","many","cell"] (spD K (sD Yq)):=by
 have G_law_stir:=J9 (P:=P) (w:=w) (base:=base) T
 refine Z9 T.e_law_weights.F Wv (S:=Zbq) rfl rfl (λcdv A outer s H E hr=>?_)
 exact(xsq (xst 4 Wv.nd (xix (xls (Ze xci (Ze xci (xa1 (Z39 xci xci))))) (Zfh (xv 3) xci))) (xsq (xso 5 Wv.nd (xls xa0)) (xsq (xfr X7 rfl (Zdf (Yl (by rfl) T.z_range (xa1 (xv 2)))) (xg 6 Wv.nd) (xsq (xst 7 Wv.nd (xce G_law_stir hr T.e_law_stir (Ze (xv 3) (xa1 (Zeb xci (xv 6)))))) (xsq (xif (xlt (Zeb (xv 1) (xv 6)) (xln T.z_len (xa1 (xv 0)))) (Zh (xst 7 Wv.nd (xix (xv 0) (Zeb (xv 1) (xv 6))))) xnl) (Zh (Zag (Zaj 5 (Zfh (xv 7) (xv 4)))))))) (Zh (Zcl (Zcs 5))))))
theorem Yy:Zw ["script","start","n","cell","way","sides","rows","more","i","j","by"] ["script","start","n","cell"] (Zn Zey):=fsc
theorem Zme{f:Nat->Addr}{fd:Nat->XQ}{cls:Nat->Addr}(T:Txt K mg f fd cls):FnOk P w K mg base CX0 4 (f 7) (fd 7) ["script","start","n","cell"] (spD K (sD Zal)):=by
 have G_law_clusters:=Zh2 (P:=P) (w:=w) (base:=base) T
 have G_law_drawn:=Zl2 (P:=P) (w:=w) (base:=base) T
 have G_law_rows:=Zip (P:=P) (w:=w) (base:=base) T
 have G_law_stir:=J9 (P:=P) (w:=w) (base:=base) T
 have G_law_weights:=Ziv (P:=P) (w:=w) (base:=base) T
 refine Z9 T.e_law_built.F Yy (S:=Zc3) rfl rfl (λcdv A outer s H E hr=>?_)
 have hu:=hr.units
 exact(xsq (xst 4 Yy.nd (Zfh (Zlv (xv 3) xci) xci)) (xsq (xif (xeq hu (xv 4) xci) (Zh (xrt (xce G_law_drawn hr T.e_law_drawn (Ze (xv 0) (Ze (xv 1) (Ze (xv 2) (Ze (xix (xls (Ze xci (Ze xci (Ze xci (xa1 (Z39 xci xci)))))) (Zfh (Zlv (xv 3) xci) xci)) (xa1 (xv 3))))))))) xnl) (xsq (xst 5 Yy.nd (xce G_law_clusters hr T.e_law_clusters (Ze (Zlv (xv 3) xci) (xa1 (xv 2))))) (xsq (xso 6 Yy.nd (xce G_law_rows hr T.e_law_rows (Ze (xv 2) (Ze (xv 5) (xa1 (xce G_law_weights hr T.e_law_weights (Ze (xv 0) (Ze (xv 1) (Ze (xln T.z_len (xa1 (xv 5))) (xa1 (xv 3))))))))))) (xsq (xif (xeq hu (xv 4) xci) (xsq (xst 5 Yy.nd (xce G_law_clusters hr T.e_law_clusters (Ze (xce G_law_stir hr T.e_law_stir (Ze (xv 3) (xa1 xci))) (xa1 (xv 2))))) (xsq (xst 7 Yy.nd (xce G_law_rows hr T.e_law_rows (Ze (xv 2) (Ze (xv 5) (xa1 (xce G_law_weights hr T.e_law_weights (Ze (xv 0) (Ze (Zeb (xv 1) xci) (Ze (xln T.z_len (xa1 (xv 5))) (xa1 (xv 3))))))))))) (Zh (Zic (Zh6 6 (Zke (Zd2 (i:=6) (own:=["row","others"]) (caps:=[]) (N':=["row","others"]) true Yy.nd rfl (QB rfl) (by exact⟨rfl,by decide +kernel,rfl,by decide +kernel,rfl,rfl⟩) (by rfl) (by decide) (Zn3 (Zof (by rfl) T.z_zip L2.B.boot_zip (Ze (xv 6) (xa1 (xv 7))))) (λ_ _ _ _ _=>(xg2 rfl (xg 0 (by show JC (["row","others"]:List Str);decide +kernel)) (xg 1 (by show JC (["row","others"]:List Str);decide +kernel)))) (λ_ _ _ _ _=>(Zao Zas)) (λ_ _ _ _ _=>(Zby (Zi5 ["one","other"] [] ["one","other"] (Zn3 (Zof (by rfl) T.z_zip L2.B.boot_zip (Ze (xv 0) (xa1 (xv 1))))) (λ_ _ _ _ _=>(xg2 rfl (xg 0 (by show JC (["one","other"]:List Str);decide +kernel)) (xg 1 (by show JC (["one","other"]:List Str);decide +kernel)))) (λ_ _ _ _ _=>(Zao Zas)) (λ_ _ _ _ _=>(Zeb (xv 0) (xv 1))))))))))))) xnl) (xsq (xif (MW.mt (Zbi (Zbh (xeq hu (xv 4) xci) (Zcd (xeq hu (xv 4) xci))))) (xsq (xst 8 Yy.nd (Zfh (xce G_law_stir hr T.e_law_stir (Ze (xv 3) (xa1 xci))) (xv 2))) (xsq (xst 9 Yy.nd (Zfh (xce G_law_stir hr T.e_law_stir (Ze (xv 3) (xa1 xci))) (xv 2))) (xsq (xst 10 Yy.nd (xix (xls (Ze xci (Ze (Zjw xci (xv 4)) (xa1 (Z39 xci xci))))) (Zfh (xce G_law_stir hr T.e_law_stir (Ze (xv 3) (xa1 xci))) xci))) (Zh (xif (xne hu (xv 8) (xv 9)) (xsq (Zhn (Zhv 6 (Zer Z98 (Zi9 Z3a (Zub (by rfl)) (by rfl) T.z_max L2.B.boot_max (Ze xci (xa1 (Zeb (xix (xix (xo 6) (xv 8)) (xv 9)) (Zjw (Zxv xci (xv 4)) (xv 10))))))) (xv 8) (xv 9) (λ_ _=>rfl))) (Zh (Zhn (Zhv 6 (Z0d (Z8r (xix (xix (xo 6) (xv 8)) (xv 9)))) (xv 9) (xv 8) (λ_ _=>rfl))))) xnl))))) xnl) (Zh (Zcl (Zcs 6)))))))))
theorem Zi2:Zw ["script","k"] ["script","k"] (Zn Zcn):=fsc
theorem Zi4{f:Nat->Addr}{fd:Nat->XQ}{cls:Nat->Addr}(T:Txt K mg f fd cls):FnOk P w K mg base CX0 1 (f 8) (fd 8) ["script","k"] (spD K (sD Yr)):=by
 refine Z9 T.e_law_cell_at.F Zi2 (S:=Zbm) rfl rfl (λcdv A outer s H E hr=>?_)
 exact(xsq (xif (xlt (xv 1) (xln T.z_len (xa1 (xv 0)))) (Zh (xrt (xix (xv 0) (xv 1)))) xnl) (Zh (xrt xci)))
theorem Jg:Zw ["ring","at","wound"] ["ring"] (Zn Zba):=fsc
theorem Zg0{f:Nat->Addr}{fd:Nat->XQ}{cls:Nat->Addr}(T:Txt K mg f fd cls):FnOk P w K mg base CX0 1 (f 9) (fd 9) ["ring"] (spD K (sD Ja)):=by
 refine Z9 T.e_law_put_right.F Jg (S:=Zat) rfl rfl (λcdv A outer s H E hr=>?_)
 exact(xsq (xst 1 Jg.nd (Zx0 (Z2k (xv 0) xci))) (xsq (xst 2 Jg.nd (Zi3 (Zef Zop (Z3r (Zeu rfl) Zh5 (Zqn (Zqx (xv 0) (Zbt (Zbu (xv 1))) (Zih Zhx))) (Zqn (Zqx (xv 0) (Zih Zhx) (Zbt (Zbu (xv 1))))))))) (xsq (xif (MW.mt (Zp6 (Zpb (xgt (xln T.z_len (xa1 (xv 2))) xci) (Zk8 (xgt (xix (xv 2) xci) (xix (xv 2) (Zgq (Zmc xci)))))))) (Zh (xst 2 Jg.nd (Zi3 (Zef Zop (Z3r (Zeu rfl) Zh5 (Zqn (Zqx (xv 2) (Zih Zhx) (Zbt (Zbu xci)))) (Z1o (Z7m (xv 2) (Zih Zhx) (Zbt (Zbu xci)) (Zbt (Zbu (Zgq (Zmc xci))))))))))) xnl) (Zh (xrt (xv 2))))))
theorem Zbe:Zw ["cell","n","numbers","left","ring","k"] ["cell","n"] (Zn Zf3):=fsc
theorem Znr{f:Nat->Addr}{fd:Nat->XQ}{cls:Nat->Addr}(T:Txt K mg f fd cls):FnOk P w K mg base CX0 3 (f 10) (fd 10) ["cell","n"] (spD K (sD Wi)):=by
 have G_law_numbers:=Zeg (P:=P) (w:=w) (base:=base) T
 have G_law_put_right:=Zg0 (P:=P) (w:=w) (base:=base) T
 refine Z9 T.e_law_ring.F Zbe (S:=Zdz) rfl rfl (λcdv A outer s H E hr=>?_)
 exact(xsq (xst 2 Zbe.nd (xce G_law_numbers hr T.e_law_numbers (Ze (xv 0) (xa1 (xv 1))))) (xsq (xso 3 Zbe.nd (Zr2 (Zh0 (by rfl) (by rfl) T.z_list L2.B.boot_list (by rfl) T.z_range L2.B.boot_range (xa1 (xv 1))))) (xsq (xso 4 Zbe.nd (xls xa0)) (xsq (xfr X7 rfl (Zdf (Yl (by rfl) T.z_range (xa1 (xv 1)))) (xg 5 Zbe.nd) (Zh (Zag (Zaj 4 (Zvj (Z2x 3 (Zfh (xix (xv 2) (xv 5)) (xln T.z_len (xa1 (xo 3)))))))))) (Zh (Zic (Zh6 4 (xrt (xce G_law_put_right hr T.e_law_put_right (xa1 (xv 4)))))))))))
theorem Yg:Zw ["script","start","n","cell","base","found","k","number"] ["script","start","n","cell"] (Zn Jr):=fsc
theorem Ze0{f:Nat->Addr}{fd:Nat->XQ}{cls:Nat->Addr}(T:Txt K mg f fd cls):FnOk P w K mg base CX0 2 (f 11) (fd 11) ["script","start","n","cell"] (spD K (sD Yx)):=by
 have G_law_stir:=J9 (P:=P) (w:=w) (base:=base) T
 refine Z9 T.e_law_ring_weights.F Yg (S:=Jy) rfl rfl (λcdv A outer s H E hr=>?_)
 exact(xsq (xst 4 Yg.nd (xix (xls (Ze xci (Ze xci (xa1 (Z39 xci xci))))) (Zfh (xv 3) xci))) (xsq (xso 5 Yg.nd (xls xa0)) (xsq (xfr X7 rfl (Zdf (Yl (by rfl) T.z_range (xa1 (Zlv (Zjw (xv 2) (Zxv (xv 2) xci)) xci)))) (xg 6 Yg.nd) (xsq (xst 7 Yg.nd (xce G_law_stir hr T.e_law_stir (Ze (xv 3) (xa1 (Zeb xci (xv 6)))))) (xsq (xif (xlt (Zeb (xv 1) (xv 6)) (xln T.z_len (xa1 (xv 0)))) (Zh (xst 7 Yg.nd (xix (xv 0) (Zeb (xv 1) (xv 6))))) xnl) (Zh (Zag (Zaj 5 (Zfh (xv 7) (xv 4)))))))) (Zh (Zcl (Zcs 5))))))
theorem Zex:Zw ["n","found","a"] ["n"] (Zn Zf6):=fsc
theorem Zhl{f:Nat->Addr}{fd:Nat->XQ}{cls:Nat->Addr}(T:Txt K mg f fd cls):FnOk P w K mg base CX0 1 (f 12) (fd 12) ["n"] (spD K (sD Jv)):=by
 refine Z9 T.e_law_gaps.F Zex (S:=Zdr) rfl rfl (λcdv A outer s H E hr=>?_)
 exact(xsq (xso 1 Zex.nd (xls xa0)) (xsq (xfr X7 rfl (Zdf (Yl (by rfl) T.z_range (xa1 (xv 0)))) (xg 2 Zex.nd) (Zh (Zvg (Zvd 1 (Zby (Zi5 ["b"] [2] ["b","a"] (Zt0 (Zdk (by rfl) T.z_range (Ze (Zeb (xv 2) xci) (xa1 (xv 0))))) (λ_ _ _ _ _=>(xg 0 (by show JC (["b","a"]:List Str);decide +kernel))) (λ_ _ _ _ _=>(Zao Zas)) (λ_ _ _ _ _=>(xtp (Ze (xv 1) (xa1 (xv 0))))))))))) (Zh (Zcl (Zcs 1)))))
theorem Zmv:Zw ["ring"] ["ring"] (Zn Ze6):=fsc
theorem Znb{f:Nat->Addr}{fd:Nat->XQ}{cls:Nat->Addr}(T:Txt K mg f fd cls):FnOk P w K mg base CX0 2 (f 13) (fd 13) ["ring"] (spD K (sD Jj)):=by
 have G_law_gaps:=Zhl (P:=P) (w:=w) (base:=base) T
 refine Z9 T.e_law_sides.F Zmv (S:=Zc2) rfl rfl (λcdv A outer s H E hr=>?_)
 exact(Zh (xrt (Zby (Zi5 ["a","b"] [0] ["a","b","ring"] (xil (xce G_law_gaps hr T.e_law_gaps (xa1 (xln T.z_len (xa1 (xv 0)))))) (λ_ _ _ _ _=>(xg2 rfl (xg 0 (by show JC (["a","b","ring"]:List Str);decide +kernel)) (xg 1 (by show JC (["a","b","ring"]:List Str);decide +kernel)))) (λ_ _ _ _ _=>(Zao Zas)) (λ_ _ _ _ _=>(Zrh Zhy (Z38 Zfn (Zce rfl) (by rfl) T.z_sorted L2.B.boot_sorted (xa1 (Zqn (Zqx (xv 2) (Zbt (Zbu (Zeb (xv 0) xci))) (Zbt (Zbu (Zeb (xv 1) xci)))))))))))))
theorem Zod:Zw ["cell","least","most","great"] ["cell","least","most","great"] (Zn Zgh):=fsc
theorem Znq{f:Nat->Addr}{fd:Nat->XQ}{cls:Nat->Addr}(T:Txt K mg f fd cls):FnOk P w K mg base CX0 1 (f 14) (fd 14) ["cell","least","most","great"] (spD K (sD Ju)):=by
 refine Z9 T.e_law_size.F Zod (S:=Zdx) rfl rfl (λcdv A outer s H E hr=>?_)
 have hu:=hr.units
 exact(xsq (xif (xeq hu (Zfh (Zlv (xv 0) xci) xci) xci) (Zh (xrt (Zeb (Zeb (xv 2) xci) (Zfh (Zlv (xv 0) xci) (Zxv (xv 3) (xv 2)))))) xnl) (Zh (xrt (Zeb (xv 1) (Zfh (xv 0) (Zxv (Zeb (xv 2) xci) (xv 1)))))))
theorem Zax:Zw ["top","bottom","one","other","left"] ["top","bottom"] (Zn Zir):=fsc
theorem Zjr{f:Nat->Addr}{fd:Nat->XQ}{cls:Nat->Addr}(T:Txt K mg f fd cls):FnOk P w K mg base CX0 1 (f 15) (fd 15) ["top","bottom"] (spD K (sD Jb)):=by
 refine Z9 T.e_law_low.F Zax (S:=Zeh) rfl rfl (λcdv A outer s H E hr=>?_)
 have hu:=hr.units
 exact(xsq (xst 2 Zax.nd (Zer Z0a (Zi9 Zrs Zk1 (by rfl) T.z_abs L2.B.boot_abs (xa1 (xv 0))))) (xsq (xst 3 Zax.nd (xv 1)) (xsq (Zo1 (Zou X7 (xne hu (xv 3) xci) (xsq (xst 4 Zax.nd (Zfh (xv 2) (xv 3))) (xsq (xst 2 Zax.nd (xv 3)) (Zh (xst 3 Zax.nd (xv 4))))))) (Zh (xrt (xtp (Ze (Zlv (xv 0) (xv 2)) (xa1 (Zlv (xv 1) (xv 2))))))))))
theorem Zm1:Zw ["rows","bottom"] ["rows","bottom"] (Zn Ze1):=fsc
theorem Zm7{f:Nat->Addr}{fd:Nat->XQ}{cls:Nat->Addr}(T:Txt K mg f fd cls):FnOk P w K mg base CX0 2 (f 16) (fd 16) ["rows","bottom"] (spD K (sD Zak)):=by
 have G_law_low:=Zjr (P:=P) (w:=w) (base:=base) T
 refine Z9 T.e_law_table.F Zm1 (S:=Zcy) rfl rfl (λcdv A outer s H E hr=>?_)
 exact(Zh (xrt (Zby (Zi5 ["row"] [1] ["row","bottom"] (xil (xv 0)) (λ_ _ _ _ _=>(xg 0 (by show JC (["row","bottom"]:List Str);decide +kernel))) (λ_ _ _ _ _=>(Zao Zas)) (λ_ _ _ _ _=>(Zby (Zi5 ["one"] [1] ["one","bottom"] (xil (xv 0)) (λ_ _ _ _ _=>(xg 0 (by show JC (["one","bottom"]:List Str);decide +kernel))) (λ_ _ _ _ _=>(Zao Zas)) (λ_ _ _ _ _=>(xce G_law_low hr T.e_law_low (Ze (xv 0) (xa1 (xv 1))))))))))))
theorem Js:Zw ["n","cuts","bottom","one","side","weight"] ["n","cuts","bottom"] (Zn Zbr):=fsc
theorem Zib{f:Nat->Addr}{fd:Nat->XQ}{cls:Nat->Addr}(T:Txt K mg f fd cls):FnOk P w K mg base CX0 2 (f 17) (fd 17) ["n","cuts","bottom"] (spD K (sD Jl)):=by
 have G_law_low:=Zjr (P:=P) (w:=w) (base:=base) T
 refine Z9 T.e_law_are_cuts.F Js (S:=Za8) rfl rfl (λcdv A outer s H E hr=>?_)
 have hu:=hr.units
 exact(xsq (xif (xno (J4 (J3 (Zc1 (Zg3 (by decide) (by rfl) T.z_isinstance L2.B.boot_isinstance (by rfl) T.z_list L2.B.boot_list (xv 1))) (λ_=>rfl)))) (Zh (xrt (Zc6 Zcm))) xnl) (xsq (xfr X7 rfl (xil (xv 1)) (xg 3 Js.nd) (xsq (xif (MW.mt (Zbi (Zbh (xno (J4 (J3 (Zc1 (Zg3 (by decide) (by rfl) T.z_isinstance L2.B.boot_isinstance (by rfl) T.z_tuple L2.B.boot_tuple (xv 3))) (λ_=>rfl)))) (Zbi (Zbh (xne hu (xln T.z_len (xa1 (xv 3))) xci) (Zcd (xno (J4 (J3 (Zc1 (Zg3 (by decide) (by rfl) T.z_isinstance L2.B.boot_isinstance (by rfl) T.z_list L2.B.boot_list (xix (xv 3) xci))) (λ_=>rfl)))))))))) (Zh (xrt (Zc6 Zcm))) xnl) (xsq (xst 4 Js.nd (xix (xv 3) xci)) (xsq (xif (xne hu (Zby (Zi5 ["point"] [] ["point"] (xil (xv 4)) (λ_ _ _ _ _=>(xg 0 (by show JC (["point"]:List Str);decide +kernel))) (λ_ _ _ _ _=>(Zog (MW.mt (Zbi (Zbh (J4 (J3 (Zc1 (Zg3 (by decide) (by rfl) T.z_isinstance L2.B.boot_isinstance (by rfl) T.z_bool L2.B.boot_bool (xv 0))) (λ_=>rfl))) (Zcd (xno (J4 (J3 (Zc1 (Zg3 (by decide) (by rfl) T.z_isinstance L2.B.boot_isinstance (by rfl) T.z_int L2.B.boot_int (xv 0))) (λ_=>rfl)))))))))) (λ_ _ _ _ _=>(xv 0)))) (xls xa0)) (Zh (xrt (Zc6 Zcm))) xnl) (xsq (xif (MW.mt (Zbi (Zbh (xne hu (xv 4) (Zrd (Zvf (by rfl) (by rfl) T.z_sorted L2.B.boot_sorted (by rfl) T.z_set L2.B.boot_set (xa1 (xv 4))))) (Zbi (Zbh (xeq hu (xv 4) (xls xa0)) (Zbi (Zbh (xlt (xix (xv 4) xci) xci) (Zcd (xge (xix (xv 4) (Zgq (Zmc xci))) (xv 0)))))))))) (Zh (xrt (Zc6 Zcm))) xnl) (xsq (xst 5 Js.nd (xix (xv 3) xci)) (xsq (xif (MW.mt (Zbi (Zbh (xno (J4 (J3 (Zc1 (Zg3 (by decide) (by rfl) T.z_isinstance L2.B.boot_isinstance (by rfl) T.z_tuple L2.B.boot_tuple (xv 5))) (λ_=>rfl)))) (Zcd (xne hu (xln T.z_len (xa1 (xv 5))) xci))))) (Zh (xrt (Zc6 Zcm))) xnl) (xsq (xif (xne hu (Zby (Zi5 ["part"] [] ["part"] (Z5f (Z8u (xv 5))) (λ_ _ _ _ _=>(xg 0 (by show JC (["part"]:List Str);decide +kernel))) (λ_ _ _ _ _=>(Zog (MW.mt (Zbi (Zbh (J4 (J3 (Zc1 (Zg3 (by decide) (by rfl) T.z_isinstance L2.B.boot_isinstance (by rfl) T.z_bool L2.B.boot_bool (xv 0))) (λ_=>rfl))) (Zcd (xno (J4 (J3 (Zc1 (Zg3 (by decide) (by rfl) T.z_isinstance L2.B.boot_isinstance (by rfl) T.z_int L2.B.boot_int (xv 0))) (λ_=>rfl)))))))))) (λ_ _ _ _ _=>(xv 0)))) (xls xa0)) (Zh (xrt (Zc6 Zcm))) xnl) (Zh (xif (MW.mt (Zbi (Zbh (xlt (xix (xv 5) xci) xci) (Zbi (Zbh (xlt (xix (xv 5) xci) xci) (Zbi (Zbh (xne hu (xce G_law_low hr T.e_law_low (Ze (xix (xv 5) xci) (xa1 (xix (xv 5) xci)))) (xv 5)) (Zcd (xgt (Zfh (Zjw xci (xv 2)) (xix (xv 5) xci)) xci))))))))) (Zh (xrt (Zc6 Zcm))) xnl)))))))))) (Zh (xrt (W0 Z7f (Zk6 (Zne hu) Zum (Zby (Zi5 ["k"] [1] ["k","cuts"] (Zt0 (Zdk (by rfl) T.z_range (Ze xci (xa1 (xln T.z_len (xa1 (xv 1))))))) (λ_ _ _ _ _=>(xg 0 (by show JC (["k","cuts"]:List Str);decide +kernel))) (λ_ _ _ _ _=>(Zog (Zbn Yae (Zbp (Z62 hu) Z6t (xix (xix (xv 1) (Zxv (xv 0) xci)) xci) (xix (xix (xv 1) (xv 0)) xci) (hm:=(Zai _)))))) (λ_ _ _ _ _=>(xv 0)))) (xls xa0) (hm:=(Zai _))))))))
theorem Wm:Zw ["n","cuts","bottom","rows","i","j","top","side","weight"] ["n","cuts","bottom","rows"] (Zn Zdi):=fsc
theorem Zky{f:Nat->Addr}{fd:Nat->XQ}{cls:Nat->Addr}(T:Txt K mg f fd cls):FnOk P w K mg base CX0 1 (f 18) (fd 18) ["n","cuts","bottom","rows"] (spD K (sD J5)):=by
 refine Z9 T.e_law_sum_of.F Wm (S:=Zb9) rfl rfl (λcdv A outer s H E hr=>?_)
 have hu:=hr.units
 exact(xsq (xfr X7 rfl (Zdf (Yl (by rfl) T.z_range (xa1 (xv 0)))) (xg 4 Wm.nd) (Zh (xfr X7 rfl (Zdf (Yl (by rfl) T.z_range (xa1 (xv 0)))) (xg 5 Wm.nd) (xsq (xst 6 Wm.nd xci) (xsq (xfr X7 rfl (xil (xv 1)) (xg2 rfl (xg 7 Wm.nd) (xg 8 Wm.nd)) (Zh (xif (xne hu (W0 Zte (Zk6 (Zpu rfl) Zss (xv 4) (xv 7) (hm:=(by with_unfolding_all rfl)))) (W0 Zte (Zk6 (Zpu rfl) Zss (xv 5) (xv 7) (hm:=(by with_unfolding_all rfl))))) (Zh (xst 6 Wm.nd (Zeb (xv 6) (Zjw (xix (xv 8) xci) (Zlv (Zjw xci (xv 2)) (xix (xv 8) xci)))))) xnl))) (Zh (xif (xne hu (xv 6) (Zjw xci (xix (xix (xv 3) (xv 4)) (xv 5)))) (Zh (xrt (Zc6 Zcm))) xnl))))))) (Zh (xrt (Zc6 Zcm))))
theorem Zn0:Zw ["thing"] ["thing"] (Zn Zga):=fsc
theorem Zid{f:Nat->Addr}{fd:Nat->XQ}{cls:Nat->Addr}(T:Txt K mg f fd cls):FnOk P w K mg base CX0 1 (f 19) (fd 19) ["thing"] (spD K (sD We)):=by
 refine Z9 T.e_is_whole.F Zn0 (S:=Zdo) rfl rfl (λcdv A outer s H E hr=>?_)
 exact(Zh (xrt (Zkx (Zxm (Zc1 (Zg3 (by decide) (by rfl) T.z_isinstance L2.B.boot_isinstance (by rfl) T.z_int L2.B.boot_int (xv 0))) (Zwb (Z1s (Ybd (Zc1 (Zg3 (by decide) (by rfl) T.z_isinstance L2.B.boot_isinstance (by rfl) T.z_bool L2.B.boot_bool (xv 0))))))))))
theorem Zja:Zw ["n","ring","point"] ["n","ring"] (Zn Zhw):=fsc
theorem Zqh{f:Nat->Addr}{fd:Nat->XQ}{cls:Nat->Addr}(T:Txt K mg f fd cls):FnOk P w K mg base CX0 2 (f 20) (fd 20) ["n","ring"] (spD K (sD Zbs)):=by
 have G_is_whole:=Zid (P:=P) (w:=w) (base:=base) T
 refine Z9 T.e_is_ring.F Zja (S:=Zel) rfl rfl (λcdv A outer s H E hr=>?_)
 have hu:=hr.units
 exact(xsq (xfr X7 rfl (xil (xv 1)) (xg 2 Zja.nd) (Zh (xif (xno (J4 (J3 (xce G_is_whole hr T.e_is_whole (xa1 (xv 2))) (λ_=>rfl)))) (Zh (xrt (Zc6 Zcm))) xnl))) (xsq (xif (MW.mt (Zbi (Zbh (xlt (xv 0) xci) (Zcd (xne hu (Zrh Zhy (Z38 Zfn (Zce rfl) (by rfl) T.z_sorted L2.B.boot_sorted (xa1 (xv 1)))) (Zr2 (Zh0 (by rfl) (by rfl) T.z_list L2.B.boot_list (by rfl) T.z_range L2.B.boot_range (xa1 (xv 0))))))))) (Zh (xrt (Zc6 Zcm))) xnl) (Zh (xrt (Zkx (Zxm (W0 Z7f (Zk6 (Zne hu) Zum (xix (xv 1) xci) xci (hm:=(Zai _)))) (Zwb (W0 Z87 (Zk6 Zqj Zjv (xix (xv 1) xci) (xix (xv 1) (Zgq (Zmc xci))) (hm:=(Zai _)))))))))))
theorem Zkv:Zw ["n","ring"] ["n","ring"] (Zn Zdc):=fsc
theorem Zfq{f:Nat->Addr}{fd:Nat->XQ}{cls:Nat->Addr}(T:Txt K mg f fd cls):FnOk P w K mg base CX0 3 (f 21) (fd 21) ["n","ring"] (spD K (sD Wd)):=by
 have G_is_ring:=Zqh (P:=P) (w:=w) (base:=base) T
 refine Z9 T.e_check_ring.F Zkv (S:=Zb3) rfl rfl (λcdv A outer s H E hr=>?_)
 exact(Zh (xif (xno (J4 (J3 (xce G_is_ring hr T.e_is_ring (Ze (xv 0) (xa1 (xv 1)))) (λ_=>rfl)))) (Zh Zlj) xnl))
theorem Yd:Zw ["a","b","left"] ["a","b"] (Zn Jx):=fsc
theorem Za4{f:Nat->Addr}{fd:Nat->XQ}{cls:Nat->Addr}(T:Txt K mg f fd cls):FnOk P w K mg base CX0 1 (f 22) (fd 22) ["a","b"] (spD K (sD Yb)):=by
 refine Z9 T.e_greatest_divisor.F Yd (S:=Jz) rfl rfl (λcdv A outer s H E hr=>?_)
 have hu:=hr.units
 exact(xsq (xst 0 Yd.nd (Zer Z0a (Zi9 Zrs Zk1 (by rfl) T.z_abs L2.B.boot_abs (xa1 (xv 0))))) (xsq (xst 1 Yd.nd (Zer Z0a (Zi9 Zrs Zk1 (by rfl) T.z_abs L2.B.boot_abs (xa1 (xv 1))))) (xsq (Zo1 (Zou X7 (xne hu (xv 1) xci) (xsq (xst 2 Yd.nd (Zfh (xv 0) (xv 1))) (xsq (xst 0 Yd.nd (xv 1)) (Zh (xst 1 Yd.nd (xv 2))))))) (Zh (xrt (xv 0))))))
theorem Ze5:Zw ["top","bottom","shared"] ["top","bottom"] (Zn Zgb):=fsc
theorem Znx{f:Nat->Addr}{fd:Nat->XQ}{cls:Nat->Addr}(T:Txt K mg f fd cls):FnOk P w K mg base CX0 2 (f 23) (fd 23) ["top","bottom"] (spD K (sD Za2)):=by
 have G_greatest_divisor:=Za4 (P:=P) (w:=w) (base:=base) T
 refine Z9 T.e_in_least.F Ze5 (S:=Zdu) rfl rfl (λcdv A outer s H E hr=>?_)
 exact(xsq (xst 2 Ze5.nd (xce G_greatest_divisor hr T.e_greatest_divisor (Ze (xv 0) (xa1 (xv 1))))) (xsq (xif (xlt (xv 1) xci) (Zh (xst 2 Ze5.nd (Zgq (Zmc (xv 2))))) xnl) (Zh (xrt (xtp (Ze (Zlv (xv 0) (xv 2)) (xa1 (Zlv (xv 1) (xv 2)))))))))
theorem Znp:Zw ["top","bottom"] ["top","bottom"] (Zn Zgc):=fsc
theorem Ziq{f:Nat->Addr}{fd:Nat->XQ}{cls:Nat->Addr}(T:Txt K mg f fd cls):FnOk P w K mg base CX0 3 (f 24) (fd 24) ["top","bottom"] (spD K (sD Y0)):=by
 have G_in_least:=Znx (P:=P) (w:=w) (base:=base) T
 have G_is_whole:=Zid (P:=P) (w:=w) (base:=base) T
 refine Z9 T.e_fraction.F Znp (S:=Zc8) rfl rfl (λcdv A outer s H E hr=>?_)
 have hu:=hr.units
 exact(xsq (xif (MW.mt (Zbi (Zbh (xno (J4 (J3 (xce G_is_whole hr T.e_is_whole (xa1 (xv 0))) (λ_=>rfl)))) (Zbi (Zbh (xno (J4 (J3 (xce G_is_whole hr T.e_is_whole (xa1 (xv 1))) (λ_=>rfl)))) (Zcd (xeq hu (xv 1) xci))))))) (Zh Zlj) xnl) (Zh (xrt (xce G_in_least hr T.e_in_least (Ze (xv 0) (xa1 (xv 1)))))))
theorem Zcu:Zw ["n","pairs","i","j"] ["n"] (Zn Zgm):=fsc
theorem Znu{f:Nat->Addr}{fd:Nat->XQ}{cls:Nat->Addr}(T:Txt K mg f fd cls):FnOk P w K mg base CX0 1 (f 25) (fd 25) ["n"] (spD K (sD Jt)):=by
 refine Z9 T.e_pairs_of.F Zcu (S:=Zda) rfl rfl (λcdv A outer s H E hr=>?_)
 exact(xsq (xso 1 Zcu.nd (xls xa0)) (xsq (xfr X7 rfl (Zdf (Yl (by rfl) T.z_range (xa1 (xv 0)))) (xg 2 Zcu.nd) (Zh (xfr X7 rfl (Zt0 (Zdk (by rfl) T.z_range (Ze (Zeb (xv 2) xci) (xa1 (xv 0))))) (xg 3 Zcu.nd) (Zh (Zag (Zaj 1 (xtp (Ze (xv 2) (xa1 (xv 3)))))))))) (Zh (Zcl (Zcs 1)))))
theorem Jh:Zw ["numbers","bottom","q"] ["numbers"] (Zn Zbd):=fsc
theorem Zg4{f:Nat->Addr}{fd:Nat->XQ}{cls:Nat->Addr}(T:Txt K mg f fd cls):FnOk P w K mg base CX0 2 (f 26) (fd 26) ["numbers"] (spD K (sD Wc)):=by
 have G_greatest_divisor:=Za4 (P:=P) (w:=w) (base:=base) T
 refine Z9 T.e_shared_bottom.F Jh (S:=Zav) rfl rfl (λcdv A outer s H E hr=>?_)
 exact(xsq (xst 1 Jh.nd xci) (xsq (xfr X7 rfl (xil (xv 0)) (xg 2 Jh.nd) (Zh (xst 1 Jh.nd (Zjw (Zlv (xv 1) (xce G_greatest_divisor hr T.e_greatest_divisor (Ze (xv 1) (xa1 (xix (xv 2) xci))))) (xix (xv 2) xci))))) (Zh (xrt (xv 1)))))
theorem Jw:Zw ["table","bottom","row"] ["table"] (Zn Zbv):=fsc
theorem Za9{f:Nat->Addr}{fd:Nat->XQ}{cls:Nat->Addr}(T:Txt K mg f fd cls):FnOk P w K mg base CX0 3 (f 27) (fd 27) ["table"] (spD K (sD Z3)):=by
 have G_shared_bottom:=Zg4 (P:=P) (w:=w) (base:=base) T
 refine Z9 T.e_table_bottom.F Jw (S:=Za0) rfl rfl (λcdv A outer s H E hr=>?_)
 exact(xsq (xst 1 Jw.nd xci) (xsq (xfr X7 rfl (xil (xv 0)) (xg 2 Jw.nd) (Zh (xst 1 Jw.nd (xce G_shared_bottom hr T.e_shared_bottom (xa1 (Zi3 (Zef Zop (Z3r (Zeu rfl) Zh5 (xls (xa1 (xtp (Ze xci (xa1 (xv 1)))))) (xv 2))))))))) (Zh (xrt (xv 1)))))
theorem Zmx:Zw ["bottom","numbers"] ["bottom","numbers"] (Zn Ze8):=fsc
theorem Zmp{f:Nat->Addr}{fd:Nat->XQ}{cls:Nat->Addr}(T:Txt K mg f fd cls):FnOk P w K mg base CX0 1 (f 28) (fd 28) ["bottom","numbers"] (spD K (sD Zar)):=by
 refine Z9 T.e_tops_over.F Zmx (S:=Zc0) rfl rfl (λcdv A outer s H E hr=>?_)
 exact(Zh (xrt (Zby (Zi5 ["q"] [0] ["q","bottom"] (xil (xv 1)) (λ_ _ _ _ _=>(xg 0 (by show JC (["q","bottom"]:List Str);decide +kernel))) (λ_ _ _ _ _=>(Zao Zas)) (λ_ _ _ _ _=>(Zjw (xix (xv 0) xci) (Zlv (xv 1) (xix (xv 0) xci))))))))
theorem Zle:Zw ["bottom","table"] ["bottom","table"] (Zn Zdl):=fsc
theorem Zco{f:Nat->Addr}{fd:Nat->XQ}{cls:Nat->Addr}(T:Txt K mg f fd cls):FnOk P w K mg base CX0 2 (f 29) (fd 29) ["bottom","table"] (spD K (sD Ye)):=by
 have G_tops_over:=Zmp (P:=P) (w:=w) (base:=base) T
 refine Z9 T.e_table_over.F Zle (S:=Zb1) rfl rfl (λcdv A outer s H E hr=>?_)
 exact(Zh (xrt (Zby (Zi5 ["row"] [0] ["row","bottom"] (xil (xv 1)) (λ_ _ _ _ _=>(xg 0 (by show JC (["row","bottom"]:List Str);decide +kernel))) (λ_ _ _ _ _=>(Zao Zas)) (λ_ _ _ _ _=>(xce G_tops_over hr T.e_tops_over (Ze (xv 1) (xa1 (xv 0)))))))))
theorem W5:Zw ["rows","ring","a","b","x","p","y","q"] ["rows","ring","a","b"] (Zn Zbx):=fsc
theorem Zbg{f:Nat->Addr}{fd:Nat->XQ}{cls:Nat->Addr}(T:Txt K mg f fd cls):FnOk P w K mg base CX0 1 (f 30) (fd 30) ["rows","ring","a","b"] (spD K (sD Zy)):=by
 refine Z9 T.e_twice_weight.F W5 (S:=Zbc) rfl rfl (λcdv A outer s H E hr=>?_)
 exact(xsq (xst 4 W5.nd (xix (xv 1) (xv 2))) (xsq (xst 5 W5.nd (xix (xv 1) (Zeb (xv 2) xci))) (xsq (xst 6 W5.nd (xix (xv 1) (xv 3))) (xsq (xst 7 W5.nd (xix (xv 1) (Zfh (Zeb (xv 3) xci) (xln T.z_len (xa1 (xv 0)))))) (Zh (xrt (Zxv (Zxv (Zeb (xix (xix (xv 0) (xv 4)) (xv 6)) (xix (xix (xv 0) (xv 5)) (xv 7))) (xix (xix (xv 0) (xv 4)) (xv 7))) (xix (xix (xv 0) (xv 5)) (xv 6)))))))))
theorem W3:Zw ["table","ring","bottom","rows","weighted","a","b","twice"] ["table","ring"] (Zn Ze3):=fsc
theorem Zgw{f:Nat->Addr}{fd:Nat->XQ}{cls:Nat->Addr}(T:Txt K mg f fd cls):FnOk P w K mg base CX0 4 (f 31) (fd 31) ["table","ring"] (spD K (sD Yu)):=by
 have G_check_ring:=Zfq (P:=P) (w:=w) (base:=base) T
 have G_fraction:=Ziq (P:=P) (w:=w) (base:=base) T
 have G_pairs_of:=Znu (P:=P) (w:=w) (base:=base) T
 have G_table_bottom:=Za9 (P:=P) (w:=w) (base:=base) T
 have G_table_over:=Zco (P:=P) (w:=w) (base:=base) T
 have G_twice_weight:=Zbg (P:=P) (w:=w) (base:=base) T
 refine Z9 T.e_ring_told.F W3 (S:=Zc5) rfl rfl (λcdv A outer s H E hr=>?_)
 have hu:=hr.units
 exact(xsq (Zno (Znz (xce G_check_ring hr T.e_check_ring (Ze (xln T.z_len (xa1 (xv 0))) (xa1 (xv 1)))))) (xsq (xst 2 W3.nd (xce G_table_bottom hr T.e_table_bottom (xa1 (xv 0)))) (xsq (xst 3 W3.nd (xce G_table_over hr T.e_table_over (Ze (xv 2) (xa1 (xv 0))))) (xsq (xso 4 W3.nd (xls xa0)) (xsq (xfr X7 rfl (xil (xce G_pairs_of hr T.e_pairs_of (xa1 (xln T.z_len (xa1 (xv 0)))))) (xg2 rfl (xg 5 W3.nd) (xg 6 W3.nd)) (xsq (xst 7 W3.nd (xce G_twice_weight hr T.e_twice_weight (Ze (xv 3) (Ze (xv 1) (Ze (xv 5) (xa1 (xv 6))))))) (xsq (xif (xlt (xv 7) xci) (Zh (xrt (xtp (Ze (Zc6 Zjs) (xa1 (xtp (Ze (xv 5) (xa1 (xv 6))))))))) xnl) (Zh (xif (xgt (xv 7) xci) (Zh (Zag (Zaj 4 (xtp (Ze (Zrh Zhy (Z38 Zfn (Zce rfl) (by rfl) T.z_sorted L2.B.boot_sorted (xa1 (Zqn (Zqx (xv 1) (Zbt (Zbu (Zeb (xv 5) xci))) (Zbt (Zbu (Zeb (xv 6) xci)))))))) (xa1 (xce G_fraction hr T.e_fraction (Ze (xv 7) (xa1 (Zjw xci (xv 2))))))))))) xnl))))) (Zh (Zic (Zh6 4 (xrt (xtp (Ze (Zc6 Zjs) (xa1 (Zrh Z0e (Z38 Zwz (Zqq Z8i rfl hu) (by rfl) T.z_sorted L2.B.boot_sorted (xa1 (xv 4))))))))))))))))
theorem Zli:Zw ["n","a","b"] ["n","a","b"] (Zn Zdd):=fsc
theorem Zko{f:Nat->Addr}{fd:Nat->XQ}{cls:Nat->Addr}(T:Txt K mg f fd cls):FnOk P w K mg base CX0 1 (f 32) (fd 32) ["n","a","b"] (spD K (sD Zab)):=by
 refine Z9 T.e_check_gaps.F Zli (S:=Zb2) rfl rfl (λcdv A outer s H E hr=>?_)
 exact(Zh (xif (xno (Zr6 (Zvb Yay Zqj Zqj xci (xv 1) (xv 2) (xv 0)))) (Zh Zlj) xnl))
theorem Zeq:Zw ["table","ring","a","b","bottom"] ["table","ring","a","b"] (Zn Zcq):=fsc
theorem Zi6{f:Nat->Addr}{fd:Nat->XQ}{cls:Nat->Addr}(T:Txt K mg f fd cls):FnOk P w K mg base CX0 4 (f 33) (fd 33) ["table","ring","a","b"] (spD K (sD Yp)):=by
 have G_check_gaps:=Zko (P:=P) (w:=w) (base:=base) T
 have G_check_ring:=Zfq (P:=P) (w:=w) (base:=base) T
 have G_fraction:=Ziq (P:=P) (w:=w) (base:=base) T
 have G_table_bottom:=Za9 (P:=P) (w:=w) (base:=base) T
 have G_table_over:=Zco (P:=P) (w:=w) (base:=base) T
 have G_twice_weight:=Zbg (P:=P) (w:=w) (base:=base) T
 refine Z9 T.e_ring_weight.F Zeq (S:=Zbo) rfl rfl (λcdv A outer s H E hr=>?_)
 exact(xsq (Zno (Znz (xce G_check_ring hr T.e_check_ring (Ze (xln T.z_len (xa1 (xv 0))) (xa1 (xv 1)))))) (xsq (Zno (Znz (xce G_check_gaps hr T.e_check_gaps (Ze (xln T.z_len (xa1 (xv 0))) (Ze (xv 2) (xa1 (xv 3))))))) (xsq (xst 4 Zeq.nd (xce G_table_bottom hr T.e_table_bottom (xa1 (xv 0)))) (Zh (xrt (xce G_fraction hr T.e_fraction (Ze (xce G_twice_weight hr T.e_twice_weight (Ze (xce G_table_over hr T.e_table_over (Ze (xv 4) (xa1 (xv 0)))) (Ze (xv 1) (Ze (xv 2) (xa1 (xv 3)))))) (xa1 (Zjw xci (xv 4))))))))))
theorem Wf:Zw ["table","ring","rows","bottom","word","told","gaps","ahead"] ["table","ring","rows","bottom"] (Zn Zam):=fsc
theorem Zgo{f:Nat->Addr}{fd:Nat->XQ}{cls:Nat->Addr}(T:Txt K mg f fd cls):FnOk P w K mg base CX0 5 (f 34) (fd 34) ["table","ring","rows","bottom"] (spD K (sD Yj)):=by
 have G_law_are_cuts:=Zib (P:=P) (w:=w) (base:=base) T
 have G_law_gaps:=Zhl (P:=P) (w:=w) (base:=base) T
 have G_law_sum_of:=Zky (P:=P) (w:=w) (base:=base) T
 have G_ring_told:=Zgw (P:=P) (w:=w) (base:=base) T
 have G_ring_weight:=Zi6 (P:=P) (w:=w) (base:=base) T
 refine Z9 T.e_law_told_right.F Wf (S:=Zaf) rfl rfl (λcdv A outer s H E hr=>?_)
 have hu:=hr.units
 exact(xsq (Z8c (Z5k (xce G_ring_told hr T.e_ring_told (Ze (xv 0) (xa1 (xv 1)))) (xg2 rfl (xg 4 Wf.nd) (xg 5 Wf.nd)))) (xsq (xif (xeq hu (xv 4) (Zc6 Zjs)) (Zh (xrt (Zkx (Zxm (xce G_law_are_cuts hr T.e_law_are_cuts (Ze (xln T.z_len (xa1 (xv 2))) (Ze (xv 5) (xa1 (xv 3))))) (Zwb (xce G_law_sum_of hr T.e_law_sum_of (Ze (xln T.z_len (xa1 (xv 2))) (Ze (xv 5) (Ze (xv 3) (xa1 (xv 2))))))))))) xnl) (xsq (xst 6 Wf.nd (xce G_law_gaps hr T.e_law_gaps (xa1 (xln T.z_len (xa1 (xv 1)))))) (xsq (xif (MW.mt (Zbi (Zbh (xne hu (xv 4) (Zc6 Zjs)) (Zbi (Zbh (xno (J4 (J3 (Zc1 (Zg3 (by decide) (by rfl) T.z_isinstance L2.B.boot_isinstance (by rfl) T.z_tuple L2.B.boot_tuple (xv 5))) (λ_=>rfl)))) (Zcd (Zbn Z8j (Zbp (Zve hu) Z49 (xv 5) (xv 6) (hm:=(by with_unfolding_all rfl)))))))))) (Zh (xrt (Zc6 Zcm))) xnl) (xsq (Z11 (Zd2 (i:=7) (own:=["a","b"]) (caps:=[0,1]) (N':=["a","b","table","ring"]) false Wf.nd rfl (QB rfl) (by exact⟨rfl,by decide +kernel,rfl,by decide +kernel,rfl,rfl⟩) (by rfl) (by decide) (xil (Zqn (Zqx (xv 6) (Zih Zhx) (Zbt (Zbu (Zsj (Zw0 hu (xv 6) (xv 5)))))))) (λ_ _ _ _ _=>(xg2 rfl (xg 0 (by show JC (["a","b","table","ring"]:List Str);decide +kernel)) (xg 1 (by show JC (["a","b","table","ring"]:List Str);decide +kernel)))) (λ_ _ _ _ _=>(Zao Zas)) (λ_ _ _ _ _=>(xix (xce G_ring_weight hr T.e_ring_weight (Ze (xv 2) (Ze (xv 3) (Ze (xv 0) (xa1 (xv 1)))))) xci)))) (Zh (xrt (Zkx (Zxm (W0 Z87 (Zk6 Zqj Zjv (xix (xce G_ring_weight hr T.e_ring_weight (Ze (xv 0) (Ze (xv 1) (Ze (xix (xv 5) xci) (xa1 (xix (xv 5) xci)))))) xci) xci (hm:=(Zai _)))) (Zwb (W0 Z7f (Zk6 (Zne hu) Zum (Zer Z7n (Zi9 Z1n (Ztk rfl (by rfl)) (by rfl) T.z_min L2.B.boot_min (xa1 (Zi3 (Zef Zop (Z3r (Zeu rfl) Zh5 (xls (xa1 xci)) (xv 7))))))) xci (hm:=(Zai _))))))))))))))
theorem Zis:Zw ["rows","ring","b","a"] ["rows","ring","b"] (Zn Zf0):=fsc
theorem Zom{f:Nat->Addr}{fd:Nat->XQ}{cls:Nat->Addr}(T:Txt K mg f fd cls):FnOk P w K mg base CX0 2 (f 35) (fd 35) ["rows","ring","b"] (spD K (sD Yn)):=by
 have G_twice_weight:=Zbg (P:=P) (w:=w) (base:=base) T
 refine Z9 T.e_fits_gap.F Zis (S:=Zdy) rfl rfl (λcdv A outer s H E hr=>?_)
 exact(xsq (xfr X7 rfl (Zdf (Yl (by rfl) T.z_range (xa1 (xv 2)))) (xg 3 Zis.nd) (Zh (xif (xlt (xce G_twice_weight hr T.e_twice_weight (Ze (xv 0) (Ze (xv 1) (Ze (xv 3) (xa1 (xv 2)))))) xci) (Zh (xrt (Zc6 Zcm))) xnl))) (Zh (xrt (Zc6 Zcm))))
theorem Zad:Zw ["rows","begun","n","point","found"] ["rows","begun"] (Zn Zcv):=fsc
theorem Zb6{f:Nat->Addr}{fd:Nat->XQ}{cls:Nat->Addr}(T:Txt K mg f fd cls):∀k,FnOk P w K mg base CX0 (3+k) (f 36) (fd 36) ["rows","begun"] (spD K (sD (Z1 k)))
 | 0=>Z3h λds k h=>by obtain⟨r,h,_⟩:=h;cases h
 | k+1=>by
  have G_rec:=Zb6 T k
  have G_fits_gap:=Zom (P:=P) (w:=w) (base:=base) T
  refine Z9 T.e_first_grown.F Zad (S:=Ww (Z1 k)) rfl rfl (λcdv A outer s H E hr=>?_)
  have hu:=hr.units
  exact(Zmw (Zft (Zvv (Zvc (i:=2) Zad.nd rfl (QB rfl) (Zer Zyl (Zi9 Zp2 (Zfs rfl) (by rfl) T.z_len L2.B.boot_len (Ze (W9 (mv 0)) (Zep Zej))))))
   (Zmw (Zft (Zxi (Zwt (Zbn Z7f (Zbp (Zne hu) Zum (Zer Zyl (Zi9 Zp2 (Zfs rfl) (by rfl) T.z_len L2.B.boot_len (Ze (W9 (mv 1)) (Zep Zej)))) (W9 (mv 2)) (hm:=(Zai _)))) (Zh (Zpv (Zpy (Zi3 (Ybj (Yeu (MW.mt (Zp6 (Zpb (Zbn Z87 (Zbp Zqj Zjv (Zi3 (Zef Yag (Yax (Zkw rfl) Z31 (W9 (mv 1)) (Zc6 Zjy) (hs:=λ_ _=>rfl)))) (Zi3 (Zef Yag (Yax (Zkw rfl) Z31 (W9 (mv 1)) (Zgq (Zmc (Zc6 Zjy))) (hs:=λ_ _=>rfl)))) (hm:=(Zai _)))) (Zk8 (J4 (J3 (Zkk (Zqa G_fits_gap (hr.mono (Qv (by decide) (Q5 3 k))) (by rfl) T.e_fits_gap.m T.e_fits_gap.F.kp T.e_fits_gap.b Zxo (Ze (W9 (mv 0)) (Ze (W9 (mv 1)) (Ze (W0 Z1r (Zl9 Zv0 Zka (W9 (mv 2)) (Zc6 Zjy))) (Zep Zej)))))) (λ_=>rfl))))))) (W9 (mv 1)) (Zc6 Zjd))))))) (Zk5 Zlq)))
   (Zmw (Zft (Zzj (Zyr X7 rfl (Zt0 (Zdk (by rfl) T.z_range (Ze (Zc6 Zjy) (Ze (W9 (mv 2)) (Zep Zej))))) (Zto (Zsx (i:=3) Zad.nd))
   (Zh (Zxi (Zwt (MW.mt (Zp6 (Zpb (Zbn Zte (Zbp (Zti rfl) Zss (W9 (mv 3)) (W9 (mv 1)) (hm:=(by with_unfolding_all rfl)))) (Zk8 (J4 (J3 (Zkk (Zqa G_fits_gap (hr.mono (Qv (by decide) (Q5 3 k))) (by rfl) T.e_fits_gap.m T.e_fits_gap.F.kp T.e_fits_gap.b Zxo (Ze (W9 (mv 0)) (Ze (Zi3 (Zef Zop (Z3r (Zeu rfl) Zh5 (W9 (mv 1)) (Zuo (Z28 (Ze (W9 (mv 3)) (Zep Zej))))))) (Ze (W0 Z1r (Zl9 Zv0 Zka (Zer Zyl (Zi9 Zp2 (Zfs rfl) (by rfl) T.z_len L2.B.boot_len (Ze (W9 (mv 1)) (Zep Zej)))) (Zc6 Zjy))) (Zep Zej)))))) (λ_=>rfl))))))) (Zmw (Zft (Zvv (Zvc (i:=4) Zad.nd rfl (QB rfl) (Zkk (Zqa G_rec hr (by rfl) T.e_first_grown.m T.e_first_grown.F.kp T.e_first_grown.b Zxo (Ze (W9 (mv 0)) (Ze (Zi3 (Zef Zop (Z3r (Zeu rfl) Zh5 (W9 (mv 1)) (Zuo (Z28 (Ze (W9 (mv 3)) (Zep Zej))))))) (Zep Zej)))))))
   (Zh (Zxi (Zwt (Zbn Zta (Zbp Zsq Zu3 (W9 (mv 4)) (Zc6 Zjd) (hm:=(Zai _)))) (Zh (Zpv (Zpy (W9 (mv 4))))) (Zk5 Zlq)))))) (Zk5 Zlq))))))
   (Zh (Zpv (Zpy (Zc6 Zjd))))))))))
theorem Zix{f:Nat->Addr}{fd:Nat->XQ}{cls:Nat->Addr}(T:Txt K mg f fd cls):FnOk P w K mg base CX0 11 (f 36) (fd 36) ["rows","begun"] (spD K (sD (Z1 8))):=Zb6 T 8
theorem Zk9:Zw ["table"] ["table"] (Zn Zdh):=fsc
theorem Zlr{f:Nat->Addr}{fd:Nat->XQ}{cls:Nat->Addr}(T:Txt K mg f fd cls):FnOk P w K mg base CX0 12 (f 37) (fd 37) ["table"] (spD K (sD J8)):=by
 have G_first_grown:=Zix (P:=P) (w:=w) (base:=base) T
 have G_table_bottom:=Za9 (P:=P) (w:=w) (base:=base) T
 have G_table_over:=Zco (P:=P) (w:=w) (base:=base) T
 refine Z9 T.e_first_ring.F Zk9 (S:=Zb4) rfl rfl (λcdv A outer s H E hr=>?_)
 exact(xsq (xif (xlt (xln T.z_len (xa1 (xv 0))) xci) (Zh (xrt (Zc6 Zjd))) xnl) (Zh (xrt (xce G_first_grown hr T.e_first_grown (Ze (xce G_table_over hr T.e_table_over (Ze (xce G_table_bottom hr T.e_table_bottom (xa1 (xv 0))) (xa1 (xv 0)))) (xa1 (xls (xa1 xci))))))))
theorem Zcw:Zw ["script","n","number","cell","bottom","rows","table","found","k","ring"] ["script"] (Zn Z1l):=fsc
theorem Z7c{f:Nat->Addr}{fd:Nat->XQ}{cls:Nat->Addr}(T:Txt K mg f fd cls):FnOk P w K mg base CX0 13 (f 38) (fd 38) ["script"] (spD K (sD Zf1)):=by
 have G_law_bottom:=Zkn (P:=P) (w:=w) (base:=base) T
 have G_law_built:=Zme (P:=P) (w:=w) (base:=base) T
 have G_law_cell_at:=Zi4 (P:=P) (w:=w) (base:=base) T
 have G_law_ring:=Znr (P:=P) (w:=w) (base:=base) T
 have G_law_ring_weights:=Ze0 (P:=P) (w:=w) (base:=base) T
 have G_law_rows:=Zip (P:=P) (w:=w) (base:=base) T
 have G_law_sides:=Znb (P:=P) (w:=w) (base:=base) T
 have G_law_size:=Znq (P:=P) (w:=w) (base:=base) T
 have G_law_stir:=J9 (P:=P) (w:=w) (base:=base) T
 have G_law_table:=Zm7 (P:=P) (w:=w) (base:=base) T
 have G_law_told_right:=Zgo (P:=P) (w:=w) (base:=base) T
 have G_first_ring:=Zlr (P:=P) (w:=w) (base:=base) T
 have G_ring_told:=Zgw (P:=P) (w:=w) (base:=base) T
 refine Z9 T.e_law.F Zcw (S:=Zjb) rfl rfl (λcdv A outer s H E hr=>?_)
 have hu:=hr.units
 exact(xsq (xst 1 Zcw.nd (xce G_law_size hr T.e_law_size (Ze (xce G_law_cell_at hr T.e_law_cell_at (Ze (xv 0) (xa1 xci))) (Ze xci (Ze xci (xa1 xci)))))) (xsq (xst 2 Zcw.nd (xce G_law_cell_at hr T.e_law_cell_at (Ze (xv 0) (xa1 xci)))) (xsq (xif (xeq hu (Zfh (xv 2) xci) xci) (Zh (xst 1 Zcw.nd (Zer Ya6 (Zi9 Z3l (Ztm (by rfl)) (by rfl) T.z_min L2.B.boot_min (Ze (xv 1) (xa1 xci)))))) xnl) (xsq (xst 3 Zcw.nd (xce G_law_cell_at hr T.e_law_cell_at (Ze (xv 0) (xa1 xci)))) (xsq (xst 4 Zcw.nd (xce G_law_bottom hr T.e_law_bottom (xa1 (xv 3)))) (xsq (xst 5 Zcw.nd (xce G_law_built hr T.e_law_built (Ze (xv 0) (Ze xci (Ze (xv 1) (xa1 (xv 3))))))) (xsq (xif (xeq hu (Zfh (xv 2) xci) xci) (Zh (xst 5 Zcw.nd (xce G_law_rows hr T.e_law_rows (Ze (xv 1) (Ze (xce G_law_sides hr T.e_law_sides (xa1 (xce G_law_ring hr T.e_law_ring (Ze (Zlv (xv 2) xci) (xa1 (xv 1)))))) (xa1 (xce G_law_ring_weights hr T.e_law_ring_weights (Ze (xv 0) (Ze xci (Ze (xv 1) (xa1 (xv 3)))))))))))) xnl) (xsq (xst 6 Zcw.nd (xce G_law_table hr T.e_law_table (Ze (xv 5) (xa1 (xv 4))))) (xsq (xst 7 Zcw.nd (xce G_first_ring hr T.e_first_ring (xa1 (xv 6)))) (xsq (xif (Zbn Zta (Zbp Zsq Zu3 (xv 7) (Zc6 Zjd) (hm:=(Zai _)))) (xsq (xif (MW.mt (Zbi (Zbh (xno (J4 (J3 (Zc1 (Zg3 (by decide) (by rfl) T.z_isinstance L2.B.boot_isinstance (by rfl) T.z_list L2.B.boot_list (xv 7))) (λ_=>rfl)))) (Zbi (Zbh (xne hu (Zrh Zhy (Z38 Zfn (Zce rfl) (by rfl) T.z_sorted L2.B.boot_sorted (xa1 (xv 7)))) (Zr2 (Zh0 (by rfl) (by rfl) T.z_list L2.B.boot_list (by rfl) T.z_range L2.B.boot_range (xa1 (xv 1))))) (Zbi (Zbh (xne hu (xix (xv 7) xci) xci) (Zcd (xgt (xix (xv 7) xci) (xix (xv 7) (Zgq (Zmc xci)))))))))))) (Zh (xrt (Zc6 Zcm))) xnl) (Zh (xif (MW.mt (Zbi (Zbh (xne hu (xix (xce G_ring_told hr T.e_ring_told (Ze (xv 6) (xa1 (xv 7)))) xci) (Zc6 Zjs)) (Zcd (xno (J4 (J3 (xce G_law_told_right hr T.e_law_told_right (Ze (xv 6) (Ze (xv 7) (Ze (xv 5) (xa1 (xv 4)))))) (λ_=>rfl)))))))) (Zh (xrt (Zc6 Zcm))) xnl))) xnl) (xsq (xfr X7 rfl (Zdf (Yl (by rfl) T.z_range (xa1 xci))) (xg 8 Zcw.nd) (xsq (xst 9 Zcw.nd (xce G_law_ring hr T.e_law_ring (Ze (xce G_law_stir hr T.e_law_stir (Ze (xce G_law_cell_at hr T.e_law_cell_at (Ze (xv 0) (xa1 xci))) (xa1 (xv 8)))) (xa1 (xv 1))))) (xsq (xif (xno (J4 (J3 (xce G_law_told_right hr T.e_law_told_right (Ze (xv 6) (Ze (xv 9) (Ze (xv 5) (xa1 (xv 4)))))) (λ_=>rfl)))) (Zh (xrt (Zc6 Zcm))) xnl) (Zh (xif (MW.mt (Zp6 (Zpb (MW.mt (Zbi (Zbh (Zbn Yfl (Zbp Z6x Z8e (xv 7) (Zc6 Zjd) (hm:=(Zai _)))) (Zcd (Zbn Yac (Zbp (Z8a hu) Z56 (xv 9) (xv 7) (hm:=(Zai _)))))))) (Zk8 (xne hu (xix (xce G_ring_told hr T.e_ring_told (Ze (xv 6) (xa1 (xv 9)))) xci) (Zc6 Zjs)))))) (Zh (xrt (Zc6 Zcm))) xnl))))) (Zh (xrt (Zc6 Zcm))))))))))))))
theorem Z0q{f:Nat->Addr}{fd:Nat->XQ}{cls:Nat->Addr}(T:Txt K mg f fd cls):FnOk P w K mg base CX0 13 (f 38) (fd 38) ["script"] (spD K Z60):=(Z7c T).imp λvs H Q E q=>by
 obtain⟨L,ds,k,h1,⟨ns,e,hl,hk⟩,h3⟩:=q
 exact⟨L,ds,k,h1,⟨_,by rw[e];exact Zwa ns hl,hk⟩,h3⟩
end
theorem Z65{l:PySem.W.OpenLaw}{w:Qq}{K:Xc}{h:Heap}{mg:Str->Option Xf}{fa:Addr}(X:K.In h)(G:h.Ns Qj mg)(hfa:mg "law"=some (.ref fa))
  (q1:Ei K "_law_bottom" Zdw f1 d1)
  (q2:Ei K "_law_stir" Zfz f2 d2)
  (q3:Ei K "_law_numbers" Zct f3 d3)
  (q4:Ei K "_law_clusters" Zbz f4 d4)
  (q5:Ei K "_law_drawn" Ze2 f5 d5)
  (q6:Ei K "_law_rows" Zgl f6 d6)
  (q7:Ei K "_law_weights" Zcj f7 d7)
  (q8:Ei K "_law_built" Zey f8 d8)
  (q9:Ei K "_law_cell_at" Zcn f9 d9)
  (q10:Ei K "_law_put_right" Zba f10 d10)
  (q11:Ei K "_law_ring" Zf3 f11 d11)
  (q12:Ei K "_law_ring_weights" Jr f12 d12)
  (q13:Ei K "_law_gaps" Zf6 f13 d13)
  (q14:Ei K "_law_sides" Ze6 f14 d14)
  (q15:Ei K "_law_size" Zgh f15 d15)
  (q16:Ei K "_law_low" Zir f16 d16)
  (q17:Ei K "_law_table" Ze1 f17 d17)
  (q18:Ei K "_law_are_cuts" Zbr f18 d18)
  (q19:Ei K "_law_sum_of" Zdi f19 d19)
  (q20:Ei K "is_whole" Zga f20 d20)
  (q21:Ei K "is_ring" Zhw f21 d21)
  (q22:Ei K "check_ring" Zdc f22 d22)
  (q23:Ei K "greatest_divisor" Jx f23 d23)
  (q24:Ei K "in_least" Zgb f24 d24)
  (q25:Ei K "fraction" Zgc f25 d25)
  (q26:Ei K "pairs_of" Zgm f26 d26)
  (q27:Ei K "shared_bottom" Zbd f27 d27)
  (q28:Ei K "table_bottom" Zbv f28 d28)
  (q29:Ei K "tops_over" Ze8 f29 d29)
  (q30:Ei K "table_over" Zdl f30 d30)
  (q31:Ei K "twice_weight" Zbx f31 d31)
  (q32:Ei K "ring_told" Ze3 f32 d32)
  (q33:Ei K "check_gaps" Zdd f33 d33)
  (q34:Ei K "ring_weight" Zcq f34 d34)
  (q35:Ei K "_law_told_right" Zam f35 d35)
  (q36:Ei K "fits_gap" Zf0 f36 d36)
  (q37:Ei K "first_grown" Zcv f37 d37)
  (q38:Ei K "first_ring" Zdh f38 d38)
  (q39:Ei K "law" Z1l f39 d39)
  (z0:QQ K Qj "abs"=some none)
  (z1:QQ K Qj "bool"=some none)
  (z2:QQ K Qj "int"=some none)
  (z3:QQ K Qj "isinstance"=some none)
  (z4:QQ K Qj "len"=some none)
  (z5:QQ K Qj "list"=some none)
  (z6:QQ K Qj "max"=some none)
  (z7:QQ K Qj "min"=some none)
  (z8:QQ K Qj "range"=some none)
  (z9:QQ K Qj "set"=some none)
  (z10:QQ K Qj "sorted"=some none)
  (z11:QQ K Qj "tuple"=some none)
  (z12:QQ K Qj "zip"=some none)
  (cc_NoNumber:QQ K Qj "NoNumber"=some (some (.ref C_NoNumber)))
  (cc_NoOrder:QQ K Qj "NoOrder"=some (some (.ref C_NoOrder)))
  (x_NoNumber:Zgj K C_NoNumber)
  (x_NoOrder:Zgj K C_NoOrder)
  (r_NoNumber:Zxt K C_NoNumber)
  (r_NoOrder:Zxt K C_NoOrder)
  :∃fd:XQ,(∀(s:Xh) (v:Xf),BindsTo s fd ⟨[v],[]⟩ [("script",v)])∧∀base:Heap,K.In base->base.Ns Qj mg->FnOk l.prog w K mg base CX0 13 fa fd ["script"] (spD K Z60):=by
 have e:=hfa.symm.trans (PySem.W.mg_of X G q39.a)
 cases e
 have T:Txt K mg (λk=>[f1,f2,f3,f4,f5,f6,f7,f8,f9,f10,f11,f12,f13,f14,f15,f16,f17,f18,f19,f20,f21,f22,f23,f24,f25,f26,f27,f28,f29,f30,f31,f32,f33,f34,f35,f36,f37,f38,f39].getD k 0) (λk=>[d1,d2,d3,d4,d5,d6,d7,d8,d9,d10,d11,d12,d13,d14,d15,d16,d17,d18,d19,d20,d21,d22,d23,d24,d25,d26,d27,d28,d29,d30,d31,d32,d33,d34,d35,d36,d37,d38,d39].getD k d39) (λk=>[C_NoNumber,C_NoOrder].getD k 0):=⟨en1 X G q1,en2 X G q2,en2 X G q3,en2 X G q4,en5 X G q5,en3 X G q6,en4 X G q7,en4 X G q8,en2 X G q9,en1 X G q10,en2 X G q11,en4 X G q12,en1 X G q13,en1 X G q14,en4 X G q15,en2 X G q16,en2 X G q17,en3 X G q18,en4 X G q19,en1 X G q20,en2 X G q21,en2 X G q22,en2 X G q23,en2 X G q24,en2 X G q25,en1 X G q26,en1 X G q27,en1 X G q28,en2 X G q29,en2 X G q30,en4 X G q31,en2 X G q32,en3 X G q33,en4 X G q34,en4 X G q35,en3 X G q36,en2 X G q37,en1 X G q38,en1 X G q39,QG X G z0,QG X G z1,QG X G z2,QG X G z3,QG X G z4,QG X G z5,QG X G z6,QG X G z7,QG X G z8,QG X G z9,QG X G z10,QG X G z11,QG X G z12,ec X G cc_NoNumber,ec X G cc_NoOrder,x_NoNumber,x_NoOrder,r_NoNumber,r_NoOrder⟩
 refine⟨d39,λs v=>?_,λbase _ _=>Z0q (P:=l.prog) (w:=w) (base:=base) T⟩
 obtain⟨_,_,_,_,_,_,_,_,_,rfl,_,_⟩:=q39.F.ex
 exact .of_eq rfl
theorem walk{l:PySem.W.OpenLaw}{q:X6}{loose:List Str}{XP:(Str->Option Xf)->Heap->Prop}{YP:Qq->Heap->Prop}{d:DefRec}{K:Params->Xc}(hn:l.most=some 63)(hdf:d.params.defaults=[])
  (hY:∀(w:Qq) (h:Heap),YP w h->(K w.params).In h)
  (F:∀(w:Qq) (mg:Str->Option Xf) (fa:Addr) (h:Heap),(K w.params).In h->h.Ns Qj mg->mg d.name=some (.ref fa) ->
   ∃fd:XQ,(∀(s:Xh) (u:Xf),BindsTo s fd ⟨[u],[]⟩ [("script",u)])∧∀base:Heap,(K w.params).In base->base.Ns Qj mg->FnOk l.prog w (K w.params) mg base CX0 13 fa fd ["script"] (spD (K w.params) Z60)) :
  PySem.W.WalkO q loose XP YP l.row.toRowW d [] (λf vs=>PySem.call f vs) :=
 L2.Z0i (n:=63) (k:=13) (x :="script") (CX:=λ_=>CX0) (sp:=λw=>spD (K w.params) Z60) hn (by decide) hdf ⟨rfl,by decide,by decide⟩ hY F (λ_ _ a ns hl _ hS=>Z4j hl hS) λ_ _ _ _ _ z=>z
end My
open PySem PySem.W PyProof.Rows
theorem PySem.W.Fast.tw9466581737009294643:True:=trivial
theorem PySem.W.Fast.tw7617997620401088996:True:=trivial
theorem PySem.W.Fast.tw12633758420573741900:True:=trivial
theorem PySem.W.Fast.tw4296023238718092745:True:=trivial
theorem PySem.W.Fast.tw8332243131634672397:True:=trivial
theorem PySem.W.Fast.tw17834179876535941254:True:=trivial
theorem PySem.W.Fast.tw4089688382986305280:True:=trivial
theorem PySem.W.Fast.tw17476494136002028828:True:=trivial
theorem PySem.W.Fast.tw15136804768145806646:True:=trivial
theorem PySem.W.Fast.tw3253492808319758410:True:=trivial
theorem PySem.W.Fast.tw16279675065147817694:True:=trivial
theorem PySem.W.Fast.tw634835274157410009:True:=trivial
theorem PySem.W.Fast.tw9125751132967092928:True:=trivial
theorem PySem.W.Fast.tw12290582655914518203:True:=trivial
theorem PySem.W.Fast.tw16241670351442649220:True:=trivial
theorem PySem.W.Fast.tw12076180294245144120:True:=trivial
theorem PySem.W.Fast.tw4074771792986147261:True:=trivial
theorem PySem.W.Fast.tw3354088766827807140:True:=trivial
theorem PySem.W.Fast.tw5837891973263142187:True:=trivial
theorem PySem.W.Fast.tw18096437581098718506:True:=trivial
theorem PySem.W.Fast.tw15631716021623558792:True:=trivial
theorem PySem.W.Fast.tw13111247240836522551:True:=trivial
theorem PySem.W.Fast.tw6177325516377969658:True:=trivial
theorem PySem.W.Fast.tw15369971172941424879:True:=trivial
theorem PySem.W.Fast.tw4378633404543277444:True:=trivial
theorem PySem.W.Fast.tw16012450069944222226:True:=trivial
theorem PySem.W.Fast.tw9091652606348668850:True:=trivial
theorem PySem.W.Fast.tw10471040473750882192:True:=trivial
theorem PySem.W.Fast.tw110470911536245323:True:=trivial
theorem PySem.W.Fast.tw12752413203236990724:True:=trivial
theorem PySem.W.Fast.tw12699768206796293928:True:=trivial
theorem PySem.W.Fast.tw4456674655986171001:True:=trivial
theorem PySem.W.Fast.tw3808713715032961174:True:=trivial
theorem PySem.W.Fast.tw3490876937576909167:True:=trivial
theorem PySem.W.Fast.tw15500073451008302565:True:=trivial
theorem PySem.W.Fast.tw10217939841652930720:True:=trivial
theorem PySem.W.Fast.tw6151900390661690888:True:=trivial
theorem PySem.W.Fast.tw1887351343895544944:True:=trivial
theorem PySem.W.Fast.tw4537748913373002623:True:=trivial
theorem PySem.W.Fast.tw8043958097026221285:True:=trivial
theorem PySem.W.Fast.tw15198210329365894079:True:=trivial
theorem PySem.W.Fast.tw1067954586137381249:True:=trivial
theorem PySem.W.Fast.tw6681206446760272101:True:=trivial
theorem PySem.W.Fast.tw4143504468830176453:True:=trivial
theorem PySem.W.Fast.tw14836835507336968663:True:=trivial
theorem PySem.W.Fast.tw281441737075689766:True:=trivial
theorem PySem.W.Fast.tw12500938746501553734:True:=trivial
theorem PySem.W.Fast.tw13151066023083419142:True:=trivial
theorem PySem.W.Fast.tw413674937366669817:True:=trivial
theorem PySem.W.Fast.tw17758219839461438169:True:=trivial
theorem PySem.W.Fast.tw9834529304248634888:True:=trivial
theorem PySem.W.Fast.tw9321009650472009864:True:=trivial
theorem PySem.W.Fast.tw3874255782737656952:True:=trivial
theorem PySem.W.Fast.tw981440459768040419:True:=trivial
theorem PySem.W.Fast.tw6179719705887631463:True:=trivial
theorem PySem.W.Fast.tw5305077022397566756:True:=trivial
theorem PySem.W.Fast.tw18358945185195757375:True:=trivial
theorem PySem.W.Fast.tw747611287762933169:True:=trivial
theorem PySem.W.Fast.tw2305642032342695851:True:=trivial
theorem PySem.W.Fast.tw17202979350109331526:True:=trivial
set_option maxRecDepth 100000 in
set_option maxHeartbeats 0 in
theorem PySem.Challenge.cw_farcuts_k32_whole_rings_holds : PySem.Challenge.rw_farcuts_k32_whole_rings.Holds := by
 w_on;o_law;k_head;(case hw=>w_witness2)
 k_fill
 refine My.walk (l:=PySem.Challenge.rw_farcuts_k32_whole_rings) rfl rfl (λw h Y=>PySem.W.kIn_of Y) ?F
 case F=>
  intro w mg fa h KX G hmg
  refine' My.Z65 KX G hmg ?_ ?_ ?_ ?_ ?_ ?_ ?_ ?_ ?_ ?_ ?_ ?_ ?_ ?_ ?_ ?_ ?_ ?_ ?_ ?_ ?_ ?_ ?_ ?_ ?_ ?_ ?_ ?_ ?_ ?_ ?_ ?_ ?_ ?_ ?_ ?_ ?_ ?_ ?_ ?_ ?_ ?_ ?_ ?_ ?_ ?_ ?_ ?_ ?_ ?_ ?_ ?_ ?_ ?_ ?_ ?_ ?_ ?_
  all_goals try (first|(refine' ⟨?a,L2.Z4v ?l ?c ?k⟩;(case a=>k_is);(case l=>k_is);(case c=>k_is);(case k=>k_is))|k_is|kit_is|(show PySem.W.excIn _ _ _ _=true;k_exc)|(refine' ⟨?_,?_,?_,?_,?_,?_,?_,?_,?_,?_,?_⟩<;>first|k_is|kit_is|(show PySem.W.isClsIn _ _=true;k_is)))
#print axioms PySem.Challenge.cw_farcuts_k32_whole_rings_holds
