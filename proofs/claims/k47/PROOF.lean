import PyProof.Rows.All
import Wide.All
import OpenK.AllK
import Wide.FinOn
import PyProof.EqAt
import PyProof.EqKinds
import PyProof.TupleCall
import PyProof.P3In
import PyProof.ZipIter
import PyProof.ListRange
import PyProof.SetRoads
import PyProof.Rows.SetFrom
import PyProof.Rows.SeqMore2
import KE.RegKIsAll
import PyProof.StrWalks
import PyProof.EnumMake
import PyProof.Conv_int
import PyProof.Conv_int_bool
import PyProof.StrBlockI
import PyProof.Draws
import PySem.Challenge.RW_farcuts_k47_splits_told
set_option Elab.async false
set_option linter.all false
set_option maxRecDepth 100000
set_option genSizeOfSpec false
set_option genInjectivity false
/-! THE HAND LAYER, for ints, bools, texts, own classes, LISTS and tuples (index, slices, in, append, pop ..), calls, loops. Paste it whole ahead of your own text; what your proof does not reach may be deleted. -/
open Array renaming map_extract->XD,map_append->XQ,size_map->X8,map_push->Qw,map_reverse->QK,getElem?_toList->Q5,length_toList->Vu,map->Ul
open Bool renaming false_ne_true->Xy,and_eq_true->XC,false_eq_true->BJ,eq_false_iff->VP,and_true->U5
open False renaming elim->Vm
open ForInStep renaming yield->JR
open Int renaming le_trans->QR,zero_add->JZ,toNat_natCast->Ba,gcd->Bb,max_eq_right->Vd,gcd_eq_natAbs_gcd_natAbs->Vf,natAbs_ediv_le_natAbs->Vw,toNat_of_nonneg->Vx,max_eq_left->VD,mul_nonpos_of_nonneg_of_nonpos->VG,mul_le_mul_of_nonneg_left->Ud,le_refl->Ue,natAbs_natCast->Uw,lt_of_lt_of_le->Ux
open List renaming getD_eq_getElem?_getD->Xd,length_map->Xg,getElem?_eq_getElem->Xh,getElem?_eq_some_iff->Xj,mem_cons->Xk,getElem?_map->Xn,range->Xr,mem_singleton->Xu,map_congr_left->Xv,size_toArray->Xx,mem_map->XF,mem_append_right->XM,getElem?_set_ne->XR,nodup_cons->XX,mem_append->X3,length_range->Ql,getElem?_set_self->Qn,map_cons->Qs,mem_append_left->Qu,map_map->Qx,mem_of_getElem?->Qz,map_append->QD,getElem?_eq_none_iff->QG,append_nil->QJ,nodup_append->QL,mem_range->QM,lookup_cons->QX,drop_eq_getElem_cons->Q0,getElem?_range->Q4,length_append->Q8,mem_filter->JB,length_drop->JC,getElem?_eq_none->JH,length_set->JK,getElem_mem->JM,toArray->JV,getElem?_append_right->JW,Nodup->JX,length_cons->Bg,all_eq_true->Bh,replicate->Bl,eq_nil_of_length_eq_zero->Bm,append_assoc->Bo,length_take->Vb,length_filter_le->Vg,getElem?_of_mem->Vn,getElem?_append->Vo,rel_of_pairwise_cons->Vr,pairwise_iff_getElem->Vs,getElem?_append_left->Vt,getElem_of_mem->Vv,forIn_nil->VN,length_replicate->V4,take_length->V5,not_mem_nil->V6,mem_cons_of_mem->Uc,forIn_cons->Ug,mem_cons_self->Uo,getElem?_drop->Uq,getElem?_nil->UT,all_cons->U4
open List.Sublist renaming append_left->Uh
open Nat renaming ne_of_lt->Xp,ne_of_gt->XH,le_refl->X4,lt_of_lt_of_le->Qj,le_trans->Qy,zero_le->QQ,not_lt_zero->Bq,lt_irrefl->Bx,le_of_ble_eq_true->BP,pow_le_pow_right->BV,lt_succ_self->Vc,le_add_right->Vq,lt_of_le_of_lt->VF,zero_add->VR,lt_trans->V0,le_of_lt->V1,lt_succ_of_lt->U3
open Ne renaming symm->JP
open Option renaming bind_some->Xi,map_some->Qg,some->Qm,map_none->Qq,isSome_iff_exists->UG
open Option.some renaming inj->Qt
open Or renaming inr->Qh,inl->Qp
open PyProof.Rows renaming seqObj->QZ,callWith_type1->Bk,SortSt->Bu,SortKind->By,IntsAre->Vz,Keyed->VB,pairsOf->VM,pendingOf->V3,slot_tupleiter_next->Uy,envOfC->U7
open PyProof.Rows.SortSt renaming mk'->Bv
open PySem renaming PyData->Xa,Value->Xc,Shared->Xe,wpAny_bind->Xf,starEach->Xm,sizeLine->Xq,FuncData->XN,wpAny->X5,Program->X6,sizeLine_eq->X7,wpAny_pure->Qc,model->Qd,mainGlobals->Qe,bootBuiltins->Qk,Around->Qo,World->Qv,assignEach->Q6,foldedSetIterable->Q7,wpAny_loadPart'->JD,backTo->JL,mem_of_lookup->JT,cellsFrom->Bc,NameKind->Br,wpAny_mono->Bs,IsPair->BK,wpAny_field->BL,pushCells->BR,swapsWith->BZ,compareOp->Va,wpAny_seqItems->Ve,wpAny_setField_rec->Vh,wpAny_Call_Name_kw->Vi,wpAny_passesOwn->Vj,binaryOp->Vk,wpAny_call_entry->Vy,wpAny_holding->VH,wpAny_callSpecial?_slot->V2,wpAny_truthy_bool->V7,wpAny_loadPart_at->V8,assign->V9,Scope->Ua,Keyword->Ub,behindInMarks->Uj,attributeBase->Uk,sliceBounds->Um,pushCells_keeps->Us,letOwnedTupleGo->Ut,IsZip->U9
open PySem.Builtin.Int renaming intBits->JN,intTooBig->UW
open PySem.Builtin.SmallTypes renaming nextOf->QT,ownedTupleIsFree->Bf,ownedTupleHandOut->Ur
open PySem.F renaming type_list_append->Uu,slot_list_append->Uv,plainAttrs_list->UL
open PySem.Heap renaming get?_push_of_some->Xl,lt_size->Xw,get?_push_size->Qi,size_push->Q9,SameBut->Vp,get?_update_ne->Ui,get?_push_ne->UV
open PySem.NameKind renaming free->QW,cell->Be
open PySem.Obj renaming mapSeq->QB
open PySem.PassesOwn renaming never->Xz
open PySem.PyData renaming int->Xo,list->QH,eqv->JF,canLayAll0->JQ,canLay0->Bw,eqvAll->Uz
open PySem.SeqAt renaming EqAt->JS,shaped->VJ,canLay_of_shaped->VL
open PySem.Value renaming none->QF,ref->QS,builtin->UJ,int->U8
open PySem.W renaming Frag->Xb,kas_item->XJ,mg_none_of->QC,nsIn->QV,kia_one->Q3,Looks->JG,keepIn->Bj,kitOne->BW,findIn->BX,fnOf->Vl,kas_sort->U6
open Rat renaming divInt->Qa,divInt_eq_div->Bp,div_def->U0
namespace L2
open PySem PySem.Spec PyProof.Rows
noncomputable abbrev Key:=Sum Int Str
noncomputable def Z5f:Key->Xc->Bool
 | .inl k,v=>Xc.isInt k v
 | .inr x,v=>Xc.isStrOf x v
noncomputable def Ydf(w:Qv):Key->Int
 | .inl k=>hashInt k
 | .inr x=>hashStr w x
theorem Y0:∀{k:Key} {v:Xc},Z5f k v=true->(∃i t,k=Sum.inl i∧v=U8 i t)∨(∃x t,k=Sum.inr x∧v=Value.str x t)
 | .inl i,v,h=>by
  obtain⟨t,e⟩:=Value.isInt_shape (k:=i) (v:=v) h
  exact .inl ⟨i,t,rfl,e⟩
 | .inr x,v,h=>by
  obtain⟨t,e⟩:=Xc.isStrOf_shape (x:=x) (v:=v) h
  exact .inr ⟨x,t,rfl,e⟩
theorem Z4e(a b:Int):decide ((Sum.inl a:Key)=Sum.inl b)=(a==b):=by
 by_cases e:a=b
 ·subst e;simp
 ·have h:¬(Sum.inl a:Key)=Sum.inl b:=λq=>e (Sum.inl.inj q)
  rw[decide_eq_false h]
  exact(beq_eq_false_iff_ne.mpr e).symm
theorem Z5j(a b:Str):decide ((Sum.inr a:Key)=Sum.inr b)=decide (a=b):=by
 by_cases e:a=b
 ·subst e;simp
 ·have h:¬(Sum.inr a:Key)=Sum.inr b:=λq=>e (Sum.inr.inj q)
  rw[decide_eq_false h,decide_eq_false e]
theorem Z46(a:Int)(b:Str):decide ((Sum.inl a:Key)=Sum.inr b)=false:=decide_eq_false (λq=>nomatch q)
theorem Z5d(a:Str)(b:Int):decide ((Sum.inr a:Key)=Sum.inl b)=false:=decide_eq_false (λq=>nomatch q)
noncomputable def Zk9(prog:X6)(w:Qv):PySem.KeyKind prog w Key where
 is:=Z5f
 hash:=Ydf w
 inj:=λv a b ha hb=>by
  rcases Y0 ha with⟨i,t,rfl,rfl⟩|⟨x,t,rfl,rfl⟩
  ·rcases Y0 hb with⟨j,u,rfl,e⟩|⟨y,u,rfl,e⟩
   ·injection e with e1 _;rw[e1]
   ·exact nomatch e
  ·rcases Y0 hb with⟨j,u,rfl,e⟩|⟨y,u,rfl,e⟩
   ·exact nomatch e
   ·injection e with e1 _;rw[e1]
 byValue:=λk v h=>by
  rcases Y0 h with⟨i,t,rfl,rfl⟩|⟨x,t,rfl,rfl⟩<;>rfl
 pyHash:=λhv h=>by
  rcases Y0 hv with⟨i,t,rfl,rfl⟩|⟨x,t,rfl,rfl⟩
  ·exact wpAny_pyHash_int h
  ·exact wpAny_pyHash_str h
 eqBool:=λhu hv h=>by
  rcases Y0 hu with⟨i,t,rfl,rfl⟩|⟨x,t,rfl,rfl⟩
  ·rcases Y0 hv with⟨j,u,rfl,rfl⟩|⟨y,u,rfl,rfl⟩
   ·rw[Z4e]at h;exact wpAny_eqBool_int h
   ·rw[Z46]at h;exact SeqAt.EqAt.int_str i t y u _ _ _ _ h
  ·rcases Y0 hv with⟨j,u,rfl,rfl⟩|⟨y,u,rfl,rfl⟩
   ·rw[Z5d]at h;exact SeqAt.EqAt.str_int x t j u _ _ _ _ h
   ·rw[Z5j]at h;exact wpAny_eqBool_str h
 «strs»:=λk x t v h=>by
  rcases Y0 h with⟨i,u,rfl,e⟩|⟨y,u,rfl,e⟩
  ·exact nomatch e
  ·injection e with e1 _
   subst e1
   cases v<;>rfl
inductive V where
 | non|bl (b:Bool)|int (i:Int)|str (x:Str)|byt (b:Array UInt8)|flt (b:UInt64)|ref (a:Addr)|ty (n:String)
 deriving DecidableEq
noncomputable def RelV:V->Xc->Prop
 | .non,u=>u=QF
 | .bl b,u=>u=Value.bool b
 | .int i,u=>∃t,u=U8 i t
 | .str x,u=>∃t,u=Value.str x t
 | .byt b,u=>∃t,u=Xc.bytes b t
 | .flt b,u=>∃t,u=Xc.float b t
 | .ref a,u=>u=QS a
 | .ty n,u=>u=Xc.type n
noncomputable abbrev Vals:List V->List Xc->Prop:=Paired RelV
theorem Vals.length{xs:List V}{us:List Xc}(r:Vals xs us):xs.length=us.length:=Paired.length r
theorem Vals.get{xs:List V}{us:List Xc}{i:Nat}{x:V}(h:Vals xs us)(e:xs[i]? =some x):∃u,us[i]? =some u∧RelV x u:=by
 induction h generalizing i with
 | nil=>exact(Option.some_ne_none _ (e.symm.trans UT)).elim
 | cons r t ih=>
  cases i with
  | zero=>exact⟨_,rfl,Qt e▸r⟩
  | succ i=>exact ih e
theorem Vals.set{x:V}{u:Xc}(r:RelV x u){xs:List V}{us:List Xc}(i:Nat)(h:Vals xs us):Vals (xs.set i x) (us.set i u):=by
 induction h generalizing i with
 | nil=>exact .nil
 | cons q t ih=>
  cases i with
  | zero=>exact .cons r t
  | succ i=>exact .cons q (ih i)
theorem Vals.append{xs ys:List V}{us ws:List Xc}(h:Vals xs us)(s:Vals ys ws):Vals (xs ++ ys) (us ++ ws):=by
 induction h with
 | nil=>exact s
 | cons r t ih=>exact .cons r ih
theorem Vals.take{xs:List V}{us:List Xc}(n:Nat)(h:Vals xs us):Vals (xs.take n) (us.take n):=by
 induction h generalizing n with
 | nil=>rw[List.take_nil,List.take_nil];exact .nil
 | cons r t ih=>
  cases n with
  | zero=>exact .nil
  | succ n=>exact .cons r (ih n)
theorem Vals.drop{xs:List V}{us:List Xc}(n:Nat)(h:Vals xs us):Vals (xs.drop n) (us.drop n):=by
 induction h generalizing n with
 | nil=>rw[List.drop_nil,List.drop_nil];exact .nil
 | cons r t ih=>
  cases n with
  | zero=>exact .cons r t
  | succ n=>exact ih n
noncomputable def RelO:Option V->Option Xc->Prop
 | some v,some u=>RelV v u
 | none,none=>True
 | _,_=>False
noncomputable def KV{κ:Type}:List (κ×V)->List (κ×Xc)->Prop:=Paired λ(p:κ×V) (q:κ×Xc)=>p.1=q.1∧RelV p.2 q.2
noncomputable def kV:Key->V
 | .inl i=>.int i
 | .inr x=>.str x
inductive HO where
  | lst (xs:List V)
  | tup (xs:List V)
  | dK (kvs:List (Key×V))|dT (kvs:List (List Key×V))
  | set (S:Int->Bool) (n:Nat)
  | ins (C dx:Addr) (fs:List (Str×V))
  | own (x:Addr)
  | xd (fs:List (Str×V))
  | met (f x:Addr)
  | rng (lo hi:Int)
  | frz (o:Obj) (u:HO)
  | tbl (ps:Array Xc)
  | ext (φ:Heap->Prop)
noncomputable abbrev Hp:=Addr->Option HO
noncomputable def upd(H:Hp)(a:Addr)(o:HO):Hp:=λb=>if b=a then some o else H b
theorem Zt{H:Hp}{a:Addr}{o:HO}:upd H a o a=some o:=by unfold upd;rw[if_pos rfl]
theorem Zu{H:Hp}{a b:Addr}{o:HO}(h:b≠a):upd H a o b=H b:=by unfold upd;rw[if_neg h]
theorem Yy{H:Hp}{a b:Addr}{o:HO}(h:H a=some o)(h':H b=none):a≠b:=by
 intro e;subst e;rw[h]at h';cases h'
section
variable (P:X6)(w:Qv)
noncomputable def ObjOk(H:Hp)(h:Heap)(a:Addr):HO->Prop
 | .lst xs=>xs.length≤Xq∧∃(its:List Xc) (n:Nat),Vals xs its∧h.get? a=some { cls:=.type "list",data:=.seq its.toArray n }
 | .tup xs=>xs.length≤Xq∧∃its:List Xc,Vals xs its∧IsTup h a its.toArray
 | .dK kvs=>kvs.length≤Xq∧(a==sysModules)=false∧∃vs,KV kvs vs∧h.DictOf (Zk9 P w) a vs
 | .dT kvs=>kvs.length≤Xq∧(a==sysModules)=false∧∃xs:List (List Key×Addr×Xc),
   Paired (λ(p:List Key×V) (q:List Key×Addr×Xc)=>p.1=q.1∧H q.2.1=some (.tup (p.1.map kV))∧RelV p.2 q.2.2) kvs xs∧
   ∃o es ep,h.get? a=some o∧o.ExactDict∧o.data= .dict es ep∧es.toList=xs.map (entryOfKey (tupleKind (Zk9 P w)))∧(xs.map (·.1)).Nodup
 | .set S n=>h.SetOf (intKind P w) a S n
 | .ins C dx fs=>H dx=some (.own a)∧fs.length≤1000∧dx≠a∧h.get? a=some (PySem.W.instObj C dx)∧
   ∃mA,h.Ns1 dx mA∧(∀f,RelO (fs.lookup f) (mA f))∧PySem.Within mA (fs.map (·.1))
 | .own _=>∃o,h.get? a=some o
 | .xd fs=>∃mA,h.Ns1 a mA∧∀f,RelO (fs.lookup f) (mA f)
 | .rng lo hi=>∃t u v,h.get? a=some { cls:=.type "range",data:=.fields #[.int lo t,.int hi u,.int 1 v] }
 | .frz o u=>h.get? a=some o∧ObjOk H h a u
 | .tbl ps=>h.get? a=some { cls:=.none,data:=.fields ps }
 | .met f x=>h.get? a=some (PySem.W.methodObj (.ref f) (.ref x))
 | .ext φ=>φ h∧(∃o,h.get? a=some o)∧∀h1 h2:Heap,φ h1->(∀o,h1.get? a=some o->h2.get? a=some o)->φ h2
noncomputable def HOk(H:Hp)(h:Heap):Prop:=∀a o,H a=some o->ObjOk P w H h a o
end
section
variable {P:X6}{w:Qv}{H H':Hp}{h h':Heap}{a:Addr}{o:HO}
theorem ObjOk.lt(x:ObjOk P w H h a o):a<h.objs.size:=by
 cases o with
 | lst xs=>obtain⟨_,_,_,_,e⟩:=x;exact Xw e
 | tup xs=>obtain⟨_,_,_,p⟩:=x;exact p.lt
 | dK kvs=>obtain⟨_,_,_,_,o,_,_,e,_⟩:=x;exact Xw e
 | dT kvs=>obtain⟨_,_,_,_,o,_,_,e,_⟩:=x;exact Xw e
 | set S n=>obtain⟨o,_,_,_,e,_⟩:=x;exact Xw e
 | ins C dx fs=>obtain⟨_,_,_,e,_⟩:=x;exact Xw e
 | own y=>obtain⟨_,e⟩:=x;exact Xw e
 | xd fs=>obtain⟨_,⟨_,_,_,e,_⟩,_⟩:=x;exact Xw e
 | rng lo hi=>obtain⟨_,_,_,e⟩:=x;exact Xw e
 | frz ob u=>obtain⟨e,_⟩:=x;exact Xw e
 | tbl ps=>exact Xw (show h.get? a=some _ from x)
 | met f y=>exact Xw (show h.get? a=some _ from x)
 | ext φ=>obtain⟨_,⟨_,e⟩,_⟩:=x;exact Xw e
theorem Paired.mapP{α β:Type}{F G:α->β->Prop}{l₁:List α}{l₂:List β}(h:Paired F l₁ l₂)(f:∀a b,F a b->G a b):Paired G l₁ l₂:=by
 induction h with
 | nil=>exact .nil
 | cons r t ih=>exact .cons (f _ _ r) ih
theorem ObjOk.stay(x:ObjOk P w H h a o)(k:∀b u,(b=a∨H b=some (.own a))->h.get? b=some u->h'.get? b=some u)
  (ho:∀b,H b=some (.own a)->H' b=some (.own a)) (ht:∀b xs,H b=some (.tup xs)->H' b=some (.tup xs)):ObjOk P w H' h' a o:=by
 induction o with
 | lst xs=>obtain⟨z,its,n,r,e⟩:=x;exact⟨z,its,n,r,k _ _ (.inl rfl) e⟩
 | tup xs=>obtain⟨z,its,r,ob,e,c⟩:=x;exact⟨z,its,r,ob,k _ _ (.inl rfl) e,c⟩
 | dK kvs=>obtain⟨z,y,vs,r,ob,es,ep,e,c⟩:=x;exact⟨z,y,vs,r,ob,es,ep,k _ _ (.inl rfl) e,c⟩
 | dT kvs=>
  obtain⟨z,y,xs,r,ob,es,ep,e,c⟩:=x
  exact⟨z,y,xs,Paired.mapP r λp q z=>⟨z.1,ht _ _ z.2.1,z.2.2⟩,ob,es,ep,k _ _ (.inl rfl) e,c⟩
 | set S n=>obtain⟨ob,es,ep,t,e,c⟩:=x;exact⟨ob,es,ep,t,k _ _ (.inl rfl) e,c⟩
 | ins C dx fs=>
  obtain⟨d,z,ne,e,mA,⟨od,es,ep,e2,c⟩,r⟩:=x
  exact⟨ho _ d,z,ne,k _ _ (.inl rfl) e,mA,⟨od,es,ep,k _ _ (.inr d) e2,c⟩,r⟩
 | own y=>obtain⟨ob,e⟩:=x;exact⟨ob,k _ _ (.inl rfl) e⟩
 | xd fs=>obtain⟨mA,⟨od,es,ep,e,c⟩,r⟩:=x;exact⟨mA,⟨od,es,ep,k _ _ (.inl rfl) e,c⟩,r⟩
 | rng lo hi=>obtain⟨t,u,v,e⟩:=x;exact⟨t,u,v,k _ _ (.inl rfl) e⟩
 | frz ob u ih=>obtain⟨e,q⟩:=x;exact⟨k _ _ (.inl rfl) e,ih q⟩
 | tbl ps=>
  have e:h.get? a=some { cls:=.none,data:=.fields ps }:=x
  show h'.get? a=some { cls:=.none,data:=.fields ps }
  exact k a _ (.inl rfl) e
 | met f y=>
  have e:h.get? a=some (PySem.W.methodObj (.ref f) (.ref y)):=x
  show h'.get? a=some (PySem.W.methodObj (.ref f) (.ref y))
  exact k a _ (.inl rfl) e
 | ext φ=>obtain⟨p,⟨o,e⟩,st⟩:=x;exact⟨st _ _ p λo q=>k _ _ (.inl rfl) q,⟨o,k _ _ (.inl rfl) e⟩,st⟩
theorem HOk.lt(x:HOk P w H h)(e:H a=some o):a<h.objs.size:=(x a o e).lt
theorem HOk.fresh(x:HOk P w H h)(e:h.objs.size≤a):H a=none:=by
 cases q:H a with
 | none=>rfl
 | some u=>exact absurd (Qj (x.lt q) e) (Bx _)
theorem HOk.kept(x:HOk P w H h)(k:∀b u,h.get? b=some u->h'.get? b=some u):HOk P w H h':=λa o e=>
 (x a o e).stay (λb u _ q=>k b u q) (λ_ q=>q) λ_ _ q=>q
theorem HOk.laid(x:HOk P w H h)(k:∀b u,h.get? b=some u->h'.get? b=some u)(hp:h.objs.size≤a)(new:ObjOk P w (upd H a o) h' a o):HOk P w (upd H a o) h':=λb u e=>by
 have hn:=x.fresh hp
 by_cases hb:b=a
 ·subst hb;rw[Zt]at e;cases e;exact new
 ·rw[Zu hb]at e
  exact(x b u e).stay (λc v _ q=>k c v q) (λc q=>by rw[Zu (Yy q hn)];exact q) λc xs q=>by rw[Zu (Yy q hn)];exact q
end
noncomputable def Rd(H:Hp)(a:Addr)(u:HO):Prop:=H a=some u∨∃o,H a=some (.frz o u)
theorem Rd.ok{P:X6}{w:Qv}{H:Hp}{h:Heap}{a:Addr}{u:HO}(r:Rd H a u)(x:HOk P w H h):ObjOk P w H h a u:=by
 rcases r with r|⟨o,r⟩
 ·exact x a u r
 ·obtain⟨_,q⟩:=x a _ r
  exact q
noncomputable def Mut:Option HO->Prop
 | some (.lst _)=>True
 | some (.dK _)=>True
 | some (.dT _)=>True
 | some (.set _ _)=>True
 | some (.ins _ _ _)=>True
 | some (.ext _)=>True
 | _=>False
section
variable {P:X6}{w:Qv}{H:Hp}{h h':Heap}{x e:Addr}{o':HO}
theorem HOk.write(ok:HOk P w H h)(mu:Mut (H x))(he:e=x∨H e=some (.own x))(k:∀b u,b≠e->h.get? b=some u->h'.get? b=some u)(heo:∃u,h'.get? e=some u)
  (new:ObjOk P w (upd H x o') h' x o'):HOk P w (upd H x o') h':=λb u q=>by
 have nown:∀c y,H c=some (.own y)->c≠x:=λc y r z=>by subst z;rw[r]at mu;exact mu
 have ntup:∀c xs,H c=some (.tup xs)->c≠x:=λc xs r z=>by subst z;rw[r]at mu;exact mu
 by_cases hb:b=x
 ·subst hb;rw[Zt]at q;cases q;exact new
 ·rw[Zu hb]at q
  by_cases hbe:b=e
  ·have q':H b=some (.own x):=by
    rcases he with z|z
    ·exact absurd (hbe.trans z) hb
    ·rw[hbe];exact z
   rw[q]at q';cases q'
   obtain⟨v,hv⟩:=heo
   exact⟨v,by rw[hbe];exact hv⟩
  ·refine(ok b u q).stay (λc v hc r=>k c v ?_ r) (λc r=>by rw[Zu (nown c b r)];exact r) λc xs r=>by rw[Zu (ntup c xs r)];exact r
   rcases hc with rfl|hc
   ·exact hbe
   ·rintro rfl
    rcases he with z|z
    ·exact nown c b hc z
    ·rw[hc]at z;cases z;exact hb rfl
end
structure Un(fs ex:List Addr)(H H':Hp)(h h':Heap):Prop where
 keep:∀b o,h.get? b=some o->H b=none->b∉fs->b∉ex->h'.get? b=some o
 slot:∀b o,h.get? b=some o->H b=none->b∈fs->b∉ex->∃sl,h'.get? b=some { o with slots:=sl }
 free:∀b o,h.get? b=some o->H b=none->b∉ex->H' b=none
 there:∀b o,h.get? b=some o->b∉ex->∃o',h'.get? b=some o'
 tups:∀b xs,H b=some (.tup xs)->H' b=some (.tup xs)
 frzs:∀b o u,H b=some (.frz o u)->H' b=some (.frz o u)
 tbls:∀b ps,H b=some (.tbl ps)->∃more,H' b=some (.tbl (ps ++ more))
section
variable {fs fs' ex ex':List Addr}{H H1 H2:Hp}{h h1 h2 h':Heap}{a x e:Addr}{o:HO}
theorem Un.any(u:Un fs ex H H1 h h1){b:Addr}{ob:Obj}(q:h.get? b=some ob)(n:H b=none)(hx:b∉ex):∃sl,h1.get? b=some { ob with slots:=sl }:=by
 by_cases hb:b∈fs
 ·exact u.slot b ob q n hb hx
 ·exact⟨ob.slots,u.keep b ob q n hb hx⟩
theorem Un.kept(k:∀b u,h.get? b=some u->h'.get? b=some u):Un fs ex H H h h' :=
 ⟨λb ob q _ _ _=>k b ob q,λb ob q _ _ _=>⟨ob.slots,k b ob q⟩,λ_ _ _ n _=>n,λb ob q _=>⟨ob,k b ob q⟩,λ_ _ q=>q,λ_ _ _ q=>q,λ_ ps q=>⟨#[],by rw[q];simp⟩⟩
theorem Un.refl:Un fs ex H H h h:=Un.kept λ_ _ q=>q
theorem Un.laid(k:∀b u,h.get? b=some u->h'.get? b=some u)(hp:h.objs.size≤a)(hn:H a=none):Un fs ex H (upd H a o) h h' where
 keep:=λb u q _ _ _=>k b u q
 slot:=λb u q _ _ _=>⟨u.slots,k b u q⟩
 free:=λb u q n _=>by rw[Zu (Xp (Qj (Xw q) hp))];exact n
 there:=λb u q _=>⟨u,k b u q⟩
 tups:=λb xs q=>by rw[Zu (Yy q hn)];exact q
 frzs:=λb u xs q=>by rw[Zu (Yy q hn)];exact q
 tbls:=λb ps q=>⟨#[],by rw[Zu (Yy q hn),q];simp⟩
theorem Un.write(mu:Mut (H x))(he:e=x∨H e=some (.own x))(k:∀b u,b≠e->h.get? b=some u->h'.get? b=some u)(heo:∃u,h'.get? e=some u):Un fs ex H (upd H x o) h h':=by
 have hx:∀b,H b=none->b≠x:=λb n z=>by subst z;rw[n]at mu;exact mu
 have hb:∀b,H b=none->b≠e:=λb n z=>by
  subst z
  rcases he with r|r
  ·exact hx b n r
  ·rw[n]at r;cases r
 have hm:∀b u,H b=some u->¬Mut (some u)->b≠x:=λb u q nm z=>by subst z;rw[q]at mu;exact nm mu
 refine⟨λb u q n _ _=>k b u (hb b n) q,λb u q n _ _=>⟨u.slots,k b u (hb b n) q⟩,λb u q n _=>by rw[Zu (hx b n)];exact n,λb u q _=>?_,
  λb xs q=>by rw[Zu (hm b _ q λz=>z)];exact q,λb u xs q=>by rw[Zu (hm b _ q λz=>z)];exact q,λb ps q=>⟨#[],by rw[Zu (hm b _ q λz=>z),q];simp⟩⟩
 by_cases hbe:b=e
 ·subst hbe;exact heo
 ·exact⟨u,k b u hbe q⟩
end
noncomputable def trk(h:Heap)(H:Hp):List Addr:=(Xr h.objs.size).filter λa=>(H a).isSome
noncomputable def Zu4(h:Heap)(H:Hp):Heap:=PySem.W.hideAll h (trk h H)
theorem Zqe(h:Heap)(H:Hp):(Zu4 h H).objs.size=h.objs.size:=PySem.W.hideAll_size _ _
theorem Ztg{h:Heap}{H:Hp}{b:Addr}{o:Obj}(e:h.get? b=some o)(n:H b=none):(Zu4 h H).get? b=some o :=
 PySem.W.hideAll_get _ e λhm=>by
  have q:(H b).isSome=true:=(JB.mp hm).2
  rw[n]at q;simp at q
theorem Z0u{h:Heap}{H:Hp}{b:Addr}{o:Obj}(e:(Zu4 h H).get? b=some o):h.get? b=some o∧H b=none:=by
 have e':h.get? b=some o:=PySem.W.of_hideAll (trk h H) e
 refine⟨e',?_⟩
 cases q:H b with
 | none=>rfl
 | some x=>
  have hm:b∈trk h H:=JB.mpr ⟨QM.mpr (Xw e'),by simp[q]⟩
  have z:(Zu4 h H).get? b=none:=PySem.W.hideAll_none (trk h H) hm
  rw[z]at e;cases e
noncomputable def Zzk(g h:Heap)(L:Addr):List (Addr×Obj):=(Xr h.objs.size).filterMap λa=>if a=L∨(g.get? a).isSome=true then none else(h.get? a).map λo=>(a,o)
noncomputable def rest(g h:Heap)(L d:Addr):List (Addr×Obj):=(Zzk g h L).filter λp=>decide (p.1≠d)
structure Mod(K:Xb)(mg:Str->Option Xc)(base:Heap):Prop where
 kin:K.In base
 glob:base.Ns Qe mg
 blt:∃mb,base.Ns builtinsNs mb∧∀x:Str,x≠"__name__" ->mb x=Qk x
 nolimit:base.NoLimit
set_option genInjectivity false in
structure Cx where
 prog:X6
 w:Qv
 K:Xb
 mg:Str->Option Xc
 base:Heap
 A:Qo
 N:List Str
 s₀:Xe
 H₀:Hp
 env:Env
 outer:List Env
 stack:List Env
 ex:List Addr
 fn:Str->Bool
 calm:Bool
 pn:List (Addr×Obj)
 xe:Xc->Xe->Prop
noncomputable def frs(l:List Env):List Addr:=l.filterMap (·.frame)
noncomputable abbrev Cx.fs(X:Cx):List Addr:=frs X.outer
noncomputable def Vis(sc:Ua)(x:Str):Prop:=sc.names.lookup x=some .local∨sc.names.lookup x=some .cell∨sc.names.lookup x=some .free
noncomputable def Loc(sc:Ua)(x:Str):Prop:=sc.names.lookup x=some .local∨sc.names.lookup x=some .cell
noncomputable def Look(env:Env)(h:Heap)(m:Str->Option Xc)(x:Str)(u:Xc):Prop :=
 (env.kindOf x=some .local∧m x=some u)∨((env.kindOf x=some .cell∨env.kindOf x=some .free)∧∃c,env.cells.lookup x=some c∧h.IsCell c (some u))
structure Cx.Ok(X:Cx):Prop where
 mod:Mod X.K X.mg X.base
 kind:X.env.scope.kind= .function
 glob:X.env.globals=Qe
 blt:X.env.builtins=builtinsNs
 above:X.s₀.heap.objs.size≤X.env.locals
 inj:∀x y c,X.env.cells.lookup x=some c->X.env.cells.lookup y=some c->x=y
 has:∀x,(X.env.kindOf x=some .cell∨X.env.kindOf x=some .free)->∃c,X.env.cells.lookup x=some c
 cab:∀x c,X.fn x=true->X.env.cells.lookup x=some c->X.s₀.heap.objs.size≤c
 hd:X.calm=true->X.A.handled=none
 frames:X.A.frames=some X.stack
 stk:X.stack=X.outer∨(X.stack=X.env :: X.outer∧X.env.frame=some X.env.locals)
 exf:∀b∈X.ex,b≠X.env.locals∧∀x c,X.env.cells.lookup x=some c->c≠b
 bs:∀b o,X.base.get? b=some o->X.s₀.heap.get? b=some o∧X.H₀ b=none
 bsz:X.base.objs.size≤X.s₀.heap.objs.size
 noex:∀b o,X.base.get? b=some o->b∉X.ex
 exfs:∀b∈X.ex,b∉X.fs
 funs:X.s₀.heap.FunFrames X.base X.outer
 frf:∀b∈X.fs,X.H₀ b=none
structure Inv(X:Cx)(pins:List (Addr×Obj))(σ:List (Option V))(H:Hp)(s:Xe):Prop where
 ok:X.Ok
 os:s.os=X.s₀.os
 bare:AllBare s.gens
 base:Un X.fs X.ex X.H₀ H X.s₀.heap s.heap
 loc:∃m,s.heap.Ns X.env.locals m∧∀(i:Nat) (x:Str) (v:V),X.N[i]? =some x->σ[i]? =some (some v)->Vis X.env.scope x->∃u,RelV v u∧Look X.env s.heap m x u
 cell:∀x c,X.env.cells.lookup x=some c->∃v,s.heap.IsCell c v
 free:H X.env.locals=none
 freeC:∀x c,X.env.cells.lookup x=some c->H c=none
 pin:∀p∈X.pn ++ pins,s.heap.get? p.1=some p.2∧H p.1=none∧p.1≠X.env.locals∧p.1∉X.fs∧∀v,p.2.data≠ .cell v
 hok:HOk X.prog X.w H s.heap
 len:σ.length=X.N.length
section
variable {X:Cx}{pins:List (Addr×Obj)}{σ:List (Option V)}{H H':Hp}{s:Xe}{h':Heap}
theorem Cx.Ok.nofr(ok:X.Ok){b:Addr}{o:Obj}(e:X.base.get? b=some o):b∉X.fs:=λhb=>by
 have:=(ok.funs.mem hb).1
 rw[e]at this;cases this
theorem Inv.bs(I:Inv X pins σ H s):∀b o,X.base.get? b=some o->s.heap.get? b=some o∧H b=none:=λb o e=>
 ⟨I.base.keep b o (I.ok.bs b o e).1 (I.ok.bs b o e).2 (I.ok.nofr e) (I.ok.noex b o e),I.base.free b o (I.ok.bs b o e).1 (I.ok.bs b o e).2 (I.ok.noex b o e)⟩
theorem Inv.bk(I:Inv X pins σ H s):∀b o,X.base.get? b=some o->s.heap.get? b=some o:=λb o e=>(I.bs b o e).1
theorem Inv.mod(I:Inv X pins σ H s):Mod X.K X.mg X.base:=I.ok.mod
theorem Inv.kIn(I:Inv X pins σ H s):X.K.In s.heap:=I.ok.mod.kin.keeps I.bk
theorem Inv.lt(I:Inv X pins σ H s):X.env.locals<s.heap.objs.size:=let⟨_,hn,_⟩:=I.loc;hn.lt
theorem Inv.sz(I:Inv X pins σ H s):X.s₀.heap.objs.size≤s.heap.objs.size:=Qy I.ok.above (V1 I.lt)
theorem Inv.nofs(I:Inv X pins σ H s){a:Addr}(h:s.heap.objs.size≤a):a∉X.fs:=λhb=>by
 obtain⟨_,o,ho,_⟩:=I.ok.funs.mem hb
 exact absurd (Qj (Xw ho) (Qy I.sz h)) (Bx _)
theorem Inv.cne(I:Inv X pins σ H s):∀x c,X.env.cells.lookup x=some c->c≠X.env.locals:=λx c e z=>by
 obtain⟨v,o,ho,hd⟩:=I.cell x c e
 obtain⟨m,⟨o',es,ep,ho',hd',_⟩,_⟩:=I.loc
 rw[z,ho']at ho;cases ho;rw[hd']at hd;cases hd
theorem Inv.funs(I:Inv X pins σ H s):s.heap.FunFrames X.base X.outer:=by
 have all:∀(l:List Env),(∀b∈frs l,b∈X.fs)->X.s₀.heap.FunFrames X.base l->s.heap.FunFrames X.base l:=by
  intro l
  induction l with
  | nil=>intro _ _;trivial
  | cons env r ih=>
   intro hs hl
   obtain⟨hk,⟨L,o,hf,hn,ho,hd⟩,hr⟩:=hl
   have hL:L∈X.fs:=hs L (by unfold frs;rw[List.filterMap_cons,hf];exact Uo)
   obtain⟨sl,e⟩:=I.base.slot L o ho (I.ok.frf L hL) hL λz=>I.ok.exfs L z hL
   exact⟨hk,⟨L,_,hf,hn,e,hd⟩,ih (λb hb=>hs b (by unfold frs;rw[List.filterMap_cons,hf];exact Uc _ hb)) hr⟩
 exact all X.outer (λ_ hb=>hb) I.ok.funs
theorem Inv.stack(I:Inv X pins σ H s):s.heap.FunFrames X.base X.stack:=by
 rcases I.ok.stk with e|⟨e,hf⟩
 ·rw[e];exact I.funs
 ·rw[e]
  obtain⟨m,hn,_⟩:=I.loc
  refine .cons (by rw[I.ok.kind];decide) hf hn ?_ I.funs
  exact Heap.get?_none_of_le (Qy I.ok.bsz I.ok.above)
theorem Inv.stkSub(I:Inv X pins σ H s):∀b∈frs X.stack,b∈X.env.locals :: X.fs:=λb hb=>by
 rcases I.ok.stk with e|⟨e,hf⟩
 ·rw[e]at hb;exact Uc _ hb
 ·rw[e]at hb
  unfold frs at hb
  rw[List.filterMap_cons,hf]at hb
  exact hb
theorem Inv.stkFree(I:Inv X pins σ H s):∀b∈frs X.stack,H b=none:=λb hb=>by
 rcases Xk.mp (I.stkSub b hb)with e|hb
 ·rw[e];exact I.free
 ·obtain⟨_,o,ho,_⟩:=I.ok.funs.mem hb
  exact I.base.free b o ho (I.ok.frf b hb) λz=>I.ok.exfs b z hb
theorem Inv.step{g':Array GenState}{t':Nat}{d':Drawn}{ch:List Addr}(I:Inv X pins σ H s)
  (hch:∀b∈ch,(b∈X.ex∨X.s₀.heap.objs.size≤b)∧b≠X.env.locals∧(∀x c,X.env.cells.lookup x=some c->c≠b)∧∀p∈X.pn ++ pins,p.1≠b)
  (keep:∀b o,b≠X.env.locals->b∉X.fs->b∉ch->s.heap.get? b=some o->H b=none->h'.get? b=some o)
  (slot:∀b o,b≠X.env.locals->b∈X.fs->b∉ch->s.heap.get? b=some o->H b=none->∃sl,h'.get? b=some { o with slots:=sl }) (free:∀b o,b∉ch->s.heap.get? b=some o->H b=none->H' b=none)
  (there:∀b o,b∉ch->s.heap.get? b=some o->∃o',h'.get? b=some o')
  (tups:∀b xs,H b=some (.tup xs)->H' b=some (.tup xs)) (frzs:∀b o u,H b=some (.frz o u)->H' b=some (.frz o u)) (tbls:∀b ps,H b=some (.tbl ps)->∃more,H' b=some (.tbl (ps ++ more)))
  (ns:∀m,s.heap.Ns X.env.locals m->h'.Ns X.env.locals m) (hok:HOk X.prog X.w H' h') (hg:AllBare g') :
  Inv X pins σ H' { s with heap:=h',gens:=g',drawn:=d',toks:=t' }:=by
 have neL:∀b o,X.s₀.heap.get? b=some o->b≠X.env.locals:=λb o e=>Xp (Qj (Xw e) I.ok.above)
 have neC:∀b o,X.s₀.heap.get? b=some o->b∉X.ex->b∉ch:=λb o e hx hb=>by
  rcases(hch b hb).1 with z|z
  ·exact hx z
  ·exact absurd (Qj (Xw e) z) (Bx _)
 have cellK:∀x c,X.env.cells.lookup x=some c->∀v,s.heap.IsCell c v->h'.IsCell c v:=λx c e v ⟨o,ho,hd⟩=>by
  have nch:c∉ch:=λz=>(hch c z).2.2.1 x c e rfl
  by_cases hc:c∈X.fs
  ·obtain⟨sl,q⟩:=slot c o (I.cne x c e) hc nch ho (I.freeC x c e)
   exact⟨_,q,hd⟩
  ·exact⟨o,keep c o (I.cne x c e) hc nch ho (I.freeC x c e),hd⟩
 refine⟨I.ok,I.os,hg,⟨λb o e n hb hx=>?_,λb o e n hb hx=>?_,λb o e n hx=>?_,λb o e hx=>?_,λb xs e=>tups b xs (I.base.tups b xs e),λb o xs e=>frzs b o xs (I.base.frzs b o xs e),λb ps e=>?_⟩,?_,λx c e=>?_,?_,λx c e=>?_,λp hp=>?_,hok,I.len⟩
 ·exact keep b o (neL b o e) hb (neC b o e hx) (I.base.keep b o e n hb hx) (I.base.free b o e n hx)
 ·obtain⟨sl,e1⟩:=I.base.slot b o e n hb hx
  obtain⟨sl',e2⟩:=slot b _ (neL b o e) hb (neC b o e hx) e1 (I.base.free b o e n hx)
  exact⟨sl',e2⟩
 ·obtain⟨o',e1⟩:=I.base.there b o e hx
  exact free b o' (neC b o e hx) e1 (I.base.free b o e n hx)
 ·obtain⟨o',e1⟩:=I.base.there b o e hx
  exact there b o' (neC b o e hx) e1
 ·obtain⟨m1,e1⟩:=I.base.tbls b ps e
  obtain⟨m2,e2⟩:=tbls b _ e1
  exact⟨m1 ++ m2,by rw[e2,Array.append_assoc]⟩
 ·obtain⟨m,hn,hl⟩:=I.loc
  refine⟨m,ns m hn,λi x v e1 e2 e3=>?_⟩
  obtain⟨u,r,l⟩:=hl i x v e1 e2 e3
  refine⟨u,r,?_⟩
  rcases l with l|⟨k,c,e,z⟩
  ·exact .inl l
  ·exact .inr ⟨k,c,e,cellK x c e _ z⟩
 ·obtain⟨v,z⟩:=I.cell x c e
  exact⟨v,cellK x c e v z⟩
 ·obtain⟨m,⟨o,_,_,ho,_⟩,_⟩:=I.loc
  exact free _ o (λz=>(hch _ z).2.1 rfl) ho I.free
 ·obtain⟨v,o,ho,hd⟩:=I.cell x c e
  exact free c o (λz=>(hch c z).2.2.1 x c e rfl) ho (I.freeC x c e)
 ·obtain⟨e,n,ne,nf,d⟩:=I.pin p hp
  have nch:p.1∉ch:=λz=>(hch p.1 z).2.2.2 p hp rfl
  exact⟨keep p.1 p.2 ne nf nch e n,free p.1 p.2 nch e n,ne,nf,d⟩
theorem Inv.un{t':Nat}(I:Inv X pins σ H s)(u:Un X.fs [] H H' s.heap h')(hok:HOk X.prog X.w H' h'):Inv X pins σ H' { s with heap:=h',toks:=t' }:=by
 obtain⟨m,⟨o,es,ep,ho,r⟩,_⟩:=id I.loc
 obtain⟨sl,hL⟩:=u.any ho I.free (by simp)
 exact I.step (g':=s.gens) (d':=s.drawn) (ch:=[]) (λ_ z=>nomatch z) (λb o _ hb _ e n=>u.keep b o e n hb (by simp)) (λb o _ hb _ e n=>u.slot b o e n hb (by simp)) (λb o _ e n=>u.free b o e n (by simp)) (λb o _ e=>u.there b o e (by simp)) u.tups u.frzs u.tbls (λm' hm=>by
  obtain⟨o',es',ep',ho',r'⟩:=hm
  rw[ho]at ho';cases ho'
  exact⟨_,es',ep',hL,r'⟩) hok I.bare
theorem Inv.call{g':Array GenState}{t':Nat}{d':Drawn}{ch:List Addr}(I:Inv X pins σ H s)(u:Un (frs X.stack) ch H H' s.heap h')(hok:HOk X.prog X.w H' h')(hg:AllBare g')
  (hch:∀b∈ch,(b∈X.ex∨X.s₀.heap.objs.size≤b)∧b≠X.env.locals∧(∀x c,X.env.cells.lookup x=some c->c≠b)∧∀p∈X.pn ++ pins,p.1≠b) :
  Inv X pins σ H' { s with heap:=h',gens:=g',drawn:=d',toks:=t' }:=by
 obtain⟨m,⟨o,es,ep,ho,r⟩,_⟩:=id I.loc
 obtain⟨sl,hL⟩:=u.any ho I.free λz=>(hch _ z).2.1 rfl
 exact I.step (ch:=ch) hch (λb o hL hb hc e n=>u.keep b o e n (λz=>(Xk.mp (I.stkSub b z)).elim hL hb) hc) (λb o _ _ hc e n=>u.any e n hc) (λb o hc e n=>u.free b o e n hc) (λb o hc e=>u.there b o e hc) u.tups u.frzs u.tbls (λm' hm=>by
  obtain⟨o',es',ep',ho',r'⟩:=hm
  rw[ho]at ho';cases ho'
  exact⟨_,es',ep',hL,r'⟩) hok hg
theorem Inv.turned{t':Nat}{it:Addr}(I:Inv X pins σ H s)(k:∀b o,b≠it->s.heap.get? b=some o->h'.get? b=some o)(hn:H it=none)(hL:it≠X.env.locals)
  (h1:it∈X.ex∨X.s₀.heap.objs.size≤it) (h2:∀x c,X.env.cells.lookup x=some c->c≠it) (h3:∀p∈X.pn ++ pins,p.1≠it):Inv X pins σ H { s with heap:=h',toks:=t' }:=by
 have nit:∀b u,H b=some u->b≠it:=λb u e z=>by rw[z,hn]at e;cases e
 refine I.step (g':=s.gens) (d':=s.drawn) (ch:=[it]) (λb hb=>?_) (λb o _ _ hc e _=>k b o (λz=>hc (by simp[z])) e) (λb o _ _ hc e _=>⟨o.slots,k b o (λz=>hc (by simp[z])) e⟩) (λ_ _ _ _ n=>n)
  (λb o hc e=>⟨o,k b o (λz=>hc (by simp[z])) e⟩) (λ_ _ e=>e) (λ_ _ _ e=>e) (λb ps e=>⟨#[],by rw[e];simp⟩) (λm hm=>?_) (λb u e=>?_) I.bare
 ·have e:b=it:=by simpa using hb
  subst e
  exact⟨h1,hL,h2,h3⟩
 ·obtain⟨o,es,ep,ho,r⟩:=hm
  exact⟨o,es,ep,k _ o (JP hL) ho,r⟩
 ·refine(I.hok b u e).stay (λc v hc q=>k c v ?_ q) (λ_ q=>q) λ_ _ q=>q
  rcases hc with z|z
  ·rw[z];exact nit b u e
  ·exact nit c _ z
theorem Inv.tok(I:Inv X pins σ H s)(t:Nat):Inv X pins σ H { s with toks:=t }:=I.un (h':=s.heap) (t':=t) Un.refl I.hok
theorem Inv.kept{t':Nat}(I:Inv X pins σ H s)(k:∀b u,s.heap.get? b=some u->h'.get? b=some u):Inv X pins σ H { s with heap:=h',toks:=t' }:=I.un (Un.kept k) (I.hok.kept k)
theorem Inv.laid{a:Addr}{o:HO}{t':Nat}(I:Inv X pins σ H s)(k:∀b u,s.heap.get? b=some u->h'.get? b=some u)(hp:s.heap.objs.size≤a)(new:ObjOk X.prog X.w (upd H a o) h' a o) :
  Inv X pins σ (upd H a o) { s with heap:=h',toks:=t' }:=I.un (Un.laid k hp (I.hok.fresh hp)) (I.hok.laid k hp new)
theorem Inv.write{x e:Addr}{o:HO}{t':Nat}(I:Inv X pins σ H s)(mu:Mut (H x))(he:e=x∨H e=some (.own x))(k:∀b u,b≠e->s.heap.get? b=some u->h'.get? b=some u)(heo:∃u,h'.get? e=some u)
  (new:ObjOk X.prog X.w (upd H x o) h' x o):Inv X pins σ (upd H x o) { s with heap:=h',toks:=t' }:=I.un (Un.write mu he k heo) (I.hok.write mu he k heo new)
theorem Inv.pins_of{pins':List (Addr×Obj)}(I:Inv X pins σ H s)(h:∀p∈pins',s.heap.get? p.1=some p.2∧H p.1=none∧p.1≠X.env.locals∧p.1∉X.fs∧∀v,p.2.data≠ .cell v):Inv X pins' σ H s :=
 ⟨I.ok,I.os,I.bare,I.base,I.loc,I.cell,I.free,I.freeC,λp hp=>(X3.mp hp).elim (λz=>I.pin p (Qu _ z)) (h p),I.hok,I.len⟩
theorem Zmo{N:List Str}(hN:N.Nodup){i j:Nat}{x:Str}(a:N[i]? =some x)(b:N[j]? =some x):i=j:=by
 obtain⟨h1,e1⟩:=Xj.mp a
 obtain⟨h2,e2⟩:=Xj.mp b
 exact(List.getElem_inj hN).mp (e1.trans e2.symm)
theorem Zjh{M:Model}{A:Qo}{E:Xc->Xe->Prop}{i:Nat}{x:Str}{v:V}{u:Xc}{Q:Unit->Xe->Prop}(I:Inv X pins σ H s)(hN:X.N.Nodup)(hi:X.N[i]? =some x)(hx:Loc X.env.scope x)(r:RelV v u)
  (h:∀s',Inv X pins (σ.set i (some v)) H s'->(∃a,Vp a s.heap s'.heap∧(a=X.env.locals∨X.env.cells.lookup x=some a))->Q () s') (hf:X.fn x=true∨X.env.scope.names.lookup x=some .local:=by first|exact .inl rfl|exact .inr rfl|assumption):X5 M A (storeName X.env x u) Q E s:=by
 obtain⟨m,hn,hl⟩:=id I.loc
 have hcls:(X.env.scope.kind== .class||(X.env.scope.kind== .module&&X.env.locals !=X.env.globals))=false:=by rw[I.ok.kind];rfl
 have hiσ:i<σ.length:=by rw[I.len];exact(Xj.mp hi).1
 have cne:=I.cne
 have tracked:∀{a:Addr} {h':Heap},(∃o,s.heap.get? a=some o∧H a=none)->Vp a s.heap h'->HOk X.prog X.w H h':=fun{a h'} ha hs b ob e=>by
  obtain⟨_,_,hfree⟩:=ha
  refine(I.hok b ob e).stay (λc w' hc q=>(hs.2 c ?_).trans q) (λ_ q=>q) λ_ _ q=>q
  rintro rfl
  rcases hc with rfl|hc
  ·rw[hfree]at e;cases e
  ·rw[hfree]at hc;cases hc
 rcases hx with hk|hk
 ·refine wpAny_storeName_local hk hn (λh' hn' hs=>?_) hcls
  obtain⟨oL,_,_,hoL,_⟩:=id hn
  refine h _ ⟨I.ok,I.os,I.bare,⟨λb o e n hb hx=>?_,λb o e n hb hx=>?_,I.base.free,λb o e hx=>?_,I.base.tups,I.base.frzs,I.base.tbls⟩,⟨_,hn',λj y v' e1 e2 e3=>?_⟩,λy c e=>?_,I.free,I.freeC,λp hp=>?_,tracked ⟨oL,hoL,I.free⟩ hs,by simpa using I.len⟩ ⟨_,hs,.inl rfl⟩
  ·exact(hs.2 b (Xp (Qj (Xw e) I.ok.above))).trans (I.base.keep b o e n hb hx)
  ·obtain⟨sl,e1⟩:=I.base.slot b o e n hb hx
   exact⟨sl,(hs.2 b (Xp (Qj (Xw e) I.ok.above))).trans e1⟩
  ·obtain⟨o',e1⟩:=I.base.there b o e hx
   exact⟨o',(hs.2 b (Xp (Qj (Xw e) I.ok.above))).trans e1⟩
  ·by_cases hj:j=i
   ·subst hj
    rw[hi]at e1;cases e1
    rw[Qn hiσ]at e2
    cases e2
    exact⟨u,r,.inl ⟨hk,by simp⟩⟩
   ·rw[XR (JP hj)]at e2
    obtain⟨u',r',q⟩:=hl j y v' e1 e2 e3
    refine⟨u',r',?_⟩
    rcases q with⟨k,e⟩|⟨k,c,e,z⟩
    ·refine .inl ⟨k,?_⟩
     have:y≠x:=λe=>hj (Zmo hN e1 (e▸hi))
     simp[this,e]
    ·exact .inr ⟨k,c,e,z.sameBut hs (cne y c e)⟩
  ·obtain⟨w',z⟩:=I.cell y c e
   exact⟨w',z.sameBut hs (cne y c e)⟩
  ·obtain⟨e,n,ne,nf,d⟩:=I.pin p hp
   exact⟨(hs.2 p.1 ne).trans e,n,ne,nf,d⟩
 ·have hfn:X.fn x=true:=by
   rcases hf with z|z
   ·exact z
   ·rw[z]at hk;cases hk
  obtain⟨c,hc⟩:=I.ok.has x (.inl hk)
  obtain⟨w',z⟩:=I.cell x c hc
  refine wpAny_storeName_cell I.ok.kind hk hc z (λh' hc' hs=>?_)
  obtain⟨oc,hoc,hocd⟩:=id z
  refine h { s with heap:=h' } ⟨I.ok,I.os,I.bare,⟨λb o e n hb hx=>?_,λb o e n hb hx=>?_,I.base.free,λb o e hx=>?_,I.base.tups,I.base.frzs,I.base.tbls⟩,⟨m,hn.sameBut hs (JP (cne x c hc)),λj y v' e1 e2 e3=>?_⟩,λy c' e=>?_,I.free,I.freeC,λp hp=>?_,tracked ⟨oc,hoc,I.freeC x c hc⟩ hs,by simpa using I.len⟩ ⟨c,hs,.inr hc⟩
  ·exact(hs.2 b (Xp (Qj (Xw e) (I.ok.cab x c hfn hc)))).trans (I.base.keep b o e n hb hx)
  ·obtain⟨sl,e1⟩:=I.base.slot b o e n hb hx
   exact⟨sl,(hs.2 b (Xp (Qj (Xw e) (I.ok.cab x c hfn hc)))).trans e1⟩
  ·obtain⟨o',e1⟩:=I.base.there b o e hx
   exact⟨o',(hs.2 b (Xp (Qj (Xw e) (I.ok.cab x c hfn hc)))).trans e1⟩
  ·by_cases hj:j=i
   ·subst hj
    rw[hi]at e1;cases e1
    rw[Qn hiσ]at e2
    cases e2
    exact⟨u,r,.inr ⟨.inl hk,c,hc,hc'⟩⟩
   ·rw[XR (JP hj)]at e2
    obtain⟨u',r',q⟩:=hl j y v' e1 e2 e3
    refine⟨u',r',?_⟩
    rcases q with q|⟨k,c',e,z'⟩
    ·exact .inl q
    ·refine .inr ⟨k,c',e,z'.sameBut hs ?_⟩
     rintro rfl
     exact hj (Zmo hN e1 (I.ok.inj _ _ _ e hc▸hi))
  ·by_cases hcc:c'=c
   ·subst hcc;exact⟨_,hc'⟩
   ·obtain⟨w2,z2⟩:=I.cell y c' e
    exact⟨w2,z2.sameBut hs hcc⟩
  ·obtain⟨e,n,ne,nf,d⟩:=I.pin p hp
   refine⟨(hs.2 p.1 ?_).trans e,n,ne,nf,d⟩
   intro q
   rw[q,hoc]at e
   have q':oc=p.2:=Qt e
   exact d w' (by rw[←q'];exact hocd)
theorem Zne{M:Model}{A:Qo}{E:Xc->Xe->Prop}{i:Nat}{x:Str}{v:V}{u:Xc}{Q:Unit->Xe->Prop}(I:Inv X pins σ H s)(hN:X.N.Nodup)(hi:X.N[i]? =some x)(hx:Loc X.env.scope x)(r:RelV v u)
  (h:∀s',Inv X pins (σ.set i (some v)) H s'->Q () s') (hf:X.fn x=true∨X.env.scope.names.lookup x=some .local:=by first|exact .inl rfl|exact .inr rfl|assumption):X5 M A (storeName X.env x u) Q E s :=
 Zjh I hN hi hx r (λs' I' _=>h s' I') hf
theorem Inv.call'{s':Xe}{ch:List Addr}(I:Inv X pins σ H s)(ho:s'.os=s.os)(u:Un (frs X.stack) ch H H' s.heap s'.heap)(hok:HOk X.prog X.w H' s'.heap)(hg:AllBare s'.gens)
  (hch:∀b∈ch,(b∈X.ex∨X.s₀.heap.objs.size≤b)∧b≠X.env.locals∧(∀x c,X.env.cells.lookup x=some c->c≠b)∧∀p∈X.pn ++ pins,p.1≠b):Inv X pins σ H' s':=by
 obtain⟨h',g',d',t',o'⟩:=s'
 have e:o'=s.os:=ho
 subst e
 exact I.call (g':=g') (t':=t') (d':=d') u hok hg hch
end
noncomputable abbrev XK:=Xc->Option Addr->Hp->Prop
noncomputable abbrev St:=List (Option V)
noncomputable abbrev VK:=V->Hp->Prop
noncomputable abbrev TE:=St->Hp->VK->Prop
noncomputable abbrev TT:=St->Hp->(Bool->Hp->Prop)->Prop
noncomputable abbrev TA:=St->Hp->(List V->Hp->Prop)->Prop
set_option genInjectivity false in
structure Ends where
 nx:St->Hp->Prop
 rt:VK
 bk:St->Hp->Prop:=λ_ _=>False
 ct:St->Hp->Prop:=λ_ _=>False
noncomputable abbrev TS:=Ends->St->Hp->Prop
noncomputable def EP(X:Cx)(pins:List (Addr×Obj))(σ:St)(Q:VK)(u:Xc)(s':Xe):Prop:=∃v H',Inv X pins σ H' s'∧RelV v u∧Q v H'
noncomputable def TP(X:Cx)(pins:List (Addr×Obj))(σ:St)(Q:Bool->Hp->Prop)(b:Bool)(s':Xe):Prop:=∃H',Inv X pins σ H' s'∧Q b H'
noncomputable def AP(X:Cx)(pins:List (Addr×Obj))(σ:St)(Q:List V->Hp->Prop)(us:List Xc)(s':Xe):Prop:=∃vs H',Inv X pins σ H' s'∧Vals vs us∧Q vs H'
noncomputable def SP(X:Cx)(pins:List (Addr×Obj))(D:Ends)(f:Flow)(s':Xe):Prop :=
 match f with
 | .next=>∃σ' H',Inv X pins σ' H' s'∧D.nx σ' H'
 | .brk=>∃σ' H',Inv X pins σ' H' s'∧D.bk σ' H'
 | .cont=>∃σ' H',Inv X pins σ' H' s'∧D.ct σ' H'
 | .ret u=>∃v σ' H',Inv X pins σ' H' s'∧RelV v u∧D.rt v H'
noncomputable def PE(X:Cx)(e:Expr)(t:TE):Prop :=
 ∀(pins:List (Addr×Obj)) (s:Xe) (σ:St) (H:Hp) (Q:VK),Inv X pins σ H s->t σ H Q->X5 (Qd X.prog X.w) X.A (eval e X.env) (EP X pins σ Q) X.xe s
noncomputable def PT(X:Cx)(e:Expr)(t:TT):Prop :=
 ∀(pins:List (Addr×Obj)) (s:Xe) (σ:St) (H:Hp) (Q:Bool->Hp->Prop),Inv X pins σ H s->t σ H Q->X5 (Qd X.prog X.w) X.A (isTrue e X.env (eval e X.env)) (TP X pins σ Q) X.xe s
noncomputable def PW(X:Cx)(e:Expr)(t:TT):Prop :=
 ∀(whole:Sem Xc) (pins:List (Addr×Obj)) (s:Xe) (σ:St) (H:Hp) (Q:Bool->Hp->Prop),Inv X pins σ H s->t σ H Q->X5 (Qd X.prog X.w) X.A (isTrue e X.env whole) (TP X pins σ Q) X.xe s
theorem PW.pt{X:Cx}{e:Expr}{t:TT}(h:PW X e t):PT X e t:=h _
noncomputable def PA(X:Cx)(es:List Expr)(t:TA):Prop :=
 ∀(pos:Pos) (pins:List (Addr×Obj)) (s:Xe) (σ:St) (H:Hp) (Q:List V->Hp->Prop),Inv X pins σ H s->t σ H Q->X5 (Qd X.prog X.w) X.A (spliced (JL pos (Xm es X.env))) (AP X pins σ Q) X.xe s
noncomputable def PS(X:Cx)(st:Stmt)(t:TS):Prop :=
 ∀(pins:List (Addr×Obj)) (s:Xe) (σ:St) (H:Hp) (D:Ends),Inv X pins σ H s->t D σ H->X5 (Qd X.prog X.w) X.A (exec st X.env) (SP X pins D) X.xe s
noncomputable def PSs(X:Cx)(st:List Stmt)(t:TS):Prop :=
 ∀(pins:List (Addr×Obj)) (s:Xe) (σ:St) (H:Hp) (D:Ends),Inv X pins σ H s->t D σ H->X5 (Qd X.prog X.w) X.A (execs st X.env) (SP X pins D) X.xe s
theorem thn{α:Type}{t:Sem α}{Q Q':α->Xe->Prop}{M:Model}{A:Qo}{E:Xc->Xe->Prop}{s:Xe}(h:X5 M A t Q E s)(hQ:∀a s,Q a s->Q' a s):X5 M A t Q' E s:=Bs h hQ λ_ _ x=>x
section
variable {X:Cx}
noncomputable def Z5v(i:Nat):TE:=λσ H Q=>∃v,σ[i]? =some (some v)∧Q v H
noncomputable def tC(v:V):TE:=λ_ H Q=>Q v H
theorem Zwg{i:Nat}{x:Str}{pos:Pos}(hN:X.N[i]? =some x)(hv:Vis X.env.scope x)(hd:(x==("__debug__" : Str))=false:=by decide)(hcd:(x==("__classdict__" : Str))=false:=by decide):PE X (.Name x pos) (Z5v i):=by
 intro pins s σ H Q I h
 obtain⟨v,e,h⟩:=h
 obtain⟨m,hn,hl⟩:=I.loc
 obtain⟨u,r,l⟩:=hl i x v hN e hv
 have fin:EP X pins σ Q u s:=⟨v,H,I,r,h⟩
 rcases l with⟨hk,hm⟩|⟨hk,c,hc,hcell⟩
 ·exact wpAny_Name (wpAny_loadName_local I.ok.kind hk hn hm fin) hd
 ·rcases hk with hk|hk
  ·exact wpAny_Name (wpAny_loadName_cell I.ok.kind hk hc hcell fin) hd
  ·exact wpAny_Name (wpAny_loadName_free I.ok.kind hk hc hcell fin hcd) hd
theorem Zsc{i j pos}:PE X (.Constant (.int i) j pos) (tC (.int i)):=λ_ _ _ H _ I h=>wpAny_Constant_int ⟨.int i,H,I.tok _,⟨_,rfl⟩,h⟩
theorem Z7y{b j pos}:PE X (.Constant (.bool b) j pos) (tC (.bl b)):=λ_ _ _ H _ I h=>Constant_bool ⟨.bl b,H,I,rfl,h⟩
theorem Z4a{j pos}:PE X (.Constant .none j pos) (tC .non):=λ_ _ _ H _ I h=>Constant_none ⟨.non,H,I,rfl,h⟩
noncomputable def Gl(X:Cx)(x:Str):Prop:=X.env.kindOf x=some .globalImplicit
theorem Zqa{E:Xc->Xe->Prop}{pins:List (Addr×Obj)}{s:Xe}{σ:St}{H:Hp}{x:Str}{u:Xc}{pos:Pos}{Q:Xc->Xe->Prop}(I:Inv X pins σ H s)(hg:Gl X x)(hm:X.mg x=some u)(h:Q u s)
  (hd:(x==("__debug__" : Str))=false:=by decide):X5 (Qd X.prog X.w) X.A (eval (.Name x pos) X.env) Q E s :=
 Calls.Name_function_global I.ok.kind hg (Calls.loadGlobal_global (by rw[I.ok.glob];exact I.mod.glob.keeps I.bk) hm h) hd
theorem Zgb{E:Xc->Xe->Prop}{pins:List (Addr×Obj)}{s:Xe}{σ:St}{H:Hp}{x:Str}{u:Xc}{pos:Pos}{Q:Xc->Xe->Prop}(I:Inv X pins σ H s)(hg:Gl X x)(hm:X.mg x=none)(hv:Qk x=some u)(h:Q u s)
  (hn:x≠"__name__" :=by decide) (hd:(x==("__debug__" : Str))=false:=by decide):X5 (Qd X.prog X.w) X.A (eval (.Name x pos) X.env) Q E s:=by
 obtain⟨mb,h1,h2⟩:=I.mod.blt
 exact Calls.Name_function_global I.ok.kind hg (Calls.loadGlobal_builtin (by rw[I.ok.glob];exact I.mod.glob.keeps I.bk) hm (by rw[I.ok.blt];exact h1.keeps I.bk) ((h2 x hn).trans hv) h) hd
theorem Zxb{x:Str}{v:V}{u:Xc}{pos:Pos}(hg:Gl X x)(hm:X.mg x=some u)(r:RelV v u)(hd:(x==("__debug__" : Str))=false:=by decide):PE X (.Name x pos) (tC v) :=
 λ_ _ _ H _ I h=>Zqa I hg hm ⟨v,H,I,r,h⟩ hd
theorem Zzz{x:Str}{v:V}{u:Xc}{pos:Pos}(hg:Gl X x)(hm:X.mg x=none)(hv:Qk x=some u)(r:RelV v u)(hn:x≠"__name__" :=by decide)(hd:(x==("__debug__" : Str))=false:=by decide):PE X (.Name x pos) (tC v) :=
 λ_ _ _ H _ I h=>Zgb I hg hm hv ⟨v,H,I,r,h⟩ hn hd
noncomputable def t2I(ta tb:TE)(k:Int->Int->Hp->Prop):St->Hp->Prop:=λσ H=>ta σ H λx H1=>tb σ H1 λy H2=>∃i j,x= .int i∧y= .int j∧k i j H2
variable {a b:Expr}{ta tb:TE}{pos:Pos}
noncomputable def Z1m(p:Int->Int->Bool)(ta tb:TE):TE:=λσ H Q=>t2I ta tb (λi j H2=>Q (.bl (p i j)) H2) σ H
noncomputable abbrev tLt:TE->TE->TE:=Z1m λi j=>decide (i<j)
noncomputable abbrev tLe:TE->TE->TE:=Z1m λi j=>decide (i≤j)
noncomputable abbrev tGt:TE->TE->TE:=Z1m λi j=>decide (j<i)
noncomputable abbrev tGe:TE->TE->TE:=Z1m λi j=>decide (j≤i)
noncomputable abbrev Yd7:TE->TE->TE:=Z1m λi j=>decide (i=j)
noncomputable abbrev Yd8:TE->TE->TE:=Z1m λi j=>!decide (i=j)
noncomputable def tB(t:TE):TT:=λσ H Q=>t σ H λx H1=>∃c,x= .bl c∧Q c H1
variable {tA tB':TT}{rest:List Expr}
noncomputable def Yct(t u:TT):TT:=λσ H Q=>t σ H λc H1=>if c=true then u σ H1 Q else Q false H1
noncomputable def tOr(t u:TT):TT:=λσ H Q=>t σ H λc H1=>if c=true then Q true H1 else u σ H1 Q
noncomputable def Ydo(t:TT):TT:=λσ H Q=>t σ H λc H1=>Q (!c) H1
theorem Zy0(ha:PT X a tA):PW X (.BoolOp .And [a] pos) tA:=by
 intro wh pins s σ H Q I h
 refine isTrue_and (thn (ha pins s σ H Q I h) λc s1 e=>?_)
 cases c with
 | true=>exact isTrue_and_nil e
 | false=>exact e
theorem Z4h(ha:PT X a tA):PW X (.BoolOp .Or [a] pos) tA:=by
 intro wh pins s σ H Q I h
 refine isTrue_or (thn (ha pins s σ H Q I h) λc s1 e=>?_)
 cases c with
 | false=>exact isTrue_or_nil e
 | true=>exact e
theorem Z5q(ha:PT X a tA)(hb:PW X (.BoolOp .And (b :: rest) pos) tB'):PW X (.BoolOp .And (a :: b :: rest) pos) (Yct tA tB'):=by
 intro wh pins s σ H Q I h
 refine isTrue_and (thn (ha pins s σ H _ I h) λc s1 qz9=>?_)
 obtain⟨H1,I1,q1⟩:=qz9
 cases c with
 | true=>exact hb wh pins s1 σ H1 Q I1 q1
 | false=>exact⟨H1,I1,q1⟩
theorem Z8u(ha:PT X a tA)(hb:PW X (.BoolOp .Or (b :: rest) pos) tB'):PW X (.BoolOp .Or (a :: b :: rest) pos) (tOr tA tB'):=by
 intro wh pins s σ H Q I h
 refine isTrue_or (thn (ha pins s σ H _ I h) λc s1 qz9=>?_)
 obtain⟨H1,I1,q1⟩:=qz9
 cases c with
 | true=>exact⟨H1,I1,q1⟩
 | false=>exact hb wh pins s1 σ H1 Q I1 q1
theorem Z4j(ha:PT X a tA):PT X (.UnaryOp .Not a pos) (Ydo tA):=by
 intro pins s σ H Q I h
 exact isTrue_not (ha pins s σ H (λc H1=>Q (!c) H1) I h)
noncomputable def Z9i(ta tb:TE):TE:=λσ H Q=>ta σ H λx H1=>∃c,x= .bl c∧if c=true then tb σ H1 Q else Q (.bl false) H1
noncomputable def Z9g(ta:TE):TE:=λσ H Q=>ta σ H λx H1=>∃c,x= .bl c∧Q (.bl (!c)) H1
theorem Z2m{op}{t:TE}(h:PE X a t):PE X (.BoolOp op [a] pos) t:=λpins s σ H Q I hw=>BoolOp_one (h pins s σ H Q I hw)
theorem Z24(ha:PE X a ta)(hb:PE X (.BoolOp .And (b :: rest) pos) tb):PE X (.BoolOp .And (a :: b :: rest) pos) (Z9i ta tb):=by
 intro pins s σ H Q I h
 refine BoolOp_and (thn (ha pins s σ H _ I h) λv s1 qz9=>?_)
 obtain⟨x,H1,I1,r1,q1⟩:=qz9
 obtain⟨c,rfl,q1⟩:=q1
 cases r1
 refine V7 ?_
 cases c with
 | true=>exact hb pins s1 σ H1 Q I1 q1
 | false=>exact⟨.bl false,H1,I1,rfl,q1⟩
theorem Z2x(ha:PE X a ta):PE X (.UnaryOp .Not a pos) (Z9g ta):=by
 intro pins s σ H Q I h
 refine UnaryOp_ (thn (ha pins s σ H _ I h) λv s1 qz9=>?_)
 obtain⟨x,H1,I1,r1,q1⟩:=qz9
 obtain⟨c,rfl,q1⟩:=q1
 cases r1
 exact not_of (V7 ⟨.bl (!c),H1,I1,rfl,q1⟩)
end
noncomputable def SqL(K:Xb)(H:Hp)(a:Addr)(xs:List V):Prop :=
 Rd H a (.lst xs)∨
  ∃(o:Obj) (its:Array Xc) (n:Nat),K.lookup a=some o∧o.cls= .type "list"∧o.dict=none∧o.data= .seq its n∧its.size≤Xq∧Vals xs its.toList
noncomputable def SqT(K:Xb)(H:Hp)(a:Addr)(xs:List V):Prop :=
 Rd H a (.tup xs)∨
  ∃(o:Obj) (its:Array Xc) (n:Nat),K.lookup a=some o∧o.cls= .type "tuple"∧o.data= .seq its n∧its.size≤Xq∧Vals xs its.toList
noncomputable def Ycy:Xc->Option V
 | .none=>some .non
 | .bool b=>some (.bl b)
 | .int i _=>some (.int i)
 | .str x _=>some (.str x)
 | .bytes b _=>some (.byt b)
 | .float b _=>some (.flt b)
 | .ref a=>some (.ref a)
 | .type n=>some (.ty n)
 | _=>none
theorem RelV.abs{x:V}{u:Xc}(r:RelV x u):Ycy u=some x:=by
 cases x with
 | non=>cases r;rfl
 | bl _=>cases r;rfl
 | int _=>obtain⟨t,rfl⟩:=r;rfl
 | str _=>obtain⟨t,rfl⟩:=r;rfl
 | byt _=>obtain⟨t,rfl⟩:=r;rfl
 | flt _=>obtain⟨t,rfl⟩:=r;rfl
 | ref _=>cases r;rfl
 | ty _=>cases r;rfl
theorem RelV.inj{x y:V}{u:Xc}(r:RelV x u)(q:RelV y u):x=y:=Qt (r.abs.symm.trans q.abs)
theorem Vals.inj{xs ys:List V}{us:List Xc}(h:Vals xs us)(k:Vals ys us):xs=ys:=by
 induction h generalizing ys with
 | nil=>cases k;rfl
 | cons r t ih=>
  cases k with
  | cons r' t'=>rw[r.inj r',ih t']
section
variable {X:Cx}{pins:List (Addr×Obj)}{σ:St}{H:Hp}{s:Xe}{a:Addr}{xs ys:List V}
theorem Inv.list(I:Inv X pins σ H s)(h:SqL X.K H a xs):∃its:List Xc,Vals xs its∧PlainL s.heap a its.toArray∧xs.length≤Xq:=by
 rcases h with h|⟨o,its,n,hk,hc,hd,hs,hz,r⟩
 ·obtain⟨z,its,n,r,e⟩:=h.ok I.hok
  exact⟨its,r,⟨_,n,e,rfl,rfl,rfl⟩,z⟩
 ·refine⟨its.toList,r,⟨o,n,I.kIn a o hk,hc,hd,by simpa using hs⟩,?_⟩
  have e:=r.length
  simp only[Vu]at e
  omega
theorem Inv.tuple(I:Inv X pins σ H s)(h:SqT X.K H a xs):∃its:List Xc,Vals xs its∧IsTup s.heap a its.toArray∧xs.length≤Xq:=by
 rcases h with h|⟨o,its,n,hk,hc,hs,hz,r⟩
 ·obtain⟨z,its,r,p⟩:=h.ok I.hok
  exact⟨its,r,p,z⟩
 ·refine⟨its.toList,r,⟨o,I.kIn a o hk,hc,n,by simpa using hs⟩,?_⟩
  have e:=r.length
  simp only[Vu]at e
  omega
theorem Inv.list_inj(I:Inv X pins σ H s)(h:SqL X.K H a xs)(h':SqL X.K H a ys):xs=ys:=by
 obtain⟨its,r,⟨o,n,e,_,_,d⟩,_⟩:=I.list h
 obtain⟨its',r',⟨o',n',e',_,_,d'⟩,_⟩:=I.list h'
 rw[e]at e';cases e'
 rw[d]at d'
 injection d' with d1 _
 have:its=its':=by simpa using congrArg Array.toList d1
 subst this
 exact r.inj r'
end
noncomputable abbrev Cx.wish(X:Cx)(E:Xc->Xe->Prop):Cx:={ X with xe:=E }
noncomputable abbrev Cx.nox(X:Cx):Cx:=X.wish λ_ _=>False
theorem Cx.Ok.wish{X:Cx}(ok:X.Ok)(E:Xc->Xe->Prop):(X.wish E).Ok :=
 ⟨ok.mod,ok.kind,ok.glob,ok.blt,ok.above,ok.inj,ok.has,ok.cab,ok.hd,ok.frames,ok.stk,ok.exf,ok.bs,ok.bsz,ok.noex,ok.exfs,ok.funs,ok.frf⟩
theorem Cx.Ok.unwish{X:Cx}{E:Xc->Xe->Prop}(ok:(X.wish E).Ok):X.Ok :=
 ⟨ok.mod,ok.kind,ok.glob,ok.blt,ok.above,ok.inj,ok.has,ok.cab,ok.hd,ok.frames,ok.stk,ok.exf,ok.bs,ok.bsz,ok.noex,ok.exfs,ok.funs,ok.frf⟩
section
variable {X:Cx}{pins:List (Addr×Obj)}{σ:St}{H:Hp}{s:Xe}{E:Xc->Xe->Prop}
theorem Inv.wish(I:Inv X pins σ H s)(E:Xc->Xe->Prop):Inv (X.wish E) pins σ H s:=⟨I.ok.wish E,I.os,I.bare,I.base,I.loc,I.cell,I.free,I.freeC,I.pin,I.hok,I.len⟩
theorem Inv.unwish(I:Inv (X.wish E) pins σ H s):Inv X pins σ H s:=⟨I.ok.unwish,I.os,I.bare,I.base,I.loc,I.cell,I.free,I.freeC,I.pin,I.hok,I.len⟩
theorem SP.unwish{D:Ends}{f:Flow}{s':Xe}(h:SP (X.wish E) pins D f s'):SP X pins D f s':=by
 cases f with
 | next=>obtain⟨σ',H',I,q⟩:=h;exact⟨σ',H',I.unwish,q⟩
 | brk=>obtain⟨σ',H',I,q⟩:=h;exact⟨σ',H',I.unwish,q⟩
 | cont=>obtain⟨σ',H',I,q⟩:=h;exact⟨σ',H',I.unwish,q⟩
 | ret u=>obtain⟨v,σ',H',I,r,q⟩:=h;exact⟨v,σ',H',I.unwish,r,q⟩
theorem PSs.nox{st:List Stmt}{t:TS}(h:PSs X.nox st t):PSs X st t:=λpins s σ H D I hw=>
 Bs (h pins s σ H D (I.wish _) hw) (λ_ _ q=>q.unwish) λ_ _ z=>Vm z
end
section
variable {X:Cx}{st:Stmt}{rest:List Stmt}{t u:TS}{e:Expr}{te:TE}{pos:Pos}
noncomputable def Z9k:TS:=λD σ H=>D.nx σ H
noncomputable def Ydy(t u:TS):TS:=λD σ H=>t { D with nx:=u D } σ H
theorem Zx3:PSs X [] Z9k:=λ_ _ σ H _ I h=>wpAny_execs_nil ⟨σ,H,I,h⟩
theorem Zs0(h1:PS X st t)(h2:PSs X rest u):PSs X (st :: rest) (Ydy t u):=by
 intro pins s σ H D I h
 refine wpAny_execs_cons (thn (h1 pins s σ H { D with nx:=u D } I h) λf s1 q=>?_)
 cases f with
 | next=>
  obtain⟨σ',H',I',q⟩:=q
  exact h2 pins s1 σ' H' D I' q
 | ret v=>exact q
 | brk=>exact q
 | cont=>exact q
theorem Zow(h1:PS X st t):PSs X [st] t:=by
 intro pins s σ H D I h
 refine wpAny_execs_cons (thn (h1 pins s σ H D I h) λf s1 q=>?_)
 cases f with
 | next=>exact wpAny_execs_nil q
 | ret v=>exact q
 | brk=>exact q
 | cont=>exact q
theorem Inv.quiet{pins:List (Addr×Obj)}{σ:St}{H:Hp}{s:Xe}(I:Inv X pins σ H s):interactive X.env=false:=by simp[interactive,I.ok.kind]
noncomputable def Z7t(te:TE):TS:=λD σ H=>te σ H λ_ H1=>D.nx σ H1
theorem Ziw(he:PE X e te)(hs:BZ e none pos.line X.env=pure false:=by rfl):PS X (.Expr e pos) (Z7t te):=by
 intro pins s σ H D I h
 refine wpAny_Expr_any (thn (he pins s σ H _ I h) λv s1 qz9=>?_) I.quiet hs
 obtain⟨x,H1,I1,r1,q1⟩:=qz9
 exact⟨σ,H1,I1,q1⟩
noncomputable def Yc7(te:TE):TS:=λD σ H=>te σ H D.rt
theorem Zqc(he:PE X e te):PS X (.Return (some e) pos) (Yc7 te):=by
 intro pins s σ H D I h
 refine wpAny_Return_some (thn (he pins s σ H _ I h) λv s1 qz9=>?_)
 obtain⟨x,H1,I1,r1,q1⟩:=qz9
 exact⟨x,σ,H1,I1,r1,q1⟩
noncomputable def Ydq(c:TT)(t u:TS):TS:=λD σ H=>c σ H λb H1=>if b=true then t D σ H1 else u D σ H1
theorem Z7z{c:Expr}{a b:List Stmt}{tc:TT}(hc:PT X c tc)(ha:PSs X a t)(hb:PSs X b u):PS X (.If c a b pos) (Ydq tc t u):=by
 intro pins s σ H D I h
 refine wpAny_If (thn (hc pins s σ H _ I h) λd s1 qz9=>?_)
 obtain⟨H1,I1,q1⟩:=qz9
 cases d with
 | true=>exact ha pins s1 σ H1 D I1 q1
 | false=>exact hb pins s1 σ H1 D I1 q1
noncomputable def Z5i:TS:=λ_ _ _=>False
theorem Zsw:PS X st Z5i:=λ_ _ _ _ _ _ h=>h.elim
end
noncomputable abbrev TG:=V->St->Hp->(St->Hp->Prop)->Prop
noncomputable abbrev TGs:=List V->St->Hp->(St->Hp->Prop)->Prop
noncomputable def PG(X:Cx)(target:Expr)(t:TG):Prop :=
 ∀(pins:List (Addr×Obj)) (s:Xe) (σ:St) (H:Hp) (v:V) (u:Xc) (Q:St->Hp->Prop),Inv X pins σ H s->RelV v u->t v σ H Q ->
  X5 (Qd X.prog X.w) X.A (V9 target X.env u) (λ_ s'=>∃σ' H',Inv X pins σ' H' s'∧Q σ' H') X.xe s
noncomputable def PGs(X:Cx)(ts:List Expr)(t:TGs):Prop :=
 ∀(pins:List (Addr×Obj)) (s:Xe) (σ:St) (H:Hp) (vs:List V) (us:List Xc) (Q:St->Hp->Prop),Inv X pins σ H s->Vals vs us->t vs σ H Q ->
  X5 (Qd X.prog X.w) X.A (assignInOrder ((Q6 ts X.env).map (·.2)) us) (λ_ s'=>∃σ' H',Inv X pins σ' H' s'∧Q σ' H') X.xe s
noncomputable abbrev Z7j:=V->V->V->Hp->(Hp->Prop)->Prop
noncomputable def Ya4(X:Cx)(t:Z7j):Prop :=
 ∀(pins:List (Addr×Obj)) (s:Xe) (σ:St) (H:Hp) (o i v:V) (ov iv u:Xc) (Q:Hp->Prop),Inv X pins σ H s->RelV o ov->RelV i iv->RelV v u->t o i v H Q ->
  X5 (Qd X.prog X.w) X.A (setItem ov iv u) (λ_ s'=>∃H',Inv X pins σ H' s'∧Q H') X.xe s
noncomputable abbrev TIp:=V->V->Hp->VK->Prop
section
variable {X:Cx}{pos:Pos}
noncomputable def Zi3(i:Nat):TG:=λv σ H Q=>Q (σ.set i (some v)) H
theorem Zgj{i:Nat}{x:Str}(hN:X.N.Nodup)(hi:X.N[i]? =some x)(hx:Loc X.env.scope x)(hf:X.fn x=true∨X.env.scope.names.lookup x=some .local:=by first|exact .inl rfl|exact .inr rfl|assumption):PG X (.Name x pos) (Zi3 i):=by
 intro pins s σ H v u Q I r h
 exact wpAny_assign_Name (Zne I hN hi hx r (λs' I'=>⟨_,H,I',h⟩) hf)
noncomputable def Yde:TGs:=λvs σ H Q=>vs=[]∧Q σ H
noncomputable def Z74(t:TG)(u:TGs):TGs:=λvs σ H Q=>∃v r,vs=v :: r∧t v σ H λσ' H'=>u r σ' H' Q
theorem Zyv:PGs X [] Yde:=by
 intro pins s σ H vs us Q I r h
 obtain⟨e,h⟩:=h
 subst e
 cases r
 exact assignInOrder_nil ⟨σ,H,I,h⟩
theorem Zmc{e:Expr}{es:List Expr}{t:TG}{u:TGs}(h1:PG X e t)(h2:PGs X es u)
  (hs:(Q6 (e :: es) X.env).map (·.2)=V9 e X.env :: (Q6 es X.env).map (·.2):=by rfl):PGs X (e :: es) (Z74 t u):=by
 intro pins s σ H vs us Q I r h
 obtain⟨v,vr,e1,h⟩:=h
 subst e1
 cases r with
 | cons r rr=>
  rw[hs]
  refine assignInOrder_cons (thn (h1 pins s σ H _ _ _ I r h) λ_ s1 qz9=>?_)
  obtain⟨σ1,H1,I1,q1⟩:=qz9
  exact h2 pins s1 σ1 H1 _ _ Q I1 rr q1
noncomputable def Yco(K:Xb)(n:Nat)(t:TGs):TG:=λv σ H Q=>∃a xs,v= .ref a∧SqT K H a xs∧xs.length=n∧t xs σ H Q
theorem Z15{es:List Expr}{k:Nat}{t:TGs}{n:Nat}(hc:X.calm=true)(h:PGs X es t)
  (hn:(Q6 es X.env).length=n:=by rfl) (hst:(Q6 es X.env).findIdx? (·.1)=none:=by rfl):PG X (.Tuple es k pos) (Yco X.K n t):=by
 intro pins s σ H v u Q I r hw
 obtain⟨a,xs,e1,hq,hl,hw⟩:=hw
 subst e1
 cases r
 obtain⟨its,rv,ht,hz⟩:=I.tuple hq
 refine assign_Tuple_tuple (I.ok.hd hc) ht (by simp[hn,←hl,rv.length]) hst λh' hx=>?_
 have I1:Inv X pins σ H { s with heap:=h' }:=I.kept (t':=s.toks) λb o e=>hx b o (Xp (Xw e)) e
 exact h pins _ σ H xs _ Q I1 (by simpa using rv) hw
noncomputable def Z8i(to ti:TE)(t:Z7j):TG:=λv σ H Q=>to σ H λo H1=>ti σ H1 λi H2=>t o i v H2 λH3=>Q σ H3
theorem Zwk{o i:Expr}{to ti:TE}{t:Z7j}(ho:PE X o to)(hi:PE X i ti)(hs:Ya4 X t)
  (ha:∀v,V9 (.Subscript o i pos) X.env v=(do
   let ov←holding [v] (eval o X.env)
   let iv←holding [v,ov] (eval i X.env)
   standAt pos
   holding [v,ov,iv] (setItem ov iv v)
   release [v,ov,iv] []):=by intro _;rfl):PG X (.Subscript o i pos) (Z8i to ti t):=by
 intro pins s σ H v u Q I r h
 rw[ha]
 refine Xf (VH (thn (ho pins s σ H _ I h) λov s1 qz9=>?_))
 obtain⟨x,H1,I1,r1,q1⟩:=qz9
 refine Xf (VH (thn (hi pins s1 σ H1 _ I1 q1) λiv s2 qz9=>?_))
 obtain⟨y,H2,I2,r2,q2⟩:=qz9
 refine Xf (wpAny_standAt (Xf (VH (thn (hs pins s2 σ H2 x y v ov iv u _ I2 r1 r2 r q2) λ_ s3 qz9=>?_))))
 obtain⟨H3,I3,q3⟩:=qz9
 exact wpAny_release ⟨σ,H3,I3,q3⟩
noncomputable def Z1p(te:TE)(g:TG):TS:=λD σ H=>te σ H λx H1=>g x σ H1 D.nx
theorem Zwt{tg e:Expr}{te:TE}{g:TG}(he:PE X e te)(hg:PG X tg g)(hs:swapsWithSole [tg] e pos.line X.env=pure false:=by rfl)(hw:swappedStores [tg] e X.env=pure none:=by rfl)
  (h1:(Q6 [tg] X.env).map (·.2)=[V9 tg X.env]:=by rfl):PS X (.Assign [tg] e pos) (Z1p te g):=by
 intro pins s σ H D I h
 refine wpAny_Assign_stores (thn (he pins s σ H _ I h) λv s1 qz9=>?_) hs hw
 obtain⟨x,H1,I1,r1,q1⟩:=qz9
 rw[h1]
 exact thn (hg pins s1 σ H1 x v _ I1 r1 q1) λ_ s2 q=>q
theorem Znc{i:Nat}{x:Str}{e:Expr}{te:TE}{pos':Pos}(hN:X.N.Nodup)(hi:X.N[i]? =some x)(hx:Loc X.env.scope x)(he:PE X e te)(hs:BZ e (some (.Name x pos')) pos.line X.env=pure false:=by rfl)(hf:X.fn x=true∨X.env.scope.names.lookup x=some .local:=by first|exact .inl rfl|exact .inr rfl|assumption) :
  PS X (.Assign [.Name x pos'] e pos) (Z1p te (Zi3 i)):=by
 intro pins s σ H D I h
 refine wpAny_Assign_Name (thn (he pins s σ H _ I h) λv s1 qz9=>?_) hs
 obtain⟨y,H1,I1,r1,q1⟩:=qz9
 exact Zne I1 hN hi hx r1 (λs2 I2=>⟨_,H1,I2,q1⟩) hf
end
section
variable {X:Cx}{pos:Pos}
noncomputable def Z3k(c:TT)(tb:TS):TS:=λD σ H=>∃W:Nat->St->Hp->Prop,(∃m,W m σ H)∧∀m σ H,W m σ H ->
 c σ H λb H1=>if b=true then∃N:St->Hp->Prop,(∀σ' H',N σ' H'->∃m',m'<m∧W m' σ' H')∧tb { D with nx:=N,ct:=N,bk:=D.nx } σ H1 else D.nx σ H1
theorem Ztl{c:Expr}{body:List Stmt}{tc:TT}{tb:TS}(hp:PassesOwn (Qd X.prog X.w) X.A X.env X.xe)(hc:PT X c tc)(hb:PSs X body tb):PS X (.While c body [] pos) (Z3k tc tb):=by
 intro pins s σ H D I h
 obtain⟨W,⟨m0,w0⟩,turn⟩:=h
 refine wpAny_While (codeAny_whileLoop (λn s'=>∃σ' H',Inv X pins σ' H' s'∧W n σ' H') ?_ m0 ⟨σ,H,I,w0⟩)
 rintro n s1 ⟨σ1,H1,I1,w1⟩
 refine Vj hp (thn (hc pins s1 σ1 H1 _ I1 (turn n σ1 H1 w1)) λb s2 qz9=>?_)
 obtain⟨H2,I2,q2⟩:=qz9
 cases b with
 | true=>
  obtain⟨N,hN,q2⟩:=q2
  rw[if_pos rfl]
  refine Vj hp (thn (hb pins s2 σ1 H2 _ I2 q2) λf s3 q3=>?_)
  cases f with
  | next=>
   obtain⟨σ3,H3,I3,n3⟩:=q3
   obtain⟨m',hm,w3⟩:=hN σ3 H3 n3
   exact⟨m',hm,σ3,H3,I3,w3⟩
  | cont=>
   obtain⟨σ3,H3,I3,n3⟩:=q3
   obtain⟨m',hm,w3⟩:=hN σ3 H3 n3
   exact⟨m',hm,σ3,H3,I3,w3⟩
  | brk=>exact q3
  | ret v=>exact q3
 | false=>
  rw[if_neg Xy]
  exact wpAny_execs_nil ⟨σ1,H2,I2,q2⟩
end
set_option genInjectivity false in
structure It where
 go:Nat->Hp->Prop
 yld:Nat->Hp->V->Hp->Prop
 stop:Nat->Hp->Prop
noncomputable def Zhv(X:Cx)(pins:List (Addr×Obj))(H:Hp)(b:Addr):Prop :=
 H b=none∧b≠X.env.locals∧b∉X.fs∧(b∈X.ex∨X.s₀.heap.objs.size≤b)∧(∀x c,X.env.cells.lookup x=some c->c≠b)∧∀p∈X.pn ++ pins,p.1≠b
theorem Inv.fpOk{X:Cx}{pins:List (Addr×Obj)}{σ:St}{H H':Hp}{s:Xe}{b:Addr}(I:Inv X pins σ H s)(hb:s.heap.objs.size≤b)(hn:H' b=none):Zhv X pins H' b:=by
 refine⟨hn,XH (Qj I.lt hb),I.nofs hb,.inr (Qy I.sz hb),λx c e z=>?_,λp hp z=>?_⟩
 ·obtain⟨v,q⟩:=I.cell x c e
  exact absurd (Qj q.lt (by rw[z];exact hb)) (Bx _)
 ·exact absurd (Qj (Xw (I.pin p hp).1) (by rw[z];exact hb)) (Bx _)
structure Turn(P:X6)(w:Qv)(K:Xb)(tg:Expr)(J:It)(fp:List Addr)(it:Addr)(tn:Nat->Heap->Prop):Prop where
 mem:it∈fp
 obj:∀i h,tn i h->∀b∈fp,∃o,h.get? b=some o∧∀v,o.data≠ .cell v
 keep:∀i h h',tn i h->(∀b∈fp,∀o,h.get? b=some o->h'.get? b=some o)->tn i h'
 item:∀(X:Cx),X.prog=P->X.w=w->X.K=K->X.calm=true->∀(i:Nat) (pins:List (Addr×Obj)) (s:Xe) (σ:St) (H:Hp) (E:Xc->Xe->Prop),Inv X pins σ H s->(∀b∈fp,Zhv X pins H b)->tn i s.heap->J.go i H ->
  X5 (Qd P w) X.A (pyNext (.ref it)) (λr s1=>∃u,r=some u∧
   X5 (Qd P w) X.A (Ut tg (.ref it) u) (λ_ s2=>∃x H',Inv X pins σ H' s2∧RelV x u∧J.yld i H x H'∧tn (i+1) s2.heap∧∀b∈fp,H' b=none) E s1) E s
 done:∀(X:Cx),X.prog=P->X.w=w->X.K=K->X.calm=true->∀(i:Nat) (pins:List (Addr×Obj)) (s:Xe) (σ:St) (H:Hp) (E:Xc->Xe->Prop),Inv X pins σ H s->(∀b∈fp,Zhv X pins H b)->tn i s.heap->J.stop i H ->
  X5 (Qd P w) X.A (pyNext (.ref it)) (λr s1=>r=none∧Inv X pins σ H s1) E s
 self:∀(A:Qo) (i:Nat) (s:Xe) (Q:Xc->Xe->Prop) (E:Xc->Xe->Prop),tn i s.heap->Q (.ref it) s->X5 (Qd P w) A (pyIter (.ref it)) Q E s
noncomputable abbrev TI:=St->Hp->(It->Hp->Prop)->Prop
noncomputable def PIE(X:Cx)(pins:List (Addr×Obj))(σ:St)(tg:Expr)(R:It->Hp->Prop)(itv:Xc)(s2:Xe):Prop :=
 ∃(it:Addr) (fp:List Addr) (tn:Nat->Heap->Prop) (J:It) (H':Hp),itv= .ref it∧Inv X pins σ H' s2∧Turn X.prog X.w X.K tg J fp it tn∧tn 0 s2.heap∧(∀b∈fp,Zhv X pins H' b)∧R J H'
noncomputable def PI(X:Cx)(tg iter:Expr)(wi:TI):Prop :=
 ∀(pins:List (Addr×Obj)) (s:Xe) (σ:St) (H:Hp) (R:It->Hp->Prop),Inv X pins σ H s->wi σ H R ->
  X5 (Qd X.prog X.w) X.A (eval iter X.env) (λv s1=>X5 (Qd X.prog X.w) X.A (pyIter v) (PIE X pins σ tg R) X.xe s1) X.xe s
theorem Z16{M:Model}{A:Qo}{E:Xc->Xe->Prop}{s:Xe}{tg:Expr}{it:Addr}{u:Xc}{o:Obj}{n:String}{vs:Array Xc}{Q:Unit->Xe->Prop}(ho:s.heap.get? it=some o)(hc:o.cls= .type n)(hd:o.data= .fields vs)
  (hn:["enumerate","zip","dict_itemiterator","dict_reverseitemiterator","odict_iterator","itertools.zip_longest","itertools.pairwise"].contains n=false) (hQ:Q () s):X5 M A (Ut tg (.ref it) u) Q E s:=by
 unfold Ut
 cases tg<;>first
  | exact Qc hQ
  | (cases u<;>first
    | exact Qc hQ
    | (refine Xf (wpAny_load ho ?_)
       rw[hc,hd]
       show X5 M A (if(["enumerate","zip","dict_itemiterator","dict_reverseitemiterator","odict_iterator","itertools.zip_longest","itertools.pairwise"].contains n&&vs[0]? ==some (rawInt _))=true then _ else _) Q E s
       rw[if_neg (by intro h;rw[hn,Bool.false_and]at h;cases h)]
       exact Qc hQ))
noncomputable def Itl(K:Xb)(a:Addr):It :=
 ⟨λi H=>∃xs x,SqL K H a xs∧xs[i]? =some x,λi H x H'=>H'=H∧∀xs,SqL K H a xs->xs[i]? =some x,λi H=>∃xs,SqL K H a xs∧xs.length≤i⟩
noncomputable def Itr(lo:Int)(n:Nat):It:=⟨λi _=>i<n,λi H x H'=>H'=H∧x= .int (lo+i),λi _=>n≤i⟩
theorem Zpw{P:X6}{w:Qv}{K:Xb}{tg:Expr}(a it:Addr):Turn P w K tg (Itl K a) [it] it (λi h=>h.IsListIter it a i) where
 mem:=by simp
 obj:=λi h st b hb=>by
  have e:b=it:=by simpa using hb
  subst e
  obtain⟨o,e,c,d⟩:=st
  exact⟨o,e,λv z=>by rw[d]at z;cases z⟩
 keep:=λi h h' st k=>st.at λo e=>k it (by simp) o e
 item:=by
  intro X hP hw hK hc i pins s σ H E I hf st hg
  subst hP hw hK
  obtain⟨xs,x,hq,hx⟩:=hg
  obtain⟨its,rv,p,hz⟩:=I.list hq
  obtain⟨u,hu,ru⟩:=rv.get hx
  obtain⟨f0,f1,f2,f3,f4,f5⟩:=hf it (by simp)
  refine wpAny_pyNext_list_item st p.isList (x:=u) (by simpa using hu) λh' st' sb=>?_
  have I1:Inv X pins σ H { s with heap:=h' }:=I.turned (t':=s.toks) (λb o hb e=>(sb.2 b hb).trans e) f0 f1 f3 f4 f5
  obtain⟨o,e,c,d⟩:=id st'
  exact⟨u,rfl,Z16 (s:={ s with heap:=h' }) e c d (by decide) ⟨x,H,I1,ru,⟨rfl,λys hy=>by rw[I.list_inj hy hq];exact hx⟩,st',λb hb=>(hf b hb).1⟩⟩
 done:=by
  intro X hP hw hK hc i pins s σ H E I hf st hg
  subst hP hw hK
  obtain⟨xs,hq,hx⟩:=hg
  obtain⟨its,rv,p,hz⟩:=I.list hq
  obtain⟨f0,f1,f2,f3,f4,f5⟩:=hf it (by simp)
  have hl:=rv.length
  exact wpAny_pyNext_list_end (I.ok.hd hc) st p.isList (by simp;omega) λh' eb=>⟨rfl,I.turned (t':=s.toks) (λb o hb e=>eb b o hb e) f0 f1 f3 f4 f5⟩
 self:=λ_ _ _ _ _ st h=>wpAny_pyIter_listiter st h
theorem Zob{P:X6}{w:Qv}{K:Xb}{tg:Expr}(it:Addr)(lo:Int)(n:Nat):Turn P w K tg (Itr lo n) [it] it (λi h=>IsRangeIter h it (lo+(i:Nat)*1) ((n:Int)-(i:Nat)) 1) where
 mem:=by simp
 obj:=λi h st b hb=>by
  have e:b=it:=by simpa using hb
  subst e
  exact⟨_,st,λv z=>by
   have z':Data.fields _=Data.cell v:=z
   cases z'⟩
 keep:=λi h h' st k=>k it (by simp) _ st
 item:=by
  intro X hP hw hK hc i pins s σ H E I hf st hg
  subst hP hw hK
  obtain⟨f0,f1,f2,f3,f4,f5⟩:=hf it (by simp)
  have W:=Walks.range (prog:=X.prog) (w:=X.w) (I.ok.hd hc) it lo 1 n
  refine W.item i s _ _ hg st λv h' tk hv st' kk=>?_
  obtain⟨t,rfl⟩:=hv
  have I1:Inv X pins σ H { s with heap:=h',toks:=tk }:=I.turned (λb o hb e=>kk b o (by simpa using hb) e) f0 f1 f3 f4 f5
  refine⟨_,rfl,Z16 (s:={ s with heap:=h',toks:=tk }) (n :="range_iterator") st' rfl rfl (by decide) ⟨.int (lo+i),H,I1,⟨t,?_⟩,⟨rfl,rfl⟩,st',λb hb=>(hf b hb).1⟩⟩
  rw[Int.mul_one]
 done:=by
  intro X hP hw hK hc i pins s σ H E I hf st hg
  subst hP hw hK
  obtain⟨f0,f1,f2,f3,f4,f5⟩:=hf it (by simp)
  exact wpAny_pyNext_range_end (I.ok.hd hc) st (by have:n≤i:=hg;omega) λh' eb=>⟨rfl,I.turned (t':=s.toks) (λb o hb e=>eb b o hb e) f0 f1 f3 f4 f5⟩
 self:=λ_ _ _ _ _ st h=>wpAny_pyIter_rangeiter st h
section
variable {X:Cx}{tg:Expr}
noncomputable def Z3p(K:Xb)(tl:TE):TI:=λσ H R=>tl σ H λx H1=>∃a,x= .ref a∧(∃xs,SqL K H1 a xs)∧R (Itl K a) H1
theorem Zhu{l:Expr}{tl:TE}(hl:PE X l tl):PI X tg l (Z3p X.K tl):=by
 intro pins s σ H R I h
 refine thn (hl pins s σ H _ I h) λv s1 qz9=>?_
 obtain⟨x,H1,I1,r1,q1⟩:=qz9
 obtain⟨a,e,⟨xs,hq⟩,q⟩:=q1
 subst e
 cases r1
 obtain⟨its,rv,p,hz⟩:=I1.list hq
 refine wpAny_pyIter_list p.isList ?_
 refine⟨s1.heap.objs.size,[s1.heap.objs.size],_,_,H1,rfl,I1.kept (t':=s1.toks) λb o e=>Xl _ e,Zpw a _,⟨_,Qi _ rfl,rfl,rfl⟩,λb hb=>?_,q⟩
 have e:b=s1.heap.objs.size:=by simpa using hb
 subst e
 exact I1.fpOk (X4 _) (I1.hok.fresh (X4 _))
theorem Zma{pins:List (Addr×Obj)}{σ:St}{H:Hp}{s:Xe}{R:It->Hp->Prop}{E:Xc->Xe->Prop}{lo hi:Int}{t u v:Tok}{tk:Nat}(I:Inv X pins σ H s)(h1:-(2^62)≤lo)(h2:lo<2^62)(h3:-(2^62)≤hi)(h4:hi<2^62)
  (q:R (Itr lo (hi-lo).toNat) H):X5 (Qd X.prog X.w) X.A (pyIter (.ref s.heap.objs.size)) (PIE X pins σ tg R) E { s with heap:=s.heap.push { cls:=.type "range",data:=.fields #[.int lo t,.int hi u,.int 1 v] },toks:=tk }:=by
 refine wpAny_pyIter_range (IsRange.new ..) (small_one h1 h2 h3 h4) ?_
 have I1:Inv X pins σ H { s with heap:=s.heap.push { cls:=.type "range",data:=.fields #[.int lo t,.int hi u,.int 1 v] },toks:=tk }:=I.kept λb o e=>Xl _ e
 refine⟨(s.heap.push { cls:=.type "range",data:=.fields #[.int lo t,.int hi u,.int 1 v] }).objs.size,[(s.heap.push { cls:=.type "range",data:=.fields #[.int lo t,.int hi u,.int 1 v] }).objs.size],_,_,H,rfl,
  I1.kept (t':=tk) λb o e=>Xl _ e,Zob _ lo (hi-lo).toNat,?_,λb hb=>?_,q⟩
 ·have e1:lo+((0:Nat):Int)*1=lo:=by simp
  have e2:(((hi-lo).toNat:Nat):Int)-((0:Nat):Int)=Builtin.Range.rangeSize lo hi 1:=by rw[rangeSize_one];split<;>omega
  show IsRangeIter _ _ (lo+((0:Nat):Int)*1) ((((hi-lo).toNat:Nat):Int)-((0:Nat):Int)) 1
  rw[e1,e2]
  exact Qi _ rfl
 ·have e:b=(s.heap.push { cls:=.type "range",data:=.fields #[.int lo t,.int hi u,.int 1 v] }).objs.size:=by simpa using hb
  subst e
  exact I1.fpOk (X4 _) (I1.hok.fresh (X4 _))
noncomputable def Z9m(ta:TA):TI:=λσ H R=>ta σ H λvs H1=>∃j:Int,vs=[.int j]∧-(2^62)≤j∧j<2^62∧R (Itr 0 j.toNat) H1
noncomputable def Z85(ta:TA):TI:=λσ H R=>ta σ H λvs H1=>∃i j:Int,vs=[.int i,.int j]∧(-(2^62)≤i∧i<2^62∧-(2^62)≤j∧j<2^62)∧R (Itr i (j-i).toNat) H1
theorem Zrj{a:Expr}{ta:TA}{p pos:Pos}(hg:Gl X "range")(hm:X.mg "range"=none)(ha:PA X [a] ta)(hs:Xm [a] X.env=[(false,eval a X.env)]:=by rfl):PI X tg (.Call (.Name "range" p) [a] [] pos) (Z9m ta):=by
 intro pins s σ H R I h
 refine Call_ (Zgb I hg hm boot_range (Bk (thn (ha pos pins s σ H _ I h) λus s1 qz9=>?_) hs rfl))
 obtain⟨vs,H1,I1,r1,q1⟩:=qz9
 obtain⟨j,e,q1,q2,q⟩:=q1
 subst e
 cases r1 with
 | cons r rr=>
  cases rr
  obtain⟨t,rfl⟩:=r
  exact call_range_1 (Zma I1 (by omega) (by omega) q1 q2 (by simpa using q))
theorem Zrg{a b:Expr}{ta:TA}{p pos:Pos}(hg:Gl X "range")(hm:X.mg "range"=none)(ha:PA X [a,b] ta)(hs:Xm [a,b] X.env=[(false,eval a X.env),(false,eval b X.env)]:=by rfl)(hs2:Xm [b] X.env=[(false,eval b X.env)]:=by rfl) :
  PI X tg (.Call (.Name "range" p) [a,b] [] pos) (Z85 ta):=by
 intro pins s σ H R I h
 refine Call_ (Zgb I hg hm boot_range (Bk (thn (ha pos pins s σ H _ I h) λus s1 ⟨vs,H1,I1,r1,q1⟩=>?_) (by rw[hs,hs2]) (by rw[hs2];rfl)))
 obtain⟨i,j,e,⟨q1,q2,q3,q4⟩,q⟩:=q1
 subst e
 cases r1 with
 | cons r rr=>
  cases rr with
  | cons r' rr=>
   cases rr
   obtain⟨t,rfl⟩:=r
   obtain⟨t',rfl⟩:=r'
   exact call_range_2 (Zma I1 q1 q2 q3 q4 q)
noncomputable def Ydr(wi:TI)(g:TG)(tb:TS):TS:=λD σ H=>wi σ H λJ H1=>∃W:Nat->Nat->St->Hp->Prop,(∃m,W 0 m σ H1)∧∀i m σ H,W i m σ H ->
 (J.stop i H∧D.nx σ H)∨(J.go i H∧∃N:St->Hp->Prop,(∀σ' H',N σ' H'->∃m',m'<m∧W (i+1) m' σ' H')∧∀x H',J.yld i H x H'->g x σ H' λσ2 H2=>tb { D with nx:=N,ct:=N,bk:=D.nx } σ2 H2)
noncomputable def Zj8(fp:List Addr)(h:Heap):List (Addr×Obj):=fp.filterMap λb=>(h.get? b).map λo=>(b,o)
theorem Zcd{fp:List Addr}{h:Heap}{b:Addr}{o:Obj}(hb:b∈fp)(e:h.get? b=some o):(b,o)∈Zj8 fp h:=List.mem_filterMap.mpr ⟨b,hb,by rw[e];rfl⟩
theorem Zpa{fp:List Addr}{h:Heap}{p:Addr×Obj}(hp:p∈Zj8 fp h):p.1∈fp∧h.get? p.1=some p.2:=by
 obtain⟨b,hb,e⟩:=List.mem_filterMap.mp hp
 cases q:h.get? b with
 | none=>rw[q]at e;cases e
 | some o=>
  rw[q]at e
  have e':(b,o)=p:=Qt e
  subst e'
  exact⟨hb,q⟩
theorem Inv.pinned{pins:List (Addr×Obj)}{σ:St}{H:Hp}{s:Xe}{fp:List Addr}(I:Inv X pins σ H s)(hf:∀b∈fp,Zhv X pins H b)(ho:∀b∈fp,∃o,s.heap.get? b=some o∧∀v,o.data≠ .cell v):Inv X (pins ++ Zj8 fp s.heap) σ H s :=
 I.pins_of λp hp=>(X3.mp hp).elim (λz=>I.pin p (XM _ z)) λz=>by
  obtain⟨hb,e⟩:=Zpa z
  obtain⟨f0,f1,f2,_⟩:=hf p.1 hb
  obtain⟨o,e',d⟩:=ho p.1 hb
  rw[e]at e';cases e'
  exact⟨e,f0,f1,f2,d⟩
theorem Inv.unpinned{pins pl:List (Addr×Obj)}{σ:St}{H:Hp}{s:Xe}(I:Inv X (pins ++ pl) σ H s):Inv X pins σ H s:=I.pins_of λp hp=>I.pin p (XM _ (Qu _ hp))
theorem Zqq{iter:Expr}{body:List Stmt}{wi:TI}{g:TG}{tb:TS}{pos:Pos}(hp:PassesOwn (Qd X.prog X.w) X.A X.env X.xe)(hc:X.calm=true)(hi:PI X tg iter wi)(hg:PG X tg g)(hb:PSs X body tb)
  (hs:∀x,Q7 iter X.env x=pure x:=by intro _;rfl):PS X (.For tg iter body [] pos) (Ydr wi g tb):=by
 intro pins s σ H D I h
 refine wpAny_For (thn (hi pins s σ H _ I h) λv s1 h1=>thn h1 λitv s2 h2=>?_) hs
 obtain⟨it,fp,tn,J,H2,e,I2,T,st2,f2,W,⟨m0,w0⟩,turn⟩:=h2
 subst e
 -- what stays true of the iterator's objects through the loop
 have stat:∀{H':Hp},(∀b∈fp,H' b=none)->∀b∈fp,Zhv X pins H' b:=λhn b hb=>⟨hn b hb,(f2 b hb).2⟩
 refine codeAny_forLoop_any (λn s'=>∃i σ' H',Inv X pins σ' H' s'∧tn i s'.heap∧(∀b∈fp,H' b=none)∧W i n σ' H') ?_ m0 ⟨0,σ,H2,I2,st2,λb hb=>(f2 b hb).1,w0⟩
 rintro n s3 ⟨i,σ3,H3,I3,st3,fr3,w3⟩
 rcases turn i n σ3 H3 w3 with⟨stop,qn⟩|⟨go,N,hN,step⟩
 ·refine Vj hp (thn (T.done X rfl rfl rfl hc i pins s3 σ3 H3 X.xe I3 (stat fr3) st3 stop) λr s4 qz9=>?_)
  obtain⟨hr,I4⟩:=qz9
  subst hr
  exact wpAny_execs_nil ⟨σ3,H3,I4,qn⟩
 ·refine Vj hp (thn (T.item X rfl rfl rfl hc i pins s3 σ3 H3 X.xe I3 (stat fr3) st3 go) λr s4 qz9=>?_)
  obtain⟨u,hr,h4⟩:=qz9
  subst hr
  refine Vj hp (thn h4 λ_ s5 qz9=>?_)
  obtain⟨x,H5,I5,r5,y5,st5,fr5⟩:=qz9
  have I5':=I5.pinned (stat fr5) (T.obj _ _ st5)
  refine Vj hp (thn (hg _ s5 σ3 H5 x u _ I5' r5 (step x H5 y5)) λ_ s6 qz9=>?_)
  obtain⟨σ6,H6,I6,q6⟩:=qz9
  refine Vj hp (thn (hb _ s6 σ6 H6 _ I6 q6) λf s7 q7=>?_)
  have again:∀{σ7:St} {H7:Hp},Inv X (pins ++ Zj8 fp s5.heap) σ7 H7 s7->N σ7 H7->∃m,m<n∧∃i σ' H',Inv X pins σ' H' s7∧tn i s7.heap∧(∀b∈fp,H' b=none)∧W i m σ' H':=fun{σ7 H7} I7 n7=>by
   obtain⟨m',hm,w7⟩:=hN σ7 H7 n7
   refine⟨m',hm,i+1,σ7,H7,I7.unpinned,T.keep _ _ _ st5 λb hb o e=>(I7.pin (b,o) (XM _ (XM _ (Zcd hb e)))).1,λb hb=>?_,w7⟩
   obtain⟨o,e,d⟩:=T.obj _ _ st5 b hb
   exact(I7.pin (b,o) (XM _ (XM _ (Zcd hb e)))).2.1
  cases f with
  | next=>obtain⟨σ7,H7,I7,n7⟩:=q7;exact again I7 n7
  | cont=>obtain⟨σ7,H7,I7,n7⟩:=q7;exact again I7 n7
  | brk=>obtain⟨σ7,H7,I7,q7⟩:=q7;exact⟨σ7,H7,I7.unpinned,q7⟩
  | ret v=>obtain⟨x7,σ7,H7,I7,r7,q7⟩:=q7;exact⟨x7,σ7,H7,I7.unpinned,r7,q7⟩
end
theorem Zmk{K:Xb}{a:Addr}{xs:List V}{g:TG}{tb:TS}{D:Ends}{σ:St}{H:Hp}(Pv:Nat->St->Hp->Prop)(h0:Pv 0 σ H)(hl:∀i σ H,i≤xs.length->Pv i σ H->SqL K H a xs)
  (hs:∀i x σ H,xs[i]? =some x->Pv i σ H->g x σ H λσ2 H2=>tb { D with nx:=Pv (i+1),ct:=Pv (i+1),bk:=D.nx } σ2 H2) (hd:∀σ H,Pv xs.length σ H->D.nx σ H) :
  ∃W:Nat->Nat->St->Hp->Prop,(∃m,W 0 m σ H)∧∀i m σ H,W i m σ H ->
   ((Itl K a).stop i H∧D.nx σ H)∨((Itl K a).go i H∧∃N:St->Hp->Prop,(∀σ' H',N σ' H'->∃m',m'<m∧W (i+1) m' σ' H')∧∀x H',(Itl K a).yld i H x H'->g x σ H' λσ2 H2=>tb { D with nx:=N,ct:=N,bk:=D.nx } σ2 H2):=by
 refine⟨λi m σ H=>m=xs.length-i∧i≤xs.length∧Pv i σ H,⟨xs.length,by simp,QQ _,h0⟩,?_⟩
 rintro i m σ H ⟨rfl,hi,p⟩
 have q:=hl i σ H hi p
 by_cases hlt:i<xs.length
 ·refine .inr ⟨⟨xs,xs[i],q,by simp[hlt]⟩,Pv (i+1),λσ' H' p'=>⟨xs.length-(i+1),by omega,rfl,hlt,p'⟩,λx H' y=>?_⟩
  obtain⟨e,y⟩:=y
  subst e
  exact hs i x σ _ (y xs q) p
 ·have e:i=xs.length:=by omega
  subst e
  exact .inl ⟨⟨xs,q,X4 _⟩,hd σ H p⟩
noncomputable abbrev R2:=V->V->Hp->VK->Prop
noncomputable def OpR(X:Cx)(f:Xc->Xc->Sem Xc)(r:R2):Prop :=
 ∀(pins:List (Addr×Obj)) (s:Xe) (σ:St) (H:Hp) (x y:V) (v u:Xc) (Q:VK),Inv X pins σ H s->RelV x v->RelV y u->r x y H Q ->
  X5 (Qd X.prog X.w) X.A (f v u) (EP X pins σ Q) X.xe s
noncomputable def UnR(X:Cx)(f:Xc->Sem Xc)(r:V->Hp->VK->Prop):Prop :=
 ∀(pins:List (Addr×Obj)) (s:Xe) (σ:St) (H:Hp) (x:V) (v:Xc) (Q:VK),Inv X pins σ H s->RelV x v->r x H Q ->
  X5 (Qd X.prog X.w) X.A (f v) (EP X pins σ Q) X.xe s
noncomputable def Zbo(X:Cx)(f:Xc)(r:List V->Hp->VK->Prop):Prop :=
 ∀(pins:List (Addr×Obj)) (s:Xe) (σ:St) (H:Hp) (xs:List V) (us:List Xc) (Q:VK),Inv X pins σ H s->Vals xs us->r xs H Q ->
  X5 (Qd X.prog X.w) X.A (call f us) (EP X pins σ Q) X.xe s
noncomputable def Ydx(X:Cx)(r:V->Hp->(Bool->Hp->Prop)->Prop):Prop :=
 ∀(pins:List (Addr×Obj)) (s:Xe) (σ:St) (H:Hp) (x:V) (v:Xc) (Q:Bool->Hp->Prop),Inv X pins σ H s->RelV x v->r x H Q ->
  X5 (Qd X.prog X.w) X.A (truthy v) (TP X pins σ Q) X.xe s
noncomputable def tOp(r:R2)(ta tb:TE):TE:=λσ H Q=>ta σ H λx H1=>tb σ H1 λy H2=>r x y H2 Q
noncomputable def tUn(r:V->Hp->VK->Prop)(ta:TE):TE:=λσ H Q=>ta σ H λx H1=>r x H1 Q
noncomputable def rI(C:Int->Int->Prop)(g:Int->Int->V):R2:=λx y H Q=>∃i j,x= .int i∧y= .int j∧C i j∧Q (g i j) H
noncomputable def rI0(g:Int->Int->V):R2:=λx y H Q=>∃i j,x= .int i∧y= .int j∧Q (g i j) H
noncomputable def rU(g:Int->V):V->Hp->VK->Prop:=λx H Q=>∃i,x= .int i∧Q (g i) H
section
variable {X:Cx}{a b c:Expr}{ta tb tc:TE}{pos:Pos}
theorem Z8k(ha:PE X a ta)(hb:PE X b tb){pins:List (Addr×Obj)}{s:Xe}{σ:St}{H:Hp}{R:V->V->Hp->Prop}(I:Inv X pins σ H s)
  (h:ta σ H λx H1=>tb σ H1 λy H2=>R x y H2) {Q:Xc->Xe->Prop} {f:Xc->Xc->Sem Xc}
  (hf:∀v u s2 x y H2,Inv X pins σ H2 s2->RelV x v->RelV y u->R x y H2->X5 (Qd X.prog X.w) X.A (f v u) Q X.xe s2) :
  X5 (Qd X.prog X.w) X.A (eval a X.env) (λv s₁=>X5 (Qd X.prog X.w) X.A (eval b X.env) (λu s₂=>X5 (Qd X.prog X.w) X.A (f v u) Q X.xe s₂) X.xe s₁) X.xe s:=by
 refine thn (ha pins s σ H _ I h) λv s1 qz9=>?_
 obtain⟨x,H1,I1,r1,q1⟩:=qz9
 refine thn (hb pins s1 σ H1 _ I1 q1) λu s2 qz9=>?_
 obtain⟨y,H2,I2,r2,q2⟩:=qz9
 exact hf v u s2 x y H2 I2 r1 r2 q2
theorem Zy2{op:Operator}{r:R2}(ho:OpR X (Vk op) r)(ha:PE X a ta)(hb:PE X b tb):PE X (.BinOp a op b pos) (tOp r ta tb):=by
 intro pins s σ H Q I h
 exact wpAny_BinOp (Z8k ha hb I h λv u s2 x y H2 I2 rx ry q=>ho pins s2 σ H2 x y v u Q I2 rx ry q)
theorem Z9b{op:UnaryOp}{r:V->Hp->VK->Prop}(ho:UnR X (unaryOp op) r)(ha:PE X a ta):PE X (.UnaryOp op a pos) (tUn r ta):=by
 intro pins s σ H Q I h
 refine UnaryOp_ (thn (ha pins s σ H _ I h) λv s1 qz9=>?_)
 obtain⟨x,H1,I1,r1,q1⟩:=qz9
 exact ho pins s1 σ H1 x v Q I1 r1 q1
theorem opI{f:Xc->Xc->Sem Xc}{C:Int->Int->Prop}{g:Int->Int->Int}
  (rule:∀(i j:Int) (t u:Tok) (s:Xe) (Q:Xc->Xe->Prop) (E:Xc->Xe->Prop),C i j->Q (.int (g i j) s.toks) { s with toks:=s.toks+1 }->X5 (Qd X.prog X.w) X.A (f (.int i t) (.int j u)) Q E s) :
  OpR X f (rI C λi j=>.int (g i j)):=by
 intro pins s σ H x y v u Q I rx ry h
 obtain⟨i,j,rfl,rfl,hc,q⟩:=h
 obtain⟨t,rfl⟩:=rx
 obtain⟨t',rfl⟩:=ry
 exact rule i j t t' s _ _ hc ⟨.int (g i j),H,I.tok _,⟨_,rfl⟩,q⟩
theorem Z75{f:Xc->Xc->Sem Xc}{g:Int->Int->Int}
  (rule:∀(i j:Int) (t u:Tok) (s:Xe) (Q:Xc->Xe->Prop) (E:Xc->Xe->Prop),Q (.int (g i j) s.toks) { s with toks:=s.toks+1 }->X5 (Qd X.prog X.w) X.A (f (.int i t) (.int j u)) Q E s) :
  OpR X f (rI0 λi j=>.int (g i j)):=by
 intro pins s σ H x y v u Q I rx ry h
 obtain⟨i,j,rfl,rfl,q⟩:=h
 obtain⟨t,rfl⟩:=rx
 obtain⟨t',rfl⟩:=ry
 exact rule i j t t' s _ _ ⟨.int (g i j),H,I.tok _,⟨_,rfl⟩,q⟩
theorem Z64{f:Xc->Xc->Sem Xc}{g:Int->Int->Bool}
  (rule:∀(i j:Int) (t u:Tok) (s:Xe) (Q:Xc->Xe->Prop) (E:Xc->Xe->Prop),Q (.bool (g i j)) s->X5 (Qd X.prog X.w) X.A (f (.int i t) (.int j u)) Q E s) :
  OpR X f (rI0 λi j=>.bl (g i j)):=by
 intro pins s σ H x y v u Q I rx ry h
 obtain⟨i,j,rfl,rfl,q⟩:=h
 obtain⟨t,rfl⟩:=rx
 obtain⟨t',rfl⟩:=ry
 exact rule i j t t' s _ _ ⟨.bl (g i j),H,I,rfl,q⟩
noncomputable def Z1h(i j:Int):Prop:=0≤j∧j≤1000000∧i.natAbs<2^64
noncomputable def CMul(i j:Int):Prop:=(-(2^64)<i∧i<2^64)∨(-(2^64)<j∧j<2^64)
theorem CMul.ok{i j:Int}(h:CMul i j):IntMulOk i j:=by
 rcases h with⟨h1,h2⟩|⟨h1,h2⟩
 ·exact .of_left (intBits_le_64 h1 h2)
 ·exact .of_right (intBits_le_64 h1 h2)
theorem Znt(k:Nat):(0:Int)≤2^k:=by
 rw[two_pow_cast]
 exact Int.natCast_nonneg _
theorem Z48:OpR X (Vk .Add) (rI0 λi j=>.int (i+j)):=Z75 λ_ _ _ _ _ _ _ q=>add_int q
theorem Z5b:OpR X (Vk .Sub) (rI0 λi j=>.int (i-j)):=Z75 λ_ _ _ _ _ _ _ q=>sub_int q
theorem Zy5:OpR X (Vk .Mod) (rI (λ_ j=>j≠0) λi j=>.int (i.fmod j)):=opI λ_ _ _ _ _ _ _ hc q=>mod_int' hc q
theorem Z34:OpR X (Vk .Pow) (rI Z1h λi j=>.int (i^j.toNat)):=opI λ_ _ _ _ _ _ _ hc q=>pow_int_small hc.1 hc.2.1 hc.2.2 q
theorem Z53:OpR X (Vk .LShift) (rI Z1h λi j=>.int (i*2^j.toNat)):=opI λ_ _ _ _ _ _ _ hc q=>lshift_int_small hc.1 hc.2.1 hc.2.2 q
theorem Zvs:OpR X (Vk .RShift) (rI (λ_ j=>0≤j) λi j=>.int (i/2^j.toNat)):=opI λi j _ _ _ _ _ hc q=>
 rshift_int hc (by rw[Int.fdiv_eq_ediv_of_nonneg i (Znt _)];exact q)
theorem Zv0:OpR X (Vk .BitAnd) (rI0 λi j=>.int (Builtin.bitAnd i j)):=Z75 λ_ _ _ _ _ _ _ q=>and_int q
theorem unI{f:Xc->Sem Xc}{g:Int->Int}
  (rule:∀(i:Int) (t:Tok) (s:Xe) (Q:Xc->Xe->Prop) (E:Xc->Xe->Prop),Q (.int (g i) s.toks) { s with toks:=s.toks+1 }->X5 (Qd X.prog X.w) X.A (f (.int i t)) Q E s) :
  UnR X f (rU λi=>.int (g i)):=by
 intro pins s σ H x v Q I rx h
 obtain⟨i,rfl,q⟩:=h
 obtain⟨t,rfl⟩:=rx
 exact rule i t s _ _ ⟨.int (g i),H,I.tok _,⟨_,rfl⟩,q⟩
theorem Z5l:UnR X (unaryOp .USub) (rU λi=>.int (-i)):=unI λ_ _ _ _ _ q=>neg_int q
end
section
variable {X:Cx}{a b c:Expr}{ta tb tc:TE}{pos:Pos}
theorem Zvr{pins:List (Addr×Obj)}{σ:St}{H:Hp}{s:Xe}{Q:VK}{k k':Bool}(I:Inv X pins σ H s)(q:Q (.bl k) H)(e:k=k'):EP X pins σ Q (.bool k') s:=by
 subst e
 exact⟨.bl k,H,I,rfl,q⟩
theorem Z56:OpR X (Va .Lt) (rI0 λi j=>.bl (decide (i<j))):=Z64 λ_ _ _ _ _ _ _ q=>lt_int q
theorem Z78:OpR X (Va .LtE) (rI0 λi j=>.bl (decide (i≤j))):=Z64 λ_ _ _ _ _ _ _ q=>le_int q
theorem Z83:OpR X (Va .Gt) (rI0 λi j=>.bl (decide (j<i))):=Z64 λ_ _ _ _ _ _ _ q=>gt_int q
theorem Z7m:OpR X (Va .GtE) (rI0 λi j=>.bl (decide (j≤i))):=Z64 λ_ _ _ _ _ _ _ q=>ge_int q
theorem Z6m:OpR X (Va .Is) (λx y H Q=>y= .non∧Q (.bl (decide (x= .non))) H):=by
 intro pins s σ H x y v u Q I rx ry h
 obtain⟨rfl,q⟩:=h
 cases ry
 refine is_none_gen (Zvr I q ?_)
 cases x<;>first
  | (cases rx;rfl)
  | (obtain⟨t,rfl⟩:=rx;rfl)
theorem Zxo:OpR X (Va .IsNot) (λx y H Q=>y= .non∧Q (.bl (!decide (x= .non))) H):=by
 intro pins s σ H x y v u Q I rx ry h
 obtain⟨rfl,q⟩:=h
 cases ry
 refine isnot_none_gen (Zvr I q ?_)
 cases x<;>first
  | (cases rx;rfl)
  | (obtain⟨t,rfl⟩:=rx;rfl)
theorem Zcr(b:Expr){op:CmpOp}(h:op≠ .In:=by decide)(h2:op≠ .NotIn:=by decide):Uj op b=false:=by
 have e1:(op==CmpOp.In)=false:=by cases op<;>first|rfl|exact absurd rfl h
 have e2:(op==CmpOp.NotIn)=false:=by cases op<;>first|rfl|exact absurd rfl h2
 cases b<;>simp[Uj,e1,e2]
theorem Zz3{op:CmpOp}{r:R2}(ho:OpR X (Va op) r)(ha:PE X a ta)(hb:PE X b tb)(hm:Uj op b=false):PE X (.Compare a [op] [b] pos) (tOp r ta tb):=by
 intro pins s σ H Q I h
 exact wpAny_Compare1 (Z8k ha hb I h λv u s2 x y H2 I2 rx ry q=>ho pins s2 σ H2 x y v u Q I2 rx ry q) hm
noncomputable def Z2k(t:TE):TT:=λσ H Q=>t σ H λx H'=>∃k,x= .bl k∧Q k H'
theorem Zzb{op:CmpOp}{r:R2}(ho:OpR X (Va op) r)(ha:PE X a ta)(hb:PE X b tb)(hm:Uj op b=false):PT X (.Compare a [op] [b] pos) (Z2k (tOp r ta tb)):=by
 intro pins s σ H Q I h
 refine wpAny_isTrue_Compare1 (thn (ha pins s σ H _ I h) λv s1 ⟨x,H1,I1,r1,q1⟩=>thn (hb pins s1 σ H1 _ I1 q1) λu s2 ⟨y,H2,I2,r2,q2⟩=>
  thn (ho pins s2 σ H2 x y v u _ I2 r1 r2 q2) λc s3 ⟨z,H3,I3,r3,k,e,q3⟩=>?_) hm
 subst e
 cases r3
 exact V7 ⟨H3,I3,q3⟩
noncomputable def Z9z(K:Xb)(x:V)(H:Hp)(k:Bool):Prop :=
 match x with
 | .non=>k=false
 | .bl b=>k=b
 | .int i=>k=(i !=0)
 | .str y=>y.length≤Xq∧k=((y.length:Int) !=0)
 | .byt y=>y.size≤Xq∧k=((y.size:Int) !=0)
 | .ref p=>(∃xs,SqL K H p xs∧k= !xs.isEmpty)∨(∃xs,SqT K H p xs∧k= !xs.isEmpty)∨∃kvs,H p=some (.dK kvs)∧k= !kvs.isEmpty
 | _=>False
theorem Znr{κ:Type}{kvs:List (κ×V)}{vs:List (κ×Xc)}(r:KV kvs vs):(!vs.isEmpty)= !kvs.isEmpty:=by
 cases r<;>rfl
theorem Zhc{xs:List V}{its:List Xc}(r:Vals xs its):(!its.toArray.isEmpty)= !xs.isEmpty:=by
 cases r<;>simp
theorem Zhg:(Xq:Nat)<2^63:=by rw[X7];decide
theorem Z5o:Ydx X (λx H Q=>∃k,Z9z X.K x H k∧Q k H):=by
 intro pins s σ H x v Q I rx h
 obtain⟨k,e,q⟩:=h
 have hl:=Zhg
 have hs:Xq=16777216:=X7
 cases x with
 | non=>
  cases rx
  have e':k=false:=e
  subst e'
  exact truthy_none ⟨H,I,q⟩
 | bl b=>
  cases rx
  have e':k=b:=e
  subst e'
  exact V7 ⟨H,I,q⟩
 | int i=>
  obtain⟨t,rfl⟩:=rx
  have e':k=(i !=0):=e
  subst e'
  exact PySem.P.truthy_int ⟨H,I,q⟩
 | str y=>
  obtain⟨t,rfl⟩:=rx
  obtain⟨hy,e'⟩:y.length≤Xq∧k=((y.length:Int) !=0):=e
  subst e'
  exact PySem.P.truthy_str (by omega) ⟨H,I.tok _,q⟩
 | byt y=>
  obtain⟨t,rfl⟩:=rx
  obtain⟨hy,e'⟩:y.size≤Xq∧k=((y.size:Int) !=0):=e
  subst e'
  exact PySem.W.truthy_bytes (by omega) ⟨H,I.tok _,q⟩
 | ref p=>
  cases rx
  have e':(∃xs,SqL X.K H p xs∧k= !xs.isEmpty)∨(∃xs,SqT X.K H p xs∧k= !xs.isEmpty)∨∃kvs,H p=some (.dK kvs)∧k= !kvs.isEmpty:=e
  rcases e' with⟨xs,hx,e'⟩|⟨xs,hx,e'⟩|⟨kvs,hx,e'⟩
  ·subst e'
   obtain⟨its,r,pl,hz⟩:=I.list hx
   have hlen:=r.length
   exact wpAny_truthy_list pl.isList (by simp only[Xx];omega) ⟨H,I.tok _,by rw[Zhc r];exact q⟩
  ·subst e'
   obtain⟨its,r,pl,hz⟩:=I.tuple hx
   have hlen:=r.length
   exact truthy_tuple pl (by simp only[Xx];omega) ⟨H,I.tok _,by rw[Zhc r];exact q⟩
  ·subst e'
   obtain⟨hz,hS,vs,r,m⟩:kvs.length≤Xq∧(p==sysModules)=false∧∃vs,KV kvs vs∧s.heap.DictOf (Zk9 X.prog X.w) p vs:=I.hok p _ hx
   have hlen:kvs.length=vs.length:=Paired.length r
   exact wpAny_truthy_dict hS m (by omega) ⟨H,I.tok _,by rw[Znr r];exact q⟩
 | _=>exact(show False from e).elim
theorem Ztj(ha:PE X a ta)(he:∀whole,isTrue a X.env whole=(do let v←whole;standAt a.pos;holding [v] (truthy v))) :
  PT X a (λσ H Q=>ta σ H λx H'=>∃k,Z9z X.K x H' k∧Q k H'):=by
 intro pins s σ H Q I h
 refine isTrue_plain (thn (ha pins s σ H _ I h) λv s1 qz9=>?_) (he _)
 obtain⟨x,H1,I1,r1,q1⟩:=qz9
 exact Z5o pins s1 σ H1 x v Q I1 r1 q1
theorem vals1{x:V}{us:List Xc}(r:Vals [x] us):∃u,us=[u]∧RelV x u:=by
 cases r with
 | cons r1 r2=>cases r2;exact⟨_,rfl,r1⟩
theorem vals2{x y:V}{us:List Xc}(r:Vals [x,y] us):∃u w',us=[u,w']∧RelV x u∧RelV y w':=by
 cases r with
 | cons r1 r2=>
  cases r2 with
  | cons r3 r4=>cases r4;exact⟨_,_,rfl,r1,r3⟩
theorem Zii:Zbo X (.builtin "abs") (λxs H Q=>∃i,xs=[.int i]∧Q (.int (if i<0 then -i else i)) H):=by
 intro pins s σ H xs us Q I r h
 obtain⟨i,rfl,q⟩:=h
 obtain⟨u,rfl,t,rfl⟩:=vals1 r
 exact call_abs_int λu tk=>⟨.int (if i<0 then -i else i),H,I.tok _,⟨_,rfl⟩,q⟩
theorem Zkv(hc:X.calm=true):Zbo X (.builtin "min") (λxs H Q=>∃i j,xs=[.int i,.int j]∧Q (.int (if j<i then j else i)) H):=by
 intro pins s σ H xs us Q I r h
 obtain⟨i,j,rfl,q⟩:=h
 obtain⟨u,w',rfl,⟨t,rfl⟩,⟨t',rfl⟩⟩:=vals2 r
 refine min_two_ints (I.ok.hd hc) λh' tk k=>⟨_,H,I.kept k,?_,q⟩
 by_cases hj:j<i
 ·rw[if_pos hj,if_pos hj];exact⟨_,rfl⟩
 ·rw[if_neg hj,if_neg hj];exact⟨_,rfl⟩
theorem Zqs:Zbo X (.type "int") (λxs H Q=>(∃i,xs=[.int i]∧Q (.int i) H)∨∃k,xs=[.bl k]∧Q (.int (if k then 1 else 0)) H):=by
 intro pins s σ H xs us Q I r h
 rcases h with⟨i,rfl,q⟩|⟨k,rfl,q⟩
 ·obtain⟨u,rfl,t,rfl⟩:=vals1 r
  exact call_int_int ⟨.int i,H,I,⟨_,rfl⟩,q⟩
 ·obtain⟨u,rfl,r1⟩:=vals1 r
  cases r1
  exact call_int_bool ⟨.int (if k then 1 else 0),H,I.tok _,⟨_,rfl⟩,q⟩
end
structure ObjM(h:Heap)(x dx C:Addr)(mA:Str->Option Xc):Prop where
 obj:h.get? x=some (PySem.W.instObj C dx)
 ns:h.Ns1 dx mA
 ne:dx≠x
theorem Zp9{h:Heap}{dx:Addr}{mA:Str->Option Xc}(n:h.Ns1 dx mA):∃od,h.get? dx=some od∧∀name,PySem.W.lookIn name od=some (mA name):=by
 obtain⟨o,es,ep,ho,hd,hk,_,hm⟩:=n
 refine⟨o,ho,λname=>?_⟩
 have e:=hm name
 unfold nsFind findBy at e
 rw[←Array.find?_toList]at e
 unfold PySem.W.lookIn
 rw[hd]
 dsimp only
 split
 ·rename_i y q
  rw[q]at e
  exact congrArg some e
 ·rename_i q
  rw[q]at e
  have a:es.toList.any (·.refKey)=false:=by
   rw[List.any_eq_false]
   intro y hy
   obtain⟨z,t,hkey⟩:=hk y (Array.mem_toList_iff.mp hy)
   simp[DictEntry.refKey,hkey]
  have a':¬es.toList.any (·.refKey)=true:=by rw[a];exact Xy
  rw[if_neg a']
  exact congrArg some e
theorem ObjM.look{h:Heap}{x dx C:Addr}{mA:Str->Option Xc}(I:ObjM h x dx C mA):∃od,PySem.W.InstAt h x (PySem.W.instObj C dx) C (some od)∧∀name,PySem.W.lookIn name od=some (mA name) :=
 let⟨od,ho,hl⟩:=Zp9 I.ns
 ⟨od,⟨I.obj,rfl,rfl,ho⟩,hl⟩
section
variable {prog:X6}{w:Qv}{A:Qo}{E:Xc->Xe->Prop}{s:Xe}{K:Xb}{x dx C f:Addr}{mA:Str->Option Xc}{name:Str}{v:Xc}
end
section
variable {P:X6}{w:Qv}{H H':Hp}{h h':Heap}{a C dx:Addr}{fs fs':List (Str×V)}
theorem Z0e(hok:HOk P w H h)(e:H a=some (.ins C dx fs)):∃mA,ObjM h a dx C mA∧(∀f,RelO (fs.lookup f) (mA f))∧PySem.Within mA (fs.map (·.1))∧fs.length≤1000∧H dx=some (.own a):=by
 obtain⟨d,z,ne,ob,mA,n,r,q⟩:=(show ObjOk P w H h a (.ins C dx fs)from hok a _ e)
 exact⟨mA,⟨ob,n,ne⟩,r,q,z,d⟩
end
structure Cls(K:Xb)(C:Addr):Prop where
 pg:PySem.W.plainGet K C Str.empty=true
 hd:PySem.W.hasDictIn K C=true
 po:PySem.W.plainOver K C=true
 sa:BX K (.ref C) "__setattr__"=some (some (.builtin "object.__setattr__"))
theorem Cls.get{K:Xb}{C:Addr}(c:Cls K C)(f:Str):PySem.W.plainGet K C f=true:=c.pg
structure Con(K:Xb)(C:Addr)(f:Str)(v:V)(u:Xc):Prop where
 at_:BX K (.ref C) f=some (some u)
 rel:RelV v u
 get:PySem.W.specialIn K u "__get__"=some none
 cp:PySem.W.copiedNames.contains f=false
structure Meth(K:Xb)(C:Addr)(m:Str)(f:Addr):Prop where
 at_:BX K (.ref C) m=some (some (.ref f))
 fn:PySem.W.isFn K (.ref f)=true
 kp:Bj K (.ref f)=true
section
variable {X:Cx}{pins:List (Addr×Obj)}{σ:St}{H:Hp}{s:Xe}{a C dx:Addr}{fs:List (Str×V)}{f:Str}{v:V}{A:Qo}{E:Xc->Xe->Prop}
end
section
variable {X:Cx}{o e value:Expr}{f:Str}{pos pos' tpos:Pos}{ta tv:TE}
end
section
variable {X:Cx}{pins:List (Addr×Obj)}{σ:St}{H:Hp}{s:Xe}{A:Qo}{E:Xc->Xe->Prop}{Q:Xc->Xe->Prop}{c:Xc}{b:Bool}
inductive Zoo(K:Xb)(H:Hp):V->Xc->Prop where
 | non:Zoo K H .non (.type "NoneType")
 | bl (x:Bool):Zoo K H (.bl x) (.type "bool")
 | int (i:Int):Zoo K H (.int i) (.type "int")
 | str (x:Str):Zoo K H (.str x) (.type "str")
 | flt (x:UInt64):Zoo K H (.flt x) (.type "float")
 | lst {a:Addr} {xs:List V} (e:H a=some (.lst xs)):Zoo K H (.ref a) (.type "list")
 | frz {a:Addr} {o:Obj} {xs:List V} (e:H a=some (.frz o (.lst xs))):Zoo K H (.ref a) (.type "list")
 | tup {a:Addr} {xs:List V} (e:H a=some (.tup xs)):Zoo K H (.ref a) (.type "tuple")
 | dK {a:Addr} {kvs:List (Key×V)} (e:H a=some (.dK kvs)):Zoo K H (.ref a) (.type "dict")
 | dT {a:Addr} {kvs:List (List Key×V)} (e:H a=some (.dT kvs)):Zoo K H (.ref a) (.type "dict")
 | ins {a C dx:Addr} {fs:List (Str×V)} (e:H a=some (.ins C dx fs)) (cl:Cls K C) (ha:BX K (.ref C) "__class__"=some (some (.builtin "object.__class__")))
   (hn:PySem.W.specialIn K (.builtin "object.__class__") "__get__"=some (some (.builtin "getset_descriptor.__get__"))) (htk:PySem.W.takesIn K (.builtin "object.__class__")=some true)
   (hm:PySem.W.mroIn K C (.type "object")=some true):Zoo K H (.ref a) (.ref C)
theorem J4{x:V}{u t:Xc}(I:Inv X pins σ H s)(rx:RelV x u)(ty:Zoo X.K H x t)(e:BW X.K t c=some b)(h:∀tk,Q (.bool b) { s with toks:=tk }) :
  X5 (Qd X.prog X.w) A (call (.builtin "isinstance") [u,c]) Q E s:=by
 cases ty with
 | non=>cases(show u=QF from rx);exact Q3 PySem.W.kitx_none I.kIn True.intro e (λz=>nomatch z) h
 | bl y=>cases(show u=Value.bool y from rx);exact Q3 PySem.W.kitx_bool I.kIn True.intro e (λz=>nomatch z) h
 | int i=>obtain⟨t,q⟩:=(show∃t,u=U8 i t from rx);cases q;exact Q3 PySem.W.kitx_int I.kIn True.intro e (λz=>nomatch z) h
 | str y=>obtain⟨t,q⟩:=(show∃t,u=Value.str y t from rx);cases q;exact Q3 PySem.W.kitx_str I.kIn True.intro e (λz=>nomatch z) h
 | flt y=>obtain⟨t,q⟩:=(show∃t,u=Xc.float y t from rx);cases q;exact Q3 PySem.W.kitx_float I.kIn True.intro e (λz=>nomatch z) h
 | @lst a xs ea=>
  cases(show u=QS a from rx)
  obtain⟨_,_,n,_,h1⟩:=(show ObjOk X.prog X.w H s.heap a (.lst xs)from I.hok a _ ea)
  exact Q3 PySem.W.kitx_list I.kIn ⟨_,h1,rfl⟩ e (λz=>nomatch z) h
 | @frz a ob xs ea=>
  cases(show u=QS a from rx)
  obtain⟨_,_,_,n,_,h1⟩:=(show ObjOk X.prog X.w H s.heap a (.frz ob (.lst xs))from I.hok a _ ea)
  exact Q3 PySem.W.kitx_list I.kIn ⟨_,h1,rfl⟩ e (λz=>nomatch z) h
 | @tup a xs ea=>
  cases(show u=QS a from rx)
  obtain⟨_,_,_,p⟩:=(show ObjOk X.prog X.w H s.heap a (.tup xs)from I.hok a _ ea)
  obtain⟨o,h1,h2,_⟩:=p
  exact Q3 PySem.W.kitx_tuple I.kIn ⟨o,h1,h2⟩ e (λz=>nomatch z) h
 | @dK a kvs ea=>
  cases(show u=QS a from rx)
  obtain⟨_,_,vs,_,p⟩:=(show ObjOk X.prog X.w H s.heap a (.dK kvs)from I.hok a _ ea)
  obtain⟨o,es,ep,h1,h2,_⟩:=p
  exact Q3 PySem.W.kitx_dict I.kIn ⟨o,h1,h2.1⟩ e (λz=>nomatch z) h
 | @dT a kvs ea=>
  cases(show u=QS a from rx)
  obtain⟨_,_,xs,_,o,es,ep,h1,h2,_⟩:=(show ObjOk X.prog X.w H s.heap a (.dT kvs)from I.hok a _ ea)
  exact Q3 PySem.W.kitx_dict I.kIn ⟨o,h1,h2.1⟩ e (λz=>nomatch z) h
 | @ins a C dx fs ea cl ha hn htk hm=>
  cases(show u=QS a from rx)
  obtain⟨mA,O,_⟩:=Z0e I.hok ea
  obtain⟨od,J,_⟩:=O.look
  exact Q3 (PySem.W.kitx_own (cl.get _) cl.hd ha hn htk hm) I.kIn J e (λz=>nomatch z) h
end
structure Room(k:Nat)(A:Qo):Prop where
 hd:A.handled=none
 dp:A.depth+3*k+5<recursionLimit
 un:A.units+16*k+200<cLine
theorem Room.mono{j k:Nat}{A:Qo}(r:Room k A)(h:j≤k):Room j A:=⟨r.hd,by have:=r.dp;omega,by have:=r.un;omega⟩
theorem Room.deeper{k:Nat}{A:Qo}(r:Room (k+1) A)(env:Env):Room k (A.deeper env) :=
 ⟨r.hd,by have:=r.dp;show A.depth+1+3*k+5<_;omega,by have:=r.un;show A.units+3+16*k+200<_;omega⟩
theorem Room.depth{k:Nat}{A:Qo}(r:Room k A):A.depth<recursionLimit:=by have:=r.dp;omega
theorem Room.units{k:Nat}{A:Qo}(r:Room k A):A.units+64<cLine:=by have:=r.un;omega
noncomputable def Yc6:TA:=λ_ H Q=>Q [] H
noncomputable def Z1z(ta:TE)(tr:TA):TA:=λσ H Q=>ta σ H λx H1=>tr σ H1 λxs H2=>Q (x :: xs) H2
section
variable {X:Cx}{e:Expr}{es:List Expr}{te:TE}{t:TA}{pos:Pos}
theorem Zfi:PA X [] Yc6:=λ_ _ _ _ H Q I h=>Calls.spliced_nil ⟨[],H,I,.nil,h⟩
theorem Zag(ha:PE X e te)(hr:PA X es t)(hs:Xm (e :: es) X.env=(false,eval e X.env) :: Xm es X.env:=by rfl):PA X (e :: es) (Z1z te t):=by
 intro pos pins s σ H Q I h
 rw[hs]
 show X5 _ _ (spliced ((false,eval e X.env) :: JL pos (Xm es X.env))) _ _ s
 refine Calls.spliced_cons (thn (ha pins s σ H _ I h) λu s1 qz9=>?_)
 obtain⟨x,H1,I1,r1,q1⟩:=qz9
 refine thn (hr pos pins s1 σ H1 _ I1 q1) λus s2 qz9=>?_
 obtain⟨xs,H2,I2,r2,q2⟩:=qz9
 exact⟨x :: xs,H2,I2,.cons r1 r2,q2⟩
noncomputable def Yda(t:TA):TE:=λσ H Q=>t σ H λxs H1=>xs.length≤Xq∧∀p,H1 p=none->Q (.ref p) (upd H1 p (.tup xs))
noncomputable def Yck(t:TA):TE:=λσ H Q=>t σ H λxs H1=>xs.length≤Xq∧∀p,H1 p=none->Q (.ref p) (upd H1 p (.lst xs))
theorem Zo8{x1}(h:PA X es t):PE X (.Tuple es x1 pos) (Yda t):=by
 intro pins s σ H Q I hq
 refine wpAny_Tuple_spliced (thn (h pos pins s σ H _ I hq) λus s1 ⟨xs,H1,I1,r,z,q⟩=>⟨by rw[←r.length];exact z,?_⟩)
 have hf:H1 s1.heap.objs.size=none:=I1.hok.fresh (X4 _)
 refine⟨.ref s1.heap.objs.size,upd H1 s1.heap.objs.size (.tup xs),I1.laid (t':=s1.toks) (λb u e=>Xl _ e) (X4 _) ?_,rfl,q _ hf⟩
 exact⟨z,us,r,⟨_,Qi _ rfl,rfl,_,rfl⟩⟩
theorem Z6i(h:PA X es t):PE X (.List es pos) (Yck t):=by
 intro pins s σ H Q I hq
 refine wpAny_List_spliced (thn (h pos pins s σ H _ I hq) λus s1 ⟨xs,H1,I1,r,z,q⟩=>⟨by rw[←r.length];exact z,?_⟩)
 have hf:H1 s1.heap.objs.size=none:=I1.hok.fresh (X4 _)
 refine⟨.ref s1.heap.objs.size,upd H1 s1.heap.objs.size (.lst xs),I1.laid (t':=s1.toks) (λb u e=>Xl _ e) (X4 _) ?_,rfl,q _ hf⟩
 exact⟨z,us,0,r,Qi _ rfl⟩
end
noncomputable abbrev Sp:=List V->Hp->VK->XK->Prop
noncomputable abbrev CXT:=List Env->Hp->Xe->XK->Xc->Xe->Prop
structure Z68(P:X6)(w:Qv)(K:Xb)(mg:Str->Option Xc)(base:Heap)(A:Qo)(outer:List Env)(s:Xe)(H:Hp):Prop where
 frames:A.frames=some outer
 mod:Mod K mg base
 bs:∀b o,base.get? b=some o->s.heap.get? b=some o∧H b=none
 bsz:base.objs.size≤s.heap.objs.size
 funs:s.heap.FunFrames base outer
 frf:∀b∈frs outer,H b=none
 hok:HOk P w H s.heap
 bare:AllBare s.gens
noncomputable def CE(outer:List Env)(P:X6)(w:Qv)(H:Hp)(s:Xe)(Q:VK)(u:Xc)(s':Xe):Prop :=
 ∃v H',s'.os=s.os∧AllBare s'.gens∧Un (frs outer) [] H H' s.heap s'.heap∧HOk P w H' s'.heap∧RelV v u∧Q v H'
noncomputable def CR(CX:CXT)(outer:List Env)(P:X6)(w:Qv)(H:Hp)(s:Xe)(Q:VK)(E:XK)(r:Result)(s':Xe):Prop :=
 match r with
 | .ok (.ret u)=>CE outer P w H s Q u s'
 | .ok _=>False
 | .error e=>CX outer H s E e s'
structure FnOk(P:X6)(w:Qv)(K:Xb)(mg:Str->Option Xc)(base:Heap)(CX:CXT)(k:Nat)(f:Addr)(fd:XN)(ps:List Str)(sp:Sp):Prop where
 len:∀vs H Q E,sp vs H Q E->vs.length=ps.length
 run:∀(A:Qo) (outer:List Env) (s:Xe) (H:Hp) (args:Args) (us:List Xc) (vs:List V) (Q:VK) (E:XK),Room k A->Z68 P w K mg base A outer s H->BindsTo s fd args (ps.zip us)->Vals vs us->sp vs H Q E ->
  codeAny (Qd P w) A (.call (.ref f) args) (CR CX outer P w H s Q E) s
theorem FnOk.imp{P:X6}{w:Qv}{K:Xb}{mg:Str->Option Xc}{base:Heap}{CX:CXT}{k:Nat}{f:Addr}{fd:XN}{ps:List Str}{sp sp':Sp}(F:FnOk P w K mg base CX k f fd ps sp)
  (h:∀vs H Q E,sp' vs H Q E->sp vs H Q E):FnOk P w K mg base CX k f fd ps sp' :=
 ⟨λvs H Q E q=>F.len vs H Q E (h _ _ _ _ q),λA outer s H args us vs Q E hr he hb hv hs=>F.run A outer s H args us vs Q E hr he hb hv (h _ _ _ _ hs)⟩
section
variable {X:Cx}{pins:List (Addr×Obj)}{σ:St}{H:Hp}{s s':Xe}
theorem Inv.env0(I:Inv X pins σ H s):Z68 X.prog X.w X.K X.mg X.base X.A X.stack s H :=
 ⟨I.ok.frames,I.ok.mod,I.bs,Qy I.ok.bsz I.sz,I.stack,I.stkFree,I.hok,I.bare⟩
theorem Inv.after{Q:VK}{u:Xc}(I:Inv X pins σ H s)(h:CE X.stack X.prog X.w H s Q u s'):EP X pins σ Q u s':=by
 obtain⟨v,H',os,bare,un,hok,r,q⟩:=h
 obtain⟨hh,g,d,t,os'⟩:=s'
 obtain rfl:os'=s.os:=os
 exact⟨v,H',I.call (h':=hh) (g':=g) (d':=d) (t':=t) (ch:=[]) un hok bare (λb z=>absurd z (by simp)),r,q⟩
end
noncomputable def Zsh(sp:Sp)(dvs:List V)(E:XK)(t:TA):TE:=λσ H Q=>t σ H λvs H1=>sp (vs ++ dvs) H1 Q E
noncomputable def Binds(K:Xb)(fd:XN)(ps:List Str)(ds:List Xc):Prop :=
 ∀(s:Xe) (us:List Xc),K.In s.heap->(us ++ ds).length=ps.length->BindsTo s fd ⟨us,[]⟩ (ps.zip (us ++ ds))
theorem Binds.all{K:Xb}{fd:XN}{ps:List Str}(h:∀us:List Xc,us.length=ps.length->bindArgs fd ⟨us,[]⟩=pure (ps.zip us)):Binds K fd ps []:=λs us _ hl=>by
 rw[QJ]at hl⊢
 exact .of_eq (h us hl)
noncomputable def Zgi(CX:CXT)(X:Cx)(E:XK):Prop:=∀(pins:List (Addr×Obj)) (σ:St) (H:Hp) (s:Xe) (e:Xc) (s':Xe),Inv X pins σ H s->CX X.stack H s E e s'->X.xe e s'
section
variable {X:Cx}{CX:CXT}{k:Nat}{f C:Addr}{fd:XN}{ps:List Str}{sp:Sp}{dvs:List V}{ds:List Xc}{E:XK}{x m:Str}{p pos apos:Pos}{e o:Expr}{es:List Expr}{ta:TE}{t:TA}
theorem Zwl{pins:List (Addr×Obj)}{σ:St}{H:Hp}{s:Xe}{Q:VK}{us:List Xc}{vs:List V}(F:FnOk X.prog X.w X.K X.mg X.base CX k f fd ps sp)(hr:Room k X.A)(hb:Binds X.K fd ps ds)(hd:Vals dvs ds)(hx:Zgi CX X E)
  (I:Inv X pins σ H s) (r:Vals vs us) (h:sp (vs ++ dvs) H Q E):X5 (Qd X.prog X.w) X.A (call (.ref f) us) (EP X pins σ Q) X.xe s:=by
 have r2:Vals (vs ++ dvs) (us ++ ds):=r.append hd
 have hl:(us ++ ds).length=ps.length:=by rw[←r2.length];exact F.len _ _ _ _ h
 refine wpAny_call (codeAny_mono (F.run X.A X.stack s H ⟨us,[]⟩ (us ++ ds) (vs ++ dvs) Q E hr I.env0 (hb s us I.kIn hl) r2 h) λr s' hq=>?_)
 cases r with
 | error e=>exact hx pins σ H s e s' I hq
 | ok fl=>
  cases fl with
  | ret u=>exact I.after hq
  | next=>exact Vm hq
  | brk=>exact Vm hq
  | cont=>exact Vm hq
theorem Zqh(F:FnOk X.prog X.w X.K X.mg X.base CX k f fd ps sp)(hr:Room k X.A)(hg:Gl X x)(hm:X.mg x=some (.ref f))(hk:Bj X.K (.ref f)=true)(hb:Binds X.K fd ps ds)(hd:Vals dvs ds)(hx:Zgi CX X E)
  (ha:PA X (e :: es) t) (hdb:(x==("__debug__" : Str))=false:=by decide) (he:Xm (e :: es) X.env=(false,eval e X.env) :: Xm es X.env:=by rfl) (hpl:(JL pos (Xm es X.env)).any (·.1)=false:=by rfl) :
  PE X (.Call (.Name x p) (e :: es) [] pos) (Zsh sp dvs E t):=by
 intro pins s σ H Q I h
 refine Vi (Zqa I hg hm ?_ hdb)
 refine PySem.W.callWith_K (h₀:=X.base) I.ok.mod.kin hk (thn (ha pos pins s σ H _ I h) λus s1 qz9=>?_) he hpl
 obtain⟨vs,H1,I1,r,q⟩:=qz9
 refine⟨I1.kIn,?_⟩
 exact Zwl F hr hb hd hx I1 r q
structure Mk(K:Xb)(C f:Addr):Prop where
 makes:PySem.W.makesIn K C=true
 init:BX K (.ref C) "__init__"=some (some (.ref f))
 fn:PySem.W.isFn K (.ref f)=true
 kp:Bj K (.ref C)=true
end
section
variable {X:Cx}{CX:CXT}{k:Nat}{f C:Addr}{fd:XN}{ps ks:List Str}{sp:Sp}{E:XK}{x m:Str}{p pos apos kpos:Pos}{e o:Expr}{es:List Expr}{kws:List Ub}{te ta:TE}{t tk:TA}{nm:Option Str}
structure Yak(K:Xb)(fd:XN)(ps ks:List Str)(g:List Xc->List Xc->List Xc)(gV:List V->List V->List V):Prop where
 to:∀(s:Xe) (us ws:List Xc),K.In s.heap->(g us ws).length=ps.length->BindsTo s fd ⟨us,ks.zip ws⟩ (ps.zip (g us ws))
 rel:∀{vs:List V} {us:List Xc} {zs:List V} {ws:List Xc},Vals vs us->Vals zs ws->Vals (gV vs zs) (g us ws)
variable {g:List Xc->List Xc->List Xc}{gV:List V->List V->List V}
end
structure Zv(N P:List Str)(sc:Ua):Prop where
 kind:sc.kind= .function
 co:sc.isCoroutine=false
 gen:sc.isGenerator=false
 nd:N.Nodup
 pre:N.take P.length=P
 par:∀x∈P,sc.names.lookup x=some .local∨sc.names.lookup x=some .cell
 nofree:∀y∈sc.names,y.2≠ .free
theorem Zkq{kindOf:Str->Option Br}{x:Str}:∀{binds:List (Str×Xc)} {m:Str->Option Xc},(∀v,(x,v)∉binds)->bindL kindOf binds m x=m x
 | [],_,_=>rfl
 | (n,v) :: r,m,h=>by
  unfold bindL
  rw[Zkq λw hw=>h w (Uc _ hw)]
  split
  ·have:x≠n:=by rintro rfl;exact h v Uo
   simp[this]
  ·rfl
theorem Zjl{kindOf:Str->Option Br}{x:Str}:∀{binds:List (Str×Xc)} {m:Str->Option Xc},(∀v,(x,v)∉binds)->bindC kindOf binds m x=m x
 | [],_,_=>rfl
 | (n,v) :: r,m,h=>by
  unfold bindC
  rw[Zjl λw hw=>h w (Uc _ hw)]
  split
  ·rfl
  ·have:x≠n:=by rintro rfl;exact h v Uo
   simp[this]
theorem Zkn{kindOf:Str->Option Br}{x:Str}{v:Xc}:∀{P:List Str} {vs:List Xc} {i:Nat} {m:Str->Option Xc},P.Nodup->P[i]? =some x->vs[i]? =some v->kindOf x=some .local ->
  bindL kindOf (P.zip vs) m x=some v
 | [],_,_,_,_,h,_,_=>by simp at h
 | _ :: _,[],_,_,_,_,h,_=>by simp at h
 | p :: P,w :: vs,0,m,nd,h1,h2,hk=>by
  simp at h1 h2;subst h1;subst h2
  show bindL kindOf ((p,w) :: P.zip vs) m p=_
  unfold bindL
  rw[Zkq λv hv=>(XX.mp nd).1 (List.of_mem_zip hv).1,if_pos hk]
  simp
 | p :: P,w :: vs,i+1,m,nd,h1,h2,hk=>by
  show bindL kindOf ((p,w) :: P.zip vs) m x=_
  unfold bindL
  exact Zkn (i:=i) (XX.mp nd).2 (by simpa using h1) (by simpa using h2) hk
theorem Zka{kindOf:Str->Option Br}{x:Str}{v:Xc}:∀{P:List Str} {vs:List Xc} {i:Nat} {m:Str->Option Xc},P.Nodup->P[i]? =some x->vs[i]? =some v->kindOf x≠some .local ->
  bindC kindOf (P.zip vs) m x=some v
 | [],_,_,_,_,h,_,_=>by simp at h
 | _ :: _,[],_,_,_,_,h,_=>by simp at h
 | p :: P,w :: vs,0,m,nd,h1,h2,hk=>by
  simp at h1 h2;subst h1;subst h2
  show bindC kindOf ((p,w) :: P.zip vs) m p=_
  unfold bindC
  rw[Zjl λv hv=>(XX.mp nd).1 (List.of_mem_zip hv).1,if_neg hk]
  simp
 | p :: P,w :: vs,i+1,m,nd,h1,h2,hk=>by
  show bindC kindOf ((p,w) :: P.zip vs) m x=_
  unfold bindC
  exact Zka (i:=i) (XX.mp nd).2 (by simpa using h1) (by simpa using h2) hk
noncomputable def start(N:List Str)(vs:List V):St:=vs.map some ++ Bl (N.length-vs.length) none
noncomputable def Zsg(CX:CXT)(P:X6)(w:Qv)(K:Xb)(mg:Str->Option Xc)(base:Heap)(N:List Str)(qual:Str)(scope:Ua)(f:Addr)(cd:Xc)(A:Qo)(outer:List Env)(s:Xe)(H:Hp)(E:XK):Cx where
 prog:=P
 w:=w
 K:=K
 mg:=mg
 base:=base
 A:=A.deeper (U7 qual scope s.heap.objs.size f cd)
 N:=N
 s₀:=s
 H₀:=H
 env:=U7 qual scope s.heap.objs.size f cd
 outer:=outer
 stack:=U7 qual scope s.heap.objs.size f cd :: outer
 ex:=[]
 calm:=true
 fn:=λ_=>true
 pn:=[]
 xe:=λe s'=>X5 (Qd P w) (A.deeper (U7 qual scope s.heap.objs.size f cd)) (leaving (U7 qual scope s.heap.objs.size f cd) e) (λ_ s''=>CX outer H s E e s'') (λe' s''=>CX outer H s E e' s'') s'
theorem Zmj{sc:Ua}{n:Nat}{x:Str}(h:sc.names.lookup x=some .cell):∃c,(Bc n sc.names []).lookup x=some c:=by
 have q:=PySem.W.cellsFrom_some sc.names n [] (.inl h)
 exact UG.mp q
theorem Zri{CX:CXT}{P:X6}{w:Qv}{K:Xb}{mg:Str->Option Xc}{base:Heap}{N ps:List Str}{qual:Str}{scope:Ua}{f:Addr}{cd:Xc}{A:Qo}{outer:List Env}{s s1:Xe}{H:Hp}{E:XK}{us:List Xc}{vs:List V}
  (S:Zv N ps scope) (hd:A.handled=none) (e0:Z68 P w K mg base A outer s H) (hl:vs.length=ps.length) (r:Vals vs us)
  (x:InCallC s s.heap.objs.size (bindL (U7 qual scope s.heap.objs.size f cd).kindOf (ps.zip us) λ_=>none) (Bc (s.heap.objs.size+1) scope.names []) (bindC (U7 qual scope s.heap.objs.size f cd).kindOf (ps.zip us) λ_=>none) s1) :
  Inv (Zsg CX P w K mg base N qual scope f cd A outer s H E) [] (start N vs) H s1:=by
 have hpl:ps.length≤N.length:=by have:=congrArg List.length S.pre;rw[Vb]at this;omega
 obtain⟨h1,tk,rfl,hk⟩:=x.done
 have noA:∀b:Addr,b∉(Zsg CX P w K mg base N qual scope f cd A outer s H E).ex:=λb z=>absurd (show b∈([]:List Addr)from z) (by simp)
 refine⟨⟨e0.mod,S.kind,rfl,rfl,X4 _,λy z c h1 h2=>?_,λy hy=>?_,λy c _ h=>?_,λ_=>hd,Qo.frames_deeper e0.frames,.inr ⟨rfl,rfl⟩,λb z=>absurd z (noA b),e0.bs,e0.bsz,λb _ _=>noA b,λb z=>absurd z (noA b),e0.funs,e0.frf⟩,
  rfl,e0.bare,Un.kept hk,⟨_,x.toInCall.ns,λi y v h1 h2 h3=>?_⟩,λy c h=>⟨_,x.cell y c h⟩,e0.hok.fresh (X4 _),λy c h=>?_,λp hp=>absurd (show p∈([]:List (Addr×Obj))from hp) (by simp),e0.hok.kept hk,?_⟩
 ·exact name_of_addr x.apart (JT h1) (JT h2)
 ·have hy:scope.names.lookup y=some .cell∨scope.names.lookup y=some .free:=hy
  rcases hy with hy|hy
  ·exact Zmj hy
  ·exact absurd rfl (S.nofree _ (JT hy))
 ·exact V1 (x.above y c (JT h))
 ·have hi:i<vs.length:=by
   unfold start at h2
   by_cases hi:i<vs.length
   ·exact hi
   ·rw[JW (by simpa using hi)]at h2
    rw[List.getElem?_replicate]at h2
    split at h2<;>cases h2
  have ha:vs[i]? =some v:=by
   unfold start at h2
   rw[Vt (by simpa using hi),Xn]at h2
   cases e:vs[i]? with
   | none=>rw[e]at h2;cases h2
   | some a=>rw[e]at h2;cases h2;rfl
  obtain⟨u,hu,rv⟩:=r.get ha
  have hp:ps[i]? =some y:=by
   rw[←S.pre,List.getElem?_take_of_lt (by omega)];exact h1
  have ndP:ps.Nodup:=by rw[←S.pre];exact S.nd.sublist (List.take_sublist _ _)
  refine⟨u,rv,?_⟩
  rcases S.par y (Qz hp)with k|k
  ·exact .inl ⟨k,Zkn ndP hp hu k⟩
  ·obtain⟨c,e⟩:=Zmj (n:=s.heap.objs.size+1) k
   refine .inr ⟨.inl k,c,e,?_⟩
   have q:=x.cell y c e
   rw[Zka ndP hp hu (by show scope.names.lookup y≠_;rw[k];decide)]at q
   exact q
 ·exact e0.hok.fresh (V1 (x.above y c (JT h)))
 ·unfold start
  show _=N.length
  rw[Q8,Xg,V4]
  omega
theorem Z9f{CX:CXT}{P:X6}{w:Qv}{K:Xb}{mg:Str->Option Xc}{base:Heap}{k:Nat}{f:Addr}{name qual:Str}{params:Arguments}{body:List Stmt}{scope:Ua}{dV kV doc pm cdv ct oc:Xc}{an od:Option Addr}
  {osl:Array (Option Xc)} {N ps:List Str} {sp:Sp} (lk:K.lookup f=some ⟨oc,od,.func (Vl name qual params body scope dV kV doc pm an cdv ct),osl⟩) (hcd:PySem.W.codeIn K cdv qual=true) (S:Zv N ps scope)
  (len:∀vs H Q E,sp vs H Q E->vs.length=ps.length)
  (hbody:∀(A:Qo) (outer:List Env) (s:Xe) (H:Hp) (vs:List V) (Q:VK) (E:XK),Room k (A.deeper (U7 qual scope s.heap.objs.size f cdv))->sp vs H Q E ->
   ∃t,PSs (Zsg CX P w K mg base N qual scope f cdv A outer s H E) body t∧t { nx:=λ_ H'=>Q .non H',rt:=Q } (start N vs) H) :
  FnOk P w K mg base CX (k+1) f (Vl name qual params body scope dV kV doc pm an cdv ct) ps sp:=by
 refine⟨len,λA outer s H args us vs Q E hr e0 hb r hsp=>?_⟩
 have hl:=len _ _ _ _ hsp
 have KX:K.In s.heap:=e0.mod.kin.keeps λb o e=>(e0.bs b o e).1
 have lim:s.heap.NoLimit:=e0.mod.nolimit.keeps λb o e=>(e0.bs b o e).1
 have hkind:∀y∈ps.zip us,scope.names.lookup y.1=some .local∨(scope.names.lookup y.1=some .cell∧((Bc (s.heap.objs.size+1) scope.names []).lookup y.1).isSome=true):=λ⟨n,v⟩ hy=>by
  rcases S.par n (List.of_mem_zip hy).1 with q|q
  ·exact .inl q
  ·exact .inr ⟨q,PySem.W.cellsFrom_some _ _ _ (.inl q)⟩
 refine codeAny_call_function hr.depth (KX _ _ lk) rfl S.co S.gen rfl (PySem.W.codeRec_of KX hcd) (hb _ _ _ _ ?_)
 refine wpAny_newFunctionEnv_cells S.kind hkind λenv he s1 x=>?_
 subst he
 refine⟨lim.keeps x.toInCall.keep,codeAny_func ?_⟩
 obtain⟨t,ht,hq⟩:=hbody A outer s H vs Q E (hr.deeper _) hsp
 have I:Inv (Zsg CX P w K mg base N qual scope f cdv A outer s H E) [] (start N vs) H s1:=Zri S hr.hd e0 hl r x
 refine Bs (ht [] s1 (start N vs) H _ I hq) (λfl s' hs=>?_) λe s' hs=>hs
 have fin:∀{σ':St} {H':Hp} {v:V} {u:Xc},Inv (Zsg CX P w K mg base N qual scope f cdv A outer s H E) [] σ' H' s'->RelV v u->Q v H'->CE outer P w H s Q u s' :=
  fun{σ' H' v u} J rv q=>⟨v,H',J.os,J.bare,J.base,J.hok,rv,q⟩
 cases fl with
 | ret u=>
  obtain⟨v,σ',H',J,rv,q⟩:=hs
  exact fin J rv q
 | next=>
  obtain⟨σ',H',J,q⟩:=hs
  exact fin (v:=V.non) (u:=QF) J rfl q
 | brk=>
  obtain⟨_,_,_,q⟩:=hs
  exact Vm q
 | cont=>
  obtain⟨_,_,_,q⟩:=hs
  exact Vm q
section
variable {X:Cx}{x:Str}{p pos:Pos}{e:Expr}{es:List Expr}{t:TA}{id T:String}{r:List V->Hp->VK->Prop}
noncomputable def tCB(r:List V->Hp->VK->Prop)(t:TA):TE:=λσ H Q=>t σ H λvs H1=>r vs H1 Q
theorem Ze7(hc:Zbo X (.builtin id) r)(hg:Gl X x)(hm:X.mg x=none)(hv:Qk x=some (.builtin id))(ha:PA X (e :: es) t)(hn:x≠"__name__" :=by decide)(hdb:(x==("__debug__" : Str))=false:=by decide)
  (he:Xm (e :: es) X.env=(false,eval e X.env) :: Xm es X.env:=by rfl) (hpl:(JL pos (Xm es X.env)).any (·.1)=false:=by rfl):PE X (.Call (.Name x p) (e :: es) [] pos) (tCB r t):=by
 intro pins s σ H Q I h
 refine Vi (Zgb I hg hm hv ?_ hn hdb)
 refine PyProof.Rows.callWith_builtin1 (thn (ha pos pins s σ H _ I h) λus s1 qz9=>?_) he hpl
 obtain⟨vs,H1,I1,r1,q1⟩:=qz9
 exact hc pins s1 σ H1 vs us Q I1 r1 q1
theorem Zkb(hc:Zbo X (.type T) r)(hg:Gl X x)(hm:X.mg x=none)(hv:Qk x=some (.type T))(ha:PA X (e :: es) t)(hn:x≠"__name__" :=by decide)(hdb:(x==("__debug__" : Str))=false:=by decide)
  (he:Xm (e :: es) X.env=(false,eval e X.env) :: Xm es X.env:=by rfl) (hpl:(JL pos (Xm es X.env)).any (·.1)=false:=by rfl):PE X (.Call (.Name x p) (e :: es) [] pos) (tCB r t):=by
 intro pins s σ H Q I h
 refine Vi (Zgb I hg hm hv ?_ hn hdb)
 refine Bk (thn (ha pos pins s σ H _ I h) λus s1 qz9=>?_) he hpl
 obtain⟨vs,H1,I1,r1,q1⟩:=qz9
 exact hc pins s1 σ H1 vs us Q I1 r1 q1
end
end L2
namespace HT
open PySem PyProof.Rows
section
open PySem.SeqAt
open PySem.AutoSeq1 (wpAny_loadPart')
open PySem.MeetsSeq PySem.MeetsSeq2 PySem.MeetsSeq3
end
section
variable {prog:X6}{w:Qv}{A:Qo}{E:Xc->Xe->Prop}{s:Xe}
noncomputable def sIx(n d:Nat):Option Int->Nat
 | none=>d
 | some v=>if v<0 then(v+(n:Int)).toNat else min v.toNat n
theorem sIx_none(n d:Nat):sIx n d none=d:=rfl
theorem sIx_nat(n d k:Nat):sIx n d (some (k:Int))=min k n:=by
 show(if(k:Int)<0 then((k:Int)+(n:Int)).toNat else min (k:Int).toNat n)=min k n
 rw[if_neg (by omega),Ba]
end
end HT
namespace L2
open PySem PySem.Spec PyProof.Rows
noncomputable abbrev TO:=St->Hp->(Option Int->Hp->Prop)->Prop
noncomputable def PO(X:Cx)(e:Option Expr)(t:TO):Prop :=
 ∀(pins:List (Addr×Obj)) (s:Xe) (σ:St) (H:Hp) (Q:Option Int->Hp->Prop),Inv X pins σ H s->t σ H Q ->
  X5 (Qd X.prog X.w) X.A (evalPart e X.env) (λu s'=>∃o H',Inv X pins σ H' s'∧IsPart u o∧Q o H') X.xe s
noncomputable def Z01:TO:=λ_ H Q=>Q none H
noncomputable def Z7o(t:TE):TO:=λσ H Q=>t σ H λx H1=>∃i,x= .int i∧Q (some i) H1
section
variable {X:Cx}{e:Expr}{te:TE}{lo hi:Option Expr}{tl th:TO}{pos p2:Pos}
theorem Zyw:PO X none Z01:=by
 intro pins s σ H Q I h
 rw[evalPart_none]
 exact Qc ⟨none,H,I,.none,h⟩
theorem Zxd(h:PE X e te):PO X (some e) (Z7o te):=by
 intro pins s σ H Q I hw
 rw[evalPart_some]
 refine thn (h pins s σ H _ I hw) λu s1 qz9=>?_
 obtain⟨x,H1,I1,r1,q1⟩:=qz9
 obtain⟨i,rfl,q⟩:=q1
 obtain⟨t,rfl⟩:=r1
 exact⟨some i,H1,I1,.int i t,q⟩
noncomputable def SlR(X:Cx)(r:V->Option Int->Option Int->Hp->VK->Prop):Prop :=
 ∀(pins:List (Addr×Obj)) (s:Xe) (σ:St) (H:Hp) (x:V) (v vl vu:Xc) (lo hi:Option Int) (sl:Addr) (Q:VK),Inv X pins σ H s->RelV x v->s.heap.IsSliceOf sl vl vu .none->IsPart vl lo->IsPart vu hi->r x lo hi H Q ->
  ∃T id,typeLookup (.type T) "__getitem__"=pure (some (.builtin id))∧s.TypeIs v T∧X5 (Qd X.prog X.w) X.A (getItem v (.ref sl)) (EP X pins σ Q) X.xe s
noncomputable def tSl(r:V->Option Int->Option Int->Hp->VK->Prop)(te:TE)(tl th:TO):TE:=λσ H Q=>te σ H λx H1=>tl σ H1 λl H2=>th σ H2 λu H3=>r x l u H3 Q
theorem Ztm{r:V->Option Int->Option Int->Hp->VK->Prop}(hr:SlR X r)(he:PE X e te)(hl:PO X lo tl)(hu:PO X hi th):PE X (.Subscript e (.Slice lo hi none p2) pos) (tSl r te tl th):=by
 intro pins s σ H Q I h
 refine Subscript_ (thn (he pins s σ H _ I h) λv s1 qz9=>?_)
 obtain⟨x,H1,I1,r1,q1⟩:=qz9
 refine wpAny_Slice (thn (hl pins s1 σ H1 _ I1 q1) λvl s2 qz9=>?_)
 obtain⟨l,H2,I2,pl,q2⟩:=qz9
 refine thn (hu pins s2 σ H2 _ I2 q2) λvu s3 qz9=>?_
 obtain⟨u,H3,I3,pu,q3⟩:=qz9
 rw[evalPart_none]
 refine Qc ?_
 have I4:Inv X pins σ H3 { s3 with heap:=s3.heap.push { cls:=.type "slice",data:=.fields #[vl,vu,.none] } }:=I3.kept (t':=s3.toks) λb ob q=>Xl _ q
 obtain⟨T,id,hT,ht,hg⟩:=hr pins { s3 with heap:=s3.heap.push { cls:=.type "slice",data:=.fields #[vl,vu,.none] } } σ H3 x v vl vu l u s3.heap.objs.size Q I4 r1 (Heap.IsSliceOf.new ..) pl pu q3
 show X5 (Qd X.prog X.w) X.A (subscriptTail e (.Slice lo hi none p2) v (.ref s3.heap.objs.size)) (EP X pins σ Q) X.xe { s3 with heap:=s3.heap.push { cls:=.type "slice",data:=.fields #[vl,vu,.none] } }
 exact tail_any (ops:=[.ref s3.heap.objs.size,v]) ht hT hg (by with_unfolding_all rfl)
noncomputable def Z1q(xs:List V)(lo hi:Option Int):List V:=(xs.drop (HT.sIx xs.length 0 lo)).take (HT.sIx xs.length xs.length hi-HT.sIx xs.length 0 lo)
theorem Zlw(xs:List V)(lo hi:Option Int):(Z1q xs lo hi).length≤xs.length:=by
 unfold Z1q
 rw[Vb,JC]
 omega
end
noncomputable def ixN(n:Nat)(i:Int):Option Nat:=if 0≤i then(if i<n then some i.toNat else none)else if -(n:Int)≤i then some (i+n).toNat else none
noncomputable def atI{α:Type}(xs:List α)(i:Int):Option α:=(ixN xs.length i).bind λj=>xs[j]?
theorem Zpf{n:Nat}{i:Int}{j:Nat}(h:ixN n i=some j):seqIndex? i n=some j∧j<n∧-(n:Int)≤i∧i<n:=by
 unfold ixN at h
 by_cases h0:0≤i
 ·rw[if_pos h0]at h
  by_cases h1:i<n
  ·rw[if_pos h1]at h
   have e:i.toNat=j:=Qt h
   exact⟨by rw[seqIndex_of h0 h1,e],by omega,by omega,h1⟩
  ·rw[if_neg h1]at h;cases h
 ·rw[if_neg h0]at h
  by_cases h1:-(n:Int)≤i
  ·rw[if_pos h1]at h
   have e:(i+n).toNat=j:=Qt h
   exact⟨by rw[seqIndex_neg (by omega) h1,e],by omega,h1,by omega⟩
  ·rw[if_neg h1]at h;cases h
theorem Zk1{α:Type}{xs:List α}{i:Int}{v:α}(h:atI xs i=some v):∃j,seqIndex? i xs.length=some j∧xs[j]? =some v∧j<xs.length∧-(xs.length:Int)≤i∧i<xs.length:=by
 unfold atI at h
 cases e:ixN xs.length i with
 | none=>rw[e]at h;cases h
 | some j=>
  rw[e]at h
  obtain⟨h1,h2,h3,h4⟩:=Zpf e
  exact⟨j,h1,h,h2,h3,h4⟩
noncomputable def Zic(b:Expr):Prop:=∀o i,subscripted b false o i=operate [o,i] (getItem o i)
noncomputable def IxR(X:Cx)(r:R2):Prop :=
 ∀(value slice:Expr) (pins:List (Addr×Obj)) (s:Xe) (σ:St) (H:Hp) (x y:V) (v u:Xc) (Q:VK),Inv X pins σ H s->RelV x v->RelV y u->r x y H Q ->
  subscripted slice false v u=operate [v,u] (getItem v u)->X5 (Qd X.prog X.w) X.A (subscriptTail value slice v u) (EP X pins σ Q) X.xe s
noncomputable def MtR(X:Cx)(id:String)(r:V->List V->Hp->VK->Prop):Prop :=
 ∀(pins:List (Addr×Obj)) (s:Xe) (σ:St) (H:Hp) (x:V) (xs:List V) (v:Xc) (us:List Xc) (Q:VK),Inv X pins σ H s->RelV x v->Vals xs us->r x xs H Q ->
  X5 (Qd X.prog X.w) X.A (call (.builtin id) (v :: us)) (EP X pins σ Q) X.xe s
section
variable {X:Cx}{a b:Expr}{ta tb:TE}{pos:Pos}
theorem IxR.or{r r':R2}(h:IxR X r)(h':IxR X r'):IxR X (λx y H Q=>r x y H Q∨r' x y H Q):=by
 intro value slice pins s σ H x y v u Q I rx ry q hs
 rcases q with q|q
 ·exact h value slice pins s σ H x y v u Q I rx ry q hs
 ·exact h' value slice pins s σ H x y v u Q I rx ry q hs
theorem Zxn{r:R2}(hr:IxR X r)(ha:PE X a ta)(hb:PE X b tb)(hs:Zic b):PE X (.Subscript a b pos) (tOp r ta tb):=by
 intro pins s σ H Q I h
 exact Subscript_ (Z8k ha hb I h λv u s2 x y H2 I2 rx ry q=>hr a b pins s2 σ H2 x y v u Q I2 rx ry q (hs _ _))
noncomputable def Z9x(K:Xb):R2:=λx y H Q=>∃p xs i v,x= .ref p∧y= .int i∧SqL K H p xs∧atI xs i=some v∧Q v H
noncomputable def Ybr(K:Xb):R2:=λx y H Q=>∃p xs i v,x= .ref p∧y= .int i∧SqT K H p xs∧atI xs i=some v∧Q v H
noncomputable def Ybe:R2:=λx y H Q=>∃z i c,x= .str z∧y= .int i∧z.length≤Xq∧atI z.cps.toList i=some c∧Q (.str ⟨#[c]⟩) H
theorem Zr8:IxR X (Z9x X.K):=by
 intro value slice pins s σ H x y v u Q I rx ry h hs
 obtain⟨p,xs,i,z,rfl,rfl,hq,he,q⟩:=h
 cases rx
 obtain⟨t,rfl⟩:=ry
 obtain⟨its,r,pl,hz⟩:=I.list hq
 obtain⟨j,h1,h2,h3,h4,h5⟩:=Zk1 he
 obtain⟨w,ew,rw'⟩:=r.get h2
 have hl:=r.length
 have hn:=Zhg
 have fin:EP X pins σ Q w s:=⟨z,H,I,rw',q⟩
 by_cases h0:0≤i
 ·have hj:i.toNat=j:=by
   rw[seqIndex_of h0 h5]at h1
   exact Qt h1
  exact item_listR pl.isList h0 (by omega) (by rw[hj];simpa using ew) fin hs
 ·have hj:(i+(its.toArray.size:Int)).toNat=j:=by
   rw[seqIndex_neg (by omega) h4]at h1
   rw[Xx,←hl]
   exact Qt h1
  exact subscriptTail_builtinR (x:=w) pl.isList.typeIs slot_list_getitem.lookup
   (wpAny_getItem_list_neg (Q:=λr s'=>r=w∧EP X pins σ Q r s') pl.isList (by omega) (by rw[Xx]<;>omega) (by omega) (by rw[hj];simpa using ew) ⟨rfl,fin⟩) hs
theorem Z3e:IxR X (Ybr X.K):=by
 intro value slice pins s σ H x y v u Q I rx ry h hs
 obtain⟨p,xs,i,z,rfl,rfl,hq,he,q⟩:=h
 cases rx
 obtain⟨t,rfl⟩:=ry
 obtain⟨its,r,pl,hz⟩:=I.tuple hq
 obtain⟨j,h1,h2,h3,h4,h5⟩:=Zk1 he
 obtain⟨w,ew,rw'⟩:=r.get h2
 have hl:=r.length
 have hn:=Zhg
 have fin:EP X pins σ Q w s:=⟨z,H,I,rw',q⟩
 exact subscriptTail_builtinR (x:=w) pl.typeIs slot_tuple_getitem.lookup
  (getItem_tuple (j:=j) (Q:=λr s'=>r=w∧EP X pins σ Q r s') pl (by omega) (by omega) (by rw[Xx,←hl];exact h1) (by simpa using ew) ⟨rfl,fin⟩) hs
theorem Z2j:IxR X Ybe:=by
 intro value slice pins s σ H x y v u Q I rx ry h hs
 obtain⟨z,i,c,rfl,rfl,hz,he,q⟩:=h
 obtain⟨t,rfl⟩:=rx
 obtain⟨t',rfl⟩:=ry
 obtain⟨j,h1,h2,h3,h4,h5⟩:=Zk1 he
 have hl:z.cps.toList.length=z.length:=by simp[Str.length]
 rw[hl]at h1 h4 h5
 have hn:=Zhg
 exact tail_any (typeIs_str s z t) slot_str_getitem.lookup (getItem_str (c:=c) (by
  have e1:decide (i< -(2^63:Int))=false:=decide_eq_false (by omega)
  have e2:decide (i≥2^63)=false:=decide_eq_false (by omega)
  rw[e1,e2,Bool.or_false]) (by rw[h1];simpa using h2) ⟨.str ⟨#[c]⟩,H,I.tok _,⟨_,rfl⟩,q⟩) hs
noncomputable def rIx(K:Xb):R2:=λx y H Q=>Z9x K x y H Q∨Ybr K x y H Q∨Ybe x y H Q
theorem Z3n:IxR X (rIx X.K):=Zr8.or (Z3e.or Z2j)
theorem Zny(its:List Xc)(n j:Nat)(u:Xc):QB (·.setIfInBounds j u) { cls:=.type "list",data:=.seq its.toArray n }={ cls:=.type "list",data:=.seq (its.set j u).toArray n }:=by
 simp[QB]
theorem Inv.lst{pins:List (Addr×Obj)}{σ:St}{H:Hp}{s:Xe}{p:Addr}{xs:List V}(I:Inv X pins σ H s)(h:H p=some (.lst xs)) :
  ∃(its:List Xc) (n:Nat),Vals xs its∧s.heap.get? p=some { cls:=.type "list",data:=.seq its.toArray n }∧xs.length≤Xq:=by
 obtain⟨z,its,n,r,e⟩:=I.hok p _ h
 exact⟨its,n,r,e,z⟩
theorem Inv.lstUpd{pins:List (Addr×Obj)}{σ:St}{H:Hp}{s:Xe}{p:Addr}{xs ys:List V}{its its':List Xc}{n n':Nat}{f:Obj->Obj}(I:Inv X pins σ H s)(h:H p=some (.lst xs))
  (ho:s.heap.get? p=some { cls:=.type "list",data:=.seq its.toArray n }) (hf:f { cls:=.type "list",data:=.seq its.toArray n }={ cls:=.type "list",data:=.seq its'.toArray n' }) (r:Vals ys its') (hz:ys.length≤Xq) (t:Nat) :
  Inv X pins σ (upd H p (.lst ys)) { s with heap:=s.heap.update p f,toks:=t }:=by
 have e:(s.heap.update p f).get? p=some { cls:=.type "list",data:=.seq its'.toArray n' }:=by
  rw[Heap.get?_update_self f ho (by rw[hf]<;>rfl),hf]
 refine I.write (x:=p) (e:=p) (by rw[h];trivial) (.inl rfl) (λb u hb q=>(Heap.get?_update_other _ _ (JP hb)).trans q) ⟨_,e⟩ ?_
 exact⟨hz,its',n',r,e⟩
noncomputable def Zyi:V->V->V->Hp->(Hp->Prop)->Prop:=λo i v H Q=>∃p xs k j,o= .ref p∧i= .int k∧H p=some (.lst xs)∧ixN xs.length k=some j∧Q (upd H p (.lst (xs.set j v)))
theorem set_list:Ya4 X Zyi:=by
 intro pins s σ H o i v ov iv u Q I ro ri rv h
 obtain⟨p,xs,k,j,rfl,rfl,hp,hj,q⟩:=h
 cases ro
 obtain⟨t,rfl⟩:=ri
 obtain⟨its,n,r,ho,hz⟩:=I.lst hp
 obtain⟨h1,h2,h3,h4⟩:=Zpf hj
 have hl:=r.length
 have hn:=Zhg
 have I':Inv X pins σ (upd H p (.lst (xs.set j v))) { s with heap:=s.heap.update p (QB (·.setIfInBounds j u)) } :=
  I.lstUpd hp ho (Zny its n j u) (r.set rv j) (by rw[JK];exact hz) s.toks
 by_cases h0:0≤k
 ·have hk:k.toNat=j:=by
   rw[seqIndex_of h0 h4]at h1
   exact Qt h1
  exact PySem.W.ki_setAt ho h0 (by omega) (by rw[Xx,←hl];exact h4) (by rw[hk];exact⟨_,I',q⟩)
 ·have hk:(k+(its.toArray.size:Int)).toNat=j:=by
   rw[seqIndex_neg (by omega) h3]at h1
   rw[Xx,←hl]
   exact Qt h1
  exact PySem.W.ki_setBack ho (by omega) (by rw[Xx,←hl];exact h3) (by omega) (by rw[hk];exact⟨_,I',q⟩)
theorem Zkg(lo hi:Option Int)(n:Nat):(Um lo hi none n).1=((HT.sIx n 0 lo:Nat):Int)∧(Um lo hi none n).2.1=((HT.sIx n n hi:Nat):Int)∧(Um lo hi none n).2.2=1:=by
 refine⟨?_,?_,rfl⟩
 ·cases lo with
  | none=>simp[Um,HT.sIx]
  | some i=>
   simp only[Um,HT.sIx,Option.getD_none,show(1:Int)>0 by decide,if_true]
   by_cases h:i<0
   ·simp only[h,if_true]<;>omega
   ·simp only[h,if_false]<;>omega
 ·cases hi with
  | none=>simp[Um,HT.sIx]
  | some i=>
   simp only[Um,HT.sIx,Option.getD_none,show(1:Int)>0 by decide,if_true]
   by_cases h:i<0
   ·simp only[h,if_true]<;>omega
   ·simp only[h,if_false]<;>omega
theorem Ziq(its:List Xc)(lo hi:Option Int):slicePick its.toArray lo hi none=((its.drop (HT.sIx its.length 0 lo)).take (HT.sIx its.length its.length hi-HT.sIx its.length 0 lo)).toArray:=by
 obtain⟨h1,h2,h3⟩:=Zkg lo hi its.toArray.size
 unfold slicePick
 rw[h1,h2,h3]
 simp only[sliceRange_one,pick_run,Xx]<;>rfl
noncomputable def Ybt(K:Xb):V->Option Int->Option Int->Hp->VK->Prop:=λx lo hi H Q=>∃a xs,x= .ref a∧SqL K H a xs∧∀p,H p=none->Q (.ref p) (upd H p (.lst (Z1q xs lo hi)))
theorem Zya:SlR X (Ybt X.K):=by
 intro pins s σ H x v vl vu lo hi sl Q I rx hs pl pu h
 obtain⟨a,xs,rfl,hx,q⟩:=h
 cases rx
 obtain⟨its,r,ht,hz⟩:=I.list hx
 have hlen:=r.length
 refine⟨"list",_,slot_list_getitem.lookup,ht.isList.typeIs,?_⟩
 refine wpAny_getItem_list_slice ht.isList hs pl pu .none (by simp) ?_ (by rw[Xx]<;>omega)
 rw[Ziq,←hlen]
 refine⟨.ref s.heap.objs.size,_,I.laid (t':=s.toks) (o:=.lst (Z1q xs lo hi)) (λb ob q=>Xl _ q) (X4 _) ?_,rfl,q _ (I.hok.fresh (X4 _))⟩
 exact⟨Qy (Zlw xs lo hi) hz,_,0,(r.drop (HT.sIx xs.length 0 lo)).take (HT.sIx xs.length xs.length hi-HT.sIx xs.length 0 lo),Qi _ rfl⟩
noncomputable def Zfm:V->Bool
 | .non=>true
 | .bl _=>true
 | .int _=>true
 | .str _=>true
 | _=>false
noncomputable def eqV:V->V->Bool
 | .non,.non=>true
 | .bl a,.bl b=>a==b
 | .bl a,.int b=>(if a then 1 else 0)==b
 | .int a,.bl b=>a==(if b then 1 else 0)
 | .int a,.int b=>a==b
 | .str a,.str b=>a==b
 | _,_=>false
theorem Z2v{A:Qo}{s:Xe}{y x:V}{u v:Xc}(ry:RelV y u)(rx:RelV x v)(fy:Zfm y=true)(fx:Zfm x=true):JS A s u v (eqV y x):=by
 cases y with
 | non=>
  cases ry
  cases x with
  | non=>cases rx;exact JS.same _
  | bl b=>cases rx;exact JS.none_bool b
  | int b=>obtain⟨t,rfl⟩:=rx;exact JS.none_int b t
  | str b=>obtain⟨t,rfl⟩:=rx;exact JS.none_str b t
  | _=>exact absurd (show false=true from fx) Xy
 | bl a=>
  cases ry
  cases x with
  | non=>cases rx;exact JS.bool_none a
  | bl b=>cases rx;exact JS.bool_bool a b
  | int b=>obtain⟨t,rfl⟩:=rx;exact JS.bool_int a b t
  | str b=>obtain⟨t,rfl⟩:=rx;exact JS.bool_str a b t
  | _=>exact absurd (show false=true from fx) Xy
 | int a=>
  obtain⟨t',rfl⟩:=ry
  cases x with
  | non=>cases rx;exact JS.int_none a t'
  | bl b=>cases rx;exact JS.int_bool a t' b
  | int b=>obtain⟨t,rfl⟩:=rx;exact JS.int_int a t' b t
  | str b=>obtain⟨t,rfl⟩:=rx;exact SeqAt.EqAt.int_str a t' b t
  | _=>exact absurd (show false=true from fx) Xy
 | str a=>
  obtain⟨t',rfl⟩:=ry
  cases x with
  | non=>cases rx;exact JS.str_none a t'
  | bl b=>cases rx;exact JS.str_bool a t' b
  | int b=>obtain⟨t,rfl⟩:=rx;exact SeqAt.EqAt.str_int a t' b t
  | str b=>obtain⟨t,rfl⟩:=rx;exact JS.str_str a t' b t
  | _=>exact absurd (show false=true from fx) Xy
 | _=>exact absurd (show false=true from fy) Xy
noncomputable def eqU(x:V)(u:Xc):Bool:=match u with
 | .none=>eqV .non x
 | .bool b=>eqV (.bl b) x
 | .int i _=>eqV (.int i) x
 | .str z _=>eqV (.str z) x
 | _=>false
theorem Zwp{x y:V}{u:Xc}(r:RelV y u)(f:Zfm y=true):eqU x u=eqV y x:=by
 cases y with
 | non=>cases r;rfl
 | bl b=>cases r;rfl
 | int i=>obtain⟨t,rfl⟩:=r;rfl
 | str z=>obtain⟨t,rfl⟩:=r;rfl
 | _=>exact absurd (show false=true from f) Xy
theorem Zp3{x:V}{xs:List V}{us:List Xc}(h:Vals xs us)(f:xs.all Zfm=true):us.any (eqU x)=xs.any λy=>eqV y x:=by
 induction h with
 | nil=>rfl
 | cons r t ih=>
  rw[U4,XC]at f
  rw[List.any_cons,List.any_cons,Zwp r f.1,ih f.2]
theorem Zm7{A:Qo}{s:Xe}{x:V}{v:Xc}(rx:RelV x v)(fx:Zfm x=true){xs:List V}{us:List Xc}(h:Vals xs us)(f:xs.all Zfm=true):∀u∈us,JS A s u v (eqU x u):=by
 induction h with
 | nil=>intro u hu;cases hu
 | cons r t ih=>
  intro u' hu
  rw[U4,XC]at f
  rcases Xk.mp hu with rfl|hu
  ·rw[Zwp r f.1];exact Z2v r rx f.1 fx
  ·exact ih f.2 u' hu
noncomputable def inV(x:V)(xs:List V):Bool:=xs.any λy=>eqV y x
noncomputable def rIn(K:Xb)(neg:Bool):R2:=λx y H Q=>∃p xs,y= .ref p∧(SqL K H p xs∨SqT K H p xs)∧Zfm x=true∧xs.all Zfm=true∧Q (.bl (if neg then !inV x xs else inV x xs)) H
theorem Zjj:OpR X (Va .NotIn) (rIn X.K true):=by
 intro pins s σ H x y v u Q I rx ry h
 obtain⟨p,xs,rfl,hq,fx,fs,q⟩:=h
 cases ry
 rcases hq with hq|hq
 ·obtain⟨its,r,pl,hz⟩:=I.list hq
  refine SeqAt.notIn_listAt (eqU x) pl.isList (λw hw=>Zm7 rx fx r fs w (by simpa using hw)) ⟨.bl _,H,I,rfl,?_⟩
  rw[show its.toArray.any (eqU x)=its.any (eqU x) by simp,Zp3 r fs]
  exact q
 ·obtain⟨its,r,pl,hz⟩:=I.tuple hq
  refine SeqAt.notIn_tupleAt (eqU x) pl (λw hw=>Zm7 rx fx r fs w (by simpa using hw)) ⟨.bl _,H,I,rfl,?_⟩
  rw[show its.toArray.any (eqU x)=its.any (eqU x) by simp,Zp3 r fs]
  exact q
theorem Zj2:Zbo X (.builtin "len") (λxs H Q=>∃p ys,xs=[.ref p]∧(SqL X.K H p ys∨SqT X.K H p ys)∧Q (.int ys.length) H):=by
 intro pins s σ H xs us Q I r h
 obtain⟨p,ys,rfl,hq,q⟩:=h
 obtain⟨u,rfl,rx⟩:=vals1 r
 cases rx
 have hn:=Zhg
 rcases hq with hq|hq
 ·obtain⟨its,r',pl,hz⟩:=I.list hq
  have hlen:=r'.length
  exact Calls.call_len_list pl.isList (by simp only[Xx]<;>omega) ⟨.int ys.length,H,I.tok _,⟨s.toks+1,by rw[Xx,hlen]⟩,q⟩
 ·obtain⟨its,r',pl,hz⟩:=I.tuple hq
  have hlen:=r'.length
  exact len_tuple pl (by simp only[Xx]<;>omega) ⟨.int ys.length,H,I.tok _,⟨s.toks+1,by rw[Xx,hlen]⟩,q⟩
theorem Zj7:Zbo X (.type "list") (λxs H Q=>∃p ys,xs=[.ref p]∧(SqL X.K H p ys∨SqT X.K H p ys)∧∀l,H l=none->Q (.ref l) (upd H l (.lst ys))):=by
 intro pins s σ H xs us Q I r h
 obtain⟨p,ys,rfl,hq,q⟩:=h
 obtain⟨u,rfl,rx⟩:=vals1 r
 cases rx
 have fin:∀(its:List Xc),Vals ys its->ys.length≤Xq->∀(h':Heap) (c':Nat),(∀b o',s.heap.get? b=some o'->h'.get? b=some o') ->
   h'.get? s.heap.objs.size=some { cls:=.type "list",dict:=none,data:=.seq its.toArray c',slots:=#[] }->EP X pins σ Q (.ref s.heap.objs.size) { s with heap:=h' }:=λits r' hz h' c' kp e=>
  ⟨.ref s.heap.objs.size,_,I.laid (t':=s.toks) kp (X4 _) (show ObjOk X.prog X.w _ h' _ (.lst ys)from⟨hz,its,c',r',e⟩),rfl,q _ (I.hok.fresh (X4 _))⟩
 rcases hq with hq|hq
 ·obtain⟨its,r',pl,hz⟩:=I.list hq
  have hlen:=r'.length
  obtain⟨o,ho,hc,n,hd⟩:=pl.isList
  exact call_list_seq p (.inl rfl) ho hc hd (λh' c' kp e=>fin its r' hz h' c' kp e) (by simp only[Xx]<;>omega)
 ·obtain⟨its,r',pl,hz⟩:=I.tuple hq
  have hlen:=r'.length
  obtain⟨o,ho,hc,n,hd⟩:=pl
  exact call_list_seq p (.inr rfl) ho hc hd (λh' c' kp e=>fin its r' hz h' c' kp e) (by simp only[Xx]<;>omega)
noncomputable def tyV(K:Xb)(T:String)(x:V)(H:Hp):Prop:=match x with
 | .str _=>T="str"
 | .int _=>T="int"
 | .ref p=>(T="list"∧∃xs,SqL K H p xs)∨(T="tuple"∧∃o,K.lookup p=some o∧o.cls= .type "tuple"∧o.dict=none)∨
   (T="dict"∧((∃kvs,H p=some (.dK kvs))∨∃kvs,H p=some (.dT kvs)))∨(T="set"∧∃S n,H p=some (.set S n))
 | _=>False
theorem Z5s{pins:List (Addr×Obj)}{σ:St}{H:Hp}{s:Xe}{T:String}{x:V}{v:Xc}(I:Inv X pins σ H s)(r:RelV x v)(ty:tyV X.K T x H) :
  s.TypeIs v T∧∀a,v= .ref a->∃ob,s.heap.get? a=some ob∧ob.dict=none:=by
 cases x with
 | str z=>
  obtain⟨t,rfl⟩:=r
  cases(show T="str"from ty)
  exact⟨typeIs_str s z t,λ_ e=>nomatch e⟩
 | int i=>
  obtain⟨t,rfl⟩:=r
  cases(show T="int"from ty)
  exact⟨typeIs_int s i t,λ_ e=>nomatch e⟩
 | ref p=>
  cases r
  rcases ty with⟨rfl,xs,hq⟩|⟨rfl,o,hk,hc,hd⟩|⟨rfl,hk⟩|⟨rfl,S,n,hk⟩
  ·obtain⟨its,_,pl,_⟩:=I.list hq
   refine⟨pl.isList.typeIs,λa e=>?_⟩
   cases e
   obtain⟨o,n,e,c,hd,_⟩:=pl
   exact⟨o,e,hd⟩
  ·refine⟨⟨o,I.kIn p o hk,hc⟩,λa e=>?_⟩
   cases e
   exact⟨o,I.kIn _ o hk,hd⟩
  ·have z:∃o,s.heap.get? p=some o∧o.ExactDict:=by
    rcases hk with⟨kvs,hk⟩|⟨kvs,hk⟩
    ·obtain⟨_,_,_,_,o,_,_,e,ex,_⟩:=I.hok p _ hk
     exact⟨o,e,ex⟩
    ·obtain⟨_,_,_,_,o,_,_,e,ex,_⟩:=I.hok p _ hk
     exact⟨o,e,ex⟩
   obtain⟨o,e,ex⟩:=z
   refine⟨⟨o,e,ex.1⟩,λa e2=>?_⟩
   cases e2
   exact⟨o,e,ex.2.1⟩
  ·obtain⟨o,_,_,_,e,ex,_⟩:=I.hok p _ hk
   refine⟨⟨o,e,ex.1⟩,λa e2=>?_⟩
   cases e2
   exact⟨o,e,ex.2.1⟩
 | _=>exact Vm ty
noncomputable def tBM(K:Xb)(T:String)(r:V->List V->Hp->VK->Prop)(to:TE)(t:TA):TE:=λσ H Q=>to σ H λx H1=>tyV K T x H1∧t σ H1 λxs H2=>r x xs H2 Q
variable {o e:Expr}{es:List Expr}{to:TE}{t:TA}{name:Str}{apos cpos:Pos}{T id:String}{r:V->List V->Hp->VK->Prop}
theorem Zyf(pa:PlainAttrs T)(slot:Slot T name id)(hty:typeOf (.builtin id)=pure (.type "method_descriptor"))(hm:MtR X id r)(ho:PE X o to)(ha:PA X (e :: es) t)
  (hbase:Uk o name X.env (eval o X.env)=eval o X.env:=by rfl)
  (hfew:((JL cpos (Xm (e :: es) X.env)).all (λx=>!x.1)&&(backToKw cpos (keywordEach [] X.env)).all (λx=>x.1.isSome)
   &&decide ((e :: es).length+([]:List Ub).length+(if([]:List Ub).isEmpty then 0 else 1)<30))=true:=by rfl)
  (hline:(apos.endLine==cpos.line)=true:=by rfl) (hs:Xm (e :: es) X.env=(false,eval e X.env) :: Xm es X.env:=by rfl) (hplain:(JL cpos (Xm es X.env)).any (·.1)=false:=by rfl) :
  PE X (.Call (.Attribute o name apos) (e :: es) [] cpos) (tBM X.K T r to t):=by
 intro pins s σ H Q I h
 refine wpAny_Call_method_late hbase hfew hline rfl (thn (ho pins s σ H _ I h) λv s1 qz9=>?_)
 obtain⟨x,H1,I1,r1,ty,q1⟩:=qz9
 obtain⟨h1,h2⟩:=Z5s I1 r1 ty
 refine⟨T,id,pa,slot,hty,h1,h2,?_⟩
 have hA:=ha cpos pins s1 σ H1 _ I1 q1
 rw[hs]at hA⊢
 refine Calls.callWith_builtin (by show(false||(JL cpos (Xm es X.env)).any (·.1))=false;rw[hplain]<;>rfl) (Calls.evalArgs_plain ?_)
 refine thn hA λus s2 qz9=>?_
 obtain⟨vs,H2,I2,r2,q2⟩:=qz9
 exact hm pins s2 σ H2 x vs v us Q I2 r1 r2 q2
end
noncomputable def MtM(X:Cx)(id:String)(r:V->List V->Hp->VK->Prop):Prop :=
 ∀(pins:List (Addr×Obj)) (s:Xe) (σ:St) (H:Hp) (x:V) (xs:List V) (v:Xc) (us:List Xc) (Q:VK),Inv X pins σ H s->RelV x v->Vals xs us->r x xs H Q ->
  X5 (Qd X.prog X.w) X.A (call (.builtin id) (v :: us)) (EP X pins σ Q) X.xe s
theorem Vals.one{x:V}{us:List Xc}(h:Vals [x] us):∃u,us=[u]∧RelV x u:=by
 cases h with
 | cons r t=>cases t;exact⟨_,rfl,r⟩
theorem Vals.zero:∀{us:List Xc},Vals [] us->us=[]
 | _,.nil=>rfl
section
variable {X:Cx}{pins:List (Addr×Obj)}{σ:St}{H:Hp}{s:Xe}{l b:Addr}{xs ys zs:List V}
theorem Inv.lset{its its':List Xc}{n:Nat}{f:Array Xc->Array Xc}{t':Nat}(I:Inv X pins σ H s)(hH:H l=some (.lst xs))
  (e:s.heap.get? l=some { cls:=.type "list",data:=.seq its.toArray n }) (hf:f its.toArray=its'.toArray) (hv:Vals ys its') (hz:ys.length≤Xq) :
  Inv X pins σ (upd H l (.lst ys)) { s with heap:=s.heap.update l (QB f),toks:=t' }:=by
 have q:=PySem.IsL.update e f
 rw[hf]at q
 refine I.write (x:=l) (e:=l) (by rw[hH];exact trivial) (.inl rfl) (λb' u hb hu=>(Heap.get?_update_other s.heap (QB f) (JP hb)).trans hu) ⟨_,q⟩ ?_
 exact⟨hz,its',_,hv,q⟩
theorem Inv.lnew{its:List Xc}{t':Nat}(I:Inv X pins σ H s)(hv:Vals ys its)(hz:ys.length≤Xq) :
  Inv X pins σ (upd H s.heap.objs.size (.lst ys)) { s with heap:=s.heap.push { cls:=.type "list",data:=.seq its.toArray },toks:=t' } :=
 I.laid (λ_ _ q=>Xl _ q) (X4 _) ⟨hz,its,0,hv,Qi _ rfl⟩
theorem Inv.fresh(I:Inv X pins σ H s):H s.heap.objs.size=none:=I.hok.fresh (X4 _)
theorem Inv.lstM(I:Inv X pins σ H s)(hH:H l=some (.lst xs)):xs.length≤Xq∧∃(its:List Xc) (n:Nat),Vals xs its∧xs.length=its.length∧s.heap.get? l=some { cls:=.type "list",data:=.seq its.toArray n }:=by
 obtain⟨z,its,n,r,e⟩:=I.hok l _ hH
 exact⟨z,its,n,r,r.length,e⟩
end
section
variable {X:Cx}
noncomputable def Zw7:V->List V->Hp->VK->Prop:=λx vs H Q=>∃l xs y,x= .ref l∧vs=[y]∧H l=some (.lst xs)∧xs.length<Xq∧Q .non (upd H l (.lst (xs ++ [y])))
theorem Zdo:MtM X "list.append" Zw7:=by
 intro pins s σ H x vs v us Q I rx rv h
 obtain⟨l,xs,y,rfl,rfl,hH,hz,q⟩:=h
 cases rx
 obtain⟨u,rfl,ru⟩:=rv.one
 obtain⟨z,its,n,r,hl,e⟩:=I.lstM hH
 refine call_meets F.slot_list_append ⟨_,e,rfl⟩ F.entry_list_append (F.args_list_append_2 _ _) (PySem.list_append l its.toArray n u (by rw[Xx];omega)) ⟨e,?_⟩
 refine⟨.non,_,I.lset (its':=its ++ [u]) hH e (by simp) (r.append (.cons ru .nil)) ?_,rfl,q⟩
 rw[Q8,List.length_singleton]
 omega
end
section
variable {prog:X6}{w:Qv}{A:Qo}{E:Xc->Xe->Prop}{s:Xe}
end
section
variable {X:Cx}
end
end L2
namespace Att
open PySem PySem.W PySem.Calls PyProof.Rows
theorem Zfr{P:Params}{h:Heap}:∀(ns:List Int) (vs:List Xc),WellAll P h vs (ns.map WData.int)->Vz vs ns:=by
 intro ns
 induction ns with
 | nil=>
  intro vs w
  rw[List.map_nil]at w
  cases w
  exact .nil
 | cons n ns ih=>
  intro vs w
  rw[Qs]at w
  cases w with
  | cons a b=>
   cases a
   exact .cons _ _ (ih _ b)
theorem Zp1{l:OpenLaw}{n:Nat}(hn:l.most=some n){P:Params}{h:Heap}{args:List WData}{vals:List Xc}
  (hpre:l.row.toRowW.claim.pre args=true) (hwl:WellAll P h vals args) :
  ∃a vs ns,vals=[QS a]∧args=[WData.list (ns.map WData.int)]∧h.get? a=some { cls:=.type "list",data:=.seq vs.toArray }∧Vz vs ns∧ns.length≤n:=by
 have hsh:WShape.hasAll [] args [.list .int]=true:=(pre_splitW hpre).1
 have hc:l.pre.holds [] { args:=args }=true:=(pre_splitW hpre).2
 obtain⟨d,r,rfl,h1,h2⟩:=hasAllW_cons hsh
 obtain rfl:=hasAllW_nil h2
 obtain⟨xs,rfl,h3⟩:=hasW_list h1
 obtain⟨ns,rfl⟩:=items_int h3
 have hlen:ns.length≤n:=by
  unfold OpenLaw.pre at hc
  have h4:(WTm.not (.lt (.lit (.int (n:Int))) (.len (.arg 0)))).holds [] { args:=[.list (ns.map .int)] }=true:=by
   have h4:=(holds_andW hc).1
   rw[hn]at h4
   exact h4
  have h5:=condW_of h4 (w_not (w_lt w_lit (w_len_list (w_arg rfl))))
  rw[Xg]at h5
  refine Nat.le_of_not_lt λq=>?_
  have q':(n:Int)<((ns.length:Nat):Int):=by omega
  first
   | (rw[decide_eq_true q']at h5;exact absurd h5 (by decide))
   | (simp at h5;omega)
 cases hwl with
 | cons w1 w2=>
  cases w2
  cases w1 with
  | list ho hall=>exact⟨_,_,ns,rfl,rfl,ho,Zfr ns _ hall,hlen⟩
theorem Zps(l:OpenLaw)(args:List WData):l.row.toRowW.claim.post args (.bool true) args=true :=
 postW_of (r:=l.row.toRowW) (X:=(true==true))
  (show WShape.has [] (.bool true) .bool=true by first|rfl|decide|simp[WShape.has,WShape.arms,WShape.armsAll])
  (show(WTm.eq .res (.lit (.bool true))).value [] { args:=args,res:=some (.bool true),after:=args }=some (.bool (true==true))from w_eq_bool (w_res rfl) w_lit) rfl
theorem attach_call{l:OpenLaw}{n:Nat}{q:X6}{loose:List Str}{XP:(Str->Option Xc)->Heap->Prop}{YP:Qv->Heap->Prop}{d:DefRec}
  (hn:l.most=some n) (hdf:d.params.defaults=[])
  (call:∀(w:Qv) (s₀ s₁:Xe) (mg mb:Str->Option Xc) (fa:Addr) (o:Obj) (pm cd doc:Xc) (a:Addr) (vs:List Xc) (ns:List Int),
   Ground q loose [] XP w s₀ mg mb s₁.heap->YP w s₁.heap ->
   s₁.heap.get? fa=some o->o.data= .func (docDef d.name d.params d.body d.scope pm cd doc)->s₁.heap.CodeRec cd d.name->mg d.name=some (.ref fa) ->
   s₁.heap.get? a=some { cls:=.type "list",data:=.seq vs.toArray }->Vz vs ns->ns.length≤n->s₁.gens=#[] ->
   codeAny (Qd l.prog w) callerA (.call (.ref fa) ⟨[.ref a],[]⟩) (λr s'=>r= .ok (.ret (.bool true))∧OldK s₁.heap s'.heap∧s'.os=s₁.os∧AllBare s'.gens) s₁) :
  WalkO q loose XP YP l.row.toRowW d [] (λf vs=>PySem.call f vs):=by
 intro w s₀ s₁ mg mb G Y fa o pm cd doc dV kV ho hd hcd hD hmg hg args vals as hpre hlay hrd hwl hlo
 obtain rfl:dV= .none:=Dflts.none hD hdf
 obtain rfl:kV= .none:=Dflts.noKw hD
 obtain⟨a,vs,ns,rfl,rfl,hobj,hints,hlen⟩:=Zp1 hn hpre hwl
 refine enter_call (codeAny_mono (call w s₀ s₁ mg mb fa o pm cd doc a vs ns G Y ho (fd_plain hd) hcd hmg hobj hints hlen hg) λr s' hq=>?_)
 obtain⟨rfl,h2,h3,h4⟩:=hq
 exact⟨.inl ⟨.bool true,.bool true,[],rfl,λ_=>rfl,.bool true,Zps l _,λ_=>⟨List.Pairwise.nil,λ_ hm=>(nomatch hm)⟩⟩,h2,h3,h4⟩
section
variable {prog:X6}{w:Qv}{A:Qo}{E:Xc->Xe->Prop}{s:Xe}{K:Frag}
end
end Att
namespace L2
open PySem PySem.Spec PyProof.Rows
theorem Zp6{vs:List Xc}{ns:List Int}(h:Vz vs ns):Vals (ns.map V.int) vs:=by
 induction h with
 | nil=>exact .nil
 | cons n t h ih=>exact .cons ⟨t,rfl⟩ ih
noncomputable def Only(H:Hp):Prop:=∀b,H b=none∨∃o xs,H b=some (.frz o (.lst xs))
theorem Zs6{P:X6}{w:Qv}{K:Xb}{mg mb:Str->Option Xc}{CX:CXT}{k:Nat}{fa a:Addr}{fd:XN}{x:Str}{sp:Sp}{s₁:Xe}{vs:List Xc}{ns:List Int}
  (KX:K.In s₁.heap) (hns:s₁.heap.Ns Qe mg) (hb:s₁.heap.Ns builtinsNs mb) (hbb:∀x:Str,x≠"__name__" ->mb x=Qk x) (hlim:s₁.heap.NoLimit) (hg:s₁.gens=#[])
  (ha:s₁.heap.get? a=some { cls:=.type "list",data:=.seq vs.toArray }) (hi:Vz vs ns) (hl:ns.length≤Xq) (hr:Room k callerA)
  (F:∀base:Heap,K.In base->base.Ns Qe mg->FnOk P w K mg base CX k fa fd [x] sp) (hbind:∀(s:Xe) (u:Xc),BindsTo s fd ⟨[u],[]⟩ [(x,u)])
  (hsp:∀H:Hp,Only H->SqL K H a (ns.map V.int)->sp [.ref a] H (λv _=>v= .bl true) λ_ _ _=>False)
  (hCX:∀H e s',CX [] H s₁ (λ_ _ _=>False) e s'->False) :
  codeAny (Qd P w) callerA (.call (.ref fa) ⟨[.ref a],[]⟩) (λr s'=>r= .ok (.ret (.bool true))∧OldK s₁.heap s'.heap∧s'.os=s₁.os∧AllBare s'.gens) s₁:=by
 have rv:=Zp6 hi
 have lenV:=hi.length
 -- from an abstract heap in which nothing but the script may be tracked
 have core:∀H:Hp,Only H->SqL K H a (ns.map V.int)->HOk P w H s₁.heap->(∀b,H b≠none->b=a)->(H a≠none->K.lookup a=none) ->
   codeAny (Qd P w) callerA (.call (.ref fa) ⟨[.ref a],[]⟩) (λr s'=>r= .ok (.ret (.bool true))∧OldK s₁.heap s'.heap∧s'.os=s₁.os∧AllBare s'.gens) s₁:=by
  intro H hO hS hok hA hK
  have base_of:∀{b:Addr} {o:Obj},s₁.heap.get? b=some o->H b=none->(Zu4 s₁.heap H).get? b=some o:=λe n=>Ztg e n
  have noA:∀{b:Addr} {o:Obj} {es:Array DictEntry} {ep:Nat},s₁.heap.get? b=some o->o.data= .dict es ep->H b=none:=fun{b o es ep} e d=>by
   cases q:H b with
   | none=>rfl
   | some u=>
    have e':b=a:=hA b (by rw[q];simp)
    subst e'
    rw[ha]at e;cases e
    have d':Data.seq vs.toArray _=Data.dict es ep:=d
    cases d'
  have nsK:∀{b:Addr} {m:Str->Option Xc},s₁.heap.Ns b m->(Zu4 s₁.heap H).Ns b m:=fun{b m} ⟨o,es,ep,e,d,r⟩=>⟨o,es,ep,base_of e (noA e d),d,r⟩
  have hKb:K.In (Zu4 s₁.heap H):=λb o e=>base_of (KX b o e) (by
   cases q:H b with
   | none=>rfl
   | some u=>
    have e':b=a:=hA b (by rw[q];simp)
    subst e'
    rw[hK (by rw[q];simp)]at e;cases e)
  have hM:Mod K mg (Zu4 s₁.heap H):=⟨hKb,nsK hns,⟨mb,nsK hb,hbb⟩,let⟨mc,h1,h2⟩:=hlim;⟨mc,nsK h1,h2⟩⟩
  have e0:Z68 P w K mg (Zu4 s₁.heap H) callerA [] s₁ H:=⟨rfl,hM,λb o e=>Z0u e,Nat.le_of_eq (Zqe _ _),trivial,λb hb=>absurd (show b∈([]:List Addr)from hb) (by simp),hok,.of_eq hg⟩
  refine codeAny_mono ((F _ hKb (nsK hns)).run callerA [] s₁ H ⟨[.ref a],[]⟩ [.ref a] [.ref a] _ _ hr e0 (hbind s₁ (.ref a)) (.cons rfl .nil) (hsp H hO hS)) λr s' h=>?_
  cases r with
  | error e=>exact(hCX H e s' h).elim
  | ok fl=>
   cases fl with
   | next=>exact Vm h
   | brk=>exact Vm h
   | cont=>exact Vm h
   | ret u=>
    obtain⟨v,H',os,bare,un,hok',r',q⟩:=h
    have q':v= .bl true:=q
    subst q'
    obtain rfl:u=Value.bool true:=r'
    refine⟨rfl,OldK.of_keep λb o e=>?_,os,bare⟩
    cases q:H b with
    | none=>exact un.keep b o e q (by intro z;exact absurd (show b∈([]:List Addr)from z) (by simp)) (by simp)
    | some u=>
     rcases hO b with z|⟨ob,xs,z⟩
     ·rw[q]at z;cases z
     ·have z2:=un.frzs b ob _ z
      obtain⟨e1,_⟩:=hok b _ z
      obtain⟨e2,_⟩:=hok' b _ z2
      rw[e]at e1;cases e1
      exact e2
 cases hk:K.lookup a with
 | some o=>
  -- the script is one of the module's own objects
  have e:=KX a o hk
  rw[ha]at e
  cases e
  refine core (λ_=>none) (λ_=>.inl rfl) (.inr ⟨_,vs.toArray,_,hk,rfl,rfl,rfl,by rw[Xx,lenV];exact hl,by simpa using rv⟩) (λb u z=>by have z':(none:Option HO)=some u:=z;cases z') (λb z=>absurd rfl z) λz=>absurd rfl z
 | none=>
  refine core (λb=>if b=a then some (.frz { cls:=.type "list",data:=.seq vs.toArray } (.lst (ns.map V.int)))else none) (λb=>?_) (.inl (.inr ⟨{ cls:=.type "list",data:=.seq vs.toArray },if_pos rfl⟩)) (λb u z=>?_) (λb z=>?_) λ_=>hk
  ·by_cases hb:b=a
   ·exact .inr ⟨_,_,if_pos hb⟩
   ·exact .inl (if_neg hb)
  ·by_cases hb:b=a
   ·have z':=(if_pos hb).symm.trans z
    cases z'
    subst hb
    exact⟨ha,by rw[Xg];exact hl,vs,_,rv,ha⟩
   ·have z':=(if_neg hb).symm.trans z
    cases z'
  ·by_cases hb:b=a
   ·exact hb
   ·exact absurd (if_neg hb) z
noncomputable abbrev KOf{K:Xb}{h:Heap}(_:K.In h):Xb:=K
theorem Zwx{l:PySem.W.OpenLaw}{n k:Nat}{q:X6}{loose:List Str}{XP:(Str->Option Xc)->Heap->Prop}{YP:Qv->Heap->Prop}{d:DefRec}{K:Params->Xb}{CX:Qv->CXT}{sp:Qv->Sp}{x:Str}
  (hn:l.most=some n) (hn2:n≤Xq) (hdf:d.params.defaults=[]) (hr:Room k callerA)
  (hY:∀(w:Qv) (h:Heap),YP w h->(K w.params).In h)
  (F:∀(w:Qv) (mg:Str->Option Xc) (fa:Addr) (h:Heap),(K w.params).In h->h.Ns Qe mg->mg d.name=some (.ref fa) ->
   ∃fd:XN,(∀(s:Xe) (u:Xc),BindsTo s fd ⟨[u],[]⟩ [(x,u)])∧
    ∀base:Heap,(K w.params).In base->base.Ns Qe mg->FnOk l.prog w (K w.params) mg base (CX w) k fa fd [x] (sp w))
  (hsp:∀(w:Qv) (H:Hp) (a:Addr) (ns:List Int),ns.length≤n->Only H->SqL (K w.params) H a (ns.map V.int)->sp w [.ref a] H (λv _=>v= .bl true) λ_ _ _=>False)
  (hCX:∀(w:Qv) (H:Hp) (s:Xe) (e:Xc) (s':Xe),CX w [] H s (λ_ _ _=>False) e s'->False) :
  PySem.W.WalkO q loose XP YP l.row.toRowW d [] (λf vs=>PySem.call f vs):=by
 refine Att.attach_call hn hdf λw s₀ s₁ mg mb fa o pm cd doc a vs ns G Y ho hd hcd hmg hobj hints hlen hg=>?_
 have KX:=hY w _ Y
 obtain⟨fd,hb,hF⟩:=F w mg fa _ KX G.T.g hmg
 exact Zs6 KX G.T.g G.T.b G.T.builtins G.T.nolimit hg hobj hints (Qy hlen hn2) hr hF hb (λH hO hS=>hsp w H a ns hlen hO hS) λH e s'=>hCX w H s₁ e s'
noncomputable def Zd5(s:Stmt):Arguments:=match s with
 | .FunctionDef _ a _ _ _ _ _ _ _ _=>a
 | _=>{ posonlyargs:=[],args:=[],vararg:=none,kwonlyargs:=[],kw_defaults:=[],kwarg:=none,defaults:=[] }
noncomputable def Jy(s:Stmt):List Stmt:=match s with
 | .FunctionDef _ _ b _ _ _ _ _ _ _=>b
 | _=>[]
noncomputable def Zm(s:Stmt):Ua:=match s with
 | .FunctionDef _ _ _ _ _ _ sc _ _ _=>sc
 | _=>{ kind:=.function,names:=[],isGenerator:=false,isCoroutine:=false }
noncomputable abbrev CX0:CXT:=λ_ _ _ _ _ _=>False
noncomputable abbrev E0:XK:=λ_ _ _=>False
theorem Zbd{X:Cx}:Zgi CX0 X E0:=λ_ _ _ _ _ _ _ h=>h.elim
structure Fun(K:Xb)(x qual:Str)(st:Stmt)(f:Addr)(fd:XN):Prop where
 ex:∃(oc:Xc) (od:Option Addr) (kV doc pm:Xc) (an:Option Addr) (cdv ct:Xc) (osl:Array (Option Xc)),
  fd=Vl x qual (Zd5 st) (Jy st) (Zm st) .none kV doc pm an cdv ct∧K.lookup f=some ⟨oc,od,.func fd,osl⟩∧PySem.W.codeIn K cdv qual=true
 kp:Bj K (.ref f)=true
section
variable {P:X6}{w:Qv}{K:Xb}{mg:Str->Option Xc}{base:Heap}
theorem Fun.ok{x qual:Str}{st:Stmt}{f:Addr}{fd:XN}{N ps:List Str}{k:Nat}{sp:Sp}(F:Fun K x qual st f fd)(S:Zv N ps (Zm st))(len:∀vs H Q E,sp vs H Q E->vs.length=ps.length)
  (hbody:∀(cdv:Xc) (A:Qo) (outer:List Env) (s:Xe) (H:Hp) (vs:List V) (Q:VK) (E:XK),Room k (A.deeper (U7 qual (Zm st) s.heap.objs.size f cdv))->sp vs H Q E ->
   ∃t,PSs (Zsg CX0 P w K mg base N qual (Zm st) f cdv A outer s H E).nox (Jy st) t∧t { nx:=λ_ H'=>Q .non H',rt:=Q } (start N vs) H):FnOk P w K mg base CX0 (k+1) f fd ps sp:=by
 obtain⟨oc,od,kV,doc,pm,an,cdv,ct,osl,rfl,lk,hcd⟩:=F.ex
 refine Z9f lk hcd S len λA outer s H vs Q E hr hsp=>?_
 obtain⟨t,h,q⟩:=hbody cdv A outer s H vs Q E hr hsp
 exact⟨t,h.nox,q⟩
theorem Fun.binds{x qual:Str}{st:Stmt}{f:Addr}{fd:XN}{ps:List Str}(F:Fun K x qual st f fd)
  (h:∀(kV doc pm:Xc) (an:Option Addr) (cdv ct:Xc) (us:List Xc),us.length=ps.length->bindArgs (Vl x qual (Zd5 st) (Jy st) (Zm st) .none kV doc pm an cdv ct) ⟨us,[]⟩=pure (ps.zip us)):Binds K fd ps []:=by
 obtain⟨oc,od,kV,doc,pm,an,cdv,ct,osl,rfl,lk,hcd⟩:=F.ex
 exact .all (h kV doc pm an cdv ct)
theorem Z5g{x qual:Str}{st:Stmt}{f:Addr}{oc:Xc}{od an:Option Addr}{osl:Array (Option Xc)}{kV doc pm cdv ct:Xc}(l:K.lookup f=some ⟨oc,od,.func (Vl x qual (Zd5 st) (Jy st) (Zm st) .none kV doc pm an cdv ct),osl⟩)
  (c:PySem.W.codeIn K cdv qual=true) (k:Bj K (.ref f)=true):Fun K x qual st f (Vl x qual (Zd5 st) (Jy st) (Zm st) .none kV doc pm an cdv ct):=⟨⟨oc,od,kV,doc,pm,an,cdv,ct,osl,rfl,l,c⟩,k⟩
end
section
variable {X:Cx}
theorem pv(i:Nat){x:Str}{pos:Pos}(hN:X.N[i]? =some x:=by rfl)(hv:Vis X.env.scope x:=by first|exact Qp rfl|exact Qh (Qp rfl)|exact Qh (Qh rfl))(hd:(x==("__debug__" : Str))=false:=by decide)
  (hcd:(x==("__classdict__" : Str))=false:=by decide):PE X (.Name x pos) (Z5v i):=Zwg hN hv hd hcd
end
noncomputable def Same(H H':Hp):Prop:=∀b o,H b=some o->H' b=some o
theorem Same.refl(H:Hp):Same H H:=λ_ _ h=>h
theorem Same.free{H H':Hp}(e:Same H H'){l:Addr}(h:H' l=Option.none):H l=Option.none:=by
 cases q:H l with
 | none=>rfl
 | some o=>
  rw[e l o q]at h
  cases h
end L2
set_option maxHeartbeats 4000000
namespace L2
open PySem PySem.Spec PyProof.Rows
noncomputable def Bt(n:Nat)(x:Int):Prop:=x.natAbs<2^n
theorem Bt.mono{m n:Nat}{x:Int}(h:Bt m x)(hn:m≤n):Bt n x:=Qj h (BV (by decide) hn)
theorem Bt.mul{m n:Nat}{x y:Int}(h:Bt m x)(k:Bt n y):Bt (m+n) (x*y):=by
 unfold Bt at*
 rw[Int.natAbs_mul,Nat.pow_add]
 exact Nat.mul_lt_mul'' h k
theorem Bt.neg{m:Nat}{x:Int}(h:Bt m x):Bt m (-x):=by
 unfold Bt at*
 rw[Int.natAbs_neg]
 exact h
theorem Bt.add{m n:Nat}{x y:Int}(h:Bt m x)(k:Bt n y):Bt (m+n+1) (x+y):=by
 unfold Bt at*
 have h1:2^m≤2^(m+n):=BV (by decide) (by omega)
 have h2:2^n≤2^(m+n):=BV (by decide) (by omega)
 have h3:2^(m+n+1)=2*2^(m+n):=by rw[Nat.pow_succ];omega
 have h4:=Int.natAbs_add_le x y
 omega
theorem Bt.of_le{m:Nat}{x y:Int}(h:Bt m x)(k:y.natAbs≤x.natAbs):Bt m y:=VF k h
theorem Bt.of_lt{m:Nat}{x:Int}(h1:-(2^m)<x)(h2:x<2^m):Bt m x:=by
 unfold Bt
 have e:((2^m:Nat):Int)=2^m:=by simp
 omega
theorem Bt.bits{m:Nat}{x:Int}(h:Bt m x):JN x≤m:=by
 unfold JN
 split
 ·exact QQ _
 ·rename_i hx
  have hp:x.natAbs≠0:=by
   intro e
   apply hx
   have:x=0:=by omega
   subst this
   rfl
  have:=(Nat.log2_lt hp).mpr h
  omega
theorem Bt.mulOk{m n:Nat}{x y:Int}(h:Bt m x)(k:Bt n y)(hmn:m+n≤100000000:=by decide):IntMulOk x y:=by
 have h1:=h.bits
 have h2:=k.bits
 have h3:UW (JN x+JN y)=false:=by
  unfold UW bitsLine
  exact decide_eq_false (by omega)
 unfold IntMulOk
 rw[h3]
 simp
noncomputable def DivOk(_ j:Int):Prop:=j≠0∧j.natAbs.log2<9000
theorem DivOk.of{i j:Int}{n:Nat}(h0:j≠0)(h:Bt n j)(hn:n≤9000:=by decide):DivOk i j:=by
 refine⟨h0,?_⟩
 have hp:j.natAbs≠0:=by omega
 have:=(Nat.log2_lt hp).mpr h
 omega
section
variable {X:Cx}
theorem Z0v:OpR X (Vk .Mult) (rI IntMulOk λi j=>.int (i*j)):=opI λ_ _ _ _ _ _ _ hc q=>mul_int q hc
theorem Zul:OpR X (Vk .FloorDiv) (rI DivOk λi j=>.int (i.fdiv j)):=opI λ_ _ _ _ _ _ _ hc q=>floordiv_int hc.1 q (.inl (PyProof.noPylong_of_log2 hc.2))
theorem Z06:OpR X (Vk .Pow) (rI Z1h λi j=>.int (i^j.toNat)):=Z34
end
theorem Zg0(elt target iter:Expr)(ifs:List Expr)(scope:Ua)(pos:Pos)(it acc:Xc)(env:Env) :
  compTurn (.ListComp elt [⟨target,iter,ifs,0⟩] scope pos) 0 it acc env=(standAt iter.pos>>= λ_=>pyNext it>>= λr=>match r with
   | none=>pure (.done .next)
   | some v=>Ut target it v>>= λ_=>V9 target env v>>= λ_=>
    (forIn ifs true λc r=>if r=true then do let ok←isTrue c env (eval c env);pure (JR ok)else pure (JR r))>>= λok=>
     if ok=true then((eval elt env>>= λx=>call (.builtin "list.append") [acc,x]>>= λ_=>pure ())>>= λ_=>
      again (.compLoop (.ListComp elt [⟨target,iter,ifs,0⟩] scope pos) 0 it acc env))
     else again (.compLoop (.ListComp elt [⟨target,iter,ifs,0⟩] scope pos) 0 it acc env)):=by rfl
theorem Zkh{prog:X6}{w:Qv}{A:Qo}{R:Result->Xe->Prop}{s:Xe}{elt target iter:Expr}{ifs:List Expr}{scope:Ua}{pos:Pos}{it acc:Xc}{env:Env}(I:Nat->Xe->Prop)
  (turn:∀n s,I n s->X5 (Qd prog w) A (pyNext it) (λr s₁=>match r with
   | none=>R (.ok .next) s₁
   | some v=>X5 (Qd prog w) A (Ut target it v) (λ_ s₁=>X5 (Qd prog w) A (V9 target env v) (λ_ s₂=>
     X5 (Qd prog w) A (forIn ifs true λc r=>if r=true then do let ok←isTrue c env (eval c env);pure (JR ok)else pure (JR r)) (λok s₃=>
      if ok=true then X5 (Qd prog w) A (eval elt env) (λx s₄=>
       X5 (Qd prog w) A (call (.builtin "list.append") [acc,x]) (λ_ s₅=>∃m,m<n∧I m s₅) (notedBy (Qd prog w) A env λe s'=>R (.error e) s') s₄) (notedBy (Qd prog w) A env λe s'=>R (.error e) s') s₃
      else∃m,m<n∧I m s₃) (notedBy (Qd prog w) A env λe s'=>R (.error e) s') s₂) (notedBy (Qd prog w) A env λe s'=>R (.error e) s') s₁) (notedBy (Qd prog w) A env λe s'=>R (.error e) s') s₁) (notedBy (Qd prog w) A env λe s'=>R (.error e) s') s)
  (n:Nat) (h:I n s) :
  codeAny (Qd prog w) A (.compLoop (.ListComp elt [⟨target,iter,ifs,0⟩] scope pos) 0 it acc env) R s:=by
 refine codeAny_loop rfl I (λn s hI=>?_) n h
 show X5 _ A ((compTurn (.ListComp elt [⟨target,iter,ifs,0⟩] scope pos) 0 it acc env).onRaise (λx=>do noteFrame x env;theTreesLotGoes x)) _ _ s
 refine wpAny_noted ?_
 rw[Zg0]
 refine Xf (wpAny_standAt (Xf (Bs (turn n s hI) (λr s₁ h₁=>?_) λ_ _ h'=>h')))
 cases r with
 | none=>exact Qc h₁
 | some v=>
  refine Xf (Bs h₁ (λ_ s₂ h₂=>?_) λ_ _ h'=>h')
  refine Xf (Bs h₂ (λ_ s₂ h₂=>Xf (Bs h₂ (λok s₃ h₃=>?_) λ_ _ h'=>h')) λ_ _ h'=>h')
  cases ok with
  | false=>exact Qc ⟨rfl,h₃⟩
  | true=>
   exact Xf (Xf (Bs h₃ (λx s₄ h₄=>Xf (Bs h₄ (λ_ s₅ h₅=>Qc (Qc ⟨rfl,h₅⟩)) λ_ _ h'=>h')) λ_ _ h'=>h'))
noncomputable def Zgo(env:Env):List (Str×Br)->List (Str×Addr)->List (Str×Addr)
 | [],acc=>acc
 | (n,k) :: r,acc=>if k== .free then Zgo env r ((n,(env.cells.lookup n).getD 0) :: acc)else Zgo env r acc
theorem Zh0{env:Env}:∀(names:List (Str×Br)) (acc:List (Str×Addr)),(∀y∈names,y.2= .free->∃c,env.cells.lookup y.1=some c) ->
  (forIn names acc (λ(y:Str×Br) cs=>(if y.2== .free then(cellOf env y.1>>= λc=>pure (JR ((y.1,c) :: cs)))else pure (JR cs):Sem (ForInStep (List (Str×Addr))))))=pure (Zgo env names acc)
 | [],acc,_=>by rw[VN];rfl
 | (n,k) :: r,acc,h=>by
  by_cases hk:k= .free
  ·subst hk
   obtain⟨c,hc⟩:=h (n,.free) (.head _) rfl
   have hc':env.cells.lookup n=some c:=hc
   have e:=Zh0 (env:=env) r ((n,c) :: acc) λy hy=>h y (.tail _ hy)
   have ec:cellOf env n=pure c:=by
    unfold cellOf
    rw[hc']
   rw[Ug]
   simp only[beq_self_eq_true,if_true]
   rw[ec]
   simp only[Zgo,beq_self_eq_true,if_true,hc',Option.getD_some]
   exact e
  ·have e:=Zh0 (env:=env) r acc λy hy=>h y (.tail _ hy)
   have hb:(k==QW)=false:=by simpa using hk
   rw[Ug]
   simp only[Zgo,hb,BJ,if_false]
   exact e
theorem Zcl{scope:Ua}{env:Env}(h:∀y∈scope.names,y.2= .free->∃c,env.cells.lookup y.1=some c):closureFor scope env=pure (Zgo env scope.names []):=by
 have e:=Zh0 scope.names [] h
 have e':(forIn scope.names ([]:List (Str×Addr)) (λ(y:Str×Br) cs=>(match y with|(name,kind)=>do
   if kind== .free then do let a←cellOf env name;pure (JR ((name,a) :: cs))else pure (JR cs):Sem (ForInStep (List (Str×Addr))))))=pure (Zgo env scope.names []):=e
 exact congrArg (λ(m:Sem (List (Str×Addr)))=>m>>= λx=>pure x) e'
theorem Zip{env:Env}:∀(names:List (Str×Br)) (acc:List (Str×Addr)),(∀y∈names,y.2= .free->∃c,env.cells.lookup y.1=some c) ->
  ∀n c,(n,c)∈Zgo env names acc->(n,c)∈acc∨((n,QW)∈names∧env.cells.lookup n=some c)
 | [],acc,_,n,c,h=>.inl h
 | (m,k) :: r,acc,h,n,c,hm=>by
  by_cases hk:k= .free
  ·subst hk
   obtain⟨d,hd⟩:=h (m,.free) (.head _) rfl
   have hd':env.cells.lookup m=some d:=hd
   simp only[Zgo,beq_self_eq_true,if_true,hd',Option.getD_some]at hm
   rcases Zip r _ (λy hy=>h y (.tail _ hy)) n c hm with z|⟨z1,z2⟩
   ·rcases Xk.mp z with z|z
    ·cases z;exact .inr ⟨.head _,hd'⟩
    ·exact .inl z
   ·exact .inr ⟨.tail _ z1,z2⟩
  ·have hb:(k==QW)=false:=by simpa using hk
   simp only[Zgo,hb,BJ,if_false]at hm
   refine(Zip r _ (λy hy=>h y (.tail _ hy)) n c hm).imp id λqz9=>?_
   obtain⟨z1,z2⟩:=qz9
   exact⟨.tail _ z1,z2⟩
theorem Zh1{env:Env}:∀(names:List (Str×Br)) (acc:List (Str×Addr)),∀p∈acc,p∈Zgo env names acc
 | [],_,_,h=>h
 | (m,k) :: r,acc,p,h=>by
  unfold Zgo
  split
  ·exact Zh1 r _ p (.tail _ h)
  ·exact Zh1 r _ p h
theorem Zhr{env:Env}:∀(names:List (Str×Br)) (acc:List (Str×Addr)) (n:Str),(n,QW)∈names->∃c,(n,c)∈Zgo env names acc
 | [],_,_,h=>nomatch h
 | (m,k) :: r,acc,n,h=>by
  rcases Xk.mp h with z|z
  ·cases z
   exact⟨_,by
    simp only[Zgo,beq_self_eq_true,if_true]
    exact Zh1 _ _ _ (.head _)⟩
  ·unfold Zgo
   split
   ·exact Zhr r _ n z
   ·exact Zhr r _ n z
theorem Zd1{env:Env}(inj:∀x y c,env.cells.lookup x=some c->env.cells.lookup y=some c->x=y):∀(names:List (Str×Br)) (acc:List (Str×Addr)),
  (∀ y∈names,y.2= .free->∃c,env.cells.lookup y.1=some c)->(names.map (·.1)).Nodup->(∀p∈acc,env.cells.lookup p.1=some p.2)->(∀p∈acc,p.1∉names.map (·.1))->(acc.Pairwise λx y=>x.2≠y.2) ->
  (Zgo env names acc).Pairwise λx y=>x.2≠y.2
 | [],_,_,_,_,_,h=>h
 | (m,k) :: r,acc,hf,hn,ha,hd,hp=>by
  rw[Qs,XX]at hn
  have hf':∀y∈r,y.2= .free->∃c,env.cells.lookup y.1=some c:=λy hy=>hf y (.tail _ hy)
  have hd':∀p∈acc,p.1∉r.map (·.1):=λp hp z=>hd p hp (by rw[Qs];exact .tail _ z)
  by_cases hk:k= .free
  ·subst hk
   obtain⟨d,hd0⟩:=hf (m,.free) (.head _) rfl
   have hd1:env.cells.lookup m=some d:=hd0
   simp only[Zgo,beq_self_eq_true,if_true,hd1,Option.getD_some]
   refine Zd1 inj r _ hf' hn.2 (λp hp'=>?_) (λp hp'=>?_) (List.pairwise_cons.mpr ⟨λp hp' z=>?_,hp⟩)
   ·rcases Xk.mp hp' with rfl|hp'
    ·exact hd1
    ·exact ha p hp'
   ·rcases Xk.mp hp' with rfl|hp'
    ·exact hn.1
    ·exact hd' p hp'
   ·have e:m=p.1:=inj m p.1 d hd1 (by rw[ha p hp',←z])
    exact hd p hp' (by rw[Qs,←e];exact .head _)
  ·have hb:(k==QW)=false:=by simpa using hk
   simp only[Zgo,hb,BJ,if_false]
   exact Zd1 inj r _ hf' hn.2 ha hd' hp
structure Znm(h:Heap)(lo:Nat)(names:List (Str×Br))(acc cs:List (Str×Addr)):Prop where
 mem:∀n c,(n,c)∈cs->(n,c)∈acc∨(h.IsCell c none∧lo≤c∧(n,Be)∈names)
 has:∀n,(n,Be)∈names->∃c,(n,c)∈cs
 old:∀p∈acc,p∈cs
theorem Zee:∀(names:List (Str×Br)) (h:Heap) (lo:Nat) (acc:List (Str×Addr)),lo≤h.objs.size->Znm (BR h names) lo names acc (Bc h.objs.size names acc)
 | [],_,_,_,_=>⟨λ_ _ m=>.inl m,(λ_ m=>nomatch m),λ_ m=>m⟩
 | (name,kind) :: r,h,lo,acc,hlo=>by
  by_cases hk:(kind==Be)=true
  ·have ek:kind= .cell:=by simpa using hk
   subst ek
   have ih:=Zee r (h.push { cls:=.type "cell",data:=.cell none }) lo ((name,h.objs.size) :: acc) (by rw[Q9];omega)
   rw[Q9]at ih
   have e1:Bc h.objs.size ((name,.cell) :: r) acc=Bc (h.objs.size+1) r ((name,h.objs.size) :: acc):=by
    rw[Bc,if_pos hk]
   have e2:BR h ((name,.cell) :: r)=BR (h.push { cls:=.type "cell",data:=.cell none }) r:=by
    rw[BR,if_pos hk]
   rw[e1,e2]
   refine⟨λn c m=>?_,λn m=>?_,λp m=>ih.old p (.tail _ m)⟩
   ·rcases ih.mem n c m with z|⟨z1,z2,z3⟩
    ·rcases Xk.mp z with z|z
     ·cases z
      exact .inr ⟨⟨_,Us _ _ _ _ (Qi _ rfl),rfl⟩,hlo,.head _⟩
     ·exact .inl z
    ·exact .inr ⟨z1,z2,.tail _ z3⟩
   ·rcases Xk.mp m with z|z
    ·cases z
     exact⟨_,ih.old _ (.head _)⟩
    ·exact ih.has n z
  ·have ih:=Zee r h lo acc hlo
   have e1:Bc h.objs.size ((name,kind) :: r) acc=Bc h.objs.size r acc:=by
    rw[Bc,if_neg hk]
   have e2:BR h ((name,kind) :: r)=BR h r:=by
    rw[BR,if_neg hk]
   rw[e1,e2]
   refine⟨λn c m=>(ih.mem n c m).imp id λ⟨z1,z2,z3⟩=>⟨z1,z2,.tail _ z3⟩,λn m=>?_,ih.old⟩
   rcases Xk.mp m with z|z
   ·cases z
    exact absurd rfl hk
   ·exact ih.has n z
theorem Zf1(names:List (Str×Br)):∀(h:Heap) (acc:List (Str×Addr)),(acc.Pairwise λx y=>x.2≠y.2)->(∀p∈acc,p.2<h.objs.size)->(Bc h.objs.size names acc).Pairwise λx y=>x.2≠y.2:=by
 induction names with
 | nil=>intro h acc ha _;exact ha
 | cons y r ih=>
  intro h acc ha hb
  obtain⟨name,kind⟩:=y
  unfold Bc
  split
  ·have:=ih (h.push { cls:=.type "cell",data:=.cell none }) ((name,h.objs.size) :: acc) (List.pairwise_cons.mpr ⟨λp hp=>XH (hb p hp),ha⟩) (λp hp=>by
    rw[Q9]
    rcases Xk.mp hp with rfl|hp
    ·exact Vc _
    ·exact U3 (hb p hp))
   rwa[Q9]at this
  ·exact ih h acc ha hb
theorem Zgy{M:Model}{A:Qo}{E:Xc->Xe->Prop}{s:Xe}{scope:Ua}{globals:Addr}{cl:List (Str×Addr)}{qual:Str}{env:Env}{Q:Env->Xe->Prop}
  (hQ:Q (newEnv scope s.heap.objs.size globals (Bc (s.heap.objs.size+1) scope.names cl) qual none .none (some env) builtinsNs)
   { s with heap:=BR (s.heap.push { cls:=.type "dict",data:=.dict #[] }) scope.names }) :
  X5 M A (newFunctionEnv scope globals cl [] qual none .none (some env)) Q E s:=by
 simp only[newFunctionEnv,Option.isSome_some,if_true]
 refine Xf (wpAny_alloc ?_)
 refine Xf (wpAny_layCells _ (λname kind cells=>by cases hkc:kind==Be<;>simp[hkc]) _ _ _ _ ?_)
 rw[show({ s with heap:=s.heap.push { cls:=.type "dict",data:=.dict #[] } }:Xe).heap.objs.size=s.heap.objs.size+1 from Q9 ..]
 rw[VN]
 exact Xf (Qc (Qc hQ))
noncomputable def Yu(X:Cx)(N':List Str)(sc:Ua)(C:Addr)(cells:List (Str×Addr))(s₂:Xe)(H₂:Hp)(fp:List Addr):Cx :=
 { X with N:=N',s₀:=s₂,H₀:=H₂,env:=compEnvC sc cells C X.env,outer:=X.stack,stack:=X.stack,ex:=fp,fn:=λx=>sc.names.lookup x==some .cell,pn:=[],xe:=λ_ _=>False }
theorem Zcq{env:Env}:∀{names:List (Str×Br)} {x:Str} {k:Br},names.lookup x=some k ->
  (names.map λ(n,k)=>if(k==QW&&env.scope.kind== .function&&env.kindOf n==some .cell)then(n,Be)else(n,k)).lookup x=
   some (if(k==QW&&env.scope.kind== .function&&env.kindOf x==some .cell)then Be else k)
 | [],_,_,h=>by simp at h
 | (n,k') :: r,x,k,h=>by
  have ih:=@Zcq env r x k
  show List.lookup x ((if(k'==QW&&env.scope.kind== .function&&env.kindOf n==some .cell)=true then(n,Be)else(n,k')) :: _)=_
  cases hx:x==n with
  | true=>
   simp only[QX,hx]at h
   cases h
   have e:=beq_iff_eq.mp hx
   subst e
   split<;>simp[QX]
  | false=>
   simp only[QX,hx]at h
   split
   ·simp only[QX,hx];exact ih h
   ·simp only[QX,hx];exact ih h
theorem Zep{env:Env}:∀{names:List (Str×Br)} {x:Str},names.lookup x=none ->
  (names.map λ(n,k)=>if(k==QW&&env.scope.kind== .function&&env.kindOf n==some .cell)then(n,Be)else(n,k)).lookup x=none
 | [],_,_=>rfl
 | (n,k') :: r,x,h=>by
  have ih:=@Zep env r x
  show List.lookup x ((if(k'==QW&&env.scope.kind== .function&&env.kindOf n==some .cell)=true then(n,Be)else(n,k')) :: _)=_
  cases hx:x==n with
  | true=>
   simp only[QX,hx]at h
   cases h
  | false=>
   simp only[QX,hx]at h
   split
   ·simp only[QX,hx];exact ih h
   ·simp only[QX,hx];exact ih h
theorem Zdm{α:Type}:∀{l:List (Str×α)} {n:Str} {c:α},(l.map (·.1)).Nodup->(n,c)∈l->l.lookup n=some c
 | (k,v) :: r,n,c,hd,h=>by
  rw[Qs,XX]at hd
  rcases Xk.mp h with e|hr
  ·cases e
   simp[QX]
  ·have hne:(n==k)=false:=by
    refine VP.mpr λz=>hd.1 ?_
    have e:n=k:=beq_iff_eq.mp z
    rw[←e]
    exact XF.mpr ⟨(n,c),hr,rfl⟩
   rw[QX,hne]
   exact Zdm hd.2 hr
theorem Yq{α:Type}:∀{l:List (Str×α)} {n:Str} {c:α},(n,c)∈l->∃d,l.lookup n=some d∧(n,d)∈l
 | (k,v) :: r,n,c,h=>by
  by_cases e:n=k
  ·subst e
   exact⟨v,by simp[QX],Uo⟩
  ·have hne:(n==k)=false:=by simpa using e
   rcases Xk.mp h with z|z
   ·cases z;exact absurd rfl e
   ·obtain⟨d,h1,h2⟩:=Yq z
    exact⟨d,by rw[QX,hne];exact h1,.tail _ h2⟩
structure CompScope(X:Cx)(own:List Str)(caps:List Nat)(N':List Str)(sc:Ua):Prop where
 kind:sc.kind= .function
 nd:N'.Nodup
 names:N'=own ++ caps.map λi=>X.N.getD i Str.empty
 nn:(sc.names.map (·.1)).Nodup
 free:(sc.names.all λy=>y.2 != .free||(X.env.kindOf y.1==some .cell||X.env.kindOf y.1==some .free))=true
 caps:(caps.all λi=>sc.names.lookup (X.N.getD i Str.empty)==some .free)=true
noncomputable def Jp(own:List Str)(caps:List Nat)(σ:St):St:=own.map (λ_=>none) ++ caps.map λi=>(σ[i]?).getD none
section
variable {X:Cx}{own:List Str}{caps:List Nat}{N':List Str}{sc:Ua}
theorem CompScope.lk(S:CompScope X own caps N' sc){n:Str}{k:Br}(h:(n,k)∈sc.names):sc.names.lookup n=some k:=Zdm S.nn h
theorem CompScope.fr(S:CompScope X own caps N' sc){n:Str}(h:(n,QW)∈sc.names):X.env.kindOf n=some .cell∨X.env.kindOf n=some .free:=by
 have:=Bh.mp S.free _ h
 simpa using this
theorem Znk{pins:List (Addr×Obj)}{σ:St}{H:Hp}{s:Xe}{fp:List Addr}{cl:List (Str×Addr)}(S:CompScope X own caps N' sc)(I:Inv X pins σ H s)
  (f:∀b∈fp,Zhv X pins H b) (fo:∀b∈fp,∃o,s.heap.get? b=some o)
  (hcl:∀n c,(n,c)∈cl->(n,QW)∈sc.names∧X.env.cells.lookup n=some c) (hcl2:∀n,(n,QW)∈sc.names->∃c,(n,c)∈cl) (hapart:cl.Pairwise λx y=>x.2≠y.2) :
  Inv (Yu X N' sc (s.heap.objs.size+1) (Bc (s.heap.objs.size+2) sc.names cl) s H fp) [] (Jp own caps σ) (upd H s.heap.objs.size (.lst []))
   { s with heap:=BR ((s.heap.push { cls:=.type "list",data:=.seq #[] }).push { cls:=.type "dict",data:=.dict #[] }) sc.names }:=by
 generalize hh1:s.heap.push { cls:=.type "list",data:=.seq #[] }=h1
 have z1:h1.objs.size=s.heap.objs.size+1:=by rw[←hh1,Q9]
 generalize hh2:h1.push { cls:=.type "dict",data:=.dict #[] }=h2
 have z2:h2.objs.size=s.heap.objs.size+2:=by rw[←hh2,Q9,z1]
 have BC:=Zee sc.names h2 (s.heap.objs.size+2) cl (by omega)
 have AP:=Zf1 sc.names h2 cl hapart (λp hp=>by
  obtain⟨v,hv⟩:=I.cell p.1 p.2 (hcl p.1 p.2 hp).2
  exact Qj hv.lt (by omega))
 rw[z2]at BC AP
 have keep:∀b o,s.heap.get? b=some o->(BR h2 sc.names).get? b=some o:=λb o e=>Us _ _ _ _ (by
  rw[←hh2]
  refine Xl _ ?_
  rw[←hh1]
  exact Xl _ e)
 have hD:(BR h2 sc.names).get? s.heap.objs.size=some { cls:=.type "list",data:=.seq #[] }:=Us _ _ _ _ (by
  rw[←hh2]
  refine Xl _ ?_
  rw[←hh1]
  exact Qi _ rfl)
 have hC:(BR h2 sc.names).Ns (s.heap.objs.size+1) (λ_=>none):=by
  refine Heap.Ns.keeps ?_ (Us _ _)
  have:=Heap.Ns.new h1 (.type "dict")
  rw[hh2,z1]at this
  exact this
 have cellOld:∀n c,X.env.cells.lookup n=some c->c<s.heap.objs.size:=λn c e=>by
  obtain⟨v,hv⟩:=I.cell n c e
  exact hv.lt
 have lk':∀n c,(Bc (s.heap.objs.size+2) sc.names cl).lookup n=some c->(n,c)∈Bc (s.heap.objs.size+2) sc.names cl:=λn c e=>JT e
 have hnD:H s.heap.objs.size=none:=I.fresh
 have fresh:∀c,s.heap.objs.size<c->upd H s.heap.objs.size (.lst []) c=none:=λc hc=>by
  rw[Zu (XH hc)]
  exact I.hok.fresh (V1 hc)
 have isc:∀n c,(n,c)∈Bc (s.heap.objs.size+2) sc.names cl->∃v,(BR h2 sc.names).IsCell c v:=λn c m=>by
  rcases BC.mem n c m with z|⟨z,_⟩
  ·obtain⟨v,hv⟩:=I.cell n c (hcl n c z).2
   exact⟨v,hv.keeps keep⟩
  ·exact⟨none,z⟩
 have okH:HOk X.prog X.w (upd H s.heap.objs.size (.lst [])) (BR h2 sc.names):=by
  refine I.hok.laid keep (X4 _) ?_
  exact⟨QQ _,[],0,.nil,hD⟩
 have kinds:∀x k,sc.names.lookup x=some k->(relabel sc X.env).names.lookup x=some (if(k==QW&&X.env.scope.kind== .function&&X.env.kindOf x==some .cell)then Be else k):=λx k e=>Zcq e
 have kindsR:∀x k,(relabel sc X.env).names.lookup x=some k->∃k',(x,k')∈sc.names∧k=(if(k'==QW&&X.env.scope.kind== .function&&X.env.kindOf x==some .cell)then Be else k'):=λx k e=>by
  cases q:sc.names.lookup x with
  | none=>
   have:=Zep (env:=X.env) q
   rw[show(relabel sc X.env).names.lookup x=_ from this]at e
   cases e
  | some k'=>
   refine⟨k',JT q,?_⟩
   rw[kinds x k' q]at e
   exact(Qt e).symm
 refine⟨⟨I.ok.mod,S.kind,I.ok.glob,I.ok.blt,?_,?_,?_,?_,I.ok.hd,I.ok.frames,.inl rfl,?_,?_,?_,?_,?_,?_,?_⟩,rfl,I.bare,?_,?_,?_,?_,?_,(λp hp=>nomatch hp),okH,?_⟩
 ·show s.heap.objs.size≤s.heap.objs.size+1;omega
 ·intro x y c e1 e2
  exact name_of_addr AP (lk' x c e1) (lk' y c e2)
 ·intro x hx
  rcases hx with hx|hx
  ·obtain⟨k',hm,hk'⟩:=kindsR x _ hx
   cases k' with
   | cell=>
    obtain⟨c,hc⟩:=BC.has x hm
    obtain⟨d,h1,_⟩:=Yq hc
    exact⟨d,h1⟩
   | free=>
    obtain⟨c,hc⟩:=hcl2 _ hm
    obtain⟨d,h1,_⟩:=Yq (BC.old _ hc)
    exact⟨d,h1⟩
   | _=>simp at hk'
  ·obtain⟨k',hm,hk'⟩:=kindsR x _ hx
   cases k' with
   | free=>
    obtain⟨c,hc⟩:=hcl2 _ hm
    obtain⟨d,h1,_⟩:=Yq (BC.old _ hc)
    exact⟨d,h1⟩
   | _=>simp at hk'
 ·intro x c hf e
  have hf':sc.names.lookup x=some .cell:=by simpa [Yu]using hf
  rcases BC.mem x c (lk' x c e)with z|⟨_,z,_⟩
  ·-- a free one and a cell at once: the name stands once
   exfalso
   have q:=S.lk (hcl x c z).1
   rw[hf']at q
   cases q
  ·show s.heap.objs.size≤c;omega
 ·intro b hb
  obtain⟨o,ho⟩:=fo b hb
  have hlt:=Xw ho
  refine⟨Xp (V0 hlt (Vc _)),λx c e z=>?_⟩
  rcases BC.mem x c (lk' x c e)with q|⟨_,q,_⟩
  ·exact(f b hb).2.2.2.2.1 x c (hcl x c q).2 z
  ·subst z
   exact absurd hlt (Nat.not_lt.mpr (Qy (Vq _ 2) q))
 ·exact I.bs
 ·exact Qy I.ok.bsz I.sz
 ·intro b o e hb
  rcases(f b hb).2.2.2.1 with z|z
  ·exact I.ok.noex b o e z
  ·exact absurd (Qj (Xw e) I.ok.bsz) (Nat.not_lt.mpr z)
 ·intro b hb z
  rcases Xk.mp (I.stkSub b z)with q|q
  ·exact(f b hb).2.1 q
  ·exact(f b hb).2.2.1 q
 ·exact I.stack
 ·exact I.stkFree
 ·exact Un.laid keep (X4 _) hnD
 ·refine⟨_,hC,λi x v e1 e2 e3=>?_⟩
  have e1':(own ++ caps.map λi=>X.N.getD i Str.empty)[i]? =some x:=by rw[←S.names];exact e1
  have e2':(own.map (λ_=>(none:Option V)) ++ caps.map λi=>(σ[i]?).getD none)[i]? =some (some v):=e2
  by_cases hi:i<own.length
  ·rw[Vt (by simpa using hi),Xn]at e2'
   cases q:own[i]? with
   | none=>rw[q]at e2';cases e2'
   | some y=>rw[q]at e2';cases e2'
  ·rw[JW (by simpa using hi),Xn]at e2'
   rw[JW (by omega),Xn]at e1'
   rw[Xg]at e2'
   cases q:caps[i-own.length]? with
   | none=>rw[q]at e2';cases e2'
   | some j=>
    rw[q]at e1' e2'
    have e1:X.N.getD j Str.empty=x:=Qt e1'
    have e2:(σ[j]?).getD none=some v:=Qt e2'
    have e4:σ[j]? =some (some v):=by
     cases r:σ[j]? with
     | none=>rw[r]at e2;cases e2
     | some o=>rw[r]at e2;exact congrArg some e2
    have hj:j<X.N.length:=by rw[←I.len];exact(Xj.mp e4).1
    have e5:X.N[j]? =some x:=by rw[←e1];simp[Xd,hj]
    have hc:=Bh.mp S.caps j (Qz q)
    have e6:sc.names.lookup x=some .free:=by rw[←e1];simpa using hc
    have hm:=JT e6
    have kx:=S.fr hm
    obtain⟨m,hn,hl⟩:=I.loc
    obtain⟨u,ru,lo⟩:=hl j x v e5 e4 (by rcases kx with z|z;exact .inr (.inl z);exact .inr (.inr z))
    refine⟨u,ru,.inr ⟨?_,?_⟩⟩
    ·have:=kinds x _ e6
     show(relabel sc X.env).names.lookup x=_∨(relabel sc X.env).names.lookup x=_
     rw[this]
     split
     ·exact .inl rfl
     ·exact .inr rfl
    ·rcases lo with⟨z,_⟩|⟨_,c,hc1,hc2⟩
     ·rcases kx with w|w<;>(rw[w]at z;cases z)
     ·obtain⟨d,hd⟩:=hcl2 x hm
      obtain⟨d',h1,h2⟩:=Yq (BC.old _ hd)
      refine⟨d',h1,?_⟩
      rcases BC.mem x d' h2 with w|⟨_,_,w⟩
      ·have w':=(hcl x d' w).2
       rw[hc1]at w'
       cases w'
       exact hc2.keeps keep
      ·have:=S.lk w
       rw[e6]at this
       cases this
 ·intro x c e
  exact isc x c (lk' x c e)
 ·exact fresh _ (Vc _)
 ·intro x c e
  rcases BC.mem x c (lk' x c e)with z|⟨_,z,_⟩
  ·have e':=(hcl x c z).2
   have hlt:=cellOld x c e'
   rw[Zu (Xp hlt)]
   exact I.freeC x c e'
  ·exact fresh c (by omega)
 ·show(Jp own caps σ).length=N'.length
  rw[S.names]
  unfold Jp
  simp
end
noncomputable def Zso(J:It)(g:TG)(tt:TT)(te:TE)(σ0:St)(D:Addr)(Q:Hp->Prop)(H1:Hp):Prop :=
 ∃W:Nat->Nat->St->Hp->Prop,(∃m,W 0 m σ0 (upd H1 D (.lst [])))∧∀i m σ' H',W i m σ' H' ->
  (J.stop i H'∧Q H')∨(J.go i H'∧∀x H2,J.yld i H' x H2->g x σ' H2 λσ2 H3=>tt σ2 H3 λb H4=>
   if b=true then te σ2 H4 λy H5=>∃ys,H5 D=some (.lst ys)∧ys.length<Xq∧∃m',m'<m∧W (i+1) m' σ2 (upd H5 D (.lst (ys ++ [y])))
   else∃m',m'<m∧W (i+1) m' σ2 H4)
noncomputable def Zxv(own:List Str)(caps:List Nat)(wi:TI)(g:TG)(tt:TT)(te:TE):TE:=λσ H Q=>wi σ H λJ H1=>∀D,H1 D=none->Zso J g tt te (Jp own caps σ) D (Q (.ref D)) H1
noncomputable def Z8n:TT:=λ_ H Q=>Q true H
noncomputable def Zx5(X:Cx)(ifs:List Expr)(t:TT):Prop :=
 ∀(pins:List (Addr×Obj)) (s:Xe) (σ:St) (H:Hp) (Q:Bool->Hp->Prop),Inv X pins σ H s->t σ H Q ->
  X5 (Qd X.prog X.w) X.A (forIn ifs true λc r=>if r=true then do let ok←isTrue c X.env (eval c X.env);pure (JR ok)else pure (JR r)) (TP X pins σ Q) X.xe s
theorem Zye{X:Cx}:Zx5 X [] Z8n:=λpins s σ H Q I h=>by
 rw[VN]
 exact Qc ⟨H,I,h⟩
theorem Zww{X:Cx}{c:Expr}{t:TT}(h:PT X c t):Zx5 X [c] t:=λpins s σ H Q I q=>wpAny_tests_one (h pins s σ H Q I q)
theorem Z05{M:Model}{A:Qo}{α:Type}{t:Sem α}{Q Q':α->Xe->Prop}{E:Xc->Xe->Prop}{s:Xe}(h:X5 M A t Q (λ_ _=>False) s)(hQ:∀a s,Q a s->Q' a s):X5 M A t Q' E s :=
 Bs h hQ λ_ _ z=>z.elim
section
variable {X:Cx}{own:List Str}{caps:List Nat}{N':List Str}{sc:Ua}{tg elt iter:Expr}{ifs:List Expr}{pos:Pos}{wi:TI}{g:TG}{tt:TT}{te:TE}
theorem Zm0{pins p':List (Addr×Obj)}{σ σ':St}{H H':Hp}{s s':Xe}{fp:List Addr}{C:Addr}{cells:List (Str×Addr)}{h':Heap}(I:Inv X pins σ H s)(f:∀b∈fp,Zhv X pins H b)
  (I':Inv (Yu X N' sc C cells s H fp) p' σ' H' s') (hs:Vp C s'.heap h'):Inv X pins σ H' { s' with heap:=h' }:=by
 have hC:s.heap.objs.size≤C:=I'.ok.above
 have B:=I'.base
 have ne:∀b o,s.heap.get? b=some o->b≠C:=λb o e=>Xp (Qj (Xw e) hC)
 obtain⟨m,⟨oC,_,_,hoC,_⟩,_⟩:=I'.loc
 refine I.call' (ch:=fp) (s':={ s' with heap:=h' }) I'.os ⟨λb o e n hb hx=>?_,λb o e n hb hx=>?_,B.free,λb o e hx=>?_,B.tups,B.frzs,B.tbls⟩ (λb ob e=>?_) I'.bare λb hb=>?_
 ·exact(hs.2 b (ne b o e)).trans (B.keep b o e n hb hx)
 ·obtain⟨sl,q⟩:=B.slot b o e n hb hx
  exact⟨sl,(hs.2 b (ne b o e)).trans q⟩
 ·obtain⟨o',q⟩:=B.there b o e hx
  exact⟨o',(hs.2 b (ne b o e)).trans q⟩
 ·have hfree:H' C=none:=I'.free
  refine(I'.hok b ob e).stay (λc w' hc q=>(hs.2 c ?_).trans q) (λ_ q=>q) λ_ _ q=>q
  rintro rfl
  rcases hc with rfl|hc
  ·rw[hfree]at e;cases e
  ·rw[hfree]at hc;cases hc
 ·obtain⟨_,f1,_,f3,f4,f5⟩:=f b hb
  exact⟨f3,f1,f4,f5⟩
theorem Zhi{Qf:Result->Xe->Prop}(S:CompScope X own caps N' sc)(hc:X.calm=true)
  (hg:∀C cells s₂ H₂ fp,PG (Yu X N' sc C cells s₂ H₂ fp) tg g) (ht:∀C cells s₂ H₂ fp,Zx5 (Yu X N' sc C cells s₂ H₂ fp) ifs tt) (he:∀C cells s₂ H₂ fp,PE (Yu X N' sc C cells s₂ H₂ fp) elt te)
  {pins:List (Addr×Obj)} {σ:St} {H:Hp} {s:Xe} {fp:List Addr} {it:Addr} {tn:Nat->Heap->Prop} {J:It} {Q:Hp->Prop} (I:Inv X pins σ H s) (T:Turn X.prog X.w X.K tg J fp it tn) (st:tn 0 s.heap) (f:∀b∈fp,Zhv X pins H b)
  (h:Zso J g tt te (Jp own caps σ) s.heap.objs.size Q H)
  (fin:∀s' σ' H' p' C cells,Inv (Yu X N' sc C cells s H fp) p' σ' H' s'->C=s.heap.objs.size+1->Q H'->Qf (.ok .next) s') :
  X5 (Qd X.prog X.w) X.A (newFunctionEnv sc X.env.globals (Zgo X.env sc.names []) [] X.env.qual none .none (some X.env)) (λcenv s₄=>
   cenv.locals=s.heap.objs.size+1∧codeAny (Qd X.prog X.w) X.A (.compStart (.ListComp elt [⟨tg,iter,ifs,0⟩] sc pos) 0 (.ref it) (.ref s.heap.objs.size) { cenv with scope:=relabel sc X.env }) Qf s₄) X.xe
    { s with heap:=s.heap.push { cls:=.type "list",data:=.seq #[] } }:=by
 have hf:∀y∈sc.names,y.2= .free->∃c,X.env.cells.lookup y.1=some c:=λy hy e=>by
  obtain⟨n,k⟩:=y
  have e':k= .free:=e
  subst e'
  exact I.ok.has n (S.fr hy)
 have hcl:∀n c,(n,c)∈Zgo X.env sc.names []->(n,QW)∈sc.names∧X.env.cells.lookup n=some c:=λn c m=>(Zip sc.names [] hf n c m).elim (λz=>nomatch z) id
 have hap:=Zd1 I.ok.inj sc.names [] hf S.nn (λ_ z=>nomatch z) (λ_ z=>nomatch z) .nil
 have I0:=Znk (cl:=Zgo X.env sc.names []) S I f (λb hb=>let⟨o,e,_⟩:=T.obj _ _ st b hb;⟨o,e⟩) hcl (λn m=>Zhr sc.names [] n m) hap
 refine Zgy ?_
 rw[show({ s with heap:=s.heap.push { cls:=.type "list",data:=.seq #[] } }:Xe).heap.objs.size=s.heap.objs.size+1 from Q9 ..]
 refine⟨rfl,?_⟩
 dsimp only
 generalize hs0:({ s with heap:=BR ((s.heap.push { cls:=.type "list",data:=.seq #[] }).push { cls:=.type "dict",data:=.dict #[] }) sc.names }:Xe)=s0 at I0⊢
 have st0:tn 0 s0.heap:=T.keep _ _ _ st λb hb o e=>by
  rw[←hs0]
  exact Us _ _ _ _ (Xl _ (Xl _ e))
 generalize hcells:Bc (s.heap.objs.size+1+1) sc.names (Zgo X.env sc.names [])=cells at I0⊢
 -- the loop
 obtain⟨W,⟨m0,w0⟩,turn⟩:=h
 have loop:codeAny (Qd X.prog X.w) X.A (.compLoop (.ListComp elt [⟨tg,iter,ifs,0⟩] sc pos) 0 (.ref it) (.ref s.heap.objs.size) (Yu X N' sc (s.heap.objs.size+1) cells s H fp).env) Qf s0:=by
  generalize hX':Yu X N' sc (s.heap.objs.size+1) cells s H fp=X' at I0⊢
  have hg':=hg (s.heap.objs.size+1) cells s H fp
  have ht':=ht (s.heap.objs.size+1) cells s H fp
  have he':=he (s.heap.objs.size+1) cells s H fp
  have fin':=λs' σ' H' p' (z:Inv (Yu X N' sc (s.heap.objs.size+1) cells s H fp) p' σ' H' s')=>fin s' σ' H' p' _ _ z rfl
  rw[hX']at hg' ht' he' fin'
  have hxe:X'.xe= λ_ _=>False:=by rw[←hX'];rfl
  have hpr:X'.prog=X.prog:=by rw[←hX'];rfl
  have hw:X'.w=X.w:=by rw[←hX'];rfl
  have hK:X'.K=X.K:=by rw[←hX'];rfl
  have hA:X'.A=X.A:=by rw[←hX'];rfl
  have hcm:X'.calm=true:=by rw[←hX'];exact hc
  have hex:X'.ex=fp:=by rw[←hX'];rfl
  have hpn:X'.pn=[]:=by rw[←hX'];rfl
  have stat:∀{H':Hp},(∀b∈fp,H' b=none)->∀b∈fp,Zhv X' [] H' b:=λhn b hb=>by
   have e1:=I0.ok.exf b (by rw[hex];exact hb)
   have e2:=I0.ok.exfs b (by rw[hex];exact hb)
   exact⟨hn b hb,e1.1,e2,.inl (by rw[hex];exact hb),e1.2,λp hp=>by rw[hpn]at hp;exact nomatch hp⟩
  have frD:∀b∈fp,(upd H s.heap.objs.size (.lst [])) b=none:=λb hb=>by
   obtain⟨o,e,_⟩:=T.obj _ _ st b hb
   rw[Zu (Xp (Xw e))]
   exact(f b hb).1
  have T':Turn X'.prog X'.w X'.K tg J fp it tn:=by rw[hpr,hw,hK];exact T
  rw[←hpr,←hw,←hA]
  refine Zkh (λn s'=>∃i σ' H',Inv X' [] σ' H' s'∧tn i s'.heap∧(∀b∈fp,H' b=none)∧W i n σ' H') ?_ m0 ⟨0,_,_,I0,st0,frD,w0⟩
  rintro n s3 ⟨i,σ3,H3,I3,st3,fr3,w3⟩
  rcases turn i n σ3 H3 w3 with⟨stop,qn⟩|⟨go,step⟩
  ·refine Z05 (T'.done X' rfl rfl rfl hcm i [] s3 σ3 H3 _ I3 (stat fr3) st3 stop) λr s4 qz9=>?_
   obtain⟨hr,I4⟩:=qz9
   subst hr
   exact fin' s4 σ3 H3 [] I4 qn
  ·refine Z05 (T'.item X' rfl rfl rfl hcm i [] s3 σ3 H3 _ I3 (stat fr3) st3 go) λr s4 qz9=>?_
   obtain⟨u,hr,h4⟩:=qz9
   subst hr
   refine Z05 h4 λ_ s5 qz9=>?_
   obtain⟨x,H5,I5,r5,y5,st5,fr5⟩:=qz9
   have I5':=I5.pinned (stat fr5) (T.obj _ _ st5)
   have hgg:=hg' _ s5 σ3 H5 x u _ I5' r5 (step x H5 y5)
   rw[hxe]at hgg
   refine Z05 hgg λ_ s6 qz9=>?_
   obtain⟨σ6,H6,I6,q6⟩:=qz9
   have htt:=ht' _ s6 σ6 H6 _ I6 q6
   rw[hxe]at htt
   refine Z05 htt λok s7 qz9=>?_
   obtain⟨H7,I7,q7⟩:=qz9
   have again:∀{σ7:St} {H7:Hp} {s7:Xe} {m:Nat},Inv X' ([] ++ Zj8 fp s5.heap) σ7 H7 s7->W (i+1) m σ7 H7->m<n->∃m,m<n∧∃i σ' H',Inv X' [] σ' H' s7∧tn i s7.heap∧(∀b∈fp,H' b=none)∧W i m σ' H':=fun{σ7 H7 s7 m} I7 w7 hm=>by
    refine⟨m,hm,i+1,σ7,H7,I7.unpinned,T.keep _ _ _ st5 λb hb o e=>(I7.pin (b,o) (XM _ (XM _ (Zcd hb e)))).1,λb hb=>?_,w7⟩
    obtain⟨o,e,d⟩:=T.obj _ _ st5 b hb
    exact(I7.pin (b,o) (XM _ (XM _ (Zcd hb e)))).2.1
   cases ok with
   | false=>
    obtain⟨m',hm,w7⟩:=q7
    rw[if_neg Xy]
    exact again I7 w7 hm
   | true=>
    rw[if_pos rfl]
    have hee:=he' _ s7 σ6 H7 _ I7 q7
    rw[hxe]at hee
    refine Z05 hee λy s8 qz9=>?_
    obtain⟨vy,H8,I8,r8,ys,hD,hlen,m',hm,w8⟩:=qz9
    have hap:=Zdo (X:=X') _ s8 σ6 H8 (.ref s.heap.objs.size) [vy] (.ref s.heap.objs.size) [y] (λ_ H'=>W (i+1) m' σ6 H') I8 rfl (.cons r8 .nil) ⟨_,ys,vy,rfl,rfl,hD,hlen,w8⟩
    rw[hxe]at hap
    refine Z05 hap λz s9 qz9=>?_
    obtain⟨_,H9,I9,_,w9⟩:=qz9
    exact again I9 w9 hm
 exact codeAny_compStart_list loop (T.self _ 0 _ _ _ st0 loop)
theorem Zop(S:CompScope X own caps N' sc)(hc:X.calm=true)(hi:PI X tg iter wi)
  (hg:∀C cells s₂ H₂ fp,PG (Yu X N' sc C cells s₂ H₂ fp) tg g) (ht:∀C cells s₂ H₂ fp,Zx5 (Yu X N' sc C cells s₂ H₂ fp) ifs tt) (he:∀C cells s₂ H₂ fp,PE (Yu X N' sc C cells s₂ H₂ fp) elt te)
  (hs:∀x,Q7 iter X.env x=pure x:=by intro _;rfl):PE X (.ListComp elt [⟨tg,iter,ifs,0⟩] sc pos) (Zxv own caps wi g tt te):=by
 intro pins s σ H Q I h
 rw[eval_ListComp]
 have hf:∀y∈sc.names,y.2= .free->∃c,X.env.cells.lookup y.1=some c:=λy hy e=>by
  obtain⟨n,k⟩:=y
  have e':k= .free:=e
  subst e'
  exact I.ok.has n (S.fr hy)
 refine wpAny_comprehension_free (use:=none) rfl hs (Zcl hf) S.kind (λy hy e=>by obtain⟨n,k⟩:=y;have e':k= .local:=e;subst e';exact S.lk hy) ?_
 refine thn (hi pins s σ H _ I h) λv s1 h1=>thn h1 λitv s2 h2=>?_
 obtain⟨it,fp,tn,J,H2,e,I2,T,st2,f2,q⟩:=h2
 subst e
 refine wpAny_newObj_type ?_
 refine thn (Zhi (iter:=iter) (pos:=pos) (Qf:=compPost (Qd X.prog X.w) X.A X.xe none (EP X pins σ Q) (.ref s2.heap.objs.size) (s2.heap.objs.size+1)) S hc hg ht he I2 T st2 f2 (q s2.heap.objs.size I2.fresh) ?_) λcenv s4 ⟨hl,hr⟩=>?_
 ·intro s' σ' H' p' C cells I' eC q'
  subst eC
  obtain⟨m,hn,_⟩:=id I'.loc
  exact⟨m,hn,λh' hs'=>⟨.ref s2.heap.objs.size,H',Zm0 I2 f2 I' hs',rfl,q'⟩⟩
 ·rw[←hl]at hr
  exact hr
end
section
variable {X:Cx}{own:List Str}{caps:List Nat}{N':List Str}{sc:Ua}{tg elt iter:Expr}{ifs:List Expr}{pos:Pos}{wi:TI}{g:TG}{tt:TT}{te:TE}
theorem Zoa{i:Nat}{y:Str}{py spos:Pos}(hN:X.N.Nodup)(hy:X.N[i]? =some y)(hx:Loc X.env.scope y)(S:CompScope X own caps N' sc)(hc:X.calm=true)(hi:PI X tg iter wi)
  (hg:∀C cells s₂ H₂ fp,PG (Yu X N' sc C cells s₂ H₂ fp) tg g) (ht:∀C cells s₂ H₂ fp,Zx5 (Yu X N' sc C cells s₂ H₂ fp) ifs tt) (he:∀C cells s₂ H₂ fp,PE (Yu X N' sc C cells s₂ H₂ fp) elt te)
  (hsw:BZ (.ListComp elt [⟨tg,iter,ifs,0⟩] sc pos) (some (.Name y py)) spos.line X.env=pure true:=by rfl)
  (hs:∀x,Q7 iter X.env x=pure x:=by intro _;rfl) (hf:X.fn y=true∨X.env.scope.names.lookup y=some .local:=by first|exact .inl rfl|exact .inr rfl|assumption) :
  PS X (.Assign [.Name y py] (.ListComp elt [⟨tg,iter,ifs,0⟩] sc pos) spos) (Z1p (Zxv own caps wi g tt te) (Zi3 i)):=by
 intro pins s σ H D I h
 have hfr:∀y∈sc.names,y.2= .free->∃c,X.env.cells.lookup y.1=some c:=λy hy e=>by
  obtain⟨n,k⟩:=y
  have e':k= .free:=e
  subst e'
  exact I.ok.has n (S.fr hy)
 rw[exec_Assign_Name_used _ _ _ _ hsw]
 refine Xf (wpAny_standAt (Xf ?_))
 show X5 _ X.A (do let _←comprehension (.ListComp elt [⟨tg,iter,ifs,0⟩] sc pos) sc X.env _ (newList []) false (eval iter X.env) (some (V9 (.Name y py) X.env))) _ _ s
 refine Xf (Bs (wpAny_comprehension_free (use:=some (V9 (.Name y py) X.env)) (Q:=λ_ s'=>SP X pins D .next s') rfl hs (Zcl hfr) S.kind (λy hy e=>by obtain⟨n,k⟩:=y;have e':k= .local:=e;subst e';exact S.lk hy) ?_) (λ_ s' hq=>Qc (Qc hq)) λ_ _ e=>e)
 refine thn (hi pins s σ H _ I h) λv s1 h1=>thn h1 λitv s2 h2=>?_
 obtain⟨it,fp,tn,J,H2,e,I2,T,st2,f2,q⟩:=h2
 subst e
 refine wpAny_newObj_type ?_
 refine thn (Zhi (iter:=iter) (pos:=pos) (Qf:=compPost (Qd X.prog X.w) X.A X.xe (some (V9 (.Name y py) X.env)) (λ_ s'=>SP X pins D .next s') (.ref s2.heap.objs.size) (s2.heap.objs.size+1)) S hc hg ht he I2 T st2 f2 (q s2.heap.objs.size I2.fresh) ?_) λcenv s4 ⟨hl,hr⟩=>?_
 ·intro s' σ' H' p' C cells I' eC q'
  subst eC
  obtain⟨m,hn,_⟩:=id I'.loc
  have I3:Inv X pins σ H' s':=Zm0 I2 f2 I' (.refl ..)
  show X5 _ X.A (V9 (.Name y py) X.env (.ref s2.heap.objs.size)) _ _ s'
  refine wpAny_assign_Name (Zjh (v:=.ref s2.heap.objs.size) I3 hN hy hx rfl (λs5 I5 hsb=>?_) hf)
  have hC:s2.heap.objs.size<s2.heap.objs.size+1:=Vc _
  have ltL:X.env.locals<s2.heap.objs.size:=I2.lt
  have ltC:∀x c,X.env.cells.lookup x=some c->c<s2.heap.objs.size:=λx c e=>by
   obtain⟨w',z⟩:=I2.cell x c e
   exact z.lt
  refine⟨m,?_,λh' hs'=>⟨σ.set i (some (.ref s2.heap.objs.size)),H',?_,q'⟩⟩
  ·obtain⟨a,hsa,ha⟩:=hsb
   refine hn.sameBut hsa ?_
   rcases ha with ha|ha
   ·rw[ha];exact XH (V0 ltL hC)
   ·exact XH (V0 (ltC _ _ ha) hC)
  ·refine I5.turned (t':=s5.toks) (it:=s2.heap.objs.size+1) (λb o hb e=>(hs'.2 b hb).trans e) I'.free (XH (V0 ltL hC)) (.inr (Qy I2.sz (V1 hC))) (λx c e=>Xp (V0 (ltC x c e) hC)) λp hp=>?_
   obtain⟨e,_⟩:=I2.pin p hp
   exact Xp (V0 (Xw e) hC)
 ·rw[←hl]at hr
  exact hr
end
section
variable (n:Nat)(D:Addr)(Pv:Nat->List V->St->Hp->Prop)
variable {n D Pv}
end
mutual
inductive Is(H:Hp)(L:Addr->Prop):V->Xa->Prop where
 | non:Is H L .non .none
 | bl (b:Bool):Is H L (.bl b) (.bool b)
 | int (i:Int):Is H L (.int i) (.int i)
 | str (x:Str):Is H L (.str x) (.str x)
 | lst {a:Addr} {xs:List V} {ds:List Xa}:L a->H a=some (.lst xs)->IsAll H L xs ds->Is H L (.ref a) (.list ds)
 | tup {a:Addr} {xs:List V} {ds:List Xa}:H a=some (.tup xs)->IsAll H L xs ds->Is H L (.ref a) (.tuple ds)
inductive IsAll(H:Hp)(L:Addr->Prop):List V->List Xa->Prop where
 | nil:IsAll H L [] []
 | cons {x:V} {xs:List V} {d:Xa} {ds:List Xa}:Is H L x d->IsAll H L xs ds->IsAll H L (x :: xs) (d :: ds)
end
section
variable {H H':Hp}{L L':Addr->Prop}
theorem IsAll.ind{Q:List V->List Xa->Prop}(n:Q [] [])(c:∀{x:V} {xs:List V} {d:Xa} {ds:List Xa},Is H L x d->IsAll H L xs ds->Q xs ds->Q (x :: xs) (d :: ds)):∀{xs ds},IsAll H L xs ds->Q xs ds:=λh=>
 IsAll.rec (motive_1:=λ_ _ _=>True) (motive_2:=λxs ds _=>Q xs ds) trivial (λ_=>trivial) (λ_=>trivial) (λ_=>trivial) (λ_ _ _ _=>trivial) (λ_ _ _=>trivial) n (λp q _ r=>c p q r) h
theorem IsAll.length{xs:List V}{ds:List Xa}(h:IsAll H L xs ds):xs.length=ds.length:=IsAll.ind (Q:=λxs ds=>xs.length=ds.length) rfl (λ_ _ r=>congrArg (·+1) r) h
theorem IsAll.set{xs:List V}{ds:List Xa}{x:V}{d:Xa}(i:Nat)(h:IsAll H L xs ds)(k:Is H L x d):IsAll H L (xs.set i x) (ds.set i d) :=
 IsAll.ind (Q:=λxs ds=>∀i,IsAll H L (xs.set i x) (ds.set i d)) (λ_=>.nil) (λh q r i=>Nat.casesOn i (.cons k q) λi=>.cons h (r i)) h i
end
section
variable {X:Cx}{pins:List (Addr×Obj)}{σ:St}{H:Hp}{s:Xe}{L L':Addr->Prop}
end
noncomputable abbrev Shp(d:Xa):Prop:=VJ d=true
section
variable {X:Cx}
end
mutual
noncomputable def Yl:Xa->Bool
 | .none=>true
 | .int _=>true
 | .str _=>true
 | .list ds=>Jm ds
 | .tuple ds=>Jm ds
 | _=>false
noncomputable def Jm:List Xa->Bool
 | []=>true
 | d :: ds=>Yl d&&Jm ds
end
mutual
theorem Zkz:∀(d e:Xa),Yl d=true->Yl e=true->(JF d e=true↔d=e)
 | .none,e,_,he=>by cases e<;>simp_all [JF,Yl]
 | .int i,e,_,he=>by cases e<;>simp_all [JF,Yl]
 | .str i,e,_,he=>by cases e<;>simp_all [JF,Yl]
 | .list ds,e,hd,he=>by
  cases e with
  | list es=>
   rw[Yl]at hd he
   rw[JF,QH.injEq]
   exact Zef ds es hd he
  | _=>simp_all [JF,Yl]
 | .tuple ds,e,hd,he=>by
  cases e with
  | tuple es=>
   rw[Yl]at hd he
   rw[JF,Xa.tuple.injEq]
   exact Zef ds es hd he
  | _=>simp_all [JF,Yl]
 | .bool b,e,hd,_=>by simp[Yl]at hd
 | .dict b,e,hd,_=>by simp[Yl]at hd
theorem Zef:∀(ds es:List Xa),Jm ds=true->Jm es=true->(Uz ds es=true↔ds=es)
 | [],[],_,_=>by simp[Uz]
 | [],_ :: _,_,_=>by simp[Uz]
 | _ :: _,[],_,_=>by simp[Uz]
 | d :: ds,e :: es,hd,he=>by
  rw[Jm,XC]at hd he
  rw[Uz,XC,Zkz d e hd.1 he.1,Zef ds es hd.2 he.2,List.cons.injEq]
end
theorem Zvb{d e:Xa}(h:Yl d=true)(k:Yl e=true)(q:d=e):JF d e=true:=(Zkz d e h k).mpr q
theorem Z2h{d e:Xa}(h:Yl d=true)(k:Yl e=true)(q:d≠e):JF d e=false:=VP.mpr λz=>q ((Zkz d e h k).mp z)
noncomputable def fr(a b:Int):Xa:=.tuple [.int a,.int b]
theorem Ztp(a b:Int):Yl (fr a b)=true:=rfl
theorem Zde{t b:Int}(hb:b≠0):0<(Bb t b:Int):=by
 have:=Int.gcd_pos_of_ne_zero_right t hb
 omega
theorem Wt{t g:Int}(hg:0<g):t.fdiv g=t/g:=Int.fdiv_eq_ediv_of_nonneg t (by omega)
theorem Zbx{t g:Int}(hg:0<g)(h:g∣t):t.fdiv (-g)= -(t/g):=by
 obtain⟨k,rfl⟩:=h
 rw[Int.mul_ediv_cancel_left _ (by omega)]
 have e:g*k=(-k)*(-g):=by rw[Int.neg_mul_neg,Int.mul_comm]
 rw[e,Int.mul_fdiv_cancel _ (by omega)]
noncomputable def shr(t b:Int):Int:=if b<0 then -(Bb t b:Int)else(Bb t b:Int)
theorem Z0a{t b:Int}(hb:b≠0):t.fdiv (shr t b)=(Qa t b).num:=by
 have hg:=Zde (t:=t) hb
 have hd:(Bb t b:Int)∣t:=Int.gcd_dvd_left ..
 rw[Rat.num_divInt,Int.gcd_comm b t]
 unfold shr
 by_cases h:b<0
 ·rw[if_pos h,Zbx hg hd,Int.sign_eq_neg_one_of_neg h,Int.neg_one_mul,Int.neg_ediv_of_dvd hd]
 ·rw[if_neg h,Wt hg,Int.sign_eq_one_of_pos (by omega),Int.one_mul]
theorem Zw1{t b:Int}(hb:b≠0):b.fdiv (shr t b)=((Qa t b).den:Int):=by
 have hg:=Zde (t:=t) hb
 have hd:(Bb t b:Int)∣b:=Int.gcd_dvd_right ..
 rw[Rat.den_divInt,if_neg hb,Int.gcd_comm b t]
 unfold shr
 by_cases h:b<0
 ·have e:(b.natAbs:Int)= -b:=by omega
  rw[if_pos h,Zbx hg hd,Int.natCast_ediv,e,Int.neg_ediv_of_dvd hd]
 ·have e:(b.natAbs:Int)=b:=by omega
  rw[if_neg h,Wt hg,Int.natCast_ediv,e]
theorem Zvh{t b:Int}(hb:b≠0):shr t b≠0:=by
 have hg:=Zde (t:=t) hb
 unfold shr
 split<;>omega
theorem Zv6{n:Nat}{t b:Int}(hb:b≠0)(h:Bt n b):Bt n (shr t b):=by
 have h1:Bt n (Bb t b:Int):=by
  refine Bt.of_le h ?_
  have:=Int.gcd_le_natAbs_right t hb
  omega
 unfold shr
 split
 ·exact h1.neg
 ·exact h1
theorem Zqr{n:Nat}{t b:Int}(hb:b≠0)(h:Bt n t):Bt n (Qa t b).num:=by
 rw[Rat.num_divInt]
 refine Bt.of_le h ?_
 refine Qy (Vw _ _) ?_
 rw[Int.natAbs_mul]
 have:b.sign.natAbs≤1:=by
  rw[Int.natAbs_sign]
  split<;>omega
 calc b.sign.natAbs*t.natAbs≤1*t.natAbs:=Nat.mul_le_mul_right _ this
  _=t.natAbs:=Nat.one_mul _
theorem Zvu{n:Nat}{t b:Int}(hb:b≠0)(h:Bt n b):Bt n ((Qa t b).den:Int):=by
 rw[Rat.den_divInt,if_neg hb]
 refine Bt.of_le h ?_
 show((b.natAbs/b.gcd t:Nat):Int).natAbs≤_
 rw[Uw]
 exact Nat.div_le_self _ _
theorem Zoz(q:Rat):(q.den:Int)≠0:=by
 have:=q.den_pos
 omega
theorem Za1(q:Rat):(0:Int)<(q.den:Int):=by
 have:=q.den_pos
 omega
theorem Zm8(q r:Rat):Qa (q.num*(r.den:Int)+r.num*(q.den:Int)) ((q.den:Int)*(r.den:Int))=q+r:=by
 rw[Rat.add_def',←Int.natCast_mul,Rat.divInt_ofNat]
theorem Zo0(q r:Rat):q.num*(r.den:Int)<r.num*(q.den:Int)↔q<r:=(Rat.lt_iff q r).symm
noncomputable def frD(q:Rat):Xa:=fr q.num (q.den:Int)
noncomputable def BQ(n:Nat)(q:Rat):Prop:=Bt n q.num∧Bt n (q.den:Int)
theorem BQ.zero:BQ 1 0:=⟨by unfold Bt;decide,by unfold Bt;decide⟩
section
variable {X:Cx}{K:Xb}{a b o e:Expr}{ta tb tl to:TE}{pos:Pos}
theorem Zs7(hK:X.K=K):IxR X (Z9x K):=hK▸Zr8
theorem Zo6(hK:X.K=K):IxR X (rIx K):=hK▸Z3n
theorem Zup(hK:X.K=K):SlR X (Ybt K):=hK▸Zya
noncomputable def Ybf(K:Xb):List V->Hp->VK->Prop:=λxs H Q=>∃p ys,xs=[.ref p]∧(SqL K H p ys∨SqT K H p ys)∧Q (.int ys.length) H
theorem Zqp(hK:X.K=K):Zbo X (.builtin "len") (Ybf K):=by subst hK;exact Zj2
noncomputable def Zqn(K:Xb):List V->Hp->VK->Prop:=λxs H Q=>∃p ys,xs=[.ref p]∧(SqL K H p ys∨SqT K H p ys)∧∀l,H l=none->Q (.ref l) (upd H l (.lst ys))
theorem Zhb(hK:X.K=K):Zbo X (.type "list") (Zqn K):=by subst hK;exact Zj7
noncomputable def Yc4(K:Xb)(ta:TE):TT:=λσ H Q=>ta σ H λx H'=>∃k,Z9z K x H' k∧Q k H'
theorem Z0y(hK:X.K=K)(ha:PE X a ta)(he:∀whole,isTrue a X.env whole=(do let v←whole;standAt a.pos;holding [v] (truthy v))):PT X a (Yc4 K ta):=by subst hK;exact Ztj ha he
theorem Zsl{tg l:Expr}(hK:X.K=K)(hl:PE X l tl):PI X tg l (Z3p K tl):=by subst hK;exact Zhu hl
theorem Zji(hK:X.K=K):OpR X (Va .NotIn) (rIn K true):=by subst hK;exact Zjj
end
theorem Z8{H:Hp}{p:Addr}(h:H p=none)(o:HO):Same H (upd H p o):=λb u q=>by rw[Zu (Yy q h)];exact q
noncomputable def But(p:Addr)(H H':Hp):Prop:=∀b o,b≠p->H b=some o->H' b=some o
theorem But.upd(p:Addr)(H:Hp)(o:HO):But p H (upd H p o):=λb u n e=>by rw[Zu n];exact e
noncomputable def Pl(H:Hp)(p:Addr)(n:Nat):Prop:=∃a b c:Int,H p=some (.lst [.int a,.int b,.int c])∧0≤c∧c≤n
theorem Pl.at{H:Hp}{p:Addr}{n:Nat}(h:Pl H p n):∃xs,H p=some (.lst xs):=by
 obtain⟨a,b,c,e,h1,h2⟩:=h
 exact⟨_,e⟩
namespace B
theorem boot_abs:Qk "abs"=some (.builtin "abs"):=by decide +kernel
theorem boot_len:Qk "len"=some (.builtin "len"):=by decide +kernel
theorem boot_max:Qk "max"=some (.builtin "max"):=by decide +kernel
theorem boot_min:Qk "min"=some (.builtin "min"):=by decide +kernel
theorem boot_isinstance:Qk "isinstance"=some (.builtin "isinstance"):=by decide +kernel
theorem boot_sorted:Qk "sorted"=some (.builtin "sorted"):=by decide +kernel
theorem boot_int:Qk "int"=some (.type "int"):=by decide +kernel
theorem boot_bool:Qk "bool"=some (.type "bool"):=by decide +kernel
theorem boot_list:Qk "list"=some (.type "list"):=by decide +kernel
theorem boot_tuple:Qk "tuple"=some (.type "tuple"):=by decide +kernel
theorem boot_range:Qk "range"=some (.type "range"):=by decide +kernel
theorem boot_zip:Qk "zip"=some (.type "zip"):=by decide +kernel
theorem boot_enumerate:Qk "enumerate"=some (.type "enumerate"):=by decide +kernel
end B
theorem Ze8{a b:Int}(hb:0<b):a.fmod b=a%b:=Int.fmod_eq_emod_of_nonneg a (by omega)
theorem Zui{x y:Int}(hx:0≤x)(hy:0<y):Bb y (x.fmod y)=Bb x y:=by
 rw[Ze8 hy,Int.gcd_comm x y]
 have e:=Int.emod_add_mul_ediv x y
 conv=>rhs;rw[←e]
 rw[Int.gcd_add_mul_left_right]
theorem Zvc:(2:Nat)≤Xq:=by decide
theorem Zts(q:Rat):Qa q.num (q.den:Int)=q:=Rat.num_divInt_den q
theorem BQ.n{n:Nat}{q:Rat}(h:BQ n q):Bt n q.num:=h.1
theorem BQ.d{n:Nat}{q:Rat}(h:BQ n q):Bt n (q.den:Int):=h.2
theorem Yc1(q:Rat):(((q.den:Int)):Rat)≠0:=by
 intro z
 exact Zoz q (Rat.intCast_eq_zero_iff.mp z)
theorem Ycm(q:Rat):((q.num:Int):Rat)=q*(((q.den:Int)):Rat):=by
 have h:=Zts q
 rw[Bp]at h
 have d:=Yc1 q
 conv=>rhs;lhs;rw[←h]
 grind
variable {G:Xb}
noncomputable def KS(G:Xb)(a:Addr)(ns:List Int):Prop:=∃(o:Obj) (its:Array Xc) (n:Nat),G.lookup a=some o∧o.cls= .type "list"∧o.dict=none∧o.data= .seq its n∧its.size≤Xq∧Vals (ns.map V.int) its.toList
theorem KS.sq{G:Xb}{H:Hp}{a:Addr}{ns:List Int}(h:KS G a ns):SqL G H a (ns.map V.int):=.inr h
noncomputable def exD(x:Str):Xa:=.dict [(.str x,.none)]
noncomputable def fnD(x:Str):Xa:=.dict [(.str x,.bool true)]
noncomputable def Zgq:Xa->Bool| .dict ((_,.bool _) :: _)=>true|_=>false
noncomputable def ClsAt(G:Xb)(x:Str)(C:Addr):Prop:=QV G Qe x=some (some (.ref C))
structure Zem(G:Xb)(C:Addr):Prop where
 ga:BX G (.ref C) "__getattribute__"=some (some (.builtin "BaseException.__getattribute__"))
 gt:BX G (.ref C) "__getattr__"=some none
 cl:BX G (.ref C) "__class__"=some (some (.builtin "object.__class__"))
 isB:PySem.W.subIn G (.ref C) (.type "BaseException")=some true
 isO:PySem.W.subIn G (.ref C) (.type "object")=some true
 isC:(PySem.W.clsIn G C).isSome=true
 k1:BW G (.ref C) (.type "int")=some false
 k2:BW G (.ref C) (.type "bool")=some false
 k3:BW G (.ref C) (.type "str")=some false
 k4:BW G (.ref C) (.type "list")=some false
 k5:BW G (.ref C) (.type "tuple")=some false
noncomputable def ExO(C a:Addr)(h:Heap):Prop:=∃o vs,h.get? a=some o∧o.cls= .ref C∧o.data= .fields vs
inductive ImO where
 | tup (xs:List V)
 | ext (φ:Heap->Prop)
noncomputable def ImO.ho:ImO->HO
 | .tup xs=>.tup xs
 | .ext φ=>.ext φ
inductive MuO where
 | lst (xs:List V)
 | dK (kvs:List (Key×V))
 | dT (kvs:List (List Key×V))
noncomputable def MuO.ho:MuO->HO
 | .lst xs=>.lst xs
 | .dK kvs=>.dK kvs
 | .dT kvs=>.dT kvs
noncomputable def Ybw:Key->Xa
 | .inl i=>.int i
 | .inr x=>.str x
noncomputable def Ycj(ks:List Key):Xa:=.tuple (ks.map Ybw)
noncomputable abbrev KY:=Sum Key (List Key)
noncomputable def kyD:KY->Xa
 | .inl k=>Ybw k
 | .inr ks=>Ycj ks
noncomputable def MuO.dic(t:Bool)(ks:List KY)(xs:List V):MuO->Prop
 | .lst _=>False
 | .dK kvs=>t=false∧ks=kvs.map (λp=>.inl p.1)∧xs=kvs.map (·.2)
 | .dT kvs=>t=true∧ks=kvs.map (λp=>.inr p.1)∧xs=kvs.map (·.2)
noncomputable def dcD(t:Bool)(ks:List KY)(ds:List Xa):Xa:=.dict ((.none,.bool t) :: (ks.map kyD).zip ds)
theorem ImO.nm{H:Hp}{a:Addr}{x:ImO}{y:MuO}(h:H a=some x.ho)(h':H a=some y.ho):False:=by
 rw[h]at h'
 cases x<;>cases y<;>cases h'
theorem ImO.nl{H:Hp}{a:Addr}{x:ImO}{ys:List V}(h:H a=some x.ho)(h':H a=some (.lst ys)):False:=by
 rw[h]at h'
 cases x<;>cases h'
mutual
inductive Da(G:Xb)(H:Hp)(L:Addr->Prop):V->Xa->Prop where
 | non:Da G H L .non .none
 | bl (b:Bool):Da G H L (.bl b) (.bool b)
 | int (i:Int):Da G H L (.int i) (.int i)
 | str (x:Str):Da G H L (.str x) (.str x)
 | lst {a:Addr} {xs:List V} {ds:List Xa}:L a->Rd H a (.lst xs)->Das G H L xs ds->Da G H L (.ref a) (.list ds)
 | tup {a:Addr} {xs:List V} {ds:List Xa}:H a=some (.tup xs)->Das G H L xs ds->Da G H L (.ref a) (.tuple ds)
 | scr {a:Addr} {ns:List Int}:KS G a ns->Da G H L (.ref a) (.list (ns.map Xo))
 | exc {a C:Addr} {x:Str}:Zem G C->ClsAt G x C->H a=some (.ext (ExO C a))->Da G H L (.ref a) (exD x)
 | fn {a:Addr} {x:Str}:ClsAt G x a->Da G H L (.ref a) (fnD x)
 | dic {a:Addr} {o:MuO} {t:Bool} {ks:List KY} {xs:List V} {ds:List Xa}:L a->Rd H a o.ho->o.dic t ks xs->Das G H L xs ds->Da G H L (.ref a) (dcD t ks ds)
inductive Das(G:Xb)(H:Hp)(L:Addr->Prop):List V->List Xa->Prop where
 | nil:Das G H L [] []
 | cons {x:V} {xs:List V} {d:Xa} {ds:List Xa}:Da G H L x d->Das G H L xs ds->Das G H L (x :: xs) (d :: ds)
end
section
variable {H H':Hp}{L L':Addr->Prop}
theorem Da.both{P:V->Xa->Prop}{Q:List V->List Xa->Prop}(c1:P .non .none)(c2:∀b,P (.bl b) (.bool b))(c3:∀i,P (.int i) (.int i))(c4:∀x,P (.str x) (.str x))
  (c5:∀{a:Addr} {xs:List V} {ds:List Xa},L a->Rd H a (.lst xs)->Q xs ds->P (.ref a) (.list ds)) (c6:∀{a:Addr} {xs:List V} {ds:List Xa},H a=some (.tup xs)->Q xs ds->P (.ref a) (.tuple ds))
  (c7:∀{a:Addr} {ns:List Int},KS G a ns->P (.ref a) (.list (ns.map Xo))) (c8:∀{a C:Addr} {x:Str},Zem G C->ClsAt G x C->H a=some (.ext (ExO C a))->P (.ref a) (exD x)) (c9:∀{a:Addr} {x:Str},ClsAt G x a->P (.ref a) (fnD x))
  (c10:∀{a:Addr} {o:MuO} {t:Bool} {ks:List KY} {xs:List V} {ds:List Xa},L a->Rd H a o.ho->o.dic t ks xs->Q xs ds->P (.ref a) (dcD t ks ds)) (n:Q [] []) (c:∀{x:V} {xs:List V} {d:Xa} {ds:List Xa},P x d->Q xs ds->Q (x :: xs) (d :: ds)):(∀{v d},Da G H L v d->P v d)∧∀{xs ds},Das G H L xs ds->Q xs ds :=
 ⟨λh=>Da.rec (motive_1:=λv d _=>P v d) (motive_2:=λxs ds _=>Q xs ds) c1 c2 c3 c4 (λp e _ r=>c5 p e r) (λe _ r=>c6 e r) (λk=>c7 k) (λk l m=>c8 k l m) (λk=>c9 k) (λp e k _ r=>c10 p e k r) n (λ_ _ p q=>c p q) h,
   λh=>Das.rec (motive_1:=λv d _=>P v d) (motive_2:=λxs ds _=>Q xs ds) c1 c2 c3 c4 (λp e _ r=>c5 p e r) (λe _ r=>c6 e r) (λk=>c7 k) (λk l m=>c8 k l m) (λk=>c9 k) (λp e k _ r=>c10 p e k r) n (λ_ _ p q=>c p q) h⟩
theorem Das.ind{Q:List V->List Xa->Prop}(n:Q [] [])(c:∀{x:V} {xs:List V} {d:Xa} {ds:List Xa},Da G H L x d->Das G H L xs ds->Q xs ds->Q (x :: xs) (d :: ds)):∀{xs ds},Das G H L xs ds->Q xs ds:=λh=>
 Das.rec (motive_1:=λ_ _ _=>True) (motive_2:=λxs ds _=>Q xs ds) trivial (λ_=>trivial) (λ_=>trivial) (λ_=>trivial) (λ_ _ _ _=>trivial) (λ_ _ _=>trivial) (λ_=>trivial) (λ_ _ _=>trivial) (λ_=>trivial) (λ_ _ _ _ _=>trivial) n (λp q _ r=>c p q r) h
theorem Da.frame2(hl:∀a (xs:MuO),L a->Rd H a xs.ho->L' a∧Rd H' a xs.ho)(ht:∀a (xs:ImO),H a=some xs.ho->H' a=some xs.ho):(∀{v:V} {d:Xa},Da G H L v d->Da G H' L' v d)∧∀{xs:List V} {ds:List Xa},Das G H L xs ds->Das G H' L' xs ds :=
 Da.both .non .bl .int .str (fun{_ xs _} p e r=>.lst (hl _ (.lst xs) p e).1 (hl _ (.lst xs) p e).2 r) (fun{_ xs _} e r=>.tup (ht _ (.tup xs) e) r) .scr (λc n e=>.exc c n (ht _ (.ext _) e)) .fn (λp e k r=>.dic (hl _ _ p e).1 (hl _ _ p e).2 k r) .nil .cons
theorem Da.frame(hl:∀a (xs:MuO),L a->Rd H a xs.ho->L' a∧Rd H' a xs.ho)(ht:∀a (xs:ImO),H a=some xs.ho->H' a=some xs.ho){v:V}{d:Xa}(h:Da G H L v d):Da G H' L' v d:=(Da.frame2 hl ht).1 h
theorem Das.frame(hl:∀a (xs:MuO),L a->Rd H a xs.ho->L' a∧Rd H' a xs.ho)(ht:∀a (xs:ImO),H a=some xs.ho->H' a=some xs.ho){xs:List V}{ds:List Xa}(h:Das G H L xs ds):Das G H' L' xs ds:=(Da.frame2 hl ht).2 h
theorem Rd.same{a:Addr}{u:HO}(s:Same H H')(h:Rd H a u):Rd H' a u:=h.imp (s _ _) λ⟨o,h⟩=>⟨o,s _ _ h⟩
theorem Rd.some{a:Addr}{u:HO}(h:Rd H a u):H a≠Option.none:=by
 rcases h with h|⟨o,h⟩<;>rw[h]<;>intro z<;>cases z
theorem Da.same(h:Same H H'){v:V}{d:Xa}(x:Da G H L v d):Da G H' L v d:=x.frame (λa xs p e=>⟨p,e.same h⟩) λa xs e=>h _ _ e
theorem Das.same(h:Same H H'){v:List V}{d:List Xa}(x:Das G H L v d):Das G H' L v d:=x.frame (λa xs p e=>⟨p,e.same h⟩) λa xs e=>h _ _ e
theorem Da.wide(h:∀a,L a->H a≠none->L' a){v:V}{d:Xa}(x:Da G H L v d):Da G H L' v d:=x.frame (λa xs p e=>⟨h a p e.some,e⟩) λa xs e=>e
theorem Das.wide(h:∀a,L a->H a≠none->L' a){v:List V}{d:List Xa}(x:Das G H L v d):Das G H L' v d:=x.frame (λa xs p e=>⟨h a p e.some,e⟩) λa xs e=>e
theorem Das.length{xs:List V}{ds:List Xa}(h:Das G H L xs ds):xs.length=ds.length:=Das.ind (Q:=λxs ds=>xs.length=ds.length) rfl (λ_ _ r=>congrArg (·+1) r) h
theorem Das.append{xs ys:List V}{ds es:List Xa}(h:Das G H L xs ds)(k:Das G H L ys es):Das G H L (xs ++ ys) (ds ++ es):=Das.ind (Q:=λxs ds=>Das G H L (xs ++ ys) (ds ++ es)) k (λh _ r=>.cons h r) h
theorem Das.get{xs:List V}{ds:List Xa}{i:Nat}{d:Xa}(h:Das G H L xs ds):ds[i]? =some d->∃x,xs[i]? =some x∧Da G H L x d :=
 Das.ind (Q:=λxs ds=>∀i,ds[i]? =some d->∃x,xs[i]? =some x∧Da G H L x d) (λ_ e=>(Option.some_ne_none _ (e.symm.trans UT)).elim) (fun{x _ _ _} h _ r i=>Nat.casesOn i (λe=>⟨x,rfl,Qt e▸h⟩) λi e=>r i e) h i
theorem Das.get'{xs:List V}{ds:List Xa}{i:Nat}{x:V}(h:Das G H L xs ds):xs[i]? =some x->∃d,ds[i]? =some d∧Da G H L x d :=
 Das.ind (Q:=λxs ds=>∀i,xs[i]? =some x->∃d,ds[i]? =some d∧Da G H L x d) (λ_ e=>(Option.some_ne_none _ (e.symm.trans UT)).elim) (fun{_ _ d _} h _ r i=>Nat.casesOn i (λe=>⟨d,rfl,Qt e▸h⟩) λi e=>r i e) h i
theorem Das.take{xs:List V}{ds:List Xa}(n:Nat)(h:Das G H L xs ds):Das G H L (xs.take n) (ds.take n) :=
 Das.ind (Q:=λxs ds=>∀n,Das G H L (xs.take n) (ds.take n)) (λn=>by rw[List.take_nil,List.take_nil];exact .nil) (λh _ r n=>Nat.casesOn n .nil λn=>.cons h (r n)) h n
theorem Das.drop{xs:List V}{ds:List Xa}(n:Nat)(h:Das G H L xs ds):Das G H L (xs.drop n) (ds.drop n) :=
 Das.ind (Q:=λxs ds=>∀n,Das G H L (xs.drop n) (ds.drop n)) (λn=>by rw[List.drop_nil,List.drop_nil];exact .nil) (λh q r n=>Nat.casesOn n (.cons h q) λn=>r n) h n
theorem Das.ints(ns:List Int):Das G H L (ns.map V.int) (ns.map Xo):=by
 induction ns with
 | nil=>exact .nil
 | cons n ns ih=>exact .cons (.int n) ih
theorem Das.int_inv{xs:List V}{ns:List Int}(h:Das G H L xs (ns.map Xo)):xs=ns.map V.int:=by
 induction ns generalizing xs with
 | nil=>cases h;rfl
 | cons n ns ih=>
  rw[Qs]at h
  cases h with
  | cons h r=>cases h;rw[ih r];rfl
end
theorem Zn2{h:Heap}(ns:List Int){us:List Xc}(v:Vals (ns.map V.int) us):∃as,ReadsAll h us (ns.map Xo) as:=by
 induction ns generalizing us with
 | nil=>cases v;exact⟨_,.nil⟩
 | cons n ns ih=>
  rw[Qs]at v
  cases v with
  | cons r rs=>
   obtain⟨t,e⟩:=(show∃t,_=U8 n t from r)
   subst e
   obtain⟨bs,k'⟩:=ih rs
   exact⟨_,.cons (.int n t) k'⟩
section
variable {X:Cx}{pins:List (Addr×Obj)}{σ:St}{H:Hp}{s:Xe}{L L':Addr->Prop}
theorem Da.reads2(hG:X.K=G)(I:Inv X pins σ H s):(∀{v:V} {d:Xa},Da G H L v d->∀u,RelV v u->d.canLay0=true->∃as,Reads s.heap u d as)∧∀{xs:List V} {ds:List Xa},Das G H L xs ds->∀us,Vals xs us->JQ ds=true->∃as,ReadsAll s.heap us ds as:=by
 refine Da.both ?_ ?_ ?_ ?_ ?_ ?_ ?_ ?_ ?_ ?_ ?_ ?_
 ·intro u r _
  cases(show _=QF from r)
  exact⟨_,.none⟩
 ·intro b u r _
  cases(show _=Value.bool b from r)
  exact⟨_,.bool b⟩
 ·intro i u r _
  obtain⟨t,e⟩:=(show∃t,_=U8 i t from r)
  subst e
  exact⟨_,.int i t⟩
 ·intro x u r _
  obtain⟨t,e⟩:=(show∃t,_=Value.str x t from r)
  subst e
  exact⟨_,.str x t⟩
 ·intro a xs ds _ e q u r hcl
  cases(show _=QS a from r)
  obtain⟨_,its,n,vs,h1⟩:=(show ObjOk X.prog X.w H s.heap a (.lst xs)from e.ok I.hok)
  rw[Bw]at hcl
  obtain⟨as,k⟩:=q _ vs hcl
  exact⟨_,Reads.list h1 rfl rfl k⟩
 ·intro a xs ds e q u r hcl
  cases(show _=QS a from r)
  obtain⟨_,its,vs,o,ho,hc,n,hd⟩:=(show ObjOk X.prog X.w H s.heap a (.tup xs)from I.hok a _ e)
  rw[Bw]at hcl
  obtain⟨as,k⟩:=q _ vs hcl
  exact⟨_,Reads.tuple ho hc hd k⟩
 ·intro a ns k u r _
  cases(show _=QS a from r)
  subst hG
  obtain⟨its,vs,⟨o,n,ho,hc,hd,hs⟩,_⟩:=I.list (k.sq (H:=H))
  obtain⟨as,q⟩:=Zn2 ns vs
  exact⟨_,Reads.list ho hc hs q⟩
 ·intro a C x _ _ e u r hc
  rw[exD,Bw]at hc
  cases hc
 ·intro a x _ u r hc
  rw[fnD,Bw]at hc
  cases hc
 ·intro a o t ks xs ds _ _ _ _ u r hc
  rw[dcD,Bw]at hc
  cases hc
 ·intro us v _
  cases v
  exact⟨_,.nil⟩
 ·intro x xs d ds h q us v hc
  cases v with
  | cons r rs=>
   rw[JQ,XC]at hc
   obtain⟨as,k⟩:=h _ r hc.1
   obtain⟨bs,k'⟩:=q _ rs hc.2
   exact⟨_,.cons k k'⟩
theorem Da.reads(hG:X.K=G)(I:Inv X pins σ H s){v:V}{d:Xa}{u:Xc}(h:Da G H L v d)(r:RelV v u)(c:d.canLay0=true):∃as,Reads s.heap u d as:=(Da.reads2 hG I).1 h u r c
theorem Das.reads(hG:X.K=G)(I:Inv X pins σ H s){xs:List V}{ds:List Xa}{us:List Xc}(h:Das G H L xs ds)(r:Vals xs us)(c:JQ ds=true):∃as,ReadsAll s.heap us ds as:=(Da.reads2 hG I).2 h us r c
end
inductive OT where
 | fz (d:Xa)
 | nd (ts:List OT)
 | tp (ts:List OT)
 | dc (t:Bool) (ks:List KY) (ds:List Xa)
mutual
noncomputable def OT.data:OT->Xa
 | .fz d=>d
 | .nd ts=>.list (OT.datas ts)
 | .tp ts=>.tuple (OT.datas ts)
 | .dc t ks ds=>dcD t ks ds
noncomputable def OT.datas:List OT->List Xa
 | []=>[]
 | t :: ts=>t.data :: OT.datas ts
end
theorem OT.datas_map:∀(ts:List OT),OT.datas ts=ts.map OT.data
 | []=>rfl
 | t :: ts=>by rw[OT.datas,OT.datas_map ts];rfl
@[simp] theorem OT.data_fz(d:Xa):(OT.fz d).data=d:=by rw[OT.data]
@[simp] theorem OT.data_nd(ts:List OT):(OT.nd ts).data= .list (ts.map OT.data):=by rw[OT.data,OT.datas_map]
@[simp] theorem OT.data_tp(ts:List OT):(OT.tp ts).data= .tuple (ts.map OT.data):=by rw[OT.data,OT.datas_map]
theorem OT.data_dc(t:Bool)(ks:List KY)(ds:List Xa):(OT.dc t ks ds).data=dcD t ks ds:=by rw[OT.data]
@[simp] theorem OT.map_fz(ds:List Xa):(ds.map OT.fz).map OT.data=ds:=by
 rw[Qx]
 exact(Xv λd _=>OT.data_fz d).trans (List.map_id _)
mutual
inductive Own(G:Xb)(H:Hp)(L:Addr->Prop):V->OT->List Addr->Prop where
 | fz {v:V} {d:Xa}:Da G H L v d->Own G H L v (.fz d) []
 | nd {a:Addr} {xs:List V} {ts:List OT} {bs:List Addr}:H a=some (.lst xs)->Owns G H L xs ts bs->Own G H L (.ref a) (.nd ts) (a :: bs)
 | tp {a:Addr} {xs:List V} {ts:List OT} {bs:List Addr}:H a=some (.tup xs)->Owns G H L xs ts bs->Own G H L (.ref a) (.tp ts) bs
 | dc {a:Addr} {o:MuO} {t:Bool} {ks:List KY} {xs:List V} {ds:List Xa}:H a=some o.ho->o.dic t ks xs->Das G H L xs ds->Own G H L (.ref a) (.dc t ks ds) [a]
inductive Owns(G:Xb)(H:Hp)(L:Addr->Prop):List V->List OT->List Addr->Prop where
 | nil:Owns G H L [] [] []
 | cons {x:V} {xs:List V} {t:OT} {ts:List OT} {as bs:List Addr}:Own G H L x t as->Owns G H L xs ts bs->Owns G H L (x :: xs) (t :: ts) (as ++ bs)
end
section
variable {H H':Hp}{L L':Addr->Prop}
theorem Own.both{P:V->OT->List Addr->Prop}{Q:List V->List OT->List Addr->Prop}(c1:∀{v:V} {d:Xa},Da G H L v d->P v (.fz d) [])(c2:∀{a:Addr} {xs:List V} {ts:List OT} {bs:List Addr},H a=some (.lst xs)->Q xs ts bs->P (.ref a) (.nd ts) (a :: bs))
  (c3:∀{a:Addr} {xs:List V} {ts:List OT} {bs:List Addr},H a=some (.tup xs)->Q xs ts bs->P (.ref a) (.tp ts) bs) (c4:∀{a:Addr} {o:MuO} {t:Bool} {ks:List KY} {xs:List V} {ds:List Xa},H a=some o.ho->o.dic t ks xs->Das G H L xs ds->P (.ref a) (.dc t ks ds) [a]) (n:Q [] [] []) (c:∀{x:V} {xs:List V} {t:OT} {ts:List OT} {as bs:List Addr},P x t as->Q xs ts bs->Q (x :: xs) (t :: ts) (as ++ bs)) :
  (∀ {v t as},Own G H L v t as->P v t as)∧∀{xs ts as},Owns G H L xs ts as->Q xs ts as :=
 ⟨λh=>Own.rec (motive_1:=λv t as _=>P v t as) (motive_2:=λxs ts as _=>Q xs ts as) c1 (λe _ r=>c2 e r) (λe _ r=>c3 e r) (λe k r=>c4 e k r) n (λ_ _ p q=>c p q) h,
   λh=>Owns.rec (motive_1:=λv t as _=>P v t as) (motive_2:=λxs ts as _=>Q xs ts as) c1 (λe _ r=>c2 e r) (λe _ r=>c3 e r) (λe k r=>c4 e k r) n (λ_ _ p q=>c p q) h⟩
theorem Own.frame2(hl:∀a (xs:MuO),L a->Rd H a xs.ho->L' a∧Rd H' a xs.ho)(ht:∀a (xs:ImO),H a=some xs.ho->H' a=some xs.ho) :
  (∀ {v:V} {t:OT} {as:List Addr},Own G H L v t as->(∀a∈as,∀xs:MuO,H a=some xs.ho->H' a=some xs.ho)->Own G H' L' v t as)∧∀{xs:List V} {ts:List OT} {as:List Addr},Owns G H L xs ts as->(∀a∈as,∀xs:MuO,H a=some xs.ho->H' a=some xs.ho)->Owns G H' L' xs ts as :=
 Own.both (λh _=>.fz (h.frame hl ht)) (fun{_ xs _ _} e r ha=>.nd (ha _ (.head _) (.lst xs) e) (r λa m=>ha a (.tail _ m))) (fun{_ xs _ _} e r ha=>.tp (ht _ (.tup xs) e) (r ha)) (λe k r ha=>.dc (ha _ (.head _) _ e) k (r.frame hl ht)) (λ_=>.nil) (λh r ha=>.cons (h λa m=>ha a (Qu _ m)) (r λa m=>ha a (XM _ m)))
theorem Own.frame(hl:∀a (xs:MuO),L a->Rd H a xs.ho->L' a∧Rd H' a xs.ho)(ht:∀a (xs:ImO),H a=some xs.ho->H' a=some xs.ho){v:V}{t:OT}{as:List Addr}(ha:∀a∈as,∀xs:MuO,H a=some xs.ho->H' a=some xs.ho)(h:Own G H L v t as):Own G H' L' v t as:=(Own.frame2 hl ht).1 h ha
theorem Owns.frame(hl:∀a (xs:MuO),L a->Rd H a xs.ho->L' a∧Rd H' a xs.ho)(ht:∀a (xs:ImO),H a=some xs.ho->H' a=some xs.ho){xs:List V}{ts:List OT}{as:List Addr}(ha:∀a∈as,∀xs:MuO,H a=some xs.ho->H' a=some xs.ho)(h:Owns G H L xs ts as):Owns G H' L' xs ts as:=(Own.frame2 hl ht).2 h ha
theorem Own.same(h:Same H H'){v:V}{t:OT}{as:List Addr}(x:Own G H L v t as):Own G H' L v t as:=x.frame (λa xs p e=>⟨p,e.same h⟩) (λa xs e=>h _ _ e) λa _ xs e=>h _ _ e
theorem Own.wide(h:∀a,L a->H a≠none->L' a){v:V}{t:OT}{as:List Addr}(x:Own G H L v t as):Own G H L' v t as:=x.frame (λa xs p e=>⟨h a p e.some,e⟩) (λa xs e=>e) λa _ xs e=>e
theorem Owns.wide(h:∀a,L a->H a≠none->L' a){v:List V}{t:List OT}{as:List Addr}(x:Owns G H L v t as):Owns G H L' v t as:=x.frame (λa xs p e=>⟨h a p e.some,e⟩) (λa xs e=>e) λa _ xs e=>e
theorem Owns.same(h:Same H H'){v:List V}{t:List OT}{as:List Addr}(x:Owns G H L v t as):Owns G H' L v t as:=x.frame (λa xs p e=>⟨p,e.same h⟩) (λa xs e=>h _ _ e) λa _ xs e=>h _ _ e
theorem Own.da2(h:∀a,L a->H a≠none->L' a):(∀{v:V} {t:OT} {as:List Addr},Own G H L v t as->(∀a∈as,L' a)->Da G H L' v t.data)∧∀{v:List V} {t:List OT} {as:List Addr},Owns G H L v t as->(∀a∈as,L' a)->Das G H L' v (OT.datas t) :=
 Own.both (λk _=>by rw[OT.data_fz];exact k.wide h) (λe r ha=>by rw[OT.data];exact .lst (ha _ (.head _)) (.inl e) (r λa m=>ha a (.tail _ m))) (λe r ha=>by rw[OT.data];exact .tup e (r ha)) (λe k r ha=>by rw[OT.data];exact .dic (ha _ (.head _)) (.inl e) k (r.wide h)) (λ_=>.nil) (λk r ha=>.cons (k λa m=>ha a (Qu _ m)) (r λa m=>ha a (XM _ m)))
theorem Own.da(h:∀a,L a->H a≠none->L' a){v:V}{t:OT}{as:List Addr}(ha:∀a∈as,L' a)(k:Own G H L v t as):Da G H L' v t.data:=(Own.da2 h).1 k ha
theorem Owns.das(h:∀a,L a->H a≠none->L' a){v:List V}{t:List OT}{as:List Addr}(ha:∀a∈as,L' a)(k:Owns G H L v t as):Das G H L' v (OT.datas t):=(Own.da2 h).2 k ha
theorem Own.some2:(∀{v:V} {t:OT} {as:List Addr},Own G H L v t as->∀a∈as,∃xs:MuO,H a=some xs.ho)∧∀{v:List V} {t:List OT} {as:List Addr},Owns G H L v t as->∀a∈as,∃xs:MuO,H a=some xs.ho :=
 Own.both (λ_ _ m=>nomatch m) (fun{_ xs _ _} e r a m=>(Xk.mp m).elim (λq=>⟨.lst xs,q▸e⟩) (r a)) (λ_ r=>r) (fun{_ o _ _ _ _} e _ _ a m=>⟨o,Xu.mp m▸e⟩) (λ_ m=>nomatch m) (λk r a m=>(X3.mp m).elim (k a) (r a))
theorem Own.some{v:V}{t:OT}{as:List Addr}(h:Own G H L v t as):∀a∈as,∃xs:MuO,H a=some xs.ho:=Own.some2.1 h
theorem Owns.some{v:List V}{t:List OT}{as:List Addr}(h:Owns G H L v t as):∀a∈as,∃xs:MuO,H a=some xs.ho:=Own.some2.2 h
theorem Owns.length{xs:List V}{ts:List OT}{as:List Addr}(h:Owns G H L xs ts as):xs.length=ts.length:=(Own.both (P:=λ_ _ _=>True) (Q:=λxs ts _=>xs.length=ts.length) (λ_=>trivial) (λ_ _=>trivial) (λ_ _=>trivial) (λ_ _ _=>trivial) rfl (λ_ r=>congrArg (·+1) r)).2 h
theorem Das.owns{xs:List V}{ds:List Xa}(h:Das G H L xs ds):Owns G H L xs (ds.map OT.fz) []:=Das.ind (Q:=λxs ds=>Owns G H L xs (ds.map OT.fz) []) .nil (λh _ r=>.cons (.fz h) r) h
end
variable {G:Xb}
noncomputable abbrev Zf:=List (Option OT)
noncomputable abbrev Fp:=Nat->List Addr
set_option genInjectivity false in
structure MC(G:Xb) where
 H₀:Hp
 as₀:Addr->Prop
 L:Addr->Prop
 σ₀:St
noncomputable def Foot(fp:Fp)(a:Addr):Prop:=∃i,a∈fp i
noncomputable def Lf(C:MC G)(fp:Fp)(ex:Addr->Prop)(a:Addr):Prop:=¬Foot fp a∧¬ex a∧(C.L a∨C.H₀ a=none)
structure Rel(C:MC G)(io:List Nat)(H:Hp)(σ:St)(δ:Zf)(fp:Fp)(ex:Addr->Prop):Prop where
 len:σ.length=δ.length
 own:∀(i:Nat) (t:OT),δ[i]? =some (some t)->∃v,σ[i]? =some (some v)∧Own G H (Lf C fp ex) v t (fp i)
 emp:∀i:Nat,(∀t,δ[i]? ≠some (some t))->fp i=[]
 nd:∀i,(fp i).Nodup
 dj:∀i j a,a∈fp i->a∈fp j->i=j
 dx:∀i a,a∈fp i->¬ex a
 xa:∀a,ex a->H a≠none
 fr:∀b o,C.H₀ b=some o->¬C.as₀ b->H b=some o
 al:∀b,H b=none->C.H₀ b=none
 new:∀i a,a∈fp i->(i∈io∧C.as₀ a)∨C.H₀ a=none
 io:∀i∈io,σ[i]? =C.σ₀[i]?
structure Stp(p:Bool)(H:Hp)(δ:Zf)(fp:Fp)(H':Hp)(δ':Zf)(fp':Fp):Prop where
 keep:∀b o,H b=some o->(p=true∨¬Foot fp b)->H' b=some o
 env:p=true->δ'=δ∧fp'=fp
 grow:∀a,Foot fp' a->Foot fp a∨H a=none
 al:∀b,H' b=none->H b=none
section
variable {C:MC G}{io:List Nat}{H H' H'':Hp}{σ:St}{δ δ' δ'':Zf}{fp fp' fp'':Fp}{ex ex':Addr->Prop}{p p' c:Bool}{v:V}{d:Xa}{r:OT}{new:List Addr}
theorem Rel.foot(R:Rel C io H σ δ fp ex){a:Addr}(h:Foot fp a):∃xs:MuO,H a=some xs.ho:=by
 obtain⟨i,h⟩:=h
 by_cases q:∃t,δ[i]? =some (some t)
 ·obtain⟨t,q⟩:=q
  obtain⟨v,_,o⟩:=R.own i t q
  exact o.some a h
 ·rw[R.emp i (λt z=>q ⟨t,z⟩)]at h
  exact nomatch h
theorem Rel.footSome(R:Rel C io H σ δ fp ex){a:Addr}(h:H a=none):¬Foot fp a:=λz=>by
 obtain⟨xs,e⟩:=R.foot z
 rw[h]at e
 cases e
theorem Stp.refl(p:Bool)(H:Hp)(δ:Zf)(fp:Fp):Stp p H δ fp H δ fp:=⟨λ_ _ h _=>h,λ_=>⟨rfl,rfl⟩,λ_ h=>.inl h,λ_ h=>h⟩
theorem Stp.same(h:Same H H')(hn:∀b,H' b=none->H b=none):Stp p H δ fp H' δ fp:=⟨λ_ _ q _=>h _ _ q,λ_=>⟨rfl,rfl⟩,λ_ h=>.inl h,hn⟩
theorem Same.al(h:Same H H'):∀b,H' b=none->H b=none:=λ_ q=>h.free q
theorem Stp.trans(a:Stp p H δ fp H' δ' fp')(b:Stp p' H' δ' fp' H'' δ'' fp''):Stp (p&&p') H δ fp H'' δ'' fp'' where
 keep:=λx o e h=>by
  rcases h with h|h
  ·rw[XC]at h
   exact b.keep x o (a.keep x o e (.inl h.1)) (.inl h.2)
  ·refine b.keep x o (a.keep x o e (.inr h)) (.inr λz=>?_)
   rcases a.grow x z with z|z
   ·exact h z
   ·rw[e]at z;cases z
 env:=λh=>by
  rw[XC]at h
  obtain⟨e1,e2⟩:=a.env h.1
  obtain⟨e3,e4⟩:=b.env h.2
  exact⟨e3.trans e1,e4.trans e2⟩
 grow:=λx h=>by
  rcases b.grow x h with h|h
  ·exact a.grow x h
  ·exact .inr (a.al x h)
 al:=λx h=>a.al x (b.al x h)
theorem Rel.frameL(R:Rel C io H σ δ fp ex)(S:Stp p H δ fp H' δ' fp')(hc:p=true∨c=true)(hx:∀a,ex' a->ex a∨H a=none) :
  (∀ a (xs:MuO),(c=true->Lf C fp ex a)->Rd H a xs.ho->(c=true->Lf C fp' ex' a)∧Rd H' a xs.ho)∧(∀a (xs:ImO),H a=some xs.ho->H' a=some xs.ho):=by
 have nf:∀a,Foot fp a->∃xs:MuO,H a=some xs.ho:=λa h=>R.foot h
 refine⟨λa xs l q=>⟨λhc'=>?_,?_⟩,λa xs q=>S.keep a _ q (.inr λz=>?_)⟩
 ·obtain⟨l1,l2,l3⟩:=l hc'
  refine⟨λz=>?_,λz=>?_,l3⟩
  ·rcases S.grow a z with z|z
   ·exact l1 z
   ·exact q.some z
  ·rcases hx a z with z|z
   ·exact l2 z
   ·exact q.some z
 ·have hk:p=true∨¬Foot fp a:=by
   rcases hc with h|h
   ·exact .inl h
   ·exact .inr (l h).1
  rcases q with q|⟨o,q⟩
  ·exact .inl (S.keep a _ q hk)
  ·exact .inr ⟨o,S.keep a _ q hk⟩
 ·obtain⟨ys,e⟩:=nf a z
  exact ImO.nm q e
theorem Rel.own_step(R:Rel C io H σ δ fp ex)(S:Stp p H δ fp H' δ' fp')(hc:p=true∨c=true)(hx:∀a,ex' a->ex a∨H a=none)(hn:∀a∈new,ex a)
  (x:Own G H (λa=>c=true->Lf C fp ex a) v r new):Own G H' (λa=>c=true->Lf C fp' ex' a) v r new :=
 x.frame (R.frameL S hc hx).1 (R.frameL S hc hx).2 λa m xs e=>S.keep a _ e (.inr λ⟨i,z⟩=>R.dx i a z (hn a m))
theorem Rel.owns_step(R:Rel C io H σ δ fp ex)(S:Stp p H δ fp H' δ' fp')(hc:p=true∨c=true)(hx:∀a,ex' a->ex a∨H a=none)(hn:∀a∈new,ex a){vs:List V}{rs:List OT}
  (x:Owns G H (λa=>c=true->Lf C fp ex a) vs rs new):Owns G H' (λa=>c=true->Lf C fp' ex' a) vs rs new :=
 x.frame (R.frameL S hc hx).1 (R.frameL S hc hx).2 λa m xs e=>S.keep a _ e (.inr λ⟨i,z⟩=>R.dx i a z (hn a m))
theorem Rel.drop(R:Rel C io H σ δ fp ex)(h:∀a,ex' a->ex a):Rel C io H σ δ fp ex' :=
 ⟨R.len,λi t e=>by
  obtain⟨v,e1,o⟩:=R.own i t e
  exact⟨v,e1,o.wide λa l _=>⟨l.1,λz=>l.2.1 (h a z),l.2.2⟩⟩,R.emp,R.nd,R.dj,λi a m z=>R.dx i a m (h a z),λa z=>R.xa a (h a z),R.fr,R.al,R.new,R.io⟩
theorem Rel.made(R:Rel C io H σ δ fp ex)(s:Same H H')(hn:∀a∈new,H a=none∧H' a≠none):Rel C io H' σ δ fp (λa=>ex a∨a∈new) :=
 ⟨R.len,λi t e=>by
  obtain⟨v,e1,o⟩:=R.own i t e
  refine⟨v,e1,(o.wide λa l q=>⟨l.1,λz=>?_,l.2.2⟩).same s⟩
  rcases z with z|z
  ·exact l.2.1 z
  ·exact q (hn a z).1,R.emp,R.nd,R.dj,λi a m z=>by
   rcases z with z|z
   ·exact R.dx i a m z
   ·exact R.footSome (hn a z).1 ⟨i,m⟩,λa z=>by
   rcases z with z|z
   ·intro q;exact R.xa a z (s.free q)
   ·exact(hn a z).2,λb o e n=>s _ _ (R.fr b o e n),λb q=>R.al b (s.free q),R.new,R.io⟩
end
noncomputable abbrev MEt:=Zf->(OT->Zf->Prop)->Prop
noncomputable abbrev MAt:=Zf->(List OT->Zf->Prop)->Prop
noncomputable abbrev MTt:=Zf->(Bool->Zf->Prop)->Prop
noncomputable abbrev exu(ex:Addr->Prop)(new:List Addr):Addr->Prop:=λa=>ex a∨a∈new
structure RE(C:MC G)(io:List Nat)(p c:Bool)(H:Hp)(σ:St)(δ:Zf)(fp:Fp)(ex:Addr->Prop)(H':Hp)(v:V)(r:OT)(δ':Zf)(fp':Fp)(new:List Addr):Prop where
 rel:Rel C io H' σ δ' fp' (exu ex new)
 stp:Stp p H δ fp H' δ' fp'
 own:Own G H' (λa=>c=true->Lf C fp' (exu ex new) a) v r new
 nd:new.Nodup
 fresh:∀a∈new,H a=none
structure RA(C:MC G)(io:List Nat)(p c:Bool)(H:Hp)(σ:St)(δ:Zf)(fp:Fp)(ex:Addr->Prop)(H':Hp)(v:List V)(r:List OT)(δ':Zf)(fp':Fp)(new:List Addr):Prop where
 rel:Rel C io H' σ δ' fp' (exu ex new)
 stp:Stp p H δ fp H' δ' fp'
 own:Owns G H' (λa=>c=true->Lf C fp' (exu ex new) a) v r new
 nd:new.Nodup
 fresh:∀a∈new,H a=none
noncomputable def SE(G:Xb)(io:List Nat)(p c:Bool)(t:TE)(m:MEt):Prop:=∀(C:MC G) (H:Hp) (σ:St) (δ:Zf) (fp:Fp) (ex:Addr->Prop) (K:OT->Zf->Prop) (Q:VK),Rel C io H σ δ fp ex->m δ K ->
 (∀ H' v r δ' fp' new,RE C io p c H σ δ fp ex H' v r δ' fp' new->K r δ'->Q v H')->t σ H Q
noncomputable def SA(G:Xb)(io:List Nat)(p c:Bool)(t:TA)(m:MAt):Prop:=∀(C:MC G) (H:Hp) (σ:St) (δ:Zf) (fp:Fp) (ex:Addr->Prop) (K:List OT->Zf->Prop) (Q:List V->Hp->Prop),Rel C io H σ δ fp ex->m δ K ->
 (∀ H' v r δ' fp' new,RA C io p c H σ δ fp ex H' v r δ' fp' new->K r δ'->Q v H')->t σ H Q
noncomputable def STt(G:Xb)(io:List Nat)(p:Bool)(t:TT)(m:MTt):Prop:=∀(C:MC G) (H:Hp) (σ:St) (δ:Zf) (fp:Fp) (ex:Addr->Prop) (K:Bool->Zf->Prop) (Q:Bool->Hp->Prop),Rel C io H σ δ fp ex->m δ K ->
 (∀ H' b δ' fp',Rel C io H' σ δ' fp' ex->Stp p H δ fp H' δ' fp'->K b δ'->Q b H')->t σ H Q
noncomputable def ME(X:Cx)(io:List Nat)(p c:Bool)(e:Expr)(m:MEt):Prop:=∃t,PE X e t∧SE X.K io p c t m
noncomputable def MA(X:Cx)(io:List Nat)(p c:Bool)(e:List Expr)(m:MAt):Prop:=∃t,PA X e t∧SA X.K io p c t m
noncomputable def MT(X:Cx)(io:List Nat)(p:Bool)(e:Expr)(m:MTt):Prop:=∃t,PT X e t∧STt X.K io p t m
noncomputable def MW(X:Cx)(io:List Nat)(p:Bool)(e:Expr)(m:MTt):Prop:=∃t,PW X e t∧STt X.K io p t m
section
variable {C:MC G}{io:List Nat}{H H' H'':Hp}{σ:St}{δ δ' δ'':Zf}{fp fp' fp'':Fp}{ex ex':Addr->Prop}{p p' c:Bool}{v:V}{d:Xa}{r:OT}{vs:List V}{rs:List OT}{new:List Addr}
theorem Rel.newOk(R:Rel C io H σ δ fp ex){a:Addr}(h:H a=none):¬Foot fp a∧¬ex a∧C.H₀ a=none:=⟨R.footSome h,λz=>R.xa a z h,R.al a h⟩
theorem RE.da(R:RE C io p c H σ δ fp ex H' v r δ' fp' new)(R0:Rel C io H σ δ fp ex):Da G H' (λa=>c=true->Lf C fp' ex a) v r.data:=by
 refine R.own.da (λa l _ h=>?_) (λa m _=>?_)
 ·exact⟨(l h).1,λz=>(l h).2.1 (.inl z),(l h).2.2⟩
 ·refine⟨λqz9=>?_,(R0.newOk (R.fresh a m)).2.1,.inr (R0.newOk (R.fresh a m)).2.2⟩
  obtain⟨i,z⟩:=qz9
  exact R.rel.dx i a z (.inr m)
theorem RA.das(R:RA C io p c H σ δ fp ex H' vs rs δ' fp' new)(R0:Rel C io H σ δ fp ex):Das G H' (λa=>c=true->Lf C fp' ex a) vs (OT.datas rs):=by
 refine R.own.das (λa l _ h=>?_) (λa m _=>?_)
 ·exact⟨(l h).1,λz=>(l h).2.1 (.inl z),(l h).2.2⟩
 ·refine⟨λqz9=>?_,(R0.newOk (R.fresh a m)).2.1,.inr (R0.newOk (R.fresh a m)).2.2⟩
  obtain⟨i,z⟩:=qz9
  exact R.rel.dx i a z (.inr m)
theorem RE.base(R:RE C io p c H σ δ fp ex H' v r δ' fp' new):Rel C io H' σ δ' fp' ex:=R.rel.drop λa z=>.inl z
theorem RA.base(R:RA C io p c H σ δ fp ex H' vs rs δ' fp' new):Rel C io H' σ δ' fp' ex:=R.rel.drop λa z=>.inl z
theorem Zao{a:Addr}:exu ex [] a↔ex a:=by simp[exu]
theorem RE.fz(R:Rel C io H' σ δ' fp' ex)(S:Stp p H δ fp H' δ' fp')(h:Da G H' (λa=>c=true->Lf C fp' ex a) v d):RE C io p c H σ δ fp ex H' v (.fz d) δ' fp' [] :=
 ⟨R.drop λa z=>Zao.mp z,S,.fz (h.wide λa l _ hc=>⟨(l hc).1,λz=>(l hc).2.1 (Zao.mp z),(l hc).2.2⟩),.nil,λa m=>nomatch m⟩
theorem RE.tree{H1:Hp}(R0:Rel C io H σ δ fp ex)(R:Rel C io H1 σ δ' fp' ex)(S:Stp p H δ fp H1 δ' fp')(s:Same H1 H')(hn:∀a∈new,H1 a=none)(nd:new.Nodup)
  (o:Own G H' (λa=>((c=true->Lf C fp' ex a)∨H1 a=none)∧a∉new) v r new):RE C io p c H σ δ fp ex H' v r δ' fp' new:=by
 refine⟨R.made s λa m=>⟨hn a m,λz=>?_⟩,?_,o.wide λa l q hc=>?_,nd,λa m=>S.al a (hn a m)⟩
 ·obtain⟨xs,e⟩:=o.some a m
  rw[z]at e;cases e
 ·have:=S.trans (p':=true) (Stp.same (p:=true) (δ:=δ') (fp:=fp') s s.al)
  rwa[U5]at this
 ·rcases l.1 with l1|l1
  ·exact⟨(l1 hc).1,λz=>z.elim (l1 hc).2.1 l.2,(l1 hc).2.2⟩
  ·exact⟨R.footSome l1,λz=>z.elim (λz=>R.xa a z l1) l.2,.inr (R.al a l1)⟩
end
inductive ScD:V->Xa->Prop where
 | non:ScD .non .none
 | bl (b:Bool):ScD (.bl b) (.bool b)
 | int (i:Int):ScD (.int i) (.int i)
 | str (x:Str):ScD (.str x) (.str x)
theorem ScD.da{H:Hp}{L:Addr->Prop}{v:V}{d:Xa}(h:ScD v d):Da G H L v d:=by
 cases h
 ·exact .non
 ·exact .bl _
 ·exact .int _
 ·exact .str _
section
variable {X:Cx}{io:List Nat}{p p' c c':Bool}{e a b:Expr}{m ma mb:MEt}{es:List Expr}
noncomputable def Z7a(i:Nat):MEt:=λδ K=>match δ[i]? with|some (some (.fz d))=>K (.fz d) δ|_=>False
noncomputable def Z65(i:Nat):MEt:=λδ K=>match δ[i]? with|some (some t)=>K (.fz t.data) δ|_=>False
noncomputable def mC(d:Xa):MEt:=λδ K=>K (.fz d) δ
theorem mv(i:Nat){x:Str}{pos:Pos}(hN:X.N[i]? =some x:=by rfl)(hv:Vis X.env.scope x:=by first|exact Qp rfl|exact Qh (Qp rfl)|exact Qh (Qh rfl))(hd:(x==("__debug__" : Str))=false:=by decide)
  (hcd:(x==("__classdict__" : Str))=false:=by decide):ME X io true true (.Name x pos) (Z7a i):=by
 refine⟨_,pv i hN hv hd hcd,λC H σ δ fp ex K Q R h k=>?_⟩
 unfold Z7a at h
 split at h
 ·rename_i d hd
  obtain⟨v,e,o⟩:=R.own i _ hd
  refine⟨v,e,k H v _ δ fp [] (.fz R (.refl _ _ _ _) ?_) h⟩
  generalize fp i=as at o
  cases o with
  | fz q=>exact q.wide λa l _ _=>l
 ·exact h.elim
theorem mo(i:Nat){x:Str}{pos:Pos}(hN:X.N[i]? =some x:=by rfl)(hv:Vis X.env.scope x:=by first|exact Qp rfl|exact Qh (Qp rfl)|exact Qh (Qh rfl))(hd:(x==("__debug__" : Str))=false:=by decide)
  (hcd:(x==("__classdict__" : Str))=false:=by decide):ME X io true false (.Name x pos) (Z65 i):=by
 refine⟨_,pv i hN hv hd hcd,λC H σ δ fp ex K Q R h k=>?_⟩
 unfold Z65 at h
 split at h
 ·rename_i d hd
  obtain⟨v,e,o⟩:=R.own i _ hd
  exact⟨v,e,k H v _ δ fp [] (.fz R (.refl _ _ _ _) (o.da (λa _ _ z=>(nomatch z)) λa _ z=>(nomatch z))) h⟩
 ·exact h.elim
theorem Zk8{t:V}{d:Xa}(h:PE X e (tC t))(s:ScD t d):ME X io true true e (mC d) :=
 ⟨_,h,λC H σ δ fp ex K Q R h k=>k H t _ δ fp [] (.fz R (.refl _ _ _ _) s.da) h⟩
theorem Z5t{i j pos}:ME X io true true (.Constant (.int i) j pos) (mC (.int i)):=Zk8 Zsc (.int i)
theorem Zlb{b j pos}:ME X io true true (.Constant (.bool b) j pos) (mC (.bool b)):=Zk8 Z7y (.bl b)
theorem Zmv{j pos}:ME X io true true (.Constant .none j pos) (mC .none):=Zk8 Z4a .non
theorem SE.two{ta tb:TE}(ha:SE G io p c ta ma)(hb:SE G io p' c' tb mb)(hc:p'=true∨c=true){C:MC G}{H:Hp}{σ:St}{δ:Zf}{fp:Fp}{ex:Addr->Prop}{K:OT->OT->Zf->Prop}{Q:V->V->Hp->Prop}
  (R:Rel C io H σ δ fp ex) (h:ma δ λx δ1=>mb δ1 λy δ2=>K x y δ2)
  (k:∀H' x y u v δ' fp',Rel C io H' σ δ' fp' ex->Stp (p&&p') H δ fp H' δ' fp'->Da G H' (λa=>(c&&c')=true->Lf C fp' ex a) x u.data->Da G H' (λa=>(c&&c')=true->Lf C fp' ex a) y v.data->K u v δ'->Q x y H') :
  ta σ H λx H1=>tb σ H1 λy H2=>Q x y H2:=by
 refine ha C H σ δ fp ex _ _ R h λH1 x u δ1 fp1 new1 r1 h1=>?_
 refine hb C H1 σ δ1 fp1 (exu ex new1) _ _ r1.rel h1 λH2 y v δ2 fp2 new2 r2 h2=>?_
 have o1:=r1.rel.own_step (ex':=exu (exu ex new1) new2) r2.stp (c:=c) hc (λa z=>z.imp id λz=>r2.fresh a z) (λa m=>.inr m) r1.own
 have R2:Rel C io H2 σ δ2 fp2 ex:=r2.rel.drop λa z=>.inl (.inl z)
 have q1:Da G H2 (λa=>c=true->Lf C fp2 ex a) x u.data:=by
  refine o1.da (λa l _ z=>?_) (λa m z=>?_)
  ·exact⟨(l z).1,λw=>(l z).2.1 (.inl (.inl w)),(l z).2.2⟩
  ·have:=R.newOk (r1.fresh a m)
   refine⟨λqz9=>?_,this.2.1,.inr this.2.2⟩
   obtain⟨i,w⟩:=qz9
   exact r2.rel.dx i a w (.inl (.inr m))
 have q2:=r2.da r1.rel
 refine k H2 x y u v δ2 fp2 R2 (r1.stp.trans r2.stp) (q1.wide λa l _ z=>l (by rw[XC]at z;exact z.1)) (q2.wide λa l _ z=>?_) h2
 have l:=l (by rw[XC]at z;exact z.2)
 exact⟨l.1,λw=>l.2.1 (.inl w),l.2.2⟩
noncomputable def P2s(G:Xb)(r:R2)(rp:Xa->Xa->(Xa->Prop)->Prop):Prop:=∀(H:Hp) (L:Addr->Prop) (x y:V) (d e:Xa) (k:Xa->Prop) (Q:VK),Da G H L x d->Da G H L y e->rp d e k->(∀v d',ScD v d'->k d'->Q v H)->r x y H Q
noncomputable def P2(G:Xb)(r:R2)(rp:Xa->Xa->(OT->Prop)->Prop):Prop:=∀(H:Hp) (L:Addr->Prop) (x y:V) (d e:Xa) (k:OT->Prop) (Q:VK),Da G H L x d->Da G H L y e->rp d e k ->
 (∀ H' v o new,Same H H'->Own G H' (λa=>(L a∨H a=none)∧a∉new) v o new->new.Nodup->(∀a∈new,H a=none)->k o->Q v H')->r x y H Q
noncomputable def Zln(rp:Xa->Xa->(Xa->Prop)->Prop)(ma mb:MEt):MEt:=λδ K=>ma δ λx δ1=>mb δ1 λy δ2=>rp x.data y.data λd=>K (.fz d) δ2
noncomputable def Z6v(rp:Xa->Xa->(OT->Prop)->Prop)(ma mb:MEt):MEt:=λδ K=>ma δ λx δ1=>mb δ1 λy δ2=>rp x.data y.data λd=>K d δ2
theorem Zzg{r:R2}{rp}{ta tb:TE}(P:P2s G r rp)(ha:SE G io p c ta ma)(hb:SE G io p' c' tb mb)(hc:p'=true∨c=true):SE G io (p&&p') true (tOp r ta tb) (Zln rp ma mb):=by
 intro C H σ δ fp ex K Q R h k
 refine SE.two (K:=λx y δ2=>rp x.data y.data λd=>K (.fz d) δ2) (Q:=λx y H2=>r x y H2 Q) ha hb hc R h λH' x y u v δ' fp' R' S q1 q2 h'=>?_
 exact P H' _ x y _ _ _ _ q1 q2 h' λw d' sc h''=>k H' w _ δ' fp' [] (.fz R' S sc.da) h''
theorem Yca{r:R2}{rp}{ta tb:TE}(P:P2 G r rp)(ha:SE G io p c ta ma)(hb:SE G io p' c' tb mb)(hc:p'=true∨c=true):SE G io (p&&p') (c&&c') (tOp r ta tb) (Z6v rp ma mb):=by
 intro C H σ δ fp ex K Q R h k
 refine SE.two (K:=λx y δ2=>rp x.data y.data λd=>K d δ2) (Q:=λx y H2=>r x y H2 Q) ha hb hc R h λH' x y u v δ' fp' R' S q1 q2 h'=>?_
 exact P H' _ x y _ _ _ _ q1 q2 h' λH2 w o new s ow nd hn h''=>k H2 w o δ' fp' new (RE.tree R R' S s hn nd ow) h''
theorem Zgf{op:Operator}{r:R2}{rp}{pos:Pos}(ho:OpR X (Vk op) r)(P:P2s X.K r rp)(ha:ME X io p c a ma)(hb:ME X io p' c' b mb)(hc:p'=true∨c=true:=by first|exact Qp rfl|exact Qh rfl):ME X io (p&&p') true (.BinOp a op b pos) (Zln rp ma mb):=by
 obtain⟨_,A,sa⟩:=ha
 obtain⟨_,B,sb⟩:=hb
 exact⟨_,Zy2 ho A B,Zzg P sa sb hc⟩
theorem Z1n{op:Operator}{r:R2}{rp}{pos:Pos}(ho:OpR X (Vk op) r)(P:P2 X.K r rp)(ha:ME X io p c a ma)(hb:ME X io p' c' b mb)(hc:p'=true∨c=true:=by first|exact Qp rfl|exact Qh rfl):ME X io (p&&p') (c&&c') (.BinOp a op b pos) (Z6v rp ma mb):=by
 obtain⟨_,A,sa⟩:=ha
 obtain⟨_,B,sb⟩:=hb
 exact⟨_,Zy2 ho A B,Yca P sa sb hc⟩
theorem Z2g{op:CmpOp}{r:R2}{rp}{pos:Pos}(ho:OpR X (Va op) r)(P:P2s X.K r rp)(ha:ME X io p c a ma)(hb:ME X io p' c' b mb)(hc:p'=true∨c=true:=by first|exact Qp rfl|exact Qh rfl)(hm:Uj op b=false):ME X io (p&&p') true (.Compare a [op] [b] pos) (Zln rp ma mb):=by
 obtain⟨_,A,sa⟩:=ha
 obtain⟨_,B,sb⟩:=hb
 exact⟨_,Zz3 ho A B hm,Zzg P sa sb hc⟩
theorem Yc0{r:R2}{rp}{pos:Pos}(ho:IxR X r)(P:P2 X.K r rp)(ha:ME X io p c a ma)(hb:ME X io p' c' b mb)(hc:p'=true∨c=true:=by first|exact Qp rfl|exact Qh rfl)(hs:Zic b):ME X io (p&&p') (c&&c') (.Subscript a b pos) (Z6v rp ma mb):=by
 obtain⟨_,A,sa⟩:=ha
 obtain⟨_,B,sb⟩:=hb
 exact⟨_,Zxn ho A B hs,Yca P sa sb hc⟩
noncomputable def kB(K:Bool->Zf->Prop):OT->Zf->Prop:=λo δ=>match o with| .fz (.bool b)=>K b δ|_=>False
theorem Z7l{t:TE}(h:SE G io p c t m):STt G io p (Z2k t) (λδ K=>m δ (kB K)):=by
 intro C H σ δ fp ex K Q R h' k
 refine h C H σ δ fp ex _ _ R h' λH' v r δ' fp' new r1 h1=>?_
 cases r with
 | nd ts=>exact h1.elim
 | tp ts=>exact h1.elim
 | dc _ _ _=>exact h1.elim
 | fz d=>
  cases d with
  | bool b=>
   cases r1.own with
   | fz q=>
    cases q
    exact⟨b,rfl,k H' b δ' fp' r1.base r1.stp h1⟩
  | _=>exact h1.elim
theorem Zcs{op:CmpOp}{r:R2}{rp}{pos:Pos}(ho:OpR X (Va op) r)(P:P2s X.K r rp)(ha:ME X io p c a ma)(hb:ME X io p' c' b mb)(hc:p'=true∨c=true:=by first|exact Qp rfl|exact Qh rfl)(hm:Uj op b=false) :
  MT X io (p&&p') (.Compare a [op] [b] pos) (λδ K=>Zln rp ma mb δ (kB K)):=by
 obtain⟨_,A,sa⟩:=ha
 obtain⟨_,B,sb⟩:=hb
 exact⟨_,Zzb ho A B hm,Z7l (Zzg P sa sb hc)⟩
end
variable {G:Xb}
section
variable {X:Cx}{io:List Nat}{p p' p'' c c':Bool}{e a b:Expr}{m ma mb:MEt}{es rest:List Expr}{ta tb:MTt}{pos:Pos}
noncomputable def Yb7(t:MTt):MTt:=λδ K=>t δ λb δ'=>K (!b) δ'
noncomputable def Yag(t u:MTt):MTt:=λδ K=>t δ λb δ'=>if b=true then u δ' K else K false δ'
noncomputable def mOr(t u:MTt):MTt:=λδ K=>t δ λb δ'=>if b=true then K true δ' else u δ' K
theorem Z37(h:MT X io p a ta):MT X io p (.UnaryOp .Not a pos) (Yb7 ta):=by
 obtain⟨_,A,sa⟩:=h
 exact⟨_,Z4j A,λC H σ δ fp ex K Q R h k=>sa C H σ δ fp ex _ _ R h λH' b δ' fp' R' S h'=>k H' (!b) δ' fp' R' S h'⟩
theorem Zy3(h:MT X io p a ta):MW X io p (.BoolOp .And [a] pos) ta:=by
 obtain⟨_,A,sa⟩:=h
 exact⟨_,Zy0 A,sa⟩
theorem Zkt(h:MT X io p a ta):MW X io p (.BoolOp .Or [a] pos) ta:=by
 obtain⟨_,A,sa⟩:=h
 exact⟨_,Z4h A,sa⟩
theorem Stp.andL{H H':Hp}{δ δ':Zf}{fp fp':Fp}(S:Stp p H δ fp H' δ' fp'):Stp (p&&p') H δ fp H' δ' fp':=by
 have:=S.trans (Stp.refl p' H' δ' fp')
 exact this
theorem Z3u(h:MT X io p a ta)(g:MW X io p' (.BoolOp .And (b :: rest) pos) tb):MW X io (p&&p') (.BoolOp .And (a :: b :: rest) pos) (Yag ta tb):=by
 obtain⟨_,A,sa⟩:=h
 obtain⟨_,B,sb⟩:=g
 exact⟨_,Z5q A B,λC H σ δ fp ex K Q R h k=>sa C H σ δ fp ex _ _ R h λH' b δ' fp' R' S h'=>by
  cases b with
  | true=>
   rw[if_pos rfl]at h'⊢
   exact sb C H' σ δ' fp' ex _ _ R' h' λH2 b2 δ2 fp2 R2 S2 h2=>k H2 b2 δ2 fp2 R2 (S.trans S2) h2
  | false=>
   rw[if_neg Xy]at h'⊢
   exact k H' false δ' fp' R' S.andL h'⟩
theorem Zlz(h:MT X io p a ta)(g:MW X io p' (.BoolOp .Or (b :: rest) pos) tb):MW X io (p&&p') (.BoolOp .Or (a :: b :: rest) pos) (mOr ta tb):=by
 obtain⟨_,A,sa⟩:=h
 obtain⟨_,B,sb⟩:=g
 exact⟨_,Z8u A B,λC H σ δ fp ex K Q R h k=>sa C H σ δ fp ex _ _ R h λH' b δ' fp' R' S h'=>by
  cases b with
  | true=>
   rw[if_pos rfl]at h'⊢
   exact k H' true δ' fp' R' S.andL h'
  | false=>
   rw[if_neg Xy]at h'⊢
   exact sb C H' σ δ' fp' ex _ _ R' h' λH2 b2 δ2 fp2 R2 S2 h2=>k H2 b2 δ2 fp2 R2 (S.trans S2) h2⟩
theorem MW.mt(h:MW X io p e ta):MT X io p e ta:=by
 obtain⟨_,A,sa⟩:=h
 exact⟨_,A.pt,sa⟩
noncomputable def Zu2:Xa->Option Bool
 | .none=>some false
 | .bool b=>some b
 | .int i=>some (i !=0)
 | .list ds=>some (!ds.isEmpty)
 | .tuple ds=>some (!ds.isEmpty)
 | _=>none
noncomputable def Yaw(m:MEt):MTt:=λδ K=>m δ λr δ'=>match Zu2 r.data with|some b=>K b δ'|none=>False
theorem Das.isEmpty{H:Hp}{L:Addr->Prop}{xs:List V}{ds:List Xa}(h:Das G H L xs ds):xs.isEmpty=ds.isEmpty:=by cases h<;>rfl
theorem Zct(ha:ME X io p c a ma)(he:∀whole,isTrue a X.env whole=(do let v←whole;standAt a.pos;holding [v] (truthy v))):MT X io p a (Yaw ma):=by
 obtain⟨_,A,sa⟩:=ha
 exact⟨_,Z0y rfl A he,λC H σ δ fp ex K' Q R h k=>sa C H σ δ fp ex _ _ R h λH' v r δ' fp' new r1 h1=>by
  have q:=r1.da R
  generalize r.data=d at q h1
  cases q with
  | non=>exact⟨_,rfl,k H' _ δ' fp' r1.base r1.stp h1⟩
  | bl b=>exact⟨_,rfl,k H' _ δ' fp' r1.base r1.stp h1⟩
  | int b=>exact⟨_,rfl,k H' _ δ' fp' r1.base r1.stp h1⟩
  | str x=>exact h1.elim
  | lst _ e q=>exact⟨_,.inl ⟨_,.inl e,rfl⟩,k H' _ δ' fp' r1.base r1.stp (by rw[q.isEmpty];exact h1)⟩
  | tup e q=>exact⟨_,.inr (.inl ⟨_,.inl (.inl e),rfl⟩),k H' _ δ' fp' r1.base r1.stp (by rw[q.isEmpty];exact h1)⟩
  | scr q=>exact⟨_,.inl ⟨_,q.sq,rfl⟩,k H' _ δ' fp' r1.base r1.stp (by simpa [Zu2]using h1)⟩
  | exc _ _ _=>exact h1.elim
  | fn _=>exact h1.elim
  | dic _ _ _ _=>exact h1.elim⟩
noncomputable def asB(d:Xa)(k:Bool->Prop):Prop:=match d with| .bool b=>k b|_=>False
noncomputable def Z6j(a b:MEt):MEt:=λδ K=>a δ λx δ1=>asB x.data λc=>if c=true then b δ1 K else K (.fz (.bool false)) δ1
noncomputable def Z4d(a:MEt):MEt:=λδ K=>a δ λx δ1=>asB x.data λc=>K (.fz (.bool (!c))) δ1
theorem Da.boolInv{H:Hp}{L:Addr->Prop}{v:V}{d:Xa}{k:Bool->Prop}(q:Da G H L v d)(h:asB d k):∃b,v= .bl b∧k b:=by
 cases q with
 | bl b=>exact⟨b,rfl,h⟩
 | _=>exact h.elim
theorem RE.step{C:MC G}{H H1 H2:Hp}{σ:St}{δ δ1 δ2:Zf}{fp fp1 fp2:Fp}{ex:Addr->Prop}{v:V}{r:OT}{new:List Addr}(S:Stp p H δ fp H1 δ1 fp1)(R:RE C io p' c H1 σ δ1 fp1 ex H2 v r δ2 fp2 new) :
  RE C io (p&&p') c H σ δ fp ex H2 v r δ2 fp2 new:=⟨R.rel,S.trans R.stp,R.own,R.nd,λa m=>S.al a (R.fresh a m)⟩
theorem Z71{op}(h:ME X io p c a ma):ME X io p c (.BoolOp op [a] pos) ma:=by
 obtain⟨_,A,sa⟩:=h
 exact⟨_,Z2m A,sa⟩
theorem Z96(ha:ME X io p c a ma)(hb:ME X io p' c' (.BoolOp .And (b :: rest) pos) mb):ME X io (p&&p') c' (.BoolOp .And (a :: b :: rest) pos) (Z6j ma mb):=by
 obtain⟨_,A,sa⟩:=ha
 obtain⟨_,B,sb⟩:=hb
 exact⟨_,Z24 A B,λC H σ δ fp ex K Q R h k=>sa C H σ δ fp ex _ _ R h λH' v r δ' fp' new r1 h1=>by
  obtain⟨b,rfl,h1⟩:=(r1.da R).boolInv h1
  refine⟨b,rfl,?_⟩
  cases b with
  | true=>
   rw[if_pos rfl]at h1⊢
   exact sb C H' σ δ' fp' ex _ _ r1.base h1 λH2 w r2 δ2 fp2 new2 R2 h2=>k H2 w r2 δ2 fp2 new2 (R2.step r1.stp) h2
  | false=>
   rw[if_neg Xy]at h1⊢
   exact k H' _ _ δ' fp' [] (RE.fz r1.base r1.stp.andL (.bl false)) h1⟩
theorem Z90(ha:ME X io p c a ma):ME X io p true (.UnaryOp .Not a pos) (Z4d ma):=by
 obtain⟨_,A,sa⟩:=ha
 exact⟨_,Z2x A,λC H σ δ fp ex K Q R h k=>sa C H σ δ fp ex _ _ R h λH' v r δ' fp' new r1 h1=>by
  obtain⟨b,rfl,h1⟩:=(r1.da R).boolInv h1
  exact⟨b,rfl,k H' _ _ δ' fp' [] (RE.fz r1.base r1.stp (.bl _)) h1⟩⟩
theorem Stp.cast{p p':Bool}{H H':Hp}{δ δ':Zf}{fp fp':Fp}(h:p'=true->p=true)(S:Stp p H δ fp H' δ' fp'):Stp p' H δ fp H' δ' fp' :=
 ⟨λb o e q=>S.keep b o e (q.imp h id),λq=>S.env (h q),S.grow,S.al⟩
end
section
variable {X:Cx}{io:List Nat}{p p' p'' c c':Bool}{e a b:Expr}{m ma mb:MEt}{es rest:List Expr}{mr:MAt}{pos:Pos}
noncomputable def Ybc:MAt:=λδ K=>K [] δ
noncomputable def Z52(m:MEt)(mr:MAt):MAt:=λδ K=>m δ λr δ1=>mr δ1 λrs δ2=>K (r :: rs) δ2
theorem Z3g:MA X io true true [] Ybc:=⟨_,Zfi,λC H σ δ fp ex K Q R h k=>k H [] [] δ fp [] ⟨R.drop λa z=>Zao.mp z,.refl _ _ _ _,.nil,.nil,λa m=>nomatch m⟩ h⟩
theorem Zz4(ha:ME X io p c e m)(hr:MA X io p' c' es mr)(hc:p'=true∨c=true)(hs:Xm (e :: es) X.env=(false,eval e X.env) :: Xm es X.env:=by rfl):MA X io (p&&p') (c&&c') (e :: es) (Z52 m mr):=by
 obtain⟨tA,A,sa⟩:=ha
 obtain⟨tB,B,sb⟩:=hr
 refine⟨_,Zag A B hs,λC H σ δ fp ex K Q R h k=>?_⟩
 refine sa C H σ δ fp ex _ _ R h λH1 x u δ1 fp1 new1 r1 h1=>?_
 refine sb C H1 σ δ1 fp1 (exu ex new1) _ _ r1.rel h1 λH2 ys us δ2 fp2 new2 r2 h2=>?_
 have o1:=r1.rel.own_step (ex':=exu (exu ex new1) new2) r2.stp (c:=c) hc (λa z=>z.imp id λz=>r2.fresh a z) (λa m=>.inr m) r1.own
 have eqx:∀a,exu ex (new1 ++ new2) a->exu (exu ex new1) new2 a:=λa z=>by
  rcases z with z|z
  ·exact .inl (.inl z)
  ·rcases X3.mp z with z|z
   ·exact .inl (.inr z)
   ·exact .inr z
 refine k H2 (x :: ys) (u :: us) δ2 fp2 (new1 ++ new2) ⟨r2.rel.drop eqx,r1.stp.trans r2.stp,.cons (o1.wide λa l _ z=>?_) (r2.own.wide λa l _ z=>?_),?_,?_⟩ h2
 ·have l:=l (by rw[XC]at z;exact z.1)
  exact⟨l.1,λw=>l.2.1 (eqx a w),l.2.2⟩
 ·have l:=l (by rw[XC]at z;exact z.2)
  exact⟨l.1,λw=>l.2.1 (eqx a w),l.2.2⟩
 ·refine QL.mpr ⟨r1.nd,r2.nd,λa m b m' z=>?_⟩
  subst z
  obtain⟨xs,e⟩:=r1.own.some a m
  rw[r2.fresh a m']at e
  cases e
 ·intro a m
  rcases X3.mp m with m|m
  ·exact r1.fresh a m
  ·exact r1.stp.al a (r2.fresh a m)
noncomputable def Ybq(m:MAt):MEt:=λδ K=>m δ λrs δ'=>rs.length≤Xq∧K (.fz (.tuple (OT.datas rs))) δ'
noncomputable def Yb1(m:MAt):MEt:=λδ K=>m δ λrs δ'=>rs.length≤Xq∧K (.nd rs) δ'
theorem Z9o{x1}(h:MA X io p c es mr):ME X io p c (.Tuple es x1 pos) (Ybq mr):=by
 obtain⟨tA,A,sa⟩:=h
 refine⟨_,Zo8 A,λC H σ δ fp ex K Q R h k=>?_⟩
 refine sa C H σ δ fp ex _ _ R h λH1 vs rs δ1 fp1 new1 r1 h1=>⟨by rw[r1.own.length];exact h1.1,λq hq=>?_⟩
 have s:=Z8 hq (.tup vs)
 have R1:=r1.base
 have S:=r1.stp.trans (p':=true) (Stp.same (p:=true) (δ:=δ1) (fp:=fp1) s s.al)
 rw[U5]at S
 refine k _ _ _ δ1 fp1 [] (.fz ?_ S (.tup Zt ((r1.das R).same s))) h1.2
 exact(R1.made (new:=[]) s λa m=>nomatch m).drop λa z=>.inl z
theorem Z8s(h:MA X io p c es mr):ME X io p c (.List es pos) (Yb1 mr):=by
 obtain⟨tA,A,sa⟩:=h
 refine⟨_,Z6i A,λC H σ δ fp ex K Q R h k=>?_⟩
 refine sa C H σ δ fp ex _ _ R h λH1 vs rs δ1 fp1 new1 r1 h1=>⟨by rw[r1.own.length];exact h1.1,λq hq=>?_⟩
 have s:=Z8 hq (.lst vs)
 have S:=r1.stp.trans (p':=true) (Stp.same (p:=true) (δ:=δ1) (fp:=fp1) s s.al)
 rw[U5]at S
 have hqn:q∉new1:=λm=>by
  obtain⟨xs,e⟩:=r1.own.some q m
  rw[hq]at e;cases e
 have R2:=(r1.rel.made (new:=[q]) s λa m=>by
  rcases Xu.mp m with rfl
  exact⟨hq,by rw[Zt];intro z;cases z⟩)
 have eqx:∀a,exu ex (q :: new1) a->exu (exu ex new1) [q] a:=λa z=>by
  rcases z with z|z
  ·exact .inl (.inl z)
  ·rcases Xk.mp z with z|z
   ·exact .inr (Xu.mpr z)
   ·exact .inl (.inr z)
 refine k _ _ _ δ1 fp1 (q :: new1) ⟨R2.drop eqx,S,.nd Zt ((r1.own.wide λa l w z=>?_).same s),XX.mpr ⟨hqn,r1.nd⟩,λa m=>?_⟩ h1.2
 ·have l:=l z
  refine⟨l.1,λy=>?_,l.2.2⟩
  rcases eqx a y with y|y
  ·exact l.2.1 y
  ·rcases Xu.mp y with rfl
   exact w hq
 ·rcases Xk.mp m with rfl|m
  ·exact r1.stp.al _ hq
  ·exact r1.fresh a m
end
variable {G:Xb}
noncomputable def spD(G:Xb)(S:List Xa->(OT->Prop)->Prop):Sp:=λvs H Q _=>∃L ds k,Das G H L vs ds∧S ds k∧
 ∀r v H' new,k r->Same H H'->Own G H' (λa=>(L a∨H a=none)∧a∉new) v r new->new.Nodup->(∀a∈new,H a=none)->Q v H'
noncomputable def spI(G:Xb)(S:OT->List Xa->(OT->OT->Prop)->Prop):Sp:=λvs H Q _=>∃L v0 t0 as vs' ds k,vs=v0 :: vs'∧Own G H L v0 t0 as∧as.Nodup∧(∀a∈as,¬L a)∧Das G H L vs' ds∧S t0 ds k∧
 ∀r t' v H' new as',k r t'->(∀b o,H b=some o->b∉as->H' b=some o)->(∀b,H' b=none->H b=none) ->
  Own G H' (λa=>(L a∨H a=none)∧a∉new∧a∉as') v r new->Own G H' (λa=>(L a∨H a=none)∧a∉new∧a∉as') v0 t' as'->(as' ++ new).Nodup->(∀a∈new,H a=none)->(∀a∈as',a∈as∨H a=none)->Q v H'
section
variable {X:Cx}{io:List Nat}{p p' p'' c c':Bool}{e a b:Expr}{m ma mb:MEt}{es rest:List Expr}{mr:MAt}{pos:Pos}
variable {CX:CXT}{k:Nat}{f:Addr}{fd:XN}{ps:List Str}{E:XK}{x:Str}{pp:Pos}
noncomputable def Zud(S:List Xa->(OT->Prop)->Prop)(mr:MAt):MEt:=λδ K=>mr δ λrs δ1=>S (OT.datas rs) λr=>K r δ1
theorem Z12{S}{t:TA}(sa:SA G io p c t mr):SE G io p c (Zsh (spD G S) [] E t) (Zud S mr):=by
 intro C H σ δ fp ex K Q R h kk
 refine sa C H σ δ fp ex _ _ R h λH1 vs rs δ1 fp1 new1 r1 h1=>?_
 rw[QJ]
 refine⟨_,_,_,r1.das R,h1,λr v H' new kr s o nd hn=>?_⟩
 exact kk H' v r δ1 fp1 new (RE.tree R r1.base r1.stp s hn nd o) kr
theorem Z29{S}(F:FnOk X.prog X.w X.K X.mg X.base CX k f fd ps (spD X.K S))(hr:Room k X.A)(hg:Gl X x)(hm:X.mg x=some (.ref f))(hk:Bj X.K (.ref f)=true)(hb:Binds X.K fd ps [])(hx:Zgi CX X E)
  (ha:MA X io p c (e :: es) mr) (hdb:(x==("__debug__" : Str))=false:=by decide) (he:Xm (e :: es) X.env=(false,eval e X.env) :: Xm es X.env:=by rfl) (hpl:(JL pos (Xm es X.env)).any (·.1)=false:=by rfl) :
  ME X io p c (.Call (.Name x pp) (e :: es) [] pos) (Zud S mr):=by
 obtain⟨_,A,sa⟩:=ha
 exact⟨_,Zqh F hr hg hm hk hb .nil hx A hdb he hpl,Z12 sa⟩
theorem Ycu(hg:Gl X x)(hm:X.mg x=some (.ref f))(hc:ClsAt X.K x f)(hdb:(x==("__debug__" : Str))=false:=by decide):ME X io true true (.Name x pos) (mC (fnD x)) :=
 ⟨_,Zxb (v:=.ref f) hg hm rfl hdb,λC H σ δ fp ex K Q R h k=>k H (.ref f) _ δ fp [] (.fz R (.refl _ _ _ _) (.fn hc)) h⟩
noncomputable def Z5a(i:Nat)(f:Addr)(sp:Sp)(E:XK)(t:TA):TE:=λσ H Q=>σ[i]? =some (some (.ref f))∧Zsh sp [] E t σ H Q
theorem Zu0{sp:Sp}{t:TA}{i:Nat}(F:FnOk X.prog X.w X.K X.mg X.base CX k f fd ps sp)(hr:Room k X.A)(hN:X.N[i]? =some x)(hv:Vis X.env.scope x)(hk:Bj X.K (.ref f)=true)(hb:Binds X.K fd ps [])(hx:Zgi CX X E)
  (ha:PA X (e :: es) t) (hdb:(x==("__debug__" : Str))=false:=by decide) (hcd:(x==("__classdict__" : Str))=false:=by decide) (he:Xm (e :: es) X.env=(false,eval e X.env) :: Xm es X.env:=by rfl) (hpl:(JL pos (Xm es X.env)).any (·.1)=false:=by rfl) :
  PE X (.Call (.Name x pp) (e :: es) [] pos) (Z5a i f sp E t):=by
 intro pins s σ H Q I h
 obtain⟨e0,h⟩:=h
 refine Vi (thn (Zwg hN hv hdb hcd pins s σ H (λv H'=>v= .ref f∧H'=H) I ⟨_,e0,rfl,rfl⟩) λu s0 q=>?_)
 obtain⟨v,H0,I0,r0,e1,e2⟩:=q
 subst e1 e2
 cases(show u=QS f from r0)
 refine PySem.W.callWith_K (h₀:=X.base) I0.ok.mod.kin hk (thn (ha pos pins s0 σ H0 _ I0 h) λus s1 q=>?_) he hpl
 obtain⟨vs,H1,I1,r,q⟩:=q
 exact⟨I1.kIn,Zwl F hr hb .nil hx I1 r q⟩
noncomputable def Zwr(i:Nat)(y:Str)(S:List Xa->(OT->Prop)->Prop)(mr:MAt):MEt:=λδ K=>δ[i]? =some (some (.fz (fnD y)))∧Zud S mr δ K
theorem Da.fnInv{H:Hp}{L:Addr->Prop}{v:V}{y:Str}{f:Addr}(q:Da G H L v (fnD y))(hf:ClsAt G y f):v= .ref f:=by
 generalize ed:fnD y=d at q
 cases q with
 | fn h=>
  unfold fnD at ed
  injection ed with ed
  injection ed with ed _
  injection ed with ed _
  injection ed with ed
  subst ed
  have:=h.symm.trans hf
  injection this with this
  injection this with this
  injection this with this
  rw[this]
 | exc _ _ _=>unfold fnD exD at ed;cases ed
 | _=>unfold fnD at ed;cases ed
theorem Zrt{S}{i:Nat}{y:Str}(F:FnOk X.prog X.w X.K X.mg X.base CX k f fd ps (spD X.K S))(hr:Room k X.A)(hc:ClsAt X.K y f)(hk:Bj X.K (.ref f)=true)(hb:Binds X.K fd ps [])(hx:Zgi CX X E)
  (ha:MA X io p c (e :: es) mr) (hN:X.N[i]? =some x:=by rfl) (hv:Vis X.env.scope x:=by first|exact Qp rfl|exact Qh (Qp rfl)|exact Qh (Qh rfl)) (hdb:(x==("__debug__" : Str))=false:=by decide) (hcd:(x==("__classdict__" : Str))=false:=by decide)
  (he:Xm (e :: es) X.env=(false,eval e X.env) :: Xm es X.env:=by rfl) (hpl:(JL pos (Xm es X.env)).any (·.1)=false:=by rfl):ME X io p c (.Call (.Name x pp) (e :: es) [] pos) (Zwr i y S mr):=by
 obtain⟨_,A,sa⟩:=ha
 refine⟨_,Zu0 F hr hN hv hk hb hx A hdb hcd he hpl,λC H σ δ fp ex K Q R h kk=>?_⟩
 obtain⟨h0,h⟩:=h
 obtain⟨v,e1,o⟩:=R.own i _ h0
 generalize fp i=as at o
 cases o with
 | fz q=>
  rw[q.fnInv hc]at e1
  exact⟨e1,Z12 sa C H σ δ fp ex K Q R h kk⟩
noncomputable def Zjr(i:Nat)(S:OT->List Xa->(OT->OT->Prop)->Prop)(mr:MAt):MEt:=λδ K=>match δ[i]? with
 | some (some _)=>mr δ λrs δ1=>match δ1[i]? with
  | some (some t)=>S t (OT.datas rs) λr t'=>K r (δ1.set i (some t'))
  | _=>False
 | _=>False
noncomputable def fpu(fp:Fp)(i:Nat)(as:List Addr):Fp:=λj=>if j=i then as else fp j
theorem Zx{fp:Fp}{i:Nat}{as:List Addr}:fpu fp i as i=as:=if_pos rfl
theorem Z9{fp:Fp}{i j:Nat}{as:List Addr}(h:j≠i):fpu fp i as j=fp j:=if_neg h
theorem Foot.of_u{fp:Fp}{i:Nat}{as:List Addr}{a:Addr}(h:Foot (fpu fp i as) a):a∈as∨∃j,j≠i∧a∈fp j:=by
 obtain⟨j,h⟩:=h
 by_cases e:j=i
 ·subst e;rw[Zx]at h;exact .inl h
 ·rw[Z9 e]at h;exact .inr ⟨j,e,h⟩
theorem Rel.change{C:MC G}{H H':Hp}{σ:St}{δ:Zf}{fp:Fp}{ex:Addr->Prop}{i:Nat}{t t':OT}{v:V}{as' new:List Addr}(R:Rel C io H σ δ fp ex)(hi:δ[i]? =some (some t))(hv:σ[i]? =some (some v))
  (keep:∀b o,H b=some o->b∉fp i->H' b=some o) (al:∀b,H' b=none->H b=none) (o:Own G H' (Lf C (fpu fp i as') (exu ex new)) v t' as') (nd:as'.Nodup) (new':∀a∈as',a∈fp i∨H a=none)
  (hn:∀a∈new,H a=none∧H' a≠none∧a∉as') :
  Rel C io H' σ (δ.set i (some t')) (fpu fp i as') (exu ex new)∧Stp false H δ fp H' (δ.set i (some t')) (fpu fp i as'):=by
 have hil:i<δ.length:=(Xj.mp hi).1
 have apart:∀j a,j≠i->a∈fp j->a∉as':=λj a e m z=>by
  rcases new' a z with z|z
  ·exact e (R.dj j i a m z)
  ·exact R.footSome z ⟨j,m⟩
 constructor
 ·refine⟨by rw[JK];exact R.len,λj t'' e=>?_,λj h=>?_,λj=>?_,λj k a h1 h2=>?_,λj a h z=>?_,λa z w=>z.elim (λz=>R.xa a z (al a w)) (λz=>(hn a z).2.1 w),λb ob e n=>?_,λb z=>R.al b (al b z),λj a h=>?_,R.io⟩
  ·by_cases ej:j=i
   ·subst ej
    rw[Qn hil]at e
    cases e
    exact⟨v,hv,by rw[Zx];exact o⟩
   ·rw[XR (JP ej)]at e
    obtain⟨w,e1,o1⟩:=R.own j t'' e
    refine⟨w,e1,?_⟩
    rw[Z9 ej]
    refine o1.frame (λa xs l q=>?_) (λa xs q=>keep a _ q λz=>?_) λa m xs q=>keep a _ q λz=>ej (R.dj j i a m z)
    ·have na:a∉fp i:=λz=>l.1 ⟨i,z⟩
     refine⟨⟨λz=>?_,λz=>z.elim l.2.1 λz=>q.some (hn a z).1,l.2.2⟩,?_⟩
     ·rcases z.of_u with z|⟨k,_,z⟩
      ·rcases new' a z with z|z
       ·exact na z
       ·exact q.some z
      ·exact l.1 ⟨k,z⟩
     ·rcases q with q|⟨u,q⟩
      ·exact .inl (keep a _ q na)
      ·exact .inr ⟨u,keep a _ q na⟩
    ·obtain⟨ys,e⟩:=R.foot ⟨i,z⟩
     exact ImO.nm q e
  ·by_cases ej:j=i
   ·subst ej
    exact absurd (Qn hil) (h t')
   ·rw[Z9 ej]
    refine R.emp j λt'' z=>h t'' ?_
    rw[XR (JP ej)]
    exact z
  ·by_cases ej:j=i
   ·subst ej;rw[Zx];exact nd
   ·rw[Z9 ej];exact R.nd j
  ·by_cases ej:j=i
   ·subst ej
    rw[Zx]at h1
    by_cases ek:k=j
    ·exact ek.symm
    ·rw[Z9 ek]at h2
     exact absurd h1 (apart k a ek h2)
   ·rw[Z9 ej]at h1
    by_cases ek:k=i
    ·subst ek
     rw[Zx]at h2
     exact absurd h2 (apart j a ej h1)
    ·rw[Z9 ek]at h2
     exact R.dj j k a h1 h2
  ·by_cases ej:j=i
   ·subst ej
    rw[Zx]at h
    rcases z with z|z
    ·rcases new' a h with w|w
     ·exact R.dx _ a w z
     ·exact R.xa a z w
    ·exact(hn a z).2.2 h
   ·rw[Z9 ej]at h
    rcases z with z|z
    ·exact R.dx j a h z
    ·exact R.footSome (hn a z).1 ⟨j,h⟩
  ·refine keep b ob (R.fr b ob e n) λz=>?_
   rcases R.new i b z with w|w
   ·exact n w.2
   ·rw[e]at w;cases w
  ·by_cases ej:j=i
   ·subst ej
    rw[Zx]at h
    rcases new' a h with w|w
    ·exact R.new _ a w
    ·exact .inr (R.al a w)
   ·rw[Z9 ej]at h
    exact R.new j a h
 ·refine⟨λb ob e q=>keep b ob e λz=>(q.resolve_left (by decide)) ⟨i,z⟩,λz=>(nomatch z),λa z=>?_,al⟩
  rcases z.of_u with z|⟨j,_,z⟩
  ·exact(new' a z).imp (λw=>⟨i,w⟩) id
  ·exact .inl ⟨j,z⟩
theorem Z3j{S}{i:Nat}{t:TA}(sa:SA G io p true t mr):SE G io false true (Zsh (spI G S) [] E (Z1z (Z5v i) t)) (Zjr i S mr):=by
 intro C H σ δ fp ex K Q R h kk
 unfold Zjr at h
 split at h
 case h_2=>exact h.elim
 rename_i t0 hi0
 obtain⟨v0,hv,_⟩:=R.own i t0 hi0
 refine⟨v0,hv,?_⟩
 refine sa C H σ δ fp ex _ _ R h λH1 vs rs δ1 fp1 new1 r1 h1=>?_
 show spI G S ((v0 :: vs) ++ []) H1 Q E
 rw[QJ]
 split at h1
 case h_2=>exact h1.elim
 rename_i t1 hi1
 have R1:=r1.base
 obtain⟨v1,hv1,o1⟩:=R1.own i t1 hi1
 rw[hv]at hv1
 cases hv1
 refine⟨Lf C fp1 ex,v0,t1,fp1 i,vs,_,_,rfl,o1,R1.nd i,λa m l=>l.1 ⟨i,m⟩,(r1.das R).wide λa l _=>l rfl,h1,?_⟩
 intro r t' v H' new as' kr keep al orr ot nd hn ha
 have nd2:=QL.mp nd
 have lw:∀a,((Lf C fp1 ex a∨H1 a=none)∧a∉new∧a∉as')->H' a≠none->Lf C (fpu fp1 i as') (exu ex new) a:=λa l _=>by
  have hf:¬Foot (fpu fp1 i as') a:=λz=>by
   rcases z.of_u with z|⟨j,_,z⟩
   ·exact l.2.2 z
   ·rcases l.1 with l1|l1
    ·exact l1.1 ⟨j,z⟩
    ·exact R1.footSome l1 ⟨j,z⟩
  rcases l.1 with l1|l1
  ·exact⟨hf,λz=>z.elim l1.2.1 l.2.1,l1.2.2⟩
  ·have:=R1.newOk l1
   exact⟨hf,λz=>z.elim this.2.1 l.2.1,.inr this.2.2⟩
 have hnn:∀a∈new,H' a≠none:=λa m z=>by
  obtain⟨xs,e⟩:=orr.some a m
  rw[z]at e;cases e
 obtain⟨R2,S2⟩:=R1.change (new:=new) hi1 hv keep al (ot.wide lw) nd2.1 ha (λa m=>⟨hn a m,hnn a m,λz=>nd2.2.2 a z a m rfl⟩)
 refine kk H' v r _ _ new ⟨R2,?_,orr.wide λa l q _=>lw a l q,nd2.2.1,λa m=>r1.stp.al a (hn a m)⟩ kr
 exact(r1.stp.trans S2).cast λz=>nomatch z
theorem Wn{S}{i:Nat}{y:Str}{py:Pos}(F:FnOk X.prog X.w X.K X.mg X.base CX k f fd ps (spI X.K S))(hr:Room k X.A)(hg:Gl X x)(hm:X.mg x=some (.ref f))(hk:Bj X.K (.ref f)=true)(hb:Binds X.K fd ps [])(hx:Zgi CX X E)
  (ha:MA X io p true es mr) (hN:X.N[i]? =some y:=by rfl) (hv:Vis X.env.scope y:=by first|exact Qp rfl|exact Qh (Qp rfl)|exact Qh (Qh rfl)) (hd:(y==("__debug__" : Str))=false:=by decide)
  (hcd:(y==("__classdict__" : Str))=false:=by decide)
  (hdb:(x==("__debug__" : Str))=false:=by decide) (he:Xm (.Name y py :: es) X.env=(false,eval (.Name y py) X.env) :: Xm es X.env:=by rfl) (hpl:(JL pos (Xm es X.env)).any (·.1)=false:=by rfl) :
  ME X io false true (.Call (.Name x pp) (.Name y py :: es) [] pos) (Zjr i S mr):=by
 obtain⟨_,A,sa⟩:=ha
 exact⟨_,Zqh F hr hg hm hk hb .nil hx (Zag (pv i hN hv hd hcd) A he) hdb he hpl,Z3j sa⟩
noncomputable def PNs(G:Xb)(r:List V->Hp->VK->Prop)(rp:List Xa->(Xa->Prop)->Prop):Prop:=∀(H:Hp) (L:Addr->Prop) (xs:List V) (ds:List Xa) (k:Xa->Prop) (Q:VK),Das G H L xs ds->rp ds k->(∀v d',ScD v d'->k d'->Q v H)->r xs H Q
noncomputable def PN(G:Xb)(r:List V->Hp->VK->Prop)(rp:List Xa->(OT->Prop)->Prop):Prop:=∀(H:Hp) (L:Addr->Prop) (xs:List V) (ds:List Xa) (k:OT->Prop) (Q:VK),Das G H L xs ds->rp ds k ->
 (∀ H' v o new,Same H H'->Own G H' (λa=>(L a∨H a=none)∧a∉new) v o new->new.Nodup->(∀a∈new,H a=none)->k o->Q v H')->r xs H Q
noncomputable def Z7c(rp:List Xa->(Xa->Prop)->Prop)(mr:MAt):MEt:=λδ K=>mr δ λrs δ1=>rp (OT.datas rs) λd=>K (.fz d) δ1
noncomputable def mBl(rp:List Xa->(OT->Prop)->Prop)(mr:MAt):MEt:=λδ K=>mr δ λrs δ1=>rp (OT.datas rs) λo=>K o δ1
theorem Yby{r rp}{t:TA}(P:PNs G r rp)(sa:SA G io p c t mr):SE G io p true (tCB r t) (Z7c rp mr):=λC H σ δ fp ex K Q R h kk=>
 sa C H σ δ fp ex _ _ R h λH1 vs rs δ1 fp1 new1 r1 h1=>P H1 _ vs _ _ _ (r1.das R) h1 λv d' sc h2=>kk H1 v _ δ1 fp1 [] (.fz r1.base r1.stp sc.da) h2
theorem sBl{r rp}{t:TA}(P:PN G r rp)(sa:SA G io p c t mr):SE G io p c (tCB r t) (mBl rp mr):=λC H σ δ fp ex K Q R h kk=>
 sa C H σ δ fp ex _ _ R h λH1 vs rs δ1 fp1 new1 r1 h1=>P H1 _ vs _ _ _ (r1.das R) h1 λH' v o new s ow nd hn h2=>kk H' v o δ1 fp1 new (RE.tree R r1.base r1.stp s hn nd ow) h2
variable {id T:String}{r:List V->Hp->VK->Prop}
theorem Zjm{rp}(P:PNs X.K r rp)(hc:Zbo X (.builtin id) r)(hg:Gl X x)(hm:X.mg x=none)(hv:Qk x=some (.builtin id))(ha:MA X io p c (e :: es) mr)(hn:x≠"__name__" :=by decide)(hdb:(x==("__debug__" : Str))=false:=by decide)
  (he:Xm (e :: es) X.env=(false,eval e X.env) :: Xm es X.env:=by rfl) (hpl:(JL pos (Xm es X.env)).any (·.1)=false:=by rfl):ME X io p true (.Call (.Name x pp) (e :: es) [] pos) (Z7c rp mr):=by
 obtain⟨_,A,sa⟩:=ha
 exact⟨_,Ze7 hc hg hm hv A hn hdb he hpl,Yby P sa⟩
theorem Ycq{rp}(P:PN X.K r rp)(hc:Zbo X (.builtin id) r)(hg:Gl X x)(hm:X.mg x=none)(hv:Qk x=some (.builtin id))(ha:MA X io p c (e :: es) mr)(hn:x≠"__name__" :=by decide)(hdb:(x==("__debug__" : Str))=false:=by decide)
  (he:Xm (e :: es) X.env=(false,eval e X.env) :: Xm es X.env:=by rfl) (hpl:(JL pos (Xm es X.env)).any (·.1)=false:=by rfl):ME X io p c (.Call (.Name x pp) (e :: es) [] pos) (mBl rp mr):=by
 obtain⟨_,A,sa⟩:=ha
 exact⟨_,Ze7 hc hg hm hv A hn hdb he hpl,sBl P sa⟩
theorem Z98{rp}(P:PNs X.K r rp)(hc:Zbo X (.type T) r)(hg:Gl X x)(hm:X.mg x=none)(hv:Qk x=some (.type T))(ha:MA X io p c (e :: es) mr)(hn:x≠"__name__" :=by decide)(hdb:(x==("__debug__" : Str))=false:=by decide)
  (he:Xm (e :: es) X.env=(false,eval e X.env) :: Xm es X.env:=by rfl) (hpl:(JL pos (Xm es X.env)).any (·.1)=false:=by rfl):ME X io p true (.Call (.Name x pp) (e :: es) [] pos) (Z7c rp mr):=by
 obtain⟨_,A,sa⟩:=ha
 exact⟨_,Zkb hc hg hm hv A hn hdb he hpl,Yby P sa⟩
theorem Ybg{rp}(P:PN X.K r rp)(hc:Zbo X (.type T) r)(hg:Gl X x)(hm:X.mg x=none)(hv:Qk x=some (.type T))(ha:MA X io p c (e :: es) mr)(hn:x≠"__name__" :=by decide)(hdb:(x==("__debug__" : Str))=false:=by decide)
  (he:Xm (e :: es) X.env=(false,eval e X.env) :: Xm es X.env:=by rfl) (hpl:(JL pos (Xm es X.env)).any (·.1)=false:=by rfl):ME X io p c (.Call (.Name x pp) (e :: es) [] pos) (mBl rp mr):=by
 obtain⟨_,A,sa⟩:=ha
 exact⟨_,Zkb hc hg hm hv A hn hdb he hpl,sBl P sa⟩
end
variable {G:Xb}
mutual
noncomputable def J7:Xa->Bool
 | .none=>true
 | .bool _=>true
 | .int _=>true
 | .str _=>true
 | .tuple ds=>Zkf ds
 | .list _=>false
 | .dict _=>false
noncomputable def Zkf:List Xa->Bool
 | []=>true
 | d :: ds=>J7 d&&Zkf ds
end
theorem Da.flat2{H:Hp}{L L':Addr->Prop}:(∀{v:V} {d:Xa},Da G H L v d->J7 d=true->Da G H L' v d)∧∀{v:List V} {d:List Xa},Das G H L v d->Zkf d=true->Das G H L' v d :=
 Da.both (λ_=>.non) (λb _=>.bl b) (λi _=>.int i) (λx _=>.str x) (λ_ _ _ h=>by rw[J7]at h;cases h) (λe r h=>.tup e (r (by rw[J7]at h;exact h))) (λk _=>.scr k) (λc n e _=>.exc c n e) (λk _=>.fn k) (λ_ _ _ _ h=>by rw[dcD,J7]at h;cases h) (λ_=>.nil)
  (λk r h=>by rw[Zkf,XC]at h;exact .cons (k h.1) (r h.2))
theorem Da.flat{H:Hp}{L L':Addr->Prop}{v:V}{d:Xa}(h:Da G H L v d)(f:J7 d=true):Da G H L' v d:=Da.flat2.1 h f
set_option genInjectivity false in
structure Zev where
 nx:Zf->Prop
 rt:OT->Zf->Prop
 bk:Zf->Prop:=λ_=>False
 ct:Zf->Prop:=λ_=>False
noncomputable abbrev MSt:=Zev->Zf->Prop
noncomputable abbrev Kp(H:Hp)(fp:Fp)(H':Hp)(fp':Fp):Prop:=Stp false H [] fp H' [] fp'
theorem Stp.kp{p:Bool}{H H':Hp}{δ δ':Zf}{fp fp':Fp}(S:Stp p H δ fp H' δ' fp'):Kp H fp H' fp':=⟨λb o e q=>S.keep b o e (.inr (q.resolve_left (by decide))),λz=>(nomatch z),S.grow,S.al⟩
theorem Kp.trans{H H1 H2:Hp}{fp fp1 fp2:Fp}(a:Kp H fp H1 fp1)(b:Kp H1 fp1 H2 fp2):Kp H fp H2 fp2:=Stp.trans a b
theorem Kp.refl(H:Hp)(fp:Fp):Kp H fp H fp:=Stp.refl _ _ _ _
structure RelEnds(C:MC G)(io:List Nat)(ex:Addr->Prop)(H:Hp)(fp:Fp)(D:Zev)(D':Ends):Prop where
 nx:∀H' σ' δ' fp',Rel C io H' σ' δ' fp' ex->Kp H fp H' fp'->D.nx δ'->D'.nx σ' H'
 bk:∀H' σ' δ' fp',Rel C io H' σ' δ' fp' ex->Kp H fp H' fp'->D.bk δ'->D'.bk σ' H'
 ct:∀H' σ' δ' fp',Rel C io H' σ' δ' fp' ex->Kp H fp H' fp'->D.ct δ'->D'.ct σ' H'
 rt:∀H' σ' v r δ' fp' new,Rel C io H' σ' δ' fp' (exu ex new)->Own G H' (Lf C fp' (exu ex new)) v r new->new.Nodup->(∀a∈new,C.H₀ a=none)->D.rt r δ'->D'.rt v H'
theorem RelEnds.shift{C:MC G}{io:List Nat}{ex:Addr->Prop}{H H1:Hp}{fp fp1:Fp}{D:Zev}{D':Ends}(E:RelEnds C io ex H fp D D')(k:Kp H fp H1 fp1):RelEnds C io ex H1 fp1 D D' :=
 ⟨λH' σ' δ' fp' R q=>E.nx H' σ' δ' fp' R (k.trans q),λH' σ' δ' fp' R q=>E.bk H' σ' δ' fp' R (k.trans q),λH' σ' δ' fp' R q=>E.ct H' σ' δ' fp' R (k.trans q),E.rt⟩
noncomputable def SS(G:Xb)(io:List Nat)(t:TS)(m:MSt):Prop:=∀(C:MC G) (H:Hp) (σ:St) (δ:Zf) (fp:Fp) (ex:Addr->Prop) (D:Zev) (D':Ends),Rel C io H σ δ fp ex->m D δ->RelEnds C io ex H fp D D'->t D' σ H
noncomputable def MS(X:Cx)(io:List Nat)(st:Stmt)(m:MSt):Prop:=∃t,PS X st t∧SS X.K io t m
noncomputable def MSs(X:Cx)(io:List Nat)(st:List Stmt)(m:MSt):Prop:=∃t,PSs X st t∧SS X.K io t m
section
variable {X:Cx}{io:List Nat}{p p' p'' c c':Bool}{e a b:Expr}{m ma mb:MEt}{es rest:List Expr}{mr:MAt}{pos:Pos}{st:Stmt}{sts:List Stmt}{u w:MSt}{mt:MTt}
noncomputable def Z10:MSt:=λD δ=>D.nx δ
noncomputable def Hold(w:MSt)(D:Zev)(δ:Zf):Prop:=w D δ
theorem Hold.go{w:MSt}{D:Zev}{δ:Zf}(h:w D δ):Hold w D δ:=h
noncomputable def Z91(u w:MSt):MSt:=λD δ=>u { D with nx:=Hold w D } δ
theorem Zxh:MSs X io [] Z10:=⟨_,Zx3,λC H σ δ fp ex D D' R h E=>E.nx H σ δ fp R (.refl _ _) h⟩
theorem Zi(h:MS X io st u):MSs X io [st] u:=by
 obtain⟨_,A,s⟩:=h
 exact⟨_,Zow A,s⟩
theorem Zty(h:MS X io st u)(g:MSs X io sts w):MSs X io (st :: sts) (Z91 u w):=by
 obtain⟨_,A,s⟩:=h
 obtain⟨tb,B,s'⟩:=g
 exact⟨_,Zs0 A B,λC H σ δ fp ex D D' R h E=>s C H σ δ fp ex _ _ R h ⟨λH1 σ1 δ1 fp1 R1 k1 h1=>s' C H1 σ1 δ1 fp1 ex D D' R1 h1 (E.shift k1),E.bk,E.ct,E.rt⟩⟩
noncomputable def Z30:MSt:=λ_ _=>False
theorem Zto:MS X io st Z30:=⟨_,Zsw,λC H σ δ fp ex D D' R h E=>h.elim⟩
noncomputable def Z1v(m:MEt):MSt:=λD δ=>m δ λ_ δ'=>D.nx δ'
theorem Zk4(he:ME X io p c e m)(hs:BZ e none pos.line X.env=pure false:=by rfl):MS X io (.Expr e pos) (Z1v m):=by
 obtain⟨_,A,s⟩:=he
 exact⟨_,Ziw A hs,λC H σ δ fp ex D D' R h E=>s C H σ δ fp ex _ _ R h λH' v r δ' fp' new r1 h1=>E.nx H' σ δ' fp' r1.base r1.stp.kp h1⟩
noncomputable def Yao(m:MEt):MSt:=λD δ=>m δ λr δ'=>D.rt r δ'
theorem Z26(he:ME X io p true e m):MS X io (.Return (some e) pos) (Yao m):=by
 obtain⟨_,A,s⟩:=he
 exact⟨_,Zqc A,λC H σ δ fp ex D D' R h E=>s C H σ δ fp ex _ _ R h λH' v r δ' fp' new r1 h1=>E.rt H' σ v r δ' fp' new r1.rel (r1.own.wide λa l _=>l rfl) r1.nd (λa m=>(R.newOk (r1.fresh a m)).2.2) h1⟩
noncomputable def Zsq(i:Nat):MSt:=λD δ=>match δ[i]? with|some (some t)=>D.rt t (δ.set i none)|_=>False
theorem Rel.take{C:MC G}{H:Hp}{σ:St}{δ:Zf}{fp:Fp}{ex:Addr->Prop}{i:Nat}{t:OT}(R:Rel C io H σ δ fp ex)(hi:δ[i]? =some (some t)):Rel C io H σ (δ.set i none) (fpu fp i []) (exu ex (fp i)):=by
 have hil:i<δ.length:=(Xj.mp hi).1
 have get:∀j (t':OT),(δ.set i none)[j]? =some (some t')->j≠i∧δ[j]? =some (some t'):=λj t' e=>by
  by_cases ej:j=i
  ·subst ej;rw[Qn hil]at e;cases e
  ·rw[XR (JP ej)]at e;exact⟨ej,e⟩
 have sub:∀j a,a∈fpu fp i [] j->j≠i∧a∈fp j:=λj a m=>by
  by_cases ej:j=i
  ·subst ej;rw[Zx]at m;exact nomatch m
  ·rw[Z9 ej]at m;exact⟨ej,m⟩
 have lw:∀a,Lf C fp ex a->Lf C (fpu fp i []) (exu ex (fp i)) a:=λa l=>⟨λ⟨j,z⟩=>l.1 ⟨j,(sub j a z).2⟩,λz=>z.elim l.2.1 λz=>l.1 ⟨i,z⟩,l.2.2⟩
 refine⟨by rw[JK];exact R.len,λj t' e=>?_,λj h=>?_,λj=>?_,λj k a h1 h2=>R.dj j k a (sub j a h1).2 (sub k a h2).2,λj a h z=>?_,λa z w=>?_,R.fr,R.al,λj a h=>R.new j a (sub j a h).2,R.io⟩
 ·obtain⟨ej,e⟩:=get j t' e
  obtain⟨w,e1,o⟩:=R.own j t' e
  exact⟨w,e1,by rw[Z9 ej];exact o.wide λa l _=>lw a l⟩
 ·by_cases ej:j=i
  ·subst ej;rw[Zx]
  ·rw[Z9 ej]
   exact R.emp j λt' z=>h t' (by rw[XR (JP ej)];exact z)
 ·by_cases ej:j=i
  ·subst ej;rw[Zx];exact .nil
  ·rw[Z9 ej];exact R.nd j
 ·obtain⟨ej,h⟩:=sub j a h
  rcases z with z|z
  ·exact R.dx j a h z
  ·exact ej (R.dj j i a h z)
 ·rcases z with z|z
  ·exact R.xa a z w
  ·exact R.footSome w ⟨i,z⟩
theorem Zll(i:Nat){x:Str}{px:Pos}(hio:i∉io:=by decide)(hN:X.N[i]? =some x:=by rfl)(hv:Vis X.env.scope x:=by first|exact Qp rfl|exact Qh (Qp rfl)|exact Qh (Qh rfl))(hd:(x==("__debug__" : Str))=false:=by decide)
  (hcd:(x==("__classdict__" : Str))=false:=by decide):MS X io (.Return (some (.Name x px)) pos) (Zsq i):=by
 refine⟨_,Zqc (pv i hN hv hd hcd),λC H σ δ fp ex D D' R h E=>?_⟩
 unfold Zsq at h
 split at h
 case h_2=>exact h.elim
 rename_i t hi
 obtain⟨v,e,o⟩:=R.own i t hi
 have lw:∀a,Lf C fp ex a->H a≠none->Lf C (fpu fp i []) (exu ex (fp i)) a:=λa l _=>⟨λz=>by
  rcases z.of_u with z|⟨j,_,z⟩
  ·exact nomatch z
  ·exact l.1 ⟨j,z⟩,λz=>z.elim l.2.1 λz=>l.1 ⟨i,z⟩,l.2.2⟩
 have hn:∀a∈fp i,C.H₀ a=none:=λa m=>by
  rcases R.new i a m with z|z
  ·exact absurd z.1 hio
  ·exact z
 exact⟨v,e,E.rt H σ v t _ _ (fp i) (R.take hi) (o.wide lw) (R.nd i) hn h⟩
noncomputable def Ya5(t:MTt)(u w:MSt):MSt:=λD δ=>t δ λb δ'=>if b=true then u D δ' else w D δ'
theorem Z8f{cnd:Expr}{ss ss':List Stmt}(hc:MT X io p cnd mt)(ha:MSs X io ss u)(hb:MSs X io ss' w):MS X io (.If cnd ss ss' pos) (Ya5 mt u w):=by
 obtain⟨_,T,s⟩:=hc
 obtain⟨_,A,sa⟩:=ha
 obtain⟨_,B,sb⟩:=hb
 exact⟨_,Z7z T A B,λC H σ δ fp ex D D' R h E=>s C H σ δ fp ex _ _ R h λH' b δ' fp' R' S h'=>by
  cases b with
  | true=>
   rw[if_pos rfl]at h'⊢
   exact sa C H' σ δ' fp' ex D D' R' h' (E.shift S.kp)
  | false=>
   rw[if_neg Xy]at h'⊢
   exact sb C H' σ δ' fp' ex D D' R' h' (E.shift S.kp)⟩
theorem Rel.put{C:MC G}{H:Hp}{σ:St}{δ:Zf}{fp:Fp}{ex:Addr->Prop}{i:Nat}{v:V}{r:OT}{new:List Addr}(R:Rel C io H σ δ fp (exu ex new))(hio:i∉io)(o:Own G H (Lf C fp (exu ex new)) v r new)(nd:new.Nodup)
  (hn:∀a∈new,C.H₀ a=none∧¬ex a):∃fp',Rel C io H (σ.set i (some v)) (δ.set i (some r)) fp' ex∧∀a,Foot fp' a->Foot fp a∨a∈new:=by
 by_cases hil:i<δ.length
 case neg=>
  refine⟨fp,?_,λa h=>.inl h⟩
  have hl:=R.len
  rw[List.set_eq_of_length_le (show δ.length≤i by omega),List.set_eq_of_length_le (show σ.length≤i by omega)]
  exact R.drop λa z=>.inl z
 have hsl:i<σ.length:=by rw[R.len];exact hil
 have sub:∀a,Foot (fpu fp i new) a->Foot fp a∨a∈new:=λa z=>by
  rcases z.of_u with z|⟨j,_,z⟩
  ·exact .inr z
  ·exact .inl ⟨j,z⟩
 have lw:∀a,Lf C fp (exu ex new) a->Lf C (fpu fp i new) ex a:=λa l=>⟨λz=>(sub a z).elim l.1 λz=>l.2.1 (.inr z),λz=>l.2.1 (.inl z),l.2.2⟩
 refine⟨fpu fp i new,⟨by rw[JK,JK];exact R.len,λj t' e=>?_,λj h=>?_,λj=>?_,λj k a h1 h2=>?_,λj a h z=>?_,λa z=>R.xa a (.inl z),R.fr,R.al,λj a h=>?_,λj hj=>?_⟩,sub⟩
 ·by_cases ej:j=i
  ·subst ej
   rw[Qn hil]at e
   cases e
   exact⟨v,Qn hsl,by rw[Zx];exact o.wide λa l _=>lw a l⟩
  ·rw[XR (JP ej)]at e
   obtain⟨w,e1,o1⟩:=R.own j t' e
   exact⟨w,by rw[XR (JP ej)];exact e1,by rw[Z9 ej];exact o1.wide λa l _=>lw a l⟩
 ·by_cases ej:j=i
  ·subst ej;exact absurd (Qn hil) (h r)
  ·rw[Z9 ej]
   exact R.emp j λt' z=>h t' (by rw[XR (JP ej)];exact z)
 ·by_cases ej:j=i
  ·subst ej;rw[Zx];exact nd
  ·rw[Z9 ej];exact R.nd j
 ·by_cases ej:j=i
  ·subst ej
   rw[Zx]at h1
   by_cases ek:k=j
   ·exact ek.symm
   ·rw[Z9 ek]at h2
    exact absurd (.inr h1) (R.dx k a h2)
  ·rw[Z9 ej]at h1
   by_cases ek:k=i
   ·subst ek
    rw[Zx]at h2
    exact absurd (.inr h2) (R.dx j a h1)
   ·rw[Z9 ek]at h2
    exact R.dj j k a h1 h2
 ·by_cases ej:j=i
  ·subst ej
   rw[Zx]at h
   exact(hn a h).2 z
  ·rw[Z9 ej]at h
   exact R.dx j a h (.inl z)
 ·by_cases ej:j=i
  ·subst ej
   rw[Zx]at h
   exact .inr (hn a h).1
  ·rw[Z9 ej]at h
   exact R.new j a h
 ·have ej:j≠i:=λz=>hio (z▸hj)
  rw[XR (JP ej)]
  exact R.io j hj
theorem RE.put{C:MC G}{H H':Hp}{σ:St}{δ δ':Zf}{fp fp':Fp}{ex:Addr->Prop}{i:Nat}{v:V}{r:OT}{new:List Addr}(R:RE C io p true H σ δ fp ex H' v r δ' fp' new)(R0:Rel C io H σ δ fp ex)(hio:i∉io) :
  ∃fp2,Rel C io H' (σ.set i (some v)) (δ'.set i (some r)) fp2 ex∧Kp H fp H' fp2:=by
 obtain⟨fp2,R2,g⟩:=R.rel.put hio (R.own.wide λa l _=>l rfl) R.nd λa m=>⟨(R0.newOk (R.fresh a m)).2.2,(R0.newOk (R.fresh a m)).2.1⟩
 refine⟨fp2,R2,λb o e q=>R.stp.keep b o e (.inr (q.resolve_left (by decide))),λz=>(nomatch z),λa z=>?_,R.stp.al⟩
 rcases g a z with z|z
 ·exact R.stp.grow a z
 ·exact .inr (R.fresh a z)
theorem RE.fzc{C:MC G}{H H':Hp}{σ:St}{δ δ':Zf}{fp fp':Fp}{ex:Addr->Prop}{v:V}{r:OT}{new:List Addr}(R:RE C io p c H σ δ fp ex H' v r δ' fp' new)(R0:Rel C io H σ δ fp ex) :
  RE C io p c H σ δ fp ex H' v (.fz r.data) δ' fp' []:=.fz R.base R.stp (R.da R0)
theorem RE.fzs{C:MC G}{H H':Hp}{σ:St}{δ δ':Zf}{fp fp':Fp}{ex:Addr->Prop}{v:V}{r:OT}{new:List Addr}(R:RE C io p c H σ δ fp ex H' v r δ' fp' new)(R0:Rel C io H σ δ fp ex)(h:J7 r.data=true) :
  RE C io p true H σ δ fp ex H' v (.fz r.data) δ' fp' []:=.fz R.base R.stp ((R.da R0).flat h)
noncomputable def Z4m(i:Nat)(m:MEt):MSt:=λD δ=>m δ λr δ'=>D.nx (δ'.set i (some (.fz r.data)))
noncomputable def Zxr(i:Nat)(m:MEt):MSt:=λD δ=>m δ λr δ'=>J7 r.data=true∧D.nx (δ'.set i (some (.fz r.data)))
noncomputable def Zot(i:Nat)(m:MEt):MSt:=λD δ=>m δ λr δ'=>D.nx (δ'.set i (some r))
section
variable {i:Nat}{x:Str}{px:Pos}
theorem Ybx{t:TE}(s:SE G io p true t m)(hio:i∉io):SS G io (Z1p t (Zi3 i)) (Z4m i m):=λC H σ δ fp ex D D' R h E=>s C H σ δ fp ex _ _ R h λH' v r δ' fp' new r1 h1=>by
 obtain⟨fp2,R2,k2⟩:=(r1.fzc R).put R hio
 exact E.nx H' _ _ fp2 R2 k2 h1
theorem Z8g{t:TE}(s:SE G io p c t m)(hio:i∉io):SS G io (Z1p t (Zi3 i)) (Zxr i m):=λC H σ δ fp ex D D' R h E=>s C H σ δ fp ex _ _ R h λH' v r δ' fp' new r1 h1=>by
 obtain⟨fp2,R2,k2⟩:=(r1.fzs R h1.1).put R hio
 exact E.nx H' _ _ fp2 R2 k2 h1.2
theorem Z6o{t:TE}(s:SE G io p true t m)(hio:i∉io):SS G io (Z1p t (Zi3 i)) (Zot i m):=λC H σ δ fp ex D D' R h E=>s C H σ δ fp ex _ _ R h λH' v r δ' fp' new r1 h1=>by
 obtain⟨fp2,R2,k2⟩:=r1.put R hio
 exact E.nx H' _ _ fp2 R2 k2 h1
theorem Z4i(hN:X.N.Nodup)(hi:X.N[i]? =some x)(hx:Loc X.env.scope x)(he:ME X io p true e m)(hio:i∉io:=by decide)(hs:BZ e (some (.Name x px)) pos.line X.env=pure false:=by rfl)(hf:X.fn x=true∨X.env.scope.names.lookup x=some .local:=by first|exact .inl rfl|exact .inr rfl|assumption) :
  MS X io (.Assign [.Name x px] e pos) (Z4m i m):=by
 obtain⟨_,A,s⟩:=he
 exact⟨_,Znc hN hi hx A hs hf,Ybx s hio⟩
theorem Z0o(hN:X.N.Nodup)(hi:X.N[i]? =some x)(hx:Loc X.env.scope x)(he:ME X io p c e m)(hio:i∉io:=by decide)(hs:BZ e (some (.Name x px)) pos.line X.env=pure false:=by rfl)(hf:X.fn x=true∨X.env.scope.names.lookup x=some .local:=by first|exact .inl rfl|exact .inr rfl|assumption) :
  MS X io (.Assign [.Name x px] e pos) (Zxr i m):=by
 obtain⟨_,A,s⟩:=he
 exact⟨_,Znc hN hi hx A hs hf,Z8g s hio⟩
theorem Zx2(hN:X.N.Nodup)(hi:X.N[i]? =some x)(hx:Loc X.env.scope x)(he:ME X io p true e m)(hio:i∉io:=by decide)(hs:BZ e (some (.Name x px)) pos.line X.env=pure false:=by rfl)(hf:X.fn x=true∨X.env.scope.names.lookup x=some .local:=by first|exact .inl rfl|exact .inr rfl|assumption) :
  MS X io (.Assign [.Name x px] e pos) (Zot i m):=by
 obtain⟨_,A,s⟩:=he
 exact⟨_,Znc hN hi hx A hs hf,Z6o s hio⟩
end
noncomputable def Zv8(t:MTt)(u:MSt):MSt:=λD δ=>∃W:Nat->Zf->Prop,(∃n,W n δ)∧∀n δ,W n δ->t δ λb δ'=>if b=true then∃N:Zf->Prop,(∀δ',N δ'->∃n',n'<n∧W n' δ')∧u { D with nx:=N,ct:=N,bk:=D.nx } δ' else D.nx δ'
theorem Zm3{cnd:Expr}{ss:List Stmt}(hp:PassesOwn (Qd X.prog X.w) X.A X.env X.xe)(hc:MT X io p cnd mt)(ha:MSs X io ss u):MS X io (.While cnd ss [] pos) (Zv8 mt u):=by
 obtain⟨_,T,s⟩:=hc
 obtain⟨_,A,sa⟩:=ha
 refine⟨_,Ztl hp T A,λC H σ δ fp ex D D' R h E=>?_⟩
 obtain⟨W,⟨n0,w0⟩,turn⟩:=h
 refine⟨λn σ' H'=>∃δ' fp',Rel C io H' σ' δ' fp' ex∧Kp H fp H' fp'∧W n δ',⟨n0,δ,fp,R,.refl _ _,w0⟩,?_⟩
 rintro n σ1 H1 ⟨δ1,fp1,R1,k1,w1⟩
 refine s C H1 σ1 δ1 fp1 ex _ _ R1 (turn n δ1 w1) λH2 b δ2 fp2 R2 S2 h2=>?_
 have k2:=k1.trans S2.kp
 cases b with
 | true=>
  rw[if_pos rfl]at h2⊢
  obtain⟨N,hN,h2⟩:=h2
  refine⟨λσ' H'=>∃δ' fp',Rel C io H' σ' δ' fp' ex∧Kp H fp H' fp'∧N δ',λσ' H' ⟨δ',fp',R',k',n'⟩=>?_,?_⟩
  ·obtain⟨n1,hn1,w1⟩:=hN δ' n'
   exact⟨n1,hn1,δ',fp',R',k',w1⟩
  ·refine sa C H2 σ1 δ2 fp2 ex _ _ R2 h2 ⟨λH' σ' δ' fp' R' k' n'=>⟨δ',fp',R',k2.trans k',n'⟩,λH' σ' δ' fp' R' k' n'=>E.nx H' σ' δ' fp' R' (k2.trans k') n',λH' σ' δ' fp' R' k' n'=>⟨δ',fp',R',k2.trans k',n'⟩,E.rt⟩
 | false=>
  rw[if_neg Xy]at h2⊢
  exact E.nx H2 σ1 δ2 fp2 R2 k2 h2
end
variable {G:Xb}
noncomputable def Zpi(N:List Str)(ds:List Xa):Zf:=ds.map (λd=>some (.fz d)) ++ Bl (N.length-ds.length) none
noncomputable def Zfn(N:List Str)(t:OT)(ds:List Xa):Zf:=some t :: (ds.map (λd=>some (.fz d)) ++ Bl (N.length-(ds.length+1)) none)
section
variable {H:Hp}{L:Addr->Prop}{vs:List V}{ds:List Xa}{N:List Str}
theorem Zkp{i:Nat}{t:OT}{n:Nat}(h:(ds.map (λd=>some (.fz d)) ++ Bl n none:Zf)[i]? =some (some t)):∃d,ds[i]? =some d∧t= .fz d:=by
 rw[Vo]at h
 split at h
 ·rw[Xn]at h
  cases e:ds[i]? with
  | none=>rw[e]at h;cases h
  | some d=>rw[e]at h;cases h;exact⟨d,rfl,rfl⟩
 ·rw[List.getElem?_replicate]at h
  split at h
  ·cases h
  ·cases h
theorem Rel.entry(h:Das G H L vs ds):Rel (G:=G) ⟨H,λ_=>False,L,start N vs⟩ [] H (start N vs) (Zpi N ds) (λ_=>[]) (λ_=>False):=by
 refine⟨?_,λi t e=>?_,λ_ _=>rfl,λ_=>.nil,λi j a m=>(nomatch m),λi a m=>(nomatch m),λa z=>z.elim,λb o e _=>e,λb e=>e,λi a m=>(nomatch m),λi m=>nomatch m⟩
 ·unfold start Zpi
  simp[h.length]
 ·obtain⟨d,e',rfl⟩:=Zkp e
  obtain⟨x,e1,q⟩:=h.get e'
  refine⟨x,?_,.fz (q.wide λa l _=>⟨λ⟨j,z⟩=>(nomatch z),λz=>z,.inl l⟩)⟩
  unfold L2.start
  rw[Vt (by rw[Xg];exact(Xj.mp e1).1),Xn,e1]
  rfl
variable {P:X6}{w:Qv}{K:Xb}{mg:Str->Option Xc}{base:Heap}
noncomputable def Zyq(k:OT->Prop):Zev:={ nx:=λ_=>k (.fz .none),rt:=λr _=>k r }
theorem Fun.okD{x qual:Str}{st:Stmt}{f:Addr}{fd:XN}{N ps:List Str}{n:Nat}{S:List Xa->(OT->Prop)->Prop}(F:Fun K x qual st f fd)(Sc:Zv N ps (Zm st))(len:∀ds k,S ds k->ds.length=ps.length)
  (hbody:∀(cdv:Xc) (A:Qo) (outer:List Env) (s:Xe) (H:Hp) (E:XK),Room n (A.deeper (U7 qual (Zm st) s.heap.objs.size f cdv)) ->
   ∃m,MSs (Zsg CX0 P w K mg base N qual (Zm st) f cdv A outer s H E).nox [] (Jy st) m∧∀ds k,S ds k->m (Zyq k) (Zpi N ds)):FnOk P w K mg base CX0 (n+1) f fd ps (spD K S):=by
 refine F.ok Sc (λvs H Q E h=>?_) (λcdv A outer s H vs Q E hr h=>?_)
 ·obtain⟨L,ds,k,h1,h2,_⟩:=h
  rw[h1.length]
  exact len ds k h2
 ·obtain⟨L,ds,k,h1,h2,h3⟩:=h
  obtain⟨m,⟨t,A1,s1⟩,q⟩:=hbody cdv A outer s H E hr
  refine⟨t,A1,s1 ⟨H,λ_=>False,L,start N vs⟩ H _ _ _ _ (Zyq k) _ (Rel.entry h1) (q ds k h2) ⟨λH' σ' δ' fp' R _ hk=>?_,λ_ _ _ _ _ _ z=>z.elim,λ_ _ _ _ _ _ z=>z.elim,λH' σ' v r δ' fp' new R o nd hn hk=>?_⟩⟩
  ·exact h3 _ .non H' [] hk (λb o e=>R.fr b o e id) (.fz .non) .nil λa m=>nomatch m
  ·refine h3 r v H' new hk (λb o e=>R.fr b o e id) (o.wide λa l _=>⟨?_,λz=>l.2.1 (.inr z)⟩) nd hn
   exact l.2.2
theorem Rel.entryI{v0:V}{t0:OT}{as:List Addr}(o:Own G H L v0 t0 as)(nd:as.Nodup)(hL:∀a∈as,¬L a)(h:Das G H L vs ds) :
  Rel (G:=G) ⟨H,λa=>a∈as,L,start N (v0 :: vs)⟩ [0] H (start N (v0 :: vs)) (Zfn N t0 ds) (λi=>if i=0 then as else[]) (λ_=>False):=by
 have lw:∀a,L a->H a≠none->Lf (G:=G) ⟨H,λa=>a∈as,L,L2.start N (v0 :: vs)⟩ (λi=>if i=0 then as else[]) (λ_=>False) a:=λa l _=>⟨λq91=>by
  obtain⟨i,z⟩:=q91
  dsimp only at z
  split at z
  ·exact hL a z l
  ·exact(nomatch z),λz=>z,.inl l⟩
 have sub:∀i a,a∈(if i=0 then as else[])->i=0∧a∈as:=λi a m=>by
  split at m
  ·exact⟨by assumption,m⟩
  ·exact nomatch m
 refine⟨?_,λi t e=>?_,λi h=>?_,λi=>?_,λi j a m m'=>(sub i a m).1.trans (sub j a m').1.symm,λi a m z=>z,λa z=>z.elim,λb o e _=>e,λb e=>e,λi a m=>.inl ⟨by rw[(sub i a m).1];exact Xu.mpr rfl,(sub i a m).2⟩,λi _=>rfl⟩
 ·unfold L2.start L2.Zfn
  simp[h.length]
 ·cases i with
  | zero=>
   have e':t0=t:=by
    unfold L2.Zfn at e
    simpa using e
   subst e'
   exact⟨v0,rfl,o.wide lw⟩
  | succ i=>
   have e':(ds.map (λd=>some (.fz d)) ++ Bl (N.length-(ds.length+1)) none:Zf)[i]? =some (some t):=e
   obtain⟨d,e2,rfl⟩:=Zkp e'
   obtain⟨x,e1,q⟩:=h.get e2
   refine⟨x,?_,.fz (q.wide lw)⟩
   show(vs.map some ++ _)[i]? =_
   rw[Vt (by rw[Xg];exact(Xj.mp e1).1),Xn,e1]
   rfl
 ·split
  ·subst i
   exact absurd rfl (h t0)
  ·rfl
 ·split
  ·exact nd
  ·exact .nil
noncomputable def Z1b(k:OT->OT->Prop):Zev:={ nx:=λδ=>match δ[0]? with|some (some t)=>k (.fz .none) t|_=>False,rt:=λr δ=>match δ[0]? with|some (some t)=>k r t|_=>False }
theorem Fun.okI{x qual:Str}{st:Stmt}{f:Addr}{fd:XN}{N ps:List Str}{n:Nat}{S:OT->List Xa->(OT->OT->Prop)->Prop}(F:Fun K x qual st f fd)(Sc:Zv N ps (Zm st))(len:∀t ds k,S t ds k->ds.length+1=ps.length)
  (hbody:∀(cdv:Xc) (A:Qo) (outer:List Env) (s:Xe) (H:Hp) (E:XK),Room n (A.deeper (U7 qual (Zm st) s.heap.objs.size f cdv)) ->
   ∃m,MSs (Zsg CX0 P w K mg base N qual (Zm st) f cdv A outer s H E).nox [0] (Jy st) m∧∀t ds k,S t ds k->m (Z1b k) (Zfn N t ds)):FnOk P w K mg base CX0 (n+1) f fd ps (spI K S):=by
 refine F.ok Sc (λvs H Q E h=>?_) (λcdv A outer s H vs Q E hr h=>?_)
 ·obtain⟨L,v0,t0,as,vs',ds,k,rfl,_,_,_,h1,h2,_⟩:=h
  rw[Bg,h1.length]
  exact len t0 ds k h2
 ·obtain⟨L,v0,t0,as,vs',ds,k,rfl,o0,nd0,hL,h1,h2,h3⟩:=h
  obtain⟨m,⟨t,A1,s1⟩,q⟩:=hbody cdv A outer s H E hr
  have fin:∀H' σ' v r δ' fp' new,Rel (G:=K) ⟨H,λa=>a∈as,L,L2.start N (v0 :: vs')⟩ [0] H' σ' δ' fp' (exu (λ_=>False) new)->Own K H' (Lf (G:=K) ⟨H,λa=>a∈as,L,L2.start N (v0 :: vs')⟩ fp' (exu (λ_=>False) new)) v r new->new.Nodup->(∀a∈new,H a=none) ->
    (match δ'[0]? with|some (some t)=>k r t|_=>False)->Q v H':=by
   intro H' σ' v r δ' fp' new R o nd hn hk
   split at hk
   case h_2=>exact hk.elim
   rename_i t' e'
   obtain⟨u,eu,ou⟩:=R.own 0 t' e'
   have hio:=R.io 0 (by simp)
   rw[eu]at hio
   have:u=v0:=by
    have e2:(L2.start N (v0 :: vs'))[0]? =some (some v0):=rfl
    have hio':some (some u)=(L2.start N (v0 :: vs'))[0]?:=hio
    rw[e2]at hio'
    cases hio';rfl
   subst this
   refine h3 r t' v H' new (fp' 0) hk (λb ob e nb=>R.fr b ob e nb) (λb e=>R.al b e) (o.wide λa l _=>⟨l.2.2,λz=>l.2.1 (.inr z),λz=>l.1 ⟨0,z⟩⟩) (ou.wide λa l _=>⟨l.2.2,λz=>l.2.1 (.inr z),λz=>l.1 ⟨0,z⟩⟩) ?_ hn λa m=>?_
   ·exact QL.mpr ⟨R.nd 0,nd,λa m b m' z=>by subst z;exact R.dx 0 a m (.inr m')⟩
   ·rcases R.new 0 a m with z|z
    ·exact .inl z.2
    ·exact .inr z
  refine⟨t,A1,s1 ⟨H,λa=>a∈as,L,L2.start N (v0 :: vs')⟩ H _ _ _ _ (Z1b k) _ (Rel.entryI o0 nd0 hL h1) (q t0 ds k h2) ⟨λH' σ' δ' fp' R _ hk=>?_,λ_ _ _ _ _ _ z=>z.elim,λ_ _ _ _ _ _ z=>z.elim,λH' σ' v r δ' fp' new R o nd hn hk=>fin H' σ' v r δ' fp' new R o nd hn hk⟩⟩
  exact fin H' σ' .non (.fz .none) δ' fp' [] (R.drop λa z=>Zao.mp z) (.fz .non) .nil (λa m=>nomatch m) hk
end
noncomputable abbrev MGt:=Xa->Zf->(Zf->Prop)->Prop
noncomputable abbrev Zpt:=List Xa->Zf->(Zf->Prop)->Prop
noncomputable def SG(G:Xb)(io:List Nat)(c:Bool)(t:TG)(g:MGt):Prop:=∀(C:MC G) (H:Hp) (σ:St) (δ:Zf) (fp:Fp) (ex:Addr->Prop) (v:V) (d:Xa) (k:Zf->Prop) (Q:St->Hp->Prop),Rel C io H σ δ fp ex->Da G H (λa=>c=true->Lf C fp ex a) v d->g d δ k ->
 (∀ σ' δ' fp',Rel C io H σ' δ' fp' ex->Kp H fp H fp'->k δ'->Q σ' H)->t v σ H Q
noncomputable def SGs(G:Xb)(io:List Nat)(c:Bool)(t:TGs)(g:Zpt):Prop:=∀(C:MC G) (H:Hp) (σ:St) (δ:Zf) (fp:Fp) (ex:Addr->Prop) (v:List V) (d:List Xa) (k:Zf->Prop) (Q:St->Hp->Prop),Rel C io H σ δ fp ex->Das G H (λa=>c=true->Lf C fp ex a) v d->g d δ k ->
 (∀ σ' δ' fp',Rel C io H σ' δ' fp' ex->Kp H fp H fp'->k δ'->Q σ' H)->t v σ H Q
noncomputable def MG(X:Cx)(io:List Nat)(c:Bool)(tg:Expr)(g:MGt):Prop:=∃t,PG X tg t∧SG X.K io c t g
noncomputable def MGs(X:Cx)(io:List Nat)(c:Bool)(tg:List Expr)(g:Zpt):Prop:=∃t,PGs X tg t∧SGs X.K io c t g
section
variable {X:Cx}{io:List Nat}{c:Bool}{pos:Pos}{i:Nat}{x:Str}
noncomputable def dName(i:Nat):MGt:=λd δ k=>k (δ.set i (some (.fz d)))
noncomputable def Zwc(i:Nat):MGt:=λd δ k=>J7 d=true∧k (δ.set i (some (.fz d)))
theorem Rel.putD{C:MC G}{H:Hp}{σ:St}{δ:Zf}{fp:Fp}{ex:Addr->Prop}{v:V}{d:Xa}(R:Rel C io H σ δ fp ex)(hio:i∉io)(q:Da G H (Lf C fp ex) v d) :
  ∃fp',Rel C io H (σ.set i (some v)) (δ.set i (some (.fz d))) fp' ex∧Kp H fp H fp':=by
 obtain⟨fp',R',g⟩:=(R.drop λa z=>Zao.mp z).put (new:=[]) hio (.fz (q.wide λa l _=>⟨l.1,λz=>l.2.1 (Zao.mp z),l.2.2⟩)) .nil (λa m=>nomatch m)
 exact⟨fp',R',λb o e _=>e,λz=>(nomatch z),λa z=>(g a z).imp id λz=>(nomatch z),λb e=>e⟩
theorem Z0k(hN:X.N.Nodup)(hi:X.N[i]? =some x:=by rfl)(hx:Loc X.env.scope x:=by first|exact Qp rfl|exact Qh rfl)(hio:i∉io:=by decide)(hf:X.fn x=true∨X.env.scope.names.lookup x=some .local:=by first|exact .inl rfl|exact .inr rfl|assumption):MG X io true (.Name x pos) (dName i) :=
 ⟨_,Zgj hN hi hx hf,λC H σ δ fp ex v d k Q R q h kk=>by
  obtain⟨fp',R',k'⟩:=R.putD hio (q.wide λa l _=>l rfl)
  exact kk _ _ fp' R' k' h⟩
theorem Zni(hN:X.N.Nodup)(hi:X.N[i]? =some x:=by rfl)(hx:Loc X.env.scope x:=by first|exact Qp rfl|exact Qh rfl)(hio:i∉io:=by decide)(hf:X.fn x=true∨X.env.scope.names.lookup x=some .local:=by first|exact .inl rfl|exact .inr rfl|assumption):MG X io c (.Name x pos) (Zwc i) :=
 ⟨_,Zgj hN hi hx hf,λC H σ δ fp ex v d k Q R q h kk=>by
  obtain⟨fp',R',k'⟩:=R.putD hio (q.flat h.1)
  exact kk _ _ fp' R' k' h.2⟩
noncomputable def Ybl:Zpt:=λds δ k=>ds=[]∧k δ
noncomputable def Zxq(g:MGt)(gs:Zpt):Zpt:=λds δ k=>match ds with|d :: r=>g d δ λδ'=>gs r δ' k|[]=>False
theorem Zos:MGs X io c [] Ybl:=⟨_,Zyv,λC H σ δ fp ex v d k Q R q h kk=>by
 obtain⟨rfl,h⟩:=h
 cases q
 exact⟨rfl,kk σ δ fp R (.refl _ _) h⟩⟩
theorem Rel.kp_das{C:MC G}{H H':Hp}{σ:St}{δ:Zf}{fp fp':Fp}{ex:Addr->Prop}{vs:List V}{ds:List Xa}(R:Rel C io H σ δ fp ex)(S:Kp H fp H' fp')(h:Das G H (Lf C fp ex) vs ds):Das G H' (Lf C fp' ex) vs ds:=by
 have S':Stp false H δ fp H' δ fp':=⟨S.keep,λz=>(nomatch z),S.grow,S.al⟩
 obtain⟨f1,f2⟩:=R.frameL (c:=true) (ex':=ex) S' (.inr rfl) λa z=>.inl z
 exact h.frame (λa xs l q=>⟨(f1 a xs (λ_=>l) q).1 rfl,(f1 a xs (λ_=>l) q).2⟩) f2
theorem Zmh{e:Expr}{es:List Expr}{g:MGt}{gs:Zpt}(h1:MG X io true e g)(h2:MGs X io true es gs)
  (hs:(Q6 (e :: es) X.env).map (·.2)=V9 e X.env :: (Q6 es X.env).map (·.2):=by rfl):MGs X io true (e :: es) (Zxq g gs):=by
 obtain⟨_,A,s⟩:=h1
 obtain⟨_,B,s'⟩:=h2
 exact⟨_,Zmc A B hs,λC H σ δ fp ex v d k Q R q h kk=>by
  cases q with
  | nil=>exact h.elim
  | cons q qs=>
   refine⟨_,_,rfl,s C H σ δ fp ex _ _ _ _ R q h λσ1 δ1 fp1 R1 k1 h1=>?_⟩
   exact s' C H σ1 δ1 fp1 ex _ _ _ _ R1 ((R.kp_das k1 (qs.wide λa l _=>l rfl)).wide λa l _ _=>l) h1 λσ2 δ2 fp2 R2 k2 h2=>kk σ2 δ2 fp2 R2 (k1.trans k2) h2⟩
theorem Zks{e:Expr}{es:List Expr}{g:MGt}{gs:Zpt}(h1:MG X io false e g)(h2:MGs X io false es gs)
  (hs:(Q6 (e :: es) X.env).map (·.2)=V9 e X.env :: (Q6 es X.env).map (·.2):=by rfl):MGs X io false (e :: es) (Zxq g gs):=by
 obtain⟨_,A,s⟩:=h1
 obtain⟨_,B,s'⟩:=h2
 exact⟨_,Zmc A B hs,λC H σ δ fp ex v d k Q R q h kk=>by
  cases q with
  | nil=>exact h.elim
  | cons q qs=>
   refine⟨_,_,rfl,s C H σ δ fp ex _ _ _ _ R (q.wide λa _ _ z=>nomatch z) h λσ1 δ1 fp1 R1 k1 h1=>?_⟩
   exact s' C H σ1 δ1 fp1 ex _ _ _ _ R1 (qs.wide λa _ _ z=>nomatch z) h1 λσ2 δ2 fp2 R2 k2 h2=>kk σ2 δ2 fp2 R2 (k1.trans k2) h2⟩
noncomputable def dTup(n:Nat)(gs:Zpt):MGt:=λd δ k=>match d with| .tuple ds=>ds.length=n∧gs ds δ k|_=>False
theorem Zwb{es:List Expr}{k:Nat}{gs:Zpt}{n:Nat}(hc:X.calm=true)(h:MGs X io c es gs)
  (hn:(Q6 es X.env).length=n:=by rfl) (hst:(Q6 es X.env).findIdx? (·.1)=none:=by rfl):MG X io c (.Tuple es k pos) (dTup n gs):=by
 obtain⟨_,A,s⟩:=h
 exact⟨_,Z15 hc A hn hst,λC H σ δ fp ex v d k Q R q h kk=>by
  cases q with
  | tup e qs=>exact⟨_,_,rfl,.inl (.inl e),by rw[qs.length];exact h.1,s C H σ δ fp ex _ _ _ _ R qs h.2 kk⟩
  | _=>exact h.elim⟩
end
variable {G:Xb}
noncomputable def IterOk(C:MC G)(fp:Fp)(ex:Addr->Prop)(H1:Hp)(c:Bool)(J:It)(ds:List Xa):Prop:=∀H':Hp,(∀b o,H1 b=some o->(c=false∨¬Foot fp b)->H' b=some o)->∀i:Nat,
 (∀ d,ds[i]? =some d->J.go i H'∧∀x H'',J.yld i H' x H''->Same H' H''∧Da G H'' (λa=>c=true->(Lf C fp ex a∧H1 a≠none)) x d)∧(ds[i]? =none->J.stop i H')
noncomputable abbrev MIt:=Zf->(List Xa->Zf->Prop)->Prop
noncomputable def SI(G:Xb)(io:List Nat)(p c:Bool)(t:TI)(m:MIt):Prop:=∀(C:MC G) (H:Hp) (σ:St) (δ:Zf) (fp:Fp) (ex:Addr->Prop) (K:List Xa->Zf->Prop) (Q:It->Hp->Prop),Rel C io H σ δ fp ex->m δ K ->
 (∀ J H1 ds δ1 fp1,Rel C io H1 σ δ1 fp1 ex->Stp p H δ fp H1 δ1 fp1->IterOk C fp1 ex H1 c J ds->K ds δ1->Q J H1)->t σ H Q
noncomputable def MI(X:Cx)(io:List Nat)(p c:Bool)(tg iter:Expr)(m:MIt):Prop:=∃t,PI X tg iter t∧SI X.K io p c t m
section
variable {X:Cx}{io:List Nat}{p c:Bool}{e a b tg:Expr}{m:MEt}{mr:MAt}{K:Xb}
noncomputable def iL(m:MEt):MIt:=λδ K=>m δ λr δ'=>match r.data with| .list ds=>K ds δ'|_=>False
theorem Rel.kept{C:MC G}{H H':Hp}{σ:St}{δ:Zf}{fp:Fp}{ex:Addr->Prop}(R:Rel C io H σ δ fp ex)(kp:∀b o,H b=some o->(c=false∨¬Foot fp b)->H' b=some o) :
  (∀ a (xs:MuO),(c=true->Lf C fp ex a)->Rd H a xs.ho->(c=true->(Lf C fp ex a∧H a≠none))∧Rd H' a xs.ho)∧(∀a (xs:ImO),H a=some xs.ho->H' a=some xs.ho):=by
 refine⟨λa xs l q=>⟨λhc=>⟨l hc,q.some⟩,?_⟩,λa xs q=>kp a _ q (.inr λz=>?_)⟩
 ·have hk:c=false∨¬Foot fp a:=by
   cases c with
   | false=>exact .inl rfl
   | true=>exact .inr (l rfl).1
  rcases q with q|⟨o,q⟩
  ·exact .inl (kp a _ q hk)
  ·exact .inr ⟨o,kp a _ q hk⟩
 ·obtain⟨ys,e⟩:=R.foot z
  exact ImO.nm q e
theorem Z0h(h:ME X io p c e m):MI X io p c tg e (iL m):=by
 obtain⟨_,A,s⟩:=h
 exact⟨_,Zsl rfl A,λC H σ δ fp ex K' Q R h kk=>s C H σ δ fp ex _ _ R h λH1 v r δ1 fp1 new r1 h1=>by
  have q:=r1.da R
  generalize r.data=d at q h1
  cases q with
  | lst l e qs=>
   refine⟨_,rfl,⟨_,.inl e⟩,kk _ H1 _ δ1 fp1 r1.base r1.stp (λH' kp i=>?_) h1⟩
   obtain⟨f1,f2⟩:=r1.base.kept kp
   have e':=(f1 _ (.lst _) l e).2
   have qs':=qs.frame f1 f2
   refine⟨λd hd=>?_,λhd=>?_⟩
   ·obtain⟨x,hx,qx⟩:=qs'.get hd
    refine⟨⟨_,x,.inl e',hx⟩,λy H'' hy=>?_⟩
    obtain⟨rfl,hy⟩:=hy
    have:=hy _ (.inl e')
    rw[hx]at this
    cases this
    exact⟨Same.refl _,qx⟩
   ·exact⟨_,.inl e',by rw[qs'.length];exact QG.mp hd⟩
  | scr ks=>
   refine⟨_,rfl,⟨_,ks.sq⟩,kk _ H1 _ δ1 fp1 r1.base r1.stp (λH' kp i=>?_) h1⟩
   refine⟨λd hd=>?_,λhd=>?_⟩
   ·obtain⟨x,hx,qx⟩:=(Das.ints (G:=X.K) (H:=H') (L:=λa=>c=true->(Lf C fp1 ex a∧H1 a≠none)) _).get hd
    refine⟨⟨_,x,ks.sq,hx⟩,λy H'' hy=>?_⟩
    obtain⟨rfl,hy⟩:=hy
    have:=hy _ ks.sq
    rw[hx]at this
    cases this
    exact⟨Same.refl _,qx⟩
   ·refine⟨_,ks.sq,?_⟩
    have:=QG.mp hd
    simpa using this
  | _=>exact h1.elim⟩
noncomputable def Zdd(lo:Int)(n:Nat):List Xa:=(Xr n).map λ(i:Nat)=>Xo (lo+(i:Int))
@[simp] theorem Y4(lo:Int)(n:Nat):(Zdd lo n).length=n:=by simp[Zdd]
theorem Wb{lo:Int}{n i:Nat}{d:Xa}(h:(Zdd lo n)[i]? =some d):i<n∧d= .int (lo+i):=by
 have hi:i<n:=by
  have:=(Xj.mp h).1
  simpa using this
 unfold Zdd at h
 rw[Xn,Q4 hi]at h
 cases h
 exact⟨hi,rfl⟩
theorem Zml{C:MC G}{fp:Fp}{ex:Addr->Prop}{H1:Hp}{lo:Int}{n:Nat}:IterOk C fp ex H1 true (Itr lo n) (Zdd lo n):=λH' _ i=>by
 refine⟨λd hd=>?_,λhd=>?_⟩
 ·obtain⟨hi,rfl⟩:=Wb hd
  refine⟨hi,λx H'' hy=>?_⟩
  obtain⟨rfl,rfl⟩:=hy
  exact⟨Same.refl _,.int _⟩
 ·have:=QG.mp hd
  show n≤i
  simpa using this
noncomputable def iR1(mr:MAt):MIt:=λδ K=>mr δ λrs δ'=>match OT.datas rs with|[.int j]=>(-(2^62)≤j∧j<2^62)∧K (Zdd 0 j.toNat) δ'|_=>False
noncomputable def iR2(mr:MAt):MIt:=λδ K=>mr δ λrs δ'=>match OT.datas rs with|[.int i,.int j]=>(-(2^62)≤i∧i<2^62∧-(2^62)≤j∧j<2^62)∧K (Zdd i (j-i).toNat) δ'|_=>False
theorem Yk{p' pos:Pos}(hg:Gl X "range")(hm:X.mg "range"=none)(ha:MA X io p c [a] mr)(hs:Xm [a] X.env=[(false,eval a X.env)]:=by rfl):MI X io p true tg (.Call (.Name "range" p') [a] [] pos) (iR1 mr):=by
 obtain⟨_,A,s⟩:=ha
 exact⟨_,Zrj hg hm A hs,λC H σ δ fp ex K' Q R h kk=>s C H σ δ fp ex _ _ R h λH1 vs rs δ1 fp1 new r1 h1=>by
  have q:=r1.das R
  generalize OT.datas rs=d at q h1
  split at h1
  case h_2=>exact h1.elim
  cases q with
  | cons q1 q2=>
   cases q1
   cases q2
   exact⟨_,rfl,h1.1.1,h1.1.2,kk _ H1 _ δ1 fp1 r1.base r1.stp Zml h1.2⟩⟩
theorem Zjd{p' pos:Pos}(hg:Gl X "range")(hm:X.mg "range"=none)(ha:MA X io p c [a,b] mr)(hs:Xm [a,b] X.env=[(false,eval a X.env),(false,eval b X.env)]:=by rfl)(hs2:Xm [b] X.env=[(false,eval b X.env)]:=by rfl):MI X io p true tg (.Call (.Name "range" p') [a,b] [] pos) (iR2 mr):=by
 obtain⟨_,A,s⟩:=ha
 exact⟨_,Zrg hg hm A hs hs2,λC H σ δ fp ex K' Q R h kk=>s C H σ δ fp ex _ _ R h λH1 vs rs δ1 fp1 new r1 h1=>by
  have q:=r1.das R
  generalize OT.datas rs=d at q h1
  split at h1
  case h_2=>exact h1.elim
  cases q with
  | cons q1 q2=>
   cases q1
   cases q2 with
   | cons q2 q3=>
    cases q2
    cases q3
    exact⟨_,_,rfl,h1.1,kk _ H1 _ δ1 fp1 r1.base r1.stp Zml h1.2⟩⟩
theorem IterOk.at{C:MC G}{fp fp':Fp}{ex:Addr->Prop}{H1 H' H'':Hp}{J:It}{ds:List Xa}{x:V}{d:Xa}(g:∀a,Foot fp' a->Foot fp a∨H1 a=none)(h:Da G H'' (λa=>true=true->(Lf C fp ex a∧H1 a≠none)) x d):Da G H'' (λa=>true=true->Lf C fp' ex a) x d :=
 h.wide λa l _ z=>⟨λw=>(g a w).elim (l z).1.1 (l z).2,(l z).1.2.1,(l z).1.2.2⟩
noncomputable def Z9y(ds:List Xa)(g:MGt)(u:MSt)(D:Zev)(δ1:Zf):Prop:=∃I:Nat->Zf->Prop,I 0 δ1∧(∀(i:Nat) (d:Xa) (δ':Zf),ds[i]? =some d->I i δ'->g d δ' λδ2=>u { D with nx:=I (i+1),ct:=I (i+1),bk:=D.nx } δ2)∧∀δ',I ds.length δ'->D.nx δ'
noncomputable def Ya2(mi:MIt)(g:MGt)(u:MSt):MSt:=λD δ=>mi δ λds δ1=>Z9y ds g u D δ1
theorem Rel.mk0{C:MC G}{H H':Hp}{σ:St}{δ:Zf}{fp:Fp}{ex:Addr->Prop}(R:Rel C io H σ δ fp ex)(s:Same H H'):Rel C io H' σ δ fp ex:=(R.made (new:=[]) s λa m=>nomatch m).drop λa z=>.inl z
theorem Z4n{iter:Expr}{body:List Stmt}{mi:MIt}{g:MGt}{u:MSt}{pos:Pos}(hp:PassesOwn (Qd X.prog X.w) X.A X.env X.xe)(hc:X.calm=true)(hi:MI X io p true tg iter mi)(hg:MG X io true tg g)(hb:MSs X io body u)
  (hs:∀x,Q7 iter X.env x=pure x:=by intro _;rfl):MS X io (.For tg iter body [] pos) (Ya2 mi g u):=by
 obtain⟨_,A,s⟩:=hi
 obtain⟨_,G,sg⟩:=hg
 obtain⟨_,B,sb⟩:=hb
 refine⟨_,Zqq hp hc A G B hs,λC H σ δ fp ex D D' R h E=>s C H σ δ fp ex _ _ R h λJ H1 ds δ1 fp1 R1 S1 it h1=>?_⟩
 obtain⟨I,h0,turn,fin⟩:=h1
 refine⟨λi n σ' H'=>n=ds.length-i∧i≤ds.length∧∃δ' fp',Rel C io H' σ' δ' fp' ex∧Kp H1 fp1 H' fp'∧I i δ',⟨ds.length,rfl,QQ _,δ1,fp1,R1,.refl _ _,h0⟩,?_⟩
 rintro i n σ2 H2 ⟨rfl,hle,δ2,fp2,R2,k2,i2⟩
 have itk:=it H2 (λb o e q=>k2.keep b o e (.inr (q.resolve_left (by decide)))) i
 by_cases hlt:i<ds.length
 ·have hd:ds[i]? =some ds[i]:=Xh hlt
  obtain⟨go,yl⟩:=itk.1 _ hd
  refine .inr ⟨go,λσ' H'=>∃δ' fp',Rel C io H' σ' δ' fp' ex∧Kp H1 fp1 H' fp'∧I (i+1) δ',λσ' H' ⟨δ',fp',R',k',i'⟩=>⟨ds.length-(i+1),by omega,rfl,hlt,δ',fp',R',k',i'⟩,λx H3 hy=>?_⟩
  obtain⟨s3,q3⟩:=yl x H3 hy
  have R3:=R2.mk0 s3
  have k3:Kp H1 fp1 H3 fp2:=k2.trans ⟨λb o e _=>s3 _ _ e,λz=>(nomatch z),λa z=>.inl z,s3.al⟩
  refine sg C H3 σ2 δ2 fp2 ex x _ _ _ R3 (IterOk.at (H':=H2) (J:=J) (ds:=ds) k2.grow q3) (turn i _ δ2 hd i2) λσ4 δ4 fp4 R4 k4 h4=>?_
  have k5:=k3.trans k4
  refine sb C H3 σ4 δ4 fp4 ex _ _ R4 h4 ⟨λH' σ' δ' fp' R' k' n'=>⟨δ',fp',R',k5.trans k',n'⟩,λH' σ' δ' fp' R' k' n'=>E.nx H' σ' δ' fp' R' (S1.kp.trans (k5.trans k')) n',λH' σ' δ' fp' R' k' n'=>⟨δ',fp',R',k5.trans k',n'⟩,E.rt⟩
 ·have e:i=ds.length:=by omega
  subst e
  exact .inl ⟨itk.2 (by simp),E.nx H2 σ2 δ2 fp2 R2 (S1.kp.trans k2) (fin δ2 i2)⟩
end
noncomputable def gM(G:Xb)(io:List Nat)(c:Bool)(g:MGt):TG:=λv σ H Q=>∃(C:MC G) (δ:Zf) (fp:Fp) (ex:Addr->Prop) (d:Xa) (k:Zf->Prop),Rel C io H σ δ fp ex∧Da G H (λa=>c=true->Lf C fp ex a) v d∧g d δ k∧
 ∀σ' δ' fp',Rel C io H σ' δ' fp' ex->Kp H fp H fp'->k δ'->Q σ' H
noncomputable def tM(G:Xb)(io:List Nat)(p c:Bool)(m:MEt):TE:=λσ H Q=>∃(C:MC G) (δ:Zf) (fp:Fp) (ex:Addr->Prop) (K:OT->Zf->Prop),Rel C io H σ δ fp ex∧m δ K∧∀H' v r δ' fp' new,RE C io p c H σ δ fp ex H' v r δ' fp' new->K r δ'->Q v H'
noncomputable def ttM(G:Xb)(io:List Nat)(p:Bool)(m:MTt):TT:=λσ H Q=>∃(C:MC G) (δ:Zf) (fp:Fp) (ex:Addr->Prop) (K:Bool->Zf->Prop),Rel C io H σ δ fp ex∧m δ K∧∀H' b δ' fp',Rel C io H' σ δ' fp' ex->Stp p H δ fp H' δ' fp'->K b δ'->Q b H'
noncomputable def MIfs(X:Cx)(io:List Nat)(p:Bool)(ifs:List Expr)(m:MTt):Prop:=∃t,Zx5 X ifs t∧STt X.K io p t m
section
variable {X:Cx}{io:List Nat}{p c:Bool}{e tg:Expr}{m:MEt}{mt:MTt}{g:MGt}{ifs:List Expr}
theorem MG.canon(h:MG X io c tg g):PG X tg (gM X.K io c g):=by
 obtain⟨t,A,s⟩:=h
 rintro pins sh σ H v u Q I r ⟨C,δ,fp,ex,d,k,R,q,h,kk⟩
 exact A pins sh σ H v u Q I r (s C H σ δ fp ex v d k Q R q h kk)
theorem ME.canon(h:ME X io p c e m):PE X e (tM X.K io p c m):=by
 obtain⟨t,A,s⟩:=h
 rintro pins sh σ H Q I ⟨C,δ,fp,ex,K,R,h,kk⟩
 exact A pins sh σ H Q I (s C H σ δ fp ex K Q R h kk)
theorem MIfs.canon(h:MIfs X io p ifs mt):Zx5 X ifs (ttM X.K io p mt):=by
 obtain⟨t,A,s⟩:=h
 rintro pins sh σ H Q I ⟨C,δ,fp,ex,K,R,h,kk⟩
 exact A pins sh σ H Q I (s C H σ δ fp ex K Q R h kk)
noncomputable def Z2q:MTt:=λδ K=>K true δ
theorem Za2:MIfs X io true [] Z2q:=⟨_,Zye,λC H σ δ fp ex K Q R h kk=>kk H true δ fp R (.refl _ _ _ _) h⟩
theorem Zfk{cnd:Expr}(h:MT X io p cnd mt):MIfs X io p [cnd] mt:=by
 obtain⟨_,A,s⟩:=h
 exact⟨_,Zww A,s⟩
end
variable {G:Xb}
noncomputable def blk(n:Nat)(caps:List Nat)(δ:Zf):Zf:=Bl n none ++ caps.map λi=>(δ[i]?).getD none
noncomputable def Jh(n:Nat)(caps:List Nat)(fp:Fp):Fp:=λk=>if k<n then[]else match caps[k-n]? with|some i=>fp i|none=>[]
noncomputable def Zaq(n:Nat)(caps:List Nat):List Nat:=(Xr caps.length).map (·+n)
noncomputable def Zvd(C:MC G)(H1:Hp)(fp:Fp)(σ0:St):MC G:=⟨H1,Foot fp,λa=>(C.L a∨C.H₀ a=none)∧¬Foot fp a,σ0⟩
noncomputable def Zew(ex:Addr->Prop)(D:Addr)(fp fpb:Fp)(a:Addr):Prop:=ex a∨a=D∨(Foot fp a∧¬Foot fpb a)
section
variable {C:MC G}{io:List Nat}{H1 H':Hp}{σ:St}{δ:Zf}{fp:Fp}{ex:Addr->Prop}{own:List Str}{caps:List Nat}{D:Addr}{n:Nat}
theorem Zch{k:Nat}{a:Addr}(h:a∈Jh n caps fp k):∃i,n≤k∧caps[k-n]? =some i∧a∈fp i:=by
 unfold Jh at h
 split at h
 ·exact nomatch h
 ·split at h
  ·rename_i i e
   exact⟨i,by omega,e,h⟩
  ·exact nomatch h
theorem Ztn{j i:Nat}(h:caps[j]? =some i):Jh n caps fp (n+j)=fp i:=by
 unfold Jh
 rw[if_neg (by omega),show n+j-n=j by omega,h]
theorem Z6c{k:Nat}{t:OT}(h:(blk n caps δ)[k]? =some (some t)):∃i,n≤k∧caps[k-n]? =some i∧δ[i]? =some (some t):=by
 unfold blk at h
 rw[Vo]at h
 split at h
 ·rw[List.getElem?_replicate]at h
  split at h<;>cases h
 ·rename_i hk
  rw[V4]at hk h
  rw[Xn]at h
  cases e:caps[k-n]? with
  | none=>rw[e]at h;cases h
  | some i=>
   rw[e]at h
   refine⟨i,by omega,rfl,?_⟩
   simp only[Qg]at h
   cases e2:δ[i]? with
   | none=>rw[e2]at h;cases h
   | some o=>
    rw[e2]at h
    simpa using h
theorem Rel.block(R:Rel C io H1 σ δ fp ex)(nd:caps.Nodup)(hD:H1 D=none) :
  Rel (Zvd C H1 fp (Jp own caps σ)) (Zaq own.length caps) (upd H1 D (.lst [])) (Jp own caps σ) (blk own.length caps δ) (Jh own.length caps fp) (Zew ex D fp (Jh own.length caps fp)):=by
 have s:=Z8 hD (.lst [])
 have sub:∀a,Foot (Jh own.length caps fp) a->Foot fp a:=λa q91=>by
  obtain⟨k,z⟩:=q91
  obtain⟨i,_,_,z⟩:=Zch z
  exact⟨i,z⟩
 have neD:∀a,H1 a≠none->a≠D:=λa h z=>h (z▸hD)
 refine⟨by unfold Jp blk;simp,λk t e=>?_,λk h=>?_,λk=>?_,λk l a h1 h2=>?_,λk a h z=>?_,λa z=>?_,λb o e _=>s _ _ e,λb e=>s.free e,λk a h=>?_,λk _=>rfl⟩
 ·obtain⟨i,hk,e1,e2⟩:=Z6c e
  obtain⟨v,e3,o⟩:=R.own i t e2
  refine⟨v,?_,?_⟩
  ·unfold Jp
   rw[JW (by simpa using hk),Xg,Xn,e1]
   simp[e3]
  ·have ef:Jh own.length caps fp k=fp i:=by
    have:=Ztn (n:=own.length) (fp:=fp) e1
    rwa[show own.length+(k-own.length)=k by omega]at this
   rw[ef]
   refine(o.wide λa l q=>⟨λz=>l.1 (sub a z),λz=>?_,.inl ⟨l.2.2,l.1⟩⟩).same s
   rcases z with z|z|z
   ·exact l.2.1 z
   ·exact neD a q z
   ·exact l.1 z.1
 ·unfold Jh
  split
  ·rfl
  ·split
   ·rename_i i e1
    refine R.emp i λt z=>h t ?_
    unfold blk
    rw[JW (by rw[V4];omega),V4,Xn,e1]
    simp[z]
   ·rfl
 ·unfold Jh
  split
  ·exact .nil
  ·split
   ·exact R.nd _
   ·exact .nil
 ·obtain⟨i,hk,e1,m1⟩:=Zch h1
  obtain⟨j,hl,e2,m2⟩:=Zch h2
  have:=R.dj i j a m1 m2
  subst this
  have hlt:=(Xj.mp e1).1
  have:=(List.getElem?_inj hlt nd).mp (e1.trans e2.symm)
  omega
 ·obtain⟨i,hk,e1,m⟩:=Zch h
  rcases z with z|z|z
  ·exact R.dx i a m z
  ·exact R.footSome (z▸hD) ⟨i,m⟩
  ·exact z.2 ⟨k,h⟩
 ·rcases z with z|z|z
  ·intro q;exact R.xa a z (s.free q)
  ·subst z;rw[Zt];intro q;cases q
  ·obtain⟨xs,e⟩:=R.foot z.1
   rw[s _ _ e];intro q;cases q
 ·obtain⟨i,hk,e1,m⟩:=Zch h
  refine .inl ⟨?_,⟨i,m⟩⟩
  have:=(Xj.mp e1).1
  exact XF.mpr ⟨k-own.length,by simpa using this,by omega⟩
theorem Z3r{σ0:St}{fp':Fp}{ex':Addr->Prop}{a:Addr}(hx:∀a,ex a->ex' a)(l:Lf (Zvd C H1 fp σ0) fp' ex' a):Lf C fp ex a∨H1 a=none:=by
 obtain⟨l1,l2,l3⟩:=l
 rcases l3 with l3|l3
 ·exact .inl ⟨l3.2,λz=>l2 (hx a z),l3.1⟩
 ·exact .inr l3
theorem Rel.poke(R:Rel C io H' σ δ fp ex){xs ys:List V}(hx:ex D)(hD:H' D=some (.lst xs))(h0:C.H₀ D=none):Rel C io (upd H' D (.lst ys)) σ δ fp ex:=by
 have nf:¬Foot fp D:=λ⟨i,z⟩=>R.dx i D z hx
 have kp:∀b o,b≠D->H' b=some o->upd H' D (.lst ys) b=some o:=λb o n e=>by rw[Zu n];exact e
 refine⟨R.len,λi t e=>?_,R.emp,R.nd,R.dj,R.dx,λa z=>?_,λb o e n=>?_,λb e=>?_,R.new,R.io⟩
 ·obtain⟨v,e1,o⟩:=R.own i t e
  refine⟨v,e1,o.frame (λa zs l q=>⟨l,?_⟩) (λa zs q=>kp a _ (λz=>?_) q) λa m zs q=>kp a _ (λz=>nf ⟨i,z▸m⟩) q⟩
  ·have na:a≠D:=λz=>l.2.1 (z▸hx)
   rcases q with q|⟨u,q⟩
   ·exact .inl (kp a _ na q)
   ·exact .inr ⟨u,kp a _ na q⟩
  ·exact ImO.nl q (z▸hD)
 ·by_cases e:a=D
  ·subst e;rw[Zt];intro q;cases q
  ·rw[Zu e];exact R.xa a z
 ·refine kp b o (λz=>?_) (R.fr b o e n)
  rw[z,h0]at e;cases e
 ·refine R.al b ?_
  by_cases q:b=D
  ·subst q;rw[Zt]at e;cases e
  ·rwa[Zu q]at e
theorem Owns.poke{L:Addr->Prop}{xs ys zs:List V}{rs:List OT}{as:List Addr}(o:Owns G H' L zs rs as)(hD:H' D=Qm (HO.lst xs))(hL:¬L D)(hn:D∉as):Owns G (upd H' D (.lst ys)) L zs rs as:=by
 refine o.frame (λa zs l q=>⟨l,?_⟩) (λa zs q=>?_) λa m zs q=>?_
 ·have na:a≠D:=λz=>hL (z▸l)
  rcases q with q|⟨u,q⟩
  ·exact .inl (by rw[Zu na];exact q)
  ·exact .inr ⟨u,by rw[Zu na];exact q⟩
 ·rw[Zu (λz=>ImO.nl q (z▸hD))];exact q
 ·have na:a≠D:=λz=>hn (by rw[←z];exact m)
  rw[Zu na];exact q
theorem Owns.snoc{L:Addr->Prop}{xs:List V}{rs:List OT}{as bs:List Addr}{x:V}{r:OT}(h:Owns G H' L xs rs as)(k:Own G H' L x r bs):Owns G H' L (xs ++ [x]) (rs ++ [r]) (as ++ bs) :=
 Owns.rec (motive_1:=λ_ _ _ _=>True) (motive_2:=λxs rs as _=>Owns G H' L (xs ++ [x]) (rs ++ [r]) (as ++ bs)) (λ_=>trivial) (λ_ _ _=>trivial) (λ_ _ _=>trivial) (λ_ _ _=>trivial) (by have:=Owns.cons k .nil;rwa[QJ]at this) (λk _ _ ih=>by rw[Bo];exact .cons k ih) h
end
structure Zvy(C:MC G)(H1:Hp)(fp1:Fp)(ex:Addr->Prop)(n:Nat)(caps:List Nat)(σ0:St)(D:Addr)(pb:Bool)(H':Hp)(σ':St)(δ':Zf)(fp':Fp)(ys:List V)(rs:List OT)(new:List Addr):Prop where
 keep:∀b o,H1 b=some o->(pb=true∨¬Foot (Jh n caps fp1) b)->H' b=some o
 al:∀b,H' b=none->H1 b=none
 dat:H' D=some (.lst ys)
 rel:Rel (Zvd C H1 fp1 σ0) (Zaq n caps) H' σ' δ' fp' (exu (Zew ex D fp1 (Jh n caps fp1)) new)
 grow:∀a,Foot fp' a->Foot (Jh n caps fp1) a∨H1 a=none
 own:Owns G H' (λa=>true=true->Lf (Zvd C H1 fp1 σ0) fp' (exu (Zew ex D fp1 (Jh n caps fp1)) new) a) ys rs new
 nd:new.Nodup
 fresh:∀a∈new,H1 a=none∧a≠D
section
variable {io:List Nat}{p c pt pe ci:Bool}{g:MGt}{mt:MTt}{me:MEt}{own:List Str}{caps:List Nat}
theorem Zpx{C:MC G}{H1:Hp}{σ:St}{δ1:Zf}{fp1:Fp}{ex:Addr->Prop}{J:It}{ds:List Xa}{D:Addr}{Qf:Hp->Prop}(I:Nat->List OT->Zf->Prop)(R1:Rel C io H1 σ δ1 fp1 ex)
  (it:∀H':Hp,(∀b o,H1 b=some o->((pt&&pe)=true∨¬Foot (Jh own.length caps fp1) b)->H' b=some o)->∀i:Nat,(∀d,ds[i]? =some d->J.go i H'∧∀x H'',J.yld i H' x H''->Same H' H''∧Da G H'' (λa=>ci=true->(Lf C fp1 ex a∧H1 a≠none)) x d)∧(ds[i]? =none->J.stop i H'))
  (nd:caps.Nodup) (hD:H1 D=none) (hz:ds.length≤Xq) (h0:I 0 [] (blk own.length caps δ1))
  (turn:∀(i:Nat) (d:Xa) (rs:List OT) (δ':Zf),ds[i]? =some d->I i rs δ'->g d δ' λδ2=>mt δ2 λb δ3=>if b=true then me δ3 λr δ4=>I (i+1) (rs ++ [r]) δ4 else I (i+1) rs δ3)
  (fin:∀H' σ' δ' fp' ys rs new,Zvy C H1 fp1 ex own.length caps (Jp own caps σ) D (pt&&pe) H' σ' δ' fp' ys rs new->I ds.length rs δ'->Qf H') :
  Zso J (gM G (Zaq own.length caps) ci g) (ttM G (Zaq own.length caps) pt mt) (tM G (Zaq own.length caps) pe true me) (Jp own caps σ) D Qf H1:=by
 have hx:Zew ex D fp1 (Jh own.length caps fp1) D:=.inr (.inl rfl)
 refine⟨λi n σ' H'=>n=ds.length-i∧i≤ds.length∧∃rs ys new δ' fp',Zvy C H1 fp1 ex own.length caps (Jp own caps σ) D (pt&&pe) H' σ' δ' fp' ys rs new∧ys.length≤i∧I i rs δ',⟨ds.length,rfl,QQ _,[],[],[],_,_,⟨λb o e _=>Z8 hD _ _ _ e,(Z8 hD _).al,Zt,?_,λa z=>.inl z,.nil,.nil,λa m=>(nomatch m)⟩,X4 _,h0⟩,?_⟩
 ·exact(R1.block nd hD).drop λa z=>Zao.mp z
 rintro i n σ2 H2 ⟨rfl,hle,rs,ys,new,δ2,fp2,B,hl,i2⟩
 have subB:∀b,Foot (Jh own.length caps fp1) b->Foot fp1 b:=λb q92=>by
  obtain⟨k,z⟩:=q92
  obtain⟨i,_,_,z⟩:=Zch z
  exact⟨i,z⟩
 have itk:=it H2 B.keep i
 by_cases hlt:i<ds.length
 case neg=>
  have e:i=ds.length:=by omega
  subst e
  exact .inl ⟨itk.2 (by simp),fin H2 σ2 δ2 fp2 ys rs new B i2⟩
 have hd:ds[i]? =some ds[i]:=Xh hlt
 obtain⟨go,yl⟩:=itk.1 _ hd
 refine .inr ⟨go,λx H3 hy=>?_⟩
 obtain⟨s3,q3⟩:=yl x H3 hy
 have R3:=B.rel.mk0 s3
 have D3:H3 D=some (.lst ys):=s3 _ _ B.dat
 -- the item,clean in the block
 have q3':Da G H3 (λa=>ci=true->Lf (Zvd C H1 fp1 (Jp own caps σ)) fp2 (exu (Zew ex D fp1 (Jh own.length caps fp1)) new) a) x ds[i]:=by
  refine q3.wide λa l _ z=>?_
  obtain⟨⟨l1,l2,l3⟩,l4⟩:=l z
  refine⟨λw=>?_,λw=>?_,.inl ⟨l3,l1⟩⟩
  ·rcases B.grow a w with w|w
   ·exact l1 (subB a w)
   ·exact l4 w
  ·rcases w with(w|w|w)|w
   ·exact l2 w
   ·subst w;exact l4 hD
   ·exact l1 w.1
   ·exact l4 (B.fresh a w).1
 refine⟨_,δ2,fp2,_,_,_,R3,q3',turn i _ rs δ2 hd i2,λσ4 δ4 fp4 R4 k4 h4=>?_⟩
 refine⟨_,δ4,fp4,_,_,R4,h4,λH5 b δ5 fp5 R5 S5 h5=>?_⟩
 -- the state behind the test
 have keep5:∀b o,H1 b=some o->((pt&&pe)=true∨¬Foot (Jh own.length caps fp1) b)->H5 b=some o:=λb o e q=>by
  refine S5.keep b o (s3 _ _ (B.keep b o e q)) ?_
  rcases q with q|q
  ·rw[XC]at q;exact .inl q.1
  ·refine .inr λz=>?_
   rcases k4.grow b z with z|z
   ·rcases B.grow b z with z|z
    ·exact q z
    ·rw[e]at z;cases z
   ·rw[s3 _ _ (B.keep b o e (.inr q))]at z;cases z
 have al5:∀b,H5 b=none->H1 b=none:=λb e=>B.al b (s3.al b (S5.al b e))
 have grow4:∀a,Foot fp4 a->Foot (Jh own.length caps fp1) a∨H1 a=none:=λa z=>by
  rcases k4.grow a z with z|z
  ·exact B.grow a z
  ·exact .inr (B.al a (s3.al a z))
 have grow5:∀a,Foot fp5 a->Foot (Jh own.length caps fp1) a∨H1 a=none:=λa z=>by
  rcases S5.grow a z with z|z
  ·exact grow4 a z
  ·exact .inr (B.al a (s3.al a z))
 have D5:H5 D=some (.lst ys):=S5.keep D _ D3 (.inr λ⟨k,z⟩=>R4.dx k D z (.inl hx))
 have own3:=B.own.same s3
 -- the items so far behind the target and the test
 have own4:Owns G H3 (λa=>true=true->Lf (Zvd C H1 fp1 (Jp own caps σ)) fp4 (exu (Zew ex D fp1 (Jh own.length caps fp1)) new) a) ys rs new:=by
  refine own3.wide λa l q z=>?_
  obtain⟨l1,l2,l3⟩:=l z
  exact⟨λw=>(k4.grow a w).elim l1 q,l2,l3⟩
 have own5:=R4.owns_step (ex':=exu (Zew ex D fp1 (Jh own.length caps fp1)) new) S5 (c:=true) (.inr rfl) (λa z=>.inl z) (λa m=>.inr m) own4
 dsimp only at h5⊢
 cases b with
 | false=>
  rw[if_neg Xy]at h5⊢
  exact⟨ds.length-(i+1),by omega,rfl,hlt,rs,ys,new,δ5,fp5,⟨keep5,al5,D5,R5,grow5,own5,B.nd,B.fresh⟩,by omega,h5⟩
 | true=>
  rw[if_pos rfl]at h5⊢
  refine⟨_,δ5,fp5,_,_,R5,h5,λH6 v r δ6 fp6 nr r6 h6=>?_⟩
  have D6:H6 D=some (.lst ys):=r6.stp.keep D _ D5 (.inr λ⟨k,z⟩=>R5.dx k D z (.inl hx))
  have hDnr:D∉nr:=λz=>by
   have:=r6.fresh D z
   rw[D5]at this;cases this
  have own6:=R5.owns_step (ex':=exu (exu (Zew ex D fp1 (Jh own.length caps fp1)) new) nr) r6.stp (c:=true) (.inr rfl) (λa z=>z.imp id λz=>r6.fresh a z) (λa m=>.inr m) own5
  have eqx:∀a,exu (Zew ex D fp1 (Jh own.length caps fp1)) (new ++ nr) a->exu (exu (Zew ex D fp1 (Jh own.length caps fp1)) new) nr a:=λa z=>by
   rcases z with z|z
   ·exact .inl (.inl z)
   ·rcases X3.mp z with z|z
    ·exact .inl (.inr z)
    ·exact .inr z
  have lw:∀a,(true=true->Lf (Zvd C H1 fp1 (Jp own caps σ)) fp6 (exu (exu (Zew ex D fp1 (Jh own.length caps fp1)) new) nr) a)->H6 a≠none->(true=true->Lf (Zvd C H1 fp1 (Jp own caps σ)) fp6 (exu (Zew ex D fp1 (Jh own.length caps fp1)) (new ++ nr)) a) :=
   λa l _ z=>⟨(l z).1,λw=>(l z).2.1 (eqx a w),(l z).2.2⟩
  have ownA:=(own6.snoc r6.own).wide lw
  refine⟨ys,D6,by omega,ds.length-(i+1),by omega,rfl,hlt,rs ++ [r],ys ++ [v],new ++ nr,δ6,fp6,⟨λb o e q=>?_,λb e=>?_,Zt,?_,λa z=>?_,?_,?_,λa m=>?_⟩,by rw[Q8];show ys.length+1≤i+1;omega,h6⟩
  ·have nD:b≠D:=λz=>by rw[z,hD]at e;cases e
   rw[Zu nD]
   refine r6.stp.keep b o (keep5 b o e q) ?_
   rcases q with q|q
   ·rw[XC]at q;exact .inl q.2
   ·refine .inr λz=>?_
    rcases grow5 b z with z|z
    ·exact q z
    ·rw[e]at z;cases z
  ·by_cases q:b=D
   ·subst q;rw[Zt]at e;cases e
   ·rw[Zu q]at e
    exact al5 b (r6.stp.al b e)
  ·exact(r6.rel.drop eqx).poke (.inl hx) D6 hD
  ·rcases r6.stp.grow a z with z|z
   ·exact grow5 a z
   ·exact .inr (al5 a z)
  ·exact ownA.poke D6 (λz=>(z rfl).2.1 (.inl hx)) (λm=>by
    rcases X3.mp m with m|m
    ·exact(B.fresh D m).2 rfl
    ·exact hDnr m)
  ·refine QL.mpr ⟨B.nd,r6.nd,λa m b m' z=>?_⟩
   subst z
   obtain⟨xs,e⟩:=own5.some a m
   rw[r6.fresh a m']at e;cases e
  ·rcases X3.mp m with m|m
   ·exact B.fresh a m
   ·exact⟨al5 a (r6.fresh a m),λz=>hDnr (z▸m)⟩
end
variable {G:Xb}
section
variable {X:Cx}{io:List Nat}{p p' c pt pe ci:Bool}{g:MGt}{mt:MTt}{me m:MEt}{mi:MIt}{own:List Str}{caps:List Nat}{e:Expr}
noncomputable def Z5z(m:MEt):MEt:=λδ K=>m δ λr δ'=>J7 r.data=true∧K (.fz r.data) δ'
theorem Z3m(h:ME X io p c e m):ME X io p true e (Z5z m):=by
 obtain⟨_,A,s⟩:=h
 exact⟨_,A,λC H σ δ fp ex K Q R h k=>s C H σ δ fp ex _ _ R h λH' v r δ' fp' new r1 h1=>k H' v _ δ' fp' [] (r1.fzs R h1.1) h1.2⟩
noncomputable def Z5e(n:Nat)(caps:List Nat)(ds:List Xa)(g:MGt)(mt:MTt)(me:MEt)(δ1:Zf)(K:OT->Zf->Prop):Prop:=ds.length≤Xq∧∃I:Nat->List OT->Zf->Prop,I 0 [] (blk n caps δ1)∧
 (∀ (i:Nat) (d:Xa) (rs:List OT) (δ':Zf),ds[i]? =some d->I i rs δ'->g d δ' λδ2=>mt δ2 λb δ3=>if b=true then me δ3 λr δ4=>I (i+1) (rs ++ [r]) δ4 else I (i+1) rs δ3)∧
 ∀rs δ',I ds.length rs δ'->K (.nd rs) δ1
noncomputable def Ziy(n:Nat)(caps:List Nat)(mi:MIt)(g:MGt)(mt:MTt)(me:MEt):MEt:=λδ K=>mi δ λds δ1=>Z5e n caps ds g mt me δ1 K
theorem Zz1{wi:TI}(si:SI G io p ci wi mi)(nd:caps.Nodup)(hp:(pt&&pe)=true) :
  SE G io p true (Zxv own caps wi (gM G (Zaq own.length caps) ci g) (ttM G (Zaq own.length caps) pt mt) (tM G (Zaq own.length caps) pe true me)) (Ziy own.length caps mi g mt me):=by
 intro C H σ δ fp ex K Q R h k
 refine si C H σ δ fp ex _ _ R h λJ H1 ds δ1 fp1 R1 S1 it h1 D hD=>?_
 obtain⟨hz,I,h0,turn,fin⟩:=h1
 refine Zpx I R1 (λH' kp=>it H' λb o e _=>kp b o e (.inl hp)) nd hD hz h0 turn λH' σ' δ' fp' ys rs new B i'=>?_
 have s:Same H1 H':=λb o e=>B.keep b o e (.inl hp)
 refine k H' (.ref D) (.nd rs) δ1 fp1 (D :: new) (RE.tree R R1 S1 s (λa m=>?_) (XX.mpr ⟨λm=>(B.fresh D m).2 rfl,B.nd⟩) (.nd B.dat (B.own.wide λa l _=>?_))) (fin rs δ' i')
 ·rcases Xk.mp m with rfl|m
  ·exact hD
  ·exact(B.fresh a m).1
 ·refine⟨?_,λm=>?_⟩
  ·rcases Z3r (λa z=>.inl (.inl z)) (l rfl)with z|z
   ·exact .inl λ_=>z
   ·exact .inr z
  ·rcases Xk.mp m with z|z
   ·exact(l rfl).2.1 (.inl (.inr (.inl z)))
   ·exact(l rfl).2.1 (.inr z)
variable {N':List Str}{sc:Ua}{tg elt iter:Expr}{ifs:List Expr}{pos:Pos}
theorem Z4w(S:CompScope X own caps N' sc)(hc:X.calm=true)(nd:caps.Nodup)(hi:MI X io p ci tg iter mi)
  (hg:∀C cells s₂ H₂ fp,MG (Yu X N' sc C cells s₂ H₂ fp) (Zaq own.length caps) ci tg g) (ht:∀C cells s₂ H₂ fp,MIfs (Yu X N' sc C cells s₂ H₂ fp) (Zaq own.length caps) pt ifs mt) (he:∀C cells s₂ H₂ fp,ME (Yu X N' sc C cells s₂ H₂ fp) (Zaq own.length caps) pe true elt me)
  (hp:(pt&&pe)=true:=by rfl) (hs:∀x,Q7 iter X.env x=pure x:=by intro _;rfl):ME X io p true (.ListComp elt [⟨tg,iter,ifs,0⟩] sc pos) (Ziy own.length caps mi g mt me):=by
 obtain⟨_,A,si⟩:=hi
 exact⟨_,Zop S hc A (λC cells s₂ H₂ fp=>(hg C cells s₂ H₂ fp).canon) (λC cells s₂ H₂ fp=>(ht C cells s₂ H₂ fp).canon) (λC cells s₂ H₂ fp=>(he C cells s₂ H₂ fp).canon) hs,Zz1 si nd hp⟩
section
variable {i:Nat}{y:Str}{py spos:Pos}
theorem Zhd(own':Bool)(hN:X.N.Nodup)(hy:X.N[i]? =some y)(hx:Loc X.env.scope y)(S:CompScope X own caps N' sc)(hc:X.calm=true)(nd:caps.Nodup)(hi:MI X io p ci tg iter mi)
  (hg:∀C cells s₂ H₂ fp,MG (Yu X N' sc C cells s₂ H₂ fp) (Zaq own.length caps) ci tg g) (ht:∀C cells s₂ H₂ fp,MIfs (Yu X N' sc C cells s₂ H₂ fp) (Zaq own.length caps) pt ifs mt) (he:∀C cells s₂ H₂ fp,ME (Yu X N' sc C cells s₂ H₂ fp) (Zaq own.length caps) pe true elt me)
  (hp:(pt&&pe)=true:=by rfl) (hio:i∉io:=by decide)
  (hsw:BZ (.ListComp elt [⟨tg,iter,ifs,0⟩] sc pos) (some (.Name y py)) spos.line X.env=pure true:=by rfl)
  (hs:∀x,Q7 iter X.env x=pure x:=by intro _;rfl) (hf:X.fn y=true∨X.env.scope.names.lookup y=some .local:=by first|exact .inl rfl|exact .inr rfl|assumption) :
  MS X io (.Assign [.Name y py] (.ListComp elt [⟨tg,iter,ifs,0⟩] sc pos) spos) (if own'=true then Zot i (Ziy own.length caps mi g mt me)else Z4m i (Ziy own.length caps mi g mt me)):=by
 obtain⟨_,A,si⟩:=hi
 refine⟨_,Zoa (g:=gM X.K (Zaq own.length caps) ci g) (tt:=ttM X.K (Zaq own.length caps) pt mt) (te:=tM X.K (Zaq own.length caps) pe true me) hN hy hx S hc A (λC cells s₂ H₂ fp=>(hg C cells s₂ H₂ fp).canon) (λC cells s₂ H₂ fp=>(ht C cells s₂ H₂ fp).canon) (λC cells s₂ H₂ fp=>(he C cells s₂ H₂ fp).canon) hsw hs hf,?_⟩
 cases own'
 ·exact Ybx (Zz1 si nd hp) hio
 ·exact Z6o (Zz1 si nd hp) hio
end
end
variable {G:Xb}
section
variable {X:Cx}{pins:List (Addr×Obj)}{σ:St}{H:Hp}{s:Xe}{l:Addr}{xs:List V}
noncomputable def Z41(K:Xb):R2:=λx y H Q=>∃l b xs zs,x= .ref l∧y= .ref b∧SqL K H l xs∧SqL K H b zs∧xs.length+zs.length≤Xq∧∀p,H p=none->Q (.ref p) (upd H p (.lst (xs ++ zs)))
theorem Inv.lstQ{K:Xb}(hK:X.K=K)(I:Inv X pins σ H s)(hH:SqL K H l xs):∃(its:List Xc) (n:Nat),Vals xs its∧xs.length=its.length∧∃o,s.heap.get? l=some o∧o.cls= .type "list"∧o.dict=none∧o.data= .seq its.toArray n:=by
 subst hK
 obtain⟨its,r,⟨o,n,e,h1,h2,h3⟩,_⟩:=I.list hH
 exact⟨its,n,r,r.length,o,e,h1,h2,h3⟩
theorem Zc9{K:Xb}(hK:X.K=K):OpR X (Vk .Add) (Z41 K):=by
 intro pins s σ H x y v u Q I rx ry h
 obtain⟨l,b,xs,zs,rfl,rfl,hH,hB,hz,q⟩:=h
 cases rx
 cases ry
 obtain⟨its,n,r,hl,⟨cls,dd,data,sl⟩,ho,hc,_,hd⟩:=I.lstQ hK hH
 obtain⟨its2,n2,r2,hl2,⟨cls2,dd2,data2,sl2⟩,ho2,hc2,_,hd2⟩:=I.lstQ hK hB
 simp only at hc hd hc2 hd2
 subst hc hd hc2 hd2
 have ea:its.toArray ++ its2.toArray=(its ++ its2).toArray:=by simp
 refine concat_meets ⟨_,ho,rfl⟩ ⟨_,ho2,rfl⟩ noFill_list_add seq_list_add PySem.F.slot_list_add PySem.F.entry_list_add (PySem.F.args_list_add_2 _ _) (list_addW l b its.toArray its2.toArray n n2 dd dd2 sl sl2 (by simp only[Xx];omega)) ⟨ho,ho2,?_⟩
 rw[ea]
 exact⟨.ref _,_,I.lnew (t':=s.toks) (r.append r2) (by rw[Q8];omega),rfl,q _ I.fresh⟩
end
noncomputable def asI(d:Xa)(k:Int->Prop):Prop:=match d with| .int i=>k i|_=>False
noncomputable def asL(d:Xa)(k:List Xa->Prop):Prop:=match d with| .list ds=>k ds|_=>False
section
variable {H:Hp}{L:Addr->Prop}{v:V}{d:Xa}
theorem Da.intInv{k:Int->Prop}(q:Da G H L v d)(h:asI d k):∃i,v= .int i∧k i:=by
 cases q with
 | int b=>exact⟨b,rfl,h⟩
 | _=>exact h.elim
theorem Da.lstInv{k:List Xa->Prop}(q:Da G H L v d)(h:asL d k):∃a xs ds,v= .ref a∧SqL G H a xs∧Das G H L xs ds∧k ds:=by
 cases q with
 | lst l e r=>exact⟨_,_,_,rfl,.inl e,r,h⟩
 | scr s=>exact⟨_,_,_,rfl,s.sq,.ints _,h⟩
 | _=>exact h.elim
end
noncomputable def d2I(C:Int->Int->Prop)(g:Int->Int->Xa):Xa->Xa->(Xa->Prop)->Prop:=λd e k=>asI d λi=>asI e λj=>C i j∧k (g i j)
noncomputable def Zse(g:Int->Int->Xa):Xa->Xa->(Xa->Prop)->Prop:=λd e k=>asI d λi=>asI e λj=>k (g i j)
theorem Zpj{C:Int->Int->Prop}{f:Int->Int->Int}:P2s G (rI C λi j=>.int (f i j)) (d2I C λi j=>.int (f i j)):=λH L x y d e k Q hx hy h kk=>by
 obtain⟨i,rfl,h⟩:=hx.intInv h
 obtain⟨j,rfl,h⟩:=hy.intInv h
 exact⟨i,j,rfl,rfl,h.1,kk _ _ (.int _) h.2⟩
structure MulOk(i j:Int):Prop where
 ok:IntMulOk i j
structure Ybk(i j:Int):Prop where
 ok:DivOk i j
structure Z7f(i j:Int):Prop where
 ok:Z1h i j
theorem Z3x{f:Int->Int->Int}:P2s G (rI IntMulOk λi j=>.int (f i j)) (d2I MulOk λi j=>.int (f i j)):=λH L x y d e k Q hx hy h kk=>by
 obtain⟨i,rfl,h⟩:=hx.intInv h
 obtain⟨j,rfl,h⟩:=hy.intInv h
 exact⟨i,j,rfl,rfl,h.1.ok,kk _ _ (.int _) h.2⟩
theorem Z51{f:Int->Int->Int}:P2s G (rI DivOk λi j=>.int (f i j)) (d2I Ybk λi j=>.int (f i j)):=λH L x y d e k Q hx hy h kk=>by
 obtain⟨i,rfl,h⟩:=hx.intInv h
 obtain⟨j,rfl,h⟩:=hy.intInv h
 exact⟨i,j,rfl,rfl,h.1.ok,kk _ _ (.int _) h.2⟩
theorem Zv7{f:Int->Int->Int}:P2s G (rI Z1h λi j=>.int (f i j)) (d2I Z7f λi j=>.int (f i j)):=λH L x y d e k Q hx hy h kk=>by
 obtain⟨i,rfl,h⟩:=hx.intInv h
 obtain⟨j,rfl,h⟩:=hy.intInv h
 exact⟨i,j,rfl,rfl,h.1.ok,kk _ _ (.int _) h.2⟩
theorem Zio{f:Int->Int->Int}:P2s G (rI0 λi j=>.int (f i j)) (Zse λi j=>.int (f i j)):=λH L x y d e k Q hx hy h kk=>by
 obtain⟨i,rfl,h⟩:=hx.intInv h
 obtain⟨j,rfl,h⟩:=hy.intInv h
 exact⟨i,j,rfl,rfl,kk _ _ (.int _) h⟩
theorem Zjg{f:Int->Int->Bool}:P2s G (rI0 λi j=>.bl (f i j)) (Zse λi j=>.bool (f i j)):=λH L x y d e k Q hx hy h kk=>by
 obtain⟨i,rfl,h⟩:=hx.intInv h
 obtain⟨j,rfl,h⟩:=hy.intInv h
 exact⟨i,j,rfl,rfl,kk _ _ (.bl _) h⟩
section
variable {X:Cx}
noncomputable def Ya7(K:Xb):R2:=λx y H Q=>∃(L L':Addr->Prop) (d e:Xa),Da K H L x d∧Da K H L' y e∧Shp d∧Shp e∧Q (.bl (JF d e)) H
noncomputable def Ybn(K:Xb):R2:=λx y H Q=>∃(L L':Addr->Prop) (d e:Xa),Da K H L x d∧Da K H L' y e∧Shp d∧Shp e∧Q (.bl (!JF d e)) H
theorem Zvf(hu:X.A.units+64<cLine):OpR X (Va .Eq) (Ya7 X.K):=by
 intro pins s σ H x y v u Q I rx ry h
 obtain⟨L,L',d,e,h1,h2,s1,s2,q⟩:=h
 obtain⟨as,k1⟩:=h1.reads rfl I rx (VL s1)
 obtain⟨bs,k2⟩:=h2.reads rfl I ry (VL s2)
 exact eq_dataH k1 k2 s1 s2 hu ⟨.bl _,H,I,rfl,q⟩
theorem Z4c(hu:X.A.units+64<cLine):OpR X (Va .NotEq) (Ybn X.K):=by
 intro pins s σ H x y v u Q I rx ry h
 obtain⟨L,L',d,e,h1,h2,s1,s2,q⟩:=h
 obtain⟨as,k1⟩:=h1.reads rfl I rx (VL s1)
 obtain⟨bs,k2⟩:=h2.reads rfl I ry (VL s2)
 exact ne_dataH k1 k2 s1 s2 hu ⟨.bl _,H,I,rfl,q⟩
end
structure Z6n(d:Xa):Prop where
 ok:Shp d
noncomputable def dEq:Xa->Xa->(Xa->Prop)->Prop:=λd e k=>Z6n d∧Z6n e∧k (.bool (JF d e))
noncomputable def dNe:Xa->Xa->(Xa->Prop)->Prop:=λd e k=>Z6n d∧Z6n e∧k (.bool (!JF d e))
theorem Z38:P2s G (Ya7 G) dEq:=λH L x y d e k Q hx hy h kk=>⟨L,L,d,e,hx,hy,h.1.ok,h.2.1.ok,kk _ _ (.bl _) h.2.2⟩
theorem Z9h:P2s G (Ybn G) dNe:=λH L x y d e k Q hx hy h kk=>⟨L,L,d,e,hx,hy,h.1.ok,h.2.1.ok,kk _ _ (.bl _) h.2.2⟩
noncomputable def Zda:Xa->Bool
 | .none=>true
 | _=>false
theorem Da.isNone{H:Hp}{L:Addr->Prop}{v:V}{d:Xa}(h:Da G H L v d):decide (v= .non)=Zda d:=by
 cases h<;>rfl
noncomputable def Yb2:Xa->Xa->(Xa->Prop)->Prop:=λd e k=>e= .none∧k (.bool (Zda d))
noncomputable def Z32:Xa->Xa->(Xa->Prop)->Prop:=λd e k=>e= .none∧k (.bool (!Zda d))
theorem Z4r:P2s G (λx y H Q=>y= .non∧Q (.bl (decide (x= .non))) H) Yb2:=λH L x y d e k Q hx hy h kk=>by
 obtain⟨rfl,h⟩:=h
 cases hy
 exact⟨rfl,by rw[hx.isNone];exact kk _ _ (.bl _) h⟩
theorem Zxx:P2s G (λx y H Q=>y= .non∧Q (.bl (!decide (x= .non))) H) Z32:=λH L x y d e k Q hx hy h kk=>by
 obtain⟨rfl,h⟩:=h
 cases hy
 exact⟨rfl,by rw[hx.isNone];exact kk _ _ (.bl _) h⟩
noncomputable def scD:Xa->Bool
 | .none=>true
 | .bool _=>true
 | .int _=>true
 | .str _=>true
 | _=>false
noncomputable def eqS:Xa->Xa->Bool
 | .none,.none=>true
 | .bool a,.bool b=>a==b
 | .bool a,.int b=>(if a then 1 else 0)==b
 | .int a,.bool b=>a==(if b then 1 else 0)
 | .int a,.int b=>a==b
 | .str a,.str b=>a==b
 | _,_=>false
noncomputable def memS(d:Xa)(ds:List Xa):Bool:=ds.any λe=>eqS e d
theorem Da.toSc{H:Hp}{L:Addr->Prop}{v:V}{d:Xa}(h:Da G H L v d)(s:scD d=true):ScD v d:=by
 cases h with
 | non=>exact .non
 | bl b=>exact .bl b
 | int i=>exact .int i
 | str x=>exact .str x
 | _=>cases s
theorem Da.sc{H:Hp}{L:Addr->Prop}{v:V}{d:Xa}(h:Da G H L v d)(s:scD d=true):Zfm v=true:=by
 cases h.toSc s<;>rfl
theorem Das.sc{H:Hp}{L:Addr->Prop}{vs:List V}{ds:List Xa}(h:Das G H L vs ds):ds.all scD=true->vs.all Zfm=true :=
 Das.ind (Q:=λvs ds=>ds.all scD=true->vs.all Zfm=true) (λ_=>rfl) (λh _ r s=>by
  rw[U4,XC]at s
  rw[U4,h.sc s.1,r s.2];rfl) h
theorem Da.eqS{H:Hp}{L:Addr->Prop}{v u:V}{d e:Xa}(h:Da G H L v d)(g:Da G H L u e)(s:scD d=true)(t:scD e=true):eqV v u=L2.eqS d e:=by
 cases h.toSc s<;>cases g.toSc t<;>rfl
theorem Das.memS{H:Hp}{L:Addr->Prop}{v:V}{d:Xa}(h:Da G H L v d)(s:scD d=true){vs:List V}{ds:List Xa}(g:Das G H L vs ds):ds.all scD=true->inV v vs=L2.memS d ds :=
 Das.ind (Q:=λvs ds=>ds.all scD=true->inV v vs=L2.memS d ds) (λ_=>rfl) (λg _ r t=>by
  rw[U4,XC]at t
  have:=r t.2
  unfold inV L2.memS at*
  rw[List.any_cons,List.any_cons,this,g.eqS h t.1 s]) g
noncomputable def dIn(neg:Bool):Xa->Xa->(Xa->Prop)->Prop:=λd e k=>scD d=true∧match e with
 | .list ds=>ds.all scD=true∧k (.bool (if neg then !memS d ds else memS d ds))
 | .tuple ds=>ds.all scD=true∧k (.bool (if neg then !memS d ds else memS d ds))
 | _=>False
theorem Z3v{neg:Bool}:P2s G (rIn G neg) (dIn neg):=λH L x y d e k Q hx hy h kk=>by
 obtain⟨s,h⟩:=h
 cases hy with
 | lst l e r=>exact⟨_,_,rfl,.inl (.inl e),hx.sc s,r.sc h.1,by rw[Das.memS hx s r h.1];exact kk _ _ (.bl _) h.2⟩
 | tup e r=>exact⟨_,_,rfl,.inr (.inl (.inl e)),hx.sc s,r.sc h.1,by rw[Das.memS hx s r h.1];exact kk _ _ (.bl _) h.2⟩
 | scr ks=>exact⟨_,_,rfl,.inl ks.sq,hx.sc s,(Das.ints (G:=G) (H:=H) (L:=L) _).sc h.1,by rw[Das.memS hx s (Das.ints (G:=G) (H:=H) (L:=L) _) h.1];exact kk _ _ (.bl _) h.2⟩
 | _=>exact h.elim
noncomputable def ixD(d e:Xa):Option Xa:=match d,e with
 | .list ds,.int i=>atI ds i
 | .tuple ds,.int i=>atI ds i
 | _,_=>none
noncomputable def dIx:Xa->Xa->(OT->Prop)->Prop:=λd e k=>match ixD d e with|some x=>k (.fz x)|none=>False
theorem Das.atI{H:Hp}{L:Addr->Prop}{xs:List V}{ds:List Xa}{i:Int}{d:Xa}(h:Das G H L xs ds)(e:L2.atI ds i=some d):∃x,L2.atI xs i=some x∧Da G H L x d:=by
 unfold L2.atI at*
 rw[h.length]
 cases q:ixN ds.length i with
 | none=>rw[q]at e;cases e
 | some j=>
  rw[q]at e
  exact h.get e
theorem Z7n:P2 G (rIx G) dIx:=λH L x y d e k Q hx hy h kk=>by
 unfold dIx at h
 split at h
 case h_2=>exact h.elim
 rename_i z ez
 have fin:∀v,Da G H L v z->Q v H:=λv q=>kk H v (.fz z) [] (Same.refl _) (.fz (q.wide λa l _=>⟨.inl l,λm=>nomatch m⟩)) .nil (λa m=>nomatch m) h
 cases hx with
 | lst l e1 r=>
  cases hy with
  | int i=>
   obtain⟨v,e2,q⟩:=r.atI (show L2.atI _ i=some z from ez)
   exact .inl ⟨_,_,i,v,rfl,rfl,.inl e1,e2,fin v q⟩
  | _=>cases ez
 | tup e1 r=>
  cases hy with
  | int i=>
   obtain⟨v,e2,q⟩:=r.atI (show L2.atI _ i=some z from ez)
   exact .inr (.inl ⟨_,_,i,v,rfl,rfl,.inl (.inl e1),e2,fin v q⟩)
  | _=>cases ez
 | scr ks=>
  cases hy with
  | int i=>
   obtain⟨v,e2,q⟩:=(Das.ints (G:=G) (H:=H) (L:=L) _).atI (show L2.atI _ i=some z from ez)
   exact .inl ⟨_,_,i,v,rfl,rfl,ks.sq,e2,fin v q⟩
  | _=>cases ez
 | _=>cases ez
theorem Own.list{H:Hp}{L:Addr->Prop}{p:Addr}{xs:List V}{ds:List Xa}(hp:H p=none)(h:Das G H L xs ds):Own G (upd H p (.lst xs)) (λa=>(L a∨H a=none)∧a∉[p]) (.ref p) (.nd (ds.map OT.fz)) [p] :=
 .nd Zt (((h.wide λa l q=>⟨.inl l,λm=>q (by rw[Xu.mp m];exact hp)⟩).same (Z8 hp _)).owns)
theorem Zeo{H:Hp}{p:Addr}(hp:H p=none):∀a∈[p],H a=none:=λa m=>by rw[Xu.mp m];exact hp
theorem Zg8(p:Addr):[p].Nodup:=XX.mpr ⟨λm=>(nomatch m),.nil⟩
noncomputable def dCat:Xa->Xa->(OT->Prop)->Prop:=λd e k=>asL d λds=>asL e λes=>ds.length+es.length≤Xq∧k (.nd ((ds ++ es).map OT.fz))
theorem Zg3:P2 G (Z41 G) dCat:=λH L x y d e k Q hx hy h kk=>by
 obtain⟨a,xs,ds,rfl,e1,r1,h⟩:=hx.lstInv h
 obtain⟨b,ys,es,rfl,e2,r2,h⟩:=hy.lstInv h
 exact⟨a,b,xs,ys,rfl,rfl,e1,e2,by rw[r1.length,r2.length];exact h.1,λp hp=>kk _ _ _ [p] (Z8 hp _) (Own.list hp (r1.append r2)) (Zg8 p) (Zeo hp) h.2⟩
noncomputable def n1(k:Xa->Prop)(ds:List Xa):Prop:=match ds with|[d]=>k d|_=>False
noncomputable def n2(k:Xa->Xa->Prop)(ds:List Xa):Prop:=match ds with|[d,e]=>k d e|_=>False
theorem Das.one{H:Hp}{L:Addr->Prop}{vs:List V}{ds:List Xa}{k:Xa->Prop}(q:Das G H L vs ds)(h:n1 k ds):∃v d,vs=[v]∧ds=[d]∧Da G H L v d∧k d:=by
 cases q with
 | nil=>exact h.elim
 | cons q r=>
  cases r with
  | nil=>exact⟨_,_,rfl,rfl,q,h⟩
  | cons _ _=>exact h.elim
theorem Das.two{H:Hp}{L:Addr->Prop}{vs:List V}{ds:List Xa}{k:Xa->Xa->Prop}(q:Das G H L vs ds)(h:n2 k ds):∃v u d e,vs=[v,u]∧ds=[d,e]∧Da G H L v d∧Da G H L u e∧k d e:=by
 cases q with
 | nil=>exact h.elim
 | cons q r=>
  cases r with
  | nil=>exact h.elim
  | cons q' r'=>
   cases r' with
   | nil=>exact⟨_,_,_,_,rfl,rfl,q,q',h⟩
   | cons _ _=>exact h.elim
noncomputable def Zs9:Xa->Option Nat
 | .list ds=>some ds.length
 | .tuple ds=>some ds.length
 | _=>none
noncomputable def Ybi:List Xa->(Xa->Prop)->Prop:=λds k=>n1 (λd=>match Zs9 d with|some n=>k (.int n)|none=>False) ds
theorem Z2t:PNs G (Ybf G) Ybi:=λH L xs ds k Q hx h kk=>by
 obtain⟨v,d,rfl,rfl,q,h⟩:=hx.one h
 cases q with
 | lst l e r=>exact⟨_,_,rfl,.inl (.inl e),by rw[r.length];exact kk _ _ (.int _) h⟩
 | tup e r=>exact⟨_,_,rfl,.inr (.inl (.inl e)),by rw[r.length];exact kk _ _ (.int _) h⟩
 | scr ks=>exact⟨_,_,rfl,.inl ks.sq,by rw[(Das.ints (G:=G) (H:=H) (L:=L) _).length];exact kk _ _ (.int _) h⟩
 | _=>exact h.elim
noncomputable def Ya1:List Xa->(Xa->Prop)->Prop:=λds k=>n1 (λd=>asI d λi=>k (.int (if i<0 then -i else i))) ds
theorem Zrp:PNs G (λxs H Q=>∃i,xs=[.int i]∧Q (.int (if i<0 then -i else i)) H) Ya1:=λH L xs ds k Q hx h kk=>by
 obtain⟨v,d,rfl,rfl,q,h⟩:=hx.one h
 obtain⟨i,rfl,h⟩:=q.intInv h
 exact⟨i,rfl,kk _ _ (.int _) h⟩
noncomputable def Yam:List Xa->(Xa->Prop)->Prop:=λds k=>n2 (λd e=>asI d λi=>asI e λj=>k (.int (if j<i then j else i))) ds
theorem Zry:PNs G (λxs H Q=>∃i j,xs=[.int i,.int j]∧Q (.int (if j<i then j else i)) H) Yam:=λH L xs ds k Q hx h kk=>by
 obtain⟨v,u,d,e,rfl,rfl,q,q',h⟩:=hx.two h
 obtain⟨i,rfl,h⟩:=q.intInv h
 obtain⟨j,rfl,h⟩:=q'.intInv h
 exact⟨i,j,rfl,kk _ _ (.int _) h⟩
noncomputable def Ya3:List Xa->(Xa->Prop)->Prop:=λds k=>n1 (λd=>match d with| .int i=>k (.int i)| .bool b=>k (.int (if b then 1 else 0))|_=>False) ds
theorem Z17:PNs G (λxs H Q=>(∃i,xs=[.int i]∧Q (.int i) H)∨∃k,xs=[.bl k]∧Q (.int (if k then 1 else 0)) H) Ya3:=λH L xs ds k Q hx h kk=>by
 obtain⟨v,d,rfl,rfl,q,h⟩:=hx.one h
 cases q with
 | int i=>exact .inl ⟨i,rfl,kk _ _ (.int _) h⟩
 | bl b=>exact .inr ⟨b,rfl,kk _ _ (.int _) h⟩
 | _=>exact h.elim
noncomputable def Zm2:Xa->Option (List Xa)
 | .list ds=>some ds
 | .tuple ds=>some ds
 | _=>none
noncomputable def Z3l:List Xa->(OT->Prop)->Prop:=λds k=>n1 (λd=>match Zm2 d with|some es=>k (.nd (es.map OT.fz))|none=>False) ds
theorem Zrm:PN G (Zqn G) Z3l:=λH L xs ds k Q hx h kk=>by
 obtain⟨v,d,rfl,rfl,q,h⟩:=hx.one h
 cases q with
 | lst l e r=>exact⟨_,_,rfl,.inl (.inl e),λp hp=>kk _ _ _ [p] (Z8 hp _) (Own.list hp r) (Zg8 p) (Zeo hp) h⟩
 | tup e r=>exact⟨_,_,rfl,.inr (.inl (.inl e)),λp hp=>kk _ _ _ [p] (Z8 hp _) (Own.list hp r) (Zg8 p) (Zeo hp) h⟩
 | scr ks=>exact⟨_,_,rfl,.inl ks.sq,λp hp=>kk _ _ _ [p] (Z8 hp _) (Own.list hp (Das.ints _)) (Zg8 p) (Zeo hp) h⟩
 | _=>exact h.elim
section
variable {X:Cx}{io:List Nat}{p c:Bool}{a:Expr}{ma:MEt}{pos:Pos}
noncomputable def Ya6(m:MEt):MEt:=λδ K=>m δ λr δ'=>asI r.data λi=>K (.fz (.int (-i))) δ'
theorem Z77(ha:ME X io p c a ma):ME X io p true (.UnaryOp .USub a pos) (Ya6 ma):=by
 obtain⟨_,A,s⟩:=ha
 exact⟨_,Z9b Z5l A,λC H σ δ fp ex K Q R h k=>s C H σ δ fp ex _ _ R h λH' v r δ' fp' new r1 h1=>by
  obtain⟨i,rfl,h1⟩:=(r1.da R).intInv h1
  exact⟨i,rfl,k H' _ _ δ' fp' [] (.fz r1.base r1.stp (.int _)) h1⟩⟩
noncomputable def Zom(T:String):Xa->Bool
 | .none=>false
 | .bool _=>T=="bool"||T=="int"
 | .int _=>T=="int"
 | .str _=>T=="str"
 | .list _=>T=="list"
 | .tuple _=>T=="tuple"
 | .dict _=>false
noncomputable def Yay(T:String)(m:MEt):MEt:=λδ K=>m δ λr δ'=>Zgq r.data=false∧K (.fz (.bool (Zom T r.data))) δ'
end
section
variable {prog:X6}{w:Qv}{A:Qo}{E:Xc->Xe->Prop}{h:Heap}{g:Array GenState}{d:Drawn}{t:Nat}{os:OsState}{a C:Addr}{o:Obj}{K:Xb}
theorem Zxz(M:Model)(hx:h.get? a=some o)(hc:o.cls= .ref C):JG M h (typeOf (.ref a)) (.ref C):=hc▸(JG.ld hx).andThen .now
theorem Zsp{R:Result->Xe->Prop}(X:K.In h)(Z:Zem K C)(hx:h.get? a=some o)(hc:o.cls= .ref C)(hq:R (.ok (.ret (.ref C))) ⟨h,g,d,t,os⟩) :
  codeAny (Qd prog w) A (.call (.builtin "getset_descriptor.__get__") ⟨[.builtin "object.__class__",.ref a,.ref C],[]⟩) R ⟨h,g,d,t,os⟩:=by
 have L1:JG (Qd prog w) h (isSubtype (.ref C) (.type (".".intercalate ("object.__class__".cutAt '.').dropLast))) true:=by
  rw[F.owner_object_class]
  exact PySem.W.looks_subIn X Z.isO
 have T5:(⟨h,g,d,t,os⟩:Xe).TypeIs (.builtin "object.__class__") "getset_descriptor" :=F.typeOf_object_class
 refine codeAny_call_builtin F.slot_gs_get.plain F.entry_gs_get (F.slot_gs_get.check _ _ _ _ _ _ _ _ T5 (F.args_gs_get _ _ _) ?_)
 repeat (any_goals (first|assumption|(with_reducible refine V8 hx ?_;rw[hc])|(with_reducible refine Xf (JG.at L1 ?_))|(with_reducible refine JG.at L1 ?_)|wp_step))
 refine⟨Code.quiet_builtin _ (by decide +kernel),codeAny_builtin F.entry_object_class ?_⟩
 repeat (any_goals (first|assumption|(with_reducible refine V8 hx ?_;rw[hc])|wp_step))
theorem Zoj{tk:Tok}{Q:Fin->Xe->Prop}(X:K.In h)(Z:Zem K C)(hx:h.get? a=some o)(hc:o.cls= .ref C)(hq:Q (.done (.ret (.ref C))) ⟨h,g,d,t,os⟩) :
  X5 (Qd prog w) A (Builtin.«object.__getattribute__» ⟨[.ref a,.str "__class__" tk],[]⟩) Q E ⟨h,g,d,t,os⟩:=by
 have T5:(⟨h,g,d,t,os⟩:Xe).TypeIs (.builtin "object.__class__") "getset_descriptor" :=F.typeOf_object_class
 have g5:=F.typeOf_object_class
 have g6:=F.slot_gs_get.lookup
 have g7:=F.slot_gs_set.lookup
 have L4:=PySem.W.looks_findIn (M:=Qd prog w) X Z.cl
 repeat (any_goals (first|assumption|(with_reducible refine V8 hx ?_;rw[hc])|(with_reducible refine Xf (JG.at L4 ?_))|(with_reducible refine JG.at L4 ?_)|wp_step))
 refine Zsp X Z hx hc ?_
 repeat (any_goals (first|assumption|wp_step))
theorem Znp{M:Model}{nameV:Xc}{Q:Unit->Xe->Prop}(X:K.In h)(Z:Zem K C)(hx:h.get? a=some o)(hc:o.cls= .ref C)(hq:Q () ⟨h,g,d,t,os⟩) :
  X5 M A (checkBuiltinCall "BaseException.__getattribute__" ⟨[.ref a,nameV],[]⟩) Q E ⟨h,g,d,t,os⟩:=by
 have e1:builtinKind "BaseException.__getattribute__"=some .slot:=by decide +kernel
 have e2:splitId "BaseException.__getattribute__"=some ("BaseException","__getattribute__"):=by decide +kernel
 have L1:=PySem.W.looks_subIn (M:=M) X Z.isB
 have e3:=F.args_bexc_ga (.ref a) nameV
 simp only[checkBuiltinCall,e1,e2]
 refine Xf ?_
 unfold isInstance
 repeat (first|(with_reducible refine V8 hx ?_;rw[hc])|(with_reducible refine Xf (JG.at L1 ?_))|(with_reducible refine JG.at L1 ?_)|wp_step)
 exact hq
theorem Zrv{tk:Tok}{R:Result->Xe->Prop}(X:K.In h)(Z:Zem K C)(hx:h.get? a=some o)(hc:o.cls= .ref C)(hq:R (.ok (.ret (.ref C))) ⟨h,g,d,t,os⟩) :
  codeAny (Qd prog w) A (.call (.builtin "BaseException.__getattribute__") ⟨[.ref a,.str "__class__" tk],[]⟩) R ⟨h,g,d,t,os⟩ :=
 codeAny_call_builtin F.excAttr_ValueError.ga.plain F.entry_bexc_ga (Znp X Z hx hc (Zoj X Z hx hc hq))
theorem Z02{tk:Tok}{fill expr:Bool}{Q:Xc->Xe->Prop}(X:K.In h)(Z:Zem K C)(hx:h.get? a=some o)(hc:o.cls= .ref C)(hq:Q (.ref C) ⟨h,g,d,t,os⟩) :
  X5 (Qd prog w) A (getAttrBy (.ref a) (.str "__class__" tk) fill expr) Q E ⟨h,g,d,t,os⟩:=by
 have f3:=F.excAttr_ValueError.ga.bind (.ref a)
 have y0:(expr&&onTheHeap (UJ "BaseException.__getattribute__"))=false:=by cases expr<;>rfl
 have y2:(UJ "BaseException.__getattribute__"==UJ "object.__getattribute__")=false:=by decide +kernel
 have y1:(onTheHeap (QS C)&&UJ "BaseException.__getattribute__"==UJ "object.__getattribute__")=false:=by rw[y2];rfl
 have L2:=PySem.W.looks_findIn (M:=Qd prog w) X Z.ga
 have L3:=PySem.W.looks_findIn (M:=Qd prog w) X Z.gt
 repeat (any_goals (first|assumption|(with_reducible refine V8 hx ?_;rw[hc])|(with_reducible refine JG.at L2 ?_)|(with_reducible refine JG.at L3 ?_)|(with_reducible refine Xf (JG.at L2 ?_))|(with_reducible refine Xf (JG.at L3 ?_))|wp_step))
 refine Zrv X Z hx hc ?_
 repeat (any_goals (first|assumption|wp_step))
theorem Zp4{Q:Option Xc->Xe->Prop}(X:K.In h)(Z:Zem K C)(hx:h.get? a=some o)(hc:o.cls= .ref C)(hq:Q (some (.ref C)) ⟨h,g,d,t+1,os⟩) :
  X5 (Qd prog w) A (getAttr? (.ref a) "__class__") Q E ⟨h,g,d,t,os⟩:=by
 unfold getAttr? getAttrBy?
 repeat (any_goals (first|assumption|with_reducible apply Z02 X Z hx hc|wp_step))
end
theorem Zt8{K:Xb}{a C:Addr}(Z:Zem K C):PySem.W.KitX K (.ref a) (.ref C) (λh=>∃o,h.get? a=some o∧o.cls= .ref C) where
 ty:=λM h _ p=>let⟨_,hx,hc⟩:=p;Zxz M hx hc
 it:=λM h X _=>by
  have z:=Z.isC
  unfold PySem.W.clsIn at z
  split at z
  ·rename_i ho
   intro A' Q' E' s' k q
   unfold isType loadHead
   exact Xf (wpAny_loadPart (k _ _ (X _ _ ho)) (Qc q))
  ·cases z
 ne:=λh tp dd its n sl X htp=>by
  have z:=Z.isC
  refine VP.mpr λq=>?_
  have e:C=tp:=QS.inj (beq_iff_eq.mp q)
  subst e
  unfold PySem.W.clsIn at z
  split at z
  ·rename_i ho
   have z:=(X _ _ ho).symm.trans htp
   cases z
  ·cases z
 ca:=fun{_ _ _ _ _ s} X p k=>by
  obtain⟨h,g,d,t,os⟩:=s
  obtain⟨_,hx,hc⟩:=p
  exact Zp4 X Z hx hc k
variable {G:Xb}
noncomputable def tyD:Xa->String
 | .none=>"NoneType"
 | .bool _=>"bool"
 | .int _=>"int"
 | .str _=>"str"
 | .list _=>"list"
 | .tuple _=>"tuple"
 | .dict _=>"dict"
theorem Zvo{K:Xb}{T:String}{d:Xa}(h:T="int"∨T="bool"∨T="str"∨T="list"∨T="tuple")(hd:∀kvs,d≠ .dict kvs):BW K (.type (tyD d)) (.type T)=some (Zom T d):=by
 rcases h with rfl|rfl|rfl|rfl|rfl<;>cases d<;>first|rfl|(exact absurd rfl (hd _))|(unfold BW PySem.W.kitCls;rfl)|(simp only[tyD,Zom];decide +kernel)
noncomputable def Z7r(G:Xb):List V->Hp->VK->Prop:=λxs H Q=>∃(x:V) (T:String) (L:Addr->Prop) (d:Xa),xs=[x,.ty T]∧Da G H L x d∧Zgq d=false∧(T="int"∨T="bool"∨T="str"∨T="list"∨T="tuple")∧Q (.bl (Zom T d)) H
theorem Zpr{X:Cx}(hK:X.K=G):Zbo X (.builtin "isinstance") (Z7r G):=by
 subst hK
 intro pins s σ H xs us Q I r h
 obtain⟨x,T,L,d,rfl,q,hf,hT,h⟩:=h
 obtain⟨u,w',rfl,r1,r2⟩:=vals2 r
 cases(show w'=Xc.type T from r2)
 have fin:∀tk:Nat,EP X pins σ Q (.bool (Zom T d)) { s with toks:=tk }:=λtk=>⟨.bl _,H,I.tok tk,rfl,h⟩
 cases q with
 | non=>exact J4 I r1 .non (Zvo (d:=.none) hT λ_ z=>by cases z) fin
 | bl b=>exact J4 I r1 (.bl b) (Zvo (d:=.bool b) hT λ_ z=>by cases z) fin
 | int b=>exact J4 I r1 (.int b) (Zvo (d:=.int b) hT λ_ z=>by cases z) fin
 | str b=>exact J4 I r1 (.str b) (Zvo (d:=.str b) hT λ_ z=>by cases z) fin
 | lst l e qs=>
  rename_i ds
  rcases e with e|⟨o,e⟩
  ·exact J4 I r1 (.lst e) (Zvo (d:=.list ds) hT λ_ z=>by cases z) fin
  ·exact J4 I r1 (.frz e) (Zvo (d:=.list ds) hT λ_ z=>by cases z) fin
 | tup e qs=>
  rename_i ds
  exact J4 I r1 (.tup e) (Zvo (d:=.tuple ds) hT λ_ z=>by cases z) fin
 | scr ks=>
  rename_i a ns
  cases(show u=QS a from r1)
  obtain⟨its,vs,⟨o,n,ho,hc,hd,hs⟩,_⟩:=I.list (ks.sq (H:=H))
  exact Q3 PySem.W.kitx_list I.kIn ⟨o,ho,hc⟩ (Zvo (d:=.list (ns.map Xo)) hT λ_ z=>by cases z) (λz=>nomatch z) fin
 | exc Z hn e=>
  rename_i a C x
  cases(show u=QS a from r1)
  obtain⟨⟨o,vs,ho,hc,_⟩,_,_⟩:=(show ObjOk X.prog X.w H s.heap a (.ext (ExO C a))from I.hok a _ e)
  refine Q3 (Zt8 Z) I.kIn ⟨o,ho,hc⟩ (b:=Zom T (exD x)) ?_ (λz=>nomatch z) fin
  rcases hT with rfl|rfl|rfl|rfl|rfl
  ·exact Z.k1
  ·exact Z.k2
  ·exact Z.k3
  ·exact Z.k4
  ·exact Z.k5
 | fn _=>cases hf
 | dic _ _ _ _=>unfold dcD Zgq at hf;cases hf
section
variable {X:Cx}{io:List Nat}{p c p' c':Bool}{a b e:Expr}{ma m:MEt}{pos pp p2:Pos}{K:Xb}
theorem Zl2{T:Str}{T':String}(hT:T'="int"∨T'="bool"∨T'="str"∨T'="list"∨T'="tuple")(hg:Gl X "isinstance")(hm:X.mg "isinstance"=none)(hv:Qk "isinstance"=some (.builtin "isinstance"))
  (hg2:Gl X T) (hm2:X.mg T=none) (hv2:Qk T=some (.type T')) (ha:ME X io p c a ma) (hn:T≠"__name__" :=by decide) (hd:(T==("__debug__" : Str))=false:=by decide)
  (he:Xm [a,.Name T p2] X.env=(false,eval a X.env) :: Xm [.Name T p2] X.env:=by rfl) (he2:Xm [.Name T p2] X.env=(false,eval (.Name T p2) X.env) :: Xm [] X.env:=by rfl) (hpl:(JL pos (Xm [.Name T p2] X.env)).any (·.1)=false:=by rfl) :
  ME X io p true (.Call (.Name "isinstance" pp) [a,.Name T p2] [] pos) (Yay T' ma):=by
 obtain⟨_,A,s⟩:=ha
 refine⟨_,Ze7 (Zpr rfl) hg hm hv (Zag A (Zag (Zzz (v:=.ty T') hg2 hm2 hv2 rfl hn hd) Zfi he2) he) (by decide) (by decide) he hpl,?_⟩
 intro C H σ δ fp ex K' Q R h k
 refine s C H σ δ fp ex _ _ R h λH' v r δ' fp' new r1 h1=>?_
 exact⟨v,T',_,_,rfl,r1.da R,h1.1,hT,k H' _ _ δ' fp' [] (.fz r1.base r1.stp (.bl _)) h1.2⟩
noncomputable abbrev MOt:=Zf->(Option Int->Zf->Prop)->Prop
noncomputable def MO(X:Cx)(io:List Nat)(p:Bool)(e:Option Expr)(m:MOt):Prop:=∃t,PO X e t∧∀(C:MC X.K) (H:Hp) (σ:St) (δ:Zf) (fp:Fp) (ex:Addr->Prop) (K:Option Int->Zf->Prop) (Q:Option Int->Hp->Prop),Rel C io H σ δ fp ex->m δ K ->
 (∀ H' b δ' fp',Rel C io H' σ δ' fp' ex->Stp p H δ fp H' δ' fp'->K b δ'->Q b H')->t σ H Q
noncomputable def Zrk:MOt:=λδ K=>K none δ
noncomputable def Z18(m:MEt):MOt:=λδ K=>m δ λr δ'=>asI r.data λi=>K (some i) δ'
theorem Zpc:MO X io true none Zrk:=⟨_,Zyw,λC H σ δ fp ex K Q R h k=>k H none δ fp R (.refl _ _ _ _) h⟩
theorem Zqg(h:ME X io p c e m):MO X io p (some e) (Z18 m):=by
 obtain⟨_,A,s⟩:=h
 exact⟨_,Zxd A,λC H σ δ fp ex K Q R h k=>s C H σ δ fp ex _ _ R h λH' v r δ' fp' new r1 h1=>by
  obtain⟨i,rfl,h1⟩:=(r1.da R).intInv h1
  exact⟨i,rfl,k H' _ δ' fp' r1.base r1.stp h1⟩⟩
noncomputable def cutD(ds:List Xa)(lo hi:Option Int):List Xa:=(ds.drop (HT.sIx ds.length 0 lo)).take (HT.sIx ds.length ds.length hi-HT.sIx ds.length 0 lo)
theorem Das.cut{H:Hp}{L:Addr->Prop}{xs:List V}{ds:List Xa}(h:Das G H L xs ds)(lo hi:Option Int):Das G H L (Z1q xs lo hi) (cutD ds lo hi):=by
 unfold Z1q cutD
 rw[h.length]
 exact(h.drop _).take _
noncomputable def mSl(m:MEt)(ml mh:MOt):MEt:=λδ K=>m δ λr δ1=>ml δ1 λlo δ2=>mh δ2 λhi δ3=>asL r.data λds=>K (.nd ((cutD ds lo hi).map OT.fz)) δ3
theorem Z3o{lo hi:Option Expr}{ml mh:MOt}(ha:ME X io true c a ma)(hl:MO X io true lo ml)(hh:MO X io true hi mh):ME X io true c (.Subscript a (.Slice lo hi none p2) pos) (mSl ma ml mh):=by
 obtain⟨_,A,s⟩:=ha
 obtain⟨_,B,sl⟩:=hl
 obtain⟨_,D,sh⟩:=hh
 refine⟨_,Ztm (Zup rfl) A B D,?_⟩
 intro C H σ δ fp ex K' Q R h k
 refine s C H σ δ fp ex _ _ R h λH1 v r δ1 fp1 new r1 h1=>?_
 refine sl C H1 σ δ1 fp1 ex _ _ r1.base h1 λH2 l δ2 fp2 R2 S2 h2=>?_
 refine sh C H2 σ δ2 fp2 ex _ _ R2 h2 λH3 u δ3 fp3 R3 S3 h3=>?_
 have s2:Same H1 H2:=λb o e=>S2.keep b o e (.inl rfl)
 have s3:Same H2 H3:=λb o e=>S3.keep b o e (.inl rfl)
 obtain⟨e1,e2⟩:=r1.stp.env rfl
 obtain⟨e3,e4⟩:=S2.env rfl
 obtain⟨e5,e6⟩:=S3.env rfl
 have q:=((r1.da R).same s2).same s3
 obtain⟨a',xs,ds,rfl,e,qs,h3⟩:=q.lstInv h3
 refine⟨a',xs,rfl,e,λp hp=>?_⟩
 have S:=(r1.stp.trans S2).trans S3
 refine k _ _ _ δ3 fp3 [p] (RE.tree R R3 S (Z8 hp _) (Zeo hp) (Zg8 p) (Own.list hp ((qs.cut l u).wide λa l _=>?_))) h3
 rw[e6,e4]
 exact l
theorem Owns.set{H:Hp}{L:Addr->Prop}{x:V}{r:OT}(hr:Own G H L x r []):∀{xs:List V} {ts:List OT} {as:List Addr} (j:Nat),Owns G H L xs ts as->∃bs,Owns G H L (xs.set j x) (ts.set j r) bs∧bs.Sublist as
 | _,_,_,_,.nil=>⟨[],.nil,.refl _⟩
 | _,_,_,0,.cons k t=>⟨_,.cons hr t,by simp⟩
 | _,_,_,j+1,.cons (as:=as) k t=>by
  obtain⟨bs,o,s⟩:=Owns.set hr j t
  exact⟨as ++ bs,.cons k o,Uh s as⟩
theorem Owns.get{H:Hp}{L:Addr->Prop}:∀{xs:List V} {ts:List OT} {as:List Addr} {j:Nat} {t:OT},Owns G H L xs ts as->ts[j]? =Qm t->∃x bs,xs[j]? =Qm x∧Own G H L x t bs∧bs.Sublist as
 | _,_,_,_,_,.nil,e=>by simp at e
 | _,_,_,0,_,.cons k _,e=>by simp at e;subst e;exact⟨_,_,rfl,k,List.sublist_append_left _ _⟩
 | _,_,_,j+1,t,.cons _ r,e=>by
  obtain⟨x,bs,h1,h2,h3⟩:=Owns.get (j:=j) (t:=t) r (by simpa using e)
  exact⟨x,bs,by simpa using h1,h2,h3.trans (List.sublist_append_right _ _)⟩
theorem Rel.top{C:MC G}{H:Hp}{σ:St}{δ:Zf}{fp:Fp}{ex:Addr->Prop}{i:Nat}{ts ts':List OT}{a':Addr}{xs ys:List V}{bs bs':List Addr}(R:Rel C io H σ δ fp ex)(hi:δ[i]? =some (some (.nd ts)))(hv:σ[i]? =some (some (.ref a')))
  (hf:fp i=a' :: bs) (hx:H a'=some (.lst xs)) (o:Owns G H (Lf C fp ex) ys ts' bs') (hs:bs'.Sublist bs) :
  Rel C io (upd H a' (.lst ys)) σ (δ.set i (some (.nd ts'))) (fpu fp i (a' :: bs')) ex∧Stp false H δ fp (upd H a' (.lst ys)) (δ.set i (some (.nd ts'))) (fpu fp i (a' :: bs')):=by
 have nd:=R.nd i
 rw[hf]at nd
 have hn:=XX.mp nd
 have hm:a'∈fp i:=by rw[hf];exact .head _
 have ne':∀a,¬Foot fp a->a≠a':=λa h z=>h ⟨i,by rw[z];exact hm⟩
 have kp:∀b o,H b=some o->b≠a'->upd H a' (.lst ys) b=some o:=λb o e n=>by rw[Zu n];exact e
 have sub:∀a,a∈a' :: bs'->a∈fp i:=λa m=>by
  rw[hf]
  rcases Xk.mp m with rfl|m
  ·exact .head _
  ·exact .tail _ (hs.subset m)
 have o':Owns G (upd H a' (.lst ys)) (Lf C (fpu fp i (a' :: bs')) (exu ex [])) ys ts' bs':=by
  have f0:∀a,¬Foot fp a->¬Foot (fpu fp i (a' :: bs')) a:=λa h z=>by
   rcases z.of_u with z|⟨j,_,z⟩
   ·exact h ⟨i,sub a z⟩
   ·exact h ⟨j,z⟩
  have f1:∀a (zs:MuO),Lf C fp ex a->Rd H a zs.ho->Lf C (fpu fp i (a' :: bs')) (exu ex []) a∧Rd (upd H a' (.lst ys)) a zs.ho:=λa zs l q=>by
   refine⟨⟨f0 a l.1,λz=>l.2.1 (Zao.mp z),l.2.2⟩,?_⟩
   rcases q with q|⟨u,q⟩
   ·exact .inl (kp a _ q (ne' a l.1))
   ·exact .inr ⟨u,kp a _ q (ne' a l.1)⟩
  have f2:∀a (zs:ImO),H a=some zs.ho->upd H a' (.lst ys) a=some zs.ho:=λa zs q=>kp a _ q λz=>ImO.nl q (z▸hx)
  exact o.frame f1 f2 λa m zs q=>kp a _ q λz=>hn.1 (hs.subset (z▸m))
 have key:=R.change (new:=[]) (as':=a' :: bs') (t':=.nd ts') (H':=upd H a' (.lst ys)) hi hv (λb o e nb=>kp b o e λz=>nb (by rw[z];exact hm)) (λb e=>by
   by_cases q:b=a'
   ·subst q;rw[Zt]at e;cases e
   ·rwa[Zu q]at e) (.nd Zt o') (XX.mpr ⟨λm=>hn.1 (hs.subset m),hn.2.sublist hs⟩) (λa m=>.inl (sub a m)) (λa m=>nomatch m)
 exact⟨key.1.drop λa z=>.inl z,key.2⟩
end
variable {G:Xb}
section
variable {X:Cx}{io:List Nat}{p c p' c':Bool}{a b e:Expr}{ma m mi mj:MEt}{pos pp p2 apos cpos px:Pos}{K:Xb}{i:Nat}{x:Str}
theorem Rel.ownNd{C:MC G}{H:Hp}{σ:St}{δ:Zf}{fp:Fp}{ex:Addr->Prop}{ts:List OT}(R:Rel C io H σ δ fp ex)(hi:δ[i]? =some (some (.nd ts))) :
  ∃a' xs bs,σ[i]? =some (some (.ref a'))∧H a'=some (.lst xs)∧Owns G H (Lf C fp ex) xs ts bs∧fp i=a' :: bs:=by
 obtain⟨v,e,o⟩:=R.own i _ hi
 generalize hf:fp i=as at o
 cases o with
 | nd h r=>exact⟨_,_,_,e,h,r,rfl⟩
noncomputable def Zhs(i:Nat)(m:MEt):MSt:=λD δ=>match δ[i]? with
 | some (some (.nd _))=>m δ λr δ1=>match δ1[i]? with
  | some (some (.nd ts))=>ts.length<Xq∧D.nx (δ1.set i (some (.nd (ts ++ [.fz r.data]))))
  | _=>False
 | _=>False
theorem Zgm(i:Nat)(he:ME X io p true e m)(hN:X.N[i]? =some x:=by rfl)(hv:Vis X.env.scope x:=by first|exact Qp rfl|exact Qh (Qp rfl)|exact Qh (Qh rfl))(hd:(x==("__debug__" : Str))=false:=by decide)
  (hcd:(x==("__classdict__" : Str))=false:=by decide)
  (hbase:Uk (.Name x px) "append" X.env (eval (.Name x px) X.env)=eval (.Name x px) X.env:=by rfl)
  (hfew:((JL cpos (Xm [e] X.env)).all (λx=>!x.1)&&(backToKw cpos (keywordEach [] X.env)).all (λx=>x.1.isSome)
   &&decide ([e].length+([]:List Ub).length+(if([]:List Ub).isEmpty then 0 else 1)<30))=true:=by rfl)
  (hline:(apos.endLine==cpos.line)=true:=by rfl) (hs:Xm [e] X.env=(false,eval e X.env) :: Xm [] X.env:=by rfl) (hplain:(JL cpos (Xm [] X.env)).any (·.1)=false:=by rfl)
  (hsw:BZ (.Call (.Attribute (.Name x px) "append" apos) [e] [] cpos) none pos.line X.env=pure false:=by rfl) :
  MS X io (.Expr (.Call (.Attribute (.Name x px) "append" apos) [e] [] cpos) pos) (Zhs i m):=by
 obtain⟨_,A,s⟩:=he
 refine⟨_,Ziw (Zyf UL Uv Uu Zdo (pv i hN hv hd hcd) (Zag A Zfi hs) hbase hfew hline hs hplain) hsw,λC H σ δ fp ex D D' R h E=>?_⟩
 unfold Zhs at h
 split at h
 case h_2=>exact h.elim
 rename_i ts0 hi0
 obtain⟨a',xs0,bs0,hv0,hx0,_,_⟩:=R.ownNd hi0
 refine⟨_,hv0,.inl ⟨rfl,xs0,.inl (.inl hx0)⟩,?_⟩
 refine s C H σ δ fp ex _ _ R h λH1 v r δ1 fp1 new r1 h1=>?_
 split at h1
 case h_2=>exact h1.elim
 rename_i ts1 hi1
 have R1:=r1.base
 obtain⟨a1,xs1,bs1,hv1,hx1,o1,hf1⟩:=R1.ownNd hi1
 rw[hv0]at hv1
 cases hv1
 have q:=(r1.da R).wide (L':=Lf C fp1 ex) λa l _=>l rfl
 refine⟨a',xs1,v,rfl,rfl,hx1,by rw[o1.length];exact h1.1,?_⟩
 have o2:=o1.snoc (.fz q)
 obtain⟨R2,S2⟩:=R1.top hi1 hv0 hf1 hx1 o2 (by simp)
 exact E.nx _ σ _ _ R2 (r1.stp.kp.trans S2.kp) h1.2
noncomputable def Yap(i:Nat)(m mi:MEt):MSt:=λD δ=>m δ λr δ1=>match δ1[i]? with
 | some (some (.nd ts))=>mi δ1 λn _=>asI n.data λk=>match ixN ts.length k with
  | some j=>D.nx (δ1.set i (some (.nd (ts.set j (.fz r.data)))))
  | none=>False
 | _=>False
noncomputable def Z6l(i:Nat)(m mi mj:MEt):MSt:=λD δ=>m δ λr δ1=>match δ1[i]? with
 | some (some (.nd ts))=>mi δ1 λn _=>asI n.data λk=>match ixN ts.length k with
  | some j=>match ts[j]? with
   | some (.nd us)=>mj δ1 λn' _=>asI n'.data λk'=>match ixN us.length k' with
    | some j'=>D.nx (δ1.set i (some (.nd (ts.set j (.nd (us.set j' (.fz r.data)))))))
    | none=>False
   | _=>False
  | none=>False
 | _=>False
theorem SE.pureAfter{t:TE}{C:MC G}{H:Hp}{σ:St}{δ:Zf}{fp:Fp}{ex:Addr->Prop}{K':OT->Zf->Prop}{Q:VK}(s:SE G io true c t m)(R:Rel C io H σ δ fp ex)(h:m δ K')(k:∀H' v r,Rel C io H' σ δ fp ex->Same H H'->Da G H' (λa=>c=true->Lf C fp ex a) v r.data->K' r δ->Q v H'):t σ H Q :=
 s C H σ δ fp ex _ _ R h λH1 v r δ1 fp1 new r1 h1=>by
  obtain⟨e1,e2⟩:=r1.stp.env rfl
  have q:=r1.da R
  have R1:=r1.base
  rw[e1]at R1 h1
  rw[e2]at R1 q
  exact k H1 v r R1 (λb o e=>r1.stp.keep b o e (.inl rfl)) q h1
theorem Zwm(i:Nat)(he:ME X io p true e m)(hj:ME X io true c a mi)(hN:X.N[i]? =some x:=by rfl)(hv:Vis X.env.scope x:=by first|exact Qp rfl|exact Qh (Qp rfl)|exact Qh (Qh rfl))(hd:(x==("__debug__" : Str))=false:=by decide)
  (hcd:(x==("__classdict__" : Str))=false:=by decide)
  (hpg:∀{to ti:TE},PE X (.Name x px) to->PE X a ti->PG X (.Subscript (.Name x px) a pp) (Z8i to ti Zyi):=by intro _ _ A B;exact Zwk A B set_list)
  (hs:swapsWithSole [.Subscript (.Name x px) a pp] e pos.line X.env=pure false:=by rfl) (hw:swappedStores [.Subscript (.Name x px) a pp] e X.env=pure none:=by rfl)
  (h1:(Q6 [.Subscript (.Name x px) a pp] X.env).map (·.2)=[V9 (.Subscript (.Name x px) a pp) X.env]:=by rfl):MS X io (.Assign [.Subscript (.Name x px) a pp] e pos) (Yap i m mi):=by
 obtain⟨_,A,s⟩:=he
 obtain⟨_,B,sj⟩:=hj
 refine⟨_,Zwt A (hpg (pv i hN hv hd hcd) B) hs hw h1,λC H σ δ fp ex D D' R h E=>?_⟩
 refine s C H σ δ fp ex _ _ R h λH1 v r δ1 fp1 new r1 h1=>?_
 have R1:=r1.base
 have q:=(r1.da R).wide (L':=Lf C fp1 ex) λa l _=>l rfl
 split at h1
 case h_2=>exact h1.elim
 rename_i ts hi
 obtain⟨a',_,_,hv0,_⟩:=R1.ownNd hi
 refine⟨_,hv0,?_⟩
 refine sj.pureAfter R1 h1 λH2 w n R2 s2 q2 h2=>?_
 obtain⟨k,rfl,h2⟩:=q2.intInv h2
 split at h2
 case h_2=>exact h2.elim
 rename_i j hj
 obtain⟨a2,xs,bs,hv2,hx,o,hf⟩:=R2.ownNd hi
 rw[hv0]at hv2
 cases hv2
 obtain⟨bs',o',hs'⟩:=Owns.set (.fz (q.same s2)) j o
 refine⟨a',xs,k,j,rfl,rfl,hx,by rw[o.length];exact hj,?_⟩
 obtain⟨R3,S3⟩:=R2.top hi hv0 hf hx o' hs'
 exact E.nx _ σ _ _ R3 (r1.stp.kp.trans (Kp.trans ⟨λb o e _=>s2 _ _ e,λz=>(nomatch z),λa z=>.inl z,s2.al⟩ S3.kp)) h2
theorem Owns.deep{H:Hp}{L:Addr->Prop}{b':Addr}{ws ws':List V}{us us':List OT}(hb:H b'=Qm (HO.lst ws))(hL:¬L b')(hc:∀cs,Owns G H L ws us cs->∃cs',Owns G H L ws' us' cs'∧cs'.Sublist cs) :
  ∀{xs:List V} {ts:List OT} {as:List Addr} {j:Nat},Owns G H L xs ts as->as.Nodup->xs[j]? =Qm (.ref b')->ts[j]? =Qm (.nd us)->∃as',Owns G (upd H b' (.lst ws')) L xs (ts.set j (.nd us')) as'∧as'.Sublist as∧b'∈as
 | _,_,_,_,.nil,_,e,_=>by simp at e
 | _,_,_,0,.cons (as:=as) (bs:=bs) k t,nd,e,e'=>by
  simp at e e'
  subst e e'
  have nd':=QL.mp nd
  have kp:∀a o,a≠b'->H a=Qm o->upd H b' (.lst ws') a=Qm o:=λa o n q=>by rw[Zu n];exact q
  have f1:∀a (zs:MuO),L a->Rd H a zs.ho->L a∧Rd (upd H b' (.lst ws')) a zs.ho:=λa zs l q=>⟨l,by
   have na:a≠b':=λz=>hL (z▸l)
   rcases q with q|⟨u,q⟩
   ·exact .inl (kp a _ na q)
   ·exact .inr ⟨u,kp a _ na q⟩⟩
  have f2:∀a (zs:ImO),H a=Qm zs.ho->upd H b' (.lst ws') a=Qm zs.ho:=λa zs q=>kp a _ (λz=>ImO.nl q (z▸hb)) q
  cases k with
  | nd h r=>
   rename_i xs0 as0
   rw[hb]at h
   cases h
   have nd2:=XX.mp nd'.1
   obtain⟨cs',o',s'⟩:=hc _ r
   refine⟨b' :: cs' ++ bs,.cons (.nd Zt (o'.frame f1 f2 λa m zs q=>kp a _ (λz=>nd2.1 (s'.subset (z▸m))) q)) (t.frame f1 f2 λa m zs q=>kp a _ (λz=>nd'.2.2 b' (.head _) a m z.symm) q),List.Sublist.append_right (List.Sublist.cons₂ _ s') bs,Qu _ (.head _)⟩
 | _,_,_,j+1,.cons (as:=as) (bs:=bs) k t,nd,e,e'=>by
  have nd':=QL.mp nd
  obtain⟨as',o,s,m⟩:=Owns.deep hb hL hc (j:=j) t nd'.2.1 (by simpa using e) (by simpa using e')
  have nb:b'∉as:=λz=>nd'.2.2 b' z b' m rfl
  refine⟨as ++ as',.cons ?_ o,Uh s as,XM _ m⟩
  have kp:∀a o,a≠b'->H a=Qm o->upd H b' (.lst ws') a=Qm o:=λa o n q=>by rw[Zu n];exact q
  refine k.frame (λa zs l q=>⟨l,?_⟩) (λa zs q=>kp a _ (λz=>ImO.nl q (z▸hb)) q) λa m' zs q=>kp a _ (λz=>nb (z▸m')) q
  have na:a≠b':=λz=>hL (z▸l)
  rcases q with q|⟨u,q⟩
  ·exact .inl (kp a _ na q)
  ·exact .inr ⟨u,kp a _ na q⟩
theorem Zgg(i:Nat)(he:ME X io p true e m)(hj:ME X io true c a mi)(hk:ME X io true c' b mj)(hPa:Zic a)(hN:X.N[i]? =some x:=by rfl)(hv:Vis X.env.scope x:=by first|exact Qp rfl|exact Qh (Qp rfl)|exact Qh (Qh rfl))(hd:(x==("__debug__" : Str))=false:=by decide)
  (hcd:(x==("__classdict__" : Str))=false:=by decide)
  (hpg:∀{to ti:TE},PE X (.Subscript (.Name x px) a pp) to->PE X b ti->PG X (.Subscript (.Subscript (.Name x px) a pp) b p2) (Z8i to ti Zyi):=by intro _ _ A B;exact Zwk A B set_list)
  (hs:swapsWithSole [.Subscript (.Subscript (.Name x px) a pp) b p2] e pos.line X.env=pure false:=by rfl) (hw:swappedStores [.Subscript (.Subscript (.Name x px) a pp) b p2] e X.env=pure none:=by rfl)
  (h1:(Q6 [.Subscript (.Subscript (.Name x px) a pp) b p2] X.env).map (·.2)=[V9 (.Subscript (.Subscript (.Name x px) a pp) b p2) X.env]:=by rfl) :
  MS X io (.Assign [.Subscript (.Subscript (.Name x px) a pp) b p2] e pos) (Z6l i m mi mj):=by
 obtain⟨_,A,s⟩:=he
 obtain⟨_,B,sj⟩:=hj
 obtain⟨_,B2,sk⟩:=hk
 refine⟨_,Zwt A (hpg (Zxn (Zs7 rfl) (pv i hN hv hd hcd) B hPa) B2) hs hw h1,λC H σ δ fp ex D D' R h E=>?_⟩
 refine s C H σ δ fp ex _ _ R h λH1 v r δ1 fp1 new r1 h1=>?_
 have R1:=r1.base
 have q:=(r1.da R).wide (L':=Lf C fp1 ex) λa l _=>l rfl
 split at h1
 case h_2=>exact h1.elim
 rename_i ts hi
 obtain⟨a',_,_,hv0,_⟩:=R1.ownNd hi
 refine⟨_,hv0,?_⟩
 refine sj.pureAfter R1 h1 λH2 w n R2 s2 q2 h2=>?_
 obtain⟨k,rfl,h2⟩:=q2.intInv h2
 split at h2
 case h_2=>exact h2.elim
 rename_i j hj
 split at h2
 case h_2=>exact h2.elim
 rename_i us hus
 -- the row
 obtain⟨a2,xs2,bs2,hv2,hx2,o2,hf2⟩:=R2.ownNd hi
 rw[hv0]at hv2
 cases hv2
 obtain⟨xr,cr,hxr,orow,_⟩:=o2.get hus
 obtain⟨b',rfl⟩:∃b',xr=V.ref b':=by
  cases orow with
  | nd h r=>exact⟨_,rfl⟩
 refine⟨a',xs2,k,V.ref b',rfl,rfl,.inl (.inl hx2),?_,?_⟩
 ·unfold atI
  rw[o2.length,hj]
  exact hxr
 refine sk.pureAfter R2 h2 λH3 w' n' R3 s3 q3 h3=>?_
 obtain⟨k',rfl,h3⟩:=q3.intInv h3
 split at h3
 case h_2=>exact h3.elim
 rename_i j' hj'
 obtain⟨a3,xs3,bs3,hv3,hx3,o3,hf3⟩:=R3.ownNd hi
 rw[hv0]at hv3
 cases hv3
 have exs:xs3=xs2:=by
  have:=s3 _ _ hx2
  rw[hx3]at this
  cases this;rfl
 subst exs
 obtain⟨xr3,cr3,hxr3,orow3,hsub3⟩:=o3.get hus
 rw[hxr]at hxr3
 cases hxr3
 have nd3:=R3.nd i
 rw[hf3]at nd3
 have hn3:=XX.mp nd3
 cases orow3 with
 | nd hb r3=>
  rename_i ws3 bs4
  have hbm:b'∈bs3:=hsub3.subset (.head _)
  have hbf:b'∈fp1 i:=by rw[hf3];exact .tail _ hbm
  have hLb:¬Lf C fp1 ex b':=λl=>l.1 ⟨i,hbf⟩
  obtain⟨as',oo,ss,_⟩:=Owns.deep (ws':=ws3.set j' v) (us':=us.set j' (.fz r.data)) hb hLb (λcs hcs=>Owns.set (.fz ((q.same s2).same s3)) j' hcs) o3 hn3.2 hxr hus
  refine⟨b',ws3,k',j',rfl,rfl,hb,by rw[r3.length];exact hj',?_⟩
  have hba:a'≠b':=λz=>hn3.1 (z▸hbm)
  -- the change
  have sub:∀a,a∈a' :: as'->a∈fp1 i:=λa m=>by
   rw[hf3]
   rcases Xk.mp m with rfl|m
   ·exact .head _
   ·exact .tail _ (ss.subset m)
  have kp:∀b o,H3 b=some o->b≠b'->upd H3 b' (.lst (ws3.set j' v)) b=some o:=λb o e n=>by rw[Zu n];exact e
  have lw:∀a,Lf C fp1 ex a->upd H3 b' (.lst (ws3.set j' v)) a≠none->Lf C (fpu fp1 i (a' :: as')) (exu ex []) a:=λa l _=>⟨λz=>by
   rcases z.of_u with z|⟨j,_,z⟩
   ·exact l.1 ⟨i,sub a z⟩
   ·exact l.1 ⟨j,z⟩,λz=>l.2.1 (Zao.mp z),l.2.2⟩
  obtain⟨R4,S4⟩:=R3.change (new:=[]) (as':=a' :: as') (t':=.nd (ts.set j (.nd (us.set j' (.fz r.data))))) (H':=upd H3 b' (.lst (ws3.set j' v))) hi hv0 (λb o e nb=>kp b o e λz=>nb (by rw[z];exact hbf)) (λb e=>by
    by_cases q:b=b'
    ·subst q;rw[Zt]at e;cases e
    ·rwa[Zu q]at e) (.nd (by rw[Zu hba];exact hx3) (oo.wide lw)) (XX.mpr ⟨λm=>hn3.1 (ss.subset m),hn3.2.sublist ss⟩) (λa m=>.inl (sub a m)) (λa m=>nomatch m)
  have k23:Kp H1 fp1 H3 fp1:=⟨λb o e _=>s3 _ _ (s2 _ _ e),λz=>(nomatch z),λa z=>.inl z,λb e=>s2.al b (s3.al b e)⟩
  exact E.nx _ σ _ _ (R4.drop λa z=>.inl z) (r1.stp.kp.trans (k23.trans S4.kp)) h3
end
variable {G:Xb}
mutual
noncomputable def Zbu:OT->Bool
 | .fz d=>J7 d
 | .nd ts=>Zet ts
 | .tp ts=>Zet ts
 | .dc _ _ _=>false
noncomputable def Zet:List OT->Bool
 | []=>true
 | t :: ts=>Zbu t&&Zet ts
end
theorem Own.flat2{H:Hp}{L L':Addr->Prop}:(∀{v:V} {t:OT} {as:List Addr},Own G H L v t as->Zbu t=true->Own G H L' v t as)∧∀{v:List V} {t:List OT} {as:List Addr},Owns G H L v t as->Zet t=true->Owns G H L' v t as :=
 Own.both (λq h=>.fz (q.flat (by rw[Zbu]at h;exact h))) (λe r h=>.nd e (r (by rw[Zbu]at h;exact h))) (λe r h=>.tp e (r (by rw[Zbu]at h;exact h))) (λ_ _ _ h=>by rw[Zbu]at h;cases h) (λ_=>.nil) (λk r h=>by rw[Zet,XC]at h;exact .cons (k h.1) (r h.2))
theorem Own.flat{H:Hp}{L L':Addr->Prop}{v:V}{t:OT}{as:List Addr}(h:Own G H L v t as)(f:Zbu t=true):Own G H L' v t as:=Own.flat2.1 h f
theorem Zdw:∀(ts:List OT),Zet ts=true↔∀t∈ts,Zbu t=true
 | []=>by simp[Zet]
 | t :: ts=>by simp[Zet,Zdw ts]
section
variable {X:Cx}{io:List Nat}{p c:Bool}{e:Expr}{m:MEt}
theorem Rel.freeze{C:MC G}{H:Hp}{σ:St}{δ:Zf}{fp:Fp}{ex:Addr->Prop}{i:Nat}{t:OT}(R:Rel C io H σ δ fp ex)(hio:i∉io)(hi:δ[i]? =some (some t)):Rel C io H σ (δ.set i (some (.fz t.data))) (fpu fp i []) ex:=by
 have hil:i<δ.length:=(Xj.mp hi).1
 have sub:∀j a,a∈fpu fp i [] j->j≠i∧a∈fp j:=λj a m=>by
  by_cases ej:j=i
  ·subst ej;rw[Zx]at m;exact nomatch m
  ·rw[Z9 ej]at m;exact⟨ej,m⟩
 have lw:∀a,Lf C fp ex a->Lf C (fpu fp i []) ex a:=λa l=>⟨λ⟨j,z⟩=>l.1 ⟨j,(sub j a z).2⟩,l.2.1,l.2.2⟩
 have ln:∀a∈fp i,Lf C (fpu fp i []) ex a:=λa m=>⟨λ⟨j,z⟩=>(sub j a z).1 (R.dj j i a (sub j a z).2 m),R.dx i a m,.inr (by
  rcases R.new i a m with z|z
  ·exact absurd z.1 hio
  ·exact z)⟩
 refine⟨by rw[JK];exact R.len,λj t' e=>?_,λj h=>?_,λj=>?_,λj k a h1 h2=>R.dj j k a (sub j a h1).2 (sub k a h2).2,λj a h z=>R.dx j a (sub j a h).2 z,R.xa,R.fr,R.al,λj a h=>R.new j a (sub j a h).2,R.io⟩
 ·by_cases ej:j=i
  ·subst ej
   rw[Qn hil]at e
   cases e
   obtain⟨v,e1,o⟩:=R.own j t hi
   exact⟨v,e1,by rw[Zx];exact .fz (o.da (λa l _=>lw a l) ln)⟩
  ·rw[XR (JP ej)]at e
   obtain⟨w,e1,o⟩:=R.own j t' e
   exact⟨w,e1,by rw[Z9 ej];exact o.wide λa l _=>lw a l⟩
 ·by_cases ej:j=i
  ·subst ej;rw[Zx]
  ·rw[Z9 ej]
   exact R.emp j λt' z=>h t' (by rw[XR (JP ej)];exact z)
 ·by_cases ej:j=i
  ·subst ej;rw[Zx];exact .nil
  ·rw[Z9 ej];exact R.nd j
noncomputable def Zht(i:Nat)(u:MSt):MSt:=λD δ=>match δ[i]? with|some (some t)=>u D (δ.set i (some (.fz t.data)))|_=>False
theorem Zqt{st:Stmt}{u:MSt}(i:Nat)(h:MS X io st u)(hio:i∉io:=by decide):MS X io st (Zht i u):=by
 obtain⟨_,A,s⟩:=h
 exact⟨_,A,λC H σ δ fp ex D D' R h E=>by
  unfold Zht at h
  split at h
  case h_2=>exact h.elim
  rename_i t hi
  refine s C H σ _ _ ex D D' (R.freeze hio hi) h (E.shift ⟨λb o e _=>e,λz=>(nomatch z),λa z=>?_,λb e=>e⟩)
  rcases z.of_u with z|⟨j,_,z⟩
  ·exact nomatch z
  ·exact .inl ⟨j,z⟩⟩
end
variable {G:Xb}
noncomputable def Z47(ds:List Xa)(k:OT->Prop):Prop:=∃ns:List Int,ds=[.list (ns.map Xo)]∧ns.length≤63∧k (.fz (.bool true))
theorem Z5y{H:Hp}{a:Addr}{ns:List Int}{E:XK}(hl:ns.length≤63)(h:SqL G H a (ns.map V.int)):spD G Z47 [.ref a] H (λv _=>v= .bl true) E:=by
 refine⟨λ_=>True,[.list (ns.map Xo)],λr=>r= .fz (.bool true),.cons ?_ .nil,⟨ns,rfl,hl,rfl⟩,λr v H' new kr s o _ _=>?_⟩
 ·rcases h with h|h
  ·exact .lst trivial h (.ints ns)
  ·exact .scr h
 ·subst kr
  cases o with
  | fz q=>cases q;rfl
section
variable {P:X6}{w:Qv}{mg:Str->Option Xc}{base:Heap}{CX:CXT}{n:Nat}{f:Addr}{fd:XN}{ps:List Str}
theorem Da.ints_sq{H:Hp}{L:Addr->Prop}{v:V}{ns:List Int}(h:Da G H L v (.list (ns.map Xo))):∃a,v= .ref a∧SqL G H a (ns.map V.int):=by
 generalize e:QH (ns.map Xo)=d at h
 cases h with
 | lst l e1 r=>
  cases e
  rw[r.int_inv]at e1
  exact⟨_,rfl,.inl e1⟩
 | scr k=>
  rename_i a ms
  have e':=PyData.list.inj e
  have:ns=ms:=(List.map_inj_right (λ_ _ h=>by cases h;rfl)).mp e'
  subst this
  exact⟨_,rfl,k.sq⟩
 | _=>cases e
end
@[simp] theorem Zdl:OT.datas []=[]:=rfl
@[simp] theorem Zcf(t:OT)(ts:List OT):OT.datas (t :: ts)=t.data :: OT.datas ts:=rfl
theorem Zja{α:Type}{xs:List α}{i:Int}(h0:0≤i):atI xs i=xs[i.toNat]?:=by
 unfold atI ixN
 rw[if_pos h0]
 split
 ·rfl
 ·rename_i h
  symm
  exact QG.mpr (by omega)
theorem Zjq{α:Type}{xs:List α}{i:Nat}:atI xs (i:Int)=xs[i]?:=by
 rw[Zja (by omega),Ba]
@[simp] theorem Ydk{α:Type}(x:α)(xs:List α):atI (x :: xs) 0=some x:=by
 rw[Zja (by decide)];rfl
@[simp] theorem Ydi{α:Type}(x y:α)(xs:List α):atI (x :: y :: xs) 1=some y:=by
 rw[Zja (by decide)];rfl
@[simp] theorem Yc8{α:Type}(x y z:α)(xs:List α):atI (x :: y :: z :: xs) 2=some z:=by
 rw[Zja (by decide)];rfl
@[simp] theorem Z63(ds:List Xa)(i:Int):ixD (.list ds) (.int i)=atI ds i:=rfl
@[simp] theorem Z8y(ds:List Xa)(i:Int):ixD (.tuple ds) (.int i)=atI ds i:=rfl
@[simp] theorem Z2w(ds:List Xa):Zs9 (.list ds)=some ds.length:=rfl
@[simp] theorem Z6r(ds:List Xa):Zs9 (.tuple ds)=some ds.length:=rfl
noncomputable def Zkk(r:List Rat):Xa:=.list (r.map frD)
noncomputable def tbD(T:List (List Rat)):Xa:=.list (T.map Zkk)
noncomputable def Z7p(r:List Rat):OT:=.nd (r.map λq=>.fz (frD q))
noncomputable def tbT(T:List (List Rat)):OT:=.nd (T.map Z7p)
@[simp] theorem Zo5(r:List Rat):(Z7p r).data=Zkk r:=by
 unfold Z7p Zkk
 rw[OT.data_nd,Qx]
 rfl
@[simp] theorem Z69(T:List (List Rat)):(tbT T).data=tbD T:=by
 unfold tbT tbD
 rw[OT.data_nd,Qx]
 exact congrArg QH (Xv λr _=>Zo5 r)
noncomputable def dd(T:List (List Rat))(i j:Nat):Rat:=(T.getD i []).getD j 0
@[simp] theorem Z8t(T:List (List Rat)):Zs9 (tbD T)=some T.length:=by unfold tbD Zs9;simp
@[simp] theorem Z60(r:List Rat):Zs9 (Zkk r)=some r.length:=by unfold Zkk Zs9;simp
@[simp] theorem Z8l(q:Rat):J7 (frD q)=true:=by unfold frD fr;simp[J7,Zkf]
theorem Zp5{t b:Int}(ht:0≤t)(hb:0<b):0≤Qa t b:=Rat.divInt_nonneg ht (by omega)
theorem Zrx{n a:Nat}(h:a<n):ixN n (a:Int)=some a:=by
 unfold ixN
 rw[if_pos (by omega),if_pos (by omega)];simp
theorem Zkj:∀(r:List Rat),Jm (r.map frD)=true
 | []=>rfl
 | q :: r=>by
  show Jm (frD q :: r.map frD)=true
  rw[Jm,Zkj r];rfl
theorem Zjc:∀(T:List (List Rat)),Jm (T.map Zkk)=true
 | []=>rfl
 | r :: T=>by
  show Jm (Zkk r :: T.map Zkk)=true
  rw[Jm,Zjc T,U5]
  unfold Zkk
  rw[Yl]
  exact Zkj r
theorem Zm6(T:List (List Rat)):Yl (tbD T)=true:=by
 unfold tbD
 rw[Yl]
 exact Zjc T
theorem Ztr{d:Xa}(h:Yl d=true):JF d d=true:=Zvb h h rfl
structure Sh(n:Nat)(d:Xa):Prop where
 lay:Bw d=true
 dep:PyData.depth d≤n
theorem Sh.shp{n:Nat}{d:Xa}(h:Sh n d)(hn:n≤64:=by decide):Z6n d:=⟨by
 show(Bw d&&decide (PyData.depth d≤64))=true
 rw[h.lay,decide_eq_true (Qy h.dep hn)];rfl⟩
theorem Zj5{n:Nat}:∀{ds:List Xa},(∀d∈ds,Sh n d)->JQ ds=true∧PyData.depthAll ds≤n
 | [],_=>⟨by rw[JQ],by rw[PyData.depthAll];exact QQ _⟩
 | d :: ds,h=>by
  obtain⟨h1,h2⟩:=Zj5 λe m=>h e (.tail _ m)
  have h3:=h d (.head _)
  refine⟨by rw[JQ,h3.lay,h1];rfl,?_⟩
  rw[PyData.depthAll]
  exact Nat.max_le.mpr ⟨h3.dep,h2⟩
theorem Zeg{n:Nat}{ds:List Xa}(h:∀d∈ds,Sh n d):Sh (n+1) (.list ds) :=
 ⟨by rw[Bw];exact(Zj5 h).1,by rw[PyData.depth];exact Nat.succ_le_succ (Zj5 h).2⟩
theorem Zou{n:Nat}{ds:List Xa}(h:∀d∈ds,Sh n d):Sh (n+1) (.tuple ds) :=
 ⟨by rw[Bw];exact(Zj5 h).1,by rw[PyData.depth];exact Nat.succ_le_succ (Zj5 h).2⟩
theorem Zpz(i:Int):Sh 0 (.int i):=⟨rfl,Nat.le_of_eq rfl⟩
theorem Z9s(q:Rat):Sh 1 (frD q):=Zou λd m=>by
 simp at m
 rcases m with rfl|rfl<;>exact Zpz _
theorem Z2a(r:List Rat):Sh 2 (Zkk r):=Zeg λd m=>by
 obtain⟨q,_,rfl⟩:=XF.mp m
 exact Z9s q
theorem Z55(T:List (List Rat)):Sh 3 (tbD T):=Zeg λd m=>by
 obtain⟨q,_,rfl⟩:=XF.mp m
 exact Z2a q
section
variable {X:Cx}{pins:List (Addr×Obj)}{σ:St}{H:Hp}{s:Xe}
theorem Inv.turnTup{h':Heap}{ch:List Addr}{T:Addr}{xs:List V}{its:List Xc}(I:Inv X pins σ H s)(f:∀b∈ch,Zhv X pins H b)(k:∀b o,b∉ch->s.heap.get? b=some o->h'.get? b=some o)
  (th:∀b∈ch,∃o,h'.get? b=some o) (hT:s.heap.objs.size≤T) (hz:xs.length≤Xq) (r:Vals xs its) (ht:IsTup h' T its.toArray):Inv X pins σ (upd H T (.tup xs)) { s with heap:=h' }:=by
 have hn:H T=none:=I.hok.fresh hT
 have nch:∀b u,H b=some u->b∉ch:=λb u e z=>by rw[(f b z).1]at e;cases e
 have new:ObjOk X.prog X.w (upd H T (.tup xs)) h' T (.tup xs):=⟨hz,its,r,ht⟩
 refine I.call (ch:=ch) (g':=s.gens) (d':=s.drawn) (t':=s.toks) ⟨λb o e _ _ hc=>k b o hc e,λb o e _ _ hc=>⟨o.slots,k b o hc e⟩,λb o e n _=>?_,λb o e hc=>?_,λb ys e=>?_,λb o u e=>?_,λb ps e=>?_⟩ (λb u e=>?_) I.bare (λb hb=>?_)
 ·rw[Zu (λz=>by rw[z]at e;exact absurd (Xw e) (Nat.not_lt.mpr hT))];exact n
 ·exact⟨o,k b o hc e⟩
 ·rw[Zu (Yy e hn)];exact e
 ·rw[Zu (Yy e hn)];exact e
 ·exact⟨#[],by rw[Zu (Yy e hn),e];simp⟩
 ·by_cases hb:b=T
  ·subst hb;rw[Zt]at e;cases e;exact new
  ·rw[Zu hb]at e
   refine(I.hok b u e).stay (λc v hc q=>k c v ?_ q) (λc q=>by rw[Zu (Yy q hn)];exact q) λc ys q=>by rw[Zu (Yy q hn)];exact q
   rcases hc with rfl|hc
   ·exact nch _ _ e
   ·exact nch _ _ hc
 ·obtain⟨f0,f1,f2,f3,f4,f5⟩:=f b hb
  exact⟨f3,f1,f4,f5⟩
theorem Inv.turnAll{h':Heap}{ch:List Addr}(I:Inv X pins σ H s)(f:∀b∈ch,Zhv X pins H b)(k:∀b o,b∉ch->s.heap.get? b=some o->h'.get? b=some o):Inv X pins σ H { s with heap:=h' }:=by
 have nch:∀b u,H b=some u->b∉ch:=λb u e z=>by rw[(f b z).1]at e;cases e
 refine I.call (ch:=ch) (g':=s.gens) (d':=s.drawn) (t':=s.toks) ⟨λb o e _ _ hc=>k b o hc e,λb o e _ _ hc=>⟨o.slots,k b o hc e⟩,λb o e n _=>n,λb o e hc=>⟨o,k b o hc e⟩,λb ys e=>e,λb o u e=>e,λb ps e=>⟨#[],by rw[e];simp⟩⟩ (λb u e=>?_) I.bare (λb hb=>?_)
 ·refine(I.hok b u e).stay (λc v hc q=>k c v ?_ q) (λc q=>q) λc ys q=>q
  rcases hc with rfl|hc
  ·exact nch _ _ e
  ·exact nch _ _ hc
 ·obtain⟨f0,f1,f2,f3,f4,f5⟩:=f b hb
  exact⟨f3,f1,f4,f5⟩
end
variable {G:Xb}
section
variable {X:Cx}{io:List Nat}{p c:Bool}{e a b tg:Expr}{m:MEt}{mr:MAt}
theorem Rel.keptList{C:MC G}{H:Hp}{σ:St}{δ:Zf}{fp:Fp}{ex:Addr->Prop}{v:V}{ds:List Xa}(R:Rel C io H σ δ fp ex)(q:Da G H (λa=>c=true->Lf C fp ex a) v (.list ds)) :
  ∃a xs,v= .ref a∧∀H':Hp,(∀b o,H b=some o->(c=false∨¬Foot fp b)->H' b=some o)->SqL G H' a xs∧Das G H' (λa=>c=true->(Lf C fp ex a∧H a≠none)) xs ds:=by
 generalize hd:QH ds=d at q
 cases q with
 | lst l e r=>
  cases hd
  rename_i a0 xs0
  refine⟨a0,xs0,rfl,λH' kp=>?_⟩
  obtain⟨f1,f2⟩:=R.kept kp
  exact⟨.inl (f1 _ (.lst _) l e).2,r.frame f1 f2⟩
 | scr k=>
  rename_i a ns
  have:=PyData.list.inj hd
  subst this
  exact⟨a,_,rfl,λH' _=>⟨k.sq,.ints ns⟩⟩
 | _=>cases hd
noncomputable def Zmm(as bs:List Xa):List Xa:=(as.zip bs).map λx=>.tuple [x.1,x.2]
theorem Zsz{as bs:List Xa}{i:Nat}{d:Xa}(h:(Zmm as bs)[i]? =some d):∃x y,as[i]? =some x∧bs[i]? =some y∧d= .tuple [x,y]:=by
 unfold Zmm at h
 rw[Xn]at h
 cases e:(as.zip bs)[i]? with
 | none=>rw[e]at h;cases h
 | some z=>
  rw[e]at h
  cases h
  obtain⟨h1,h2⟩:=List.getElem?_zip_eq_some.mp e
  exact⟨z.1,z.2,h1,h2,rfl⟩
theorem Zrq{as bs:List Xa}{i:Nat}(h:(Zmm as bs)[i]? =none):as.length≤i∨bs.length≤i:=by
 unfold Zmm at h
 have:=QG.mp h
 simp at this
 omega
@[simp] theorem Zyc(as bs:List Xa):(Zmm as bs).length=min as.length bs.length:=by simp[Zmm]
end
variable {G:Xb}
section
variable {X:Cx}{io:List Nat}{c1 c2 c3:Bool}{a b e:Expr}{ma mb mc:MEt}{pos:Pos}{f g:Int->Int->Bool}
end
theorem Zed:∀{ns:List Int} {its:List Xc},Vals (ns.map V.int) its->∃xs:List (Int×Tok),its=xs.map (λp=>U8 p.1 p.2)∧xs.map (·.1)=ns
 | [],_,.nil=>⟨[],rfl,rfl⟩
 | n :: ns,_,.cons r rs=>by
  obtain⟨t,e⟩:=(show∃t,_=U8 n t from r)
  obtain⟨xs,h1,h2⟩:=Zed rs
  exact⟨(n,t) :: xs,by rw[e,h1];rfl,by rw[Qs,h2]⟩
section
variable {X:Cx}{io:List Nat}{p c:Bool}{a b e:Expr}{ma mb m:MEt}{pos pl:Pos}
end
structure Apart(X:Cx)(pins:List (Addr×Obj))(H:Hp)(b:Addr):Prop where
 fr:H b=none
 new:X.s₀.heap.get? b=none
 loc:b≠X.env.locals
 cel:∀x c,X.env.cells.lookup x=some c->c≠b
 pin:∀p∈X.pn ++ pins,p.1≠b
section
variable {X:Cx}{pins:List (Addr×Obj)}{σ:St}{H H':Hp}{s:Xe}{h':Heap}{b a C:Addr}
noncomputable def Fl(ap:Addr->Prop)(C a:Addr)(fl:Xc)(h:Heap):Prop:=∃a0 oe vs T oT ts,h.get? a=some oe∧(oe.cls= .ref C∧vs[0]? =some a0)∧oe.data= .fields vs∧vs[1]? =some (.ref T)∧T≠a∧h.get? T=some oT∧oT.data= .fields ts∧ts[3]? =some fl∧ap a∧ap T
noncomputable def Fl0(ap:Addr->Prop)(C a:Addr)(h:Heap):Prop:=∃a0 oe vs,h.get? a=some oe∧(oe.cls= .ref C∧vs[0]? =some a0)∧oe.data= .fields vs∧vs[1]? =some .none∧ap a
noncomputable def FlA(ap:Addr->Prop)(fl:Xc)(C a:Addr)(h:Heap):Prop:=Fl ap C a .none h∨Fl0 ap C a h∨Fl ap C a fl h
section
variable {M:Model}{A:Qo}{E:Xc->Xe->Prop}{Q:Unit->Xe->Prop}{ch:List Addr}
end
end
noncomputable def Zst(K:Xb)(C:Addr):Prop:=PySem.W.excIn K C [.type "ValueError",.type "Exception",.type "BaseException",.type "object"] "ValueError.__new__"=true
noncomputable abbrev MXt:=Zf->(Addr->Zf->Prop)->Prop
noncomputable def XW(X:Cx)(C:MC X.K)(io:List Nat)(pins:List (Addr×Obj))(ex:Addr->Prop)(H:Hp)(fp:Fp)(k:Addr->Zf->Prop)(e:Xc)(s':Xe):Prop :=
 ∃a cl σ' H' δ' fp',e= .ref a∧Inv X pins σ' H' s'∧FlA (Apart X pins H') (rawInt X.env.locals) cl a s'.heap∧Rel C io H' σ' δ' fp' ex∧Kp H fp H' fp'∧k cl δ'
noncomputable def XS(X:Cx)(io:List Nat)(st:Stmt)(m:MXt):Prop:=∀(C:MC X.K) (pins:List (Addr×Obj)) (s:Xe) (σ:St) (H:Hp) (δ:Zf) (fp:Fp) (ex:Addr->Prop) (k:Addr->Zf->Prop),Inv X pins σ H s->Rel C io H σ δ fp ex->m δ k ->
 X5 (Qd X.prog X.w) X.A (exec st X.env) (λ_ _=>False) (XW X C io pins ex H fp k) s
noncomputable def XSs(X:Cx)(io:List Nat)(sts:List Stmt)(m:MXt):Prop:=∀(C:MC X.K) (pins:List (Addr×Obj)) (s:Xe) (σ:St) (H:Hp) (δ:Zf) (fp:Fp) (ex:Addr->Prop) (k:Addr->Zf->Prop),Inv X pins σ H s->Rel C io H σ δ fp ex->m δ k ->
 X5 (Qd X.prog X.w) X.A (execs sts X.env) (λ_ _=>False) (XW X C io pins ex H fp k) s
section
variable {X:Cx}{io:List Nat}{p c:Bool}{e:Expr}{es:List Expr}{mr:MAt}{m:MXt}{pos:Pos}{st:Stmt}{sts a b:List Stmt}{u:MSt}{w v:MXt}{mt:MTt}{i:Nat}{x:Str}
end
section
variable {P:X6}{w:Qv}{K:Xb}{mg:Str->Option Xc}{base:Heap}
end
section
variable {X:Cx}{io:List Nat}{p c:Bool}{e:Expr}{es:List Expr}{mr:MAt}{pos pp:Pos}{k:Nat}{f:Addr}{fd:XN}{ps:List Str}{x:Str}
end
section
variable {X:Cx}{pins:List (Addr×Obj)}{σ:St}{H:Hp}{s:Xe}{a C:Addr}
noncomputable abbrev Cx.suite(X:Cx)(a:Addr):Cx:={ X with A:=X.A.mark (some (.ref a)),calm:=false }
end
theorem Rel.forget{G:Xb}{C:MC G}{io:List Nat}{H:Hp}{σ:St}{δ:Zf}{fp:Fp}{ex:Addr->Prop}{i:Nat}(R:Rel C io H σ δ fp ex)(hio:i∉io):∃fp',Rel C io H (σ.set i none) (δ.set i none) fp' ex∧Kp H fp H fp':=by
 have get:∀j (t':OT),(δ.set i none)[j]? =some (some t')->j≠i∧δ[j]? =some (some t'):=λj t' e=>by
  by_cases ej:j=i
  ·subst ej
   have hl:j<δ.length:=by simpa using(Xj.mp e).1
   rw[Qn hl]at e;cases e
  ·rw[XR (JP ej)]at e;exact⟨ej,e⟩
 have sub:∀j a,a∈fpu fp i [] j->j≠i∧a∈fp j:=λj a m=>by
  by_cases ej:j=i
  ·subst ej;rw[Zx]at m;exact nomatch m
  ·rw[Z9 ej]at m;exact⟨ej,m⟩
 have lw:∀a,Lf C fp ex a->Lf C (fpu fp i []) ex a:=λa l=>⟨λ⟨j,z⟩=>l.1 ⟨j,(sub j a z).2⟩,l.2⟩
 refine⟨fpu fp i [],⟨by rw[JK,JK];exact R.len,λj t' e=>?_,λj h=>?_,λj=>?_,λj k a h1 h2=>R.dj j k a (sub j a h1).2 (sub k a h2).2,λj a h z=>R.dx j a (sub j a h).2 z,R.xa,R.fr,R.al,λj a h=>R.new j a (sub j a h).2,λj h=>?_⟩,λb o e _=>e,λz=>(nomatch z),λa ⟨j,z⟩=>.inl ⟨j,(sub j a z).2⟩,λb e=>e⟩
 ·obtain⟨ej,e⟩:=get j t' e
  obtain⟨w,e1,o⟩:=R.own j t' e
  exact⟨w,by rw[XR (JP ej)];exact e1,by rw[Z9 ej];exact o.wide λa l _=>lw a l⟩
 ·by_cases ej:j=i
  ·subst ej;rw[Zx]
  ·rw[Z9 ej]
   exact R.emp j λt' z=>h t' (by rw[XR (JP ej)];exact z)
 ·by_cases ej:j=i
  ·subst ej;rw[Zx];exact .nil
  ·rw[Z9 ej];exact R.nd j
 ·rw[XR (λz=>hio (by rw[z];exact h))];exact R.io j h
theorem Zvm(b:Bool)(k:Bool->Prop):asB (.bool b) k=k b:=rfl
inductive Z9v:V->Xc->Prop where
 | own (D:Addr):Z9v (.ref D) (.ref D)
 | ty (T:String):Z9v (.ty T) (.type T)
inductive ClsVs:List V->List Xc->Prop where
 | nil:ClsVs [] []
 | cons {v:V} {c:Xc} {vs:List V} {cs:List Xc}:Z9v v c->ClsVs vs cs->ClsVs (v :: vs) (c :: cs)
theorem ClsVs.length:∀{vs:List V} {cs:List Xc},ClsVs vs cs->vs.length=cs.length
 | _,_,.nil=>rfl
 | _,_,.cons _ t=>by simp[t.length]
section
variable {X:Cx}{io:List Nat}{p c:Bool}{a b:Expr}{ma:MEt}{pos pp p2:Pos}
end
end L2
namespace L2
open PySem PySem.Spec PyProof.Rows PySem.P
section
variable {prog:X6}{w:Qv}{A:Qo}{E:Xc->Xe->Prop}{s:Xe}{e t0 C:Addr}{o:Obj}{vs:Array Xc}{K:Xb}{m:Str}{tk:Tok}
structure Ycz(s:Xe)(e C t0:Addr)(m:Str)(tk:Tok):Prop where
 ob:∃o vs,s.heap.get? e=some o∧o.cls= .ref C∧o.data= .fields vs∧vs[0]? =some (.ref t0)
 tx:s.heap.TupAt t0 [.str m tk]
end
section
variable {X:Cx}{C:Addr}{x j:Str}{jk:Nat}{np cpos pos kp p1:Pos}
end
end L2
namespace L2
open PySem PySem.Spec PyProof.Rows
variable {G:Xb}
theorem Rel.topN{io:List Nat}{C:MC G}{H:Hp}{σ:St}{δ:Zf}{fp:Fp}{ex:Addr->Prop}{i:Nat}{ts ts':List OT}{a':Addr}{xs ys:List V}{bs bs' new:List Addr}(R:Rel C io H σ δ fp (exu ex new))(hi:δ[i]? =some (some (.nd ts)))(hv:σ[i]? =some (some (.ref a')))
  (hf:fp i=a' :: bs) (hx:H a'=some (.lst xs)) (o:Owns G H (Lf C fp (exu ex new)) ys ts' bs') (hs:∀a∈bs',a∈bs∨a∈new) (ndb:(a' :: bs').Nodup) (hn:∀a∈new,C.H₀ a=none∧¬ex a) :
  Rel C io (upd H a' (.lst ys)) σ (δ.set i (some (.nd ts'))) (fpu fp i (a' :: bs')) ex∧∀a,Foot (fpu fp i (a' :: bs')) a->Foot fp a∨a∈new:=by
 have hil:i<δ.length:=(Xj.mp hi).1
 have hm:a'∈fp i:=by rw[hf];exact .head _
 have kp:∀b o,H b=some o->b≠a'->upd H a' (.lst ys) b=some o:=λb o e n=>by rw[Zu n];exact e
 have mem:∀a,a∈a' :: bs'->a∈fp i∨a∈new:=λa m=>by
  rw[hf]
  rcases Xk.mp m with rfl|m
  ·exact .inl (.head _)
  ·exact(hs a m).imp (λz=>.tail _ z) id
 have sub:∀a,Foot (fpu fp i (a' :: bs')) a->Foot fp a∨a∈new:=λa z=>by
  rcases z.of_u with z|⟨j,_,z⟩
  ·exact(mem a z).imp (λz=>⟨i,z⟩) id
  ·exact .inl ⟨j,z⟩
 have lw:∀a,Lf C fp (exu ex new) a->Lf C (fpu fp i (a' :: bs')) ex a:=λa l=>⟨λz=>(sub a z).elim l.1 λz=>l.2.1 (.inr z),λz=>l.2.1 (.inl z),l.2.2⟩
 have f1:∀a (zs:MuO),Lf C fp (exu ex new) a->Rd H a zs.ho->Lf C (fpu fp i (a' :: bs')) ex a∧Rd (upd H a' (.lst ys)) a zs.ho:=λa zs l q=>by
  have na:a≠a':=λz=>l.1 ⟨i,by rw[z];exact hm⟩
  refine⟨lw a l,?_⟩
  rcases q with q|⟨u,q⟩
  ·exact .inl (kp a _ q na)
  ·exact .inr ⟨u,kp a _ q na⟩
 have f2:∀a (zs:ImO),H a=some zs.ho->upd H a' (.lst ys) a=some zs.ho:=λa zs q=>kp a _ q λz=>ImO.nl q (z▸hx)
 have hn':=XX.mp ndb
 refine⟨⟨by rw[JK];exact R.len,λj t' e=>?_,λj h=>?_,λj=>?_,λj k a h1 h2=>?_,λj a h z=>?_,λa z=>?_,λb ob e nb=>?_,λb e=>?_,λj a h=>?_,R.io⟩,sub⟩
 ·by_cases ej:j=i
  ·subst ej
   rw[Qn hil]at e
   cases e
   exact⟨_,hv,by rw[Zx];exact .nd Zt (o.frame f1 f2 λa m zs q=>kp a _ q λz=>hn'.1 (z▸m))⟩
  ·rw[XR (JP ej)]at e
   obtain⟨w,e1,o1⟩:=R.own j t' e
   exact⟨w,e1,by rw[Z9 ej];exact o1.frame f1 f2 λa m zs q=>kp a _ q λz=>ej (R.dj j i a m (z▸hm))⟩
 ·by_cases ej:j=i
  ·subst ej;exact absurd (Qn hil) (h _)
  ·rw[Z9 ej]
   exact R.emp j λt' z=>h t' (by rw[XR (JP ej)];exact z)
 ·by_cases ej:j=i
  ·subst ej;rw[Zx];exact ndb
  ·rw[Z9 ej];exact R.nd j
 ·have one:∀k,k≠i->a∈a' :: bs'->a∈fp k->False:=λk ek m1 m2=>by
   rcases mem a m1 with z|z
   ·exact ek (R.dj k i a m2 z)
   ·exact R.dx k a m2 (.inr z)
  by_cases ej:j=i
  ·by_cases ek:k=i
   ·rw[ej,ek]
   ·rw[ej,Zx]at h1
    rw[Z9 ek]at h2
    exact(one k ek h1 h2).elim
  ·rw[Z9 ej]at h1
   by_cases ek:k=i
   ·rw[ek,Zx]at h2
    exact(one j ej h2 h1).elim
   ·rw[Z9 ek]at h2
    exact R.dj j k a h1 h2
 ·by_cases ej:j=i
  ·rw[ej,Zx]at h
   rcases mem a h with m|m
   ·exact R.dx i a m (.inl z)
   ·exact(hn a m).2 z
  ·rw[Z9 ej]at h
   exact R.dx j a h (.inl z)
 ·by_cases e:a=a'
  ·subst e;rw[Zt];intro q;cases q
  ·rw[Zu e];exact R.xa a (.inl z)
 ·refine kp b ob (R.fr b ob e nb) λz=>?_
  rcases R.new i a' hm with y|y
  ·exact nb (z▸y.2)
  ·rw[z,y]at e;cases e
 ·refine R.al b ?_
  by_cases q:b=a'
  ·subst q;rw[Zt]at e;cases e
  ·rwa[Zu q]at e
 ·by_cases ej:j=i
  ·rw[ej,Zx]at h
   rcases mem a h with m|m
   ·rw[ej];exact R.new i a m
   ·exact .inr (hn a m).1
  ·rw[Z9 ej]at h
   exact R.new j a h
section
variable {X:Cx}{io:List Nat}{p c:Bool}{e:Expr}{m:MEt}{pos apos cpos px:Pos}{i:Nat}{x:Str}
end
variable {G:Xb}
theorem Rel.forget2{io:List Nat}{C:MC G}{H:Hp}{σ σ':St}{δ:Zf}{fp:Fp}{ex:Addr->Prop}{i:Nat}(R:Rel C io H σ δ fp ex)(hio:i∉io)(hl:σ'.length=σ.length)(hσ:∀q,q≠i->σ'[q]? =σ[q]?) :
  ∃fp',Rel C io H σ' (δ.set i none) fp' ex∧Kp H fp H fp':=by
 obtain⟨fp',R',K'⟩:=R.forget hio
 refine⟨fp',⟨by rw[hl,←R'.len,JK],λj t e=>?_,R'.emp,R'.nd,R'.dj,R'.dx,R'.xa,R'.fr,R'.al,R'.new,λj hj=>?_⟩,K'⟩
 ·obtain⟨v,e1,o⟩:=R'.own j t e
  have ej:j≠i:=λz=>by
   subst z
   by_cases q:j<δ.length
   ·rw[Qn q]at e;cases e
   ·rw[JH (by simpa using Nat.le_of_not_lt q)]at e;cases e
  rw[XR (JP ej)]at e1
  exact⟨v,by rw[hσ j ej];exact e1,o⟩
 ·have ej:j≠i:=λz=>hio (z▸hj)
  rw[hσ j ej]
  exact R.io j hj
section
variable {X:Cx}{io:List Nat}{e:Expr}{pos apos cpos px pt pl p2:Pos}{i j:Nat}{x y:Str}
end
section
variable {X:Cx}{io:List Nat}{e:Expr}{i:Nat}{y:Str}
end
noncomputable abbrev FE:=Zf->Option (OT×Zf)
noncomputable abbrev FA:=Zf->Option (List OT×Zf)
noncomputable abbrev FT:=Zf->Option (Bool×Zf)
noncomputable abbrev FI:=Zf->Option (List Xa×Zf)
noncomputable abbrev FO:=Zf->Option (Option Int×Zf)
noncomputable abbrev FG:=Xa->Zf->Option Zf
noncomputable abbrev FGs:=List Xa->Zf->Option Zf
noncomputable def o2{α:Type}(f:Zf->Option (α×Zf)):Zf->(α->Zf->Prop)->Prop:=λδ K=>∃r δ',f δ=some (r,δ')∧K r δ'
noncomputable def oG(g:FG):MGt:=λd δ k=>∃δ',g d δ=some δ'∧k δ'
noncomputable def oGs(g:FGs):Zpt:=λd δ k=>∃δ',g d δ=some δ'∧k δ'
section
variable {X:Cx}{io:List Nat}{p c:Bool}{e tg:Expr}{es:List Expr}{m m':MEt}{mr mr':MAt}{mt mt':MTt}{mi mi':MIt}{g g':MGt}{gs gs':Zpt}{mo mo':MOt}{st:Stmt}{sts:List Stmt}{u u':MSt}{eo:Option Expr}
theorem ME.weak(h:ME X io p c e m)(w:∀δ K,m' δ K->m δ K):ME X io p c e m':=let⟨t,A,s⟩:=h;⟨t,A,λC H σ δ fp ex K Q R h k=>s C H σ δ fp ex K Q R (w δ K h) k⟩
theorem MA.weak(h:MA X io p c es mr)(w:∀δ K,mr' δ K->mr δ K):MA X io p c es mr':=let⟨t,A,s⟩:=h;⟨t,A,λC H σ δ fp ex K Q R h k=>s C H σ δ fp ex K Q R (w δ K h) k⟩
theorem MT.weak(h:MT X io p e mt)(w:∀δ K,mt' δ K->mt δ K):MT X io p e mt':=let⟨t,A,s⟩:=h;⟨t,A,λC H σ δ fp ex K Q R h k=>s C H σ δ fp ex K Q R (w δ K h) k⟩
theorem MW.weak(h:MW X io p e mt)(w:∀δ K,mt' δ K->mt δ K):MW X io p e mt':=let⟨t,A,s⟩:=h;⟨t,A,λC H σ δ fp ex K Q R h k=>s C H σ δ fp ex K Q R (w δ K h) k⟩
theorem MIfs.weak(h:MIfs X io p es mt)(w:∀δ K,mt' δ K->mt δ K):MIfs X io p es mt':=let⟨t,A,s⟩:=h;⟨t,A,λC H σ δ fp ex K Q R h k=>s C H σ δ fp ex K Q R (w δ K h) k⟩
theorem MI.weak(h:MI X io p c tg e mi)(w:∀δ K,mi' δ K->mi δ K):MI X io p c tg e mi':=let⟨t,A,s⟩:=h;⟨t,A,λC H σ δ fp ex K Q R h k=>s C H σ δ fp ex K Q R (w δ K h) k⟩
theorem MO.weak(h:MO X io p eo mo)(w:∀δ K,mo' δ K->mo δ K):MO X io p eo mo':=let⟨t,A,s⟩:=h;⟨t,A,λC H σ δ fp ex K Q R h k=>s C H σ δ fp ex K Q R (w δ K h) k⟩
theorem MG.weak(h:MG X io c tg g)(w:∀d δ K,g' d δ K->g d δ K):MG X io c tg g':=let⟨t,A,s⟩:=h;⟨t,A,λC H σ δ fp ex v d k Q R q h kk=>s C H σ δ fp ex v d k Q R q (w d δ k h) kk⟩
theorem MGs.weak(h:MGs X io c es gs)(w:∀d δ K,gs' d δ K->gs d δ K):MGs X io c es gs':=let⟨t,A,s⟩:=h;⟨t,A,λC H σ δ fp ex v d k Q R q h kk=>s C H σ δ fp ex v d k Q R q (w d δ k h) kk⟩
theorem MS.weak(h:MS X io st u)(w:∀D δ,u' D δ->u D δ):MS X io st u':=let⟨t,A,s⟩:=h;⟨t,A,λC H σ δ fp ex D D' R h E=>s C H σ δ fp ex D D' R (w D δ h) E⟩
theorem MSs.weak(h:MSs X io sts u)(w:∀D δ,u' D δ->u D δ):MSs X io sts u':=let⟨t,A,s⟩:=h;⟨t,A,λC H σ δ fp ex D D' R h E=>s C H σ δ fp ex D D' R (w D δ h) E⟩
end
noncomputable def Ze(i:Nat):FE:=λδ=>match δ[i]? with|some (some (.fz d))=>some (.fz d,δ)|_=>none
noncomputable def Zdi(i:Nat):FE:=λδ=>match δ[i]? with|some (some t)=>some (.fz t.data,δ)|_=>none
noncomputable def fC(d:Xa):FE:=λδ=>some (.fz d,δ)
noncomputable def Zh(g:Xa->Xa->Option Xa)(a b:FE):FE:=λδ=>(a δ).bind λp=>(b p.2).bind λq=>(g p.1.data q.1.data).bind λd=>some (.fz d,q.2)
noncomputable def Z3(g:Xa->Xa->Option OT)(a b:FE):FE:=λδ=>(a δ).bind λp=>(b p.2).bind λq=>(g p.1.data q.1.data).bind λd=>some (d,q.2)
noncomputable def fUn(g:Xa->Option Xa)(a:FE):FE:=λδ=>(a δ).bind λp=>(g p.1.data).bind λd=>some (.fz d,p.2)
noncomputable def Z61(a b:FE):FE:=λδ=>(a δ).bind λp=>match p.1.data with| .bool true=>b p.2| .bool false=>some (.fz (.bool false),p.2)|_=>none
noncomputable def fOr(a b:FE):FE:=λδ=>(a δ).bind λp=>match p.1.data with| .bool true=>some (.fz (.bool true),p.2)| .bool false=>b p.2|_=>none
noncomputable def fIf(t:FT)(a b:FE):FE:=λδ=>(t δ).bind λp=>if p.1=true then a p.2 else b p.2
noncomputable def tV(e:FE):FT:=λδ=>(e δ).bind λp=>match p.1 with| .fz (.bool b)=>some (b,p.2)|_=>none
noncomputable def tNo(t:FT):FT:=λδ=>(t δ).bind λp=>some (!p.1,p.2)
noncomputable def tAn(t u:FT):FT:=λδ=>(t δ).bind λp=>if p.1=true then u p.2 else some (false,p.2)
noncomputable def tO(t u:FT):FT:=λδ=>(t δ).bind λp=>if p.1=true then some (true,p.2)else u p.2
noncomputable def tD(e:FE):FT:=λδ=>(e δ).bind λp=>(Zu2 p.1.data).bind λb=>some (b,p.2)
noncomputable def Zr:FA:=λδ=>some ([],δ)
noncomputable def Zd(e:FE)(a:FA):FA:=λδ=>(e δ).bind λp=>(a p.2).bind λq=>some (p.1 :: q.1,q.2)
noncomputable def Zlf(a:FA):FE:=λδ=>(a δ).bind λp=>if p.1.length≤Xq then some (.fz (.tuple (OT.datas p.1)),p.2)else none
noncomputable def Zbf(a:FA):FE:=λδ=>(a δ).bind λp=>if p.1.length≤Xq then some (.nd p.1,p.2)else none
noncomputable def Zub(e:FE):FE:=λδ=>(e δ).bind λp=>if J7 p.1.data=true then some (.fz p.1.data,p.2)else none
noncomputable def Z6e(e:FE):FE:=λδ=>(e δ).bind λp=>if Zbu p.1=true then some (p.1,p.2)else none
inductive RF where
 | ok (r:OT)
 | exn (c:Str)
 | bad
noncomputable abbrev FD:=List Xa->RF
noncomputable abbrev FIO:=OT->List Xa->Option (OT×OT)
noncomputable def Z0(F:FD)(a:FA):FE:=λδ=>(a δ).bind λp=>match F (OT.datas p.1)with| .ok r=>some (r,p.2)|_=>none
noncomputable def Yp(i:Nat)(F:FIO)(a:FA):FE:=λδ=>match δ[i]? with
 | some (some _)=>(a δ).bind λp=>match p.2[i]? with
  | some (some t)=>(F t (OT.datas p.1)).bind λq=>some (q.1,p.2.set i (some q.2))
  | _=>none
 | _=>none
noncomputable def Zci(g:List Xa->Option Xa)(a:FA):FE:=λδ=>(a δ).bind λp=>(g (OT.datas p.1)).bind λd=>some (.fz d,p.2)
noncomputable def fBl(g:List Xa->Option OT)(a:FA):FE:=λδ=>(a δ).bind λp=>(g (OT.datas p.1)).bind λd=>some (d,p.2)
noncomputable def Znw(T:String)(e:FE):FE:=λδ=>(e δ).bind λp=>if Zgq p.1.data=true then none else some (.fz (.bool (Zom T p.1.data)),p.2)
noncomputable def oN:FO:=λδ=>some (none,δ)
noncomputable def oI(e:FE):FO:=λδ=>(e δ).bind λp=>match p.1.data with| .int i=>some (some i,p.2)|_=>none
noncomputable def fSl(e:FE)(lo hi:FO):FE:=λδ=>(e δ).bind λp=>(lo p.2).bind λq=>(hi q.2).bind λr=>match p.1.data with| .list ds=>some (.nd ((cutD ds q.1 r.1).map OT.fz),r.2)|_=>none
noncomputable def Zaz(e:FE):FI:=λδ=>(e δ).bind λp=>match p.1.data with| .list ds=>some (ds,p.2)|_=>none
noncomputable def iTp(e:FE):FI:=λδ=>(e δ).bind λp=>match p.1.data with| .tuple ds=>some (ds,p.2)|_=>none
noncomputable def rOk(j:Int):Bool:=decide (-(2^62)≤j)&&decide (j<2^62)
theorem Zfo{j:Int}(h:rOk j=true):-(2^62)≤j∧j<2^62:=by
 unfold rOk at h
 rw[XC]at h
 exact⟨of_decide_eq_true h.1,of_decide_eq_true h.2⟩
theorem Zsb{j:Int}(h0:-1000000≤j)(h1:j≤1000000):rOk j=true:=by
 unfold rOk
 rw[decide_eq_true (show -(2^62)≤j by omega),decide_eq_true (show j<2^62 by omega)];rfl
noncomputable def iRa(a:FA):FI:=λδ=>(a δ).bind λp=>match OT.datas p.1 with|[.int j]=>if rOk j=true then some (Zdd 0 j.toNat,p.2)else none|_=>none
noncomputable def iRb(a:FA):FI:=λδ=>(a δ).bind λp=>match OT.datas p.1 with|[.int i,.int j]=>if(rOk i&&rOk j)=true then some (Zdd i (j-i).toNat,p.2)else none|_=>none
noncomputable def Z4q(a:FA):FI:=λδ=>(a δ).bind λp=>match OT.datas p.1 with|[.list as,.list bs]=>some (Zmm as bs,p.2)|_=>none
noncomputable def gNm(i:Nat):FG:=λd δ=>some (δ.set i (some (.fz d)))
noncomputable def Zx0(i:Nat):FG:=λd δ=>if J7 d=true then some (δ.set i (some (.fz d)))else none
noncomputable def gNl:FGs:=λds δ=>match ds with|[]=>some δ|_=>none
noncomputable def gCn(g:FG)(gs:FGs):FGs:=λds δ=>match ds with|d :: r=>(g d δ).bind (gs r)|[]=>none
noncomputable def gTp(n:Nat)(gs:FGs):FG:=λd δ=>match d with| .tuple ds=>if ds.length=n then gs ds δ else none|_=>none
noncomputable def gLs(n:Nat)(gs:FGs):FG:=λd δ=>match d with| .list ds=>if ds.length=n then gs ds δ else none|_=>none
noncomputable def compLoop(g:FG)(t:FT)(e:FE):List Xa->Zf->Option (List OT×Zf)
 | [],δ=>some ([],δ)
 | d :: ds,δ=>(g d δ).bind λδ1=>(t δ1).bind λp=>if p.1=true then(e p.2).bind λq=>(compLoop g t e ds q.2).bind λz=>some (q.1 :: z.1,z.2)else compLoop g t e ds p.2
noncomputable def Wy(n:Nat)(caps:List Nat)(it:FI)(g:FG)(t:FT)(e:FE):FE:=λδ=>(it δ).bind λp=>if p.1.length≤Xq then(compLoop g t e p.1 (blk n caps p.2)).bind λz=>some (.nd z.1,p.2)else none
noncomputable def Zhj:FT:=λδ=>some (true,δ)
inductive RS where
 | nx (δ:Zf)
 | rt (r:OT) (δ:Zf)
 | bk (δ:Zf)
 | ct (δ:Zf)
 | ex (c:Str) (δ:Zf)
 | bad
noncomputable abbrev FS:=Zf->RS
noncomputable def RS.fits(D:Zev):RS->Prop
 | .nx δ=>D.nx δ
 | .rt r δ=>D.rt r δ
 | .bk δ=>D.bk δ
 | .ct δ=>D.ct δ
 | _=>False
noncomputable def oS(f:FS):MSt:=λD δ=>(f δ).fits D
noncomputable def xS(K:Xb)(f:FS):MXt:=λδ k=>∃c C δ',f δ= .ex c δ'∧ClsAt K c C∧k C δ'
noncomputable def Z6(f g:FS):FS:=λδ=>match f δ with| .nx δ'=>g δ'|r=>r
noncomputable def fNx:FS:=λδ=>.nx δ
noncomputable def Ydu:FS:=λδ=>.bk δ
noncomputable def Ydp:FS:=λδ=>.ct δ
noncomputable def wE(e:FE)(k:OT->Zf->RS):FS:=λδ=>match e δ with|some (r,δ')=>k r δ'|none=>.bad
noncomputable def wX(F:FD)(a:FA)(k:OT->Zf->RS):FS:=λδ=>match a δ with
 | some (rs,δ1)=>match F (OT.datas rs)with
  | .ok r=>k r δ1
  | .exn c=>.ex c δ1
  | .bad=>.bad
 | none=>.bad
noncomputable def Zi9:OT->Zf->RS:=λ_ δ=>.nx δ
noncomputable def Jt:OT->Zf->RS:=λr δ=>.rt r δ
noncomputable def Z95:OT->Zf->RS:=λr δ=>if J7 r.data=true then .rt (.fz r.data) δ else .bad
noncomputable def Wd(i:Nat):OT->Zf->RS:=λr δ=>.nx (δ.set i (some (.fz r.data)))
noncomputable def Znu(i:Nat):OT->Zf->RS:=λr δ=>if J7 r.data=true then .nx (δ.set i (some (.fz r.data)))else .bad
noncomputable def Zb4(i:Nat):OT->Zf->RS:=λr δ=>.nx (δ.set i (some r))
noncomputable def Yds(g:FG):OT->Zf->RS:=λr δ=>match g r.data δ with|some δ'=>.nx δ'|none=>.bad
noncomputable def Z72:FS:=λδ=>.rt (.fz .none) δ
noncomputable def Zfc(i:Nat):FS:=λδ=>match δ[i]? with|some (some t)=>.rt t (δ.set i none)|_=>.bad
noncomputable def Za7(t:FT)(u w:FS):FS:=λδ=>match t δ with|some (b,δ')=>if b=true then u δ' else w δ'|none=>.bad
noncomputable def Zmn(c:Str):FS:=λδ=>.ex c δ
noncomputable def Jo(i:Nat)(e:FE):FS:=λδ=>match δ[i]? with
 | some (some (.nd _))=>wE e (λr δ1=>match δ1[i]? with
  | some (some (.nd ts))=>if ts.length<Xq then .nx (δ1.set i (some (.nd (ts ++ [.fz r.data]))))else .bad
  | _=>.bad) δ
 | _=>.bad
noncomputable def Zmr(i:Nat)(e:FE):FS:=λδ=>match δ[i]? with
 | some (some (.nd _))=>wE e (λr δ1=>match δ1[i]? with
  | some (some (.nd ts))=>if ts.length<Xq then .nx (δ1.set i (some (.nd (ts ++ [r]))))else .bad
  | _=>.bad) δ
 | _=>.bad
noncomputable def Zw4(i:Nat)(e j:FE):FS:=wE e λr δ1=>match δ1[i]? with
 | some (some (.nd ts))=>wE j (λn _=>match n.data with
  | .int k=>match ixN ts.length k with
   | some j=>.nx (δ1.set i (some (.nd (ts.set j (.fz r.data)))))
   | none=>.bad
  | _=>.bad) δ1
 | _=>.bad
noncomputable def Zcj(i:Nat)(e j j2:FE):FS:=wE e λr δ1=>match δ1[i]? with
 | some (some (.nd ts))=>wE j (λn _=>match n.data with
  | .int k=>match ixN ts.length k with
   | some j=>match ts[j]? with
    | some (.nd us)=>wE j2 (λn' _=>match n'.data with
     | .int k'=>match ixN us.length k' with
      | some j'=>.nx (δ1.set i (some (.nd (ts.set j (.nd (us.set j' (.fz r.data)))))))
      | none=>.bad
     | _=>.bad) δ1
    | _=>.bad
   | none=>.bad
  | _=>.bad) δ1
 | _=>.bad
noncomputable def Zfa(i:Nat)(u:FS):FS:=λδ=>match δ[i]? with|some (some t)=>u (δ.set i (some (.fz t.data)))|_=>.bad
noncomputable def forLoop(g:FG)(u:FS):List Xa->Zf->RS
 | [],δ=>.nx δ
 | d :: ds,δ=>match g d δ with
  | none=>.bad
  | some δ1=>match u δ1 with
   | .nx δ2=>forLoop g u ds δ2
   | .ct δ2=>forLoop g u ds δ2
   | .bk δ2=>.nx δ2
   | r=>r
noncomputable def W5(it:FI)(g:FG)(u:FS):FS:=λδ=>match it δ with|some (ds,δ1)=>forLoop g u ds δ1|none=>.bad
noncomputable def whileLoop(t:FT)(u:FS):Nat->Zf->RS
 | 0,_=>.bad
 | n+1,δ=>match t δ with
  | none=>.bad
  | some (b,δ1)=>if b=true then match u δ1 with
   | .nx δ2=>whileLoop t u n δ2
   | .ct δ2=>whileLoop t u n δ2
   | .bk δ2=>.nx δ2
   | .rt r δ2=>.rt r δ2
   | _=>.bad
   else .nx δ1
open Classical in
noncomputable def Zg5(t:FT)(u:FS):FS:=λδ=>if h:∃n,whileLoop t u n δ≠ .bad then whileLoop t u (Classical.choose h) δ else .bad
noncomputable def Zes(n:Nat)(ds:List Xa):Zf:=ds.map (λd=>some (.fz d)) ++ Bl (n-ds.length) none
noncomputable def Zin(n:Nat)(t:OT)(ds:List Xa):Zf:=some t :: (ds.map (λd=>some (.fz d)) ++ Bl (n-(ds.length+1)) none)
noncomputable def RS.told:RS->RF
 | .nx _=>.ok (.fz .none)
 | .rt r _=>.ok r
 | .ex c _=>.exn c
 | _=>.bad
noncomputable def Zal(np n:Nat)(S:FS):FD:=λds=>if ds.length=np then(S (Zes n ds)).told else .bad
noncomputable def RS.toldI:RS->Option (OT×OT)
 | .nx δ=>match δ[0]? with|some (some t)=>some (.fz .none,t)|_=>none
 | .rt r δ=>match δ[0]? with|some (some t)=>some (r,t)|_=>none
 | _=>none
noncomputable def Zpn(np n:Nat)(S:FS):FIO:=λt ds=>if ds.length+1=np then(S (Zin n t ds)).toldI else none
noncomputable def sD(F:FD):List Xa->(OT->Prop)->Prop:=λds k=>∃r,F ds= .ok r∧k r
noncomputable def sI(F:FIO):OT->List Xa->(OT->OT->Prop)->Prop:=λt ds k=>∃r t',F t ds=some (r,t')∧k r t'
theorem bs{α β:Type}{x:Option α}{f:α->Option β}{b:β}(h:x.bind f=some b):∃a,x=some a∧f a=some b:=Option.bind_eq_some_iff.mp h
section
variable {X:Cx}{io:List Nat}{p c:Bool}{e tg:Expr}{es:List Expr}{st:Stmt}{sts:List Stmt}{eo:Option Expr}{fa fb fc:FE}{ra:FA}{ta tb:FT}{i:Nat}
theorem Z33(h:ME X io p c e (Z7a i)):ME X io p c e (o2 (Ze i)):=h.weak λδ K q91=>by
 obtain⟨r,δ',h,k⟩:=q91
 unfold Ze at h;unfold Z7a
 split at h
 ·rename_i d hd;(try rw[hd]);cases h;exact k
 ·cases h
theorem Z2i(h:ME X io p c e (Z65 i)):ME X io p c e (o2 (Zdi i)):=h.weak λδ K q92=>by
 obtain⟨r,δ',h,k⟩:=q92
 unfold Zdi at h;unfold Z65
 split at h
 ·rename_i d hd;(try rw[hd]);cases h;exact k
 ·cases h
theorem Zoc{d:Xa}(h:ME X io p c e (mC d)):ME X io p c e (o2 (fC d)):=h.weak λδ K ⟨r,δ',h,k⟩=>by cases h;exact k
noncomputable def ByS(g:Xa->Xa->Option Xa)(rp:Xa->Xa->(Xa->Prop)->Prop):Prop:=∀d e r k,g d e=some r->k r->rp d e k
noncomputable def ByO(g:Xa->Xa->Option OT)(rp:Xa->Xa->(OT->Prop)->Prop):Prop:=∀d e r k,g d e=some r->k r->rp d e k
theorem Zwh{g rp}(G:ByS g rp){δ:Zf}{K:OT->Zf->Prop}(h:o2 (Zh g fa fb) δ K):Zln rp (o2 fa) (o2 fb) δ K:=by
 obtain⟨r,δ',h,k⟩:=h
 obtain⟨⟨x,δ1⟩,h1,h⟩:=bs h
 obtain⟨⟨y,δ2⟩,h2,h⟩:=bs h
 obtain⟨d,h3,h⟩:=bs h
 cases h
 exact⟨x,δ1,h1,y,δ2,h2,G _ _ _ _ h3 k⟩
theorem Jl{g rp}(G:ByS g rp)(h:ME X io p c e (Zln rp (o2 fa) (o2 fb))):ME X io p c e (o2 (Zh g fa fb)):=h.weak λδ K z=>Zwh G z
theorem Ydd{f:FE}{δ:Zf}{K:Bool->Zf->Prop}(h:o2 (tV f) δ K):o2 f δ (kB K):=by
 obtain⟨b,δ',h,k⟩:=h
 obtain⟨⟨x,δ1⟩,h1,h⟩:=bs h
 refine⟨x,δ1,h1,?_⟩
 unfold kB
 try dsimp only at h⊢
 split at h
 ·cases h;exact k
 ·cases h
theorem Zco{g rp}(G:ByS g rp)(h:MT X io p e (λδ K=>Zln rp (o2 fa) (o2 fb) δ (kB K))):MT X io p e (o2 (tV (Zh g fa fb))):=h.weak λδ K z=>Zwh G (Ydd z)
theorem Zfw{g rp}(G:ByO g rp)(h:ME X io p c e (Z6v rp (o2 fa) (o2 fb))):ME X io p c e (o2 (Z3 g fa fb)):=h.weak λδ K h=>by
 obtain⟨r,δ',h,k⟩:=h
 obtain⟨⟨x,δ1⟩,h1,h⟩:=bs h
 obtain⟨⟨y,δ2⟩,h2,h⟩:=bs h
 obtain⟨d,h3,h⟩:=bs h
 cases h
 exact⟨x,δ1,h1,y,δ2,h2,G _ _ _ _ h3 k⟩
noncomputable def Z6u:Xa->Option Xa| .int i=>some (.int (-i))|_=>none
noncomputable def Z82:Xa->Option Xa| .bool b=>some (.bool (!b))|_=>none
theorem Z3s(h:ME X io p c e (Ya6 (o2 fa))):ME X io p c e (o2 (fUn Z6u fa)):=h.weak λδ K h=>by
 obtain⟨r,δ',h,k⟩:=h
 obtain⟨⟨x,δ1⟩,h1,h⟩:=bs h
 obtain⟨d,h3,h⟩:=bs h
 cases h
 refine⟨x,δ1,h1,?_⟩
 dsimp only at h3⊢
 cases q:x.data<;>rw[q]at h3<;>cases h3
 exact k
theorem Z0q(h:ME X io p c e (Z4d (o2 fa))):ME X io p c e (o2 (fUn Z82 fa)):=h.weak λδ K h=>by
 obtain⟨r,δ',h,k⟩:=h
 obtain⟨⟨x,δ1⟩,h1,h⟩:=bs h
 obtain⟨d,h3,h⟩:=bs h
 cases h
 refine⟨x,δ1,h1,?_⟩
 dsimp only at h3⊢
 cases q:x.data<;>rw[q]at h3<;>cases h3
 exact k
theorem Zyx(h:ME X io p c e (Z6j (o2 fa) (o2 fb))):ME X io p c e (o2 (Z61 fa fb)):=h.weak λδ K h=>by
 obtain⟨r,δ',h,k⟩:=h
 obtain⟨⟨x,δ1⟩,h1,h⟩:=bs h
 refine⟨x,δ1,h1,?_⟩
 try dsimp only at h⊢
 split at h
 ·rename_i q;(try rw[q]);rw[Zvm,if_pos rfl];exact⟨r,δ',h,k⟩
 ·rename_i q;(try rw[q]);cases h;rw[Zvm,if_neg Xy];exact k
 ·cases h
theorem Z1u(h:MT X io p e (Yb7 (o2 ta))):MT X io p e (o2 (tNo ta)):=h.weak λδ K h=>by
 obtain⟨r,δ',h,k⟩:=h
 obtain⟨⟨x,δ1⟩,h1,h⟩:=bs h
 cases h
 exact⟨x,δ1,h1,k⟩
theorem Z5w(h:MW X io p e (Yag (o2 ta) (o2 tb))):MW X io p e (o2 (tAn ta tb)):=h.weak λδ K h=>by
 obtain⟨r,δ',h,k⟩:=h
 obtain⟨⟨x,δ1⟩,h1,h⟩:=bs h
 refine⟨x,δ1,h1,?_⟩
 try dsimp only at h⊢
 split at h
 ·rename_i q;rw[if_pos q];exact⟨r,δ',h,k⟩
 ·rename_i q;rw[if_neg q];cases h;exact k
theorem Zl0(h:MW X io p e (mOr (o2 ta) (o2 tb))):MW X io p e (o2 (tO ta tb)):=h.weak λδ K h=>by
 obtain⟨r,δ',h,k⟩:=h
 obtain⟨⟨x,δ1⟩,h1,h⟩:=bs h
 refine⟨x,δ1,h1,?_⟩
 try dsimp only at h⊢
 split at h
 ·rename_i q;rw[if_pos q];cases h;exact k
 ·rename_i q;rw[if_neg q];exact⟨r,δ',h,k⟩
theorem Zcm(h:MT X io p e (Yaw (o2 fa))):MT X io p e (o2 (tD fa)):=h.weak λδ K h=>by
 obtain⟨r,δ',h,k⟩:=h
 obtain⟨⟨x,δ1⟩,h1,h⟩:=bs h
 obtain⟨d,h3,h⟩:=bs h
 cases h
 refine⟨x,δ1,h1,?_⟩
 dsimp only at h3⊢
 rw[h3]
 exact k
theorem Z2y(h:MA X io p c es Ybc):MA X io p c es (o2 Zr):=h.weak λδ K ⟨r,δ',h,k⟩=>by cases h;exact k
theorem Zzv(h:MA X io p c es (Z52 (o2 fa) (o2 ra))):MA X io p c es (o2 (Zd fa ra)):=h.weak λδ K h=>by
 obtain⟨r,δ',h,k⟩:=h
 obtain⟨⟨x,δ1⟩,h1,h⟩:=bs h
 obtain⟨⟨y,δ2⟩,h2,h⟩:=bs h
 cases h
 exact⟨x,δ1,h1,y,δ2,h2,k⟩
theorem Z4z(h:ME X io p c e (Ybq (o2 ra))):ME X io p c e (o2 (Zlf ra)):=h.weak λδ K h=>by
 obtain⟨r,δ',h,k⟩:=h
 obtain⟨⟨x,δ1⟩,h1,h⟩:=bs h
 refine⟨x,δ1,h1,?_⟩
 dsimp only at h
 split at h
 ·rename_i q;cases h;exact⟨q,k⟩
 ·cases h
theorem Z6p(h:ME X io p c e (Yb1 (o2 ra))):ME X io p c e (o2 (Zbf ra)):=h.weak λδ K h=>by
 obtain⟨r,δ',h,k⟩:=h
 obtain⟨⟨x,δ1⟩,h1,h⟩:=bs h
 refine⟨x,δ1,h1,?_⟩
 dsimp only at h
 split at h
 ·rename_i q;cases h;exact⟨q,k⟩
 ·cases h
theorem Z0g(h:ME X io p c e (Z5z (o2 fa))):ME X io p c e (o2 (Zub fa)):=h.weak λδ K h=>by
 obtain⟨r,δ',h,k⟩:=h
 obtain⟨⟨x,δ1⟩,h1,h⟩:=bs h
 refine⟨x,δ1,h1,?_⟩
 dsimp only at h
 split at h
 ·rename_i q;cases h;exact⟨q,k⟩
 ·cases h
theorem Zxg{F:FD}(h:ME X io p c e (Zud (sD F) (o2 ra))):ME X io p c e (o2 (Z0 F ra)):=h.weak λδ K h=>by
 obtain⟨r,δ',h,k⟩:=h
 obtain⟨⟨x,δ1⟩,h1,h⟩:=bs h
 refine⟨x,δ1,h1,?_⟩
 dsimp only at h
 split at h
 ·rename_i q;cases h;exact⟨_,q,k⟩
 ·cases h
theorem Yw{F:FIO}(h:ME X io p c e (Zjr i (sI F) (o2 ra))):ME X io p c e (o2 (Yp i F ra)):=h.weak λδ K h=>by
 obtain⟨r,δ',h,k⟩:=h
 unfold Yp at h;unfold Zjr
 split at h
 case h_2=>cases h
 rename_i t0 q0
 (try rw[q0])
 obtain⟨⟨x,δ1⟩,h1,h⟩:=bs h
 refine⟨x,δ1,h1,?_⟩
 try dsimp only at h⊢
 split at h
 case h_2=>cases h
 rename_i t q
 (try rw[q])
 obtain⟨⟨y,t'⟩,h2,h⟩:=bs h
 cases h
 exact⟨_,_,h2,k⟩
theorem Zdt{g rp}(G:∀ds r k,g ds=some r->k r->rp ds k)(h:ME X io p c e (Z7c rp (o2 ra))):ME X io p c e (o2 (Zci g ra)):=h.weak λδ K h=>by
 obtain⟨r,δ',h,k⟩:=h
 obtain⟨⟨x,δ1⟩,h1,h⟩:=bs h
 obtain⟨d,h3,h⟩:=bs h
 cases h
 exact⟨x,δ1,h1,G _ _ _ h3 k⟩
theorem Zw5{g rp}(G:∀ds r k,g ds=some r->k r->rp ds k)(h:ME X io p c e (mBl rp (o2 ra))):ME X io p c e (o2 (fBl g ra)):=h.weak λδ K h=>by
 obtain⟨r,δ',h,k⟩:=h
 obtain⟨⟨x,δ1⟩,h1,h⟩:=bs h
 obtain⟨d,h3,h⟩:=bs h
 cases h
 exact⟨x,δ1,h1,G _ _ _ h3 k⟩
theorem Zf6{T:String}(h:ME X io p c e (Yay T (o2 fa))):ME X io p c e (o2 (Znw T fa)):=h.weak λδ K h=>by
 obtain⟨r,δ',h,k⟩:=h
 obtain⟨⟨x,δ1⟩,h1,h⟩:=bs h
 by_cases hf:Zgq x.data=true
 ·have h':(if Zgq x.data=true then none else some (OT.fz (.bool (Zom T x.data)),δ1))=some (r,δ'):=h
  rw[if_pos hf]at h'
  cases h'
 ·have h':(if Zgq x.data=true then none else some (OT.fz (.bool (Zom T x.data)),δ1))=some (r,δ'):=h
  rw[if_neg hf]at h'
  injection h' with h'
  injection h' with e1 e2
  subst e1 e2
  exact⟨x,_,h1,VP.mpr hf,k⟩
theorem Zo2(h:MO X io p eo Zrk):MO X io p eo (o2 oN):=h.weak λδ K ⟨r,δ',h,k⟩=>by cases h;exact k
theorem Zpq(h:MO X io p eo (Z18 (o2 fa))):MO X io p eo (o2 (oI fa)):=h.weak λδ K h=>by
 obtain⟨r,δ',h,k⟩:=h
 obtain⟨⟨x,δ1⟩,h1,h⟩:=bs h
 refine⟨x,δ1,h1,?_⟩
 try dsimp only at h⊢
 split at h
 ·rename_i q;(try rw[q]);cases h;exact k
 ·cases h
theorem Z5r{lo hi:FO}(h:ME X io p c e (mSl (o2 fa) (o2 lo) (o2 hi))):ME X io p c e (o2 (fSl fa lo hi)):=h.weak λδ K h=>by
 obtain⟨r,δ',h,k⟩:=h
 obtain⟨⟨x,δ1⟩,h1,h⟩:=bs h
 obtain⟨⟨y,δ2⟩,h2,h⟩:=bs h
 obtain⟨⟨z,δ3⟩,h3,h⟩:=bs h
 refine⟨x,δ1,h1,y,δ2,h2,z,δ3,h3,?_⟩
 try dsimp only at h⊢
 split at h
 ·rename_i q;(try rw[q]);cases h;exact k
 ·cases h
theorem Zwz(h:MI X io p c tg e (iL (o2 fa))):MI X io p c tg e (o2 (Zaz fa)):=h.weak λδ K h=>by
 obtain⟨r,δ',h,k⟩:=h
 obtain⟨⟨x,δ1⟩,h1,h⟩:=bs h
 refine⟨x,δ1,h1,?_⟩
 try dsimp only at h⊢
 split at h
 ·rename_i q;(try rw[q]);cases h;exact k
 ·cases h
theorem Zck(h:MI X io p c tg e (iR1 (o2 ra))):MI X io p c tg e (o2 (iRa ra)):=h.weak λδ K h=>by
 obtain⟨r,δ',h,k⟩:=h
 obtain⟨⟨x,δ1⟩,h1,h⟩:=bs h
 refine⟨x,δ1,h1,?_⟩
 try dsimp only at h⊢
 split at h
 case h_2=>cases h
 rename_i q
 (try rw[q])
 try dsimp only
 split at h
 ·rename_i b;cases h;exact⟨Zfo b,k⟩
 ·cases h
theorem Z6h(h:MI X io p c tg e (iR2 (o2 ra))):MI X io p c tg e (o2 (iRb ra)):=h.weak λδ K h=>by
 obtain⟨r,δ',h,k⟩:=h
 obtain⟨⟨x,δ1⟩,h1,h⟩:=bs h
 refine⟨x,δ1,h1,?_⟩
 try dsimp only at h⊢
 split at h
 case h_2=>cases h
 rename_i q
 (try rw[q])
 try dsimp only
 split at h
 ·rename_i b
  cases h
  rw[XC]at b
  exact⟨⟨(Zfo b.1).1,(Zfo b.1).2,(Zfo b.2).1,(Zfo b.2).2⟩,k⟩
 ·cases h
theorem Zz2(h:MG X io c tg (dName i)):MG X io c tg (oG (gNm i)):=h.weak λd δ K ⟨δ',h,k⟩=>by cases h;exact k
theorem Zmt(h:MG X io c tg (Zwc i)):MG X io c tg (oG (Zx0 i)):=h.weak λd δ K q93=>by
 obtain⟨δ',h,k⟩:=q93
 unfold Zx0 at h
 split at h
 ·rename_i q;cases h;exact⟨q,k⟩
 ·cases h
theorem Zr6(h:MGs X io c es Ybl):MGs X io c es (oGs gNl):=h.weak λd δ K q94=>by
 obtain⟨δ',h,k⟩:=q94
 unfold gNl at h
 split at h
 ·cases h;exact⟨rfl,k⟩
 ·cases h
theorem Ze6{g:FG}{gs:FGs}(h:MGs X io c es (Zxq (oG g) (oGs gs))):MGs X io c es (oGs (gCn g gs)):=h.weak λd δ K q95=>by
 obtain⟨δ',h,k⟩:=q95
 unfold gCn at h
 split at h
 ·obtain⟨δ1,h1,h⟩:=bs h
  exact⟨δ1,h1,δ',h,k⟩
 ·cases h
theorem Zvk{n:Nat}{gs:FGs}(h:MG X io c tg (dTup n (oGs gs))):MG X io c tg (oG (gTp n gs)):=h.weak λd δ K q96=>by
 obtain⟨δ',h,k⟩:=q96
 unfold gTp at h
 split at h
 case h_2=>cases h
 split at h
 ·rename_i q;exact⟨q,δ',h,k⟩
 ·cases h
theorem Za4(h:MIfs X io p es Z2q):MIfs X io p es (o2 Zhj):=h.weak λδ K ⟨r,δ',h,k⟩=>by cases h;exact k
theorem Zx8{g:FG}{t:FT}{me:FE}{ds:List Xa}{δ0:Zf}{zs:List OT}{δe:Zf}(h:compLoop g t me ds δ0=some (zs,δe)) :
  ∃I:Nat->List OT->Zf->Prop,I 0 [] δ0∧
 (∀ (i:Nat) (d:Xa) (rs:List OT) (δ':Zf),ds[i]? =some d->I i rs δ'->oG g d δ' λδ2=>o2 t δ2 λb δ3=>if b=true then o2 me δ3 λr δ4=>I (i+1) (rs ++ [r]) δ4 else I (i+1) rs δ3)∧
 ∀rs δ',I ds.length rs δ'->rs=zs∧δ'=δe:=by
 refine⟨λi rs δ'=>∃ys,rs ++ ys=zs∧compLoop g t me (ds.drop i) δ'=some (ys,δe),⟨zs,rfl,by rw[List.drop_zero];exact h⟩,?_,?_⟩
 ·rintro i d rs δ' hd ⟨ys,e,hl⟩
  obtain⟨hi,hdi⟩:=Xj.mp hd
  rw[Q0 hi,hdi]at hl
  unfold compLoop at hl
  obtain⟨δ1,h1,hl⟩:=bs hl
  obtain⟨⟨b,δ2⟩,h2,hl⟩:=bs hl
  refine⟨δ1,h1,b,δ2,h2,?_⟩
  dsimp only at hl
  split at hl
  ·rename_i hb
   rw[if_pos hb]
   obtain⟨⟨r,δ3⟩,h3,hl⟩:=bs hl
   obtain⟨⟨ws,δ4⟩,h4,hl⟩:=bs hl
   cases hl
   exact⟨r,δ3,h3,ws,by rw[Bo];exact e,h4⟩
  ·rename_i hb
   rw[if_neg hb]
   exact⟨ys,e,hl⟩
 ·rintro rs δ' ⟨ys,e,hl⟩
  rw[List.drop_length]at hl
  unfold compLoop at hl
  cases hl
  exact⟨by rw[←e,QJ],rfl⟩
theorem Zvq{n:Nat}{caps:List Nat}{it:FI}{g:FG}{t:FT}{me:FE}{δ:Zf}{K:OT->Zf->Prop}(h:o2 (Wy n caps it g t me) δ K):Ziy n caps (o2 it) (oG g) (o2 t) (o2 me) δ K:=by
 obtain⟨r,δ',h,k⟩:=h
 obtain⟨⟨ds,δ1⟩,h1,h⟩:=bs h
 refine⟨ds,δ1,h1,?_⟩
 dsimp only at h
 split at h
 case isFalse=>cases h
 rename_i hz
 obtain⟨⟨zs,δe⟩,h2,h⟩:=bs h
 cases h
 obtain⟨I,i0,st,en⟩:=Zx8 h2
 refine⟨hz,I,i0,st,λrs δ'' q=>?_⟩
 obtain⟨rfl,rfl⟩:=en rs δ'' q
 exact k
theorem Jx{n:Nat}{caps:List Nat}{it:FI}{g:FG}{t:FT}{me:FE}(h:ME X io p c e (Ziy n caps (o2 it) (oG g) (o2 t) (o2 me))):ME X io p c e (o2 (Wy n caps it g t me)):=h.weak λδ K z=>Zvq z
end
section
variable {X:Cx}{io:List Nat}{p c:Bool}{e tg iter:Expr}{es:List Expr}{st:Stmt}{sts:List Stmt}{fa fb fc:FE}{ra:FA}{ta tb:FT}{i:Nat}{f g u w:FS}
theorem Z2l(h:MSs X io sts (Z91 (oS f) (oS g))):MSs X io sts (oS (Z6 f g)):=h.weak λD δ h=>by
 unfold oS Z6 at h;unfold Z91 oS
 cases q:f δ<;>rw[q]at h<;>exact h
theorem Z1f(h:MSs X io sts Z10):MSs X io sts (oS fNx):=h.weak λD δ h=>h
theorem Zlo{k:OT->Zf->RS}{D:Zev}{δ:Zf}(h:oS (wE fa k) D δ):o2 fa δ λr δ'=>(k r δ').fits D:=by
 unfold oS wE at h
 split at h
 ·rename_i q;exact⟨_,_,q,h⟩
 ·exact h.elim
theorem o2.imp{α:Type}{f:Zf->Option (α×Zf)}{δ:Zf}{K K':α->Zf->Prop}(h:o2 f δ K)(k:∀r δ',K r δ'->K' r δ'):o2 f δ K':=let⟨r,δ',e,q⟩:=h;⟨r,δ',e,k r δ' q⟩
theorem Zdv{P:Prop}[Decidable P]{a:RS}{D:Zev}(h:(if P then a else .bad:RS).fits D):P∧a.fits D:=by
 split at h
 ·exact⟨‹_›,h⟩
 ·exact h.elim
theorem Zlu(h:MS X io st (Z1v (o2 fa))):MS X io st (oS (wE fa Zi9)):=h.weak λD δ h=>Zlo h
theorem Z2o(h:MS X io st (Yao (o2 fa))):MS X io st (oS (wE fa Jt)):=h.weak λD δ h=>Zlo h
theorem Zl8(h:MS X io st (Zsq i)):MS X io st (oS (Zfc i)):=h.weak λD δ h=>by
 unfold oS Zfc at h;unfold Zsq
 split at h
 ·rename_i q;(try rw[q]);exact h
 ·exact h.elim
theorem Z76(h:MS X io st (Ya5 (o2 ta) (oS u) (oS w))):MS X io st (oS (Za7 ta u w)):=h.weak λD δ h=>by
 unfold oS Za7 at h
 split at h
 ·rename_i b δ' q
  refine⟨b,δ',q,?_⟩
  split at h
  ·rename_i hb;rw[if_pos hb];exact h
  ·rename_i hb;rw[if_neg hb];exact h
 ·exact h.elim
theorem Z5p(h:MS X io st (Z4m i (o2 fa))):MS X io st (oS (wE fa (Wd i))):=h.weak λD δ h=>Zlo h
theorem Zza(h:MS X io st (Zxr i (o2 fa))):MS X io st (oS (wE fa (Znu i))):=h.weak λD δ h=>(Zlo h).imp λr δ' q=>Zdv q
theorem Z1c(h:MS X io st (Zot i (o2 fa))):MS X io st (oS (wE fa (Zb4 i))):=h.weak λD δ h=>Zlo h
section
variable {n:Nat}{caps:List Nat}{o q:Nat}{it:FI}{gg:FG}{t:FT}{me:FE}
theorem Zrh(h:MS X io st (if false=true then Zot i (Ziy n caps (o2 it) (oG gg) (o2 t) (o2 me))else Z4m i (Ziy n caps (o2 it) (oG gg) (o2 t) (o2 me)))):MS X io st (oS (wE (Wy n caps it gg t me) (Wd i))) :=
 h.weak λD δ h=>by rw[if_neg Xy];exact Zvq (Zlo h)
end
theorem Zfb(h:MS X io st (Zhs i (o2 fa))):MS X io st (oS (Jo i fa)):=h.weak λD δ h=>by
 unfold oS Jo at h;unfold Zhs
 split at h
 case h_2=>exact h.elim
 rename_i q;(try rw[q])
 refine(Zlo h).imp λr δ' z=>?_
 split at z
 ·rename_i q2;(try rw[q2]);exact Zdv z
 ·exact z.elim
theorem Zv9(h:MS X io st (Yap i (o2 fa) (o2 fb))):MS X io st (oS (Zw4 i fa fb)):=h.weak λD δ h=>by
 refine(Zlo h).imp λr δ' z=>?_
 split at z
 case h_2=>exact z.elim
 rename_i q;(try rw[q])
 refine(Zlo z).imp λn δ2 z=>?_
 split at z
 case h_2=>exact z.elim
 rename_i k q2;(try rw[q2])
 show match ixN _ k with|some j=>_|none=>_
 split at z
 ·rename_i q3;(try rw[q3]);exact z
 ·exact z.elim
theorem Zgk(h:MS X io st (Z6l i (o2 fa) (o2 fb) (o2 fc))):MS X io st (oS (Zcj i fa fb fc)):=h.weak λD δ h=>by
 refine(Zlo h).imp λr δ' z=>?_
 split at z
 case h_2=>exact z.elim
 rename_i q;(try rw[q])
 refine(Zlo z).imp λn δ2 z=>?_
 split at z
 case h_2=>exact z.elim
 rename_i k q2;(try rw[q2])
 show match ixN _ k with|some j=>_|none=>_
 split at z
 case h_2=>exact z.elim
 rename_i q3;(try rw[q3])
 try dsimp only
 split at z
 case h_2=>exact z.elim
 rename_i q4;(try rw[q4])
 refine(Zlo z).imp λn' δ3 z=>?_
 split at z
 case h_2=>exact z.elim
 rename_i k' q5;(try rw[q5])
 show match ixN _ k' with|some j=>_|none=>_
 split at z
 ·rename_i q6;(try rw[q6]);exact z
 ·exact z.elim
theorem Zq9(h:MS X io st (Zht i (oS u))):MS X io st (oS (Zfa i u)):=h.weak λD δ h=>by
 unfold oS Zfa at h;unfold Zht
 split at h
 ·rename_i q;(try rw[q]);exact h
 ·exact h.elim
theorem Ww{gg:FG}{d:Xa}{ds:List Xa}{δ:Zf}:forLoop gg u (d :: ds) δ=match gg d δ with
  | none=>.bad
  | some δ1=>match u δ1 with
   | .nx δ2=>forLoop gg u ds δ2
   | .ct δ2=>forLoop gg u ds δ2
   | .bk δ2=>.nx δ2
   | r=>r:=rfl
theorem Z39{it:FI}{gg:FG}(h:MS X io st (Ya2 (o2 it) (oG gg) (oS u))):MS X io st (oS (W5 it gg u)):=h.weak λD δ h=>by
 unfold oS W5 at h
 split at h
 case h_2=>exact h.elim
 rename_i ds δ1 q
 refine⟨ds,δ1,q,λi δ'=>(forLoop gg u (ds.drop i) δ').fits D,by show RS.fits D (forLoop gg u (ds.drop 0) δ1);rw[List.drop_zero];exact h,λi d δ' hd z=>?_,λδ' z=>?_⟩
 ·obtain⟨hi,hdi⟩:=Xj.mp hd
  replace z:RS.fits D (forLoop gg u (ds.drop i) δ'):=z
  rw[Q0 hi,hdi,Ww]at z
  split at z
  case h_1=>exact z.elim
  rename_i δ2 q2
  refine⟨δ2,q2,?_⟩
  unfold oS
  cases q3:u δ2<;>rw[q3]at z<;>(try rw[q3])<;>exact z
 ·replace z:RS.fits D (forLoop gg u (ds.drop ds.length) δ'):=z
  rw[List.drop_length]at z;exact z
theorem Zl9(h:MS X io st (Zv8 (o2 ta) (oS u))):MS X io st (oS (Zg5 ta u)):=h.weak λD δ h=>by
 unfold oS Zg5 at h
 split at h
 case isFalse=>exact h.elim
 rename_i hn
 refine⟨λn δ'=>(whileLoop ta u n δ').fits D,⟨_,h⟩,λn δ' z=>?_⟩
 cases n with
 | zero=>exact z.elim
 | succ n=>
  unfold whileLoop at z
  split at z
  case h_1=>exact z.elim
  rename_i b δ1 q
  refine⟨b,δ1,q,?_⟩
  split at z
  ·rename_i hb
   rw[if_pos hb]
   refine⟨λδ''=>(whileLoop ta u n δ'').fits D,λδ'' y=>⟨n,Vc n,y⟩,?_⟩
   unfold oS
   cases q3:u δ1<;>rw[q3]at z<;>exact z
  ·rename_i hb
   rw[if_neg hb]
   exact z
theorem Zcn{n m:Nat}:∀{δ:Zf},whileLoop ta u n δ≠ .bad->whileLoop ta u (n+m) δ=whileLoop ta u n δ:=by
 induction n with
 | zero=>intro δ h;exact absurd rfl h
 | succ n ih=>
  intro δ h
  rw[Nat.succ_add]
  unfold whileLoop at h⊢
  cases q:ta δ with
  | none=>rfl
  | some x=>
   obtain⟨b,δ1⟩:=x
   rw[q]at h
   try dsimp only at h⊢
   split
   ·rename_i hb
    rw[if_pos hb]at h
    cases q3:u δ1<;>rw[q3]at h<;>first|exact ih h|rfl
   ·rfl
theorem Zjx{r:RS}{δ:Zf}(n:Nat)(h:whileLoop ta u n δ=r)(hr:r≠ .bad):Zg5 ta u δ=r:=by
 have hn:∃n,whileLoop ta u n δ≠ .bad:=⟨n,by rw[h];exact hr⟩
 unfold Zg5
 rw[dif_pos hn]
 have h1:=Classical.choose_spec hn
 have e1:=Zcn (m:=n) h1
 have e2:=Zcn (m:=Classical.choose hn) (show whileLoop ta u n δ≠ .bad by rw[h];exact hr)
 rw[Nat.add_comm]at e2
 rw[←e1,e2,h]
theorem Zm9{cn:Str}:MS X io st (oS (Zmn cn)):=Zto.weak λD δ h=>h
class NoEx (f:FS):Prop where
 no:∀δ cn δ',f δ≠ .ex cn δ'
class NoExK (k:OT->Zf->RS):Prop where
 no:∀r δ cn δ',k r δ≠ .ex cn δ'
end
section
variable {P:X6}{w:Qv}{K:Xb}{mg:Str->Option Xc}{base:Heap}{x qual:Str}{st:Stmt}{f:Addr}{fd:XN}{N ps:List Str}{n np nn:Nat}{S:FS}
theorem RS.told_fits{r:RS}{o:OT}{k:OT->Prop}(h:r.told= .ok o)(hk:k o):r.fits (Zyq k):=by
 cases r<;>unfold RS.told at h<;>first|(cases h;exact hk)|cases h
theorem Ys(F:Fun K x qual st f fd)(Sc:Zv N ps (Zm st))(hN:N.length=nn)(hp:np=ps.length)
  (hb:∀(cdv:Xc) (A:Qo) (outer:List Env) (s:Xe) (H:Hp) (E:XK),Room n (A.deeper (U7 qual (Zm st) s.heap.objs.size f cdv))->MSs (Zsg CX0 P w K mg base N qual (Zm st) f cdv A outer s H E).nox [] (Jy st) (oS S)) :
  FnOk P w K mg base CX0 (n+1) f fd ps (spD K (sD (Zal np nn S))):=by
 subst hN hp
 refine F.okD Sc (λds k h=>?_) λcdv A outer s H E hr=>⟨_,hb cdv A outer s H E hr,λds k h=>?_⟩
 ·obtain⟨r,h,_⟩:=h
  unfold Zal at h
  split at h
  ·assumption
  ·cases h
 ·obtain⟨r,h,hk⟩:=h
  unfold Zal at h
  split at h
  ·exact RS.told_fits h hk
  ·cases h
theorem Zi0(F:Fun K x qual st f fd)(Sc:Zv N ps (Zm st))(hN:N.length=nn)(hp:np=ps.length)
  (hb:∀(cdv:Xc) (A:Qo) (outer:List Env) (s:Xe) (H:Hp) (E:XK),Room n (A.deeper (U7 qual (Zm st) s.heap.objs.size f cdv))->MSs (Zsg CX0 P w K mg base N qual (Zm st) f cdv A outer s H E).nox [0] (Jy st) (oS S)) :
  FnOk P w K mg base CX0 (n+1) f fd ps (spI K (sI (Zpn np nn S))):=by
 subst hN hp
 refine F.okI Sc (λt ds k h=>?_) λcdv A outer s H E hr=>⟨_,hb cdv A outer s H E hr,λt ds k h=>?_⟩
 ·obtain⟨r,t',h,_⟩:=h
  unfold Zpn at h
  split at h
  ·assumption
  ·cases h
 ·obtain⟨r,t',h,hk⟩:=h
  unfold Zpn at h
  split at h
  case isFalse=>cases h
  have e:Zin N.length t ds=Zfn N t ds:=rfl
  rw[e]at h
  show(S (Zfn N t ds)).fits (Z1b k)
  cases q:S (Zfn N t ds)<;>rw[q]at h<;>unfold RS.toldI at h<;>first|cases h|skip
  ·rename_i δ
   show match δ[0]? with|some (some t)=>k (.fz .none) t|_=>False
   dsimp only at h
   split at h
   ·rename_i z;(try rw[z]);cases h;exact hk
   ·cases h
  ·rename_i r' δ
   show match δ[0]? with|some (some t)=>k r' t|_=>False
   dsimp only at h
   split at h
   ·rename_i z;(try rw[z]);cases h;exact hk
   ·cases h
end
noncomputable def i2(g:Int->Int->Xa):Xa->Xa->Option Xa:=λd e=>match d,e with| .int i,.int j=>some (g i j)|_,_=>none
noncomputable def i2c(c:Int->Int->Bool)(g:Int->Int->Xa):Xa->Xa->Option Xa:=λd e=>match d,e with| .int i,.int j=>if c i j=true then some (g i j)else none|_,_=>none
theorem Zld{g:Int->Int->Xa}:ByS (i2 g) (Zse g):=λd e r k h hk=>by
 unfold i2 at h
 split at h
 ·cases h;exact hk
 ·cases h
theorem Zhh{c:Int->Int->Bool}{C:Int->Int->Prop}{g:Int->Int->Xa}(hc:∀i j,c i j=true->C i j):ByS (i2c c g) (d2I C g):=λd e r k h hk=>by
 unfold i2c at h
 split at h
 ·split at h
  ·cases h;exact⟨hc _ _ ‹_›,hk⟩
  ·cases h
 ·cases h
noncomputable def Z1r(a b:Int):Bool:=!(decide (JN a>shortFactorBits)&&decide (JN b>shortFactorBits)&&UW (JN a+JN b))
noncomputable def Z3b(_ j:Int):Bool:=decide (j≠0)&&decide (j.natAbs.log2<9000)
noncomputable def Ybp(_ j:Int):Bool:=decide (j≠0)
noncomputable def Ybj(i j:Int):Bool:=decide (0≤j∧j≤1000000∧i.natAbs<2^64)
theorem Zif{a b:Int}:Z1r a b=true↔IntMulOk a b:=by
 unfold Z1r IntMulOk
 rw[Bool.not_eq_true',Bool.not_eq_true]
noncomputable def Za0:=i2 λi j=>.int (i+j)
noncomputable def gSb:=i2 λi j=>.int (i-j)
noncomputable def Zcu:=i2c Z1r λi j=>.int (i*j)
noncomputable def J8:=i2c Z3b λi j=>.int (i.fdiv j)
noncomputable def Zg1:=i2c Ybp λi j=>.int (i.fmod j)
noncomputable def Zeq:=i2c Ybj λi j=>.int (i^j.toNat)
noncomputable def gLt:=i2 λi j=>.bool (decide (i<j))
noncomputable def gLe:=i2 λi j=>.bool (decide (i≤j))
noncomputable def gGt:=i2 λi j=>.bool (decide (j<i))
noncomputable def gGe:=i2 λi j=>.bool (decide (j≤i))
theorem Z92:ByS Za0 (Zse λi j=>.int (i+j)):=Zld
theorem Z8p:ByS gSb (Zse λi j=>.int (i-j)):=Zld
theorem Z7q:ByS Zcu (d2I MulOk λi j=>.int (i*j)):=Zhh λi j h=>⟨Zif.mp h⟩
theorem Z57:ByS J8 (d2I Ybk λi j=>.int (i.fdiv j)):=Zhh λi j h=>⟨by
 unfold Z3b at h
 rw[XC]at h
 exact⟨of_decide_eq_true h.1,of_decide_eq_true h.2⟩⟩
theorem Z8w:ByS Zg1 (d2I (λ_ j=>j≠0) λi j=>.int (i.fmod j)):=Zhh λi j h=>of_decide_eq_true h
theorem Z79:ByS Zeq (d2I Z7f λi j=>.int (i^j.toNat)):=Zhh λi j h=>⟨(of_decide_eq_true h:0≤j∧j≤1000000∧i.natAbs<2^64)⟩
theorem Yaq:ByS gLt (Zse λi j=>.bool (decide (i<j))):=Zld
theorem Ydm:ByS gLe (Zse λi j=>.bool (decide (i≤j))):=Zld
theorem Yc2:ByS gGt (Zse λi j=>.bool (decide (j<i))):=Zld
theorem Ydz:ByS gGe (Zse λi j=>.bool (decide (j≤i))):=Zld
noncomputable def gEq:Xa->Xa->Option Xa:=λd e=>if(VJ d&&VJ e)=true then some (.bool (JF d e))else none
noncomputable def gNe:Xa->Xa->Option Xa:=λd e=>if(VJ d&&VJ e)=true then some (.bool (!JF d e))else none
theorem Ycg:ByS gEq dEq:=λd e r k h hk=>by
 unfold gEq at h
 split at h
 ·rename_i q
  rw[XC]at q
  cases h
  exact⟨⟨q.1⟩,⟨q.2⟩,hk⟩
 ·cases h
theorem Ycx:ByS gNe dNe:=λd e r k h hk=>by
 unfold gNe at h
 split at h
 ·rename_i q
  rw[XC]at q
  cases h
  exact⟨⟨q.1⟩,⟨q.2⟩,hk⟩
 ·cases h
noncomputable def gIs:Xa->Xa->Option Xa:=λd e=>match e with| .none=>some (.bool (Zda d))|_=>none
noncomputable def Zmu:Xa->Xa->Option Xa:=λd e=>match e with| .none=>some (.bool (!Zda d))|_=>none
theorem Ycv:ByS gIs Yb2:=λd e r k h hk=>by
 unfold gIs at h
 split at h
 ·cases h;exact⟨rfl,hk⟩
 ·cases h
theorem Zz5:ByS Zmu Z32:=λd e r k h hk=>by
 unfold Zmu at h
 split at h
 ·cases h;exact⟨rfl,hk⟩
 ·cases h
noncomputable def Z1i(neg:Bool):Xa->Xa->Option Xa:=λd e=>match Zm2 e with
 | some ds=>if(scD d&&ds.all scD)=true then some (.bool (if neg then !memS d ds else memS d ds))else none
 | none=>none
theorem Z6a{neg:Bool}:ByS (Z1i neg) (dIn neg):=λd e r k h hk=>by
 unfold Z1i at h
 split at h
 case h_2=>cases h
 rename_i ds q
 split at h
 case isFalse=>cases h
 rename_i q2
 rw[XC]at q2
 cases h
 refine⟨q2.1,?_⟩
 cases e<;>cases q
 ·exact⟨q2.2,hk⟩
 ·exact⟨q2.2,hk⟩
noncomputable def gIx:Xa->Xa->Option OT:=λd e=>(ixD d e).bind λx=>some (.fz x)
theorem Yd1:ByO gIx dIx:=λd e r k h hk=>by
 obtain⟨x,h1,h2⟩:=bs h
 cases h2
 unfold dIx
 rw[h1]
 exact hk
noncomputable def Zlq:Xa->Xa->Option OT:=λd e=>match d,e with| .list ds,.list es=>if ds.length+es.length≤Xq then some (.nd ((ds ++ es).map OT.fz))else none|_,_=>none
theorem Zn8:ByO Zlq dCat:=λd e r k h hk=>by
 unfold Zlq at h
 split at h
 ·split at h
  ·cases h;exact⟨‹_›,hk⟩
  ·cases h
 ·cases h
noncomputable def Zfg:List Xa->Option Xa:=λds=>match ds with|[d]=>(Zs9 d).bind λn=>some (.int n)|_=>none
theorem Z9p:∀ds r k,Zfg ds=some r->k r->Ybi ds k:=λds r k h hk=>by
 unfold Zfg at h
 split at h
 ·obtain⟨n,h1,h2⟩:=bs h
  cases h2
  show match Zs9 _ with|some n=>_|none=>_
  rw[h1]
  exact hk
 ·cases h
noncomputable def Z1j:List Xa->Option Xa:=λds=>match ds with|[.int i]=>some (.int (if i<0 then -i else i))|_=>none
theorem Zyp:∀ds r k,Z1j ds=some r->k r->Ya1 ds k:=λds r k h hk=>by
 unfold Z1j at h
 split at h
 ·cases h;exact hk
 ·cases h
noncomputable def Ycw:List Xa->Option Xa:=λds=>match ds with|[.int i,.int j]=>some (.int (if j>i then j else i))|_=>none
noncomputable def Zu9:List Xa->Option Xa:=λds=>match ds with|[.int i,.int j]=>some (.int (if j<i then j else i))|_=>none
theorem Z6k:∀ds r k,Zu9 ds=some r->k r->Yam ds k:=λds r k h hk=>by
 unfold Zu9 at h
 split at h
 ·cases h;exact hk
 ·cases h
noncomputable def Z1k:List Xa->Option Xa:=λds=>match ds with|[.int i]=>some (.int i)|[.bool b]=>some (.int (if b then 1 else 0))|_=>none
theorem Z9c:∀ds r k,Z1k ds=some r->k r->Ya3 ds k:=λds r k h hk=>by
 unfold Z1k at h
 split at h
 ·cases h;exact hk
 ·cases h;exact hk
 ·cases h
noncomputable def Zh6:List Xa->Option OT:=λds=>match ds with|[d]=>(Zm2 d).bind λes=>some (.nd (es.map OT.fz))|_=>none
theorem Zvw:∀ds r k,Zh6 ds=some r->k r->Z3l ds k:=λds r k h hk=>by
 unfold Zh6 at h
 split at h
 ·obtain⟨n,h1,h2⟩:=bs h
  cases h2
  show match Zm2 _ with|some n=>_|none=>_
  rw[h1]
  exact hk
 ·cases h
noncomputable def Zh5:List Xa->Option (List Int)
 | []=>some []
 | .int i :: r=>(Zh5 r).bind λl=>some (i :: l)
 | _ :: _=>none
theorem Ze4:∀{ds:List Xa} {ns:List Int},Zh5 ds=some ns->ds=ns.map Xo
 | [],_,h=>by cases h;rfl
 | .int i :: r,_,h=>by
  obtain⟨l,h1,h2⟩:=bs h
  cases h2
  rw[Ze4 h1];rfl
 | .none :: _,_,h=>by cases h
 | .bool _ :: _,_,h=>by cases h
 | .str _ :: _,_,h=>by cases h
 | .list _ :: _,_,h=>by cases h
 | .tuple _ :: _,_,h=>by cases h
 | .dict _ :: _,_,h=>by cases h
@[simp] theorem Zds:∀ns:List Int,Zh5 (ns.map Xo)=some ns
 | []=>rfl
 | n :: ns=>by rw[Qs,Zh5,Zds ns];rfl
section
variable {X:Cx}{io:List Nat}{p c:Bool}{e tg:Expr}{es:List Expr}{st:Stmt}{fa fb fc:FE}{ra:FA}{i:Nat}
noncomputable def Yal(a:FA):FE:=λδ=>(a δ).bind λp=>match OT.datas p.1 with|[.int j]=>if rOk j=true∧j.toNat≤Xq then some (.nd ((Zdd 0 j.toNat).map OT.fz),p.2)else none|_=>none
noncomputable def Ybv(a b:FE):FE:=λδ=>(a δ).bind λp=>(b p.2).bind λq=>match q.1.data with| .int k=>if rOk k=true∧k.toNat≤Xq then some (.nd (Bl k.toNat (.fz p.1.data)),p.2)else none|_=>none
end
variable {G:Xb}
section
variable {X:Cx}{io:List Nat}{p c:Bool}{e a b:Expr}{es:List Expr}{m ma mb:MEt}{mr:MAt}{pos apos cpos px py pt sp kp:Pos}{i j:Nat}{x y:Str}{fa fb:FE}{ra:FA}{st:Stmt}
noncomputable def Z4b(m:MAt):MEt:=λδ K=>m δ λrs δ'=>rs.length≤Xq∧K (.tp rs) δ'
theorem Z19{x1}(h:MA X io p c es mr):ME X io p c (.Tuple es x1 pos) (Z4b mr):=by
 obtain⟨tA,A,sa⟩:=h
 refine⟨_,Zo8 A,λC H σ δ fp ex K Q R h k=>?_⟩
 refine sa C H σ δ fp ex _ _ R h λH1 vs rs δ1 fp1 new1 r1 h1=>⟨by rw[r1.own.length];exact h1.1,λq hq=>?_⟩
 have s:=Z8 hq (.tup vs)
 have S:=r1.stp.trans (p':=true) (Stp.same (p:=true) (δ:=δ1) (fp:=fp1) s s.al)
 rw[U5]at S
 exact k _ _ _ δ1 fp1 new1 ⟨(r1.rel.made (new:=[]) s λa m=>nomatch m).drop λa z=>.inl z,S,.tp Zt (r1.own.same s),r1.nd,r1.fresh⟩ h1.2
noncomputable def Zuk(a:FA):FE:=λδ=>(a δ).bind λp=>if p.1.length≤Xq then some (.tp p.1,p.2)else none
theorem Zzi(h:ME X io p c e (Z4b (o2 ra))):ME X io p c e (o2 (Zuk ra)):=h.weak λδ K h=>by
 obtain⟨r,δ',h,k⟩:=h
 obtain⟨⟨x,δ1⟩,h1,h⟩:=bs h
 refine⟨x,δ1,h1,?_⟩
 dsimp only at h
 split at h
 ·rename_i q;cases h;exact⟨q,k⟩
 ·cases h
noncomputable def Zv5(i c:Nat)(e:FE):FS:=λδ=>match δ[i]? with
 | some (some (.tp ts))=>match ts[c]? with
  | some (.nd us)=>wE e (λr _=>if us.length<Xq then .nx (δ.set i (some (.tp (ts.set c (.nd (us ++ [.fz r.data]))))))else .bad) δ
  | _=>.bad
 | _=>.bad
noncomputable def Yaa(i j:Nat)(a:FA):FS:=λδ=>match a δ with
 | some (rs,δ1)=>match OT.datas rs with
  | [d,e]=>.nx ((δ1.set i (some (.fz d))).set j (some (.fz e)))
  | _=>.bad
 | none=>.bad
end
class NoStar (e:Expr):Prop where
 h:∀es env,Xm (e :: es) env=(false,eval e env) :: Xm es env
instance nx_Name{x:Str}{p:Pos}:NoStar (.Name x p):=⟨λ_ _=>rfl⟩
instance nx_Constant{x k}{p:Pos}:NoStar (.Constant x k p):=⟨λ_ _=>rfl⟩
instance nx_BinOp{a o b}{p:Pos}:NoStar (.BinOp a o b p):=⟨λ_ _=>rfl⟩
instance nx_Compare{a o b}{p:Pos}:NoStar (.Compare a o b p):=⟨λ_ _=>rfl⟩
instance nx_Call{f a k}{p:Pos}:NoStar (.Call f a k p):=⟨λ_ _=>rfl⟩
instance nx_List{a}{p:Pos}:NoStar (.List a p):=⟨λ_ _=>rfl⟩
instance nx_Tuple{a k}{p:Pos}:NoStar (.Tuple a k p):=⟨λ_ _=>rfl⟩
instance nx_Subscript{a b}{p:Pos}:NoStar (.Subscript a b p):=⟨λ_ _=>rfl⟩
instance nx_ListComp{a b s}{p:Pos}:NoStar (.ListComp a b s p):=⟨λ_ _=>rfl⟩
theorem Zk{X:Cx}{io:List Nat}{p p' c c' p2 c2:Bool}{e:Expr}{es:List Expr}{fa:FE}{ra:FA}[NoStar e](ha:ME X io p c e (o2 fa))(hr:MA X io p' c' es (o2 ra))(hc:p'=true∨c=true:=by first|exact Qp rfl|exact Qh rfl)(h2:(p&&p')=p2:=by rfl)(h3:(c&&c')=c2:=by rfl):MA X io p2 c2 (e :: es) (o2 (Zd fa ra)) :=
 h2▸h3▸Zzv (Zz4 ha hr hc (NoStar.h es X.env))
theorem Zn9{X:Cx}{io:List Nat}{p p' c c':Bool}{e:Expr}{m:MEt}(h:ME X io p c e m)(h2:p=p':=by rfl)(h3:c=c':=by rfl):ME X io p' c' e m:=h2▸h3▸h
variable {G:Xb}
section
variable {X:Cx}{io:List Nat}{p c:Bool}{e a b:Expr}{es:List Expr}{m ma mb:MEt}{mr:MAt}{pos apos cpos px py pt sp kp:Pos}{i j:Nat}{x y:Str}{fa fb:FE}{ra:FA}{st:Stmt}{u:FS}
noncomputable def Z7i:=i2c Ybj λi j=>.int (i*2^j.toNat)
noncomputable def Z4k:=i2c (λ_ j=>decide (0≤j)) λi j=>.int (i/2^j.toNat)
noncomputable def Z6t:=i2 λi j=>.int (Builtin.bitAnd i j)
theorem Z42{f:Int->Int->Int}:P2s G (rI Z1h λi j=>.int (f i j)) (d2I Z7f λi j=>.int (f i j)):=Zv7
theorem Z9r:ByS Z7i (d2I Z7f λi j=>.int (i*2^j.toNat)):=Zhh λi j h=>⟨(of_decide_eq_true h:0≤j∧j≤1000000∧i.natAbs<2^64)⟩
theorem Z2u:ByS Z4k (d2I (λ_ j=>0≤j) λi j=>.int (i/2^j.toNat)):=Zhh λi j h=>of_decide_eq_true h
theorem Z4y:ByS Z6t (Zse λi j=>.int (Builtin.bitAnd i j)):=Zld
end
structure Gives(P:X6)(w:Qv)(it:Addr)(f:List Addr)(St:Heap->Prop)(x:Xc)(St':Heap->Prop):Prop where
 mem:it∈f
 run:∀{A:Qo} {E:Xc->Xe->Prop} {s:Xe} {Q:Xc->Xe->Prop},St s.heap->(∀h',St' h'->Vp it s.heap h'->Q x { s with heap:=h' })->X5 (Qd P w) A (QT (.ref it)) Q E s
 keep:∀h h',(∀c∈f,∀o,h.get? c=some o->h'.get? c=some o)->St h->St h'
 keep':∀h h',(∀c∈f,∀o,h.get? c=some o->h'.get? c=some o)->St' h->St' h'
structure Zg4(P:X6)(w:Qv)(it:Addr)(f:List Addr)(St:Heap->Prop):Prop where
 mem:it∈f
 run:∀{A:Qo} {E:Xc->Xe->Prop} {s:Xe} {Q:Xc->Xe->Prop},A.handled=none->St s.heap->(∀h' e,Heap.ExtBut it s.heap h'->(∃o,h'.get? e=some o∧o.cls= .type "StopIteration")->E (.ref e) { s with heap:=h' })->X5 (Qd P w) A (QT (.ref it)) Q E s
 keep:∀h h',(∀c∈f,∀o,h.get? c=some o->h'.get? c=some o)->St h->St h'
structure ZA(z TI TO i1 i2:Addr)(f1 f2:List Addr):Prop where
 TIz:TI≠z
 TOz:TO≠z
 a1:∀c∈f1,c≠z∧c≠TO∧c≠i2
 a2:∀c∈f2,c≠z∧c≠TO∧c≠i1
section
variable {P:X6}{w:Qv}{A:Qo}{E:Xc->Xe->Prop}{s:Xe}
theorem Zhw{T:Addr}{a b x:Xc}{k:Nat}{Q:Unit->Xe->Prop}(hT:BK s.heap T a b)(h:∀h',h'.get? T=some { cls:=.type "tuple",data:=.seq ((#[a,b]:Array Xc).setIfInBounds k x) }->Vp T s.heap h'->Q () { s with heap:=h' }) :
  X5 (Qd P w) A (updateSeq T (·.setIfInBounds k x)) Q E s:=wpAny_updateSeq_pair hT h
theorem Zo4{z TI TO i1 i2:Addr}{f1 f2:List Addr}{S1 T1 S2 T2:Heap->Prop}{x y a b:Xc}{Q:Xc->Xe->Prop}(D:ZA z TI TO i1 i2 f1 f2)(G1:Gives P w i1 f1 S1 x T1)(G2:Gives P w i2 f2 S2 y T2)
  (hz:U9 s.heap z TI TO .none) (hTI:BK s.heap TI (.ref i1) (.ref i2)) (hTO:BK s.heap TO a b) (h1:S1 s.heap) (h2:S2 s.heap)
  (hQ:∀h',U9 h' z TI TO (rawInt s.heap.objs.size)->BK h' TO x y->T1 h'->T2 h'->BK h' s.heap.objs.size x y ->
   (∀ c o,c∉[z,TO,i1,i2]->s.heap.get? c=some o->h'.get? c=some o)->Q (.ref s.heap.objs.size) { s with heap:=h' }) :
  X5 (Qd P w) A (Builtin.«zip.__next__» ⟨[.ref z],[]⟩) (λfin s'=>∃v,fin= .done (.ret v)∧Q v s') E s:=by
 obtain⟨i1z,i1O,i12⟩:=D.a1 i1 G1.mem
 obtain⟨i2z,i2O,i21⟩:=D.a2 i2 G2.mem
 have r1:z∉f1∧TO∉f1∧i2∉f1:=⟨λm=>(D.a1 z m).1 rfl,λm=>(D.a1 TO m).2.1 rfl,λm=>(D.a1 i2 m).2.2 rfl⟩
 have r2:z∉f2∧TO∉f2∧i1∉f2:=⟨λm=>(D.a2 z m).1 rfl,λm=>(D.a2 TO m).2.1 rfl,λm=>(D.a2 i1 m).2.2 rfl⟩
 have st:∀{b:Addr} {h h':Heap} {f:List Addr},Vp b h h'->b∉f->∀c∈f,∀o,h.get? c=some o->h'.get? c=some o:=λsb hb c hc o e=>sb.extBut _ _ (λq=>hb (q▸hc)) e
 show X5 _ _ (field (.ref z) 2>>=_) _ _ _
 refine Xf (BL hz rfl (x:=.bool false) rfl ?_)
 show X5 _ _ (field (.ref z) 3>>=_) _ _ _
 refine Xf (BL hz rfl (x:=.ref TI) rfl (Xf (Ve hTI rfl ?_)))
 show X5 _ _ (Bf (.ref z)>>=_) _ _ _
 refine Xf ?_
 unfold Bf
 refine Xf (BL hz rfl (x:=.none) rfl (Qc ?_))
 simp only[if_true]
 refine Xf (wpAny_rule (Xf (BL hz rfl (x:=.ref TO) rfl (Xf (Vh hz (by simp) λh3 z3 b3=>?_)))))
 replace z3:U9 h3 z TI TO .ellipsis:=z3
 refine Xf ?_
 simp only[List.zipIdx_cons,List.zipIdx_nil,Ug,VN]
 refine Xf (Xf (wpAny_onRaise ?_))
 show X5 _ _ (QT (.ref i1)>>=_) _ _ _
 refine Xf (G1.run (s:={ s with heap:=h3 }) (G1.keep _ _ (st b3 r1.1) h1) λh4 k4 b4=>Qc ?_)
 have o4:BK h4 TO a b:=b4.extBut _ _ i1O.symm (b3.extBut _ _ D.TOz hTO)
 refine Xf (Ve o4 rfl (Xf (Zhw (s:={ s with heap:=h4 }) o4 λh5 o5 b5=>Xf (wpAny_letGo (Qc ?_)))))
 replace o5:BK h5 TO x b:=o5
 refine Xf (Xf (wpAny_onRaise ?_))
 show X5 _ _ (QT (.ref i2)>>=_) _ _ _
 refine Xf (G2.run (s:={ s with heap:=h5 }) (G2.keep _ _ (st b5 r2.2.1) (G2.keep _ _ (st b4 r2.2.2) (G2.keep _ _ (st b3 r2.1) h2))) λh6 k6 b6=>Qc ?_)
 have o6:BK h6 TO x b:=b6.extBut _ _ i2O.symm o5
 refine Xf (Ve o6 rfl (Xf (Zhw (s:={ s with heap:=h6 }) o6 λh7 o7 b7=>Xf (wpAny_letGo (Qc (Qc ?_))))))
 replace o7:BK h7 TO x y:=o7
 refine Xf (Ve o7 rfl (Xf (wpAny_newTuple ?_)))
 have sz:h7.objs.size=s.heap.objs.size:=by rw[b7.1,b6.1,b5.1,b4.1,b3.1]
 have z7:U9 h7 z TI TO .ellipsis:=b7.extBut _ _ D.TOz.symm (b6.extBut _ _ i2z.symm (b5.extBut _ _ D.TOz.symm (b4.extBut _ _ i1z.symm z3)))
 have t1:T1 h7:=G1.keep' _ _ (st b7 r1.2.1) (G1.keep' _ _ (st b6 r1.2.2) (G1.keep' _ _ (st b5 r1.2.1) k4))
 have t2:T2 h7:=G2.keep' _ _ (st b7 r2.2.1) k6
 have old:∀c o,c∉[z,TO,i1,i2]->s.heap.get? c=some o->h7.get? c=some o:=λc o n e=>by
  simp only[Xk,V6,or_false,not_or]at n
  exact b7.extBut _ _ n.2.1 (b6.extBut _ _ n.2.2.2 (b5.extBut _ _ n.2.1 (b4.extBut _ _ n.2.2.1 (b3.extBut _ _ n.1 e))))
 show X5 _ _ (Ur (.ref z) (.ref h7.objs.size)>>=_) _ _ _
 refine Xf ?_
 unfold Ur
 have zp:U9 (h7.push { cls:=.type "tuple",data:=.seq #[x,y] }) z TI TO .ellipsis:=Xl _ z7
 refine Xf (Vh zp (by simp) λh8 z8 b8=>?_)
 replace z8:U9 h8 z TI TO (rawInt h7.objs.size):=z8
 refine Vh z8 (by simp) λh9 z9 b9=>?_
 replace z9:U9 h9 z TI TO (rawInt h7.objs.size):=z9
 have up:∀c o,c≠z->h7.get? c=some o->h9.get? c=some o:=λc o n e=>b9.extBut _ _ n (b8.extBut _ _ n (Xl _ e))
 have nz:h7.objs.size≠z:=XH (Xw z7)
 have p9:BK h9 h7.objs.size x y:=b9.extBut _ _ nz (b8.extBut _ _ nz (Qi _ rfl))
 refine Qc ⟨_,rfl,?_⟩
 show Q (.ref h7.objs.size) _
 rw[sz]at z9 p9⊢
 exact hQ h9 z9 (up _ _ D.TOz o7) (G1.keep' _ _ (λc hc o e=>up c o (λq=>r1.1 (q▸hc)) e) t1) (G2.keep' _ _ (λc hc o e=>up c o (λq=>r2.1 (q▸hc)) e) t2) p9 λc o n e=>up c o (λq=>n (by simp[q])) (old c o n e)
theorem Zva{z TI TO i1 i2:Addr}{f1 f2:List Addr}{S1 T1 S2:Heap->Prop}{a b:Xc}{Q:Fin->Xe->Prop}(hh:A.handled=none)(D:ZA z TI TO i1 i2 f1 f2)(g1:Zg4 P w i1 f1 S1∨(∃x,Gives P w i1 f1 S1 x T1)∧Zg4 P w i2 f2 S2)
  (hz:U9 s.heap z TI TO .none) (hTI:BK s.heap TI (.ref i1) (.ref i2)) (hTO:BK s.heap TO a b) (h1:S1 s.heap) (h2:S2 s.heap)
  (hE:∀h' e,(∀c o,c∉[z,TO,i1,i2]->s.heap.get? c=some o->h'.get? c=some o)->(∃o,h'.get? e=some o∧o.cls= .type "StopIteration")->E (.ref e) { s with heap:=h' }) :
  X5 (Qd P w) A (Builtin.«zip.__next__» ⟨[.ref z],[]⟩) Q E s:=by
 have r1:z∉f1∧TO∉f1∧i2∉f1:=⟨λm=>(D.a1 z m).1 rfl,λm=>(D.a1 TO m).2.1 rfl,λm=>(D.a1 i2 m).2.2 rfl⟩
 have r2:z∉f2∧TO∉f2∧i1∉f2:=⟨λm=>(D.a2 z m).1 rfl,λm=>(D.a2 TO m).2.1 rfl,λm=>(D.a2 i1 m).2.2 rfl⟩
 have st:∀{b:Addr} {h h':Heap} {f:List Addr},Vp b h h'->b∉f->∀c∈f,∀o,h.get? c=some o->h'.get? c=some o:=λsb hb c hc o e=>sb.extBut _ _ (λq=>hb (q▸hc)) e
 show X5 _ _ (field (.ref z) 2>>=_) _ _ _
 refine Xf (BL hz rfl (x:=.bool false) rfl ?_)
 show X5 _ _ (field (.ref z) 3>>=_) _ _ _
 refine Xf (BL hz rfl (x:=.ref TI) rfl (Xf (Ve hTI rfl ?_)))
 show X5 _ _ (Bf (.ref z)>>=_) _ _ _
 refine Xf ?_
 unfold Bf
 refine Xf (BL hz rfl (x:=.none) rfl (Qc ?_))
 simp only[if_true]
 refine Xf (wpAny_rule (Xf (BL hz rfl (x:=.ref TO) rfl (Xf (Vh hz (by simp) λh3 z3 b3=>?_)))))
 replace z3:U9 h3 z TI TO .ellipsis:=z3
 refine Xf ?_
 simp only[List.zipIdx_cons,List.zipIdx_nil,Ug,VN]
 refine Xf (Xf (wpAny_onRaise ?_))
 show X5 _ _ (QT (.ref i1)>>=_) _ _ _
 rcases g1 with G1|⟨⟨x,G1⟩,G2⟩
 ·obtain⟨i1z,i1O,i12⟩:=D.a1 i1 G1.mem
  refine Xf (G1.run (s:={ s with heap:=h3 }) hh (G1.keep _ _ (st b3 r1.1) h1) λh4 e b4 he=>?_)
  obtain⟨oe,hoe,hce⟩:=he
  have z4:U9 h4 z TI TO .ellipsis:=b4 _ _ i1z.symm z3
  have ez:e≠z:=λq=>by subst q;rw[z4]at hoe;cases hoe;simp at hce
  refine Vh z4 (by simp) λh5 _ b5=>hE h5 e (λc o n q=>?_) ⟨oe,b5.extBut _ _ ez hoe,hce⟩
  simp only[Xk,V6,or_false,not_or]at n
  exact b5.extBut _ _ n.1 (b4 _ _ n.2.2.1 (b3.extBut _ _ n.1 q))
 ·obtain⟨i1z,i1O,i12⟩:=D.a1 i1 G1.mem
  obtain⟨i2z,i2O,i21⟩:=D.a2 i2 G2.mem
  refine Xf (G1.run (s:={ s with heap:=h3 }) (G1.keep _ _ (st b3 r1.1) h1) λh4 k4 b4=>Qc ?_)
  have o4:BK h4 TO a b:=b4.extBut _ _ i1O.symm (b3.extBut _ _ D.TOz hTO)
  refine Xf (Ve o4 rfl (Xf (Zhw (s:={ s with heap:=h4 }) o4 λh5 o5 b5=>Xf (wpAny_letGo (Qc ?_)))))
  refine Xf (Xf (wpAny_onRaise ?_))
  show X5 _ _ (QT (.ref i2)>>=_) _ _ _
  refine Xf (G2.run (s:={ s with heap:=h5 }) hh (G2.keep _ _ (st b5 r2.2.1) (G2.keep _ _ (st b4 r2.2.2) (G2.keep _ _ (st b3 r2.1) h2))) λh6 e b6 he=>?_)
  obtain⟨oe,hoe,hce⟩:=he
  have z6:U9 h6 z TI TO .ellipsis:=b6 _ _ i2z.symm (b5.extBut _ _ D.TOz.symm (b4.extBut _ _ i1z.symm z3))
  have ez:e≠z:=λq=>by subst q;rw[z6]at hoe;cases hoe;simp at hce
  refine Vh z6 (by simp) λh7 _ b7=>hE h7 e (λc o n q=>?_) ⟨oe,b7.extBut _ _ ez hoe,hce⟩
  simp only[Xk,V6,or_false,not_or]at n
  exact b7.extBut _ _ n.1 (b6 _ _ n.2.2.2 (b5.extBut _ _ n.2.1 (b4.extBut _ _ n.2.2.1 (b3.extBut _ _ n.1 q))))
theorem Zog{z TI TO i1 i2:Addr}{f1 f2:List Addr}{S1 T1 S2 T2:Heap->Prop}{x y a b:Xc}{Q:Option Xc->Xe->Prop}(D:ZA z TI TO i1 i2 f1 f2)(G1:Gives P w i1 f1 S1 x T1)(G2:Gives P w i2 f2 S2 y T2)
  (hz:U9 s.heap z TI TO .none) (hTI:BK s.heap TI (.ref i1) (.ref i2)) (hTO:BK s.heap TO a b) (h1:S1 s.heap) (h2:S2 s.heap)
  (hQ:∀h',U9 h' z TI TO (rawInt s.heap.objs.size)->BK h' TO x y->T1 h'->T2 h'->BK h' s.heap.objs.size x y ->
   (∀ c o,c∉[z,TO,i1,i2]->s.heap.get? c=some o->h'.get? c=some o)->Q (some (.ref s.heap.objs.size)) { s with heap:=h' }):X5 (Qd P w) A (pyNext (.ref z)) Q E s:=by
 have hT:s.TypeIs (.ref z) "zip" :=⟨_,hz,rfl⟩
 unfold pyNext
 exact Xf (wpAny_attempt (V2 (name:=Str.ofString "__next__") hT F.slot_zip_next (Vy F.slot_zip_next hT F.entry_zip_next (Zo4 D G1 G2 hz hTI hTO h1 h2 λh' a1 a2 a3 a4 a5 a6=>Qc (hQ h' a1 a2 a3 a4 a5 a6)) (F.args_zip_next_1 _))))
theorem Zov{z TI TO i1 i2:Addr}{f1 f2:List Addr}{S1 T1 S2:Heap->Prop}{a b:Xc}{Q:Option Xc->Xe->Prop}(hh:A.handled=none)(D:ZA z TI TO i1 i2 f1 f2)(g1:Zg4 P w i1 f1 S1∨(∃x,Gives P w i1 f1 S1 x T1)∧Zg4 P w i2 f2 S2)
  (hz:U9 s.heap z TI TO .none) (hTI:BK s.heap TI (.ref i1) (.ref i2)) (hTO:BK s.heap TO a b) (h1:S1 s.heap) (h2:S2 s.heap)
  (hQ:∀h',(∀c o,c∉[z,TO,i1,i2]->s.heap.get? c=some o->h'.get? c=some o)->Q none { s with heap:=h' }):X5 (Qd P w) A (pyNext (.ref z)) Q E s:=by
 have hT:s.TypeIs (.ref z) "zip" :=⟨_,hz,rfl⟩
 unfold pyNext
 refine Xf (wpAny_attempt (V2 (name:=Str.ofString "__next__") hT F.slot_zip_next (Vy F.slot_zip_next hT F.entry_zip_next (Zva hh D g1 hz hTI hTO h1 h2 λh' e hk he=>?_) (F.args_zip_next_1 _))))
 obtain⟨o,ho,hc⟩:=he
 exact Xf (wpAny_isInstance (T :="StopIteration") (b:=true) ⟨o,ho,hc⟩ isSubtype_stop (Qc (hQ _ hk)))
theorem Zor{it t:Addr}{i:Nat}{items:Array Xc}{x:Xc}(hx:items[i]? =some x):Gives P w it [it,t] (λh=>IsTupIter h it t i∧IsTup h t items) x (λh=>IsTupIter h it t (i+1)) where
 mem:=by simp
 run:=fun{A E s Q} ⟨hit,ht⟩ hQ=>by
  obtain⟨o,ho,hc,hd⟩:=id hit
  obtain⟨ol,hol,_,nl,hdl⟩:=ht
  unfold QT
  refine Xf (V2 (name:=Str.ofString "__next__") hit.typeIs Uy (Vy Uy hit.typeIs entry_tupleiter_next ?_ (args_tupleiter_next _)))
  show X5 _ _ (field (.ref it) 0>>=_) _ _ s
  refine Xf (BL ho hd (x:=.ref t) rfl ?_)
  show X5 _ _ (if(QS t==QF)=true then _ else _) _ _ s
  rw[if_neg (show¬((QS t==QF)=true)from Xy)]
  show X5 _ _ (field (.ref it) 1>>=_) _ _ s
  refine Xf (BL ho hd (x:=.int i 0) rfl ?_)
  show X5 _ _ (seqItems? (.ref t)>>=_) _ _ s
  refine Xf (Ve hol hdl ?_)
  simp only[Ba,hx]
  refine Xf (wpAny_setField ho hd (by simp) (Qc ⟨x,rfl,Qc (hQ _ ?_ (Heap.SameBut.update ..))⟩))
  exact⟨_,Heap.get?_update_self _ ho (Obj.isFreed_of_fields (Obj.data_mapFields hd _)),(Obj.cls_mapFields ..).trans hc,by rw[Obj.data_mapFields hd];simp[rawInt]⟩
 keep:=λh h' k ⟨⟨o,a1,a2⟩,⟨o',b1,b2⟩⟩=>⟨⟨o,k it (by simp) o a1,a2⟩,⟨o',k t (by simp) o' b1,b2⟩⟩
 keep':=λh h' k ⟨o,a1,a2⟩=>⟨o,k it (by simp) o a1,a2⟩
theorem Zus{it t:Addr}{i:Nat}{items:Array Xc}(hx:items[i]? =none):Zg4 P w it [it,t] (λh=>IsTupIter h it t i∧IsTup h t items) where
 mem:=by simp
 run:=fun{A E s Q} hh ⟨hit,ht⟩ hE=>by
  obtain⟨o,ho,hc,hd⟩:=id hit
  obtain⟨ol,hol,_,nl,hdl⟩:=ht
  unfold QT
  refine Xf (V2 (name:=Str.ofString "__next__") hit.typeIs Uy (Vy Uy hit.typeIs entry_tupleiter_next ?_ (args_tupleiter_next _)))
  show X5 _ _ (field (.ref it) 0>>=_) _ _ s
  refine Xf (BL ho hd (x:=.ref t) rfl ?_)
  show X5 _ _ (if(QS t==QF)=true then _ else _) _ _ s
  rw[if_neg (show¬((QS t==QF)=true)from Xy)]
  show X5 _ _ (field (.ref it) 1>>=_) _ _ s
  refine Xf (BL ho hd (x:=.int i 0) rfl ?_)
  show X5 _ _ (seqItems? (.ref t)>>=_) _ _ s
  refine Xf (Ve hol hdl ?_)
  simp only[Ba,hx]
  refine Xf (wpAny_rule (Xf (wpAny_setField ho hd (by simp) ?_)))
  show X5 _ _ (newExc (.type "StopIteration") []>>=_) _ _ _
  refine Xf ?_
  simp only[newExc,newTuple]
  refine Xf (wpAny_newObj_type ?_ (by size_fits))
  refine Xf (m:=firstArgMember _ _) (wpAny_of_eq (a:=QF) (by first|rfl|(simp only[firstArgMember];rfl)) ?_)
  refine wpAny_newObj_type ?_ (by size_fits)
  simp only[raiseNew]
  refine Xf (wpAny_handled ?_)
  first|rw[show A.in1.handled=none from hh]|rw[hh]
  exact Xf (Qc (wpAny_throw (hE _ _ (((Heap.SameBut.update ..).extBut.push _).push _) ⟨_,Qi _ rfl,rfl⟩)))
 keep:=λh h' k ⟨⟨o,a1,a2⟩,⟨o',b1,b2⟩⟩=>⟨⟨o,k it (by simp) o a1,a2⟩,⟨o',k t (by simp) o' b1,b2⟩⟩
end
noncomputable abbrev zT1(h:Heap)(a:Addr):Heap:=h.push { cls:=.type "tuple_iterator",data:=.fields #[.ref a,.int 0 0] }
noncomputable abbrev zT2(h:Heap)(a b:Addr):Heap:=(zT1 h a).push { cls:=.type "tuple_iterator",data:=.fields #[.ref b,.int 0 0] }
noncomputable abbrev zT3(h:Heap)(a b:Addr):Heap:=(zT2 h a b).push { cls:=.type "tuple",data:=.seq #[.ref h.objs.size,.ref (zT1 h a).objs.size] }
noncomputable abbrev zT4(h:Heap)(a b:Addr):Heap:=(zT3 h a b).push { cls:=.type "tuple",data:=.seq #[.none,.none] }
noncomputable abbrev zT5(h:Heap)(a b:Addr):Heap:=(zT4 h a b).push { cls:=.type "zip",data:=.fields #[.none,.bool false,.bool false,.ref (zT2 h a b).objs.size,.ref (zT3 h a b).objs.size] }
theorem Ztb(a b:Addr)(xs ys:Array Xc) :
  Meets (Builtin.«zip.__new__» ⟨[.type "zip",.ref a,.ref b],[]⟩) (λ_ R s=>IsTup s.heap a xs∧IsTup s.heap b ys∧R (.ok (.ret (.ref (zT4 s.heap a b).objs.size))) { s with heap:=zT5 s.heap a b }) :=
 .of_wp λprog w A R s h=>by
  obtain⟨hp,g,d,tk,os⟩:=s
  obtain⟨h1,h2,h⟩:=h
  have hsub:=sub_zip
  have hL1:IsTup (Xe.heap ⟨hp,g,d,tk,os⟩) a xs:=h1
  have hL2:IsTup (Xe.heap ⟨hp.push { cls:=.type "tuple_iterator",data:=.fields #[.ref a,.int 0 0] },g,d,tk,os⟩) b ys:=h2.push _
  wp_walk using iter_tuple hL1,iter_tuple hL2
  exact⟨_,rfl,h⟩
section
variable {P:X6}{w:Qv}{A:Qo}{E:Xc->Xe->Prop}{s:Xe}
theorem Zrw{a b:Addr}{xs ys:Array Xc}{Q:Xc->Xe->Prop}(h1:IsTup s.heap a xs)(h2:IsTup s.heap b ys)
  (h:∀h' n,n=s.heap.objs.size->U9 h' (n+4) (n+2) (n+3) .none->BK h' (n+2) (.ref n) (.ref (n+1))->BK h' (n+3) .none .none->IsTupIter h' n a 0->IsTupIter h' (n+1) b 0 ->
   (∀ c o,s.heap.get? c=some o->h'.get? c=some o)->Q (.ref (n+4)) { s with heap:=h' }):X5 (Qd P w) A (call (.type "zip") [.ref a,.ref b]) Q E s:=by
 refine callType_new F.called_zip (by decide) (F.typeCall_zip_2 _ _) (F.newCall_zip_2 _ _) (λobj=>F.args_object_init_3 obj _ _) F.entry_zip_new (Ztb a b xs ys) ⟨h1,h2,?_⟩
 have e1:(zT1 s.heap a).objs.size=s.heap.objs.size+1:=Q9 ..
 have e2:(zT2 s.heap a b).objs.size=s.heap.objs.size+2:=by rw[Q9,e1]
 have e3:(zT3 s.heap a b).objs.size=s.heap.objs.size+3:=by rw[Q9,e2]
 have e4:(zT4 s.heap a b).objs.size=s.heap.objs.size+4:=by rw[Q9,e3]
 have up:∀{c o},(zT1 s.heap a).get? c=some o->(zT5 s.heap a b).get? c=some o:=λx=>Xl _ (Xl _ (Xl _ (Xl _ x)))
 have p5:(zT5 s.heap a b).get? (zT4 s.heap a b).objs.size=some _:=Qi _ rfl
 have p4:(zT5 s.heap a b).get? (zT3 s.heap a b).objs.size=some _:=Xl _ (Qi _ rfl)
 have p3:(zT5 s.heap a b).get? (zT2 s.heap a b).objs.size=some _:=Xl _ (Xl _ (Qi _ rfl))
 have p2:(zT5 s.heap a b).get? (zT1 s.heap a).objs.size=some _:=Xl _ (Xl _ (Xl _ (Qi _ rfl)))
 have p1:(zT5 s.heap a b).get? s.heap.objs.size=some _:=up (Qi _ rfl)
 show _∧_
 rw[e2,e3,e4]at p5
 rw[e1,e2]at p3
 rw[e3]at p4
 rw[e1]at p2
 rw[e4]
 exact⟨⟨_,p5,rfl⟩,h _ _ rfl p5 p3 p4 ⟨_,p1,rfl,rfl⟩ ⟨_,p2,rfl,rfl⟩ λc o x=>up (Xl _ x)⟩
end
theorem nn{n a b:Nat}(h:a≠b):n+a≠n+b:=λe=>h (Nat.add_left_cancel e)
theorem n0{n b:Nat}(h:0≠b):n≠n+b:=λe=>h (Nat.add_left_cancel (n:=n) e)
theorem nlt{n a c:Nat}(h:a<n):a≠n+c:=Xp (Qj h (Vq ..))
theorem ZA.new{n a b:Nat}(h1:a<n)(h2:b<n):ZA (n+4) (n+2) (n+3) n (n+1) [n,a] [n+1,b] where
 TIz:=(by first|exact nn (by decide)|exact n0 (by decide)|exact(n0 (by decide)).symm|exact nlt h1|exact nlt h2|exact(nlt h1).symm|exact(nlt h2).symm|exact Xp h1|exact Xp h2|exact XH h1|exact XH h2|omega)
 TOz:=(by first|exact nn (by decide)|exact n0 (by decide)|exact(n0 (by decide)).symm|exact nlt h1|exact nlt h2|exact(nlt h1).symm|exact(nlt h2).symm|exact Xp h1|exact Xp h2|exact XH h1|exact XH h2|omega)
 a1:=λc hc=>by
  simp only[Xk,V6,or_false]at hc
  rcases hc with rfl|rfl
  ·exact⟨(by first|exact nn (by decide)|exact n0 (by decide)|exact(n0 (by decide)).symm|exact nlt h1|exact nlt h2|exact(nlt h1).symm|exact(nlt h2).symm|exact Xp h1|exact Xp h2|exact XH h1|exact XH h2|omega),(by first|exact nn (by decide)|exact n0 (by decide)|exact(n0 (by decide)).symm|exact nlt h1|exact nlt h2|exact(nlt h1).symm|exact(nlt h2).symm|exact Xp h1|exact Xp h2|exact XH h1|exact XH h2|omega),(by first|exact nn (by decide)|exact n0 (by decide)|exact(n0 (by decide)).symm|exact nlt h1|exact nlt h2|exact(nlt h1).symm|exact(nlt h2).symm|exact Xp h1|exact Xp h2|exact XH h1|exact XH h2|omega)⟩
  ·exact⟨(by first|exact nn (by decide)|exact n0 (by decide)|exact(n0 (by decide)).symm|exact nlt h1|exact nlt h2|exact(nlt h1).symm|exact(nlt h2).symm|exact Xp h1|exact Xp h2|exact XH h1|exact XH h2|omega),(by first|exact nn (by decide)|exact n0 (by decide)|exact(n0 (by decide)).symm|exact nlt h1|exact nlt h2|exact(nlt h1).symm|exact(nlt h2).symm|exact Xp h1|exact Xp h2|exact XH h1|exact XH h2|omega),(by first|exact nn (by decide)|exact n0 (by decide)|exact(n0 (by decide)).symm|exact nlt h1|exact nlt h2|exact(nlt h1).symm|exact(nlt h2).symm|exact Xp h1|exact Xp h2|exact XH h1|exact XH h2|omega)⟩
 a2:=λc hc=>by
  simp only[Xk,V6,or_false]at hc
  rcases hc with rfl|rfl
  ·exact⟨(by first|exact nn (by decide)|exact n0 (by decide)|exact(n0 (by decide)).symm|exact nlt h1|exact nlt h2|exact(nlt h1).symm|exact(nlt h2).symm|exact Xp h1|exact Xp h2|exact XH h1|exact XH h2|omega),(by first|exact nn (by decide)|exact n0 (by decide)|exact(n0 (by decide)).symm|exact nlt h1|exact nlt h2|exact(nlt h1).symm|exact(nlt h2).symm|exact Xp h1|exact Xp h2|exact XH h1|exact XH h2|omega),(by first|exact nn (by decide)|exact n0 (by decide)|exact(n0 (by decide)).symm|exact nlt h1|exact nlt h2|exact(nlt h1).symm|exact(nlt h2).symm|exact Xp h1|exact Xp h2|exact XH h1|exact XH h2|omega)⟩
  ·exact⟨(by first|exact nn (by decide)|exact n0 (by decide)|exact(n0 (by decide)).symm|exact nlt h1|exact nlt h2|exact(nlt h1).symm|exact(nlt h2).symm|exact Xp h1|exact Xp h2|exact XH h1|exact XH h2|omega),(by first|exact nn (by decide)|exact n0 (by decide)|exact(n0 (by decide)).symm|exact nlt h1|exact nlt h2|exact(nlt h1).symm|exact(nlt h2).symm|exact Xp h1|exact Xp h2|exact XH h1|exact XH h2|omega),(by first|exact nn (by decide)|exact n0 (by decide)|exact(n0 (by decide)).symm|exact nlt h1|exact nlt h2|exact(nlt h1).symm|exact(nlt h2).symm|exact Xp h1|exact Xp h2|exact XH h1|exact XH h2|omega)⟩
theorem ZA.new2(n:Nat):(n+2:Nat)≠n+3∧(n+2:Nat)≠n∧(n+2:Nat)≠n+1:=⟨nn (by decide),(n0 (by decide)).symm,nn (by decide)⟩
section
variable {X:Cx}{io:List Nat}{p c:Bool}{a b:Expr}{mr:MAt}
noncomputable def Z2f(ds:List Xa):Option (List Xa):=match ds with|[.list as,.list bs]=>some (Zmm as bs)|[.tuple as,.tuple bs]=>some (Zmm as bs)|_=>none
noncomputable def Znl(a:FA):FI:=λδ=>(a δ).bind λp=>(Z2f (OT.datas p.1)).bind λds=>some (ds,p.2)
end
variable {G:Xb}
section
variable {X:Cx}{io:List Nat}{p c:Bool}{a b e:Expr}{mr:MAt}{ra:FA}{i:Nat}
noncomputable def isFn(y:Str)(d:Xa):Bool:=match d with| .dict [(.str x,.bool true)]=>decide (x=y)|_=>false
theorem Zyn{y:Str}{d:Xa}(h:isFn y d=true):d=fnD y:=by
 unfold isFn at h
 split at h
 ·rw[of_decide_eq_true h];rfl
 ·cases h
theorem Z0f(y:Str):isFn y (fnD y)=true:=decide_eq_true rfl
noncomputable def Zdr(i:Nat)(y:Str)(F:FD)(a:FA):FE:=λδ=>match δ[i]? with
 | some (some (.fz d))=>if isFn y d=true then Z0 F a δ else none
 | _=>none
theorem Zmq{y:Str}{F:FD}(h:ME X io p c e (Zwr i y (sD F) (o2 ra))):ME X io p c e (o2 (Zdr i y F ra)):=h.weak λδ K h=>by
 obtain⟨r,δ',h,k⟩:=h
 unfold Zdr at h
 split at h
 ·rename_i d hd
  by_cases hf:isFn y d=true
  ·rw[if_pos hf]at h
   refine⟨by rw[hd,Zyn hf],?_⟩
   obtain⟨⟨x,δ1⟩,h1,h⟩:=bs h
   refine⟨x,δ1,h1,?_⟩
   dsimp only at h
   split at h
   ·rename_i q;cases h;exact⟨_,q,k⟩
   ·cases h
  ·rw[if_neg hf]at h;cases h
 ·cases h
end
noncomputable def Z8j:List Int->Int
 | []=>0
 | x :: xs=>xs.foldl min x
theorem Zsa(xs:List Int)(x:Int):xs.foldl min x∈x :: xs∧∀a∈x :: xs,xs.foldl min x≤a:=by
 induction xs generalizing x with
 | nil=>exact⟨.head _,λa h=>by rw[Xu.mp h];exact Ue _⟩
 | cons y ys ih=>
  obtain⟨h1,h2⟩:=ih (min x y)
  rw[List.foldl_cons]
  refine⟨?_,λa h=>?_⟩
  ·rcases Xk.mp h1 with h|h
   ·rw[h]
    rcases Int.le_total x y with z|z
    ·rw[Int.min_eq_left z];exact .head _
    ·rw[Int.min_eq_right z];exact .tail _ (.head _)
   ·exact .tail _ (.tail _ h)
  ·have h0:=h2 _ (.head _)
   rcases Xk.mp h with rfl|h
   ·exact QR h0 (Int.min_le_left ..)
   ·rcases Xk.mp h with rfl|h
    ·exact QR h0 (Int.min_le_right ..)
    ·exact h2 a (.tail _ h)
theorem Zr5{ns:List Int}(h:0<ns.length):Z8j ns∈ns∧∀a∈ns,Z8j ns≤a:=by
 cases ns with
 | nil=>cases h
 | cons x xs=>exact Zsa xs x
noncomputable def Yab(K:Xb)(l:Addr):It :=
 ⟨λi H=>∃xs x,SqL K H l xs∧xs[i]? =some x,
   λi H v H'=>∃p x,H p=none∧v= .ref p∧H'=upd H p (.tup [.int i,x])∧∀xs,SqL K H l xs->xs[i]? =some x,
   λi H=>∃xs,SqL K H l xs∧xs.length≤i⟩
noncomputable def StE(z it l:Addr)(i:Nat)(h:Heap):Prop:=(∃old,IsEnum h z it (i:Int) old)∧h.IsListIter it l i
theorem Zqb{P:X6}{w:Qv}{K:Xb}{es:List Expr}{kk:Nat}{pos:Pos}{z it l:Addr}(hne:z≠it):Turn P w K (.Tuple es kk pos) (Yab K l) [z,it] z (StE z it l) where
 mem:=.head _
 obj:=λi h st b hb=>by
  obtain⟨⟨old,s1⟩,o4,e4,_,d4⟩:=st
  rcases Xk.mp hb with rfl|hb
  ·exact⟨_,s1,λv q=>by cases q⟩
  ·rcases Xu.mp hb with rfl
   exact⟨_,e4,λv q=>by rw[d4]at q;cases q⟩
 keep:=λi h h' st k=>by
  obtain⟨⟨old,s1⟩,s4⟩:=st
  exact⟨⟨old,k z (.head _) _ s1⟩,s4.at λo e=>k it (.tail _ (.head _)) o e⟩
 item:=by
  intro X hP hw hK hc i pins s σ H E I hf st hg
  subst hP hw hK
  obtain⟨⟨old,s1⟩,s4⟩:=st
  obtain⟨xs,x,hx,ex⟩:=hg
  obtain⟨its,rx,px,hzx⟩:=I.list hx
  obtain⟨u,hu,ru⟩:=rx.get ex
  refine wpAny_pyNext_enum_item s1 s4 px.isList (by simpa using hu) hne λh' g1 g2 g3 g4 g5=>?_
  refine⟨_,rfl,wpAny_letOwnedTupleGo_enum (s:={ s with heap:=h',toks:=s.toks+1 }) g1 λh2 z2 sb=>?_⟩
  have hTz:s.heap.objs.size≠z:=XH (Xw s1)
  have up:∀c o,c≠z->h'.get? c=some o->h2.get? c=some o:=λc o n e=>(sb.2 c n).trans e
  have kp:∀b o,b∉[z,it]->s.heap.get? b=some o->h2.get? b=some o:=λb o n e=>by
   have n1:b≠z:=λq=>n (q▸ .head _)
   exact up b o n1 (g5 b o n1 (λq=>n (q▸ .tail _ (.head _))) e)
  have t5:=up _ _ hTz g3
  have g2':h2.IsListIter it l (i+1):=g2.at λo e=>up _ o (JP hne) e
  have I2:Inv X pins σ (upd H s.heap.objs.size (.tup [.int i,x])) { s with heap:=h2,toks:=s.toks+1 }:=by
   refine(I.tok (s.toks+1)).turnTup (ch:=[z,it]) (its:=[.int i s.toks,u]) (λb hb=>hf b hb) kp (λb hb=>?_) (X4 _) Zvc (.cons ⟨_,rfl⟩ (.cons ru .nil)) ⟨_,t5,rfl,0,rfl⟩
   rcases Xk.mp hb with rfl|hb
   ·exact⟨_,z2⟩
   ·rcases Xu.mp hb with rfl
    obtain⟨o4,e4,_⟩:=g2'
    exact⟨_,e4⟩
  refine⟨.ref s.heap.objs.size,_,I2,rfl,⟨_,x,I.fresh,rfl,rfl,λys hy=>by rw[I.list_inj hy hx];exact ex⟩,⟨⟨_,z2⟩,g2'⟩,λb hb=>?_⟩
  have:b≠s.heap.objs.size:=by
   rcases Xk.mp hb with rfl|hb
   ·exact Xp (Xw s1)
   ·rcases Xu.mp hb with rfl
    obtain⟨o4,e4,_⟩:=s4
    exact Xp (Xw e4)
  rw[Zu this];exact(hf b hb).1
 done:=by
  intro X hP hw hK hc i pins s σ H E I hf st hg
  subst hP hw hK
  obtain⟨⟨old,s1⟩,s4⟩:=st
  obtain⟨xs,hx,he⟩:=hg
  obtain⟨its,rx,px,hzx⟩:=I.list hx
  have l1:=rx.length
  refine wpAny_pyNext_enum_end (I.ok.hd hc) s1 s4 px.isList (by simp;omega) λh' k=>⟨rfl,I.turnAll (ch:=[it]) (λb hb=>hf b (.tail _ hb)) λb o n e=>k b o (λq=>n (q▸ .head _)) e⟩
 self:=λ_ _ _ _ _ st h=>by
  obtain⟨⟨old,s1⟩,_⟩:=st
  exact wpAny_pyIter_enum s1 h
noncomputable def Ycs(K:Xb)(ta:TA):TI:=λσ H R=>ta σ H λvs H1=>∃l,vs=[.ref l]∧(∃xs,SqL K H1 l xs)∧R (Yab K l) H1
theorem Zxl{X:Cx}{K:Xb}{a:Expr}{ta:TA}{p pos pt:Pos}{es:List Expr}{kk:Nat}(hK:X.K=K)(hg:Gl X "enumerate")(hm:X.mg "enumerate"=none)(hv:Qk "enumerate"=some (.type "enumerate"))(ha:PA X [a] ta)
  (he:Xm [a] X.env=(false,eval a X.env) :: Xm [] X.env:=by rfl) (hpl:(JL pos (Xm [] X.env)).any (·.1)=false:=by rfl) :
  PI X (.Tuple es kk pt) (.Call (.Name "enumerate" p) [a] [] pos) (Ycs K ta):=by
 subst hK
 intro pins s σ H R I h
 refine Vi (Zgb I hg hm hv ?_ (by decide) (by decide))
 refine Bk (thn (ha pos pins s σ H _ I h) λus s1 q=>?_) he hpl
 obtain⟨vs,H1,I1,r1,l,e1,⟨xs,hx⟩,q⟩:=q
 subst e1
 obtain⟨u,rfl,ru⟩:=vals1 r1
 cases(show u=QS l from ru)
 obtain⟨its,rx,px,hzx⟩:=I1.list hx
 refine call_enumerate_list px.isList λh' g1 g2 g3 g4=>?_
 have I2:Inv X pins σ H1 { s1 with heap:=h' }:=I1.kept (t':=s1.toks) g4
 refine wpAny_pyIter_enum (s:={ s1 with heap:=h' }) g1 ?_
 refine⟨_,[_,_],StE _ _ _,_,H1,rfl,I2,Zqb (XH (Vc _)),⟨⟨_,g1⟩,g2⟩,λb hb=>?_,q⟩
 have hb':s1.heap.objs.size≤b:=by
  rcases Xk.mp hb with rfl|hb
  ·exact Nat.le_succ _
  ·rcases Xu.mp hb with rfl
   exact X4 _
 exact I1.fpOk hb' (I1.hok.fresh hb')
noncomputable def Zig(as:List Xa):List Xa:=as.zipIdx.map λp=>.tuple [.int p.2,p.1]
theorem Zki{as:List Xa}{i:Nat}{d:Xa}(h:(Zig as)[i]? =some d):∃x,as[i]? =some x∧d= .tuple [.int i,x]:=by
 unfold Zig at h
 rw[Xn,List.getElem?_zipIdx]at h
 cases e:as[i]? with
 | none=>rw[e]at h;cases h
 | some x=>
  rw[e]at h
  cases h
  exact⟨x,rfl,by rw[VR]⟩
theorem Zn7{as:List Xa}{i:Nat}(h:(Zig as)[i]? =none):as.length≤i:=by
 have:=QG.mp h
 unfold Zig at this
 simpa using this
section
variable {X:Cx}{io:List Nat}{p c:Bool}{a:Expr}{mr:MAt}{ra:FA}
noncomputable def iEn(mr:MAt):MIt:=λδ K=>mr δ λrs δ'=>match OT.datas rs with|[.list as]=>K (Zig as) δ'|_=>False
theorem Zzt{p' pos pt:Pos}{es:List Expr}{kk:Nat}(hg:Gl X "enumerate")(hm:X.mg "enumerate"=none)(hv:Qk "enumerate"=some (.type "enumerate"))(ha:MA X io p c [a] mr)
  (he:Xm [a] X.env=(false,eval a X.env) :: Xm [] X.env:=by rfl) (hpl:(JL pos (Xm [] X.env)).any (·.1)=false:=by rfl):MI X io p c (.Tuple es kk pt) (.Call (.Name "enumerate" p') [a] [] pos) (iEn mr):=by
 obtain⟨_,A,s⟩:=ha
 refine⟨_,Zxl rfl hg hm hv A he hpl,λC H σ δ fp ex K' Q R h kk=>s C H σ δ fp ex _ _ R h λH1 vs rs δ1 fp1 new r1 h1=>?_⟩
 have q:=r1.das R
 generalize OT.datas rs=ds at q h1
 split at h1
 case h_2=>exact h1.elim
 rename_i as
 cases q with
 | cons q1 q2=>
  cases q2
  have R1:=r1.base
  obtain⟨l1,xs,rfl,k1⟩:=R1.keptList q1
  have e1:=k1 H1 λ_ _ e _=>e
  refine⟨l1,rfl,⟨_,e1.1⟩,kk _ H1 _ δ1 fp1 R1 r1.stp (λH' kp i=>?_) h1⟩
  obtain⟨s1,d1⟩:=k1 H' kp
  refine⟨λd hd=>?_,λhd=>?_⟩
  ·obtain⟨x,hx,rfl⟩:=Zki hd
   obtain⟨u,hu,qu⟩:=d1.get hx
   refine⟨⟨_,u,s1,hu⟩,λv H'' hyl=>?_⟩
   obtain⟨t,u',ht,rfl,rfl,hu'⟩:=hyl
   have eu:=hu' _ s1
   rw[hu]at eu
   cases eu
   exact⟨Z8 ht _,.tup Zt (.cons (.int _) (.cons (qu.same (Z8 ht _)) .nil))⟩
  ·exact⟨_,s1,by rw[d1.length];exact Zn7 hd⟩
noncomputable def Zsi(a:FA):FI:=λδ=>(a δ).bind λp=>match OT.datas p.1 with|[.list as]=>some (Zig as,p.2)|_=>none
theorem Zyb{tg e:Expr}(h:MI X io p c tg e (iEn (o2 ra))):MI X io p c tg e (o2 (Zsi ra)):=h.weak λδ K h=>by
 obtain⟨r,δ',h,k⟩:=h
 obtain⟨⟨x,δ1⟩,h1,h⟩:=bs h
 dsimp only at h
 split at h
 ·rename_i q
  injection h with h
  injection h with e1 e2
  subst e1 e2
  refine⟨x,_,h1,?_⟩
  dsimp only
  rw[q];exact k
 ·cases h
end
variable {G:Xb}
theorem Z20{α:Type}{p:α->Prop}{a b c d:α}(h1:p a)(h2:p b)(h3:p c)(h4:p d):∀x∈[a,b,c,d],p x:=by
 intro x hx
 rcases Xk.mp hx with rfl|hx
 ·exact h1
 rcases Xk.mp hx with rfl|hx
 ·exact h2
 rcases Xk.mp hx with rfl|hx
 ·exact h3
 rcases Xu.mp hx with rfl
 exact h4
theorem Z7k{α:Type}{p:α->Prop}{a b c d e:α}(h1:p a)(h2:p b)(h3:p c)(h4:p d)(h5:p e):∀x∈[a,b,c,d,e],p x:=λx hx=>(Xk.mp hx).elim (λq=>q▸h1) (Z20 h2 h3 h4 h5 x)
theorem no4{α:Type}{a b c d x:α}(h1:x≠a)(h2:x≠b)(h3:x≠c)(h4:x≠d):x∉[a,b,c,d]:=λhx=>Z20 (p:=λy=>x≠y) h1 h2 h3 h4 x hx rfl
noncomputable def SqB(K:Xb)(t:Bool)(H:Hp)(a:Addr)(xs:List V):Prop:=match t with|true=>H a=some (.tup xs)|false=>SqL K H a xs
noncomputable def IsB(t:Bool)(h:Heap)(a:Addr)(its:Array Xc):Prop:=match t with|true=>IsTup h a its|false=>h.IsList a its
noncomputable def ItB(t:Bool)(h:Heap)(it a:Addr)(i:Nat):Prop:=match t with|true=>IsTupIter h it a i|false=>h.IsListIter it a i
theorem ItB.at{t:Bool}{h h':Heap}{it a:Addr}{i:Nat}(x:ItB t h it a i)(k:∀o,h.get? it=some o->h'.get? it=some o):ItB t h' it a i:=by
 cases t with
 | false=>exact Heap.IsListIter.at x k
 | true=>
  obtain⟨o,ho,r⟩:=x
  exact⟨o,k o ho,r⟩
theorem ItB.obj{t:Bool}{h:Heap}{it a:Addr}{i:Nat}(x:ItB t h it a i):∃o,h.get? it=some o∧∀v,o.data≠ .cell v:=by
 cases t with
 | false=>
  obtain⟨o,ho,_,d⟩:=x
  exact⟨o,ho,λv q=>by rw[d]at q;cases q⟩
 | true=>
  obtain⟨o,ho,_,d⟩:=x
  exact⟨o,ho,λv q=>by rw[d]at q;cases q⟩
theorem IsB.lt{t:Bool}{h:Heap}{a:Addr}{its:Array Xc}(x:IsB t h a its):a<h.objs.size:=by
 cases t with
 | false=>
  obtain⟨o,ho,_⟩:=x
  exact Xw ho
 | true=>
  obtain⟨o,ho,_⟩:=x
  exact Xw ho
theorem SqB.its{X:Cx}{pins:List (Addr×Obj)}{σ:St}{H:Hp}{s:Xe}{t:Bool}{a:Addr}{xs:List V}(I:Inv X pins σ H s)(h:SqB X.K t H a xs):∃its:List Xc,Vals xs its∧IsB t s.heap a its.toArray:=by
 cases t with
 | false=>
  obtain⟨its,r,p,_⟩:=I.list h
  exact⟨its,r,p.isList⟩
 | true=>
  obtain⟨_,its,r,p⟩:=(show ObjOk X.prog X.w H s.heap a (.tup xs)from I.hok a _ h)
  exact⟨its,r,p⟩
theorem SqB.inj{X:Cx}{pins:List (Addr×Obj)}{σ:St}{H:Hp}{s:Xe}{t:Bool}{a:Addr}{xs ys:List V}(I:Inv X pins σ H s)(h:SqB X.K t H a xs)(k:SqB X.K t H a ys):xs=ys:=by
 cases t with
 | false=>exact I.list_inj h k
 | true=>
  have:=(show H a=some (.tup xs)from h).symm.trans k
  cases this
  rfl
section
variable {P:X6}{w:Qv}
theorem Zq4{t:Bool}{it a:Addr}{i:Nat}{items:Array Xc}{x:Xc}(hx:items[i]? =some x):Gives P w it [it,a] (λh=>ItB t h it a i∧IsB t h a items) x (λh=>ItB t h it a (i+1)):=by
 cases t with
 | true=>exact Zor hx
 | false=>
  exact⟨.head _,λst hQ=>wpAny_nextOf_list_item st.1 st.2 hx hQ,λh h' k st=>⟨Heap.IsListIter.at st.1 λo e=>k it (.head _) o e,by
   obtain⟨o,ho,r⟩:=st.2
   exact⟨o,k a (.tail _ (.head _)) o ho,r⟩⟩,λh h' k st=>Heap.IsListIter.at st λo e=>k it (.head _) o e⟩
theorem Z31{t:Bool}{it a:Addr}{i:Nat}{items:Array Xc}(hx:items[i]? =none):Zg4 P w it [it,a] (λh=>ItB t h it a i∧IsB t h a items):=by
 cases t with
 | true=>exact Zus hx
 | false=>
  exact⟨.head _,λhh st hE=>wpAny_nextOf_list_end hh st.1 st.2 hx hE,λh h' k st=>⟨Heap.IsListIter.at st.1 λo e=>k it (.head _) o e,by
   obtain⟨o,ho,r⟩:=st.2
   exact⟨o,k a (.tail _ (.head _)) o ho,r⟩⟩⟩
end
noncomputable def Yb3(K:Xb)(t:Bool)(a b:Addr):It :=
 ⟨λi H=>∃xs ys x y,SqB K t H a xs∧SqB K t H b ys∧xs[i]? =some x∧ys[i]? =some y,
   λi H v H'=>∃p x y,H p=none∧v= .ref p∧H'=upd H p (.tup [x,y])∧(∀xs,SqB K t H a xs->xs[i]? =some x)∧∀ys,SqB K t H b ys->ys[i]? =some y,
   λi H=>∃xs ys,SqB K t H a xs∧SqB K t H b ys∧(xs.length≤i∨ys.length≤i)⟩
noncomputable def Ya9(t:Bool)(z TI TO i1 i2 a b:Addr)(i:Nat)(h:Heap):Prop:=U9 h z TI TO .none∧BK h TI (.ref i1) (.ref i2)∧(∃x y,BK h TO x y)∧ItB t h i1 a i∧ItB t h i2 b i
theorem Zrn{P:X6}{w:Qv}{K:Xb}{es:List Expr}{kk:Nat}{pos:Pos}{t:Bool}{z TI TO i1 i2 a b:Addr}(D:ZA z TI TO i1 i2 [i1,a] [i2,b])(D2:TI≠TO∧TI≠i1∧TI≠i2):Turn P w K (.Tuple es kk pos) (Yb3 K t a b) [z,TI,TO,i1,i2] z (Ya9 t z TI TO i1 i2 a b) where
 mem:=.head _
 obj:=λi h st=>by
  obtain⟨s1,s2,⟨x,y,s3⟩,s4,s5⟩:=st
  exact Z7k ⟨_,s1,λv q=>by cases q⟩ ⟨_,s2,λv q=>by cases q⟩ ⟨_,s3,λv q=>by cases q⟩ s4.obj s5.obj
 keep:=λi h h' st k=>by
  obtain⟨s1,s2,⟨x,y,s3⟩,s4,s5⟩:=st
  have m2:TI∈[z,TI,TO,i1,i2]:=.tail _ (.head _)
  have m3:TO∈[z,TI,TO,i1,i2]:=.tail _ (.tail _ (.head _))
  have m4:i1∈[z,TI,TO,i1,i2]:=.tail _ (.tail _ (.tail _ (.head _)))
  have m5:i2∈[z,TI,TO,i1,i2]:=.tail _ (.tail _ (.tail _ (.tail _ (.head _))))
  exact⟨k z (.head _) _ s1,k TI m2 _ s2,⟨x,y,k TO m3 _ s3⟩,s4.at (k i1 m4),s5.at (k i2 m5)⟩
 item:=by
  intro X hP hw hK hc i pins s σ H E I hf st hg
  subst hP hw hK
  obtain⟨s1,s2,⟨x0,y0,s3⟩,s4,s5⟩:=st
  obtain⟨xs,ys,x,y,hx,hy,ex,ey⟩:=hg
  obtain⟨its,rx,px⟩:=hx.its I
  obtain⟨its',ry,py⟩:=hy.its I
  obtain⟨u,hu,ru⟩:=rx.get ex
  obtain⟨u',hu',ru'⟩:=ry.get ey
  rw[←List.getElem?_toArray]at hu hu'
  refine Zog D (Zq4 hu) (Zq4 hu') s1 s2 s3 ⟨s4,px⟩ ⟨s5,py⟩ λh' g1 g2 g3 g4 g5 g6=>?_
  refine⟨_,rfl,wpAny_letOwnedTupleGo_zip (s:={ s with heap:=h' }) g1 λh2 z2 sb=>?_⟩
  have up:∀c o,c≠z->h'.get? c=some o->h2.get? c=some o:=λc o n e=>(sb.2 c n).trans e
  have kp:∀c o,c∉[z,TO,i1,i2]->s.heap.get? c=some o->h2.get? c=some o:=λc o n e=>up c o (λq=>n (q▸ .head _)) (g6 c o n e)
  have t5:BK h2 s.heap.objs.size u u':=up _ _ (XH (Xw s1)) g5
  have i1z:=(D.a1 i1 (.head _)).1
  have i2z:=(D.a2 i2 (.head _)).1
  have n3:=g3.at (up i1 · i1z)
  have n4:=g4.at (up i2 · i2z)
  obtain⟨f1,f2,f3,f4,f5⟩:(Zhv X pins H z∧Zhv X pins H TI∧Zhv X pins H TO∧Zhv X pins H i1∧Zhv X pins H i2):=⟨hf _ (.head _),hf _ (.tail _ (.head _)),hf _ (.tail _ (.tail _ (.head _))),hf _ (.tail _ (.tail _ (.tail _ (.head _)))),hf _ (.tail _ (.tail _ (.tail _ (.tail _ (.head _)))))⟩
  have I2:Inv X pins σ (upd H s.heap.objs.size (.tup [x,y])) { s with heap:=h2 } :=
   I.turnTup (ch:=[z,TO,i1,i2]) (its:=[u,u']) (Z20 f1 f3 f4 f5) kp (Z20 ⟨_,z2⟩ ⟨_,up _ _ D.TOz g2⟩ (n3.obj.imp λ_ q=>q.1) (n4.obj.imp λ_ q=>q.1)) (X4 _) Zvc (.cons ru (.cons ru' .nil)) ⟨_,t5,rfl,0,rfl⟩
  have lt:∀{c:Addr} {o:Obj},s.heap.get? c=some o->Zhv X pins H c->upd H s.heap.objs.size (.tup [x,y]) c=none:=λe f=>by rw[Zu (Xp (Xw e))];exact f.1
  refine⟨.ref s.heap.objs.size,_,I2,rfl,⟨_,x,y,I.fresh,rfl,rfl,λzs hz=>by rw[hz.inj I hx];exact ex,λzs hz=>by rw[hz.inj I hy];exact ey⟩,⟨z2,kp TI _ (no4 D.TIz D2.1 D2.2.1 D2.2.2) s2,⟨_,_,up _ _ D.TOz g2⟩,n3,n4⟩,?_⟩
  obtain⟨o4,e4,_⟩:=s4.obj
  obtain⟨o5,e5,_⟩:=s5.obj
  exact Z7k (lt s1 f1) (lt s2 f2) (lt s3 f3) (lt e4 f4) (lt e5 f5)
 done:=by
  intro X hP hw hK hc i pins s σ H E I hf st hg
  subst hP hw hK
  obtain⟨s1,s2,⟨x0,y0,s3⟩,s4,s5⟩:=st
  obtain⟨xs,ys,hx,hy,he⟩:=hg
  obtain⟨its,rx,px⟩:=hx.its I
  obtain⟨its',ry,py⟩:=hy.its I
  have l1:=rx.length
  have l2:=ry.length
  refine Zov (I.ok.hd hc) D (S1:=λh=>ItB t h i1 a i∧IsB t h a its.toArray) (T1:=λh=>ItB t h i1 a (i+1)) (S2:=λh=>ItB t h i2 b i∧IsB t h b its'.toArray) ?_ s1 s2 s3 ⟨s4,px⟩ ⟨s5,py⟩ λh' k=>⟨rfl,I.turnAll (ch:=[z,TO,i1,i2]) (Z20 (hf _ (.head _)) (hf _ (.tail _ (.tail _ (.head _)))) (hf _ (.tail _ (.tail _ (.tail _ (.head _))))) (hf _ (.tail _ (.tail _ (.tail _ (.tail _ (.head _))))))) k⟩
  cases q:its.toArray[i]? with
  | none=>exact .inl (Z31 q)
  | some v=>
   refine .inr ⟨⟨v,Zq4 q⟩,Z31 ?_⟩
   have:=(Array.getElem?_eq_some_iff.mp q).1
   rw[Xx]at this
   rw[Array.getElem?_eq_none_iff,Xx]
   omega
 self:=λ_ _ _ _ _ st h=>wpAny_pyIter_zip st.1 h
theorem Zo9{P:X6}{w:Qv}{A:Qo}{E:Xc->Xe->Prop}{s:Xe}{t:Bool}{a b:Addr}{xs ys:Array Xc}{Q:Xc->Xe->Prop}(h1:IsB t s.heap a xs)(h2:IsB t s.heap b ys)
  (h:∀h' n,n=s.heap.objs.size->U9 h' (n+4) (n+2) (n+3) .none->BK h' (n+2) (.ref n) (.ref (n+1))->BK h' (n+3) .none .none->ItB t h' n a 0->ItB t h' (n+1) b 0 ->
   (∀ c o,s.heap.get? c=some o->h'.get? c=some o)->Q (.ref (n+4)) { s with heap:=h' }):X5 (Qd P w) A (call (.type "zip") [.ref a,.ref b]) Q E s:=by
 cases t with
 | true=>exact Zrw h1 h2 h
 | false=>exact call_zip_2 h1 h2 λh' g1 g2 g3 g4 g5 _ g7=>h h' _ rfl g1 g2 g3 g4 g5 g7
noncomputable def Z7v(K:Xb)(ta:TA):TI:=λσ H R=>ta σ H λvs H1=>∃t a b,vs=[.ref a,.ref b]∧(∃xs,SqB K t H1 a xs)∧(∃ys,SqB K t H1 b ys)∧R (Yb3 K t a b) H1
theorem Zxm{X:Cx}{K:Xb}{a b:Expr}{ta:TA}{p pos pt:Pos}{es:List Expr}{kk:Nat}(hK:X.K=K)(hg:Gl X "zip")(hm:X.mg "zip"=none)(hv:Qk "zip"=some (.type "zip"))(ha:PA X [a,b] ta)
  (he:Xm [a,b] X.env=(false,eval a X.env) :: Xm [b] X.env:=by rfl) (hpl:(JL pos (Xm [b] X.env)).any (·.1)=false:=by rfl) :
  PI X (.Tuple es kk pt) (.Call (.Name "zip" p) [a,b] [] pos) (Z7v K ta):=by
 subst hK
 intro pins s σ H R I h
 refine Vi (Zgb I hg hm hv ?_ (by decide) (by decide))
 refine Bk (thn (ha pos pins s σ H _ I h) λus s1 q=>?_) he hpl
 obtain⟨vs,H1,I1,r1,t,l1,l2,e1,⟨xs,hx⟩,⟨ys,hy⟩,q⟩:=q
 subst e1
 obtain⟨u,u',rfl,ru,ru'⟩:=vals2 r1
 cases(show u=QS l1 from ru)
 cases(show u'=QS l2 from ru')
 obtain⟨its,rx,px⟩:=hx.its I1
 obtain⟨its',ry,py⟩:=hy.its I1
 refine Zo9 px py λh' n en g1 g2 g3 g4 g5 g7=>?_
 have I2:Inv X pins σ H1 { s1 with heap:=h' }:=I1.kept (t':=s1.toks) g7
 refine wpAny_pyIter_zip (s:={ s1 with heap:=h' }) g1 ?_
 refine⟨_,[_,_,_,_,_],Ya9 _ _ _ _ _ _ _ _,_,H1,rfl,I2,Zrn (ZA.new (en▸px.lt) (en▸py.lt)) (ZA.new2 n),⟨g1,g2,⟨_,_,g3⟩,g4,g5⟩,?_,q⟩
 subst en
 have ok:∀k:Nat,Zhv X pins H1 (s1.heap.objs.size+k):=λk=>I1.fpOk (Vq _ _) (I1.hok.fresh (Vq _ _))
 exact Z7k (ok 4) (ok 2) (ok 3) (ok 0) (ok 1)
section
variable {X:Cx}{io:List Nat}{p c:Bool}{a b:Expr}{mr:MAt}{ra:FA}
noncomputable def Z7e(t:Bool)(as:List Xa):Xa:=match t with|true=>.tuple as|false=>.list as
theorem Rel.keptSq{C:MC G}{H:Hp}{σ:St}{δ:Zf}{fp:Fp}{ex:Addr->Prop}{v:V}{t:Bool}{ds:List Xa}(R:Rel C io H σ δ fp ex)(q:Da G H (λa=>c=true->Lf C fp ex a) v (Z7e t ds)) :
  ∃a xs,v= .ref a∧∀H':Hp,(∀b o,H b=some o->(c=false∨¬Foot fp b)->H' b=some o)->SqB G t H' a xs∧Das G H' (λa=>c=true->(Lf C fp ex a∧H a≠none)) xs ds:=by
 cases t with
 | false=>exact R.keptList q
 | true=>
  generalize hd:Z7e true ds=d at q
  cases q with
  | tup e r=>
   cases hd
   rename_i a0 xs0
   refine⟨a0,xs0,rfl,λH' kp=>?_⟩
   obtain⟨f1,f2⟩:=R.kept kp
   exact⟨f2 _ (.tup _) e,r.frame f1 f2⟩
  | _=>cases hd
theorem Zt4{ds es:List Xa}(h:Z2f ds=some es):∃t as bs,ds=[Z7e t as,Z7e t bs]∧es=Zmm as bs:=by
 unfold Z2f at h
 split at h
 ·cases h;exact⟨false,_,_,rfl,rfl⟩
 ·cases h;exact⟨true,_,_,rfl,rfl⟩
 ·cases h
noncomputable def iZB(mr:MAt):MIt:=λδ K=>mr δ λrs δ'=>∃es,Z2f (OT.datas rs)=some es∧K es δ'
theorem Z00{p' pos pt:Pos}{es:List Expr}{kk:Nat}(hg:Gl X "zip")(hm:X.mg "zip"=none)(hv:Qk "zip"=some (.type "zip"))(ha:MA X io p c [a,b] mr)
  (he:Xm [a,b] X.env=(false,eval a X.env) :: Xm [b] X.env:=by rfl) (hpl:(JL pos (Xm [b] X.env)).any (·.1)=false:=by rfl):MI X io p c (.Tuple es kk pt) (.Call (.Name "zip" p') [a,b] [] pos) (iZB mr):=by
 obtain⟨_,A,s⟩:=ha
 refine⟨_,Zxm rfl hg hm hv A he hpl,λC H σ δ fp ex K' Q R h kk=>s C H σ δ fp ex _ _ R h λH1 vs rs δ1 fp1 new r1 h1=>?_⟩
 have q:=r1.das R
 obtain⟨es,hz,h1⟩:=h1
 obtain⟨t,as,bs,e,rfl⟩:=Zt4 hz
 rw[e]at q
 cases q with
 | cons q1 q2=>
  cases q2 with
  | cons q2 q3=>
   cases q3
   have R1:=r1.base
   obtain⟨l1,xs,rfl,k1⟩:=R1.keptSq q1
   obtain⟨l2,ys,rfl,k2⟩:=R1.keptSq q2
   refine⟨t,l1,l2,rfl,⟨_,(k1 H1 λ_ _ e _=>e).1⟩,⟨_,(k2 H1 λ_ _ e _=>e).1⟩,kk _ H1 _ δ1 fp1 R1 r1.stp (λH' kp i=>?_) h1⟩
   obtain⟨s1,d1⟩:=k1 H' kp
   obtain⟨s2,d2⟩:=k2 H' kp
   refine⟨λd hd=>?_,λhd=>⟨_,_,s1,s2,by rw[d1.length,d2.length];exact Zrq hd⟩⟩
   obtain⟨x,y,hx,hy,rfl⟩:=Zsz hd
   obtain⟨u,hu,qu⟩:=d1.get hx
   obtain⟨w,hw,qw⟩:=d2.get hy
   refine⟨⟨_,_,u,w,s1,s2,hu,hw⟩,λv H'' hyl=>?_⟩
   obtain⟨t',u',w',ht,rfl,rfl,hu',hw'⟩:=hyl
   cases hu.symm.trans (hu' _ s1)
   cases hw.symm.trans (hw' _ s2)
   exact⟨Z8 ht _,.tup Zt (.cons (qu.same (Z8 ht _)) (.cons (qw.same (Z8 ht _)) .nil))⟩
theorem Zzj{tg e:Expr}(g:MI X io p c tg e (iZB (o2 ra))):MI X io p c tg e (o2 (Znl ra)):=g.weak λδ K h=>by
 obtain⟨r,δ',h,k⟩:=h
 obtain⟨⟨x,δ1⟩,h1,h⟩:=bs h
 obtain⟨ds,h2,h⟩:=bs h
 cases h
 exact⟨x,_,h1,_,h2,k⟩
end
end L2
namespace L2
open PySem PySem.Spec PyProof.Rows PySem.W
noncomputable def kEv{α:Type}(lt:Nat->Nat->Bool):KasT α->α
 | .ret a=>a
 | .ask i j k=>kEv lt (k (lt i j))
noncomputable def kGood{α:Type}(n:Nat)(P:α->Prop):KasT α->Prop
 | .ret a=>P a
 | .ask i j k=>i<n∧j<n∧∀b,kGood n P (k b)
theorem kGood.bind{α β:Type}{n:Nat}{P:α->Prop}{R:β->Prop}{f:α->KasT β}(hf:∀a,P a->kGood n R (f a)){t:KasT α}(h:kGood n P t):kGood n R (t.bind f):=by
 induction t with
 | ret a=>exact hf a h
 | ask i j k ih=>exact⟨h.1,h.2.1,λb=>ih b (h.2.2 b)⟩
theorem kGood.ev{α:Type}{n:Nat}{P:α->Prop}{lt:Nat->Nat->Bool}{t:KasT α}(h:kGood n P t):P (kEv lt t):=by
 induction t with
 | ret a=>exact h
 | ask i j k ih=>exact ih _ (h.2.2 _)
theorem kGood.wp{α:Type}{n:Nat}{P:α->Prop}{lt:Nat->Nat->Bool}{cmp:Nat->Nat->(Bool->Xe->Prop)->Xe->Prop}{s:Xe}{Q:α->Xe->Prop}(hc:∀i j C,i<n->j<n->C (lt i j) s->cmp i j C s){t:KasT α}(h:kGood n P t)(q:Q (kEv lt t) s):t.kasWp cmp Q s:=by
 induction t with
 | ret a=>exact q
 | ask i j k ih=>exact hc i j _ h.1 h.2.1 (ih _ (h.2.2 _) q)
noncomputable def kP(n:Nat)(p:Array Nat):Prop:=p.toList.Perm (Xr n)
theorem kP.at{n:Nat}{p:Array Nat}(h:kP n p)(h0:0<n)(i:Nat):p.getD i 0<n:=by
 by_cases c:i<p.size
 ·have e:p.getD i 0=p[i]:=by simp[Array.getD,c]
  rw[e]
  exact QM.mp (h.mem_iff.mp (Array.getElem_mem_toList c))
 ·have e:p.getD i 0=0:=by simp[Array.getD,c]
  rw[e];exact h0
theorem kP.rev{n:Nat}{p:Array Nat}(h:kP n p)(i j:Nat):kP n (kas_rev p i j):=(Array.perm_iff_toList_perm.mp (mirror_perm p i j _)).trans h
theorem kP.bub{n:Nat}{p:Array Nat}(h:kP n p)(i j:Nat):kP n (bubble p i j):=(Array.perm_iff_toList_perm.mp (bubble_perm p i j)).trans h
theorem Zmg{n:Nat}{p:Array Nat}(h:kP n p)(h0:0<n)(f m:Nat):kGood n (λ_=>True) (kas_asc p f m):=by
 induction f generalizing m with
 | zero=>exact trivial
 | succ f ih=>
  refine⟨h.at h0 _,h.at h0 _,λb=>?_⟩
  cases b
  ·exact ih _
  ·exact trivial
theorem Zrs{n:Nat}(h0:0<n)(f:Nat){p:Array Nat}(h:kP n p)(m q:Nat):kGood n (λr:Array Nat×Nat×Nat=>kP n r.1) (kas_desc f p m q):=by
 induction f generalizing p m q with
 | zero=>exact h
 | succ f ih=>
  refine⟨h.at h0 _,h.at h0 _,λb=>?_⟩
  cases b
  ·refine⟨h.at h0 _,h.at h0 _,λb=>?_⟩
   cases b
   ·exact ih h _ _
   ·exact h
  ·show kGood n _ (if q>0 then _ else _)
   split
   ·exact ih (h.rev _ _) _ _
   ·exact ih h _ _
theorem Zkm{n:Nat}{p:Array Nat}(h:kP n p)(h0:0<n)(m r:Nat):kGood n (λr:Nat×Array Nat=>kP n r.2) (kas_tail3 m r p):=by
 refine kGood.bind (P:=λ_=>True) (λa _=>?_) (Zmg (h.rev _ _) h0 _ _)
 exact h.rev _ _
theorem Zdg{n:Nat}{p:Array Nat}(h:kP n p)(h0:0<n)(m r:Nat):kGood n (λr:Nat×Array Nat=>kP n r.2) (kas_descPart m r p) :=
 (Zrs h0 _ h _ _).bind λx hx=>by
  show kGood n _ (if x.2.2>0 then _ else _)
  split
  ·exact Zkm (hx.rev _ _) h0 _ _
  ·exact Zkm hx h0 _ _
theorem Zoi{n:Nat}{p:Array Nat}(h:kP n p)(h0:0<n)(r:Nat):kGood n (λr:Nat×Array Nat=>kP n r.2) (kas_count r p) :=
 (Zmg h h0 _ _).bind λm _=>by
  show kGood n _ (if(m==r)=true then _ else if m>1 then _ else _)
  split
  ·exact h
  ·split
   ·refine⟨h.at h0 _,h.at h0 _,λb=>?_⟩
    cases b
    ·exact Zdg (h.rev _ _) h0 _ _
    ·exact h
   ·exact Zdg h h0 _ _
theorem Zok{n:Nat}{p:Array Nat}(h:kP n p)(h0:0<n)(k f l r:Nat):kGood n (λ_=>True) (kas_place p k f l r):=by
 induction f generalizing l r with
 | zero=>exact trivial
 | succ f ih=>
  show kGood n _ (if l≥r then _ else _)
  split
  ·exact trivial
  ·refine⟨h.at h0 _,h.at h0 _,λb=>?_⟩
   cases b
   ·exact ih _ _
   ·exact ih _ _
theorem Ztc{n:Nat}(h0:0<n)(f:Nat){p:Array Nat}(h:kP n p)(k:Nat):kGood n (kP n) (kas_bin f p k):=by
 induction f generalizing p k with
 | zero=>exact h
 | succ f ih=>exact(Zok h h0 _ _ _ _).bind λl _=>ih (h.bub _ _) _
theorem Zf5{n:Nat}(h0:0<n):kGood n (kP n) (U6 n) :=
 (Zoi (p:=JV (Xr n)) (.refl _) h0 n).bind λr hr=>by
  show kGood n _ (if r.1<n then _ else _)
  split
  ·exact Ztc h0 _ hr _
  ·exact hr
noncomputable def Zls(lt:Nat->Nat->Bool)(n:Nat):List Nat:=(kEv lt (U6 n)).toList
theorem Zbt{lt:Nat->Nat->Bool}{n:Nat}(h0:0<n):(Zls lt n).Perm (Xr n):=(Zf5 h0).ev (P:=kP n)
end L2
namespace L2
open PySem PySem.Spec PyProof.Rows PySem.W PySem.SeqAt
open AutoSeq1 (wpAny_loadPart')
open MeetsSeq MeetsSeq2 MeetsSeq3 SeqRoads2
noncomputable def ltI:List Int->List Int->Bool
 | [],[]=>false
 | [],_ :: _=>true
 | _ :: _,[]=>false
 | x :: xs,y :: ys=>if x=y then ltI xs ys else decide (x<y)
theorem Zvn{vs:List Xc}{ns:List Int}(h:Vz vs ns)(i:Nat)(hi:i<vs.length):∃x t,vs[i]? =some (.int x t)∧ns.drop i=x :: ns.drop (i+1):=by
 induction h generalizing i with
 | nil=>exact absurd hi (Bq i)
 | cons n t h ih=>
  cases i with
  | zero=>exact⟨n,t,rfl,rfl⟩
  | succ i=>exact ih i (Nat.lt_of_succ_lt_succ hi)
theorem Znb{vs:List Xc}{ns:List Int}(h:Vz vs ns):vs.length=ns.length:=by
 induction h with
 | nil=>rfl
 | cons n t h ih=>exact congrArg Nat.succ ih
theorem Zo7{xs ys:List Int}(h:xs=[]∨ys=[]):ltI xs ys=decide (xs.length<ys.length):=by
 cases xs<;>cases ys<;>first|rfl|(rcases h with h|h<;>cases h)|exact(decide_eq_true (Nat.succ_pos _)).symm
theorem Zro(l b:Addr)(items items2:Array Xc)(n n2:Nat)(dd dd2:Option Addr)(sl sl2:Array (Option Xc)){xs ys:List Int}(h1:Vz items.toList xs)(h2:Vz items2.toList ys)(k:Nat) :
  ∀i:Nat,items.size-i=k->i≤items.size->i≤items2.size->Meets (Builtin.«list.__eq__.loop» ⟨[.ref l,.ref b,rawInt i,rawInt 0],[]⟩)
   (λA R s=>s.heap.get? l=some { cls:=.type "list",dict:=dd,data:=.seq items n,slots:=sl }∧s.heap.get? b=some { cls:=.type "list",dict:=dd2,data:=.seq items2 n2,slots:=sl2 }∧
    R (.ok (.ret (.bool (ltI (xs.drop i) (ys.drop i))))) s):=by
 have e1:items.size=xs.length:=Znb h1
 have e2:items2.size=ys.length:=Znb h2
 have fin:∀i,i≤items.size->i≤items2.size->(i=items.size∨i=items2.size)->ltI (xs.drop i) (ys.drop i)=decide (items.size<items2.size):=λi u1 u2 c=>by
  rw[Zo7 (c.imp (λc=>List.drop_eq_nil_of_le (by omega)) λc=>List.drop_eq_nil_of_le (by omega)),JC,JC]
  exact decide_eq_decide.mpr (by omega)
 induction k with
 | zero=>
  intro i hk u1 u2 prog w A R s h
  obtain⟨hp,g,d,tk,os⟩:=s;obtain⟨hl,hb,h⟩:=h
  wp_walk using JD hl,JD hb
  have hi1:items[((i:Nat):Int).toNat]? =none:=by simp;omega
  rw[fin i u1 u2 (.inl (by omega))]at h
  rw[hi1]
  wp_walk using JD hl,JD hb
  exact h
 | succ k ih=>
  intro i hk u1 u2 prog w A R s h
  obtain⟨hp,g,d,tk,os⟩:=s;obtain⟨hl,hb,h⟩:=h
  have hlt:i<items.size:=by omega
  obtain⟨x,t,q1,q2⟩:=Zvn h1 i hlt
  have hi1:items[((i:Nat):Int).toNat]? =some (.int x t):=by rw[Ba,←q1,Q5]
  wp_walk using JD hl,JD hb
  by_cases c:i<items2.size
  ·obtain⟨y,u,q3,q4⟩:=Zvn h2 i c
   have hi2:items2[((i:Nat):Int).toNat]? =some (.int y u):=by rw[Ba,←q3,Q5]
   have hc:((i:Int)+1)=((i+1:Nat):Int):=by push_cast;rfl
   rw[q2,q4]at h
   unfold ltI at h
   rw[hi1,hi2]
   refine Xf (EqAt.int_int x t y u prog w _ _ ?_)
   by_cases cx:x=y
   ·rw[if_pos cx]at h
    rw[beq_iff_eq.mpr cx]
    wp_walk
    rw[hc]
    exact⟨plainId_quiet plain_eq_loop _,codeAny_builtin entry_eq_loop (by
     rw[Around.under_plainId plain_eq_loop _]
     exact ih (i+1) (by omega) (by omega) (by omega) prog w A R _ ⟨hl,hb,h⟩)⟩
   ·rw[if_neg cx]at h
    rw[beq_eq_false_iff_ne.mpr cx]
    wp_walk using JD hl,JD hb
    rw[hi1,hi2]
    refine Xf (lt_int ?_)
    wp_walk
    exact h
  ·have hi2:items2[((i:Nat):Int).toNat]? =none:=by simp;omega
   rw[fin i u1 u2 (.inr (by omega))]at h
   rw[hi1,hi2]
   wp_walk using JD hl,JD hb
   exact h
theorem Zqo(l b:Addr)(items items2:Array Xc)(n n2:Nat)(dd dd2:Option Addr)(sl sl2:Array (Option Xc)){xs ys:List Int}(h1:Vz items.toList xs)(h2:Vz items2.toList ys) :
  Meets (Builtin.«list.__lt__» ⟨[.ref l,.ref b],[]⟩)
   (λA R s=>s.heap.get? l=some { cls:=.type "list",dict:=dd,data:=.seq items n,slots:=sl }∧s.heap.get? b=some { cls:=.type "list",dict:=dd2,data:=.seq items2 n2,slots:=sl2 }∧
    R (.ok (.ret (.bool (ltI xs ys)))) s):=by
 intro prog w A R s h
 obtain⟨hp,g,d,tk,os⟩:=s;obtain⟨hl,hb,h⟩:=h
 have f3:=AutoSeq1.sub_list_list
 wp_walk using JD hl,JD hb
 exact⟨plainId_quiet plain_eq_loop _,codeAny_builtin entry_eq_loop (by
  rw[Around.under_plainId plain_eq_loop _]
  exact Zro l b items items2 n n2 dd dd2 sl sl2 h1 h2 _ 0 rfl (QQ _) (QQ _) prog w A R _ ⟨hl,hb,h⟩)⟩
section
variable {prog:X6}{w:Qv}{A:Qo}{E:Xc->Xe->Prop}{s:Xe}
theorem Zod{l b:Addr}{items items2:Array Xc}{xs ys:List Int}{Q:Bool->Xe->Prop}(hu:A.units<cLine)(hl:s.heap.IsList l items)(hb:s.heap.IsList b items2)(h1:Vz items.toList xs)(h2:Vz items2.toList ys)(h:Q (ltI xs ys) s) :
  X5 (Qd prog w) A (oneLt' true (.ref l) (.ref b)) Q E s:=by
 obtain⟨⟨cls,dd,data,sl⟩,hl,hc,n,hd⟩:=hl
 obtain⟨⟨cls2,dd2,data2,sl2⟩,hb,hc2,n2,hd2⟩:=hb
 simp only at hc hd hc2 hd2
 subst hc hd hc2 hd2
 rw[oneLt'_eq]
 simp only[if_true]
 refine Xf (wpAny_cRoomFor hu ?_)
 refine Xf (wpAny_callSpecialIfBound?_slot ⟨_,hl,rfl⟩ F.slot_list_lt (call_meets F.slot_list_lt ⟨_,hl,rfl⟩ F.entry_list_lt (F.args_list_lt_2 _ _) (Zqo l b items items2 n n2 dd dd2 sl sl2 h1 h2) ⟨hl,hb,?_⟩))
 exact V7 h
end
section
variable {prog:X6}{w:Qv}{A:Qo}{E:Xc->Xe->Prop}{s:Xe}
end
end L2
namespace L2
open PySem PySem.Spec PyProof.Rows PySem.W
noncomputable def sLay{α:Type}(d:α)(lt:Nat->Nat->Bool)(vs:List α):List α:=if vs.length<2 then vs else(Zls lt vs.length).map λi=>vs.getD i d
theorem Zhf{α:Type}(d:α)(vs:List α):((Xr vs.length).map λi=>vs.getD i d)=vs:=by
 refine List.ext_getElem? λi=>?_
 rw[Xn]
 by_cases c:i<vs.length
 ·rw[Q4 c,Xh c]
  show some (vs.getD i d)=_
  rw[Xd,Xh c];rfl
 ·rw[JH (by rw[Ql];omega),JH (by omega)];rfl
theorem Zge{α:Type}(d:α)(lt:Nat->Nat->Bool)(vs:List α):(sLay d lt vs).Perm vs:=by
 unfold sLay
 split
 ·exact .refl _
 ·have:=(Zbt (lt:=lt) (n:=vs.length) (by omega)).map λi=>vs.getD i d
  rwa[Zhf]at this
theorem Zu3{α β:Type}(f:α->β)(d:α)(lt:Nat->Nat->Bool)(vs:List α):sLay (f d) lt (vs.map f)=(sLay d lt vs).map f:=by
 unfold sLay
 rw[Xg]
 split
 ·rfl
 ·rw[Qx]
  refine Xv λi _=>?_
  show(vs.map f).getD i (f d)=f (vs.getD i d)
  rw[Xd,Xd,Xn]
  cases vs[i]? <;>rfl
theorem Zpp{lt:Nat->Nat->Bool}{xs:List V}{us:List Xc}(h:Vals xs us):Vals (sLay .non lt xs) (sLay .none lt us):=by
 unfold sLay
 rw[h.length]
 split
 ·exact h
 ·generalize Zls lt _=l
  induction l with
  | nil=>exact .nil
  | cons i l ih=>
   refine .cons ?_ ih
   show RelV (xs.getD i V.non) (us.getD i QF)
   rw[Xd,Xd]
   cases e:xs[i]? with
   | some x=>
    obtain⟨u,e',r⟩:=h.get e
    rw[e'];exact r
   | none=>
    have:us[i]? =none:=JH (by rw[←h.length];exact QG.mp e)
    rw[this];exact rfl
section
variable {prog:X6}{w:Qv}{A:Qo}{E:Xc->Xe->Prop}{s:Xe}
theorem Zno{κ:By}{lt:Nat->Nat->Bool}{h0:Heap}{a:Addr}{vs:List Xc}{n:Nat}{P:PySem.Fin->Xe->Prop}(ho:s.heap.get? a=some (QZ "list" vs.toArray n))
  (k0:∀b o,h0.get? b=some o->s.heap.get? b=some o) (ha0:h0.get? a=none) (h64:vs.length<64)
  (hk:2≤vs.length->∀s':Xe,(∀b o,h0.get? b=some o->s'.heap.get? b=some o)->∀Q:By->Xe->Prop,Q κ s'->X5 (Qd prog w) A (keyKind' vs.toArray) Q E s')
  (hc:2≤vs.length->∀s':Xe,(∀b o,h0.get? b=some o->s'.heap.get? b=some o)->∀i j C,i<vs.length->j<vs.length->C (lt i j) s'->kas_ask prog w A κ vs i j C s')
  (h:P (.done (.ret .none)) { s with heap:=sortedHeap s.heap a vs (JV (sLay QF lt vs)) }):X5 (Qd prog w) A (Builtin.«list.sort» ⟨[.ref a],[]⟩) P E s:=by
 have ha:a<s.heap.objs.size:=Xw ho
 obtain⟨e1,ho1⟩:∃e1,(s.heap.update a (QB λ_=>(#[]:Array Xc))).get? a=some (QZ "list" #[] e1):=⟨_,get?_update_seq ho λ_=>#[]⟩
 have ho6:(((s.heap.update a (QB λ_=>(#[]:Array Xc))).push (QZ "tuple" vs.toArray 0)).push (QZ "list" #[] 0)).get? a=some (QZ "list" #[] e1):=Xl _ (Xl _ ho1)
 have k6:∀b o,h0.get? b=some o->(((s.heap.update a (QB λ_=>(#[]:Array Xc))).push (QZ "tuple" vs.toArray 0)).push (QZ "list" #[] 0)).get? b=some o:=λb o e=>by
  refine Xl _ (Xl _ ?_)
  rw[Ui _ _ _ _ (λq=>by rw[q,ha0]at e;cases e)]
  exact k0 b o e
 rw[list_sort_plain]
 refine Xf (listItems_at ho rfl ?_)
 refine Xf (listUpdate_at ho rfl ?_ (by rw[Xx,X7];omega) (QQ _))
 refine Xf (seqEpoch_at ho1 rfl ?_)
 refine Xf (wpAny_newTuple ?_ (by show vs.length≤_;rw[X7];omega))
 refine Xf (wpAny_newList ?_ (QQ _))
 refine VH ?_
 show X5 (Qd prog w) A _ P E { s with heap:=((s.heap.update a (QB λ_=>(#[]:Array Xc))).push (QZ "tuple" vs.toArray 0)).push (QZ "list" #[] 0) }
 dsimp only
 have hs:vs.toArray.size=vs.length:=Xx ..
 by_cases h2:vs.toArray.size<2
 ·have el:sLay QF lt vs=vs:=if_pos (hs▸h2)
  rw[el]at h
  rw[if_pos h2,if_pos h2]
  refine Xf (Qc ?_)
  rw[StateT.run_pure]
  refine Xf (Qc ?_)
  dsimp only
  refine Xf (seqEpoch_at ho6 rfl ?_)
  have ez:((vs.toArray.zip vs.toArray).map (·.2))=vs.toArray:=by
   apply Array.toList_inj.mp
   rw[Array.toList_map,Array.toList_zip,List.map_snd_zip (X4 _)]
  show X5 _ _ (Builtin.List.listUpdate _ (λ_=>(vs.toArray.zip vs.toArray).map (·.2))>>=_) _ _ _
  rw[ez]
  refine Xf (listUpdate_at ho6 rfl ?_ (QQ _) (by rw[hs,X7];omega))
  simp only[bne_self_eq_false,BJ,if_false]
  exact Qc h
 ·rw[if_neg h2,if_neg h2]
  have h2':2≤vs.length:=by omega
  have el:sLay QF lt vs=(Zls lt vs.length).map λi=>vs.getD i QF:=if_neg (by omega)
  rw[el]at h
  refine Xf (hk h2' _ k6 _ ?_)
  have est:Bv κ (vs.toArray.zip vs.toArray) #[] 7 none=kas_st κ (VM vs) (JV (Xr vs.length)):=by
   have e:=kas_range (VM vs)
   rw[pairsOf_size]at e
   show Bv κ (VM vs) #[] 7 none=Bv κ ((JV (Xr vs.length)).map (XJ (VM vs))) #[] 7 none
   rw[e]
  have run:=kas_runs (prog:=prog) (w:=w) (A:=A) (κ:=κ) (it:=VM vs) (E:=E) (s:={ s with heap:=((s.heap.update a (QB λ_=>(#[]:Array Xc))).push (QZ "tuple" vs.toArray 0)).push (QZ "list" #[] 0) })
   (Q:=λ_ st' s'=>arrOf st'=(kEv lt (U6 vs.length)).map (XJ (VM vs))∧failedOf st'=none∧s'={ s with heap:=((s.heap.update a (QB λ_=>(#[]:Array Xc))).push (QZ "tuple" vs.toArray 0)).push (QZ "list" #[] 0) })
   (G:=λp s'=>p=kEv lt (U6 vs.length)∧s'={ s with heap:=((s.heap.update a (QB λ_=>(#[]:Array Xc))).push (QZ "tuple" vs.toArray 0)).push (QZ "list" #[] 0) })
   h2' h64 (λp' st' s' _ a2 a3 a4=>⟨a4.1▸a2,a3,a4.2⟩) (by
    rw[←kas_ask_eq]
    exact(Zf5 (n:=vs.length) (by omega)).wp (hc h2' _ k6) ⟨rfl,rfl⟩)
  rw[←est]at run
  refine Xf (Bs run ?_ λ_ _ e=>e)
  intro r s' z
  obtain⟨har,hf,rfl⟩:=z
  have hout:(arrOf r.2).map (·.2)=JV ((Zls lt vs.length).map λi=>vs.getD i QF):=by
   apply Array.toList_inj.mp
   rw[har,Array.map_map,Array.toList_map]
   exact Xv λi _=>by show(XJ (VM vs) i).2=_;rw[kas_item_eq]
  rw[hout]
  refine Xf (seqEpoch_at ho6 rfl ?_)
  refine Xf (listUpdate_at ho6 rfl ?_ (QQ _) (by rw[Xx,Xg,(Zbt (by omega)).length_eq,Ql,X7];omega))
  rw[hf]
  simp only[bne_self_eq_false,BJ,if_false]
  exact Qc h
theorem Zzh{κ:By}{lt:Nat->Nat->Bool}{l:Addr}{vs:List Xc}{Q:Xc->Xe->Prop}(hl:s.heap.IsList l vs.toArray)(h64:vs.length<64)
  (hk:2≤vs.length->∀s':Xe,(∀b o,s.heap.get? b=some o->s'.heap.get? b=some o)->∀Q:By->Xe->Prop,Q κ s'->X5 (Qd prog w) A.in1.in1 (keyKind' vs.toArray) Q E s')
  (hc:2≤vs.length->∀s':Xe,(∀b o,s.heap.get? b=some o->s'.heap.get? b=some o)->∀i j C,i<vs.length->j<vs.length->C (lt i j) s'->kas_ask prog w A.in1.in1 κ vs i j C s')
  (h:Q (.ref (s.heap.objs.size+1)) { s with heap:=sortedAll s.heap vs (JV (sLay QF lt vs)) }):X5 (Qd prog w) A (call (.builtin "sorted") [.ref l]) Q E s:=by
 refine Calls.call_function_entry kind_sorted plain_sorted entry_sorted (args_sorted1 _) ?_
 unfold Builtin.«sorted»
 refine Xf (m:=checkCount "sorted" 1 1 _) (Qc ?_)
 refine Xf (collect_list hl ?_ (by rw[X7];omega))
 refine Xf (wpAny_newList ?_ (by rw[X7];omega))
 have hsz:((s.heap.push (QZ "list" #[] 0)).update s.heap.objs.size (QB (· ++ vs.toArray))).objs.size=s.heap.objs.size+1:=by
  rw[Heap.size_update,size_push']
 have hoL:(((s.heap.push (QZ "list" #[] 0)).update s.heap.objs.size (QB (· ++ vs.toArray))).push (QZ "list" vs.toArray 0)).get? (s.heap.objs.size+1)=some (QZ "list" vs.toArray 0):=by
  rw[←hsz];exact Qi _ rfl
 have keep:∀b o,s.heap.get? b=some o->(((s.heap.push (QZ "list" #[] 0)).update s.heap.objs.size (QB (· ++ vs.toArray))).push (QZ "list" vs.toArray 0)).get? b=some o:=λb o q=>by
  have hlt:b<s.heap.objs.size:=Xw q
  rw[UV _ _ _ (by rw[hsz];exact Xp (U3 hlt)),Ui _ _ _ _ (Xp hlt),UV _ _ _ (Xp hlt)]
  exact q
 show X5 _ _ _ _ _ { s with heap:=((s.heap.push (QZ "list" #[] 0)).update s.heap.objs.size (QB (· ++ vs.toArray))).push (QZ "list" vs.toArray 0) }
 rw[hsz]
 refine Xf (VH (Vy slot_list_sort ⟨_,hoL,rfl⟩ entry_list_sort (Zno (h0:=s.heap) hoL keep (Heap.get?_none_of_le (Nat.le_succ _)) h64 hk hc ⟨_,rfl,?_⟩) (args_list_sort _)))
 exact Qc ⟨_,rfl,h⟩
end
end L2
namespace L2
open PySem PySem.Spec PyProof.Rows PySem.W
variable {G:Xb}
structure Z1s{α:Type}(kd:Xa->Option α)(lt:α->α->Bool):Prop where
 lay:∀d k,kd d=some k->d.canLay0=true
 run:∃κ:By,(∀(prog:X6) (w:Qv) (A:Qo) (E:Xc->Xe->Prop) (s:Xe) (vs:List Xc) (ds:List Xa) (as:List Addr) (Q:By->Xe->Prop),2≤vs.length->ReadsAll s.heap vs ds as->(∀d∈ds,∃k,kd d=some k)->Q κ s->X5 (Qd prog w) A (keyKind' vs.toArray) Q E s)∧
  ∀(prog:X6) (w:Qv) (A:Qo) (E:Xc->Xe->Prop) (s:Xe) (u v:Xc) (d e:Xa) (as bs:List Addr) (k m:α) (C:Bool->Xe->Prop),A.units+32<cLine->Reads s.heap u d as->Reads s.heap v e bs->kd d=some k->kd e=some m->C (lt k m) s->X5 (Qd prog w) A (keyLt' κ u v) C E s
theorem readsAll_ints{h:Heap}(ns:List Int){vs:List Xc}{as:List Addr}(r:ReadsAll h vs (ns.map Xo) as):Vz vs ns:=by
 induction ns generalizing vs as with
 | nil=>cases r;exact .nil
 | cons n ns ih=>
  cases r with
  | cons r q=>
   cases r
   exact .cons _ _ (ih q)
theorem Zeh{h:Heap}{ns:List Int}{u:Xc}{as:List Addr}(r:Reads h u (.list (ns.map Xo)) as):∃a items,u= .ref a∧h.IsList a items∧Vz items.toList ns:=by
 cases r with
 | list e c d q=>exact⟨_,_,rfl,⟨_,e,c,_,d⟩,readsAll_ints ns q⟩
theorem readsAll_get{h:Heap}{vs:List Xc}{ds:List Xa}{as:List Addr}(r:ReadsAll h vs ds as):vs.length=ds.length∧∀(i:Nat) d,ds[i]? =some d->∃v bs,vs[i]? =some v∧Reads h v d bs:=by
 induction ds generalizing vs as with
 | nil=>cases r;exact⟨rfl,λi d e=>by rw[UT]at e;cases e⟩
 | cons d ds ih=>
  cases r with
  | cons r q=>
   obtain⟨z1,z2⟩:=ih q
   refine⟨congrArg Nat.succ z1,λi e he=>?_⟩
   cases i with
   | zero=>cases he;exact⟨_,_,rfl,r⟩
   | succ i=>exact z2 i e he
theorem lay_ints(ns:List Int):Sh 1 (.list (ns.map Xo)):=Zeg λd m=>by
 obtain⟨x,_,rfl⟩:=XF.mp m
 exact Zpz x
theorem Zkc(ns:List Int):Sh 1 (.tuple (ns.map Xo)):=Zou λd m=>by
 obtain⟨x,_,rfl⟩:=XF.mp m
 exact Zpz x
theorem Znz{M:Model}{h:Heap}{a:Addr}{items:Array Xc}(e:h.IsList a items):Looks M h (typeOf (.ref a)) (.type "list"):=by
 obtain⟨o,e,c,_⟩:=e
 have:Looks M h (typeOf (.ref a)) o.cls:=(Looks.ld e).andThen .now
 rwa[c]at this
noncomputable def kdL:Xa->Option (List Int):=λd=>match d with| .list es=>Zh5 es|_=>none
theorem Zez{d:Xa}{k:List Int}(h:kdL d=some k):d= .list (k.map Xo):=by
 cases d with
 | list es=>exact congrArg QH (Ze4 h)
 | _=>cases h
theorem Zpo{h:Heap}{vs:List Xc}{ds:List Xa}{as:List Addr}(r:ReadsAll h vs ds as){v:Xc}(hv:v∈vs):∃d∈ds,∃bs,Reads h v d bs:=by
 obtain⟨i,hi⟩:=Vn hv
 obtain⟨z1,z2⟩:=readsAll_get r
 have c:i<ds.length:=z1▸(Xj.mp hi).1
 obtain⟨v',bs,e,q⟩:=z2 i _ (Xh c)
 rw[hi]at e
 cases e
 exact⟨_,JM c,bs,q⟩
theorem Zwa:Z1s kdL ltI:=by
 refine⟨λd k h=>by rw[Zez h];exact(lay_ints k).1,oneType',λprog w A E s vs ds as Q h2 r hk q=>kas_kind (T:=.type "list") h2 (λv hv=>?_) rfl rfl q,λprog w A E s u v d e as bs k m C hu r1 r2 h1 h2 h=>?_⟩
 ·obtain⟨d,hd,bs,z⟩:=Zpo r hv
  obtain⟨k,hk⟩:=hk d hd
  rw[Zez hk]at z
  obtain⟨a,items,rfl,e,_⟩:=Zeh z
  exact Znz e
 ·rw[Zez h1]at r1
  rw[Zez h2]at r2
  obtain⟨a,i1,rfl,e1,z1⟩:=Zeh r1
  obtain⟨b,i2,rfl,e2,z2⟩:=Zeh r2
  rw[keyLt'_oneType]
  exact Zod (by omega) e1 e2 z1 z2 h
theorem Zrd(a b:List Int):JF (.list (a.map Xo)) (.list (b.map Xo))=decide (a=b):=by
 have p:∀l:List Int,Yl (.list (l.map Xo))=true:=λl=>by rw[Yl];induction l with|nil=>rfl|cons x l ih=>exact ih
 have inj:∀{l m:List Int},QH (l.map Xo)= .list (m.map Xo)->l=m:=λh=>by
  injection h with h
  exact(List.map_inj_right λx y z=>by injection z).mp h
 by_cases c:a=b
 ·rw[Zvb (p a) (p b) (by rw[c]),decide_eq_true c]
 ·rw[Z2h (p a) (p b) λz=>c (inj z),decide_eq_false c]
end L2
namespace L2
open PySem PySem.Spec PyProof.Rows PySem.W
variable {G:Xb}
noncomputable def lk{α:Type}(kd:Xa->Option α)(lt:α->α->Bool)(es:List Xa):Nat->Nat->Bool:=λi j=>((kd (es.getD i .none)).bind λa=>(kd (es.getD j .none)).map λb=>lt a b).getD false
noncomputable def keyed{α:Type}(kd:Xa->Option α)(es:List Xa):Prop:=∀d∈es,∃k,kd d=some k
theorem Zha{es:List Xa}(h:∀d∈es,d.canLay0=true):JQ es=true:=by
 induction es with
 | nil=>rw[JQ]
 | cons d es ih=>rw[JQ,h d (.head _),ih λd m=>h d (.tail _ m)];rfl
theorem Das.sLay{H:Hp}{L:Addr->Prop}{lt:Nat->Nat->Bool}{xs:List V}{ds:List Xa}(h:Das G H L xs ds):Das G H L (L2.sLay .non lt xs) (L2.sLay .none lt ds):=by
 unfold L2.sLay
 rw[h.length]
 split
 ·exact h
 ·generalize Zls lt _=l
  induction l with
  | nil=>exact .nil
  | cons i l ih=>
   refine .cons ?_ ih
   show Da G H L (xs.getD i .non) (ds.getD i .none)
   rw[Xd,Xd]
   cases e:xs[i]? with
   | some x=>
    obtain⟨u,e',r⟩:=h.get' e
    rw[e'];exact r
   | none=>
    have:ds[i]? =none:=JH (by rw[←h.length];exact QG.mp e)
    rw[this];exact .non
noncomputable def Zpb{α:Type}(kd:Xa->Option α)(lt:α->α->Bool)(K:Xb):List V->Hp->VK->Prop:=λxs H Q=>∃(a:Addr) (vs:List V) (L:Addr->Prop) (es:List Xa),xs=[.ref a]∧SqL K H a vs∧Das K H L vs es∧vs.length<64∧keyed kd es∧∀l,H l=none->Q (.ref l) (upd H l (.lst (sLay .non (lk kd lt es) vs)))
section
variable {X:Cx}{α:Type}{kd:Xa->Option α}{lt:α->α->Bool}
theorem Zg2{K:Xb}(S:Z1s kd lt)(hK:X.K=K)(hu:X.A.units+64<cLine):Zbo X (.builtin "sorted") (Zpb kd lt K):=by
 subst hK
 intro pins s σ H xs us Q I r h
 obtain⟨l,vs,L,es,rfl,hs,hd,h64,hk,q⟩:=h
 obtain⟨u,rfl,ru⟩:=vals1 r
 cases(show u=QS l from ru)
 obtain⟨its,rv,pl,hz⟩:=I.list hs
 have hl:=rv.length
 obtain⟨as,ra⟩:=hd.reads rfl I rv (Zha λd m=>by obtain⟨k,e⟩:=hk d m;exact S.lay d k e)
 obtain⟨κ,S1,S2⟩:=S.run
 obtain⟨z1,z2⟩:=readsAll_get ra
 refine Zzh (κ:=κ) (lt:=lk kd lt es) pl.isList (by omega) (λh2 s' k Q q=>S1 _ _ _ _ s' _ es as Q h2 (ReadsAll.keeps k ra) hk q) (λh2 s' k i j C hi hj hc=>?_) ?_
 ·rw[z1]at hi hj
  obtain⟨v,b1,e1,r1⟩:=z2 i _ (Xh hi)
  obtain⟨w,b2,e2,r2⟩:=z2 j _ (Xh hj)
  obtain⟨k1,q1⟩:=hk _ (JM hi)
  obtain⟨k2,q2⟩:=hk _ (JM hj)
  have ek:lk kd lt es i j=lt k1 k2:=by
   unfold lk
   rw[Xd,Xd,Xh hi,Xh hj]
   show((kd es[i]).bind λa=>(kd es[j]).map λb=>lt a b).getD false=_
   rw[q1,q2];rfl
  rw[ek]at hc
  unfold kas_ask
  rw[Xd,Xd,e1,e2]
  exact S2 _ _ _ _ s' v w _ _ _ _ k1 k2 C (show X.A.units+1+1+32<cLine by omega) (Reads.keeps k r1) (Reads.keeps k r2) q1 q2 hc
 ·obtain⟨e,he⟩:=sortedAll_at s.heap its (JV (sLay QF (lk kd lt es) its))
  refine⟨.ref (s.heap.objs.size+1),_,I.laid (t':=s.toks) (o:=.lst (sLay .non (lk kd lt es) vs)) (λb ob q=>sortedAll_old q) (by omega) ⟨?_,sLay QF (lk kd lt es) its,e,Zpp rv,he⟩,rfl,q _ (I.hok.fresh (by omega))⟩
  rw[(Zge _ _ _).length_eq,X7];omega
noncomputable def Zvv(kd:Xa->Option α)(lt:α->α->Bool):List Xa->(OT->Prop)->Prop:=λds k=>n1 (λd=>∃es:List Xa,d= .list es∧es.length<64∧keyed kd es∧k (.nd ((sLay .none (lk kd lt es) es).map OT.fz))) ds
theorem Zuj:PN G (Zpb kd lt G) (Zvv kd lt):=λH L xs ds k Q hx h kk=>by
 obtain⟨v,d,rfl,rfl,q,es,e,h64,hk,h⟩:=hx.one h
 have fin:∀(vs:List V) (p:Addr),Das G H L vs es->H p=none->Q (.ref p) (upd H p (.lst (sLay .non (lk kd lt es) vs))):=λvs p hv hp=>kk _ _ _ [p] (Z8 hp _) (Own.list hp hv.sLay) (Zg8 p) (Zeo hp) h
 subst e
 generalize ed:QH es=d at q
 cases q with
 | lst l e r=>
  cases ed
  exact⟨_,_,L,es,rfl,.inl e,r,by rw[r.length];exact h64,hk,λp hp=>fin _ p r hp⟩
 | scr ks=>
  cases ed
  exact⟨_,_,L,_,rfl,ks.sq,Das.ints _,by rw[(Das.ints (G:=G) (H:=H) (L:=L) _).length];exact h64,hk,λp hp=>fin _ p (Das.ints _) hp⟩
 | _=>cases ed
noncomputable def Zjo(kd:Xa->Option α)(lt:α->α->Bool):List Xa->Option OT:=λds=>match ds with|[.list es]=>if(decide (es.length<64)&&es.all λd=>(kd d).isSome)=true then some (.nd ((sLay .none (lk kd lt es) es).map OT.fz))else none|_=>none
theorem Zzn:∀ds r k,Zjo kd lt ds=some r->k r->Zvv kd lt ds k:=λds r k h hk=>by
 unfold Zjo at h
 split at h
 case h_2=>cases h
 split at h
 case isFalse=>cases h
 rename_i h2
 rw[XC]at h2
 cases h
 exact⟨_,rfl,of_decide_eq_true h2.1,λd m=>UG.mp (Bh.mp h2.2 d m),hk⟩
end
end L2
namespace L2
open PySem PySem.Spec PyProof.Rows
variable {G:Xb}
noncomputable def Zyt:List Int->Int
 | []=>0
 | x :: xs=>xs.foldl max x
theorem Zo1(xs:List Int)(x:Int):xs.foldl max x∈x :: xs∧∀a∈x :: xs,a≤xs.foldl max x:=by
 induction xs generalizing x with
 | nil=>exact⟨.head _,λa h=>by rw[Xu.mp h];exact Ue _⟩
 | cons y ys ih=>
  obtain⟨h1,h2⟩:=ih (max x y)
  rw[List.foldl_cons]
  refine⟨?_,λa h=>?_⟩
  ·rcases Xk.mp h1 with h|h
   ·rw[h]
    rcases Int.le_total x y with z|z
    ·rw[Vd z];exact .tail _ (.head _)
    ·rw[VD z];exact .head _
   ·exact .tail _ (.tail _ h)
  ·have h0:=h2 _ (.head _)
   rcases Xk.mp h with rfl|h
   ·exact QR (Int.le_max_left ..) h0
   ·rcases Xk.mp h with rfl|h
    ·exact QR (Int.le_max_right ..) h0
    ·exact h2 a (.tail _ h)
theorem Zru{ns:List Int}(h:0<ns.length):Zyt ns∈ns∧∀a∈ns,a≤Zyt ns:=by
 cases ns with
 | nil=>cases h
 | cons x xs=>exact Zo1 xs x
theorem Zof{prog:X6}{w:Qv}{A:Qo}{E:Xc->Xe->Prop}{s:Xe}{l:Addr}{xs:Array (Int×Tok)}{Q:Xc->Xe->Prop}(hh:A.handled=none)(hl:s.heap.IsTuple l (intItems xs))(hne:0<xs.size)
  (h:∀v h' tk,(intItems xs)[argBest (λi j=>decide (numAt xs i>numAt xs j)) (xs.size-1)]? =some v->(∀b o,s.heap.get? b=some o->h'.get? b=some o)->Q v { s with heap:=h',toks:=tk }) :
  X5 (Qd prog w) A (call (.builtin "max") [.ref l]) Q E s:=by
 have hlt:l<s.heap.objs.size:=by obtain⟨_,e,_⟩:=hl;exact Xw e
 have hl':=hl
 obtain⟨o,eo,ec⟩:=hl'
 refine call_max_walk (wpAny_pyIter_tuple hl ?_)
 refine⟨_,_,_,_,_,_,_,rfl,Walks.tuple (A:=A.in1) hh _ l (Xp hlt) (intItems xs),⟨⟨_,Qi _ rfl,rfl,rfl⟩,⟨o,Xl _ eo,ec⟩⟩,λb hb=>?_,by simpa [intItems]using hne,CmpOf.ints_gt (numAt xs) (λ_ _=>intItems_at),λv h' tk hP hk=>?_⟩
 ·show b<(s.heap.push _).objs.size
  rw[Q9]
  rcases Xk.mp hb with rfl|hb
  ·exact Vc _
  ·rw[Xu.mp hb];exact U3 hlt
 ·refine h v h' tk (by simpa [intItems]using hP) λb o e=>hk b o (λhm=>?_) (Xl _ e)
  rw[Xu.mp hm]at e
  exact absurd (Xw e) (Bx _)
noncomputable def Z3z(K:Xb):List V->Hp->VK->Prop:=λxs H Q=>∃(a:Addr) (ns:List Int),xs=[.ref a]∧(SqL K H a (ns.map V.int)∨SqT K H a (ns.map V.int))∧0<ns.length∧Q (.int (Zyt ns)) H
theorem Zjp{X:Cx}{K:Xb}(hK:X.K=K)(hc:X.calm=true):Zbo X (.builtin "max") (Z3z K):=by
 subst hK
 intro pins s σ H xs us Q I r h
 obtain⟨a,ns,rfl,hs,hp,q⟩:=h
 obtain⟨u,rfl,ru⟩:=vals1 r
 cases(show u=QS a from ru)
 have fin:∀{ps:List (Int×Tok)},ps.map (·.1)=ns->∀v h' tk,(intItems ps.toArray)[argBest (λi j=>decide (numAt ps.toArray i>numAt ps.toArray j)) (ps.toArray.size-1)]? =some v->(∀b o,s.heap.get? b=some o->h'.get? b=some o)->EP X pins σ Q v { s with heap:=h',toks:=tk }:=fun{ps} e2 v h' tk hv hk=>by
  have hl:ps.length=ns.length:=by rw[←e2,Xg]
  obtain⟨t,rfl⟩:=intItems_at hv
  obtain⟨h1,h2⟩:=argBest_gt (numAt ps.toArray) (ps.toArray.size-1)
  have hn:∀j,j<ps.length->numAt ps.toArray j=ns.getD j 0:=λj hj=>by
   rw[numAt_eq,←e2]
  refine⟨.int (Zyt ns),H,I.kept (t':=tk) hk,⟨t,?_⟩,q⟩
  have sz:ps.toArray.size=ns.length:=by rw[Xx,hl]
  rw[sz]at h1 h2⊢
  obtain⟨m1,m2⟩:=Zru hp
  congr 1
  generalize ej:argBest (λi j=>decide (numAt ps.toArray i>numAt ps.toArray j)) (ns.length-1)=j at h1 h2⊢
  rw[hn j (by omega)]
  refine Int.le_antisymm (m2 _ ?_) ?_
  ·rw[Xd,Xh (by omega)]
   exact JM _
  ·obtain⟨j',hj',e⟩:=Vv m1
   have:=h2 j' (by omega)
   rw[hn j (by omega),hn j' (by omega),Xd (i:=j'),Xh hj',e]at this
   exact this
 rcases hs with hs|hs
 ·obtain⟨its,rv,pl,hz⟩:=I.list hs
  obtain⟨ps,rfl,e2⟩:=Zed rv
  have hl:ps.length=ns.length:=by rw[←e2,Xg]
  exact max_intList (xs:=ps.toArray) (I.ok.hd hc) (by simpa [intItems]using pl.isList) (by simpa using hl▸hp) (fin e2)
 ·obtain⟨its,rv,pl,hz⟩:=I.tuple hs
  obtain⟨ps,rfl,e2⟩:=Zed rv
  have hl:ps.length=ns.length:=by rw[←e2,Xg]
  exact Zof (xs:=ps.toArray) (I.ok.hd hc) (by simpa [intItems]using(show s.heap.IsTuple a _ from pl)) (by simpa using hl▸hp) (fin e2)
noncomputable def Z3w:List Xa->(Xa->Prop)->Prop:=λds k=>n1 (λd=>∃ns:List Int,(d= .list (ns.map Xo)∨d= .tuple (ns.map Xo))∧0<ns.length∧k (.int (Zyt ns))) ds
theorem Zrr:PNs G (Z3z G) Z3w:=λH L xs ds k Q hx h kk=>by
 obtain⟨v,d,rfl,rfl,q,ns,e,hp,h'⟩:=hx.one h
 rcases e with e|e
 ·subst e
  obtain⟨a,rfl,hs⟩:=q.ints_sq
  exact⟨a,ns,rfl,.inl hs,hp,kk _ _ (.int _) h'⟩
 ·generalize ed:d=d' at q
  rw[e]at ed
  cases q with
  | tup e r=>
   cases ed
   exact⟨_,ns,rfl,.inr (.inl (.inl (by rw[r.int_inv]at e;exact e))),hp,kk _ _ (.int _) h'⟩
  | _=>cases ed
noncomputable def Zlx:List Xa->Option Xa:=λds=>match ds with|[.list es]=>(Zh5 es).bind λns=>if 0<ns.length then some (.int (Zyt ns))else none|[.tuple es]=>(Zh5 es).bind λns=>if 0<ns.length then some (.int (Zyt ns))else none|_=>none
theorem Zwd:∀ds r k,Zlx ds=some r->k r->Z3w ds k:=λds r k h hk=>by
 unfold Zlx at h
 split at h
 case h_3=>cases h
 all_goals
  obtain⟨ns,h1,h⟩:=bs h
  by_cases hp:0<ns.length
  ·rw[if_pos hp]at h
   cases h
   first
   | exact⟨ns,.inl (congrArg QH (Ze4 h1)),hp,hk⟩
   | exact⟨ns,.inr (congrArg Xa.tuple (Ze4 h1)),hp,hk⟩
  ·rw[if_neg hp]at h;cases h
section
variable {X:Cx}{io:List Nat}{p p' c c' q r:Bool}{a b e:Expr}{fa fb:FE}{es:List Expr}{ra:FA}{st:Stmt}{sts ss ss':List Stmt}{f g:FS}{ta:FT}
theorem xv(i:Nat){x:Str}{pos:Pos}(hN:X.N[i]? =some x:=by rfl)(hv:Vis X.env.scope x:=by first|exact Qp rfl|exact Qh (Qp rfl)|exact Qh (Qh rfl))(hd:(x==("__debug__" : Str))=false:=by decide)(he:(x==("__classdict__" : Str))=false:=by decide):ME X io true true (.Name x pos) (o2 (Ze i)):=Z33 (mv i hN hv hd he)
theorem xo(i:Nat){x:Str}{pos:Pos}(hN:X.N[i]? =some x:=by rfl)(hv:Vis X.env.scope x:=by first|exact Qp rfl|exact Qh (Qp rfl)|exact Qh (Qh rfl))(hd:(x==("__debug__" : Str))=false:=by decide)(he:(x==("__classdict__" : Str))=false:=by decide):ME X io true false (.Name x pos) (o2 (Zdi i)):=Z2i (mo i hN hv hd he)
theorem xci{i:Int}{j:Nat}{pos:Pos}:ME X io true true (.Constant (.int i) j pos) (o2 (fC (.int i))):=Zoc Z5t
theorem xix{pos:Pos}(ha:ME X io p c a (o2 fa))(hb:ME X io p' c' b (o2 fb))(hc:p'=true∨c=true:=by first|exact Qp rfl|exact Qh rfl)(hs:Zic b:=by exact λ_ _=>rfl)(h2:(p&&p')=q:=by rfl)(h3:(c&&c')=r:=by rfl):ME X io q r (.Subscript a b pos) (o2 (Z3 gIx fa fb)):=h2▸h3▸Zfw Yd1 (Yc0 (Zo6 rfl) Z7n ha hb hc (hs:=hs))
theorem xa0:MA X io true true [] (o2 Zr):=Z2y Z3g
theorem xa1[NoStar e](ha:ME X io p c e (o2 fa))(h2:(p&&true)=q:=by rfl)(h3:(c&&true)=r:=by rfl):MA X io q r [e] (o2 (Zd fa Zr)):=Zk ha xa0 (.inl rfl) h2 h3
theorem xsq(h:MS X io st (oS f))(k:MSs X io sts (oS g)):MSs X io (st :: sts) (oS (Z6 f g)):=Z2l (Zty h k)
theorem xst{pos px:Pos}(i:Nat){x:Str}(hN:X.N.Nodup)(he:ME X io p true e (o2 fa))(hi:X.N[i]? =some x:=by rfl)(hx:Loc X.env.scope x:=by first|exact Qp rfl|exact Qh rfl)(hio:i∉io:=by decide)(hs:BZ e (some (.Name x px)) pos.line X.env=pure false:=by rfl)(hf:X.fn x=true∨X.env.scope.names.lookup x=some .local:=by first|exact .inl rfl|exact .inr rfl|assumption):MS X io (.Assign [.Name x px] e pos) (oS (wE fa (Wd i))):=Z5p (Z4i hN hi hx he hio hs hf)
theorem xrt{pos:Pos}(h:ME X io p true e (o2 fa)):MS X io (.Return (some e) pos) (oS (wE fa Jt)):=Z2o (Z26 h)
theorem xg{pos:Pos}(i:Nat){x:Str}(hN:X.N.Nodup)(hi:X.N[i]? =some x:=by rfl)(hx:Loc X.env.scope x:=by first|exact Qp rfl|exact Qh rfl)(hio:i∉io:=by decide)(hf:X.fn x=true∨X.env.scope.names.lookup x=some .local:=by first|exact .inl rfl|exact .inr rfl|assumption):MG X io true (.Name x pos) (oG (gNm i)):=Zz2 (Z0k hN hi hx hio hf)
theorem xif{pos:Pos}(h:MT X io p e (o2 ta))(k:MSs X io ss (oS f))(l:MSs X io ss' (oS g)):MS X io (.If e ss ss' pos) (oS (Za7 ta f g)):=Z76 (Z8f h k l)
theorem xnl:MSs X io [] (oS fNx):=Z1f Zxh
theorem xtp{pos:Pos}{n:Nat}(h:MA X io p c es (o2 ra)):ME X io p c (.Tuple es n pos) (o2 (Zlf ra)):=Z4z (Z9o h)
theorem xls{pos:Pos}(h:MA X io p c es (o2 ra)):ME X io p c (.List es pos) (o2 (Zbf ra)):=Z6p (Z8s h)
theorem xil{tg:Expr}(h:ME X io p c e (o2 fa)):MI X io p c tg e (o2 (Zaz fa)):=Zwz (Z0h h)
theorem xno{pos:Pos}(h:MT X io p e (o2 ta)):MT X io p (.UnaryOp .Not e pos) (o2 (tNo ta)):=Z1u (Z37 h)
theorem Zgp{pos:Pos}(ha:ME X io p c a (o2 fa))(hb:ME X io p' c' b (o2 fb))(hc:p'=true∨c=true:=by first|exact Qp rfl|exact Qh rfl)(h2:(p&&p')=q:=by rfl):ME X io q true (.BinOp a .Add b pos) (o2 (Zh Za0 fa fb)):=h2▸Jl Z92 (Zgf Z48 Zio ha hb hc)
theorem Z9e{pos:Pos}(ha:ME X io p c a (o2 fa))(hb:ME X io p' c' b (o2 fb))(hc:p'=true∨c=true:=by first|exact Qp rfl|exact Qh rfl)(h2:(p&&p')=q:=by rfl):ME X io q true (.BinOp a .Sub b pos) (o2 (Zh gSb fa fb)):=h2▸Jl Z8p (Zgf Z5b Zio ha hb hc)
theorem Zi7{pos:Pos}(ha:ME X io p c a (o2 fa))(hb:ME X io p' c' b (o2 fb))(hc:p'=true∨c=true:=by first|exact Qp rfl|exact Qh rfl)(h2:(p&&p')=q:=by rfl):ME X io q true (.BinOp a .Mult b pos) (o2 (Zh Zcu fa fb)):=h2▸Jl Z7q (Zgf Z0v Z3x ha hb hc)
theorem Z27{pos:Pos}(ha:ME X io p c a (o2 fa))(hb:ME X io p' c' b (o2 fb))(hc:p'=true∨c=true:=by first|exact Qp rfl|exact Qh rfl)(h2:(p&&p')=q:=by rfl):ME X io q true (.BinOp a .Mod b pos) (o2 (Zh Zg1 fa fb)):=h2▸Jl Z8w (Zgf Zy5 Zpj ha hb hc)
theorem Zvp{pos:Pos}(ha:ME X io p c a (o2 fa))(hb:ME X io p' c' b (o2 fb))(hc:p'=true∨c=true:=by first|exact Qp rfl|exact Qh rfl)(h2:(p&&p')=q:=by rfl):ME X io q true (.BinOp a .FloorDiv b pos) (o2 (Zh J8 fa fb)):=h2▸Jl Z57 (Zgf Zul Z51 ha hb hc)
theorem Zon{pos:Pos}(ha:ME X io p c a (o2 fa))(hb:ME X io p' c' b (o2 fb))(hc:p'=true∨c=true:=by first|exact Qp rfl|exact Qh rfl)(h2:(p&&p')=q:=by rfl):ME X io q true (.BinOp a .Pow b pos) (o2 (Zh Zeq fa fb)):=h2▸Jl Z79 (Zgf Z06 Zv7 ha hb hc)
theorem xeq{pos:Pos}(hu:X.A.units+64<cLine)(ha:ME X io p c a (o2 fa))(hb:ME X io p' c' b (o2 fb))(hc:p'=true∨c=true:=by first|exact Qp rfl|exact Qh rfl)(h2:(p&&p')=q:=by rfl):MT X io q (.Compare a [.Eq] [b] pos) (o2 (tV (Zh gEq fa fb))):=h2▸Zco Ycg (Zcs (Zvf hu) Z38 ha hb hc (hm:=Zcr _))
theorem xne{pos:Pos}(hu:X.A.units+64<cLine)(ha:ME X io p c a (o2 fa))(hb:ME X io p' c' b (o2 fb))(hc:p'=true∨c=true:=by first|exact Qp rfl|exact Qh rfl)(h2:(p&&p')=q:=by rfl):MT X io q (.Compare a [.NotEq] [b] pos) (o2 (tV (Zh gNe fa fb))):=h2▸Zco Ycx (Zcs (Z4c hu) Z9h ha hb hc (hm:=Zcr _))
theorem xlt{pos:Pos}(ha:ME X io p c a (o2 fa))(hb:ME X io p' c' b (o2 fb))(hc:p'=true∨c=true:=by first|exact Qp rfl|exact Qh rfl)(h2:(p&&p')=q:=by rfl):MT X io q (.Compare a [.Lt] [b] pos) (o2 (tV (Zh gLt fa fb))):=h2▸Zco Yaq (Zcs Z56 Zjg ha hb hc (hm:=Zcr _))
theorem xgt{pos:Pos}(ha:ME X io p c a (o2 fa))(hb:ME X io p' c' b (o2 fb))(hc:p'=true∨c=true:=by first|exact Qp rfl|exact Qh rfl)(h2:(p&&p')=q:=by rfl):MT X io q (.Compare a [.Gt] [b] pos) (o2 (tV (Zh gGt fa fb))):=h2▸Zco Yc2 (Zcs Z83 Zjg ha hb hc (hm:=Zcr _))
theorem xle{pos:Pos}(ha:ME X io p c a (o2 fa))(hb:ME X io p' c' b (o2 fb))(hc:p'=true∨c=true:=by first|exact Qp rfl|exact Qh rfl)(h2:(p&&p')=q:=by rfl):MT X io q (.Compare a [.LtE] [b] pos) (o2 (tV (Zh gLe fa fb))):=h2▸Zco Ydm (Zcs Z78 Zjg ha hb hc (hm:=Zcr _))
theorem xge{pos:Pos}(ha:ME X io p c a (o2 fa))(hb:ME X io p' c' b (o2 fb))(hc:p'=true∨c=true:=by first|exact Qp rfl|exact Qh rfl)(h2:(p&&p')=q:=by rfl):MT X io q (.Compare a [.GtE] [b] pos) (o2 (tV (Zh gGe fa fb))):=h2▸Zco Ydz (Zcs Z7m Zjg ha hb hc (hm:=Zcr _))
theorem xfr{pos:Pos}{tg:Expr}{it:FI}{gg:FG}(hp:PassesOwn (Qd X.prog X.w) X.A X.env X.xe)(hc:X.calm=true)(hi:MI X io p true tg e (o2 it))(hg:MG X io true tg (oG gg))(hb:MSs X io ss (oS f))(hs:∀x,Q7 e X.env x=pure x:=by intro _;rfl):MS X io (.For tg e ss [] pos) (oS (W5 it gg f)):=Z39 (Z4n hp hc hi hg hb hs)
theorem xg2{pos:Pos}{n:Nat}{g1 g2:FG}(hc:X.calm=true)(ha:MG X io true a (oG g1))(hb:MG X io true b (oG g2))(h1:List.map (λx=>x.snd) (Q6 [a,b] X.env)=V9 a X.env :: List.map (λx=>x.snd) (Q6 [b] X.env):=by rfl)(h2:List.map (λx=>x.snd) (Q6 [b] X.env)=V9 b X.env :: List.map (λx=>x.snd) (Q6 [] X.env):=by rfl)(h3:(Q6 [a,b] X.env).length=2:=by rfl)(h4:List.findIdx? (λx=>x.fst) (Q6 [a,b] X.env)=none:=by rfl):MG X io true (.Tuple [a,b] n pos) (oG (gTp 2 (gCn g1 (gCn g2 gNl)))):=Zvk (Zwb (n:=2) hc (Ze6 (Zmh ha (Ze6 (Zmh hb (Zr6 Zos) h2)) h1)) h3 h4)
theorem xso{pos px:Pos}(i:Nat){x:Str}(hN:X.N.Nodup)(he:ME X io p true e (o2 fa))(hi:X.N[i]? =some x:=by rfl)(hx:Loc X.env.scope x:=by first|exact Qp rfl|exact Qh rfl)(hio:i∉io:=by decide)(hs:BZ e (some (.Name x px)) pos.line X.env=pure false:=by rfl)(hf:X.fn x=true∨X.env.scope.names.lookup x=some .local:=by first|exact .inl rfl|exact .inr rfl|assumption):MS X io (.Assign [.Name x px] e pos) (oS (wE fa (Zb4 i))):=Z1c (Zx2 hN hi hx he hio hs hf)
theorem xcl{pos pp:Pos}{k:Nat}{f:Addr}{fd:XN}{ps:List Str}{x:Str}{F:FD}(G:FnOk X.prog X.w X.K X.mg X.base CX0 k f fd ps (spD X.K (sD F)))(hr:Room k X.A)(hm:X.mg x=some (.ref f))(hk:Bj X.K (.ref f)=true)(hb:Binds X.K fd ps [])(ha:MA X io p c (e :: es) (o2 ra))(hg:Gl X x:=by rfl)(h1:(x==("__debug__" : Str))=false:=by decide)(h2:Xm (e :: es) X.env=(false,eval e X.env) :: Xm es X.env:=by rfl)(h3:((JL pos (Xm es X.env)).any λx=>x.fst)=false:=by rfl):ME X io p c (.Call (.Name x pp) (e :: es) [] pos) (o2 (Z0 F ra)):=Zxg (Z29 G hr hg hm hk hb Zbd ha h1 h2 h3)
theorem xln{pos pp:Pos}(hm:X.mg "len"=none)(ha:MA X io p c [e] (o2 ra))(hg:Gl X "len" :=by rfl)(h2:Xm [e] X.env=(false,eval e X.env) :: Xm [] X.env:=by rfl):ME X io p true (.Call (.Name "len" pp) [e] [] pos) (o2 (Zci Zfg ra)):=Zdt Z9p (Zjm Z2t (Zqp rfl) hg hm L2.B.boot_len ha (by decide) (by decide) h2 (by rfl))
end
noncomputable def tbl(P:List Nat)(led:Bool):SetTable:={ mask:=7,place:=P.toArray,dummies:=#[],finger:=0,led,moves:=0,plain:=true }
noncomputable def hT(k:List Int):Int:=reduceHash (Builtin.Tuple.tupleHashOf (k.map hashInt))
noncomputable def hAt(ks:List (List Int))(i:Nat):Int:=(ks[i]?.map hT).getD 0
noncomputable def Z84(P:List Nat)(j:Nat):List Nat:=((tbl P false).put j).1.place.toList
noncomputable def Ybh(P:List Nat)(j:Nat):Nat:=((tbl P false).put j).2
noncomputable def Yd2(ks:List (List Int))(p:Nat)(k:List Int):List (List Int):=ks.take p ++ k :: ks.drop p
noncomputable def Ydg(P:List Nat)(ks:List (List Int))(k:List Int):Option (List Nat×List (List Int)) :=
 match(tbl P false).probe (hAt ks) (hT k) ((tbl P false).probeStart (hT k))with
 | some (.empty j none)=>if(tbl (Z84 P j) false).tooFull=false∧(Z84 P j).length=ks.length+1∧ks.length≤6∧Ybh P j≤ks.length then some (Z84 P j,Yd2 ks (Ybh P j) k)else none
 | some (.candidate _ i _)=>if ks[i]? =some k then some (P,ks)else none
 | _=>none
noncomputable def grow(K:List (List Int)):Nat->List (List Nat×List (List Int))->List (List Nat×List (List Int))
 | 0,S=>S
 | n+1,S=>grow K n (S ++ (S.flatMap λs=>K.filterMap λk=>Ydg s.1 s.2 k).filter λs=>!S.contains s)
noncomputable def K2:List (List Int):=[[0,0],[0,1],[1,0],[1,1]]
noncomputable def S2:List (List Nat×List (List Int)):=(grow K2 4 [([],[])]).eraseDups
section
variable {prog:X6}{w:Qv}{A:Qo}{E:Xc->Xe->Prop}{s:Xe}
inductive KeysIn(U:Addr->List Int->Prop):List (List Int)->List (Int×Xc)->Prop
 | nil:KeysIn U [] []
 | cons {k:List Int} {a:Addr} {ks:List (List Int)} {l:List (Int×Xc)} (h:U a k) (t:KeysIn U ks l):KeysIn U (k :: ks) ((hT k,.ref a) :: l)
theorem KeysIn.hash{U:Addr->List Int->Prop}{ks:List (List Int)}{l:List (Int×Xc)}(h:KeysIn U ks l):l.map (·.1)=ks.map hT:=by
 induction h with
 | nil=>rfl
 | cons _ _ ih=>rw[Qs,Qs,ih]
noncomputable abbrev IK(prog:X6)(w:Qv)(h:Heap)(k:List Int)(a:Addr):Prop:=IsTupleKey (intKind prog w) h k a
theorem items_int{ks:List Int}{vs:List Xc}(h:ItemsAre (intKind prog w) ks vs):∀v∈vs,∃i t,v= .int i t:=by
 induction h with
 | nil=>exact λ_ m=>nomatch m
 | cons h _ ih=>
  intro v hv
  rcases Xk.mp hv with rfl|hv
  ·obtain⟨t,e⟩:=Value.isInt_shape h
   exact⟨_,t,e⟩
  ·exact ih v hv
theorem KeysIn.at{U:Addr->List Int->Prop}{ks:List (List Int)}{es:Array (Int×Xc)}(h:KeysIn U ks es.toList)(i:Nat):(es[i]?.map (·.1)).getD 0=hAt ks i:=by
 unfold hAt
 rw[←Xn,←h.hash,Xn,Q5]
end
section
variable {prog:X6}{w:Qv}{A:Qo}{R:Result->Xe->Prop}{I:Addr}{fp wr:List Addr}{n:Nat}{Pv:Nat->Xc->Prop}{St:Nat->Heap->Prop}
end
inductive Z8m(H:Hp):List V->List (List Int)->Prop
 | nil:Z8m H [] []
 | cons {a:Addr} {k:List Int} {xs:List V} {ks:List (List Int)} (h:H a=some (.tup (k.map V.int))) (t:Z8m H xs ks):Z8m H (.ref a :: xs) (k :: ks)
section
variable {X:Cx}{p c:Bool}{io:List Nat}{a e:Expr}{pos pos' pl pr:Pos}{t:TA}{mr:MAt}{ra:FA}
end
noncomputable abbrev Ydc(h:Heap)(T:Addr)(a b c:Xc):Prop:=h.get? T=some { cls:=.type "tuple",data:=.seq #[a,b,c] }
structure Z3A(z TI TO i1 i2 i3:Addr)(f1 f2 f3:List Addr):Prop where
 TIz:TI≠z
 TOz:TO≠z
 a1:∀c∈f1,c≠z∧c≠TO∧c≠i2∧c≠i3
 a2:∀c∈f2,c≠z∧c≠TO∧c≠i1∧c≠i3
 a3:∀c∈f3,c≠z∧c≠TO∧c≠i1∧c≠i2
section
variable {P:X6}{w:Qv}{A:Qo}{E:Xc->Xe->Prop}{s:Xe}
end
noncomputable abbrev z3A(h:Heap)(a:Addr):Heap:=h.push { cls:=.type "list_iterator",data:=.fields #[.ref a,.int 0 0] }
noncomputable abbrev z3B(h:Heap)(a b:Addr):Heap:=z3A (z3A h a) b
noncomputable abbrev z3C(h:Heap)(a b c:Addr):Heap:=z3A (z3B h a b) c
noncomputable abbrev z3D(h:Heap)(a b c:Addr):Heap:=(z3C h a b c).push { cls:=.type "tuple",data:=.seq #[.ref h.objs.size,.ref (z3A h a).objs.size,.ref (z3B h a b).objs.size] }
noncomputable abbrev z3E(h:Heap)(a b c:Addr):Heap:=(z3D h a b c).push { cls:=.type "tuple",data:=.seq #[.none,.none,.none] }
noncomputable abbrev z3F(h:Heap)(a b c:Addr):Heap:=(z3E h a b c).push { cls:=.type "zip",data:=.fields #[.none,.bool false,.bool false,.ref (z3C h a b c).objs.size,.ref (z3D h a b c).objs.size] }
section
variable {P:X6}{w:Qv}{A:Qo}{E:Xc->Xe->Prop}{s:Xe}
end
section
variable {X:Cx}{io:List Nat}{p c:Bool}{a b e:Expr}{mr:MAt}{ra:FA}
end
noncomputable def Up(xs:List Nat):Prop:=xs.Pairwise (·<·)
theorem Z2c{xs:List Nat}(h:Up xs){i j:Nat}{a b:Nat}(ha:xs[i]? =some a)(hb:xs[j]? =some b)(l:i<j):a<b:=by
 obtain⟨hi,rfl⟩:=Xj.mp ha
 obtain⟨hj,rfl⟩:=Xj.mp hb
 exact Vs.mp h i j hi hj l
theorem getD_at{xs:Array Nat}{i d:Nat}(h:i<xs.size):xs.toList[i]? =some (xs.getD i d):=by
 rw[Q5,Array.getElem?_eq_getElem h,Array.getD,dif_pos h];rfl
theorem Zti{xs:Array Nat}{j:Nat}(up:Up xs.toList):∀(fuel lo hi:Nat),hi-lo≤fuel->lo≤hi->hi≤xs.size->(∀i a,i<lo->xs.toList[i]? =some a->a<j)->(∀i a,hi≤i->xs.toList[i]? =some a->j≤a) ->
  ∃p,SetTable.below.go xs j fuel lo hi=p∧p≤xs.size∧(∀i a,i<p->xs.toList[i]? =some a->a<j)∧∀i a,p≤i->xs.toList[i]? =some a->j≤a:=by
 intro fuel
 induction fuel with
 | zero=>
  intro lo hi f l z h1 h2
  have e:lo=hi:=by omega
  exact⟨lo,rfl,by omega,h1,λi a q=>h2 i a (by omega)⟩
 | succ fuel ih=>
  intro lo hi f l z h1 h2
  rw[SetTable.below.go]
  by_cases c:lo<hi
  ·rw[if_pos c]
   have hm:(lo+hi)/2<xs.size:=by omega
   have em:=getD_at (xs:=xs) (d:=j) hm
   by_cases q:xs.getD ((lo+hi)/2) j<j
   ·simp only[if_pos q]
    refine ih _ _ (by omega) (by omega) z (λi a li ea=>?_) h2
    by_cases e:i=(lo+hi)/2
    ·subst e
     rw[em]at ea
     cases ea
     exact q
    ·exact V0 (Z2c up ea em (by omega)) q
   ·simp only[if_neg q]
    refine ih _ _ (by omega) (by omega) (by omega) h1 λi a li ea=>?_
    by_cases e:i=(lo+hi)/2
    ·subst e
     rw[em]at ea
     cases ea
     omega
    ·have:=Z2c up em ea (by omega)
     omega
  ·rw[if_neg c]
   have e:lo=hi:=by omega
   exact⟨lo,rfl,by omega,h1,λi a q=>h2 i a (by omega)⟩
theorem Zmy{xs:Array Nat}(up:Up xs.toList)(j:Nat):SetTable.below xs j≤xs.size∧(∀i a,i<SetTable.below xs j->xs.toList[i]? =some a->a<j)∧∀i a,SetTable.below xs j≤i->xs.toList[i]? =some a->j≤a:=by
 obtain⟨p,e,h⟩:=Zti (j:=j) up xs.size 0 xs.size (by omega) (QQ _) (X4 _) (λi a q=>absurd q (Bq _)) λi a q ea=>by
  have:=(Xj.mp ea).1
  rw[Vu]at this
  omega
 unfold SetTable.below
 rw[e];exact h
structure Tb(b:Bool)(t:SetTable):Prop where
 led:t.led=b
 up:t.plain=true->Up t.place.toList
noncomputable def OfL{α:Type}(ks ns:List α):Prop:=ks.Nodup∧∀x,x∈ks↔x∈ns
noncomputable abbrev Of(ks ns:List Int):Prop:=OfL ks ns
structure Yd9{τ:Type}(prog:X6)(w:Qv)(A:Qo)(S:Addr)(T:Heap->List τ->Prop)(h0:Heap)(n:Nat)(Ok:Xc->τ->Prop):Prop where
 stay:∀h h' ks,T h ks->(∀o,h.get? S=some o->h'.get? S=some o)->T h' ks
 add:∀(s:Xe) (E:Xc->Xe->Prop) (v:Xc) (k:τ) (ks:List τ) (Q:Bool->Xe->Prop),Ok v k->(∀b o,b<S->h0.get? b=some o->s.heap.get? b=some o)->T s.heap ks->ks.length<n->(∀c h' tk ks',Vp S s.heap h'->T h' ks'->(k∈ks->ks'=ks)->(k∉ks->ks'.Perm (ks ++ [k]))->Q c { s with heap:=h',toks:=tk })->X5 (Qd prog w) A (setAdd S v) Q E s
section
variable {prog:X6}{w:Qv}{A:Qo}{R:Result->Xe->Prop}{I S:Addr}{fp wr:List Addr}{n:Nat}{Pv:Nat->Xc->Prop}{St:Nat->Heap->Prop}{τ:Type}{T:Heap->List τ->Prop}{h0:Heap}{Ok:Xc->τ->Prop}
end
section
variable {prog:X6}{w:Qv}{A:Qo}{E:Xc->Xe->Prop}{s:Xe}
end
section
variable {κ:Type}[DecidableEq κ]
noncomputable def Zsf(kvs:List (κ×V))(k:κ):Option V:=(kvs.find? λkv=>decide (kv.1=k)).map (·.2)
noncomputable def putK(kvs:List (κ×V))(k:κ)(v:V):List (κ×V) :=
 if(kvs.any λkv=>decide (kv.1=k))=true then kvs.map (λkv=>if kv.1=k then(kv.1,v)else kv)else kvs ++ [(k,v)]
theorem Zut{p:κ×V}{r:List (κ×V)}{k:κ}(e:p.1=k):Zsf (p :: r) k=some p.2:=by simp[Zsf,List.find?_cons,e]
theorem Zs2{p:κ×V}{r:List (κ×V)}{k:κ}(e:¬p.1=k):Zsf (p :: r) k=Zsf r k:=by simp[Zsf,List.find?_cons,e]
theorem RelO.getD{o:Option V}{u:Option Xc}{d:V}{d':Xc}(r:RelO o u)(rd:RelV d d'):RelV (o.getD d) (u.getD d'):=by
 cases o with
 | none=>cases u with
  | none=>exact rd
  | some _=>exact(show False from r).elim
 | some _=>cases u with
  | none=>exact(show False from r).elim
  | some _=>exact r
theorem KV.length{kvs:List (κ×V)}{vs:List (κ×Xc)}(r:KV kvs vs):kvs.length=vs.length:=Paired.length r
end
noncomputable abbrev KT(H:Hp):List (List Key×V)->List (List Key×Addr×Xc)->Prop:=Paired λp q=>p.1=q.1∧H q.2.1=some (.tup (p.1.map kV))∧RelV p.2 q.2.2
section
variable {P:X6}{w:Qv}{H:Hp}{h:Heap}{a:Addr}
end
noncomputable def DGet(H:Hp)(a:Addr)(y:V)(r:Option V):Prop :=
 (∃ kvs k,Rd H a (.dK kvs)∧y=kV k∧r=Zsf kvs k)∨∃kvs k b,Rd H a (.dT kvs)∧y= .ref b∧H b=some (.tup (k.map kV))∧r=Zsf kvs k
noncomputable def DPut(H:Hp)(a:Addr)(y v:V)(H':Hp):Prop :=
 (∃ kvs k,H a=some (.dK kvs)∧y=kV k∧kvs.length<Xq∧H'=upd H a (.dK (putK kvs k v)))∨
 ∃kvs k b,H a=some (.dT kvs)∧y= .ref b∧H b=some (.tup (k.map kV))∧kvs.length<Xq∧H'=upd H a (.dT (putK kvs k v))
theorem DGet.k{H:Hp}{a:Addr}{kvs:List (Key×V)}{k:Key}(e:H a=some (.dK kvs)):DGet H a (kV k) (Zsf kvs k):=.inl ⟨kvs,k,.inl e,rfl,rfl⟩
theorem DGet.t{H:Hp}{a b:Addr}{kvs:List (List Key×V)}{k:List Key}(e:H a=some (.dT kvs))(eb:H b=some (.tup (k.map kV))):DGet H a (.ref b) (Zsf kvs k):=.inr ⟨kvs,k,b,.inl e,rfl,eb,rfl⟩
theorem DPut.k{H:Hp}{a:Addr}{kvs:List (Key×V)}{k:Key}{v:V}(e:H a=some (.dK kvs))(hl:kvs.length<Xq):DPut H a (kV k) v (upd H a (.dK (putK kvs k v))):=.inl ⟨kvs,k,e,rfl,hl,rfl⟩
theorem DPut.t{H:Hp}{a b:Addr}{kvs:List (List Key×V)}{k:List Key}{v:V}(e:H a=some (.dT kvs))(eb:H b=some (.tup (k.map kV)))(hl:kvs.length<Xq) :
  DPut H a (.ref b) v (upd H a (.dT (putK kvs k v))):=.inr ⟨kvs,k,b,e,rfl,eb,hl,rfl⟩
section
variable {X:Cx}{pins:List (Addr×Obj)}{σ:St}{H:Hp}{s:Xe}{a:Addr}{y v:V}{u r:Xc}{o:Option V}{A:Qo}{E:Xc->Xe->Prop}
end
section
variable {X:Cx}{pins:List (Addr×Obj)}{σ:St}{H:Hp}{s:Xe}{a:Addr}{kvs:List (Key×V)}{k:Key}{u:Xc}{A:Qo}{E:Xc->Xe->Prop}
end
section
variable {X:Cx}{o i e value:Expr}{pos pos' tpos:Pos}{td ty tv:TE}
end
section
variable {X:Cx}{pos:Pos}
end
noncomputable abbrev VV:List (V×V)->List (Xc×Xc)->Prop:=Paired λp q=>RelV p.1 q.1∧RelV p.2 q.2
structure M1(X:Cx)(o:Expr)(m:Str)(apos:Pos)(e:Expr)(cpos:Pos):Prop where
 base:Uk o m X.env (eval o X.env)=eval o X.env
 few:((JL cpos (Xm [e] X.env)).all (λx=>!x.1)&&(backToKw cpos (keywordEach [] X.env)).all (λx=>x.1.isSome)
  &&decide (([e]:List Expr).length+([]:List Ub).length+(if([]:List Ub).isEmpty then 0 else 1)<30))=true
 line:(apos.endLine==cpos.line)=true
 trees:JL cpos (Xm [e] X.env)=[(false,eval e X.env)]
structure M2(X:Cx)(o:Expr)(m:Str)(apos:Pos)(e f:Expr)(cpos:Pos):Prop where
 base:Uk o m X.env (eval o X.env)=eval o X.env
 few:((JL cpos (Xm [e,f] X.env)).all (λx=>!x.1)&&(backToKw cpos (keywordEach [] X.env)).all (λx=>x.1.isSome)
  &&decide (([e,f]:List Expr).length+([]:List Ub).length+(if([]:List Ub).isEmpty then 0 else 1)<30))=true
 line:(apos.endLine==cpos.line)=true
 trees:JL cpos (Xm [e,f] X.env)=[(false,eval e X.env),(false,eval f X.env)]
section
variable {X:Cx}{pins:List (Addr×Obj)}{σ:St}{H:Hp}{s:Xe}{a:Addr}{y d:V}{u r:Xc}{o:Option V}{A:Qo}{E:Xc->Xe->Prop}
end
section
variable {X:Cx}{o e f:Expr}{apos cpos:Pos}{td ty tx:TE}
end
variable {G:Xb}
noncomputable def Z80(k:KY):List KY->List Xa->Option Xa
 | [],_=>none
 | _ :: _,[]=>none
 | j :: ks,d :: ds=>if j=k then some d else Z80 k ks ds
section
variable {H:Hp}{L:Addr->Prop}{κ:Type}[DecidableEq κ]{f:κ->KY}
noncomputable def Ybo(G:Xb)(H:Hp)(L:Addr->Prop)(a:Option V)(b:Option Xa):Prop:=(∃v d,a=some v∧b=some d∧Da G H L v d)∨(a=none∧b=none)
theorem look(hf:∀a b,f a=f b->a=b)(k:κ)(kvs:List (κ×V)):∀ds,Das G H L (kvs.map (·.2)) ds->Ybo G H L (Zsf kvs k) (Z80 (f k) (kvs.map λp=>f p.1) ds):=by
 induction kvs with
 | nil=>exact λds _=>.inr ⟨rfl,rfl⟩
 | cons p kvs ih=>
  intro ds h
  cases h with
  | cons h r=>
   rename_i d ds
   show Ybo G H L _ (if f p.1=f k then some d else Z80 (f k) (kvs.map λp=>f p.1) ds)
   by_cases e:p.1=k
   ·rw[Zut e,if_pos (congrArg f e)]
    exact .inl ⟨_,_,rfl,rfl,h⟩
   ·rw[Zs2 e,if_neg λz=>e (hf _ _ z)]
    exact ih _ r
end
section
variable {H:Hp}{L:Addr->Prop}{y:V}{e:Xa}
end
end L2
namespace L2
open PySem PySem.Spec PyProof.Rows PySem.W PySem.SeqAt
variable {G:Xb}
section
variable {prog:X6}{w:Qv}{A:Qo}{E:Xc->Xe->Prop}{s:Xe}
end
theorem Paired.at{α β:Type}{R:α->β->Prop}{as:List α}{bs:List β}(h:PySem.Paired R as bs):∀{i:Nat} {y:β},bs[i]? =some y->∃x,as[i]? =some x∧R x y:=by
 induction h with
 | nil=>intro i y z;cases z
 | cons h t ih=>
  intro i y z
  cases i with
  | zero=>cases z;exact⟨_,rfl,h⟩
  | succ i=>exact ih z
end L2
namespace L2
open PySem PySem.Spec PyProof.Rows
noncomputable def Yac(o:Option (Option OT))(δ:Zf):Option (OT×Zf):=match o with|some (some (.fz d))=>some (.fz d,δ)|_=>none
theorem Zxw(d:Xa)(δ:Zf):Yac (some (some (.fz d))) δ=some (.fz d,δ):=rfl
noncomputable def Z3t(o:Option (Option OT))(δ:Zf):Option (OT×Zf):=match o with|some (some t)=>some (.fz t.data,δ)|_=>none
theorem Zz6(t:OT)(δ:Zf):Z3t (some (some t)) δ=some (.fz t.data,δ):=rfl
theorem Zze(i:Nat)(δ:Zf):Ze i δ=Yac δ[i]? δ:=rfl
theorem Zxj(i:Nat)(δ:Zf):Zdi i δ=Z3t δ[i]? δ:=rfl
theorem Z9n(d:Xa)(δ:Zf):fC d δ=some (.fz d,δ):=rfl
theorem Zmx(g:Xa->Xa->Option Xa)(a b:FE)(δ:Zf):Zh g a b δ=(a δ).bind λp=>(b p.2).bind λq=>(g p.1.data q.1.data).bind λd=>some (.fz d,q.2):=rfl
theorem Zl1(g:Xa->Xa->Option OT)(a b:FE)(δ:Zf):Z3 g a b δ=(a δ).bind λp=>(b p.2).bind λq=>(g p.1.data q.1.data).bind λd=>some (d,q.2):=rfl
theorem Z2s(g:Xa->Option Xa)(a:FE)(δ:Zf):fUn g a δ=(a δ).bind λp=>(g p.1.data).bind λd=>some (.fz d,p.2):=rfl
noncomputable def onB{α:Type}(d:Xa)(x y:Option α):Option α:=match d with| .bool true=>x| .bool false=>y|_=>none
theorem Yd4{α:Type}(x y:Option α):onB (.bool true) x y=x:=rfl
theorem Yc9{α:Type}(x y:Option α):onB (.bool false) x y=y:=rfl
theorem Z7s(a b:FE)(δ:Zf):Z61 a b δ=(a δ).bind λp=>onB p.1.data (b p.2) (some (.fz (.bool false),p.2)):=by
 unfold Z61 onB
 cases a δ with
 | none=>rfl
 | some p=>first|rfl|(simp only[Xi];done)|(simp only[Xi];generalize p.1.data=d;cases d<;>first|rfl|(rename_i b;cases b<;>rfl))
theorem Yav(a b:FE)(δ:Zf):fOr a b δ=(a δ).bind λp=>onB p.1.data (some (.fz (.bool true),p.2)) (b p.2):=by
 unfold fOr onB
 cases a δ with
 | none=>rfl
 | some p=>first|rfl|(simp only[Xi];done)|(simp only[Xi];generalize p.1.data=d;cases d<;>first|rfl|(rename_i b;cases b<;>rfl))
theorem Yce(t:FT)(a b:FE)(δ:Zf):fIf t a b δ=(t δ).bind λp=>if p.1=true then a p.2 else b p.2:=rfl
noncomputable def Z9a(t:OT)(δ:Zf):Option (Bool×Zf):=match t with| .fz (.bool b)=>some (b,δ)|_=>none
theorem Z21(b:Bool)(δ:Zf):Z9a (.fz (.bool b)) δ=some (b,δ):=rfl
theorem Z73(e:FE)(δ:Zf):tV e δ=(e δ).bind λp=>Z9a p.1 p.2:=by
 unfold tV Z9a
 cases e δ with
 | none=>rfl
 | some p=>rfl
theorem Z4t(t:FT)(δ:Zf):tNo t δ=(t δ).bind λp=>some (!p.1,p.2):=rfl
theorem Ycd(t u:FT)(δ:Zf):tAn t u δ=(t δ).bind λp=>if p.1=true then u p.2 else some (false,p.2):=rfl
theorem Z5x(t u:FT)(δ:Zf):tO t u δ=(t δ).bind λp=>if p.1=true then some (true,p.2)else u p.2:=rfl
theorem Z7x(e:FE)(δ:Zf):tD e δ=(e δ).bind λp=>(Zu2 p.1.data).bind λb=>some (b,p.2):=rfl
theorem Z7w(δ:Zf):Zhj δ=some (true,δ):=rfl
theorem Zwv(δ:Zf):Zr δ=some ([],δ):=rfl
theorem Ze9(e:FE)(a:FA)(δ:Zf):Zd e a δ=(e δ).bind λp=>(a p.2).bind λq=>some (p.1 :: q.1,q.2):=rfl
theorem Zzu(a:FA)(δ:Zf):Zlf a δ=(a δ).bind λp=>if p.1.length≤Xq then some (.fz (.tuple (OT.datas p.1)),p.2)else none:=rfl
theorem Zc1(a:FA)(δ:Zf):Zbf a δ=(a δ).bind λp=>if p.1.length≤Xq then some (.nd p.1,p.2)else none:=rfl
theorem Zt9(a:FA)(δ:Zf):Zuk a δ=(a δ).bind λp=>if p.1.length≤Xq then some (.tp p.1,p.2)else none:=rfl
theorem Zuv(e:FE)(δ:Zf):Zub e δ=(e δ).bind λp=>if J7 p.1.data=true then some (.fz p.1.data,p.2)else none:=rfl
theorem Z3q(e:FE)(δ:Zf):Z6e e δ=(e δ).bind λp=>if Zbu p.1=true then some (p.1,p.2)else none:=rfl
noncomputable def okO(x:RF)(δ:Zf):Option (OT×Zf):=match x with| .ok r=>some (r,δ)|_=>none
theorem Z1y(r:OT)(δ:Zf):okO (.ok r) δ=some (r,δ):=rfl
theorem Ze0(F:FD)(a:FA)(δ:Zf):Z0 F a δ=(a δ).bind λp=>okO (F (OT.datas p.1)) p.2:=by
 unfold Z0 okO
 cases a δ with
 | none=>rfl
 | some p=>rfl
noncomputable def atO{α:Type}(o:Option (Option OT))(k:OT->Option α):Option α:=match o with|some (some t)=>k t|_=>none
theorem Ydb{α:Type}(t:OT)(k:OT->Option α):atO (some (some t)) k=k t:=rfl
theorem Zox(i:Nat)(F:FIO)(a:FA)(δ:Zf):Yp i F a δ=atO δ[i]? λ_=>(a δ).bind λp=>atO p.2[i]? λt=>(F t (OT.datas p.1)).bind λq=>some (q.1,p.2.set i (some q.2)):=by
 unfold Yp
 generalize δ[i]? =o
 rcases o with _|_|t
 ·rfl
 ·rfl
 ·show(a δ).bind _=(a δ).bind _
  cases a δ with
  | none=>rfl
  | some p=>
   show(λo:Option (Option OT)=>(match o with|some (some t)=>(F t (OT.datas p.1)).bind λq=>some (q.1,p.2.set i (some q.2))|_=>none)) p.2[i]? =atO p.2[i]? _
   generalize p.2[i]? =o
   rcases o with _|_|t<;>rfl
theorem Zxi(g:List Xa->Option Xa)(a:FA)(δ:Zf):Zci g a δ=(a δ).bind λp=>(g (OT.datas p.1)).bind λd=>some (.fz d,p.2):=rfl
theorem Z6f(g:List Xa->Option OT)(a:FA)(δ:Zf):fBl g a δ=(a δ).bind λp=>(g (OT.datas p.1)).bind λd=>some (d,p.2):=rfl
theorem Z0w(T:String)(e:FE)(δ:Zf):Znw T e δ=(e δ).bind λp=>if Zgq p.1.data=true then none else some (.fz (.bool (Zom T p.1.data)),p.2):=rfl
theorem Ych(δ:Zf):oN δ=some (none,δ):=rfl
noncomputable def asInt{α:Type}(d:Xa)(k:Int->Option α):Option α:=match d with| .int i=>k i|_=>none
theorem Zy1{α:Type}(i:Int)(k:Int->Option α):asInt (.int i) k=k i:=rfl
noncomputable def Zph{α:Type}(d:Xa)(k:List Xa->Option α):Option α:=match d with| .list i=>k i|_=>none
theorem Zrf{α:Type}(i:List Xa)(k:List Xa->Option α):Zph (.list i) k=k i:=rfl
noncomputable def Zxp{α:Type}(d:Xa)(k:List Xa->Option α):Option α:=match d with| .tuple i=>k i|_=>none
theorem Z99{α:Type}(i:List Xa)(k:List Xa->Option α):Zxp (.tuple i) k=k i:=rfl
theorem Z9j(e:FE)(δ:Zf):oI e δ=(e δ).bind λp=>asInt p.1.data λi=>some (some i,p.2):=by
 unfold oI asInt
 cases e δ with
 | none=>rfl
 | some p=>rfl
theorem Z5h(e:FE)(lo hi:FO)(δ:Zf):fSl e lo hi δ=(e δ).bind λp=>(lo p.2).bind λq=>(hi q.2).bind λr=>Zph p.1.data λds=>some (.nd ((cutD ds q.1 r.1).map OT.fz),r.2):=by
 unfold fSl Zph;rfl
theorem Zy6(e:FE)(δ:Zf):Zaz e δ=(e δ).bind λp=>Zph p.1.data λds=>some (ds,p.2):=by
 unfold Zaz Zph;rfl
theorem Ycb(e:FE)(δ:Zf):iTp e δ=(e δ).bind λp=>Zxp p.1.data λds=>some (ds,p.2):=by
 unfold iTp Zxp;rfl
noncomputable def as1{α:Type}(ds:List Xa)(k:Int->Option α):Option α:=match ds with|[.int i]=>k i|_=>none
theorem Z2r{α:Type}(i:Int)(k:Int->Option α):as1 [.int i] k=k i:=rfl
noncomputable def as2{α:Type}(ds:List Xa)(k:Int->Int->Option α):Option α:=match ds with|[.int i,.int j]=>k i j|_=>none
theorem Z9q{α:Type}(i j:Int)(k:Int->Int->Option α):as2 [.int i,.int j] k=k i j:=rfl
theorem Zwi(a:FA)(δ:Zf):iRa a δ=(a δ).bind λp=>as1 (OT.datas p.1) λj=>if rOk j=true then some (Zdd 0 j.toNat,p.2)else none:=by
 unfold iRa as1;rfl
theorem Z1t(a:FA)(δ:Zf):iRb a δ=(a δ).bind λp=>as2 (OT.datas p.1) λi j=>if(rOk i&&rOk j)=true then some (Zdd i (j-i).toNat,p.2)else none:=by
 unfold iRb as2;rfl
theorem Z8o(a:FA)(δ:Zf):Yal a δ=(a δ).bind λp=>as1 (OT.datas p.1) λj=>if rOk j=true∧j.toNat≤Xq then some (.nd ((Zdd 0 j.toNat).map OT.fz),p.2)else none:=by
 unfold Yal as1;rfl
theorem Z8c(a b:FE)(δ:Zf):Ybv a b δ=(a δ).bind λp=>(b p.2).bind λq=>asInt q.1.data λk=>if rOk k=true∧k.toNat≤Xq then some (.nd (Bl k.toNat (.fz p.1.data)),p.2)else none:=by
 unfold Ybv asInt;rfl
noncomputable def Z8e{α:Type}(ds:List Xa)(k:List Xa->List Xa->Option α):Option α:=match ds with|[.list i,.list j]=>k i j|_=>none
theorem Yaz{α:Type}(i j:List Xa)(k:List Xa->List Xa->Option α):Z8e [.list i,.list j] k=k i j:=rfl
theorem Z67(a:FA)(δ:Zf):Z4q a δ=(a δ).bind λp=>Z8e (OT.datas p.1) λas bs=>some (Zmm as bs,p.2):=by
 unfold Z4q Z8e;rfl
theorem Z23(i:Nat)(d:Xa)(δ:Zf):gNm i d δ=some (δ.set i (some (.fz d))):=rfl
theorem Z8d(i:Nat)(d:Xa)(δ:Zf):Zx0 i d δ=if J7 d=true then some (δ.set i (some (.fz d)))else none:=rfl
theorem Yb5(δ:Zf):gNl [] δ=some δ:=rfl
theorem Yb4(g:FG)(gs:FGs)(d:Xa)(r:List Xa)(δ:Zf):gCn g gs (d :: r) δ=(g d δ).bind (gs r):=rfl
theorem Ybs(n:Nat)(gs:FGs)(ds:List Xa)(δ:Zf):gTp n gs (.tuple ds) δ=if ds.length=n then gs ds δ else none:=rfl
theorem Ybd(n:Nat)(gs:FGs)(ds:List Xa)(δ:Zf):gLs n gs (.list ds) δ=if ds.length=n then gs ds δ else none:=rfl
noncomputable def RS.thn(r:RS)(g:FS):RS:=match r with| .nx δ=>g δ|r=>r
theorem Zqd(δ:Zf)(g:FS):(RS.nx δ).thn g=g δ:=rfl
theorem Zve(r:OT)(δ:Zf)(g:FS):(RS.rt r δ).thn g= .rt r δ:=rfl
theorem Yb0(δ:Zf)(g:FS):(RS.bk δ).thn g= .bk δ:=rfl
theorem Yaj(δ:Zf)(g:FS):(RS.ct δ).thn g= .ct δ:=rfl
theorem Ybb(c:Str)(δ:Zf)(g:FS):(RS.ex c δ).thn g= .ex c δ:=rfl
theorem Zft(f g:FS)(δ:Zf):Z6 f g δ=(f δ).thn g:=rfl
theorem Yan(δ:Zf):fNx δ= .nx δ:=rfl
theorem Z8b(δ:Zf):Ydu δ= .bk δ:=rfl
theorem Z8z(δ:Zf):Ydp δ= .ct δ:=rfl
theorem Z1w(c:Str)(δ:Zf):Zmn c δ= .ex c δ:=rfl
theorem Z6w(δ:Zf):Z72 δ= .rt (.fz .none) δ:=rfl
noncomputable def onO{α:Type}(o:Option (α×Zf))(k:α->Zf->RS):RS:=match o with|some (r,δ')=>k r δ'|none=>.bad
theorem Yj{α:Type}(r:α)(δ:Zf)(k:α->Zf->RS):onO (some (r,δ)) k=k r δ:=rfl
theorem Jv(e:FE)(k:OT->Zf->RS)(δ:Zf):wE e k δ=onO (e δ) k:=by
 unfold wE onO
 cases e δ<;>rfl
noncomputable def onF(x:RF)(δ:Zf)(k:OT->Zf->RS):RS:=match x with| .ok r=>k r δ| .exn c=>.ex c δ| .bad=>.bad
theorem Ycf(r:OT)(δ:Zf)(k:OT->Zf->RS):onF (.ok r) δ k=k r δ:=rfl
theorem Yas(c:Str)(δ:Zf)(k:OT->Zf->RS):onF (.exn c) δ k= .ex c δ:=rfl
theorem Yd0(F:FD)(a:FA)(k:OT->Zf->RS)(δ:Zf):wX F a k δ=onO (a δ) λrs δ1=>onF (F (OT.datas rs)) δ1 k:=by
 unfold wX onO onF
 cases a δ with
 | none=>rfl
 | some p=>rfl
theorem Zr3(t:FT)(u w:FS)(δ:Zf):Za7 t u w δ=onO (t δ) λb δ'=>if b=true then u δ' else w δ':=by
 unfold Za7 onO
 cases t δ<;>rfl
theorem Zx4(it:FI)(g:FG)(u:FS)(δ:Zf):W5 it g u δ=onO (it δ) λds δ1=>forLoop g u ds δ1:=by
 unfold W5 onO
 cases it δ<;>rfl
theorem Ztt(r:OT)(δ:Zf):Zi9 r δ= .nx δ:=rfl
theorem Zw2(r:OT)(δ:Zf):Jt r δ= .rt r δ:=rfl
theorem Z62(r:OT)(δ:Zf):Z95 r δ=if J7 r.data=true then .rt (.fz r.data) δ else .bad:=rfl
theorem Zzo(i:Nat)(r:OT)(δ:Zf):Wd i r δ= .nx (δ.set i (some (.fz r.data))):=rfl
theorem Zth(i:Nat)(r:OT)(δ:Zf):Znu i r δ=if J7 r.data=true then .nx (δ.set i (some (.fz r.data)))else .bad:=rfl
theorem Zs5(i:Nat)(r:OT)(δ:Zf):Zb4 i r δ= .nx (δ.set i (some r)):=rfl
noncomputable def onD(o:Option Zf):RS:=match o with|some δ=>.nx δ|none=>.bad
theorem Z7b(δ:Zf):onD (some δ)= .nx δ:=rfl
theorem Z9u(g:FG)(r:OT)(δ:Zf):Yds g r δ=onD (g r.data δ):=rfl
noncomputable def onT(o:Option (Option OT))(k:OT->RS):RS:=match o with|some (some t)=>k t|_=>.bad
theorem Zsk(t:OT)(k:OT->RS):onT (some (some t)) k=k t:=rfl
theorem Zik(i:Nat)(δ:Zf):Zfc i δ=onT δ[i]? λt=>.rt t (δ.set i none):=rfl
theorem Znn(i:Nat)(u:FS)(δ:Zf):Zfa i u δ=onT δ[i]? λt=>u (δ.set i (some (.fz t.data))):=rfl
noncomputable def onN(o:Option (Option OT))(k:List OT->RS):RS:=match o with|some (some (.nd ts))=>k ts|_=>.bad
theorem Ztd(t:List OT)(k:List OT->RS):onN (some (some (.nd t))) k=k t:=rfl
theorem Zg9(i:Nat)(e:FE)(δ:Zf):Jo i e δ=onN δ[i]? λ_=>onO (e δ) λr δ1=>onN δ1[i]? λts=>if ts.length<Xq then .nx (δ1.set i (some (.nd (ts ++ [.fz r.data]))))else .bad:=by
 unfold Jo
 generalize δ[i]? =o
 rcases o with _|_|(_|_|_|_)
 ·rfl
 ·rfl
 ·rfl
 ·show wE e _ δ=onO (e δ) _
  rw[Jv]
  congr 1
 ·rfl
 ·rfl
theorem Zxf(i:Nat)(e:FE)(δ:Zf):Zmr i e δ=onN δ[i]? λ_=>onO (e δ) λr δ1=>onN δ1[i]? λts=>if ts.length<Xq then .nx (δ1.set i (some (.nd (ts ++ [r]))))else .bad:=by
 unfold Zmr
 generalize δ[i]? =o
 rcases o with _|_|(_|_|_|_)
 ·rfl
 ·rfl
 ·rfl
 ·show wE e _ δ=onO (e δ) _
  rw[Jv]
  congr 1
 ·rfl
 ·rfl
noncomputable def onI(d:Xa)(k:Int->RS):RS:=match d with| .int i=>k i|_=>.bad
theorem Yd6(i:Int)(k:Int->RS):onI (.int i) k=k i:=rfl
noncomputable def onX(o:Option Nat)(k:Nat->RS):RS:=match o with|some i=>k i|_=>.bad
theorem Ydv(i:Nat)(k:Nat->RS):onX (some i) k=k i:=rfl
theorem Z0r(i:Nat)(e j:FE)(δ:Zf):Zw4 i e j δ=onO (e δ) λr δ1=>onN δ1[i]? λts=>onO (j δ1) λn _=>onI n.data λk=>onX (ixN ts.length k) λj=>.nx (δ1.set i (some (.nd (ts.set j (.fz r.data))))):=by
 unfold Zw4
 rw[Jv]
 congr 1
 funext r δ1
 generalize δ1[i]? =o
 rcases o with _|_|(_|_|_|_)
 ·rfl
 ·rfl
 ·rfl
 ·show wE j _ δ1=onO (j δ1) _
  rw[Jv]
  congr 1
  funext n δ2
  generalize n.data=d
  cases d<;>try rfl
  show(match ixN _ _ with|some j=>_|none=>_)=onX (ixN _ _) _
  generalize ixN _ _=x
  cases x<;>rfl
 ·rfl
 ·rfl
noncomputable def onU(o:Option OT)(k:List OT->RS):RS:=match o with|some (.nd ts)=>k ts|_=>.bad
theorem Ydl(t:List OT)(k:List OT->RS):onU (some (.nd t)) k=k t:=rfl
noncomputable def onP(o:Option (Option OT))(k:List OT->RS):RS:=match o with|some (some (.tp ts))=>k ts|_=>.bad
theorem Ydt(t:List OT)(k:List OT->RS):onP (some (some (.tp t))) k=k t:=rfl
theorem Z6b(i c:Nat)(e:FE)(δ:Zf):Zv5 i c e δ=onP δ[i]? λts=>onU ts[c]? λus=>onO (e δ) λr _=>if us.length<Xq then .nx (δ.set i (some (.tp (ts.set c (.nd (us ++ [.fz r.data]))))))else .bad:=by
 unfold Zv5
 generalize δ[i]? =o
 rcases o with _|_|(_|_|ts|_)
 ·rfl
 ·rfl
 ·rfl
 ·rfl
 ·show(match ts[c]? with|some (.nd us)=>wE e _ δ|_=>_)=onU ts[c]? _
  generalize ts[c]? =o
  rcases o with _|(_|_|_|_)
  ·rfl
  ·rfl
  ·show wE e _ δ=onO (e δ) _
   rw[Jv]
  ·rfl
  ·rfl
 ·rfl
noncomputable def on2(ds:List Xa)(k:Xa->Xa->RS):RS:=match ds with|[d,e]=>k d e|_=>.bad
theorem Ydj(d e:Xa)(k:Xa->Xa->RS):on2 [d,e] k=k d e:=rfl
theorem Z8v(i j:Nat)(a:FA)(δ:Zf):Yaa i j a δ=onO (a δ) λrs δ1=>on2 (OT.datas rs) λd e=>.nx ((δ1.set i (some (.fz d))).set j (some (.fz e))):=by
 unfold Yaa onO on2
 cases a δ<;>rfl
theorem Zf8{np n:Nat}{S:FS}{ds:List Xa}(h:ds.length=np):Zal np n S ds=(S (Zes n ds)).told:=by
 unfold Zal;rw[if_pos h]
theorem Z0l{np n:Nat}{S:FS}{t:OT}{ds:List Xa}(h:ds.length+1=np):Zpn np n S t ds=(S (Zin n t ds)).toldI:=by
 unfold Zpn;rw[if_pos h]
theorem Zyr(δ:Zf):(RS.nx δ).told= .ok (.fz .none):=rfl
theorem Zqj(r:OT)(δ:Zf):(RS.rt r δ).told= .ok r:=rfl
theorem Z93(c:Str)(δ:Zf):(RS.ex c δ).told= .exn c:=rfl
theorem Zwj(i j:Int):Za0 (.int i) (.int j)=some (.int (i+j)):=rfl
theorem Yd5(i j:Int):gSb (.int i) (.int j)=some (.int (i-j)):=rfl
theorem Ydn(i j:Int):gLt (.int i) (.int j)=some (.bool (decide (i<j))):=rfl
theorem Ycl(i j:Int):gLe (.int i) (.int j)=some (.bool (decide (i≤j))):=rfl
theorem Z70(i j:Int):gGt (.int i) (.int j)=some (.bool (decide (j<i))):=rfl
theorem Z88(i j:Int):gGe (.int i) (.int j)=some (.bool (decide (j≤i))):=rfl
theorem Ju{i j:Int}(h:Z1r i j=true):Zcu (.int i) (.int j)=some (.int (i*j)):=by
 unfold Zcu i2c;dsimp only;rw[if_pos h]
theorem Zd0{i j:Int}(h:Z3b i j=true):J8 (.int i) (.int j)=some (.int (i.fdiv j)):=by
 unfold J8 i2c;dsimp only;rw[if_pos h]
theorem Z35{i j:Int}(h:j≠0):Zg1 (.int i) (.int j)=some (.int (i.fmod j)):=by
 unfold Zg1 i2c Ybp;dsimp only;rw[if_pos (decide_eq_true h)]
theorem Wv{m n:Nat}{x y:Int}(h:Bt m x)(k:Bt n y)(hmn:m+n≤100000000:=by decide):Z1r x y=true:=Zif.mpr (h.mulOk k hmn)
theorem Z4u{x y:Int}(h:x.natAbs<2^64):Z1r x y=true:=Zif.mpr (.of_left (intBits_le_64 (by omega) (by omega)))
theorem Zdy{n:Nat}{i j:Int}(h0:j≠0)(h:Bt n j)(hn:n≤9000:=by decide):Z3b i j=true:=by
 obtain⟨h1,h2⟩:=DivOk.of (i:=i) h0 h hn
 unfold Z3b
 rw[decide_eq_true h1,decide_eq_true h2];rfl
theorem Z09(i j:Int):gEq (.int i) (.int j)=some (.bool (decide (i=j))):=by
 show some (PyData.bool (i==j))=_
 rw[show(i==j)=decide (i=j)from rfl]
theorem Z9d(i j:Int):gNe (.int i) (.int j)=some (.bool (!decide (i=j))):=by
 show some (PyData.bool (!(i==j)))=_
 rw[show(i==j)=decide (i=j)from rfl]
theorem Z5c(d:Xa):gIs d .none=some (.bool (Zda d)):=rfl
theorem Z6y(d:Xa):Zmu d .none=some (.bool (!Zda d)):=rfl
theorem Zh9(ds:List Xa)(i:Int):gIx (.list ds) (.int i)=(atI ds i).bind λx=>some (.fz x):=rfl
theorem Ydh(ds:List Xa)(i:Int):gIx (.tuple ds) (.int i)=(atI ds i).bind λx=>some (.fz x):=rfl
theorem Zqu(ds:List Xa):Zfg [.list ds]=some (.int ds.length):=rfl
theorem Yb8(ds:List Xa):Zfg [.tuple ds]=some (.int ds.length):=rfl
theorem Zoy(i:Int):Z1j [.int i]=some (.int (i.natAbs:Int)):=by
 show some (Xo (if i<0 then -i else i))=_
 congr 2;split<;>omega
theorem Yai(i j:Int):Ycw [.int i,.int j]=some (.int (if j>i then j else i)):=rfl
theorem Zrl(i j:Int):Zu9 [.int i,.int j]=some (.int (if j<i then j else i)):=rfl
theorem Ya8(i:Int):Z1k [.int i]=some (.int i):=rfl
theorem Z40(b:Bool):Z1k [.bool b]=some (.int (if b then 1 else 0)):=rfl
theorem Zxk(ds:List Xa):Zh6 [.list ds]=some (.nd (ds.map OT.fz)):=rfl
theorem Z89(ds:List Xa):Zh6 [.tuple ds]=some (.nd (ds.map OT.fz)):=rfl
theorem Zwf{ds es:List Xa}(h:ds.length+es.length≤Xq):Zlq (.list ds) (.list es)=some (.nd ((ds ++ es).map OT.fz)):=by
 unfold Zlq;dsimp only;rw[if_pos h]
theorem Z14(i:Int):Z6u (.int i)=some (.int (-i)):=rfl
theorem Ycc(b:Bool):Z82 (.bool b)=some (.bool (!b)):=rfl
theorem Yaf(b:Bool):Zu2 (.bool b)=some b:=rfl
theorem Yae(i:Int):Zu2 (.int i)=some (i !=0):=rfl
theorem Ybu:Zu2 .none=some false:=rfl
theorem Yba(ds:List Xa):Zu2 (.list ds)=some (!ds.isEmpty):=rfl
theorem Znj{n:Nat}{d:Xa}(h:Sh n d)(hp:Yl d=true)(hn:n≤60):gNe d d=some (.bool false):=by
 have s:VJ d=true:=(h.shp (by omega)).ok
 unfold gNe
 rw[if_pos (by rw[s];rfl),Ztr hp];rfl
theorem Znd{gg:FG}{u:FS}{ds:List Xa}{δ:Zf}(I:Nat->Zf->Prop)(h0:I 0 δ)
  (turn:∀(i:Nat) (d:Xa) (δ:Zf),ds[i]? =some d->I i δ->∃δ1 δ2,gg d δ=some δ1∧(u δ1= .nx δ2∨u δ1= .ct δ2)∧I (i+1) δ2):∃δ',forLoop gg u ds δ= .nx δ'∧I ds.length δ':=by
 induction ds generalizing δ I with
 | nil=>exact⟨δ,rfl,h0⟩
 | cons d ds ih=>
  obtain⟨δ1,δ2,e1,e2,h1⟩:=turn 0 d δ rfl h0
  obtain⟨δ',e3,h3⟩:=ih (δ:=δ2) (λi δ=>I (i+1) δ) h1 λi d' δ hd hi=>turn (i+1) d' δ (by simpa using hd) hi
  refine⟨δ',?_,h3⟩
  rw[Ww,e1]
  dsimp only
  rcases e2 with e2|e2<;>rw[e2]<;>exact e3
noncomputable def Goes(r:RS)(Q:Zf->Prop):Prop:=∃δ,(r= .nx δ∨r= .ct δ)∧Q δ
theorem Goes.nx{δ:Zf}{Q:Zf->Prop}(h:Q δ):Goes (.nx δ) Q:=⟨δ,.inl rfl,h⟩
theorem Goes.ct{δ:Zf}{Q:Zf->Prop}(h:Q δ):Goes (.ct δ) Q:=⟨δ,.inr rfl,h⟩
theorem Zpm{α:Type}{me:FE}{cs:Zf}(mk:α->Xa)(f:α->OT):∀(xs:List α) (z:Option OT),(∀x∈xs,me (some (.fz (mk x)) :: cs)=some (f x,some (.fz (mk x)) :: cs)) ->
  ∃z',compLoop (gNm 0) Zhj me (xs.map mk) (z :: cs)=some (xs.map f,z' :: cs)
 | [],z,_=>⟨z,rfl⟩
 | x :: xs,z,h=>by
  obtain⟨z',e⟩:=Zpm mk f xs (some (.fz (mk x))) λy hy=>h y (.tail _ hy)
  refine⟨z',?_⟩
  rw[Qs,compLoop]
  show(some (some (OT.fz (mk x)) :: cs)).bind _=_
  rw[Xi]
  show(some (true,some (OT.fz (mk x)) :: cs)).bind _=_
  rw[Xi,if_pos rfl,h x (.head _),Xi,e];rfl
theorem Zm1{α:Type}{t:FT}{me:FE}{cs:Zf}(mk:α->Xa)(p:α->Bool)(f:α->OT):∀(xs:List α) (z:Option OT),(∀x∈xs,t (some (.fz (mk x)) :: cs)=some (p x,some (.fz (mk x)) :: cs))->(∀x∈xs,p x=true->me (some (.fz (mk x)) :: cs)=some (f x,some (.fz (mk x)) :: cs)) ->
  ∃z',compLoop (gNm 0) t me (xs.map mk) (z :: cs)=some ((xs.filter p).map f,z' :: cs)
 | [],z,_,_=>⟨z,rfl⟩
 | x :: xs,z,ht,h=>by
  obtain⟨z',e⟩:=Zm1 mk p f xs (some (.fz (mk x))) (λy hy=>ht y (.tail _ hy)) λy hy=>h y (.tail _ hy)
  refine⟨z',?_⟩
  rw[Qs,compLoop]
  show(some (some (OT.fz (mk x)) :: cs)).bind _=_
  rw[Xi,ht x (.head _),Xi]
  dsimp only
  by_cases hp:p x=true
  ·rw[if_pos hp,h x (.head _) hp,Xi,e,List.filter_cons_of_pos hp];rfl
  ·rw[if_neg hp,e,List.filter_cons_of_neg hp]
theorem Ze3{α:Type}{caps:List Nat}{it:FI}{me:FE}{cs δ δ1:Zf}(xs:List α)(mk:α->Xa)(f:α->OT)(hi:it δ=some (xs.map mk,δ1))(hz:xs.length≤Xq)(hb:blk 1 caps δ1=none :: cs)
  (h:∀x∈xs,me (some (.fz (mk x)) :: cs)=some (f x,some (.fz (mk x)) :: cs)):Wy 1 caps it (gNm 0) Zhj me δ=some (.nd (xs.map f),δ1):=by
 unfold Wy
 rw[hi,Xi]
 dsimp only
 rw[if_pos (by rw[Xg];exact hz),hb]
 obtain⟨z',e⟩:=Zpm (me:=me) (cs:=cs) mk f xs none h
 rw[e];rfl
theorem Zqk{α:Type}{caps:List Nat}{it:FI}{t:FT}{me:FE}{cs δ δ1:Zf}(xs:List α)(mk:α->Xa)(p:α->Bool)(f:α->OT)(hi:it δ=some (xs.map mk,δ1))(hz:xs.length≤Xq)(hb:blk 1 caps δ1=none :: cs)
  (ht:∀x∈xs,t (some (.fz (mk x)) :: cs)=some (p x,some (.fz (mk x)) :: cs)) (h:∀x∈xs,p x=true->me (some (.fz (mk x)) :: cs)=some (f x,some (.fz (mk x)) :: cs)):Wy 1 caps it (gNm 0) t me δ=some (.nd ((xs.filter p).map f),δ1):=by
 unfold Wy
 rw[hi,Xi]
 dsimp only
 rw[if_pos (by rw[Xg];exact hz),hb]
 obtain⟨z',e⟩:=Zm1 (t:=t) (me:=me) (cs:=cs) mk p f xs none ht h
 rw[e];rfl
theorem Yci:(2≤Xq)=True:=by simp[X7]
theorem Ycr:(1≤Xq)=True:=by simp[X7]
theorem Ycn:(0≤Xq)=True:=by simp
theorem Z97:(3≤Xq)=True:=by simp[X7]
theorem Z1o{α:Type}(f:α->Xa)(xs:List α):(xs.map λx=>OT.fz (f x)).map OT.data=xs.map f:=by
 rw[Qx];exact Xv λx _=>OT.data_fz _
theorem Zq2{α:Type}{j:Int}{x:α}(h0:0≤j)(h1:j≤1000000):(if rOk j=true then some x else none)=some x:=if_pos (Zsb (by omega) h1)
theorem Zx1{α:Type}{i j:Int}{x:α}(h0:0≤i)(h1:i≤1000000)(h2:0≤j)(h3:j≤1000000):(if(rOk i&&rOk j)=true then some x else none)=some x:=if_pos (by rw[Zsb (by omega) h1,Zsb (by omega) h3];rfl)
theorem Zvj{r:RS}{k:Nat}(h:k≤1000000):(if k<Xq then r else .bad)=r:=if_pos (by rw[X7];omega)
noncomputable def EvV(e:FE)(δ:Zf)(d:Xa):Prop:=∃t,e δ=some (t,δ)∧t.data=d
noncomputable def EvA(a:FA)(δ:Zf)(ds:List Xa):Prop:=∃ts,a δ=some (ts,δ)∧OT.datas ts=ds
noncomputable def EvT(t:FT)(δ:Zf)(b:Bool):Prop:=t δ=some (b,δ)
noncomputable def Told(F:FD)(ds:List Xa)(d:Xa):Prop:=∃t,F ds= .ok t∧t.data=d
section
variable {e a b:FE}{as:FA}{δ δ':Zf}{x y d:Xa}{xs ds:List Xa}{i j:Nat}{p q:Bool}{t u:FT}{S S':FS}{r:RS}
theorem EvV.cast{e:FE}{δ:Zf}{x y:Xa}(h:EvV e δ x)(k:x=y):EvV e δ y:=k▸h
theorem Za(h:δ[i]? =some (some (.fz d)):=by rfl):EvV (Ze i) δ d:=⟨_,by rw[Zze,h,Zxw],OT.data_fz _⟩
theorem Zfj{t:OT}(h:δ[i]? =some (some t))(hd:t.data=d):EvV (Zdi i) δ d:=⟨_,by rw[Zxj,h,Zz6],by rw[OT.data_fz,hd]⟩
theorem Z5:EvV (fC d) δ d:=⟨_,rfl,OT.data_fz _⟩
theorem Zo{g:Xa->Xa->Option Xa}(ha:EvV a δ x)(hb:EvV b δ y)(h:g x y=some d):EvV (Zh g a b) δ d:=by
 obtain⟨_,e1,d1⟩:=ha
 obtain⟨_,e2,d2⟩:=hb
 exact⟨_,by rw[Zmx,e1,Xi,e2,Xi,d1,d2,h,Xi],OT.data_fz _⟩
theorem Zv1{g:Xa->Xa->Option OT}{o:OT}(ha:EvV a δ x)(hb:EvV b δ y)(h:g x y=some o)(hd:o.data=d):EvV (Z3 g a b) δ d:=by
 obtain⟨_,e1,d1⟩:=ha
 obtain⟨_,e2,d2⟩:=hb
 exact⟨_,by rw[Zl1,e1,Xi,e2,Xi,d1,d2,h,Xi],hd⟩
theorem Ji(ha:EvV a δ x)(hb:EvV b δ y)(h:gIx x y=some (.fz d)):EvV (Z3 gIx a b) δ d:=Zv1 ha hb h (OT.data_fz _)
theorem Jj{i j:Int}(ha:EvV a δ (.int i))(hb:EvV b δ (.int j)):EvV (Zh Za0 a b) δ (.int (i+j)):=Zo ha hb rfl
theorem Zqi{i j:Int}(ha:EvV a δ (.int i))(hb:EvV b δ (.int j)):EvV (Zh gSb a b) δ (.int (i-j)):=Zo ha hb rfl
theorem Z8q{g:Xa->Option Xa}(ha:EvV a δ x)(h:g x=some d):EvV (fUn g a) δ d:=by
 obtain⟨_,e1,d1⟩:=ha
 exact⟨_,by rw[Z2s,e1,Xi,d1,h,Xi],OT.data_fz _⟩
theorem Z2d{T:String}(ha:EvV a δ x)(hf:Zgq x=false:=by rfl):EvV (Znw T a) δ (.bool (Zom T x)):=by
 obtain⟨_,e1,d1⟩:=ha
 exact⟨_,by rw[Z0w,e1,Xi,d1,if_neg (by rw[hf];decide)],OT.data_fz _⟩
theorem Zj:EvA Zr δ []:=⟨_,rfl,Zdl⟩
theorem Zb(h:EvV e δ d)(k:EvA as δ ds):EvA (Zd e as) δ (d :: ds):=by
 obtain⟨_,e1,d1⟩:=h
 obtain⟨_,e2,d2⟩:=k
 exact⟨_,by rw[Ze9,e1,Xi,e2,Xi],by rw[Zcf,d1,d2]⟩
theorem Z1{F:FD}(h:EvA as δ ds)(k:Told F ds d):EvV (Z0 F as) δ d:=by
 obtain⟨_,e1,d1⟩:=h
 obtain⟨_,e2,d2⟩:=k
 exact⟨_,by rw[Ze0,e1,Xi,d1,e2,Z1y],d2⟩
theorem Zbi{g:List Xa->Option Xa}(h:EvA as δ ds)(k:g ds=some d):EvV (Zci g as) δ d:=by
 obtain⟨_,e1,d1⟩:=h
 exact⟨_,by rw[Zxi,e1,Xi,d1,k,Xi],OT.data_fz _⟩
theorem Z0s{g:List Xa->Option OT}{o:OT}(h:EvA as δ ds)(k:g ds=some o)(hd:o.data=d):EvV (fBl g as) δ d:=by
 obtain⟨_,e1,d1⟩:=h
 exact⟨_,by rw[Z6f,e1,Xi,d1,k,Xi],hd⟩
theorem Zb7:∀ts:List OT,(OT.datas ts).length=ts.length
 | []=>by rw[Zdl];rfl
 | t :: ts=>by rw[Zcf,Bg,Bg,Zb7 ts]
theorem datas_map:∀ts:List OT,OT.datas ts=ts.map OT.data
 | []=>Zdl
 | t :: ts=>by rw[Zcf,Qs,datas_map ts]
theorem Zfq(h:EvA as δ ds)(hl:ds.length≤1000):EvV (Zlf as) δ (.tuple ds):=by
 obtain⟨ts,e1,d1⟩:=h
 have:=Zb7 ts
 rw[d1]at this
 exact⟨_,by rw[Zzu,e1,Xi,if_pos (by rw[X7];show ts.length≤_;omega)],by rw[OT.data_fz];exact congrArg _ d1⟩
theorem Zbg(h:EvA as δ ds)(hl:ds.length≤1000):EvV (Zbf as) δ (.list ds):=by
 obtain⟨ts,e1,d1⟩:=h
 have:=Zb7 ts
 rw[d1]at this
 exact⟨_,by rw[Zc1,e1,Xi,if_pos (by rw[X7];show ts.length≤_;omega)],by rw[OT.data_nd,←datas_map,d1]⟩
theorem Zfx{o:OT}{b:Bool}(h:o.data= .bool b):o= .fz (.bool b):=by
 cases o with
 | fz d=>rw[OT.data_fz]at h;rw[h]
 | nd ts=>rw[OT.data_nd]at h;cases h
 | tp ts=>rw[OT.data_tp]at h;cases h
 | dc _ _ _=>rw[OT.data_dc]at h;cases h
theorem Zd3(h:EvV e δ (.bool p)):EvT (tV e) δ p:=by
 obtain⟨_,e1,d1⟩:=h
 unfold EvT
 rw[Z73,e1,Xi,Zfx d1,Z21]
theorem Yd3(h:EvV e δ d)(k:Zu2 d=some p):EvT (tD e) δ p:=by
 obtain⟨_,e1,d1⟩:=h
 unfold EvT
 rw[Z7x,e1,Xi,d1,k,Xi]
theorem Zgu(h:EvV e δ (.bool p)):EvT (tD e) δ p:=Yd3 h rfl
theorem Zjz(h:EvT t δ p):EvT (tNo t) δ (!p):=by
 unfold EvT at h⊢
 rw[Z4t,h,Xi]
theorem Zw8(h:EvT t δ false)(k:EvT u δ p):EvT (tO t u) δ p:=by
 unfold EvT at h k⊢
 rw[Z5x,h,Xi,if_neg Xy,k]
theorem Z50(h:EvT t δ true):EvT (tO t u) δ true:=by
 unfold EvT at h⊢
 rw[Z5x,h,Xi,if_pos rfl]
theorem Wg(h:S δ= .nx δ')(k:S' δ'=r):Z6 S S' δ=r:=by rw[Zft,h,Zqd,k]
theorem Zj6{o:OT}(h:S δ= .rt o δ'):Z6 S S' δ= .rt o δ':=by rw[Zft,h,Zve]
theorem Z2(h:EvV e δ d):wE e (Wd i) δ= .nx (δ.set i (some (.fz d))):=by
 obtain⟨_,e1,d1⟩:=h
 rw[Jv,e1,Yj,Zzo,d1]
theorem Z4o(h:EvV e δ d):∃o,wE e Jt δ= .rt o δ∧o.data=d:=by
 obtain⟨_,e1,d1⟩:=h
 exact⟨_,by rw[Jv,e1,Yj,Zw2],d1⟩
theorem Zd2(h:EvT t δ true)(k:S δ=r):Za7 t S S' δ=r:=by
 unfold EvT at h
 rw[Zr3,h,Yj,if_pos rfl,k]
theorem Je(h:EvT t δ false)(k:S' δ=r):Za7 t S S' δ=r:=by
 unfold EvT at h
 rw[Zr3,h,Yj,if_neg (by decide),k]
noncomputable def Zoh(S:FS)(δ:Zf)(d:Xa):Prop:=∃o δ',S δ= .rt o δ'∧o.data=d
theorem Wo(h:S δ= .nx δ')(k:Zoh S' δ' d):Zoh (Z6 S S') δ d:=by
 obtain⟨o,δ2,e,hd⟩:=k
 exact⟨o,δ2,Wg h e,hd⟩
theorem Zss(k:Zoh S δ d):Zoh (Z6 S S') δ d:=by
 obtain⟨o,δ2,e,hd⟩:=k
 exact⟨o,δ2,Zj6 e,hd⟩
theorem Jq(h:EvV e δ d):Zoh (wE e Jt) δ d:=by
 obtain⟨o,e1,hd⟩:=Z4o h
 exact⟨o,δ,e1,hd⟩
theorem Zyk(h:EvT t δ true)(k:Zoh S δ d):Zoh (Za7 t S S') δ d:=by
 obtain⟨o,δ2,e,hd⟩:=k
 exact⟨o,δ2,Zd2 h e,hd⟩
theorem Yx{np n:Nat}(hl:xs.length=np)(k:Zoh S (Zes n xs) d):Told (Zal np n S) xs d:=by
 obtain⟨o,δ2,e,hd⟩:=k
 exact⟨o,by rw[Zf8 hl,e,Zqj],hd⟩
noncomputable def EvO(o:FO)(δ:Zf)(l:Option Int):Prop:=o δ=some (l,δ)
theorem Yat:EvO oN δ none:=rfl
theorem Yar{i:Int}(h:EvV e δ (.int i)):EvO (oI e) δ (some i):=by
 obtain⟨_,e1,d1⟩:=h
 unfold EvO
 rw[Z9j,e1,Xi,d1,Zy1]
theorem Z94{lo hi:FO}{l h:Option Int}(he:EvV e δ (.list ds))(hl:EvO lo δ l)(hh:EvO hi δ h):EvV (fSl e lo hi) δ (.list (cutD ds l h)):=by
 obtain⟨_,e1,d1⟩:=he
 unfold EvO at hl hh
 exact⟨_,by rw[Z5h,e1,Xi,hl,Xi,hh,Xi,d1,Zrf],by rw[OT.data_nd,OT.map_fz]⟩
theorem Zj3{es:List Xa}(ha:EvV a δ (.list ds))(hb:EvV b δ (.list es))(h:ds.length+es.length≤1000000):EvV (Z3 Zlq a b) δ (.list (ds ++ es)) :=
 Zv1 ha hb (Zwf (by rw[X7];omega)) (by rw[OT.data_nd,OT.map_fz])
noncomputable def EvI(it:FI)(δ:Zf)(ds:List Xa):Prop:=it δ=some (ds,δ)
theorem Wx(h:EvV e δ (.list ds)):EvI (Zaz e) δ ds:=by
 obtain⟨_,e1,d1⟩:=h
 unfold EvI
 rw[Zy6,e1,Xi,d1,Zrf]
theorem Zcz{n:Nat}(h:EvA as δ [.int n])(hn:n≤1000000):EvI (iRa as) δ (Zdd 0 n):=by
 obtain⟨_,e1,d1⟩:=h
 unfold EvI
 rw[Zwi,e1,Xi,d1,Z2r,Zq2 (by omega) (by omega),Ba]
theorem Zgn{it:FI}{g:FG}(h:EvI it δ ds)(k:forLoop g S ds δ=r):W5 it g S δ=r:=by
 unfold EvI at h
 rw[Zx4,h,Yj,k]
theorem Zf3{α:Type}{caps:List Nat}{it:FI}{me:FE}{cs:Zf}(xs:List α)(mk f:α->Xa)(hi:EvI it δ (xs.map mk))(hz:xs.length≤1000000)(hb:blk 1 caps δ=none :: cs)(h:∀x∈xs,EvV me (some (.fz (mk x)) :: cs) (f x)):EvV (Wy 1 caps it (gNm 0) Zhj me) δ (.list (xs.map f)):=by
 have g:∀x,∃o:OT,x∈xs->me (some (.fz (mk x)) :: cs)=some (o,some (.fz (mk x)) :: cs)∧o.data=f x:=λx=>by
  by_cases c:x∈xs
  ·obtain⟨o,h1,h2⟩:=h x c
   exact⟨o,λ_=>⟨h1,h2⟩⟩
  ·exact⟨.fz .none,λz=>absurd z c⟩
 obtain⟨o,ho⟩:=Classical.axiomOfChoice g
 unfold EvI at hi
 refine⟨_,Ze3 (cs:=cs) xs mk o hi (by rw[X7];omega) hb (λx hx=>(ho x hx).1),?_⟩
 rw[OT.data_nd,Qx]
 exact congrArg _ (Xv λx hx=>(ho x hx).2)
theorem Zvx{ts:List OT}(h:EvV e δ d)(hi:δ[i]? =some (some (.nd ts)))(hl:ts.length≤1000000):Jo i e δ= .nx (δ.set i (some (.nd (ts ++ [.fz d])))):=by
 obtain⟨_,e1,d1⟩:=h
 rw[Zg9,hi,Ztd,e1,Yj,hi,Ztd,Zvj hl,d1]
theorem Zr9{o:OT}(h:e δ=some (o,δ)):wE e (Zb4 i) δ= .nx (δ.set i (some o)):=by rw[Jv,h,Yj,Zs5]
theorem Yc3{o:OT}(h:δ[i]? =some (some o))(hd:o.data=d):Zoh (Zfc i) δ d:=⟨o,_,by rw[Zik,h,Zsk],hd⟩
theorem Zpl{o:OT}(h:δ[i]? =some (some o))(k:S (δ.set i (some (.fz o.data)))=r):Zfa i S δ=r:=by rw[Znn,h,Zsk,k]
theorem Zxu(h:EvV e δ d):wE e Zi9 δ= .nx δ:=by
 obtain⟨_,e1,d1⟩:=h
 rw[Jv,e1,Yj,Ztt]
theorem Zp0{np n:Nat}(hl:xs.length=np)(k:S (Zes n xs)= .nx δ'):Told (Zal np n S) xs .none:=⟨_,by rw[Zf8 hl,k,Zyr],OT.data_fz _⟩
theorem Told.ok{F:FD}{b:Bool}(h:Told F ds (.bool b)):F ds= .ok (.fz (.bool b)):=by
 obtain⟨o,e1,d1⟩:=h
 rw[e1,Zfx d1]
theorem Zia{o:OT}{i:Int}(h:o.data= .int i):o= .fz (.int i):=by
 cases o with
 | fz d=>rw[OT.data_fz]at h;rw[h]
 | nd ts=>rw[OT.data_nd]at h;cases h
 | tp ts=>rw[OT.data_tp]at h;cases h
 | dc _ _ _=>rw[OT.data_dc]at h;cases h
theorem Told.int{F:FD}{i:Int}(h:Told F ds (.int i)):F ds= .ok (.fz (.int i)):=by
 obtain⟨o,e1,d1⟩:=h
 rw[e1,Zia d1]
theorem Zpd{o:OT}(h:o.data= .none):o= .fz .none:=by
 cases o with
 | fz d=>rw[OT.data_fz]at h;rw[h]
 | nd ts=>rw[OT.data_nd]at h;cases h
 | tp ts=>rw[OT.data_tp]at h;cases h
 | dc _ _ _=>rw[OT.data_dc]at h;cases h
theorem Told.of{F:FD}{o:OT}(h:F ds= .ok o)(hd:o.data=d):Told F ds d:=⟨o,h,hd⟩
end
section
variable {e a b:FE}{as:FA}{δ δ':Zf}{x y d:Xa}{xs ds:List Xa}{i j:Int}{k:Nat}{p q:Bool}{t u:FT}{S S':FS}{r:RS}{Q:Xa->Prop}
theorem Zjb(ha:EvV a δ (.int i))(hb:EvV b δ (.int j))(h:j≠0):EvV (Zh Zg1 a b) δ (.int (i.fmod j)):=Zo ha hb (Z35 h)
theorem Z4f{i j:Int}(h:(decide (0<j)&&decide (j<18446744073709551616))=true):J8 (.int i) (.int j)=some (.int (i.fdiv j)):=by
 rw[XC,decide_eq_true_eq,decide_eq_true_eq]at h
 exact Zd0 (Zdy (n:=64) (by omega) (Bt.of_lt (by omega) (by omega)))
theorem Zzs(ha:EvV a δ (.int i))(hb:EvV b δ (.int j))(h:(decide (0<j)&&decide (j<18446744073709551616))=true:=by decide):EvV (Zh J8 a b) δ (.int (i.fdiv j)):=Zo ha hb (Z4f h)
theorem Zqw(ha:EvV a δ (.int i))(hb:EvV b δ (.int j))(h:i.natAbs<2^64:=by decide):EvV (Zh Zcu a b) δ (.int (i*j)):=Zo ha hb (Ju (Z4u h))
theorem Zuy(ha:EvV a δ (.int i))(hb:EvV b δ (.int j))(h:decide (i<j)=p):EvV (Zh gLt a b) δ (.bool p):=h▸Zo ha hb rfl
theorem Z49(ha:EvV a δ (.int i))(hb:EvV b δ (.int j))(h:decide (i≤j)=p):EvV (Zh gLe a b) δ (.bool p):=h▸Zo ha hb rfl
theorem Zn0(ha:EvV a δ (.int i))(hb:EvV b δ (.int j))(h:decide (j<i)=p):EvV (Zh gGt a b) δ (.bool p):=h▸Zo ha hb (Z70 _ _)
theorem Z54(ha:EvV a δ (.int i))(hb:EvV b δ (.int j))(h:decide (j≤i)=p):EvV (Zh gGe a b) δ (.bool p):=h▸Zo ha hb (Z88 _ _)
theorem Zx6(ha:EvV a δ (.int i))(hb:EvV b δ (.int j))(h:decide (i=j)=p):EvV (Zh gEq a b) δ (.bool p):=h▸Zo ha hb (Z09 _ _)
theorem Zt5(ha:EvV a δ (.int i))(hb:EvV b δ (.int j))(h:(!decide (i=j))=p):EvV (Zh gNe a b) δ (.bool p):=h▸Zo ha hb (Z9d _ _)
theorem Z4x(ha:EvV a δ (.int i)):EvV (fUn Z6u a) δ (.int (-i)):=Z8q ha (Z14 _)
theorem Zr7{ds:List Xa}(h:EvV e δ (.list ds)):EvV (Zci Zfg (Zd e Zr)) δ (.int ds.length):=Zbi (Zb h Zj) (Zqu ds)
theorem Zwq(ha:EvV a δ (.list ds))(hb:EvV b δ (.int i))(h:atI ds i=some d):EvV (Z3 gIx a b) δ d:=Ji ha hb (by rw[Zh9,h];rfl)
noncomputable def Zns(S:FS)(δ:Zf)(Q:Xa->Prop):Prop:=∃d,Zoh S δ d∧Q d
theorem Zcp(h:S δ= .nx δ')(k:Zns S' δ' Q):Zns (Z6 S S') δ Q:=k.imp λ_ k=>⟨Wo h k.1,k.2⟩
theorem Zsx(k:Zns S δ Q):Zns (Z6 S S') δ Q:=k.imp λ_ k=>⟨Zss k.1,k.2⟩
theorem Zi6(h:EvV e δ d)(k:Q d):Zns (wE e Jt) δ Q:=⟨d,Jq h,k⟩
theorem Zyj(h:EvT t δ true)(k:Zns S δ Q):Zns (Za7 t S S') δ Q:=k.imp λ_ k=>⟨Zyk h k.1,k.2⟩
theorem Zt6{np n:Nat}(hl:xs.length=np)(h:Zns S (Zes n xs) Q):∃d,Told (Zal np n S) xs d∧Q d:=h.imp λ_ k=>⟨Yx hl k.1,k.2⟩
theorem Zws{it:FI}{g:FG}(I:Nat->Zf->Prop)(hi:EvI it δ ds)(h0:I 0 δ)(turn:∀(i:Nat) (d:Xa) (δ:Zf),ds[i]? =some d->I i δ->∃δ1 δ2,g d δ=some δ1∧(S δ1= .nx δ2∨S δ1= .ct δ2)∧I (i+1) δ2)(k:∀δ',I ds.length δ'->Zns S' δ' Q):Zns (Z6 (W5 it g S) S') δ Q:=by
 obtain⟨δ',e,h⟩:=Znd I h0 turn
 exact Zcp (Zgn hi e) (k δ' h)
theorem Zmz{it:FI}{g:FG}(I:Nat->Zf->Prop)(hi:EvI it δ ds)(h0:I 0 δ)(turn:∀(i:Nat) (d:Xa) (δ:Zf),ds[i]? =some d->I i δ->∃δ1 δ2,g d δ=some δ1∧(S δ1= .nx δ2∨S δ1= .ct δ2)∧I (i+1) δ2)(k:∀δ',I ds.length δ'->Zoh S' δ' d):Zoh (Z6 (W5 it g S) S') δ d:=by
 obtain⟨δ',e,h⟩:=Znd I h0 turn
 exact Wo (Zgn hi e) (k δ' h)
theorem Zlp{it:FI}{g:FG}(I:Nat->Zf->Prop)(hi:EvI it δ ds)(h0:I 0 δ)(turn:∀(i:Nat) (d:Xa) (δ:Zf),ds[i]? =some d->I i δ->∃δ1 δ2,g d δ=some δ1∧(S δ1= .nx δ2∨S δ1= .ct δ2)∧I (i+1) δ2):∃δ',W5 it g S δ= .nx δ'∧I ds.length δ':=by
 obtain⟨δ',e,h⟩:=Znd I h0 turn
 exact⟨δ',Zgn hi e,h⟩
theorem Z6d{m n:Nat}(h:EvA as δ [.int m,.int n])(hm:m≤1000000)(hn:n≤1000000):EvI (iRb as) δ (Zdd m (n-m)):=by
 obtain⟨_,e1,d1⟩:=h
 unfold EvI
 rw[Z1t,e1,Xi,d1,Z9q,Zx1 (by omega) (by omega) (by omega) (by omega),show((n:Int)-(m:Int)).toNat=n-m by omega]
theorem Zq0:wE (Zbf Zr) (Zb4 k) δ= .nx (δ.set k (some (.nd []))):=Zr9 (by rw[Zc1];rfl)
theorem Zl4{i:Int}(h:0<j):0≤i.fmod j:=by rw[Ze8 h];exact Int.emod_nonneg _ (by omega)
theorem Zli{i:Int}(h:0<j):i.fmod j<j:=by rw[Ze8 h];exact Int.emod_lt_of_pos _ h
theorem Z03{o:OT}{ts ts0:List OT}(h:e δ=some (o,δ'))(h0:δ[k]? =some (some (.nd ts0)))(h1:δ'[k]? =some (some (.nd ts)))(hl:ts.length≤1000000):Jo k e δ= .nx (δ'.set k (some (.nd (ts ++ [.fz o.data])))):=by
 rw[Zg9,h0,Ztd,h,Yj,h1,Ztd,Zvj hl]
theorem Zzl{es:List Xa}(h:EvA as δ ds)(hz:Z2f ds=some es):EvI (Znl as) δ es:=by
 obtain⟨_,e1,d1⟩:=h
 unfold EvI Znl
 rw[e1,Xi,d1,hz,Xi]
theorem Zhq{it:FI}{g gg:FG}{δ1:Zf}(I:Nat->Zf->Prop){J:Zf->Prop}(hg:gg d δ=some δ1)(hi:EvI it δ1 ds)(h0:I 0 δ1)(turn:∀(i:Nat) (d:Xa) (δ:Zf),ds[i]? =some d->I i δ->∃δ1 δ2,g d δ=some δ1∧(S δ1= .nx δ2∨S δ1= .ct δ2)∧I (i+1) δ2)(hJ:∀δ',I ds.length δ'->J δ'):∃δ1 δ2,gg d δ=some δ1∧(W5 it g S δ1= .nx δ2∨W5 it g S δ1= .ct δ2)∧J δ2:=by
 obtain⟨δ',e,h⟩:=Znd I h0 turn
 exact⟨δ1,δ',hg,.inl (Zgn hi e),hJ δ' h⟩
theorem Zj0{T:String}(ha:EvV a δ x)(h:Zom T x=p)(hf:Zgq x=false:=by rfl):EvV (Znw T a) δ (.bool p):=(Z2d ha hf).cast (by rw[h])
theorem Z0d{a b:FE}{bs es:List Xa}{as:List Xa}(ha:EvV a δ (.list as))(hb:EvV b δ (.list bs))(hz:Zmm as bs=es):EvI (Znl (Zd a (Zd b Zr))) δ es:=Zzl (Zb ha (Zb hb Zj)) (congrArg some hz)
theorem Z1g(ha:EvV a δ (.list ds)):EvI (Zsi (Zd a Zr)) δ (Zig ds):=by
 obtain⟨_,e1,d1⟩:=Zb ha Zj
 unfold EvI Zsi
 rw[e1,Xi]
 dsimp only
 rw[d1]
theorem Zux{y:Str}{F:FD}(h:δ[k]? =some (some (.fz (fnD y))))(ha:EvA as δ ds)(hF:Told F ds d):EvV (Zdr k y F as) δ d:=by
 obtain⟨o,e1,d1⟩:=Z1 ha hF
 refine⟨o,?_,d1⟩
 unfold Zdr
 rw[h]
 dsimp only
 rw[if_pos (Z0f y),e1]
theorem Zhl{α:Type}{caps:List Nat}{it:FI}{me:FE}{t:FT}{cs:Zf}(xs:List α)(mk:α->Xa)(pr:α->Bool)(hi:EvI it δ (xs.map mk))(hz:xs.length≤1000000)(hb:blk 1 caps δ=none :: cs)(ht:∀x∈xs,EvT t (some (.fz (mk x)) :: cs) (pr x))(h:∀x∈xs,pr x=true->me (some (.fz (mk x)) :: cs)=some (.fz (mk x),some (.fz (mk x)) :: cs)):EvV (Wy 1 caps it (gNm 0) t me) δ (.list ((xs.filter pr).map mk)):=by
 unfold EvI at hi
 refine⟨_,Zqk (cs:=cs) xs mk pr (λx=>.fz (mk x)) hi (by rw[X7];omega) hb (λx hx=>ht x hx) h,?_⟩
 rw[OT.data_nd,Qx]
 exact congrArg _ (Xv λx _=>OT.data_fz _)
theorem Told.none{F:FD}(h:Told F ds .none):F ds= .ok (.fz .none):=by
 obtain⟨o,e1,d1⟩:=h
 rw[e1,Zpd d1]
end
end L2
namespace My
open PySem L2 PySem.Spec
noncomputable def Ja:FS :=
 (Z6 (wE (Zci Z1j (Zd (Ze 0) Zr)) (Wd 0))
  (Z6 (wE (Zci Z1j (Zd (Ze 1) Zr)) (Wd 1))
  (Z6 (Zg5 (tV (Zh gNe (Ze 1) (fC (.int 0)))) (Z6 (wE (Zh Zg1 (Ze 0) (Ze 1)) (Wd 2))
  (Z6 (wE (Ze 1) (Wd 0))
  (wE (Ze 2) (Wd 1)))))
  (wE (Ze 0) Jt))))
noncomputable def Z4:FD:=Zal 2 3 Ja
theorem Ziu{f1 f2:Int->Int->Option OT->Zf}{t:FT}{u:FS}(ht:∀x y z,t (f1 x y z)=some (!decide (y=0),f1 x y z))(hu:∀x y z,y≠0->∃z',u (f1 x y z)= .nx (f1 y (x.fmod y) z')) :
  ∀(n:Nat) (x y:Int) (z:Option OT),0≤x->0≤y->y.toNat<n->∃z',whileLoop t u n (f1 x y z)= .nx (f1 (Bb x y:Int) 0 z')
 | 0,_,_,_,_,_,h=>absurd h (Bq _)
 | n+1,x,y,z,hx,hy,h=>by
  unfold whileLoop
  rw[ht]
  dsimp only
  by_cases c:y=0
  ·subst c
   refine⟨z,?_⟩
   simp only[decide_true,Bool.not_true,BJ,if_false]
   rw[Int.gcd_zero_right]
   congr 2
   omega
  ·simp only[c,decide_false,Bool.not_false,if_true]
   obtain⟨z1,e1⟩:=hu x y z c
   rw[e1]
   dsimp only
   have hm:x.fmod y=x%y:=Ze8 (by omega)
   have h1:0≤x%y:=Int.emod_nonneg x c
   have h2:x%y<y:=Int.emod_lt_of_pos x (by omega)
   obtain⟨z2,e2⟩:=Ziu (f1:=f1) (f2:=f2) ht hu n y (x.fmod y) z1 hy (by omega) (by omega)
   exact⟨z2,by rw[e2,Zui hx (by omega)]⟩
theorem Jz(a b:Int):Z4 [.int a,.int b]= .ok (.fz (.int (Bb a b:Int))):=by
 obtain⟨z',e⟩:=Ziu (f1:=λx y z=>[some (.fz (.int x)),some (.fz (.int y)),z]) (f2:=λx y z=>[]) (t:=tV (Zh gNe (Ze 1) (fC (.int 0)))) (u:=Z6 (wE (Zh Zg1 (Ze 0) (Ze 1)) (Wd 2)) (Z6 (wE (Ze 1) (Wd 0)) (wE (Ze 2) (Wd 1)))) (λx y z=>Zd3 (Zt5 Za Z5 rfl)) (λx y z hy=>⟨_,Wg (Z2 (Zjb Za Za hy)) (Wg (Z2 Za) (Z2 Za))⟩) ((b.natAbs:Int).toNat+1) (a.natAbs:Int) (b.natAbs:Int) none (by omega) (by omega) (by omega)
 rw[Vf,Uw,Uw]at e
 exact Told.int<|Yx rfl<|Wo (Z2 (Zbi (Zb Za Zj) (Zoy a)))<|Wo (Z2 (Zbi (Zb Za Zj) (Zoy b)))<|Wo (Zjx _ e (by intro z;cases z)) (Jq Za)
noncomputable def Zb8:FS :=
 (Z6 (wE (Z0 Z4 (Zd (Ze 0) (Zd (Ze 1) Zr))) (Wd 2))
  (Z6 (Za7 (tV (Zh gLt (Ze 1) (fC (.int 0))))
  (wE (fUn Z6u (Ze 2)) (Wd 2))
  fNx)
  (wE (Zlf (Zd (Zh J8 (Ze 0) (Ze 2)) (Zd (Zh J8 (Ze 1) (Ze 2)) Zr))) Jt)))
noncomputable def W7:FD:=Zal 2 3 Zb8
theorem Z3a{n:Nat}{t b:Int}(hb:b≠0)(hB:Bt n b)(hn:n≤9000)(s:Int)(e:s=shr t b):J8 (.int t) (.int s)=some (.int (Qa t b).num)∧J8 (.int b) (.int s)=some (.int ((Qa t b).den:Int)):=by
 subst e
 rw[Zd0 (Zdy (Zvh hb) (Zv6 hb hB) hn),Zd0 (Zdy (Zvh hb) (Zv6 hb hB) hn),Z0a hb,Zw1 hb]
 exact⟨rfl,rfl⟩
theorem Zf4{n:Nat}{t b:Int}(hb:b≠0)(hB:Bt n b)(hn:n≤9000:=by decide):Told W7 [.int t,.int b] (frD (Qa t b)):=by
 have fin:∀{δ:Zf} {s:Int},s=shr t b->δ[0]? =some (some (.fz (.int t)))->δ[1]? =some (some (.fz (.int b)))->δ[2]? =some (some (.fz (.int s)))->Zoh (wE (Zlf (Zd (Zh J8 (Ze 0) (Ze 2)) (Zd (Zh J8 (Ze 1) (Ze 2)) Zr))) Jt) δ (frD (Qa t b)):=λe h0 h1 h2=>by
  obtain⟨e1,e2⟩:=Z3a hb hB hn _ e
  exact Jq (Zfq (Zb (Zo (Za h0) (Za h2) e1) (Zb (Zo (Za h1) (Za h2) e2) Zj)) (show 2≤1000 by decide))
 have g:Told Z4 [.int t,.int b] _:=.of (Jz t b) (OT.data_fz _)
 by_cases c:b<0
 ·exact Yx rfl<|Wo (Z2 (Z1 (Zb Za (Zb Za Zj)) g))<|Wo (Zd2 (Zd3 (Zuy Za Z5 (decide_eq_true c))) (Z2 (Z4x Za))) (fin (by unfold shr;rw[if_pos c]) rfl rfl rfl)
 ·exact Yx rfl<|Wo (Z2 (Z1 (Zb Za (Zb Za Zj)) g))<|Wo (Je (Zd3 (Zuy Za Z5 (decide_eq_false c))) rfl) (fin (by unfold shr;rw[if_neg c]) rfl rfl rfl)
noncomputable def Zcb:FS :=
 (wE (Z61 (Znw "int" (Ze 0)) (fUn Z82 (Znw "bool" (Ze 0)))) Jt)
noncomputable def Wf:FD:=Zal 1 1 Zcb
theorem Zj1(i:Int):Wf [.int i]= .ok (.fz (.bool true)):=rfl
noncomputable def Zb1:FS :=
 (Z6 (Za7 (tO (tNo (tD (Z0 Wf (Zd (Ze 0) Zr)))) (tO (tNo (tD (Z0 Wf (Zd (Ze 1) Zr)))) (tV (Zh gEq (Ze 1) (fC (.int 0))))))
  (Zmn "NoNumber")
  fNx)
  (wE (Z0 W7 (Zd (Ze 0) (Zd (Ze 1) Zr))) Jt))
noncomputable def Wc:FD:=Zal 2 2 Zb1
theorem Zly{n:Nat}{t b:Int}(hb:b≠0)(hB:Bt n b)(hn:n≤9000:=by decide):Told Wc [.int t,.int b] (frD (Qa t b)):=by
 have w:∀{i:Int},Told Wf [.int i] (.bool true):=fun{i}=>.of (Zj1 i) (OT.data_fz _)
 exact Yx rfl<|Wo (Je (Zw8 (Zjz (p:=true) (Zgu (Z1 (Zb Za Zj) w))) (Zw8 (Zjz (p:=true) (Zgu (Z1 (Zb Za Zj) w))) (Zd3 (Zx6 Za Z5 (decide_eq_false hb))))) rfl) (Jq (Z1 (Zb Za (Zb Za Zj)) (Zf4 hb hB hn)))
noncomputable def Js:FS :=
 (Z6 (wE (fC (.int 1)) (Wd 1))
  (Z6 (W5 (Zaz (Ze 0)) (gNm 2)
  (wE (Zh Zcu (Zh J8 (Ze 1) (Z0 Z4 (Zd (Ze 1) (Zd (Z3 gIx (Ze 2) (fC (.int 1))) Zr)))) (Z3 gIx (Ze 2) (fC (.int 1)))) (Wd 1)))
  (wE (Ze 1) Jt)))
noncomputable def Yv:FD:=Zal 1 3 Js
noncomputable def prD(p:Int×Int):Xa:=.tuple [.int p.1,.int p.2]
theorem Zue{a b B:Int}(ha:0<a)(hb:0<b)(h1:a∣B)(h2:b∣B)(hB:0<B):0<a.fdiv (Bb a b)*b∧a∣a.fdiv (Bb a b)*b∧b∣a.fdiv (Bb a b)*b∧a.fdiv (Bb a b)*b∣B:=by
 have hg:0<(Bb a b:Int):=Zde (by omega)
 have d1:(Bb a b:Int)∣a:=Int.gcd_dvd_left ..
 have d2:(Bb a b:Int)∣b:=Int.gcd_dvd_right ..
 rw[Wt hg]
 have e:a/(Bb a b:Int)*b=(Int.lcm a b:Int):=by
  have q:=Int.gcd_mul_lcm a b
  have h3:(Bb a b:Int)*(Int.lcm a b:Int)=a*b:=by
   rw[←Int.natCast_mul,q,Int.natCast_mul,Int.natAbs_of_nonneg (by omega),Int.natAbs_of_nonneg (by omega)]
  obtain⟨k,hk⟩:=d1
  have e1:a/(Bb a b:Int)=k:=Int.ediv_eq_of_eq_mul_right (by omega) hk
  rw[e1]
  apply Int.eq_of_mul_eq_mul_left (a:=(Bb a b:Int)) (by omega)
  rw[h3,←Int.mul_assoc,←hk]
 rw[e]
 refine⟨?_,Int.dvd_lcm_left ..,Int.dvd_lcm_right ..,Int.coe_lcm_dvd h1 h2⟩
 have:Int.lcm a b≠0:=by
  rw[Ne,Int.lcm_eq_zero_iff]
  omega
 omega
theorem Zkd{n:Nat}{a B:Int}(hB:0<B)(h:a∣B)(b:Bt n B):Bt n a:=by
 refine Bt.of_le b ?_
 have:=Int.natAbs_dvd_natAbs.mpr h
 exact Nat.le_of_dvd (by omega) this
theorem Zeu{n:Nat}{B:Int}(hB:0<B)(bB:Bt n B)(hn:n≤9000:=by decide)(ps:List (Int×Int))(h:∀p∈ps,0<p.2∧p.2∣B) :
  ∃m,Told Yv [.list (ps.map prD)] (.int m)∧0<m∧(∀p∈ps,p.2∣m)∧m∣B:=by
 have key:∃d,Told Yv [.list (ps.map prD)] d∧∃m,d= .int m∧0<m∧(∀p∈ps,p.2∣m)∧m∣B:=by
  refine Zt6 rfl<|Zcp (Z2 Z5)<|Zws (ds:=ps.map prD) (λi δ=>∃m z,δ=[some (.fz (.list (ps.map prD))),some (.fz (.int m)),z]∧0<m∧(∀j p,j<i->ps[j]? =some p->p.2∣m)∧m∣B) (Wx Za) ⟨1,none,rfl,by decide,λj p hj=>absurd hj (Bq j),Int.one_dvd _⟩ (λi d δ hd hi=>?_) λδ' hi=>?_
  ·obtain⟨m,z,hδ,h1,h2,h3⟩:=hi
   subst hδ
   rw[Xn]at hd
   cases e:ps[i]? with
   | none=>rw[e]at hd;cases hd
   | some p=>
    rw[e]at hd
    cases hd
    obtain⟨q1,q2⟩:=h p (Qz e)
    obtain⟨s1,s2,s3,s4⟩:=Zue h1 q1 h3 q2 hB
    have g0:0<(Bb m p.2:Int):=Zde (by omega)
    have bg:Bt n (Bb m p.2:Int):=Zkd hB (Int.dvd_trans (Int.gcd_dvd_right ..) q2) bB
    have bm:Bt n (m.fdiv (Bb m p.2)):=by
     rw[Wt g0]
     exact Bt.of_le (Zkd hB h3 bB) (Vw _ _)
    have at1:∀{δ:Zf},δ[2]? =some (some (.fz (prD p)))->EvV (Z3 gIx (Ze 2) (fC (.int 1))) δ (.int p.2):=λh=>Ji (Za h) Z5 rfl
    refine⟨_,_,rfl,.inl (Z2 (Zo (Zo Za (Z1 (Zb Za (Zb (at1 rfl) Zj)) (.of (Jz m p.2) (OT.data_fz _))) (Zd0 (Zdy (by omega) bg hn))) (at1 rfl) (Ju (Wv bm (Zkd hB q2 bB) (by omega))))),_,_,rfl,s1,λj p' hj hp=>?_,s4⟩
    by_cases z:j=i
    ·subst z
     rw[e]at hp;cases hp
     exact s3
    ·exact Int.dvd_trans (h2 j p' (by omega) hp) s2
  ·obtain⟨m,z,rfl,h1,h2,h3⟩:=hi
   refine Zi6 Za ⟨m,rfl,h1,λp hp=>?_,h3⟩
   obtain⟨j,hj⟩:=Vn hp
   exact h2 j p (by have:=(Xj.mp hj).1;rwa[Xg]) hj
 obtain⟨d,h,m,rfl,hm⟩:=key
 exact⟨m,h,hm⟩
noncomputable def Jw:FS :=
 (Z6 (wE (fC (.int 1)) (Wd 1))
  (Z6 (W5 (Zaz (Ze 0)) (gNm 2)
  (wE (Z0 Yv (Zd (Z3 Zlq (Zbf (Zd (Zlf (Zd (fC (.int 1)) (Zd (Ze 1) Zr))) Zr)) (Ze 2)) Zr)) (Wd 1)))
  (wE (Ze 1) Jt)))
noncomputable def Yo:FD:=Zal 1 3 Jw
theorem Zzq(r:List Rat):r.map frD=(r.map λq=>(q.num,(q.den:Int))).map prD:=by rw[Qx];rfl
noncomputable def Z3f(T:List (List Rat))(B:Int):Prop:=∀r∈T,∀q∈r,(q.den:Int)∣B
theorem Zfp{n:Nat}{B:Int}(hB:0<B)(bB:Bt n B)(hn:n≤9000:=by decide)(T:List (List Rat))(hz:∀r∈T,r.length≤1000)(h:Z3f T B) :
  ∃m,Told Yo [tbD T] (.int m)∧0<m∧Z3f T m∧m∣B:=by
 have key:∃d,Told Yo [.list (T.map Zkk)] d∧∃m,d= .int m∧0<m∧Z3f T m∧m∣B:=by
  refine Zt6 rfl<|Zcp (Z2 Z5)<|Zws (ds:=T.map Zkk) (λi δ=>∃m z,δ=[some (.fz (.list (T.map Zkk))),some (.fz (.int m)),z]∧0<m∧(∀j r,j<i->T[j]? =some r->∀q∈r,(q.den:Int)∣m)∧m∣B) (Wx Za) ⟨1,none,rfl,by decide,λj p hj=>absurd hj (Bq j),Int.one_dvd _⟩ (λi d δ hd hi=>?_) λδ' hi=>?_
  ·obtain⟨m,z,hδ,h1,h2,h3⟩:=hi
   subst hδ
   rw[Xn]at hd
   cases e:T[i]? with
   | none=>rw[e]at hd;cases hd
   | some r=>
    rw[e]at hd
    cases hd
    have hr:=Qz e
    obtain⟨m',e1,p1,p2,p3⟩:=Zeu hB bB hn ((1,m) :: r.map λq=>(q.num,(q.den:Int))) λp hp=>by
     rcases Xk.mp hp with rfl|hp
     ·exact⟨h1,h3⟩
     ·obtain⟨q,hq,rfl⟩:=XF.mp hp
      exact⟨Za1 q,h r hr q hq⟩
    rw[Qs,←Zzq]at e1
    have hl:=hz r hr
    refine⟨_,_,rfl,.inl (Z2 (Z1 (Zb (Zj3 (ds:=[prD (1,m)]) (es:=r.map frD) (Zbg (Zb (Zfq (Zb Z5 (Zb Za Zj)) (show 2≤1000 by decide)) Zj) (show 1≤1000 by decide)) Za (by rw[Xg,List.length_singleton];omega)) Zj) e1)),m',_,rfl,p1,λj r' hj hr' q hq=>?_,p3⟩
    by_cases z:j=i
    ·subst z
     rw[e]at hr';cases hr'
     exact p2 (q.num,(q.den:Int)) (.tail _ (XF.mpr ⟨q,hq,rfl⟩))
    ·exact Int.dvd_trans (h2 j r' (by omega) hr' q hq) (p2 (1,m) (.head _))
  ·obtain⟨m,z,rfl,h1,h2,h3⟩:=hi
   refine Zi6 Za ⟨m,rfl,h1,λr hr q hq=>?_,h3⟩
   obtain⟨j,hj⟩:=Vn hr
   exact h2 j r (by have:=(Xj.mp hj).1;rwa[Xg]) hj q hq
 obtain⟨d,h,m,rfl,hm⟩:=key
 exact⟨m,h,hm⟩
noncomputable def scI(m:Int)(q:Rat):Int:=q.num*(m/(q.den:Int))
theorem Z4s{m:Int}{q:Rat}(h:(q.den:Int)∣m):(scI m q:Rat)=q*(m:Rat):=by
 obtain⟨k,rfl⟩:=h
 unfold scI
 rw[Int.mul_ediv_cancel_left _ (Zoz q)]
 rw[Rat.intCast_mul,Rat.intCast_mul,Ycm,Rat.mul_assoc]
noncomputable def Zbl:FS :=
 (wE (Wy 1 [0] (Zaz (Ze 1)) (gNm 0) Zhj (Zh Zcu (Z3 gIx (Ze 0) (fC (.int 0))) (Zh J8 (Ze 1) (Z3 gIx (Ze 0) (fC (.int 1)))))) Jt)
noncomputable def Jr:FD:=Zal 2 2 Zbl
theorem Zje{n:Nat}{m:Int}(hm:0<m)(bm:Bt n m)(r:List Rat)(hz:r.length≤1000)(h:∀q∈r,(q.den:Int)∣m∧Bt n q.num)(hn:n≤9000:=by decide) :
  Told Jr [.int m,Zkk r] (.list (r.map λq=>.int (scI m q))) :=
 Yx rfl<|Jq<|Zf3 (cs:=[some (.fz (.int m))]) r frD (λq=>.int (scI m q)) (Wx Za) (by omega) rfl λq hq=>by
  obtain⟨h1,h2⟩:=h q hq
  refine(Zo (Ji (d:=.int q.num) Za Z5 rfl) (Zo Za (Ji (d:=.int (q.den:Int)) Za Z5 rfl) (Zd0 (Zdy (Zoz q) (Zkd hm h1 bm) hn))) (Ju ?_)).cast ?_
  ·rw[Wt (Za1 q)]
   exact Wv h2 (Bt.of_le bm (Vw _ _)) (by omega)
  ·rw[Wt (Za1 q)];rfl
noncomputable def Zar:FS :=
 (wE (Wy 1 [0] (Zaz (Ze 1)) (gNm 0) Zhj (Z0 Jr (Zd (Ze 1) (Zd (Ze 0) Zr)))) Jt)
noncomputable def Wm:FD:=Zal 2 2 Zar
theorem Zho{n:Nat}{m:Int}(hm:0<m)(bm:Bt n m)(T:List (List Rat))(hT:T.length≤1000)(hz:∀r∈T,r.length≤1000)(h:Z3f T m)(hb:∀r∈T,∀q∈r,Bt n q.num)(hn:n≤9000:=by decide) :
  Told Wm [.int m,tbD T] (.list (T.map λr=>.list (r.map λq=>.int (scI m q)))) :=
 Yx rfl<|Jq<|Zf3 (cs:=[some (.fz (.int m))]) T Zkk (λr=>.list (r.map λq=>.int (scI m q))) (Wx Za) (by omega) rfl λr hr=>Z1 (Zb Za (Zb Za Zj)) (Zje hm bm r (hz r hr) (λq hq=>⟨h r hr q hq,hb r hr q hq⟩) hn)
noncomputable def Zfl:FS :=
 (Z6 (wE (Zbf Zr) (Zb4 1))
  (Z6 (W5 (iRa (Zd (Ze 0) Zr)) (gNm 2)
  (W5 (iRb (Zd (Zh Za0 (Ze 2) (fC (.int 1))) (Zd (Ze 0) Zr))) (gNm 3)
  (Jo 1 (Zlf (Zd (Ze 2) (Zd (Ze 3) Zr))))))
  (Zfc 1)))
noncomputable def Zpy:FD:=Zal 1 4 Zfl
end My
namespace L2
open PySem PySem.Spec PyProof.Rows
variable {G:Xb}
theorem Owns.deepT{H:Hp}{L:Addr->Prop}{b' q:Addr}{ws ws' zs:List V}{us us' rs:List OT}{c:Nat}(hb:H b'=Qm (HO.lst ws))(hL:¬L b')(hc:∀cs,Owns G H L ws us cs->∃cs',Owns G H L ws' us' cs'∧cs'.Sublist cs)(hq:H q=Qm (HO.tup zs))(hz:zs[c]? =Qm (.ref b'))(hr:rs[c]? =Qm (.nd us)) :
  ∀{xs:List V} {ts:List OT} {as:List Addr} {j:Nat},Owns G H L xs ts as->as.Nodup->xs[j]? =Qm (.ref q)->ts[j]? =Qm (.tp rs)->∃as',Owns G (upd H b' (.lst ws')) L xs (ts.set j (.tp (rs.set c (.nd us')))) as'∧as'.Sublist as∧b'∈as
 | _,_,_,_,.nil,_,e,_=>by simp at e
 | _,_,_,0,.cons (as:=as) (bs:=bs) k t,nd,e,e'=>by
  simp at e e'
  subst e e'
  have nd':=QL.mp nd
  have kp:∀a o,a≠b'->H a=Qm o->upd H b' (.lst ws') a=Qm o:=λa o n q=>by rw[Zu n];exact q
  have f1:∀a (zs:MuO),L a->Rd H a zs.ho->L a∧Rd (upd H b' (.lst ws')) a zs.ho:=λa zs l q=>⟨l,by
   have na:a≠b':=λz=>hL (z▸l)
   rcases q with q|⟨u,q⟩
   ·exact .inl (kp a _ na q)
   ·exact .inr ⟨u,kp a _ na q⟩⟩
  have f2:∀a (zs:ImO),H a=Qm zs.ho->upd H b' (.lst ws') a=Qm zs.ho:=λa zs q=>kp a _ (λz=>ImO.nl q (z▸hb)) q
  cases k with
  | tp h r=>
   rename_i xs0
   rw[hq]at h
   cases h
   obtain⟨cs',o',s',m'⟩:=Owns.deep hb hL hc r nd'.1 hz hr
   have nq:q≠b':=λz=>by rw[z,hb]at hq;cases hq
   exact⟨cs' ++ bs,.cons (.tp (by rw[Zu nq];exact hq) o') (t.frame f1 f2 λa m zs q=>kp a _ (λz=>nd'.2.2 b' m' a m z.symm) q),List.Sublist.append_right s' bs,Qu _ m'⟩
 | _,_,_,j+1,.cons (as:=as) (bs:=bs) k t,nd,e,e'=>by
  have nd':=QL.mp nd
  obtain⟨as',o,s,m⟩:=Owns.deepT hb hL hc hq hz hr (j:=j) t nd'.2.1 (by simpa using e) (by simpa using e')
  have nb:b'∉as:=λz=>nd'.2.2 b' z b' m rfl
  refine⟨as ++ as',.cons ?_ o,Uh s as,XM _ m⟩
  have kp:∀a o,a≠b'->H a=Qm o->upd H b' (.lst ws') a=Qm o:=λa o n q=>by rw[Zu n];exact q
  refine k.frame (λa zs l q=>⟨l,?_⟩) (λa zs q=>kp a _ (λz=>ImO.nl q (z▸hb)) q) λa m' zs q=>kp a _ (λz=>nb (z▸m')) q
  have na:a≠b':=λz=>hL (z▸l)
  rcases q with q|⟨u,q⟩
  ·exact .inl (kp a _ na q)
  ·exact .inr ⟨u,kp a _ na q⟩
noncomputable def Ztv(c:Nat)(d:Xa):OT->OT
 | .tp rs=>.tp (match rs[c]? with|some (.nd us)=>rs.set c (.nd (us ++ [.fz d]))|_=>rs)
 | t=>t
noncomputable def Zsd(c:Nat)(d:Xa)(k:Nat)(ts:List OT):List OT:=(ts.take k).map (Ztv c d) ++ ts.drop k
theorem Zq8(c:Nat)(d:Xa)(ts:List OT):Zsd c d 0 ts=ts:=by simp[Zsd]
theorem Zt1(c:Nat)(d:Xa)(ts:List OT):Zsd c d ts.length ts=ts.map (Ztv c d):=by simp[Zsd]
theorem Zt2{c:Nat}{d:Xa}{k:Nat}{ts:List OT}{t:OT}(h:ts[k]? =some t):(Zsd c d k ts)[k]? =some t:=by
 obtain⟨hk,e⟩:=Xj.mp h
 unfold Zsd
 rw[JW (by simp;omega)]
 simp[Nat.min_eq_left (V1 hk),h]
theorem Zsu{c:Nat}{d:Xa}{k:Nat}{ts:List OT}{t:OT}(h:ts[k]? =some t):(Zsd c d k ts).set k (Ztv c d t)=Zsd c d (k+1) ts:=by
 obtain⟨hk,e⟩:=Xj.mp h
 unfold Zsd
 have hl:((ts.take k).map (Ztv c d)).length=k:=by simp[Nat.min_eq_left (V1 hk)]
 rw[List.set_append_right _ _ (by omega),hl,Nat.sub_self,Q0 hk,e,List.set_cons_zero,List.take_succ_eq_append_getElem hk,e,QD,Bo]
 rfl
noncomputable def Znh(i j c:Nat)(d:Xa):MSt:=λD δ=>match δ[i]? with
 | some (some (.nd ts))=>j<δ.length∧(∀t∈ts,∃rs us,t= .tp rs∧rs[c]? =some (.nd us)∧us.length<Xq)∧D.nx ((δ.set i (some (.nd (ts.map (Ztv c d))))).set j none)
 | _=>False
section
variable {X:Cx}{io:List Nat}{e:Expr}{pos apos cpos px pt pl p2 kp sp:Pos}{i j:Nat}{x y:Str}
theorem Zu5(i j c:Nat){kk:Nat}{v0:V}{d:Xa}(he:PE X e (tC v0))(hsc:ScD v0 d)(hc:X.calm=true)(nd:X.N.Nodup)(hN:X.N[i]? =some x)(hj:X.N[j]? =some y)(hij:i≠j)(hlj:Loc X.env.scope y)(hio:j∉io:=by decide)
  (hv:Vis X.env.scope x:=by first|exact Qp rfl|exact Qh (Qp rfl)|exact Qh (Qh rfl)) (hvy:Vis X.env.scope y:=by first|exact Qp rfl|exact Qh (Qp rfl)|exact Qh (Qh rfl))
  (hd:(x==("__debug__" : Str))=false:=by decide) (hcd:(x==("__classdict__" : Str))=false:=by decide) (hdy:(y==("__debug__" : Str))=false:=by decide) (hcdy:(y==("__classdict__" : Str))=false:=by decide)
  (hxe:X.xe= λ_ _=>False:=by rfl)
  (hbase:Uk (.Subscript (.Name y px) (.Constant (.int c) kk kp) sp) "append" X.env (eval (.Subscript (.Name y px) (.Constant (.int c) kk kp) sp) X.env)=eval (.Subscript (.Name y px) (.Constant (.int c) kk kp) sp) X.env:=by rfl)
  (hfew:((JL cpos (Xm [e] X.env)).all (λx=>!x.1)&&(backToKw cpos (keywordEach [] X.env)).all (λx=>x.1.isSome)
   &&decide ([e].length+([]:List Ub).length+(if([]:List Ub).isEmpty then 0 else 1)<30))=true:=by rfl)
  (hline:(apos.endLine==cpos.line)=true:=by rfl) (hs:Xm [e] X.env=(false,eval e X.env) :: Xm [] X.env:=by rfl) (hplain:(JL cpos (Xm [] X.env)).any (·.1)=false:=by rfl)
  (hsw:BZ (.Call (.Attribute (.Subscript (.Name y px) (.Constant (.int c) kk kp) sp) "append" apos) [e] [] cpos) none p2.line X.env=pure false:=by rfl) (hfs:∀z,Q7 (.Name x pl) X.env z=pure z:=by intro _;rfl)
  (hf:X.fn y=true∨X.env.scope.names.lookup y=some .local:=by first|exact .inl rfl|exact .inr rfl|assumption) :
  MS X io (.For (.Name y pt) (.Name x pl) [.Expr (.Call (.Attribute (.Subscript (.Name y px) (.Constant (.int c) kk kp) sp) "append" apos) [e] [] cpos) p2] [] pos) (Znh i j c d):=by
 refine⟨_,Zqq (by rw[hxe];exact Xz) hc (Zhu (pv i hN hv hd hcd)) (Zgj (i:=j) nd hj hlj (hf:=hf)) (Zow (Ziw (Zyf UL Uv Uu Zdo (Zxn (Zo6 rfl) (pv j hj hvy hdy hcdy) Zsc (λ_ _=>rfl)) (Zag he Zfi hs) hbase hfew hline hs hplain) hsw)) hfs,λC H σ δ fp ex D D' R h E=>?_⟩
 unfold Znh at h
 split at h
 case h_2=>exact h.elim
 rename_i ts hi
 obtain⟨a',xs,bs,hv0,hx,ow,hfp⟩:=R.ownNd hi
 have ndi:=R.nd i
 rw[hfp]at ndi
 have hnd:=XX.mp ndi
 refine⟨_,hv0,a',rfl,⟨xs,.inl (.inl hx)⟩,?_⟩
 refine Zmk (xs:=xs) (λk σ' H'=>σ'.length=σ.length∧(∀q,q≠j->σ'[q]? =σ[q]?)∧H' a'=some (.lst xs)∧(∃bs',Owns X.K H' (Lf C fp ex) xs (Zsd c d k ts) bs'∧bs'.Sublist bs)∧(∀b o,H b=some o->b∉fp i->H' b=some o)∧∀b,H' b=none->H b=none)
  ⟨rfl,λ_ _=>rfl,hx,⟨bs,by rw[Zq8];exact ow,List.Sublist.refl _⟩,λ_ _ e _=>e,λ_ e=>e⟩ ?_ ?_ ?_
 ·rintro k σ' H' _ ⟨_,_,e,_⟩
  exact .inl (.inl e)
 ·rintro k xk σ' H' hk ⟨hl,hσ,hx',⟨bs',ow',hsb⟩,keep,al⟩
  have hkl:k<ts.length:=by rw[←ow.length];exact(Xj.mp hk).1
  obtain⟨t,ht⟩:∃t,ts[k]? =some t:=⟨_,Xh hkl⟩
  obtain⟨rs,us,rfl,hrs,hus⟩:=h.2.1 t (Qz ht)
  have hget:=Zt2 (c:=c) (d:=d) ht
  obtain⟨xr,cr,hxr,orow,hsub⟩:=ow'.get hget
  rw[hk]at hxr
  cases hxr
  have ndb:bs'.Nodup:=hnd.2.sublist hsb
  cases orow with
  | tp hq r3=>
   rename_i q zs
   obtain⟨xc,cc,hxc,oc,hsub2⟩:=r3.get hrs
   cases oc with
   | nd hb r4=>
    rename_i b' ws bs4
    have hbm:b'∈bs':=hsub.subset (hsub2.subset (.head _))
    have hbf:b'∈fp i:=by rw[hfp];exact .tail _ (hsb.subset hbm)
    have hLb:¬Lf C fp ex b':=λl=>l.1 ⟨i,hbf⟩
    have jl:j<σ'.length:=by rw[hl,R.len];exact h.1
    show∃v,(σ'.set j (some (.ref q)))[j]? =some (some v)∧_
    refine⟨_,Qn jl,.inr (.inl ⟨q,zs,c,V.ref b',rfl,rfl,.inl (.inl hq),?_,?_⟩)⟩
    ·unfold atI ixN
     have hc:c<zs.length:=(Xj.mp hxc).1
     rw[if_pos (by omega),if_pos (by omega)]
     simpa using hxc
    refine⟨.inl ⟨rfl,ws,.inl (.inl hb)⟩,b',ws,v0,rfl,rfl,hb,by rw[r4.length];exact hus,?_⟩
    have hba:a'≠b':=λz=>hnd.1 (hsb.subset (z▸hbm))
    obtain⟨as',oo,ss,_⟩:=Owns.deepT (ws':=ws ++ [v0]) (us':=us ++ [.fz d]) hb hLb (λcs hcs=>⟨cs ++ [],hcs.snoc (.fz hsc.da),by rw[QJ];exact List.Sublist.refl _⟩) hq hxc hrs ow' ndb hk hget
    refine⟨by rw[JK];exact hl,λq hq=>by rw[XR (JP hq)];exact hσ q hq,by rw[Zu hba];exact hx',⟨as',?_,ss.trans hsb⟩,λb o eb nb=>?_,λb eb=>?_⟩
    ·have z:=Zsu (c:=c) (d:=d) ht
     have e2:Ztv c d (.tp rs)= .tp (rs.set c (.nd (us ++ [.fz d]))):=by
      show OT.tp (match rs[c]? with|some (.nd us)=>rs.set c (.nd (us ++ [.fz d]))|_=>rs)=_
      rw[hrs]
     rw[e2]at z
     rw[←z]
     exact oo
    ·have nz:b≠b':=λz=>nb (by rw[z];exact hbf)
     rw[Zu nz];exact keep b o eb nb
    ·refine al b ?_
     by_cases q:b=b'
     ·subst q;rw[Zt]at eb;cases eb
     ·rwa[Zu q]at eb
 ·rintro σ' H' ⟨hl,hσ,hx',⟨bs',ow',hsb⟩,keep,al⟩
  rw[ow.length,Zt1]at ow'
  have sub:∀a,a∈a' :: bs'->a∈fp i:=λa m=>by
   rw[hfp]
   rcases Xk.mp m with rfl|m
   ·exact .head _
   ·exact .tail _ (hsb.subset m)
  have lw:∀a,Lf C fp ex a->H' a≠none->Lf C (fpu fp i (a' :: bs')) (exu ex []) a:=λa l _=>⟨λz=>by
   rcases z.of_u with z|⟨k,_,z⟩
   ·exact l.1 ⟨i,sub a z⟩
   ·exact l.1 ⟨k,z⟩,λz=>l.2.1 (Zao.mp z),l.2.2⟩
  obtain⟨R4,S4⟩:=R.change (new:=[]) (as':=a' :: bs') (t':=.nd (ts.map (Ztv c d))) (H':=H') hi hv0 keep al (.nd hx' (ow'.wide lw)) (XX.mpr ⟨λm=>hnd.1 (hsb.subset m),hnd.2.sublist hsb⟩) (λa m=>.inl (sub a m)) (λa m=>nomatch m)
  have R5:=R4.drop (ex':=ex) λa z=>.inl z
  obtain⟨fp6,R6,K6⟩:=R5.forget2 hio hl hσ
  exact E.nx _ σ' _ fp6 R6 (S4.kp.trans K6) h.2.2
end
noncomputable def Z6q(c:Nat):OT->Bool
 | .tp rs=>match rs[c]? with|some (.nd us)=>decide (us.length<Xq)|_=>false
 | _=>false
noncomputable def Ziz(i j c:Nat)(d:Xa):FS:=λδ=>match δ[i]? with
 | some (some (.nd ts))=>if j<δ.length∧ts.all (Z6q c)=true then .nx ((δ.set i (some (.nd (ts.map (Ztv c d))))).set j none)else .bad
 | _=>.bad
section
variable {X:Cx}{io:List Nat}{st:Stmt}{i j c:Nat}{d:Xa}
theorem Zug(h:MS X io st (Znh i j c d)):MS X io st (oS (Ziz i j c d)):=h.weak λD δ h=>by
 unfold oS Ziz at h;unfold Znh
 split at h
 case h_2=>exact h.elim
 rename_i ts q;(try rw[q])
 obtain⟨hc,h⟩:=Zdv h
 refine⟨hc.1,λt ht=>?_,h⟩
 have:=Bh.mp hc.2 t ht
 unfold Z6q at this
 split at this
 ·rename_i rs
  split at this
  ·rename_i us e
   exact⟨rs,us,rfl,e,of_decide_eq_true this⟩
  ·cases this
 ·cases this
end
variable {G:Xb}
theorem Owns.split{H:Hp}{L:Addr->Prop}:∀{xs:List V} {ts:List OT} {as:List Addr},Owns G H L xs ts as->∃ass:List (List Addr),ass.length=xs.length∧ass.flatten=as∧∀(k:Nat) (x:V) (t:OT) (b:List Addr),xs[k]? =Qm x->ts[k]? =Qm t->ass[k]? =Qm b->Own G H L x t b
 | _,_,_,.nil=>⟨[],rfl,rfl,λk x t b e=>by simp at e⟩
 | _,_,_,.cons (as:=as) (bs:=bs) h r=>by
  obtain⟨ass,e1,e2,h2⟩:=Owns.split r
  refine⟨as :: ass,by rw[Bg,Bg,e1],by rw[List.flatten_cons,e2],λk x t b q1 q2 q3=>?_⟩
  cases k with
  | zero=>
   simp at q1 q2 q3
   subst q1 q2 q3
   exact h
  | succ k=>exact h2 k x t b (by simpa using q1) (by simpa using q2) (by simpa using q3)
theorem Owns.pick{H:Hp}{L:Addr->Prop}{xs:List V}{ts:List OT}{ass:List (List Addr)}(d:OT)(hl:xs.length=ts.length)(ha:ass.length=xs.length)(h:∀(k:Nat) (x:V) (t:OT) (b:List Addr),xs[k]? =Qm x->ts[k]? =Qm t->ass[k]? =Qm b->Own G H L x t b) :
  ∀p:List Nat,(∀k∈p,k<xs.length)->Owns G H L (p.map λk=>xs.getD k .non) (p.map λk=>ts.getD k d) (p.flatMap λk=>ass.getD k [])
 | [],_=>.nil
 | k :: p,hp=>by
  have hk:=hp k (.head _)
  rw[Qs,Qs,List.flatMap_cons]
  refine .cons ?_ (Owns.pick d hl ha h p λk m=>hp k (.tail _ m))
  refine h k _ _ _ ?_ ?_ ?_
  ·rw[Xd,Xh hk];rfl
  ·rw[Xd,Xh (hl▸hk)];rfl
  ·rw[Xd,Xh (ha▸hk)];rfl
section
variable {X:Cx}{io:List Nat}{pos pp cpos px:Pos}{i:Nat}{x:Str}{α:Type}{kd:Xa->Option α}{lt:α->α->Bool}
end
section
variable {X:Cx}{io:List Nat}{st:Stmt}{i:Nat}{α:Type}{kd:Xa->Option α}{lt:α->α->Bool}
end
end L2
namespace L2
open PySem PySem.Spec PyProof.Rows PySem.W
theorem Zdf{α β:Type}{lt:Nat->Nat->Bool}{f:α->KasT β}(t:KasT α):kEv lt (t.bind f)=kEv lt (f (kEv lt t)):=by
 induction t with
 | ret a=>rfl
 | ask i j k ih=>exact ih _
structure Tot(lt:Nat->Nat->Bool)(n:Nat):Prop where
 tr:∀i j k,i<n->j<n->k<n->lt i j=true->lt j k=true->lt i k=true
 tot:∀i j,i<n->j<n->i≠j->lt i j=false->lt j i=true
 asy:∀i j,i<n->j<n->lt i j=true->lt j i=false
section
variable {lt:Nat->Nat->Bool}{n:Nat}
noncomputable abbrev gD(p:Array Nat)(i:Nat):Nat:=p.getD i 0
theorem kP.size{p:Array Nat}(h:kP n p):p.size=n:=by rw[←Vu,List.Perm.length_eq h,Ql]
theorem Zl5{p:Array Nat}{i:Nat}(h:i<p.size):p[i]? =some (gD p i):=by rw[Array.getElem?_eq_getElem h];simp[gD,Array.getD,h]
theorem Zuc{p q:Array Nat}{i j:Nat}(h:p[i]? =q[j]?):gD p i=gD q j:=by
 show p.getD i 0=q.getD j 0
 rw[Array.getD_eq_getD_getElem?,Array.getD_eq_getD_getElem?,h]
theorem kP.blw{p:Array Nat}(h:kP n p){i:Nat}(hi:i<n):gD p i<n:=h.at (VF (QQ _) hi) i
theorem kP.ne{p:Array Nat}(h:kP n p){i j:Nat}(hi:i<j)(hj:j<n):gD p i≠gD p j:=λe=>by
 have nd:p.toList.Nodup:=(List.Perm.nodup_iff h).mpr List.nodup_range
 have sz:=h.size
 have a:=Zl5 (p:=p) (i:=i) (by omega)
 have b:=Zl5 (p:=p) (i:=j) (by omega)
 rw[←Q5]at a b
 obtain⟨a1,a2⟩:=Xj.mp a
 obtain⟨b1,b2⟩:=Xj.mp b
 exact Vs.mp nd i j a1 b1 hi (by rw[a2,b2,e])
noncomputable def Ri(lt:Nat->Nat->Bool)(p:Array Nat)(m:Nat):Prop:=∀i j,i<j->j<m->lt (gD p i) (gD p j)=true
noncomputable def Fa(lt:Nat->Nat->Bool)(p:Array Nat)(m:Nat):Prop:=∀i j,i<j->j<m->lt (gD p j) (gD p i)=true
variable (T:Tot lt n)
include T
theorem Zvi{p:Array Nat}(h:kP n p)(f:Nat):∀m,1≤m->m+f≤n->Ri lt p m->Ri lt p (kEv lt (kas_asc p f m))∧m≤kEv lt (kas_asc p f m)∧kEv lt (kas_asc p f m)≤m+f∧(kEv lt (kas_asc p f m)<m+f->lt (gD p (kEv lt (kas_asc p f m))) (gD p (kEv lt (kas_asc p f m)-1))=true):=by
 induction f with
 | zero=>exact λm _ _ r=>⟨r,X4 _,X4 _,λz=>absurd z (Bx _)⟩
 | succ f ih=>
  intro m h1 hn r
  show _∧_
  rw[kas_asc,kEv]
  cases c:lt (p.getD m 0) (p.getD (m-1) 0)with
  | true=>
   rw[if_pos rfl,kEv]
   exact⟨r,X4 _,Vq _ _,λ_=>c⟩
  | false=>
   rw[if_neg Xy]
   have up:lt (gD p (m-1)) (gD p m)=true:=T.tot _ _ (h.blw (by omega)) (h.blw (by omega)) (h.ne (by omega) (by omega)).symm c
   have r2:Ri lt p (m+1):=λi j hij hj=>by
    rcases Nat.lt_or_ge j m with q|q
    ·exact r i j hij q
    ·have:j=m:=by omega
     subst this
     rcases Nat.lt_or_ge i (j-1)with q2|q2
     ·exact T.tr _ _ _ (h.blw (by omega)) (h.blw (by omega)) (h.blw (by omega)) (r i (j-1) q2 (by omega)) up
     ·have:i=j-1:=by omega
      subst this
      exact up
   obtain⟨a,b,c,d⟩:=ih (m+1) (by omega) (by omega) r2
   exact⟨a,by omega,by omega,λz=>d (by omega)⟩
theorem Zzf{p:Array Nat}(h:kP n p)(f:Nat):∀m,1≤m->m+f≤n->Fa lt p m->∃m',kEv lt (kas_desc f p m 0)=(p,m',0)∧Fa lt p m'∧m≤m'∧m'≤m+f:=by
 induction f with
 | zero=>exact λm _ _ r=>⟨m,rfl,r,X4 _,X4 _⟩
 | succ f ih=>
  intro m h1 hn r
  rw[kas_desc,kEv]
  cases c:lt (p.getD m 0) (p.getD (m-1) 0)with
  | true=>
   rw[if_pos rfl,if_neg (Bx _)]
   have r2:Fa lt p (m+1):=λi j hij hj=>by
    rcases Nat.lt_or_ge j m with q|q
    ·exact r i j hij q
    ·have:j=m:=by omega
     subst this
     rcases Nat.lt_or_ge i (j-1)with q2|q2
     ·exact T.tr _ _ _ (h.blw (by omega)) (h.blw (by omega)) (h.blw (by omega)) c (r i (j-1) q2 (by omega))
     ·have:i=j-1:=by omega
      subst this
      exact c
   obtain⟨m',e,a,b,d⟩:=ih (m+1) (by omega) (by omega) r2
   exact⟨m',e,a,by omega,by omega⟩
  | false=>
   rw[if_neg Xy,kEv]
   have up:lt (p.getD (m-1) 0) (p.getD m 0)=true:=T.tot _ _ (h.blw (by omega)) (h.blw (by omega)) (h.ne (by omega) (by omega)).symm c
   rw[up,if_pos rfl,kEv]
   exact⟨m,rfl,r,X4 _,Vq _ _⟩
theorem Zuh{p:Array Nat}(h:kP n p)(h0:0<n):∃m p',kEv lt (kas_count n p)=(m,p')∧kP n p'∧Ri lt p' m∧1≤m∧m≤n:=by
 rw[kas_count,Zdf]
 obtain⟨a,b,c,d⟩:=Zvi T h (n-1) 1 (X4 _) (by omega) λi j _ _=>by omega
 generalize kEv lt (kas_asc p (n-1) 1)=m at a b c d
 by_cases e:m=n
 ·rw[if_pos (by rw[e];exact beq_self_eq_true _),kEv]
  exact⟨m,p,rfl,h,a,b,by omega⟩
 rw[if_neg (λz=>e (beq_iff_eq.mp z))]
 by_cases m1:m>1
 ·rw[if_pos m1,kEv,a 0 (m-1) (by omega) (by omega),if_pos rfl,kEv]
  exact⟨m,p,rfl,h,a,b,by omega⟩
 rw[if_neg m1]
 have em:m=1:=by omega
 subst em
 have lt1:=d (by omega)
 rw[kas_descPart,Zdf]
 obtain⟨m',e2,f2,b2,d2⟩:=Zzf T h (n-(1+1)) (1+1) (by omega) (by omega) λi j hij hj=>by
  have:i=0:=by omega
  have:j=1:=by omega
  subst i j
  exact lt1
 rw[e2,if_neg (Bx _),kas_tail3,Zdf,kEv]
 have kr:kP n (kas_rev p 0 m'):=h.rev _ _
 have rr:Ri lt (kas_rev p 0 m') m':=λi j hij hj=>by
  have ge:∀k,k<m'->gD (kas_rev p 0 m') k=gD p (m'-1-k):=λk hk=>Zuc (by
   have:=getElem?_mirror_all (xs:=p) (i:=0) (j:=m') (by rw[h.size];omega) k
   rw[if_pos ⟨QQ _,hk⟩,VR]at this
   exact this)
  rw[ge i (by omega),ge j hj]
  exact f2 _ _ (by omega) (by omega)
 obtain⟨a,b,c,_⟩:=Zvi T kr (n-m') m' (by omega) (by omega) rr
 have n2:2≤n:=by omega
 have:m'≤n:=by omega
 refine⟨_,_,rfl,kr,a,?_,?_⟩
 ·exact Qy (by omega) b
 ·exact Qy c (by omega)
theorem Zun{p:Array Nat}(h:kP n p){k:Nat}(hk:k<n)(f:Nat):∀l r,l≤r->r≤k->r-l≤f->(∀i,i<l->lt (gD p i) (gD p k)=true)->(∀i,r≤i->i<k->lt (gD p k) (gD p i)=true)->Ri lt p k ->
  kEv lt (kas_place p k f l r)≤k∧(∀i,i<kEv lt (kas_place p k f l r)->lt (gD p i) (gD p k)=true)∧∀i,kEv lt (kas_place p k f l r)≤i->i<k->lt (gD p k) (gD p i)=true:=by
 induction f with
 | zero=>
  intro l r lr rk z a b R
  have:l=r:=by omega
  subst this
  exact⟨rk,a,b⟩
 | succ f ih=>
  intro l r lr rk z a b R
  rw[kas_place]
  by_cases c:l≥r
  ·rw[if_pos c,kEv]
   exact⟨by omega,a,λi x y=>b i (by omega) y⟩
  rw[if_neg c,kEv]
  have hm:(l+r)/2<k:=by omega
  cases q:lt (p.getD k 0) (p.getD ((l+r)/2) 0)with
  | true=>
   rw[if_pos rfl]
   refine ih _ _ (by omega) (by omega) (by omega) a (λi x y=>?_) R
   by_cases e:i=(l+r)/2
   ·subst e;exact q
   ·exact T.tr _ _ _ (h.blw hk) (h.blw (by omega)) (h.blw (by omega)) q (R _ _ (by omega) y)
  | false=>
   rw[if_neg Xy]
   have up:lt (gD p ((l+r)/2)) (gD p k)=true:=T.tot _ _ (h.blw hk) (h.blw (by omega)) (h.ne hm hk).symm q
   refine ih _ _ (by omega) (by omega) (by omega) (λi x=>?_) b R
   by_cases e:i=(l+r)/2
   ·subst e;exact up
   ·exact T.tr _ _ _ (h.blw (by omega)) (h.blw (by omega)) (h.blw hk) (R _ _ (by omega) hm) up
theorem Z4g(f:Nat):∀{p:Array Nat} (h:kP n p) (k:Nat),k+f≤n->Ri lt p k->Ri lt (kEv lt (kas_bin f p k)) (k+f):=by
 induction f with
 | zero=>exact λh k _ r=>r
 | succ f ih=>
  intro p h k hn r
  rw[kas_bin,Zdf]
  obtain⟨a,b,c⟩:=Zun T h (k:=k) (by omega) k 0 k (QQ _) (X4 _) (by omega) (λi z=>absurd z (Bq _)) (λi x y=>absurd y (by omega)) r
  generalize kEv lt (kas_place p k k 0 k)=l at a b c
  have ge:∀j,gD (bubble p k (k-l)) j=if j=l then gD p k else if l<j∧j≤k then gD p (j-1)else gD p j:=λj=>by
   have e:=getElem?_bubble (xs:=p) (src:=k) (by rw[h.size];omega) (k-l) (by omega) j
   have e0:k-(k-l)=l:=by omega
   rw[e0]at e
   by_cases c1:j=l
   ·rw[if_pos c1]at e⊢
    exact Zuc e
   ·rw[if_neg c1]at e⊢
    by_cases c2:l<j∧j≤k
    ·rw[if_pos c2]at e⊢
     exact Zuc e
    ·rw[if_neg c2]at e⊢
     exact Zuc e
  have:=ih (h.bub k (k-l)) (k+1) (by omega) λi j hij hj=>?_
  ·rw[show k+1+f=k+(f+1) by omega]at this
   exact this
  rw[ge,ge]
  rcases Nat.lt_trichotomy j l with q|q|q
  ·rw[if_neg (by omega),if_neg (by omega),if_neg (by omega),if_neg (by omega)]
   exact r i j hij (by omega)
  ·rw[if_neg (by omega),if_neg (by omega),if_pos q]
   exact b i (by omega)
  ·rw[if_neg (show¬j=l by omega),if_pos (show l<j∧j≤k by omega)]
   rcases Nat.lt_trichotomy i l with q2|q2|q2
   ·rw[if_neg (by omega),if_neg (by omega)]
    exact r i (j-1) (by omega) (by omega)
   ·rw[if_pos q2]
    exact c (j-1) (by omega) (by omega)
   ·rw[if_neg (by omega),if_pos (by omega)]
    exact r (i-1) (j-1) (by omega) (by omega)
theorem Z1a(h0:0<n):Ri lt (kEv lt (U6 n)) n:=by
 rw[U6,Zdf]
 obtain⟨m,p,e,kp,r,l1,l2⟩:=Zuh T (p:=JV (Xr n)) (List.Perm.refl _) h0
 rw[e]
 by_cases c:m<n
 ·rw[if_pos c]
  have em:max m 1=m:=by omega
  rw[em]
  have:=Z4g T (n-m) kp m (by omega) r
  rw[show m+(n-m)=n by omega]at this
  exact this
 ·rw[if_neg c,kEv]
  have:m=n:=by omega
  rw[this]at r
  exact r
theorem Zyd(h0:0<n):(Zls lt n).Pairwise λi j=>lt i j=true:=by
 have h:kP n (kEv lt (U6 n)):=(Zf5 h0).ev (P:=kP n)
 have r:=Z1a T h0
 refine Vs.mpr λi j hi hj hij=>?_
 have sz:=h.size
 rw[←Vu]at sz
 have l2:(Zls lt n).length=n:=sz
 have ge:∀k (hk:k<(Zls lt n).length),(Zls lt n)[k]=gD (kEv lt (U6 n)) k:=λk hk=>by
  have:=Zl5 (p:=kEv lt (U6 n)) (i:=k) (by rw[h.size];omega)
  rw[←Q5]at this
  exact(Xj.mp this).2
 rw[ge,ge]
 exact r i j hij (by omega)
end
theorem Zxe{α β:Type}{d:α}{lt:Nat->Nat->Bool}{vs:List α}{R:α->α->Prop}(T:Tot lt vs.length)(hR:∀i j,i<vs.length->j<vs.length->lt i j=true->R (vs.getD i d) (vs.getD j d)):(sLay d lt vs).Pairwise R:=by
 unfold sLay
 split
 ·rename_i c
  match vs,c with
  | [],_=>exact .nil
  | [a],_=>exact List.pairwise_singleton _ _
 ·rename_i c
  have pm:=Zbt (lt:=lt) (n:=vs.length) (by omega)
  have up:=Zyd T (by omega)
  have h:=List.Pairwise.imp_of_mem (fun{i j} hi hj e=>hR i j (QM.mp (pm.mem_iff.mp hi)) (QM.mp (pm.mem_iff.mp hj)) e) up
  exact List.pairwise_map.mpr h
end L2
namespace L2
open PySem PySem.Spec PyProof.Rows PySem.W
structure TmS where
 p:Array Nat
 q:Array (Nat×Nat×Nat)
 g:Nat
noncomputable def TM(α:Type):Type:=TmS->KasT (Option (α×TmS))
noncomputable def TM.nxt{α β:Type}(f:α->TM β):Option (α×TmS)->KasT (Option (β×TmS))
 | none=>.ret none
 | some r=>f r.1 r.2
noncomputable instance:Monad TM where
 pure a:=λt=>.ret (some (a,t))
 bind m f:=λt=>(m t).bind (TM.nxt f)
noncomputable def Zqm{α:Type}:TM α:=λ_=>.ret none
noncomputable def Z1l(i j:Nat):TM (Option Bool):=λt=>.ask i j λb=>.ret (some (some b,t))
noncomputable def Ybm(l:List Nat):Nat->Option Nat:=List.rec (motive:=λ_=>Nat->Option Nat) (λ_=>none) (λx _ ih i=>Nat.rec (motive:=λ_=>Option Nat) (some x) (λj _=>ih j) i) l
theorem Zp2:∀(l:List Nat) (i:Nat),Ybm l i=l[i]?
 | [],_=>rfl
 | _ :: _,0=>rfl
 | x :: l,i+1=>(Zp2 l i).trans (List.getElem?_cons_succ ..).symm
noncomputable def Zer(a:Array Nat)(i:Nat):TM Nat:=match Ybm a.toList i with|some x=>pure x|none=>Zqm
noncomputable def fcN{β:Type}(n:Nat)(k:Nat->β):β:=Nat.rec (motive:=λ_=>β) (k 0) (λm _=>k (m+1)) n
theorem Zi4{β:Type}(n:Nat)(k:Nat->β):fcN n k=k n:=by cases n<;>rfl
noncomputable def fcL{β:Type}(l:List Nat):(List Nat->β)->β:=List.rec (motive:=λ_=>(List Nat->β)->β) (λk=>k []) (λx _ ih k=>fcN x λy=>ih λm=>k (y :: m)) l
theorem Z3c{β:Type}(l:List Nat)(k:List Nat->β):fcL l k=k l:=by
 induction l generalizing k with
 | nil=>rfl
 | cons x l ih=>
  show fcN x (λy=>fcL l λm=>k (y :: m))=_
  rw[Zi4]
  exact ih _
noncomputable def fcQ{β:Type}(l:List (Nat×Nat×Nat)):(List (Nat×Nat×Nat)->β)->β:=List.rec (motive:=λ_=>(List (Nat×Nat×Nat)->β)->β) (λk=>k []) (λx _ ih k=>fcN x.1 λa=>fcN x.2.1 λb=>fcN x.2.2 λc=>ih λm=>k ((a,b,c) :: m)) l
theorem Z5n{β:Type}(l:List (Nat×Nat×Nat))(k:List (Nat×Nat×Nat)->β):fcQ l k=k l:=by
 induction l generalizing k with
 | nil=>rfl
 | cons x l ih=>
  show fcN x.1 (λa=>fcN x.2.1 λb=>fcN x.2.2 λc=>fcQ l λm=>k ((a,b,c) :: m))=_
  rw[Zi4,Zi4,Zi4]
  exact ih _
noncomputable def fcT{β:Type}(t:TmS)(k:TmS->β):β:=fcL t.p.toList λp=>fcQ t.q.toList λq=>fcN t.g λg=>k ⟨⟨p⟩,⟨q⟩,g⟩
theorem Zwn{β:Type}(t:TmS)(k:TmS->β):fcT t k=k t:=by
 unfold fcT
 rw[Z3c,Z5n,Zi4]
noncomputable def Zgt:TM TmS:=λt=>.ret (some (t,t))
noncomputable def Zgc(f:TmS->TmS):TM PUnit:=λt=>fcT (f t) λt=>.ret (some (⟨⟩,t))
noncomputable def Zsm{β:Type}:List Nat->β->(Nat->β->TM (ForInStep β))->TM β
 | [],b,_=>pure b
 | x :: l,b,f=>do
  match←f x b with
  | .done b=>pure b
  | .yield b=>Zsm l b f
noncomputable def stM{α β:Type}(f:α->β):ForInStep α->ForInStep β
 | .done a=>.done (f a)
 | .yield a=>.yield (f a)
section
variable {prog:X6}{w:Qv}{A:Qo}{E:Xc->Xe->Prop}{κ:By}{it:Array VB}
noncomputable def toS(κ:By)(it:Array VB)(t:TmS):Bu:=Bv κ (t.p.map (XJ it)) t.q t.g none
noncomputable def Sim(prog:X6)(w:Qv)(A:Qo)(E:Xc->Xe->Prop)(κ:By)(it:Array VB){α β:Type}(φ:β->α)(m:StateT Bu Sem α)(t:TM β):Prop:=∀(u:TmS) (s:Xe) (Q:α->Bu->Xe->Prop),
 (t u).kasWp (kas_cmp prog w A κ it) (λo s'=>∃r,o=some r∧Q (φ r.1) (toS κ it r.2) s') s->kasC (Qd prog w) A E m Q (toS κ it u) s
variable {α β α' β':Type}
theorem Zc{φ:β->α}{a:α}{b:β}(h:φ b=a):Sim prog w A E κ it φ (pure a) (pure b):=λu s Q h1=>by
 obtain⟨r,e,h2⟩:=h1
 cases e
 rw[h]at h2
 exact kasC_pure h2
theorem Zg{φ:β->α}{ψ:β'->α'}{m:StateT Bu Sem α}{t:TM β}{f:α->StateT Bu Sem α'}{g:β->TM β'}(h:Sim prog w A E κ it φ m t)(k:∀b,Sim prog w A E κ it ψ (f (φ b)) (g b)):Sim prog w A E κ it ψ (m>>=f) (t>>=g):=λu s Q h1=>by
 have h2:((t u).bind (TM.nxt g)).kasWp (kas_cmp prog w A κ it) (λo s'=>∃r,o=some r∧Q (ψ r.1) (toS κ it r.2) s') s:=h1
 rw[KasT.kasWp_bind]at h2
 refine kasC_bind (h u s _ (kas_wp_mono h2 λo s' h3=>?_))
 cases o with
 | none=>
  obtain⟨r,e,_⟩:=h3
  cases e
 | some r=>exact⟨r,rfl,k r.1 r.2 s' Q h3⟩
theorem Za8:Sim prog w A E κ it (toS κ it) (get:StateT Bu Sem Bu) Zgt:=λu s Q h1=>by
 obtain⟨r,e,h2⟩:=h1
 cases e
 exact kasC_get h2
theorem Zdc{f:Bu->Bu}{g:TmS->TmS}(h:∀t,f (toS κ it t)=toS κ it (g t)):Sim prog w A E κ it _root_.id (modify f:StateT Bu Sem PUnit) (Zgc g):=λu s Q h1=>by
 unfold Zgc at h1
 rw[Zwn]at h1
 obtain⟨r,e,h2⟩:=h1
 cases e
 refine kasC_modify ?_
 rw[h]
 exact h2
theorem Zga{φ:β->α}{m:StateT Bu Sem α}:Sim prog w A E κ it φ m Zqm:=λu s Q h1=>by
 obtain⟨r,e,_⟩:=h1
 cases e
theorem Wi{a:Array Nat}{i:Nat}:Sim prog w A E κ it (XJ it) (elem' (a.map (XJ it)) i) (Zer a i):=by
 rw[elem'_eq]
 unfold Zer
 rw[Array.getElem?_map,Zp2,Q5]
 cases a[i]? with
 | none=>exact Zga
 | some x=>exact Zc rfl
theorem Zj4{i j:Nat}:Sim prog w A E κ it _root_.id (lt' (XJ it i) (XJ it j)) (Z1l i j):=λu s Q h1=>by
 have h2:kas_cmp prog w A κ it i j (λb s'=>∃r,some (some b,u)=some r∧Q (_root_.id r.1) (toS κ it r.2) s') s:=h1
 rw[lt'_eq]
 refine kasC_bind (kasC_get ?_)
 refine kasC_bind (kasC_lift (wpAny_attempt (Bs h2 (λc s' hc=>?_) λ_ _ hF=>hF.elim)))
 obtain⟨r,e,h3⟩:=hc
 cases e
 exact kasC_pure h3
theorem Zs1{φ:β->α}{f:Nat->α->StateT Bu Sem (ForInStep α)}{g:Nat->β->TM (ForInStep β)}(h:∀x b,Sim prog w A E κ it (stM φ) (f x (φ b)) (g x b))(l:List Nat)(b:β):Sim prog w A E κ it φ (forIn l (φ b) f) (Zsm l b g):=by
 induction l generalizing b with
 | nil=>rw[VN];exact Zc rfl
 | cons x l ih=>
  rw[Ug]
  refine Zg (h x b) λr=>?_
  cases r with
  | done b=>exact Zc rfl
  | yield b=>exact ih b
theorem Zq7{φ:β->α}{f:Nat->α->StateT Bu Sem (ForInStep α)}{g:Nat->β->TM (ForInStep β)}{x y:Nat}{a:α}{b:β}(e:φ b=a)(h:∀x b,Sim prog w A E κ it (stM φ) (f x (φ b)) (g x b)):Sim prog w A E κ it φ (forIn [x:y] a f) (Zsm (List.range' x (y-x)) b g):=λu s Q h1=>by
 refine kasC_range ?_
 rw[←e]
 exact Zs1 h _ b u s Q h1
theorem Zq{φ:β->α}{c:Prop}[Decidable c]{m n:StateT Bu Sem α}{t v:TM β}(h1:Sim prog w A E κ it φ m t)(h2:Sim prog w A E κ it φ n v):Sim prog w A E κ it φ (if c then m else n) (if c then t else v):=by
 split
 ·exact h1
 ·exact h2
end
end L2
namespace L2
open PySem PySem.Spec PyProof.Rows PySem.W
structure Rg where
 a:Nat
 b:Nat
noncomputable instance:ForIn TM Rg Nat where
 forIn r b f:=Zsm (List.range' r.a (r.b-r.a)) b f
noncomputable def Yah:Bool->VB->Array VB->Nat->Nat->Nat->StateT Bu Sem (Option Nat):=sortPriv%PySem.Builtin.gallop
noncomputable def Zqf(le:Bool)(key:Nat)(arr:Array Nat)(base i:Nat):TM (Option Bool):=do
 let x←Zer arr (base+i)
 if le then Z1l x key else return(←Z1l key x).map (!·)
noncomputable def Zh8(le:Bool)(key:Nat)(arr:Array Nat)(base n hint:Nat):TM (Option Nat):=do
 let mut last:=0
 let mut ofs:=1
 let mut lo:=0
 let mut hi:=0
 let some right←Zqf le key arr base hint|return none
 if right then
  let most:=n-hint
  for _ in Rg.mk 0 n do
   if ofs≥most then break
   let some more←Zqf le key arr base (hint+ofs)|return none
   if !more then break
   last:=ofs
   ofs:=2*ofs+1
  lo:=hint+last+1
  hi:=hint+min ofs most
 else
  let most:=hint+1
  for _ in Rg.mk 0 n do
   if ofs≥most then break
   let some more←Zqf le key arr base (hint-ofs)|return none
   if more then break
   last:=ofs
   ofs:=2*ofs+1
  lo:=hint+1-min ofs most
  hi:=hint-last
 for _ in Rg.mk 0 n do
  if lo≥hi then break
  let m:=lo+(hi-lo)/2
  let some more←Zqf le key arr base m|return none
  if more then lo:=m+1 else hi:=m
 return some hi
section
variable {prog:X6}{w:Qv}{A:Qo}{E:Xc->Xe->Prop}{κ:By}{it:Array VB}{α β:Type}
theorem Zbk{φ:β->α}{f:Nat->α->StateT Bu Sem (ForInStep α)}{g:Nat->β->TM (ForInStep β)}{x y:Nat}{a:α}{b:β}(e:φ b=a)(h:∀x b,Sim prog w A E κ it (stM φ) (f x (φ b)) (g x b)):Sim prog w A E κ it φ (forIn [x:y] a f) (forIn (Rg.mk x y) b g):=Zq7 e h
theorem Zgh{le:Bool}{key:Nat}{arr:Array Nat}{base n hint:Nat}:Sim prog w A E κ it _root_.id (Yah le (XJ it key) (arr.map (XJ it)) base n hint) (Zh8 le key arr base n hint):=by
 have bey:∀i,Sim prog w A E κ it _root_.id (do
   let x←elem' (arr.map (XJ it)) (base+i)
   if le then lt' x (XJ it key)else return(←lt' (XJ it key) x).map (!·)) (Zqf le key arr base i):=λi=>Zg Wi λx=>Zq Zj4 (Zg Zj4 λo=>Zc rfl)
 unfold Zh8
 refine Zg (bey hint) λo=>?_
 cases o with
 | none=>exact Zc rfl
 | some right=>
  refine Zq ?_ ?_
  ·refine Zg (Zbk (φ:=_root_.id) rfl λx b=>?_) λr=>?_
   ·exact Zq (Zc rfl) (Zg (bey _) λo=>by
     cases o with
     | none=>exact Zc rfl
     | some m=>exact Zq (Zc rfl) (Zc rfl))
   ·obtain⟨r1,last,ofs⟩:=r
    cases r1 with
    | some v=>exact Zc rfl
    | none=>
     refine Zg (Zbk (φ:=_root_.id) rfl λx b=>?_) λr=>?_
     ·exact Zq (Zc rfl) (Zg (bey _) λo=>by
       cases o with
       | none=>exact Zc rfl
       | some m=>exact Zq (Zc rfl) (Zc rfl))
     ·obtain⟨r1,lo,hi⟩:=r
      cases r1 with
      | some v=>exact Zc rfl
      | none=>exact Zc rfl
  ·refine Zg (Zbk (φ:=_root_.id) rfl λx b=>?_) λr=>?_
   ·exact Zq (Zc rfl) (Zg (bey _) λo=>by
     cases o with
     | none=>exact Zc rfl
     | some m=>exact Zq (Zc rfl) (Zc rfl))
   ·obtain⟨r1,last,ofs⟩:=r
    cases r1 with
    | some v=>exact Zc rfl
    | none=>
     refine Zg (Zbk (φ:=_root_.id) rfl λx b=>?_) λr=>?_
     ·exact Zq (Zc rfl) (Zg (bey _) λo=>by
       cases o with
       | none=>exact Zc rfl
       | some m=>exact Zq (Zc rfl) (Zc rfl))
     ·obtain⟨r1,lo,hi⟩:=r
      cases r1 with
      | some v=>exact Zc rfl
      | none=>exact Zc rfl
end
end L2
namespace L2
open PySem PySem.Spec PyProof.Rows PySem.W
noncomputable def Yax:Array VB->Array VB->StateT Bu Sem (Array VB):=sortPriv%PySem.Builtin.mergeLo
noncomputable def Z9l:Nat->StateT Bu Sem PUnit:=sortPriv%PySem.Builtin.setMinGallop
noncomputable def Zjw(g:Nat):TM PUnit:=Zgc λt=>{ t with g:=g }
noncomputable def Z7d(a b:Array Nat):TM (Array Nat):=do
 let total:=a.size+b.size
 let fin (out:Array Nat) (i j:Nat):=out ++ a.extract i a.size ++ b.extract j b.size
 let lst (out:Array Nat) (i j:Nat):=out ++ b.extract j b.size ++ a.extract i a.size
 let mut out:Array Nat:=#[←Zer b 0]
 let mut i:=0
 let mut j:=1
 if j==b.size then return fin out i j
 if i+1==a.size then return lst out i j
 let mut mg:=(←Zgt).g
 for _ in Rg.mk 0 total do
  let mut na:=0
  let mut nb:=0
  for _ in Rg.mk 0 total do
   let some c←Z1l (←Zer b j) (←Zer a i)|return fin out i j
   if c then
    out:=out.push (←Zer b j);j:=j+1;nb:=nb+1;na:=0
    if j==b.size then return fin out i j
    if nb≥mg then break
   else
    out:=out.push (←Zer a i);i:=i+1;na:=na+1;nb:=0
    if i+1==a.size then return lst out i j
    if na≥mg then break
  mg:=mg+1
  for _ in Rg.mk 0 total do
   if mg>1 then mg:=mg-1
   Zjw mg
   let some k←Zh8 false (←Zer b j) a i (a.size-i) 0|return fin out i j
   na:=k
   if k>0 then
    out:=out ++ a.extract i (i+k);i:=i+k
    if i+1==a.size then return lst out i j
    if i==a.size then return fin out i j
   out:=out.push (←Zer b j);j:=j+1
   if j==b.size then return fin out i j
   let some k←Zh8 true (←Zer a i) b j (b.size-j) 0|return fin out i j
   nb:=k
   if k>0 then
    out:=out ++ b.extract j (j+k);j:=j+k
    if j==b.size then return fin out i j
   out:=out.push (←Zer a i);i:=i+1
   if i+1==a.size then return lst out i j
   if na<7&&nb<7 then break
  mg:=mg+1
  Zjw mg
 Zqm
section
variable {prog:X6}{w:Qv}{A:Qo}{E:Xc->Xe->Prop}{κ:By}{it:Array VB}{α β γ:Type}
theorem Zcg{φ:β->α}{x:String}{f:PUnit->StateT Bu Sem α}{t:TM β}(h:Sim prog w A E κ it φ (f ⟨⟩) t):Sim prog w A E κ it φ ((liftM (rule x):StateT Bu Sem PUnit)>>=f) t:=λu s Q h1=>kasC_bind (kasC_lift (wpAny_rule (h u s Q h1)))
theorem W4{φ:β->α}{c d:Prop}[Decidable c][Decidable d]{m n:StateT Bu Sem α}{t v:TM β}(e:c↔d)(h1:Sim prog w A E κ it φ m t)(h2:Sim prog w A E κ it φ n v):Sim prog w A E κ it φ (if c then m else n) (if d then t else v):=by
 by_cases q:d
 ·rw[if_pos q,if_pos (e.mpr q)];exact h1
 ·rw[if_neg q,if_neg λz=>q (e.mp z)];exact h2
theorem Zdx{φ:β->α}{f:Nat->α->StateT Bu Sem (ForInStep α)}{g:Nat->β->TM (ForInStep β)}{x y y':Nat}{a:α}{b:β}(ey:y'=y)(e:φ b=a)(h:∀x b,Sim prog w A E κ it (stM φ) (f x (φ b)) (g x b)):Sim prog w A E κ it φ (forIn [x:y'] a f) (forIn (Rg.mk x y) b g):=ey▸Zq7 e h
theorem Zna{le:Bool}{key:Nat}{arr:Array Nat}{base n n' hint:Nat}(e:n'=n):Sim prog w A E κ it _root_.id (Yah le (XJ it key) (arr.map (XJ it)) base n' hint) (Zh8 le key arr base n hint):=e▸Zgh
noncomputable def mpS(f:Nat->VB)(b:Option (Array Nat)×Array Nat×γ):Option (Array VB)×Array VB×γ:=(b.1.map (Ul f),b.2.1.map f,b.2.2)
theorem Ze1{g:Nat}:Sim prog w A E κ it _root_.id (Z9l g) (Zjw g):=Zdc λt=>rfl
theorem Yn{φ:β->α}{m:StateT Bu Sem (Option γ)}{t:TM (Option γ)}{f:Option γ->StateT Bu Sem α}{g:Option γ->TM β}(h:Sim prog w A E κ it _root_.id m t)(k0:Sim prog w A E κ it φ (f none) (g none))(k:∀c,Sim prog w A E κ it φ (f (some c)) (g (some c))):Sim prog w A E κ it φ (m>>=f) (t>>=g):=Zg h λo=>by
 cases o with
 | none=>exact k0
 | some c=>exact k c
theorem Z25{a b:Array Nat}:Sim prog w A E κ it (Ul (XJ it)) (Yax (a.map (XJ it)) (b.map (XJ it))) (Z7d a b):=by
 have sz:∀(a:Array Nat) (k:Nat),(k==(a.map (XJ it)).size)=true↔(k==a.size)=true:=λa k=>by rw[X8]
 have tot:(a.map (XJ it)).size+(b.map (XJ it)).size=a.size+b.size:=by rw[X8,X8]
 have m1:∀x,Ul (XJ it) #[x]=#[XJ it x]:=λx=>by simp
 unfold Z7d
 refine Zcg (Zg Wi λx0=>?_)
 refine W4 (sz _ _) (Zc (by simp only[XQ,XD,X8,m1])) (W4 (sz _ _) (Zc (by simp only[XQ,XD,X8,m1])) (Zg Za8 λt0=>?_))
 refine Zg (Zdx (φ:=mpS (XJ it)) tot (by simp only[mpS,m1];rfl) λx b=>?_) λr=>?_
 ·refine Zg (Zdx (φ:=mpS (XJ it)) tot rfl λx b=>?_) λr=>?_
  ·refine Zg Wi λx=>Zg Wi λy=>Yn Zj4 ?_ λc=>?_
   ·exact Zc (by simp only[stM,mpS,XQ,XD,X8,Qg])
   ·refine Zq (Zg Wi λz=>W4 (sz _ _) (Zc ?_) (Zq (Zc ?_) (Zc ?_))) (Zg Wi λz=>W4 (sz _ _) (Zc ?_) (Zq (Zc ?_) (Zc ?_)))<;>simp only[stM,mpS,Qw,XQ,XD,X8,Qg,Qq]
  ·obtain⟨r1,r2⟩:=r
   cases r1 with
   | some v=>exact Zc rfl
   | none=>
    refine Zcg (Zg (Zdx (φ:=mpS (XJ it)) tot rfl λx b=>?_) λr=>?_)
    ·refine Zq ?_ ?_<;>(
      refine Zg Ze1 λ_=>Zg Wi λy=>Yn (Zna (by rw[X8];rfl)) (Zc (by simp only[stM,mpS,Qw,XQ,XD,X8,Qg,Qq])) λk=>?_
      refine Zq (W4 (sz _ _) (Zc (by simp only[stM,mpS,Qw,XQ,XD,X8,Qg,Qq])) (W4 (sz _ _) (Zc (by simp only[stM,mpS,Qw,XQ,XD,X8,Qg,Qq])) ?_)) ?_<;>(
       refine Zg Wi λz=>W4 (sz _ _) (Zc (by simp only[stM,mpS,Qw,XQ,XD,X8,Qg,Qq])) (Zg Wi λy2=>Yn (Zna (by rw[X8];rfl)) (Zc (by simp only[stM,mpS,Qw,XQ,XD,X8,Qg,Qq])) λk2=>?_)
       refine Zq (W4 (sz _ _) (Zc (by simp only[stM,mpS,Qw,XQ,XD,X8,Qg,Qq])) ?_) ?_<;>(
        refine Zg Wi λz2=>W4 (sz _ _) (Zc (by simp only[stM,mpS,Qw,XQ,XD,X8,Qg,Qq])) (Zq (Zc (by simp only[stM,mpS,Qw,XQ,XD,X8,Qg,Qq])) (Zc (by simp only[stM,mpS,Qw,XQ,XD,X8,Qg,Qq]))))))
    ·obtain⟨r1,r2⟩:=r
     cases r1 with
     | some v=>exact Zc rfl
     | none=>exact Zg Ze1 λ_=>Zc rfl
 ·obtain⟨r1,r2⟩:=r
  cases r1 with
  | some v=>exact Zc rfl
  | none=>exact Zga
end
end L2
namespace L2
open PySem PySem.Spec PyProof.Rows PySem.W
noncomputable def Yau:Array VB->Array VB->StateT Bu Sem (Array VB):=sortPriv%PySem.Builtin.mergeHi
noncomputable def Z66(a b:Array Nat):TM (Array Nat):=do
 let total:=a.size+b.size
 let fin (out:Array Nat) (i j:Nat):=a.extract 0 i ++ b.extract 0 j ++ out.reverse
 let fst (out:Array Nat) (i j:Nat):=b.extract 0 j ++ a.extract 0 i ++ out.reverse
 let mut i:=a.size-1
 let mut j:=b.size
 let mut out:Array Nat:=#[←Zer a i]
 if i==0 then return fin out i j
 if j==1 then return fst out i j
 let mut mg:=(←Zgt).g
 for _ in Rg.mk 0 total do
  let mut na:=0
  let mut nb:=0
  for _ in Rg.mk 0 total do
   let some c←Z1l (←Zer b (j-1)) (←Zer a (i-1))|return fin out i j
   if c then
    i:=i-1;out:=out.push (←Zer a i);na:=na+1;nb:=0
    if i==0 then return fin out i j
    if na≥mg then break
   else
    j:=j-1;out:=out.push (←Zer b j);nb:=nb+1;na:=0
    if j==1 then return fst out i j
    if nb≥mg then break
  mg:=mg+1
  for _ in Rg.mk 0 total do
   if mg>1 then mg:=mg-1
   Zjw mg
   let some x←Zh8 false (←Zer b (j-1)) a 0 i (i-1)|return fin out i j
   let k:=i-x
   na:=k
   if k>0 then
    out:=out ++ (a.extract x i).reverse;i:=x
    if i==0 then return fin out i j
   j:=j-1;out:=out.push (←Zer b j)
   if j==1 then return fst out i j
   let some x←Zh8 true (←Zer a (i-1)) b 0 j (j-1)|return fin out i j
   let k:=j-x
   nb:=k
   if k>0 then
    out:=out ++ (b.extract x j).reverse;j:=x
    if j==1 then return fst out i j
    if j==0 then return fin out i j
   i:=i-1;out:=out.push (←Zer a i)
   if i==0 then return fin out i j
   if na<7&&nb<7 then break
  mg:=mg+1
  Zjw mg
 Zqm
section
variable {prog:X6}{w:Qv}{A:Qo}{E:Xc->Xe->Prop}{κ:By}{it:Array VB}{α β γ:Type}
noncomputable def mpH(f:Nat->VB)(b:Option (Array Nat)×Nat×Nat×Array Nat×γ):Option (Array VB)×Nat×Nat×Array VB×γ:=(b.1.map (Ul f),b.2.1,b.2.2.1,b.2.2.2.1.map f,b.2.2.2.2)
theorem Zys{a:Array Nat}{i j:Nat}(e:j=i):Sim prog w A E κ it (XJ it) (elem' (a.map (XJ it)) j) (Zer a i):=e▸Wi
theorem Z4v{a b:Array Nat}:Sim prog w A E κ it (Ul (XJ it)) (Yau (a.map (XJ it)) (b.map (XJ it))) (Z66 a b):=by
 have tot:(a.map (XJ it)).size+(b.map (XJ it)).size=a.size+b.size:=by rw[X8,X8]
 have m1:∀x,Ul (XJ it) #[x]=#[XJ it x]:=λx=>by simp
 unfold Z66
 refine Zcg (Zg (Zys (by rw[X8])) λx0=>?_)
 refine W4 (by rw[X8]) (Zc (by simp only[XQ,XD,QK,X8,m1])) (W4 (by rw[X8]) (Zc (by simp only[XQ,XD,QK,X8,m1])) (Zg Za8 λt0=>?_))
 refine Zg (Zdx (φ:=mpH (XJ it)) tot (by simp only[mpH,m1,X8];rfl) λx b=>?_) λr=>?_
 ·refine Zg (Zdx (φ:=mpH (XJ it)) tot rfl λx b=>?_) λr=>?_
  ·refine Zg Wi λx=>Zg Wi λy=>Yn Zj4 ?_ λc=>?_
   ·exact Zc (by simp only[stM,mpH,XQ,XD,QK,Qg])
   ·refine Zq (Zg Wi λz=>Zq (Zc ?_) (Zq (Zc ?_) (Zc ?_))) (Zg Wi λz=>Zq (Zc ?_) (Zq (Zc ?_) (Zc ?_)))<;>simp only[stM,mpH,Qw,XQ,XD,QK,Qg,Qq]
  ·obtain⟨r1,r2⟩:=r
   cases r1 with
   | some v=>exact Zc rfl
   | none=>
    refine Zcg (Zg (Zdx (φ:=mpH (XJ it)) tot rfl λx b=>?_) λr=>?_)
    ·refine Zq ?_ ?_<;>(
      refine Zg Ze1 λ_=>Zg Wi λy=>Yn Zgh (Zc (by simp only[stM,mpH,Qw,XQ,XD,QK,Qg,Qq])) λk=>?_
      refine Zq (Zq (Zc (by simp only[stM,mpH,Qw,XQ,XD,QK,Qg,Qq])) ?_) ?_<;>(
       refine Zg Wi λz=>Zq (Zc (by simp only[stM,mpH,Qw,XQ,XD,QK,Qg,Qq])) (Zg Wi λy2=>Yn Zgh (Zc (by simp only[stM,mpH,Qw,XQ,XD,QK,Qg,Qq])) λk2=>?_)
       refine Zq (Zq (Zc (by simp only[stM,mpH,Qw,XQ,XD,QK,Qg,Qq])) (Zq (Zc (by simp only[stM,mpH,Qw,XQ,XD,QK,Qg,Qq])) ?_)) ?_<;>(
        refine Zg Wi λz2=>Zq (Zc (by simp only[stM,mpH,Qw,XQ,XD,QK,Qg,Qq])) (Zq (Zc (by simp only[stM,mpH,Qw,XQ,XD,QK,Qg,Qq])) (Zc (by simp only[stM,mpH,Qw,XQ,XD,QK,Qg,Qq]))))))
    ·obtain⟨r1,r2⟩:=r
     cases r1 with
     | some v=>exact Zc rfl
     | none=>exact Zg Ze1 λ_=>Zc rfl
 ·obtain⟨r1,r2⟩:=r
  cases r1 with
  | some v=>exact Zc rfl
  | none=>exact Zga
end
end L2
namespace L2
open PySem PySem.Spec PyProof.Rows PySem.W
noncomputable def Zlv(i j:Nat):TM (Option Bool):=do
 let t←Zgt
 let x←Zer t.p i
 let y←Zer t.p j
 Z1l x y
noncomputable def Zra(i j:Nat):TM PUnit:=Zgc λt=>{ t with p:=kas_rev t.p i j }
noncomputable def mvL(l:List Nat)(i d:Nat):List Nat:=l.take (i-d) ++ ((l.drop i).take 1 ++ ((l.drop (i-d)).take d ++ l.drop (i+1)))
theorem Z0m{l:List Nat}{i d:Nat}(hi:i<l.length)(hd:d≤i)(k:Nat):(mvL l i d)[k]? =if k=i-d then l[i]? else if i-d<k∧k≤i then l[k-1]? else l[k]?:=by
 unfold mvL
 have l1:(l.take (i-d)).length=i-d:=by rw[Vb];omega
 have l2:((l.drop i).take 1).length=1:=by rw[Vb,JC];omega
 have l3:((l.drop (i-d)).take d).length=d:=by rw[Vb,JC];omega
 rw[Vo,Vo,Vo,l1,l2,l3]
 by_cases a:k<i-d
 ·rw[if_pos a,if_neg (by omega),if_neg (by omega),List.getElem?_take,if_pos a]
 rw[if_neg a]
 by_cases b:k=i-d
 ·rw[if_pos (by omega),if_pos b,List.getElem?_take,if_pos (by omega),Uq,show i+(k-(i-d))=i by omega]
 rw[if_neg (by omega),if_neg b]
 by_cases c:k≤i
 ·rw[if_pos (by omega),if_pos (by omega),List.getElem?_take,if_pos (by omega),Uq,show i-d+(k-(i-d)-1)=k-1 by omega]
 ·rw[if_neg (by omega),if_neg (by omega),Uq,show i+1+(k-(i-d)-1-d)=k by omega]
noncomputable def Z7g(p:Array Nat)(i j:Nat):Array Nat:=if(Nat.blt i p.toList.length&&Nat.ble j i)=true then⟨mvL p.toList i (i-j)⟩else bubble p i (i-j)
theorem Zzc(p:Array Nat)(i j:Nat):Z7g p i j=bubble p i (i-j):=by
 unfold Z7g
 by_cases c:(Nat.blt i p.toList.length&&Nat.ble j i)=true
 ·rw[if_pos c]
  rw[XC]at c
  have h1:i<p.size:=BP c.1
  have h2:j≤i:=BP c.2
  apply Array.ext_getElem?
  intro k
  rw[getElem?_bubble h1 (i-j) (by omega)]
  have:=Z0m (l:=p.toList) h1 (show i-j≤i by omega) k
  simp only[Q5]at this
  rw[←this,←Q5]
 ·rw[if_neg c]
noncomputable def Z4p(i j:Nat):TM PUnit:=Zgc λt=>{ t with p:=Z7g t.p i j }
noncomputable def Zx9(lo m:Nat):TM (Option Nat):=do
 let mut n:=1
 for _ in Rg.mk 1 m do
  let some c←Zlv (lo+n) (lo+n-1)|return none
  if c then break
  n:=n+1
 if n==m then return some n
 if n>1 then
  let some c←Zlv lo (lo+n-1)|return none
  if c then return some n
  Zra lo (lo+n)
 n:=n+1
 let mut e:=0
 for _ in Rg.mk n m do
  let some c←Zlv (lo+n) (lo+n-1)|return none
  if c then
   if e>0 then Zra (lo+n-(e+1)) (lo+n)
   e:=0
  else
   let some d←Zlv (lo+n-1) (lo+n)|return none
   if d then break
   e:=e+1
  n:=n+1
 if e>0 then Zra (lo+n-(e+1)) (lo+n)
 Zra lo (lo+n)
 for _ in Rg.mk n m do
  let some c←Zlv (lo+n) (lo+n-1)|return none
  if c then break
  n:=n+1
 return some n
noncomputable def Z07(lo n ok:Nat):TM Bool:=do
 for k in Rg.mk (max ok 1) n do
  let mut l:=0
  let mut r:=k
  for _ in Rg.mk 0 k do
   if l≥r then break
   let m:=(l+r)/2
   let some c←Zlv (lo+k) (lo+m)|return false
   if c then r:=m else l:=m+1
  Z4p (lo+k) (lo+l)
 return true
section
variable {prog:X6}{w:Qv}{A:Qo}{E:Xc->Xe->Prop}{κ:By}{it:Array VB}{α β γ:Type}
theorem Zeb{i j:Nat}:Sim prog w A E κ it _root_.id (ltAt' i j) (Zlv i j):=Zg Za8 λt=>Zg Wi λx=>Zg Wi λy=>Zj4
theorem Zim{i j:Nat}:Sim prog w A E κ it _root_.id (reverseSlice' i j) (Zra i j):=by
 rw[reverseSlice'_eq]
 exact Zdc λt=>by
  show Bv κ (mirror (t.p.map (XJ it)) i j ((j-i)/2)) t.q t.g none=Bv κ ((mirror t.p i j ((j-i)/2)).map (XJ it)) t.q t.g none
  rw[show mirror (t.p.map (XJ it)) i j ((j-i)/2)=(mirror t.p i j ((j-i)/2)).map (XJ it)from kas_swaps_map (XJ it) (λk=>i+k) (λk=>j-1-k) _ t.p]
theorem Z1e{i j:Nat}:Sim prog w A E κ it _root_.id (moveDown' i j) (Z4p i j):=by
 rw[moveDown'_eq]
 exact Zdc λt=>by
  show Bv κ (bubble (t.p.map (XJ it)) i (i-j)) t.q t.g none=Bv κ ((Z7g t.p i j).map (XJ it)) t.q t.g none
  rw[Zzc]
  rw[show bubble (t.p.map (XJ it)) i (i-j)=(bubble t.p i (i-j)).map (XJ it)from kas_swaps_map (XJ it) (λk=>i-k) (λk=>i-k-1) _ t.p]
theorem Zwy{lo m:Nat}:Sim prog w A E κ it _root_.id (countRun' lo m) (Zx9 lo m):=by
 unfold Zx9
 refine Zg (Zbk (φ:=_root_.id) rfl λx b=>Yn Zeb (Zc rfl) λc=>Zq (Zc rfl) (Zc rfl)) λr=>?_
 obtain⟨r1,n⟩:=r
 cases r1 with
 | some v=>exact Zc rfl
 | none=>
  refine Zq (Zc rfl) (Zq (Yn Zeb (Zc rfl) λc=>Zq (Zc rfl) (Zg Zim λ_=>?_)) ?_)<;>(
   refine Zcg (Zg (Zbk (φ:=_root_.id) rfl λx b=>Yn Zeb (Zc rfl) λc=>Zq (Zq (Zg Zim λ_=>Zc rfl) (Zc rfl)) (Yn Zeb (Zc rfl) λd=>Zq (Zc rfl) (Zc rfl))) λr=>?_)
   obtain⟨r1,n,e⟩:=r
   cases r1 with
   | some v=>exact Zc rfl
   | none=>
    refine Zq (Zg Zim λ_=>?_) ?_<;>(
     refine Zg Zim λ_=>Zg (Zbk (φ:=_root_.id) rfl λx b=>Yn Zeb (Zc rfl) λc=>Zq (Zc rfl) (Zc rfl)) λr=>?_
     obtain⟨r1,n⟩:=r
     cases r1 with
     | some v=>exact Zc rfl
     | none=>exact Zc rfl))
theorem Zxy{lo n ok:Nat}:Sim prog w A E κ it _root_.id (binarySort' lo n ok) (Z07 lo n ok):=by
 unfold Z07
 refine Zg (Zbk (φ:=_root_.id) rfl λk b=>?_) λr=>?_
 ·refine Zg (Zbk (φ:=_root_.id) rfl λx b=>Zq (Zc rfl) (Yn Zeb (Zc rfl) λc=>Zq (Zc rfl) (Zc rfl))) λr=>?_
  obtain⟨r1,l,m⟩:=r
  cases r1 with
  | some v=>exact Zc rfl
  | none=>exact Zg Z1e λ_=>Zc rfl
 ·obtain⟨r1,r2⟩:=r
  cases r1 with
  | some v=>exact Zc rfl
  | none=>exact Zc rfl
end
end L2
namespace L2
open PySem PySem.Spec PyProof.Rows PySem.W
noncomputable def layA{γ:Type}(k:Nat)(m a:Array γ):Array γ:=m.toList.zipIdx.foldl (λa q=>a.setIfInBounds (k+q.2) q.1) a
noncomputable def Z6x(i:Nat):TM Bool:=do
 let t←Zgt
 let(some (c,n,u),some (d,m,_)):=(t.q[i]?,t.q[i+1]?)|Zqm
 Zgc λ_=>{ t with q:=(t.q.setIfInBounds i (c,n+m,u)).eraseIdxIfInBounds (i+1) }
 let some k←Zh8 false (←Zer t.p d) t.p c n 0|return false
 let(c,n):=(c+k,n-k)
 if n==0 then return true
 let some m←Zh8 true (←Zer t.p (c+n-1)) t.p d m (m-1)|return false
 if m==0 then return true
 let x:=t.p.extract c d
 let y:=t.p.extract d (d+m)
 let z←if n≤m then Z7d x y else Z66 x y
 Zgc λt=>{ t with p:=layA c z t.p }
 let _←Zgt
 return true
section
variable {prog:X6}{w:Qv}{A:Qo}{E:Xc->Xe->Prop}{κ:By}{it:Array VB}{α β γ:Type}
theorem Zx7{a:Bu}{t:TmS}(h:toS κ it t=a):Sim prog w A E κ it _root_.id (set a:StateT Bu Sem PUnit) (Zgc λ_=>t):=λu s Q h1=>by
 unfold Zgc at h1
 rw[Zwn]at h1
 obtain⟨r,e,h2⟩:=h1
 cases e
 unfold kasC
 rw[StateT.run_set,←h]
 exact Qc h2
theorem Zy9{α β:Type}(f:α->β)(xs:Array α)(i:Nat)(v:α):(xs.map f).setIfInBounds i (f v)=(xs.setIfInBounds i v).map f:=by
 apply Array.ext_getElem?
 intro k
 rw[Array.getElem?_map,Array.getElem?_setIfInBounds,Array.getElem?_setIfInBounds,X8]
 split
 ·split<;>rfl
 ·rw[Array.getElem?_map]
theorem Zu7{α β:Type}(f:α->β)(k:Nat)(m a:Array α):layA k (m.map f) (a.map f)=(layA k m a).map f:=by
 unfold layA
 rw[Array.toList_map,List.zipIdx_map,List.foldl_map]
 generalize m.toList.zipIdx=l
 induction l generalizing a with
 | nil=>rfl
 | cons q l ih=>
  rw[List.foldl_cons,List.foldl_cons]
  show List.foldl _ ((a.map f).setIfInBounds (k+q.2) (f q.1)) l=_
  rw[Zy9]
  exact ih _
theorem Z0n{a b:Array Nat}{c d:Array VB}(e:c=a.map (XJ it))(e':d=b.map (XJ it)):Sim prog w A E κ it (Ul (XJ it)) (Yax c d) (Z7d a b):=e▸e'▸Z25
theorem Zxa{a b:Array Nat}{c d:Array VB}(e:c=a.map (XJ it))(e':d=b.map (XJ it)):Sim prog w A E κ it (Ul (XJ it)) (Yau c d) (Z66 a b):=e▸e'▸Z4v
theorem Zvz{i:Nat}:Sim prog w A E κ it _root_.id (mergeAt' i) (Z6x i):=by
 unfold Z6x
 refine Zg Za8 λt=>?_
 have e1:(V3 (toS κ it t))[i]? =t.q[i]?:=rfl
 have e2:(V3 (toS κ it t))[i+1]? =t.q[i+1]?:=rfl
 generalize(V3 (toS κ it t))[i]? =o1 at e1⊢
 generalize(V3 (toS κ it t))[i+1]? =o2 at e2⊢
 subst e1 e2
 cases t.q[i]? with
 | none=>exact Zga
 | some x=>
  cases t.q[i+1]? with
  | none=>exact Zga
  | some y=>
   obtain⟨c,n,u⟩:=x
   obtain⟨d,m,v⟩:=y
   refine Zg (Zx7 rfl) λ_=>Zg Wi λx=>Yn Zgh (Zc rfl) λk=>Zq (Zc rfl) (Zg Wi λy=>Yn Zgh (Zc rfl) λm=>Zq (Zc rfl) ?_)
   have ex:∀i j,(t.p.map (XJ it)).extract i j=(t.p.extract i j).map (XJ it):=λi j=>by rw[XD]
   refine Zq (Zg (Z0n (ex _ _) (ex _ _)) λz=>?_) (Zg (Zxa (ex _ _) (ex _ _)) λz=>?_)<;>(
    refine Zg (Zdc λt=>?_) λ_=>Zg Za8 λt=>Zc rfl
    show Bv κ (layA (c+k) (z.map (XJ it)) (t.p.map (XJ it))) t.q t.g none=Bv κ ((layA (c+k) z t.p).map (XJ it)) t.q t.g none
    rw[Zu7])
noncomputable def Zpv:TM PUnit:=do
 let sz:=(←Zgt).p.size
 let mr:=minRun' sz sz 0
 let mut lo:=0
 for _ in Rg.mk 0 sz do
  if lo≥sz then break
  let some f←Zx9 lo (sz-lo)|return
  let mut n:=f
  if n<mr then
   let fo:=min (sz-lo) mr
   if !(←Z07 lo fo n)then return
   n:=fo
  if let some (c,m,_):=(←Zgt).q.back? then
   let u:=power' sz (2*c+m) (2*c+m+m+n) sz
   for _ in Rg.mk 0 sz do
    let z:=(←Zgt).q
    let some (_,_,v):=(if z.size>1 then z[z.size-2]? else none)|break
    if v≤u then break
    if !(←Z6x (z.size-2))then return
   Zgc λt=>{ t with q:=t.q.modify (t.q.size-1) λ(c,m,_)=>(c,m,u) }
  Zgc λt=>{ t with q:=t.q.push (lo,n,0) }
  lo:=lo+n
 for _ in Rg.mk 0 sz do
  let z:=(←Zgt).q
  if z.size≤1 then break
  let k:=z.size-2
  let bf:=if k>0 then z[k-1]?.map (·.2.1)else none
  let k:=if bf.any (·<(z[k+1]?.elim 0 (·.2.1)))then k-1 else k
  if !(←Z6x k)then return
theorem Zta:Sim prog w A E κ it _root_.id sortRuns' Zpv:=by
 rw[sortRuns'_eq]
 unfold Zpv
 refine Zg Za8 λt=>?_
 have sz:(arrOf (toS κ it t)).size=t.p.size:=X8 ..
 generalize(arrOf (toS κ it t)).size=n1 at sz⊢
 subst sz
 refine Zg (Zbk (φ:=_root_.id) rfl λx b=>?_) λr=>?_
 ·refine Zq (Zc rfl) (Yn Zwy (Zc rfl) λf=>?_)
  refine Zq (Zcg (Zg Zxy λc=>Zq (Zc rfl) ?_)) ?_<;>(
   refine Zg Za8 λt2=>?_
   have e1:(V3 (toS κ it t2)).back? =t2.q.back?:=rfl
   generalize(V3 (toS κ it t2)).back? =o1 at e1⊢
   subst e1
   cases t2.q.back? with
   | none=>exact Zg (Zdc λt=>rfl) λ_=>Zc rfl
   | some y=>
    obtain⟨c,m,v⟩:=y
    refine Zg (Zbk (φ:=_root_.id) rfl λx b=>?_) λr=>?_
    ·refine Zg Za8 λt3=>?_
     have e1:V3 (toS κ it t3)=t3.q:=rfl
     generalize V3 (toS κ it t3)=z at e1⊢
     subst e1
     show Sim prog w A E κ it _ (match(if t3.q.size>1 then t3.q[t3.q.size-2]? else none)with|some (_,_,_)=>_|_=>_) (match(if t3.q.size>1 then t3.q[t3.q.size-2]? else none)with|some (_,_,_)=>_|_=>_)
     generalize(if t3.q.size>1 then t3.q[t3.q.size-2]? else none)=o
     cases o with
     | none=>exact Zc rfl
     | some y=>
      obtain⟨_,_,v⟩:=y
      exact Zq (Zc rfl) (Zg Zvz λc=>Zq (Zc rfl) (Zc rfl))
    ·obtain⟨r1,r2⟩:=r
     cases r1 with
     | some v=>exact Zc rfl
     | none=>exact Zg (Zdc λt=>rfl) λ_=>Zg (Zdc λt=>rfl) λ_=>Zc rfl)
 ·obtain⟨r1,lo⟩:=r
  cases r1 with
  | some v=>exact Zc rfl
  | none=>
   refine Zg (Zbk (φ:=_root_.id) rfl λx b=>?_) λr=>?_
   ·refine Zg Za8 λt3=>?_
    have e1:V3 (toS κ it t3)=t3.q:=rfl
    generalize V3 (toS κ it t3)=z at e1⊢
    subst e1
    exact Zq (Zc rfl) (Zg Zvz λc=>Zq (Zc rfl) (Zc rfl))
   ·obtain⟨r1,r2⟩:=r
    cases r1 with
    | some v=>exact Zc rfl
    | none=>exact Zc rfl
end
end L2
namespace L2
open PySem PySem.Spec PyProof.Rows PySem.W
noncomputable def Z7h{α:Type}(lt:Nat->Nat->Bool)(n:Nat):KasT α->Option α
 | .ret a=>some a
 | .ask i j k=>if(Nat.blt i n&&Nat.blt j n)=true then Z7h lt n (k (lt i j))else none
theorem Z0j{α:Type}{lt:Nat->Nat->Bool}{n:Nat}{cmp:Nat->Nat->(Bool->Xe->Prop)->Xe->Prop}{s:Xe}{Q:α->Xe->Prop}(hc:∀i j C,i<n->j<n->C (lt i j) s->cmp i j C s){t:KasT α}{a:α}(h:Z7h lt n t=some a)(q:Q a s):t.kasWp cmp Q s:=by
 induction t with
 | ret b=>cases h;exact q
 | ask i j k ih=>
  rw[Z7h]at h
  split at h
  ·rename_i c
   rw[XC]at c
   exact hc i j _ (BP c.1) (BP c.2) (ih _ h)
  ·cases h
noncomputable def Zn6(lt:Nat->Nat->Bool)(n:Nat):Option (List Nat):=(Z7h lt n (Zpv ⟨(Xr n).toArray,#[],7⟩)).bind λo=>o.map λr=>r.2.p.toList
noncomputable def Zmb{α:Type}(d:α)(l:List Nat)(vs:List α):List α:=l.map λi=>vs.getD i d
section
variable {prog:X6}{w:Qv}{A:Qo}{E:Xc->Xe->Prop}{s:Xe}
theorem Znq{κ:By}{lt:Nat->Nat->Bool}{h0:Heap}{a:Addr}{vs:List Xc}{n:Nat}{P:PySem.Fin->Xe->Prop}{l:List Nat}(ho:s.heap.get? a=some (QZ "list" vs.toArray n))
  (k0:∀b o,h0.get? b=some o->s.heap.get? b=some o) (ha0:h0.get? a=none) (h2:2≤vs.length) (hz:vs.length≤10000) (hl:Zn6 lt vs.length=some l) (hp:l.length=vs.length)
  (hk:∀s':Xe,(∀b o,h0.get? b=some o->s'.heap.get? b=some o)->∀Q:By->Xe->Prop,Q κ s'->X5 (Qd prog w) A (keyKind' vs.toArray) Q E s')
  (hc:∀s':Xe,(∀b o,h0.get? b=some o->s'.heap.get? b=some o)->∀i j C,i<vs.length->j<vs.length->C (lt i j) s'->kas_ask prog w A κ vs i j C s')
  (h:P (.done (.ret .none)) { s with heap:=sortedHeap s.heap a vs (JV (Zmb QF l vs)) }):X5 (Qd prog w) A (Builtin.«list.sort» ⟨[.ref a],[]⟩) P E s:=by
 have ha:a<s.heap.objs.size:=Xw ho
 obtain⟨e1,ho1⟩:∃e1,(s.heap.update a (QB λ_=>(#[]:Array Xc))).get? a=some (QZ "list" #[] e1):=⟨_,get?_update_seq ho λ_=>#[]⟩
 have ho6:(((s.heap.update a (QB λ_=>(#[]:Array Xc))).push (QZ "tuple" vs.toArray 0)).push (QZ "list" #[] 0)).get? a=some (QZ "list" #[] e1):=Xl _ (Xl _ ho1)
 have k6:∀b o,h0.get? b=some o->(((s.heap.update a (QB λ_=>(#[]:Array Xc))).push (QZ "tuple" vs.toArray 0)).push (QZ "list" #[] 0)).get? b=some o:=λb o e=>by
  refine Xl _ (Xl _ ?_)
  rw[Ui _ _ _ _ (λq=>by rw[q,ha0]at e;cases e)]
  exact k0 b o e
 rw[list_sort_plain]
 refine Xf (listItems_at ho rfl ?_)
 refine Xf (listUpdate_at ho rfl ?_ (by rw[Xx,X7];omega) (QQ _))
 refine Xf (seqEpoch_at ho1 rfl ?_)
 refine Xf (wpAny_newTuple ?_ (by show vs.length≤_;rw[X7];omega))
 refine Xf (wpAny_newList ?_ (QQ _))
 refine VH ?_
 show X5 (Qd prog w) A _ P E { s with heap:=((s.heap.update a (QB λ_=>(#[]:Array Xc))).push (QZ "tuple" vs.toArray 0)).push (QZ "list" #[] 0) }
 dsimp only
 have hs:vs.toArray.size=vs.length:=Xx ..
 have n2:¬vs.toArray.size<2:=by omega
 rw[if_neg n2,if_neg n2]
 refine Xf (hk _ k6 _ ?_)
 have est:Bv κ (vs.toArray.zip vs.toArray) #[] 7 none=toS κ (VM vs) ⟨(Xr vs.length).toArray,#[],7⟩:=by
  have e:=kas_range (VM vs)
  rw[pairsOf_size]at e
  show Bv κ (VM vs) #[] 7 none=Bv κ ((JV (Xr vs.length)).map (XJ (VM vs))) #[] 7 none
  rw[e]
 obtain⟨o,eo,hl⟩:=Option.bind_eq_some_iff.mp hl
 obtain⟨r0,er,hq⟩:=Option.map_eq_some_iff.mp hl
 subst er
 have run:=Zta (prog:=prog) (w:=w) (A:=A) (E:=E) (κ:=κ) (it:=VM vs) ⟨(Xr vs.length).toArray,#[],7⟩ { s with heap:=((s.heap.update a (QB λ_=>(#[]:Array Xc))).push (QZ "tuple" vs.toArray 0)).push (QZ "list" #[] 0) }
  (λ_ st' s'=>arrOf st'=r0.2.p.map (XJ (VM vs))∧failedOf st'=none∧s'={ s with heap:=((s.heap.update a (QB λ_=>(#[]:Array Xc))).push (QZ "tuple" vs.toArray 0)).push (QZ "list" #[] 0) })
  (Z0j (λi j C hi hj hC=>by
   have:=hc _ k6 i j C hi hj hC
   rw[kas_ask_eq]at this
   exact this) eo ⟨r0,rfl,rfl,rfl,rfl⟩)
 rw[←est]at run
 refine Xf (Bs run ?_ λ_ _ e=>e)
 intro r s' z
 obtain⟨har,hf,rfl⟩:=z
 have hout:(arrOf r.2).map (·.2)=JV (Zmb QF l vs):=by
  apply Array.toList_inj.mp
  rw[har,Array.map_map,Array.toList_map,←hq]
  exact Xv λi _=>by show(XJ (VM vs) i).2=_;rw[kas_item_eq]
 rw[hout]
 refine Xf (seqEpoch_at ho6 rfl ?_)
 refine Xf (listUpdate_at ho6 rfl ?_ (QQ _) (by rw[Xx,Zmb,Xg,hp,X7];omega))
 rw[hf]
 simp only[bne_self_eq_false,BJ,if_false]
 exact Qc h
theorem Zw6{κ:By}{lt:Nat->Nat->Bool}{l:Addr}{vs:List Xc}{p:List Nat}{Q:Xc->Xe->Prop}(hl:s.heap.IsList l vs.toArray)(h2:2≤vs.length)(hz:vs.length≤10000)(ho:Zn6 lt vs.length=some p)(hp:p.length=vs.length)
  (hk:∀s':Xe,(∀b o,s.heap.get? b=some o->s'.heap.get? b=some o)->∀Q:By->Xe->Prop,Q κ s'->X5 (Qd prog w) A.in1.in1 (keyKind' vs.toArray) Q E s')
  (hc:∀s':Xe,(∀b o,s.heap.get? b=some o->s'.heap.get? b=some o)->∀i j C,i<vs.length->j<vs.length->C (lt i j) s'->kas_ask prog w A.in1.in1 κ vs i j C s')
  (h:Q (.ref (s.heap.objs.size+1)) { s with heap:=sortedAll s.heap vs (JV (Zmb QF p vs)) }):X5 (Qd prog w) A (call (.builtin "sorted") [.ref l]) Q E s:=by
 refine Calls.call_function_entry kind_sorted plain_sorted entry_sorted (args_sorted1 _) ?_
 unfold Builtin.«sorted»
 refine Xf (m:=checkCount "sorted" 1 1 _) (Qc ?_)
 refine Xf (collect_list hl ?_ (by rw[X7];omega))
 refine Xf (wpAny_newList ?_ (by rw[X7];omega))
 have hsz:((s.heap.push (QZ "list" #[] 0)).update s.heap.objs.size (QB (· ++ vs.toArray))).objs.size=s.heap.objs.size+1:=by
  rw[Heap.size_update,size_push']
 have hoL:(((s.heap.push (QZ "list" #[] 0)).update s.heap.objs.size (QB (· ++ vs.toArray))).push (QZ "list" vs.toArray 0)).get? (s.heap.objs.size+1)=some (QZ "list" vs.toArray 0):=by
  rw[←hsz];exact Qi _ rfl
 have keep:∀b o,s.heap.get? b=some o->(((s.heap.push (QZ "list" #[] 0)).update s.heap.objs.size (QB (· ++ vs.toArray))).push (QZ "list" vs.toArray 0)).get? b=some o:=λb o q=>by
  have hlt:b<s.heap.objs.size:=Xw q
  rw[UV _ _ _ (by rw[hsz];exact Xp (U3 hlt)),Ui _ _ _ _ (Xp hlt),UV _ _ _ (Xp hlt)]
  exact q
 show X5 _ _ _ _ _ { s with heap:=((s.heap.push (QZ "list" #[] 0)).update s.heap.objs.size (QB (· ++ vs.toArray))).push (QZ "list" vs.toArray 0) }
 rw[hsz]
 refine Xf (VH (Vy slot_list_sort ⟨_,hoL,rfl⟩ entry_list_sort (Znq (h0:=s.heap) hoL keep (Heap.get?_none_of_le (Nat.le_succ _)) h2 hz ho hp hk hc ⟨_,rfl,?_⟩) (args_list_sort _)))
 exact Qc ⟨_,rfl,h⟩
end
variable {G:Xb}
theorem Zq6{p:List Nat}{xs:List V}{us:List Xc}(h:Vals xs us):Vals (Zmb .non p xs) (Zmb .none p us):=by
 unfold Zmb
 induction p with
 | nil=>exact .nil
 | cons i l ih=>
  refine .cons ?_ ih
  show RelV (xs.getD i V.non) (us.getD i QF)
  rw[Xd,Xd]
  cases e:xs[i]? with
  | some x=>
   obtain⟨u,e',r⟩:=h.get e
   rw[e'];exact r
  | none=>
   have:us[i]? =none:=JH (by rw[←h.length];exact QG.mp e)
   rw[this];exact rfl
noncomputable def Zvt{α:Type}(kd:Xa->Option α)(lt:α->α->Bool)(K:Xb):List V->Hp->VK->Prop:=λxs H Q=>∃(a:Addr) (vs:List V) (L:Addr->Prop) (es:List Xa) (p:List Nat),xs=[.ref a]∧SqL K H a vs∧Das K H L vs es∧2≤vs.length∧vs.length≤10000∧Zn6 (lk kd lt es) vs.length=some p∧p.length=vs.length∧keyed kd es∧∀l,H l=none->Q (.ref l) (upd H l (.lst (Zmb .non p vs)))
section
variable {X:Cx}{α:Type}{kd:Xa->Option α}{lt:α->α->Bool}
theorem Zn5{K:Xb}(S:Z1s kd lt)(hK:X.K=K)(hu:X.A.units+64<cLine):Zbo X (.builtin "sorted") (Zvt kd lt K):=by
 subst hK
 intro pins s σ H xs us Q I r h
 obtain⟨l,vs,L,es,p,rfl,hs,hd,h2,hz0,ho,hp,hk,q⟩:=h
 obtain⟨u,rfl,ru⟩:=vals1 r
 cases(show u=QS l from ru)
 obtain⟨its,rv,pl,hz⟩:=I.list hs
 have hl:=rv.length
 obtain⟨as,ra⟩:=hd.reads rfl I rv (Zha λd m=>by obtain⟨k,e⟩:=hk d m;exact S.lay d k e)
 obtain⟨κ,S1,S2⟩:=S.run
 obtain⟨z1,z2⟩:=readsAll_get ra
 rw[hl]at h2 hz0 ho hp
 refine Zw6 (κ:=κ) (lt:=lk kd lt es) pl.isList h2 hz0 ho hp (λs' k Q q=>S1 _ _ _ _ s' _ es as Q h2 (ReadsAll.keeps k ra) hk q) (λs' k i j C hi hj hc=>?_) ?_
 ·rw[z1]at hi hj
  obtain⟨v,b1,e1,r1⟩:=z2 i _ (Xh hi)
  obtain⟨w,b2,e2,r2⟩:=z2 j _ (Xh hj)
  obtain⟨k1,q1⟩:=hk _ (JM hi)
  obtain⟨k2,q2⟩:=hk _ (JM hj)
  have ek:lk kd lt es i j=lt k1 k2:=by
   unfold lk
   rw[Xd,Xd,Xh hi,Xh hj]
   show((kd es[i]).bind λa=>(kd es[j]).map λb=>lt a b).getD false=_
   rw[q1,q2];rfl
  rw[ek]at hc
  unfold kas_ask
  rw[Xd,Xd,e1,e2]
  exact S2 _ _ _ _ s' v w _ _ _ _ k1 k2 C (show X.A.units+1+1+32<cLine by omega) (Reads.keeps k r1) (Reads.keeps k r2) q1 q2 hc
 ·obtain⟨e,he⟩:=sortedAll_at s.heap its (JV (Zmb QF p its))
  refine⟨.ref (s.heap.objs.size+1),_,I.laid (t':=s.toks) (o:=.lst (Zmb .non p vs)) (λb ob q=>sortedAll_old q) (by omega) ⟨?_,Zmb QF p its,e,Zq6 rv,he⟩,rfl,q _ (I.hok.fresh (by omega))⟩
  rw[Zmb,Xg,hp,X7];omega
theorem Zol{K:Xb}(S:Z1s kd lt)(hK:X.K=K)(hu:X.A.units+64<cLine):Zbo X (.builtin "sorted") (λxs H Q=>Zpb kd lt K xs H Q∨Zvt kd lt K xs H Q):=by
 intro pins s σ H xs us Q I r h
 rcases h with h|h
 ·exact Zg2 S hK hu pins s σ H xs us Q I r h
 ·exact Zn5 S hK hu pins s σ H xs us Q I r h
noncomputable def Z2z(kd:Xa->Option α)(lt:α->α->Bool):List Xa->Option OT:=λds=>match ds with
 | [.list es]=>(Zn6 (lk kd lt es) es.length).bind λp=>if(decide (2≤es.length)&&decide (es.length≤10000)&&decide (p.length=es.length)&&es.all λd=>(kd d).isSome)=true then some (.nd ((Zmb .none p es).map OT.fz))else none
 | _=>none
noncomputable def Ya0(kd:Xa->Option α)(lt:α->α->Bool):List Xa->Option OT:=λds=>match Zjo kd lt ds with|some o=>some o|none=>Z2z kd lt ds
end
end L2
namespace L2
open PySem PySem.Spec PyProof.Rows
variable {G:Xb}
section
variable {X:Cx}{io:List Nat}{p c:Bool}{e tg:Expr}{m:MEt}
noncomputable def Z3y(z:Str):List Xa:=z.cps.toList.map λc=>.str ⟨#[c]⟩
noncomputable def iS(m:MEt):MIt:=λδ K=>m δ λr δ'=>match r.data with| .str z=>K (Z3y z) δ'|_=>False
end
variable {G:Xb}
noncomputable def Sg(z:Str)(t:Tok)(it:Addr)(i:Nat)(h:Heap):Prop:=h.IsStrIter it "str_ascii_iterator" z t i∨h.IsStrIter it "str_iterator" z t i
section
variable {P:X6}{w:Qv}{A:Qo}{E:Xc->Xe->Prop}{s:Xe}
structure Ap(z TI TO i1 i2:Addr):Prop where
 a1:TI≠z
 a2:TO≠z
 a3:i1≠z
 a4:i2≠z
 a5:i1≠TO
 a6:i2≠TO
 a7:i1≠i2
 a8:TI≠TO
 a9:TI≠i1
 a10:TI≠i2
noncomputable abbrev yT1(h:Heap)(x:Str)(t:Tok):Heap:=h.push { cls:=.type (strIterType x),data:=.fields #[.str x t,.int 0 0] }
noncomputable abbrev yT2(h:Heap)(x y:Str)(t u:Tok):Heap:=yT1 (yT1 h x t) y u
noncomputable abbrev yT3(h:Heap)(x y:Str)(t u:Tok):Heap:=(yT2 h x y t u).push { cls:=.type "tuple",data:=.seq #[.ref h.objs.size,.ref (yT1 h x t).objs.size] }
noncomputable abbrev yT4(h:Heap)(x y:Str)(t u:Tok):Heap:=(yT3 h x y t u).push { cls:=.type "tuple",data:=.seq #[.none,.none] }
noncomputable abbrev yT5(h:Heap)(x y:Str)(t u:Tok):Heap:=(yT4 h x y t u).push { cls:=.type "zip",data:=.fields #[.none,.bool false,.bool false,.ref (yT2 h x y t u).objs.size,.ref (yT3 h x y t u).objs.size] }
theorem Sg.at{h:Heap}{x:Str}{t:Tok}{it:Addr}(e:h.get? it=some { cls:=.type (strIterType x),data:=.fields #[.str x t,.int 0 0] }):Sg x t it 0 h:=by
 unfold strIterType at e
 split at e
 ·exact .inl ⟨_,e,rfl,rfl⟩
 ·exact .inr ⟨_,e,rfl,rfl⟩
end
section
variable {X:Cx}{io:List Nat}{p c:Bool}{a b:Expr}{mr:MAt}{ra:FA}
end
end L2
namespace L2
open PySem PySem.Spec
noncomputable def EvP(e:FE)(δ:Zf)(Q:Xa->Zf->Prop):Prop:=∃t δ',e δ=some (t,δ')∧Q t.data δ'
noncomputable def EpA(a:FA)(δ:Zf)(Q:List Xa->Zf->Prop):Prop:=∃ts δ',a δ=some (ts,δ')∧Q (OT.datas ts) δ'
noncomputable def EpT(t:FT)(δ:Zf)(Q:Bool->Zf->Prop):Prop:=∃b δ',t δ=some (b,δ')∧Q b δ'
noncomputable def EpS(S:FS)(δ:Zf)(N:Zf->Prop)(R:Xa->Zf->Prop):Prop:=(∃δ',S δ= .nx δ'∧N δ')∨∃o δ',S δ= .rt o δ'∧R o.data δ'
noncomputable def ToldI(F:FIO)(t:OT)(ds:List Xa)(Q:Xa->OT->Prop):Prop:=∃r t',F t ds=some (r,t')∧Q r.data t'
section
variable {e a b:FE}{as:FA}{δ:Zf}{Q:Xa->Zf->Prop}{QA:List Xa->Zf->Prop}{T:Bool->Zf->Prop}{t u:FT}{S S':FS}{N:Zf->Prop}{R:Xa->Zf->Prop}{i:Nat}{d:Xa}
theorem Y9(h:EvV e δ d)(q:Q d δ):EvP e δ Q:=by
 obtain⟨t,e1,e2⟩:=h
 exact⟨t,δ,e1,e2▸q⟩
theorem Zd4{g:Xa->Xa->Option Xa}(h:EvP a δ λx δ1=>EvP b δ1 λy δ2=>∃d,g x y=some d∧Q d δ2):EvP (Zh g a b) δ Q:=by
 obtain⟨t,δ1,e1,t2,δ2,e2,d,e3,q⟩:=h
 exact⟨.fz d,δ2,by rw[Zmx,e1];show(b δ1).bind _=_;rw[e2];show(g _ _).bind _=_;rw[e3];rfl,by rw[OT.data_fz];exact q⟩
theorem Zms{g:Xa->Xa->Option OT}(h:EvP a δ λx δ1=>EvP b δ1 λy δ2=>∃o,g x y=some o∧Q o.data δ2):EvP (Z3 g a b) δ Q:=by
 obtain⟨t,δ1,e1,t2,δ2,e2,d,e3,q⟩:=h
 exact⟨d,δ2,by rw[Zl1,e1];show(b δ1).bind _=_;rw[e2];show(g _ _).bind _=_;rw[e3];rfl,q⟩
theorem Zc3(q:QA [] δ):EpA Zr δ QA:=⟨[],δ,rfl,by rw[Zdl];exact q⟩
theorem Za9(h:EvP e δ λd δ1=>EpA as δ1 λds δ2=>QA (d :: ds) δ2):EpA (Zd e as) δ QA:=by
 obtain⟨t,δ1,e1,ts,δ2,e2,q⟩:=h
 exact⟨t :: ts,δ2,by rw[Ze9,e1];show(as δ1).bind _=_;rw[e2];rfl,by rw[Zcf];exact q⟩
theorem Zh4{ds:List Xa}(h:EvA as δ ds)(q:QA ds δ):EpA as δ QA:=by
 obtain⟨ts,e1,e2⟩:=h
 exact⟨ts,δ,e1,e2▸q⟩
theorem Zba{F:FIO}{t0:OT}(h0:δ[i]? =some (some t0))(h:EpA as δ λds δ1=>∃t,δ1[i]? =some (some t)∧ToldI F t ds λd t'=>Q d (δ1.set i (some t'))):EvP (Yp i F as) δ Q:=by
 obtain⟨ts,δ1,e1,t,e2,r,t',e3,q⟩:=h
 refine⟨r,δ1.set i (some t'),?_,q⟩
 rw[Zox,h0]
 show(as δ).bind _=_
 rw[e1]
 show atO δ1[i]? _=_
 rw[e2]
 show(F t _).bind _=_
 rw[e3];rfl
theorem Z2p(h:EpA as δ λds δ1=>ds.length≤1000∧Q (.list ds) δ1):EvP (Zbf as) δ Q:=by
 obtain⟨ts,δ1,e1,hl,q⟩:=h
 refine⟨.nd ts,δ1,?_,by rw[OT.data_nd,←datas_map];exact q⟩
 rw[Zc1,e1]
 show(if ts.length≤Xq then _ else _)=_
 rw[if_pos (by rw[Zb7]at hl;rw[X7];omega)]
theorem Z5k(h:EvP e δ λd δ'=>∃p,d= .bool p∧T p δ'):EpT (tV e) δ T:=by
 obtain⟨t,δ',e1,p,e2,q⟩:=h
 have:=Zfx e2
 subst this
 exact⟨p,δ',by unfold tV;rw[e1];rfl,q⟩
theorem Zdu{p:Bool}(h:EvT t δ p)(q:T p δ):EpT t δ T:=⟨p,δ,h,q⟩
theorem Z5m(h:EpT t δ λp δ1=>(p=true->EpT u δ1 T)∧(p=false->T false δ1)):EpT (tAn t u) δ T:=by
 obtain⟨p,δ1,e1,q1,q2⟩:=h
 cases p with
 | true=>
  obtain⟨p2,δ2,e2,q⟩:=q1 rfl
  exact⟨p2,δ2,by unfold tAn;rw[e1];exact e2,q⟩
 | false=>exact⟨false,δ1,by unfold tAn;rw[e1];rfl,q2 rfl⟩
theorem Zas{δ':Zf}(h:S δ= .nx δ')(q:N δ'):EpS S δ N R:=.inl ⟨δ',h,q⟩
theorem Z7(h:EpS S δ (λδ'=>EpS S' δ' N R) R):EpS (Z6 S S') δ N R:=by
 rcases h with⟨δ',e,h⟩|⟨o,δ',e,h⟩
 ·rcases h with⟨δ2,e2,q⟩|⟨o,δ2,e2,q⟩
  ·exact .inl ⟨δ2,by rw[Zft,e,Zqd,e2],q⟩
  ·exact .inr ⟨o,δ2,by rw[Zft,e,Zqd,e2],q⟩
 ·exact .inr ⟨o,δ',by rw[Zft,e,Zve],h⟩
theorem Zcw(h:EvP e δ λd δ'=>N (δ'.set i (some (.fz d)))):EpS (wE e (Wd i)) δ N R:=by
 obtain⟨t,δ',e1,q⟩:=h
 exact .inl ⟨_,by rw[Jv,e1];rfl,q⟩
theorem Zky(h:EvP e δ R):EpS (wE e Jt) δ N R:=by
 obtain⟨t,δ',e1,q⟩:=h
 exact .inr ⟨t,δ',by rw[Jv,e1];rfl,q⟩
theorem Zjk(h:EpT t δ λp δ'=>(p=true->EpS S δ' N R)∧(p=false->EpS S' δ' N R)):EpS (Za7 t S S') δ N R:=by
 obtain⟨p,δ',e1,q1,q2⟩:=h
 have e:Za7 t S S' δ=if p=true then S δ' else S' δ':=by unfold Za7;rw[e1]
 cases p with
 | true=>
  have g:=q1 rfl
  unfold EpS at g⊢
  rw[e];exact g
 | false=>
  have g:=q2 rfl
  unfold EpS at g⊢
  rw[e];exact g
theorem Zhk(q:N δ):EpS fNx δ N R:=.inl ⟨δ,rfl,q⟩
theorem EpS.mono{N':Zf->Prop}{R':Xa->Zf->Prop}(h:EpS S δ N R)(k:∀δ',N δ'->N' δ')(k2:∀d δ',R d δ'->R' d δ'):EpS S δ N' R' :=
 h.imp (λ⟨δ',e,q⟩=>⟨δ',e,k _ q⟩) λ⟨o,δ',e,q⟩=>⟨o,δ',e,k2 _ _ q⟩
theorem Ztx{g:FG}(I:Nat->Zf->Prop)(ds:List Xa)(m:Nat)(h0:I m δ)(turn:∀(k:Nat) (d:Xa) (δ:Zf),ds[k]? =some d->I (m+k) δ->∃δ1,g d δ=some δ1∧EpS S δ1 (I (m+k+1)) R)(fin:∀δ',I (m+ds.length) δ'->N δ') :
  (∃ δ',forLoop g S ds δ= .nx δ'∧N δ')∨∃o δ',forLoop g S ds δ= .rt o δ'∧R o.data δ':=by
 induction ds generalizing m δ with
 | nil=>exact .inl ⟨δ,rfl,fin δ h0⟩
 | cons d ds ih=>
  obtain⟨δ1,e1,h⟩:=turn 0 d δ rfl h0
  rcases h with⟨δ2,e2,q⟩|⟨o,δ2,e2,q⟩
  ·have e:forLoop g S (d :: ds) δ=forLoop g S ds δ2:=by rw[forLoop,e1];show(match S δ1 with| .nx δ2=>_| .ct δ2=>_| .bk δ2=>_|r=>_)=_;rw[e2]
   rw[e]
   refine ih (m+1) q (λk d' δ' hk hI=>?_) λδ' hI=>fin δ' (by rw[Bg];rw[show m+1+ds.length=m+(ds.length+1) by omega]at hI;exact hI)
   have:=turn (k+1) d' δ' hk (by rw[show m+(k+1)=m+1+k by omega];exact hI)
   rwa[show m+(k+1)+1=m+1+k+1 by omega]at this
  ·refine .inr ⟨o,δ2,?_,q⟩
   rw[forLoop,e1];show(match S δ1 with| .nx δ2=>_| .ct δ2=>_| .bk δ2=>_|r=>_)=_;rw[e2]
theorem Zai{it:FI}{g:FG}{ds:List Xa}{δ0:Zf}(I:Nat->Zf->Prop)(hi:it δ=some (ds,δ0))(h0:I 0 δ0)(turn:∀(k:Nat) (d:Xa) (δ:Zf),ds[k]? =some d->I k δ->∃δ1,g d δ=some δ1∧EpS S δ1 (I (k+1)) R)(fin:∀δ',I ds.length δ'->N δ'):EpS (W5 it g S) δ N R:=by
 have e:W5 it g S δ=forLoop g S ds δ0:=by unfold W5;rw[hi]
 have h:=Ztx (R:=R) (N:=N) (S:=S) (g:=g) (δ:=δ0) I ds 0 h0 (λk d δ hk hI=>by rw[VR]at hI⊢;exact turn k d δ hk hI) (λδ' hI=>by rw[VR]at hI;exact fin δ' hI)
 unfold EpS
 rw[e];exact h
noncomputable def EpI(it:FI)(δ:Zf)(Q:List Xa->Zf->Prop):Prop:=∃ds δ',it δ=some (ds,δ')∧Q ds δ'
theorem Z2n(h:EpA as δ λds δ'=>∃n:Nat,ds=[.int n]∧n≤1000000∧QA (Zdd 0 n) δ'):EpI (iRa as) δ QA:=by
 obtain⟨ts,δ',e1,n,e2,hn,q⟩:=h
 exact⟨_,δ',by rw[Zwi,e1,Xi,e2,Z2r,Zq2 (by omega) (by omega),Ba],q⟩
theorem Zur{it:FI}{g:FG}(h:EpI it δ λds δ0=>∃I:Nat->Zf->Prop,I 0 δ0∧(∀(k:Nat) (d:Xa) (δ:Zf),ds[k]? =some d->I k δ->∃δ1,g d δ=some δ1∧EpS S δ1 (I (k+1)) R)∧∀δ',I ds.length δ'->N δ'):EpS (W5 it g S) δ N R:=by
 obtain⟨ds,δ0,e,I,h0,turn,fin⟩:=h
 exact Zai I e h0 turn fin
theorem ToldI.mono{F:FIO}{t0:OT}{ds:List Xa}{Q Q':Xa->OT->Prop}(h:ToldI F t0 ds Q)(k:∀d t,Q d t->Q' d t):ToldI F t0 ds Q':=by
 obtain⟨r,t',e,q⟩:=h
 exact⟨r,t',e,k _ _ q⟩
theorem Zyg(h:EpA as δ λds δ1=>ds.length≤1000∧Q (.tuple ds) δ1):EvP (Zuk as) δ Q:=by
 obtain⟨ts,δ1,e1,hl,q⟩:=h
 refine⟨.tp ts,δ1,?_,by rw[OT.data];exact q⟩
 rw[Zt9,e1]
 show(if ts.length≤Xq then _ else _)=_
 rw[if_pos (by rw[Zb7]at hl;rw[X7];omega)]
theorem Zyl{ts0:List OT}(h0:δ[i]? =some (some (.nd ts0)))(h:EvP e δ λd δ'=>∃ts,δ'[i]? =some (some (.nd ts))∧ts.length≤1000000∧N (δ'.set i (some (.nd (ts ++ [.fz d]))))):EpS (Jo i e) δ N R:=by
 obtain⟨o,δ',e1,ts,e2,hl,q⟩:=h
 exact .inl ⟨_,Z03 e1 h0 e2 hl,q⟩
theorem Z87{g:FG}(I:Nat->List Xa->Zf->Prop)(ds:List Xa)(m:Nat)(acc:List Xa)(h0:I m acc δ)(turn:∀(k:Nat) (d:Xa) (acc:List Xa) (δ:Zf),ds[k]? =some d->I (m+k) acc δ->∃δ1,g d δ=some δ1∧EpT t δ1 λp δ2=>(p=true->EvP e δ2 λd δ3=>I (m+k+1) (acc ++ [d]) δ3)∧(p=false->I (m+k+1) acc δ2)) :
  ∃ts δ',compLoop g t e ds δ=some (ts,δ')∧I (m+ds.length) (acc ++ ts.map OT.data) δ':=by
 induction ds generalizing m acc δ with
 | nil=>exact⟨[],δ,rfl,by rw[List.map_nil,QJ];exact h0⟩
 | cons d ds ih=>
  obtain⟨δ1,e1,p,δ2,e2,q1,q2⟩:=turn 0 d acc δ rfl h0
  have next:∀(k:Nat) (d:Xa) (acc:List Xa) (δ:Zf),ds[k]? =some d->I (m+1+k) acc δ->∃δ1,g d δ=some δ1∧EpT t δ1 λp δ2=>(p=true->EvP e δ2 λd δ3=>I (m+1+k+1) (acc ++ [d]) δ3)∧(p=false->I (m+1+k+1) acc δ2):=λk d acc δ hk hI=>by
   have:=turn (k+1) d acc δ hk (by rw[show m+(k+1)=m+1+k by omega];exact hI)
   rwa[show m+(k+1)+1=m+1+k+1 by omega]at this
  have el:m+1+ds.length=m+(ds.length+1):=by omega
  cases p with
  | true=>
   obtain⟨o,δ3,e3,hI⟩:=q1 rfl
   obtain⟨ts,δ',e4,hf⟩:=ih (m+1) (acc ++ [o.data]) hI next
   refine⟨o :: ts,δ',?_,?_⟩
   ·rw[compLoop,e1];show(t δ1).bind _=_;rw[e2];show(e δ2).bind _=_;rw[e3];show(compLoop g t e ds δ3).bind _=_;rw[e4];rfl
   ·rw[Bg,←el,Qs];rw[Bo]at hf;exact hf
  | false=>
   obtain⟨ts,δ',e4,hf⟩:=ih (m+1) acc (q2 rfl) next
   refine⟨ts,δ',?_,by rw[Bg,←el];exact hf⟩
   rw[compLoop,e1];show(t δ1).bind _=_;rw[e2];exact e4
theorem Ze5{o:OT}{δ':Zf}(h:e δ=some (o,δ'))(q:N (δ'.set i (some o))):EpS (wE e (Zb4 i)) δ N R:=.inl ⟨_,by rw[Jv,h];rfl,q⟩
theorem Zdh{np n:Nat}{t0:OT}{ds:List Xa}{Q:Xa->OT->Prop}(hl:ds.length+1=np)(h:EpS S (Zin n t0 ds) (λδ'=>∃t',δ'[0]? =some (some t')∧Q .none t') λd δ'=>∃t',δ'[0]? =some (some t')∧Q d t'):ToldI (Zpn np n S) t0 ds Q:=by
 unfold ToldI
 rw[Z0l hl]
 rcases h with⟨δ',e,t',e2,q⟩|⟨o,δ',e,t',e2,q⟩
 ·exact⟨.fz .none,t',by rw[e];show(match δ'[0]? with|some (some t)=>some (OT.fz .none,t)|_=>none)=_;rw[e2],by rw[OT.data_fz];exact q⟩
 ·exact⟨o,t',by rw[e];show(match δ'[0]? with|some (some t)=>some (o,t)|_=>none)=_;rw[e2],q⟩
end
end L2
namespace L2
open PySem PySem.Spec PyProof.Rows
variable {G:Xb}
noncomputable def Zuf(i:Nat)(m:MEt):MEt:=λδ K=>match δ[i]? with
 | some (some t)=>m (δ.set i (some (.fz t.data))) λr _=>Zbu r=true∧K r δ
 | _=>False
theorem Owns.append{H:Hp}{L:Addr->Prop}{xs:List V}{rs:List OT}{as bs:List Addr}{ys:List V}{us:List OT}(h:Owns G H L xs rs as)(k:Owns G H L ys us bs):Owns G H L (xs ++ ys) (rs ++ us) (as ++ bs) :=
 Owns.rec (motive_1:=λ_ _ _ _=>True) (motive_2:=λxs rs as _=>Owns G H L (xs ++ ys) (rs ++ us) (as ++ bs)) (λ_=>trivial) (λ_ _ _=>trivial) (λ_ _ _=>trivial) (λ_ _ _=>trivial) k (λk _ _ ih=>by rw[Bo];exact .cons k ih) h
section
variable {X:Cx}{io:List Nat}{p c:Bool}{e:Expr}{m:MEt}{i j:Nat}{x y:Str}{px py p2 p3 pos cpos apos:Pos}
theorem Z59(i:Nat)(h:ME X io true c e m)(hio:i∉io:=by decide):ME X io true true e (Zuf i m):=by
 obtain⟨_,A,s⟩:=h
 refine⟨_,A,λC H σ δ fp ex K Q R h k=>?_⟩
 unfold Zuf at h
 split at h
 case h_2=>exact h.elim
 rename_i t hi
 refine s C H σ _ _ ex _ _ (R.freeze hio hi) h λH' v r δ' fp' new r1 h1=>?_
 have sm:Same H H':=λb o e=>r1.stp.keep b o e (.inl rfl)
 refine k H' v r δ fp new ⟨R.made sm λa m=>⟨r1.fresh a m,r1.rel.xa a (.inr m)⟩,.same sm r1.stp.al,r1.own.flat h1.1,r1.nd,r1.fresh⟩ h1.2
noncomputable def Ztq(i:Nat)(m:MEt):MSt:=λD δ=>match δ[i]? with
 | some (some (.nd _))=>m δ λr δ1=>match δ1[i]?,r with
  | some (some (.nd ts)),.nd rs=>ts.length+rs.length≤Xq∧D.nx (δ1.set i (some (.nd (ts ++ rs))))
  | _,_=>False
 | _=>False
theorem Zz8(i:Nat)(nd:X.N.Nodup)(hi:X.N[i]? =some x)(hx:Loc X.env.scope x)(he:ME X io p true e m)(hio:i∉io:=by decide)(hv:Vis X.env.scope x:=by first|exact Qp rfl|exact Qh (Qp rfl)|exact Qh (Qh rfl))(hd:(x==("__debug__" : Str))=false:=by decide)
  (hcd:(x==("__classdict__" : Str))=false:=by decide) (hs:BZ (.BinOp (.Name x p2) .Add e p3) (some (.Name x px)) pos.line X.env=pure false:=by rfl) (hf:X.fn x=true∨X.env.scope.names.lookup x=some .local:=by first|exact .inl rfl|exact .inr rfl|assumption) :
  MS X io (.Assign [.Name x px] (.BinOp (.Name x p2) .Add e p3) pos) (Ztq i m):=by
 obtain⟨_,A,s⟩:=he
 refine⟨_,Znc nd hi hx (Zy2 (Zc9 rfl) (pv i hi hv hd hcd) A) hs hf,λC H σ δ fp ex D D' R h E=>?_⟩
 unfold Ztq at h
 split at h
 case h_2=>exact h.elim
 rename_i ts0 hi0
 obtain⟨a',xs0,bs0,hv0,hx0,_,_⟩:=R.ownNd hi0
 refine⟨_,hv0,?_⟩
 refine s C H σ δ fp ex _ _ R h λH1 v r δ1 fp1 new r1 h1=>?_
 split at h1
 case h_2=>exact h1.elim
 rename_i ts rs hi1
 have R1:=r1.rel
 obtain⟨a1,xs,bs,hv1,hx1,o1,hf1⟩:=R1.ownNd hi1
 rw[hv0]at hv1
 cases hv1
 have ow:Own X.K H1 (Lf C fp1 (exu ex new)) v (.nd rs) new:=r1.own.wide λa l _=>l rfl
 have ndn:=r1.nd
 have fr:=r1.fresh
 generalize new=new1 at ow ndn fr R1 o1
 have k1:=r1.stp.kp
 cases ow with
 | nd hx2 o2=>
  rename_i b ys cs
  have n2:=XX.mp ndn
  have nd1:=R1.nd i
  rw[hf1]at nd1
  have n1:=XX.mp nd1
  have hm1:∀a∈bs,a∈fp1 i:=λa m=>by rw[hf1];exact .tail _ m
  refine⟨a',b,xs,ys,rfl,rfl,.inl (.inl hx1),.inl (.inl hx2),by rw[o1.length,o2.length];exact h1.1,λl hl=>?_⟩
  have s2:=Z8 hl (.lst (xs ++ ys))
  have R2:=(R1.take hi1).made (new:=[l]) s2 λa m=>by rw[Xu.mp m];exact⟨hl,by rw[Zt];intro z;cases z⟩
  have sub:∀a,exu ex (l :: (bs ++ cs)) a->exu (exu ex (b :: cs)) (fp1 i) a∨a∈[l]:=λa z=>by
   rcases z with z|z
   ·exact .inl (.inl (.inl z))
   ·rcases Xk.mp z with z|z
    ·exact .inr (Xu.mpr z)
    ·rcases X3.mp z with z|z
     ·exact .inl (.inr (hm1 a z))
     ·exact .inl (.inl (.inr (.tail _ z)))
  have R3:Rel C io _ σ (δ1.set i none) (fpu fp1 i []) (exu ex (l :: (bs ++ cs))):=R2.drop sub
  have lw:∀a,Lf C fp1 (exu ex (b :: cs)) a->H1 a≠none->Lf C (fpu fp1 i []) (exu ex (l :: (bs ++ cs))) a:=λa q ha=>⟨λz=>by
    rcases z.of_u with z|⟨j,_,z⟩
    ·exact nomatch z
    ·exact q.1 ⟨j,z⟩,λz=>by
    rcases z with z|z
    ·exact q.2.1 (.inl z)
    ·rcases Xk.mp z with z|z
     ·exact ha (by rw[z];exact hl)
     ·rcases X3.mp z with z|z
      ·exact q.1 ⟨i,hm1 a z⟩
      ·exact q.2.1 (.inr (.tail _ z)),q.2.2⟩
  have hnl:=R1.newOk hl
  have apart:∀a∈bs,∀b∈cs,a≠b:=λa m b m' z=>R1.dx i a (hm1 a m) (.inr (.tail _ (z▸m')))
  obtain⟨fp4,R4,g⟩:=R3.put (v:=.ref l) (r:=.nd (ts ++ rs)) (i:=i) hio (.nd Zt (((o1.append o2).wide lw).same s2)) (XX.mpr ⟨λm=>by
    rcases X3.mp m with m|m
    ·exact hnl.1 ⟨i,hm1 l m⟩
    ·exact hnl.2.1 (.inr (.tail _ m)),QL.mpr ⟨n1.2,n2.2,apart⟩⟩) λa m=>by
    rcases Xk.mp m with m|m
    ·rw[m];exact⟨hnl.2.2,λz=>hnl.2.1 (.inl z)⟩
    ·rcases X3.mp m with m|m
     ·refine⟨?_,λz=>R1.dx i a (hm1 a m) (.inl z)⟩
      rcases R1.new i a (hm1 a m)with w|w
      ·exact absurd w.1 hio
      ·exact w
     ·have:=R.newOk (fr a (.tail _ m))
      exact⟨this.2.2,this.2.1⟩
  rw[List.set_set]at R4
  refine E.nx _ _ _ fp4 R4 ⟨λb o e q=>s2 _ _ (k1.keep b o e q),λz=>(nomatch z),λa z=>?_,λb e=>k1.al b (s2.al b e)⟩ h1.2
  rcases g a z with z|z
  ·rcases z.of_u with z|⟨j,_,z⟩
   ·exact nomatch z
   ·exact k1.grow a ⟨j,z⟩
  ·rcases Xk.mp z with z|z
   ·rw[z];exact .inr (k1.al l hl)
   ·rcases X3.mp z with z|z
    ·exact k1.grow a ⟨i,hm1 a z⟩
    ·exact .inr (fr a (.tail _ z))
noncomputable def Z13(m:MEt)(j:Nat)(u:MSt):MSt:=λD δ=>m δ λr δ1=>match r with
 | .nd ts=>∃I:Nat->Zf->Prop,I 0 δ1∧(∀(k:Nat) (t:OT) (δ':Zf),ts[k]? =some t->I k δ'->u { D with nx:=I (k+1),ct:=I (k+1),bk:=D.nx } (δ'.set j (some t)))∧∀δ',I ts.length δ'->D.nx δ'
 | _=>False
theorem Z0i{iter:Expr}{body:List Stmt}{u:MSt}{py pos:Pos}(j:Nat)(hp:PassesOwn (Qd X.prog X.w) X.A X.env X.xe)(hc:X.calm=true)(nd:X.N.Nodup)(he:ME X io p true iter m)(hb:MSs X io body u)(hj:X.N[j]? =some y)(hlj:Loc X.env.scope y)(hio:j∉io:=by decide)
  (hfs:∀z,Q7 iter X.env z=pure z:=by intro _;rfl) (hf:X.fn y=true∨X.env.scope.names.lookup y=some .local:=by first|exact .inl rfl|exact .inr rfl|assumption) :
  MS X io (.For (.Name y py) iter body [] pos) (Z13 m j u):=by
 obtain⟨_,A,s⟩:=he
 obtain⟨_,B,sb⟩:=hb
 refine⟨_,Zqq hp hc (Zhu A) (Zgj (i:=j) nd hj hlj (hf:=hf)) B hfs,λC H σ δ fp ex D D' R h E=>?_⟩
 refine s C H σ δ fp ex _ _ R h λH1 v r δ1 fp1 new r1 h1=>?_
 split at h1
 case h_2=>exact h1.elim
 rename_i ts
 obtain⟨I,h0,turn,fin⟩:=h1
 have ow:Own X.K H1 (Lf C fp1 (exu ex new)) v (.nd ts) new:=r1.own.wide λa l _=>l rfl
 have ndn:=r1.nd
 have fr:=r1.fresh
 have R1:=r1.rel
 have k1:=r1.stp.kp
 generalize new=new1 at ow ndn fr R1
 cases ow with
 | nd hx o0=>
  rename_i a xs bs
  refine⟨a,rfl,⟨xs,.inl (.inl hx)⟩,?_⟩
  refine Zmk (xs:=xs) (λk σ' H'=>∃δ' fp' rest,Rel C io H' σ' δ' fp' (exu ex (a :: rest))∧Kp H fp H' fp'∧Owns X.K H' (Lf C fp' (exu ex (a :: rest))) (xs.drop k) (ts.drop k) rest∧(a :: rest).Nodup∧(∀b∈a :: rest,H b=none)∧H' a=some (.lst xs)∧I k δ')
   ⟨δ1,fp1,bs,R1,k1,o0,ndn,fr,hx,h0⟩ (λk σ' H' _ q=>?_) (λk x σ' H' ek q=>?_) λσ' H' q=>?_
  ·obtain⟨_,_,_,_,_,_,_,_,e,_⟩:=q
   exact .inl (.inl e)
  ·obtain⟨δ',fp',rest,R',k',o',nd',fr',e',i'⟩:=q
   have hk:k<xs.length:=(Xj.mp ek).1
   have hk2:k<ts.length:=by rw[←o0.length];exact hk
   rw[Q0 hk,Q0 hk2]at o'
   have ex':xs[k]=x:=(Xj.mp ek).2
   rw[ex']at o'
   generalize hxs:xs.drop (k+1)=xr at o'
   generalize hts:ts.drop (k+1)=tr at o'
   generalize htk:ts[k]=t at o'
   cases o' with
   | cons ot orr=>
    rename_i cs ds
    have n1:=XX.mp nd'
    have n2:=QL.mp n1.2
    have R2:Rel C io H' σ' δ' fp' (exu (exu ex (a :: ds)) cs):=R'.drop λb z=>by
     rcases z with(z|z)|z
     ·exact .inl z
     ·rcases Xk.mp z with z|z
      ·rw[z];exact .inr (.head _)
      ·exact .inr (.tail _ (XM _ z))
     ·exact .inr (.tail _ (Qu _ z))
    have lw:∀b,Lf C fp' (exu ex (a :: (cs ++ ds))) b->H' b≠none->Lf C fp' (exu (exu ex (a :: ds)) cs) b:=λb l _=>⟨l.1,λz=>l.2.1 (by
     rcases z with(z|z)|z
     ·exact .inl z
     ·rcases Xk.mp z with z|z
      ·rw[z];exact .inr (.head _)
      ·exact .inr (.tail _ (XM _ z))
     ·exact .inr (.tail _ (Qu _ z))),l.2.2⟩
    have lw2:∀b,Lf C fp' (exu ex (a :: (cs ++ ds))) b->H' b≠none->b∉cs:=λb l _ z=>l.2.1 (.inr (.tail _ (Qu _ z)))
    obtain⟨fp2,R3,g⟩:=R2.put (v:=x) (r:=t) (i:=j) hio (ot.wide lw) n2.1 λb m=>⟨(R.newOk (fr' b (.tail _ (Qu _ m)))).2.2,λz=>by
     rcases z with z|z
     ·exact(R.newOk (fr' b (.tail _ (Qu _ m)))).2.1 z
     ·rcases Xk.mp z with z|z
      ·exact n1.1 (z▸Qu _ m)
      ·exact n2.2.2 b m b z rfl⟩
    have k2:Kp H fp H' fp2:=⟨λb o e q=>k'.keep b o e q,λz=>(nomatch z),λb z=>by
     rcases g b z with z|z
     ·exact k'.grow b z
     ·exact .inr (fr' b (.tail _ (Qu _ z))),k'.al⟩
    have o3:Owns X.K H' (Lf C fp2 (exu ex (a :: ds))) xr tr ds:=orr.wide λb l nb=>⟨λz=>(g b z).elim l.1 (lw2 b l nb),λz=>l.2.1 (by
     rcases z with z|z
     ·exact .inl z
     ·rcases Xk.mp z with z|z
      ·rw[z];exact .inr (.head _)
      ·exact .inr (.tail _ (XM _ z))),l.2.2⟩
    have hti:ts[k]? =some t:=by rw[Xh hk2,htk]
    have hdn:(a :: ds).Nodup:=XX.mpr ⟨λm=>n1.1 (XM _ m),n2.2.1⟩
    have hfr:∀b∈a :: ds,H b=none:=λb m=>by
     rcases Xk.mp m with m|m
     ·rw[m];exact fr' a (.head _)
     ·exact fr' b (.tail _ (XM _ m))
    have hex:∀b,exu ex (a :: ds) b∨b∈([]:List Addr)->exu ex (a :: ds) b:=λb z=>z.elim id λz=>nomatch z
    have step:∀H'' σ'' δ'' fp'',Rel C io H'' σ'' δ'' fp'' (exu ex (a :: ds))->Kp H' fp2 H'' fp''->I (k+1) δ''->∃δ' fp' rest,Rel C io H'' σ'' δ' fp' (exu ex (a :: rest))∧Kp H fp H'' fp'∧Owns X.K H'' (Lf C fp' (exu ex (a :: rest))) xr tr rest∧(a :: rest).Nodup∧(∀b∈a :: rest,H b=none)∧H'' a=some (.lst xs)∧I (k+1) δ':=λH'' σ'' δ'' fp'' R'' k'' i''=>
     ⟨δ'',fp'',ds,R'',k2.trans k'',(R3.owns_step (c:=true) (p:=false) (δ':=δ'') ⟨k''.keep,λz=>(nomatch z),k''.grow,k''.al⟩ (.inr rfl) (λb z=>.inl z) (λb m=>.inr (.tail _ m)) (o3.wide λb l _ _=>l)).wide λb l _=>l rfl,hdn,hfr,k''.keep a _ e' (.inr λz=>by
      obtain⟨q,z⟩:=z
      exact R3.dx q a z (.inr (.head _))),i''⟩
    refine sb C H' _ _ fp2 (exu ex (a :: ds)) _ _ R3 (turn k t δ' hti i') ⟨step,λH'' σ'' δ'' fp'' R'' k'' n''=>E.nx H'' σ'' δ'' fp'' (R''.drop λb z=>.inl z) (k2.trans k'') n'',step,λH'' σ'' v' r' δ'' fp'' nw R'' o'' nd'' fr'' q''=>?_⟩
    refine E.rt H'' σ'' v' r' δ'' fp'' nw (R''.drop λb z=>z.imp .inl id) (o''.wide λb l _=>⟨l.1,λz=>l.2.1 (z.imp .inl id),l.2.2⟩) nd'' fr'' q''
  ·obtain⟨δ',fp',rest,R',k',o',nd',fr',e',i'⟩:=q
   rw[o0.length]at i'
   exact E.nx H' σ' δ' fp' (R'.drop λb z=>.inl z) k' (fin δ' i')
noncomputable def Zmd(i j:Nat)(m:MEt):MSt:=λD δ=>match δ[i]?,δ[j]? with
 | some (some (.nd _)),some (some _)=>m δ λr δ1=>match(δ1.set j none)[i]?,δ1[j]? with
  | some (some (.nd ts)),some (some t)=>ts.length<Xq∧D.nx ((δ1.set j none).set i (some (.nd (ts ++ [.tp [t,r]]))))
  | _,_=>False
 | _,_=>False
theorem Zsn{kk:Nat}{pt:Pos}(i j:Nat)(he:ME X io p true e m)(hN:X.N[i]? =some x:=by rfl)(hj:X.N[j]? =some y:=by rfl)(hio:j∉io:=by decide)(hv:Vis X.env.scope x:=by first|exact Qp rfl|exact Qh (Qp rfl)|exact Qh (Qh rfl))(hd:(x==("__debug__" : Str))=false:=by decide)
  (hcd:(x==("__classdict__" : Str))=false:=by decide) (hvy:Vis X.env.scope y:=by first|exact Qp rfl|exact Qh (Qp rfl)|exact Qh (Qh rfl)) (hdy:(y==("__debug__" : Str))=false:=by decide)
  (hcdy:(y==("__classdict__" : Str))=false:=by decide)
  (hbase:Uk (.Name x px) "append" X.env (eval (.Name x px) X.env)=eval (.Name x px) X.env:=by rfl)
  (hfew:((JL cpos (Xm [.Tuple [.Name y py,e] kk pt] X.env)).all (λx=>!x.1)&&(backToKw cpos (keywordEach [] X.env)).all (λx=>x.1.isSome)
   &&decide (([.Tuple [.Name y py,e] kk pt]:List Expr).length+([]:List Ub).length+(if([]:List Ub).isEmpty then 0 else 1)<30))=true:=by rfl)
  (hline:(apos.endLine==cpos.line)=true:=by rfl) (hs:Xm [.Tuple [.Name y py,e] kk pt] X.env=(false,eval (.Tuple [.Name y py,e] kk pt) X.env) :: Xm [] X.env:=by rfl) (hplain:(JL cpos (Xm [] X.env)).any (·.1)=false:=by rfl)
  (hs1:Xm [.Name y py,e] X.env=(false,eval (.Name y py) X.env) :: Xm [e] X.env:=by rfl) (hs2:Xm [e] X.env=(false,eval e X.env) :: Xm [] X.env:=by rfl)
  (hsw:BZ (.Call (.Attribute (.Name x px) "append" apos) [.Tuple [.Name y py,e] kk pt] [] cpos) none pos.line X.env=pure false:=by rfl) :
  MS X io (.Expr (.Call (.Attribute (.Name x px) "append" apos) [.Tuple [.Name y py,e] kk pt] [] cpos) pos) (Zmd i j m):=by
 obtain⟨_,A,s⟩:=he
 refine⟨_,Ziw (Zyf UL Uv Uu Zdo (pv i hN hv hd hcd) (Zag (Zo8 (Zag (pv j hj hvy hdy hcdy) (Zag A Zfi hs2) hs1)) Zfi hs) hbase hfew hline hs hplain) hsw,λC H σ δ fp ex D D' R h E=>?_⟩
 unfold Zmd at h
 split at h
 case h_2=>exact h.elim
 rename_i ts0 t0 hi0 hj0
 obtain⟨a',xs0,bs0,hv0,hx0,_,_⟩:=R.ownNd hi0
 obtain⟨vy,hvy0,_⟩:=R.own j _ hj0
 refine⟨_,hv0,.inl ⟨rfl,xs0,.inl (.inl hx0)⟩,?_⟩
 refine⟨_,hvy0,?_⟩
 refine s C H σ δ fp ex _ _ R h λH1 v r δ1 fp1 new r1 h1=>?_
 split at h1
 case h_2=>exact h1.elim
 rename_i ts t hi1 hj1
 refine⟨by show 2≤Xq;rw[X7];decide,λl hl=>?_⟩
 have R1:=r1.rel
 have k1:=r1.stp.kp
 obtain⟨vy1,hvy1,oy⟩:=R1.own j _ hj1
 rw[hvy0]at hvy1
 cases hvy1
 have ow:Own X.K H1 (Lf C fp1 (exu ex new)) v r new:=r1.own.wide λa l _=>l rfl
 have s2:=Z8 hl (.tup [vy,v])
 have hjf:∀a,a∈fp1 j->C.H₀ a=none∧¬ex a∧a∉new:=λa m=>⟨by
  rcases R1.new j a m with w|w
  ·exact absurd w.1 hio
  ·exact w,λz=>R1.dx j a m (.inl z),λz=>R1.dx j a m (.inr z)⟩
 have R2:Rel C io (upd H1 l (.tup [vy,v])) σ (δ1.set j none) (fpu fp1 j []) (exu ex (fp1 j ++ new)):=((R1.take hj1).mk0 s2).drop λa z=>by
  rcases z with z|z
  ·exact .inl (.inl z)
  ·rcases X3.mp z with z|z
   ·exact .inr z
   ·exact .inl (.inr z)
 have lw:∀a,Lf C fp1 (exu ex new) a->H1 a≠none->Lf C (fpu fp1 j []) (exu ex (fp1 j ++ new)) a:=λa q _=>⟨λz=>by
   rcases z.of_u with z|⟨k,_,z⟩
   ·exact nomatch z
   ·exact q.1 ⟨k,z⟩,λz=>by
   rcases z with z|z
   ·exact q.2.1 (.inl z)
   ·rcases X3.mp z with z|z
    ·exact q.1 ⟨j,z⟩
    ·exact q.2.1 (.inr z),q.2.2⟩
 have ot:Own X.K (upd H1 l (.tup [vy,v])) (Lf C (fpu fp1 j []) (exu ex (fp1 j ++ new))) (.ref l) (.tp [t,r]) (fp1 j ++ (new ++ [])):=.tp Zt (.cons ((oy.wide lw).same s2) (.cons ((ow.wide lw).same s2) .nil))
 rw[QJ]at ot
 obtain⟨a1,xs1,bs1,hv1,hx1,o1,hf1⟩:=R2.ownNd hi1
 rw[hv0]at hv1
 cases hv1
 refine⟨a',xs1,.ref l,rfl,rfl,hx1,by rw[o1.length];exact h1.1,?_⟩
 have o2:=o1.snoc ot
 have nd1:=R2.nd i
 rw[hf1]at nd1
 have hn1:=XX.mp nd1
 have hm1:∀a,a∈a' :: bs1->a∈fpu fp1 j [] i:=λa m=>by rw[hf1];exact m
 have apart:∀a,a∈fp1 j ++ new->a∉a' :: bs1:=λa m z=>R2.dx i a (hm1 a z) (.inr m)
 have ndj:(fp1 j ++ new).Nodup:=QL.mpr ⟨R1.nd j,r1.nd,λa m b m' z=>(hjf a m).2.2 (z▸m')⟩
 obtain⟨R3,sub⟩:=R2.topN hi1 hv0 hf1 hx1 o2 (λa m=>X3.mp m) (XX.mpr ⟨λm=>by
   rcases X3.mp m with z|z
   ·exact hn1.1 z
   ·exact apart a' z (.head _),QL.mpr ⟨hn1.2,ndj,λa m b m' z=>apart b m' (by rw[←z];exact .tail _ m)⟩⟩) λa m=>by
   rcases X3.mp m with m|m
   ·exact⟨(hjf a m).1,(hjf a m).2.1⟩
   ·exact⟨(R.newOk (r1.fresh a m)).2.2,(R.newOk (r1.fresh a m)).2.1⟩
 have gj:∀a,Foot (fpu fp1 j []) a->Foot fp1 a:=λa z=>by
  rcases z.of_u with z|⟨k,_,z⟩
  ·exact nomatch z
  ·exact⟨k,z⟩
 refine E.nx _ σ _ _ R3 ⟨λb o eb q=>?_,λz=>(nomatch z),λa z=>?_,λb eb=>?_⟩ h1.2
 ·have q':=q.resolve_left (by decide)
  rw[Zu]
  ·exact s2 _ _ (k1.keep b o eb (.inr q'))
  ·rintro rfl
   rcases k1.grow b (gj b ⟨i,hm1 b (.head _)⟩)with z|z
   ·exact q' z
   ·rw[eb]at z;cases z
 ·rcases sub a z with z|z
  ·exact k1.grow a (gj a z)
  ·rcases X3.mp z with z|z
   ·exact k1.grow a ⟨j,z⟩
   ·exact .inr (r1.fresh a z)
 ·refine k1.al b (s2.al b ?_)
  by_cases q:b=a'
  ·subst q;rw[Zt]at eb;cases eb
  ·rwa[Zu q]at eb
end
noncomputable def Zn3(i:Nat)(e:FE):FE:=λδ=>match δ[i]? with
 | some (some t)=>(e (δ.set i (some (.fz t.data)))).bind λp=>if Zbu p.1=true then some (p.1,δ)else none
 | _=>none
noncomputable def Zn4(i:Nat)(e:FE):FS:=λδ=>match δ[i]? with
 | some (some (.nd _))=>wE e (λr δ1=>match δ1[i]?,r with
  | some (some (.nd ts)),.nd rs=>if ts.length+rs.length≤Xq then .nx (δ1.set i (some (.nd (ts ++ rs))))else .bad
  | _,_=>.bad) δ
 | _=>.bad
noncomputable def W9(j:Nat)(u:FS):List OT->Zf->RS
 | [],δ=>.nx δ
 | t :: ts,δ=>match u (δ.set j (some t))with
  | .nx δ2=>W9 j u ts δ2
  | .ct δ2=>W9 j u ts δ2
  | .bk δ2=>.nx δ2
  | r=>r
noncomputable def Zsy(e:FE)(j:Nat)(u:FS):FS:=wE e λr δ1=>match r with| .nd ts=>W9 j u ts δ1|_=>.bad
noncomputable def Zg6(i j:Nat)(e:FE):FS:=λδ=>match δ[i]?,δ[j]? with
 | some (some (.nd _)),some (some _)=>wE e (λr δ1=>match(δ1.set j none)[i]?,δ1[j]? with
  | some (some (.nd ts)),some (some t)=>if ts.length<Xq then .nx ((δ1.set j none).set i (some (.nd (ts ++ [.tp [t,r]]))))else .bad
  | _,_=>.bad) δ
 | _,_=>.bad
section
variable {X:Cx}{io:List Nat}{p c:Bool}{e:Expr}{st:Stmt}{i j:Nat}{fa:FE}{u:FS}
theorem Z1d(h:ME X io p c e (Zuf i (o2 fa))):ME X io p c e (o2 (Zn3 i fa)):=h.weak λδ K h=>by
 obtain⟨r,δ',h,k⟩:=h
 unfold Zn3 at h;unfold Zuf
 split at h
 case h_2=>cases h
 rename_i t q;(try rw[q])
 obtain⟨⟨x,δ1⟩,h1,h⟩:=bs h
 refine⟨x,δ1,h1,?_⟩
 dsimp only at h
 split at h
 ·rename_i hf
  cases h
  exact⟨hf,k⟩
 ·cases h
theorem Zym(h:MS X io st (Ztq i (o2 fa))):MS X io st (oS (Zn4 i fa)):=h.weak λD δ h=>by
 unfold oS Zn4 at h;unfold Ztq
 split at h
 case h_2=>exact h.elim
 rename_i q;(try rw[q])
 refine(Zlo h).imp λr δ' z=>?_
 split at z
 ·rename_i q2;(try rw[q2]);exact Zdv z
 ·exact z.elim
theorem Zdk{t:OT}{ts:List OT}{δ:Zf}:W9 j u (t :: ts) δ=match u (δ.set j (some t))with
  | .nx δ2=>W9 j u ts δ2
  | .ct δ2=>W9 j u ts δ2
  | .bk δ2=>.nx δ2
  | r=>r:=rfl
theorem Z08(h:MS X io st (Z13 (o2 fa) j (oS u))):MS X io st (oS (Zsy fa j u)):=h.weak λD δ h=>by
 refine(Zlo h).imp λr δ1 z=>?_
 split at z
 case h_2=>exact z.elim
 rename_i ts
 refine⟨λk δ'=>(W9 j u (ts.drop k) δ').fits D,by show RS.fits D (W9 j u (ts.drop 0) δ1);rw[List.drop_zero];exact z,λk t δ' hd z=>?_,λδ' z=>?_⟩
 ·obtain⟨hi,hdi⟩:=Xj.mp hd
  replace z:RS.fits D (W9 j u (ts.drop k) δ'):=z
  rw[Q0 hi,hdi,Zdk]at z
  unfold oS
  cases q3:u (δ'.set j (some t))<;>rw[q3]at z<;>(try rw[q3])<;>exact z
 ·replace z:RS.fits D (W9 j u (ts.drop ts.length) δ'):=z
  rw[List.drop_length]at z;exact z
theorem Zuo(h:MS X io st (Zmd i j (o2 fa))):MS X io st (oS (Zg6 i j fa)):=h.weak λD δ h=>by
 unfold oS Zg6 at h;unfold Zmd
 split at h
 case h_2=>exact h.elim
 rename_i q q2;(try rw[q,q2])
 refine(Zlo h).imp λr δ' z=>?_
 split at z
 ·rename_i q3 q4;(try rw[q3,q4]);exact Zdv z
 ·exact z.elim
end
variable {G:Xb}
theorem Rel.look{H:Hp}{x:V}{d:Xa}(q:Da G H (λ_=>True) x d):Rel (⟨H,λ_=>False,λ_=>True,[some x]⟩:MC G) [] H [some x] [some (.fz d)] (λ_=>[]) (λ_=>False):=by
 refine⟨rfl,λi t e=>?_,λ_ _=>rfl,λ_=>.nil,λi j a m=>(nomatch m),λi a m=>(nomatch m),λa z=>z.elim,λb o e _=>e,λb e=>e,λi a m=>(nomatch m),λi m=>(nomatch m)⟩
 cases i with
 | zero=>cases e;exact⟨x,rfl,.fz (q.wide λa _ _=>⟨λz=>(by obtain⟨_,z⟩:=z;exact nomatch z),λz=>z,.inl trivial⟩)⟩
 | succ i=>cases e
noncomputable def gx(xs:List V)(k:Nat):V:=xs.getD k .non
noncomputable def gt(ts:List OT)(k:Nat):OT:=ts.getD k (.fz .none)
inductive FiltI(mt:MTt)(ts:List OT):List Nat->List Nat->Prop where
 | nil:FiltI mt ts [] []
 | keep {k:Nat} {p q:List Nat}:mt [some (.fz (gt ts k).data)] (λb _=>b=true)->FiltI mt ts p q->FiltI mt ts (k :: p) (k :: q)
 | skip {k:Nat} {p q:List Nat}:mt [some (.fz (gt ts k).data)] (λb _=>b=false)->FiltI mt ts p q->FiltI mt ts (k :: p) q
theorem FiltI.sub{mt:MTt}{ts:List OT}{p q:List Nat}(h:FiltI mt ts p q):q.Sublist p:=by
 induction h with
 | nil=>exact .slnil
 | keep _ _ ih=>exact ih.cons₂ _
 | skip _ _ ih=>exact ih.cons _
structure Yb9{α:Type}(kd:Xa->Option α)(lt:α->α->Bool)(ds:List Xa)(p:List Nat):Prop where
 nd:p.Nodup
 bd:∀k∈p,k<ds.length
 lw:p.length≤10000
 is:(ds.length<64∧p=if ds.length<2 then Xr ds.length else Zls (lk kd lt ds) ds.length)∨(2≤ds.length∧ds.length≤10000∧Zn6 (lk kd lt ds) ds.length=some p∧p.length=ds.length)
 ky:keyed kd ds
theorem Zil{α:Type}{d:α}{lt:Nat->Nat->Bool}{vs:List α}:sLay d lt vs=(if vs.length<2 then Xr vs.length else Zls lt vs.length).map λk=>vs.getD k d:=by
 unfold sLay
 split
 ·exact(Zhf d vs).symm
 ·rfl
noncomputable def Zt0{α:Type}(kd:Xa->Option α)(lt:α->α->Bool)(i:Nat)(mt:MTt):MSt:=λD δ=>match δ[i]? with
 | some (some (.nd ts))=>∃p q,Yb9 kd lt (OT.datas ts) p∧FiltI mt ts p q∧D.rt (.nd (q.map (gt ts))) (δ.set i none)
 | _=>False
section
variable {X:Cx}{io:List Nat}{pos pp cpos px lpos ps pe:Pos}{i:Nat}{x y:Str}{α:Type}{kd:Xa->Option α}{lt:α->α->Bool}{mt:MTt}{N':List Str}{sc:Ua}{ifs:List Expr}
theorem Zxc(i:Nat)(S:Z1s kd lt)(hu:X.A.units+64<cLine)(hg:Gl X "sorted")(hm:X.mg "sorted"=none)(hvb:Qk "sorted"=some (.builtin "sorted"))
  (SC:CompScope X [y] [] N' sc) (hc:X.calm=true)
  (hgt:∀C cells s₂ H₂ fp,PG (Yu X N' sc C cells s₂ H₂ fp) (.Name y ps) (Zi3 0)) (ht:∀C cells s₂ H₂ fp,MIfs (Yu X N' sc C cells s₂ H₂ fp) [] true ifs mt) (hel:∀C cells s₂ H₂ fp,PE (Yu X N' sc C cells s₂ H₂ fp) (.Name y pe) (Z5v 0))
  (hio:i∉io:=by decide) (hN:X.N[i]? =some x:=by rfl) (hv:Vis X.env.scope x:=by first|exact Qp rfl|exact Qh (Qp rfl)|exact Qh (Qh rfl)) (hd:(x==("__debug__" : Str))=false:=by decide)
  (hcd:(x==("__classdict__" : Str))=false:=by decide) (he:Xm [.Name x px] X.env=(false,eval (.Name x px) X.env) :: Xm [] X.env:=by rfl) (hpl:(JL cpos (Xm [] X.env)).any (·.1)=false:=by rfl)
  (hs:∀z,Q7 (.Call (.Name "sorted" pp) [.Name x px] [] cpos) X.env z=pure z:=by intro _;rfl) :
  MS X io (.Return (some (.ListComp (.Name y pe) [⟨.Name y ps,.Call (.Name "sorted" pp) [.Name x px] [] cpos,ifs,0⟩] sc lpos)) pos) (Zt0 kd lt i mt):=by
 refine⟨_,Zqc (Zop (tt:=ttM X.K [] true mt) SC hc (Zhu (Ze7 (Zol S rfl hu) hg hm hvb (Zag (pv i hN hv hd hcd) Zfi he) (by decide) (by decide) he hpl)) hgt (λC cells s₂ H₂ fp=>(ht C cells s₂ H₂ fp).canon) hel hs),λC H σ δ fp ex D D' R h E=>?_⟩
 unfold Zt0 at h
 split at h
 case h_2=>exact h.elim
 rename_i ts hi
 obtain⟨p,q,O,F,h⟩:=h
 obtain⟨a',xs,bs,hv0,hx,ow,hfp⟩:=R.ownNd hi
 have ndi:=R.nd i
 rw[hfp]at ndi
 have hnd:=XX.mp ndi
 have hl:=ow.length
 have hld:(OT.datas ts).length=xs.length:=by rw[OT.datas_map,Xg,hl]
 have qlt:∀k∈q,k<xs.length:=λk m=>hld▸O.bd k (F.sub.subset m)
 have das:Das X.K H (λ_=>True) xs (OT.datas ts):=ow.das (λ_ _ _=>trivial) (λ_ _=>trivial)
 refine⟨_,hv0,?_⟩
 -- what is to be shown of the list l in order
 have key:∀l,H l=none->∃a,V.ref l= .ref a∧(∃zs,SqL X.K (upd H l (.lst (p.map (gx xs)))) a zs)∧∀Dl,upd H l (.lst (p.map (gx xs))) Dl=none->Zso (Itl X.K a) (Zi3 0) (ttM X.K [] true mt) (Z5v 0) (Jp [y] [] σ) Dl (D'.rt (.ref Dl)) (upd H l (.lst (p.map (gx xs)))):=λl hln=>by
  have s1:=Z8 hln (.lst (p.map (gx xs)))
  refine⟨l,rfl,⟨p.map (gx xs),.inl (.inl Zt)⟩,λDl hDl=>?_⟩
  have hDn:H Dl=none:=s1.al Dl hDl
  have nDl:l≠Dl:=λz=>by rw[←z,Zt]at hDl;cases hDl
  have s2:=Z8 hDl (.lst [])
  refine⟨λn m σ' H'=>∃q1 q2,m=p.length-n∧n≤p.length∧q=q1 ++ q2∧FiltI mt ts (p.drop n) q2∧H' Dl=some (.lst (q1.map (gx xs)))∧q1.length≤n∧(∃z,σ'=[z])∧(∀b o,upd H l (.lst (p.map (gx xs))) b=some o->H' b=some o)∧∀b,H' b=none->H b=none,
   ⟨_,[],q,rfl,QQ _,rfl,F,Zt,X4 _,⟨none,rfl⟩,λb o e=>s2 _ _ e,λb e=>s1.al b (s2.al b e)⟩,?_⟩
  rintro n m σ2 H2 ⟨q1,q2,rfl,hn,eq,F2,hD2,hq1,⟨z,rfl⟩,kp,al⟩
  have el:SqL X.K H2 l (p.map (gx xs)):=.inl (.inl (kp _ _ Zt))
  have Sm:Same H H2:=λb o e=>kp b o (s1 b o e)
  by_cases hlt:n<p.length
  case neg=>
   have en:n=p.length:=by omega
   subst en
   refine .inl ⟨⟨_,el,by rw[Xg];exact X4 _⟩,?_⟩
   rw[List.drop_length]at F2
   cases F2
   rw[QJ]at eq
   subst eq
   -- the end
   obtain⟨ass,e1,e2,h3⟩:=ow.split
   have oo:=Owns.pick (.fz .none) hl e1 h3 q qlt
   generalize has:(q.flatMap λk=>ass.getD k [])=as' at oo
   have sub0:∀a∈as',a∈bs:=λa m=>by
    rw[←has]at m
    obtain⟨k,mk,m⟩:=List.mem_flatMap.mp m
    have hk:k<ass.length:=e1▸qlt k mk
    rw[Xd,Xh hk]at m
    rw[←e2]
    exact List.mem_flatten.mpr ⟨_,JM hk,m⟩
   have nd':as'.Nodup:=by
    rw[←has]
    have nf:ass.flatten.Nodup:=by rw[e2];exact hnd.2
    obtain⟨f1,f2⟩:=List.pairwise_flatten.mp nf
    refine List.pairwise_flatMap.mpr ⟨λk mk=>?_,?_⟩
    ·have hk:k<ass.length:=e1▸qlt k mk
     rw[Xd,Xh hk]
     exact f1 _ (JM hk)
    ·have nq:q.Nodup:=O.nd.sublist F.sub
     refine List.Pairwise.imp_of_mem (fun{k k'} mk mk' ne u hu w hw=>?_) nq
     have hk:k<ass.length:=e1▸qlt k mk
     have hk':k'<ass.length:=e1▸qlt k' mk'
     rw[Xd,Xh hk]at hu
     rw[Xd,Xh hk']at hw
     have f3:=Vs.mp f2
     rcases Nat.lt_or_gt_of_ne ne with c|c
     ·exact f3 k k' hk hk' c u hu w hw
     ·exact λz=>f3 k' k hk' hk c w hw u hu z.symm
   have sub:∀a∈as',a∈fp i:=λa m=>by rw[hfp];exact .tail _ (sub0 a m)
   have hDa:Dl∉as':=λm=>R.footSome hDn ⟨i,sub Dl m⟩
   have R1:=(R.take hi).made (new:=[Dl]) Sm (λa m=>by rw[Xu.mp m];exact⟨hDn,by rw[hD2];intro z;cases z⟩)
   have lw:∀a,Lf C fp ex a->H a≠none->Lf C (fpu fp i []) (exu ex (Dl :: as')) a:=λa w ha=>⟨λz=>by
     rcases z.of_u with z|⟨j,_,z⟩
     ·exact nomatch z
     ·exact w.1 ⟨j,z⟩,λz=>by
     rcases z with z|z
     ·exact w.2.1 z
     ·rcases Xk.mp z with z|z
      ·exact ha (by rw[z];exact hDn)
      ·exact w.1 ⟨i,sub a z⟩,w.2.2⟩
   have R2:Rel C io H2 σ (δ.set i none) (fpu fp i []) (exu ex (Dl :: as')):=R1.drop λa z=>by
    rcases z with z|z
    ·exact .inl (.inl z)
    ·rcases Xk.mp z with z|z
     ·exact .inr (Xu.mpr z)
     ·exact .inl (.inr (sub a z))
   have hn:∀a∈Dl :: as',C.H₀ a=none:=λa m=>by
    rcases Xk.mp m with z|z
    ·rw[z];exact R.al Dl hDn
    ·rcases R.new i a (sub a z)with w|w
     ·exact absurd w.1 hio
     ·exact w
   exact E.rt _ σ (.ref Dl) _ (δ.set i none) (fpu fp i []) (Dl :: as') R2 (.nd hD2 ((oo.wide lw).same Sm)) (XX.mpr ⟨hDa,nd'⟩) hn h
  rw[Q0 hlt]at F2
  generalize hk:p[n]=k at F2
  have hkp:k<xs.length:=by rw[←hk,←hld];exact O.bd _ (JM hlt)
  have eit:(p.map (gx xs))[n]? =some (gx xs k):=by rw[Xn,Xh hlt,hk];rfl
  refine .inr ⟨⟨_,_,el,eit⟩,λx H3 hy=>?_⟩
  obtain⟨rfl,hy⟩:=hy
  have ex2:=hy _ el
  rw[eit]at ex2
  cases ex2
  have qd:Da X.K H3 (λ_=>True) (gx xs k) (gt ts k).data:=by
   obtain⟨v,e1,e2⟩:=das.get (i:=k) (d:=(gt ts k).data) (by
    rw[OT.datas_map,Xn,Xh (by rw[←hl];exact hkp)]
    unfold gt
    rw[Xd,Xh (by rw[←hl];exact hkp)];rfl)
   have:gx xs k=v:=by
    unfold gx
    rw[Xd,e1];rfl
   rw[this]
   exact e2.frame (λa o l r=>⟨trivial,r.same Sm⟩) λa o r=>Sm _ _ r
  cases F2 with
  | skip hm F3=>
   refine⟨_,[some (.fz (gt ts k).data)],_,_,_,Rel.look qd,hm,λH4 b δ4 fp4 R4 S4 hb=>?_⟩
   have s4:Same H3 H4:=λa o e=>S4.keep a o e (.inl rfl)
   have al4:=S4.al
   subst hb
   dsimp only;rw[if_neg Xy]
   exact⟨_,by omega,q1,q2,rfl,hlt,eq,F3,s4 _ _ hD2,by omega,⟨_,rfl⟩,λb o e=>s4 _ _ (kp b o e),λb e=>al b (al4 b e)⟩
  | keep hm F3=>
   rename_i q2
   refine⟨_,[some (.fz (gt ts k).data)],_,_,_,Rel.look qd,hm,λH4 b δ4 fp4 R4 S4 hb=>?_⟩
   have s4:Same H3 H4:=λa o e=>S4.keep a o e (.inl rfl)
   have al4:=S4.al
   subst hb
   dsimp only;rw[if_pos rfl]
   have hD4:=s4 _ _ hD2
   refine⟨_,rfl,_,hD4,by rw[Xg,X7];have:=O.lw;omega,_,by omega,q1 ++ [k],q2,rfl,hlt,by rw[eq,Bo];rfl,F3,by rw[Zt,QD];rfl,by rw[Q8];exact Nat.succ_le_succ hq1,⟨_,rfl⟩,λb o e=>?_,λb e=>?_⟩
   ·have nb:b≠Dl:=λz=>by rw[z,hDl]at e;cases e
    rw[Zu nb]
    exact s4 _ _ (kp b o e)
   ·by_cases c:b=Dl
    ·subst c;rw[Zt]at e;cases e
    ·rw[Zu c]at e
     exact al b (al4 b e)
 rcases O.is with⟨h64,ep⟩|⟨h2,hz,ho,hp⟩
 ·have es:sLay .non (L2.lk kd lt (OT.datas ts)) xs=p.map (gx xs):=by rw[Zil,ep,hld];rfl
  refine .inl ⟨a',xs,λ_=>True,OT.datas ts,rfl,.inl (.inl hx),das,by omega,O.ky,λl hln=>?_⟩
  rw[es]
  exact key l hln
 ·have es:Zmb .non p xs=p.map (gx xs):=rfl
  refine .inr ⟨a',xs,λ_=>True,OT.datas ts,p,rfl,.inl (.inl hx),das,by omega,by omega,by rw[←hld];exact ho,by omega,O.ky,λl hln=>?_⟩
  rw[es]
  exact key l hln
end
noncomputable def Zuq{α:Type}(kd:Xa->Option α)(lt:α->α->Bool)(ds:List Xa):Option (List Nat) :=
 if ds.all (λd=>(kd d).isSome)=true then
  if ds.length<64 then some (if ds.length<2 then Xr ds.length else Zls (lk kd lt ds) ds.length)
  else(Zn6 (lk kd lt ds) ds.length).bind λp=>if(decide (ds.length≤10000)&&p.isPerm (Xr ds.length))=true then some p else none
 else none
theorem Zhx{α:Type}{kd:Xa->Option α}{lt:α->α->Bool}{ds:List Xa}{p:List Nat}(h:Zuq kd lt ds=some p):Yb9 kd lt ds p:=by
 unfold Zuq at h
 by_cases c:ds.all (λd=>(kd d).isSome)=true
 case neg=>rw[if_neg c]at h;cases h
 rw[if_pos c]at h
 have ky:keyed kd ds:=λd m=>UG.mp (Bh.mp c d m)
 have fin:∀{p:List Nat},p.Perm (Xr ds.length)->p.Nodup∧(∀k∈p,k<ds.length)∧p.length=ds.length:=λpm=>⟨pm.nodup_iff.mpr List.nodup_range,λk m=>QM.mp (pm.mem_iff.mp m),by rw[pm.length_eq,Ql]⟩
 by_cases c2:ds.length<64
 ·rw[if_pos c2]at h
  have h:=Qt h
  have pm:p.Perm (Xr ds.length):=by
   rw[←h]
   by_cases c3:ds.length<2
   ·rw[if_pos c3]
   ·rw[if_neg c3];exact Zbt (by omega)
  obtain⟨a,b,c⟩:=fin pm
  exact⟨a,b,by omega,.inl ⟨c2,h.symm⟩,ky⟩
 ·rw[if_neg c2]at h
  obtain⟨p',hp,h⟩:=bs h
  by_cases c4:(decide (ds.length≤10000)&&p'.isPerm (Xr ds.length))=true
  case neg=>rw[if_neg c4]at h;cases h
  rw[if_pos c4]at h
  cases h
  rw[XC,decide_eq_true_eq]at c4
  obtain⟨a,b,c⟩:=fin (List.isPerm_iff.mp c4.2)
  exact⟨a,b,by omega,.inr ⟨by omega,c4.1,hp,c⟩,ky⟩
noncomputable def Zp8(t:FT)(ts:List OT):List Nat->Option (List Nat)
 | []=>some []
 | k :: p=>(t [some (.fz (gt ts k).data)]).bind λb=>(Zp8 t ts p).bind λq=>some (if b.1=true then k :: q else q)
theorem Zm4{t:FT}{ts:List OT}:∀{p q:List Nat},Zp8 t ts p=some q->FiltI (o2 t) ts p q
 | [],q,h=>by cases h;exact .nil
 | k :: p,q,h=>by
  obtain⟨⟨b,δ⟩,h1,h⟩:=bs h
  obtain⟨q',h2,h⟩:=bs h
  have h:=Qt h
  have F:=Zm4 h2
  cases b with
  | true=>rw[←h];exact .keep ⟨true,δ,h1,rfl⟩ F
  | false=>rw[←h];exact .skip ⟨false,δ,h1,rfl⟩ F
noncomputable def Zrc{α:Type}(kd:Xa->Option α)(lt:α->α->Bool)(i:Nat)(t:FT):FS:=λδ=>match δ[i]? with
 | some (some (.nd ts))=>match(Zuq kd lt (OT.datas ts)).bind (Zp8 t ts)with|some q=>.rt (.nd (q.map (gt ts))) (δ.set i none)|none=>.bad
 | _=>.bad
section
variable {X:Cx}{io:List Nat}{st:Stmt}{i:Nat}{α:Type}{kd:Xa->Option α}{lt:α->α->Bool}{t:FT}
theorem Zz0(h:MS X io st (Zt0 kd lt i (o2 t))):MS X io st (oS (Zrc kd lt i t)):=h.weak λD δ h=>by
 unfold oS Zrc at h;unfold Zt0
 split at h
 case h_2=>exact h.elim
 rename_i ts e;(try rw[e])
 split at h
 case h_2=>exact h.elim
 rename_i q e2
 obtain⟨p,hp,e2⟩:=bs e2
 exact⟨p,q,Zhx hp,Zm4 e2,h⟩
end
end L2
namespace My
open PySem L2 PySem.Spec
noncomputable def Zcc:FS :=
 (Z6 (wE (Zh Zg1 (Z3 gIx (Zdi 0) (fC (.int 0))) (Ze 1)) (Wd 2))
  (Z6 (Zw4 0 (Zh J8 (Z3 gIx (Zdi 0) (fC (.int 0))) (Ze 1)) (fC (.int 0)))
  (wE (Ze 2) Jt)))
noncomputable def Zn:FIO:=Zpn 2 3 Zcc
noncomputable def Zau:FS :=
 (wE (Zh Za0 (fC (.int 1)) (Yp 0 Zn (Zd (Z3 gIx (Zbf (Zd (fC (.int 1)) (Zd (fC (.int 12)) (Zd (Zh Zeq (fC (.int 10)) (fC (.int 9))) Zr)))) (Yp 0 Zn (Zd (fC (.int 3)) Zr))) Zr))) Jt)
noncomputable def Jk:FIO:=Zpn 1 1 Zau
noncomputable def Zbv:FS :=
 (Z6 (wE (Zh Za0 (Zh Za0 (Zh Zcu (Zh Zg1 (Ze 0) (Zh Zeq (fC (.int 10)) (fC (.int 40)))) (fC (.int 48271))) (Zh Zcu (Zh Zcu (Zh Zeq (fC (.int 3)) (fC (.int 60))) (Zh Za0 (Ze 1) (fC (.int 1)))) (Zh Za0 (Ze 1) (fC (.int 1))))) (Ze 1)) (Wd 2))
  (Z6 (wE (Zh Za0 (Zh Zcu (Ze 2) (Ze 2)) (Zh Zcu (fC (.int 69621)) (Ze 2))) (Wd 2))
  (wE (Zh J8 (Zh Zg1 (Zh Zcu (Ze 2) (Ze 2)) (Zh Za0 (Zh Zeq (fC (.int 10)) (fC (.int 61))) (fC (.int 7)))) (fC (.int 8))) Jt)))
noncomputable def Yh:FD:=Zal 2 3 Zbv
noncomputable def Jg:FS :=
 (Z6 (Za7 (tV (Zh gGe (Ze 0) (Zh Zeq (fC (.int 10)) (fC (.int 18)))))
  (wE (Zbf (Zd (Zh gSb (Ze 0) (Zh Zeq (fC (.int 10)) (fC (.int 18)))) Zr)) Jt)
  fNx)
  (wE (Zbf (Zd (Zh Za0 (Zh Zcu (Zh Za0 (Zh Zcu (Z0 Yh (Zd (Ze 0) (Zd (fC (.int 1)) Zr))) (Zh Zeq (fC (.int 10)) (fC (.int 60)))) (Z0 Yh (Zd (Ze 0) (Zd (fC (.int 2)) Zr)))) (Zh Zeq (fC (.int 10)) (fC (.int 60)))) (Z0 Yh (Zd (Ze 0) (Zd (fC (.int 3)) Zr)))) Zr)) Jt))
noncomputable def Wz:FD:=Zal 1 1 Jg
noncomputable def J0:FS :=
 (Z6 (wE (Zci Z1j (Zd (Ze 0) Zr)) (Wd 2))
  (Z6 (wE (Ze 1) (Wd 3))
  (Z6 (Zg5 (tV (Zh gNe (Ze 3) (fC (.int 0)))) (Z6 (wE (Zh Zg1 (Ze 2) (Ze 3)) (Wd 4))
  (Z6 (wE (Ze 3) (Wd 2))
  (wE (Ze 4) (Wd 3)))))
  (wE (Zlf (Zd (Zh J8 (Ze 0) (Ze 2)) (Zd (Zh J8 (Ze 1) (Ze 2)) Zr))) Jt))))
noncomputable def Yc:FD:=Zal 2 5 J0
noncomputable def Zca:FS :=
 (Z6 (Za7 (tO (tNo (tD (Znw "list" (Ze 0)))) (tV (Zh gNe (Ze 0) (Ze 1))))
  (wE (fC (.bool false)) Jt)
  fNx)
  (Z6 (W5 (Zaz (Ze 0)) (gNm 2)
  (Z6 (Za7 (tO (tNo (tD (Znw "tuple" (Ze 2)))) (tO (tNo (tD (Znw "list" (Z3 gIx (Ze 2) (fC (.int 0)))))) (tNo (tD (Znw "tuple" (Z3 gIx (Ze 2) (fC (.int 1))))))))
  (wE (fC (.bool false)) Jt)
  fNx)
  (Za7 (tV (Zh gNe (Wy 1 [] (Zaz (Z3 Zlq (Z3 gIx (Ze 2) (fC (.int 0))) (fBl Zh6 (Zd (Z3 gIx (Ze 2) (fC (.int 1))) Zr)))) (gNm 0) (tD (Znw "bool" (Ze 0))) (Ze 0)) (Zbf Zr)))
  (wE (fC (.bool false)) Jt)
  fNx)))
  (wE (fC (.bool true)) Jt)))
noncomputable def W0:FD:=Zal 2 3 Zca
noncomputable def Zbm:FS :=
 (Z6 (wE (Zci Zfg (Zd (Ze 0) Zr)) (Wd 2))
  (Z6 (wE (Wy 1 [1] (iRa (Zd (Ze 2) Zr)) (gNm 0) (tV (Zh (Z1i true) (Ze 0) (Ze 1))) (Ze 0)) (Wd 3))
  (Z6 (wE (fC .none) (Wd 4))
  (Z6 (W5 (Zaz (Ze 1)) (gNm 5)
  (W5 (Zaz (Ze 1)) (gNm 6)
  (W5 (Zaz (Ze 3)) (gNm 7)
  (W5 (Zaz (Ze 3)) (gNm 8)
  (Z6 (wE (Zbf (Zd (Zh Za0 (Z3 gIx (Z3 gIx (Ze 0) (Ze 5)) (Ze 6)) (Z3 gIx (Z3 gIx (Ze 0) (Ze 7)) (Ze 8))) (Zd (Zh Za0 (Z3 gIx (Z3 gIx (Ze 0) (Ze 5)) (Ze 7)) (Z3 gIx (Z3 gIx (Ze 0) (Ze 6)) (Ze 8))) (Zd (Zh Za0 (Z3 gIx (Z3 gIx (Ze 0) (Ze 5)) (Ze 8)) (Z3 gIx (Z3 gIx (Ze 0) (Ze 6)) (Ze 7))) Zr)))) (Wd 9))
  (Z6 (wE (Zh gSb (Zci Zlx (Zd (Ze 9) Zr)) (Z3 gIx (Ze 9) (fC (.int 0)))) (Wd 10))
  (Za7 (tO (tV (Zh gIs (Ze 4) (fC .none))) (tV (Zh gLt (Ze 10) (Ze 4))))
  (wE (Ze 10) (Wd 4))
  fNx)))))))
  (wE (Ze 4) Jt)))))
noncomputable def Y6:FD:=Zal 2 11 Zbm
noncomputable def Zab:FS :=
 (W5 (iRa (Zd (Zci Zfg (Zd (Zdi 0) Zr)) Zr)) (gNm 3)
  (W5 (iRa (Zd (Zci Zfg (Zd (Zdi 0) Zr)) Zr)) (gNm 4)
  (Za7 (tV (Zh gNe (Zh Z6t (Zh Z4k (Ze 1) (Ze 3)) (fC (.int 1))) (Zh Z6t (Zh Z4k (Ze 1) (Ze 4)) (fC (.int 1)))))
  (Zcj 0 (Zh Za0 (Z3 gIx (Z3 gIx (Zdi 0) (Ze 3)) (Ze 4)) (Ze 2)) (Ze 3) (Ze 4))
  fNx)))
noncomputable def Wa:FIO:=Zpn 3 5 Zab
noncomputable def Wj:FS :=
 (wE (Wy 1 [0] (iRa (Zd (Ze 0) Zr)) (gNm 0) Zhj (Wy 1 [] (iRa (Zd (Ze 1) Zr)) (gNm 0) Zhj (fC (.int 0)))) Jt)
noncomputable def Ym:FD:=Zal 1 1 Wj
noncomputable def J3:FS :=
 (Z6 (wE (Zci Zfg (Zd (Zdi 0) Zr)) (Wd 1))
  (W5 (iRa (Zd (Ze 1) Zr)) (gNm 2)
  (W5 (iRa (Zd (Ze 1) Zr)) (gNm 3)
  (W5 (iRa (Zd (Ze 1) Zr)) (gNm 4)
  (Zcj 0 (Zci Zu9 (Zd (Z3 gIx (Z3 gIx (Zdi 0) (Ze 3)) (Ze 4)) (Zd (Zh Za0 (Z3 gIx (Z3 gIx (Zdi 0) (Ze 3)) (Ze 2)) (Z3 gIx (Z3 gIx (Zdi 0) (Ze 2)) (Ze 4))) Zr))) (Ze 3) (Ze 4))))))
noncomputable def Wu:FIO:=Zpn 1 5 J3
noncomputable def Zb0:FS :=
 (Z6 (wE (Z0 Ym (Zd (Ze 1) Zr)) (Zb4 2))
  (Z6 (wE (Yp 0 Zn (Zd (fC (.int 4)) Zr)) (Wd 3))
  (Z6 (Za7 (tV (Zh gNe (Ze 3) (fC (.int 1))))
  (W5 (iRa (Zd (Yp 0 Zn (Zd (fC (.int 7)) Zr)) Zr)) (gNm 4)
  (Z6 (wE (Yp 0 Zn (Zd (Zh Z7i (fC (.int 1)) (Ze 1)) Zr)) (Wd 5))
  (wE (Yp 2 Wa (Zd (Ze 5) (Zd (Zh Za0 (fC (.int 1)) (Yp 0 Zn (Zd (Z3 gIx (Zbf (Zd (fC (.int 3)) (Zd (Zh Zeq (fC (.int 10)) (fC (.int 20))) (Zd (Zh Zeq (fC (.int 10)) (fC (.int 39))) Zr)))) (Yp 0 Zn (Zd (fC (.int 3)) Zr))) Zr))) Zr))) Zi9)))
  fNx)
  (Z6 (Za7 (tV (Zh gGt (Ze 3) (fC (.int 0))))
  (Z6 (wE (Z0 Ym (Zd (Ze 1) Zr)) (Zb4 6))
  (Z6 (wE (Z3 gIx (Zbf (Zd (fC (.int 3)) (Zd (fC (.int 7)) (Zd (Zh Zeq (fC (.int 10)) (fC (.int 20))) Zr)))) (Yp 0 Zn (Zd (fC (.int 3)) Zr))) (Wd 7))
  (Z6 (W5 (iRa (Zd (Ze 1) Zr)) (gNm 8)
  (W5 (iRa (Zd (Ze 8) Zr)) (gNm 9)
  (Z6 (Zcj 6 (Z3 gIx (Zbf (Zd (Zh Za0 (fC (.int 1)) (Yp 0 Zn (Zd (Ze 7) Zr))) (Zd (Ze 7) Zr))) (Zci Z1k (Zd (Zh gEq (Ze 3) (fC (.int 3))) Zr))) (Ze 8) (Ze 9))
  (Z6 (Za7 (tAn (tV (Zh gEq (Ze 3) (fC (.int 3)))) (tV (Zh gEq (Yp 0 Zn (Zd (fC (.int 2)) Zr)) (fC (.int 0)))))
  (Zcj 6 (fC (.int 1)) (Ze 8) (Ze 9))
  fNx)
  (Zcj 6 (Zub (Z3 gIx (Z3 gIx (Zdi 6) (Ze 8)) (Ze 9))) (Ze 9) (Ze 8))))))
  (Z6 (wE (Yp 6 Wu Zr) Zi9)
  (W5 (iRa (Zd (Ze 1) Zr)) (gNm 8)
  (Zw4 2 (Wy 2 [] (Znl (Zd (Z3 gIx (Zdi 2) (Ze 8)) (Zd (Z3 gIx (Zdi 6) (Ze 8)) Zr))) (gTp 2 (gCn (Zx0 0) (gCn (Zx0 1) gNl))) Zhj (Zh Za0 (Ze 0) (Ze 1))) (Ze 8)))))))
  fNx)
  (Zfc 2)))))
noncomputable def J6:FIO:=Zpn 2 10 Zb0
noncomputable def Zbj:FS :=
 (Z6 (wE (Zbf (Zd (Zbf Zr) Zr)) (Wd 1))
  (Z6 (W5 (iRb (Zd (fC (.int 1)) (Zd (Ze 0) Zr))) (gNm 2)
  (wE (Z3 Zlq (Ze 1) (Wy 1 [2] (Zaz (Ze 1)) (gNm 0) Zhj (Z3 Zlq (Ze 0) (Zbf (Zd (Ze 1) Zr))))) (Wd 1)))
  (wE (fBl (Zjo kdL ltI) (Zd (Wy 1 [] (Zaz (Ze 1)) (gNm 0) (tV (Zh gNe (Ze 0) (Zbf Zr))) (Ze 0)) Zr)) Jt)))
noncomputable def Wr:FD:=Zal 1 3 Zbj
noncomputable def Zbh:FS :=
 (wE (Wy 1 [1] (Zaz (Ze 0)) (gNm 0) Zhj (Wy 1 [1] (Zaz (Ze 0)) (gNm 0) Zhj (Z0 Yc (Zd (Ze 0) (Zd (Ze 1) Zr))))) Jt)
noncomputable def Y7:FD:=Zal 2 2 Zbh
noncomputable def Zb3:FS :=
 (wE (Zh gLt (Zh Zcu (Z3 gIx (Ze 0) (fC (.int 0))) (Z3 gIx (Ze 1) (fC (.int 1)))) (Zh Zcu (Z3 gIx (Ze 1) (fC (.int 0))) (Z3 gIx (Ze 0) (fC (.int 1))))) Jt)
noncomputable def J5:FD:=Zal 2 2 Zb3
noncomputable def Zgl:FS :=
 (wE (Z0 W7 (Zd (Zh Za0 (Zh Zcu (Z3 gIx (Ze 0) (fC (.int 0))) (Z3 gIx (Ze 1) (fC (.int 1)))) (Zh Zcu (Z3 gIx (Ze 1) (fC (.int 0))) (Z3 gIx (Ze 0) (fC (.int 1))))) (Zd (Zh Zcu (Z3 gIx (Ze 0) (fC (.int 1))) (Z3 gIx (Ze 1) (fC (.int 1)))) Zr))) Jt)
noncomputable def Zc2:FD:=Zal 2 2 Zgl
noncomputable def Zaa:FS :=
 (wE (Z0 J5 (Zd (Z0 Zc2 (Zd (Z3 gIx (Z3 gIx (Ze 0) (Ze 1)) (Ze 2)) (Zd (Z3 gIx (Z3 gIx (Ze 0) (Ze 2)) (Ze 3)) Zr))) (Zd (Z3 gIx (Z3 gIx (Ze 0) (Ze 1)) (Ze 3)) Zr))) Jt)
noncomputable def Jd:FD:=Zal 4 4 Zaa
noncomputable def Zad:FS :=
 (Z6 (wE (Zci Zfg (Zd (Ze 0) Zr)) (Wd 1))
  (Z6 (W5 (iRa (Zd (Ze 1) Zr)) (gNm 2)
  (W5 (iRa (Zd (Ze 1) Zr)) (gNm 3)
  (W5 (iRa (Zd (Ze 1) Zr)) (gNm 4)
  (Za7 (tD (Z0 Jd (Zd (Ze 0) (Zd (Ze 2) (Zd (Ze 3) (Zd (Ze 4) Zr))))))
  (wE (Zlf (Zd (Ze 2) (Zd (Ze 3) (Zd (Ze 4) Zr)))) Jt)
  fNx))))
  (wE (fC .none) Jt)))
noncomputable def Jb:FD:=Zal 1 5 Zad
noncomputable def Zax:FS :=
 (Za7 (tV (Zh Zmu (Z0 Jb (Zd (Ze 0) Zr)) (fC .none)))
  (Zmn "NoTable")
  fNx)
noncomputable def Wl:FD:=Zal 1 1 Zax
noncomputable def Zaw:FS :=
 (wE (Zh gSb (Zci Zlx (Zd (Ze 0) Zr)) (Z3 gIx (Ze 0) (fC (.int 0)))) Jt)
noncomputable def Yd:FD:=Zal 1 1 Zaw
noncomputable def Zb6:FS :=
 (Z6 (wE (Zbf (Zd (Zbf Zr) Zr)) (Zb4 1))
  (Z6 (W5 (iRb (Zd (fC (.int 1)) (Zd (Ze 0) Zr))) (gNm 2)
  (Zn4 1 (Zn3 1 (Wy 1 [2] (Zaz (Ze 1)) (gNm 0) Zhj (Z3 Zlq (Ze 0) (Zbf (Zd (Ze 1) Zr)))))))
  (Zrc kdL ltI 1 (tV (Zh gGt (Zci Zfg (Zd (Ze 0) Zr)) (fC (.int 0)))))))
noncomputable def We:FD:=Zal 1 3 Zb6
noncomputable def Zav:FS :=
 (Z6 (wE (Zbf Zr) (Zb4 1))
  (Z6 (W5 (Zsi (Zd (Ze 0) Zr)) (gTp 2 (gCn (gNm 2) (gCn (gNm 3) gNl)))
  (W5 (Zaz (fSl (Ze 0) (oI (Ze 2)) oN)) (gNm 4)
  (Jo 1 (Zlf (Zd (Ze 3) (Zd (Ze 4) Zr))))))
  (Zfc 1)))
noncomputable def Wk:FD:=Zal 1 5 Zav
noncomputable def Zap:FS :=
 (wE (Zlf (Zd (Zh Za0 (Z3 gIx (Z3 gIx (Ze 0) (Ze 1)) (Ze 2)) (Z3 gIx (Z3 gIx (Ze 0) (Ze 3)) (Ze 4))) (Zd (Zh Za0 (Z3 gIx (Z3 gIx (Ze 0) (Ze 1)) (Ze 3)) (Z3 gIx (Z3 gIx (Ze 0) (Ze 2)) (Ze 4))) (Zd (Zh Za0 (Z3 gIx (Z3 gIx (Ze 0) (Ze 1)) (Ze 4)) (Z3 gIx (Z3 gIx (Ze 0) (Ze 2)) (Ze 3))) Zr)))) Jt)
noncomputable def Yb:FD:=Zal 5 5 Zap
noncomputable def W2:FS :=
 (Z6 (wE (Wy 1 [1] (iRa (Zd (Zci Zfg (Zd (Ze 0) Zr)) Zr)) (gNm 0) (tV (Zh (Z1i true) (Ze 0) (Ze 1))) (Ze 0)) (Wd 3))
  (Z6 (wE (Z0 Wk (Zd (Ze 3) Zr)) (Wd 4))
  (Z6 (wE (Zdr 2 "split_rule" Yd (Zd (Z0 Yb (Zd (Ze 0) (Zd (Z3 gIx (Ze 1) (fC (.int 0))) (Zd (Z3 gIx (Ze 1) (fC (.int 0))) (Zd (fC (.int 0)) (Zd (fC (.int 0)) Zr)))))) Zr)) (Wd 5))
  (Z6 (W5 (Zaz (Z0 Wk (Zd (Ze 1) Zr))) (gTp 2 (gCn (gNm 6) (gCn (gNm 7) gNl)))
  (Z6 (W5 (Zaz (Ze 4)) (gTp 2 (gCn (gNm 8) (gCn (gNm 9) gNl)))
  (wE (Zci Zu9 (Zd (Ze 5) (Zd (Zdr 2 "split_rule" Yd (Zd (Z0 Yb (Zd (Ze 0) (Zd (Ze 6) (Zd (Ze 7) (Zd (Ze 8) (Zd (Ze 9) Zr)))))) Zr)) Zr))) (Wd 5)))
  (Za7 (tV (Zh gLe (Ze 5) (fC (.int 0))))
  (wE (fC (.int 0)) Jt)
  fNx)))
  (wE (Ze 5) Jt)))))
noncomputable def Zz:FD:=Zal 3 10 W2
noncomputable def Zac:FS :=
 (Z6 (wE (Z0 Yo (Zd (Ze 0) Zr)) (Wd 2))
  (Z6 (wE (Z0 Wm (Zd (Ze 2) (Zd (Ze 0) Zr))) (Wd 3))
  (Z6 (wE (Zbf Zr) (Zb4 4))
  (Z6 (Zsy (Z0 We (Zd (Zci Zfg (Zd (Ze 0) Zr)) Zr)) 5
  (Z6 (wE (Z0 Zz (Zd (Ze 3) (Zd (Zdi 5) (Zd (Ze 1) Zr)))) (Znu 6))
  (Za7 (tV (Zh gGt (Ze 6) (fC (.int 0))))
  (Zg6 4 5 (Z0 Wc (Zd (Ze 6) (Zd (Zh Zcu (fC (.int 2)) (Ze 2)) Zr))))
  fNx)))
  (Zfc 4)))))
noncomputable def Yi:FD:=Zal 2 7 Zac
noncomputable def Zbe:FS :=
 (Z6 (wE (Z0 Wl (Zd (Ze 0) Zr)) Zi9)
  (wE (Z0 Yi (Zd (Ze 0) (Zd (fC (fnD "split_rule")) Zr))) Jt))
noncomputable def Y5:FD:=Zal 1 1 Zbe
noncomputable def Zen:FS :=
 (Z6 (W5 (Zaz (Z3 Zlq (Zbf (Zd (Zh Zeq (fC (.int 10)) (fC (.int 18))) Zr)) (fSl (Ze 0) oN (oI (fC (.int 4)))))) (gNm 1)
  (Z6 (wE (Z0 Wz (Zd (Ze 1) Zr)) (Zb4 2))
  (Z6 (wE (Zh Za0 (fC (.int 1)) (Yp 2 Zn (Zd (fC (.int 5)) Zr))) (Wd 3))
  (Z6 (Za7 (tV (Zh gEq (Yp 2 Zn (Zd (fC (.int 8)) Zr)) (fC (.int 5))))
  (wE (fC (.int 6)) (Wd 3))
  fNx)
  (Z6 (wE (Yp 2 J6 (Zd (Ze 3) Zr)) (Wd 4))
  (Z6 (wE (Yp 2 Jk Zr) (Wd 5))
  (Z6 (wE (Z0 Y7 (Zd (Ze 4) (Zd (Ze 5) Zr))) (Wd 6))
  (Z6 (wE (Zbf Zr) (Zb4 7))
  (Z6 (W5 (Zaz (Z0 Wr (Zd (Ze 3) Zr))) (gNm 8)
  (Z6 (wE (Z0 Y6 (Zd (Ze 4) (Zd (Ze 8) Zr))) (Wd 9))
  (Za7 (tV (Zh gGt (Ze 9) (fC (.int 0))))
  (Jo 7 (Zlf (Zd (fBl Zh6 (Zd (Ze 8) Zr)) (Zd (Z0 Yc (Zd (Ze 9) (Zd (Zh Zcu (fC (.int 2)) (Ze 5)) Zr))) Zr))))
  fNx)))
  (Z6 (wE (Z0 Y7 (Zd (Ze 4) (Zd (Ze 5) Zr))) (Wd 10))
  (Z6 (wE (Z0 Y5 (Zd (Ze 10) Zr)) (Zb4 11))
  (Z6 (Zfa 7 (Za7 (tO (tNo (tD (Z0 W0 (Zd (Zdi 11) (Zd (Ze 7) Zr))))) (tV (Zh gNe (Ze 10) (Ze 6))))
  (wE (fC (.bool false)) Jt)
  fNx))
  (Z6 (Ziz 11 12 0 (.int 0))
  (Z6 (Jo 11 (Zuk (Zd (Zbf (Zd (fC (.int 1)) Zr)) (Zd (Zlf (Zd (fC (.int 1)) (Zd (fC (.int 1)) Zr))) Zr))))
  (Za7 (tNo (tD (Z0 W0 (Zd (Z0 Y5 (Zd (Ze 10) Zr)) (Zd (Ze 7) Zr)))))
  (wE (fC (.bool false)) Jt)
  fNx)))))))))))))))
  (wE (fC (.bool true)) Jt))
noncomputable def Zdz:FD:=Zal 1 13 Zen
end My
namespace My
open PySem L2 PySem.Spec
noncomputable def Zdj:FS :=
 (Z6 (Za7 (tV (Zh gLt (Ze 1) (Zci Zfg (Zd (Ze 0) Zr))))
  (wE (Z3 gIx (Ze 0) (Ze 1)) Jt)
  fNx)
  (wE (fC (.int 0)) Jt))
noncomputable def Zm5:FD:=Zal 2 2 Zdj
noncomputable def Zfv:FS :=
 (Z6 (Za7 (tV (Zh gEq (Zh Zg1 (Zh J8 (Ze 0) (fC (.int 7))) (fC (.int 8))) (fC (.int 3))))
  (wE (Zh Za0 (Zh Za0 (Ze 2) (fC (.int 1))) (Zh Zg1 (Zh J8 (Ze 0) (fC (.int 56))) (Zh gSb (Ze 3) (Ze 2)))) Jt)
  fNx)
  (wE (Zh Za0 (Ze 1) (Zh Zg1 (Ze 0) (Zh gSb (Zh Za0 (Ze 2) (fC (.int 1))) (Ze 1)))) Jt))
noncomputable def Zpk:FD:=Zal 4 4 Zfv
noncomputable def Zfd:FS :=
 (Z6 (wE (Zh Zg1 (Zh Zcu (Zh Za0 (Zh Za0 (Zh Zg1 (Ze 0) (fC (.int 2147483629))) (Zh Zcu (fC (.int 9973)) (Ze 1))) (fC (.int 5))) (fC (.int 48271))) (fC (.int 2147483647))) (Wd 2))
  (Z6 (wE (Zh Zg1 (Zh Zcu (Ze 2) (Ze 2)) (fC (.int 2147483587))) (Wd 2))
  (wE (Zh J8 (Zh Zg1 (Zh Zcu (Zh Za0 (Ze 2) (Zh Zcu (fC (.int 7919)) (Ze 1))) (fC (.int 16807))) (fC (.int 2147483563))) (fC (.int 8))) Jt)))
noncomputable def Zf9:FD:=Zal 2 3 Zfd
noncomputable def Zdp:FS :=
 (Z6 (wE (Zbf Zr) (Zb4 2))
  (Z6 (wE (Ze 0) (Wd 3))
  (Z6 (W5 (iRa (Zd (Ze 1) Zr)) (gNm 4)
  (Z6 (wE (Z0 Zf9 (Zd (Ze 0) (Zd (Ze 4) Zr))) (Wd 5))
  (Z6 (Za7 (tV (Zh gGe (Ze 0) (Zh Zeq (fC (.int 10)) (fC (.int 18)))))
  (wE (Zh Zg1 (Ze 3) (fC (.int 720720))) (Wd 5))
  fNx)
  (Z6 (wE (Zh J8 (Ze 3) (fC (.int 720720))) (Wd 3))
  (Jo 2 (Ze 5))))))
  (Zfc 2))))
noncomputable def Zng:FD:=Zal 2 6 Zdp
noncomputable def Zy(p:List Int):Xa:=.list (p.map Xo)
theorem Zt3{p:List Int}{i:Int}(h0:0≤i)(h1:i<p.length):atI (p.map Xo) i=some (.int (p.getD i.toNat 0)):=by
 rw[Zja h0,Xn,Xh (by omega)]
 simp[Xd,Xh (show i.toNat<p.length by omega)]
theorem Zi1{a b:FE}{δ:Zf}{p:List Int}{i:Int}(ha:EvV a δ (Zy p))(hb:EvV b δ (.int i))(h0:0≤i)(h1:i<p.length):EvV (Z3 gIx a b) δ (.int (p.getD i.toNat 0)):=Zwq ha hb (Zt3 h0 h1)
theorem Z6z:Zeq (.int 10) (.int 18)=some (.int 1000000000000000000):=rfl
end My
namespace My
open PySem L2 PySem.Spec
noncomputable def dk(x:Int):OT:=.nd [.fz (.int x)]
theorem Z04(x:Int):(dk x).data= .list [.int x]:=by unfold dk;rw[OT.data_nd];rfl
theorem btc{n:Nat}{m:Int}(h1:decide (-(2^n)<m)=true)(h2:decide (m<2^n)=true):Bt n m:=Bt.of_lt (of_decide_eq_true h1) (of_decide_eq_true h2)
theorem Zwe{δ:Zf}{i n:Nat}{e j:FE}{ts:List OT}{d:Xa}{k:Int}(h:EvV e δ d)(hi:δ[i]? =some (some (.nd ts)))(hj:EvV j δ (.int k))(hx:ixN ts.length k=some n):Zw4 i e j δ= .nx (δ.set i (some (.nd (ts.set n (.fz d))))):=by
 obtain⟨t,e1,e2⟩:=h
 obtain⟨u,e3,e4⟩:=hj
 rw[Z0r,e1,Yj,hi]
 show onO (j δ) _=_
 rw[e3,Yj,e4]
 show onX (ixN ts.length k) _=_
 rw[hx,e2];rfl
theorem Zla(x:Int){m:Int}(h0:0<m)(hb:Bt 400 m):ToldI Zn (dk x) [.int m] λd t'=>∃r x',d= .int r∧0≤r∧r<m∧t'=dk x':=by
 have i0:∀{δ:Zf},δ[0]? =some (some (dk x))->EvV (Z3 gIx (Zdi 0) (fC (.int 0))) δ (.int x):=λh=>Zwq (Zfj h (Z04 x)) Z5 rfl
 exact Zdh rfl (Z7 (Zas (Z2 (Zjb (i0 rfl) Za (by omega))) (Z7 (Zas (Zwe (n:=0) (Zo (i0 rfl) Za (Zd0 (Zdy (by omega) hb))) rfl Z5 rfl) (Zky (Y9 Za ⟨_,rfl,_,_,rfl,Zl4 h0,Zli h0,rfl⟩))))))
theorem Zah{δ:Zf}{i:Nat}{x:Int}{as:FA}{many:Int}{Q:Xa->Zf->Prop}(hi:δ[i]? =some (some (dk x)))(ha:EvA as δ [.int many])(h0:0<many)(hb:Bt 400 many)(q:∀r x',0≤r->r<many->Q (.int r) (δ.set i (some (dk x')))):EvP (Yp i Zn as) δ Q :=
 Zba hi (Zh4 ha ⟨dk x,hi,(Zla x h0 hb).mono λd t' z=>by
  obtain⟨r,x',rfl,r0,r1,rfl⟩:=z
  exact q r x' r0 r1⟩)
theorem Zb9{n:Nat}{t b:Int}(hb:0<b)(hB:Bt n b)(hn:n≤9000:=by decide):Told Yc [.int t,.int b] (frD (Qa t b)):=by
 obtain⟨z',e⟩:=Ziu (f1:=λx y z=>[some (.fz (.int t)),some (.fz (.int b)),some (.fz (.int x)),some (.fz (.int y)),z]) (f2:=λx y z=>[]) (t:=tV (Zh gNe (Ze 3) (fC (.int 0)))) (u:=Z6 (wE (Zh Zg1 (Ze 2) (Ze 3)) (Wd 4)) (Z6 (wE (Ze 3) (Wd 2)) (wE (Ze 4) (Wd 3)))) (λx y z=>Zd3 (Zt5 Za Z5 rfl)) (λx y z hy=>⟨_,Wg (Z2 (Zjb Za Za hy)) (Wg (Z2 Za) (Z2 Za))⟩) (b.toNat+1) (t.natAbs:Int) b none (by omega) (by omega) (by omega)
 have eg:(Bb (t.natAbs:Int) b:Int)=shr t b:=by
  unfold shr
  rw[if_neg (by omega),Vf,Vf,Uw]
 obtain⟨e1,e2⟩:=Z3a (t:=t) (b:=b) (by omega) hB hn _ eg
 exact Yx rfl<|Wo (Z2 (Zbi (Zb Za Zj) (Zoy t)))<|Wo (Z2 Za)<|Wo (Zjx _ e (by intro z;cases z)) (Jq (Zfq (Zb (Zo Za Za e1) (Zb (Zo Za Za e2) Zj)) (show 2≤1000 by decide)))
theorem Zyy{a b c lo hi:Int}(ha:lo≤a∧a≤hi)(hb:lo≤b∧b≤hi)(hc:lo≤c∧c≤hi){r:Int}(h0:0≤r)(h1:r<3):∃x,gIx (.list [.int a,.int b,.int c]) (.int r)=some (.fz (.int x))∧lo≤x∧x≤hi:=by
 obtain rfl|rfl|rfl:r=0∨r=1∨r=2:=by omega
 ·exact⟨a,rfl,ha⟩
 ·exact⟨b,rfl,hb⟩
 ·exact⟨c,rfl,hc⟩
theorem Zzy{m n:Nat}{x:Int}(h0:0≤x)(h1:x≤2^m)(h:m<n):Bt n x:=by
 have:(2:Int)^m<2^n:=by
  have:=Nat.pow_lt_pow_right (a:=2) (by decide) h
  exact_mod_cast this
 exact Bt.of_lt (Ux (Int.neg_neg_of_pos (Int.pow_pos (by decide))) h0) (Int.lt_of_le_of_lt h1 this)
theorem Ydw:Zeq (.int 10) (.int 40)=some (.int 10000000000000000000000000000000000000000):=rfl
theorem Yb6:Zeq (.int 10) (.int 60)=some (.int 1000000000000000000000000000000000000000000000000000000000000):=rfl
theorem Ycp:Zeq (.int 10) (.int 61)=some (.int 10000000000000000000000000000000000000000000000000000000000000):=rfl
theorem Z8x:Zeq (.int 3) (.int 60)=some (.int 42391158275216203514294433201):=rfl
theorem Zib(c:Int){k:Int}(h0:0≤k)(h1:k≤3):∃v,Told Yh [.int c,.int k] (.int v)∧Bt 210 v:=by
 have bk:Bt 3 (k+1):=Bt.of_lt (by omega) (by omega)
 have bk0:Bt 3 k:=Bt.of_lt (by omega) (by omega)
 have bc:Bt 134 (c.fmod 10000000000000000000000000000000000000000):=Bt.of_lt (Ux (by decide +kernel) (Zl4 (by decide))) (Int.lt_trans (Zli (by decide)) (by decide +kernel))
 have b3:Bt 96 42391158275216203514294433201:=btc (by decide +kernel) (by decide +kernel)
 have b4:Bt 16 48271:=btc (by decide +kernel) (by decide +kernel)
 have b5:Bt 17 69621:=btc (by decide +kernel) (by decide +kernel)
 have bn:=((bc.mul b4).add ((b3.mul bk).mul bk)).add bk0
 have key:∃d,Told Yh [.int c,.int k] d∧∃v,d= .int v∧Bt 210 v:=by
  refine Zt6 rfl (Zcp (Z2 (Jj (Jj (Zo (Zjb Za (Zo Z5 Z5 Ydw) (by decide)) Z5 (Ju (Wv bc b4))) (Zo (Zo (Zo Z5 Z5 Z8x) (Jj Za Z5) (Ju (Wv b3 bk))) (Jj Za Z5) (Ju (Wv (b3.mul bk) bk)))) Za)) ?_)
  generalize c.fmod 10000000000000000000000000000000000000000*48271+42391158275216203514294433201*(k+1)*(k+1)+k=N at bn⊢
  refine Zcp (Z2 (Jj (Zo Za Za (Ju (Wv bn bn))) (Zo Z5 Za (Ju (Wv b5 bn))))) ?_
  have bN:=(bn.mul bn).add (b5.mul bn)
  generalize N*N+69621*N=M at bN⊢
  refine Zi6 (Zzs (Zjb (Zo Za Za (Ju (Wv bN bN))) (Jj (Zo Z5 Z5 Ycp) Z5) (by decide)) Z5) ⟨_,rfl,?_⟩
  have q0:=Zl4 (i:=M*M) (j:=10000000000000000000000000000000000000000000000000000000000000+7) (by decide)
  have q1:=Zli (i:=M*M) (j:=10000000000000000000000000000000000000000000000000000000000000+7) (by decide)
  rw[Wt (by decide)]
  exact Bt.of_le (x:=(M*M).fmod (10000000000000000000000000000000000000000000000000000000000000+7)) (Bt.of_lt (Ux (by decide +kernel) q0) (Int.lt_trans q1 (by decide +kernel))) (Vw _ _)
 obtain⟨d,h,v,rfl,b⟩:=key
 exact⟨v,h,b⟩
theorem Yad{as:FA}{δ:Zf}{ts:List OT}(h:as δ=some (ts,δ))(hl:ts.length≤1000):Zbf as δ=some (.nd ts,δ):=by
 rw[Zc1,h]
 exact if_pos (e:=none) (show ts.length≤Xq by rw[X7];omega)
theorem Z22{e:FE}{as:FA}{δ:Zf}{o:OT}{ts:List OT}(h:e δ=some (o,δ))(k:as δ=some (ts,δ)):Zd e as δ=some (o :: ts,δ):=by
 rw[Ze9,h]
 show(as δ).bind _=_
 rw[k];rfl
theorem Zv2{e:FE}{δ:Zf}{i:Int}(h:EvV e δ (.int i)):e δ=some (.fz (.int i),δ):=by
 obtain⟨t,e1,e2⟩:=h
 rw[e1,Zia e2]
theorem Zlj{e:FE}{δ:Zf}{o:OT}(h:e δ=some (o,δ)):wE e Jt δ= .rt o δ:=by rw[Jv,h];rfl
theorem Zwu(c:Int):∃x,Wz [.int c]= .ok (dk x):=by
 have key:∃x δ',Jg [some (.fz (.int c))]= .rt (dk x) δ':=by
  by_cases h:1000000000000000000≤c
  ·exact⟨c-1000000000000000000,_,Zj6 (Zd2 (Zd3 (Z54 Za (Zo Z5 Z5 Z6z) (decide_eq_true h))) (Zlj (Yad (Z22 (Zv2 (Zqi Za (Zo Z5 Z5 Z6z))) rfl) (BP rfl))))⟩
  ·obtain⟨v1,e1,b1⟩:=Zib c (k:=1) (by decide) (by decide)
   obtain⟨v2,e2,b2⟩:=Zib c (k:=2) (by decide) (by decide)
   obtain⟨v3,e3,b3⟩:=Zib c (k:=3) (by decide) (by decide)
   have bp:Bt 200 1000000000000000000000000000000000000000000000000000000000000:=btc (by decide +kernel) (by decide +kernel)
   have st:∀{k v:Int},Told Yh [.int c,.int k] (.int v)->EvV (Z0 Yh (Zd (Ze 0) (Zd (fC (.int k)) Zr))) [some (.fz (.int c))] (.int v):=λe=>Z1 (Zb Za (Zb Z5 Zj)) e
   exact⟨_,_,Wg (Je (Zd3 (Z54 Za (Zo Z5 Z5 Z6z) (decide_eq_false h))) rfl) (Zlj (Yad (Z22 (Zv2 (Jj (Zo (Jj (Zo (st e1) (Zo Z5 Z5 Yb6) (Ju (Wv b1 bp))) (st e2)) (Zo Z5 Z5 Yb6) (Ju (Wv ((b1.mul bp).add b2) bp))) (st e3))) rfl) (BP rfl)))⟩
 obtain⟨x,δ',e⟩:=key
 refine⟨x,?_⟩
 unfold Wz
 rw[Zf8 (np:=1) (by rfl)]
 show(Jg [some (.fz (.int c))]).told=_
 rw[e];rfl
noncomputable def Yr(n:Nat)(f:Nat->Nat->Xa):OT:=.nd ((Xr n).map λi=>.nd ((Xr n).map λj=>.fz (f i j)))
noncomputable def Zay(n:Nat)(f:Nat->Nat->Xa):Xa:=.list ((Xr n).map λi=>.list ((Xr n).map λj=>f i j))
theorem Zat(n:Nat)(f:Nat->Nat->Xa):(Yr n f).data=Zay n f:=by
 unfold Yr Zay
 rw[OT.data_nd,Qx]
 refine congrArg QH (Xv λi _=>?_)
 show(OT.nd _).data=_
 rw[OT.data_nd,Qx]
 exact congrArg QH (Xv λj _=>OT.data_fz _)
theorem Zsv{n:Nat}{f g:Nat->Nat->Xa}(h:∀i j,i<n->j<n->f i j=g i j):Yr n f=Yr n g:=by
 unfold Yr
 refine congrArg OT.nd (Xv λi hi=>congrArg OT.nd (Xv λj hj=>congrArg OT.fz (h i j (QM.mp hi) (QM.mp hj))))
noncomputable def upG(f:Nat->Nat->Xa)(a b:Nat)(d:Xa):Nat->Nat->Xa:=λi j=>if i=a∧j=b then d else f i j
theorem Zff{α:Type}{n a:Nat}(f:Nat->α)(x:α):((Xr n).map f).set a x=(Xr n).map λi=>if i=a then x else f i:=by
 refine List.ext_getElem? λi=>?_
 rw[List.getElem?_set,Xg,Ql,Xn,Xn]
 by_cases h:a=i
 ·subst h
  by_cases c:a<n
  ·rw[if_pos rfl,if_pos c,Q4 c];simp
  ·rw[if_pos rfl,if_neg c,JH (by simp;omega)];rfl
 ·rw[if_neg h]
  by_cases c:i<n
  ·rw[Q4 c];simp[JP h]
  ·rw[JH (by simp;omega)];rfl
theorem Zqy{i n:Nat}{e j j2:FE}{δ:Zf}{d:Xa}{f:Nat->Nat->Xa}{a b:Nat}(he:EvV e δ d)(hi:δ[i]? =some (some (Yr n f)))(hj:EvV j δ (.int a))(ha:a<n)(hk:EvV j2 δ (.int b))(hb:b<n) :
  Zcj i e j j2 δ= .nx (δ.set i (some (Yr n (upG f a b d)))):=by
 obtain⟨_,e2,d2⟩:=he
 obtain⟨_,e3,d3⟩:=hj
 obtain⟨_,e4,d4⟩:=hk
 unfold Zcj Yr at*
 rw[Jv,e2,Yj,hi]
 dsimp only
 rw[Jv,e3,Yj,d3]
 dsimp only
 rw[Zrx (by rw[Xg,Ql];exact ha)]
 dsimp only
 rw[Xn,Q4 ha,Qg]
 dsimp only
 rw[Jv,e4,Yj,d4]
 dsimp only
 rw[Zrx (by rw[Xg,Ql];exact hb)]
 dsimp only
 rw[d2,Zff,Zff]
 refine congrArg RS.nx (congrArg (δ.set i) (congrArg some (congrArg OT.nd (Xv λk _=>?_))))
 by_cases c:k=a
 ·subst c
  rw[if_pos rfl]
  refine congrArg OT.nd (Xv λl _=>?_)
  unfold upG
  by_cases c2:l=b
  ·rw[if_pos c2,if_pos ⟨rfl,c2⟩]
  ·rw[if_neg c2,if_neg λz=>c2 z.2]
 ·rw[if_neg c]
  refine congrArg OT.nd (Xv λl _=>?_)
  unfold upG
  rw[if_neg λz=>c z.1]
noncomputable def inG(R:Nat->Nat->Int):Nat->Nat->Xa:=λi j=>.int (R i j)
noncomputable def upR(R:Nat->Nat->Int)(a b:Nat)(v:Int):Nat->Nat->Int:=λi j=>if i=a∧j=b then v else R i j
theorem Z3d(R:Nat->Nat->Int)(a b:Nat)(v:Int):upG (inG R) a b (.int v)=inG (upR R a b v):=by
 funext i j
 unfold upG inG upR
 by_cases c:i=a∧j=b
 ·rw[if_pos c,if_pos c]
 ·rw[if_neg c,if_neg c]
theorem Zk3{i n:Nat}{e j j2:FE}{δ:Zf}{v:Int}{R:Nat->Nat->Int}{a b:Nat}(he:EvV e δ (.int v))(hi:δ[i]? =some (some (Yr n (inG R))))(hj:EvV j δ (.int a))(ha:a<n)(hk:EvV j2 δ (.int b))(hb:b<n) :
  Zcj i e j j2 δ= .nx (δ.set i (some (Yr n (inG (upR R a b v))))):=by
 rw[←Z3d]
 exact Zqy he hi hj ha hk hb
theorem Zfh{n a b i0 i9 i10:Nat}{f:Nat->Nat->Xa}{δ:Zf}(ha:a<n)(hb:b<n)(h6:δ[i0]? =some (some (Yr n f)))(h9:δ[i9]? =some (some (.fz (.int a))))(h10:δ[i10]? =some (some (.fz (.int b)))):EvV (Z3 gIx (Z3 gIx (Zdi i0) (Ze i9)) (Ze i10)) δ (f a b):=by
 refine Ji (Ji (Zfj h6 (Zat n f)) (Za h9) (d:=.list ((Xr n).map λj=>f a j)) ?_) (Za h10) ?_
 ·unfold Zay
  rw[Zh9,Zjq,Xn,Q4 ha];rfl
 ·rw[Zh9,Zjq,Xn,Q4 hb];rfl
theorem Zlm{n i0:Nat}{f:Nat->Nat->Xa}{δ:Zf}(h:δ[i0]? =some (some (Yr n f))):EvV (Zci Zfg (Zd (Zdi i0) Zr)) δ (.int n):=by
 have:=Zr7 (δ:=δ) (e:=Zdi i0) (ds:=(Xr n).map λi=>.list ((Xr n).map λj=>f i j)) (Zfj h (Zat n f))
 rwa[Xg,Ql]at this
theorem Zkx{n:Nat}(hn:n≤10):Ym [.int n]= .ok (Yr n (inG λ_ _=>0)):=by
 have e:(Wy 1 [0] (iRa (Zd (Ze 0) Zr)) (gNm 0) Zhj (Wy 1 [] (iRa (Zd (Ze 1) Zr)) (gNm 0) Zhj (fC (.int 0)))) [some (.fz (.int n))]=some (Yr n (inG λ_ _=>0),[some (.fz (.int n))]) :=
  Ze3 (cs:=[some (.fz (.int n))]) (Xr n) (λi:Nat=>Xo (0+(i:Int))) (λi=>.nd ((Xr n).map λj=>.fz (inG (λ_ _=>0) i j))) (Zcz (Zb Za Zj) (by omega)) (by rw[Ql,X7];omega) rfl λi _=>
   Ze3 (cs:=[]) (Xr n) (λi:Nat=>Xo (0+(i:Int))) (λj=>.fz (inG (λ_ _=>0) i j)) (Zcz (Zb Za Zj) (by omega)) (by rw[Ql,X7];omega) rfl λj _=>rfl
 unfold Ym
 rw[Zf8 (np:=1) (by rfl)]
 show(Wj [some (.fz (.int n))]).told=_
 unfold Wj
 rw[Zlj e];rfl
noncomputable def ph(R:Nat->Nat->Int)(k:Nat):Nat->Nat->Int:=λi j=>min (R i j) (R i k+R k j)
noncomputable def fw(R:Nat->Nat->Int):Nat->Nat->Nat->Int
 | 0=>R
 | k+1=>ph (fw R k) k
structure Nn(R:Nat->Nat->Int):Prop where
 z:∀i,R i i=0
 nn:∀i j,0≤R i j
 sym:∀i j,R i j=R j i
theorem Nn.ph{R:Nat->Nat->Int}(h:Nn R)(k:Nat):Nn (ph R k) where
 z:=λi=>by
  unfold My.ph
  have:=h.nn i k
  have:=h.nn k i
  rw[h.z];omega
 nn:=λi j=>by
  unfold My.ph
  have:=h.nn i j
  have:=h.nn i k
  have:=h.nn k j
  omega
 sym:=λi j=>by
  unfold My.ph
  rw[h.sym i j,h.sym i k,h.sym k j,Int.add_comm]
theorem Nn.fw{R:Nat->Nat->Int}(h:Nn R)(k:Nat):Nn (fw R k):=by
 induction k with
 | zero=>exact h
 | succ k ih=>exact ih.ph k
noncomputable def Lg(R:Nat->Nat->Int)(k:Nat):Prop:=∀m,m<k->∀i j,R i j≤R i m+R m j
theorem Lg.ph{R:Nat->Nat->Int}{k:Nat}(h:Nn R)(l:Lg R k):Lg (ph R k) (k+1):=λm hm i j=>by
 have n1:=h.nn k m
 have n2:=h.nn m k
 have z:=h.z k
 unfold My.ph
 rcases Nat.lt_or_ge m k with c|c
 ·have:=l m c i j
  have:=l m c i k
  have:=l m c k j
  omega
 ·have:m=k:=by omega
  subst this
  rw[z]
  omega
theorem Zzd{R:Nat->Nat->Int}(h:Nn R)(k:Nat):Lg (fw R k) k:=by
 induction k with
 | zero=>exact λm hm=>absurd hm (Bq m)
 | succ k ih=>exact Lg.ph (h.fw k) ih
noncomputable def mix(R:Nat->Nat->Int)(k a b:Nat):Nat->Nat->Int:=λi j=>if i<a∨(i=a∧j<b)then ph R k i j else R i j
theorem Z3h{R:Nat->Nat->Int}(h:Nn R)(k a b i:Nat):mix R k a b i k=R i k:=by
 unfold mix
 split
 ·unfold ph;rw[h.z];have:=h.nn i k;omega
 ·rfl
theorem Z44{R:Nat->Nat->Int}(h:Nn R)(k a b j:Nat):mix R k a b k j=R k j:=by
 unfold mix
 split
 ·unfold ph;rw[h.z];have:=h.nn k j;omega
 ·rfl
theorem Zrl(a b:Int):Zu9 [.int a,.int b]=some (.int (min a b)):=by
 show some (Xo (if b<a then b else a))=_
 refine congrArg (λz=>some (Xo z)) ?_
 split<;>omega
theorem Zit{n:Nat}{R S:Nat->Nat->Int}(h:∀i j,i<n->j<n->R i j=S i j):Yr n (inG R)=Yr n (inG S):=Zsv λi j hi hj=>congrArg Xo (h i j hi hj)
theorem Zk5{n:Nat}(hn:n≤10){R:Nat->Nat->Int}(h:Nn R):ToldI Wu (Yr n (inG R)) [] λ_ t'=>t'=Yr n (inG (fw R n)):=by
 refine Zdh rfl (Z7 (Zas (Z2 (Zlm rfl)) ?_))
 refine Zai (ds:=Zdd 0 n) (λk δ=>∃z2 z3 z4,δ=[some (Yr n (inG (fw R k))),some (.fz (.int n)),z2,z3,z4]) (Zcz (Zb Za Zj) (by omega)) ⟨none,none,none,rfl⟩ (λk d δ hd q=>?_) λδ' q=>?_
 ·obtain⟨z2,z3,z4,rfl⟩:=q
  obtain⟨hk,rfl⟩:=Wb hd
  rw[JZ]
  have hN:=h.fw k
  refine⟨_,rfl,Zai (ds:=Zdd 0 n) (λa δ=>∃z3 z4,δ=[some (Yr n (inG (mix (fw R k) k a 0))),some (.fz (.int n)),some (.fz (.int k)),z3,z4]) (Zcz (Zb Za Zj) (by omega)) ⟨z3,z4,?_⟩ (λa d δ hd q=>?_) λδ' q=>?_⟩
  ·rw[Zit (R:=mix (fw R k) k 0 0) (S:=fw R k) λi j _ _=>if_neg (by omega)];rfl
  ·obtain⟨z3,z4,rfl⟩:=q
   obtain⟨ha,rfl⟩:=Wb hd
   rw[JZ]
   refine⟨_,rfl,Zai (ds:=Zdd 0 n) (λb δ=>∃z4,δ=[some (Yr n (inG (mix (fw R k) k a b))),some (.fz (.int n)),some (.fz (.int k)),some (.fz (.int a)),z4]) (Zcz (Zb Za Zj) (by omega)) ⟨z4,rfl⟩ (λb d δ hd q=>?_) λδ' q=>?_⟩
   ·obtain⟨z4,rfl⟩:=q
    obtain⟨hb,rfl⟩:=Wb hd
    rw[JZ]
    have v:min (mix (fw R k) k a b a b) (mix (fw R k) k a b a k+mix (fw R k) k a b k b)=ph (fw R k) k a b:=by
     rw[Z3h hN,Z44 hN,show mix (fw R k) k a b a b=fw R k a b from if_neg (by omega)];rfl
    refine⟨_,rfl,Zas (Zk3 (n:=n) (a:=a) (b:=b) (v:=ph (fw R k) k a b) (EvV.cast (Zbi (Zb (Zfh (f:=inG (mix (fw R k) k a b)) (i0:=0) (i9:=3) (i10:=4) ha hb rfl rfl rfl) (Zb (Jj (Zfh (f:=inG (mix (fw R k) k a b)) (i0:=0) (i9:=3) (i10:=2) ha hk rfl rfl rfl) (Zfh (f:=inG (mix (fw R k) k a b)) (i0:=0) (i9:=2) (i10:=4) hk hb rfl rfl rfl)) Zj)) (Zrl _ _)) (congrArg Xo v)) rfl Za ha Za hb) ⟨some (.fz (.int b)),?_⟩⟩
    rw[Zit (R:=upR (mix (fw R k) k a b) a b (ph (fw R k) k a b)) (S:=mix (fw R k) k a (b+1)) λi j _ _=>?_]
    ·rfl
    ·unfold upR mix
     by_cases c:i=a∧j=b
     ·rw[if_pos c,if_pos (by omega),c.1,c.2]
     ·rw[if_neg c]
      by_cases c2:i<a∨(i=a∧j<b)
      ·rw[if_pos c2,if_pos (by omega)]
      ·rw[if_neg c2,if_neg (by omega)]
   ·obtain⟨z4,rfl⟩:=q
    refine⟨some (.fz (.int a)),z4,?_⟩
    rw[Y4,Zit (R:=mix (fw R k) k a n) (S:=mix (fw R k) k (a+1) 0) λi j _ hj=>?_]
    ·unfold mix
     by_cases c:i<a∨(i=a∧j<n)
     ·rw[if_pos c,if_pos (by omega)]
     ·rw[if_neg c,if_neg (by omega)]
  ·obtain⟨z3,z4,rfl⟩:=q
   refine⟨some (.fz (.int k)),z3,z4,?_⟩
   rw[Y4,Zit (R:=mix (fw R k) k n 0) (S:=fw R (k+1)) λi j hi _=>if_pos (.inl hi)]
 ·obtain⟨z2,z3,z4,rfl⟩:=q
  rw[Y4]
  exact⟨_,rfl,rfl⟩
noncomputable def bb(bits:Int)(i:Nat):Int:=Builtin.bitAnd (bits/2^i) 1
noncomputable def adC(R:Nat->Nat->Int)(bits w:Int):Nat->Nat->Int:=λi j=>if bb bits i=bb bits j then R i j else R i j+w
noncomputable def mxC(R:Nat->Nat->Int)(bits w:Int)(a b:Nat):Nat->Nat->Int:=λi j=>if i<a∨(i=a∧j<b)then adC R bits w i j else R i j
theorem Zv4{δ:Zf}{k i:Nat}{bits:Int}(h1:δ[1]? =some (some (.fz (.int bits))))(hk:δ[k]? =some (some (.fz (.int i)))):EvV (Zh Z6t (Zh Z4k (Ze 1) (Ze k)) (fC (.int 1))) δ (.int (bb bits i)):=by
 have e:Z4k (.int bits) (.int i)=some (.int (bits/2^i)):=by
  show(if decide ((0:Int)≤i)=true then some (Xo (bits/2^((i:Int).toNat)))else none)=_
  rw[if_pos (decide_eq_true (by omega)),Ba]
 exact Zo (Zo (Za h1) (Za hk) e) Z5 rfl
theorem Zoe{n:Nat}(hn:n≤10)(R:Nat->Nat->Int)(bits w:Int):ToldI Wa (Yr n (inG R)) [.int bits,.int w] λ_ t'=>t'=Yr n (inG (adC R bits w)):=by
 refine Zdh rfl (Zai (ds:=Zdd 0 n) (λa δ=>∃z3 z4,δ=[some (Yr n (inG (mxC R bits w a 0))),some (.fz (.int bits)),some (.fz (.int w)),z3,z4]) (Zcz (Zb (Zlm rfl) Zj) (by omega)) ⟨none,none,?_⟩ (λa d δ hd q=>?_) λδ' q=>?_)
 ·rw[Zit (R:=mxC R bits w 0 0) (S:=R) λi j _ _=>if_neg (by omega)];rfl
 ·obtain⟨z3,z4,rfl⟩:=q
  obtain⟨ha,rfl⟩:=Wb hd
  rw[JZ]
  refine⟨_,rfl,Zai (ds:=Zdd 0 n) (λb δ=>∃z4,δ=[some (Yr n (inG (mxC R bits w a b))),some (.fz (.int bits)),some (.fz (.int w)),some (.fz (.int a)),z4]) (Zcz (Zb (Zlm rfl) Zj) (by omega)) ⟨z4,rfl⟩ (λb d δ hd q=>?_) λδ' q=>?_⟩
  ·obtain⟨z4,rfl⟩:=q
   obtain⟨hb,rfl⟩:=Wb hd
   rw[JZ]
   have v:mxC R bits w a b a b=R a b:=if_neg (by omega)
   have up:∀x:Int,x=adC R bits w a b->Yr n (inG (upR (mxC R bits w a b) a b x))=Yr n (inG (mxC R bits w a (b+1))):=λx hx=>Zit λi j _ _=>by
    unfold upR mxC
    by_cases c:i=a∧j=b
    ·rw[if_pos c,if_pos (by omega),hx,c.1,c.2]
    ·rw[if_neg c]
     by_cases c2:i<a∨(i=a∧j<b)
     ·rw[if_pos c2,if_pos (by omega)]
     ·rw[if_neg c2,if_neg (by omega)]
   refine⟨_,rfl,Zjk (Zdu (Zd3 (Zt5 (Zv4 rfl rfl) (Zv4 rfl rfl) rfl)) ⟨λc=>?_,λc=>?_⟩)⟩
   ·have c':bb bits a≠bb bits b:=by simpa using c
    refine Zas (Zk3 (n:=n) (a:=a) (b:=b) (v:=R a b+w) (Jj (EvV.cast (Zfh (f:=inG (mxC R bits w a b)) (i0:=0) (i9:=3) (i10:=4) ha hb rfl rfl rfl) (congrArg Xo v)) Za) rfl Za ha Za hb) ⟨some (.fz (.int b)),?_⟩
    rw[up _ (show R a b+w=adC R bits w a b from(if_neg c').symm)];rfl
   ·have c':bb bits a=bb bits b:=by simpa using c
    refine Zhk ⟨some (.fz (.int b)),?_⟩
    rw[Zit (R:=mxC R bits w a (b+1)) (S:=mxC R bits w a b) λi j _ _=>?_]
    ·rfl
    ·unfold mxC
     by_cases c:i=a∧j=b
     ·rw[if_pos (by omega),if_neg (by omega),c.1,c.2]
      exact if_pos c'
     ·by_cases c2:i<a∨(i=a∧j<b)
      ·rw[if_pos c2,if_pos (by omega)]
      ·rw[if_neg c2,if_neg (by omega)]
  ·obtain⟨z4,rfl⟩:=q
   refine⟨some (.fz (.int a)),z4,?_⟩
   rw[Y4,Zit (R:=mxC R bits w a n) (S:=mxC R bits w (a+1) 0) λi j _ hj=>?_]
   ·unfold mxC
    by_cases c:i<a∨(i=a∧j<n)
    ·rw[if_pos c,if_pos (by omega)]
    ·rw[if_neg c,if_neg (by omega)]
 ·obtain⟨z3,z4,rfl⟩:=q
  rw[Y4,Zit (R:=mxC R bits w n 0) (S:=adC R bits w) λi j hi _=>if_pos (.inl hi)]
  exact⟨_,rfl,rfl⟩
structure Lt(n:Nat)(R:Nat->Nat->Int):Prop extends Nn R where
 tri:∀i j m,m<n->R i j≤R i m+R m j
theorem Lt.add{n:Nat}{R:Nat->Nat->Int}(h:Lt n R){bits w:Int}(hw:0≤w):Lt n (adC R bits w) where
 z:=λi=>by unfold adC;rw[if_pos rfl];exact h.z i
 nn:=λi j=>by
  unfold adC
  have:=h.nn i j
  split<;>omega
 sym:=λi j=>by
  unfold adC
  rw[h.sym i j]
  by_cases c:bb bits i=bb bits j
  ·rw[if_pos c,if_pos c.symm]
  ·rw[if_neg c,if_neg λz=>c z.symm]
 tri:=λi j m hm=>by
  unfold adC
  have:=h.tri i j m hm
  split<;>split<;>split<;>first|omega|(rename_i c1 c2 c3;exact absurd (c2.trans c3) c1)
noncomputable def sdL:Nat->List (List Int)
 | 0=>[[]]
 | k+1=>sdL k ++ (sdL k).map λs=>s ++ [(k:Int)+1]
noncomputable def sdN(n:Nat):List (List Int):=(sdL (n-1)).filter λs=>!decide (s=[])
theorem Zlg(k:Nat):(sdL k).length=2^k:=by
 induction k with
 | zero=>rfl
 | succ k ih=>rw[sdL,Q8,Xg,ih,Nat.pow_succ];omega
theorem Zgd(k:Nat):∀s∈sdL k,s.length≤k∧s.Pairwise (·<·)∧∀x∈s,1≤x∧x≤k:=by
 induction k with
 | zero=>intro s hs;rw[Xu.mp hs];exact⟨X4 _,.nil,λ_ m=>nomatch m⟩
 | succ k ih=>
  intro s hs
  rcases X3.mp hs with hs|hs
  ·obtain⟨h1,h2,h3⟩:=ih s hs
   exact⟨by omega,h2,λx hx=>by have:=h3 x hx;omega⟩
  ·obtain⟨r,hr,rfl⟩:=XF.mp hs
   obtain⟨h1,h2,h3⟩:=ih r hr
   refine⟨by rw[Q8];exact Nat.succ_le_succ h1,List.pairwise_append.mpr ⟨h2,List.pairwise_singleton ..,λx hx y hy=>?_⟩,λx hx=>?_⟩
   ·rw[Xu.mp hy]
    have:=h3 x hx
    omega
   ·rcases X3.mp hx with z|z
    ·have:=h3 x z;omega
    ·rw[Xu.mp z];omega
theorem Zo3(p:List Int):Sh 1 (Zy p):=lay_ints p
theorem Zsr(a b:List Int):gNe (Zy a) (Zy b)=some (.bool (!decide (a=b))):=by
 have s:∀p,VJ (Zy p)=true:=λp=>((Zo3 p).shp (by omega)).ok
 unfold gNe
 rw[if_pos (by rw[s,s];rfl)]
 exact congrArg (λz=>some (PyData.bool (!z))) (Zrd a b)
noncomputable def frG(T:Nat->Nat->Rat):Nat->Nat->Xa:=λi j=>frD (T i j)
theorem Zxs{q r:Rat}(bq:Bt 400 q.num)(dq:Bt 400 (q.den:Int))(br:Bt 400 r.num)(dr:Bt 400 (r.den:Int)):Told Zc2 [frD q,frD r] (frD (q+r)):=by
 rw[←Zm8]
 exact Yx rfl<|Jq<|Z1 (Zb (Jj (Zo (Ji (d:=.int q.num) Za Z5 rfl) (Ji (d:=.int (r.den:Int)) Za Z5 rfl) (Ju (Wv bq dr))) (Zo (Ji (d:=.int r.num) Za Z5 rfl) (Ji (d:=.int (q.den:Int)) Za Z5 rfl) (Ju (Wv br dq)))) (Zb (Zo (Ji (d:=.int (q.den:Int)) Za Z5 rfl) (Ji (d:=.int (r.den:Int)) Za Z5 rfl) (Ju (Wv dq dr))) Zj)) (Zf4 (Int.ne_of_gt (Int.mul_pos (Za1 q) (Za1 r))) (dq.mul dr))
theorem Zmy{q r:Rat}{m n:Nat}(bq:Bt m q.num)(dq:Bt m (q.den:Int))(br:Bt n r.num)(dr:Bt n (r.den:Int))(h:r≤q)(hmn:m+n≤100000000:=by decide):Told J5 [frD q,frD r] (.bool false) :=
 Yx rfl<|Jq<|Zuy (Zo (Ji (d:=.int q.num) Za Z5 rfl) (Ji (d:=.int (r.den:Int)) Za Z5 rfl) (Ju (Wv bq dr hmn))) (Zo (Ji (d:=.int r.num) Za Z5 rfl) (Ji (d:=.int (q.den:Int)) Za Z5 rfl) (Ju (Wv br dq (by omega)))) (decide_eq_false λz=>absurd ((Zo0 q r).mp z) (Rat.not_lt.mpr h))
structure Tb(n:Nat)(T:Nat->Nat->Rat):Prop where
 num:∀i j,Bt 400 (T i j).num
 den:∀i j,Bt 400 ((T i j).den:Int)
 tri:∀i j k,j<n->T i k≤T i j+T j k
theorem Z0c{n a b i0 i9 i10:Nat}{f:Nat->Nat->Xa}{δ:Zf}(ha:a<n)(hb:b<n)(h6:δ[i0]? =some (some (.fz (Zay n f))))(h9:δ[i9]? =some (some (.fz (.int a))))(h10:δ[i10]? =some (some (.fz (.int b)))):EvV (Z3 gIx (Z3 gIx (Ze i0) (Ze i9)) (Ze i10)) δ (f a b):=by
 refine Ji (Ji (Za h6) (Za h9) (d:=.list ((Xr n).map λj=>f a j)) ?_) (Za h10) ?_
 ·unfold Zay
  rw[Zh9,Zjq,Xn,Q4 ha];rfl
 ·rw[Zh9,Zjq,Xn,Q4 hb];rfl
theorem Zt7{n:Nat}{T:Nat->Nat->Rat}(h:Tb n T){i j k:Nat}(hi:i<n)(hj:j<n)(hk:k<n):Told Jd [Zay n (frG T),.int i,.int j,.int k] (.bool false):=by
 have e:T i j+T j k=Qa ((T i j).num*((T j k).den:Int)+(T j k).num*((T i j).den:Int)) (((T i j).den:Int)*((T j k).den:Int)):=(Zm8 _ _).symm
 have dp:((T i j).den:Int)*((T j k).den:Int)≠0:=Int.ne_of_gt (Int.mul_pos (Za1 _) (Za1 _))
 have bn:Bt 2000 (T i j+T j k).num:=by
  rw[e]
  exact Zqr dp ((((h.num i j).mul (h.den j k)).add ((h.num j k).mul (h.den i j))).mono (by decide))
 have bd:Bt 2000 ((T i j+T j k).den:Int):=by
  rw[e]
  exact Zvu dp (((h.den i j).mul (h.den j k)).mono (by decide))
 exact Yx rfl<|Jq<|Z1 (Zb (Z1 (Zb (Z0c (i0:=0) (i9:=1) (i10:=2) hi hj rfl rfl rfl) (Zb (Z0c (i0:=0) (i9:=2) (i10:=3) hj hk rfl rfl rfl) Zj)) (Zxs (h.num i j) (h.den i j) (h.num j k) (h.den j k))) (Zb (Z0c (i0:=0) (i9:=1) (i10:=3) hi hk rfl rfl rfl) Zj)) (Zmy bn bd (h.num i k) (h.den i k) (h.tri i j k hj))
theorem Zgx{n:Nat}(hn:n≤10){T:Nat->Nat->Rat}(h:Tb n T):Told Jb [Zay n (frG T)] .none:=by
 have gl:EvV (Zci Zfg (Zd (Ze 0) Zr)) [some (.fz (Zay n (frG T))),none,none,none,none] (.int n):=by
  have:=Zr7 (δ:=[some (.fz (Zay n (frG T))),none,none,none,none]) (e:=Ze 0) (ds:=(Xr n).map λi=>.list ((Xr n).map λj=>frG T i j)) Za
  rwa[Xg,Ql]at this
 refine Yx rfl<|Wo (Z2 gl)<|Zmz (ds:=Zdd 0 n) (λ_ δ=>∃z2 z3 z4,δ=[some (.fz (Zay n (frG T))),some (.fz (.int n)),z2,z3,z4]) (Zcz (Zb Za Zj) (by omega)) ⟨none,none,none,rfl⟩ (λi d δ hd q=>?_) λδ' q=>?_
 ·obtain⟨z2,z3,z4,rfl⟩:=q
  obtain⟨hi,rfl⟩:=Wb hd
  rw[JZ]
  refine Zhq (ds:=Zdd 0 n) (λ_ δ=>∃z3 z4,δ=[some (.fz (Zay n (frG T))),some (.fz (.int n)),some (.fz (.int i)),z3,z4]) rfl (Zcz (Zb Za Zj) (by omega)) ⟨z3,z4,rfl⟩ (λj d δ hd q=>?_) λδ' q=>?_
  ·obtain⟨z3,z4,rfl⟩:=q
   obtain⟨hj,rfl⟩:=Wb hd
   rw[JZ]
   refine Zhq (ds:=Zdd 0 n) (λ_ δ=>∃z4,δ=[some (.fz (Zay n (frG T))),some (.fz (.int n)),some (.fz (.int i)),some (.fz (.int j)),z4]) rfl (Zcz (Zb Za Zj) (by omega)) ⟨z4,rfl⟩ (λk d δ hd q=>?_) λδ' q=>?_
   ·obtain⟨z4,rfl⟩:=q
    obtain⟨hk,rfl⟩:=Wb hd
    rw[JZ]
    exact⟨_,_,rfl,.inl (Je (Zgu (Z1 (Zb Za (Zb Za (Zb Za (Zb Za Zj)))) (Zt7 h hi hj hk))) rfl),_,rfl⟩
   ·obtain⟨z4,rfl⟩:=q
    exact⟨_,_,rfl⟩
  ·obtain⟨z3,z4,rfl⟩:=q
   exact⟨_,_,_,rfl⟩
 ·obtain⟨z2,z3,z4,rfl⟩:=q
  exact Jq Z5
theorem Zie{n:Nat}(hn:n≤10){T:Nat->Nat->Rat}(h:Tb n T):Told Wl [Zay n (frG T)] .none :=
 Zp0 rfl (Je (Zd3 (Zo (Z1 (Zb Za Zj) (Zgx hn h)) Z5 rfl)) rfl)
noncomputable def Z2e(n:Nat)(f:Nat->Int):Xa:=.list ((Xr n).map λj=>.int (f j))
noncomputable def W3(n:Nat)(r:Nat->Nat->Int):Xa:=.list ((Xr n).map λi=>Z2e n (r i))
theorem Ze2{α:Type}{n i:Nat}(f:Nat->α)(h:i<n):atI ((Xr n).map f) (i:Int)=some (f i):=by
 rw[Zjq,Xn,Q4 h];rfl
theorem Zzx{n j:Nat}{f:Nat->Int}(h:j<n):gIx (Z2e n f) (.int (j:Int))=some (.fz (.int (f j))):=by
 unfold Z2e;rw[Zh9,Ze2 _ h];rfl
theorem Ztf{n i:Nat}{r:Nat->Nat->Int}(h:i<n):gIx (W3 n r) (.int (i:Int))=some (.fz (Z2e n (r i))):=by
 unfold W3;rw[Zh9,Ze2 _ h];rfl
theorem Zke(n:Nat)(r:Nat->Nat->Int):Zfg [W3 n r]=some (.int n):=by
 unfold W3;rw[Zqu,Xg,Ql]
theorem Zbn{n x y i j:Nat}{S:Nat->Nat->Int}{δ:Zf}(hx:x<n)(hy:y<n)(h0:δ[0]? =some (some (.fz (W3 n S))))(h1:δ[i]? =some (some (.fz (.int x))))(h2:δ[j]? =some (some (.fz (.int y)))):EvV (Z3 gIx (Z3 gIx (Ze 0) (Ze i)) (Ze j)) δ (.int (S x y)):=Ji (Ji (Za h0) (Za h1) (Ztf hx)) (Za h2) (Zzx hy)
theorem Zz9{it:FI}{g:FG}{S S':FS}{δ:Zf}{ds:List Xa}{Q:Xa->Prop}(I:Nat->Zf->Prop)(hi:EvI it δ ds)(h0:I 0 δ)(turn:∀(i:Nat) (d:Xa) (δ:Zf),ds[i]? =some d->I i δ->(∃δ1 δ2,g d δ=some δ1∧S δ1= .nx δ2∧I (i+1) δ2)∨∃δ1,g d δ=some δ1∧Zns S δ1 Q)(fin:∀δ',I ds.length δ'->Zns S' δ' Q):Zns (Z6 (W5 it g S) S') δ Q:=by
 have key:(∃δ',forLoop g S ds δ= .nx δ'∧I ds.length δ')∨∃o δ',forLoop g S ds δ= .rt o δ'∧Q o.data:=by
  clear fin hi
  induction ds generalizing δ I with
  | nil=>exact .inl ⟨δ,rfl,h0⟩
  | cons d ds ih=>
   rcases turn 0 d δ rfl h0 with⟨δ1,δ2,e1,e2,h1⟩|⟨δ1,e1,d',⟨o,δ2,e2,hd⟩,hq⟩
   ·rcases ih (δ:=δ2) (λi δ=>I (i+1) δ) h1 λi d' δ hd hi=>turn (i+1) d' δ (by simpa using hd) hi with⟨δ',e3,h3⟩|⟨o,δ',e3,h3⟩
    ·refine .inl ⟨δ',?_,h3⟩
     rw[Ww,e1]
     dsimp only
     rw[e2]
     exact e3
    ·refine .inr ⟨o,δ',?_,h3⟩
     rw[Ww,e1]
     dsimp only
     rw[e2]
     exact e3
   ·refine .inr ⟨o,δ2,?_,by rw[hd];exact hq⟩
    rw[Ww,e1]
    dsimp only
    rw[e2]
 rcases key with⟨δ',e,h⟩|⟨o,δ',e,h⟩
 ·exact Zcp (Zgn hi e) (fin δ' h)
 ·exact Zsx ⟨_,⟨o,δ',Zgn hi e,rfl⟩,h⟩
noncomputable def Ztk(p:List Int)(lo hi:Option Int):List Int:=(p.drop (HT.sIx p.length 0 lo)).take (HT.sIx p.length p.length hi-HT.sIx p.length 0 lo)
theorem Zua(p:List Int)(lo hi:Option Int):cutD (p.map Xo) lo hi=(Ztk p lo hi).map Xo:=by
 unfold cutD Ztk
 rw[Xg,List.map_take,List.map_drop]
theorem Zr0{p:List Int}{k:Nat}(h:k≤p.length):Ztk p (some (k:Int)) none=p.drop k:=by
 unfold Ztk
 rw[HT.sIx_none,HT.sIx_nat,Nat.min_eq_left h,List.take_of_length_le (by rw[JC];omega)]
theorem Z43{e:FE}{δ:Zf}{r p:List Int}{lo hi:FO}{l h:Option Int}(he:EvV e δ (Zy r))(hl:EvO lo δ l)(hh:EvO hi δ h)(hp:Ztk r l h=p):EvV (fSl e lo hi) δ (Zy p):=hp▸(Z94 (ds:=r.map Xo) he hl hh).cast (by rw[Zua];rfl)
theorem getD_mem{p:List Int}{i:Nat}(h:i<p.length):p.getD i 0∈p:=by
 rw[Xd,Xh h];exact JM h
noncomputable def rl(S:Nat->Nat->Int)(i j k l:Nat):Int:=max (max (S i j+S k l) (S i k+S j l)) (S i l+S j k)-(S i j+S k l)
theorem Zix{n i j k l:Nat}{S:Nat->Nat->Int}(hi:i<n)(hj:j<n)(hk:k<n)(hl:l<n):Told Yb [W3 n S,.int i,.int j,.int k,.int l] (.tuple [.int (S i j+S k l),.int (S i k+S j l),.int (S i l+S j k)]) :=
 Yx rfl<|Jq<|Zfq (Zb (Jj (Zbn hi hj rfl rfl rfl) (Zbn hk hl rfl rfl rfl)) (Zb (Jj (Zbn hi hk rfl rfl rfl) (Zbn hj hl rfl rfl rfl)) (Zb (Jj (Zbn hi hl rfl rfl rfl) (Zbn hj hk rfl rfl rfl)) Zj))) (show 3≤1000 by decide)
theorem Zhy(a b c:Int):Told Yd [.tuple [.int a,.int b,.int c]] (.int (max (max a b) c-a)) :=
 Yx rfl<|Jq<|Zqi (Zbi (Zb Za Zj) (show Zlx [.tuple [.int a,.int b,.int c]]=some (.int (max (max a b) c))from rfl)) (Ji (d:=.int a) Za Z5 rfl)
theorem Z4l{a b:FE}{δ:Zf}{i j:Int}(ha:EvV a δ (.int i))(hb:EvV b δ (.int j)):EvV (Zci Zu9 (Zd a (Zd b Zr))) δ (.int (min i j)):=Zbi (Zb ha (Zb hb Zj)) (My.Zrl i j)
noncomputable def Zi5(p:List Int)(i:Nat):List (Int×Int):=(Xr i).flatMap λk=>(p.drop k).map λy=>(p.getD k 0,y)
noncomputable def dbl(p:List Int):List (Int×Int):=Zi5 p p.length
theorem Zhe(p:List Int)(i:Nat):Zi5 p (i+1)=Zi5 p i ++ (p.drop i).map λy=>(p.getD i 0,y):=by
 unfold Zi5;rw[List.range_succ,List.flatMap_append,List.flatMap_cons,List.flatMap_nil,QJ]
theorem Zqx(p:List Int)(i:Nat):(Zi5 p i).length≤i*p.length:=by
 induction i with
 | zero=>exact QQ _
 | succ i ih=>
  rw[Zhe,Q8,Xg,JC,Nat.succ_mul]
  omega
theorem Zfz{p:List Int}{x:Int×Int}:x∈dbl p↔∃k j,k≤j∧j<p.length∧x=(p.getD k 0,p.getD j 0):=by
 unfold dbl Zi5
 rw[List.mem_flatMap]
 constructor
 ·rintro⟨k,hk,h⟩
  obtain⟨y,hy,rfl⟩:=XF.mp h
  obtain⟨j,hj,rfl⟩:=Vv hy
  rw[JC]at hj
  refine⟨k,k+j,by omega,by omega,?_⟩
  rw[List.getElem_drop,Xd (i:=k+j),Xh (by omega)];rfl
 ·rintro⟨k,j,h1,h2,rfl⟩
  refine⟨k,QM.mpr (by omega),XF.mpr ⟨_,?_,rfl⟩⟩
  have:p.getD j 0=(p.drop k).getD (j-k) 0:=by
   rw[Xd,Xd,Uq,show k+(j-k)=j by omega]
  rw[this]
  exact getD_mem (by rw[JC];omega)
theorem Zg7{p:List Int}{x:Int×Int}(h:x∈dbl p):x.1∈p∧x.2∈p:=by
 obtain⟨k,j,h1,h2,rfl⟩:=Zfz.mp h
 exact⟨getD_mem (by omega),getD_mem h2⟩
theorem Zoq{p:List Int}{i:Nat}{d:Xa}(h:(p.map Xo)[i]? =some d):i<p.length∧d= .int (p.getD i 0):=by
 rw[Xn]at h
 cases e:p[i]? with
 | none=>rw[e]at h;cases h
 | some x=>
  rw[e]at h
  cases h
  exact⟨(Xj.mp e).1,by rw[Xd,e];rfl⟩
theorem Zdq(p:List Int)(hl:p.length≤100):Told Wk [Zy p] (.list ((dbl p).map prD)):=by
 refine Yx rfl<|Wo Zq0<|Zmz (ds:=Zig (p.map Xo)) (λi δ=>∃z1 z2 z3,δ=[some (.fz (Zy p)),some (.nd (((Zi5 p i).map prD).map OT.fz)),z1,z2,z3]) (Z1g Za) ⟨_,_,_,rfl⟩ (λi d δ hd q=>?_) λδ' q=>?_
 ·obtain⟨z1,z2,z3,rfl⟩:=q
  obtain⟨x,hx,rfl⟩:=Zki hd
  obtain⟨hi,rfl⟩:=Zoq hx
  have ln:=Zqx p i
  have l2:i*p.length≤100*100:=Nat.mul_le_mul (by omega) hl
  refine Zhq (ds:=(p.drop i).map Xo) (λj δ=>∃z,δ=[some (.fz (Zy p)),some (.nd (((Zi5 p i ++ ((p.drop i).take j).map λy=>(p.getD i 0,y)).map prD).map OT.fz)),some (.fz (.int i)),some (.fz (.int (p.getD i 0))),z]) rfl (Wx (Z43 Za (Yar Za) Yat (Zr0 (by omega)))) ⟨z3,by rw[List.take_zero,List.map_nil,QJ];rfl⟩ (λj d δ hd q=>?_) λδ' q=>?_
  ·obtain⟨z,rfl⟩:=q
   obtain⟨hj,rfl⟩:=Zoq hd
   refine⟨_,_,rfl,.inl (Zvx (Zfq (Zb Za (Zb Za Zj)) (show 2≤1000 by decide)) rfl (by rw[Xg,Xg,Q8,Xg,Vb,JC];omega)),some (.fz (.int ((p.drop i).getD j 0))),?_⟩
   have e:(p.drop i).take (j+1)=(p.drop i).take j ++ [(p.drop i).getD j 0]:=by
    rw[List.take_succ,Xd,Xh hj];rfl
   rw[e]
   simp only[QD,Bo]
   rfl
  ·obtain⟨z,rfl⟩:=q
   rw[Xg,V5,←Zhe]
   exact⟨_,_,_,rfl⟩
 ·obtain⟨z1,z2,z3,rfl⟩:=q
  refine Yc3 rfl ?_
  rw[OT.data_nd,OT.map_fz]
  unfold Zig
  rw[Xg,List.length_zipIdx,Xg];rfl
noncomputable def away(n:Nat)(p:List Int):List Int:=((Xr n).filter λi:Nat=>!decide ((i:Int)∈p)).map λi:Nat=>(i:Int)
theorem Zey{n:Nat}{p:List Int}{x:Int}:x∈away n p↔0≤x∧x<n∧x∉p:=by
 unfold away
 rw[XF]
 constructor
 ·rintro⟨i,hi,rfl⟩
  obtain⟨h1,h2⟩:=JB.mp hi
  have:=QM.mp h1
  exact⟨by omega,by omega,by simpa using h2⟩
 ·rintro⟨h1,h2,h3⟩
  refine⟨x.toNat,JB.mpr ⟨QM.mpr (by omega),?_⟩,by omega⟩
  rw[show((x.toNat:Nat):Int)=x by omega,decide_eq_false h3];rfl
theorem Zum(n:Nat)(p:List Int):(away n p).length≤n:=by
 unfold away
 rw[Xg]
 exact Qy (Vg _ _) (Nat.le_of_eq Ql)
theorem Zq5(neg:Bool)(x:Int)(p:List Int):Z1i neg (.int x) (Zy p)=some (.bool (if neg then !decide (x∈p)else decide (x∈p))):=by
 have e:memS (.int x) (p.map Xo)=decide (x∈p):=by
  unfold memS
  rw[List.any_map]
  rw[Bool.eq_iff_iff,List.any_eq_true,decide_eq_true_eq]
  constructor
  ·rintro⟨y,hy,h⟩
   have:(y==x)=true:=h
   rw[←eq_of_beq this];exact hy
  ·intro h
   exact⟨x,h,(show(x==x)=true from beq_self_eq_true x)⟩
 have s:(p.map Xo).all scD=true:=by
  rw[Bh]
  intro d hd
  obtain⟨y,_,rfl⟩:=XF.mp hd
  rfl
 show(if(scD (.int x)&&(p.map Xo).all scD)=true then some (PyData.bool (if neg then !memS (.int x) (p.map Xo)else memS (.int x) (p.map Xo)))else none)=_
 rw[s,e];rfl
theorem Zp7{n:Nat}{p:List Int}{caps:List Nat}{it:FI}{δ:Zf}(hi:EvI it δ (Zdd 0 n))(hn:n≤1000)(hb:blk 1 caps δ=[none,some (.fz (Zy p))]):EvV (Wy 1 caps it (gNm 0) (tV (Zh (Z1i true) (Ze 0) (Ze 1))) (Ze 0)) δ (Zy (away n p)):=by
 refine(Zhl (cs:=[some (.fz (Zy p))]) (Xr n) (λi:Nat=>Xo (0+(i:Int))) (λi=>!decide ((i:Int)∈p)) hi (by rw[Ql];omega) hb (λx _=>Zd3 (Zo Za Za ?_)) λx _ _=>rfl).cast ?_
 ·rw[Zq5,JZ];rfl
 ·unfold away Zy
  rw[Qx]
  refine congrArg QH (Xv λi _=>?_)
  show Xo (0+(i:Int))=Xo i
  rw[JZ]
noncomputable def rlI(S:Nat->Nat->Int)(p q:Int×Int):Int:=rl S p.1.toNat p.2.toNat q.1.toNat q.2.toNat
noncomputable def Lst(S:Nat->Nat->Int)(A B:List Int)(m:Int):Prop:=(∃p∈dbl A,∃q∈dbl B,m=rlI S p q)∧∀p∈dbl A,∀q∈dbl B,m≤rlI S p q
theorem Lst.exists(S:Nat->Nat->Int){A B:List Int}{p q:Int×Int}(hp:p∈dbl A)(hq:q∈dbl B):∃m,Lst S A B m:=by
 obtain⟨vs,hv⟩:∃vs,vs=(dbl A).flatMap λp=>(dbl B).map λq=>rlI S p q:=⟨_,rfl⟩
 have mem:∀x,x∈vs↔∃p∈dbl A,∃q∈dbl B,x=rlI S p q:=λx=>by
  rw[hv,List.mem_flatMap]
  constructor
  ·rintro⟨p,hp,h⟩
   obtain⟨q,hq,rfl⟩:=XF.mp h
   exact⟨p,hp,q,hq,rfl⟩
  ·rintro⟨p,hp,q,hq,rfl⟩
   exact⟨p,hp,XF.mpr ⟨q,hq,rfl⟩⟩
 have hm:=(mem _).mpr ⟨p,hp,q,hq,rfl⟩
 obtain⟨h1,h2⟩:=Zr5 (ns:=vs) (List.length_pos_of_mem hm)
 exact⟨Z8j vs,(mem _).mp h1,λp hp q hq=>h2 _ ((mem _).mpr ⟨p,hp,q,hq,rfl⟩)⟩
theorem Zq3{n:Nat}{S:Nat->Nat->Int}{δ:Zf}{ea eb ec ee:FE}{a b c e:Int}(h0:δ[0]? =some (some (.fz (W3 n S))))(h2:δ[2]? =some (some (.fz (fnD "split_rule"))))(ha:EvV ea δ (.int a))(hb:EvV eb δ (.int b))(hc:EvV ec δ (.int c))(he:EvV ee δ (.int e))(ba:0≤a∧a<n)(bb:0≤b∧b<n)(bc:0≤c∧c<n)(be:0≤e∧e<n) :
  EvV (Zdr 2 "split_rule" Yd (Zd (Z0 Yb (Zd (Ze 0) (Zd ea (Zd eb (Zd ec (Zd ee Zr)))))) Zr)) δ (.int (rlI S (a,b) (c,e))):=by
 have t:=Zix (S:=S) (n:=n) (i:=a.toNat) (j:=b.toNat) (k:=c.toNat) (l:=e.toNat) (by omega) (by omega) (by omega) (by omega)
 rw[Vx ba.1,Vx bb.1,Vx bc.1,Vx be.1]at t
 exact Zux h2 (Zb (Z1 (Zb (Za h0) (Zb ha (Zb hb (Zb hc (Zb he Zj))))) t) Zj) (Zhy _ _ _)
noncomputable def Z11(n:Nat)(S:Nat->Nat->Int)(A B:List Int)(least:Int)(z6 z7 z8 z9:Option OT):Zf:=[some (.fz (W3 n S)),some (.fz (Zy A)),some (.fz (fnD "split_rule")),some (.fz (Zy B)),some (.fz (.list ((dbl B).map prD))),some (.fz (.int least)),z6,z7,z8,z9]
theorem Zmp{n:Nat}{S:Nat->Nat->Int}{A:List Int}(hn:n≤100)(hl:A.length≤100)(hA:∀x∈A,1≤x∧x<n)(ne:A≠[]):∃m,Lst S A (away n A) m∧Told Zz [W3 n S,Zy A,fnD "split_rule"] (.int (max 0 m)):=by
 have hp:0<A.length:=List.length_pos_iff.mpr ne
 have n0:0<n:=by have:=hA _ (getD_mem hp);omega
 obtain⟨B,hB⟩:∃B,B=away n A:=⟨_,rfl⟩
 have b0:(0:Int)∈B:=by rw[hB];exact Zey.mpr ⟨by decide,by omega,λz=>absurd (hA 0 z).1 (by decide)⟩
 have inB:∀x∈B,0≤x∧x<n:=λx hx=>by rw[hB]at hx;obtain⟨h1,h2,_⟩:=Zey.mp hx;exact⟨h1,h2⟩
 have inA:∀x∈A,0≤x∧x<n:=λx hx=>⟨QR (by decide) (hA x hx).1,(hA x hx).2⟩
 have a00:(A.getD 0 0,A.getD 0 0)∈dbl A:=Zfz.mpr ⟨0,0,X4 _,hp,rfl⟩
 have b00:((0:Int),(0:Int))∈dbl B:=by
  obtain⟨j,hj,e⟩:=Vv b0
  exact Zfz.mpr ⟨j,j,X4 _,hj,by rw[Xd,Xh hj,e];rfl⟩
 obtain⟨m,hm⟩:=Lst.exists S a00 b00
 rw[←hB]
 refine⟨m,hm,?_⟩
 have lB:B.length≤100:=by rw[hB];exact Qy (Zum n A) hn
 have inner:∀(p:Int×Int) (least:Int) (z8 z9:Option OT),p∈dbl A->(∃p∈dbl A,∃q∈dbl B,least=rlI S p q)->∃δ',W5 (Zaz (Ze 4)) (gTp 2 (gCn (gNm 8) (gCn (gNm 9) gNl)))
   (wE (Zci Zu9 (Zd (Ze 5) (Zd (Zdr 2 "split_rule" Yd (Zd (Z0 Yb (Zd (Ze 0) (Zd (Ze 6) (Zd (Ze 7) (Zd (Ze 8) (Zd (Ze 9) Zr)))))) Zr)) Zr))) (Wd 5))
   (Z11 n S A B least (some (.fz (.int p.1))) (some (.fz (.int p.2))) z8 z9)= .nx δ'∧
   ∃least' z8 z9,δ'=(Z11 n S A B least' (some (.fz (.int p.1))) (some (.fz (.int p.2))) z8 z9)∧(∃p∈dbl A,∃q∈dbl B,least'=rlI S p q)∧least'≤least∧∀q∈dbl B,least'≤rlI S p q:=λp least z8 z9 hp hin=>by
  obtain⟨p1,p2⟩:=Zg7 hp
  obtain⟨δ',e,least',z8,z9,rfl,h1,h2,h3⟩:=Zlp (S:=wE (Zci Zu9 (Zd (Ze 5) (Zd (Zdr 2 "split_rule" Yd (Zd (Z0 Yb (Zd (Ze 0) (Zd (Ze 6) (Zd (Ze 7) (Zd (Ze 8) (Zd (Ze 9) Zr)))))) Zr)) Zr))) (Wd 5)) (g:=gTp 2 (gCn (gNm 8) (gCn (gNm 9) gNl))) (it:=Zaz (Ze 4)) (ds:=(dbl B).map prD) (δ:=(Z11 n S A B least (some (.fz (.int p.1))) (some (.fz (.int p.2))) z8 z9))
   (λi δ=>∃least' z8 z9,δ=(Z11 n S A B least' (some (.fz (.int p.1))) (some (.fz (.int p.2))) z8 z9)∧(∃p∈dbl A,∃q∈dbl B,least'=rlI S p q)∧least'≤least∧∀j q,j<i->(dbl B)[j]? =some q->least'≤rlI S p q) (Wx Za) ⟨least,z8,z9,rfl,hin,Ue _,λj q hj=>absurd hj (Bq j)⟩ λi d δ hd q=>by
   obtain⟨least',z8,z9,rfl,h1,h2,h3⟩:=q
   rw[Xn]at hd
   cases e:(dbl B)[i]? with
   | none=>rw[e]at hd;cases hd
   | some q=>
    rw[e]at hd
    cases hd
    have hq:=Qz e
    obtain⟨q1,q2⟩:=Zg7 hq
    refine⟨_,_,rfl,.inl (Z2 (Z4l Za (Zq3 rfl rfl Za Za Za Za (inA _ p1) (inA _ p2) (inB _ q1) (inB _ q2)))),min least' (rlI S p q),some (.fz (.int q.1)),some (.fz (.int q.2)),rfl,?_,QR (Int.min_le_left ..) h2,λj q' hj hq'=>?_⟩
    ·rcases Int.le_total least' (rlI S p q)with z|z
     ·rw[Int.min_eq_left z];exact h1
     ·rw[Int.min_eq_right z];exact⟨p,hp,q,hq,rfl⟩
    ·by_cases cj:j=i
     ·subst cj;rw[e]at hq';cases hq';exact Int.min_le_right ..
     ·exact QR (Int.min_le_left ..) (h3 j q' (Nat.lt_of_le_of_ne (Nat.le_of_lt_succ hj) cj) hq')
  refine⟨_,e,least',z8,z9,rfl,h1,h2,λq hq=>?_⟩
  obtain⟨j,hj⟩:=Vn hq
  exact h3 j q (by rw[Xg];exact(Xj.mp hj).1) hj
 have key:∃d,Told Zz [W3 n S,Zy A,fnD "split_rule"] d∧d= .int (max 0 m):=by
  refine Zt6 rfl<|Zcp (Z2 (hB▸Zp7 (Zcz (Zb (Zbi (Zb Za Zj) (Zke n S)) Zj) (Qy hn (by decide))) (Qy hn (by decide)) rfl))<|Zcp (Z2 (Z1 (Zb Za Zj) (Zdq B lB)))<|
   Zcp (Z2 (Zq3 rfl rfl (Zi1 Za Z5 (by decide) (by omega)) (Zi1 Za Z5 (by decide) (by omega)) Z5 Z5 (inA _ (getD_mem hp)) (inA _ (getD_mem hp)) ⟨by decide,by omega⟩ ⟨by decide,by omega⟩))<|
   Zz9 (ds:=(dbl A).map prD) (λi δ=>∃least z6 z7 z8 z9,δ=(Z11 n S A B least z6 z7 z8 z9)∧(∃p∈dbl A,∃q∈dbl B,least=rlI S p q)∧(∀j p,j<i->(dbl A)[j]? =some p->∀q∈dbl B,least≤rlI S p q)∧(0<i->0<least))
    (Wx (Z1 (Zb Za Zj) (Zdq A hl))) ⟨_,none,none,none,none,rfl,⟨_,a00,_,b00,rfl⟩,λj p hj=>absurd hj (Bq j),λz=>absurd z (Bx 0)⟩ (λi d δ hd q=>?_) λδ' q=>?_
  ·obtain⟨least,z6,z7,z8,z9,rfl,h1,h2,h3⟩:=q
   rw[Xn]at hd
   cases e:(dbl A)[i]? with
   | none=>rw[e]at hd;cases hd
   | some p=>
    rw[e]at hd
    cases hd
    have hp':=Qz e
    obtain⟨δ',e1,least',z8,z9,rfl,g1,g2,g3⟩:=inner p least z8 z9 hp' h1
    by_cases c:least'≤0
    ·refine .inr ⟨_,rfl,Zcp e1 (Zyj (Zd3 (Z49 Za Z5 (decide_eq_true c))) (Zi6 Z5 ?_))⟩
     obtain⟨p',hp2,q',hq2,e2⟩:=g1
     have:=hm.2 p' hp2 q' hq2
     rw[←e2]at this
     rw[VD (QR this c)]
    ·refine .inl ⟨_,_,rfl,Wg e1 (Je (Zd3 (Z49 Za Z5 (decide_eq_false c))) rfl),least',_,_,_,_,rfl,g1,λj p' hj hp2 q hq=>?_,λ_=>Int.lt_of_not_ge c⟩
     by_cases cj:j=i
     ·subst cj;rw[e]at hp2;cases hp2;exact g3 q hq
     ·exact QR g2 (h2 j p' (Nat.lt_of_le_of_ne (Nat.le_of_lt_succ hj) cj) hp2 q hq)
  ·obtain⟨least,z6,z7,z8,z9,rfl,h1,h2,h3⟩:=q
   rw[Xg]at h2 h3
   refine Zi6 Za ?_
   have l0:=h3 (List.length_pos_of_mem a00)
   have e:least=m:=by
    refine Int.le_antisymm ?_ ?_
    ·obtain⟨⟨p,hp',q,hq,e⟩,_⟩:=hm
     rw[e]
     obtain⟨j,hj⟩:=Vn hp'
     exact h2 j p (Xj.mp hj).1 hj q hq
    ·obtain⟨p,hp',q,hq,e⟩:=h1
     rw[e]
     exact hm.2 p hp' q hq
   rw[←e,Vd (Int.le_of_lt l0)]
 obtain⟨d,h,rfl⟩:=key
 exact h
theorem Z0p{t b:Int}(hb:b≠0):((Qa t b).den:Int)∣b:=by
 rw[Rat.den_divInt,if_neg hb]
 have:(b.natAbs/b.gcd t:Nat)∣b.natAbs:=Nat.div_dvd_of_dvd (by rw[Vf];exact Nat.gcd_dvd_left ..)
 exact Int.ofNat_dvd_left.mpr this
theorem Znx{a m k:Int}(hk:0<k)(hm:0<m):Qa (k*a) (m*k)=Qa a m:=by
 rw[Int.mul_comm k a]
 exact Rat.divInt_mul_right (by omega)
noncomputable def Zaj(n:Nat)(R:Nat->Nat->Int)(b:Int):List (List Rat):=(Xr n).map λi=>(Xr n).map λj=>Qa (R i j) b
theorem Zxt(T:List (List Rat)):Zfg [tbD T]=some (.int T.length):=by
 unfold tbD
 rw[Zqu,Xg]
theorem Zmf(n:Nat)(R:Nat->Nat->Int)(b:Int):(Zaj n R b).length=n:=by unfold Zaj;simp
theorem Zq1{k x y:Int}(hk:0<k):max (k*x) (k*y)=k*max x y:=by
 rcases Int.le_total x y with h|h
 ·rw[Vd h,Vd (Ud h (by omega))]
 ·rw[VD h,VD (Ud h (by omega))]
theorem Zsj{k x:Int}(hk:0<k):max 0 (k*x)=k*max 0 x:=by
 rcases Int.le_total 0 x with h|h
 ·rw[Vd h,Vd (Int.mul_nonneg (by omega) h)]
 ·rw[VD h,VD (VG (by omega) h),Int.mul_zero]
theorem Zre{S R:Nat->Nat->Int}{k:Int}(hk:0<k){n i j l m:Nat}(h:∀i j,i<n->j<n->k*S i j=R i j)(hi:i<n)(hj:j<n)(hl:l<n)(hm:m<n):rl R i j l m=k*rl S i j l m:=by
 unfold rl
 rw[←h i l hi hl,←h j m hj hm,←h i m hi hm,←h j l hj hl,←h i j hi hj,←h l m hl hm,←Int.mul_add,←Int.mul_add,←Int.mul_add,Zq1 hk,Zq1 hk,←Int.mul_sub]
theorem Lst.scaled{S R:Nat->Nat->Int}{k:Int}(hk:0<k){n:Nat}{A B:List Int}(h:∀i j,i<n->j<n->k*S i j=R i j)(hA:∀x∈A,0≤x∧x<n)(hB:∀x∈B,0≤x∧x<n){m:Int}(hm:Lst S A B m):Lst R A B (k*m):=by
 have e:∀p∈dbl A,∀q∈dbl B,rlI R p q=k*rlI S p q:=λp hp q hq=>by
  obtain⟨p1,p2⟩:=Zg7 hp
  obtain⟨q1,q2⟩:=Zg7 hq
  have:=hA _ p1
  have:=hA _ p2
  have:=hB _ q1
  have:=hB _ q2
  exact Zre hk h (by omega) (by omega) (by omega) (by omega)
 obtain⟨⟨p,hp,q,hq,e1⟩,h2⟩:=hm
 exact⟨⟨p,hp,q,hq,by rw[e p hp q hq,e1]⟩,λp hp q hq=>by rw[e p hp q hq];exact Ud (h2 p hp q hq) (by omega)⟩
theorem Zqz(n:Nat)(R:Nat->Nat->Int)(b:Int):tbD (Zaj n R b)=Zay n (frG λi j=>Qa (R i j) b):=by
 unfold tbD Zaj Zay
 rw[Qx]
 refine congrArg QH (Xv λi _=>?_)
 show Zkk _=_
 unfold Zkk
 rw[Qx];rfl
theorem Zw3{x y z b:Int}(hb:0<b)(h:x≤y+z):Qa x b≤Qa y b+Qa z b:=by
 have e:Qa y b+Qa z b=Qa (y+z) b:=by
  rw[Bp,Bp,Bp,U0,U0,U0,Rat.intCast_add,Rat.add_mul]
 rw[e]
 refine(Rat.le_iff_sub_nonneg _ _).mpr ?_
 have e2:Qa (y+z) b-Qa x b=Qa (y+z-x) b:=by
  rw[Bp,Bp,Bp,U0,U0,U0,Rat.intCast_sub,Rat.sub_eq_add_neg,Rat.sub_eq_add_neg,Rat.add_mul,Rat.neg_mul]
 rw[e2]
 exact Zp5 (by omega) hb
theorem Z8a{n:Nat}{R:Nat->Nat->Int}{b:Int}(h:Lt n R)(hb:0<b)(bb:Bt 300 b)(bR:∀i j,Bt 300 (R i j)):Tb n λi j=>Qa (R i j) b where
 num:=λi j=>Zqr (by omega) ((bR i j).mono (by decide))
 den:=λi j=>Zvu (by omega) (bb.mono (by decide))
 tri:=λi j k hj=>Zw3 hb (h.tri i k j hj)
theorem Zjn{n:Nat}(hn:n≤10)(R:Nat->Nat->Int){b:Int}(hb:0<b)(bb:Bt 300 b):Told Y7 [Zay n (inG R),.int b] (tbD (Zaj n R b)):=by
 rw[Zqz]
 exact Yx rfl<|Jq<|Zf3 (cs:=[some (.fz (.int b))]) (Xr n) (λi=>.list ((Xr n).map λj=>inG R i j)) (λi=>.list ((Xr n).map λj=>frG (λi j=>Qa (R i j) b) i j)) (Wx Za) (by rw[Ql];omega) rfl λi _=>
  Zf3 (cs:=[some (.fz (.int b))]) (Xr n) (λj=>inG R i j) (λj=>frG (λi j=>Qa (R i j) b) i j) (Wx Za) (by rw[Ql];omega) rfl λj _=>Z1 (Zb Za (Zb Za Zj)) (Zb9 hb bb)
theorem Lt.sum{n:Nat}{R S:Nat->Nat->Int}(h:Lt n R)(k:Lt n S):Lt n λi j=>R i j+S i j where
 z:=λi=>by show R i i+S i i=0;rw[h.z,k.z];rfl
 nn:=λi j=>Int.add_nonneg (h.nn i j) (k.nn i j)
 sym:=λi j=>by show R i j+S i j=R j i+S j i;rw[h.sym i j,k.sym i j]
 tri:=λi j m hm=>by
  have:=h.tri i j m hm
  have:=k.tri i j m hm
  show R i j+S i j≤R i m+S i m+(R m j+S m j)
  omega
theorem Lt.nought(n:Nat):Lt n λ_ _=>0:=⟨⟨λ_=>rfl,λ_ _=>Ue _,λ_ _=>rfl⟩,λ_ _ _ _=>by decide⟩
theorem Lt.short{n:Nat}{R:Nat->Nat->Int}(h:Nn R):Lt n (fw R n):=⟨h.fw n,λi j m hm=>Zzd h n m hm i j⟩
noncomputable def Fd(V:List Int)(f:Xa):Prop:=(f= .none∧V=[])∨∃m,f= .int m∧m∈V∧∀x∈V,m≤x
theorem Zmi{it:FI}{nm:Nat}{S:FS}{δ:Zf}{xs:List Int}(E:Xa->Zf->Prop)(val:Int->List Int){V:List Int}{f:Xa}(hE:E f δ)(hF:Fd V f)(hi:EvI it δ (xs.map Xo))(turn:∀x∈xs,∀V f δ,E f δ->Fd V f->∃δ2 f',S (δ.set nm (some (.fz (.int x))))= .nx δ2∧E f' δ2∧Fd (V ++ val x) f'):∃δ' f',W5 it (gNm nm) S δ= .nx δ'∧E f' δ'∧Fd (V ++ xs.flatMap val) f':=by
 have key:∃δ' f',forLoop (gNm nm) S (xs.map Xo) δ= .nx δ'∧E f' δ'∧Fd (V ++ xs.flatMap val) f':=by
  clear hi
  induction xs generalizing δ V f with
  | nil=>exact⟨δ,f,rfl,hE,by rw[List.flatMap_nil,QJ];exact hF⟩
  | cons x xs ih=>
   obtain⟨δ2,f2,e2,h2,g2⟩:=turn x (.head _) V f δ hE hF
   obtain⟨δ',f',e,h,g⟩:=ih h2 g2 λy hy=>turn y (.tail _ hy)
   refine⟨δ',f',?_,h,by rw[List.flatMap_cons,←Bo];exact g⟩
   rw[Qs,Ww,Z23]
   dsimp only
   rw[e2];exact e
 obtain⟨δ',f',e,h⟩:=key
 exact⟨δ',f',Zgn hi e,h⟩
noncomputable def tq(R:Nat->Nat->Int)(a b c e:Int):Int:=rlI R (a,b) (c,e)
noncomputable def iS:FS:=(Z6 (wE (Zbf (Zd (Zh Za0 (Z3 gIx (Z3 gIx (Ze 0) (Ze 5)) (Ze 6)) (Z3 gIx (Z3 gIx (Ze 0) (Ze 7)) (Ze 8))) (Zd (Zh Za0 (Z3 gIx (Z3 gIx (Ze 0) (Ze 5)) (Ze 7)) (Z3 gIx (Z3 gIx (Ze 0) (Ze 6)) (Ze 8))) (Zd (Zh Za0 (Z3 gIx (Z3 gIx (Ze 0) (Ze 5)) (Ze 8)) (Z3 gIx (Z3 gIx (Ze 0) (Ze 6)) (Ze 7))) Zr)))) (Wd 9))
  (Z6 (wE (Zh gSb (Zci Zlx (Zd (Ze 9) Zr)) (Z3 gIx (Ze 9) (fC (.int 0)))) (Wd 10))
  (Za7 (tO (tV (Zh gIs (Ze 4) (fC .none))) (tV (Zh gLt (Ze 10) (Ze 4))))
  (wE (Ze 10) (Wd 4))
  fNx)))
noncomputable def iE(n:Nat)(R:Nat->Nat->Int)(A B:List Int)(f:Xa)(z5 z6 z7 z8 z9 z10:Option OT):Zf:=[some (.fz (W3 n R)),some (.fz (Zy A)),some (.fz (.int n)),some (.fz (Zy B)),some (.fz f),z5,z6,z7,z8,z9,z10]
theorem Zwo{p:List Int}{x y:Int}(hx:x∈p)(hy:y∈p):(x,y)∈dbl p∨(y,x)∈dbl p:=by
 obtain⟨i,hi,rfl⟩:=Vv hx
 obtain⟨j,hj,rfl⟩:=Vv hy
 have g:∀k (h:k<p.length),p[k]=p.getD k 0:=λk h=>by rw[Xd,Xh h];rfl
 rw[g i hi,g j hj]
 rcases Nat.le_total i j with h|h
 ·exact .inl (Zfz.mpr ⟨i,j,h,hj,rfl⟩)
 ·exact .inr (Zfz.mpr ⟨j,i,h,hi,rfl⟩)
theorem Zme{R:Nat->Nat->Int}(sym:∀i j,R i j=R j i)(a b c e:Int):tq R b a c e=tq R a b c e∧tq R a b e c=tq R a b c e:=by
 unfold tq rlI rl
 dsimp only
 have h1:=sym b.toNat a.toNat
 have h2:=sym e.toNat c.toNat
 constructor
 ·rw[h1];omega
 ·rw[h2];omega
theorem Lst.all{R:Nat->Nat->Int}{A B:List Int}{m:Int}(sym:∀i j,R i j=R j i)(h:Lst R A B m){a b c e:Int}(ha:a∈A)(hb:b∈A)(hc:c∈B)(he:e∈B):m≤tq R a b c e:=by
 rcases Zwo ha hb with p|p<;>rcases Zwo hc he with q|q
 ·exact h.2 _ p _ q
 ·rw[←(Zme sym a b c e).2];exact h.2 _ p _ q
 ·rw[←(Zme sym a b c e).1];exact h.2 _ p _ q
 ·rw[←(Zme sym a b c e).1,←(Zme sym b a c e).2];exact h.2 _ p _ q
theorem Z8h(R:Nat->Nat->Int)(p q:Int×Int):0≤rlI R p q:=by
 unfold rlI rl;omega
theorem Zkw{n:Nat}{R:Nat->Nat->Int}{A:List Int}{m:Int}(hn:n≤10)(hA:∀x∈A,1≤x∧x<n)(sym:∀i j,R i j=R j i)(hm:Lst R A (away n A) m):Told Y6 [W3 n R,Zy A] (.int m)∧0≤m:=by
 obtain⟨B,hB⟩:∃B,B=away n A:=⟨_,rfl⟩
 rw[←hB]at hm
 have m0:0≤m:=by
  obtain⟨⟨p,_,q,_,e⟩,_⟩:=hm
  rw[e];exact Z8h R p q
 refine⟨?_,m0⟩
 have inA:∀x∈A,∃k:Nat,x=k∧k<n:=λx hx=>⟨x.toNat,by have:=hA x hx;omega,by have:=hA x hx;omega⟩
 have inB:∀x∈B,∃k:Nat,x=k∧k<n:=λx hx=>by
  rw[hB]at hx
  obtain⟨h1,h2,_⟩:=Zey.mp hx
  exact⟨x.toNat,by omega,by omega⟩
 obtain⟨δ',f',e,⟨z5,z6,z7,z8,z9,z10,rfl⟩,hF⟩:=Zmi (it:=Zaz (Ze 1)) (nm:=5) (S:=W5 (Zaz (Ze 1)) (gNm 6) (W5 (Zaz (Ze 3)) (gNm 7) (W5 (Zaz (Ze 3)) (gNm 8) iS))) (xs:=A) (δ:=iE n R A B .none none none none none none none) (V:=[]) (f:=.none)
  (λf δ=>∃z5 z6 z7 z8 z9 z10,δ=iE n R A B f z5 z6 z7 z8 z9 z10) (λa=>A.flatMap λb=>B.flatMap λc=>B.flatMap λe=>[tq R a b c e]) ⟨_,_,_,_,_,_,rfl⟩ (.inl ⟨rfl,rfl⟩) (Wx Za) λa ha V f δ q hF=>by
  obtain⟨z5,z6,z7,z8,z9,z10,rfl⟩:=q
  obtain⟨δ',f',e,⟨z6,z7,z8,z9,z10,rfl⟩,hF⟩:=Zmi (δ:=iE n R A B f (some (.fz (.int a))) z6 z7 z8 z9 z10) (it:=Zaz (Ze 1)) (nm:=6) (S:=W5 (Zaz (Ze 3)) (gNm 7) (W5 (Zaz (Ze 3)) (gNm 8) iS)) (xs:=A) (V:=V) (f:=f)
   (λf δ=>∃z6 z7 z8 z9 z10,δ=iE n R A B f (some (.fz (.int a))) z6 z7 z8 z9 z10) (λb=>B.flatMap λc=>B.flatMap λe=>[tq R a b c e]) ⟨_,_,_,_,_,rfl⟩ hF (Wx Za) λb hb V f δ q hF=>by
   obtain⟨z6,z7,z8,z9,z10,rfl⟩:=q
   obtain⟨δ',f',e,⟨z7,z8,z9,z10,rfl⟩,hF⟩:=Zmi (δ:=iE n R A B f (some (.fz (.int a))) (some (.fz (.int b))) z7 z8 z9 z10) (it:=Zaz (Ze 3)) (nm:=7) (S:=W5 (Zaz (Ze 3)) (gNm 8) iS) (xs:=B) (V:=V) (f:=f)
    (λf δ=>∃z7 z8 z9 z10,δ=iE n R A B f (some (.fz (.int a))) (some (.fz (.int b))) z7 z8 z9 z10) (λc=>B.flatMap λe=>[tq R a b c e]) ⟨_,_,_,_,rfl⟩ hF (Wx Za) λc hc V f δ q hF=>by
    obtain⟨z7,z8,z9,z10,rfl⟩:=q
    obtain⟨δ',f',e,⟨z8,z9,z10,rfl⟩,hF⟩:=Zmi (δ:=iE n R A B f (some (.fz (.int a))) (some (.fz (.int b))) (some (.fz (.int c))) z8 z9 z10) (it:=Zaz (Ze 3)) (nm:=8) (S:=iS) (xs:=B) (V:=V) (f:=f)
     (λf δ=>∃z8 z9 z10,δ=iE n R A B f (some (.fz (.int a))) (some (.fz (.int b))) (some (.fz (.int c))) z8 z9 z10) (λe=>[tq R a b c e]) ⟨_,_,_,rfl⟩ hF (Wx Za) λd hd V f δ q hF=>by
     obtain⟨z8,z9,z10,rfl⟩:=q
     obtain⟨i,rfl,hi⟩:=inA a ha
     obtain⟨j,rfl,hj⟩:=inA b hb
     obtain⟨k,rfl,hk⟩:=inB c hc
     obtain⟨l,rfl,hl⟩:=inB d hd
     have eq:tq R i j k l=max (max (R i j+R k l) (R i k+R j l)) (R i l+R j k)-(R i j+R k l):=rfl
     rw[eq]
     generalize ho:max (max (R i j+R k l) (R i k+R j l)) (R i l+R j k)-(R i j+R k l)=o
     have tst:∃p,EvT (tO (tV (Zh gIs (Ze 4) (fC .none))) (tV (Zh gLt (Ze 10) (Ze 4)))) (iE n R A B f (some (.fz (.int i))) (some (.fz (.int j))) (some (.fz (.int k))) (some (.fz (.int l))) (some (.fz (.list [.int (R i j+R k l),.int (R i k+R j l),.int (R i l+R j k)]))) (some (.fz (.int o)))) p∧(p=true->Fd (V ++ [o]) (.int o))∧(p=false->Fd (V ++ [o]) f):=by
      rcases hF with⟨rfl,rfl⟩|⟨m,rfl,h1,h2⟩
      ·exact⟨true,Z50 (Zd3 (Zo Za Z5 (Z5c _))),λ_=>.inr ⟨o,rfl,Xu.mpr rfl,λx hx=>by rw[Xu.mp hx];exact Ue _⟩,λz=>nomatch z⟩
      ·refine⟨decide (o<m),Zw8 (Zd3 (Zo Za Z5 (Z5c _))) (Zd3 (Zuy Za Za rfl)),λz=>.inr ⟨o,rfl,XM _ (.head _),λx hx=>?_⟩,λz=>.inr ⟨m,rfl,Qu _ h1,λx hx=>?_⟩⟩
       ·have z:=of_decide_eq_true z
        rcases X3.mp hx with h|h
        ·have:=h2 x h;omega
        ·rw[Xu.mp h];exact Ue _
       ·have z:=of_decide_eq_false z
        rcases X3.mp hx with h|h
        ·exact h2 x h
        ·rw[Xu.mp h];omega
     obtain⟨p,hp,p1,p2⟩:=tst
     have st:=Z2 (i:=9) (δ:=iE n R A B f (some (.fz (.int i))) (some (.fz (.int j))) (some (.fz (.int k))) (some (.fz (.int l))) z9 z10) (Zbg (Zb (Jj (Zbn (i:=5) (j:=6) hi hj rfl rfl rfl) (Zbn (i:=7) (j:=8) hk hl rfl rfl rfl)) (Zb (Jj (Zbn (i:=5) (j:=7) hi hk rfl rfl rfl) (Zbn (i:=6) (j:=8) hj hl rfl rfl rfl)) (Zb (Jj (Zbn (i:=5) (j:=8) hi hl rfl rfl rfl) (Zbn (i:=6) (j:=7) hj hk rfl rfl rfl)) Zj))) (show 3≤1000 by decide))
     have ov:EvV (Zh gSb (Zci Zlx (Zd (Ze 9) Zr)) (Z3 gIx (Ze 9) (fC (.int 0)))) (iE n R A B f (some (.fz (.int i))) (some (.fz (.int j))) (some (.fz (.int k))) (some (.fz (.int l))) (some (.fz (.list [.int (R i j+R k l),.int (R i k+R j l),.int (R i l+R j k)]))) z10) (.int o):=by
      rw[←ho]
      exact Zqi (Zbi (Zb Za Zj) rfl) (Ji Za Z5 rfl)
     cases p with
     | true=>exact⟨_,.int o,Wg st (Wg (Z2 ov) (Zd2 hp (Z2 Za))),⟨_,_,_,rfl⟩,p1 rfl⟩
     | false=>exact⟨_,f,Wg st (Wg (Z2 ov) (Je hp rfl)),⟨_,_,_,rfl⟩,p2 rfl⟩
    exact⟨_,f',e,⟨_,_,_,_,rfl⟩,hF⟩
   exact⟨_,f',e,⟨_,_,_,_,_,rfl⟩,hF⟩
  exact⟨_,f',e,⟨_,_,_,_,_,_,rfl⟩,hF⟩
 have fin:f'= .int m:=by
  have hm':=hm
  obtain⟨⟨⟨a,b⟩,hp,⟨c,d⟩,hq,em⟩,_⟩:=hm'
  obtain⟨p1,p2⟩:=Zg7 hp
  obtain⟨q1,q2⟩:=Zg7 hq
  have mem:∀x,x∈([] ++ A.flatMap λa=>A.flatMap λb=>B.flatMap λc=>B.flatMap λe=>[tq R a b c e])↔∃a∈A,∃b∈A,∃c∈B,∃e∈B,x=tq R a b c e:=λx=>by
   simp only[List.nil_append,List.mem_flatMap,Xu]
  have hmem:=(mem m).mpr ⟨a,p1,b,p2,c,q1,d,q2,em⟩
  rcases hF with⟨_,hV⟩|⟨m',rfl,h1,h2⟩
  ·rw[hV]at hmem;cases hmem
  ·refine congrArg Xo (Int.le_antisymm (h2 m hmem) ?_)
   obtain⟨a,ha,b,hb,c,hc,d,hd,e⟩:=(mem m').mp h1
   rw[e]
   exact hm.all sym ha hb hc hd
 rw[fin]at e
 refine Yx rfl<|Wo (Z2 (Zbi (Zb Za Zj) (Zke n R)))<|Wo (Z2 (hB▸Zp7 (Zcz (Zb Za Zj) (by omega)) (by omega) rfl))<|Wo (Z2 Z5)<|Wo e (Jq Za)
theorem Zqv{F:FD}{as:FA}{δ:Zf}{ds:List Xa}{o:OT}(h:EvA as δ ds)(k:F ds= .ok o):Z0 F as δ=some (o,δ):=by
 obtain⟨ts,e1,e2⟩:=h
 rw[Ze0,e1]
 show okO (F (OT.datas ts)) δ=_
 rw[e2,k];rfl
theorem Zmw(h:EvP e δ λ_ δ'=>N δ'):EpS (wE e Zi9) δ N R:=by
 obtain⟨o,δ',e1,q⟩:=h
 exact .inl ⟨δ',by rw[Jv,e1];rfl,q⟩
theorem Z86{o:OT}(h:δ[i]? =some (some o))(q:R o.data (δ.set i none)):EpS (Zfc i) δ N R:=.inr ⟨o,_,by rw[Zik,h,Zsk],q⟩
theorem Zis(h:EvP e δ λd δ'=>∃v S n a b,d= .int v∧δ'[i]? =some (some (Yr n (inG S)))∧EvV j δ' (.int (a:Nat))∧a<n∧EvV j2 δ' (.int (b:Nat))∧b<n∧N (δ'.set i (some (Yr n (inG (upR S a b v)))))):EpS (Zcj i e j j2) δ N R:=by
 obtain⟨o,δ',e1,v,S,n,a,b,hd,hi,hj,ha,hk,hb,q⟩:=h
 have e2:Zcj i e j j2 δ=Zcj i (fC (.int v)) j j2 δ':=by
  unfold Zcj
  rw[Jv,Jv,e1,Yj,Zia hd,Z9n,Yj]
 exact .inl ⟨_,by rw[e2];exact Zk3 Z5 hi hj ha hk hb,q⟩
theorem Zu1{α:Type}{δ:Zf}{it:FI}{g:FG}{me:FE}(xs:List α)(mk f:α->Xa)(hi:EvI it δ (xs.map mk))(hz:xs.length≤1000000)(h:∀x∈xs,∀z0 z1,∃w0 w1,g (mk x) [z0,z1]=some [w0,w1]∧EvV me [w0,w1] (f x)):EvV (Wy 2 [] it g Zhj me) δ (.list (xs.map f)):=by
 obtain⟨ts,δ',e1,z0,z1,rfl,e2⟩:=Z87 (t:=Zhj) (e:=me) (g:=g) (δ:=[none,none])
  (λk acc δ=>∃z0 z1,δ=[z0,z1]∧acc=(xs.take k).map f) (xs.map mk) 0 [] ⟨none,none,rfl,rfl⟩ (λk d acc δ hd q=>by
   obtain⟨z0,z1,rfl,rfl⟩:=q
   rw[VR]at*
   rw[Xn]at hd
   cases e:xs[k]? with
   | none=>rw[e]at hd;cases hd
   | some p=>
    rw[e]at hd
    cases hd
    have et:xs.take (k+1)=xs.take k ++ [p]:=by rw[List.take_succ,e];rfl
    obtain⟨w0,w1,e1,e2⟩:=h p (Qz e) z0 z1
    refine⟨_,e1,Zdu rfl ⟨λ_=>Y9 e2 ⟨_,_,rfl,?_⟩,λz=>nomatch z⟩⟩
    rw[et,QD];rfl)
 rw[VR,Xg,V5,List.nil_append]at e2
 refine⟨.nd ts,?_,by rw[OT.data_nd,e2]⟩
 unfold EvI at hi
 unfold Wy
 rw[hi]
 show(if(xs.map mk).length≤Xq then _ else none)=_
 rw[if_pos (by rw[Xg,X7];omega)]
 show(compLoop _ _ _ _ [none,none]).bind _=_
 rw[e1];rfl
theorem Ztu{α:Type}(xs:List α)(f g:α->Xa):Zmm (xs.map f) (xs.map g)=xs.map λx=>.tuple [f x,g x]:=by
 unfold Zmm
 rw[List.zip_map',Qx];rfl
theorem Z9t{a b lo hi:Int}(ha:lo≤a∧a≤hi)(hb:lo≤b∧b≤hi)(c:Bool):∃x,gIx (.list [.int a,.int b]) (.int (if c=true then 1 else 0))=some (.fz (.int x))∧lo≤x∧x≤hi:=by
 cases c with
 | true=>exact⟨b,rfl,hb⟩
 | false=>exact⟨a,rfl,ha⟩
theorem Zuz(R:Nat->Nat->Int)(a b:Nat)(v w:Int):upR (upR R a b v) a b w=upR R a b w:=by
 funext i j
 unfold upR
 split<;>rfl
theorem Nn.put{R:Nat->Nat->Int}(h:Nn R){a b:Nat}{v:Int}(hab:a≠b)(hv:0≤v):Nn (upR (upR R a b v) b a v) where
 z:=λi=>by
  unfold upR
  rw[if_neg (by omega),if_neg (by omega)];exact h.z i
 nn:=λi j=>by
  unfold upR
  have:=h.nn i j
  split
  ·exact hv
  ·split<;>omega
 sym:=λi j=>by
  unfold upR
  have:=h.sym i j
  (repeat' split)<;>first|rfl|omega
theorem Zv3{R:Nat->Nat->Int}{M v:Int}(h:∀i j,R i j≤M)(hv:v≤M)(a b:Nat):∀i j,upR R a b v i j≤M:=λi j=>by
 unfold upR
 split
 ·exact hv
 ·exact h i j
theorem Z81{R:Nat->Nat->Int}{M:Int}(h:∀i j,R i j≤M)(k:Nat):∀i j,fw R k i j≤M:=by
 induction k with
 | zero=>exact h
 | succ k ih=>exact λi j=>QR (Int.min_le_left ..) (ih i j)
theorem Z3i{R:Nat->Nat->Int}{M w:Int}{k:Nat}(h:∀i j,R i j≤k*M)(hw0:0≤w)(hw:w≤M)(bits:Int):∀i j,adC R bits w i j≤(k+1:Nat)*M:=λi j=>by
 have:=h i j
 rw[Int.natCast_add,Int.add_mul,Int.natCast_one,Int.one_mul]
 unfold adC
 split<;>omega
noncomputable def lE(x:Int)(n:Nat)(o:OT)(kd:Int)(z4 z5 z6 z7 z8 z9:Option OT):Zf:=[some (dk x),some (.fz (.int n)),some o,some (.fz (.int kd)),z4,z5,z6,z7,z8,z9]
theorem Z5u{n:Nat}(h:n≤6):∃m,Z7i (.int 1) (.int n)=some (.int m)∧0<m∧m≤64:=by
 obtain rfl|rfl|rfl|rfl|rfl|rfl|rfl:n=0∨n=1∨n=2∨n=3∨n=4∨n=5∨n=6:=by omega
 all_goals exact⟨_,rfl,by decide,by decide⟩
theorem Ybz:Zeq (.int 10) (.int 20)=some (.int 100000000000000000000):=rfl
theorem Yc5:Zeq (.int 10) (.int 39)=some (.int 1000000000000000000000000000000000000000):=rfl
theorem Z8r{n:Nat}(hn:n≤6){M:Int}(hM:M=1000000000000000000000000000000000000001)(x kd:Int)(z6 z7 z8 z9:Option OT){RR:Xa->Zf->Prop} :
  EpS (Za7 (tV (Zh gNe (Ze 3) (fC (.int 1))))
  (W5 (iRa (Zd (Yp 0 Zn (Zd (fC (.int 7)) Zr)) Zr)) (gNm 4)
  (Z6 (wE (Yp 0 Zn (Zd (Zh Z7i (fC (.int 1)) (Ze 1)) Zr)) (Wd 5))
  (wE (Yp 2 Wa (Zd (Ze 5) (Zd (Zh Za0 (fC (.int 1)) (Yp 0 Zn (Zd (Z3 gIx (Zbf (Zd (fC (.int 3)) (Zd (Zh Zeq (fC (.int 10)) (fC (.int 20))) (Zd (Zh Zeq (fC (.int 10)) (fC (.int 39))) Zr)))) (Yp 0 Zn (Zd (fC (.int 3)) Zr))) Zr))) Zr))) Zi9)))
  fNx) (lE x n (Yr n (inG λ_ _=>0)) kd none none z6 z7 z8 z9) (λδ=>∃x R z4 z5,δ=lE x n (Yr n (inG R)) kd z4 z5 z6 z7 z8 z9∧Lt n R∧∀i j,R i j≤(7:Nat)*M) RR:=by
 have M0:0≤M:=by rw[hM];decide +kernel
 refine Zjk (Zdu (Zd3 (Zt5 Za Z5 rfl)) ⟨λ_=>?_,λ_=>Zhk ⟨_,_,_,_,rfl,Lt.nought n,λ_ _=>Int.mul_nonneg (by decide) M0⟩⟩)
 refine Zur (Z2n (Za9 (Zah rfl (Zb Z5 Zj) (by decide) (btc (by decide +kernel) (by decide +kernel)) λr x1 r0 r1=>Zc3 ⟨r.toNat,?_,by omega,?_⟩)))
 ·rw[Vx r0]
 refine⟨λk δ=>∃x R z4 z5,δ=lE x n (Yr n (inG R)) kd z4 z5 z6 z7 z8 z9∧Lt n R∧∀i j,R i j≤(k:Nat)*M,⟨_,_,_,_,rfl,Lt.nought n,λ_ _=>Int.mul_nonneg (by decide) M0⟩,λk d δ hd q=>?_,λδ' q=>?_⟩
 ·obtain⟨x,R,z4,z5,rfl,hR,bR⟩:=q
  obtain⟨m,em,m0,m1⟩:=Z5u hn
  refine⟨_,rfl,Z7 (Zcw (Zah rfl (Zb (Zo Z5 Za em) Zj) m0 (Bt.mono (m:=7) (Bt.of_lt (by omega) (by omega)) (by decide)) λb x2 b0 b1=>Zmw (Zba rfl (Za9 (Y9 Za (Za9 (Zd4 (Y9 Z5 (Zba rfl (Za9 (Zms (Y9 (Zbg (Zb Z5 (Zb (Zo Z5 Z5 Ybz) (Zb (Zo Z5 Z5 Yc5) Zj))) (show 3≤1000 by decide)) (Zah rfl (Zb Z5 Zj) (by decide) (btc (by decide +kernel) (by decide +kernel)) λr x3 r0 r1=>?_)))))))))))))⟩
  obtain⟨y,ey,y0,y1⟩:=Zyy (a:=3) (b:=100000000000000000000) (c:=1000000000000000000000000000000000000000) (lo:=1) (hi:=1000000000000000000000000000000000000000) (by decide +kernel) (by decide +kernel) (by decide +kernel) r0 r1
  refine⟨_,ey,Zc3 ⟨dk x3,rfl,?_⟩⟩
  rw[OT.data_fz]
  refine(Zla x3 (m:=y) (Ux (by decide) y0) (Zzy (m:=130) (QR (by decide) y0) (QR y1 (by decide +kernel)) (by decide))).mono λd t' z=>?_
  obtain⟨q,x',rfl,q0,q1,rfl⟩:=z
  refine⟨_,rfl,Zc3 ⟨Yr n (inG R),rfl,(Zoe (n:=n) (by omega) R b (1+q)).mono λ_ t' z=>?_⟩⟩
  subst z
  have w0:0≤1+q:=by clear y1;omega
  have w1:1+q≤M:=by
   rw[hM]
   generalize 1000000000000000000000000000000000000000=W at*
   exact QR (show 1+q≤y+1 by omega) (QR (Int.add_le_add_right y1 1) (Int.le_of_eq (by decide +kernel)))
  exact⟨_,_,_,_,rfl,hR.add w0,Z3i bR w0 w1 b⟩
 ·obtain⟨x,R,z4,z5,rfl,hR,bR⟩:=q
  refine⟨_,_,_,_,rfl,hR,λi j=>QR (bR i j) (Int.mul_le_mul_of_nonneg_right ?_ M0)⟩
  rw[Y4];omega
theorem long2{n:Nat}(hn:n≤6){P:Int}(hP:P=100000000000000000000)(x:Int)(o:OT)(kd:Int)(z4 z5 z6 z7 z8 z9:Option OT){RR:Xa->Zf->Prop}{N:Zf->Prop}{S':FS}(next:∀x S z7 z8 z9,Nn S->(∀i j,S i j≤P)->EpS S' (lE x n o kd z4 z5 (some (Yr n (inG S))) z7 z8 z9) N RR) :
  EpS (Z6 (wE (Z0 Ym (Zd (Ze 1) Zr)) (Zb4 6))
  (Z6 (wE (Z3 gIx (Zbf (Zd (fC (.int 3)) (Zd (fC (.int 7)) (Zd (Zh Zeq (fC (.int 10)) (fC (.int 20))) Zr)))) (Yp 0 Zn (Zd (fC (.int 3)) Zr))) (Wd 7))
  (Z6 (W5 (iRa (Zd (Ze 1) Zr)) (gNm 8)
  (W5 (iRa (Zd (Ze 8) Zr)) (gNm 9)
  (Z6 (Zcj 6 (Z3 gIx (Zbf (Zd (Zh Za0 (fC (.int 1)) (Yp 0 Zn (Zd (Ze 7) Zr))) (Zd (Ze 7) Zr))) (Zci Z1k (Zd (Zh gEq (Ze 3) (fC (.int 3))) Zr))) (Ze 8) (Ze 9))
  (Z6 (Za7 (tAn (tV (Zh gEq (Ze 3) (fC (.int 3)))) (tV (Zh gEq (Yp 0 Zn (Zd (fC (.int 2)) Zr)) (fC (.int 0)))))
  (Zcj 6 (fC (.int 1)) (Ze 8) (Ze 9))
  fNx)
  (Zcj 6 (Zub (Z3 gIx (Z3 gIx (Zdi 6) (Ze 8)) (Ze 9))) (Ze 9) (Ze 8)))))) S'))) (lE x n o kd z4 z5 z6 z7 z8 z9) N RR:=by
 have P1:1≤P:=by rw[hP];decide +kernel
 refine Z7 (Ze5 (Zqv (Zb Za Zj) (Zkx (n:=n) (by omega))) (Z7 (Zcw (Zms (Y9 (Zbg (Zb Z5 (Zb Z5 (Zb (Zo Z5 Z5 Ybz) Zj))) (show 3≤1000 by decide)) (Zah rfl (Zb Z5 Zj) (by decide) (btc (by decide +kernel) (by decide +kernel)) λr x1 r0 r1=>?_))))))
 obtain⟨m,em,m0,m1⟩:=Zyy (a:=3) (b:=7) (c:=100000000000000000000) (lo:=1) (hi:=P) (by rw[hP];decide +kernel) (by rw[hP];decide +kernel) (by rw[hP];decide +kernel) r0 r1
 refine⟨_,em,?_⟩
 rw[OT.data_fz]
 have bm:Bt 400 m:=Zzy (m:=70) (QR (by decide) m0) (QR m1 (by rw[hP];decide +kernel)) (by decide)
 clear em hP
 refine Z7 (Zai (ds:=Zdd 0 n) (λ_ δ=>∃x S z8 z9,δ=lE x n o kd z4 z5 (some (Yr n (inG S))) (some (.fz (.int m))) z8 z9∧Nn S∧∀i j,S i j≤P) (Zcz (Zb Za Zj) (by omega)) ⟨_,_,_,_,rfl,(Lt.nought n).toNn,λ_ _=>by omega⟩ (λa d δ hd q=>?_) λδ' q=>?_)
 ·obtain⟨x,S,z8,z9,rfl,hS,bS⟩:=q
  obtain⟨ha,rfl⟩:=Wb hd
  rw[JZ]
  refine⟨_,rfl,Zai (ds:=Zdd 0 a) (λ_ δ=>∃x S z9,δ=lE x n o kd z4 z5 (some (Yr n (inG S))) (some (.fz (.int m))) (some (.fz (.int a))) z9∧Nn S∧∀i j,S i j≤P) (Zcz (Zb Za Zj) (by omega)) ⟨_,_,_,rfl,hS,bS⟩ (λb d δ hd q=>?_) λδ' q=>?_⟩
  ·obtain⟨x,S,z9,rfl,hS,bS⟩:=q
   obtain⟨hb,rfl⟩:=Wb hd
   rw[JZ]
   refine⟨_,rfl,Z7 (Zis (Zms (Z2p (Za9 (Zd4 (Y9 Z5 (Zah rfl (Zb Za Zj) (by omega) bm λr x2 r0 r1=>⟨_,Zwj _ _,Za9 (Y9 Za (Zc3 ⟨show 2≤1000 by decide,Y9 (Zbi (Zb (Zx6 Za Z5 rfl) Zj) (Z40 _)) ?_⟩))⟩)))))))⟩
   obtain⟨v,ev,v0,v1⟩:=Z9t (a:=1+r) (b:=m) (lo:=1) (hi:=P) (by omega) (by omega) (decide (kd=3))
   refine⟨_,ev,v,S,n,a,b,OT.data_fz _,rfl,Za,ha,Za,by omega,?_⟩
   refine Z7 (EpS.mono (N:=λδ=>∃x v,δ=lE x n o kd z4 z5 (some (Yr n (inG (upR S a b v)))) (some (.fz (.int m))) (some (.fz (.int a))) (some (.fz (.int b)))∧1≤v∧v≤P) (R:=λ_ _=>False) ?_ (λδ q=>?_) λ_ _ z=>z.elim)
   ·refine Zjk (Z5m (Zdu (Zd3 (Zx6 Za Z5 rfl)) ⟨λc=>?_,λc=>⟨(λz=>nomatch z),λ_=>Zhk ⟨_,v,rfl,v0,v1⟩⟩⟩))
    refine Z5k (Zd4 (Zah rfl (Zb Z5 Zj) (by decide) (btc (by decide +kernel) (by decide +kernel)) λr x3 r0 r1=>Y9 Z5 ⟨_,Z09 _ _,_,rfl,λ_=>?_,λ_=>Zhk ⟨_,v,rfl,v0,v1⟩⟩))
    refine Zis (Y9 Z5 ⟨1,upR S a b v,n,a,b,rfl,rfl,Za,ha,Za,by omega,x3,1,?_,Ue _,P1⟩)
    rw[Zuz];rfl
   obtain⟨x3,v,rfl,v0,v1⟩:=q
   have val:EvV (Z3 gIx (Z3 gIx (Zdi 6) (Ze 8)) (Ze 9)) (lE x3 n o kd z4 z5 (some (Yr n (inG (upR S a b v)))) (some (.fz (.int m))) (some (.fz (.int a))) (some (.fz (.int b)))) (.int v):=(Zfh (f:=inG (upR S a b v)) (n:=n) (a:=a) (b:=b) (i0:=6) (i9:=8) (i10:=9) ha (by omega) rfl rfl rfl).cast (congrArg Xo (if_pos ⟨rfl,rfl⟩))
   refine Zis (Y9 (d:=.int v) ?_ ⟨v,upR S a b v,n,b,a,rfl,rfl,Za,by omega,Za,ha,x3,_,_,rfl,hS.put (by omega) (by omega),Zv3 (Zv3 bS v1 a b) v1 b a⟩)
   obtain⟨t,e1,e2⟩:=val
   exact⟨_,by rw[Zuv,e1,Xi,e2];exact if_pos rfl,OT.data_fz _⟩
  ·obtain⟨x,S,z9,rfl,hS,bS⟩:=q
   exact⟨x,S,_,z9,rfl,hS,bS⟩
 ·obtain⟨x,S,z8,z9,rfl,hS,bS⟩:=q
  exact next x S _ z8 z9 hS bS
theorem Zuu{n k:Nat}{ts:List OT}{d:Xa}{f:Nat->Xa}(h:ts.map OT.data=(Xr n).map f):(ts.set k (.fz d)).map OT.data=(Xr n).map λi=>if i=k then d else f i:=by
 rw[List.map_set,h,OT.data_fz,Zff]
noncomputable def ad2(R W:Nat->Nat->Int)(k:Nat)(i j:Nat):Int:=if i<k then R i j+W i j else R i j
theorem Z7u{n:Nat}(hn:n≤6)(R W:Nat->Nat->Int)(x kd:Int)(z4 z5 z7 z8 z9:Option OT){RR:Xa->Zf->Prop} :
  EpS (W5 (iRa (Zd (Ze 1) Zr)) (gNm 8)
  (Zw4 2 (Wy 2 [] (Znl (Zd (Z3 gIx (Zdi 2) (Ze 8)) (Zd (Z3 gIx (Zdi 6) (Ze 8)) Zr))) (gTp 2 (gCn (Zx0 0) (gCn (Zx0 1) gNl))) Zhj (Zh Za0 (Ze 0) (Ze 1))) (Ze 8))) (lE x n (Yr n (inG R)) kd z4 z5 (some (Yr n (inG W))) z7 z8 z9)
  (λδ=>∃o z8,δ=lE x n o kd z4 z5 (some (Yr n (inG W))) z7 z8 z9∧o.data=Zay n (inG λi j=>R i j+W i j)) RR:=by
 have eo:Yr n (inG R)= .nd ((Xr n).map λi=>.nd ((Xr n).map λj=>.fz (inG R i j))):=rfl
 rw[eo]
 refine Zai (ds:=Zdd 0 n) (λk δ=>∃ts z8,δ=lE x n (.nd ts) kd z4 z5 (some (Yr n (inG W))) z7 z8 z9∧ts.map OT.data=(Xr n).map λi=>QH ((Xr n).map λj=>inG (ad2 R W k) i j)) (Zcz (Zb Za Zj) (by omega)) ⟨_,z8,rfl,?_⟩ (λk d δ hd q=>?_) λδ' q=>?_
 ·have:=Zat n (inG R)
  unfold Yr Zay at this
  rw[OT.data_nd]at this
  exact PyData.list.inj this
 ·obtain⟨ts,z8,rfl,ht⟩:=q
  obtain⟨hk,rfl⟩:=Wb hd
  rw[JZ]
  have lt:ts.length=n:=by
   have:=congrArg List.length ht
   rwa[Xg,Xg,Ql]at this
  refine⟨_,rfl,Zas (Zwe (n:=k) (d:=.list ((Xr n).map λj=>.int (R k j+W k j))) (Zu1 (Xr n) (λj=>.tuple [.int (R k j),.int (W k j)]) _ (Z0d (as:=(Xr n).map λj=>.int (R k j)) (bs:=(Xr n).map λj=>.int (W k j)) (Ji (Zfj rfl (OT.data_nd ts)) (Za (d:=.int k)) ?_) (Ji (Zfj rfl (Zat n (inG W))) (Za (d:=.int k)) ?_) (Ztu _ _ _)) (by rw[Ql];omega) λj _ z0 z1=>⟨_,_,rfl,Jj Za Za⟩) rfl Za ?_) ⟨_,_,rfl,?_⟩⟩
  ·rw[ht,Zh9,Ze2 _ hk,Xi]
   refine congrArg (λz=>some (OT.fz (QH z))) (Xv λj _=>congrArg Xo (if_neg (by omega)))
  ·unfold Zay
   rw[Zh9,Ze2 _ hk,Xi];rfl
  ·rw[lt];exact Zrx hk
  ·rw[Zuu ht]
   refine Xv λi _=>?_
   by_cases c:i=k
   ·rw[if_pos c,c]
    exact congrArg QH (Xv λj _=>congrArg Xo (if_pos (by omega)).symm)
   ·rw[if_neg c]
    refine congrArg QH (Xv λj _=>congrArg Xo ?_)
    unfold ad2
    by_cases c2:i<k
    ·rw[if_pos c2,if_pos (by omega)]
    ·rw[if_neg c2,if_neg (by omega)]
 ·obtain⟨ts,z8,rfl,ht⟩:=q
  refine⟨_,z8,rfl,?_⟩
  rw[OT.data_nd,ht,Y4]
  refine congrArg QH (Xv λi hi=>congrArg QH (Xv λj _=>congrArg Xo (if_pos (QM.mp hi))))
theorem Zvl{M P:Int}(hM:M=1000000000000000000000000000000000000001)(hP:P=100000000000000000000){v:Int}(h0:0≤v)(h1:v≤(7:Nat)*M+P):Bt 300 v :=
 Zzy (m:=160) h0 (QR h1 (by rw[hM,hP];decide +kernel)) (by decide)
theorem Zyh{n:Nat}(hn:n≤6)(x:Int):ToldI J6 (dk x) [.int n] λd t'=>∃R x',d=W3 n R∧Lt n R∧(∀i j,Bt 300 (R i j))∧t'=dk x':=by
 obtain⟨M,hM⟩:∃M:Int,M=1000000000000000000000000000000000000001:=⟨_,rfl⟩
 obtain⟨P,hP⟩:∃P:Int,P=100000000000000000000:=⟨_,rfl⟩
 have P0:0≤P:=by rw[hP];decide +kernel
 refine Zdh rfl (Z7 (Ze5 (Zqv (Zb Za Zj) (Zkx (n:=n) (by omega))) (Z7 (Zcw (Zah rfl (Zb Z5 Zj) (by decide) (btc (by decide +kernel) (by decide +kernel)) λkd x1 r0 r1=>Z7 ((Z8r hn hM x1 kd none none none none (RR:=λ_ _=>False)).mono (λδ q=>?_) λ_ _ z=>z.elim))))))
 obtain⟨x2,R,z4,z5,rfl,hR,bR⟩:=q
 refine Z7 (EpS.mono (N:=λδ=>∃x o R z4 z5 z6 z7 z8 z9,δ=lE x n o kd z4 z5 z6 z7 z8 z9∧o.data=Zay n (inG R)∧Lt n R∧∀i j,Bt 300 (R i j)) (R:=λ_ _=>False) ?_ (λδ q=>?_) λ_ _ z=>z.elim)
 ·refine Zjk (Zdu (Zd3 (Zn0 Za Z5 rfl)) ⟨λ_=>?_,λ_=>Zhk ⟨_,_,_,_,_,_,_,_,_,rfl,Zat n (inG R),hR,λi j=>Zvl hM hP (hR.nn i j) (QR (bR i j) (Int.le_add_of_nonneg_right P0))⟩⟩)
  refine long2 hn hP x2 _ kd z4 z5 none none none none λx S z7 z8 z9 hS bS=>?_
  refine Z7 (Zmw (Zba rfl (Zc3 ⟨_,rfl,(Zk5 (n:=n) (by omega) hS).mono λ_ t' z=>?_⟩)))
  subst z
  refine(Z7u hn R (fw S n) x kd z4 z5 z7 z8 z9 (RR:=λ_ _=>False)).mono (λδ q=>?_) λ_ _ z=>z.elim
  obtain⟨o,z8,rfl,ho⟩:=q
  exact⟨x,o,_,_,_,_,_,_,_,rfl,ho,hR.sum (Lt.short hS),λi j=>Zvl hM hP (Int.add_nonneg (hR.nn i j) ((hS.fw n).nn i j)) (Int.add_le_add (bR i j) (Z81 bS n i j))⟩
 ·obtain⟨x,o,R,z4,z5,z6,z7,z8,z9,rfl,ho,hR,bR⟩:=q
  exact Z86 rfl ⟨dk x,rfl,R,x,ho,hR,bR,rfl⟩
theorem Zce{ds:List Xa}(h:∀d∈ds,Yl d=true):Yl (.list ds)=true:=by
 rw[Yl]
 induction ds with
 | nil=>rfl
 | cons d ds ih=>rw[Jm,h d (.head _),ih λe he=>h e (.tail _ he)];rfl
theorem Zn1(p:List Int):Yl (Zy p)=true:=Zce λd m=>by
 obtain⟨x,_,rfl⟩:=XF.mp m
 rfl
theorem Z0z{it:FI}{g:FG}{S:FS}{δ:Zf}{ds:List Xa}{N:Zf->Prop}{R:Xa->Zf->Prop}(I:Zf->Prop)(hi:EvI it δ ds)(h0:I δ)(turn:∀d∈ds,∀δ,I δ->∃δ1,g d δ=some δ1∧EpS S δ1 I R)(fin:∀δ',I δ'->N δ'):EpS (W5 it g S) δ N R :=
 Zai (λ_=>I) hi h0 (λ_ d δ hd q=>turn d (Qz hd) δ q) fin
noncomputable def ctD(p:List Int×Rat):Xa:=.tuple [Zy p.1,frD p.2]
noncomputable def Zj9(L:List (List Int×Rat)):Xa:=.list (L.map ctD)
noncomputable def Z6g(L:List (List Int×Rat)):OT:=.nd ((L.map ctD).map OT.fz)
theorem Zjt(L:List (List Int×Rat)):(Z6g L).data=Zj9 L:=by unfold Z6g Zj9;rw[OT.data_nd,OT.map_fz]
theorem Zpu:∀{a b c:List Int},ltI a b=true->ltI b c=true->ltI a c=true:=by
 intro a
 induction a with
 | nil=>
  intro b c h1 h2
  cases b with
  | nil=>cases h1
  | cons y b=>cases c with
   | nil=>cases h2
   | cons z c=>rfl
 | cons x a ih=>
  intro b c h1 h2
  cases b with
  | nil=>cases h1
  | cons y b=>cases c with
   | nil=>cases h2
   | cons z c=>
    unfold ltI at h1 h2⊢
    by_cases e1:x=y
    ·subst e1
     rw[if_pos rfl]at h1
     by_cases e2:x=z
     ·rw[if_pos e2]at h2⊢;exact ih h1 h2
     ·rw[if_neg e2]at h2⊢;exact h2
    ·rw[if_neg e1]at h1
     have l1:=of_decide_eq_true h1
     by_cases e2:y=z
     ·subst e2
      rw[if_neg e1];exact h1
     ·rw[if_neg e2]at h2
      have l2:=of_decide_eq_true h2
      rw[if_neg (by omega)]
      exact decide_eq_true (by omega)
theorem Zpe:∀a:List Int,ltI a a=false:=by
 intro a
 induction a with
 | nil=>rfl
 | cons x a ih=>unfold ltI;rw[if_pos rfl];exact ih
theorem Zyz:∀{a b:List Int},a≠b->ltI a b=false->ltI b a=true:=by
 intro a
 induction a with
 | nil=>
  intro b ne h
  cases b with
  | nil=>exact absurd rfl ne
  | cons y b=>cases h
 | cons x a ih=>
  intro b ne h
  cases b with
  | nil=>rfl
  | cons y b=>
   unfold ltI at h⊢
   by_cases e:x=y
   ·subst e
    rw[if_pos rfl]at h⊢
    exact ih (λz=>ne (z▸rfl)) h
   ·rw[if_neg e]at h
    rw[if_neg (JP e)]
    have:=of_decide_eq_false h
    exact decide_eq_true (by omega)
theorem Zyu{α:Type}(d d':α)(lt:Nat->Nat->Bool)(vs:List α):sLay d lt vs=sLay d' lt vs:=by
 unfold sLay
 split
 ·rfl
 ·refine Xv λi hi=>?_
  have:=QM.mp ((Zbt (by omega)).mem_iff.mp hi)
  rw[Xd,Xd,Xh this];rfl
structure Z6s(n:Nat)(s:List Int):Prop where
 ne:s≠[]
 up:s.Pairwise (·<·)
 pt:∀x∈s,1≤x∧x<n
theorem Z28:∀{s t:List Int},s.Pairwise (·<·)->t.Pairwise (·<·)->(∀x,x∈s↔x∈t)->s=t:=by
 intro s
 induction s with
 | nil=>
  intro t _ _ h
  cases t with
  | nil=>rfl
  | cons y t=>exact absurd ((h y).mpr (.head _)) (λz=>nomatch z)
 | cons x s ih=>
  intro t hs ht h
  cases t with
  | nil=>exact absurd ((h x).mp (.head _)) (λz=>nomatch z)
  | cons y t=>
   have h1:∀{z:Int},z∈s->x<z:=λm=>Vr hs m
   have h2:∀{z:Int},z∈t->y<z:=λm=>Vr ht m
   have e:x=y:=by
    rcases Xk.mp ((h x).mp (.head _))with e|m
    ·exact e
    ·rcases Xk.mp ((h y).mpr (.head _))with e|m'
     ·exact e.symm
     ·have:=h1 m';have:=h2 m;omega
   subst e
   refine congrArg (x :: ·) (ih hs.tail ht.tail λz=>⟨λm=>?_,λm=>?_⟩)
   ·rcases Xk.mp ((h z).mp (.tail _ m))with e|m'
    ·have:=h1 m;omega
    ·exact m'
   ·rcases Xk.mp ((h z).mpr (.tail _ m))with e|m'
    ·have:=h2 m;omega
    ·exact m'
theorem Zy4:∀(k:Nat) (s:List Int),s.Pairwise (·<·)->(∀x∈s,1≤x∧x≤(k:Int))->s∈sdL k:=by
 intro k
 induction k with
 | zero=>
  intro s _ h
  cases s with
  | nil=>exact .head _
  | cons x s=>have:=h x (.head _);omega
 | succ k ih=>
  intro s hs h
  by_cases c:((k:Int)+1)∈s
  ·refine X3.mpr (.inr (XF.mpr ⟨s.filter λx=>decide (x≤(k:Int)),ih _ (hs.filter _) λx hx=>?_,?_⟩))
   ·obtain⟨h1,h2⟩:=JB.mp hx
    exact⟨(h x h1).1,of_decide_eq_true h2⟩
   ·refine Z28 (List.pairwise_append.mpr ⟨hs.filter _,List.pairwise_singleton ..,λx hx y hy=>?_⟩) hs λx=>?_
    ·rw[Xu.mp hy]
     have:=of_decide_eq_true (JB.mp hx).2
     omega
    ·rw[X3,JB,decide_eq_true_eq,Xu]
     constructor
     ·rintro(⟨q,_⟩|rfl)
      ·exact q
      ·exact c
     ·intro q
      have:=(h x q).2
      by_cases e:x=(k:Int)+1
      ·exact .inr e
      ·exact .inl ⟨q,by omega⟩
  ·refine X3.mpr (.inl (ih s hs λx hx=>⟨(h x hx).1,?_⟩))
   have:=(h x hx).2
   have:x≠(k:Int)+1:=λe=>c (e▸hx)
   omega
theorem Zjs:∀k,(sdL k).Nodup:=by
 intro k
 induction k with
 | zero=>exact XX.mpr ⟨(λz=>nomatch z),.nil⟩
 | succ k ih=>
  refine QL.mpr ⟨ih,?_,λs hs t ht e=>?_⟩
  ·unfold JX
   rw[List.pairwise_map]
   exact ih.imp λq e=>q (List.append_cancel_right e)
  ·obtain⟨r,_,rfl⟩:=XF.mp ht
   have:=((Zgd k s hs).2.2 ((k:Int)+1) (by rw[e];exact X3.mpr (.inr (.head _)))).2
   omega
theorem Zfs(n:Nat)(h1:1≤n)(s:List Int):s∈sdL (n-1)∧s≠[]↔Z6s n s:=by
 constructor
 ·rintro⟨a,b⟩
  obtain⟨_,h2,h3⟩:=Zgd _ s a
  exact⟨b,h2,λx hx=>by have:=h3 x hx;omega⟩
 ·rintro⟨a,b,c⟩
  exact⟨Zy4 _ s b λx hx=>by have:=c x hx;omega,a⟩
theorem Zy8{n:Nat}(hn:n≤100){R:Nat->Nat->Int}{b:Int}(hb:0<b)(bb:Bt 300 b)(bR:∀i j,i<n->j<n->Bt 300 (R i j)):∃(m k:Int) (S:Nat->Nat->Int),Told Yo [tbD (Zaj n R b)] (.int m)∧Told Wm [.int m,tbD (Zaj n R b)] (W3 n S)∧0<m∧0<k∧b=m*k∧Bt 300 m∧∀x y,x<n->y<n->k*S x y=R x y:=by
 have hz:∀r∈Zaj n R b,r.length≤1000:=λr hr=>by
  unfold Zaj at hr
  obtain⟨x,_,rfl⟩:=XF.mp hr
  rw[Xg,Ql];omega
 have hB:Z3f (Zaj n R b) b:=λr hr q hq=>by
  unfold Zaj at hr
  obtain⟨x,_,rfl⟩:=XF.mp hr
  obtain⟨y,_,rfl⟩:=XF.mp hq
  exact Z0p (by omega)
 have hN:∀r∈Zaj n R b,∀q∈r,Bt 300 q.num:=λr hr q hq=>by
  unfold Zaj at hr
  obtain⟨x,hx,rfl⟩:=XF.mp hr
  obtain⟨y,hy,rfl⟩:=XF.mp hq
  exact Zqr (by omega) (bR x y (QM.mp hx) (QM.mp hy))
 obtain⟨m,e1,m0,hm,k,rfl⟩:=Zfp hb bb (by decide) (Zaj n R b) hz hB
 have k0:0<k:=by
  by_cases c:0<k
  ·exact c
  ·have:=VG (a:=m) (b:=k) (by omega) (by omega)
   omega
 have bm:Bt 300 m:=Zkd hb ⟨k,rfl⟩ bb
 have e2:=Zho m0 bm (Zaj n R (m*k)) (by rw[Zmf];omega) hz hm hN
 have er:QH ((Zaj n R (m*k)).map λr=>.list (r.map λq=>.int (scI m q)))=W3 n λi j=>scI m (Qa (R i j) (m*k)):=by
  unfold Zaj W3
  rw[Qx]
  refine congrArg QH (Xv λi _=>?_)
  show QH _=Z2e _ _
  rw[Qx];rfl
 rw[er]at e2
 refine⟨m,k,_,e1,e2,m0,k0,rfl,bm,λx y hx hy=>?_⟩
 have hd:((Qa (R x y) (m*k)).den:Int)∣m:=hm _ (XF.mpr ⟨x,QM.mpr hx,rfl⟩) _ (XF.mpr ⟨y,QM.mpr hy,rfl⟩)
 have:=Z4s hd
 have e:((k*scI m (Qa (R x y) (m*k)):Int):Rat)=((R x y:Int):Rat):=by
  have nk:((k:Int):Rat)≠0:=by
   intro z
   have:k=0:=by exact_mod_cast z
   omega
  have nm:((m:Int):Rat)≠0:=by
   intro z
   have:m=0:=by exact_mod_cast z
   omega
  rw[Rat.intCast_mul,this,Bp,Rat.intCast_mul]
  rw[Rat.mul_comm,Rat.mul_assoc]
  exact Rat.div_mul_cancel (λz=>(Rat.mul_eq_zero.mp z).elim nm nk)
 exact_mod_cast e
noncomputable def wtL(Ls:List (List Int))(W:List Int->Int)(b:Int):List (List Int×Rat):=(Ls.filter λA=>decide (0<W A)).map λA=>(A,Qa (W A) (2*b))
theorem Zw0{n:Nat}{R:Nat->Nat->Int}{b:Int}{δ:Zf}(h:δ[0]? =some (some (.fz (tbD (Zaj n R b))))):EvV (Zci Zfg (Zd (Ze 0) Zr)) δ (.int n):=Zbi (Zb (Za h) Zj) (by rw[Zxt,Zmf])
theorem Sh.up{m n:Nat}{d:Xa}(h:Sh m d)(k:m≤n):Sh n d:=⟨h.1,Qy h.2 k⟩
theorem Z9w(p:List Int×Rat):Sh 2 (ctD p):=Zou λd m=>by
 rcases Xk.mp m with rfl|m
 ·exact Zo3 _
 ·rw[Xu.mp m];exact Zkc [p.2.num,(p.2.den:Int)]
theorem Zu6(p:List Int×Rat):Yl (ctD p)=true:=by
 show(Yl (Zy p.1)&&(Yl (frD p.2)&&true))=true
 rw[Zn1];rfl
theorem Z45(L:List (List Int×Rat)):Sh 3 (Zj9 L):=Zeg λd m=>by
 obtain⟨p,_,rfl⟩:=XF.mp m
 exact Z9w p
theorem Zrz(L:List (List Int×Rat)):Yl (Zj9 L)=true:=Zce λd m=>by
 obtain⟨p,_,rfl⟩:=XF.mp m
 exact Zu6 p
theorem Zk2{np n:Nat}{S:FS}{xs:List Xa}{o:OT}{δ':Zf}(hl:xs.length=np)(k:S (Zes n xs)= .rt o δ'):Zal np n S xs= .ok o:=by rw[Zf8 hl,k,Zqj]
theorem Z36{δ:Zf}{i:Nat}{o:OT}(h:δ[i]? =some (some o)):Zfc i δ= .rt o (δ.set i none):=by rw[Zik,h,Zsk]
theorem gP9:Zeq (.int 10) (.int 9)=some (.int 1000000000):=rfl
theorem Zr2(x:Int):ToldI Jk (dk x) [] λd t'=>∃b x',d= .int b∧1≤b∧b≤1000000000∧t'=dk x':=by
 refine Zdh rfl (Zky (Zd4 (Y9 Z5 (Zba rfl (Za9 (Zms (Y9 (Zbg (Zb Z5 (Zb Z5 (Zb (Zo Z5 Z5 gP9) Zj))) (show 3≤1000 by decide)) (Zah rfl (Zb Z5 Zj) (by decide) (btc (by decide +kernel) (by decide +kernel)) λr x1 r0 r1=>?_))))))))
 obtain⟨m,em,m0,m1⟩:=Zyy (a:=1) (b:=12) (c:=1000000000) (lo:=1) (hi:=1000000000) (by decide) (by decide) (by decide) r0 r1
 refine⟨_,em,Zc3 ⟨dk x1,rfl,?_⟩⟩
 rw[OT.data_fz]
 refine(Zla x1 (m:=m) (by omega) (Bt.mono (m:=40) (Bt.of_lt (by omega) (by omega)) (by decide))).mono λd t' z=>?_
 obtain⟨q,x',rfl,q0,q1,rfl⟩:=z
 exact⟨_,rfl,_,rfl,_,_,rfl,by omega,by omega,rfl⟩
theorem Z0t{δ δ2:Zf}{i:Nat}{e:FE}{t o:OT}(h:δ[i]? =some (some t))(h1:e (δ.set i (some (.fz t.data)))=some (o,δ2))(hf:Zbu o=true):Zn3 i e δ=some (o,δ):=by
 unfold Zn3
 rw[h]
 show(e (δ.set i (some (.fz t.data)))).bind _=_
 rw[h1]
 exact if_pos hf
theorem Zzr{δ:Zf}{i:Nat}{e:FE}{ts rs:List OT}(hi:δ[i]? =some (some (.nd ts)))(h:e δ=some (.nd rs,δ))(hl:ts.length+rs.length≤1000000):Zn4 i e δ= .nx (δ.set i (some (.nd (ts ++ rs)))):=by
 unfold Zn4
 rw[hi]
 show wE e _ δ=_
 rw[Jv,h,Yj]
 show(match δ[i]?,OT.nd rs with|some (some (.nd ts)),.nd rs=>if ts.length+rs.length≤Xq then RS.nx (δ.set i (some (.nd (ts ++ rs))))else .bad|_,_=>.bad)=_
 rw[hi]
 exact if_pos (by rw[X7];omega)
theorem Zzw{δ:Zf}{j:Nat}{e:FE}{S:FS}{ts:List OT}(I:Nat->Zf->Prop)(he:e δ=some (.nd ts,δ))(h0:I 0 δ)(turn:∀(k:Nat) (t:OT) (δ':Zf),ts[k]? =some t->I k δ'->∃δ2,(S (δ'.set j (some t))= .nx δ2∨S (δ'.set j (some t))= .ct δ2)∧I (k+1) δ2):∃δ',Zsy e j S δ= .nx δ'∧I ts.length δ':=by
 have key:∀(us:List OT) (k:Nat) (δ':Zf),ts.drop k=us->I k δ'->∃δ2,W9 j S us δ'= .nx δ2∧I (k+us.length) δ2:=by
  intro us
  induction us with
  | nil=>exact λk δ' _ q=>⟨δ',rfl,q⟩
  | cons t us ih=>
   intro k δ' e q
   have hk:k<ts.length:=Nat.lt_of_not_le λz=>by rw[List.drop_eq_nil_of_le z]at e;cases e
   rw[Q0 hk]at e
   have et:ts[k]? =some t:=by rw[Xh hk];exact congrArg some (List.cons.inj e).1
   obtain⟨δ2,e2,q2⟩:=turn k t δ' et q
   obtain⟨δ3,e3,q3⟩:=ih (k+1) δ2 (List.cons.inj e).2 q2
   refine⟨δ3,?_,by rw[Bg,show k+(us.length+1)=k+1+us.length by omega];exact q3⟩
   rw[Zdk]
   rcases e2 with e2|e2<;>rw[e2]<;>exact e3
 obtain⟨δ',e2,q⟩:=key ts 0 δ rfl h0
 refine⟨δ',?_,by rw[VR]at q;exact q⟩
 unfold Zsy
 rw[Jv,he,Yj]
 exact e2
theorem Ztz{δ:Zf}{i j:Nat}{e:FE}{ts0 ts:List OT}{t o:OT}(hi:δ[i]? =some (some (.nd ts0)))(hj:δ[j]? =some (some t))(h:e δ=some (o,δ))(hi2:(δ.set j none)[i]? =some (some (.nd ts)))(hl:ts.length≤1000000):Zg6 i j e δ= .nx ((δ.set j none).set i (some (.nd (ts ++ [OT.tp [t,o]])))):=by
 unfold Zg6
 rw[hi,hj]
 show wE e _ δ=_
 rw[Jv,h,Yj]
 show(match(δ.set j none)[i]?,δ[j]? with|some (some (.nd ts)),some (some t)=>if ts.length<Xq then RS.nx ((δ.set j none).set i (some (.nd (ts ++ [OT.tp [t,o]]))))else .bad|_,_=>.bad)=_
 rw[hi2,hj]
 exact if_pos (by rw[X7];omega)
theorem Znf{t:FT}{ts:List OT}{pr:Nat->Bool}:∀{p:List Nat},(∀k∈p,EvT t [some (.fz (gt ts k).data)] (pr k))->Zp8 t ts p=some (p.filter pr)
 | [],_=>rfl
 | k :: p,h=>by
  have e:t [some (.fz (gt ts k).data)]=some (pr k,_):=h k (.head _)
  show(t [some (.fz (gt ts k).data)]).bind _=_
  rw[e,Xi,Znf λi m=>h i (.tail _ m),Xi,List.filter_cons]
theorem Zyo{α:Type}{kd:Xa->Option α}{lt:α->α->Bool}{δ:Zf}{i:Nat}{t:FT}{ts:List OT}{p:List Nat}{pr:Nat->Bool}(hi:δ[i]? =some (some (.nd ts)))(hp:Zuq kd lt (OT.datas ts)=some p)(ht:∀k∈p,EvT t [some (.fz (gt ts k).data)] (pr k)):Zrc kd lt i t δ= .rt (.nd ((p.filter pr).map (gt ts))) (δ.set i none):=by
 unfold Zrc
 rw[hi]
 show(match(Zuq kd lt (OT.datas ts)).bind (Zp8 t ts)with|some q=>RS.rt (.nd (q.map (gt ts))) (δ.set i none)|none=>.bad)=_
 rw[hp,Xi,Znf ht]
noncomputable def Zc6(s:List Int):OT:=.nd (s.map λx=>.fz (.int x))
theorem Zbr(s:List Int):(Zc6 s).data=Zy s:=by
 unfold Zc6 Zy
 rw[OT.data_nd,Qx]
 exact congrArg _ (Xv λx _=>OT.data_fz _)
theorem Zr4(s:List Int):Zbu (Zc6 s)=true:=by
 unfold Zc6
 rw[Zbu,Zdw]
 intro t m
 obtain⟨x,_,rfl⟩:=XF.mp m
 rw[Zbu];rfl
theorem Znv(L:List (List Int)):OT.datas (L.map Zc6)=L.map Zy:=by
 rw[datas_map,Qx]
 exact Xv λs _=>Zbr s
theorem Zvg{L:List (List Int)}{i j:Nat}(hi:i<L.length)(hj:j<L.length):lk kdL ltI (L.map Zy) i j=ltI (L.getD i []) (L.getD j []):=by
 have e:∀k,k<L.length->kdL ((L.map Zy).getD k .none)=some (L.getD k []):=λk hk=>by
  rw[Xd,Xn,Xh hk,Xd,Xh hk]
  exact Zds _
 unfold lk
 rw[e i hi,e j hj];rfl
theorem Zw9{L:List (List Int)}(nd:L.Nodup){i j:Nat}(hi:i<L.length)(hj:j<L.length)(h:i≠j):L.getD i []≠L.getD j []:=by
 rw[Xd,Xd,Xh hi,Xh hj]
 exact λe=>h ((List.getElem_inj nd).mp e)
noncomputable def UpL(L:List (List Int)):Prop:=L.Pairwise λa b=>ltI a b=true
theorem Zrb{L:List (List Int)}(nd:L.Nodup)(h:L.length<64):∃p,Zuq kdL ltI (L.map Zy)=some p∧(p.map λi=>L.getD i []).Perm L∧UpL (p.map λi=>L.getD i []):=by
 have lm:(L.map Zy).length=L.length:=Xg ..
 refine⟨if L.length<2 then Xr L.length else Zls (lk kdL ltI (L.map Zy)) L.length,?_,?_,?_⟩
 ·unfold Zuq
  rw[if_pos,lm,if_pos h]
  rw[Bh]
  intro d m
  obtain⟨p,_,rfl⟩:=XF.mp m
  show(Zh5 (p.map Xo)).isSome=true
  rw[Zds];rfl
 ·rw[←Zil (d:=[])]
  exact Zge _ _ _
 ·rw[←Zil (d:=[])]
  refine Zxe (β:=Nat) (d:=[]) (vs:=L) ⟨λi j k hi hj hk h1 h2=>?_,λi j hi hj c q=>?_,λi j hi hj q=>?_⟩ λi j hi hj q=>?_
  ·rw[Zvg hi hj]at h1
   rw[Zvg hj hk]at h2
   rw[Zvg hi hk]
   exact Zpu h1 h2
  ·rw[Zvg hi hj]at q
   rw[Zvg hj hi]
   exact Zyz (Zw9 nd hi hj c) q
  ·rw[Zvg hi hj]at q
   rw[Zvg hj hi]
   refine VP.mpr λz=>?_
   have:=Zpu q z
   rw[Zpe]at this
   cases this
  ·rw[Zvg hi hj]at q
   exact q
theorem Z2b{k:Nat}(hk:k≤5):∃p,Zuq kdL ltI ((sdL k).map Zy)=some p∧(p.map λi=>(sdL k).getD i []).Perm (sdL k)∧UpL (p.map λi=>(sdL k).getD i []) :=
 Zrb (Zjs k) (by rw[Zlg];exact VF (BV (by decide) hk) (by decide))
theorem Zjv{n:Nat}(h0:1≤n)(hn:n≤6):∃Ls:List (List Int),We [.int n]= .ok (.nd (Ls.map Zc6))∧(∀s,s∈Ls↔Z6s n s)∧UpL Ls∧Ls.length≤32:=by
 have p2:∀{k:Nat},k≤5->(sdL k).length≤32:=fun{k} hk=>by
  rw[Zlg]
  exact Qy (BV (by decide) hk) (by decide)
 have l2:=p2 (k:=n-1) (by omega)
 obtain⟨p,eS,pS,uS⟩:=Z2b (k:=n-1) (by omega)
 obtain⟨δ',e3,z2,rfl⟩:=Zlp (it:=iRb (Zd (fC (.int 1)) (Zd (Ze 0) Zr))) (g:=gNm 2) (S:=Zn4 1 (Zn3 1 (Wy 1 [2] (Zaz (Ze 1)) (gNm 0) Zhj (Z3 Zlq (Ze 0) (Zbf (Zd (Ze 1) Zr)))))) (δ:=[some (.fz (.int n)),some (.nd [.nd []]),none]) (ds:=Zdd 1 (n-1))
  (λk δ=>∃z2,δ=[some (.fz (.int n)),some (.nd ((sdL k).map Zc6)),z2]) (Z6d (m:=1) (Zb Z5 (Zb Za Zj)) (by decide) (by omega)) ⟨none,rfl⟩ (λk d δ hd q=>by
   obtain⟨z2,rfl⟩:=q
   obtain⟨hk,rfl⟩:=Wb hd
   have lk:=p2 (k:=k) (by omega)
   refine⟨_,_,rfl,.inl (Zzr (ts:=(sdL k).map Zc6) (rs:=(sdL k).map λs=>Zc6 (s ++ [(k:Int)+1])) rfl (Z0t (t:=.nd ((sdL k).map Zc6)) rfl (Ze3 (cs:=[some (.fz (.int (1+(k:Int))))]) (sdL k) Zy (λs=>Zc6 (s ++ [(k:Int)+1])) (Wx (Za (d:=.list ((sdL k).map Zy)) (by rw[OT.data_nd,Qx];exact congrArg (λx:List Xa=>some (some (OT.fz (.list x)))) (Xv λs _=>Zbr s)))) (by rw[X7];omega) rfl λs hs=>?_) ?_) (by rw[Xg,Xg];omega)),some (.fz (.int (1+(k:Int)))),?_⟩
   ·have ls:=(Zgd k s hs).1
    have e2:Zbf (Zd (Ze 1) Zr) [some (.fz (Zy s)),some (.fz (.int (1+(k:Int))))]=some (.nd [.fz (.int (1+(k:Int)))],[some (.fz (Zy s)),some (.fz (.int (1+(k:Int))))]):=by rw[Zc1];exact if_pos (e:=(none:Option (OT×Zf))) (show 1≤Xq by rw[X7];decide)
    have e1:Ze 0 [some (.fz (Zy s)),some (.fz (.int (1+(k:Int))))]=some (.fz (Zy s),[some (.fz (Zy s)),some (.fz (.int (1+(k:Int))))]):=rfl
    rw[Zl1,e1,Xi,e2,Xi,OT.data_fz,OT.data_nd]
    show(Zlq (.list (s.map Xo)) (.list [(OT.fz (.int (1+(k:Int)))).data])).bind _=_
    rw[OT.data_fz,Zwf (by rw[Xg,X7];show _+1≤_;omega),Xi]
    unfold Zc6
    rw[QD,QD,Qx,Int.add_comm];rfl
   ·rw[Zbu,Zdw]
    intro t m
    obtain⟨s,_,rfl⟩:=XF.mp m
    exact Zr4 _
   ·rw[sdL,QD,Qx];rfl)
 rw[Y4]at e3
 have dt:OT.datas ((sdL (n-1)).map Zc6)=(sdL (n-1)).map Zy:=Znv _
 have bd:∀i∈p,i<(sdL (n-1)).length:=λi m=>by have:=(Zhx eS).bd i m;rwa[Xg]at this
 have gi:∀i∈p,gt ((sdL (n-1)).map Zc6) i=Zc6 ((sdL (n-1)).getD i []):=λi m=>by
  have:=bd i m
  unfold gt
  rw[Xd,Xn,Xd,Xh this];rfl
 refine⟨(p.filter λi=>decide (0<((sdL (n-1)).getD i []).length)).map λi=>(sdL (n-1)).getD i [],?_,λs=>?_,?_,?_⟩
 ·have eF:=Zyo (kd:=kdL) (lt:=ltI) (i:=1) (t:=tV (Zh gGt (Zci Zfg (Zd (Ze 0) Zr)) (fC (.int 0)))) (δ:=[some (.fz (.int (n:Int))),some (.nd ((sdL (n-1)).map Zc6)),z2]) (ts:=(sdL (n-1)).map Zc6) (p:=p) (pr:=λi=>decide (0<((sdL (n-1)).getD i []).length)) rfl (by rw[dt];exact eS) λi m=>by
   rw[gi i m,Zbr]
   exact Zd3 (Zn0 (Zr7 (ds:=((sdL (n-1)).getD i []).map Xo) Za) Z5 (decide_eq_decide.mpr (by rw[Xg];omega)))
  have eg:(p.filter λi=>decide (0<((sdL (n-1)).getD i []).length)).map (gt ((sdL (n-1)).map Zc6))=((p.filter λi=>decide (0<((sdL (n-1)).getD i []).length)).map λi=>(sdL (n-1)).getD i []).map Zc6:=by
   rw[Qx]
   exact Xv λi m=>gi i (JB.mp m).1
  rw[eg]at eF
  have e0:(Zbf (Zd (Zbf Zr) Zr)) (Zes 3 [.int (n:Int)])=some (.nd [.nd []],Zes 3 [.int (n:Int)]):=by rw[Zc1,Ze9,Zc1,Zwv];rfl
  exact Zk2 rfl (Wg (Zr9 e0) (Wg e3 eF))
 ·rw[XF,←Zfs n h0 s]
  constructor
  ·rintro⟨i,m,rfl⟩
   obtain⟨m1,m2⟩:=JB.mp m
   exact⟨pS.mem_iff.mp (List.mem_map_of_mem m1),List.length_pos_iff.mp (of_decide_eq_true m2)⟩
  ·rintro⟨m1,m2⟩
   obtain⟨i,m,rfl⟩:=XF.mp (pS.mem_iff.mpr m1)
   exact⟨i,JB.mpr ⟨m,decide_eq_true (List.length_pos_iff.mpr m2)⟩,rfl⟩
 ·exact uS.sublist (List.filter_sublist.map _)
 ·rw[Xg]
  refine Qy (Vg ..) ?_
  have:=pS.length_eq
  rw[Xg]at this
  omega
noncomputable def ctW(L:List (List Int×Rat))(us:List OT):List OT:=List.zipWith (λq u=>.tp [Zc6 q.1,u]) L us
theorem Zs4{L:List (List Int×Rat)}{us:List OT}(h:us.map OT.data=L.map λq=>frD q.2)(q:List Int×Rat)(u:OT):ctW (L ++ [q]) (us ++ [u])=ctW L us ++ [.tp [Zc6 q.1,u]]:=by
 have l:=congrArg List.length h
 rw[Xg,Xg]at l
 unfold ctW
 rw[List.zipWith_append l.symm];rfl
theorem Zte:∀{L:List (List Int×Rat)} {us:List OT},us.map OT.data=L.map (λq=>frD q.2)->(OT.nd (ctW L us)).data=Zj9 L:=by
 have key:∀(L:List (List Int×Rat)) (us:List OT),us.map OT.data=L.map (λq=>frD q.2)->(ctW L us).map OT.data=L.map ctD:=by
  intro L
  induction L with
  | nil=>exact λus _=>by cases us<;>rfl
  | cons q L ih=>
   intro us h
   cases us with
   | nil=>cases h
   | cons u us=>
    have h1:=(List.cons.inj h).1
    show(OT.tp [Zc6 q.1,u]).data :: (ctW L us).map OT.data=_
    rw[ih us (List.cons.inj h).2,OT.data_tp,Qs,Qs,List.map_nil,Zbr,h1];rfl
 intro L us h
 rw[OT.data_nd,key L us h];rfl
theorem Zy7{e:FE}{δ:Zf}{i:Nat}{d:Xa}(h:EvV e δ d)(hf:J7 d=true):wE e (Znu i) δ= .nx (δ.set i (some (.fz d))):=by
 obtain⟨o,e1,rfl⟩:=h
 rw[Jv,e1,Yj,Zth,if_pos hf]
theorem Zkl{n:Nat}(hn:n≤6){R:Nat->Nat->Int}{b:Int}(hb:0<b)(bb:Bt 300 b)(bR:∀i j,i<n->j<n->Bt 300 (R i j)){Ls:List (List Int)}(eC:We [.int n]= .ok (.nd (Ls.map Zc6)))(hL:∀s∈Ls,Z6s n s)(lL:Ls.length≤1000){W:List Int->Int}(hW:∀A∈Ls,∀m,Lst R A (away n A) m->max 0 m=W A):∃o,Yi [tbD (Zaj n R b),fnD "split_rule"]= .ok o∧∃us,us.map OT.data=(wtL Ls W b).map (λq=>frD q.2)∧o= .nd (ctW (wtL Ls W b) us):=by
 obtain⟨m,k,S,e1,e2,m0,k0,rfl,bm,sc⟩:=Zy8 (n:=n) (by omega) hb bb bR
 have eC2:Z0 We (Zd (Zci Zfg (Zd (Ze 0) Zr)) Zr) [some (.fz (tbD (Zaj n R (m*k)))),some (.fz (fnD "split_rule")),some (.fz (.int m)),some (.fz (W3 n S)),some (.nd []),none,none]=some (.nd (Ls.map Zc6),[some (.fz (tbD (Zaj n R (m*k)))),some (.fz (fnD "split_rule")),some (.fz (.int m)),some (.fz (W3 n S)),some (.nd []),none,none]):=by
  obtain⟨ts,a1,a2⟩:EvA (Zd (Zci Zfg (Zd (Ze 0) Zr)) Zr) [some (.fz (tbD (Zaj n R (m*k)))),some (.fz (fnD "split_rule")),some (.fz (.int m)),some (.fz (W3 n S)),some (.nd []),none,none] [.int n]:=Zb (Zw0 rfl) Zj
  rw[Ze0,a1,Xi,a2,eC];rfl
 obtain⟨δ',e3,z5,z6,us,hu,rfl⟩:=Zzw (j:=5) (S:=(Z6 (wE (Z0 Zz (Zd (Ze 3) (Zd (Zdi 5) (Zd (Ze 1) Zr)))) (Znu 6))
  (Za7 (tV (Zh gGt (Ze 6) (fC (.int 0))))
  (Zg6 4 5 (Z0 Wc (Zd (Ze 6) (Zd (Zh Zcu (fC (.int 2)) (Ze 2)) Zr))))
  fNx)))
  (λi δ=>∃z5 z6 us,us.map OT.data=(wtL (Ls.take i) W (m*k)).map (λq=>frD q.2)∧δ=[some (.fz (tbD (Zaj n R (m*k)))),some (.fz (fnD "split_rule")),some (.fz (.int m)),some (.fz (W3 n S)),some (.nd (ctW (wtL (Ls.take i) W (m*k)) us)),z5,z6]) eC2 ⟨none,none,[],rfl,rfl⟩ (λi t δ hd q=>by
   obtain⟨z5,z6,us,hu,rfl⟩:=q
   rw[Xn]at hd
   cases e:Ls[i]? with
   | none=>rw[e]at hd;cases hd
   | some s=>
    rw[e]at hd
    cases hd
    have gs:=hL s (Qz e)
    have ls:s.length≤100:=by
     obtain⟨x,hx⟩:=List.exists_mem_of_ne_nil s gs.ne
     have n1:1≤n:=by have:=gs.pt x hx;omega
     have:=(Zgd _ s ((Zfs n n1 s).mpr gs).1).1
     omega
    obtain⟨mS,hm,eL⟩:=Zmp (S:=S) (A:=s) (n:=n) (by omega) ls gs.pt gs.ne
    have hR:=hW s (Qz e) _ (hm.scaled k0 sc (λx hx=>⟨by have:=(gs.pt x hx).1;omega,(gs.pt x hx).2⟩) λx hx=>by
     obtain⟨a1,a2,_⟩:=Zey.mp hx
     exact⟨a1,a2⟩)
    rw[Zsj k0]at hR
    obtain⟨u,eF,du⟩:=Zly (n:=302) (t:=max 0 mS) (b:=2*m) (by omega) (Bt.mul (m:=2) (Bt.of_lt (by decide) (by decide)) bm)
    have eD:Qa (W s) (2*(m*k))=Qa (max 0 mS) (2*m):=by rw[←hR,show 2*(m*k)=(2*m)*k by rw[Int.mul_assoc],Znx k0 (by omega)]
    have cw:0<max 0 mS↔0<W s:=by
     rw[←hR]
     exact⟨λq=>Int.mul_pos k0 q,λq=>Int.not_le.mp λz=>by have:=VG (a:=k) (by omega) z;omega⟩
    have et:wtL (Ls.take (i+1)) W (m*k)=wtL (Ls.take i) W (m*k) ++ if 0<W s then[(s,Qa (W s) (2*(m*k)))]else[]:=by
     unfold wtL
     rw[List.take_add_one,e,Option.toList_some,List.filter_append,QD]
     by_cases c:0<W s
     ·rw[if_pos c,List.filter_cons_of_pos (p:=λA=>decide (0<W A)) (decide_eq_true c)];rfl
     ·rw[if_neg c,List.filter_cons_of_neg (p:=λA=>decide (0<W A)) (by rw[decide_eq_false c];exact Xy)];rfl
    have ll:(ctW (wtL (Ls.take i) W (m*k)) us).length≤1000000:=by
     unfold ctW wtL
     rw[List.length_zipWith,Xg]
     have:=Vg (λA=>decide (0<W A)) (Ls.take i)
     have:=List.length_take_le' i Ls
     omega
    have sL:∀z6,wE (Z0 Zz (Zd (Ze 3) (Zd (Zdi 5) (Zd (Ze 1) Zr)))) (Znu 6) [some (.fz (tbD (Zaj n R (m*k)))),some (.fz (fnD "split_rule")),some (.fz (.int m)),some (.fz (W3 n S)),some (.nd (ctW (wtL (Ls.take i) W (m*k)) us)),some (Zc6 s),z6]= .nx [some (.fz (tbD (Zaj n R (m*k)))),some (.fz (fnD "split_rule")),some (.fz (.int m)),some (.fz (W3 n S)),some (.nd (ctW (wtL (Ls.take i) W (m*k)) us)),some (Zc6 s),some (.fz (.int (max 0 mS)))]:=λz6=>Zy7 (Z1 (Zb Za (Zb (Zfj (i:=5) rfl (Zbr s)) (Zb Za Zj))) eL) rfl
    by_cases c:0<max 0 mS
    ·have eF2:Z0 Wc (Zd (Ze 6) (Zd (Zh Zcu (fC (.int 2)) (Ze 2)) Zr)) [some (.fz (tbD (Zaj n R (m*k)))),some (.fz (fnD "split_rule")),some (.fz (.int m)),some (.fz (W3 n S)),some (.nd (ctW (wtL (Ls.take i) W (m*k)) us)),some (Zc6 s),some (.fz (.int (max 0 mS)))]=some (u,[some (.fz (tbD (Zaj n R (m*k)))),some (.fz (fnD "split_rule")),some (.fz (.int m)),some (.fz (W3 n S)),some (.nd (ctW (wtL (Ls.take i) W (m*k)) us)),some (Zc6 s),some (.fz (.int (max 0 mS)))]):=by
      obtain⟨ts,a1,a2⟩:EvA (Zd (Ze 6) (Zd (Zh Zcu (fC (.int 2)) (Ze 2)) Zr)) [some (.fz (tbD (Zaj n R (m*k)))),some (.fz (fnD "split_rule")),some (.fz (.int m)),some (.fz (W3 n S)),some (.nd (ctW (wtL (Ls.take i) W (m*k)) us)),some (Zc6 s),some (.fz (.int (max 0 mS)))] [.int (max 0 mS),.int (2*m)]:=Zb Za (Zb (Zqw Z5 Za) Zj)
      rw[Ze0,a1,Xi,a2,eF];rfl
     refine⟨_,.inl (Wg (sL z6) (Zd2 (Zd3 (Zn0 (Za (i:=6) (d:=.int (max 0 mS)) rfl) Z5 (decide_eq_true c))) (Ztz (t:=Zc6 s) rfl rfl eF2 rfl ll))),none,some (.fz (.int (max 0 mS))),us ++ [u],?_,?_⟩
     ·rw[et,if_pos (cw.mp c),QD,QD,hu,Qs,Qs,du,eD];rfl
     ·rw[et,if_pos (cw.mp c),Zs4 hu];rfl
    ·refine⟨_,.inl (Wg (sL z6) (Je (Zd3 (Zn0 (Za (i:=6) (d:=.int (max 0 mS)) rfl) Z5 (decide_eq_false c))) rfl)),some (Zc6 s),some (.fz (.int (max 0 mS))),us,?_,?_⟩
     ·rw[et,if_neg (λz=>c (cw.mpr z)),QJ];exact hu
     ·rw[et,if_neg (λz=>c (cw.mpr z)),QJ])
 rw[Xg,V5]at e3 hu
 exact⟨_,Zk2 rfl (Wg (Z2 (Z1 (Zb Za Zj) e1)) (Wg (Z2 (Z1 (Zb Za (Zb Za Zj)) e2)) (Wg Zq0 (Wg e3 (Z36 (i:=4) rfl))))),us,hu,rfl⟩
theorem Zr1{L:List (List Int)}(nd:L.Nodup)(h:L.length<64):∃L1:List (List Int),Zjo kdL ltI [.list (L.map Zy)]=some (.nd ((L1.map Zy).map OT.fz))∧L1.Perm L∧UpL L1:=by
 refine⟨sLay [] (lk kdL ltI (L.map Zy)) L,?_,Zge _ _ _,?_⟩
 ·show(if(decide ((L.map Zy).length<64)&&(L.map Zy).all λd=>(kdL d).isSome)=true then some (OT.nd ((sLay PyData.none (lk kdL ltI (L.map Zy)) (L.map Zy)).map OT.fz))else none)=_
  rw[if_pos]
  ·have e3:sLay PyData.none (lk kdL ltI (L.map Zy)) (L.map Zy)=(sLay [] (lk kdL ltI (L.map Zy)) L).map Zy:=by rw[←Zu3,Zyu (Zy []) PyData.none]
   rw[e3]
  ·rw[XC,decide_eq_true_eq,Xg,Bh]
   refine⟨h,λd m=>?_⟩
   obtain⟨p,_,rfl⟩:=XF.mp m
   show(Zh5 (p.map Xo)).isSome=true
   rw[Zds];rfl
 ·obtain⟨p,e1,_,u⟩:=Zrb nd h
  have ep:p=if L.length<2 then Xr L.length else Zls (lk kdL ltI (L.map Zy)) L.length:=by
   have:=(Zhx e1).is
   rw[Xg]at this
   rcases this with⟨_,q⟩|⟨_,_,q,q2⟩
   ·exact q
   ·have:=(Zhx e1).is
    unfold Zuq at e1
    rw[Xg]at e1
    split at e1
    ·first|exact(Qt e1).symm|(rw[if_pos h]at e1;exact(Qt e1).symm)
    ·cases e1
  rw[Zil,←ep]
  exact u
theorem Z0b:∀{a b:List (List Int)},a.Pairwise (λx y=>ltI x y=true)->b.Pairwise (λx y=>ltI x y=true)->(∀x,x∈a↔x∈b)->a=b:=by
 have irr:∀z:List Int,ltI z z≠true:=λz h=>by rw[Zpe]at h;cases h
 intro a
 induction a with
 | nil=>
  intro b _ _ h
  cases b with
  | nil=>rfl
  | cons y b=>exact absurd ((h y).mpr (.head _)) (λz=>nomatch z)
 | cons x a ih=>
  intro b ha hb h
  cases b with
  | nil=>exact absurd ((h x).mp (.head _)) (λz=>nomatch z)
  | cons y b=>
   have h1:∀{z:List Int},z∈a->ltI x z=true:=λm=>Vr ha m
   have h2:∀{z:List Int},z∈b->ltI y z=true:=λm=>Vr hb m
   have e:x=y:=by
    rcases Xk.mp ((h x).mp (.head _))with e|m
    ·exact e
    ·rcases Xk.mp ((h y).mpr (.head _))with e|m'
     ·exact e.symm
     ·exact(irr x (Zpu (h1 m') (h2 m))).elim
   subst e
   refine congrArg (x :: ·) (ih ha.tail hb.tail λz=>⟨λm=>?_,λm=>?_⟩)
   ·rcases Xk.mp ((h z).mp (.tail _ m))with e|m'
    ·subst e;exact(irr _ (h1 m)).elim
    ·exact m'
   ·rcases Xk.mp ((h z).mpr (.tail _ m))with e|m'
    ·subst e;exact(irr _ (h2 m)).elim
    ·exact m'
theorem Ztw{n:Nat}(h0:1≤n)(hn:n≤6):∃Ls:List (List Int),Told Wr [.int n] (.list (Ls.map Zy))∧(∀s,s∈Ls↔Z6s n s)∧UpL Ls:=by
 have p2:∀{k:Nat},k≤5->(sdL k).length≤32:=fun{k} hk=>by
  rw[Zlg]
  exact Qy (BV (by decide) hk) (by decide)
 have l32:(sdN n).length<64:=VF (Vg ..) (VF (p2 (k:=n-1) (by omega)) (by decide))
 obtain⟨Ls,eS,pm,up⟩:=Zr1 (L:=sdN n) ((Zjs _).filter _) l32
 refine⟨Ls,?_,λs=>?_,up⟩
 ·refine Yx rfl<|Wo (Z2 (Zbg (Zb (Zbg Zj (show 0≤1000 by decide)) Zj) (show 1≤1000 by decide)))<|
   Zmz (ds:=Zdd 1 (n-1)) (λk δ=>∃z2,δ=[some (.fz (.int n)),some (.fz (.list ((sdL k).map Zy))),z2]) (Z6d (m:=1) (Zb Z5 (Zb Za Zj)) (by decide) (by omega)) ⟨none,rfl⟩ (λk d δ hd q=>?_) λδ' q=>?_
  ·obtain⟨z2,rfl⟩:=q
   obtain⟨hk,rfl⟩:=Wb hd
   have lk:=p2 (k:=k) (by omega)
   refine⟨_,_,rfl,.inl (Z2 (EvV.cast (Zj3 (ds:=(sdL k).map Zy) (es:=(sdL k).map λs=>Zy (s ++ [(k:Int)+1])) Za (Zf3 (cs:=[some (.fz (.int (1+(k:Int))))]) (sdL k) Zy (λs=>Zy (s ++ [(k:Int)+1])) (Wx Za) (by omega) rfl λs hs=>?_) (by rw[Xg,Xg];omega)) (y:=.list ((sdL (k+1)).map Zy)) ?_)),_,rfl⟩
   ·have ls:=(Zgd k s hs).1
    exact(Zj3 (ds:=s.map Xo) (es:=[.int (1+(k:Int))]) Za (Zbg (Zb Za Zj) (show 1≤1000 by decide)) (by rw[Xg];show _+1≤_;omega)).cast (by unfold Zy;rw[QD,Int.add_comm];rfl)
   ·rw[sdL,QD,Qx];rfl
  ·obtain⟨z2,rfl⟩:=q
   rw[Y4]
   refine Jq (Z0s (Zb (Zhl (cs:=[]) (sdL (n-1)) Zy (λs=>!decide (s=[])) (Wx Za) (Qy (p2 (by omega)) (by decide)) rfl (λs _=>Zd3 (Zo Za (Zbg Zj (show 0≤1000 by decide)) (Zsr s []))) λs _ _=>rfl) Zj) eS (by rw[OT.data_nd,OT.map_fz]))
 ·rw[pm.mem_iff,←Zfs n h0 s]
  unfold sdN
  rw[JB,Bool.not_eq_true',decide_eq_false_iff_not]
theorem Lst.uniq{S:Nat->Nat->Int}{A B:List Int}{m m':Int}(h:Lst S A B m)(k:Lst S A B m'):m=m':=by
 obtain⟨⟨p,hp,q,hq,e⟩,l⟩:=h
 obtain⟨⟨p',hp',q',hq',e'⟩,l'⟩:=k
 have h1:=l p' hp' q' hq'
 have h2:=l' p hp q hq
 omega
theorem ixW(n:Nat)(R:Nat->Nat->Int):∃W:List Int->Int,∀A m,Lst R A (away n A) m->m=W A:=by
 have:∀A,∃w,∀m,Lst R A (away n A) m->m=w:=λA=>by
  by_cases c:∃m,Lst R A (away n A) m
  ·obtain⟨w,hw⟩:=c
   exact⟨w,λm hm=>hm.uniq hw⟩
  ·exact⟨0,λm hm=>absurd ⟨m,hm⟩ c⟩
 obtain⟨W,hW⟩:=Classical.axiomOfChoice this
 exact⟨W,hW⟩
theorem Z55(T:List (List Rat)):Sh 3 (tbD T):=Zeg λd m=>by
 obtain⟨r,_,rfl⟩:=XF.mp m
 exact Zeg λd m=>by
  obtain⟨q,_,rfl⟩:=XF.mp m
  exact Zkc [q.num,(q.den:Int)]
theorem Zm6(T:List (List Rat)):Yl (tbD T)=true:=Zce λd m=>by
 obtain⟨r,_,rfl⟩:=XF.mp m
 exact Zce λd m=>by
  obtain⟨q,_,rfl⟩:=XF.mp m
  exact Ztp _ _
theorem Zs3{i j c:Nat}{d:Xa}{δ:Zf}{ts:List OT}(hi:δ[i]? =some (some (.nd ts)))(hj:j<δ.length)(h:∀t∈ts,Z6q c t=true):Ziz i j c d δ= .nx ((δ.set i (some (.nd (ts.map (Ztv c d))))).set j none):=by
 unfold Ziz
 rw[hi]
 dsimp only
 rw[if_pos ⟨hj,Bh.mpr h⟩]
theorem Zs8(L:List (List Int×Rat)):gNe (Zj9 L) (Zj9 L)=some (.bool false):=Znj (Z45 L) (Zrz L) (by decide)
theorem Zql{L:List (List Int×Rat)}(hl:∀q∈L,q.1.length≤1000):Told W0 [Zj9 L,Zj9 L] (.bool true):=by
 refine Yx rfl<|Wo (Je (Zw8 (Zjz (p:=true) (Zgu (Zj0 Za rfl))) (Zd3 (Zo Za Za (Zs8 L)))) rfl) ?_
 refine Zmz (ds:=L.map ctD) (λ_ δ=>∃z,δ=[some (.fz (Zj9 L)),some (.fz (Zj9 L)),z]) (Wx Za) ⟨none,rfl⟩ (λi d δ hd q=>?_) λδ' q=>?_
 ·obtain⟨z,rfl⟩:=q
  obtain⟨p,hp,rfl⟩:=XF.mp (Qz hd)
  have l1:=hl p hp
  have ec:EvV (Wy 1 [] (Zaz (Z3 Zlq (Z3 gIx (Ze 2) (fC (.int 0))) (fBl Zh6 (Zd (Z3 gIx (Ze 2) (fC (.int 1))) Zr)))) (gNm 0) (tD (Znw "bool" (Ze 0))) (Ze 0)) [some (.fz (Zj9 L)),some (.fz (Zj9 L)),some (.fz (ctD p))] (.list []):=by
   have e1:EvV (Z3 Zlq (Z3 gIx (Ze 2) (fC (.int 0))) (fBl Zh6 (Zd (Z3 gIx (Ze 2) (fC (.int 1))) Zr))) [some (.fz (Zj9 L)),some (.fz (Zj9 L)),some (.fz (ctD p))] (.list ((p.1 ++ [p.2.num,(p.2.den:Int)]).map Xo)):=(Zj3 (ds:=p.1.map Xo) (es:=[.int p.2.num,.int p.2.den]) (Ji (d:=Zy p.1) Za Z5 rfl) (Z0s (o:=.nd ([.int p.2.num,.int p.2.den].map OT.fz)) (Zb (Ji (d:=frD p.2) Za Z5 rfl) Zj) rfl (by rw[OT.data_nd,OT.map_fz])) (by rw[Xg];show _+2≤_;omega)).cast (by rw[QD];rfl)
   have:=Zhl (caps:=[]) (t:=tD (Znw "bool" (Ze 0))) (me:=Ze 0) (cs:=[]) (p.1 ++ [p.2.num,(p.2.den:Int)]) Xo (λ_=>false) (Wx e1) (by rw[Q8];show _+2≤_;omega) rfl (λx _=>Zgu (Zj0 Za rfl)) λx _ z=>nomatch z
   have fn:(p.1 ++ [p.2.num,(p.2.den:Int)]).filter (λ_:Int=>false)=[]:=List.filter_eq_nil_iff.mpr λ_ _ z=>Bool.noConfusion z
   rwa[fn]at this
  exact⟨_,_,rfl,.inl (Wg (Je (Zw8 (Zjz (p:=true) (Zgu (Zj0 Za rfl))) (Zw8 (Zjz (p:=true) (Zgu (Zj0 (Ji (d:=Zy p.1) Za Z5 rfl) rfl))) (Zjz (p:=true) (Zgu (Zj0 (Ji (d:=frD p.2) Za Z5 rfl) rfl))))) rfl) (Je (Zd3 (Zo ec (Zbg Zj (show 0≤1000 by decide)) rfl)) rfl)),_,rfl⟩
 ·obtain⟨z,rfl⟩:=q
  exact Jq Z5
theorem Zuw{L:List (List Int×Rat)}(h:∀q∈L,q.1.length≤1000){us:List OT}:∀t∈ctW L us,Z6q 0 t=true:=by
 induction L generalizing us with
 | nil=>exact λt m=>by cases us<;>cases m
 | cons q L ih=>
  cases us with
  | nil=>exact λt m=>nomatch m
  | cons u us=>
   intro t m
   rcases Xk.mp m with rfl|m
   ·show decide ((q.1.map λx=>OT.fz (.int x)).length<Xq)=true
    rw[decide_eq_true_eq,Xg,X7]
    have:=h q (.head _)
    omega
   ·exact ih (λr hr=>h r (.tail _ hr)) t m
noncomputable def lw(ns:List Int)(z1 z2 z3 z4 z5 z6 z7 z8 z9 z10 z11 z12:Option OT):Zf:=[some (.fz (Zy ns)),z1,z2,z3,z4,z5,z6,z7,z8,z9,z10,z11,z12]
theorem Zu8(ns:List Int)(hl:ns.length≤63):Zdz [.list (ns.map Xo)]= .ok (.fz (.bool true)):=by
 show Zdz [Zy ns]=_
 have key:EpS Zen (lw ns none none none none none none none none none none none none) (λ_=>False) λd _=>d= .bool true:=by
  refine Z7 (Z0z (ds:=(1000000000000000000 :: Ztk ns none (some 4)).map Xo) (λδ=>∃z1 z2 z3 z4 z5 z6 z7 z8 z9 z10 z11 z12,δ=lw ns z1 z2 z3 z4 z5 z6 z7 z8 z9 z10 z11 z12)
   (Wx (Zj3 (ds:=[.int 1000000000000000000]) (es:=(Ztk ns none (some 4)).map Xo) (Zbg (Zb (Zo Z5 Z5 Z6z) Zj) (show 1≤1000 by decide)) (Z43 (r:=ns) Za Yat (Yar Z5) rfl) ?_)) ⟨_,_,_,_,_,_,_,_,_,_,_,_,rfl⟩ (λd hd δ q=>?_) λδ' q=>?_)
  ·have:(Ztk ns none (some 4)).length≤ns.length:=by
    unfold Ztk
    rw[Vb,JC];omega
   rw[Xg]
   show 1+_≤_
   omega
  ·obtain⟨z1,z2,z3,z4,z5,z6,z7,z8,z9,z10,z11,z12,rfl⟩:=q
   obtain⟨c,_,rfl⟩:=XF.mp hd
   clear hd
   obtain⟨x0,eD⟩:=Zwu c
   refine⟨_,rfl,Z7 (Ze5 (Zqv (Zb Za Zj) eD) (Z7 (Zcw (Zd4 (Y9 Z5 (Zah rfl (Zb Z5 Zj) (by decide) (btc (by decide +kernel) (by decide +kernel)) λr x1 r0 r1=>⟨_,Zwj _ _,?_⟩))))))⟩
   obtain⟨n',hx⟩:∃n:Nat,1+r=(n:Int):=⟨(1+r).toNat,by omega⟩
   show EpS _ (lw ns (some (.fz (.int c))) (some (dk x1)) (some (.fz (.int (1+r)))) z4 z5 z6 z7 z8 z9 z10 z11 z12) _ _
   rw[hx]
   refine Z7 (EpS.mono (N:=λδ=>∃(x:Int) (n:Nat),1≤n∧n≤6∧δ=lw ns (some (.fz (.int c))) (some (dk x)) (some (.fz (.int n))) z4 z5 z6 z7 z8 z9 z10 z11 z12) (R:=λ_ _=>False) ?_ (λδ q=>?_) λ_ _ z=>z.elim)
   ·refine Zjk (Z5k (Zd4 (Zah (x:=x1) rfl (Zb Z5 Zj) (by decide) (btc (by decide +kernel) (by decide +kernel)) λr' x2 _ _=>Y9 Z5 ⟨_,Z09 _ _,_,rfl,λ_=>?_,λ_=>?_⟩)))
    ·exact Zcw (Y9 Z5 ⟨x2,6,by decide,by decide,rfl⟩)
    ·exact Zhk ⟨x2,n',by omega,by omega,rfl⟩
   obtain⟨x2,n,n0,n1,rfl⟩:=q
   refine Z7 (Zcw (Zba rfl (Zh4 (Zb Za Zj) ⟨dk x2,rfl,(Zyh (n:=n) n1 x2).mono λd t z=>?_⟩)))
   obtain⟨R,x3,rfl,hR,bR,rfl⟩:=z
   refine Z7 (Zcw (Zba rfl (Zc3 ⟨dk x3,rfl,(Zr2 x3).mono λd t z=>?_⟩)))
   obtain⟨b,x4,rfl,b0,b1,rfl⟩:=z
   have bb:Bt 300 b:=Bt.mono (m:=30) (Bt.of_lt (by omega) (by omega)) (by decide)
   have bp:0<b:=by omega
   have eT:Told Y7 [W3 n R,.int b] (tbD (Zaj n R b)):=Zjn (n:=n) (by omega) R bp bb
   refine Z7 (Zas (Z2 (Z1 (Zb Za (Zb Za Zj)) eT)) ?_)
   refine Z7 (Zas Zq0 ?_)
   obtain⟨Ls,eS,mS,uS⟩:=Ztw n0 n1
   obtain⟨Cs,eC,mC,uC,lC⟩:=Zjv n0 n1
   obtain rfl:Ls=Cs:=Z0b uS uC λs=>(mS s).trans (mC s).symm
   obtain⟨W,hW⟩:=ixW n R
   have inx:∀A∈Ls,Told Y6 [W3 n R,Zy A] (.int (W A))∧0≤W A:=λA hA=>by
    have g:=(mC A).mp hA
    have lA:A.length≤100:=by
     have:=(Zgd _ A ((Zfs n n0 A).mpr g).1).1
     omega
    obtain⟨m,hm,_⟩:=Zmp (S:=R) (A:=A) (n:=n) (by omega) lA g.pt g.ne
    have e:=hW A m hm
    subst e
    exact Zkw (n:=n) (by omega) g.pt hR.sym hm
   have lq:∀q∈wtL Ls W b,q.1.length≤1000:=λq hq=>by
    unfold wtL at hq
    obtain⟨A,hA,rfl⟩:=XF.mp hq
    have g:=(mC A).mp (JB.mp hA).1
    have:=(Zgd _ A ((Zfs n n0 A).mpr g).1).1
    show A.length≤1000
    omega
   have lw2:∀i,(wtL (Ls.take i) W b).length≤32:=λi=>by
    unfold wtL
    rw[Xg]
    have:=Vg (λA=>decide (0<W A)) (Ls.take i)
    have:=List.length_take_le' i Ls
    omega
   obtain⟨us,hu,eWt⟩:∃us,us.map OT.data=(wtL Ls W b).map (λq=>frD q.2)∧Yi [tbD (Zaj n R b),fnD "split_rule"]= .ok (.nd (ctW (wtL Ls W b) us)):=by
    obtain⟨o,e,us,hu,rfl⟩:=Zkl (n:=n) n1 (R:=R) bp bb (λi j _ _=>bR i j) eC (λs hs=>(mC s).mp hs) (by omega) (W:=W) λA hA m hm=>by
     have:=hW A m hm
     subst this
     exact Vd (inx A hA).2
    exact⟨us,hu,e⟩
   have dW:=Zte hu
   have eSp:Y5 [tbD (Zaj n R b)]= .ok (.nd (ctW (wtL Ls W b) us)):=by
    have eK:Told Wl [tbD (Zaj n R b)] .none:=by rw[Zqz];exact Zie (by omega) (Z8a hR bp bb bR)
    have e1:Z0 Yi (Zd (Ze 0) (Zd (fC (fnD "split_rule")) Zr)) [some (.fz (tbD (Zaj n R b)))]=some (.nd (ctW (wtL Ls W b) us),[some (.fz (tbD (Zaj n R b)))]):=Zqv (Zb Za (Zb Z5 Zj)) eWt
    have e2:wE (Z0 Yi (Zd (Ze 0) (Zd (fC (fnD "split_rule")) Zr))) Jt [some (.fz (tbD (Zaj n R b)))]= .rt (.nd (ctW (wtL Ls W b) us)) [some (.fz (tbD (Zaj n R b)))]:=by rw[Jv,e1];rfl
    exact Zk2 rfl (Wg (Zxu (Z1 (Zb Za Zj) eK)) e2)
   obtain⟨δ',e3,z8,z9,rfl⟩:=Zlp (it:=Zaz (Z0 Wr (Zd (Ze 3) Zr))) (g:=gNm 8) (S:=(Z6 (wE (Z0 Y6 (Zd (Ze 4) (Zd (Ze 8) Zr))) (Wd 9))
     (Za7 (tV (Zh gGt (Ze 9) (fC (.int 0))))
     (Jo 7 (Zlf (Zd (fBl Zh6 (Zd (Ze 8) Zr)) (Zd (Z0 Yc (Zd (Ze 9) (Zd (Zh Zcu (fC (.int 2)) (Ze 5)) Zr))) Zr))))
     fNx))) (δ:=lw ns (some (.fz (.int c))) (some (dk x4)) (some (.fz (.int n))) (some (.fz (W3 n R))) (some (.fz (.int b))) (some (.fz (tbD (Zaj n R b)))) (some (.nd [])) z8 z9 z10 z11 z12) (ds:=Ls.map Zy)
    (λi δ=>∃z8 z9,δ=lw ns (some (.fz (.int c))) (some (dk x4)) (some (.fz (.int n))) (some (.fz (W3 n R))) (some (.fz (.int b))) (some (.fz (tbD (Zaj n R b)))) (some (Z6g (wtL (Ls.take i) W b))) z8 z9 z10 z11 z12) (Wx (Z1 (Zb Za Zj) eS)) ⟨_,_,rfl⟩ (λi d δ hd q=>by
     obtain⟨z8,z9,rfl⟩:=q
     rw[Xn]at hd
     cases e:Ls[i]? with
     | none=>rw[e]at hd;cases hd
     | some s=>
      rw[e]at hd
      cases hd
      obtain⟨eI,w0⟩:=inx s (Qz e)
      have eF:Told Yc [.int (W s),.int (2*b)] (frD (Qa (W s) (2*b))):=Zb9 (n:=302) (by omega) (Bt.mul (m:=2) (Bt.of_lt (by decide) (by decide)) bb)
      have et:wtL (Ls.take (i+1)) W b=wtL (Ls.take i) W b ++ if 0<W s then[(s,Qa (W s) (2*b))]else[]:=by
       unfold wtL
       rw[List.take_add_one,e,Option.toList_some,List.filter_append,QD]
       by_cases c:0<W s
       ·rw[if_pos c,List.filter_cons_of_pos (p:=λA=>decide (0<W A)) (decide_eq_true c)];rfl
       ·rw[if_neg c,List.filter_cons_of_neg (p:=λA=>decide (0<W A)) (by rw[decide_eq_false c];exact Xy)];rfl
      have ll:=lw2 i
      by_cases c:0<W s
      ·refine⟨_,_,rfl,.inl (Wg (Z2 (Z1 (Zb (Za (i:=4) rfl) (Zb (Za (i:=8) rfl) Zj)) eI)) (Zd2 (Zd3 (Zn0 (Za (i:=9) (d:=.int (W s)) rfl) Z5 (decide_eq_true c))) (Zvx (d:=ctD (s,Qa (W s) (2*b))) (ts:=((wtL (Ls.take i) W b).map ctD).map OT.fz) (Zfq (Zb (Z0s (Zb (Za (i:=8) (d:=Zy s) rfl) Zj) (Zxk (s.map Xo)) (by rw[OT.data_nd,OT.map_fz];rfl)) (Zb (Z1 (Zb (Za (i:=9) rfl) (Zb (Zqw Z5 (Za (i:=5) rfl)) Zj)) eF) Zj)) (show 2≤1000 by decide)) rfl (by rw[Xg,Xg];omega)))),some (.fz (Zy s)),some (.fz (.int (W s))),?_⟩
       rw[et,if_pos c]
       unfold Z6g
       rw[QD,QD];rfl
      ·refine⟨_,_,rfl,.inl (Wg (Z2 (Z1 (Zb (Za (i:=4) rfl) (Zb (Za (i:=8) rfl) Zj)) eI)) (Je (Zd3 (Zn0 (Za (i:=9) (d:=.int (W s)) rfl) Z5 (decide_eq_false c))) rfl)),some (.fz (Zy s)),some (.fz (.int (W s))),?_⟩
       rw[et,if_neg c,QJ];rfl)
   rw[Xg,V5]at e3
   refine Z7 (Zas e3 ?_)
   refine Z7 (Zas (Z2 (Z1 (Zb (Za (i:=4) rfl) (Zb (Za (i:=5) rfl) Zj)) eT)) ?_)
   have cSp:∀{δ:Zf},δ[10]? =some (some (.fz (tbD (Zaj n R b))))->Z0 Y5 (Zd (Ze 10) Zr) δ=some (.nd (ctW (wtL Ls W b) us),δ):=λh=>Zqv (Zb (Za h) Zj) eSp
   have gT:gNe (tbD (Zaj n R b)) (tbD (Zaj n R b))=some (.bool false):=Znj (Z55 _) (Zm6 _) (by decide)
   refine Z7 (Ze5 (i:=11) (cSp rfl) ?_)
   refine Z7 (Zas (Zpl (i:=7) (o:=Z6g (wtL Ls W b)) rfl (Je (Zw8 (Zjz (p:=true) (Zgu (Z1 (Zb (Zfj (i:=11) rfl dW) (Zb (Za (i:=7) (d:=Zj9 (wtL Ls W b)) (by rw[←Zjt];rfl)) Zj)) (Zql lq)))) (Zd3 (Zo (Za (i:=10) (d:=tbD (Zaj n R b)) rfl) (Za (i:=6) (d:=tbD (Zaj n R b)) rfl) gT))) rfl)) ?_)
   refine Z7 (Zas (Zs3 (i:=11) (j:=12) (c:=0) rfl (show 12<13 by decide) (Zuw lq)) ?_)
   refine Z7 (Zyl (i:=11) rfl (Zyg (Zh4 (Zb (Zbg (Zb Z5 Zj) (show 1≤1000 by decide)) (Zb (Zfq (Zb Z5 (Zb Z5 Zj)) (show 2≤1000 by decide)) Zj)) ⟨show 2≤1000 by decide,_,rfl,?_,?_⟩)))
   ·rw[Xg]
    unfold ctW
    rw[List.length_zipWith]
    have:=lw2 Ls.length
    rw[V5]at this
    omega
   ·exact Zas (Je (Zjz (p:=true) (Zgu (Z1 (Zb ⟨_,cSp rfl,dW⟩ (Zb (Za (i:=7) (d:=Zj9 (wtL Ls W b)) (by rw[←Zjt];rfl)) Zj)) (Zql lq)))) rfl) ⟨_,_,_,_,_,_,_,_,_,_,_,_,rfl⟩
  ·obtain⟨z1,z2,z3,z4,z5,z6,z7,z8,z9,z10,z11,z12,rfl⟩:=q
   exact Zky (Y9 Z5 rfl)
 rcases key with⟨_,_,z⟩|⟨o,δ',e,h⟩
 ·exact z.elim
 ·exact Told.ok (Yx rfl ⟨o,δ',e,h⟩)
end My
namespace L2
open PySem PySem.Spec PyProof.Rows
structure Ei(K:Xb)(x:Str)(st:Stmt)(f:Addr)(fd:XN):Prop where
 a:QV K Qe x=some (some (.ref f))
 F:Fun K x x st f fd
structure En(K:Xb)(mg:Str->Option Xc)(x:Str)(st:Stmt)(ps:List Str)(f:Addr)(fd:XN):Prop where
 F:Fun K x x st f fd
 b:Binds K fd ps []
 m:mg x=some (.ref f)
structure Ec(K:Xb)(mg:Str->Option Xc)(x:Str)(f:Addr):Prop where
 m:mg x=some (.ref f)
 a:ClsAt K x f
section
variable {K:Xb}{h:Heap}{mg:Str->Option Xc}{x:Str}{st:Stmt}{f:Addr}{fd:XN}
theorem en0(X:K.In h)(G:h.Ns Qe mg)(q:Ei K x st f fd){ps:List Str}(hb:∀(kV doc pm:Xc) (an:Option Addr) (cdv ct:Xc) (us:List Xc),us.length=ps.length->bindArgs (Vl x x (Zd5 st) (Jy st) (Zm st) .none kV doc pm an cdv ct) ⟨us,[]⟩=pure (ps.zip us)):En K mg x st ps f fd:=⟨q.F,q.F.binds hb,PySem.W.mg_of X G q.a⟩
noncomputable abbrev Bd(x:Str)(st:Stmt)(ps:List Str)(us:List Xc):Prop:=∀(kV doc pm:Xc) (an:Option Addr) (cdv ct:Xc),bindArgs (Vl x x (Zd5 st) (Jy st) (Zm st) .none kV doc pm an cdv ct) ⟨us,[]⟩=pure (ps.zip us)
theorem l_c{us:List Xc}{n:Nat}(h:us.length=n+1):∃u vs,us=u :: vs∧vs.length=n:=by
 cases us with
 | nil=>cases h
 | cons u vs=>exact⟨u,vs,rfl,Nat.succ.inj h⟩
theorem en1(X:K.In h)(G:h.Ns Qe mg)(q:Ei K x st f fd){p0:Str}(hb:∀v0,Bd x st [p0] [v0]:=by exact λ_ _ _ _ _ _ _=>rfl):En K mg x st [p0] f fd:=en0 X G q λa b c d e g us hl=>by
 have h0:us.length=1:=hl
 obtain⟨u0,us0,e0,h1⟩:=l_c h0
 cases Bm h1
 subst e0
 exact hb u0 a b c d e g
theorem en2(X:K.In h)(G:h.Ns Qe mg)(q:Ei K x st f fd){p0 p1:Str}(hb:∀v0 v1,Bd x st [p0,p1] [v0,v1]:=by exact λ_ _ _ _ _ _ _ _=>rfl):En K mg x st [p0,p1] f fd:=en0 X G q λa b c d e g us hl=>by
 have h0:us.length=2:=hl
 obtain⟨u0,us0,e0,h1⟩:=l_c h0
 obtain⟨u1,us1,e1,h2⟩:=l_c h1
 cases Bm h2
 subst e1
 subst e0
 exact hb u0 u1 a b c d e g
theorem en3(X:K.In h)(G:h.Ns Qe mg)(q:Ei K x st f fd){p0 p1 p2:Str}(hb:∀v0 v1 v2,Bd x st [p0,p1,p2] [v0,v1,v2]:=by exact λ_ _ _ _ _ _ _ _ _=>rfl):En K mg x st [p0,p1,p2] f fd:=en0 X G q λa b c d e g us hl=>by
 have h0:us.length=3:=hl
 obtain⟨u0,us0,e0,h1⟩:=l_c h0
 obtain⟨u1,us1,e1,h2⟩:=l_c h1
 obtain⟨u2,us2,e2,h3⟩:=l_c h2
 cases Bm h3
 subst e2
 subst e1
 subst e0
 exact hb u0 u1 u2 a b c d e g
theorem en4(X:K.In h)(G:h.Ns Qe mg)(q:Ei K x st f fd){p0 p1 p2 p3:Str}(hb:∀v0 v1 v2 v3,Bd x st [p0,p1,p2,p3] [v0,v1,v2,v3]:=by exact λ_ _ _ _ _ _ _ _ _ _=>rfl):En K mg x st [p0,p1,p2,p3] f fd:=en0 X G q λa b c d e g us hl=>by
 have h0:us.length=4:=hl
 obtain⟨u0,us0,e0,h1⟩:=l_c h0
 obtain⟨u1,us1,e1,h2⟩:=l_c h1
 obtain⟨u2,us2,e2,h3⟩:=l_c h2
 obtain⟨u3,us3,e3,h4⟩:=l_c h3
 cases Bm h4
 subst e3
 subst e2
 subst e1
 subst e0
 exact hb u0 u1 u2 u3 a b c d e g
theorem en5(X:K.In h)(G:h.Ns Qe mg)(q:Ei K x st f fd){p0 p1 p2 p3 p4:Str}(hb:∀v0 v1 v2 v3 v4,Bd x st [p0,p1,p2,p3,p4] [v0,v1,v2,v3,v4]:=by exact λ_ _ _ _ _ _ _ _ _ _ _=>rfl):En K mg x st [p0,p1,p2,p3,p4] f fd:=en0 X G q λa b c d e g us hl=>by
 have h0:us.length=5:=hl
 obtain⟨u0,us0,e0,h1⟩:=l_c h0
 obtain⟨u1,us1,e1,h2⟩:=l_c h1
 obtain⟨u2,us2,e2,h3⟩:=l_c h2
 obtain⟨u3,us3,e3,h4⟩:=l_c h3
 obtain⟨u4,us4,e4,h5⟩:=l_c h4
 cases Bm h5
 subst e4
 subst e3
 subst e2
 subst e1
 subst e0
 exact hb u0 u1 u2 u3 u4 a b c d e g
theorem ec(X:K.In h)(G:h.Ns Qe mg)(a:QV K Qe x=some (some (.ref f))):Ec K mg x f:=⟨PySem.W.mg_of X G a,a⟩
end
theorem fsc{N P:List Str}{sc:Ua}(h1:sc.kind= .function:=by rfl)(h2:sc.isCoroutine=false:=by rfl)(h3:sc.isGenerator=false:=by rfl)(h4:N.Nodup:=by decide +kernel)(h5:N.take P.length=P:=by rfl)(h6:∀x∈P,sc.names.lookup x=some .local∨sc.names.lookup x=some .cell:=by decide +kernel)(h7:∀y∈sc.names,y.2≠ .free:=by decide +kernel):Zv N P sc:=⟨h1,h2,h3,h4,h5,h6,h7⟩
section
variable {X:Cx}{io:List Nat}{st:Stmt}{sts ss ss':List Stmt}{f g:FS}{e:Expr}{es:List Expr}{p c:Bool}{ta:FT}{pos:Pos}{ra:FA}
noncomputable abbrev BS(X:Cx)(io:List Nat)(st:Stmt)(f:FS):Prop:=MS X io st (oS f)∧XS X io st (xS X.K f)
noncomputable abbrev BSs(X:Cx)(io:List Nat)(sts:List Stmt)(f:FS):Prop:=MSs X io sts (oS f)∧XSs X io sts (xS X.K f)
end
section
variable {X:Cx}{io:List Nat}{e:Expr}{es:List Expr}{p c:Bool}{ra:FA}{pos pp:Pos}{k k':Nat}{f:Addr}{fd:XN}{ps:List Str}{x:Str}{F:FD}{st:Stmt}
theorem xce(G:FnOk X.prog X.w X.K X.mg X.base CX0 k f fd ps (spD X.K (sD F)))(hr:Room k' X.A)(E:En X.K X.mg x st ps f fd)(ha:MA X io p c (e :: es) (o2 ra))(hle:k≤k':=by decide)(hg:Gl X x:=by rfl)(h1:(x==("__debug__" : Str))=false:=by decide)(h2:Xm (e :: es) X.env=(false,eval e X.env) :: Xm es X.env:=by rfl)(h3:((JL pos (Xm es X.env)).any λx=>x.fst)=false:=by rfl):ME X io p c (.Call (.Name x pp) (e :: es) [] pos) (o2 (Z0 F ra)):=xcl G (hr.mono hle) E.m E.F.kp E.b ha hg h1 h2 h3
end
section
variable {X:Cx}{io:List Nat}{p ci pt pe:Bool}{tg iter elt:Expr}{ifs:List Expr}{sc:Ua}{pos:Pos}{mi:MIt}{g:MGt}{mt:MTt}{me:MEt}
theorem Zfy(own:List Str)(caps:List Nat)(N':List Str)(hi:MI X io p ci tg iter mi)
  (hg:∀C cells s₂ H₂ fp,MG (Yu X N' sc C cells s₂ H₂ fp) (Zaq own.length caps) ci tg g) (ht:∀C cells s₂ H₂ fp,MIfs (Yu X N' sc C cells s₂ H₂ fp) (Zaq own.length caps) pt ifs mt) (he:∀C cells s₂ H₂ fp,ME (Yu X N' sc C cells s₂ H₂ fp) (Zaq own.length caps) pe true elt me)
  (S:CompScope X own caps N' sc:=by exact⟨rfl,by decide +kernel,rfl,by decide +kernel,rfl,rfl⟩) (hc:X.calm=true:=by rfl) (nd:caps.Nodup:=by decide) (hp:(pt&&pe)=true:=by rfl) (hs:∀x,Q7 iter X.env x=pure x:=by intro _;rfl):ME X io p true (.ListComp elt [⟨tg,iter,ifs,0⟩] sc pos) (Ziy own.length caps mi g mt me):=Z4w S hc nd hi hg ht he hp hs
end
end L2
namespace My
open PySem L2 PySem.Spec
noncomputable def top(i:Nat):Stmt:=PySem.Challenge.pw_farcuts_k47_splits_told.main.body.getD i (.Pass ⟨0,0,0,0⟩)
noncomputable abbrev Zej:Stmt:=top 33
noncomputable abbrev Zbz:Stmt:=top 40
noncomputable abbrev Zea:Stmt:=top 31
noncomputable abbrev Zd9:Stmt:=top 32
noncomputable abbrev Zak:Stmt:=top 34
noncomputable abbrev Zel:Stmt:=top 43
noncomputable abbrev Zc7:Stmt:=top 41
noncomputable abbrev Za3:Stmt:=top 37
noncomputable abbrev Zby:Stmt:=top 36
noncomputable abbrev Zam:Stmt:=top 38
noncomputable abbrev Zec:Stmt:=top 39
noncomputable abbrev Zcx:Stmt:=top 42
noncomputable abbrev Zdb:Stmt:=top 35
noncomputable abbrev Zd7:Stmt:=top 10
noncomputable abbrev Jc:Stmt:=top 6
noncomputable abbrev Zd8:Stmt:=top 7
noncomputable abbrev Zpg:Stmt:=top 9
noncomputable abbrev Zbc:Stmt:=top 24
noncomputable abbrev Za5:Stmt:=top 25
noncomputable abbrev Zbq:Stmt:=top 27
noncomputable abbrev Zbs:Stmt:=top 28
noncomputable abbrev Zek:Stmt:=top 17
noncomputable abbrev Zei:Stmt:=top 5
noncomputable abbrev Zd6:Stmt:=top 8
noncomputable abbrev Zb5:Stmt:=top 20
noncomputable abbrev Zb2:Stmt:=top 19
noncomputable abbrev Jf:Stmt:=top 21
noncomputable abbrev J1:Stmt:=top 12
noncomputable abbrev Zaf:Stmt:=top 14
noncomputable abbrev Zcv:Stmt:=top 13
noncomputable abbrev Zbp:Stmt:=top 15
noncomputable abbrev Zbb:Stmt:=top 22
noncomputable abbrev Zc8:Stmt:=top 29
noncomputable abbrev Zzm:Stmt:=top 44
set_option genInjectivity false in
set_option genSizeOfSpec false in
structure Txt(K:Xb)(mg:Str->Option Xc)(f:Nat->Addr)(fd:Nat->XN)(cls:Nat->Addr):Prop where
 e_law_take:En K mg "_law_take" Zej ["deck","many"] (f 0) (fd 0)
 e_law_bottom:En K mg "_law_bottom" Zbz ["deck"] (f 1) (fd 1)
 e_law_stir:En K mg "_law_stir" Zea ["cell","k"] (f 2) (fd 2)
 e_law_deck:En K mg "_law_deck" Zd9 ["cell"] (f 3) (fd 3)
 e_law_fraction:En K mg "_law_fraction" Zak ["top","bottom"] (f 4) (fd 4)
 e_law_good:En K mg "_law_good" Zel ["found","due"] (f 5) (fd 5)
 e_law_index:En K mg "_law_index" Zc7 ["rows","side"] (f 6) (fd 6)
 e_law_add_cut:En K mg "_law_add_cut" Za3 ["rows","bits","weight"] (f 7) (fd 7)
 e_law_nought:En K mg "_law_nought" Zby ["n"] (f 8) (fd 8)
 e_law_shortest:En K mg "_law_shortest" Zam ["rows"] (f 9) (fd 9)
 e_law_long:En K mg "_law_long" Zec ["deck","n"] (f 10) (fd 10)
 e_law_sides:En K mg "_law_sides" Zcx ["n"] (f 11) (fd 11)
 e_law_table:En K mg "_law_table" Zdb ["rows","bottom"] (f 12) (fd 12)
 e_is_below:En K mg "is_below" Zd7 ["q","r"] (f 13) (fd 13)
 e_greatest_divisor:En K mg "greatest_divisor" Jc ["a","b"] (f 14) (fd 14)
 e_in_least:En K mg "in_least" Zd8 ["top","bottom"] (f 15) (fd 15)
 e_plus:En K mg "plus" Zpg ["q","r"] (f 16) (fd 16)
 e_is_short_by:En K mg "is_short_by" Zbc ["table","i","j","k"] (f 17) (fd 17)
 e_first_short:En K mg "first_short" Za5 ["table"] (f 18) (fd 18)
 e_check_long:En K mg "check_long" Zbq ["table"] (f 19) (fd 19)
 e_split_rule:En K mg "split_rule" Zbs ["sums"] (f 20) (fd 20)
 e_all_cuts:En K mg "all_cuts" Zek ["n"] (f 21) (fd 21)
 e_is_whole:En K mg "is_whole" Zei ["thing"] (f 22) (fd 22)
 e_fraction:En K mg "fraction" Zd6 ["top","bottom"] (f 23) (fd 23)
 e_doubles_of:En K mg "doubles_of" Zb5 ["points"] (f 24) (fd 24)
 e_three_sums:En K mg "three_sums" Zb2 ["rows","i","j","k","l"] (f 25) (fd 25)
 e_least_over_sides:En K mg "least_over_sides" Jf ["rows","cut","rule"] (f 26) (fd 26)
 e_shared_bottom:En K mg "shared_bottom" J1 ["numbers"] (f 27) (fd 27)
 e_table_bottom:En K mg "table_bottom" Zaf ["table"] (f 28) (fd 28)
 e_tops_over:En K mg "tops_over" Zcv ["bottom","numbers"] (f 29) (fd 29)
 e_table_over:En K mg "table_over" Zbp ["bottom","table"] (f 30) (fd 30)
 e_weighted_by:En K mg "weighted_by" Zbb ["table","rule"] (f 31) (fd 31)
 e_splits_of:En K mg "splits_of" Zc8 ["table"] (f 32) (fd 32)
 e_law:En K mg "law" Zzm ["script"] (f 33) (fd 33)
 fa_split_rule:ClsAt K "split_rule" (f 20)
 z_abs:mg "abs"=none
 z_bool:mg "bool"=none
 z_enumerate:mg "enumerate"=none
 z_int:mg "int"=none
 z_isinstance:mg "isinstance"=none
 z_len:mg "len"=none
 z_list:mg "list"=none
 z_max:mg "max"=none
 z_min:mg "min"=none
 z_range:mg "range"=none
 z_sorted:mg "sorted"=none
 z_tuple:mg "tuple"=none
 z_zip:mg "zip"=none
 c_NoNumber:Ec K mg "NoNumber" (cls 0)
 c_NoTable:Ec K mg "NoTable" (cls 1)
 x_NoNumber:Zem K (cls 0)
 x_NoTable:Zem K (cls 1)
 r_NoNumber:Zst K (cls 0)
 r_NoTable:Zst K (cls 1)
section
variable {P:X6}{w:Qv}{K:Xb}{mg:Str->Option Xc}{base:Heap}
theorem Zfu:Zv ["deck","many","taken"] ["deck","many"] (Zm Zej):=fsc
theorem Zc4{f:Nat->Addr}{fd:Nat->XN}{cls:Nat->Addr}(T:Txt K mg f fd cls):FnOk P w K mg base CX0 1 (f 0) (fd 0) ["deck","many"] (spI K (sI Zn)):=by
 refine Zi0 T.e_law_take.F Zfu (S:=Zcc) rfl rfl (λcdv A outer s H E hr=>?_)
 exact(xsq (xst 2 Zfu.nd (Z27 (xix (xo 0) xci) (xv 1))) (xsq (Zv9 (Zwm 0 (Zvp (xix (xo 0) xci) (xv 1)) xci)) (Zi (xrt (xv 2)))))
theorem Zh7:Zv ["deck"] ["deck"] (Zm Zbz):=fsc
theorem Zh2{f:Nat->Addr}{fd:Nat->XN}{cls:Nat->Addr}(T:Txt K mg f fd cls):FnOk P w K mg base CX0 2 (f 1) (fd 1) ["deck"] (spI K (sI Jk)):=by
 have G_law_take:=Zc4 (P:=P) (w:=w) (base:=base) T
 refine Zi0 T.e_law_bottom.F Zh7 (S:=Zau) rfl rfl (λcdv A outer s H E hr=>?_)
 exact(Zi (xrt (Zgp xci (Yw (Wn (i:=0) G_law_take (hr.mono (by decide)) (by rfl) T.e_law_take.m T.e_law_take.F.kp T.e_law_take.b Zbd (xa1 (xix (xls (Zk xci (Zk xci (xa1 (Zon xci xci))))) (Yw (Wn (i:=0) G_law_take (hr.mono (by decide)) (by rfl) T.e_law_take.m T.e_law_take.F.kp T.e_law_take.b Zbd (xa1 xci))))))))))
theorem Zc5:Zv ["cell","k","number"] ["cell","k"] (Zm Zea):=fsc
theorem Zk0{f:Nat->Addr}{fd:Nat->XN}{cls:Nat->Addr}(T:Txt K mg f fd cls):FnOk P w K mg base CX0 1 (f 2) (fd 2) ["cell","k"] (spD K (sD Yh)):=by
 refine Ys T.e_law_stir.F Zc5 (S:=Zbv) rfl rfl (λcdv A outer s H E hr=>?_)
 exact(xsq (xst 2 Zc5.nd (Zgp (Zgp (Zi7 (Z27 (xv 0) (Zon xci xci)) xci) (Zi7 (Zi7 (Zon xci xci) (Zgp (xv 1) xci)) (Zgp (xv 1) xci))) (xv 1))) (xsq (xst 2 Zc5.nd (Zgp (Zi7 (xv 2) (xv 2)) (Zi7 xci (xv 2)))) (Zi (xrt (Zvp (Z27 (Zi7 (xv 2) (xv 2)) (Zgp (Zon xci xci) xci)) xci)))))
theorem Zlt:Zv ["cell"] ["cell"] (Zm Zd9):=fsc
theorem Zk6{f:Nat->Addr}{fd:Nat->XN}{cls:Nat->Addr}(T:Txt K mg f fd cls):FnOk P w K mg base CX0 2 (f 3) (fd 3) ["cell"] (spD K (sD Wz)):=by
 have G_law_stir:=Zk0 (P:=P) (w:=w) (base:=base) T
 refine Ys T.e_law_deck.F Zlt (S:=Jg) rfl rfl (λcdv A outer s H E hr=>?_)
 exact(xsq (xif (xge (xv 0) (Zon xci xci)) (Zi (xrt (xls (xa1 (Z9e (xv 0) (Zon xci xci)))))) xnl) (Zi (xrt (xls (xa1 (Zgp (Zi7 (Zgp (Zi7 (xce G_law_stir hr T.e_law_stir (Zk (xv 0) (xa1 xci))) (Zon xci xci)) (xce G_law_stir hr T.e_law_stir (Zk (xv 0) (xa1 xci)))) (Zon xci xci)) (xce G_law_stir hr T.e_law_stir (Zk (xv 0) (xa1 xci)))))))))
theorem Yz:Zv ["top","bottom","one","other","rest"] ["top","bottom"] (Zm Zak):=fsc
theorem Zbw{f:Nat->Addr}{fd:Nat->XN}{cls:Nat->Addr}(T:Txt K mg f fd cls):FnOk P w K mg base CX0 1 (f 4) (fd 4) ["top","bottom"] (spD K (sD Yc)):=by
 refine Ys T.e_law_fraction.F Yz (S:=J0) rfl rfl (λcdv A outer s H E hr=>?_)
 have hu:=hr.units
 exact(xsq (xst 2 Yz.nd (Zdt Zyp (Zjm Zrp Zii (by rfl) T.z_abs L2.B.boot_abs (xa1 (xv 0))))) (xsq (xst 3 Yz.nd (xv 1)) (xsq (Zl9 (Zm3 Xz (xne hu (xv 3) xci) (xsq (xst 4 Yz.nd (Z27 (xv 2) (xv 3))) (xsq (xst 2 Yz.nd (xv 3)) (Zi (xst 3 Yz.nd (xv 4))))))) (Zi (xrt (xtp (Zk (Zvp (xv 0) (xv 2)) (xa1 (Zvp (xv 1) (xv 2))))))))))
theorem Zfe:Zv ["found","due","row"] ["found","due"] (Zm Zel):=fsc
theorem Zlc{f:Nat->Addr}{fd:Nat->XN}{cls:Nat->Addr}(T:Txt K mg f fd cls):FnOk P w K mg base CX0 1 (f 5) (fd 5) ["found","due"] (spD K (sD W0)):=by
 refine Ys T.e_law_good.F Zfe (S:=Zca) rfl rfl (λcdv A outer s H E hr=>?_)
 have hu:=hr.units
 exact(xsq (xif (MW.mt (Zl0 (Zlz (xno (Zcm (Zct (Zf6 (Zl2 (by decide) (by rfl) T.z_isinstance L2.B.boot_isinstance (by rfl) T.z_list L2.B.boot_list (xv 0))) (λ_=>rfl)))) (Zkt (xne hu (xv 0) (xv 1)))))) (Zi (xrt (Zoc Zlb))) xnl) (xsq (xfr Xz rfl (xil (xv 0)) (xg 2 Zfe.nd) (xsq (xif (MW.mt (Zl0 (Zlz (xno (Zcm (Zct (Zf6 (Zl2 (by decide) (by rfl) T.z_isinstance L2.B.boot_isinstance (by rfl) T.z_tuple L2.B.boot_tuple (xv 2))) (λ_=>rfl)))) (Zl0 (Zlz (xno (Zcm (Zct (Zf6 (Zl2 (by decide) (by rfl) T.z_isinstance L2.B.boot_isinstance (by rfl) T.z_list L2.B.boot_list (xix (xv 2) xci))) (λ_=>rfl)))) (Zkt (xno (Zcm (Zct (Zf6 (Zl2 (by decide) (by rfl) T.z_isinstance L2.B.boot_isinstance (by rfl) T.z_tuple L2.B.boot_tuple (xix (xv 2) xci))) (λ_=>rfl)))))))))) (Zi (xrt (Zoc Zlb))) xnl) (Zi (xif (xne hu (Jx (Zfy ["one"] [] ["one"] (xil (Zn9 (Zfw Zn8 (Z1n (Zc9 rfl) Zg3 (xix (xv 2) xci) (Zw5 Zvw (Ybg Zrm (Zhb rfl) (by rfl) T.z_list L2.B.boot_list (xa1 (xix (xv 2) xci)))))))) (λ_ _ _ _ _=>(xg 0 (by show JX (["one"]:List Str);decide +kernel))) (λ_ _ _ _ _=>(Zfk (Zcm (Zct (Zf6 (Zl2 (by decide) (by rfl) T.z_isinstance L2.B.boot_isinstance (by rfl) T.z_bool L2.B.boot_bool (xv 0))) (λ_=>rfl))))) (λ_ _ _ _ _=>(xv 0)))) (xls xa0)) (Zi (xrt (Zoc Zlb))) xnl)))) (Zi (xrt (Zoc Zlb)))))
theorem Yg:Zv ["rows","side","n","others","found","a","b","c","e","sums","over"] ["rows","side"] (Zm Zc7):=fsc
theorem Zjf{f:Nat->Addr}{fd:Nat->XN}{cls:Nat->Addr}(T:Txt K mg f fd cls):FnOk P w K mg base CX0 1 (f 6) (fd 6) ["rows","side"] (spD K (sD Y6)):=by
 refine Ys T.e_law_index.F Yg (S:=Zbm) rfl rfl (λcdv A outer s H E hr=>?_)
 exact(xsq (xst 2 Yg.nd (xln T.z_len (xa1 (xv 0)))) (xsq (Zrh (Zhd (i:=3) (own:=["point"]) (caps:=[1]) (N':=["point","side"]) false Yg.nd rfl (Qp rfl) (by exact⟨rfl,by decide +kernel,rfl,by decide +kernel,rfl,rfl⟩) (by rfl) (by decide) (Zck (Yk (by rfl) T.z_range (xa1 (xv 2)))) (λ_ _ _ _ _=>(xg 0 (by show JX (["point","side"]:List Str);decide +kernel))) (λ_ _ _ _ _=>(Zfk (Zco Z6a (Zcs (Zji rfl) Z3v (xv 0) (xv 1) (hm:=(by with_unfolding_all rfl)))))) (λ_ _ _ _ _=>(xv 0)))) (xsq (xst 4 Yg.nd (Zoc Zmv)) (xsq (xfr Xz rfl (xil (xv 1)) (xg 5 Yg.nd) (Zi (xfr Xz rfl (xil (xv 1)) (xg 6 Yg.nd) (Zi (xfr Xz rfl (xil (xv 3)) (xg 7 Yg.nd) (Zi (xfr Xz rfl (xil (xv 3)) (xg 8 Yg.nd) (xsq (xst 9 Yg.nd (xls (Zk (Zgp (xix (xix (xv 0) (xv 5)) (xv 6)) (xix (xix (xv 0) (xv 7)) (xv 8))) (Zk (Zgp (xix (xix (xv 0) (xv 5)) (xv 7)) (xix (xix (xv 0) (xv 6)) (xv 8))) (xa1 (Zgp (xix (xix (xv 0) (xv 5)) (xv 8)) (xix (xix (xv 0) (xv 6)) (xv 7)))))))) (xsq (xst 10 Yg.nd (Z9e (Zdt Zwd (Zjm Zrr (Zjp rfl (by rfl)) (by rfl) T.z_max L2.B.boot_max (xa1 (xv 9)))) (xix (xv 9) xci))) (Zi (xif (MW.mt (Zl0 (Zlz (Zco Ycv (Zcs Z6m Z4r (xv 4) (Zoc Zmv) (hm:=(Zcr _)))) (Zkt (xlt (xv 10) (xv 4)))))) (Zi (xst 4 Yg.nd (xv 10))) xnl))))))))))) (Zi (xrt (xv 4)))))))
theorem Zan:Zv ["rows","bits","weight","one","other"] ["rows","bits","weight"] (Zm Za3):=fsc
theorem Zgz{f:Nat->Addr}{fd:Nat->XN}{cls:Nat->Addr}(T:Txt K mg f fd cls):FnOk P w K mg base CX0 1 (f 7) (fd 7) ["rows","bits","weight"] (spI K (sI Wa)):=by
 refine Zi0 T.e_law_add_cut.F Zan (S:=Zab) rfl rfl (λcdv A outer s H E hr=>?_)
 have hu:=hr.units
 exact(Zi (xfr Xz rfl (Zck (Yk (by rfl) T.z_range (xa1 (xln T.z_len (xa1 (xo 0)))))) (xg 3 Zan.nd) (Zi (xfr Xz rfl (Zck (Yk (by rfl) T.z_range (xa1 (xln T.z_len (xa1 (xo 0)))))) (xg 4 Zan.nd) (Zi (xif (xne hu (Jl Z4y (Zgf Zv0 Zio (Jl Z2u (Zgf Zvs Zpj (xv 1) (xv 3))) xci)) (Jl Z4y (Zgf Zv0 Zio (Jl Z2u (Zgf Zvs Zpj (xv 1) (xv 4))) xci))) (Zi (Zgk (Zgg 0 (Zgp (xix (xix (xo 0) (xv 3)) (xv 4)) (xv 2)) (xv 3) (xv 4) (λ_ _=>rfl)))) xnl))))))
theorem Zhn:Zv ["n"] ["n"] (Zm Zby):=fsc
theorem Zih{f:Nat->Addr}{fd:Nat->XN}{cls:Nat->Addr}(T:Txt K mg f fd cls):FnOk P w K mg base CX0 1 (f 8) (fd 8) ["n"] (spD K (sD Ym)):=by
 refine Ys T.e_law_nought.F Zhn (S:=Wj) rfl rfl (λcdv A outer s H E hr=>?_)
 exact(Zi (xrt (Jx (Zfy ["one"] [0] ["one","n"] (Zck (Yk (by rfl) T.z_range (xa1 (xv 0)))) (λ_ _ _ _ _=>(xg 0 (by show JX (["one","n"]:List Str);decide +kernel))) (λ_ _ _ _ _=>(Za4 Za2)) (λ_ _ _ _ _=>(Jx (Zfy ["other"] [] ["other"] (Zck (Yk (by rfl) T.z_range (xa1 (xv 1)))) (λ_ _ _ _ _=>(xg 0 (by show JX (["other"]:List Str);decide +kernel))) (λ_ _ _ _ _=>(Za4 Za2)) (λ_ _ _ _ _=>xci))))))))
theorem Wh:Zv ["rows","n","by","one","other"] ["rows"] (Zm Zam):=fsc
theorem Zf0{f:Nat->Addr}{fd:Nat->XN}{cls:Nat->Addr}(T:Txt K mg f fd cls):FnOk P w K mg base CX0 1 (f 9) (fd 9) ["rows"] (spI K (sI Wu)):=by
 refine Zi0 T.e_law_shortest.F Wh (S:=J3) rfl rfl (λcdv A outer s H E hr=>?_)
 exact(xsq (xst 1 Wh.nd (xln T.z_len (xa1 (xo 0)))) (Zi (xfr Xz rfl (Zck (Yk (by rfl) T.z_range (xa1 (xv 1)))) (xg 2 Wh.nd) (Zi (xfr Xz rfl (Zck (Yk (by rfl) T.z_range (xa1 (xv 1)))) (xg 3 Wh.nd) (Zi (xfr Xz rfl (Zck (Yk (by rfl) T.z_range (xa1 (xv 1)))) (xg 4 Wh.nd) (Zi (Zgk (Zgg 0 (Zdt Z6k (Zjm Zry (Zkv (by rfl)) (by rfl) T.z_min L2.B.boot_min (Zk (xix (xix (xo 0) (xv 3)) (xv 4)) (xa1 (Zgp (xix (xix (xo 0) (xv 3)) (xv 2)) (xix (xix (xo 0) (xv 2)) (xv 4))))))) (xv 3) (xv 4) (λ_ _=>rfl)))))))))))
theorem Yt:Zv ["deck","n","rows","kind","k","bits","ways","most","one","other"] ["deck","n"] (Zm Zec):=fsc
theorem Zlk{f:Nat->Addr}{fd:Nat->XN}{cls:Nat->Addr}(T:Txt K mg f fd cls):FnOk P w K mg base CX0 2 (f 10) (fd 10) ["deck","n"] (spI K (sI J6)):=by
 have G_law_add_cut:=Zgz (P:=P) (w:=w) (base:=base) T
 have G_law_nought:=Zih (P:=P) (w:=w) (base:=base) T
 have G_law_shortest:=Zf0 (P:=P) (w:=w) (base:=base) T
 have G_law_take:=Zc4 (P:=P) (w:=w) (base:=base) T
 refine Zi0 T.e_law_long.F Yt (S:=Zb0) rfl rfl (λcdv A outer s H E hr=>?_)
 have hu:=hr.units
 exact(xsq (xso 2 Yt.nd (xce G_law_nought hr T.e_law_nought (xa1 (xv 1)))) (xsq (xst 3 Yt.nd (Yw (Wn (i:=0) G_law_take (hr.mono (by decide)) (by rfl) T.e_law_take.m T.e_law_take.F.kp T.e_law_take.b Zbd (xa1 xci)))) (xsq (xif (xne hu (xv 3) xci) (Zi (xfr Xz rfl (Zck (Yk (by rfl) T.z_range (xa1 (Yw (Wn (i:=0) G_law_take (hr.mono (by decide)) (by rfl) T.e_law_take.m T.e_law_take.F.kp T.e_law_take.b Zbd (xa1 xci)))))) (xg 4 Yt.nd) (xsq (xst 5 Yt.nd (Yw (Wn (i:=0) G_law_take (hr.mono (by decide)) (by rfl) T.e_law_take.m T.e_law_take.F.kp T.e_law_take.b Zbd (xa1 (Jl Z9r (Zgf Z53 Z42 xci (xv 1))))))) (Zi (Zlu (Zk4 (Yw (Wn (i:=2) G_law_add_cut (hr.mono (by decide)) (by rfl) T.e_law_add_cut.m T.e_law_add_cut.F.kp T.e_law_add_cut.b Zbd (Zk (xv 5) (xa1 (Zgp xci (Yw (Wn (i:=0) G_law_take (hr.mono (by decide)) (by rfl) T.e_law_take.m T.e_law_take.F.kp T.e_law_take.b Zbd (xa1 (xix (xls (Zk xci (Zk (Zon xci xci) (xa1 (Zon xci xci))))) (Yw (Wn (i:=0) G_law_take (hr.mono (by decide)) (by rfl) T.e_law_take.m T.e_law_take.F.kp T.e_law_take.b Zbd (xa1 xci)))))))))))))))))) xnl) (xsq (xif (xgt (xv 3) xci) (xsq (xso 6 Yt.nd (xce G_law_nought hr T.e_law_nought (xa1 (xv 1)))) (xsq (xst 7 Yt.nd (xix (xls (Zk xci (Zk xci (xa1 (Zon xci xci))))) (Yw (Wn (i:=0) G_law_take (hr.mono (by decide)) (by rfl) T.e_law_take.m T.e_law_take.F.kp T.e_law_take.b Zbd (xa1 xci))))) (xsq (xfr Xz rfl (Zck (Yk (by rfl) T.z_range (xa1 (xv 1)))) (xg 8 Yt.nd) (Zi (xfr Xz rfl (Zck (Yk (by rfl) T.z_range (xa1 (xv 8)))) (xg 9 Yt.nd) (xsq (Zgk (Zgg 6 (xix (xls (Zk (Zgp xci (Yw (Wn (i:=0) G_law_take (hr.mono (by decide)) (by rfl) T.e_law_take.m T.e_law_take.F.kp T.e_law_take.b Zbd (xa1 (xv 7))))) (xa1 (xv 7)))) (Zdt Z9c (Z98 Z17 Zqs (by rfl) T.z_int L2.B.boot_int (xa1 (Jl Ycg (Z2g (Zvf hu) Z38 (xv 3) xci (hm:=(Zcr _)))))))) (xv 8) (xv 9) (λ_ _=>rfl))) (xsq (xif (MW.mt (Z5w (Z3u (xeq hu (xv 3) xci) (Zy3 (xeq hu (Yw (Wn (i:=0) G_law_take (hr.mono (by decide)) (by rfl) T.e_law_take.m T.e_law_take.F.kp T.e_law_take.b Zbd (xa1 xci))) xci))))) (Zi (Zgk (Zgg 6 xci (xv 8) (xv 9) (λ_ _=>rfl)))) xnl) (Zi (Zgk (Zgg 6 (Z0g (Z3m (xix (xix (xo 6) (xv 8)) (xv 9)))) (xv 9) (xv 8) (λ_ _=>rfl))))))))) (xsq (Zlu (Zk4 (Yw (Wn (i:=6) G_law_shortest (hr.mono (by decide)) (by rfl) T.e_law_shortest.m T.e_law_shortest.F.kp T.e_law_shortest.b Zbd xa0)))) (Zi (xfr Xz rfl (Zck (Yk (by rfl) T.z_range (xa1 (xv 1)))) (xg 8 Yt.nd) (Zi (Zv9 (Zwm 2 (Jx (Zfy ["number","more"] [] ["number","more"] (Zzj (Z00 (by rfl) T.z_zip L2.B.boot_zip (Zk (xix (xo 2) (xv 8)) (xa1 (xix (xo 6) (xv 8)))))) (λ_ _ _ _ _=>(Zvk (Zwb (n:=2) (by rfl) (Ze6 (Zks (Zmt (Zni (i:=0) (by show JX (["number","more"]:List Str);decide +kernel))) (Ze6 (Zks (Zmt (Zni (i:=1) (by show JX (["number","more"]:List Str);decide +kernel))) (Zr6 Zos)))))))) (λ_ _ _ _ _=>(Za4 Za2)) (λ_ _ _ _ _=>(Zgp (xv 0) (xv 1))))) (xv 8)))))))))) xnl) (Zi (Zl8 (Zll 2)))))))
theorem J9:Zv ["n","found","point"] ["n"] (Zm Zcx):=fsc
theorem Zi8{f:Nat->Addr}{fd:Nat->XN}{cls:Nat->Addr}(T:Txt K mg f fd cls):FnOk P w K mg base CX0 1 (f 11) (fd 11) ["n"] (spD K (sD Wr)):=by
 refine Ys T.e_law_sides.F J9 (S:=Zbj) rfl rfl (λcdv A outer s H E hr=>?_)
 have hu:=hr.units
 exact(xsq (xst 1 J9.nd (xls (xa1 (xls xa0)))) (xsq (xfr Xz rfl (Z6h (Zjd (by rfl) T.z_range (Zk xci (xa1 (xv 0))))) (xg 2 J9.nd) (Zi (xst 1 J9.nd (Zn9 (Zfw Zn8 (Z1n (Zc9 rfl) Zg3 (xv 1) (Jx (Zfy ["side"] [2] ["side","point"] (xil (xv 1)) (λ_ _ _ _ _=>(xg 0 (by show JX (["side","point"]:List Str);decide +kernel))) (λ_ _ _ _ _=>(Za4 Za2)) (λ_ _ _ _ _=>(Zn9 (Zfw Zn8 (Z1n (Zc9 rfl) Zg3 (xv 0) (xls (xa1 (xv 1))))))))))))))) (Zi (xrt (Zw5 Zzn (Ycq Zuj (Zg2 Zwa rfl hu) (by rfl) T.z_sorted L2.B.boot_sorted (xa1 (Jx (Zfy ["side"] [] ["side"] (xil (xv 1)) (λ_ _ _ _ _=>(xg 0 (by show JX (["side"]:List Str);decide +kernel))) (λ_ _ _ _ _=>(Zfk (xne hu (xv 0) (xls xa0)))) (λ_ _ _ _ _=>(xv 0)))))))))))
theorem Zko:Zv ["rows","bottom"] ["rows","bottom"] (Zm Zdb):=fsc
theorem Zi2{f:Nat->Addr}{fd:Nat->XN}{cls:Nat->Addr}(T:Txt K mg f fd cls):FnOk P w K mg base CX0 2 (f 12) (fd 12) ["rows","bottom"] (spD K (sD Y7)):=by
 have G_law_fraction:=Zbw (P:=P) (w:=w) (base:=base) T
 refine Ys T.e_law_table.F Zko (S:=Zbh) rfl rfl (λcdv A outer s H E hr=>?_)
 exact(Zi (xrt (Jx (Zfy ["row"] [1] ["row","bottom"] (xil (xv 0)) (λ_ _ _ _ _=>(xg 0 (by show JX (["row","bottom"]:List Str);decide +kernel))) (λ_ _ _ _ _=>(Za4 Za2)) (λ_ _ _ _ _=>(Jx (Zfy ["number"] [1] ["number","bottom"] (xil (xv 0)) (λ_ _ _ _ _=>(xg 0 (by show JX (["number","bottom"]:List Str);decide +kernel))) (λ_ _ _ _ _=>(Za4 Za2)) (λ_ _ _ _ _=>(xce G_law_fraction hr T.e_law_fraction (Zk (xv 0) (xa1 (xv 1))))))))))))
theorem Zlr:Zv ["q","r"] ["q","r"] (Zm Zd7):=fsc
theorem Zl3{f:Nat->Addr}{fd:Nat->XN}{cls:Nat->Addr}(T:Txt K mg f fd cls):FnOk P w K mg base CX0 1 (f 13) (fd 13) ["q","r"] (spD K (sD J5)):=by
 refine Ys T.e_is_below.F Zlr (S:=Zb3) rfl rfl (λcdv A outer s H E hr=>?_)
 exact(Zi (xrt (Jl Yaq (Z2g Z56 Zjg (Zi7 (xix (xv 0) xci) (xix (xv 1) xci)) (Zi7 (xix (xv 1) xci) (xix (xv 0) xci)) (hm:=(Zcr _))))))
theorem Ye:Zv ["a","b","left"] ["a","b"] (Zm Jc):=fsc
theorem J2{f:Nat->Addr}{fd:Nat->XN}{cls:Nat->Addr}(T:Txt K mg f fd cls):FnOk P w K mg base CX0 1 (f 14) (fd 14) ["a","b"] (spD K (sD Z4)):=by
 refine Ys T.e_greatest_divisor.F Ye (S:=Ja) rfl rfl (λcdv A outer s H E hr=>?_)
 have hu:=hr.units
 exact(xsq (xst 0 Ye.nd (Zdt Zyp (Zjm Zrp Zii (by rfl) T.z_abs L2.B.boot_abs (xa1 (xv 0))))) (xsq (xst 1 Ye.nd (Zdt Zyp (Zjm Zrp Zii (by rfl) T.z_abs L2.B.boot_abs (xa1 (xv 1))))) (xsq (Zl9 (Zm3 Xz (xne hu (xv 1) xci) (xsq (xst 2 Ye.nd (Z27 (xv 0) (xv 1))) (xsq (xst 0 Ye.nd (xv 1)) (Zi (xst 1 Ye.nd (xv 2))))))) (Zi (xrt (xv 0))))))
theorem Zc0:Zv ["top","bottom","shared"] ["top","bottom"] (Zm Zd8):=fsc
theorem Zf2{f:Nat->Addr}{fd:Nat->XN}{cls:Nat->Addr}(T:Txt K mg f fd cls):FnOk P w K mg base CX0 2 (f 15) (fd 15) ["top","bottom"] (spD K (sD W7)):=by
 have G_greatest_divisor:=J2 (P:=P) (w:=w) (base:=base) T
 refine Ys T.e_in_least.F Zc0 (S:=Zb8) rfl rfl (λcdv A outer s H E hr=>?_)
 exact(xsq (xst 2 Zc0.nd (xce G_greatest_divisor hr T.e_greatest_divisor (Zk (xv 0) (xa1 (xv 1))))) (xsq (xif (xlt (xv 1) xci) (Zi (xst 2 Zc0.nd (Z3s (Z77 (xv 2))))) xnl) (Zi (xrt (xtp (Zk (Zvp (xv 0) (xv 2)) (xa1 (Zvp (xv 1) (xv 2)))))))))
theorem Zzp:Zv ["q","r"] ["q","r"] (Zm Zpg):=fsc
theorem Z0x{f:Nat->Addr}{fd:Nat->XN}{cls:Nat->Addr}(T:Txt K mg f fd cls):FnOk P w K mg base CX0 3 (f 16) (fd 16) ["q","r"] (spD K (sD Zc2)):=by
 have G_in_least:=Zf2 (P:=P) (w:=w) (base:=base) T
 refine Ys T.e_plus.F Zzp (S:=Zgl) rfl rfl (λcdv A outer s H E hr=>?_)
 exact(Zi (xrt (xce G_in_least hr T.e_in_least (Zk (Zgp (Zi7 (xix (xv 0) xci) (xix (xv 1) xci)) (Zi7 (xix (xv 1) xci) (xix (xv 0) xci))) (xa1 (Zi7 (xix (xv 0) xci) (xix (xv 1) xci)))))))
theorem Zgs:Zv ["table","i","j","k"] ["table","i","j","k"] (Zm Zbc):=fsc
theorem Zgv{f:Nat->Addr}{fd:Nat->XN}{cls:Nat->Addr}(T:Txt K mg f fd cls):FnOk P w K mg base CX0 4 (f 17) (fd 17) ["table","i","j","k"] (spD K (sD Jd)):=by
 have G_is_below:=Zl3 (P:=P) (w:=w) (base:=base) T
 have G_plus:=Z0x (P:=P) (w:=w) (base:=base) T
 refine Ys T.e_is_short_by.F Zgs (S:=Zaa) rfl rfl (λcdv A outer s H E hr=>?_)
 exact(Zi (xrt (xce G_is_below hr T.e_is_below (Zk (xce G_plus hr T.e_plus (Zk (xix (xix (xv 0) (xv 1)) (xv 2)) (xa1 (xix (xix (xv 0) (xv 2)) (xv 3))))) (xa1 (xix (xix (xv 0) (xv 1)) (xv 3)))))))
theorem Wq:Zv ["table","n","i","j","k"] ["table"] (Zm Za5):=fsc
theorem Zgr{f:Nat->Addr}{fd:Nat->XN}{cls:Nat->Addr}(T:Txt K mg f fd cls):FnOk P w K mg base CX0 5 (f 18) (fd 18) ["table"] (spD K (sD Jb)):=by
 have G_is_short_by:=Zgv (P:=P) (w:=w) (base:=base) T
 refine Ys T.e_first_short.F Wq (S:=Zad) rfl rfl (λcdv A outer s H E hr=>?_)
 exact(xsq (xst 1 Wq.nd (xln T.z_len (xa1 (xv 0)))) (xsq (xfr Xz rfl (Zck (Yk (by rfl) T.z_range (xa1 (xv 1)))) (xg 2 Wq.nd) (Zi (xfr Xz rfl (Zck (Yk (by rfl) T.z_range (xa1 (xv 1)))) (xg 3 Wq.nd) (Zi (xfr Xz rfl (Zck (Yk (by rfl) T.z_range (xa1 (xv 1)))) (xg 4 Wq.nd) (Zi (xif (Zcm (Zct (xce G_is_short_by hr T.e_is_short_by (Zk (xv 0) (Zk (xv 2) (Zk (xv 3) (xa1 (xv 4)))))) (λ_=>rfl))) (Zi (xrt (xtp (Zk (xv 2) (Zk (xv 3) (xa1 (xv 4))))))) xnl))))))) (Zi (xrt (Zoc Zmv)))))
theorem Ziv:Zv ["table"] ["table"] (Zm Zbq):=fsc
theorem Zhz{f:Nat->Addr}{fd:Nat->XN}{cls:Nat->Addr}(T:Txt K mg f fd cls):FnOk P w K mg base CX0 6 (f 19) (fd 19) ["table"] (spD K (sD Wl)):=by
 have G_first_short:=Zgr (P:=P) (w:=w) (base:=base) T
 refine Ys T.e_check_long.F Ziv (S:=Zax) rfl rfl (λcdv A outer s H E hr=>?_)
 exact(Zi (xif (Zco Zz5 (Zcs Zxo Zxx (xce G_first_short hr T.e_first_short (xa1 (xv 0))) (Zoc Zmv) (hm:=(Zcr _)))) (Zi Zm9) xnl))
theorem Zij:Zv ["sums"] ["sums"] (Zm Zbs):=fsc
theorem Zdn{f:Nat->Addr}{fd:Nat->XN}{cls:Nat->Addr}(T:Txt K mg f fd cls):FnOk P w K mg base CX0 1 (f 20) (fd 20) ["sums"] (spD K (sD Yd)):=by
 refine Ys T.e_split_rule.F Zij (S:=Zaw) rfl rfl (λcdv A outer s H E hr=>?_)
 exact(Zi (xrt (Z9e (Zdt Zwd (Zjm Zrr (Zjp rfl (by rfl)) (by rfl) T.z_max L2.B.boot_max (xa1 (xv 0)))) (xix (xv 0) xci))))
theorem Za6:Zv ["n","sides","point"] ["n"] (Zm Zek):=fsc
theorem Zl6{f:Nat->Addr}{fd:Nat->XN}{cls:Nat->Addr}(T:Txt K mg f fd cls):FnOk P w K mg base CX0 1 (f 21) (fd 21) ["n"] (spD K (sD We)):=by
 refine Ys T.e_all_cuts.F Za6 (S:=Zb6) rfl rfl (λcdv A outer s H E hr=>?_)
 have hu:=hr.units
 exact(xsq (xso 1 Za6.nd (xls (xa1 (xls xa0)))) (xsq (xfr Xz rfl (Z6h (Zjd (by rfl) T.z_range (Zk xci (xa1 (xv 0))))) (xg 2 Za6.nd) (Zi (Zym (Zz8 1 Za6.nd rfl (Qp rfl) (Z1d (Z59 1 (Jx (Zfy ["side"] [2] ["side","point"] (xil (xv 1)) (λ_ _ _ _ _=>(xg 0 (by show JX (["side","point"]:List Str);decide +kernel))) (λ_ _ _ _ _=>(Za4 Za2)) (λ_ _ _ _ _=>(Zn9 (Zfw Zn8 (Z1n (Zc9 rfl) Zg3 (xv 0) (xls (xa1 (xv 1))))))))))))))) (Zi (Zz0 (Zxc (N':=["side"]) 1 Zwa hu (by rfl) T.z_sorted L2.B.boot_sorted (by exact⟨rfl,by decide +kernel,rfl,by decide +kernel,rfl,rfl⟩) rfl (λ_ _ _ _ _=>Zgj (by show JX (["side"]:List Str);decide +kernel) rfl (Qp rfl)) (λ_ _ _ _ _=>Zfk (xgt (xln T.z_len (xa1 (xv 0))) xci)) (λ_ _ _ _ _=>pv 0))))))
theorem Zk7:Zv ["thing"] ["thing"] (Zm Zei):=fsc
theorem Zle{f:Nat->Addr}{fd:Nat->XN}{cls:Nat->Addr}(T:Txt K mg f fd cls):FnOk P w K mg base CX0 1 (f 22) (fd 22) ["thing"] (spD K (sD Wf)):=by
 refine Ys T.e_is_whole.F Zk7 (S:=Zcb) rfl rfl (λcdv A outer s H E hr=>?_)
 exact(Zi (xrt (Zyx (Z96 (Zf6 (Zl2 (by decide) (by rfl) T.z_isinstance L2.B.boot_isinstance (by rfl) T.z_int L2.B.boot_int (xv 0))) (Z71 (Z0q (Z90 (Zf6 (Zl2 (by decide) (by rfl) T.z_isinstance L2.B.boot_isinstance (by rfl) T.z_bool L2.B.boot_bool (xv 0))))))))))
theorem Zlh:Zv ["top","bottom"] ["top","bottom"] (Zm Zd6):=fsc
theorem Zl7{f:Nat->Addr}{fd:Nat->XN}{cls:Nat->Addr}(T:Txt K mg f fd cls):FnOk P w K mg base CX0 3 (f 23) (fd 23) ["top","bottom"] (spD K (sD Wc)):=by
 have G_in_least:=Zf2 (P:=P) (w:=w) (base:=base) T
 have G_is_whole:=Zle (P:=P) (w:=w) (base:=base) T
 refine Ys T.e_fraction.F Zlh (S:=Zb1) rfl rfl (λcdv A outer s H E hr=>?_)
 have hu:=hr.units
 exact(xsq (xif (MW.mt (Zl0 (Zlz (xno (Zcm (Zct (xce G_is_whole hr T.e_is_whole (xa1 (xv 0))) (λ_=>rfl)))) (Zl0 (Zlz (xno (Zcm (Zct (xce G_is_whole hr T.e_is_whole (xa1 (xv 1))) (λ_=>rfl)))) (Zkt (xeq hu (xv 1) xci))))))) (Zi Zm9) xnl) (Zi (xrt (xce G_in_least hr T.e_in_least (Zk (xv 0) (xa1 (xv 1)))))))
theorem W8:Zv ["points","doubles","place","point","other"] ["points"] (Zm Zb5):=fsc
theorem Zid{f:Nat->Addr}{fd:Nat->XN}{cls:Nat->Addr}(T:Txt K mg f fd cls):FnOk P w K mg base CX0 1 (f 24) (fd 24) ["points"] (spD K (sD Wk)):=by
 refine Ys T.e_doubles_of.F W8 (S:=Zav) rfl rfl (λcdv A outer s H E hr=>?_)
 exact(xsq (xso 1 W8.nd (xls xa0)) (xsq (xfr Xz rfl (Zyb (Zzt (by rfl) T.z_enumerate L2.B.boot_enumerate (xa1 (xv 0)))) (xg2 rfl (xg 2 W8.nd) (xg 3 W8.nd)) (Zi (xfr Xz rfl (xil (Z5r (Z3o (xv 0) (Zpq (Zqg (xv 2))) (Zo2 Zpc)))) (xg 4 W8.nd) (Zi (Zfb (Zgm 1 (xtp (Zk (xv 3) (xa1 (xv 4)))))))))) (Zi (Zl8 (Zll 1)))))
theorem Zhm:Zv ["rows","i","j","k","l"] ["rows","i","j","k","l"] (Zm Zb2):=fsc
theorem Zir{f:Nat->Addr}{fd:Nat->XN}{cls:Nat->Addr}(T:Txt K mg f fd cls):FnOk P w K mg base CX0 1 (f 25) (fd 25) ["rows","i","j","k","l"] (spD K (sD Yb)):=by
 refine Ys T.e_three_sums.F Zhm (S:=Zap) rfl rfl (λcdv A outer s H E hr=>?_)
 exact(Zi (xrt (xtp (Zk (Zgp (xix (xix (xv 0) (xv 1)) (xv 2)) (xix (xix (xv 0) (xv 3)) (xv 4))) (Zk (Zgp (xix (xix (xv 0) (xv 1)) (xv 3)) (xix (xix (xv 0) (xv 2)) (xv 4))) (xa1 (Zgp (xix (xix (xv 0) (xv 1)) (xv 4)) (xix (xix (xv 0) (xv 2)) (xv 3)))))))))
theorem Zw:Zv ["rows","cut","rule","others","beyond","least","a","b","c","e"] ["rows","cut","rule"] (Zm Jf):=fsc
theorem Zcy{f:Nat->Addr}{fd:Nat->XN}{cls:Nat->Addr}(T:Txt K mg f fd cls):FnOk P w K mg base CX0 2 (f 26) (fd 26) ["rows","cut","rule"] (spD K (sD Zz)):=by
 have G_doubles_of:=Zid (P:=P) (w:=w) (base:=base) T
 have G_split_rule:=Zdn (P:=P) (w:=w) (base:=base) T
 have G_three_sums:=Zir (P:=P) (w:=w) (base:=base) T
 refine Ys T.e_least_over_sides.F Zw (S:=W2) rfl rfl (λcdv A outer s H E hr=>?_)
 exact(xsq (Zrh (Zhd (i:=3) (own:=["point"]) (caps:=[1]) (N':=["point","cut"]) false Zw.nd rfl (Qp rfl) (by exact⟨rfl,by decide +kernel,rfl,by decide +kernel,rfl,rfl⟩) (by rfl) (by decide) (Zck (Yk (by rfl) T.z_range (xa1 (xln T.z_len (xa1 (xv 0)))))) (λ_ _ _ _ _=>(xg 0 (by show JX (["point","cut"]:List Str);decide +kernel))) (λ_ _ _ _ _=>(Zfk (Zco Z6a (Zcs (Zji rfl) Z3v (xv 0) (xv 1) (hm:=(by with_unfolding_all rfl)))))) (λ_ _ _ _ _=>(xv 0)))) (xsq (xst 4 Zw.nd (xce G_doubles_of hr T.e_doubles_of (xa1 (xv 3)))) (xsq (xst 5 Zw.nd (Zmq (Zrt (i:=2) G_split_rule (hr.mono (by decide)) T.fa_split_rule T.e_split_rule.F.kp T.e_split_rule.b Zbd (xa1 (xce G_three_sums hr T.e_three_sums (Zk (xv 0) (Zk (xix (xv 1) xci) (Zk (xix (xv 1) xci) (Zk xci (xa1 xci)))))))))) (xsq (xfr Xz rfl (xil (xce G_doubles_of hr T.e_doubles_of (xa1 (xv 1)))) (xg2 rfl (xg 6 Zw.nd) (xg 7 Zw.nd)) (xsq (xfr Xz rfl (xil (xv 4)) (xg2 rfl (xg 8 Zw.nd) (xg 9 Zw.nd)) (Zi (xst 5 Zw.nd (Zdt Z6k (Zjm Zry (Zkv (by rfl)) (by rfl) T.z_min L2.B.boot_min (Zk (xv 5) (xa1 (Zmq (Zrt (i:=2) G_split_rule (hr.mono (by decide)) T.fa_split_rule T.e_split_rule.F.kp T.e_split_rule.b Zbd (xa1 (xce G_three_sums hr T.e_three_sums (Zk (xv 0) (Zk (xv 6) (Zk (xv 7) (Zk (xv 8) (xa1 (xv 9))))))))))))))))) (Zi (xif (xle (xv 5) xci) (Zi (xrt xci)) xnl)))) (Zi (xrt (xv 5)))))))
theorem Ws:Zv ["numbers","bottom","q"] ["numbers"] (Zm J1):=fsc
theorem Zex{f:Nat->Addr}{fd:Nat->XN}{cls:Nat->Addr}(T:Txt K mg f fd cls):FnOk P w K mg base CX0 2 (f 27) (fd 27) ["numbers"] (spD K (sD Yv)):=by
 have G_greatest_divisor:=J2 (P:=P) (w:=w) (base:=base) T
 refine Ys T.e_shared_bottom.F Ws (S:=Js) rfl rfl (λcdv A outer s H E hr=>?_)
 exact(xsq (xst 1 Ws.nd xci) (xsq (xfr Xz rfl (xil (xv 0)) (xg 2 Ws.nd) (Zi (xst 1 Ws.nd (Zi7 (Zvp (xv 1) (xce G_greatest_divisor hr T.e_greatest_divisor (Zk (xv 1) (xa1 (xix (xv 2) xci))))) (xix (xv 2) xci))))) (Zi (xrt (xv 1)))))
theorem W6:Zv ["table","bottom","row"] ["table"] (Zm Zaf):=fsc
theorem Zf7{f:Nat->Addr}{fd:Nat->XN}{cls:Nat->Addr}(T:Txt K mg f fd cls):FnOk P w K mg base CX0 3 (f 28) (fd 28) ["table"] (spD K (sD Yo)):=by
 have G_shared_bottom:=Zex (P:=P) (w:=w) (base:=base) T
 refine Ys T.e_table_bottom.F W6 (S:=Jw) rfl rfl (λcdv A outer s H E hr=>?_)
 exact(xsq (xst 1 W6.nd xci) (xsq (xfr Xz rfl (xil (xv 0)) (xg 2 W6.nd) (Zi (xst 1 W6.nd (xce G_shared_bottom hr T.e_shared_bottom (xa1 (Zn9 (Zfw Zn8 (Z1n (Zc9 rfl) Zg3 (xls (xa1 (xtp (Zk xci (xa1 (xv 1)))))) (xv 2))))))))) (Zi (xrt (xv 1)))))
theorem Zjy:Zv ["bottom","numbers"] ["bottom","numbers"] (Zm Zcv):=fsc
theorem Zku{f:Nat->Addr}{fd:Nat->XN}{cls:Nat->Addr}(T:Txt K mg f fd cls):FnOk P w K mg base CX0 1 (f 29) (fd 29) ["bottom","numbers"] (spD K (sD Jr)):=by
 refine Ys T.e_tops_over.F Zjy (S:=Zbl) rfl rfl (λcdv A outer s H E hr=>?_)
 exact(Zi (xrt (Jx (Zfy ["q"] [0] ["q","bottom"] (xil (xv 1)) (λ_ _ _ _ _=>(xg 0 (by show JX (["q","bottom"]:List Str);decide +kernel))) (λ_ _ _ _ _=>(Za4 Za2)) (λ_ _ _ _ _=>(Zi7 (xix (xv 0) xci) (Zvp (xv 1) (xix (xv 0) xci))))))))
theorem Zhp:Zv ["bottom","table"] ["bottom","table"] (Zm Zbp):=fsc
theorem Zh3{f:Nat->Addr}{fd:Nat->XN}{cls:Nat->Addr}(T:Txt K mg f fd cls):FnOk P w K mg base CX0 2 (f 30) (fd 30) ["bottom","table"] (spD K (sD Wm)):=by
 have G_tops_over:=Zku (P:=P) (w:=w) (base:=base) T
 refine Ys T.e_table_over.F Zhp (S:=Zar) rfl rfl (λcdv A outer s H E hr=>?_)
 exact(Zi (xrt (Jx (Zfy ["row"] [0] ["row","bottom"] (xil (xv 1)) (λ_ _ _ _ _=>(xg 0 (by show JX (["row","bottom"]:List Str);decide +kernel))) (λ_ _ _ _ _=>(Za4 Za2)) (λ_ _ _ _ _=>(xce G_tops_over hr T.e_tops_over (Zk (xv 1) (xa1 (xv 0)))))))))
theorem Y8:Zv ["table","rule","bottom","rows","weighted","cut","least"] ["table","rule"] (Zm Zbb):=fsc
theorem Zgw{f:Nat->Addr}{fd:Nat->XN}{cls:Nat->Addr}(T:Txt K mg f fd cls):FnOk P w K mg base CX0 4 (f 31) (fd 31) ["table","rule"] (spD K (sD Yi)):=by
 have G_all_cuts:=Zl6 (P:=P) (w:=w) (base:=base) T
 have G_fraction:=Zl7 (P:=P) (w:=w) (base:=base) T
 have G_least_over_sides:=Zcy (P:=P) (w:=w) (base:=base) T
 have G_table_bottom:=Zf7 (P:=P) (w:=w) (base:=base) T
 have G_table_over:=Zh3 (P:=P) (w:=w) (base:=base) T
 refine Ys T.e_weighted_by.F Y8 (S:=Zac) rfl rfl (λcdv A outer s H E hr=>?_)
 exact(xsq (xst 2 Y8.nd (xce G_table_bottom hr T.e_table_bottom (xa1 (xv 0)))) (xsq (xst 3 Y8.nd (xce G_table_over hr T.e_table_over (Zk (xv 2) (xa1 (xv 0))))) (xsq (xso 4 Y8.nd (xls xa0)) (xsq (Z08 (Z0i 5 Xz rfl Y8.nd (xce G_all_cuts hr T.e_all_cuts (xa1 (xln T.z_len (xa1 (xv 0))))) (xsq (Zza (Z0o (i:=6) Y8.nd rfl (Qp rfl) (xce G_least_over_sides hr T.e_least_over_sides (Zk (xv 3) (Zk (xo 5) (xa1 (xv 1))))))) (Zi (xif (xgt (xv 6) xci) (Zi (Zuo (Zsn 4 5 (xce G_fraction hr T.e_fraction (Zk (xv 6) (xa1 (Zi7 xci (xv 2)))))))) xnl))) rfl (Qp rfl))) (Zi (Zl8 (Zll 4)))))))
theorem Zkr:Zv ["table"] ["table"] (Zm Zc8):=fsc
theorem Zju{f:Nat->Addr}{fd:Nat->XN}{cls:Nat->Addr}(T:Txt K mg f fd cls):FnOk P w K mg base CX0 7 (f 32) (fd 32) ["table"] (spD K (sD Y5)):=by
 have G_check_long:=Zhz (P:=P) (w:=w) (base:=base) T
 have G_split_rule:=Zdn (P:=P) (w:=w) (base:=base) T
 have G_weighted_by:=Zgw (P:=P) (w:=w) (base:=base) T
 refine Ys T.e_splits_of.F Zkr (S:=Zbe) rfl rfl (λcdv A outer s H E hr=>?_)
 exact(xsq (Zlu (Zk4 (xce G_check_long hr T.e_check_long (xa1 (xv 0))))) (Zi (xrt (xce G_weighted_by hr T.e_weighted_by (Zk (xv 0) (xa1 (Zoc (Ycu (by rfl) T.e_split_rule.m T.fa_split_rule))))))))
theorem Zae:Zv ["script","cell","deck","n","rows","bottom","table","due","side","over","handed","found","row"] ["script"] (Zm Zzm):=fsc
theorem Z1x{f:Nat->Addr}{fd:Nat->XN}{cls:Nat->Addr}(T:Txt K mg f fd cls):FnOk P w K mg base CX0 8 (f 33) (fd 33) ["script"] (spD K (sD Zdz)):=by
 have G_law_bottom:=Zh2 (P:=P) (w:=w) (base:=base) T
 have G_law_deck:=Zk6 (P:=P) (w:=w) (base:=base) T
 have G_law_fraction:=Zbw (P:=P) (w:=w) (base:=base) T
 have G_law_good:=Zlc (P:=P) (w:=w) (base:=base) T
 have G_law_index:=Zjf (P:=P) (w:=w) (base:=base) T
 have G_law_long:=Zlk (P:=P) (w:=w) (base:=base) T
 have G_law_sides:=Zi8 (P:=P) (w:=w) (base:=base) T
 have G_law_table:=Zi2 (P:=P) (w:=w) (base:=base) T
 have G_law_take:=Zc4 (P:=P) (w:=w) (base:=base) T
 have G_splits_of:=Zju (P:=P) (w:=w) (base:=base) T
 refine Ys T.e_law.F Zae (S:=Zen) rfl rfl (λcdv A outer s H E hr=>?_)
 have hu:=hr.units
 exact(xsq (xfr Xz rfl (xil (Zn9 (Zfw Zn8 (Z1n (Zc9 rfl) Zg3 (xls (xa1 (Zon xci xci))) (Z5r (Z3o (xv 0) (Zo2 Zpc) (Zpq (Zqg xci)))))))) (xg 1 Zae.nd) (xsq (xso 2 Zae.nd (xce G_law_deck hr T.e_law_deck (xa1 (xv 1)))) (xsq (xst 3 Zae.nd (Zgp xci (Yw (Wn (i:=2) G_law_take (hr.mono (by decide)) (by rfl) T.e_law_take.m T.e_law_take.F.kp T.e_law_take.b Zbd (xa1 xci))))) (xsq (xif (xeq hu (Yw (Wn (i:=2) G_law_take (hr.mono (by decide)) (by rfl) T.e_law_take.m T.e_law_take.F.kp T.e_law_take.b Zbd (xa1 xci))) xci) (Zi (xst 3 Zae.nd xci)) xnl) (xsq (xst 4 Zae.nd (Yw (Wn (i:=2) G_law_long (hr.mono (by decide)) (by rfl) T.e_law_long.m T.e_law_long.F.kp T.e_law_long.b Zbd (xa1 (xv 3))))) (xsq (xst 5 Zae.nd (Yw (Wn (i:=2) G_law_bottom (hr.mono (by decide)) (by rfl) T.e_law_bottom.m T.e_law_bottom.F.kp T.e_law_bottom.b Zbd xa0))) (xsq (xst 6 Zae.nd (xce G_law_table hr T.e_law_table (Zk (xv 4) (xa1 (xv 5))))) (xsq (xso 7 Zae.nd (xls xa0)) (xsq (xfr Xz rfl (xil (xce G_law_sides hr T.e_law_sides (xa1 (xv 3)))) (xg 8 Zae.nd) (xsq (xst 9 Zae.nd (xce G_law_index hr T.e_law_index (Zk (xv 4) (xa1 (xv 8))))) (Zi (xif (xgt (xv 9) xci) (Zi (Zfb (Zgm 7 (xtp (Zk (Zw5 Zvw (Ybg Zrm (Zhb rfl) (by rfl) T.z_list L2.B.boot_list (xa1 (xv 8)))) (xa1 (xce G_law_fraction hr T.e_law_fraction (Zk (xv 9) (xa1 (Zi7 xci (xv 5))))))))))) xnl)))) (xsq (xst 10 Zae.nd (xce G_law_table hr T.e_law_table (Zk (xv 4) (xa1 (xv 5))))) (xsq (xso 11 Zae.nd (xce G_splits_of hr T.e_splits_of (xa1 (xv 10)))) (xsq (Zq9 (Zqt 7 (xif (MW.mt (Zl0 (Zlz (xno (Zcm (Zct (xce G_law_good hr T.e_law_good (Zk (xo 11) (xa1 (xv 7)))) (λ_=>rfl)))) (Zkt (xne hu (xv 10) (xv 6)))))) (Zi (xrt (Zoc Zlb))) xnl))) (xsq (Zug (Zu5 11 12 0 Zsc (.int _) rfl Zae.nd rfl rfl (by decide) (Qp rfl))) (xsq (Zfb (Zgm 11 (Zzi (Z19 (Zk (xls (xa1 xci)) (xa1 (xtp (Zk xci (xa1 xci))))))))) (Zi (xif (xno (Zcm (Zct (xce G_law_good hr T.e_law_good (Zk (xce G_splits_of hr T.e_splits_of (xa1 (xv 10))) (xa1 (xv 7)))) (λ_=>rfl)))) (Zi (xrt (Zoc Zlb))) xnl)))))))))))))))) (Zi (xrt (Zoc Zlb))))
theorem Zz7{f:Nat->Addr}{fd:Nat->XN}{cls:Nat->Addr}(T:Txt K mg f fd cls):FnOk P w K mg base CX0 8 (f 33) (fd 33) ["script"] (spD K Z47):=(Z1x T).imp λvs H Q E q=>by
 obtain⟨L,ds,k,h1,⟨ns,e,hl,hk⟩,h3⟩:=q
 exact⟨L,ds,k,h1,⟨_,by rw[e];exact Zu8 ns hl,hk⟩,h3⟩
end
theorem Z58{l:PySem.W.OpenLaw}{w:Qv}{K:Xb}{h:Heap}{mg:Str->Option Xc}{fa:Addr}(X:K.In h)(G:h.Ns Qe mg)(hfa:mg "law"=some (.ref fa))
  (q1:Ei K "_law_take" Zej f1 d1)
  (q2:Ei K "_law_bottom" Zbz f2 d2)
  (q3:Ei K "_law_stir" Zea f3 d3)
  (q4:Ei K "_law_deck" Zd9 f4 d4)
  (q5:Ei K "_law_fraction" Zak f5 d5)
  (q6:Ei K "_law_good" Zel f6 d6)
  (q7:Ei K "_law_index" Zc7 f7 d7)
  (q8:Ei K "_law_add_cut" Za3 f8 d8)
  (q9:Ei K "_law_nought" Zby f9 d9)
  (q10:Ei K "_law_shortest" Zam f10 d10)
  (q11:Ei K "_law_long" Zec f11 d11)
  (q12:Ei K "_law_sides" Zcx f12 d12)
  (q13:Ei K "_law_table" Zdb f13 d13)
  (q14:Ei K "is_below" Zd7 f14 d14)
  (q15:Ei K "greatest_divisor" Jc f15 d15)
  (q16:Ei K "in_least" Zd8 f16 d16)
  (q17:Ei K "plus" Zpg f17 d17)
  (q18:Ei K "is_short_by" Zbc f18 d18)
  (q19:Ei K "first_short" Za5 f19 d19)
  (q20:Ei K "check_long" Zbq f20 d20)
  (q21:Ei K "split_rule" Zbs f21 d21)
  (q22:Ei K "all_cuts" Zek f22 d22)
  (q23:Ei K "is_whole" Zei f23 d23)
  (q24:Ei K "fraction" Zd6 f24 d24)
  (q25:Ei K "doubles_of" Zb5 f25 d25)
  (q26:Ei K "three_sums" Zb2 f26 d26)
  (q27:Ei K "least_over_sides" Jf f27 d27)
  (q28:Ei K "shared_bottom" J1 f28 d28)
  (q29:Ei K "table_bottom" Zaf f29 d29)
  (q30:Ei K "tops_over" Zcv f30 d30)
  (q31:Ei K "table_over" Zbp f31 d31)
  (q32:Ei K "weighted_by" Zbb f32 d32)
  (q33:Ei K "splits_of" Zc8 f33 d33)
  (q34:Ei K "law" Zzm f34 d34)
  (z0:QV K Qe "abs"=some none)
  (z1:QV K Qe "bool"=some none)
  (z2:QV K Qe "enumerate"=some none)
  (z3:QV K Qe "int"=some none)
  (z4:QV K Qe "isinstance"=some none)
  (z5:QV K Qe "len"=some none)
  (z6:QV K Qe "list"=some none)
  (z7:QV K Qe "max"=some none)
  (z8:QV K Qe "min"=some none)
  (z9:QV K Qe "range"=some none)
  (z10:QV K Qe "sorted"=some none)
  (z11:QV K Qe "tuple"=some none)
  (z12:QV K Qe "zip"=some none)
  (cc_NoNumber:QV K Qe "NoNumber"=some (some (.ref C_NoNumber)))
  (cc_NoTable:QV K Qe "NoTable"=some (some (.ref C_NoTable)))
  (x_NoNumber:Zem K C_NoNumber)
  (x_NoTable:Zem K C_NoTable)
  (r_NoNumber:Zst K C_NoNumber)
  (r_NoTable:Zst K C_NoTable)
  :∃fd:XN,(∀(s:Xe) (v:Xc),BindsTo s fd ⟨[v],[]⟩ [("script",v)])∧∀base:Heap,K.In base->base.Ns Qe mg->FnOk l.prog w K mg base CX0 8 fa fd ["script"] (spD K Z47):=by
 have e:=hfa.symm.trans (PySem.W.mg_of X G q34.a)
 cases e
 have T:Txt K mg (λk=>[f1,f2,f3,f4,f5,f6,f7,f8,f9,f10,f11,f12,f13,f14,f15,f16,f17,f18,f19,f20,f21,f22,f23,f24,f25,f26,f27,f28,f29,f30,f31,f32,f33,f34].getD k 0) (λk=>[d1,d2,d3,d4,d5,d6,d7,d8,d9,d10,d11,d12,d13,d14,d15,d16,d17,d18,d19,d20,d21,d22,d23,d24,d25,d26,d27,d28,d29,d30,d31,d32,d33,d34].getD k d34) (λk=>[C_NoNumber,C_NoTable].getD k 0):=⟨en2 X G q1,en1 X G q2,en2 X G q3,en1 X G q4,en2 X G q5,en2 X G q6,en2 X G q7,en3 X G q8,en1 X G q9,en1 X G q10,en2 X G q11,en1 X G q12,en2 X G q13,en2 X G q14,en2 X G q15,en2 X G q16,en2 X G q17,en4 X G q18,en1 X G q19,en1 X G q20,en1 X G q21,en1 X G q22,en1 X G q23,en2 X G q24,en1 X G q25,en5 X G q26,en3 X G q27,en1 X G q28,en1 X G q29,en2 X G q30,en2 X G q31,en2 X G q32,en1 X G q33,en1 X G q34,q21.a,QC X G z0,QC X G z1,QC X G z2,QC X G z3,QC X G z4,QC X G z5,QC X G z6,QC X G z7,QC X G z8,QC X G z9,QC X G z10,QC X G z11,QC X G z12,ec X G cc_NoNumber,ec X G cc_NoTable,x_NoNumber,x_NoTable,r_NoNumber,r_NoTable⟩
 refine⟨d34,λs v=>?_,λbase _ _=>Zz7 (P:=l.prog) (w:=w) (base:=base) T⟩
 obtain⟨_,_,_,_,_,_,_,_,_,rfl,_,_⟩:=q34.F.ex
 exact .of_eq rfl
theorem walk{l:PySem.W.OpenLaw}{q:X6}{loose:List Str}{XP:(Str->Option Xc)->Heap->Prop}{YP:Qv->Heap->Prop}{d:DefRec}{K:Params->Xb}(hn:l.most=some 63)(hdf:d.params.defaults=[])
  (hY:∀(w:Qv) (h:Heap),YP w h->(K w.params).In h)
  (F:∀(w:Qv) (mg:Str->Option Xc) (fa:Addr) (h:Heap),(K w.params).In h->h.Ns Qe mg->mg d.name=some (.ref fa) ->
   ∃fd:XN,(∀(s:Xe) (u:Xc),BindsTo s fd ⟨[u],[]⟩ [("script",u)])∧∀base:Heap,(K w.params).In base->base.Ns Qe mg->FnOk l.prog w (K w.params) mg base CX0 8 fa fd ["script"] (spD (K w.params) Z47)) :
  PySem.W.WalkO q loose XP YP l.row.toRowW d [] (λf vs=>PySem.call f vs) :=
 L2.Zwx (n:=63) (k:=8) (x :="script") (CX:=λ_=>CX0) (sp:=λw=>spD (K w.params) Z47) hn (by decide) hdf ⟨rfl,by decide,by decide⟩ hY F (λ_ _ a ns hl _ hS=>Z5y hl hS) λ_ _ _ _ _ z=>z
end My
open PySem PySem.W PyProof.Rows
theorem PySem.W.Fast.tw3503435473721140272:True:=trivial
theorem PySem.W.Fast.tw17141775581662319168:True:=trivial
theorem PySem.W.Fast.tw208219815386064448:True:=trivial
theorem PySem.W.Fast.tw14492073934034353585:True:=trivial
theorem PySem.W.Fast.tw14384328227966047700:True:=trivial
theorem PySem.W.Fast.tw6118673601141018821:True:=trivial
theorem PySem.W.Fast.tw4949213421574062735:True:=trivial
theorem PySem.W.Fast.tw13216578620109608942:True:=trivial
theorem PySem.W.Fast.tw11638897895135889756:True:=trivial
theorem PySem.W.Fast.tw15087793808529119030:True:=trivial
theorem PySem.W.Fast.tw15135022901539510746:True:=trivial
theorem PySem.W.Fast.tw16484683713292697897:True:=trivial
theorem PySem.W.Fast.tw11816462753335686110:True:=trivial
theorem PySem.W.Fast.tw17440279869685725056:True:=trivial
theorem PySem.W.Fast.tw7554935287011529761:True:=trivial
theorem PySem.W.Fast.tw12945618320869278375:True:=trivial
theorem PySem.W.Fast.tw3710812188491674532:True:=trivial
theorem PySem.W.Fast.tw7419464911457859838:True:=trivial
theorem PySem.W.Fast.tw3812022191447798572:True:=trivial
theorem PySem.W.Fast.tw967887477688653210:True:=trivial
theorem PySem.W.Fast.tw12974460386095227929:True:=trivial
theorem PySem.W.Fast.tw3145165038049207850:True:=trivial
theorem PySem.W.Fast.tw2196888774632036155:True:=trivial
theorem PySem.W.Fast.tw4531202763970521616:True:=trivial
theorem PySem.W.Fast.tw1986612481861203710:True:=trivial
theorem PySem.W.Fast.tw7447617070415951615:True:=trivial
theorem PySem.W.Fast.tw17690671164828917821:True:=trivial
theorem PySem.W.Fast.tw14891465530408665833:True:=trivial
theorem PySem.W.Fast.tw15825181956203459029:True:=trivial
theorem PySem.W.Fast.tw17993963875882462051:True:=trivial
theorem PySem.W.Fast.tw2536007397452582222:True:=trivial
theorem PySem.W.Fast.tw3208229910520403205:True:=trivial
theorem PySem.W.Fast.tw2841664459747663107:True:=trivial
theorem PySem.W.Fast.tw10457141953835304614:True:=trivial
theorem PySem.W.Fast.tw8485729633379691319:True:=trivial
theorem PySem.W.Fast.tw15785552094428283815:True:=trivial
theorem PySem.W.Fast.tw10931470501189112618:True:=trivial
theorem PySem.W.Fast.tw8558005408353552913:True:=trivial
theorem PySem.W.Fast.tw451577378164907241:True:=trivial
theorem PySem.W.Fast.tw9024290858930882507:True:=trivial
set_option maxRecDepth 100000 in
set_option maxHeartbeats 0 in
theorem PySem.Challenge.cw_farcuts_k47_splits_told_holds : PySem.Challenge.rw_farcuts_k47_splits_told.Holds := by
 w_on;o_law;k_head;(case hw=>w_witness2)
 k_fill
 refine My.walk (l:=PySem.Challenge.rw_farcuts_k47_splits_told) rfl rfl (λw h Y=>PySem.W.kIn_of Y) ?F
 case F=>
  intro w mg fa h KX G hmg
  refine' My.Z58 KX G hmg ?_ ?_ ?_ ?_ ?_ ?_ ?_ ?_ ?_ ?_ ?_ ?_ ?_ ?_ ?_ ?_ ?_ ?_ ?_ ?_ ?_ ?_ ?_ ?_ ?_ ?_ ?_ ?_ ?_ ?_ ?_ ?_ ?_ ?_ ?_ ?_ ?_ ?_ ?_ ?_ ?_ ?_ ?_ ?_ ?_ ?_ ?_ ?_ ?_ ?_ ?_ ?_ ?_
  all_goals try (first|(refine' ⟨?a,L2.Z5g ?l ?c ?k⟩;(case a=>k_is);(case l=>k_is);(case c=>k_is);(case k=>k_is))|k_is|kit_is|(show PySem.W.excIn _ _ _ _=true;k_exc)|(refine' ⟨?_,?_,?_,?_,?_,?_,?_,?_,?_,?_,?_⟩<;>first|k_is|kit_is|(show PySem.W.isClsIn _ _=true;k_is)))
#print axioms PySem.Challenge.cw_farcuts_k47_splits_told_holds
