import PyProof.Rows.All
import Wide.All
import OpenK.AllK
import Wide.FinOn
import PyProof.EqAt
import PyProof.EqKinds
import PyProof.TupleCall
import PyProof.P3In
import PyProof.ZipIter
import PyProof.ListRange
import PyProof.SetRoads
import PyProof.Rows.SetFrom
import PyProof.Rows.SeqMore2
import KE.RegKIsAll
import PyProof.StrWalks
import PyProof.EnumMake
import PyProof.Conv_int
import PyProof.Conv_int_bool
import PyProof.StrBlockI
import PyProof.Draws
import PySem.Challenge.RW_farcuts_k31_rings_added
set_option Elab.async false
set_option linter.all false
set_option maxRecDepth 100000
set_option genSizeOfSpec false
set_option genInjectivity false
/-! THE HAND LAYER, for ints, bools, texts, own classes, LISTS and tuples (index, slices, in, append, pop ..), calls, loops. Paste it whole ahead of your own text; what your proof does not reach may be deleted. -/
open Array renaming length_toList->X7,getElem?_toList->Qd,getElem?_eq_getElem->VM
open Bool renaming false_ne_true->Xm,and_eq_true->XQ,false_eq_true->Qh,eq_false_iff->Vj,not_true->V4,eq_iff_iff->UG
open Classical renaming axiomOfChoice->V1
open False renaming elim->VG
open ForInStep renaming yield->JV
open Int renaming toNat_natCast->Qm,zero_add->Bf,gcd->Bg,gcd_eq_natAbs_gcd_natAbs->Vt,not_lt->Ue,mul_comm->Ul,natCast_mul->UL,toNat_of_nonneg->U3
open List renaming getD_eq_getElem?_getD->Xf,getElem?_eq_getElem->Xi,length_map->Xj,getElem?_eq_some_iff->Xn,mem_cons->Xq,range->Xr,getElem?_map->Xu,size_toArray->Xy,mem_singleton->XD,map_cons->XF,map_congr_left->XH,length_append->XX,length_range->X3,replicate->X4,map_map->X5,mem_range->X8,mem_map->Qc,mem_append_right->Qg,nodup_cons->Qp,length_drop->Qu,getElem?_eq_none_iff->Qw,getElem?_set_ne->Qz,map_append->QB,sum_cons->QF,filterMap_cons->QG,mem_append->QW,lookup_cons->QX,mem_of_getElem?->Q0,getElem?_set_self->Q3,append_nil->Q5,getElem?_eq_none->Q7,Nodup->Q8,append_assoc->JB,drop_eq_nil_of_le->JH,length_singleton->JP,pairwise_iff_getElem->Bj,getElem?_of_mem->Bs,eq_nil_of_length_eq_zero->Bu,length_take->BP,length_cons->BR,getElem_mem->BV,getElem?_append_right->BW,getElem?_append_left->Vc,mem_filter->Ve,length_set->Vf,length_nil->Vg,nodup_append->Vi,replicate_succ->Vm,find?_eq_none->Vp,length_replicate->Vv,perm_ext_iff_of_nodup->VH,mem_append_left->VJ,toArray->VL,drop_eq_getElem_cons->VR,getElem?_range->V0,getElem?_drop->V7,getElem?_replicate->Ua,getElem?_cons_succ->Ub,filter_cons_of_pos->Uc,filter_cons_of_neg->Ud,flatten_cons->Uj,getElem?_toArray->Uo,not_mem_nil->Uq,isEmpty_nil->Ur,all_eq_true->Us,mem_cons_of_mem->Ux,range_succ->Uz,mem_cons_self->U6,map_inj_right->U7,forIn_nil->U8,filterMap_map->U9
open Nat renaming ne_of_lt->Xo,ne_of_gt->XM,le_refl->XN,lt_of_lt_of_le->Qi,zero_le->Qo,lt_succ_self->Qt,le_trans->QT,le_add_right->JS,lt_succ_of_lt->Bc,le_of_lt->Be,lt_irrefl->Bq,lt_or_gt_of_ne->BX,not_lt_zero->Vh,mod_eq_of_lt->Vn,lt_trans->Vq,lt_trichotomy->Vz,lt_or_ge->VP
open Ne renaming symm->Vs
open Option renaming bind_some->Xh,some->Bp,getD_some->Um
open Option.some renaming inj->QD
open Or renaming inr->Qx,inl->QH
open PyProof.Rows renaming IntsAre->Q6,callWith_type1->Br,seqObj->BL
open PySem renaming PyData->Xa,wpAny_bind->Xb,Value->Xd,Shared->Xg,wpAny_pure->Xl,starEach->Xp,sizeLine->Xx,wpAny_loadPart'->Xz,wpAny->XC,FuncData->XR,model->X6,Program->Qa,sizeLine_eq->Qj,bootBuiltins->Qk,mainGlobals->Ql,Around->Qq,World->Qs,wpAny_setField_rec->QR,SetTable->QZ,codeAny_builtin->Q9,wpAny_call_entry->JC,wpAny_newObj_type->JD,wpAny_callSpecial?_slot->JG,rawInt->JL,backTo->JM,assignEach->JQ,sliceBounds->JW,mem_of_lookup->JZ,Builtin->Ba,cellsFrom->Bk,wpAny_holding->Bv,plainId_quiet->Bw,wpAny_seqItems->Bx,NameKind->By,foldedSetIterable->BJ,compareOp->BK,IsPair->BZ,wpAny_field->Va,pushCells->Vb,wpAny_mono->Vd,wpAny_Call_Name_kw->Vw,intKind->Vx,wpAny_passesOwn->VD,swapsWith->V5,Keyword->V6,wpAny_setEntries_of->V8,pyNext->V9,binaryOp->Ug,attributeBase->Uh,wpAny_rule->Uk,wpAny_truthy_bool->Ut,wpAny_setState_of->Uu,wpAny_loadPart_at->Uv,firstArgMember->Uw,Scope->Uy,assign->UJ,wpAny_attempt->UT,codeAny->UW,behindInMarks->U0,keywordEach->U4
open PySem.Around renaming under_plainId->QJ
open PySem.Builtin.Int renaming intBits->JR
open PySem.Builtin.List renaming listTooLong->VB
open PySem.Builtin.SmallTypes renaming nextOf->QL,ownedTupleIsFree->Bm
open PySem.F renaming called_set->V2,plainAttrs_list->V3
open PySem.Heap renaming get?_push_of_some->Xe,get?_push_size->Xw,lt_size->XJ,size_push->Qy,SameBut->JK
open PySem.Heap.SameBut renaming update->JF
open PySem.MeetsSeq3 renaming plain_eq_loop->Bh,entry_eq_loop->UV
open PySem.NameKind renaming free->QV,cell->Bl
open PySem.Obj renaming mapSeq->Bb
open PySem.PassesOwn renaming never->Qe
open PySem.PyData renaming int->Xk,list->Qv,eqv->QC,canLayAll0->JT,canLay0->Bo
open PySem.SeqAt renaming EqAt->JX,shaped->Vo,canLay_of_shaped->Ui
open PySem.SetTable renaming below->QQ,grown->Vu
open PySem.Str renaming ofString->VN
open PySem.Value renaming ref->Qn,none->QS,int->Vr,bool->U5
open PySem.W renaming Frag->Xc,mg_none_of->QK,nsIn->QM,kia_one->Q4,Looks->JN,kitOne->Vk,findIn->Vl,keepIn->Vy,fnOf->VF
open Rat renaming divInt->Xv
namespace L2
open PySem PySem.Spec PyProof.Rows
noncomputable abbrev Key:=Sum Int Str
noncomputable def Z6o:Key->Xd->Bool
 | .inl k,v=>Xd.isInt k v
 | .inr x,v=>Xd.isStrOf x v
noncomputable def Yei(w:Qs):Key->Int
 | .inl k=>hashInt k
 | .inr x=>hashStr w x
theorem Wa:∀{k:Key} {v:Xd},Z6o k v=true->(∃i t,k=Sum.inl i∧v=Vr i t)∨(∃x t,k=Sum.inr x∧v=Value.str x t)
 | .inl i,v,h=>by
  obtain⟨t,e⟩:=Value.isInt_shape (k:=i) (v:=v) h
  exact .inl ⟨i,t,rfl,e⟩
 | .inr x,v,h=>by
  obtain⟨t,e⟩:=Xd.isStrOf_shape (x:=x) (v:=v) h
  exact .inr ⟨x,t,rfl,e⟩
theorem Z7b(a b:Int):decide ((Sum.inl a:Key)=Sum.inl b)=(a==b):=by
 by_cases e:a=b
 ·subst e;simp
 ·have h:¬(Sum.inl a:Key)=Sum.inl b:=λq=>e (Sum.inl.inj q)
  rw[decide_eq_false h]
  exact(beq_eq_false_iff_ne.mpr e).symm
theorem Z5b(a b:Str):decide ((Sum.inr a:Key)=Sum.inr b)=decide (a=b):=by
 by_cases e:a=b
 ·subst e;simp
 ·have h:¬(Sum.inr a:Key)=Sum.inr b:=λq=>e (Sum.inr.inj q)
  rw[decide_eq_false h,decide_eq_false e]
theorem Z4m(a:Int)(b:Str):decide ((Sum.inl a:Key)=Sum.inr b)=false:=decide_eq_false (λq=>nomatch q)
theorem Z6v(a:Str)(b:Int):decide ((Sum.inr a:Key)=Sum.inl b)=false:=decide_eq_false (λq=>nomatch q)
noncomputable def Znp(prog:Qa)(w:Qs):PySem.KeyKind prog w Key where
 is:=Z6o
 hash:=Yei w
 inj:=λv a b ha hb=>by
  rcases Wa ha with⟨i,t,rfl,rfl⟩|⟨x,t,rfl,rfl⟩
  ·rcases Wa hb with⟨j,u,rfl,e⟩|⟨y,u,rfl,e⟩
   ·injection e with e1 _;rw[e1]
   ·exact nomatch e
  ·rcases Wa hb with⟨j,u,rfl,e⟩|⟨y,u,rfl,e⟩
   ·exact nomatch e
   ·injection e with e1 _;rw[e1]
 byValue:=λk v h=>by
  rcases Wa h with⟨i,t,rfl,rfl⟩|⟨x,t,rfl,rfl⟩<;>rfl
 pyHash:=λhv h=>by
  rcases Wa hv with⟨i,t,rfl,rfl⟩|⟨x,t,rfl,rfl⟩
  ·exact wpAny_pyHash_int h
  ·exact wpAny_pyHash_str h
 eqBool:=λhu hv h=>by
  rcases Wa hu with⟨i,t,rfl,rfl⟩|⟨x,t,rfl,rfl⟩
  ·rcases Wa hv with⟨j,u,rfl,rfl⟩|⟨y,u,rfl,rfl⟩
   ·rw[Z7b]at h;exact wpAny_eqBool_int h
   ·rw[Z4m]at h;exact SeqAt.EqAt.int_str i t y u _ _ _ _ h
  ·rcases Wa hv with⟨j,u,rfl,rfl⟩|⟨y,u,rfl,rfl⟩
   ·rw[Z6v]at h;exact SeqAt.EqAt.str_int x t j u _ _ _ _ h
   ·rw[Z5b]at h;exact wpAny_eqBool_str h
 «strs»:=λk x t v h=>by
  rcases Wa h with⟨i,u,rfl,e⟩|⟨y,u,rfl,e⟩
  ·exact nomatch e
  ·injection e with e1 _
   subst e1
   cases v<;>rfl
inductive V where
 | non|bl (b:Bool)|int (i:Int)|str (x:Str)|byt (b:Array UInt8)|flt (b:UInt64)|ref (a:Addr)|ty (n:String)
 deriving DecidableEq
noncomputable def RelV:V->Xd->Prop
 | .non,u=>u=QS
 | .bl b,u=>u=U5 b
 | .int i,u=>∃t,u=Vr i t
 | .str x,u=>∃t,u=Value.str x t
 | .byt b,u=>∃t,u=Xd.bytes b t
 | .flt b,u=>∃t,u=Xd.float b t
 | .ref a,u=>u=Qn a
 | .ty n,u=>u=Value.type n
noncomputable abbrev Vals:List V->List Xd->Prop:=Paired RelV
theorem Vals.length{xs:List V}{us:List Xd}(r:Vals xs us):xs.length=us.length:=Paired.length r
theorem Vals.get{xs:List V}{us:List Xd}{i:Nat}{x:V}(h:Vals xs us)(e:xs[i]? =some x):∃u,us[i]? =some u∧RelV x u:=by
 induction h generalizing i with
 | nil=>exact(Option.some_ne_none _ (e.symm.trans List.getElem?_nil)).elim
 | cons r t ih=>
  cases i with
  | zero=>exact⟨_,rfl,QD e▸r⟩
  | succ i=>exact ih e
theorem Vals.set{x:V}{u:Xd}(r:RelV x u){xs:List V}{us:List Xd}(i:Nat)(h:Vals xs us):Vals (xs.set i x) (us.set i u):=by
 induction h generalizing i with
 | nil=>exact .nil
 | cons q t ih=>
  cases i with
  | zero=>exact .cons r t
  | succ i=>exact .cons q (ih i)
theorem Vals.append{xs ys:List V}{us ws:List Xd}(h:Vals xs us)(s:Vals ys ws):Vals (xs ++ ys) (us ++ ws):=by
 induction h with
 | nil=>exact s
 | cons r t ih=>exact .cons r ih
theorem Vals.take{xs:List V}{us:List Xd}(n:Nat)(h:Vals xs us):Vals (xs.take n) (us.take n):=by
 induction h generalizing n with
 | nil=>rw[List.take_nil,List.take_nil];exact .nil
 | cons r t ih=>
  cases n with
  | zero=>exact .nil
  | succ n=>exact .cons r (ih n)
theorem Vals.drop{xs:List V}{us:List Xd}(n:Nat)(h:Vals xs us):Vals (xs.drop n) (us.drop n):=by
 induction h generalizing n with
 | nil=>rw[List.drop_nil,List.drop_nil];exact .nil
 | cons r t ih=>
  cases n with
  | zero=>exact .cons r t
  | succ n=>exact ih n
noncomputable def Z9f:Option V->Option Xd->Prop
 | some v,some u=>RelV v u
 | none,none=>True
 | _,_=>False
noncomputable def KV{κ:Type}:List (κ×V)->List (κ×Xd)->Prop:=Paired λ(p:κ×V) (q:κ×Xd)=>p.1=q.1∧RelV p.2 q.2
noncomputable def kV:Key->V
 | .inl i=>.int i
 | .inr x=>.str x
inductive HO where
  | lst (xs:List V)
  | tup (xs:List V)
  | dK (kvs:List (Key×V))|dT (kvs:List (List Key×V))
  | set (S:Int->Bool) (n:Nat)
  | ins (C dx:Addr) (fs:List (Str×V))
  | own (x:Addr)
  | xd (fs:List (Str×V))
  | met (f x:Addr)
  | rng (lo hi:Int)
  | frz (o:Obj) (u:HO)
  | tbl (ps:Array Xd)
  | ext (φ:Heap->Prop)
noncomputable abbrev Hp:=Addr->Option HO
noncomputable def upd(H:Hp)(a:Addr)(o:HO):Hp:=λb=>if b=a then some o else H b
theorem Yl{H:Hp}{a:Addr}{o:HO}:upd H a o a=some o:=by unfold upd;rw[if_pos rfl]
theorem Z3{H:Hp}{a b:Addr}{o:HO}(h:b≠a):upd H a o b=H b:=by unfold upd;rw[if_neg h]
theorem Yz{H:Hp}{a b:Addr}{o:HO}(h:H a=some o)(h':H b=none):a≠b:=by
 intro e;subst e;rw[h]at h';cases h'
section
variable (P:Qa)(w:Qs)
noncomputable def ObjOk(H:Hp)(h:Heap)(a:Addr):HO->Prop
 | .lst xs=>xs.length≤Xx∧∃(its:List Xd) (n:Nat),Vals xs its∧h.get? a=some { cls:=.type "list",data:=.seq its.toArray n }
 | .tup xs=>xs.length≤Xx∧∃its:List Xd,Vals xs its∧IsTup h a its.toArray
 | .dK kvs=>kvs.length≤Xx∧(a==sysModules)=false∧∃vs,KV kvs vs∧h.DictOf (Znp P w) a vs
 | .dT kvs=>kvs.length≤Xx∧(a==sysModules)=false∧∃xs:List (List Key×Addr×Xd),
   Paired (λ(p:List Key×V) (q:List Key×Addr×Xd)=>p.1=q.1∧H q.2.1=some (.tup (p.1.map kV))∧RelV p.2 q.2.2) kvs xs∧
   ∃o es ep,h.get? a=some o∧o.ExactDict∧o.data= .dict es ep∧es.toList=xs.map (entryOfKey (tupleKind (Znp P w)))∧(xs.map (·.1)).Nodup
 | .set S n=>h.SetOf (Vx P w) a S n
 | .ins C dx fs=>H dx=some (.own a)∧fs.length≤1000∧dx≠a∧h.get? a=some (PySem.W.instObj C dx)∧
   ∃mA,h.Ns1 dx mA∧(∀f,Z9f (fs.lookup f) (mA f))∧PySem.Within mA (fs.map (·.1))
 | .own _=>∃o,h.get? a=some o
 | .xd fs=>∃mA,h.Ns1 a mA∧∀f,Z9f (fs.lookup f) (mA f)
 | .rng lo hi=>∃t u v,h.get? a=some { cls:=.type "range",data:=.fields #[.int lo t,.int hi u,.int 1 v] }
 | .frz o u=>h.get? a=some o∧ObjOk H h a u
 | .tbl ps=>h.get? a=some { cls:=.none,data:=.fields ps }
 | .met f x=>h.get? a=some (PySem.W.methodObj (.ref f) (.ref x))
 | .ext φ=>φ h∧(∃o,h.get? a=some o)∧∀h1 h2:Heap,φ h1->(∀o,h1.get? a=some o->h2.get? a=some o)->φ h2
noncomputable def HOk(H:Hp)(h:Heap):Prop:=∀a o,H a=some o->ObjOk P w H h a o
end
section
variable {P:Qa}{w:Qs}{H H':Hp}{h h':Heap}{a:Addr}{o:HO}
theorem ObjOk.lt(x:ObjOk P w H h a o):a<h.objs.size:=by
 cases o with
 | lst xs=>obtain⟨_,_,_,_,e⟩:=x;exact XJ e
 | tup xs=>obtain⟨_,_,_,p⟩:=x;exact p.lt
 | dK kvs=>obtain⟨_,_,_,_,o,_,_,e,_⟩:=x;exact XJ e
 | dT kvs=>obtain⟨_,_,_,_,o,_,_,e,_⟩:=x;exact XJ e
 | set S n=>obtain⟨o,_,_,_,e,_⟩:=x;exact XJ e
 | ins C dx fs=>obtain⟨_,_,_,e,_⟩:=x;exact XJ e
 | own y=>obtain⟨_,e⟩:=x;exact XJ e
 | xd fs=>obtain⟨_,⟨_,_,_,e,_⟩,_⟩:=x;exact XJ e
 | rng lo hi=>obtain⟨_,_,_,e⟩:=x;exact XJ e
 | frz ob u=>obtain⟨e,_⟩:=x;exact XJ e
 | tbl ps=>exact XJ (show h.get? a=some _ from x)
 | met f y=>exact XJ (show h.get? a=some _ from x)
 | ext φ=>obtain⟨_,⟨_,e⟩,_⟩:=x;exact XJ e
theorem Paired.mapP{α β:Type}{F G:α->β->Prop}{l₁:List α}{l₂:List β}(h:Paired F l₁ l₂)(f:∀a b,F a b->G a b):Paired G l₁ l₂:=by
 induction h with
 | nil=>exact .nil
 | cons r t ih=>exact .cons (f _ _ r) ih
theorem ObjOk.stay(x:ObjOk P w H h a o)(k:∀b u,(b=a∨H b=some (.own a))->h.get? b=some u->h'.get? b=some u)
  (ho:∀b,H b=some (.own a)->H' b=some (.own a)) (ht:∀b xs,H b=some (.tup xs)->H' b=some (.tup xs)):ObjOk P w H' h' a o:=by
 induction o with
 | lst xs=>obtain⟨z,its,n,r,e⟩:=x;exact⟨z,its,n,r,k _ _ (.inl rfl) e⟩
 | tup xs=>obtain⟨z,its,r,ob,e,c⟩:=x;exact⟨z,its,r,ob,k _ _ (.inl rfl) e,c⟩
 | dK kvs=>obtain⟨z,y,vs,r,ob,es,ep,e,c⟩:=x;exact⟨z,y,vs,r,ob,es,ep,k _ _ (.inl rfl) e,c⟩
 | dT kvs=>
  obtain⟨z,y,xs,r,ob,es,ep,e,c⟩:=x
  exact⟨z,y,xs,Paired.mapP r λp q z=>⟨z.1,ht _ _ z.2.1,z.2.2⟩,ob,es,ep,k _ _ (.inl rfl) e,c⟩
 | set S n=>obtain⟨ob,es,ep,t,e,c⟩:=x;exact⟨ob,es,ep,t,k _ _ (.inl rfl) e,c⟩
 | ins C dx fs=>
  obtain⟨d,z,ne,e,mA,⟨od,es,ep,e2,c⟩,r⟩:=x
  exact⟨ho _ d,z,ne,k _ _ (.inl rfl) e,mA,⟨od,es,ep,k _ _ (.inr d) e2,c⟩,r⟩
 | own y=>obtain⟨ob,e⟩:=x;exact⟨ob,k _ _ (.inl rfl) e⟩
 | xd fs=>obtain⟨mA,⟨od,es,ep,e,c⟩,r⟩:=x;exact⟨mA,⟨od,es,ep,k _ _ (.inl rfl) e,c⟩,r⟩
 | rng lo hi=>obtain⟨t,u,v,e⟩:=x;exact⟨t,u,v,k _ _ (.inl rfl) e⟩
 | frz ob u ih=>obtain⟨e,q⟩:=x;exact⟨k _ _ (.inl rfl) e,ih q⟩
 | tbl ps=>
  have e:h.get? a=some { cls:=.none,data:=.fields ps }:=x
  show h'.get? a=some { cls:=.none,data:=.fields ps }
  exact k a _ (.inl rfl) e
 | met f y=>
  have e:h.get? a=some (PySem.W.methodObj (.ref f) (.ref y)):=x
  show h'.get? a=some (PySem.W.methodObj (.ref f) (.ref y))
  exact k a _ (.inl rfl) e
 | ext φ=>obtain⟨p,⟨o,e⟩,st⟩:=x;exact⟨st _ _ p λo q=>k _ _ (.inl rfl) q,⟨o,k _ _ (.inl rfl) e⟩,st⟩
theorem HOk.lt(x:HOk P w H h)(e:H a=some o):a<h.objs.size:=(x a o e).lt
theorem HOk.fresh(x:HOk P w H h)(e:h.objs.size≤a):H a=none:=by
 cases q:H a with
 | none=>rfl
 | some u=>exact absurd (Qi (x.lt q) e) (Bq _)
theorem HOk.kept(x:HOk P w H h)(k:∀b u,h.get? b=some u->h'.get? b=some u):HOk P w H h':=λa o e=>
 (x a o e).stay (λb u _ q=>k b u q) (λ_ q=>q) λ_ _ q=>q
theorem HOk.laid(x:HOk P w H h)(k:∀b u,h.get? b=some u->h'.get? b=some u)(hp:h.objs.size≤a)(new:ObjOk P w (upd H a o) h' a o):HOk P w (upd H a o) h':=λb u e=>by
 have hn:=x.fresh hp
 by_cases hb:b=a
 ·subst hb;rw[Yl]at e;cases e;exact new
 ·rw[Z3 hb]at e
  exact(x b u e).stay (λc v _ q=>k c v q) (λc q=>by rw[Z3 (Yz q hn)];exact q) λc xs q=>by rw[Z3 (Yz q hn)];exact q
end
noncomputable def Rd(H:Hp)(a:Addr)(u:HO):Prop:=H a=some u∨∃o,H a=some (.frz o u)
theorem Rd.ok{P:Qa}{w:Qs}{H:Hp}{h:Heap}{a:Addr}{u:HO}(r:Rd H a u)(x:HOk P w H h):ObjOk P w H h a u:=by
 rcases r with r|⟨o,r⟩
 ·exact x a u r
 ·obtain⟨_,q⟩:=x a _ r
  exact q
noncomputable def Mut:Option HO->Prop
 | some (.lst _)=>True
 | some (.dK _)=>True
 | some (.dT _)=>True
 | some (.set _ _)=>True
 | some (.ins _ _ _)=>True
 | some (.ext _)=>True
 | _=>False
section
variable {P:Qa}{w:Qs}{H:Hp}{h h':Heap}{x e:Addr}{o':HO}
theorem HOk.write(ok:HOk P w H h)(mu:Mut (H x))(he:e=x∨H e=some (.own x))(k:∀b u,b≠e->h.get? b=some u->h'.get? b=some u)(heo:∃u,h'.get? e=some u)
  (new:ObjOk P w (upd H x o') h' x o'):HOk P w (upd H x o') h':=λb u q=>by
 have nown:∀c y,H c=some (.own y)->c≠x:=λc y r z=>by subst z;rw[r]at mu;exact mu
 have ntup:∀c xs,H c=some (.tup xs)->c≠x:=λc xs r z=>by subst z;rw[r]at mu;exact mu
 by_cases hb:b=x
 ·subst hb;rw[Yl]at q;cases q;exact new
 ·rw[Z3 hb]at q
  by_cases hbe:b=e
  ·have q':H b=some (.own x):=by
    rcases he with z|z
    ·exact absurd (hbe.trans z) hb
    ·rw[hbe];exact z
   rw[q]at q';cases q'
   obtain⟨v,hv⟩:=heo
   exact⟨v,by rw[hbe];exact hv⟩
  ·refine(ok b u q).stay (λc v hc r=>k c v ?_ r) (λc r=>by rw[Z3 (nown c b r)];exact r) λc xs r=>by rw[Z3 (ntup c xs r)];exact r
   rcases hc with rfl|hc
   ·exact hbe
   ·rintro rfl
    rcases he with z|z
    ·exact nown c b hc z
    ·rw[hc]at z;cases z;exact hb rfl
end
structure Un(fs ex:List Addr)(H H':Hp)(h h':Heap):Prop where
 keep:∀b o,h.get? b=some o->H b=none->b∉fs->b∉ex->h'.get? b=some o
 slot:∀b o,h.get? b=some o->H b=none->b∈fs->b∉ex->∃sl,h'.get? b=some { o with slots:=sl }
 free:∀b o,h.get? b=some o->H b=none->b∉ex->H' b=none
 there:∀b o,h.get? b=some o->b∉ex->∃o',h'.get? b=some o'
 tups:∀b xs,H b=some (.tup xs)->H' b=some (.tup xs)
 frzs:∀b o u,H b=some (.frz o u)->H' b=some (.frz o u)
 tbls:∀b ps,H b=some (.tbl ps)->∃more,H' b=some (.tbl (ps ++ more))
section
variable {fs fs' ex ex':List Addr}{H H1 H2:Hp}{h h1 h2 h':Heap}{a x e:Addr}{o:HO}
theorem Un.any(u:Un fs ex H H1 h h1){b:Addr}{ob:Obj}(q:h.get? b=some ob)(n:H b=none)(hx:b∉ex):∃sl,h1.get? b=some { ob with slots:=sl }:=by
 by_cases hb:b∈fs
 ·exact u.slot b ob q n hb hx
 ·exact⟨ob.slots,u.keep b ob q n hb hx⟩
theorem Un.kept(k:∀b u,h.get? b=some u->h'.get? b=some u):Un fs ex H H h h' :=
 ⟨λb ob q _ _ _=>k b ob q,λb ob q _ _ _=>⟨ob.slots,k b ob q⟩,λ_ _ _ n _=>n,λb ob q _=>⟨ob,k b ob q⟩,λ_ _ q=>q,λ_ _ _ q=>q,λ_ ps q=>⟨#[],by rw[q];simp⟩⟩
theorem Un.refl:Un fs ex H H h h:=Un.kept λ_ _ q=>q
theorem Un.laid(k:∀b u,h.get? b=some u->h'.get? b=some u)(hp:h.objs.size≤a)(hn:H a=none):Un fs ex H (upd H a o) h h' where
 keep:=λb u q _ _ _=>k b u q
 slot:=λb u q _ _ _=>⟨u.slots,k b u q⟩
 free:=λb u q n _=>by rw[Z3 (Xo (Qi (XJ q) hp))];exact n
 there:=λb u q _=>⟨u,k b u q⟩
 tups:=λb xs q=>by rw[Z3 (Yz q hn)];exact q
 frzs:=λb u xs q=>by rw[Z3 (Yz q hn)];exact q
 tbls:=λb ps q=>⟨#[],by rw[Z3 (Yz q hn),q];simp⟩
theorem Un.write(mu:Mut (H x))(he:e=x∨H e=some (.own x))(k:∀b u,b≠e->h.get? b=some u->h'.get? b=some u)(heo:∃u,h'.get? e=some u):Un fs ex H (upd H x o) h h':=by
 have hx:∀b,H b=none->b≠x:=λb n z=>by subst z;rw[n]at mu;exact mu
 have hb:∀b,H b=none->b≠e:=λb n z=>by
  subst z
  rcases he with r|r
  ·exact hx b n r
  ·rw[n]at r;cases r
 have hm:∀b u,H b=some u->¬Mut (some u)->b≠x:=λb u q nm z=>by subst z;rw[q]at mu;exact nm mu
 refine⟨λb u q n _ _=>k b u (hb b n) q,λb u q n _ _=>⟨u.slots,k b u (hb b n) q⟩,λb u q n _=>by rw[Z3 (hx b n)];exact n,λb u q _=>?_,
  λb xs q=>by rw[Z3 (hm b _ q λz=>z)];exact q,λb u xs q=>by rw[Z3 (hm b _ q λz=>z)];exact q,λb ps q=>⟨#[],by rw[Z3 (hm b _ q λz=>z),q];simp⟩⟩
 by_cases hbe:b=e
 ·subst hbe;exact heo
 ·exact⟨u,k b u hbe q⟩
end
noncomputable def trk(h:Heap)(H:Hp):List Addr:=(Xr h.objs.size).filter λa=>(H a).isSome
noncomputable def Zxb(h:Heap)(H:Hp):Heap:=PySem.W.hideAll h (trk h H)
theorem Zuc(h:Heap)(H:Hp):(Zxb h H).objs.size=h.objs.size:=PySem.W.hideAll_size _ _
theorem Zu7{h:Heap}{H:Hp}{b:Addr}{o:Obj}(e:h.get? b=some o)(n:H b=none):(Zxb h H).get? b=some o :=
 PySem.W.hideAll_get _ e λhm=>by
  have q:(H b).isSome=true:=(Ve.mp hm).2
  rw[n]at q;simp at q
theorem Z1e{h:Heap}{H:Hp}{b:Addr}{o:Obj}(e:(Zxb h H).get? b=some o):h.get? b=some o∧H b=none:=by
 have e':h.get? b=some o:=PySem.W.of_hideAll (trk h H) e
 refine⟨e',?_⟩
 cases q:H b with
 | none=>rfl
 | some x=>
  have hm:b∈trk h H:=Ve.mpr ⟨X8.mpr (XJ e'),by simp[q]⟩
  have z:(Zxb h H).get? b=none:=PySem.W.hideAll_none (trk h H) hm
  rw[z]at e;cases e
noncomputable def Zzo(g h:Heap)(L:Addr):List (Addr×Obj):=(Xr h.objs.size).filterMap λa=>if a=L∨(g.get? a).isSome=true then none else(h.get? a).map λo=>(a,o)
noncomputable def rest(g h:Heap)(L d:Addr):List (Addr×Obj):=(Zzo g h L).filter λp=>decide (p.1≠d)
structure Mod(K:Xc)(mg:Str->Option Xd)(base:Heap):Prop where
 kin:K.In base
 glob:base.Ns Ql mg
 blt:∃mb,base.Ns builtinsNs mb∧∀x:Str,x≠"__name__" ->mb x=Qk x
 nolimit:base.NoLimit
set_option genInjectivity false in
structure Cx where
 prog:Qa
 w:Qs
 K:Xc
 mg:Str->Option Xd
 base:Heap
 A:Qq
 N:List Str
 s₀:Xg
 H₀:Hp
 env:Env
 outer:List Env
 stack:List Env
 ex:List Addr
 fn:Str->Bool
 calm:Bool
 pn:List (Addr×Obj)
 xe:Xd->Xg->Prop
noncomputable def frs(l:List Env):List Addr:=l.filterMap (·.frame)
noncomputable abbrev Cx.fs(X:Cx):List Addr:=frs X.outer
noncomputable def Vis(sc:Uy)(x:Str):Prop:=sc.names.lookup x=some .local∨sc.names.lookup x=some .cell∨sc.names.lookup x=some .free
noncomputable def Loc(sc:Uy)(x:Str):Prop:=sc.names.lookup x=some .local∨sc.names.lookup x=some .cell
noncomputable def Look(env:Env)(h:Heap)(m:Str->Option Xd)(x:Str)(u:Xd):Prop :=
 (env.kindOf x=some .local∧m x=some u)∨((env.kindOf x=some .cell∨env.kindOf x=some .free)∧∃c,env.cells.lookup x=some c∧h.IsCell c (some u))
structure Cx.Ok(X:Cx):Prop where
 mod:Mod X.K X.mg X.base
 kind:X.env.scope.kind= .function
 glob:X.env.globals=Ql
 blt:X.env.builtins=builtinsNs
 above:X.s₀.heap.objs.size≤X.env.locals
 inj:∀x y c,X.env.cells.lookup x=some c->X.env.cells.lookup y=some c->x=y
 has:∀x,(X.env.kindOf x=some .cell∨X.env.kindOf x=some .free)->∃c,X.env.cells.lookup x=some c
 cab:∀x c,X.fn x=true->X.env.cells.lookup x=some c->X.s₀.heap.objs.size≤c
 hd:X.calm=true->X.A.handled=none
 frames:X.A.frames=some X.stack
 stk:X.stack=X.outer∨(X.stack=X.env :: X.outer∧X.env.frame=some X.env.locals)
 exf:∀b∈X.ex,b≠X.env.locals∧∀x c,X.env.cells.lookup x=some c->c≠b
 bs:∀b o,X.base.get? b=some o->X.s₀.heap.get? b=some o∧X.H₀ b=none
 bsz:X.base.objs.size≤X.s₀.heap.objs.size
 noex:∀b o,X.base.get? b=some o->b∉X.ex
 exfs:∀b∈X.ex,b∉X.fs
 funs:X.s₀.heap.FunFrames X.base X.outer
 frf:∀b∈X.fs,X.H₀ b=none
structure Inv(X:Cx)(pins:List (Addr×Obj))(σ:List (Option V))(H:Hp)(s:Xg):Prop where
 ok:X.Ok
 os:s.os=X.s₀.os
 bare:AllBare s.gens
 base:Un X.fs X.ex X.H₀ H X.s₀.heap s.heap
 loc:∃m,s.heap.Ns X.env.locals m∧∀(i:Nat) (x:Str) (v:V),X.N[i]? =some x->σ[i]? =some (some v)->Vis X.env.scope x->∃u,RelV v u∧Look X.env s.heap m x u
 cell:∀x c,X.env.cells.lookup x=some c->∃v,s.heap.IsCell c v
 free:H X.env.locals=none
 freeC:∀x c,X.env.cells.lookup x=some c->H c=none
 pin:∀p∈X.pn ++ pins,s.heap.get? p.1=some p.2∧H p.1=none∧p.1≠X.env.locals∧p.1∉X.fs∧∀v,p.2.data≠ .cell v
 hok:HOk X.prog X.w H s.heap
 len:σ.length=X.N.length
section
variable {X:Cx}{pins:List (Addr×Obj)}{σ:List (Option V)}{H H':Hp}{s:Xg}{h':Heap}
theorem Cx.Ok.nofr(ok:X.Ok){b:Addr}{o:Obj}(e:X.base.get? b=some o):b∉X.fs:=λhb=>by
 have:=(ok.funs.mem hb).1
 rw[e]at this;cases this
theorem Inv.bs(I:Inv X pins σ H s):∀b o,X.base.get? b=some o->s.heap.get? b=some o∧H b=none:=λb o e=>
 ⟨I.base.keep b o (I.ok.bs b o e).1 (I.ok.bs b o e).2 (I.ok.nofr e) (I.ok.noex b o e),I.base.free b o (I.ok.bs b o e).1 (I.ok.bs b o e).2 (I.ok.noex b o e)⟩
theorem Inv.bk(I:Inv X pins σ H s):∀b o,X.base.get? b=some o->s.heap.get? b=some o:=λb o e=>(I.bs b o e).1
theorem Inv.mod(I:Inv X pins σ H s):Mod X.K X.mg X.base:=I.ok.mod
theorem Inv.kIn(I:Inv X pins σ H s):X.K.In s.heap:=I.ok.mod.kin.keeps I.bk
theorem Inv.lt(I:Inv X pins σ H s):X.env.locals<s.heap.objs.size:=let⟨_,hn,_⟩:=I.loc;hn.lt
theorem Inv.sz(I:Inv X pins σ H s):X.s₀.heap.objs.size≤s.heap.objs.size:=QT I.ok.above (Be I.lt)
theorem Inv.nofs(I:Inv X pins σ H s){a:Addr}(h:s.heap.objs.size≤a):a∉X.fs:=λhb=>by
 obtain⟨_,o,ho,_⟩:=I.ok.funs.mem hb
 exact absurd (Qi (XJ ho) (QT I.sz h)) (Bq _)
theorem Inv.cne(I:Inv X pins σ H s):∀x c,X.env.cells.lookup x=some c->c≠X.env.locals:=λx c e z=>by
 obtain⟨v,o,ho,hd⟩:=I.cell x c e
 obtain⟨m,⟨o',es,ep,ho',hd',_⟩,_⟩:=I.loc
 rw[z,ho']at ho;cases ho;rw[hd']at hd;cases hd
theorem Inv.funs(I:Inv X pins σ H s):s.heap.FunFrames X.base X.outer:=by
 have all:∀(l:List Env),(∀b∈frs l,b∈X.fs)->X.s₀.heap.FunFrames X.base l->s.heap.FunFrames X.base l:=by
  intro l
  induction l with
  | nil=>intro _ _;trivial
  | cons env r ih=>
   intro hs hl
   obtain⟨hk,⟨L,o,hf,hn,ho,hd⟩,hr⟩:=hl
   have hL:L∈X.fs:=hs L (by unfold frs;rw[QG,hf];exact U6)
   obtain⟨sl,e⟩:=I.base.slot L o ho (I.ok.frf L hL) hL λz=>I.ok.exfs L z hL
   exact⟨hk,⟨L,_,hf,hn,e,hd⟩,ih (λb hb=>hs b (by unfold frs;rw[QG,hf];exact Ux _ hb)) hr⟩
 exact all X.outer (λ_ hb=>hb) I.ok.funs
theorem Inv.stack(I:Inv X pins σ H s):s.heap.FunFrames X.base X.stack:=by
 rcases I.ok.stk with e|⟨e,hf⟩
 ·rw[e];exact I.funs
 ·rw[e]
  obtain⟨m,hn,_⟩:=I.loc
  refine .cons (by rw[I.ok.kind];decide) hf hn ?_ I.funs
  exact Heap.get?_none_of_le (QT I.ok.bsz I.ok.above)
theorem Inv.stkSub(I:Inv X pins σ H s):∀b∈frs X.stack,b∈X.env.locals :: X.fs:=λb hb=>by
 rcases I.ok.stk with e|⟨e,hf⟩
 ·rw[e]at hb;exact Ux _ hb
 ·rw[e]at hb
  unfold frs at hb
  rw[QG,hf]at hb
  exact hb
theorem Inv.stkFree(I:Inv X pins σ H s):∀b∈frs X.stack,H b=none:=λb hb=>by
 rcases Xq.mp (I.stkSub b hb)with e|hb
 ·rw[e];exact I.free
 ·obtain⟨_,o,ho,_⟩:=I.ok.funs.mem hb
  exact I.base.free b o ho (I.ok.frf b hb) λz=>I.ok.exfs b z hb
theorem Inv.step{g':Array GenState}{t':Nat}{d':Drawn}{ch:List Addr}(I:Inv X pins σ H s)
  (hch:∀b∈ch,(b∈X.ex∨X.s₀.heap.objs.size≤b)∧b≠X.env.locals∧(∀x c,X.env.cells.lookup x=some c->c≠b)∧∀p∈X.pn ++ pins,p.1≠b)
  (keep:∀b o,b≠X.env.locals->b∉X.fs->b∉ch->s.heap.get? b=some o->H b=none->h'.get? b=some o)
  (slot:∀b o,b≠X.env.locals->b∈X.fs->b∉ch->s.heap.get? b=some o->H b=none->∃sl,h'.get? b=some { o with slots:=sl }) (free:∀b o,b∉ch->s.heap.get? b=some o->H b=none->H' b=none)
  (there:∀b o,b∉ch->s.heap.get? b=some o->∃o',h'.get? b=some o')
  (tups:∀b xs,H b=some (.tup xs)->H' b=some (.tup xs)) (frzs:∀b o u,H b=some (.frz o u)->H' b=some (.frz o u)) (tbls:∀b ps,H b=some (.tbl ps)->∃more,H' b=some (.tbl (ps ++ more)))
  (ns:∀m,s.heap.Ns X.env.locals m->h'.Ns X.env.locals m) (hok:HOk X.prog X.w H' h') (hg:AllBare g') :
  Inv X pins σ H' { s with heap:=h',gens:=g',drawn:=d',toks:=t' }:=by
 have neL:∀b o,X.s₀.heap.get? b=some o->b≠X.env.locals:=λb o e=>Xo (Qi (XJ e) I.ok.above)
 have neC:∀b o,X.s₀.heap.get? b=some o->b∉X.ex->b∉ch:=λb o e hx hb=>by
  rcases(hch b hb).1 with z|z
  ·exact hx z
  ·exact absurd (Qi (XJ e) z) (Bq _)
 have cellK:∀x c,X.env.cells.lookup x=some c->∀v,s.heap.IsCell c v->h'.IsCell c v:=λx c e v ⟨o,ho,hd⟩=>by
  have nch:c∉ch:=λz=>(hch c z).2.2.1 x c e rfl
  by_cases hc:c∈X.fs
  ·obtain⟨sl,q⟩:=slot c o (I.cne x c e) hc nch ho (I.freeC x c e)
   exact⟨_,q,hd⟩
  ·exact⟨o,keep c o (I.cne x c e) hc nch ho (I.freeC x c e),hd⟩
 refine⟨I.ok,I.os,hg,⟨λb o e n hb hx=>?_,λb o e n hb hx=>?_,λb o e n hx=>?_,λb o e hx=>?_,λb xs e=>tups b xs (I.base.tups b xs e),λb o xs e=>frzs b o xs (I.base.frzs b o xs e),λb ps e=>?_⟩,?_,λx c e=>?_,?_,λx c e=>?_,λp hp=>?_,hok,I.len⟩
 ·exact keep b o (neL b o e) hb (neC b o e hx) (I.base.keep b o e n hb hx) (I.base.free b o e n hx)
 ·obtain⟨sl,e1⟩:=I.base.slot b o e n hb hx
  obtain⟨sl',e2⟩:=slot b _ (neL b o e) hb (neC b o e hx) e1 (I.base.free b o e n hx)
  exact⟨sl',e2⟩
 ·obtain⟨o',e1⟩:=I.base.there b o e hx
  exact free b o' (neC b o e hx) e1 (I.base.free b o e n hx)
 ·obtain⟨o',e1⟩:=I.base.there b o e hx
  exact there b o' (neC b o e hx) e1
 ·obtain⟨m1,e1⟩:=I.base.tbls b ps e
  obtain⟨m2,e2⟩:=tbls b _ e1
  exact⟨m1 ++ m2,by rw[e2,Array.append_assoc]⟩
 ·obtain⟨m,hn,hl⟩:=I.loc
  refine⟨m,ns m hn,λi x v e1 e2 e3=>?_⟩
  obtain⟨u,r,l⟩:=hl i x v e1 e2 e3
  refine⟨u,r,?_⟩
  rcases l with l|⟨k,c,e,z⟩
  ·exact .inl l
  ·exact .inr ⟨k,c,e,cellK x c e _ z⟩
 ·obtain⟨v,z⟩:=I.cell x c e
  exact⟨v,cellK x c e v z⟩
 ·obtain⟨m,⟨o,_,_,ho,_⟩,_⟩:=I.loc
  exact free _ o (λz=>(hch _ z).2.1 rfl) ho I.free
 ·obtain⟨v,o,ho,hd⟩:=I.cell x c e
  exact free c o (λz=>(hch c z).2.2.1 x c e rfl) ho (I.freeC x c e)
 ·obtain⟨e,n,ne,nf,d⟩:=I.pin p hp
  have nch:p.1∉ch:=λz=>(hch p.1 z).2.2.2 p hp rfl
  exact⟨keep p.1 p.2 ne nf nch e n,free p.1 p.2 nch e n,ne,nf,d⟩
theorem Inv.un{t':Nat}(I:Inv X pins σ H s)(u:Un X.fs [] H H' s.heap h')(hok:HOk X.prog X.w H' h'):Inv X pins σ H' { s with heap:=h',toks:=t' }:=by
 obtain⟨m,⟨o,es,ep,ho,r⟩,_⟩:=id I.loc
 obtain⟨sl,hL⟩:=u.any ho I.free (by simp)
 exact I.step (g':=s.gens) (d':=s.drawn) (ch:=[]) (λ_ z=>nomatch z) (λb o _ hb _ e n=>u.keep b o e n hb (by simp)) (λb o _ hb _ e n=>u.slot b o e n hb (by simp)) (λb o _ e n=>u.free b o e n (by simp)) (λb o _ e=>u.there b o e (by simp)) u.tups u.frzs u.tbls (λm' hm=>by
  obtain⟨o',es',ep',ho',r'⟩:=hm
  rw[ho]at ho';cases ho'
  exact⟨_,es',ep',hL,r'⟩) hok I.bare
theorem Inv.call{g':Array GenState}{t':Nat}{d':Drawn}{ch:List Addr}(I:Inv X pins σ H s)(u:Un (frs X.stack) ch H H' s.heap h')(hok:HOk X.prog X.w H' h')(hg:AllBare g')
  (hch:∀b∈ch,(b∈X.ex∨X.s₀.heap.objs.size≤b)∧b≠X.env.locals∧(∀x c,X.env.cells.lookup x=some c->c≠b)∧∀p∈X.pn ++ pins,p.1≠b) :
  Inv X pins σ H' { s with heap:=h',gens:=g',drawn:=d',toks:=t' }:=by
 obtain⟨m,⟨o,es,ep,ho,r⟩,_⟩:=id I.loc
 obtain⟨sl,hL⟩:=u.any ho I.free λz=>(hch _ z).2.1 rfl
 exact I.step (ch:=ch) hch (λb o hL hb hc e n=>u.keep b o e n (λz=>(Xq.mp (I.stkSub b z)).elim hL hb) hc) (λb o _ _ hc e n=>u.any e n hc) (λb o hc e n=>u.free b o e n hc) (λb o hc e=>u.there b o e hc) u.tups u.frzs u.tbls (λm' hm=>by
  obtain⟨o',es',ep',ho',r'⟩:=hm
  rw[ho]at ho';cases ho'
  exact⟨_,es',ep',hL,r'⟩) hok hg
theorem Inv.turned{t':Nat}{it:Addr}(I:Inv X pins σ H s)(k:∀b o,b≠it->s.heap.get? b=some o->h'.get? b=some o)(hn:H it=none)(hL:it≠X.env.locals)
  (h1:it∈X.ex∨X.s₀.heap.objs.size≤it) (h2:∀x c,X.env.cells.lookup x=some c->c≠it) (h3:∀p∈X.pn ++ pins,p.1≠it):Inv X pins σ H { s with heap:=h',toks:=t' }:=by
 have nit:∀b u,H b=some u->b≠it:=λb u e z=>by rw[z,hn]at e;cases e
 refine I.step (g':=s.gens) (d':=s.drawn) (ch:=[it]) (λb hb=>?_) (λb o _ _ hc e _=>k b o (λz=>hc (by simp[z])) e) (λb o _ _ hc e _=>⟨o.slots,k b o (λz=>hc (by simp[z])) e⟩) (λ_ _ _ _ n=>n)
  (λb o hc e=>⟨o,k b o (λz=>hc (by simp[z])) e⟩) (λ_ _ e=>e) (λ_ _ _ e=>e) (λb ps e=>⟨#[],by rw[e];simp⟩) (λm hm=>?_) (λb u e=>?_) I.bare
 ·have e:b=it:=by simpa using hb
  subst e
  exact⟨h1,hL,h2,h3⟩
 ·obtain⟨o,es,ep,ho,r⟩:=hm
  exact⟨o,es,ep,k _ o (Vs hL) ho,r⟩
 ·refine(I.hok b u e).stay (λc v hc q=>k c v ?_ q) (λ_ q=>q) λ_ _ q=>q
  rcases hc with z|z
  ·rw[z];exact nit b u e
  ·exact nit c _ z
theorem Inv.tok(I:Inv X pins σ H s)(t:Nat):Inv X pins σ H { s with toks:=t }:=I.un (h':=s.heap) (t':=t) Un.refl I.hok
theorem Inv.kept{t':Nat}(I:Inv X pins σ H s)(k:∀b u,s.heap.get? b=some u->h'.get? b=some u):Inv X pins σ H { s with heap:=h',toks:=t' }:=I.un (Un.kept k) (I.hok.kept k)
theorem Inv.laid{a:Addr}{o:HO}{t':Nat}(I:Inv X pins σ H s)(k:∀b u,s.heap.get? b=some u->h'.get? b=some u)(hp:s.heap.objs.size≤a)(new:ObjOk X.prog X.w (upd H a o) h' a o) :
  Inv X pins σ (upd H a o) { s with heap:=h',toks:=t' }:=I.un (Un.laid k hp (I.hok.fresh hp)) (I.hok.laid k hp new)
theorem Inv.write{x e:Addr}{o:HO}{t':Nat}(I:Inv X pins σ H s)(mu:Mut (H x))(he:e=x∨H e=some (.own x))(k:∀b u,b≠e->s.heap.get? b=some u->h'.get? b=some u)(heo:∃u,h'.get? e=some u)
  (new:ObjOk X.prog X.w (upd H x o) h' x o):Inv X pins σ (upd H x o) { s with heap:=h',toks:=t' }:=I.un (Un.write mu he k heo) (I.hok.write mu he k heo new)
theorem Inv.pins_of{pins':List (Addr×Obj)}(I:Inv X pins σ H s)(h:∀p∈pins',s.heap.get? p.1=some p.2∧H p.1=none∧p.1≠X.env.locals∧p.1∉X.fs∧∀v,p.2.data≠ .cell v):Inv X pins' σ H s :=
 ⟨I.ok,I.os,I.bare,I.base,I.loc,I.cell,I.free,I.freeC,λp hp=>(QW.mp hp).elim (λz=>I.pin p (VJ _ z)) (h p),I.hok,I.len⟩
theorem Zoj{N:List Str}(hN:N.Nodup){i j:Nat}{x:Str}(a:N[i]? =some x)(b:N[j]? =some x):i=j:=by
 obtain⟨h1,e1⟩:=Xn.mp a
 obtain⟨h2,e2⟩:=Xn.mp b
 exact(List.getElem_inj hN).mp (e1.trans e2.symm)
theorem Zle{M:Model}{A:Qq}{E:Xd->Xg->Prop}{i:Nat}{x:Str}{v:V}{u:Xd}{Q:Unit->Xg->Prop}(I:Inv X pins σ H s)(hN:X.N.Nodup)(hi:X.N[i]? =some x)(hx:Loc X.env.scope x)(r:RelV v u)
  (h:∀s',Inv X pins (σ.set i (some v)) H s'->(∃a,JK a s.heap s'.heap∧(a=X.env.locals∨X.env.cells.lookup x=some a))->Q () s') (hf:X.fn x=true∨X.env.scope.names.lookup x=some .local:=by first|exact .inl rfl|exact .inr rfl|assumption):XC M A (storeName X.env x u) Q E s:=by
 obtain⟨m,hn,hl⟩:=id I.loc
 have hcls:(X.env.scope.kind== .class||(X.env.scope.kind== .module&&X.env.locals !=X.env.globals))=false:=by rw[I.ok.kind];rfl
 have hiσ:i<σ.length:=by rw[I.len];exact(Xn.mp hi).1
 have cne:=I.cne
 have tracked:∀{a:Addr} {h':Heap},(∃o,s.heap.get? a=some o∧H a=none)->JK a s.heap h'->HOk X.prog X.w H h':=fun{a h'} ha hs b ob e=>by
  obtain⟨_,_,hfree⟩:=ha
  refine(I.hok b ob e).stay (λc w' hc q=>(hs.2 c ?_).trans q) (λ_ q=>q) λ_ _ q=>q
  rintro rfl
  rcases hc with rfl|hc
  ·rw[hfree]at e;cases e
  ·rw[hfree]at hc;cases hc
 rcases hx with hk|hk
 ·refine wpAny_storeName_local hk hn (λh' hn' hs=>?_) hcls
  obtain⟨oL,_,_,hoL,_⟩:=id hn
  refine h _ ⟨I.ok,I.os,I.bare,⟨λb o e n hb hx=>?_,λb o e n hb hx=>?_,I.base.free,λb o e hx=>?_,I.base.tups,I.base.frzs,I.base.tbls⟩,⟨_,hn',λj y v' e1 e2 e3=>?_⟩,λy c e=>?_,I.free,I.freeC,λp hp=>?_,tracked ⟨oL,hoL,I.free⟩ hs,by simpa using I.len⟩ ⟨_,hs,.inl rfl⟩
  ·exact(hs.2 b (Xo (Qi (XJ e) I.ok.above))).trans (I.base.keep b o e n hb hx)
  ·obtain⟨sl,e1⟩:=I.base.slot b o e n hb hx
   exact⟨sl,(hs.2 b (Xo (Qi (XJ e) I.ok.above))).trans e1⟩
  ·obtain⟨o',e1⟩:=I.base.there b o e hx
   exact⟨o',(hs.2 b (Xo (Qi (XJ e) I.ok.above))).trans e1⟩
  ·by_cases hj:j=i
   ·subst hj
    rw[hi]at e1;cases e1
    rw[Q3 hiσ]at e2
    cases e2
    exact⟨u,r,.inl ⟨hk,by simp⟩⟩
   ·rw[Qz (Vs hj)]at e2
    obtain⟨u',r',q⟩:=hl j y v' e1 e2 e3
    refine⟨u',r',?_⟩
    rcases q with⟨k,e⟩|⟨k,c,e,z⟩
    ·refine .inl ⟨k,?_⟩
     have:y≠x:=λe=>hj (Zoj hN e1 (e▸hi))
     simp[this,e]
    ·exact .inr ⟨k,c,e,z.sameBut hs (cne y c e)⟩
  ·obtain⟨w',z⟩:=I.cell y c e
   exact⟨w',z.sameBut hs (cne y c e)⟩
  ·obtain⟨e,n,ne,nf,d⟩:=I.pin p hp
   exact⟨(hs.2 p.1 ne).trans e,n,ne,nf,d⟩
 ·have hfn:X.fn x=true:=by
   rcases hf with z|z
   ·exact z
   ·rw[z]at hk;cases hk
  obtain⟨c,hc⟩:=I.ok.has x (.inl hk)
  obtain⟨w',z⟩:=I.cell x c hc
  refine wpAny_storeName_cell I.ok.kind hk hc z (λh' hc' hs=>?_)
  obtain⟨oc,hoc,hocd⟩:=id z
  refine h { s with heap:=h' } ⟨I.ok,I.os,I.bare,⟨λb o e n hb hx=>?_,λb o e n hb hx=>?_,I.base.free,λb o e hx=>?_,I.base.tups,I.base.frzs,I.base.tbls⟩,⟨m,hn.sameBut hs (Vs (cne x c hc)),λj y v' e1 e2 e3=>?_⟩,λy c' e=>?_,I.free,I.freeC,λp hp=>?_,tracked ⟨oc,hoc,I.freeC x c hc⟩ hs,by simpa using I.len⟩ ⟨c,hs,.inr hc⟩
  ·exact(hs.2 b (Xo (Qi (XJ e) (I.ok.cab x c hfn hc)))).trans (I.base.keep b o e n hb hx)
  ·obtain⟨sl,e1⟩:=I.base.slot b o e n hb hx
   exact⟨sl,(hs.2 b (Xo (Qi (XJ e) (I.ok.cab x c hfn hc)))).trans e1⟩
  ·obtain⟨o',e1⟩:=I.base.there b o e hx
   exact⟨o',(hs.2 b (Xo (Qi (XJ e) (I.ok.cab x c hfn hc)))).trans e1⟩
  ·by_cases hj:j=i
   ·subst hj
    rw[hi]at e1;cases e1
    rw[Q3 hiσ]at e2
    cases e2
    exact⟨u,r,.inr ⟨.inl hk,c,hc,hc'⟩⟩
   ·rw[Qz (Vs hj)]at e2
    obtain⟨u',r',q⟩:=hl j y v' e1 e2 e3
    refine⟨u',r',?_⟩
    rcases q with q|⟨k,c',e,z'⟩
    ·exact .inl q
    ·refine .inr ⟨k,c',e,z'.sameBut hs ?_⟩
     rintro rfl
     exact hj (Zoj hN e1 (I.ok.inj _ _ _ e hc▸hi))
  ·by_cases hcc:c'=c
   ·subst hcc;exact⟨_,hc'⟩
   ·obtain⟨w2,z2⟩:=I.cell y c' e
    exact⟨w2,z2.sameBut hs hcc⟩
  ·obtain⟨e,n,ne,nf,d⟩:=I.pin p hp
   refine⟨(hs.2 p.1 ?_).trans e,n,ne,nf,d⟩
   intro q
   rw[q,hoc]at e
   have q':oc=p.2:=QD e
   exact d w' (by rw[←q'];exact hocd)
theorem Zos{M:Model}{A:Qq}{E:Xd->Xg->Prop}{i:Nat}{x:Str}{v:V}{u:Xd}{Q:Unit->Xg->Prop}(I:Inv X pins σ H s)(hN:X.N.Nodup)(hi:X.N[i]? =some x)(hx:Loc X.env.scope x)(r:RelV v u)
  (h:∀s',Inv X pins (σ.set i (some v)) H s'->Q () s') (hf:X.fn x=true∨X.env.scope.names.lookup x=some .local:=by first|exact .inl rfl|exact .inr rfl|assumption):XC M A (storeName X.env x u) Q E s :=
 Zle I hN hi hx r (λs' I' _=>h s' I') hf
theorem Inv.call'{s':Xg}{ch:List Addr}(I:Inv X pins σ H s)(ho:s'.os=s.os)(u:Un (frs X.stack) ch H H' s.heap s'.heap)(hok:HOk X.prog X.w H' s'.heap)(hg:AllBare s'.gens)
  (hch:∀b∈ch,(b∈X.ex∨X.s₀.heap.objs.size≤b)∧b≠X.env.locals∧(∀x c,X.env.cells.lookup x=some c->c≠b)∧∀p∈X.pn ++ pins,p.1≠b):Inv X pins σ H' s':=by
 obtain⟨h',g',d',t',o'⟩:=s'
 have e:o'=s.os:=ho
 subst e
 exact I.call (g':=g') (t':=t') (d':=d') u hok hg hch
end
noncomputable abbrev XK:=Xd->Option Addr->Hp->Prop
noncomputable abbrev St:=List (Option V)
noncomputable abbrev VK:=V->Hp->Prop
noncomputable abbrev TE:=St->Hp->VK->Prop
noncomputable abbrev TT:=St->Hp->(Bool->Hp->Prop)->Prop
noncomputable abbrev TA:=St->Hp->(List V->Hp->Prop)->Prop
set_option genInjectivity false in
structure Ends where
 nx:St->Hp->Prop
 rt:VK
 bk:St->Hp->Prop:=λ_ _=>False
 ct:St->Hp->Prop:=λ_ _=>False
noncomputable abbrev TS:=Ends->St->Hp->Prop
noncomputable def EP(X:Cx)(pins:List (Addr×Obj))(σ:St)(Q:VK)(u:Xd)(s':Xg):Prop:=∃v H',Inv X pins σ H' s'∧RelV v u∧Q v H'
noncomputable def TP(X:Cx)(pins:List (Addr×Obj))(σ:St)(Q:Bool->Hp->Prop)(b:Bool)(s':Xg):Prop:=∃H',Inv X pins σ H' s'∧Q b H'
noncomputable def AP(X:Cx)(pins:List (Addr×Obj))(σ:St)(Q:List V->Hp->Prop)(us:List Xd)(s':Xg):Prop:=∃vs H',Inv X pins σ H' s'∧Vals vs us∧Q vs H'
noncomputable def SP(X:Cx)(pins:List (Addr×Obj))(D:Ends)(f:Flow)(s':Xg):Prop :=
 match f with
 | .next=>∃σ' H',Inv X pins σ' H' s'∧D.nx σ' H'
 | .brk=>∃σ' H',Inv X pins σ' H' s'∧D.bk σ' H'
 | .cont=>∃σ' H',Inv X pins σ' H' s'∧D.ct σ' H'
 | .ret u=>∃v σ' H',Inv X pins σ' H' s'∧RelV v u∧D.rt v H'
noncomputable def PE(X:Cx)(e:Expr)(t:TE):Prop :=
 ∀(pins:List (Addr×Obj)) (s:Xg) (σ:St) (H:Hp) (Q:VK),Inv X pins σ H s->t σ H Q->XC (X6 X.prog X.w) X.A (eval e X.env) (EP X pins σ Q) X.xe s
noncomputable def PT(X:Cx)(e:Expr)(t:TT):Prop :=
 ∀(pins:List (Addr×Obj)) (s:Xg) (σ:St) (H:Hp) (Q:Bool->Hp->Prop),Inv X pins σ H s->t σ H Q->XC (X6 X.prog X.w) X.A (isTrue e X.env (eval e X.env)) (TP X pins σ Q) X.xe s
noncomputable def PW(X:Cx)(e:Expr)(t:TT):Prop :=
 ∀(whole:Sem Xd) (pins:List (Addr×Obj)) (s:Xg) (σ:St) (H:Hp) (Q:Bool->Hp->Prop),Inv X pins σ H s->t σ H Q->XC (X6 X.prog X.w) X.A (isTrue e X.env whole) (TP X pins σ Q) X.xe s
theorem PW.pt{X:Cx}{e:Expr}{t:TT}(h:PW X e t):PT X e t:=h _
noncomputable def PA(X:Cx)(es:List Expr)(t:TA):Prop :=
 ∀(pos:Pos) (pins:List (Addr×Obj)) (s:Xg) (σ:St) (H:Hp) (Q:List V->Hp->Prop),Inv X pins σ H s->t σ H Q->XC (X6 X.prog X.w) X.A (spliced (JM pos (Xp es X.env))) (AP X pins σ Q) X.xe s
noncomputable def PS(X:Cx)(st:Stmt)(t:TS):Prop :=
 ∀(pins:List (Addr×Obj)) (s:Xg) (σ:St) (H:Hp) (D:Ends),Inv X pins σ H s->t D σ H->XC (X6 X.prog X.w) X.A (exec st X.env) (SP X pins D) X.xe s
noncomputable def PSs(X:Cx)(st:List Stmt)(t:TS):Prop :=
 ∀(pins:List (Addr×Obj)) (s:Xg) (σ:St) (H:Hp) (D:Ends),Inv X pins σ H s->t D σ H->XC (X6 X.prog X.w) X.A (execs st X.env) (SP X pins D) X.xe s
theorem thn{α:Type}{t:Sem α}{Q Q':α->Xg->Prop}{M:Model}{A:Qq}{E:Xd->Xg->Prop}{s:Xg}(h:XC M A t Q E s)(hQ:∀a s,Q a s->Q' a s):XC M A t Q' E s:=Vd h hQ λ_ _ x=>x
section
variable {X:Cx}
noncomputable def Ycp(i:Nat):TE:=λσ H Q=>∃v,σ[i]? =some (some v)∧Q v H
noncomputable def tC(v:V):TE:=λ_ H Q=>Q v H
theorem Z7j{i:Nat}{x:Str}{pos:Pos}(hN:X.N[i]? =some x)(hv:Vis X.env.scope x)(hd:(x==("__debug__" : Str))=false:=by decide)(hcd:(x==("__classdict__" : Str))=false:=by decide):PE X (.Name x pos) (Ycp i):=by
 intro pins s σ H Q I h
 obtain⟨v,e,h⟩:=h
 obtain⟨m,hn,hl⟩:=I.loc
 obtain⟨u,r,l⟩:=hl i x v hN e hv
 have fin:EP X pins σ Q u s:=⟨v,H,I,r,h⟩
 rcases l with⟨hk,hm⟩|⟨hk,c,hc,hcell⟩
 ·exact wpAny_Name (wpAny_loadName_local I.ok.kind hk hn hm fin) hd
 ·rcases hk with hk|hk
  ·exact wpAny_Name (wpAny_loadName_cell I.ok.kind hk hc hcell fin) hd
  ·exact wpAny_Name (wpAny_loadName_free I.ok.kind hk hc hcell fin hcd) hd
theorem Z39{i j pos}:PE X (.Constant (.int i) j pos) (tC (.int i)):=λ_ _ _ H _ I h=>wpAny_Constant_int ⟨.int i,H,I.tok _,⟨_,rfl⟩,h⟩
theorem Z8k{b j pos}:PE X (.Constant (.bool b) j pos) (tC (.bl b)):=λ_ _ _ H _ I h=>Constant_bool ⟨.bl b,H,I,rfl,h⟩
theorem Z33{j pos}:PE X (.Constant .none j pos) (tC .non):=λ_ _ _ H _ I h=>Constant_none ⟨.non,H,I,rfl,h⟩
theorem Z4f{x j pos}:PE X (.Constant (.str x) j pos) (tC (.str x)):=λ_ _ _ H _ I h=>Calls.Constant_str ⟨.str x,H,I.tok _,⟨_,rfl⟩,h⟩
noncomputable def Gl(X:Cx)(x:Str):Prop:=X.env.kindOf x=some .globalImplicit
theorem Z0t{E:Xd->Xg->Prop}{pins:List (Addr×Obj)}{s:Xg}{σ:St}{H:Hp}{x:Str}{u:Xd}{pos:Pos}{Q:Xd->Xg->Prop}(I:Inv X pins σ H s)(hg:Gl X x)(hm:X.mg x=some u)(h:Q u s)
  (hd:(x==("__debug__" : Str))=false:=by decide):XC (X6 X.prog X.w) X.A (eval (.Name x pos) X.env) Q E s :=
 Calls.Name_function_global I.ok.kind hg (Calls.loadGlobal_global (by rw[I.ok.glob];exact I.mod.glob.keeps I.bk) hm h) hd
theorem Zgu{E:Xd->Xg->Prop}{pins:List (Addr×Obj)}{s:Xg}{σ:St}{H:Hp}{x:Str}{u:Xd}{pos:Pos}{Q:Xd->Xg->Prop}(I:Inv X pins σ H s)(hg:Gl X x)(hm:X.mg x=none)(hv:Qk x=some u)(h:Q u s)
  (hn:x≠"__name__" :=by decide) (hd:(x==("__debug__" : Str))=false:=by decide):XC (X6 X.prog X.w) X.A (eval (.Name x pos) X.env) Q E s:=by
 obtain⟨mb,h1,h2⟩:=I.mod.blt
 exact Calls.Name_function_global I.ok.kind hg (Calls.loadGlobal_builtin (by rw[I.ok.glob];exact I.mod.glob.keeps I.bk) hm (by rw[I.ok.blt];exact h1.keeps I.bk) ((h2 x hn).trans hv) h) hd
theorem Z2a{x:Str}{v:V}{u:Xd}{pos:Pos}(hg:Gl X x)(hm:X.mg x=none)(hv:Qk x=some u)(r:RelV v u)(hn:x≠"__name__" :=by decide)(hd:(x==("__debug__" : Str))=false:=by decide):PE X (.Name x pos) (tC v) :=
 λ_ _ _ H _ I h=>Zgu I hg hm hv ⟨v,H,I,r,h⟩ hn hd
noncomputable def t2I(ta tb:TE)(k:Int->Int->Hp->Prop):St->Hp->Prop:=λσ H=>ta σ H λx H1=>tb σ H1 λy H2=>∃i j,x= .int i∧y= .int j∧k i j H2
variable {a b:Expr}{ta tb:TE}{pos:Pos}
noncomputable def Z29(p:Int->Int->Bool)(ta tb:TE):TE:=λσ H Q=>t2I ta tb (λi j H2=>Q (.bl (p i j)) H2) σ H
noncomputable abbrev tLt:TE->TE->TE:=Z29 λi j=>decide (i<j)
noncomputable abbrev tLe:TE->TE->TE:=Z29 λi j=>decide (i≤j)
noncomputable abbrev tGt:TE->TE->TE:=Z29 λi j=>decide (j<i)
noncomputable abbrev tGe:TE->TE->TE:=Z29 λi j=>decide (j≤i)
noncomputable abbrev Yer:TE->TE->TE:=Z29 λi j=>decide (i=j)
noncomputable abbrev Yes:TE->TE->TE:=Z29 λi j=>!decide (i=j)
noncomputable def tB(t:TE):TT:=λσ H Q=>t σ H λx H1=>∃c,x= .bl c∧Q c H1
variable {tA tB':TT}{rest:List Expr}
noncomputable def Yd5(t u:TT):TT:=λσ H Q=>t σ H λc H1=>if c=true then u σ H1 Q else Q false H1
noncomputable def tOr(t u:TT):TT:=λσ H Q=>t σ H λc H1=>if c=true then Q true H1 else u σ H1 Q
noncomputable def Ydp(t:TT):TT:=λσ H Q=>t σ H λc H1=>Q (!c) H1
theorem Z1r(ha:PT X a tA):PW X (.BoolOp .And [a] pos) tA:=by
 intro wh pins s σ H Q I h
 refine isTrue_and (thn (ha pins s σ H Q I h) λc s1 e=>?_)
 cases c with
 | true=>exact isTrue_and_nil e
 | false=>exact e
theorem Z5g(ha:PT X a tA):PW X (.BoolOp .Or [a] pos) tA:=by
 intro wh pins s σ H Q I h
 refine isTrue_or (thn (ha pins s σ H Q I h) λc s1 e=>?_)
 cases c with
 | false=>exact isTrue_or_nil e
 | true=>exact e
theorem Z50(ha:PT X a tA)(hb:PW X (.BoolOp .And (b :: rest) pos) tB'):PW X (.BoolOp .And (a :: b :: rest) pos) (Yd5 tA tB'):=by
 intro wh pins s σ H Q I h
 refine isTrue_and (thn (ha pins s σ H _ I h) λc s1 qz9=>?_)
 obtain⟨H1,I1,q1⟩:=qz9
 cases c with
 | true=>exact hb wh pins s1 σ H1 Q I1 q1
 | false=>exact⟨H1,I1,q1⟩
theorem Z9o(ha:PT X a tA)(hb:PW X (.BoolOp .Or (b :: rest) pos) tB'):PW X (.BoolOp .Or (a :: b :: rest) pos) (tOr tA tB'):=by
 intro wh pins s σ H Q I h
 refine isTrue_or (thn (ha pins s σ H _ I h) λc s1 qz9=>?_)
 obtain⟨H1,I1,q1⟩:=qz9
 cases c with
 | true=>exact⟨H1,I1,q1⟩
 | false=>exact hb wh pins s1 σ H1 Q I1 q1
theorem Z56(ha:PT X a tA):PT X (.UnaryOp .Not a pos) (Ydp tA):=by
 intro pins s σ H Q I h
 exact isTrue_not (ha pins s σ H (λc H1=>Q (!c) H1) I h)
noncomputable def Ya3(ta tb:TE):TE:=λσ H Q=>ta σ H λx H1=>∃c,x= .bl c∧if c=true then tb σ H1 Q else Q (.bl false) H1
noncomputable def Z89(ta:TE):TE:=λσ H Q=>ta σ H λx H1=>∃c,x= .bl c∧Q (.bl (!c)) H1
theorem Z37{op}{t:TE}(h:PE X a t):PE X (.BoolOp op [a] pos) t:=λpins s σ H Q I hw=>BoolOp_one (h pins s σ H Q I hw)
theorem Z67(ha:PE X a ta)(hb:PE X (.BoolOp .And (b :: rest) pos) tb):PE X (.BoolOp .And (a :: b :: rest) pos) (Ya3 ta tb):=by
 intro pins s σ H Q I h
 refine BoolOp_and (thn (ha pins s σ H _ I h) λv s1 qz9=>?_)
 obtain⟨x,H1,I1,r1,q1⟩:=qz9
 obtain⟨c,rfl,q1⟩:=q1
 cases r1
 refine Ut ?_
 cases c with
 | true=>exact hb pins s1 σ H1 Q I1 q1
 | false=>exact⟨.bl false,H1,I1,rfl,q1⟩
theorem Z34(ha:PE X a ta):PE X (.UnaryOp .Not a pos) (Z89 ta):=by
 intro pins s σ H Q I h
 refine UnaryOp_ (thn (ha pins s σ H _ I h) λv s1 qz9=>?_)
 obtain⟨x,H1,I1,r1,q1⟩:=qz9
 obtain⟨c,rfl,q1⟩:=q1
 cases r1
 exact not_of (Ut ⟨.bl (!c),H1,I1,rfl,q1⟩)
noncomputable def tIf(t:TT)(ta tb:TE):TE:=λσ H Q=>t σ H λc H1=>if c=true then ta σ H1 Q else tb σ H1 Q
theorem Zxk{c:Expr}(hc:PT X c tA)(ha:PE X a ta)(hb:PE X b tb):PE X (.IfExp c a b pos) (tIf tA ta tb):=by
 intro pins s σ H Q I h
 refine wpAny_IfExp (thn (hc pins s σ H _ I h) λd s1 qz9=>?_)
 obtain⟨H1,I1,q1⟩:=qz9
 cases d with
 | true=>exact ha pins s1 σ H1 Q I1 q1
 | false=>exact hb pins s1 σ H1 Q I1 q1
end
noncomputable def SqL(K:Xc)(H:Hp)(a:Addr)(xs:List V):Prop :=
 Rd H a (.lst xs)∨
  ∃(o:Obj) (its:Array Xd) (n:Nat),K.lookup a=some o∧o.cls= .type "list"∧o.dict=none∧o.data= .seq its n∧its.size≤Xx∧Vals xs its.toList
noncomputable def SqT(K:Xc)(H:Hp)(a:Addr)(xs:List V):Prop :=
 Rd H a (.tup xs)∨
  ∃(o:Obj) (its:Array Xd) (n:Nat),K.lookup a=some o∧o.cls= .type "tuple"∧o.data= .seq its n∧its.size≤Xx∧Vals xs its.toList
noncomputable def Yd3:Xd->Option V
 | .none=>some .non
 | .bool b=>some (.bl b)
 | .int i _=>some (.int i)
 | .str x _=>some (.str x)
 | .bytes b _=>some (.byt b)
 | .float b _=>some (.flt b)
 | .ref a=>some (.ref a)
 | .type n=>some (.ty n)
 | _=>none
theorem RelV.abs{x:V}{u:Xd}(r:RelV x u):Yd3 u=some x:=by
 cases x with
 | non=>cases r;rfl
 | bl _=>cases r;rfl
 | int _=>obtain⟨t,rfl⟩:=r;rfl
 | str _=>obtain⟨t,rfl⟩:=r;rfl
 | byt _=>obtain⟨t,rfl⟩:=r;rfl
 | flt _=>obtain⟨t,rfl⟩:=r;rfl
 | ref _=>cases r;rfl
 | ty _=>cases r;rfl
theorem RelV.inj{x y:V}{u:Xd}(r:RelV x u)(q:RelV y u):x=y:=QD (r.abs.symm.trans q.abs)
theorem Vals.inj{xs ys:List V}{us:List Xd}(h:Vals xs us)(k:Vals ys us):xs=ys:=by
 induction h generalizing ys with
 | nil=>cases k;rfl
 | cons r t ih=>
  cases k with
  | cons r' t'=>rw[r.inj r',ih t']
section
variable {X:Cx}{pins:List (Addr×Obj)}{σ:St}{H:Hp}{s:Xg}{a:Addr}{xs ys:List V}
theorem Inv.list(I:Inv X pins σ H s)(h:SqL X.K H a xs):∃its:List Xd,Vals xs its∧PlainL s.heap a its.toArray∧xs.length≤Xx:=by
 rcases h with h|⟨o,its,n,hk,hc,hd,hs,hz,r⟩
 ·obtain⟨z,its,n,r,e⟩:=h.ok I.hok
  exact⟨its,r,⟨_,n,e,rfl,rfl,rfl⟩,z⟩
 ·refine⟨its.toList,r,⟨o,n,I.kIn a o hk,hc,hd,by simpa using hs⟩,?_⟩
  have e:=r.length
  simp only[X7]at e
  omega
theorem Inv.tuple(I:Inv X pins σ H s)(h:SqT X.K H a xs):∃its:List Xd,Vals xs its∧IsTup s.heap a its.toArray∧xs.length≤Xx:=by
 rcases h with h|⟨o,its,n,hk,hc,hs,hz,r⟩
 ·obtain⟨z,its,r,p⟩:=h.ok I.hok
  exact⟨its,r,p,z⟩
 ·refine⟨its.toList,r,⟨o,I.kIn a o hk,hc,n,by simpa using hs⟩,?_⟩
  have e:=r.length
  simp only[X7]at e
  omega
theorem Inv.list_inj(I:Inv X pins σ H s)(h:SqL X.K H a xs)(h':SqL X.K H a ys):xs=ys:=by
 obtain⟨its,r,⟨o,n,e,_,_,d⟩,_⟩:=I.list h
 obtain⟨its',r',⟨o',n',e',_,_,d'⟩,_⟩:=I.list h'
 rw[e]at e';cases e'
 rw[d]at d'
 injection d' with d1 _
 have:its=its':=by simpa using congrArg Array.toList d1
 subst this
 exact r.inj r'
theorem Inv.tuple_inj(I:Inv X pins σ H s)(h:SqT X.K H a xs)(h':SqT X.K H a ys):xs=ys:=by
 obtain⟨its,r,⟨o,e,_,n,d⟩,_⟩:=I.tuple h
 obtain⟨its',r',⟨o',e',_,n',d'⟩,_⟩:=I.tuple h'
 rw[e]at e';cases e'
 rw[d]at d'
 injection d' with d1 _
 have:its=its':=by simpa using congrArg Array.toList d1
 subst this
 exact r.inj r'
end
noncomputable abbrev Cx.wish(X:Cx)(E:Xd->Xg->Prop):Cx:={ X with xe:=E }
noncomputable abbrev Cx.nox(X:Cx):Cx:=X.wish λ_ _=>False
theorem Cx.Ok.wish{X:Cx}(ok:X.Ok)(E:Xd->Xg->Prop):(X.wish E).Ok :=
 ⟨ok.mod,ok.kind,ok.glob,ok.blt,ok.above,ok.inj,ok.has,ok.cab,ok.hd,ok.frames,ok.stk,ok.exf,ok.bs,ok.bsz,ok.noex,ok.exfs,ok.funs,ok.frf⟩
theorem Cx.Ok.unwish{X:Cx}{E:Xd->Xg->Prop}(ok:(X.wish E).Ok):X.Ok :=
 ⟨ok.mod,ok.kind,ok.glob,ok.blt,ok.above,ok.inj,ok.has,ok.cab,ok.hd,ok.frames,ok.stk,ok.exf,ok.bs,ok.bsz,ok.noex,ok.exfs,ok.funs,ok.frf⟩
section
variable {X:Cx}{pins:List (Addr×Obj)}{σ:St}{H:Hp}{s:Xg}{E:Xd->Xg->Prop}
theorem Inv.wish(I:Inv X pins σ H s)(E:Xd->Xg->Prop):Inv (X.wish E) pins σ H s:=⟨I.ok.wish E,I.os,I.bare,I.base,I.loc,I.cell,I.free,I.freeC,I.pin,I.hok,I.len⟩
theorem Inv.unwish(I:Inv (X.wish E) pins σ H s):Inv X pins σ H s:=⟨I.ok.unwish,I.os,I.bare,I.base,I.loc,I.cell,I.free,I.freeC,I.pin,I.hok,I.len⟩
theorem SP.unwish{D:Ends}{f:Flow}{s':Xg}(h:SP (X.wish E) pins D f s'):SP X pins D f s':=by
 cases f with
 | next=>obtain⟨σ',H',I,q⟩:=h;exact⟨σ',H',I.unwish,q⟩
 | brk=>obtain⟨σ',H',I,q⟩:=h;exact⟨σ',H',I.unwish,q⟩
 | cont=>obtain⟨σ',H',I,q⟩:=h;exact⟨σ',H',I.unwish,q⟩
 | ret u=>obtain⟨v,σ',H',I,r,q⟩:=h;exact⟨v,σ',H',I.unwish,r,q⟩
theorem PSs.nox{st:List Stmt}{t:TS}(h:PSs X.nox st t):PSs X st t:=λpins s σ H D I hw=>
 Vd (h pins s σ H D (I.wish _) hw) (λ_ _ q=>q.unwish) λ_ _ z=>VG z
end
section
variable {X:Cx}{st:Stmt}{rest:List Stmt}{t u:TS}{e:Expr}{te:TE}{pos:Pos}
noncomputable def Z90:TS:=λD σ H=>D.nx σ H
noncomputable def Ydg(t u:TS):TS:=λD σ H=>t { D with nx:=u D } σ H
theorem Zzv:PSs X [] Z90:=λ_ _ σ H _ I h=>wpAny_execs_nil ⟨σ,H,I,h⟩
theorem Zwf(h1:PS X st t)(h2:PSs X rest u):PSs X (st :: rest) (Ydg t u):=by
 intro pins s σ H D I h
 refine wpAny_execs_cons (thn (h1 pins s σ H { D with nx:=u D } I h) λf s1 q=>?_)
 cases f with
 | next=>
  obtain⟨σ',H',I',q⟩:=q
  exact h2 pins s1 σ' H' D I' q
 | ret v=>exact q
 | brk=>exact q
 | cont=>exact q
theorem Z09(h1:PS X st t):PSs X [st] t:=by
 intro pins s σ H D I h
 refine wpAny_execs_cons (thn (h1 pins s σ H D I h) λf s1 q=>?_)
 cases f with
 | next=>exact wpAny_execs_nil q
 | ret v=>exact q
 | brk=>exact q
 | cont=>exact q
theorem Inv.quiet{pins:List (Addr×Obj)}{σ:St}{H:Hp}{s:Xg}(I:Inv X pins σ H s):interactive X.env=false:=by simp[interactive,I.ok.kind]
noncomputable def Yao(te:TE):TS:=λD σ H=>te σ H λ_ H1=>D.nx σ H1
theorem Zn4(he:PE X e te)(hs:V5 e none pos.line X.env=pure false:=by rfl):PS X (.Expr e pos) (Yao te):=by
 intro pins s σ H D I h
 refine wpAny_Expr_any (thn (he pins s σ H _ I h) λv s1 qz9=>?_) I.quiet hs
 obtain⟨x,H1,I1,r1,q1⟩:=qz9
 exact⟨σ,H1,I1,q1⟩
noncomputable def Ydi(te:TE):TS:=λD σ H=>te σ H D.rt
theorem Zx2(he:PE X e te):PS X (.Return (some e) pos) (Ydi te):=by
 intro pins s σ H D I h
 refine wpAny_Return_some (thn (he pins s σ H _ I h) λv s1 qz9=>?_)
 obtain⟨x,H1,I1,r1,q1⟩:=qz9
 exact⟨x,σ,H1,I1,r1,q1⟩
noncomputable def Yed(c:TT)(t u:TS):TS:=λD σ H=>c σ H λb H1=>if b=true then t D σ H1 else u D σ H1
theorem Z9j{c:Expr}{a b:List Stmt}{tc:TT}(hc:PT X c tc)(ha:PSs X a t)(hb:PSs X b u):PS X (.If c a b pos) (Yed tc t u):=by
 intro pins s σ H D I h
 refine wpAny_If (thn (hc pins s σ H _ I h) λd s1 qz9=>?_)
 obtain⟨H1,I1,q1⟩:=qz9
 cases d with
 | true=>exact ha pins s1 σ H1 D I1 q1
 | false=>exact hb pins s1 σ H1 D I1 q1
noncomputable def Z5f:TS:=λ_ _ _=>False
theorem Zww:PS X st Z5f:=λ_ _ _ _ _ _ h=>h.elim
end
noncomputable abbrev TG:=V->St->Hp->(St->Hp->Prop)->Prop
noncomputable abbrev TGs:=List V->St->Hp->(St->Hp->Prop)->Prop
noncomputable def PG(X:Cx)(target:Expr)(t:TG):Prop :=
 ∀(pins:List (Addr×Obj)) (s:Xg) (σ:St) (H:Hp) (v:V) (u:Xd) (Q:St->Hp->Prop),Inv X pins σ H s->RelV v u->t v σ H Q ->
  XC (X6 X.prog X.w) X.A (UJ target X.env u) (λ_ s'=>∃σ' H',Inv X pins σ' H' s'∧Q σ' H') X.xe s
noncomputable def PGs(X:Cx)(ts:List Expr)(t:TGs):Prop :=
 ∀(pins:List (Addr×Obj)) (s:Xg) (σ:St) (H:Hp) (vs:List V) (us:List Xd) (Q:St->Hp->Prop),Inv X pins σ H s->Vals vs us->t vs σ H Q ->
  XC (X6 X.prog X.w) X.A (assignInOrder ((JQ ts X.env).map (·.2)) us) (λ_ s'=>∃σ' H',Inv X pins σ' H' s'∧Q σ' H') X.xe s
noncomputable abbrev Z8t:=V->V->V->Hp->(Hp->Prop)->Prop
noncomputable def Ybj(X:Cx)(t:Z8t):Prop :=
 ∀(pins:List (Addr×Obj)) (s:Xg) (σ:St) (H:Hp) (o i v:V) (ov iv u:Xd) (Q:Hp->Prop),Inv X pins σ H s->RelV o ov->RelV i iv->RelV v u->t o i v H Q ->
  XC (X6 X.prog X.w) X.A (setItem ov iv u) (λ_ s'=>∃H',Inv X pins σ H' s'∧Q H') X.xe s
noncomputable abbrev TIp:=V->V->Hp->VK->Prop
section
variable {X:Cx}{pos:Pos}
noncomputable def Zs5(i:Nat):TG:=λv σ H Q=>Q (σ.set i (some v)) H
theorem Zzf{i:Nat}{x:Str}(hN:X.N.Nodup)(hi:X.N[i]? =some x)(hx:Loc X.env.scope x)(hf:X.fn x=true∨X.env.scope.names.lookup x=some .local:=by first|exact .inl rfl|exact .inr rfl|assumption):PG X (.Name x pos) (Zs5 i):=by
 intro pins s σ H v u Q I r h
 exact wpAny_assign_Name (Zos I hN hi hx r (λs' I'=>⟨_,H,I',h⟩) hf)
noncomputable def Ydr:TGs:=λvs σ H Q=>vs=[]∧Q σ H
noncomputable def Z8m(t:TG)(u:TGs):TGs:=λvs σ H Q=>∃v r,vs=v :: r∧t v σ H λσ' H'=>u r σ' H' Q
theorem Z0h:PGs X [] Ydr:=by
 intro pins s σ H vs us Q I r h
 obtain⟨e,h⟩:=h
 subst e
 cases r
 exact assignInOrder_nil ⟨σ,H,I,h⟩
theorem Zxo{e:Expr}{es:List Expr}{t:TG}{u:TGs}(h1:PG X e t)(h2:PGs X es u)
  (hs:(JQ (e :: es) X.env).map (·.2)=UJ e X.env :: (JQ es X.env).map (·.2):=by rfl):PGs X (e :: es) (Z8m t u):=by
 intro pins s σ H vs us Q I r h
 obtain⟨v,vr,e1,h⟩:=h
 subst e1
 cases r with
 | cons r rr=>
  rw[hs]
  refine assignInOrder_cons (thn (h1 pins s σ H _ _ _ I r h) λ_ s1 qz9=>?_)
  obtain⟨σ1,H1,I1,q1⟩:=qz9
  exact h2 pins s1 σ1 H1 _ _ Q I1 rr q1
noncomputable def Ydn(K:Xc)(n:Nat)(t:TGs):TG:=λv σ H Q=>∃a xs,v= .ref a∧SqT K H a xs∧xs.length=n∧t xs σ H Q
theorem Z5v{es:List Expr}{k:Nat}{t:TGs}{n:Nat}(hc:X.calm=true)(h:PGs X es t)
  (hn:(JQ es X.env).length=n:=by rfl) (hst:(JQ es X.env).findIdx? (·.1)=none:=by rfl):PG X (.Tuple es k pos) (Ydn X.K n t):=by
 intro pins s σ H v u Q I r hw
 obtain⟨a,xs,e1,hq,hl,hw⟩:=hw
 subst e1
 cases r
 obtain⟨its,rv,ht,hz⟩:=I.tuple hq
 refine assign_Tuple_tuple (I.ok.hd hc) ht (by simp[hn,←hl,rv.length]) hst λh' hx=>?_
 have I1:Inv X pins σ H { s with heap:=h' }:=I.kept (t':=s.toks) λb o e=>hx b o (Xo (XJ e)) e
 exact h pins _ σ H xs _ Q I1 (by simpa using rv) hw
noncomputable def Yc2(to ti:TE)(t:Z8t):TG:=λv σ H Q=>to σ H λo H1=>ti σ H1 λi H2=>t o i v H2 λH3=>Q σ H3
theorem Z55{o i:Expr}{to ti:TE}{t:Z8t}(ho:PE X o to)(hi:PE X i ti)(hs:Ybj X t)
  (ha:∀v,UJ (.Subscript o i pos) X.env v=(do
   let ov←holding [v] (eval o X.env)
   let iv←holding [v,ov] (eval i X.env)
   standAt pos
   holding [v,ov,iv] (setItem ov iv v)
   release [v,ov,iv] []):=by intro _;rfl):PG X (.Subscript o i pos) (Yc2 to ti t):=by
 intro pins s σ H v u Q I r h
 rw[ha]
 refine Xb (Bv (thn (ho pins s σ H _ I h) λov s1 qz9=>?_))
 obtain⟨x,H1,I1,r1,q1⟩:=qz9
 refine Xb (Bv (thn (hi pins s1 σ H1 _ I1 q1) λiv s2 qz9=>?_))
 obtain⟨y,H2,I2,r2,q2⟩:=qz9
 refine Xb (wpAny_standAt (Xb (Bv (thn (hs pins s2 σ H2 x y v ov iv u _ I2 r1 r2 r q2) λ_ s3 qz9=>?_))))
 obtain⟨H3,I3,q3⟩:=qz9
 exact wpAny_release ⟨σ,H3,I3,q3⟩
noncomputable def Z4c(te:TE)(g:TG):TS:=λD σ H=>te σ H λx H1=>g x σ H1 D.nx
theorem Zyy{tg e:Expr}{te:TE}{g:TG}(he:PE X e te)(hg:PG X tg g)(hs:swapsWithSole [tg] e pos.line X.env=pure false:=by rfl)(hw:swappedStores [tg] e X.env=pure none:=by rfl)
  (h1:(JQ [tg] X.env).map (·.2)=[UJ tg X.env]:=by rfl):PS X (.Assign [tg] e pos) (Z4c te g):=by
 intro pins s σ H D I h
 refine wpAny_Assign_stores (thn (he pins s σ H _ I h) λv s1 qz9=>?_) hs hw
 obtain⟨x,H1,I1,r1,q1⟩:=qz9
 rw[h1]
 exact thn (hg pins s1 σ H1 x v _ I1 r1 q1) λ_ s2 q=>q
theorem Zyw{i:Nat}{x:Str}{e:Expr}{te:TE}{pos':Pos}(hN:X.N.Nodup)(hi:X.N[i]? =some x)(hx:Loc X.env.scope x)(he:PE X e te)(hs:V5 e (some (.Name x pos')) pos.line X.env=pure false:=by rfl)(hf:X.fn x=true∨X.env.scope.names.lookup x=some .local:=by first|exact .inl rfl|exact .inr rfl|assumption) :
  PS X (.Assign [.Name x pos'] e pos) (Z4c te (Zs5 i)):=by
 intro pins s σ H D I h
 refine wpAny_Assign_Name (thn (he pins s σ H _ I h) λv s1 qz9=>?_) hs
 obtain⟨y,H1,I1,r1,q1⟩:=qz9
 exact Zos I1 hN hi hx r1 (λs2 I2=>⟨_,H1,I2,q1⟩) hf
end
section
variable {X:Cx}{pos:Pos}
noncomputable def Z5e(c:TT)(tb:TS):TS:=λD σ H=>∃W:Nat->St->Hp->Prop,(∃m,W m σ H)∧∀m σ H,W m σ H ->
 c σ H λb H1=>if b=true then∃N:St->Hp->Prop,(∀σ' H',N σ' H'->∃m',m'<m∧W m' σ' H')∧tb { D with nx:=N,ct:=N,bk:=D.nx } σ H1 else D.nx σ H1
theorem Zvq{c:Expr}{body:List Stmt}{tc:TT}{tb:TS}(hp:PassesOwn (X6 X.prog X.w) X.A X.env X.xe)(hc:PT X c tc)(hb:PSs X body tb):PS X (.While c body [] pos) (Z5e tc tb):=by
 intro pins s σ H D I h
 obtain⟨W,⟨m0,w0⟩,turn⟩:=h
 refine wpAny_While (codeAny_whileLoop (λn s'=>∃σ' H',Inv X pins σ' H' s'∧W n σ' H') ?_ m0 ⟨σ,H,I,w0⟩)
 rintro n s1 ⟨σ1,H1,I1,w1⟩
 refine VD hp (thn (hc pins s1 σ1 H1 _ I1 (turn n σ1 H1 w1)) λb s2 qz9=>?_)
 obtain⟨H2,I2,q2⟩:=qz9
 cases b with
 | true=>
  obtain⟨N,hN,q2⟩:=q2
  rw[if_pos rfl]
  refine VD hp (thn (hb pins s2 σ1 H2 _ I2 q2) λf s3 q3=>?_)
  cases f with
  | next=>
   obtain⟨σ3,H3,I3,n3⟩:=q3
   obtain⟨m',hm,w3⟩:=hN σ3 H3 n3
   exact⟨m',hm,σ3,H3,I3,w3⟩
  | cont=>
   obtain⟨σ3,H3,I3,n3⟩:=q3
   obtain⟨m',hm,w3⟩:=hN σ3 H3 n3
   exact⟨m',hm,σ3,H3,I3,w3⟩
  | brk=>exact q3
  | ret v=>exact q3
 | false=>
  rw[if_neg Xm]
  exact wpAny_execs_nil ⟨σ1,H2,I2,q2⟩
end
set_option genInjectivity false in
structure It where
 go:Nat->Hp->Prop
 yld:Nat->Hp->V->Hp->Prop
 stop:Nat->Hp->Prop
noncomputable def Zj6(X:Cx)(pins:List (Addr×Obj))(H:Hp)(b:Addr):Prop :=
 H b=none∧b≠X.env.locals∧b∉X.fs∧(b∈X.ex∨X.s₀.heap.objs.size≤b)∧(∀x c,X.env.cells.lookup x=some c->c≠b)∧∀p∈X.pn ++ pins,p.1≠b
theorem Inv.fpOk{X:Cx}{pins:List (Addr×Obj)}{σ:St}{H H':Hp}{s:Xg}{b:Addr}(I:Inv X pins σ H s)(hb:s.heap.objs.size≤b)(hn:H' b=none):Zj6 X pins H' b:=by
 refine⟨hn,XM (Qi I.lt hb),I.nofs hb,.inr (QT I.sz hb),λx c e z=>?_,λp hp z=>?_⟩
 ·obtain⟨v,q⟩:=I.cell x c e
  exact absurd (Qi q.lt (by rw[z];exact hb)) (Bq _)
 ·exact absurd (Qi (XJ (I.pin p hp).1) (by rw[z];exact hb)) (Bq _)
structure Turn(P:Qa)(w:Qs)(K:Xc)(tg:Expr)(J:It)(fp:List Addr)(it:Addr)(tn:Nat->Heap->Prop):Prop where
 mem:it∈fp
 obj:∀i h,tn i h->∀b∈fp,∃o,h.get? b=some o∧∀v,o.data≠ .cell v
 keep:∀i h h',tn i h->(∀b∈fp,∀o,h.get? b=some o->h'.get? b=some o)->tn i h'
 item:∀(X:Cx),X.prog=P->X.w=w->X.K=K->X.calm=true->∀(i:Nat) (pins:List (Addr×Obj)) (s:Xg) (σ:St) (H:Hp) (E:Xd->Xg->Prop),Inv X pins σ H s->(∀b∈fp,Zj6 X pins H b)->tn i s.heap->J.go i H ->
  XC (X6 P w) X.A (V9 (.ref it)) (λr s1=>∃u,r=some u∧
   XC (X6 P w) X.A (letOwnedTupleGo tg (.ref it) u) (λ_ s2=>∃x H',Inv X pins σ H' s2∧RelV x u∧J.yld i H x H'∧tn (i+1) s2.heap∧∀b∈fp,H' b=none) E s1) E s
 done:∀(X:Cx),X.prog=P->X.w=w->X.K=K->X.calm=true->∀(i:Nat) (pins:List (Addr×Obj)) (s:Xg) (σ:St) (H:Hp) (E:Xd->Xg->Prop),Inv X pins σ H s->(∀b∈fp,Zj6 X pins H b)->tn i s.heap->J.stop i H ->
  XC (X6 P w) X.A (V9 (.ref it)) (λr s1=>r=none∧Inv X pins σ H s1) E s
 self:∀(A:Qq) (i:Nat) (s:Xg) (Q:Xd->Xg->Prop) (E:Xd->Xg->Prop),tn i s.heap->Q (.ref it) s->XC (X6 P w) A (pyIter (.ref it)) Q E s
noncomputable abbrev TI:=St->Hp->(It->Hp->Prop)->Prop
noncomputable def PIE(X:Cx)(pins:List (Addr×Obj))(σ:St)(tg:Expr)(R:It->Hp->Prop)(itv:Xd)(s2:Xg):Prop :=
 ∃(it:Addr) (fp:List Addr) (tn:Nat->Heap->Prop) (J:It) (H':Hp),itv= .ref it∧Inv X pins σ H' s2∧Turn X.prog X.w X.K tg J fp it tn∧tn 0 s2.heap∧(∀b∈fp,Zj6 X pins H' b)∧R J H'
noncomputable def PI(X:Cx)(tg iter:Expr)(wi:TI):Prop :=
 ∀(pins:List (Addr×Obj)) (s:Xg) (σ:St) (H:Hp) (R:It->Hp->Prop),Inv X pins σ H s->wi σ H R ->
  XC (X6 X.prog X.w) X.A (eval iter X.env) (λv s1=>XC (X6 X.prog X.w) X.A (pyIter v) (PIE X pins σ tg R) X.xe s1) X.xe s
theorem Z1j{M:Model}{A:Qq}{E:Xd->Xg->Prop}{s:Xg}{tg:Expr}{it:Addr}{u:Xd}{o:Obj}{n:String}{vs:Array Xd}{Q:Unit->Xg->Prop}(ho:s.heap.get? it=some o)(hc:o.cls= .type n)(hd:o.data= .fields vs)
  (hn:["enumerate","zip","dict_itemiterator","dict_reverseitemiterator","odict_iterator","itertools.zip_longest","itertools.pairwise"].contains n=false) (hQ:Q () s):XC M A (letOwnedTupleGo tg (.ref it) u) Q E s:=by
 unfold letOwnedTupleGo
 cases tg<;>first
  | exact Xl hQ
  | (cases u<;>first
    | exact Xl hQ
    | (refine Xb (wpAny_load ho ?_)
       rw[hc,hd]
       show XC M A (if(["enumerate","zip","dict_itemiterator","dict_reverseitemiterator","odict_iterator","itertools.zip_longest","itertools.pairwise"].contains n&&vs[0]? ==some (JL _))=true then _ else _) Q E s
       rw[if_neg (by intro h;rw[hn,Bool.false_and]at h;cases h)]
       exact Xl hQ))
noncomputable def Itl(K:Xc)(a:Addr):It :=
 ⟨λi H=>∃xs x,SqL K H a xs∧xs[i]? =some x,λi H x H'=>H'=H∧∀xs,SqL K H a xs->xs[i]? =some x,λi H=>∃xs,SqL K H a xs∧xs.length≤i⟩
noncomputable def Itt(K:Xc)(a:Addr):It :=
 ⟨λi H=>∃xs x,SqT K H a xs∧xs[i]? =some x,λi H x H'=>H'=H∧∀xs,SqT K H a xs->xs[i]? =some x,λi H=>∃xs,SqT K H a xs∧xs.length≤i⟩
noncomputable def Itr(lo:Int)(n:Nat):It:=⟨λi _=>i<n,λi H x H'=>H'=H∧x= .int (lo+i),λi _=>n≤i⟩
theorem Zs9{P:Qa}{w:Qs}{K:Xc}{tg:Expr}(a it:Addr):Turn P w K tg (Itl K a) [it] it (λi h=>h.IsListIter it a i) where
 mem:=by simp
 obj:=λi h st b hb=>by
  have e:b=it:=by simpa using hb
  subst e
  obtain⟨o,e,c,d⟩:=st
  exact⟨o,e,λv z=>by rw[d]at z;cases z⟩
 keep:=λi h h' st k=>st.at λo e=>k it (by simp) o e
 item:=by
  intro X hP hw hK hc i pins s σ H E I hf st hg
  subst hP hw hK
  obtain⟨xs,x,hq,hx⟩:=hg
  obtain⟨its,rv,p,hz⟩:=I.list hq
  obtain⟨u,hu,ru⟩:=rv.get hx
  obtain⟨f0,f1,f2,f3,f4,f5⟩:=hf it (by simp)
  refine wpAny_pyNext_list_item st p.isList (x:=u) (by simpa using hu) λh' st' sb=>?_
  have I1:Inv X pins σ H { s with heap:=h' }:=I.turned (t':=s.toks) (λb o hb e=>(sb.2 b hb).trans e) f0 f1 f3 f4 f5
  obtain⟨o,e,c,d⟩:=id st'
  exact⟨u,rfl,Z1j (s:={ s with heap:=h' }) e c d (by decide) ⟨x,H,I1,ru,⟨rfl,λys hy=>by rw[I.list_inj hy hq];exact hx⟩,st',λb hb=>(hf b hb).1⟩⟩
 done:=by
  intro X hP hw hK hc i pins s σ H E I hf st hg
  subst hP hw hK
  obtain⟨xs,hq,hx⟩:=hg
  obtain⟨its,rv,p,hz⟩:=I.list hq
  obtain⟨f0,f1,f2,f3,f4,f5⟩:=hf it (by simp)
  have hl:=rv.length
  exact wpAny_pyNext_list_end (I.ok.hd hc) st p.isList (by simp;omega) λh' eb=>⟨rfl,I.turned (t':=s.toks) (λb o hb e=>eb b o hb e) f0 f1 f3 f4 f5⟩
 self:=λ_ _ _ _ _ st h=>wpAny_pyIter_listiter st h
theorem Zqr{P:Qa}{w:Qs}{K:Xc}{tg:Expr}(a it:Addr):Turn P w K tg (Itt K a) [it] it (λi h=>h.IsTupleIter it a i) where
 mem:=by simp
 obj:=λi h st b hb=>by
  have e:b=it:=by simpa using hb
  subst e
  obtain⟨o,e,c,d⟩:=st
  exact⟨o,e,λv z=>by rw[d]at z;cases z⟩
 keep:=λi h h' st k=>st.at λo e=>k it (by simp) o e
 item:=by
  intro X hP hw hK hc i pins s σ H E I hf st hg
  subst hP hw hK
  obtain⟨xs,x,hq,hx⟩:=hg
  obtain⟨its,rv,p,hz⟩:=I.tuple hq
  obtain⟨u,hu,ru⟩:=rv.get hx
  obtain⟨f0,f1,f2,f3,f4,f5⟩:=hf it (by simp)
  refine wpAny_pyNext_tuple_item st (show s.heap.IsTuple a its.toArray from p) (x:=u) (by simpa using hu) λh' st' sb=>?_
  have I1:Inv X pins σ H { s with heap:=h' }:=I.turned (t':=s.toks) (λb o hb e=>(sb.2 b hb).trans e) f0 f1 f3 f4 f5
  obtain⟨o,e,c,d⟩:=id st'
  exact⟨u,rfl,Z1j (s:={ s with heap:=h' }) e c d (by decide) ⟨x,H,I1,ru,⟨rfl,λys hy=>by rw[I.tuple_inj hy hq];exact hx⟩,st',λb hb=>(hf b hb).1⟩⟩
 done:=by
  intro X hP hw hK hc i pins s σ H E I hf st hg
  subst hP hw hK
  obtain⟨xs,hq,hx⟩:=hg
  obtain⟨its,rv,p,hz⟩:=I.tuple hq
  obtain⟨f0,f1,f2,f3,f4,f5⟩:=hf it (by simp)
  have hl:=rv.length
  exact wpAny_pyNext_tuple_end (I.ok.hd hc) st (show s.heap.IsTuple a its.toArray from p) (by simp;omega) λh' eb=>⟨rfl,I.turned (t':=s.toks) (λb o hb e=>eb b o hb e) f0 f1 f3 f4 f5⟩
 self:=λ_ _ _ _ _ st h=>wpAny_pyIter_tupleiter st h
theorem Zqa{P:Qa}{w:Qs}{K:Xc}{tg:Expr}(it:Addr)(lo:Int)(n:Nat):Turn P w K tg (Itr lo n) [it] it (λi h=>IsRangeIter h it (lo+(i:Nat)*1) ((n:Int)-(i:Nat)) 1) where
 mem:=by simp
 obj:=λi h st b hb=>by
  have e:b=it:=by simpa using hb
  subst e
  exact⟨_,st,λv z=>by
   have z':Data.fields _=Data.cell v:=z
   cases z'⟩
 keep:=λi h h' st k=>k it (by simp) _ st
 item:=by
  intro X hP hw hK hc i pins s σ H E I hf st hg
  subst hP hw hK
  obtain⟨f0,f1,f2,f3,f4,f5⟩:=hf it (by simp)
  have W:=Walks.range (prog:=X.prog) (w:=X.w) (I.ok.hd hc) it lo 1 n
  refine W.item i s _ _ hg st λv h' tk hv st' kk=>?_
  obtain⟨t,rfl⟩:=hv
  have I1:Inv X pins σ H { s with heap:=h',toks:=tk }:=I.turned (λb o hb e=>kk b o (by simpa using hb) e) f0 f1 f3 f4 f5
  refine⟨_,rfl,Z1j (s:={ s with heap:=h',toks:=tk }) (n :="range_iterator") st' rfl rfl (by decide) ⟨.int (lo+i),H,I1,⟨t,?_⟩,⟨rfl,rfl⟩,st',λb hb=>(hf b hb).1⟩⟩
  rw[Int.mul_one]
 done:=by
  intro X hP hw hK hc i pins s σ H E I hf st hg
  subst hP hw hK
  obtain⟨f0,f1,f2,f3,f4,f5⟩:=hf it (by simp)
  exact wpAny_pyNext_range_end (I.ok.hd hc) st (by have:n≤i:=hg;omega) λh' eb=>⟨rfl,I.turned (t':=s.toks) (λb o hb e=>eb b o hb e) f0 f1 f3 f4 f5⟩
 self:=λ_ _ _ _ _ st h=>wpAny_pyIter_rangeiter st h
section
variable {X:Cx}{tg:Expr}
noncomputable def Z7m(K:Xc)(tl:TE):TI:=λσ H R=>tl σ H λx H1=>∃a,x= .ref a∧(∃xs,SqL K H1 a xs)∧R (Itl K a) H1
noncomputable def Ybb(K:Xc)(tl:TE):TI:=λσ H R=>tl σ H λx H1=>∃a,x= .ref a∧(∃xs,SqT K H1 a xs)∧R (Itt K a) H1
theorem Zz9{l:Expr}{tl:TE}(hl:PE X l tl):PI X tg l (Z7m X.K tl):=by
 intro pins s σ H R I h
 refine thn (hl pins s σ H _ I h) λv s1 qz9=>?_
 obtain⟨x,H1,I1,r1,q1⟩:=qz9
 obtain⟨a,e,⟨xs,hq⟩,q⟩:=q1
 subst e
 cases r1
 obtain⟨its,rv,p,hz⟩:=I1.list hq
 refine wpAny_pyIter_list p.isList ?_
 refine⟨s1.heap.objs.size,[s1.heap.objs.size],_,_,H1,rfl,I1.kept (t':=s1.toks) λb o e=>Xe _ e,Zs9 a _,⟨_,Xw _ rfl,rfl,rfl⟩,λb hb=>?_,q⟩
 have e:b=s1.heap.objs.size:=by simpa using hb
 subst e
 exact I1.fpOk (XN _) (I1.hok.fresh (XN _))
theorem Z6j{l:Expr}{tl:TE}(hl:PE X l tl):PI X tg l (Ybb X.K tl):=by
 intro pins s σ H R I h
 refine thn (hl pins s σ H _ I h) λv s1 qz9=>?_
 obtain⟨x,H1,I1,r1,q1⟩:=qz9
 obtain⟨a,e,⟨xs,hq⟩,q⟩:=q1
 subst e
 cases r1
 obtain⟨its,rv,p,hz⟩:=I1.tuple hq
 refine wpAny_pyIter_tuple (show s1.heap.IsTuple a its.toArray from p) ?_
 refine⟨s1.heap.objs.size,[s1.heap.objs.size],_,_,H1,rfl,I1.kept (t':=s1.toks) λb o e=>Xe _ e,Zqr a _,⟨_,Xw _ rfl,rfl,rfl⟩,λb hb=>?_,q⟩
 have e:b=s1.heap.objs.size:=by simpa using hb
 subst e
 exact I1.fpOk (XN _) (I1.hok.fresh (XN _))
theorem Zpn{pins:List (Addr×Obj)}{σ:St}{H:Hp}{s:Xg}{R:It->Hp->Prop}{E:Xd->Xg->Prop}{lo hi:Int}{t u v:Tok}{tk:Nat}(I:Inv X pins σ H s)(h1:-(2^62)≤lo)(h2:lo<2^62)(h3:-(2^62)≤hi)(h4:hi<2^62)
  (q:R (Itr lo (hi-lo).toNat) H):XC (X6 X.prog X.w) X.A (pyIter (.ref s.heap.objs.size)) (PIE X pins σ tg R) E { s with heap:=s.heap.push { cls:=.type "range",data:=.fields #[.int lo t,.int hi u,.int 1 v] },toks:=tk }:=by
 refine wpAny_pyIter_range (IsRange.new ..) (small_one h1 h2 h3 h4) ?_
 have I1:Inv X pins σ H { s with heap:=s.heap.push { cls:=.type "range",data:=.fields #[.int lo t,.int hi u,.int 1 v] },toks:=tk }:=I.kept λb o e=>Xe _ e
 refine⟨(s.heap.push { cls:=.type "range",data:=.fields #[.int lo t,.int hi u,.int 1 v] }).objs.size,[(s.heap.push { cls:=.type "range",data:=.fields #[.int lo t,.int hi u,.int 1 v] }).objs.size],_,_,H,rfl,
  I1.kept (t':=tk) λb o e=>Xe _ e,Zqa _ lo (hi-lo).toNat,?_,λb hb=>?_,q⟩
 ·have e1:lo+((0:Nat):Int)*1=lo:=by simp
  have e2:(((hi-lo).toNat:Nat):Int)-((0:Nat):Int)=Builtin.Range.rangeSize lo hi 1:=by rw[rangeSize_one];split<;>omega
  show IsRangeIter _ _ (lo+((0:Nat):Int)*1) ((((hi-lo).toNat:Nat):Int)-((0:Nat):Int)) 1
  rw[e1,e2]
  exact Xw _ rfl
 ·have e:b=(s.heap.push { cls:=.type "range",data:=.fields #[.int lo t,.int hi u,.int 1 v] }).objs.size:=by simpa using hb
  subst e
  exact I1.fpOk (XN _) (I1.hok.fresh (XN _))
noncomputable def Z8y(ta:TA):TI:=λσ H R=>ta σ H λvs H1=>∃j:Int,vs=[.int j]∧-(2^62)≤j∧j<2^62∧R (Itr 0 j.toNat) H1
noncomputable def Z8v(ta:TA):TI:=λσ H R=>ta σ H λvs H1=>∃i j:Int,vs=[.int i,.int j]∧(-(2^62)≤i∧i<2^62∧-(2^62)≤j∧j<2^62)∧R (Itr i (j-i).toNat) H1
theorem Zt2{a:Expr}{ta:TA}{p pos:Pos}(hg:Gl X "range")(hm:X.mg "range"=none)(ha:PA X [a] ta)(hs:Xp [a] X.env=[(false,eval a X.env)]:=by rfl):PI X tg (.Call (.Name "range" p) [a] [] pos) (Z8y ta):=by
 intro pins s σ H R I h
 refine Call_ (Zgu I hg hm boot_range (Br (thn (ha pos pins s σ H _ I h) λus s1 qz9=>?_) hs rfl))
 obtain⟨vs,H1,I1,r1,q1⟩:=qz9
 obtain⟨j,e,q1,q2,q⟩:=q1
 subst e
 cases r1 with
 | cons r rr=>
  cases rr
  obtain⟨t,rfl⟩:=r
  exact call_range_1 (Zpn I1 (by omega) (by omega) q1 q2 (by simpa using q))
theorem Zur{a b:Expr}{ta:TA}{p pos:Pos}(hg:Gl X "range")(hm:X.mg "range"=none)(ha:PA X [a,b] ta)(hs:Xp [a,b] X.env=[(false,eval a X.env),(false,eval b X.env)]:=by rfl)(hs2:Xp [b] X.env=[(false,eval b X.env)]:=by rfl) :
  PI X tg (.Call (.Name "range" p) [a,b] [] pos) (Z8v ta):=by
 intro pins s σ H R I h
 refine Call_ (Zgu I hg hm boot_range (Br (thn (ha pos pins s σ H _ I h) λus s1 ⟨vs,H1,I1,r1,q1⟩=>?_) (by rw[hs,hs2]) (by rw[hs2];rfl)))
 obtain⟨i,j,e,⟨q1,q2,q3,q4⟩,q⟩:=q1
 subst e
 cases r1 with
 | cons r rr=>
  cases rr with
  | cons r' rr=>
   cases rr
   obtain⟨t,rfl⟩:=r
   obtain⟨t',rfl⟩:=r'
   exact call_range_2 (Zpn I1 q1 q2 q3 q4 q)
noncomputable def Ydd(wi:TI)(g:TG)(tb:TS):TS:=λD σ H=>wi σ H λJ H1=>∃W:Nat->Nat->St->Hp->Prop,(∃m,W 0 m σ H1)∧∀i m σ H,W i m σ H ->
 (J.stop i H∧D.nx σ H)∨(J.go i H∧∃N:St->Hp->Prop,(∀σ' H',N σ' H'->∃m',m'<m∧W (i+1) m' σ' H')∧∀x H',J.yld i H x H'->g x σ H' λσ2 H2=>tb { D with nx:=N,ct:=N,bk:=D.nx } σ2 H2)
noncomputable def Zmq(fp:List Addr)(h:Heap):List (Addr×Obj):=fp.filterMap λb=>(h.get? b).map λo=>(b,o)
theorem Zdn{fp:List Addr}{h:Heap}{b:Addr}{o:Obj}(hb:b∈fp)(e:h.get? b=some o):(b,o)∈Zmq fp h:=List.mem_filterMap.mpr ⟨b,hb,by rw[e];rfl⟩
theorem Zub{fp:List Addr}{h:Heap}{p:Addr×Obj}(hp:p∈Zmq fp h):p.1∈fp∧h.get? p.1=some p.2:=by
 obtain⟨b,hb,e⟩:=List.mem_filterMap.mp hp
 cases q:h.get? b with
 | none=>rw[q]at e;cases e
 | some o=>
  rw[q]at e
  have e':(b,o)=p:=QD e
  subst e'
  exact⟨hb,q⟩
theorem Inv.pinned{pins:List (Addr×Obj)}{σ:St}{H:Hp}{s:Xg}{fp:List Addr}(I:Inv X pins σ H s)(hf:∀b∈fp,Zj6 X pins H b)(ho:∀b∈fp,∃o,s.heap.get? b=some o∧∀v,o.data≠ .cell v):Inv X (pins ++ Zmq fp s.heap) σ H s :=
 I.pins_of λp hp=>(QW.mp hp).elim (λz=>I.pin p (Qg _ z)) λz=>by
  obtain⟨hb,e⟩:=Zub z
  obtain⟨f0,f1,f2,_⟩:=hf p.1 hb
  obtain⟨o,e',d⟩:=ho p.1 hb
  rw[e]at e';cases e'
  exact⟨e,f0,f1,f2,d⟩
theorem Inv.unpinned{pins pl:List (Addr×Obj)}{σ:St}{H:Hp}{s:Xg}(I:Inv X (pins ++ pl) σ H s):Inv X pins σ H s:=I.pins_of λp hp=>I.pin p (Qg _ (VJ _ hp))
theorem Z4q{iter:Expr}{body:List Stmt}{wi:TI}{g:TG}{tb:TS}{pos:Pos}(hp:PassesOwn (X6 X.prog X.w) X.A X.env X.xe)(hc:X.calm=true)(hi:PI X tg iter wi)(hg:PG X tg g)(hb:PSs X body tb)
  (hs:∀x,BJ iter X.env x=pure x:=by intro _;rfl):PS X (.For tg iter body [] pos) (Ydd wi g tb):=by
 intro pins s σ H D I h
 refine wpAny_For (thn (hi pins s σ H _ I h) λv s1 h1=>thn h1 λitv s2 h2=>?_) hs
 obtain⟨it,fp,tn,J,H2,e,I2,T,st2,f2,W,⟨m0,w0⟩,turn⟩:=h2
 subst e
 -- what stays true of the iterator's objects through the loop
 have stat:∀{H':Hp},(∀b∈fp,H' b=none)->∀b∈fp,Zj6 X pins H' b:=λhn b hb=>⟨hn b hb,(f2 b hb).2⟩
 refine codeAny_forLoop_any (λn s'=>∃i σ' H',Inv X pins σ' H' s'∧tn i s'.heap∧(∀b∈fp,H' b=none)∧W i n σ' H') ?_ m0 ⟨0,σ,H2,I2,st2,λb hb=>(f2 b hb).1,w0⟩
 rintro n s3 ⟨i,σ3,H3,I3,st3,fr3,w3⟩
 rcases turn i n σ3 H3 w3 with⟨stop,qn⟩|⟨go,N,hN,step⟩
 ·refine VD hp (thn (T.done X rfl rfl rfl hc i pins s3 σ3 H3 X.xe I3 (stat fr3) st3 stop) λr s4 qz9=>?_)
  obtain⟨hr,I4⟩:=qz9
  subst hr
  exact wpAny_execs_nil ⟨σ3,H3,I4,qn⟩
 ·refine VD hp (thn (T.item X rfl rfl rfl hc i pins s3 σ3 H3 X.xe I3 (stat fr3) st3 go) λr s4 qz9=>?_)
  obtain⟨u,hr,h4⟩:=qz9
  subst hr
  refine VD hp (thn h4 λ_ s5 qz9=>?_)
  obtain⟨x,H5,I5,r5,y5,st5,fr5⟩:=qz9
  have I5':=I5.pinned (stat fr5) (T.obj _ _ st5)
  refine VD hp (thn (hg _ s5 σ3 H5 x u _ I5' r5 (step x H5 y5)) λ_ s6 qz9=>?_)
  obtain⟨σ6,H6,I6,q6⟩:=qz9
  refine VD hp (thn (hb _ s6 σ6 H6 _ I6 q6) λf s7 q7=>?_)
  have again:∀{σ7:St} {H7:Hp},Inv X (pins ++ Zmq fp s5.heap) σ7 H7 s7->N σ7 H7->∃m,m<n∧∃i σ' H',Inv X pins σ' H' s7∧tn i s7.heap∧(∀b∈fp,H' b=none)∧W i m σ' H':=fun{σ7 H7} I7 n7=>by
   obtain⟨m',hm,w7⟩:=hN σ7 H7 n7
   refine⟨m',hm,i+1,σ7,H7,I7.unpinned,T.keep _ _ _ st5 λb hb o e=>(I7.pin (b,o) (Qg _ (Qg _ (Zdn hb e)))).1,λb hb=>?_,w7⟩
   obtain⟨o,e,d⟩:=T.obj _ _ st5 b hb
   exact(I7.pin (b,o) (Qg _ (Qg _ (Zdn hb e)))).2.1
  cases f with
  | next=>obtain⟨σ7,H7,I7,n7⟩:=q7;exact again I7 n7
  | cont=>obtain⟨σ7,H7,I7,n7⟩:=q7;exact again I7 n7
  | brk=>obtain⟨σ7,H7,I7,q7⟩:=q7;exact⟨σ7,H7,I7.unpinned,q7⟩
  | ret v=>obtain⟨x7,σ7,H7,I7,r7,q7⟩:=q7;exact⟨x7,σ7,H7,I7.unpinned,r7,q7⟩
end
noncomputable abbrev R2:=V->V->Hp->VK->Prop
noncomputable def OpR(X:Cx)(f:Xd->Xd->Sem Xd)(r:R2):Prop :=
 ∀(pins:List (Addr×Obj)) (s:Xg) (σ:St) (H:Hp) (x y:V) (v u:Xd) (Q:VK),Inv X pins σ H s->RelV x v->RelV y u->r x y H Q ->
  XC (X6 X.prog X.w) X.A (f v u) (EP X pins σ Q) X.xe s
noncomputable def UnR(X:Cx)(f:Xd->Sem Xd)(r:V->Hp->VK->Prop):Prop :=
 ∀(pins:List (Addr×Obj)) (s:Xg) (σ:St) (H:Hp) (x:V) (v:Xd) (Q:VK),Inv X pins σ H s->RelV x v->r x H Q ->
  XC (X6 X.prog X.w) X.A (f v) (EP X pins σ Q) X.xe s
noncomputable def Zd6(X:Cx)(f:Xd)(r:List V->Hp->VK->Prop):Prop :=
 ∀(pins:List (Addr×Obj)) (s:Xg) (σ:St) (H:Hp) (xs:List V) (us:List Xd) (Q:VK),Inv X pins σ H s->Vals xs us->r xs H Q ->
  XC (X6 X.prog X.w) X.A (call f us) (EP X pins σ Q) X.xe s
noncomputable def Yd2(X:Cx)(r:V->Hp->(Bool->Hp->Prop)->Prop):Prop :=
 ∀(pins:List (Addr×Obj)) (s:Xg) (σ:St) (H:Hp) (x:V) (v:Xd) (Q:Bool->Hp->Prop),Inv X pins σ H s->RelV x v->r x H Q ->
  XC (X6 X.prog X.w) X.A (truthy v) (TP X pins σ Q) X.xe s
noncomputable def tOp(r:R2)(ta tb:TE):TE:=λσ H Q=>ta σ H λx H1=>tb σ H1 λy H2=>r x y H2 Q
noncomputable def tUn(r:V->Hp->VK->Prop)(ta:TE):TE:=λσ H Q=>ta σ H λx H1=>r x H1 Q
noncomputable def rI(C:Int->Int->Prop)(g:Int->Int->V):R2:=λx y H Q=>∃i j,x= .int i∧y= .int j∧C i j∧Q (g i j) H
noncomputable def rI0(g:Int->Int->V):R2:=λx y H Q=>∃i j,x= .int i∧y= .int j∧Q (g i j) H
noncomputable def rU(g:Int->V):V->Hp->VK->Prop:=λx H Q=>∃i,x= .int i∧Q (g i) H
section
variable {X:Cx}{a b c:Expr}{ta tb tc:TE}{pos:Pos}
theorem Z9c(ha:PE X a ta)(hb:PE X b tb){pins:List (Addr×Obj)}{s:Xg}{σ:St}{H:Hp}{R:V->V->Hp->Prop}(I:Inv X pins σ H s)
  (h:ta σ H λx H1=>tb σ H1 λy H2=>R x y H2) {Q:Xd->Xg->Prop} {f:Xd->Xd->Sem Xd}
  (hf:∀v u s2 x y H2,Inv X pins σ H2 s2->RelV x v->RelV y u->R x y H2->XC (X6 X.prog X.w) X.A (f v u) Q X.xe s2) :
  XC (X6 X.prog X.w) X.A (eval a X.env) (λv s₁=>XC (X6 X.prog X.w) X.A (eval b X.env) (λu s₂=>XC (X6 X.prog X.w) X.A (f v u) Q X.xe s₂) X.xe s₁) X.xe s:=by
 refine thn (ha pins s σ H _ I h) λv s1 qz9=>?_
 obtain⟨x,H1,I1,r1,q1⟩:=qz9
 refine thn (hb pins s1 σ H1 _ I1 q1) λu s2 qz9=>?_
 obtain⟨y,H2,I2,r2,q2⟩:=qz9
 exact hf v u s2 x y H2 I2 r1 r2 q2
theorem Z06{op:Operator}{r:R2}(ho:OpR X (Ug op) r)(ha:PE X a ta)(hb:PE X b tb):PE X (.BinOp a op b pos) (tOp r ta tb):=by
 intro pins s σ H Q I h
 exact wpAny_BinOp (Z9c ha hb I h λv u s2 x y H2 I2 rx ry q=>ho pins s2 σ H2 x y v u Q I2 rx ry q)
theorem Yak{op:UnaryOp}{r:V->Hp->VK->Prop}(ho:UnR X (unaryOp op) r)(ha:PE X a ta):PE X (.UnaryOp op a pos) (tUn r ta):=by
 intro pins s σ H Q I h
 refine UnaryOp_ (thn (ha pins s σ H _ I h) λv s1 qz9=>?_)
 obtain⟨x,H1,I1,r1,q1⟩:=qz9
 exact ho pins s1 σ H1 x v Q I1 r1 q1
theorem opI{f:Xd->Xd->Sem Xd}{C:Int->Int->Prop}{g:Int->Int->Int}
  (rule:∀(i j:Int) (t u:Tok) (s:Xg) (Q:Xd->Xg->Prop) (E:Xd->Xg->Prop),C i j->Q (.int (g i j) s.toks) { s with toks:=s.toks+1 }->XC (X6 X.prog X.w) X.A (f (.int i t) (.int j u)) Q E s) :
  OpR X f (rI C λi j=>.int (g i j)):=by
 intro pins s σ H x y v u Q I rx ry h
 obtain⟨i,j,rfl,rfl,hc,q⟩:=h
 obtain⟨t,rfl⟩:=rx
 obtain⟨t',rfl⟩:=ry
 exact rule i j t t' s _ _ hc ⟨.int (g i j),H,I.tok _,⟨_,rfl⟩,q⟩
theorem Ybn{f:Xd->Xd->Sem Xd}{g:Int->Int->Int}
  (rule:∀(i j:Int) (t u:Tok) (s:Xg) (Q:Xd->Xg->Prop) (E:Xd->Xg->Prop),Q (.int (g i j) s.toks) { s with toks:=s.toks+1 }->XC (X6 X.prog X.w) X.A (f (.int i t) (.int j u)) Q E s) :
  OpR X f (rI0 λi j=>.int (g i j)):=by
 intro pins s σ H x y v u Q I rx ry h
 obtain⟨i,j,rfl,rfl,q⟩:=h
 obtain⟨t,rfl⟩:=rx
 obtain⟨t',rfl⟩:=ry
 exact rule i j t t' s _ _ ⟨.int (g i j),H,I.tok _,⟨_,rfl⟩,q⟩
theorem Yag{f:Xd->Xd->Sem Xd}{g:Int->Int->Bool}
  (rule:∀(i j:Int) (t u:Tok) (s:Xg) (Q:Xd->Xg->Prop) (E:Xd->Xg->Prop),Q (.bool (g i j)) s->XC (X6 X.prog X.w) X.A (f (.int i t) (.int j u)) Q E s) :
  OpR X f (rI0 λi j=>.bl (g i j)):=by
 intro pins s σ H x y v u Q I rx ry h
 obtain⟨i,j,rfl,rfl,q⟩:=h
 obtain⟨t,rfl⟩:=rx
 obtain⟨t',rfl⟩:=ry
 exact rule i j t t' s _ _ ⟨.bl (g i j),H,I,rfl,q⟩
noncomputable def Z7z(i j:Int):Prop:=0≤j∧j≤1000000∧i.natAbs<2^64
noncomputable def CMul(i j:Int):Prop:=(-(2^64)<i∧i<2^64)∨(-(2^64)<j∧j<2^64)
theorem CMul.ok{i j:Int}(h:CMul i j):IntMulOk i j:=by
 rcases h with⟨h1,h2⟩|⟨h1,h2⟩
 ·exact .of_left (intBits_le_64 h1 h2)
 ·exact .of_right (intBits_le_64 h1 h2)
theorem Z3g:OpR X (Ug .Add) (rI0 λi j=>.int (i+j)):=Ybn λ_ _ _ _ _ _ _ q=>add_int q
theorem Zr9:OpR X (Ug .Sub) (rI0 λi j=>.int (i-j)):=Ybn λ_ _ _ _ _ _ _ q=>sub_int q
theorem Zzb:OpR X (Ug .Mod) (rI (λ_ j=>j≠0) λi j=>.int (i.fmod j)):=opI λ_ _ _ _ _ _ _ hc q=>mod_int' hc q
theorem Z3q:OpR X (Ug .Pow) (rI Z7z λi j=>.int (i^j.toNat)):=opI λ_ _ _ _ _ _ _ hc q=>pow_int_small hc.1 hc.2.1 hc.2.2 q
theorem unI{f:Xd->Sem Xd}{g:Int->Int}
  (rule:∀(i:Int) (t:Tok) (s:Xg) (Q:Xd->Xg->Prop) (E:Xd->Xg->Prop),Q (.int (g i) s.toks) { s with toks:=s.toks+1 }->XC (X6 X.prog X.w) X.A (f (.int i t)) Q E s) :
  UnR X f (rU λi=>.int (g i)):=by
 intro pins s σ H x v Q I rx h
 obtain⟨i,rfl,q⟩:=h
 obtain⟨t,rfl⟩:=rx
 exact rule i t s _ _ ⟨.int (g i),H,I.tok _,⟨_,rfl⟩,q⟩
theorem Z6i:UnR X (unaryOp .USub) (rU λi=>.int (-i)):=unI λ_ _ _ _ _ q=>neg_int q
end
section
variable {X:Cx}{a b c:Expr}{ta tb tc:TE}{pos:Pos}
theorem Z7o{pins:List (Addr×Obj)}{σ:St}{H:Hp}{s:Xg}{Q:VK}{k k':Bool}(I:Inv X pins σ H s)(q:Q (.bl k) H)(e:k=k'):EP X pins σ Q (.bool k') s:=by
 subst e
 exact⟨.bl k,H,I,rfl,q⟩
theorem Zws:OpR X (BK .Lt) (rI0 λi j=>.bl (decide (i<j))):=Yag λ_ _ _ _ _ _ _ q=>lt_int q
theorem Z8r:OpR X (BK .Gt) (rI0 λi j=>.bl (decide (j<i))):=Yag λ_ _ _ _ _ _ _ q=>gt_int q
theorem Z9w:OpR X (BK .GtE) (rI0 λi j=>.bl (decide (j≤i))):=Yag λ_ _ _ _ _ _ _ q=>ge_int q
theorem Z0u:OpR X (BK .IsNot) (λx y H Q=>y= .non∧Q (.bl (!decide (x= .non))) H):=by
 intro pins s σ H x y v u Q I rx ry h
 obtain⟨rfl,q⟩:=h
 cases ry
 refine isnot_none_gen (Z7o I q ?_)
 cases x<;>first
  | (cases rx;rfl)
  | (obtain⟨t,rfl⟩:=rx;rfl)
theorem Je(b:Expr){op:CmpOp}(h:op≠ .In:=by decide)(h2:op≠ .NotIn:=by decide):U0 op b=false:=by
 have e1:(op==CmpOp.In)=false:=by cases op<;>first|rfl|exact absurd rfl h
 have e2:(op==CmpOp.NotIn)=false:=by cases op<;>first|rfl|exact absurd rfl h2
 cases b<;>simp[U0,e1,e2]
theorem Z2b{op:CmpOp}{r:R2}(ho:OpR X (BK op) r)(ha:PE X a ta)(hb:PE X b tb)(hm:U0 op b=false):PE X (.Compare a [op] [b] pos) (tOp r ta tb):=by
 intro pins s σ H Q I h
 exact wpAny_Compare1 (Z9c ha hb I h λv u s2 x y H2 I2 rx ry q=>ho pins s2 σ H2 x y v u Q I2 rx ry q) hm
noncomputable def Z5u(t:TE):TT:=λσ H Q=>t σ H λx H'=>∃k,x= .bl k∧Q k H'
theorem Z2i{op:CmpOp}{r:R2}(ho:OpR X (BK op) r)(ha:PE X a ta)(hb:PE X b tb)(hm:U0 op b=false):PT X (.Compare a [op] [b] pos) (Z5u (tOp r ta tb)):=by
 intro pins s σ H Q I h
 refine wpAny_isTrue_Compare1 (thn (ha pins s σ H _ I h) λv s1 ⟨x,H1,I1,r1,q1⟩=>thn (hb pins s1 σ H1 _ I1 q1) λu s2 ⟨y,H2,I2,r2,q2⟩=>
  thn (ho pins s2 σ H2 x y v u _ I2 r1 r2 q2) λc s3 ⟨z,H3,I3,r3,k,e,q3⟩=>?_) hm
 subst e
 cases r3
 exact Ut ⟨H3,I3,q3⟩
noncomputable def Z82(K:Xc)(x:V)(H:Hp)(k:Bool):Prop :=
 match x with
 | .non=>k=false
 | .bl b=>k=b
 | .int i=>k=(i !=0)
 | .str y=>y.length≤Xx∧k=((y.length:Int) !=0)
 | .byt y=>y.size≤Xx∧k=((y.size:Int) !=0)
 | .ref p=>(∃xs,SqL K H p xs∧k= !xs.isEmpty)∨(∃xs,SqT K H p xs∧k= !xs.isEmpty)∨∃kvs,H p=some (.dK kvs)∧k= !kvs.isEmpty
 | _=>False
theorem Zp0{κ:Type}{kvs:List (κ×V)}{vs:List (κ×Xd)}(r:KV kvs vs):(!vs.isEmpty)= !kvs.isEmpty:=by
 cases r<;>rfl
theorem Zi2{xs:List V}{its:List Xd}(r:Vals xs its):(!its.toArray.isEmpty)= !xs.isEmpty:=by
 cases r<;>simp
theorem Zja:(Xx:Nat)<2^63:=by rw[Qj];decide
theorem Z5p:Yd2 X (λx H Q=>∃k,Z82 X.K x H k∧Q k H):=by
 intro pins s σ H x v Q I rx h
 obtain⟨k,e,q⟩:=h
 have hl:=Zja
 have hs:Xx=16777216:=Qj
 cases x with
 | non=>
  cases rx
  have e':k=false:=e
  subst e'
  exact truthy_none ⟨H,I,q⟩
 | bl b=>
  cases rx
  have e':k=b:=e
  subst e'
  exact Ut ⟨H,I,q⟩
 | int i=>
  obtain⟨t,rfl⟩:=rx
  have e':k=(i !=0):=e
  subst e'
  exact PySem.P.truthy_int ⟨H,I,q⟩
 | str y=>
  obtain⟨t,rfl⟩:=rx
  obtain⟨hy,e'⟩:y.length≤Xx∧k=((y.length:Int) !=0):=e
  subst e'
  exact PySem.P.truthy_str (by omega) ⟨H,I.tok _,q⟩
 | byt y=>
  obtain⟨t,rfl⟩:=rx
  obtain⟨hy,e'⟩:y.size≤Xx∧k=((y.size:Int) !=0):=e
  subst e'
  exact PySem.W.truthy_bytes (by omega) ⟨H,I.tok _,q⟩
 | ref p=>
  cases rx
  have e':(∃xs,SqL X.K H p xs∧k= !xs.isEmpty)∨(∃xs,SqT X.K H p xs∧k= !xs.isEmpty)∨∃kvs,H p=some (.dK kvs)∧k= !kvs.isEmpty:=e
  rcases e' with⟨xs,hx,e'⟩|⟨xs,hx,e'⟩|⟨kvs,hx,e'⟩
  ·subst e'
   obtain⟨its,r,pl,hz⟩:=I.list hx
   have hlen:=r.length
   exact wpAny_truthy_list pl.isList (by simp only[Xy];omega) ⟨H,I.tok _,by rw[Zi2 r];exact q⟩
  ·subst e'
   obtain⟨its,r,pl,hz⟩:=I.tuple hx
   have hlen:=r.length
   exact truthy_tuple pl (by simp only[Xy];omega) ⟨H,I.tok _,by rw[Zi2 r];exact q⟩
  ·subst e'
   obtain⟨hz,hS,vs,r,m⟩:kvs.length≤Xx∧(p==sysModules)=false∧∃vs,KV kvs vs∧s.heap.DictOf (Znp X.prog X.w) p vs:=I.hok p _ hx
   have hlen:kvs.length=vs.length:=Paired.length r
   exact wpAny_truthy_dict hS m (by omega) ⟨H,I.tok _,by rw[Zp0 r];exact q⟩
 | _=>exact(show False from e).elim
theorem Zwx(ha:PE X a ta)(he:∀whole,isTrue a X.env whole=(do let v←whole;standAt a.pos;holding [v] (truthy v))) :
  PT X a (λσ H Q=>ta σ H λx H'=>∃k,Z82 X.K x H' k∧Q k H'):=by
 intro pins s σ H Q I h
 refine isTrue_plain (thn (ha pins s σ H _ I h) λv s1 qz9=>?_) (he _)
 obtain⟨x,H1,I1,r1,q1⟩:=qz9
 exact Z5p pins s1 σ H1 x v Q I1 r1 q1
theorem vals1{x:V}{us:List Xd}(r:Vals [x] us):∃u,us=[u]∧RelV x u:=by
 cases r with
 | cons r1 r2=>cases r2;exact⟨_,rfl,r1⟩
theorem vals2{x y:V}{us:List Xd}(r:Vals [x,y] us):∃u w',us=[u,w']∧RelV x u∧RelV y w':=by
 cases r with
 | cons r1 r2=>
  cases r2 with
  | cons r3 r4=>cases r4;exact⟨_,_,rfl,r1,r3⟩
theorem Zk0:Zd6 X (.builtin "abs") (λxs H Q=>∃i,xs=[.int i]∧Q (.int (if i<0 then -i else i)) H):=by
 intro pins s σ H xs us Q I r h
 obtain⟨i,rfl,q⟩:=h
 obtain⟨u,rfl,t,rfl⟩:=vals1 r
 exact call_abs_int λu tk=>⟨.int (if i<0 then -i else i),H,I.tok _,⟨_,rfl⟩,q⟩
end
structure ObjM(h:Heap)(x dx C:Addr)(mA:Str->Option Xd):Prop where
 obj:h.get? x=some (PySem.W.instObj C dx)
 ns:h.Ns1 dx mA
 ne:dx≠x
theorem Zrw{h:Heap}{dx:Addr}{mA:Str->Option Xd}(n:h.Ns1 dx mA):∃od,h.get? dx=some od∧∀name,PySem.W.lookIn name od=some (mA name):=by
 obtain⟨o,es,ep,ho,hd,hk,_,hm⟩:=n
 refine⟨o,ho,λname=>?_⟩
 have e:=hm name
 unfold nsFind findBy at e
 rw[←Array.find?_toList]at e
 unfold PySem.W.lookIn
 rw[hd]
 dsimp only
 split
 ·rename_i y q
  rw[q]at e
  exact congrArg some e
 ·rename_i q
  rw[q]at e
  have a:es.toList.any (·.refKey)=false:=by
   rw[List.any_eq_false]
   intro y hy
   obtain⟨z,t,hkey⟩:=hk y (Array.mem_toList_iff.mp hy)
   simp[DictEntry.refKey,hkey]
  have a':¬es.toList.any (·.refKey)=true:=by rw[a];exact Xm
  rw[if_neg a']
  exact congrArg some e
theorem ObjM.look{h:Heap}{x dx C:Addr}{mA:Str->Option Xd}(I:ObjM h x dx C mA):∃od,PySem.W.InstAt h x (PySem.W.instObj C dx) C (some od)∧∀name,PySem.W.lookIn name od=some (mA name) :=
 let⟨od,ho,hl⟩:=Zrw I.ns
 ⟨od,⟨I.obj,rfl,rfl,ho⟩,hl⟩
section
variable {prog:Qa}{w:Qs}{A:Qq}{E:Xd->Xg->Prop}{s:Xg}{K:Xc}{x dx C f:Addr}{mA:Str->Option Xd}{name:Str}{v:Xd}
end
section
variable {P:Qa}{w:Qs}{H H':Hp}{h h':Heap}{a C dx:Addr}{fs fs':List (Str×V)}
theorem Zz0(hok:HOk P w H h)(e:H a=some (.ins C dx fs)):∃mA,ObjM h a dx C mA∧(∀f,Z9f (fs.lookup f) (mA f))∧PySem.Within mA (fs.map (·.1))∧fs.length≤1000∧H dx=some (.own a):=by
 obtain⟨d,z,ne,ob,mA,n,r,q⟩:=(show ObjOk P w H h a (.ins C dx fs)from hok a _ e)
 exact⟨mA,⟨ob,n,ne⟩,r,q,z,d⟩
end
structure Cls(K:Xc)(C:Addr):Prop where
 pg:PySem.W.plainGet K C Str.empty=true
 hd:PySem.W.hasDictIn K C=true
 po:PySem.W.plainOver K C=true
 sa:Vl K (.ref C) "__setattr__"=some (some (.builtin "object.__setattr__"))
theorem Cls.get{K:Xc}{C:Addr}(c:Cls K C)(f:Str):PySem.W.plainGet K C f=true:=c.pg
structure Con(K:Xc)(C:Addr)(f:Str)(v:V)(u:Xd):Prop where
 at_:Vl K (.ref C) f=some (some u)
 rel:RelV v u
 get:PySem.W.specialIn K u "__get__"=some none
 cp:PySem.W.copiedNames.contains f=false
structure Meth(K:Xc)(C:Addr)(m:Str)(f:Addr):Prop where
 at_:Vl K (.ref C) m=some (some (.ref f))
 fn:PySem.W.isFn K (.ref f)=true
 kp:Vy K (.ref f)=true
section
variable {X:Cx}{pins:List (Addr×Obj)}{σ:St}{H:Hp}{s:Xg}{a C dx:Addr}{fs:List (Str×V)}{f:Str}{v:V}{A:Qq}{E:Xd->Xg->Prop}
end
section
variable {X:Cx}{o e value:Expr}{f:Str}{pos pos' tpos:Pos}{ta tv:TE}
end
section
variable {X:Cx}{pins:List (Addr×Obj)}{σ:St}{H:Hp}{s:Xg}{A:Qq}{E:Xd->Xg->Prop}{Q:Xd->Xg->Prop}{c:Xd}{b:Bool}
inductive Zqy(K:Xc)(H:Hp):V->Xd->Prop where
 | non:Zqy K H .non (.type "NoneType")
 | bl (x:Bool):Zqy K H (.bl x) (.type "bool")
 | int (i:Int):Zqy K H (.int i) (.type "int")
 | str (x:Str):Zqy K H (.str x) (.type "str")
 | flt (x:UInt64):Zqy K H (.flt x) (.type "float")
 | lst {a:Addr} {xs:List V} (e:H a=some (.lst xs)):Zqy K H (.ref a) (.type "list")
 | frz {a:Addr} {o:Obj} {xs:List V} (e:H a=some (.frz o (.lst xs))):Zqy K H (.ref a) (.type "list")
 | tup {a:Addr} {xs:List V} (e:H a=some (.tup xs)):Zqy K H (.ref a) (.type "tuple")
 | dK {a:Addr} {kvs:List (Key×V)} (e:H a=some (.dK kvs)):Zqy K H (.ref a) (.type "dict")
 | dT {a:Addr} {kvs:List (List Key×V)} (e:H a=some (.dT kvs)):Zqy K H (.ref a) (.type "dict")
 | ins {a C dx:Addr} {fs:List (Str×V)} (e:H a=some (.ins C dx fs)) (cl:Cls K C) (ha:Vl K (.ref C) "__class__"=some (some (.builtin "object.__class__")))
   (hn:PySem.W.specialIn K (.builtin "object.__class__") "__get__"=some (some (.builtin "getset_descriptor.__get__"))) (htk:PySem.W.takesIn K (.builtin "object.__class__")=some true)
   (hm:PySem.W.mroIn K C (.type "object")=some true):Zqy K H (.ref a) (.ref C)
theorem Zap{x:V}{u t:Xd}(I:Inv X pins σ H s)(rx:RelV x u)(ty:Zqy X.K H x t)(e:Vk X.K t c=some b)(h:∀tk,Q (.bool b) { s with toks:=tk }) :
  XC (X6 X.prog X.w) A (call (.builtin "isinstance") [u,c]) Q E s:=by
 cases ty with
 | non=>cases(show u=QS from rx);exact Q4 PySem.W.kitx_none I.kIn True.intro e (λz=>nomatch z) h
 | bl y=>cases(show u=U5 y from rx);exact Q4 PySem.W.kitx_bool I.kIn True.intro e (λz=>nomatch z) h
 | int i=>obtain⟨t,q⟩:=(show∃t,u=Vr i t from rx);cases q;exact Q4 PySem.W.kitx_int I.kIn True.intro e (λz=>nomatch z) h
 | str y=>obtain⟨t,q⟩:=(show∃t,u=Value.str y t from rx);cases q;exact Q4 PySem.W.kitx_str I.kIn True.intro e (λz=>nomatch z) h
 | flt y=>obtain⟨t,q⟩:=(show∃t,u=Xd.float y t from rx);cases q;exact Q4 PySem.W.kitx_float I.kIn True.intro e (λz=>nomatch z) h
 | @lst a xs ea=>
  cases(show u=Qn a from rx)
  obtain⟨_,_,n,_,h1⟩:=(show ObjOk X.prog X.w H s.heap a (.lst xs)from I.hok a _ ea)
  exact Q4 PySem.W.kitx_list I.kIn ⟨_,h1,rfl⟩ e (λz=>nomatch z) h
 | @frz a ob xs ea=>
  cases(show u=Qn a from rx)
  obtain⟨_,_,_,n,_,h1⟩:=(show ObjOk X.prog X.w H s.heap a (.frz ob (.lst xs))from I.hok a _ ea)
  exact Q4 PySem.W.kitx_list I.kIn ⟨_,h1,rfl⟩ e (λz=>nomatch z) h
 | @tup a xs ea=>
  cases(show u=Qn a from rx)
  obtain⟨_,_,_,p⟩:=(show ObjOk X.prog X.w H s.heap a (.tup xs)from I.hok a _ ea)
  obtain⟨o,h1,h2,_⟩:=p
  exact Q4 PySem.W.kitx_tuple I.kIn ⟨o,h1,h2⟩ e (λz=>nomatch z) h
 | @dK a kvs ea=>
  cases(show u=Qn a from rx)
  obtain⟨_,_,vs,_,p⟩:=(show ObjOk X.prog X.w H s.heap a (.dK kvs)from I.hok a _ ea)
  obtain⟨o,es,ep,h1,h2,_⟩:=p
  exact Q4 PySem.W.kitx_dict I.kIn ⟨o,h1,h2.1⟩ e (λz=>nomatch z) h
 | @dT a kvs ea=>
  cases(show u=Qn a from rx)
  obtain⟨_,_,xs,_,o,es,ep,h1,h2,_⟩:=(show ObjOk X.prog X.w H s.heap a (.dT kvs)from I.hok a _ ea)
  exact Q4 PySem.W.kitx_dict I.kIn ⟨o,h1,h2.1⟩ e (λz=>nomatch z) h
 | @ins a C dx fs ea cl ha hn htk hm=>
  cases(show u=Qn a from rx)
  obtain⟨mA,O,_⟩:=Zz0 I.hok ea
  obtain⟨od,J,_⟩:=O.look
  exact Q4 (PySem.W.kitx_own (cl.get _) cl.hd ha hn htk hm) I.kIn J e (λz=>nomatch z) h
end
structure Room(k:Nat)(A:Qq):Prop where
 hd:A.handled=none
 dp:A.depth+3*k+5<recursionLimit
 un:A.units+16*k+200<cLine
theorem Room.mono{j k:Nat}{A:Qq}(r:Room k A)(h:j≤k):Room j A:=⟨r.hd,by have:=r.dp;omega,by have:=r.un;omega⟩
theorem Room.deeper{k:Nat}{A:Qq}(r:Room (k+1) A)(env:Env):Room k (A.deeper env) :=
 ⟨r.hd,by have:=r.dp;show A.depth+1+3*k+5<_;omega,by have:=r.un;show A.units+3+16*k+200<_;omega⟩
theorem Room.depth{k:Nat}{A:Qq}(r:Room k A):A.depth<recursionLimit:=by have:=r.dp;omega
theorem Room.units{k:Nat}{A:Qq}(r:Room k A):A.units+64<cLine:=by have:=r.un;omega
noncomputable def Ydk:TA:=λ_ H Q=>Q [] H
noncomputable def Z8o(ta:TE)(tr:TA):TA:=λσ H Q=>ta σ H λx H1=>tr σ H1 λxs H2=>Q (x :: xs) H2
section
variable {X:Cx}{e:Expr}{es:List Expr}{te:TE}{t:TA}{pos:Pos}
theorem Zgg:PA X [] Ydk:=λ_ _ _ _ H Q I h=>Calls.spliced_nil ⟨[],H,I,.nil,h⟩
theorem Zb3(ha:PE X e te)(hr:PA X es t)(hs:Xp (e :: es) X.env=(false,eval e X.env) :: Xp es X.env:=by rfl):PA X (e :: es) (Z8o te t):=by
 intro pos pins s σ H Q I h
 rw[hs]
 show XC _ _ (spliced ((false,eval e X.env) :: JM pos (Xp es X.env))) _ _ s
 refine Calls.spliced_cons (thn (ha pins s σ H _ I h) λu s1 qz9=>?_)
 obtain⟨x,H1,I1,r1,q1⟩:=qz9
 refine thn (hr pos pins s1 σ H1 _ I1 q1) λus s2 qz9=>?_
 obtain⟨xs,H2,I2,r2,q2⟩:=qz9
 exact⟨x :: xs,H2,I2,.cons r1 r2,q2⟩
noncomputable def Ydv(t:TA):TE:=λσ H Q=>t σ H λxs H1=>xs.length≤Xx∧∀p,H1 p=none->Q (.ref p) (upd H1 p (.tup xs))
noncomputable def Yen(t:TA):TE:=λσ H Q=>t σ H λxs H1=>xs.length≤Xx∧∀p,H1 p=none->Q (.ref p) (upd H1 p (.lst xs))
theorem Z7r{x1}(h:PA X es t):PE X (.Tuple es x1 pos) (Ydv t):=by
 intro pins s σ H Q I hq
 refine wpAny_Tuple_spliced (thn (h pos pins s σ H _ I hq) λus s1 ⟨xs,H1,I1,r,z,q⟩=>⟨by rw[←r.length];exact z,?_⟩)
 have hf:H1 s1.heap.objs.size=none:=I1.hok.fresh (XN _)
 refine⟨.ref s1.heap.objs.size,upd H1 s1.heap.objs.size (.tup xs),I1.laid (t':=s1.toks) (λb u e=>Xe _ e) (XN _) ?_,rfl,q _ hf⟩
 exact⟨z,us,r,⟨_,Xw _ rfl,rfl,_,rfl⟩⟩
theorem Zy6(h:PA X es t):PE X (.List es pos) (Yen t):=by
 intro pins s σ H Q I hq
 refine wpAny_List_spliced (thn (h pos pins s σ H _ I hq) λus s1 ⟨xs,H1,I1,r,z,q⟩=>⟨by rw[←r.length];exact z,?_⟩)
 have hf:H1 s1.heap.objs.size=none:=I1.hok.fresh (XN _)
 refine⟨.ref s1.heap.objs.size,upd H1 s1.heap.objs.size (.lst xs),I1.laid (t':=s1.toks) (λb u e=>Xe _ e) (XN _) ?_,rfl,q _ hf⟩
 exact⟨z,us,0,r,Xw _ rfl⟩
end
noncomputable abbrev Sp:=List V->Hp->VK->XK->Prop
noncomputable abbrev CXT:=List Env->Hp->Xg->XK->Xd->Xg->Prop
structure Z77(P:Qa)(w:Qs)(K:Xc)(mg:Str->Option Xd)(base:Heap)(A:Qq)(outer:List Env)(s:Xg)(H:Hp):Prop where
 frames:A.frames=some outer
 mod:Mod K mg base
 bs:∀b o,base.get? b=some o->s.heap.get? b=some o∧H b=none
 bsz:base.objs.size≤s.heap.objs.size
 funs:s.heap.FunFrames base outer
 frf:∀b∈frs outer,H b=none
 hok:HOk P w H s.heap
 bare:AllBare s.gens
noncomputable def CE(outer:List Env)(P:Qa)(w:Qs)(H:Hp)(s:Xg)(Q:VK)(u:Xd)(s':Xg):Prop :=
 ∃v H',s'.os=s.os∧AllBare s'.gens∧Un (frs outer) [] H H' s.heap s'.heap∧HOk P w H' s'.heap∧RelV v u∧Q v H'
noncomputable def CR(CX:CXT)(outer:List Env)(P:Qa)(w:Qs)(H:Hp)(s:Xg)(Q:VK)(E:XK)(r:Result)(s':Xg):Prop :=
 match r with
 | .ok (.ret u)=>CE outer P w H s Q u s'
 | .ok _=>False
 | .error e=>CX outer H s E e s'
structure FnOk(P:Qa)(w:Qs)(K:Xc)(mg:Str->Option Xd)(base:Heap)(CX:CXT)(k:Nat)(f:Addr)(fd:XR)(ps:List Str)(sp:Sp):Prop where
 len:∀vs H Q E,sp vs H Q E->vs.length=ps.length
 run:∀(A:Qq) (outer:List Env) (s:Xg) (H:Hp) (args:Args) (us:List Xd) (vs:List V) (Q:VK) (E:XK),Room k A->Z77 P w K mg base A outer s H->BindsTo s fd args (ps.zip us)->Vals vs us->sp vs H Q E ->
  UW (X6 P w) A (.call (.ref f) args) (CR CX outer P w H s Q E) s
theorem FnOk.imp{P:Qa}{w:Qs}{K:Xc}{mg:Str->Option Xd}{base:Heap}{CX:CXT}{k:Nat}{f:Addr}{fd:XR}{ps:List Str}{sp sp':Sp}(F:FnOk P w K mg base CX k f fd ps sp)
  (h:∀vs H Q E,sp' vs H Q E->sp vs H Q E):FnOk P w K mg base CX k f fd ps sp' :=
 ⟨λvs H Q E q=>F.len vs H Q E (h _ _ _ _ q),λA outer s H args us vs Q E hr he hb hv hs=>F.run A outer s H args us vs Q E hr he hb hv (h _ _ _ _ hs)⟩
section
variable {X:Cx}{pins:List (Addr×Obj)}{σ:St}{H:Hp}{s s':Xg}
theorem Inv.env0(I:Inv X pins σ H s):Z77 X.prog X.w X.K X.mg X.base X.A X.stack s H :=
 ⟨I.ok.frames,I.ok.mod,I.bs,QT I.ok.bsz I.sz,I.stack,I.stkFree,I.hok,I.bare⟩
theorem Inv.after{Q:VK}{u:Xd}(I:Inv X pins σ H s)(h:CE X.stack X.prog X.w H s Q u s'):EP X pins σ Q u s':=by
 obtain⟨v,H',os,bare,un,hok,r,q⟩:=h
 obtain⟨hh,g,d,t,os'⟩:=s'
 obtain rfl:os'=s.os:=os
 exact⟨v,H',I.call (h':=hh) (g':=g) (d':=d) (t':=t) (ch:=[]) un hok bare (λb z=>absurd z (by simp)),r,q⟩
end
noncomputable def Z4x(sp:Sp)(dvs:List V)(E:XK)(t:TA):TE:=λσ H Q=>t σ H λvs H1=>sp (vs ++ dvs) H1 Q E
noncomputable def Binds(K:Xc)(fd:XR)(ps:List Str)(ds:List Xd):Prop :=
 ∀(s:Xg) (us:List Xd),K.In s.heap->(us ++ ds).length=ps.length->BindsTo s fd ⟨us,[]⟩ (ps.zip (us ++ ds))
theorem Binds.all{K:Xc}{fd:XR}{ps:List Str}(h:∀us:List Xd,us.length=ps.length->bindArgs fd ⟨us,[]⟩=pure (ps.zip us)):Binds K fd ps []:=λs us _ hl=>by
 rw[Q5]at hl⊢
 exact .of_eq (h us hl)
noncomputable def Zpp(CX:CXT)(X:Cx)(E:XK):Prop:=∀(pins:List (Addr×Obj)) (σ:St) (H:Hp) (s:Xg) (e:Xd) (s':Xg),Inv X pins σ H s->CX X.stack H s E e s'->X.xe e s'
section
variable {X:Cx}{CX:CXT}{k:Nat}{f C:Addr}{fd:XR}{ps:List Str}{sp:Sp}{dvs:List V}{ds:List Xd}{E:XK}{x m:Str}{p pos apos:Pos}{e o:Expr}{es:List Expr}{ta:TE}{t:TA}
theorem Z6a{pins:List (Addr×Obj)}{σ:St}{H:Hp}{s:Xg}{Q:VK}{us:List Xd}{vs:List V}(F:FnOk X.prog X.w X.K X.mg X.base CX k f fd ps sp)(hr:Room k X.A)(hb:Binds X.K fd ps ds)(hd:Vals dvs ds)(hx:Zpp CX X E)
  (I:Inv X pins σ H s) (r:Vals vs us) (h:sp (vs ++ dvs) H Q E):XC (X6 X.prog X.w) X.A (call (.ref f) us) (EP X pins σ Q) X.xe s:=by
 have r2:Vals (vs ++ dvs) (us ++ ds):=r.append hd
 have hl:(us ++ ds).length=ps.length:=by rw[←r2.length];exact F.len _ _ _ _ h
 refine wpAny_call (codeAny_mono (F.run X.A X.stack s H ⟨us,[]⟩ (us ++ ds) (vs ++ dvs) Q E hr I.env0 (hb s us I.kIn hl) r2 h) λr s' hq=>?_)
 cases r with
 | error e=>exact hx pins σ H s e s' I hq
 | ok fl=>
  cases fl with
  | ret u=>exact I.after hq
  | next=>exact VG hq
  | brk=>exact VG hq
  | cont=>exact VG hq
theorem Z22(F:FnOk X.prog X.w X.K X.mg X.base CX k f fd ps sp)(hr:Room k X.A)(hg:Gl X x)(hm:X.mg x=some (.ref f))(hk:Vy X.K (.ref f)=true)(hb:Binds X.K fd ps ds)(hd:Vals dvs ds)(hx:Zpp CX X E)
  (ha:PA X (e :: es) t) (hdb:(x==("__debug__" : Str))=false:=by decide) (he:Xp (e :: es) X.env=(false,eval e X.env) :: Xp es X.env:=by rfl) (hpl:(JM pos (Xp es X.env)).any (·.1)=false:=by rfl) :
  PE X (.Call (.Name x p) (e :: es) [] pos) (Z4x sp dvs E t):=by
 intro pins s σ H Q I h
 refine Vw (Z0t I hg hm ?_ hdb)
 refine PySem.W.callWith_K (h₀:=X.base) I.ok.mod.kin hk (thn (ha pos pins s σ H _ I h) λus s1 qz9=>?_) he hpl
 obtain⟨vs,H1,I1,r,q⟩:=qz9
 refine⟨I1.kIn,?_⟩
 exact Z6a F hr hb hd hx I1 r q
structure Mk(K:Xc)(C f:Addr):Prop where
 makes:PySem.W.makesIn K C=true
 init:Vl K (.ref C) "__init__"=some (some (.ref f))
 fn:PySem.W.isFn K (.ref f)=true
 kp:Vy K (.ref C)=true
end
section
variable {X:Cx}{CX:CXT}{k:Nat}{f C:Addr}{fd:XR}{ps ks:List Str}{sp:Sp}{E:XK}{x m:Str}{p pos apos kpos:Pos}{e o:Expr}{es:List Expr}{kws:List V6}{te ta:TE}{t tk:TA}{nm:Option Str}
structure Ycx(K:Xc)(fd:XR)(ps ks:List Str)(g:List Xd->List Xd->List Xd)(gV:List V->List V->List V):Prop where
 to:∀(s:Xg) (us ws:List Xd),K.In s.heap->(g us ws).length=ps.length->BindsTo s fd ⟨us,ks.zip ws⟩ (ps.zip (g us ws))
 rel:∀{vs:List V} {us:List Xd} {zs:List V} {ws:List Xd},Vals vs us->Vals zs ws->Vals (gV vs zs) (g us ws)
variable {g:List Xd->List Xd->List Xd}{gV:List V->List V->List V}
end
structure Zv(N P:List Str)(sc:Uy):Prop where
 kind:sc.kind= .function
 co:sc.isCoroutine=false
 gen:sc.isGenerator=false
 nd:N.Nodup
 pre:N.take P.length=P
 par:∀x∈P,sc.names.lookup x=some .local∨sc.names.lookup x=some .cell
 nofree:∀y∈sc.names,y.2≠ .free
theorem Zme{kindOf:Str->Option By}{x:Str}:∀{binds:List (Str×Xd)} {m:Str->Option Xd},(∀v,(x,v)∉binds)->bindL kindOf binds m x=m x
 | [],_,_=>rfl
 | (n,v) :: r,m,h=>by
  unfold bindL
  rw[Zme λw hw=>h w (Ux _ hw)]
  split
  ·have:x≠n:=by rintro rfl;exact h v U6
   simp[this]
  ·rfl
theorem Zmd{kindOf:Str->Option By}{x:Str}:∀{binds:List (Str×Xd)} {m:Str->Option Xd},(∀v,(x,v)∉binds)->bindC kindOf binds m x=m x
 | [],_,_=>rfl
 | (n,v) :: r,m,h=>by
  unfold bindC
  rw[Zmd λw hw=>h w (Ux _ hw)]
  split
  ·rfl
  ·have:x≠n:=by rintro rfl;exact h v U6
   simp[this]
theorem Zlb{kindOf:Str->Option By}{x:Str}{v:Xd}:∀{P:List Str} {vs:List Xd} {i:Nat} {m:Str->Option Xd},P.Nodup->P[i]? =some x->vs[i]? =some v->kindOf x=some .local ->
  bindL kindOf (P.zip vs) m x=some v
 | [],_,_,_,_,h,_,_=>by simp at h
 | _ :: _,[],_,_,_,_,h,_=>by simp at h
 | p :: P,w :: vs,0,m,nd,h1,h2,hk=>by
  simp at h1 h2;subst h1;subst h2
  show bindL kindOf ((p,w) :: P.zip vs) m p=_
  unfold bindL
  rw[Zme λv hv=>(Qp.mp nd).1 (List.of_mem_zip hv).1,if_pos hk]
  simp
 | p :: P,w :: vs,i+1,m,nd,h1,h2,hk=>by
  show bindL kindOf ((p,w) :: P.zip vs) m x=_
  unfold bindL
  exact Zlb (i:=i) (Qp.mp nd).2 (by simpa using h1) (by simpa using h2) hk
theorem Zlh{kindOf:Str->Option By}{x:Str}{v:Xd}:∀{P:List Str} {vs:List Xd} {i:Nat} {m:Str->Option Xd},P.Nodup->P[i]? =some x->vs[i]? =some v->kindOf x≠some .local ->
  bindC kindOf (P.zip vs) m x=some v
 | [],_,_,_,_,h,_,_=>by simp at h
 | _ :: _,[],_,_,_,_,h,_=>by simp at h
 | p :: P,w :: vs,0,m,nd,h1,h2,hk=>by
  simp at h1 h2;subst h1;subst h2
  show bindC kindOf ((p,w) :: P.zip vs) m p=_
  unfold bindC
  rw[Zmd λv hv=>(Qp.mp nd).1 (List.of_mem_zip hv).1,if_neg hk]
  simp
 | p :: P,w :: vs,i+1,m,nd,h1,h2,hk=>by
  show bindC kindOf ((p,w) :: P.zip vs) m x=_
  unfold bindC
  exact Zlh (i:=i) (Qp.mp nd).2 (by simpa using h1) (by simpa using h2) hk
noncomputable def start(N:List Str)(vs:List V):St:=vs.map some ++ X4 (N.length-vs.length) none
noncomputable def Zys(CX:CXT)(P:Qa)(w:Qs)(K:Xc)(mg:Str->Option Xd)(base:Heap)(N:List Str)(qual:Str)(scope:Uy)(f:Addr)(cd:Xd)(A:Qq)(outer:List Env)(s:Xg)(H:Hp)(E:XK):Cx where
 prog:=P
 w:=w
 K:=K
 mg:=mg
 base:=base
 A:=A.deeper (envOfC qual scope s.heap.objs.size f cd)
 N:=N
 s₀:=s
 H₀:=H
 env:=envOfC qual scope s.heap.objs.size f cd
 outer:=outer
 stack:=envOfC qual scope s.heap.objs.size f cd :: outer
 ex:=[]
 calm:=true
 fn:=λ_=>true
 pn:=[]
 xe:=λe s'=>XC (X6 P w) (A.deeper (envOfC qual scope s.heap.objs.size f cd)) (leaving (envOfC qual scope s.heap.objs.size f cd) e) (λ_ s''=>CX outer H s E e s'') (λe' s''=>CX outer H s E e' s'') s'
theorem Zof{sc:Uy}{n:Nat}{x:Str}(h:sc.names.lookup x=some .cell):∃c,(Bk n sc.names []).lookup x=some c:=by
 have q:=PySem.W.cellsFrom_some sc.names n [] (.inl h)
 exact Option.isSome_iff_exists.mp q
theorem Zsl{CX:CXT}{P:Qa}{w:Qs}{K:Xc}{mg:Str->Option Xd}{base:Heap}{N ps:List Str}{qual:Str}{scope:Uy}{f:Addr}{cd:Xd}{A:Qq}{outer:List Env}{s s1:Xg}{H:Hp}{E:XK}{us:List Xd}{vs:List V}
  (S:Zv N ps scope) (hd:A.handled=none) (e0:Z77 P w K mg base A outer s H) (hl:vs.length=ps.length) (r:Vals vs us)
  (x:InCallC s s.heap.objs.size (bindL (envOfC qual scope s.heap.objs.size f cd).kindOf (ps.zip us) λ_=>none) (Bk (s.heap.objs.size+1) scope.names []) (bindC (envOfC qual scope s.heap.objs.size f cd).kindOf (ps.zip us) λ_=>none) s1) :
  Inv (Zys CX P w K mg base N qual scope f cd A outer s H E) [] (start N vs) H s1:=by
 have hpl:ps.length≤N.length:=by have:=congrArg List.length S.pre;rw[BP]at this;omega
 obtain⟨h1,tk,rfl,hk⟩:=x.done
 have noA:∀b:Addr,b∉(Zys CX P w K mg base N qual scope f cd A outer s H E).ex:=λb z=>absurd (show b∈([]:List Addr)from z) (by simp)
 refine⟨⟨e0.mod,S.kind,rfl,rfl,XN _,λy z c h1 h2=>?_,λy hy=>?_,λy c _ h=>?_,λ_=>hd,Qq.frames_deeper e0.frames,.inr ⟨rfl,rfl⟩,λb z=>absurd z (noA b),e0.bs,e0.bsz,λb _ _=>noA b,λb z=>absurd z (noA b),e0.funs,e0.frf⟩,
  rfl,e0.bare,Un.kept hk,⟨_,x.toInCall.ns,λi y v h1 h2 h3=>?_⟩,λy c h=>⟨_,x.cell y c h⟩,e0.hok.fresh (XN _),λy c h=>?_,λp hp=>absurd (show p∈([]:List (Addr×Obj))from hp) (by simp),e0.hok.kept hk,?_⟩
 ·exact name_of_addr x.apart (JZ h1) (JZ h2)
 ·have hy:scope.names.lookup y=some .cell∨scope.names.lookup y=some .free:=hy
  rcases hy with hy|hy
  ·exact Zof hy
  ·exact absurd rfl (S.nofree _ (JZ hy))
 ·exact Be (x.above y c (JZ h))
 ·have hi:i<vs.length:=by
   unfold start at h2
   by_cases hi:i<vs.length
   ·exact hi
   ·rw[BW (by simpa using hi)]at h2
    rw[Ua]at h2
    split at h2<;>cases h2
  have ha:vs[i]? =some v:=by
   unfold start at h2
   rw[Vc (by simpa using hi),Xu]at h2
   cases e:vs[i]? with
   | none=>rw[e]at h2;cases h2
   | some a=>rw[e]at h2;cases h2;rfl
  obtain⟨u,hu,rv⟩:=r.get ha
  have hp:ps[i]? =some y:=by
   rw[←S.pre,List.getElem?_take_of_lt (by omega)];exact h1
  have ndP:ps.Nodup:=by rw[←S.pre];exact S.nd.sublist (List.take_sublist _ _)
  refine⟨u,rv,?_⟩
  rcases S.par y (Q0 hp)with k|k
  ·exact .inl ⟨k,Zlb ndP hp hu k⟩
  ·obtain⟨c,e⟩:=Zof (n:=s.heap.objs.size+1) k
   refine .inr ⟨.inl k,c,e,?_⟩
   have q:=x.cell y c e
   rw[Zlh ndP hp hu (by show scope.names.lookup y≠_;rw[k];decide)]at q
   exact q
 ·exact e0.hok.fresh (Be (x.above y c (JZ h)))
 ·unfold start
  show _=N.length
  rw[XX,Xj,Vv]
  omega
theorem Z9q{CX:CXT}{P:Qa}{w:Qs}{K:Xc}{mg:Str->Option Xd}{base:Heap}{k:Nat}{f:Addr}{name qual:Str}{params:Arguments}{body:List Stmt}{scope:Uy}{dV kV doc pm cdv ct oc:Xd}{an od:Option Addr}
  {osl:Array (Option Xd)} {N ps:List Str} {sp:Sp} (lk:K.lookup f=some ⟨oc,od,.func (VF name qual params body scope dV kV doc pm an cdv ct),osl⟩) (hcd:PySem.W.codeIn K cdv qual=true) (S:Zv N ps scope)
  (len:∀vs H Q E,sp vs H Q E->vs.length=ps.length)
  (hbody:∀(A:Qq) (outer:List Env) (s:Xg) (H:Hp) (vs:List V) (Q:VK) (E:XK),Room k (A.deeper (envOfC qual scope s.heap.objs.size f cdv))->sp vs H Q E ->
   ∃t,PSs (Zys CX P w K mg base N qual scope f cdv A outer s H E) body t∧t { nx:=λ_ H'=>Q .non H',rt:=Q } (start N vs) H) :
  FnOk P w K mg base CX (k+1) f (VF name qual params body scope dV kV doc pm an cdv ct) ps sp:=by
 refine⟨len,λA outer s H args us vs Q E hr e0 hb r hsp=>?_⟩
 have hl:=len _ _ _ _ hsp
 have KX:K.In s.heap:=e0.mod.kin.keeps λb o e=>(e0.bs b o e).1
 have lim:s.heap.NoLimit:=e0.mod.nolimit.keeps λb o e=>(e0.bs b o e).1
 have hkind:∀y∈ps.zip us,scope.names.lookup y.1=some .local∨(scope.names.lookup y.1=some .cell∧((Bk (s.heap.objs.size+1) scope.names []).lookup y.1).isSome=true):=λ⟨n,v⟩ hy=>by
  rcases S.par n (List.of_mem_zip hy).1 with q|q
  ·exact .inl q
  ·exact .inr ⟨q,PySem.W.cellsFrom_some _ _ _ (.inl q)⟩
 refine codeAny_call_function hr.depth (KX _ _ lk) rfl S.co S.gen rfl (PySem.W.codeRec_of KX hcd) (hb _ _ _ _ ?_)
 refine wpAny_newFunctionEnv_cells S.kind hkind λenv he s1 x=>?_
 subst he
 refine⟨lim.keeps x.toInCall.keep,codeAny_func ?_⟩
 obtain⟨t,ht,hq⟩:=hbody A outer s H vs Q E (hr.deeper _) hsp
 have I:Inv (Zys CX P w K mg base N qual scope f cdv A outer s H E) [] (start N vs) H s1:=Zsl S hr.hd e0 hl r x
 refine Vd (ht [] s1 (start N vs) H _ I hq) (λfl s' hs=>?_) λe s' hs=>hs
 have fin:∀{σ':St} {H':Hp} {v:V} {u:Xd},Inv (Zys CX P w K mg base N qual scope f cdv A outer s H E) [] σ' H' s'->RelV v u->Q v H'->CE outer P w H s Q u s' :=
  fun{σ' H' v u} J rv q=>⟨v,H',J.os,J.bare,J.base,J.hok,rv,q⟩
 cases fl with
 | ret u=>
  obtain⟨v,σ',H',J,rv,q⟩:=hs
  exact fin J rv q
 | next=>
  obtain⟨σ',H',J,q⟩:=hs
  exact fin (v:=V.non) (u:=QS) J rfl q
 | brk=>
  obtain⟨_,_,_,q⟩:=hs
  exact VG q
 | cont=>
  obtain⟨_,_,_,q⟩:=hs
  exact VG q
section
variable {X:Cx}{x:Str}{p pos:Pos}{e:Expr}{es:List Expr}{t:TA}{id T:String}{r:List V->Hp->VK->Prop}
noncomputable def tCB(r:List V->Hp->VK->Prop)(t:TA):TE:=λσ H Q=>t σ H λvs H1=>r vs H1 Q
theorem Zkl(hc:Zd6 X (.builtin id) r)(hg:Gl X x)(hm:X.mg x=none)(hv:Qk x=some (.builtin id))(ha:PA X (e :: es) t)(hn:x≠"__name__" :=by decide)(hdb:(x==("__debug__" : Str))=false:=by decide)
  (he:Xp (e :: es) X.env=(false,eval e X.env) :: Xp es X.env:=by rfl) (hpl:(JM pos (Xp es X.env)).any (·.1)=false:=by rfl):PE X (.Call (.Name x p) (e :: es) [] pos) (tCB r t):=by
 intro pins s σ H Q I h
 refine Vw (Zgu I hg hm hv ?_ hn hdb)
 refine PyProof.Rows.callWith_builtin1 (thn (ha pos pins s σ H _ I h) λus s1 qz9=>?_) he hpl
 obtain⟨vs,H1,I1,r1,q1⟩:=qz9
 exact hc pins s1 σ H1 vs us Q I1 r1 q1
theorem Zhs(hc:Zd6 X (.type T) r)(hg:Gl X x)(hm:X.mg x=none)(hv:Qk x=some (.type T))(ha:PA X (e :: es) t)(hn:x≠"__name__" :=by decide)(hdb:(x==("__debug__" : Str))=false:=by decide)
  (he:Xp (e :: es) X.env=(false,eval e X.env) :: Xp es X.env:=by rfl) (hpl:(JM pos (Xp es X.env)).any (·.1)=false:=by rfl):PE X (.Call (.Name x p) (e :: es) [] pos) (tCB r t):=by
 intro pins s σ H Q I h
 refine Vw (Zgu I hg hm hv ?_ hn hdb)
 refine Br (thn (ha pos pins s σ H _ I h) λus s1 qz9=>?_) he hpl
 obtain⟨vs,H1,I1,r1,q1⟩:=qz9
 exact hc pins s1 σ H1 vs us Q I1 r1 q1
end
end L2
namespace HT
open PySem PyProof.Rows
section
open PySem.SeqAt
open PySem.AutoSeq1 (wpAny_loadPart')
open PySem.MeetsSeq PySem.MeetsSeq2 PySem.MeetsSeq3
end
section
variable {prog:Qa}{w:Qs}{A:Qq}{E:Xd->Xg->Prop}{s:Xg}
noncomputable def sIx(n d:Nat):Option Int->Nat
 | none=>d
 | some v=>if v<0 then(v+(n:Int)).toNat else min v.toNat n
theorem sIx_none(n d:Nat):sIx n d none=d:=rfl
theorem sIx_nat(n d k:Nat):sIx n d (some (k:Int))=min k n:=by
 show(if(k:Int)<0 then((k:Int)+(n:Int)).toNat else min (k:Int).toNat n)=min k n
 rw[if_neg (by omega),Qm]
end
end HT
namespace L2
open PySem PySem.Spec PyProof.Rows
noncomputable abbrev TO:=St->Hp->(Option Int->Hp->Prop)->Prop
noncomputable def PO(X:Cx)(e:Option Expr)(t:TO):Prop :=
 ∀(pins:List (Addr×Obj)) (s:Xg) (σ:St) (H:Hp) (Q:Option Int->Hp->Prop),Inv X pins σ H s->t σ H Q ->
  XC (X6 X.prog X.w) X.A (evalPart e X.env) (λu s'=>∃o H',Inv X pins σ H' s'∧IsPart u o∧Q o H') X.xe s
noncomputable def Z0n:TO:=λ_ H Q=>Q none H
noncomputable def Z96(t:TE):TO:=λσ H Q=>t σ H λx H1=>∃i,x= .int i∧Q (some i) H1
section
variable {X:Cx}{e:Expr}{te:TE}{lo hi:Option Expr}{tl th:TO}{pos p2:Pos}
theorem Zzg:PO X none Z0n:=by
 intro pins s σ H Q I h
 rw[evalPart_none]
 exact Xl ⟨none,H,I,.none,h⟩
theorem Z1i(h:PE X e te):PO X (some e) (Z96 te):=by
 intro pins s σ H Q I hw
 rw[evalPart_some]
 refine thn (h pins s σ H _ I hw) λu s1 qz9=>?_
 obtain⟨x,H1,I1,r1,q1⟩:=qz9
 obtain⟨i,rfl,q⟩:=q1
 obtain⟨t,rfl⟩:=r1
 exact⟨some i,H1,I1,.int i t,q⟩
noncomputable def SlR(X:Cx)(r:V->Option Int->Option Int->Hp->VK->Prop):Prop :=
 ∀(pins:List (Addr×Obj)) (s:Xg) (σ:St) (H:Hp) (x:V) (v vl vu:Xd) (lo hi:Option Int) (sl:Addr) (Q:VK),Inv X pins σ H s->RelV x v->s.heap.IsSliceOf sl vl vu .none->IsPart vl lo->IsPart vu hi->r x lo hi H Q ->
  ∃T id,typeLookup (.type T) "__getitem__"=pure (some (.builtin id))∧s.TypeIs v T∧XC (X6 X.prog X.w) X.A (getItem v (.ref sl)) (EP X pins σ Q) X.xe s
noncomputable def tSl(r:V->Option Int->Option Int->Hp->VK->Prop)(te:TE)(tl th:TO):TE:=λσ H Q=>te σ H λx H1=>tl σ H1 λl H2=>th σ H2 λu H3=>r x l u H3 Q
theorem Zvf{r:V->Option Int->Option Int->Hp->VK->Prop}(hr:SlR X r)(he:PE X e te)(hl:PO X lo tl)(hu:PO X hi th):PE X (.Subscript e (.Slice lo hi none p2) pos) (tSl r te tl th):=by
 intro pins s σ H Q I h
 refine Subscript_ (thn (he pins s σ H _ I h) λv s1 qz9=>?_)
 obtain⟨x,H1,I1,r1,q1⟩:=qz9
 refine wpAny_Slice (thn (hl pins s1 σ H1 _ I1 q1) λvl s2 qz9=>?_)
 obtain⟨l,H2,I2,pl,q2⟩:=qz9
 refine thn (hu pins s2 σ H2 _ I2 q2) λvu s3 qz9=>?_
 obtain⟨u,H3,I3,pu,q3⟩:=qz9
 rw[evalPart_none]
 refine Xl ?_
 have I4:Inv X pins σ H3 { s3 with heap:=s3.heap.push { cls:=.type "slice",data:=.fields #[vl,vu,.none] } }:=I3.kept (t':=s3.toks) λb ob q=>Xe _ q
 obtain⟨T,id,hT,ht,hg⟩:=hr pins { s3 with heap:=s3.heap.push { cls:=.type "slice",data:=.fields #[vl,vu,.none] } } σ H3 x v vl vu l u s3.heap.objs.size Q I4 r1 (Heap.IsSliceOf.new ..) pl pu q3
 show XC (X6 X.prog X.w) X.A (subscriptTail e (.Slice lo hi none p2) v (.ref s3.heap.objs.size)) (EP X pins σ Q) X.xe { s3 with heap:=s3.heap.push { cls:=.type "slice",data:=.fields #[vl,vu,.none] } }
 exact tail_any (ops:=[.ref s3.heap.objs.size,v]) ht hT hg (by with_unfolding_all rfl)
noncomputable def Z3c(xs:List V)(lo hi:Option Int):List V:=(xs.drop (HT.sIx xs.length 0 lo)).take (HT.sIx xs.length xs.length hi-HT.sIx xs.length 0 lo)
theorem Zn3(xs:List V)(lo hi:Option Int):(Z3c xs lo hi).length≤xs.length:=by
 unfold Z3c
 rw[BP,Qu]
 omega
end
noncomputable def ixN(n:Nat)(i:Int):Option Nat:=if 0≤i then(if i<n then some i.toNat else none)else if -(n:Int)≤i then some (i+n).toNat else none
noncomputable def atI{α:Type}(xs:List α)(i:Int):Option α:=(ixN xs.length i).bind λj=>xs[j]?
theorem Zn0{n:Nat}{i:Int}{j:Nat}(h:ixN n i=some j):seqIndex? i n=some j∧j<n∧-(n:Int)≤i∧i<n:=by
 unfold ixN at h
 by_cases h0:0≤i
 ·rw[if_pos h0]at h
  by_cases h1:i<n
  ·rw[if_pos h1]at h
   have e:i.toNat=j:=QD h
   exact⟨by rw[seqIndex_of h0 h1,e],by omega,by omega,h1⟩
  ·rw[if_neg h1]at h;cases h
 ·rw[if_neg h0]at h
  by_cases h1:-(n:Int)≤i
  ·rw[if_pos h1]at h
   have e:(i+n).toNat=j:=QD h
   exact⟨by rw[seqIndex_neg (by omega) h1,e],by omega,h1,by omega⟩
  ·rw[if_neg h1]at h;cases h
theorem Zm2{α:Type}{xs:List α}{i:Int}{v:α}(h:atI xs i=some v):∃j,seqIndex? i xs.length=some j∧xs[j]? =some v∧j<xs.length∧-(xs.length:Int)≤i∧i<xs.length:=by
 unfold atI at h
 cases e:ixN xs.length i with
 | none=>rw[e]at h;cases h
 | some j=>
  rw[e]at h
  obtain⟨h1,h2,h3,h4⟩:=Zn0 e
  exact⟨j,h1,h,h2,h3,h4⟩
theorem Zug{α:Type}{xs:List α}{j:Nat}{v:α}(h:xs[j]? =some v):atI xs (j:Int)=some v:=by
 have hj:j<xs.length:=(Xn.mp h).1
 have e:ixN xs.length (j:Int)=some j:=by
  unfold ixN
  rw[if_pos (by omega),if_pos (by omega)];simp
 unfold atI;rw[e];exact h
theorem Zv0{α:Type}(xs:List α)(v:α):atI (xs ++ [v]) (-1)=some v:=by
 have hl:(xs ++ [v]).length=xs.length+1:=by simp
 have e:ixN (xs ++ [v]).length (-1)=some xs.length:=by
  unfold ixN
  rw[hl,if_neg (by decide),if_pos (by omega)]
  congr 1
  omega
 unfold atI
 rw[e]
 show(xs ++ [v])[xs.length]? =some v
 simp
noncomputable def Zjw(b:Expr):Prop:=∀o i,subscripted b false o i=operate [o,i] (getItem o i)
noncomputable def IxR(X:Cx)(r:R2):Prop :=
 ∀(value slice:Expr) (pins:List (Addr×Obj)) (s:Xg) (σ:St) (H:Hp) (x y:V) (v u:Xd) (Q:VK),Inv X pins σ H s->RelV x v->RelV y u->r x y H Q ->
  subscripted slice false v u=operate [v,u] (getItem v u)->XC (X6 X.prog X.w) X.A (subscriptTail value slice v u) (EP X pins σ Q) X.xe s
noncomputable def MtR(X:Cx)(id:String)(r:V->List V->Hp->VK->Prop):Prop :=
 ∀(pins:List (Addr×Obj)) (s:Xg) (σ:St) (H:Hp) (x:V) (xs:List V) (v:Xd) (us:List Xd) (Q:VK),Inv X pins σ H s->RelV x v->Vals xs us->r x xs H Q ->
  XC (X6 X.prog X.w) X.A (call (.builtin id) (v :: us)) (EP X pins σ Q) X.xe s
section
variable {X:Cx}{a b:Expr}{ta tb:TE}{pos:Pos}
theorem IxR.or{r r':R2}(h:IxR X r)(h':IxR X r'):IxR X (λx y H Q=>r x y H Q∨r' x y H Q):=by
 intro value slice pins s σ H x y v u Q I rx ry q hs
 rcases q with q|q
 ·exact h value slice pins s σ H x y v u Q I rx ry q hs
 ·exact h' value slice pins s σ H x y v u Q I rx ry q hs
theorem Z6s{r:R2}(hr:IxR X r)(ha:PE X a ta)(hb:PE X b tb)(hs:Zjw b):PE X (.Subscript a b pos) (tOp r ta tb):=by
 intro pins s σ H Q I h
 exact Subscript_ (Z9c ha hb I h λv u s2 x y H2 I2 rx ry q=>hr a b pins s2 σ H2 x y v u Q I2 rx ry q (hs _ _))
noncomputable def Z9d(K:Xc):R2:=λx y H Q=>∃p xs i v,x= .ref p∧y= .int i∧SqL K H p xs∧atI xs i=some v∧Q v H
noncomputable def Yci(K:Xc):R2:=λx y H Q=>∃p xs i v,x= .ref p∧y= .int i∧SqT K H p xs∧atI xs i=some v∧Q v H
noncomputable def Yby:R2:=λx y H Q=>∃z i c,x= .str z∧y= .int i∧z.length≤Xx∧atI z.cps.toList i=some c∧Q (.str ⟨#[c]⟩) H
theorem Zti:IxR X (Z9d X.K):=by
 intro value slice pins s σ H x y v u Q I rx ry h hs
 obtain⟨p,xs,i,z,rfl,rfl,hq,he,q⟩:=h
 cases rx
 obtain⟨t,rfl⟩:=ry
 obtain⟨its,r,pl,hz⟩:=I.list hq
 obtain⟨j,h1,h2,h3,h4,h5⟩:=Zm2 he
 obtain⟨w,ew,rw'⟩:=r.get h2
 have hl:=r.length
 have hn:=Zja
 have fin:EP X pins σ Q w s:=⟨z,H,I,rw',q⟩
 by_cases h0:0≤i
 ·have hj:i.toNat=j:=by
   rw[seqIndex_of h0 h5]at h1
   exact QD h1
  exact item_listR pl.isList h0 (by omega) (by rw[hj];simpa using ew) fin hs
 ·have hj:(i+(its.toArray.size:Int)).toNat=j:=by
   rw[seqIndex_neg (by omega) h4]at h1
   rw[Xy,←hl]
   exact QD h1
  exact subscriptTail_builtinR (x:=w) pl.isList.typeIs slot_list_getitem.lookup
   (wpAny_getItem_list_neg (Q:=λr s'=>r=w∧EP X pins σ Q r s') pl.isList (by omega) (by rw[Xy]<;>omega) (by omega) (by rw[hj];simpa using ew) ⟨rfl,fin⟩) hs
theorem Z5h:IxR X (Yci X.K):=by
 intro value slice pins s σ H x y v u Q I rx ry h hs
 obtain⟨p,xs,i,z,rfl,rfl,hq,he,q⟩:=h
 cases rx
 obtain⟨t,rfl⟩:=ry
 obtain⟨its,r,pl,hz⟩:=I.tuple hq
 obtain⟨j,h1,h2,h3,h4,h5⟩:=Zm2 he
 obtain⟨w,ew,rw'⟩:=r.get h2
 have hl:=r.length
 have hn:=Zja
 have fin:EP X pins σ Q w s:=⟨z,H,I,rw',q⟩
 exact subscriptTail_builtinR (x:=w) pl.typeIs slot_tuple_getitem.lookup
  (getItem_tuple (j:=j) (Q:=λr s'=>r=w∧EP X pins σ Q r s') pl (by omega) (by omega) (by rw[Xy,←hl];exact h1) (by simpa using ew) ⟨rfl,fin⟩) hs
theorem Z45:IxR X Yby:=by
 intro value slice pins s σ H x y v u Q I rx ry h hs
 obtain⟨z,i,c,rfl,rfl,hz,he,q⟩:=h
 obtain⟨t,rfl⟩:=rx
 obtain⟨t',rfl⟩:=ry
 obtain⟨j,h1,h2,h3,h4,h5⟩:=Zm2 he
 have hl:z.cps.toList.length=z.length:=by simp[Str.length]
 rw[hl]at h1 h4 h5
 have hn:=Zja
 exact tail_any (typeIs_str s z t) slot_str_getitem.lookup (getItem_str (c:=c) (by
  have e1:decide (i< -(2^63:Int))=false:=decide_eq_false (by omega)
  have e2:decide (i≥2^63)=false:=decide_eq_false (by omega)
  rw[e1,e2,Bool.or_false]) (by rw[h1];simpa using h2) ⟨.str ⟨#[c]⟩,H,I.tok _,⟨_,rfl⟩,q⟩) hs
noncomputable def rIx(K:Xc):R2:=λx y H Q=>Z9d K x y H Q∨Yci K x y H Q∨Yby x y H Q
theorem Z4b:IxR X (rIx X.K):=Zti.or (Z5h.or Z45)
theorem Zql(its:List Xd)(n j:Nat)(u:Xd):Bb (·.setIfInBounds j u) { cls:=.type "list",data:=.seq its.toArray n }={ cls:=.type "list",data:=.seq (its.set j u).toArray n }:=by
 simp[Bb]
theorem Inv.lst{pins:List (Addr×Obj)}{σ:St}{H:Hp}{s:Xg}{p:Addr}{xs:List V}(I:Inv X pins σ H s)(h:H p=some (.lst xs)) :
  ∃(its:List Xd) (n:Nat),Vals xs its∧s.heap.get? p=some { cls:=.type "list",data:=.seq its.toArray n }∧xs.length≤Xx:=by
 obtain⟨z,its,n,r,e⟩:=I.hok p _ h
 exact⟨its,n,r,e,z⟩
theorem Inv.lstUpd{pins:List (Addr×Obj)}{σ:St}{H:Hp}{s:Xg}{p:Addr}{xs ys:List V}{its its':List Xd}{n n':Nat}{f:Obj->Obj}(I:Inv X pins σ H s)(h:H p=some (.lst xs))
  (ho:s.heap.get? p=some { cls:=.type "list",data:=.seq its.toArray n }) (hf:f { cls:=.type "list",data:=.seq its.toArray n }={ cls:=.type "list",data:=.seq its'.toArray n' }) (r:Vals ys its') (hz:ys.length≤Xx) (t:Nat) :
  Inv X pins σ (upd H p (.lst ys)) { s with heap:=s.heap.update p f,toks:=t }:=by
 have e:(s.heap.update p f).get? p=some { cls:=.type "list",data:=.seq its'.toArray n' }:=by
  rw[Heap.get?_update_self f ho (by rw[hf]<;>rfl),hf]
 refine I.write (x:=p) (e:=p) (by rw[h];trivial) (.inl rfl) (λb u hb q=>(Heap.get?_update_other _ _ (Vs hb)).trans q) ⟨_,e⟩ ?_
 exact⟨hz,its',n',r,e⟩
noncomputable def Z4a:V->V->V->Hp->(Hp->Prop)->Prop:=λo i v H Q=>∃p xs k j,o= .ref p∧i= .int k∧H p=some (.lst xs)∧ixN xs.length k=some j∧Q (upd H p (.lst (xs.set j v)))
theorem set_list:Ybj X Z4a:=by
 intro pins s σ H o i v ov iv u Q I ro ri rv h
 obtain⟨p,xs,k,j,rfl,rfl,hp,hj,q⟩:=h
 cases ro
 obtain⟨t,rfl⟩:=ri
 obtain⟨its,n,r,ho,hz⟩:=I.lst hp
 obtain⟨h1,h2,h3,h4⟩:=Zn0 hj
 have hl:=r.length
 have hn:=Zja
 have I':Inv X pins σ (upd H p (.lst (xs.set j v))) { s with heap:=s.heap.update p (Bb (·.setIfInBounds j u)) } :=
  I.lstUpd hp ho (Zql its n j u) (r.set rv j) (by rw[Vf];exact hz) s.toks
 by_cases h0:0≤k
 ·have hk:k.toNat=j:=by
   rw[seqIndex_of h0 h4]at h1
   exact QD h1
  exact PySem.W.ki_setAt ho h0 (by omega) (by rw[Xy,←hl];exact h4) (by rw[hk];exact⟨_,I',q⟩)
 ·have hk:(k+(its.toArray.size:Int)).toNat=j:=by
   rw[seqIndex_neg (by omega) h3]at h1
   rw[Xy,←hl]
   exact QD h1
  exact PySem.W.ki_setBack ho (by omega) (by rw[Xy,←hl];exact h3) (by omega) (by rw[hk];exact⟨_,I',q⟩)
theorem Zk8(lo hi:Option Int)(n:Nat):(JW lo hi none n).1=((HT.sIx n 0 lo:Nat):Int)∧(JW lo hi none n).2.1=((HT.sIx n n hi:Nat):Int)∧(JW lo hi none n).2.2=1:=by
 refine⟨?_,?_,rfl⟩
 ·cases lo with
  | none=>simp[JW,HT.sIx]
  | some i=>
   simp only[JW,HT.sIx,Option.getD_none,show(1:Int)>0 by decide,if_true]
   by_cases h:i<0
   ·simp only[h,if_true]<;>omega
   ·simp only[h,if_false]<;>omega
 ·cases hi with
  | none=>simp[JW,HT.sIx]
  | some i=>
   simp only[JW,HT.sIx,Option.getD_none,show(1:Int)>0 by decide,if_true]
   by_cases h:i<0
   ·simp only[h,if_true]<;>omega
   ·simp only[h,if_false]<;>omega
theorem Zjo(its:List Xd)(lo hi:Option Int):slicePick its.toArray lo hi none=((its.drop (HT.sIx its.length 0 lo)).take (HT.sIx its.length its.length hi-HT.sIx its.length 0 lo)).toArray:=by
 obtain⟨h1,h2,h3⟩:=Zk8 lo hi its.toArray.size
 unfold slicePick
 rw[h1,h2,h3]
 simp only[sliceRange_one,pick_run,Xy]<;>rfl
noncomputable def Yb1(K:Xc):V->Option Int->Option Int->Hp->VK->Prop:=λx lo hi H Q=>∃a xs,x= .ref a∧SqL K H a xs∧∀p,H p=none->Q (.ref p) (upd H p (.lst (Z3c xs lo hi)))
theorem Z1f:SlR X (Yb1 X.K):=by
 intro pins s σ H x v vl vu lo hi sl Q I rx hs pl pu h
 obtain⟨a,xs,rfl,hx,q⟩:=h
 cases rx
 obtain⟨its,r,ht,hz⟩:=I.list hx
 have hlen:=r.length
 refine⟨"list",_,slot_list_getitem.lookup,ht.isList.typeIs,?_⟩
 refine wpAny_getItem_list_slice ht.isList hs pl pu .none (by simp) ?_ (by rw[Xy]<;>omega)
 rw[Zjo,←hlen]
 refine⟨.ref s.heap.objs.size,_,I.laid (t':=s.toks) (o:=.lst (Z3c xs lo hi)) (λb ob q=>Xe _ q) (XN _) ?_,rfl,q _ (I.hok.fresh (XN _))⟩
 exact⟨QT (Zn3 xs lo hi) hz,_,0,(r.drop (HT.sIx xs.length 0 lo)).take (HT.sIx xs.length xs.length hi-HT.sIx xs.length 0 lo),Xw _ rfl⟩
noncomputable def Zhv:V->Bool
 | .non=>true
 | .bl _=>true
 | .int _=>true
 | .str _=>true
 | _=>false
noncomputable def eqV:V->V->Bool
 | .non,.non=>true
 | .bl a,.bl b=>a==b
 | .bl a,.int b=>(if a then 1 else 0)==b
 | .int a,.bl b=>a==(if b then 1 else 0)
 | .int a,.int b=>a==b
 | .str a,.str b=>a==b
 | _,_=>false
theorem Z4u{A:Qq}{s:Xg}{y x:V}{u v:Xd}(ry:RelV y u)(rx:RelV x v)(fy:Zhv y=true)(fx:Zhv x=true):JX A s u v (eqV y x):=by
 cases y with
 | non=>
  cases ry
  cases x with
  | non=>cases rx;exact JX.same _
  | bl b=>cases rx;exact JX.none_bool b
  | int b=>obtain⟨t,rfl⟩:=rx;exact JX.none_int b t
  | str b=>obtain⟨t,rfl⟩:=rx;exact JX.none_str b t
  | _=>exact absurd (show false=true from fx) Xm
 | bl a=>
  cases ry
  cases x with
  | non=>cases rx;exact JX.bool_none a
  | bl b=>cases rx;exact JX.bool_bool a b
  | int b=>obtain⟨t,rfl⟩:=rx;exact JX.bool_int a b t
  | str b=>obtain⟨t,rfl⟩:=rx;exact JX.bool_str a b t
  | _=>exact absurd (show false=true from fx) Xm
 | int a=>
  obtain⟨t',rfl⟩:=ry
  cases x with
  | non=>cases rx;exact JX.int_none a t'
  | bl b=>cases rx;exact JX.int_bool a t' b
  | int b=>obtain⟨t,rfl⟩:=rx;exact JX.int_int a t' b t
  | str b=>obtain⟨t,rfl⟩:=rx;exact SeqAt.EqAt.int_str a t' b t
  | _=>exact absurd (show false=true from fx) Xm
 | str a=>
  obtain⟨t',rfl⟩:=ry
  cases x with
  | non=>cases rx;exact JX.str_none a t'
  | bl b=>cases rx;exact JX.str_bool a t' b
  | int b=>obtain⟨t,rfl⟩:=rx;exact SeqAt.EqAt.str_int a t' b t
  | str b=>obtain⟨t,rfl⟩:=rx;exact JX.str_str a t' b t
  | _=>exact absurd (show false=true from fx) Xm
 | _=>exact absurd (show false=true from fy) Xm
noncomputable def eqU(x:V)(u:Xd):Bool:=match u with
 | .none=>eqV .non x
 | .bool b=>eqV (.bl b) x
 | .int i _=>eqV (.int i) x
 | .str z _=>eqV (.str z) x
 | _=>false
theorem Zyf{x y:V}{u:Xd}(r:RelV y u)(f:Zhv y=true):eqU x u=eqV y x:=by
 cases y with
 | non=>cases r;rfl
 | bl b=>cases r;rfl
 | int i=>obtain⟨t,rfl⟩:=r;rfl
 | str z=>obtain⟨t,rfl⟩:=r;rfl
 | _=>exact absurd (show false=true from f) Xm
theorem Zjp{x:V}{xs:List V}{us:List Xd}(h:Vals xs us)(f:xs.all Zhv=true):us.any (eqU x)=xs.any λy=>eqV y x:=by
 induction h with
 | nil=>rfl
 | cons r t ih=>
  rw[List.all_cons,XQ]at f
  rw[List.any_cons,List.any_cons,Zyf r f.1,ih f.2]
theorem Zg4{A:Qq}{s:Xg}{x:V}{v:Xd}(rx:RelV x v)(fx:Zhv x=true){xs:List V}{us:List Xd}(h:Vals xs us)(f:xs.all Zhv=true):∀u∈us,JX A s u v (eqU x u):=by
 induction h with
 | nil=>intro u hu;cases hu
 | cons r t ih=>
  intro u' hu
  rw[List.all_cons,XQ]at f
  rcases Xq.mp hu with rfl|hu
  ·rw[Zyf r f.1];exact Z4u r rx f.1 fx
  ·exact ih f.2 u' hu
noncomputable def inV(x:V)(xs:List V):Bool:=xs.any λy=>eqV y x
noncomputable def rIn(K:Xc)(neg:Bool):R2:=λx y H Q=>∃p xs,y= .ref p∧(SqL K H p xs∨SqT K H p xs)∧Zhv x=true∧xs.all Zhv=true∧Q (.bl (if neg then !inV x xs else inV x xs)) H
theorem Ztu:OpR X (BK .In) (rIn X.K false):=by
 intro pins s σ H x y v u Q I rx ry h
 obtain⟨p,xs,rfl,hq,fx,fs,q⟩:=h
 cases ry
 rcases hq with hq|hq
 ·obtain⟨its,r,pl,hz⟩:=I.list hq
  refine SeqAt.in_listAt (eqU x) pl.isList (λw hw=>Zg4 rx fx r fs w (by simpa using hw)) ⟨.bl _,H,I,rfl,?_⟩
  rw[show its.toArray.any (eqU x)=its.any (eqU x) by simp,Zjp r fs]
  exact q
 ·obtain⟨its,r,pl,hz⟩:=I.tuple hq
  refine SeqAt.in_tupleAt (eqU x) pl (λw hw=>Zg4 rx fx r fs w (by simpa using hw)) ⟨.bl _,H,I,rfl,?_⟩
  rw[show its.toArray.any (eqU x)=its.any (eqU x) by simp,Zjp r fs]
  exact q
theorem Zly:OpR X (BK .NotIn) (rIn X.K true):=by
 intro pins s σ H x y v u Q I rx ry h
 obtain⟨p,xs,rfl,hq,fx,fs,q⟩:=h
 cases ry
 rcases hq with hq|hq
 ·obtain⟨its,r,pl,hz⟩:=I.list hq
  refine SeqAt.notIn_listAt (eqU x) pl.isList (λw hw=>Zg4 rx fx r fs w (by simpa using hw)) ⟨.bl _,H,I,rfl,?_⟩
  rw[show its.toArray.any (eqU x)=its.any (eqU x) by simp,Zjp r fs]
  exact q
 ·obtain⟨its,r,pl,hz⟩:=I.tuple hq
  refine SeqAt.notIn_tupleAt (eqU x) pl (λw hw=>Zg4 rx fx r fs w (by simpa using hw)) ⟨.bl _,H,I,rfl,?_⟩
  rw[show its.toArray.any (eqU x)=its.any (eqU x) by simp,Zjp r fs]
  exact q
theorem Zlo:Zd6 X (.builtin "len") (λxs H Q=>∃p ys,xs=[.ref p]∧(SqL X.K H p ys∨SqT X.K H p ys)∧Q (.int ys.length) H):=by
 intro pins s σ H xs us Q I r h
 obtain⟨p,ys,rfl,hq,q⟩:=h
 obtain⟨u,rfl,rx⟩:=vals1 r
 cases rx
 have hn:=Zja
 rcases hq with hq|hq
 ·obtain⟨its,r',pl,hz⟩:=I.list hq
  have hlen:=r'.length
  exact Calls.call_len_list pl.isList (by simp only[Xy]<;>omega) ⟨.int ys.length,H,I.tok _,⟨s.toks+1,by rw[Xy,hlen]⟩,q⟩
 ·obtain⟨its,r',pl,hz⟩:=I.tuple hq
  have hlen:=r'.length
  exact len_tuple pl (by simp only[Xy]<;>omega) ⟨.int ys.length,H,I.tok _,⟨s.toks+1,by rw[Xy,hlen]⟩,q⟩
theorem Zlq:Zd6 X (.type "list") (λxs H Q=>∃p ys,xs=[.ref p]∧(SqL X.K H p ys∨SqT X.K H p ys)∧∀l,H l=none->Q (.ref l) (upd H l (.lst ys))):=by
 intro pins s σ H xs us Q I r h
 obtain⟨p,ys,rfl,hq,q⟩:=h
 obtain⟨u,rfl,rx⟩:=vals1 r
 cases rx
 have fin:∀(its:List Xd),Vals ys its->ys.length≤Xx->∀(h':Heap) (c':Nat),(∀b o',s.heap.get? b=some o'->h'.get? b=some o') ->
   h'.get? s.heap.objs.size=some { cls:=.type "list",dict:=none,data:=.seq its.toArray c',slots:=#[] }->EP X pins σ Q (.ref s.heap.objs.size) { s with heap:=h' }:=λits r' hz h' c' kp e=>
  ⟨.ref s.heap.objs.size,_,I.laid (t':=s.toks) kp (XN _) (show ObjOk X.prog X.w _ h' _ (.lst ys)from⟨hz,its,c',r',e⟩),rfl,q _ (I.hok.fresh (XN _))⟩
 rcases hq with hq|hq
 ·obtain⟨its,r',pl,hz⟩:=I.list hq
  have hlen:=r'.length
  obtain⟨o,ho,hc,n,hd⟩:=pl.isList
  exact call_list_seq p (.inl rfl) ho hc hd (λh' c' kp e=>fin its r' hz h' c' kp e) (by simp only[Xy]<;>omega)
 ·obtain⟨its,r',pl,hz⟩:=I.tuple hq
  have hlen:=r'.length
  obtain⟨o,ho,hc,n,hd⟩:=pl
  exact call_list_seq p (.inr rfl) ho hc hd (λh' c' kp e=>fin its r' hz h' c' kp e) (by simp only[Xy]<;>omega)
noncomputable def tyV(K:Xc)(T:String)(x:V)(H:Hp):Prop:=match x with
 | .str _=>T="str"
 | .int _=>T="int"
 | .ref p=>(T="list"∧∃xs,SqL K H p xs)∨(T="tuple"∧∃o,K.lookup p=some o∧o.cls= .type "tuple"∧o.dict=none)∨
   (T="dict"∧((∃kvs,H p=some (.dK kvs))∨∃kvs,H p=some (.dT kvs)))∨(T="set"∧∃S n,H p=some (.set S n))
 | _=>False
theorem Z6u{pins:List (Addr×Obj)}{σ:St}{H:Hp}{s:Xg}{T:String}{x:V}{v:Xd}(I:Inv X pins σ H s)(r:RelV x v)(ty:tyV X.K T x H) :
  s.TypeIs v T∧∀a,v= .ref a->∃ob,s.heap.get? a=some ob∧ob.dict=none:=by
 cases x with
 | str z=>
  obtain⟨t,rfl⟩:=r
  cases(show T="str"from ty)
  exact⟨typeIs_str s z t,λ_ e=>nomatch e⟩
 | int i=>
  obtain⟨t,rfl⟩:=r
  cases(show T="int"from ty)
  exact⟨typeIs_int s i t,λ_ e=>nomatch e⟩
 | ref p=>
  cases r
  rcases ty with⟨rfl,xs,hq⟩|⟨rfl,o,hk,hc,hd⟩|⟨rfl,hk⟩|⟨rfl,S,n,hk⟩
  ·obtain⟨its,_,pl,_⟩:=I.list hq
   refine⟨pl.isList.typeIs,λa e=>?_⟩
   cases e
   obtain⟨o,n,e,c,hd,_⟩:=pl
   exact⟨o,e,hd⟩
  ·refine⟨⟨o,I.kIn p o hk,hc⟩,λa e=>?_⟩
   cases e
   exact⟨o,I.kIn _ o hk,hd⟩
  ·have z:∃o,s.heap.get? p=some o∧o.ExactDict:=by
    rcases hk with⟨kvs,hk⟩|⟨kvs,hk⟩
    ·obtain⟨_,_,_,_,o,_,_,e,ex,_⟩:=I.hok p _ hk
     exact⟨o,e,ex⟩
    ·obtain⟨_,_,_,_,o,_,_,e,ex,_⟩:=I.hok p _ hk
     exact⟨o,e,ex⟩
   obtain⟨o,e,ex⟩:=z
   refine⟨⟨o,e,ex.1⟩,λa e2=>?_⟩
   cases e2
   exact⟨o,e,ex.2.1⟩
  ·obtain⟨o,_,_,_,e,ex,_⟩:=I.hok p _ hk
   refine⟨⟨o,e,ex.1⟩,λa e2=>?_⟩
   cases e2
   exact⟨o,e,ex.2.1⟩
 | _=>exact VG ty
noncomputable def tBM(K:Xc)(T:String)(r:V->List V->Hp->VK->Prop)(to:TE)(t:TA):TE:=λσ H Q=>to σ H λx H1=>tyV K T x H1∧t σ H1 λxs H2=>r x xs H2 Q
variable {o e:Expr}{es:List Expr}{to:TE}{t:TA}{name:Str}{apos cpos:Pos}{T id:String}{r:V->List V->Hp->VK->Prop}
theorem Zvl(pa:PlainAttrs T)(slot:Slot T name id)(hty:typeOf (.builtin id)=pure (.type "method_descriptor"))(hm:MtR X id r)(ho:PE X o to)(ha:PA X (e :: es) t)
  (hbase:Uh o name X.env (eval o X.env)=eval o X.env:=by rfl)
  (hfew:((JM cpos (Xp (e :: es) X.env)).all (λx=>!x.1)&&(backToKw cpos (U4 [] X.env)).all (λx=>x.1.isSome)
   &&decide ((e :: es).length+([]:List V6).length+(if([]:List V6).isEmpty then 0 else 1)<30))=true:=by rfl)
  (hline:(apos.endLine==cpos.line)=true:=by rfl) (hs:Xp (e :: es) X.env=(false,eval e X.env) :: Xp es X.env:=by rfl) (hplain:(JM cpos (Xp es X.env)).any (·.1)=false:=by rfl) :
  PE X (.Call (.Attribute o name apos) (e :: es) [] cpos) (tBM X.K T r to t):=by
 intro pins s σ H Q I h
 refine wpAny_Call_method_late hbase hfew hline rfl (thn (ho pins s σ H _ I h) λv s1 qz9=>?_)
 obtain⟨x,H1,I1,r1,ty,q1⟩:=qz9
 obtain⟨h1,h2⟩:=Z6u I1 r1 ty
 refine⟨T,id,pa,slot,hty,h1,h2,?_⟩
 have hA:=ha cpos pins s1 σ H1 _ I1 q1
 rw[hs]at hA⊢
 refine Calls.callWith_builtin (by show(false||(JM cpos (Xp es X.env)).any (·.1))=false;rw[hplain]<;>rfl) (Calls.evalArgs_plain ?_)
 refine thn hA λus s2 qz9=>?_
 obtain⟨vs,H2,I2,r2,q2⟩:=qz9
 exact hm pins s2 σ H2 x vs v us Q I2 r1 r2 q2
end
noncomputable def MtM(X:Cx)(id:String)(r:V->List V->Hp->VK->Prop):Prop :=
 ∀(pins:List (Addr×Obj)) (s:Xg) (σ:St) (H:Hp) (x:V) (xs:List V) (v:Xd) (us:List Xd) (Q:VK),Inv X pins σ H s->RelV x v->Vals xs us->r x xs H Q ->
  XC (X6 X.prog X.w) X.A (call (.builtin id) (v :: us)) (EP X pins σ Q) X.xe s
theorem Vals.one{x:V}{us:List Xd}(h:Vals [x] us):∃u,us=[u]∧RelV x u:=by
 cases h with
 | cons r t=>cases t;exact⟨_,rfl,r⟩
theorem Vals.eraseIdx:∀{xs:List V} {us:List Xd} (i:Nat),Vals xs us->Vals (xs.eraseIdx i) (us.eraseIdx i)
 | _,_,_,.nil=>.nil
 | _,_,0,.cons _ t=>t
 | _,_,i+1,.cons r t=>.cons r (Vals.eraseIdx i t)
theorem Vals.rep{xs:List V}{us:List Xd}(h:Vals xs us):∀k:Nat,Vals (X4 k xs).flatten (X4 k us).flatten
 | 0=>.nil
 | k+1=>by
  rw[Vm,Vm,Uj,Uj]
  exact Vals.append h (Vals.rep h k)
theorem Zl9{α:Type}:∀(l:List α) (i:Nat),(l.eraseIdx i).length≤l.length
 | [],_=>XN _
 | _ :: _,0=>Nat.le_succ _
 | _ :: r,i+1=>Nat.succ_le_succ (Zl9 r i)
theorem foldl_rep(its:List Xd):∀(k:Nat) (acc:List Xd),
  List.foldl (λx1 x2=>x1 ++ x2) acc.toArray (X4 k its.toArray)=(acc ++ (X4 k its).flatten).toArray
 | 0,acc=>by simp
 | k+1,acc=>by
  have e:acc.toArray ++ its.toArray=(acc ++ its).toArray:=by simp
  have e2:(acc ++ its) ++ (X4 k its).flatten=acc ++ (X4 (k+1) its).flatten:=by
   rw[Vm,Uj,JB]
  rw[←e2,←foldl_rep its k (acc ++ its),←e,Vm,List.foldl_cons]
section
variable {X:Cx}{pins:List (Addr×Obj)}{σ:St}{H:Hp}{s:Xg}{l b:Addr}{xs ys zs:List V}
theorem Inv.lset{its its':List Xd}{n:Nat}{f:Array Xd->Array Xd}{t':Nat}(I:Inv X pins σ H s)(hH:H l=some (.lst xs))
  (e:s.heap.get? l=some { cls:=.type "list",data:=.seq its.toArray n }) (hf:f its.toArray=its'.toArray) (hv:Vals ys its') (hz:ys.length≤Xx) :
  Inv X pins σ (upd H l (.lst ys)) { s with heap:=s.heap.update l (Bb f),toks:=t' }:=by
 have q:=PySem.IsL.update e f
 rw[hf]at q
 refine I.write (x:=l) (e:=l) (by rw[hH];exact trivial) (.inl rfl) (λb' u hb hu=>(Heap.get?_update_other s.heap (Bb f) (Vs hb)).trans hu) ⟨_,q⟩ ?_
 exact⟨hz,its',_,hv,q⟩
theorem Inv.lnew{its:List Xd}{t':Nat}(I:Inv X pins σ H s)(hv:Vals ys its)(hz:ys.length≤Xx) :
  Inv X pins σ (upd H s.heap.objs.size (.lst ys)) { s with heap:=s.heap.push { cls:=.type "list",data:=.seq its.toArray },toks:=t' } :=
 I.laid (λ_ _ q=>Xe _ q) (XN _) ⟨hz,its,0,hv,Xw _ rfl⟩
theorem Inv.fresh(I:Inv X pins σ H s):H s.heap.objs.size=none:=I.hok.fresh (XN _)
theorem Inv.lstM(I:Inv X pins σ H s)(hH:H l=some (.lst xs)):xs.length≤Xx∧∃(its:List Xd) (n:Nat),Vals xs its∧xs.length=its.length∧s.heap.get? l=some { cls:=.type "list",data:=.seq its.toArray n }:=by
 obtain⟨z,its,n,r,e⟩:=I.hok l _ hH
 exact⟨z,its,n,r,r.length,e⟩
theorem Zpb{n:Nat}(h:n≤Xx):VB n=false:=by
 unfold VB
 exact decide_eq_false (by omega)
end
section
variable {X:Cx}
noncomputable def Zzt:V->List V->Hp->VK->Prop:=λx vs H Q=>∃l xs y,x= .ref l∧vs=[y]∧H l=some (.lst xs)∧xs.length<Xx∧Q .non (upd H l (.lst (xs ++ [y])))
theorem Zl6:MtM X "list.append" Zzt:=by
 intro pins s σ H x vs v us Q I rx rv h
 obtain⟨l,xs,y,rfl,rfl,hH,hz,q⟩:=h
 cases rx
 obtain⟨u,rfl,ru⟩:=rv.one
 obtain⟨z,its,n,r,hl,e⟩:=I.lstM hH
 refine call_meets F.slot_list_append ⟨_,e,rfl⟩ F.entry_list_append (F.args_list_append_2 _ _) (PySem.list_append l its.toArray n u (by rw[Xy];omega)) ⟨e,?_⟩
 refine⟨.non,_,I.lset (its':=its ++ [u]) hH e (by simp) (r.append (.cons ru .nil)) ?_,rfl,q⟩
 rw[XX,JP]
 omega
noncomputable def Z23:V->List V->Hp->VK->Prop:=λx vs H Q=>∃l b xs zs,x= .ref l∧vs=[.ref b]∧H l=some (.lst xs)∧H b=some (.lst zs)∧xs.length+zs.length≤Xx∧Q .non (upd H l (.lst (xs ++ zs)))
theorem Zra:MtM X "list.extend" Z23:=by
 intro pins s σ H x vs v us Q I rx rv h
 obtain⟨l,b,xs,zs,rfl,rfl,hH,hB,hz,q⟩:=h
 cases rx
 obtain⟨u,rfl,ru⟩:=rv.one
 cases ru
 obtain⟨z,its,n,r,hl,e⟩:=I.lstM hH
 obtain⟨z2,its2,n2,r2,hl2,e2⟩:=I.lstM hB
 have hsz:its.toArray.size+its2.toArray.size≤Xx:=by rw[Xy,Xy];omega
 have hlong:¬(!its.toArray.isEmpty&&VB (its.toArray.size+its2.toArray.size))=true:=by
  rw[Zpb hsz,Bool.and_false]
  exact Xm
 refine call_meets F.slot_list_extend ⟨_,e,rfl⟩ F.entry_list_extend (F.args_list_extend_2 _ _)
  (AutoSeq1.list_extend_list_list_0 l its.toArray n b its2.toArray n2 hlong (by rw[Xy];omega) (by omega)) ⟨e,e2,?_⟩
 refine⟨.non,_,I.lset (its':=its ++ its2) hH e (by simp) (r.append r2) ?_,rfl,q⟩
 rw[XX]
 omega
noncomputable def Z3m:V->List V->Hp->VK->Prop:=λx vs H Q=>∃l xs i k y,x= .ref l∧vs=[.int i]∧H l=some (.lst xs)∧-(2^63)≤i∧i<2^63∧seqIndex? i xs.length=some k∧xs[k]? =some y∧Q y (upd H l (.lst (xs.eraseIdx k)))
theorem Zxf:MtM X "list.pop" Z3m:=by
 intro pins s σ H x vs v us Q I rx rv h
 obtain⟨l,xs,i,k,y,rfl,rfl,hH,h1,h2,hk,hy,q⟩:=h
 cases rx
 obtain⟨u,rfl,ru⟩:=rv.one
 obtain⟨t,rfl⟩:=ru
 obtain⟨z,its,n,r,hl,e⟩:=I.lstM hH
 obtain⟨w,hw,rw'⟩:=r.get hy
 refine call_meets F.slot_list_pop ⟨_,e,rfl⟩ F.entry_list_pop (F.args_list_pop_2 _ _)
  (MeetsSeq.list_pop_at l its.toArray n i t k w (fitsIndex_both h1 h2) (by rw[Xy,←hl];exact hk) (by rw[←Qd];exact hw) (by rw[Xy];omega)) ⟨e,?_⟩
 refine⟨y,_,I.lset (its':=its.eraseIdx k) hH e ?_ (r.eraseIdx k) ?_,rw',q⟩
 ·show its.toArray.eraseIdxIfInBounds k=(its.eraseIdx k).toArray
  rw[List.eraseIdxIfInBounds_toArray]
 ·have:=Zl9 xs k
  omega
noncomputable def Yee:R2:=λx y H Q=>∃l k xs,x= .ref l∧y= .int k∧H l=some (.lst xs)∧-(2^63)≤k∧k<2^63∧xs.length*k.toNat≤Xx∧
 ∀p,H p=none->Q (.ref p) (upd H p (.lst (X4 k.toNat xs).flatten))
theorem len_rep{α:Type}(xs:List α)(k:Nat):(X4 k xs).flatten.length=k*xs.length:=by
 induction k with
 | zero=>simp
 | succ k ih=>rw[Vm,Uj,XX,ih,Nat.succ_mul,Nat.add_comm]
theorem Z3l:OpR X (Ug .Mult) Yee:=by
 intro pins s σ H x y v u Q I rx ry h
 obtain⟨l,k,xs,rfl,rfl,hH,h1,h2,hz,q⟩:=h
 cases rx
 obtain⟨t,rfl⟩:=ry
 obtain⟨z,its,n,r,hl,e⟩:=I.lstM hH
 have hlen:its.toArray.size*k.toNat≤Xx:=by rw[Xy,←hl];exact hz
 have hcap:¬its.toArray.size*k.toNat>(2^63-1)/8:=by
  have:(Xx:Nat)≤(2^63-1)/8:=by decide
  omega
 have hfit:¬(!Ba.List.listFitsIndex k)=true:=by
  rw[fitsIndex_both h1 h2]
  exact Xm
 have hlong:¬VB (its.toArray.size*k.toNat)=true:=by
  rw[Zpb hlen]
  exact Xm
 have hnew:List.foldl (λx1 x2=>x1 ++ x2) #[] (X4 (if its.toArray.isEmpty=true then 0 else k.toNat) its.toArray)=(X4 k.toNat its).flatten.toArray:=by
  have f0:∀m:Nat,List.foldl (λx1 x2=>x1 ++ x2) #[] (X4 m its.toArray)=(X4 m its).flatten.toArray:=λm=>by
   have:=foldl_rep its m []
   rw[List.nil_append]at this
   exact this
  rw[f0]
  cases its with
  | nil=>simp
  | cons a r'=>rw[if_neg (by simp)]
 refine wpAny_binaryOp_repeat_ref (T :="list") (U :="int") (by decide) ⟨_,e,rfl⟩ (λs'=>typeIs_int s' k t) noFill_list_mul F.fills_int_mul F.slot_int_rmul repeat_list F.slot_int_index.lookup
  (call_meets F.slot_int_rmul (typeIs_int s k t) F.entry_int_rmul (F.args_int_rmul_2 _ _) (int___rmul___int_list k t l its.toArray n)
   ⟨e,rfl,⟨_,e,rfl⟩,call_meets F.slot_list_mul ⟨_,e,rfl⟩ F.entry_list_mul (F.args_list_mul_2 _ _) (AutoListH.list___mul___list_int_3 l its.toArray n k t hfit hcap hlong) ⟨e,?_⟩⟩)
 rw[hnew]
 exact⟨.ref _,_,I.lnew (t':=s.toks) (r.rep k.toNat) (by rw[len_rep,Nat.mul_comm];exact hz),rfl,q _ I.fresh⟩
end
section
variable {prog:Qa}{w:Qs}{A:Qq}{E:Xd->Xg->Prop}{s:Xg}
end
section
variable {X:Cx}
end
end L2
namespace Att
open PySem PySem.W PySem.Calls PyProof.Rows
theorem Zh8{P:Params}{h:Heap}:∀(ns:List Int) (vs:List Xd),WellAll P h vs (ns.map WData.int)->Q6 vs ns:=by
 intro ns
 induction ns with
 | nil=>
  intro vs w
  rw[List.map_nil]at w
  cases w
  exact .nil
 | cons n ns ih=>
  intro vs w
  rw[XF]at w
  cases w with
  | cons a b=>
   cases a
   exact .cons _ _ (ih _ b)
theorem Zse{l:OpenLaw}{n:Nat}(hn:l.most=some n){P:Params}{h:Heap}{args:List WData}{vals:List Xd}
  (hpre:l.row.toRowW.claim.pre args=true) (hwl:WellAll P h vals args) :
  ∃a vs ns,vals=[Qn a]∧args=[WData.list (ns.map WData.int)]∧h.get? a=some { cls:=.type "list",data:=.seq vs.toArray }∧Q6 vs ns∧ns.length≤n:=by
 have hsh:WShape.hasAll [] args [.list .int]=true:=(pre_splitW hpre).1
 have hc:l.pre.holds [] { args:=args }=true:=(pre_splitW hpre).2
 obtain⟨d,r,rfl,h1,h2⟩:=hasAllW_cons hsh
 obtain rfl:=hasAllW_nil h2
 obtain⟨xs,rfl,h3⟩:=hasW_list h1
 obtain⟨ns,rfl⟩:=items_int h3
 have hlen:ns.length≤n:=by
  unfold OpenLaw.pre at hc
  have h4:(WTm.not (.lt (.lit (.int (n:Int))) (.len (.arg 0)))).holds [] { args:=[.list (ns.map .int)] }=true:=by
   have h4:=(holds_andW hc).1
   rw[hn]at h4
   exact h4
  have h5:=condW_of h4 (w_not (w_lt w_lit (w_len_list (w_arg rfl))))
  rw[Xj]at h5
  refine Nat.le_of_not_lt λq=>?_
  have q':(n:Int)<((ns.length:Nat):Int):=by omega
  first
   | (rw[decide_eq_true q']at h5;exact absurd h5 (by decide))
   | (simp at h5;omega)
 cases hwl with
 | cons w1 w2=>
  cases w2
  cases w1 with
  | list ho hall=>exact⟨_,_,ns,rfl,rfl,ho,Zh8 ns _ hall,hlen⟩
theorem Zrc(l:OpenLaw)(args:List WData):l.row.toRowW.claim.post args (.bool true) args=true :=
 postW_of (r:=l.row.toRowW) (X:=(true==true))
  (show WShape.has [] (.bool true) .bool=true by first|rfl|decide|simp[WShape.has,WShape.arms,WShape.armsAll])
  (show(WTm.eq .res (.lit (.bool true))).value [] { args:=args,res:=some (.bool true),after:=args }=some (.bool (true==true))from w_eq_bool (w_res rfl) w_lit) rfl
theorem attach_call{l:OpenLaw}{n:Nat}{q:Qa}{loose:List Str}{XP:(Str->Option Xd)->Heap->Prop}{YP:Qs->Heap->Prop}{d:DefRec}
  (hn:l.most=some n) (hdf:d.params.defaults=[])
  (call:∀(w:Qs) (s₀ s₁:Xg) (mg mb:Str->Option Xd) (fa:Addr) (o:Obj) (pm cd doc:Xd) (a:Addr) (vs:List Xd) (ns:List Int),
   Ground q loose [] XP w s₀ mg mb s₁.heap->YP w s₁.heap ->
   s₁.heap.get? fa=some o->o.data= .func (docDef d.name d.params d.body d.scope pm cd doc)->s₁.heap.CodeRec cd d.name->mg d.name=some (.ref fa) ->
   s₁.heap.get? a=some { cls:=.type "list",data:=.seq vs.toArray }->Q6 vs ns->ns.length≤n->s₁.gens=#[] ->
   UW (X6 l.prog w) callerA (.call (.ref fa) ⟨[.ref a],[]⟩) (λr s'=>r= .ok (.ret (.bool true))∧OldK s₁.heap s'.heap∧s'.os=s₁.os∧AllBare s'.gens) s₁) :
  WalkO q loose XP YP l.row.toRowW d [] (λf vs=>PySem.call f vs):=by
 intro w s₀ s₁ mg mb G Y fa o pm cd doc dV kV ho hd hcd hD hmg hg args vals as hpre hlay hrd hwl hlo
 obtain rfl:dV= .none:=Dflts.none hD hdf
 obtain rfl:kV= .none:=Dflts.noKw hD
 obtain⟨a,vs,ns,rfl,rfl,hobj,hints,hlen⟩:=Zse hn hpre hwl
 refine enter_call (codeAny_mono (call w s₀ s₁ mg mb fa o pm cd doc a vs ns G Y ho (fd_plain hd) hcd hmg hobj hints hlen hg) λr s' hq=>?_)
 obtain⟨rfl,h2,h3,h4⟩:=hq
 exact⟨.inl ⟨.bool true,.bool true,[],rfl,λ_=>rfl,.bool true,Zrc l _,λ_=>⟨List.Pairwise.nil,λ_ hm=>(nomatch hm)⟩⟩,h2,h3,h4⟩
section
variable {prog:Qa}{w:Qs}{A:Qq}{E:Xd->Xg->Prop}{s:Xg}{K:Frag}
end
end Att
namespace L2
open PySem PySem.Spec PyProof.Rows
theorem Zum{vs:List Xd}{ns:List Int}(h:Q6 vs ns):Vals (ns.map V.int) vs:=by
 induction h with
 | nil=>exact .nil
 | cons n t h ih=>exact .cons ⟨t,rfl⟩ ih
noncomputable def Only(H:Hp):Prop:=∀b,H b=none∨∃o xs,H b=some (.frz o (.lst xs))
theorem Zxd{P:Qa}{w:Qs}{K:Xc}{mg mb:Str->Option Xd}{CX:CXT}{k:Nat}{fa a:Addr}{fd:XR}{x:Str}{sp:Sp}{s₁:Xg}{vs:List Xd}{ns:List Int}
  (KX:K.In s₁.heap) (hns:s₁.heap.Ns Ql mg) (hb:s₁.heap.Ns builtinsNs mb) (hbb:∀x:Str,x≠"__name__" ->mb x=Qk x) (hlim:s₁.heap.NoLimit) (hg:s₁.gens=#[])
  (ha:s₁.heap.get? a=some { cls:=.type "list",data:=.seq vs.toArray }) (hi:Q6 vs ns) (hl:ns.length≤Xx) (hr:Room k callerA)
  (F:∀base:Heap,K.In base->base.Ns Ql mg->FnOk P w K mg base CX k fa fd [x] sp) (hbind:∀(s:Xg) (u:Xd),BindsTo s fd ⟨[u],[]⟩ [(x,u)])
  (hsp:∀H:Hp,Only H->SqL K H a (ns.map V.int)->sp [.ref a] H (λv _=>v= .bl true) λ_ _ _=>False)
  (hCX:∀H e s',CX [] H s₁ (λ_ _ _=>False) e s'->False) :
  UW (X6 P w) callerA (.call (.ref fa) ⟨[.ref a],[]⟩) (λr s'=>r= .ok (.ret (.bool true))∧OldK s₁.heap s'.heap∧s'.os=s₁.os∧AllBare s'.gens) s₁:=by
 have rv:=Zum hi
 have lenV:=hi.length
 -- from an abstract heap in which nothing but the script may be tracked
 have core:∀H:Hp,Only H->SqL K H a (ns.map V.int)->HOk P w H s₁.heap->(∀b,H b≠none->b=a)->(H a≠none->K.lookup a=none) ->
   UW (X6 P w) callerA (.call (.ref fa) ⟨[.ref a],[]⟩) (λr s'=>r= .ok (.ret (.bool true))∧OldK s₁.heap s'.heap∧s'.os=s₁.os∧AllBare s'.gens) s₁:=by
  intro H hO hS hok hA hK
  have base_of:∀{b:Addr} {o:Obj},s₁.heap.get? b=some o->H b=none->(Zxb s₁.heap H).get? b=some o:=λe n=>Zu7 e n
  have noA:∀{b:Addr} {o:Obj} {es:Array DictEntry} {ep:Nat},s₁.heap.get? b=some o->o.data= .dict es ep->H b=none:=fun{b o es ep} e d=>by
   cases q:H b with
   | none=>rfl
   | some u=>
    have e':b=a:=hA b (by rw[q];simp)
    subst e'
    rw[ha]at e;cases e
    have d':Data.seq vs.toArray _=Data.dict es ep:=d
    cases d'
  have nsK:∀{b:Addr} {m:Str->Option Xd},s₁.heap.Ns b m->(Zxb s₁.heap H).Ns b m:=fun{b m} ⟨o,es,ep,e,d,r⟩=>⟨o,es,ep,base_of e (noA e d),d,r⟩
  have hKb:K.In (Zxb s₁.heap H):=λb o e=>base_of (KX b o e) (by
   cases q:H b with
   | none=>rfl
   | some u=>
    have e':b=a:=hA b (by rw[q];simp)
    subst e'
    rw[hK (by rw[q];simp)]at e;cases e)
  have hM:Mod K mg (Zxb s₁.heap H):=⟨hKb,nsK hns,⟨mb,nsK hb,hbb⟩,let⟨mc,h1,h2⟩:=hlim;⟨mc,nsK h1,h2⟩⟩
  have e0:Z77 P w K mg (Zxb s₁.heap H) callerA [] s₁ H:=⟨rfl,hM,λb o e=>Z1e e,Nat.le_of_eq (Zuc _ _),trivial,λb hb=>absurd (show b∈([]:List Addr)from hb) (by simp),hok,.of_eq hg⟩
  refine codeAny_mono ((F _ hKb (nsK hns)).run callerA [] s₁ H ⟨[.ref a],[]⟩ [.ref a] [.ref a] _ _ hr e0 (hbind s₁ (.ref a)) (.cons rfl .nil) (hsp H hO hS)) λr s' h=>?_
  cases r with
  | error e=>exact(hCX H e s' h).elim
  | ok fl=>
   cases fl with
   | next=>exact VG h
   | brk=>exact VG h
   | cont=>exact VG h
   | ret u=>
    obtain⟨v,H',os,bare,un,hok',r',q⟩:=h
    have q':v= .bl true:=q
    subst q'
    obtain rfl:u=U5 true:=r'
    refine⟨rfl,OldK.of_keep λb o e=>?_,os,bare⟩
    cases q:H b with
    | none=>exact un.keep b o e q (by intro z;exact absurd (show b∈([]:List Addr)from z) (by simp)) (by simp)
    | some u=>
     rcases hO b with z|⟨ob,xs,z⟩
     ·rw[q]at z;cases z
     ·have z2:=un.frzs b ob _ z
      obtain⟨e1,_⟩:=hok b _ z
      obtain⟨e2,_⟩:=hok' b _ z2
      rw[e]at e1;cases e1
      exact e2
 cases hk:K.lookup a with
 | some o=>
  -- the script is one of the module's own objects
  have e:=KX a o hk
  rw[ha]at e
  cases e
  refine core (λ_=>none) (λ_=>.inl rfl) (.inr ⟨_,vs.toArray,_,hk,rfl,rfl,rfl,by rw[Xy,lenV];exact hl,by simpa using rv⟩) (λb u z=>by have z':(none:Option HO)=some u:=z;cases z') (λb z=>absurd rfl z) λz=>absurd rfl z
 | none=>
  refine core (λb=>if b=a then some (.frz { cls:=.type "list",data:=.seq vs.toArray } (.lst (ns.map V.int)))else none) (λb=>?_) (.inl (.inr ⟨{ cls:=.type "list",data:=.seq vs.toArray },if_pos rfl⟩)) (λb u z=>?_) (λb z=>?_) λ_=>hk
  ·by_cases hb:b=a
   ·exact .inr ⟨_,_,if_pos hb⟩
   ·exact .inl (if_neg hb)
  ·by_cases hb:b=a
   ·have z':=(if_pos hb).symm.trans z
    cases z'
    subst hb
    exact⟨ha,by rw[Xj];exact hl,vs,_,rv,ha⟩
   ·have z':=(if_neg hb).symm.trans z
    cases z'
  ·by_cases hb:b=a
   ·exact hb
   ·exact absurd (if_neg hb) z
noncomputable abbrev KOf{K:Xc}{h:Heap}(_:K.In h):Xc:=K
theorem Z2h{l:PySem.W.OpenLaw}{n k:Nat}{q:Qa}{loose:List Str}{XP:(Str->Option Xd)->Heap->Prop}{YP:Qs->Heap->Prop}{d:DefRec}{K:Params->Xc}{CX:Qs->CXT}{sp:Qs->Sp}{x:Str}
  (hn:l.most=some n) (hn2:n≤Xx) (hdf:d.params.defaults=[]) (hr:Room k callerA)
  (hY:∀(w:Qs) (h:Heap),YP w h->(K w.params).In h)
  (F:∀(w:Qs) (mg:Str->Option Xd) (fa:Addr) (h:Heap),(K w.params).In h->h.Ns Ql mg->mg d.name=some (.ref fa) ->
   ∃fd:XR,(∀(s:Xg) (u:Xd),BindsTo s fd ⟨[u],[]⟩ [(x,u)])∧
    ∀base:Heap,(K w.params).In base->base.Ns Ql mg->FnOk l.prog w (K w.params) mg base (CX w) k fa fd [x] (sp w))
  (hsp:∀(w:Qs) (H:Hp) (a:Addr) (ns:List Int),ns.length≤n->Only H->SqL (K w.params) H a (ns.map V.int)->sp w [.ref a] H (λv _=>v= .bl true) λ_ _ _=>False)
  (hCX:∀(w:Qs) (H:Hp) (s:Xg) (e:Xd) (s':Xg),CX w [] H s (λ_ _ _=>False) e s'->False) :
  PySem.W.WalkO q loose XP YP l.row.toRowW d [] (λf vs=>PySem.call f vs):=by
 refine Att.attach_call hn hdf λw s₀ s₁ mg mb fa o pm cd doc a vs ns G Y ho hd hcd hmg hobj hints hlen hg=>?_
 have KX:=hY w _ Y
 obtain⟨fd,hb,hF⟩:=F w mg fa _ KX G.T.g hmg
 exact Zxd KX G.T.g G.T.b G.T.builtins G.T.nolimit hg hobj hints (QT hlen hn2) hr hF hb (λH hO hS=>hsp w H a ns hlen hO hS) λH e s'=>hCX w H s₁ e s'
noncomputable def Zf6(s:Stmt):Arguments:=match s with
 | .FunctionDef _ a _ _ _ _ _ _ _ _=>a
 | _=>{ posonlyargs:=[],args:=[],vararg:=none,kwonlyargs:=[],kw_defaults:=[],kwarg:=none,defaults:=[] }
noncomputable def Zcc(s:Stmt):List Stmt:=match s with
 | .FunctionDef _ _ b _ _ _ _ _ _ _=>b
 | _=>[]
noncomputable def Zm(s:Stmt):Uy:=match s with
 | .FunctionDef _ _ _ _ _ _ sc _ _ _=>sc
 | _=>{ kind:=.function,names:=[],isGenerator:=false,isCoroutine:=false }
noncomputable abbrev CX0:CXT:=λ_ _ _ _ _ _=>False
noncomputable abbrev E0:XK:=λ_ _ _=>False
theorem Zuw{X:Cx}:Zpp CX0 X E0:=λ_ _ _ _ _ _ _ h=>h.elim
structure Fun(K:Xc)(x qual:Str)(st:Stmt)(f:Addr)(fd:XR):Prop where
 ex:∃(oc:Xd) (od:Option Addr) (kV doc pm:Xd) (an:Option Addr) (cdv ct:Xd) (osl:Array (Option Xd)),
  fd=VF x qual (Zf6 st) (Zcc st) (Zm st) .none kV doc pm an cdv ct∧K.lookup f=some ⟨oc,od,.func fd,osl⟩∧PySem.W.codeIn K cdv qual=true
 kp:Vy K (.ref f)=true
section
variable {P:Qa}{w:Qs}{K:Xc}{mg:Str->Option Xd}{base:Heap}
theorem Fun.ok{x qual:Str}{st:Stmt}{f:Addr}{fd:XR}{N ps:List Str}{k:Nat}{sp:Sp}(F:Fun K x qual st f fd)(S:Zv N ps (Zm st))(len:∀vs H Q E,sp vs H Q E->vs.length=ps.length)
  (hbody:∀(cdv:Xd) (A:Qq) (outer:List Env) (s:Xg) (H:Hp) (vs:List V) (Q:VK) (E:XK),Room k (A.deeper (envOfC qual (Zm st) s.heap.objs.size f cdv))->sp vs H Q E ->
   ∃t,PSs (Zys CX0 P w K mg base N qual (Zm st) f cdv A outer s H E).nox (Zcc st) t∧t { nx:=λ_ H'=>Q .non H',rt:=Q } (start N vs) H):FnOk P w K mg base CX0 (k+1) f fd ps sp:=by
 obtain⟨oc,od,kV,doc,pm,an,cdv,ct,osl,rfl,lk,hcd⟩:=F.ex
 refine Z9q lk hcd S len λA outer s H vs Q E hr hsp=>?_
 obtain⟨t,h,q⟩:=hbody cdv A outer s H vs Q E hr hsp
 exact⟨t,h.nox,q⟩
theorem Fun.binds{x qual:Str}{st:Stmt}{f:Addr}{fd:XR}{ps:List Str}(F:Fun K x qual st f fd)
  (h:∀(kV doc pm:Xd) (an:Option Addr) (cdv ct:Xd) (us:List Xd),us.length=ps.length->bindArgs (VF x qual (Zf6 st) (Zcc st) (Zm st) .none kV doc pm an cdv ct) ⟨us,[]⟩=pure (ps.zip us)):Binds K fd ps []:=by
 obtain⟨oc,od,kV,doc,pm,an,cdv,ct,osl,rfl,lk,hcd⟩:=F.ex
 exact .all (h kV doc pm an cdv ct)
theorem Z3e{x qual:Str}{st:Stmt}{f:Addr}{oc:Xd}{od an:Option Addr}{osl:Array (Option Xd)}{kV doc pm cdv ct:Xd}(l:K.lookup f=some ⟨oc,od,.func (VF x qual (Zf6 st) (Zcc st) (Zm st) .none kV doc pm an cdv ct),osl⟩)
  (c:PySem.W.codeIn K cdv qual=true) (k:Vy K (.ref f)=true):Fun K x qual st f (VF x qual (Zf6 st) (Zcc st) (Zm st) .none kV doc pm an cdv ct):=⟨⟨oc,od,kV,doc,pm,an,cdv,ct,osl,rfl,l,c⟩,k⟩
end
section
variable {X:Cx}
theorem pv(i:Nat){x:Str}{pos:Pos}(hN:X.N[i]? =some x:=by rfl)(hv:Vis X.env.scope x:=by first|exact QH rfl|exact Qx (QH rfl)|exact Qx (Qx rfl))(hd:(x==("__debug__" : Str))=false:=by decide)
  (hcd:(x==("__classdict__" : Str))=false:=by decide):PE X (.Name x pos) (Ycp i):=Z7j hN hv hd hcd
end
noncomputable def Same(H H':Hp):Prop:=∀b o,H b=some o->H' b=some o
theorem Same.refl(H:Hp):Same H H:=λ_ _ h=>h
theorem Same.trans{H H1 H2:Hp}(a:Same H H1)(b:Same H1 H2):Same H H2:=λc o h=>b c o (a c o h)
theorem Same.free{H H':Hp}(e:Same H H'){l:Addr}(h:H' l=Option.none):H l=Option.none:=by
 cases q:H l with
 | none=>rfl
 | some o=>
  rw[e l o q]at h
  cases h
end L2
set_option maxHeartbeats 4000000
namespace L2
open PySem PySem.Spec PyProof.Rows
noncomputable def Bt(n:Nat)(x:Int):Prop:=x.natAbs<2^n
theorem Bt.mono{m n:Nat}{x:Int}(h:Bt m x)(hn:m≤n):Bt n x:=Qi h (Nat.pow_le_pow_right (by decide) hn)
theorem Bt.mul{m n:Nat}{x y:Int}(h:Bt m x)(k:Bt n y):Bt (m+n) (x*y):=by
 unfold Bt at*
 rw[Int.natAbs_mul,Nat.pow_add]
 exact Nat.mul_lt_mul'' h k
theorem Bt.neg{m:Nat}{x:Int}(h:Bt m x):Bt m (-x):=by
 unfold Bt at*
 rw[Int.natAbs_neg]
 exact h
theorem Bt.add'{m:Nat}{x y:Int}(h:Bt m x)(k:Bt m y):Bt (m+1) (x+y):=by
 unfold Bt at*
 have h3:2^(m+1)=2*2^m:=by rw[Nat.pow_succ];omega
 have h4:=Int.natAbs_add_le x y
 omega
theorem Bt.sub'{m:Nat}{x y:Int}(h:Bt m x)(k:Bt m y):Bt (m+1) (x-y):=by
 rw[Int.sub_eq_add_neg]
 exact h.add' k.neg
theorem Bt.of_le{m:Nat}{x y:Int}(h:Bt m x)(k:y.natAbs≤x.natAbs):Bt m y:=Nat.lt_of_le_of_lt k h
theorem Bt.of_lt{m:Nat}{x:Int}(h1:-(2^m)<x)(h2:x<2^m):Bt m x:=by
 unfold Bt
 have e:((2^m:Nat):Int)=2^m:=by simp
 omega
theorem Bt.bits{m:Nat}{x:Int}(h:Bt m x):JR x≤m:=by
 unfold JR
 split
 ·exact Qo _
 ·rename_i hx
  have hp:x.natAbs≠0:=by
   intro e
   apply hx
   have:x=0:=by omega
   subst this
   rfl
  have:=(Nat.log2_lt hp).mpr h
  omega
theorem Bt.mulOk{m n:Nat}{x y:Int}(h:Bt m x)(k:Bt n y)(hmn:m+n≤100000000:=by decide):IntMulOk x y:=by
 have h1:=h.bits
 have h2:=k.bits
 have h3:Builtin.Int.intTooBig (JR x+JR y)=false:=by
  unfold Builtin.Int.intTooBig bitsLine
  exact decide_eq_false (by omega)
 unfold IntMulOk
 rw[h3]
 simp
noncomputable def DivOk(_ j:Int):Prop:=j≠0∧j.natAbs.log2<9000
theorem DivOk.of{i j:Int}{n:Nat}(h0:j≠0)(h:Bt n j)(hn:n≤9000:=by decide):DivOk i j:=by
 refine⟨h0,?_⟩
 have hp:j.natAbs≠0:=by omega
 have:=(Nat.log2_lt hp).mpr h
 omega
section
variable {X:Cx}
theorem Z1y:OpR X (Ug .Mult) (rI IntMulOk λi j=>.int (i*j)):=opI λ_ _ _ _ _ _ _ hc q=>mul_int q hc
theorem Zw1:OpR X (Ug .FloorDiv) (rI DivOk λi j=>.int (i.fdiv j)):=opI λ_ _ _ _ _ _ _ hc q=>floordiv_int hc.1 q (.inl (PyProof.noPylong_of_log2 hc.2))
theorem Z01:OpR X (Ug .Pow) (rI Z7z λi j=>.int (i^j.toNat)):=Z3q
end
theorem Zit(elt target iter:Expr)(ifs:List Expr)(scope:Uy)(pos:Pos)(it acc:Xd)(env:Env) :
  compTurn (.ListComp elt [⟨target,iter,ifs,0⟩] scope pos) 0 it acc env=(standAt iter.pos>>= λ_=>V9 it>>= λr=>match r with
   | none=>pure (.done .next)
   | some v=>letOwnedTupleGo target it v>>= λ_=>UJ target env v>>= λ_=>
    (forIn ifs true λc r=>if r=true then do let ok←isTrue c env (eval c env);pure (JV ok)else pure (JV r))>>= λok=>
     if ok=true then((eval elt env>>= λx=>call (.builtin "list.append") [acc,x]>>= λ_=>pure ())>>= λ_=>
      again (.compLoop (.ListComp elt [⟨target,iter,ifs,0⟩] scope pos) 0 it acc env))
     else again (.compLoop (.ListComp elt [⟨target,iter,ifs,0⟩] scope pos) 0 it acc env)):=by rfl
theorem Zlf{prog:Qa}{w:Qs}{A:Qq}{R:Result->Xg->Prop}{s:Xg}{elt target iter:Expr}{ifs:List Expr}{scope:Uy}{pos:Pos}{it acc:Xd}{env:Env}(I:Nat->Xg->Prop)
  (turn:∀n s,I n s->XC (X6 prog w) A (V9 it) (λr s₁=>match r with
   | none=>R (.ok .next) s₁
   | some v=>XC (X6 prog w) A (letOwnedTupleGo target it v) (λ_ s₁=>XC (X6 prog w) A (UJ target env v) (λ_ s₂=>
     XC (X6 prog w) A (forIn ifs true λc r=>if r=true then do let ok←isTrue c env (eval c env);pure (JV ok)else pure (JV r)) (λok s₃=>
      if ok=true then XC (X6 prog w) A (eval elt env) (λx s₄=>
       XC (X6 prog w) A (call (.builtin "list.append") [acc,x]) (λ_ s₅=>∃m,m<n∧I m s₅) (notedBy (X6 prog w) A env λe s'=>R (.error e) s') s₄) (notedBy (X6 prog w) A env λe s'=>R (.error e) s') s₃
      else∃m,m<n∧I m s₃) (notedBy (X6 prog w) A env λe s'=>R (.error e) s') s₂) (notedBy (X6 prog w) A env λe s'=>R (.error e) s') s₁) (notedBy (X6 prog w) A env λe s'=>R (.error e) s') s₁) (notedBy (X6 prog w) A env λe s'=>R (.error e) s') s)
  (n:Nat) (h:I n s) :
  UW (X6 prog w) A (.compLoop (.ListComp elt [⟨target,iter,ifs,0⟩] scope pos) 0 it acc env) R s:=by
 refine codeAny_loop rfl I (λn s hI=>?_) n h
 show XC _ A ((compTurn (.ListComp elt [⟨target,iter,ifs,0⟩] scope pos) 0 it acc env).onRaise (λx=>do noteFrame x env;theTreesLotGoes x)) _ _ s
 refine wpAny_noted ?_
 rw[Zit]
 refine Xb (wpAny_standAt (Xb (Vd (turn n s hI) (λr s₁ h₁=>?_) λ_ _ h'=>h')))
 cases r with
 | none=>exact Xl h₁
 | some v=>
  refine Xb (Vd h₁ (λ_ s₂ h₂=>?_) λ_ _ h'=>h')
  refine Xb (Vd h₂ (λ_ s₂ h₂=>Xb (Vd h₂ (λok s₃ h₃=>?_) λ_ _ h'=>h')) λ_ _ h'=>h')
  cases ok with
  | false=>exact Xl ⟨rfl,h₃⟩
  | true=>
   exact Xb (Xb (Vd h₃ (λx s₄ h₄=>Xb (Vd h₄ (λ_ s₅ h₅=>Xl (Xl ⟨rfl,h₅⟩)) λ_ _ h'=>h')) λ_ _ h'=>h'))
noncomputable def Zik(env:Env):List (Str×By)->List (Str×Addr)->List (Str×Addr)
 | [],acc=>acc
 | (n,k) :: r,acc=>if k== .free then Zik env r ((n,(env.cells.lookup n).getD 0) :: acc)else Zik env r acc
theorem Zkh{env:Env}:∀(names:List (Str×By)) (acc:List (Str×Addr)),(∀y∈names,y.2= .free->∃c,env.cells.lookup y.1=some c) ->
  (forIn names acc (λ(y:Str×By) cs=>(if y.2== .free then(cellOf env y.1>>= λc=>pure (JV ((y.1,c) :: cs)))else pure (JV cs):Sem (ForInStep (List (Str×Addr))))))=pure (Zik env names acc)
 | [],acc,_=>by rw[U8];rfl
 | (n,k) :: r,acc,h=>by
  by_cases hk:k= .free
  ·subst hk
   obtain⟨c,hc⟩:=h (n,.free) (.head _) rfl
   have hc':env.cells.lookup n=some c:=hc
   have e:=Zkh (env:=env) r ((n,c) :: acc) λy hy=>h y (.tail _ hy)
   have ec:cellOf env n=pure c:=by
    unfold cellOf
    rw[hc']
   rw[List.forIn_cons]
   simp only[beq_self_eq_true,if_true]
   rw[ec]
   simp only[Zik,beq_self_eq_true,if_true,hc',Um]
   exact e
  ·have e:=Zkh (env:=env) r acc λy hy=>h y (.tail _ hy)
   have hb:(k==QV)=false:=by simpa using hk
   rw[List.forIn_cons]
   simp only[Zik,hb,Qh,if_false]
   exact e
theorem Zd1{scope:Uy}{env:Env}(h:∀y∈scope.names,y.2= .free->∃c,env.cells.lookup y.1=some c):closureFor scope env=pure (Zik env scope.names []):=by
 have e:=Zkh scope.names [] h
 have e':(forIn scope.names ([]:List (Str×Addr)) (λ(y:Str×By) cs=>(match y with|(name,kind)=>do
   if kind== .free then do let a←cellOf env name;pure (JV ((name,a) :: cs))else pure (JV cs):Sem (ForInStep (List (Str×Addr))))))=pure (Zik env scope.names []):=e
 exact congrArg (λ(m:Sem (List (Str×Addr)))=>m>>= λx=>pure x) e'
theorem Zjx{env:Env}:∀(names:List (Str×By)) (acc:List (Str×Addr)),(∀y∈names,y.2= .free->∃c,env.cells.lookup y.1=some c) ->
  ∀n c,(n,c)∈Zik env names acc->(n,c)∈acc∨((n,QV)∈names∧env.cells.lookup n=some c)
 | [],acc,_,n,c,h=>.inl h
 | (m,k) :: r,acc,h,n,c,hm=>by
  by_cases hk:k= .free
  ·subst hk
   obtain⟨d,hd⟩:=h (m,.free) (.head _) rfl
   have hd':env.cells.lookup m=some d:=hd
   simp only[Zik,beq_self_eq_true,if_true,hd',Um]at hm
   rcases Zjx r _ (λy hy=>h y (.tail _ hy)) n c hm with z|⟨z1,z2⟩
   ·rcases Xq.mp z with z|z
    ·cases z;exact .inr ⟨.head _,hd'⟩
    ·exact .inl z
   ·exact .inr ⟨.tail _ z1,z2⟩
  ·have hb:(k==QV)=false:=by simpa using hk
   simp only[Zik,hb,Qh,if_false]at hm
   refine(Zjx r _ (λy hy=>h y (.tail _ hy)) n c hm).imp id λqz9=>?_
   obtain⟨z1,z2⟩:=qz9
   exact⟨.tail _ z1,z2⟩
theorem Zkp{env:Env}:∀(names:List (Str×By)) (acc:List (Str×Addr)),∀p∈acc,p∈Zik env names acc
 | [],_,_,h=>h
 | (m,k) :: r,acc,p,h=>by
  unfold Zik
  split
  ·exact Zkp r _ p (.tail _ h)
  ·exact Zkp r _ p h
theorem Zjz{env:Env}:∀(names:List (Str×By)) (acc:List (Str×Addr)) (n:Str),(n,QV)∈names->∃c,(n,c)∈Zik env names acc
 | [],_,_,h=>nomatch h
 | (m,k) :: r,acc,n,h=>by
  rcases Xq.mp h with z|z
  ·cases z
   exact⟨_,by
    simp only[Zik,beq_self_eq_true,if_true]
    exact Zkp _ _ _ (.head _)⟩
  ·unfold Zik
   split
   ·exact Zjz r _ n z
   ·exact Zjz r _ n z
theorem Zfu{env:Env}(inj:∀x y c,env.cells.lookup x=some c->env.cells.lookup y=some c->x=y):∀(names:List (Str×By)) (acc:List (Str×Addr)),
  (∀ y∈names,y.2= .free->∃c,env.cells.lookup y.1=some c)->(names.map (·.1)).Nodup->(∀p∈acc,env.cells.lookup p.1=some p.2)->(∀p∈acc,p.1∉names.map (·.1))->(acc.Pairwise λx y=>x.2≠y.2) ->
  (Zik env names acc).Pairwise λx y=>x.2≠y.2
 | [],_,_,_,_,_,h=>h
 | (m,k) :: r,acc,hf,hn,ha,hd,hp=>by
  rw[XF,Qp]at hn
  have hf':∀y∈r,y.2= .free->∃c,env.cells.lookup y.1=some c:=λy hy=>hf y (.tail _ hy)
  have hd':∀p∈acc,p.1∉r.map (·.1):=λp hp z=>hd p hp (by rw[XF];exact .tail _ z)
  by_cases hk:k= .free
  ·subst hk
   obtain⟨d,hd0⟩:=hf (m,.free) (.head _) rfl
   have hd1:env.cells.lookup m=some d:=hd0
   simp only[Zik,beq_self_eq_true,if_true,hd1,Um]
   refine Zfu inj r _ hf' hn.2 (λp hp'=>?_) (λp hp'=>?_) (List.pairwise_cons.mpr ⟨λp hp' z=>?_,hp⟩)
   ·rcases Xq.mp hp' with rfl|hp'
    ·exact hd1
    ·exact ha p hp'
   ·rcases Xq.mp hp' with rfl|hp'
    ·exact hn.1
    ·exact hd' p hp'
   ·have e:m=p.1:=inj m p.1 d hd1 (by rw[ha p hp',←z])
    exact hd p hp' (by rw[XF,←e];exact .head _)
  ·have hb:(k==QV)=false:=by simpa using hk
   simp only[Zik,hb,Qh,if_false]
   exact Zfu inj r _ hf' hn.2 ha hd' hp
structure Zqt(h:Heap)(lo:Nat)(names:List (Str×By))(acc cs:List (Str×Addr)):Prop where
 mem:∀n c,(n,c)∈cs->(n,c)∈acc∨(h.IsCell c none∧lo≤c∧(n,Bl)∈names)
 has:∀n,(n,Bl)∈names->∃c,(n,c)∈cs
 old:∀p∈acc,p∈cs
theorem Zf4:∀(names:List (Str×By)) (h:Heap) (lo:Nat) (acc:List (Str×Addr)),lo≤h.objs.size->Zqt (Vb h names) lo names acc (Bk h.objs.size names acc)
 | [],_,_,_,_=>⟨λ_ _ m=>.inl m,(λ_ m=>nomatch m),λ_ m=>m⟩
 | (name,kind) :: r,h,lo,acc,hlo=>by
  by_cases hk:(kind==Bl)=true
  ·have ek:kind= .cell:=by simpa using hk
   subst ek
   have ih:=Zf4 r (h.push { cls:=.type "cell",data:=.cell none }) lo ((name,h.objs.size) :: acc) (by rw[Qy];omega)
   rw[Qy]at ih
   have e1:Bk h.objs.size ((name,.cell) :: r) acc=Bk (h.objs.size+1) r ((name,h.objs.size) :: acc):=by
    rw[Bk,if_pos hk]
   have e2:Vb h ((name,.cell) :: r)=Vb (h.push { cls:=.type "cell",data:=.cell none }) r:=by
    rw[Vb,if_pos hk]
   rw[e1,e2]
   refine⟨λn c m=>?_,λn m=>?_,λp m=>ih.old p (.tail _ m)⟩
   ·rcases ih.mem n c m with z|⟨z1,z2,z3⟩
    ·rcases Xq.mp z with z|z
     ·cases z
      exact .inr ⟨⟨_,pushCells_keeps _ _ _ _ (Xw _ rfl),rfl⟩,hlo,.head _⟩
     ·exact .inl z
    ·exact .inr ⟨z1,z2,.tail _ z3⟩
   ·rcases Xq.mp m with z|z
    ·cases z
     exact⟨_,ih.old _ (.head _)⟩
    ·exact ih.has n z
  ·have ih:=Zf4 r h lo acc hlo
   have e1:Bk h.objs.size ((name,kind) :: r) acc=Bk h.objs.size r acc:=by
    rw[Bk,if_neg hk]
   have e2:Vb h ((name,kind) :: r)=Vb h r:=by
    rw[Vb,if_neg hk]
   rw[e1,e2]
   refine⟨λn c m=>(ih.mem n c m).imp id λ⟨z1,z2,z3⟩=>⟨z1,z2,.tail _ z3⟩,λn m=>?_,ih.old⟩
   rcases Xq.mp m with z|z
   ·cases z
    exact absurd rfl hk
   ·exact ih.has n z
theorem Zhq(names:List (Str×By)):∀(h:Heap) (acc:List (Str×Addr)),(acc.Pairwise λx y=>x.2≠y.2)->(∀p∈acc,p.2<h.objs.size)->(Bk h.objs.size names acc).Pairwise λx y=>x.2≠y.2:=by
 induction names with
 | nil=>intro h acc ha _;exact ha
 | cons y r ih=>
  intro h acc ha hb
  obtain⟨name,kind⟩:=y
  unfold Bk
  split
  ·have:=ih (h.push { cls:=.type "cell",data:=.cell none }) ((name,h.objs.size) :: acc) (List.pairwise_cons.mpr ⟨λp hp=>XM (hb p hp),ha⟩) (λp hp=>by
    rw[Qy]
    rcases Xq.mp hp with rfl|hp
    ·exact Qt _
    ·exact Bc (hb p hp))
   rwa[Qy]at this
  ·exact ih h acc ha hb
theorem Zip{M:Model}{A:Qq}{E:Xd->Xg->Prop}{s:Xg}{scope:Uy}{globals:Addr}{cl:List (Str×Addr)}{qual:Str}{env:Env}{Q:Env->Xg->Prop}
  (hQ:Q (newEnv scope s.heap.objs.size globals (Bk (s.heap.objs.size+1) scope.names cl) qual none .none (some env) builtinsNs)
   { s with heap:=Vb (s.heap.push { cls:=.type "dict",data:=.dict #[] }) scope.names }) :
  XC M A (newFunctionEnv scope globals cl [] qual none .none (some env)) Q E s:=by
 simp only[newFunctionEnv,Option.isSome_some,if_true]
 refine Xb (wpAny_alloc ?_)
 refine Xb (wpAny_layCells _ (λname kind cells=>by cases hkc:kind==Bl<;>simp[hkc]) _ _ _ _ ?_)
 rw[show({ s with heap:=s.heap.push { cls:=.type "dict",data:=.dict #[] } }:Xg).heap.objs.size=s.heap.objs.size+1 from Qy ..]
 rw[U8]
 exact Xb (Xl (Xl hQ))
noncomputable def Wg(X:Cx)(N':List Str)(sc:Uy)(C:Addr)(cells:List (Str×Addr))(s₂:Xg)(H₂:Hp)(fp:List Addr):Cx :=
 { X with N:=N',s₀:=s₂,H₀:=H₂,env:=compEnvC sc cells C X.env,outer:=X.stack,stack:=X.stack,ex:=fp,fn:=λx=>sc.names.lookup x==some .cell,pn:=[],xe:=λ_ _=>False }
theorem Zdx{env:Env}:∀{names:List (Str×By)} {x:Str} {k:By},names.lookup x=some k ->
  (names.map λ(n,k)=>if(k==QV&&env.scope.kind== .function&&env.kindOf n==some .cell)then(n,Bl)else(n,k)).lookup x=
   some (if(k==QV&&env.scope.kind== .function&&env.kindOf x==some .cell)then Bl else k)
 | [],_,_,h=>by simp at h
 | (n,k') :: r,x,k,h=>by
  have ih:=@Zdx env r x k
  show List.lookup x ((if(k'==QV&&env.scope.kind== .function&&env.kindOf n==some .cell)=true then(n,Bl)else(n,k')) :: _)=_
  cases hx:x==n with
  | true=>
   simp only[QX,hx]at h
   cases h
   have e:=beq_iff_eq.mp hx
   subst e
   split<;>simp[QX]
  | false=>
   simp only[QX,hx]at h
   split
   ·simp only[QX,hx];exact ih h
   ·simp only[QX,hx];exact ih h
theorem Zgo{env:Env}:∀{names:List (Str×By)} {x:Str},names.lookup x=none ->
  (names.map λ(n,k)=>if(k==QV&&env.scope.kind== .function&&env.kindOf n==some .cell)then(n,Bl)else(n,k)).lookup x=none
 | [],_,_=>rfl
 | (n,k') :: r,x,h=>by
  have ih:=@Zgo env r x
  show List.lookup x ((if(k'==QV&&env.scope.kind== .function&&env.kindOf n==some .cell)=true then(n,Bl)else(n,k')) :: _)=_
  cases hx:x==n with
  | true=>
   simp only[QX,hx]at h
   cases h
  | false=>
   simp only[QX,hx]at h
   split
   ·simp only[QX,hx];exact ih h
   ·simp only[QX,hx];exact ih h
theorem Ze1{α:Type}:∀{l:List (Str×α)} {n:Str} {c:α},(l.map (·.1)).Nodup->(n,c)∈l->l.lookup n=some c
 | (k,v) :: r,n,c,hd,h=>by
  rw[XF,Qp]at hd
  rcases Xq.mp h with e|hr
  ·cases e
   simp[QX]
  ·have hne:(n==k)=false:=by
    refine Vj.mpr λz=>hd.1 ?_
    have e:n=k:=beq_iff_eq.mp z
    rw[←e]
    exact Qc.mpr ⟨(n,c),hr,rfl⟩
   rw[QX,hne]
   exact Ze1 hd.2 hr
theorem Ys{α:Type}:∀{l:List (Str×α)} {n:Str} {c:α},(n,c)∈l->∃d,l.lookup n=some d∧(n,d)∈l
 | (k,v) :: r,n,c,h=>by
  by_cases e:n=k
  ·subst e
   exact⟨v,by simp[QX],U6⟩
  ·have hne:(n==k)=false:=by simpa using e
   rcases Xq.mp h with z|z
   ·cases z;exact absurd rfl e
   ·obtain⟨d,h1,h2⟩:=Ys z
    exact⟨d,by rw[QX,hne];exact h1,.tail _ h2⟩
structure CompScope(X:Cx)(own:List Str)(caps:List Nat)(N':List Str)(sc:Uy):Prop where
 kind:sc.kind= .function
 nd:N'.Nodup
 names:N'=own ++ caps.map λi=>X.N.getD i Str.empty
 nn:(sc.names.map (·.1)).Nodup
 free:(sc.names.all λy=>y.2 != .free||(X.env.kindOf y.1==some .cell||X.env.kindOf y.1==some .free))=true
 caps:(caps.all λi=>sc.names.lookup (X.N.getD i Str.empty)==some .free)=true
noncomputable def Zad(own:List Str)(caps:List Nat)(σ:St):St:=own.map (λ_=>none) ++ caps.map λi=>(σ[i]?).getD none
section
variable {X:Cx}{own:List Str}{caps:List Nat}{N':List Str}{sc:Uy}
theorem CompScope.lk(S:CompScope X own caps N' sc){n:Str}{k:By}(h:(n,k)∈sc.names):sc.names.lookup n=some k:=Ze1 S.nn h
theorem CompScope.fr(S:CompScope X own caps N' sc){n:Str}(h:(n,QV)∈sc.names):X.env.kindOf n=some .cell∨X.env.kindOf n=some .free:=by
 have:=Us.mp S.free _ h
 simpa using this
theorem Zqu{pins:List (Addr×Obj)}{σ:St}{H:Hp}{s:Xg}{fp:List Addr}{cl:List (Str×Addr)}(S:CompScope X own caps N' sc)(I:Inv X pins σ H s)
  (f:∀b∈fp,Zj6 X pins H b) (fo:∀b∈fp,∃o,s.heap.get? b=some o)
  (hcl:∀n c,(n,c)∈cl->(n,QV)∈sc.names∧X.env.cells.lookup n=some c) (hcl2:∀n,(n,QV)∈sc.names->∃c,(n,c)∈cl) (hapart:cl.Pairwise λx y=>x.2≠y.2) :
  Inv (Wg X N' sc (s.heap.objs.size+1) (Bk (s.heap.objs.size+2) sc.names cl) s H fp) [] (Zad own caps σ) (upd H s.heap.objs.size (.lst []))
   { s with heap:=Vb ((s.heap.push { cls:=.type "list",data:=.seq #[] }).push { cls:=.type "dict",data:=.dict #[] }) sc.names }:=by
 generalize hh1:s.heap.push { cls:=.type "list",data:=.seq #[] }=h1
 have z1:h1.objs.size=s.heap.objs.size+1:=by rw[←hh1,Qy]
 generalize hh2:h1.push { cls:=.type "dict",data:=.dict #[] }=h2
 have z2:h2.objs.size=s.heap.objs.size+2:=by rw[←hh2,Qy,z1]
 have BC:=Zf4 sc.names h2 (s.heap.objs.size+2) cl (by omega)
 have AP:=Zhq sc.names h2 cl hapart (λp hp=>by
  obtain⟨v,hv⟩:=I.cell p.1 p.2 (hcl p.1 p.2 hp).2
  exact Qi hv.lt (by omega))
 rw[z2]at BC AP
 have keep:∀b o,s.heap.get? b=some o->(Vb h2 sc.names).get? b=some o:=λb o e=>pushCells_keeps _ _ _ _ (by
  rw[←hh2]
  refine Xe _ ?_
  rw[←hh1]
  exact Xe _ e)
 have hD:(Vb h2 sc.names).get? s.heap.objs.size=some { cls:=.type "list",data:=.seq #[] }:=pushCells_keeps _ _ _ _ (by
  rw[←hh2]
  refine Xe _ ?_
  rw[←hh1]
  exact Xw _ rfl)
 have hC:(Vb h2 sc.names).Ns (s.heap.objs.size+1) (λ_=>none):=by
  refine Heap.Ns.keeps ?_ (pushCells_keeps _ _)
  have:=Heap.Ns.new h1 (.type "dict")
  rw[hh2,z1]at this
  exact this
 have cellOld:∀n c,X.env.cells.lookup n=some c->c<s.heap.objs.size:=λn c e=>by
  obtain⟨v,hv⟩:=I.cell n c e
  exact hv.lt
 have lk':∀n c,(Bk (s.heap.objs.size+2) sc.names cl).lookup n=some c->(n,c)∈Bk (s.heap.objs.size+2) sc.names cl:=λn c e=>JZ e
 have hnD:H s.heap.objs.size=none:=I.fresh
 have fresh:∀c,s.heap.objs.size<c->upd H s.heap.objs.size (.lst []) c=none:=λc hc=>by
  rw[Z3 (XM hc)]
  exact I.hok.fresh (Be hc)
 have isc:∀n c,(n,c)∈Bk (s.heap.objs.size+2) sc.names cl->∃v,(Vb h2 sc.names).IsCell c v:=λn c m=>by
  rcases BC.mem n c m with z|⟨z,_⟩
  ·obtain⟨v,hv⟩:=I.cell n c (hcl n c z).2
   exact⟨v,hv.keeps keep⟩
  ·exact⟨none,z⟩
 have okH:HOk X.prog X.w (upd H s.heap.objs.size (.lst [])) (Vb h2 sc.names):=by
  refine I.hok.laid keep (XN _) ?_
  exact⟨Qo _,[],0,.nil,hD⟩
 have kinds:∀x k,sc.names.lookup x=some k->(relabel sc X.env).names.lookup x=some (if(k==QV&&X.env.scope.kind== .function&&X.env.kindOf x==some .cell)then Bl else k):=λx k e=>Zdx e
 have kindsR:∀x k,(relabel sc X.env).names.lookup x=some k->∃k',(x,k')∈sc.names∧k=(if(k'==QV&&X.env.scope.kind== .function&&X.env.kindOf x==some .cell)then Bl else k'):=λx k e=>by
  cases q:sc.names.lookup x with
  | none=>
   have:=Zgo (env:=X.env) q
   rw[show(relabel sc X.env).names.lookup x=_ from this]at e
   cases e
  | some k'=>
   refine⟨k',JZ q,?_⟩
   rw[kinds x k' q]at e
   exact(QD e).symm
 refine⟨⟨I.ok.mod,S.kind,I.ok.glob,I.ok.blt,?_,?_,?_,?_,I.ok.hd,I.ok.frames,.inl rfl,?_,?_,?_,?_,?_,?_,?_⟩,rfl,I.bare,?_,?_,?_,?_,?_,(λp hp=>nomatch hp),okH,?_⟩
 ·show s.heap.objs.size≤s.heap.objs.size+1;omega
 ·intro x y c e1 e2
  exact name_of_addr AP (lk' x c e1) (lk' y c e2)
 ·intro x hx
  rcases hx with hx|hx
  ·obtain⟨k',hm,hk'⟩:=kindsR x _ hx
   cases k' with
   | cell=>
    obtain⟨c,hc⟩:=BC.has x hm
    obtain⟨d,h1,_⟩:=Ys hc
    exact⟨d,h1⟩
   | free=>
    obtain⟨c,hc⟩:=hcl2 _ hm
    obtain⟨d,h1,_⟩:=Ys (BC.old _ hc)
    exact⟨d,h1⟩
   | _=>simp at hk'
  ·obtain⟨k',hm,hk'⟩:=kindsR x _ hx
   cases k' with
   | free=>
    obtain⟨c,hc⟩:=hcl2 _ hm
    obtain⟨d,h1,_⟩:=Ys (BC.old _ hc)
    exact⟨d,h1⟩
   | _=>simp at hk'
 ·intro x c hf e
  have hf':sc.names.lookup x=some .cell:=by simpa [Wg]using hf
  rcases BC.mem x c (lk' x c e)with z|⟨_,z,_⟩
  ·-- a free one and a cell at once: the name stands once
   exfalso
   have q:=S.lk (hcl x c z).1
   rw[hf']at q
   cases q
  ·show s.heap.objs.size≤c;omega
 ·intro b hb
  obtain⟨o,ho⟩:=fo b hb
  have hlt:=XJ ho
  refine⟨Xo (Vq hlt (Qt _)),λx c e z=>?_⟩
  rcases BC.mem x c (lk' x c e)with q|⟨_,q,_⟩
  ·exact(f b hb).2.2.2.2.1 x c (hcl x c q).2 z
  ·subst z
   exact absurd hlt (Nat.not_lt.mpr (QT (JS _ 2) q))
 ·exact I.bs
 ·exact QT I.ok.bsz I.sz
 ·intro b o e hb
  rcases(f b hb).2.2.2.1 with z|z
  ·exact I.ok.noex b o e z
  ·exact absurd (Qi (XJ e) I.ok.bsz) (Nat.not_lt.mpr z)
 ·intro b hb z
  rcases Xq.mp (I.stkSub b z)with q|q
  ·exact(f b hb).2.1 q
  ·exact(f b hb).2.2.1 q
 ·exact I.stack
 ·exact I.stkFree
 ·exact Un.laid keep (XN _) hnD
 ·refine⟨_,hC,λi x v e1 e2 e3=>?_⟩
  have e1':(own ++ caps.map λi=>X.N.getD i Str.empty)[i]? =some x:=by rw[←S.names];exact e1
  have e2':(own.map (λ_=>(none:Option V)) ++ caps.map λi=>(σ[i]?).getD none)[i]? =some (some v):=e2
  by_cases hi:i<own.length
  ·rw[Vc (by simpa using hi),Xu]at e2'
   cases q:own[i]? with
   | none=>rw[q]at e2';cases e2'
   | some y=>rw[q]at e2';cases e2'
  ·rw[BW (by simpa using hi),Xu]at e2'
   rw[BW (by omega),Xu]at e1'
   rw[Xj]at e2'
   cases q:caps[i-own.length]? with
   | none=>rw[q]at e2';cases e2'
   | some j=>
    rw[q]at e1' e2'
    have e1:X.N.getD j Str.empty=x:=QD e1'
    have e2:(σ[j]?).getD none=some v:=QD e2'
    have e4:σ[j]? =some (some v):=by
     cases r:σ[j]? with
     | none=>rw[r]at e2;cases e2
     | some o=>rw[r]at e2;exact congrArg some e2
    have hj:j<X.N.length:=by rw[←I.len];exact(Xn.mp e4).1
    have e5:X.N[j]? =some x:=by rw[←e1];simp[Xf,hj]
    have hc:=Us.mp S.caps j (Q0 q)
    have e6:sc.names.lookup x=some .free:=by rw[←e1];simpa using hc
    have hm:=JZ e6
    have kx:=S.fr hm
    obtain⟨m,hn,hl⟩:=I.loc
    obtain⟨u,ru,lo⟩:=hl j x v e5 e4 (by rcases kx with z|z;exact .inr (.inl z);exact .inr (.inr z))
    refine⟨u,ru,.inr ⟨?_,?_⟩⟩
    ·have:=kinds x _ e6
     show(relabel sc X.env).names.lookup x=_∨(relabel sc X.env).names.lookup x=_
     rw[this]
     split
     ·exact .inl rfl
     ·exact .inr rfl
    ·rcases lo with⟨z,_⟩|⟨_,c,hc1,hc2⟩
     ·rcases kx with w|w<;>(rw[w]at z;cases z)
     ·obtain⟨d,hd⟩:=hcl2 x hm
      obtain⟨d',h1,h2⟩:=Ys (BC.old _ hd)
      refine⟨d',h1,?_⟩
      rcases BC.mem x d' h2 with w|⟨_,_,w⟩
      ·have w':=(hcl x d' w).2
       rw[hc1]at w'
       cases w'
       exact hc2.keeps keep
      ·have:=S.lk w
       rw[e6]at this
       cases this
 ·intro x c e
  exact isc x c (lk' x c e)
 ·exact fresh _ (Qt _)
 ·intro x c e
  rcases BC.mem x c (lk' x c e)with z|⟨_,z,_⟩
  ·have e':=(hcl x c z).2
   have hlt:=cellOld x c e'
   rw[Z3 (Xo hlt)]
   exact I.freeC x c e'
  ·exact fresh c (by omega)
 ·show(Zad own caps σ).length=N'.length
  rw[S.names]
  unfold Zad
  simp
end
noncomputable def Zzr(J:It)(g:TG)(tt:TT)(te:TE)(σ0:St)(D:Addr)(Q:Hp->Prop)(H1:Hp):Prop :=
 ∃W:Nat->Nat->St->Hp->Prop,(∃m,W 0 m σ0 (upd H1 D (.lst [])))∧∀i m σ' H',W i m σ' H' ->
  (J.stop i H'∧Q H')∨(J.go i H'∧∀x H2,J.yld i H' x H2->g x σ' H2 λσ2 H3=>tt σ2 H3 λb H4=>
   if b=true then te σ2 H4 λy H5=>∃ys,H5 D=some (.lst ys)∧ys.length<Xx∧∃m',m'<m∧W (i+1) m' σ2 (upd H5 D (.lst (ys ++ [y])))
   else∃m',m'<m∧W (i+1) m' σ2 H4)
noncomputable def Z0q(own:List Str)(caps:List Nat)(wi:TI)(g:TG)(tt:TT)(te:TE):TE:=λσ H Q=>wi σ H λJ H1=>∀D,H1 D=none->Zzr J g tt te (Zad own caps σ) D (Q (.ref D)) H1
noncomputable def Z9m:TT:=λ_ H Q=>Q true H
noncomputable def Z2d(X:Cx)(ifs:List Expr)(t:TT):Prop :=
 ∀(pins:List (Addr×Obj)) (s:Xg) (σ:St) (H:Hp) (Q:Bool->Hp->Prop),Inv X pins σ H s->t σ H Q ->
  XC (X6 X.prog X.w) X.A (forIn ifs true λc r=>if r=true then do let ok←isTrue c X.env (eval c X.env);pure (JV ok)else pure (JV r)) (TP X pins σ Q) X.xe s
theorem Z1x{X:Cx}:Z2d X [] Z9m:=λpins s σ H Q I h=>by
 rw[U8]
 exact Xl ⟨H,I,h⟩
theorem Z18{X:Cx}{c:Expr}{t:TT}(h:PT X c t):Z2d X [c] t:=λpins s σ H Q I q=>wpAny_tests_one (h pins s σ H Q I q)
theorem Z2z{M:Model}{A:Qq}{α:Type}{t:Sem α}{Q Q':α->Xg->Prop}{E:Xd->Xg->Prop}{s:Xg}(h:XC M A t Q (λ_ _=>False) s)(hQ:∀a s,Q a s->Q' a s):XC M A t Q' E s :=
 Vd h hQ λ_ _ z=>z.elim
section
variable {X:Cx}{own:List Str}{caps:List Nat}{N':List Str}{sc:Uy}{tg elt iter:Expr}{ifs:List Expr}{pos:Pos}{wi:TI}{g:TG}{tt:TT}{te:TE}
theorem Zop{pins p':List (Addr×Obj)}{σ σ':St}{H H':Hp}{s s':Xg}{fp:List Addr}{C:Addr}{cells:List (Str×Addr)}{h':Heap}(I:Inv X pins σ H s)(f:∀b∈fp,Zj6 X pins H b)
  (I':Inv (Wg X N' sc C cells s H fp) p' σ' H' s') (hs:JK C s'.heap h'):Inv X pins σ H' { s' with heap:=h' }:=by
 have hC:s.heap.objs.size≤C:=I'.ok.above
 have B:=I'.base
 have ne:∀b o,s.heap.get? b=some o->b≠C:=λb o e=>Xo (Qi (XJ e) hC)
 obtain⟨m,⟨oC,_,_,hoC,_⟩,_⟩:=I'.loc
 refine I.call' (ch:=fp) (s':={ s' with heap:=h' }) I'.os ⟨λb o e n hb hx=>?_,λb o e n hb hx=>?_,B.free,λb o e hx=>?_,B.tups,B.frzs,B.tbls⟩ (λb ob e=>?_) I'.bare λb hb=>?_
 ·exact(hs.2 b (ne b o e)).trans (B.keep b o e n hb hx)
 ·obtain⟨sl,q⟩:=B.slot b o e n hb hx
  exact⟨sl,(hs.2 b (ne b o e)).trans q⟩
 ·obtain⟨o',q⟩:=B.there b o e hx
  exact⟨o',(hs.2 b (ne b o e)).trans q⟩
 ·have hfree:H' C=none:=I'.free
  refine(I'.hok b ob e).stay (λc w' hc q=>(hs.2 c ?_).trans q) (λ_ q=>q) λ_ _ q=>q
  rintro rfl
  rcases hc with rfl|hc
  ·rw[hfree]at e;cases e
  ·rw[hfree]at hc;cases hc
 ·obtain⟨_,f1,_,f3,f4,f5⟩:=f b hb
  exact⟨f3,f1,f4,f5⟩
theorem Zix{Qf:Result->Xg->Prop}(S:CompScope X own caps N' sc)(hc:X.calm=true)
  (hg:∀C cells s₂ H₂ fp,PG (Wg X N' sc C cells s₂ H₂ fp) tg g) (ht:∀C cells s₂ H₂ fp,Z2d (Wg X N' sc C cells s₂ H₂ fp) ifs tt) (he:∀C cells s₂ H₂ fp,PE (Wg X N' sc C cells s₂ H₂ fp) elt te)
  {pins:List (Addr×Obj)} {σ:St} {H:Hp} {s:Xg} {fp:List Addr} {it:Addr} {tn:Nat->Heap->Prop} {J:It} {Q:Hp->Prop} (I:Inv X pins σ H s) (T:Turn X.prog X.w X.K tg J fp it tn) (st:tn 0 s.heap) (f:∀b∈fp,Zj6 X pins H b)
  (h:Zzr J g tt te (Zad own caps σ) s.heap.objs.size Q H)
  (fin:∀s' σ' H' p' C cells,Inv (Wg X N' sc C cells s H fp) p' σ' H' s'->C=s.heap.objs.size+1->Q H'->Qf (.ok .next) s') :
  XC (X6 X.prog X.w) X.A (newFunctionEnv sc X.env.globals (Zik X.env sc.names []) [] X.env.qual none .none (some X.env)) (λcenv s₄=>
   cenv.locals=s.heap.objs.size+1∧UW (X6 X.prog X.w) X.A (.compStart (.ListComp elt [⟨tg,iter,ifs,0⟩] sc pos) 0 (.ref it) (.ref s.heap.objs.size) { cenv with scope:=relabel sc X.env }) Qf s₄) X.xe
    { s with heap:=s.heap.push { cls:=.type "list",data:=.seq #[] } }:=by
 have hf:∀y∈sc.names,y.2= .free->∃c,X.env.cells.lookup y.1=some c:=λy hy e=>by
  obtain⟨n,k⟩:=y
  have e':k= .free:=e
  subst e'
  exact I.ok.has n (S.fr hy)
 have hcl:∀n c,(n,c)∈Zik X.env sc.names []->(n,QV)∈sc.names∧X.env.cells.lookup n=some c:=λn c m=>(Zjx sc.names [] hf n c m).elim (λz=>nomatch z) id
 have hap:=Zfu I.ok.inj sc.names [] hf S.nn (λ_ z=>nomatch z) (λ_ z=>nomatch z) .nil
 have I0:=Zqu (cl:=Zik X.env sc.names []) S I f (λb hb=>let⟨o,e,_⟩:=T.obj _ _ st b hb;⟨o,e⟩) hcl (λn m=>Zjz sc.names [] n m) hap
 refine Zip ?_
 rw[show({ s with heap:=s.heap.push { cls:=.type "list",data:=.seq #[] } }:Xg).heap.objs.size=s.heap.objs.size+1 from Qy ..]
 refine⟨rfl,?_⟩
 dsimp only
 generalize hs0:({ s with heap:=Vb ((s.heap.push { cls:=.type "list",data:=.seq #[] }).push { cls:=.type "dict",data:=.dict #[] }) sc.names }:Xg)=s0 at I0⊢
 have st0:tn 0 s0.heap:=T.keep _ _ _ st λb hb o e=>by
  rw[←hs0]
  exact pushCells_keeps _ _ _ _ (Xe _ (Xe _ e))
 generalize hcells:Bk (s.heap.objs.size+1+1) sc.names (Zik X.env sc.names [])=cells at I0⊢
 -- the loop
 obtain⟨W,⟨m0,w0⟩,turn⟩:=h
 have loop:UW (X6 X.prog X.w) X.A (.compLoop (.ListComp elt [⟨tg,iter,ifs,0⟩] sc pos) 0 (.ref it) (.ref s.heap.objs.size) (Wg X N' sc (s.heap.objs.size+1) cells s H fp).env) Qf s0:=by
  generalize hX':Wg X N' sc (s.heap.objs.size+1) cells s H fp=X' at I0⊢
  have hg':=hg (s.heap.objs.size+1) cells s H fp
  have ht':=ht (s.heap.objs.size+1) cells s H fp
  have he':=he (s.heap.objs.size+1) cells s H fp
  have fin':=λs' σ' H' p' (z:Inv (Wg X N' sc (s.heap.objs.size+1) cells s H fp) p' σ' H' s')=>fin s' σ' H' p' _ _ z rfl
  rw[hX']at hg' ht' he' fin'
  have hxe:X'.xe= λ_ _=>False:=by rw[←hX'];rfl
  have hpr:X'.prog=X.prog:=by rw[←hX'];rfl
  have hw:X'.w=X.w:=by rw[←hX'];rfl
  have hK:X'.K=X.K:=by rw[←hX'];rfl
  have hA:X'.A=X.A:=by rw[←hX'];rfl
  have hcm:X'.calm=true:=by rw[←hX'];exact hc
  have hex:X'.ex=fp:=by rw[←hX'];rfl
  have hpn:X'.pn=[]:=by rw[←hX'];rfl
  have stat:∀{H':Hp},(∀b∈fp,H' b=none)->∀b∈fp,Zj6 X' [] H' b:=λhn b hb=>by
   have e1:=I0.ok.exf b (by rw[hex];exact hb)
   have e2:=I0.ok.exfs b (by rw[hex];exact hb)
   exact⟨hn b hb,e1.1,e2,.inl (by rw[hex];exact hb),e1.2,λp hp=>by rw[hpn]at hp;exact nomatch hp⟩
  have frD:∀b∈fp,(upd H s.heap.objs.size (.lst [])) b=none:=λb hb=>by
   obtain⟨o,e,_⟩:=T.obj _ _ st b hb
   rw[Z3 (Xo (XJ e))]
   exact(f b hb).1
  have T':Turn X'.prog X'.w X'.K tg J fp it tn:=by rw[hpr,hw,hK];exact T
  rw[←hpr,←hw,←hA]
  refine Zlf (λn s'=>∃i σ' H',Inv X' [] σ' H' s'∧tn i s'.heap∧(∀b∈fp,H' b=none)∧W i n σ' H') ?_ m0 ⟨0,_,_,I0,st0,frD,w0⟩
  rintro n s3 ⟨i,σ3,H3,I3,st3,fr3,w3⟩
  rcases turn i n σ3 H3 w3 with⟨stop,qn⟩|⟨go,step⟩
  ·refine Z2z (T'.done X' rfl rfl rfl hcm i [] s3 σ3 H3 _ I3 (stat fr3) st3 stop) λr s4 qz9=>?_
   obtain⟨hr,I4⟩:=qz9
   subst hr
   exact fin' s4 σ3 H3 [] I4 qn
  ·refine Z2z (T'.item X' rfl rfl rfl hcm i [] s3 σ3 H3 _ I3 (stat fr3) st3 go) λr s4 qz9=>?_
   obtain⟨u,hr,h4⟩:=qz9
   subst hr
   refine Z2z h4 λ_ s5 qz9=>?_
   obtain⟨x,H5,I5,r5,y5,st5,fr5⟩:=qz9
   have I5':=I5.pinned (stat fr5) (T.obj _ _ st5)
   have hgg:=hg' _ s5 σ3 H5 x u _ I5' r5 (step x H5 y5)
   rw[hxe]at hgg
   refine Z2z hgg λ_ s6 qz9=>?_
   obtain⟨σ6,H6,I6,q6⟩:=qz9
   have htt:=ht' _ s6 σ6 H6 _ I6 q6
   rw[hxe]at htt
   refine Z2z htt λok s7 qz9=>?_
   obtain⟨H7,I7,q7⟩:=qz9
   have again:∀{σ7:St} {H7:Hp} {s7:Xg} {m:Nat},Inv X' ([] ++ Zmq fp s5.heap) σ7 H7 s7->W (i+1) m σ7 H7->m<n->∃m,m<n∧∃i σ' H',Inv X' [] σ' H' s7∧tn i s7.heap∧(∀b∈fp,H' b=none)∧W i m σ' H':=fun{σ7 H7 s7 m} I7 w7 hm=>by
    refine⟨m,hm,i+1,σ7,H7,I7.unpinned,T.keep _ _ _ st5 λb hb o e=>(I7.pin (b,o) (Qg _ (Qg _ (Zdn hb e)))).1,λb hb=>?_,w7⟩
    obtain⟨o,e,d⟩:=T.obj _ _ st5 b hb
    exact(I7.pin (b,o) (Qg _ (Qg _ (Zdn hb e)))).2.1
   cases ok with
   | false=>
    obtain⟨m',hm,w7⟩:=q7
    rw[if_neg Xm]
    exact again I7 w7 hm
   | true=>
    rw[if_pos rfl]
    have hee:=he' _ s7 σ6 H7 _ I7 q7
    rw[hxe]at hee
    refine Z2z hee λy s8 qz9=>?_
    obtain⟨vy,H8,I8,r8,ys,hD,hlen,m',hm,w8⟩:=qz9
    have hap:=Zl6 (X:=X') _ s8 σ6 H8 (.ref s.heap.objs.size) [vy] (.ref s.heap.objs.size) [y] (λ_ H'=>W (i+1) m' σ6 H') I8 rfl (.cons r8 .nil) ⟨_,ys,vy,rfl,rfl,hD,hlen,w8⟩
    rw[hxe]at hap
    refine Z2z hap λz s9 qz9=>?_
    obtain⟨_,H9,I9,_,w9⟩:=qz9
    exact again I9 w9 hm
 exact codeAny_compStart_list loop (T.self _ 0 _ _ _ st0 loop)
theorem Z2q(S:CompScope X own caps N' sc)(hc:X.calm=true)(hi:PI X tg iter wi)
  (hg:∀C cells s₂ H₂ fp,PG (Wg X N' sc C cells s₂ H₂ fp) tg g) (ht:∀C cells s₂ H₂ fp,Z2d (Wg X N' sc C cells s₂ H₂ fp) ifs tt) (he:∀C cells s₂ H₂ fp,PE (Wg X N' sc C cells s₂ H₂ fp) elt te)
  (hs:∀x,BJ iter X.env x=pure x:=by intro _;rfl):PE X (.ListComp elt [⟨tg,iter,ifs,0⟩] sc pos) (Z0q own caps wi g tt te):=by
 intro pins s σ H Q I h
 rw[eval_ListComp]
 have hf:∀y∈sc.names,y.2= .free->∃c,X.env.cells.lookup y.1=some c:=λy hy e=>by
  obtain⟨n,k⟩:=y
  have e':k= .free:=e
  subst e'
  exact I.ok.has n (S.fr hy)
 refine wpAny_comprehension_free (use:=none) rfl hs (Zd1 hf) S.kind (λy hy e=>by obtain⟨n,k⟩:=y;have e':k= .local:=e;subst e';exact S.lk hy) ?_
 refine thn (hi pins s σ H _ I h) λv s1 h1=>thn h1 λitv s2 h2=>?_
 obtain⟨it,fp,tn,J,H2,e,I2,T,st2,f2,q⟩:=h2
 subst e
 refine JD ?_
 refine thn (Zix (iter:=iter) (pos:=pos) (Qf:=compPost (X6 X.prog X.w) X.A X.xe none (EP X pins σ Q) (.ref s2.heap.objs.size) (s2.heap.objs.size+1)) S hc hg ht he I2 T st2 f2 (q s2.heap.objs.size I2.fresh) ?_) λcenv s4 ⟨hl,hr⟩=>?_
 ·intro s' σ' H' p' C cells I' eC q'
  subst eC
  obtain⟨m,hn,_⟩:=id I'.loc
  exact⟨m,hn,λh' hs'=>⟨.ref s2.heap.objs.size,H',Zop I2 f2 I' hs',rfl,q'⟩⟩
 ·rw[←hl]at hr
  exact hr
end
section
variable {X:Cx}{own:List Str}{caps:List Nat}{N':List Str}{sc:Uy}{tg elt iter:Expr}{ifs:List Expr}{pos:Pos}{wi:TI}{g:TG}{tt:TT}{te:TE}
theorem Zqf{i:Nat}{y:Str}{py spos:Pos}(hN:X.N.Nodup)(hy:X.N[i]? =some y)(hx:Loc X.env.scope y)(S:CompScope X own caps N' sc)(hc:X.calm=true)(hi:PI X tg iter wi)
  (hg:∀C cells s₂ H₂ fp,PG (Wg X N' sc C cells s₂ H₂ fp) tg g) (ht:∀C cells s₂ H₂ fp,Z2d (Wg X N' sc C cells s₂ H₂ fp) ifs tt) (he:∀C cells s₂ H₂ fp,PE (Wg X N' sc C cells s₂ H₂ fp) elt te)
  (hsw:V5 (.ListComp elt [⟨tg,iter,ifs,0⟩] sc pos) (some (.Name y py)) spos.line X.env=pure true:=by rfl)
  (hs:∀x,BJ iter X.env x=pure x:=by intro _;rfl) (hf:X.fn y=true∨X.env.scope.names.lookup y=some .local:=by first|exact .inl rfl|exact .inr rfl|assumption) :
  PS X (.Assign [.Name y py] (.ListComp elt [⟨tg,iter,ifs,0⟩] sc pos) spos) (Z4c (Z0q own caps wi g tt te) (Zs5 i)):=by
 intro pins s σ H D I h
 have hfr:∀y∈sc.names,y.2= .free->∃c,X.env.cells.lookup y.1=some c:=λy hy e=>by
  obtain⟨n,k⟩:=y
  have e':k= .free:=e
  subst e'
  exact I.ok.has n (S.fr hy)
 rw[exec_Assign_Name_used _ _ _ _ hsw]
 refine Xb (wpAny_standAt (Xb ?_))
 show XC _ X.A (do let _←comprehension (.ListComp elt [⟨tg,iter,ifs,0⟩] sc pos) sc X.env _ (newList []) false (eval iter X.env) (some (UJ (.Name y py) X.env))) _ _ s
 refine Xb (Vd (wpAny_comprehension_free (use:=some (UJ (.Name y py) X.env)) (Q:=λ_ s'=>SP X pins D .next s') rfl hs (Zd1 hfr) S.kind (λy hy e=>by obtain⟨n,k⟩:=y;have e':k= .local:=e;subst e';exact S.lk hy) ?_) (λ_ s' hq=>Xl (Xl hq)) λ_ _ e=>e)
 refine thn (hi pins s σ H _ I h) λv s1 h1=>thn h1 λitv s2 h2=>?_
 obtain⟨it,fp,tn,J,H2,e,I2,T,st2,f2,q⟩:=h2
 subst e
 refine JD ?_
 refine thn (Zix (iter:=iter) (pos:=pos) (Qf:=compPost (X6 X.prog X.w) X.A X.xe (some (UJ (.Name y py) X.env)) (λ_ s'=>SP X pins D .next s') (.ref s2.heap.objs.size) (s2.heap.objs.size+1)) S hc hg ht he I2 T st2 f2 (q s2.heap.objs.size I2.fresh) ?_) λcenv s4 ⟨hl,hr⟩=>?_
 ·intro s' σ' H' p' C cells I' eC q'
  subst eC
  obtain⟨m,hn,_⟩:=id I'.loc
  have I3:Inv X pins σ H' s':=Zop I2 f2 I' (.refl ..)
  show XC _ X.A (UJ (.Name y py) X.env (.ref s2.heap.objs.size)) _ _ s'
  refine wpAny_assign_Name (Zle (v:=.ref s2.heap.objs.size) I3 hN hy hx rfl (λs5 I5 hsb=>?_) hf)
  have hC:s2.heap.objs.size<s2.heap.objs.size+1:=Qt _
  have ltL:X.env.locals<s2.heap.objs.size:=I2.lt
  have ltC:∀x c,X.env.cells.lookup x=some c->c<s2.heap.objs.size:=λx c e=>by
   obtain⟨w',z⟩:=I2.cell x c e
   exact z.lt
  refine⟨m,?_,λh' hs'=>⟨σ.set i (some (.ref s2.heap.objs.size)),H',?_,q'⟩⟩
  ·obtain⟨a,hsa,ha⟩:=hsb
   refine hn.sameBut hsa ?_
   rcases ha with ha|ha
   ·rw[ha];exact XM (Vq ltL hC)
   ·exact XM (Vq (ltC _ _ ha) hC)
  ·refine I5.turned (t':=s5.toks) (it:=s2.heap.objs.size+1) (λb o hb e=>(hs'.2 b hb).trans e) I'.free (XM (Vq ltL hC)) (.inr (QT I2.sz (Be hC))) (λx c e=>Xo (Vq (ltC x c e) hC)) λp hp=>?_
   obtain⟨e,_⟩:=I2.pin p hp
   exact Xo (Vq (XJ e) hC)
 ·rw[←hl]at hr
  exact hr
end
section
variable (n:Nat)(D:Addr)(Pv:Nat->List V->St->Hp->Prop)
variable {n D Pv}
end
mutual
inductive Is(H:Hp)(L:Addr->Prop):V->Xa->Prop where
 | non:Is H L .non .none
 | bl (b:Bool):Is H L (.bl b) (.bool b)
 | int (i:Int):Is H L (.int i) (.int i)
 | str (x:Str):Is H L (.str x) (.str x)
 | lst {a:Addr} {xs:List V} {ds:List Xa}:L a->H a=some (.lst xs)->IsAll H L xs ds->Is H L (.ref a) (.list ds)
 | tup {a:Addr} {xs:List V} {ds:List Xa}:H a=some (.tup xs)->IsAll H L xs ds->Is H L (.ref a) (.tuple ds)
inductive IsAll(H:Hp)(L:Addr->Prop):List V->List Xa->Prop where
 | nil:IsAll H L [] []
 | cons {x:V} {xs:List V} {d:Xa} {ds:List Xa}:Is H L x d->IsAll H L xs ds->IsAll H L (x :: xs) (d :: ds)
end
section
variable {H H':Hp}{L L':Addr->Prop}
theorem IsAll.ind{Q:List V->List Xa->Prop}(n:Q [] [])(c:∀{x:V} {xs:List V} {d:Xa} {ds:List Xa},Is H L x d->IsAll H L xs ds->Q xs ds->Q (x :: xs) (d :: ds)):∀{xs ds},IsAll H L xs ds->Q xs ds:=λh=>
 IsAll.rec (motive_1:=λ_ _ _=>True) (motive_2:=λxs ds _=>Q xs ds) trivial (λ_=>trivial) (λ_=>trivial) (λ_=>trivial) (λ_ _ _ _=>trivial) (λ_ _ _=>trivial) n (λp q _ r=>c p q r) h
theorem IsAll.length{xs:List V}{ds:List Xa}(h:IsAll H L xs ds):xs.length=ds.length:=IsAll.ind (Q:=λxs ds=>xs.length=ds.length) rfl (λ_ _ r=>congrArg (·+1) r) h
theorem IsAll.set{xs:List V}{ds:List Xa}{x:V}{d:Xa}(i:Nat)(h:IsAll H L xs ds)(k:Is H L x d):IsAll H L (xs.set i x) (ds.set i d) :=
 IsAll.ind (Q:=λxs ds=>∀i,IsAll H L (xs.set i x) (ds.set i d)) (λ_=>.nil) (λh q r i=>Nat.casesOn i (.cons k q) λi=>.cons h (r i)) h i
end
section
variable {X:Cx}{pins:List (Addr×Obj)}{σ:St}{H:Hp}{s:Xg}{L L':Addr->Prop}
end
noncomputable abbrev Shp(d:Xa):Prop:=Vo d=true
section
variable {X:Cx}
end
mutual
noncomputable def Yy:Xa->Bool
 | .none=>true
 | .int _=>true
 | .str _=>true
 | .list ds=>Zeo ds
 | .tuple ds=>Zeo ds
 | _=>false
noncomputable def Zeo:List Xa->Bool
 | []=>true
 | d :: ds=>Yy d&&Zeo ds
end
mutual
theorem Zkv:∀(d e:Xa),Yy d=true->Yy e=true->(QC d e=true↔d=e)
 | .none,e,_,he=>by cases e<;>simp_all [QC,Yy]
 | .int i,e,_,he=>by cases e<;>simp_all [QC,Yy]
 | .str i,e,_,he=>by cases e<;>simp_all [QC,Yy]
 | .list ds,e,hd,he=>by
  cases e with
  | list es=>
   rw[Yy]at hd he
   rw[QC,Qv.injEq]
   exact Zfl ds es hd he
  | _=>simp_all [QC,Yy]
 | .tuple ds,e,hd,he=>by
  cases e with
  | tuple es=>
   rw[Yy]at hd he
   rw[QC,Xa.tuple.injEq]
   exact Zfl ds es hd he
  | _=>simp_all [QC,Yy]
 | .bool b,e,hd,_=>by simp[Yy]at hd
 | .dict b,e,hd,_=>by simp[Yy]at hd
theorem Zfl:∀(ds es:List Xa),Zeo ds=true->Zeo es=true->(PyData.eqvAll ds es=true↔ds=es)
 | [],[],_,_=>by simp[PyData.eqvAll]
 | [],_ :: _,_,_=>by simp[PyData.eqvAll]
 | _ :: _,[],_,_=>by simp[PyData.eqvAll]
 | d :: ds,e :: es,hd,he=>by
  rw[Zeo,XQ]at hd he
  rw[PyData.eqvAll,XQ,Zkv d e hd.1 he.1,Zfl ds es hd.2 he.2,List.cons.injEq]
end
theorem Zx5{d e:Xa}(h:Yy d=true)(k:Yy e=true)(q:d=e):QC d e=true:=(Zkv d e h k).mpr q
theorem Z3x{d e:Xa}(h:Yy d=true)(k:Yy e=true)(q:d≠e):QC d e=false:=Vj.mpr λz=>q ((Zkv d e h k).mp z)
noncomputable def fr(a b:Int):Xa:=.tuple [.int a,.int b]
theorem Ze2{t b:Int}(hb:b≠0):0<(Bg t b:Int):=by
 have:=Int.gcd_pos_of_ne_zero_right t hb
 omega
theorem Y8{t g:Int}(hg:0<g):t.fdiv g=t/g:=Int.fdiv_eq_ediv_of_nonneg t (by omega)
theorem Zda{t g:Int}(hg:0<g)(h:g∣t):t.fdiv (-g)= -(t/g):=by
 obtain⟨k,rfl⟩:=h
 rw[Int.mul_ediv_cancel_left _ (by omega)]
 have e:g*k=(-k)*(-g):=by rw[Int.neg_mul_neg,Ul]
 rw[e,Int.mul_fdiv_cancel _ (by omega)]
noncomputable def shr(t b:Int):Int:=if b<0 then -(Bg t b:Int)else(Bg t b:Int)
theorem Zzu{t b:Int}(hb:b≠0):t.fdiv (shr t b)=(Xv t b).num:=by
 have hg:=Ze2 (t:=t) hb
 have hd:(Bg t b:Int)∣t:=Int.gcd_dvd_left ..
 rw[Rat.num_divInt,Int.gcd_comm b t]
 unfold shr
 by_cases h:b<0
 ·rw[if_pos h,Zda hg hd,Int.sign_eq_neg_one_of_neg h,Int.neg_one_mul,Int.neg_ediv_of_dvd hd]
 ·rw[if_neg h,Y8 hg,Int.sign_eq_one_of_pos (by omega),Int.one_mul]
theorem Z15{t b:Int}(hb:b≠0):b.fdiv (shr t b)=((Xv t b).den:Int):=by
 have hg:=Ze2 (t:=t) hb
 have hd:(Bg t b:Int)∣b:=Int.gcd_dvd_right ..
 rw[Rat.den_divInt,if_neg hb,Int.gcd_comm b t]
 unfold shr
 by_cases h:b<0
 ·have e:(b.natAbs:Int)= -b:=by omega
  rw[if_pos h,Zda hg hd,Int.natCast_ediv,e,Int.neg_ediv_of_dvd hd]
 ·have e:(b.natAbs:Int)=b:=by omega
  rw[if_neg h,Y8 hg,Int.natCast_ediv,e]
theorem Zyb{t b:Int}(hb:b≠0):shr t b≠0:=by
 have hg:=Ze2 (t:=t) hb
 unfold shr
 split<;>omega
theorem Zx4{n:Nat}{t b:Int}(hb:b≠0)(h:Bt n b):Bt n (shr t b):=by
 have h1:Bt n (Bg t b:Int):=by
  refine Bt.of_le h ?_
  have:=Int.gcd_le_natAbs_right t hb
  omega
 unfold shr
 split
 ·exact h1.neg
 ·exact h1
theorem Zsr{n:Nat}{t b:Int}(hb:b≠0)(h:Bt n t):Bt n (Xv t b).num:=by
 rw[Rat.num_divInt]
 refine Bt.of_le h ?_
 refine QT (Int.natAbs_ediv_le_natAbs _ _) ?_
 rw[Int.natAbs_mul]
 have:b.sign.natAbs≤1:=by
  rw[Int.natAbs_sign]
  split<;>omega
 calc b.sign.natAbs*t.natAbs≤1*t.natAbs:=Nat.mul_le_mul_right _ this
  _=t.natAbs:=Nat.one_mul _
theorem Z3w{n:Nat}{t b:Int}(hb:b≠0)(h:Bt n b):Bt n ((Xv t b).den:Int):=by
 rw[Rat.den_divInt,if_neg hb]
 refine Bt.of_le h ?_
 show((b.natAbs/b.gcd t:Nat):Int).natAbs≤_
 rw[Int.natAbs_natCast]
 exact Nat.div_le_self _ _
theorem Zh7(q:Rat):(q.den:Int)≠0:=by
 have:=q.den_pos
 omega
theorem J4(q:Rat):(0:Int)<(q.den:Int):=by
 have:=q.den_pos
 omega
theorem Zu8(q r:Rat):Xv (q.num*(r.den:Int)+r.num*(q.den:Int)) ((q.den:Int)*(r.den:Int))=q+r:=by
 rw[Rat.add_def',←UL,Rat.divInt_ofNat]
theorem Zrn(q r:Rat):Xv (q.num*r.num) ((q.den:Int)*(r.den:Int))=q*r:=by
 rw[Rat.mul_def',←UL,Rat.divInt_ofNat]
noncomputable def frD(q:Rat):Xa:=fr q.num (q.den:Int)
noncomputable def BQ(n:Nat)(q:Rat):Prop:=Bt n q.num∧Bt n (q.den:Int)
theorem BQ.mono{m n:Nat}{q:Rat}(h:BQ m q)(k:m≤n):BQ n q:=⟨h.1.mono k,h.2.mono k⟩
theorem BQ.div{n:Nat}{t b:Int}(hb:b≠0)(h:Bt n t)(k:Bt n b):BQ n (Xv t b):=⟨Zsr hb h,Z3w hb k⟩
section
variable {X:Cx}{K:Xc}{a b o e:Expr}{ta tb tl to:TE}{pos:Pos}
theorem Zv2(hK:X.K=K):IxR X (Z9d K):=hK▸Zti
theorem Znh(hK:X.K=K):IxR X (rIx K):=hK▸Z4b
theorem Zvh(hK:X.K=K):SlR X (Yb1 K):=hK▸Z1f
noncomputable def Yb6(K:Xc):List V->Hp->VK->Prop:=λxs H Q=>∃p ys,xs=[.ref p]∧(SqL K H p ys∨SqT K H p ys)∧Q (.int ys.length) H
theorem Zbi(hK:X.K=K):Zd6 X (.builtin "len") (Yb6 K):=by subst hK;exact Zlo
noncomputable def Zsm(K:Xc):List V->Hp->VK->Prop:=λxs H Q=>∃p ys,xs=[.ref p]∧(SqL K H p ys∨SqT K H p ys)∧∀l,H l=none->Q (.ref l) (upd H l (.lst ys))
theorem Zp8(hK:X.K=K):Zd6 X (.type "list") (Zsm K):=by subst hK;exact Zlq
noncomputable def Yef(K:Xc)(ta:TE):TT:=λσ H Q=>ta σ H λx H'=>∃k,Z82 K x H' k∧Q k H'
theorem Z2e(hK:X.K=K)(ha:PE X a ta)(he:∀whole,isTrue a X.env whole=(do let v←whole;standAt a.pos;holding [v] (truthy v))):PT X a (Yef K ta):=by subst hK;exact Zwx ha he
theorem Zw2{tg l:Expr}(hK:X.K=K)(hl:PE X l tl):PI X tg l (Z7m K tl):=by subst hK;exact Zz9 hl
theorem Z08{tg l:Expr}(hK:X.K=K)(hl:PE X l tl):PI X tg l (Ybb K tl):=by subst hK;exact Z6j hl
theorem Zox(hK:X.K=K):OpR X (BK .In) (rIn K false):=by subst hK;exact Ztu
theorem Zs6(hK:X.K=K):OpR X (BK .NotIn) (rIn K true):=by subst hK;exact Zly
end
theorem Yd{H:Hp}{p:Addr}(h:H p=none)(o:HO):Same H (upd H p o):=λb u q=>by rw[Z3 (Yz q h)];exact q
noncomputable def But(p:Addr)(H H':Hp):Prop:=∀b o,b≠p->H b=some o->H' b=some o
theorem But.upd(p:Addr)(H:Hp)(o:HO):But p H (upd H p o):=λb u n e=>by rw[Z3 n];exact e
namespace B
theorem boot_abs:Qk "abs"=some (.builtin "abs"):=by decide +kernel
theorem boot_len:Qk "len"=some (.builtin "len"):=by decide +kernel
theorem boot_isinstance:Qk "isinstance"=some (.builtin "isinstance"):=by decide +kernel
theorem boot_sorted:Qk "sorted"=some (.builtin "sorted"):=by decide +kernel
theorem boot_int:Qk "int"=some (.type "int"):=by decide +kernel
theorem boot_bool:Qk "bool"=some (.type "bool"):=by decide +kernel
theorem boot_str:Qk "str"=some (.type "str"):=by decide +kernel
theorem boot_list:Qk "list"=some (.type "list"):=by decide +kernel
theorem boot_tuple:Qk "tuple"=some (.type "tuple"):=by decide +kernel
theorem boot_range:Qk "range"=some (.type "range"):=by decide +kernel
theorem boot_zip:Qk "zip"=some (.type "zip"):=by decide +kernel
theorem boot_set:Qk "set"=some (.type "set"):=by decide +kernel
end B
theorem Zdl{a b:Int}(hb:0<b):a.fmod b=a%b:=Int.fmod_eq_emod_of_nonneg a (by omega)
theorem Zvg{x y:Int}(hx:0≤x)(hy:0<y):Bg y (x.fmod y)=Bg x y:=by
 rw[Zdl hy,Int.gcd_comm x y]
 have e:=Int.emod_add_mul_ediv x y
 conv=>rhs;rw[←e]
 rw[Int.gcd_add_mul_left_right]
theorem Z4z:(2:Nat)≤Xx:=by decide
theorem Zv3(q:Rat):Xv q.num (q.den:Int)=q:=Rat.num_divInt_den q
theorem BQ.n{n:Nat}{q:Rat}(h:BQ n q):Bt n q.num:=h.1
theorem BQ.d{n:Nat}{q:Rat}(h:BQ n q):Bt n (q.den:Int):=h.2
theorem Yd1(q:Rat):(((q.den:Int)):Rat)≠0:=by
 intro z
 exact Zh7 q (Rat.intCast_eq_zero_iff.mp z)
theorem Ydl(q:Rat):((q.num:Int):Rat)=q*(((q.den:Int)):Rat):=by
 have h:=Zv3 q
 rw[Rat.divInt_eq_div]at h
 have d:=Yd1 q
 conv=>rhs;lhs;rw[←h]
 grind
variable {G:Xc}
noncomputable def KS(G:Xc)(a:Addr)(ns:List Int):Prop:=∃(o:Obj) (its:Array Xd) (n:Nat),G.lookup a=some o∧o.cls= .type "list"∧o.dict=none∧o.data= .seq its n∧its.size≤Xx∧Vals (ns.map V.int) its.toList
theorem KS.sq{G:Xc}{H:Hp}{a:Addr}{ns:List Int}(h:KS G a ns):SqL G H a (ns.map V.int):=.inr h
noncomputable def exD(x:Str):Xa:=.dict [(.str x,.none)]
noncomputable def fnD(x:Str):Xa:=.dict [(.str x,.bool true)]
noncomputable def Zih:Xa->Bool| .dict ((_,.bool _) :: _)=>true|_=>false
noncomputable def ClsAt(G:Xc)(x:Str)(C:Addr):Prop:=QM G Ql x=some (some (.ref C))
structure Zel(G:Xc)(C:Addr):Prop where
 ga:Vl G (.ref C) "__getattribute__"=some (some (.builtin "BaseException.__getattribute__"))
 gt:Vl G (.ref C) "__getattr__"=some none
 cl:Vl G (.ref C) "__class__"=some (some (.builtin "object.__class__"))
 isB:PySem.W.subIn G (.ref C) (.type "BaseException")=some true
 isO:PySem.W.subIn G (.ref C) (.type "object")=some true
 isC:(PySem.W.clsIn G C).isSome=true
 k1:Vk G (.ref C) (.type "int")=some false
 k2:Vk G (.ref C) (.type "bool")=some false
 k3:Vk G (.ref C) (.type "str")=some false
 k4:Vk G (.ref C) (.type "list")=some false
 k5:Vk G (.ref C) (.type "tuple")=some false
noncomputable def ExO(C a:Addr)(h:Heap):Prop:=∃o vs,h.get? a=some o∧o.cls= .ref C∧o.data= .fields vs
inductive ImO where
 | tup (xs:List V)
 | ext (φ:Heap->Prop)
noncomputable def ImO.ho:ImO->HO
 | .tup xs=>.tup xs
 | .ext φ=>.ext φ
inductive MuO where
 | lst (xs:List V)
 | dK (kvs:List (Key×V))
 | dT (kvs:List (List Key×V))
noncomputable def MuO.ho:MuO->HO
 | .lst xs=>.lst xs
 | .dK kvs=>.dK kvs
 | .dT kvs=>.dT kvs
noncomputable def Yba:Key->Xa
 | .inl i=>.int i
 | .inr x=>.str x
noncomputable def Yc9(ks:List Key):Xa:=.tuple (ks.map Yba)
noncomputable abbrev KY:=Sum Key (List Key)
noncomputable def kyD:KY->Xa
 | .inl k=>Yba k
 | .inr ks=>Yc9 ks
noncomputable def MuO.dic(t:Bool)(ks:List KY)(xs:List V):MuO->Prop
 | .lst _=>False
 | .dK kvs=>t=false∧ks=kvs.map (λp=>.inl p.1)∧xs=kvs.map (·.2)
 | .dT kvs=>t=true∧ks=kvs.map (λp=>.inr p.1)∧xs=kvs.map (·.2)
noncomputable def dcD(t:Bool)(ks:List KY)(ds:List Xa):Xa:=.dict ((.none,.bool t) :: (ks.map kyD).zip ds)
theorem ImO.nm{H:Hp}{a:Addr}{x:ImO}{y:MuO}(h:H a=some x.ho)(h':H a=some y.ho):False:=by
 rw[h]at h'
 cases x<;>cases y<;>cases h'
theorem ImO.nl{H:Hp}{a:Addr}{x:ImO}{ys:List V}(h:H a=some x.ho)(h':H a=some (.lst ys)):False:=by
 rw[h]at h'
 cases x<;>cases h'
mutual
inductive Da(G:Xc)(H:Hp)(L:Addr->Prop):V->Xa->Prop where
 | non:Da G H L .non .none
 | bl (b:Bool):Da G H L (.bl b) (.bool b)
 | int (i:Int):Da G H L (.int i) (.int i)
 | str (x:Str):Da G H L (.str x) (.str x)
 | lst {a:Addr} {xs:List V} {ds:List Xa}:L a->Rd H a (.lst xs)->Das G H L xs ds->Da G H L (.ref a) (.list ds)
 | tup {a:Addr} {xs:List V} {ds:List Xa}:H a=some (.tup xs)->Das G H L xs ds->Da G H L (.ref a) (.tuple ds)
 | scr {a:Addr} {ns:List Int}:KS G a ns->Da G H L (.ref a) (.list (ns.map Xk))
 | exc {a C:Addr} {x:Str}:Zel G C->ClsAt G x C->H a=some (.ext (ExO C a))->Da G H L (.ref a) (exD x)
 | fn {a:Addr} {x:Str}:ClsAt G x a->Da G H L (.ref a) (fnD x)
 | dic {a:Addr} {o:MuO} {t:Bool} {ks:List KY} {xs:List V} {ds:List Xa}:L a->Rd H a o.ho->o.dic t ks xs->Das G H L xs ds->Da G H L (.ref a) (dcD t ks ds)
inductive Das(G:Xc)(H:Hp)(L:Addr->Prop):List V->List Xa->Prop where
 | nil:Das G H L [] []
 | cons {x:V} {xs:List V} {d:Xa} {ds:List Xa}:Da G H L x d->Das G H L xs ds->Das G H L (x :: xs) (d :: ds)
end
section
variable {H H':Hp}{L L':Addr->Prop}
theorem Da.both{P:V->Xa->Prop}{Q:List V->List Xa->Prop}(c1:P .non .none)(c2:∀b,P (.bl b) (.bool b))(c3:∀i,P (.int i) (.int i))(c4:∀x,P (.str x) (.str x))
  (c5:∀{a:Addr} {xs:List V} {ds:List Xa},L a->Rd H a (.lst xs)->Q xs ds->P (.ref a) (.list ds)) (c6:∀{a:Addr} {xs:List V} {ds:List Xa},H a=some (.tup xs)->Q xs ds->P (.ref a) (.tuple ds))
  (c7:∀{a:Addr} {ns:List Int},KS G a ns->P (.ref a) (.list (ns.map Xk))) (c8:∀{a C:Addr} {x:Str},Zel G C->ClsAt G x C->H a=some (.ext (ExO C a))->P (.ref a) (exD x)) (c9:∀{a:Addr} {x:Str},ClsAt G x a->P (.ref a) (fnD x))
  (c10:∀{a:Addr} {o:MuO} {t:Bool} {ks:List KY} {xs:List V} {ds:List Xa},L a->Rd H a o.ho->o.dic t ks xs->Q xs ds->P (.ref a) (dcD t ks ds)) (n:Q [] []) (c:∀{x:V} {xs:List V} {d:Xa} {ds:List Xa},P x d->Q xs ds->Q (x :: xs) (d :: ds)):(∀{v d},Da G H L v d->P v d)∧∀{xs ds},Das G H L xs ds->Q xs ds :=
 ⟨λh=>Da.rec (motive_1:=λv d _=>P v d) (motive_2:=λxs ds _=>Q xs ds) c1 c2 c3 c4 (λp e _ r=>c5 p e r) (λe _ r=>c6 e r) (λk=>c7 k) (λk l m=>c8 k l m) (λk=>c9 k) (λp e k _ r=>c10 p e k r) n (λ_ _ p q=>c p q) h,
   λh=>Das.rec (motive_1:=λv d _=>P v d) (motive_2:=λxs ds _=>Q xs ds) c1 c2 c3 c4 (λp e _ r=>c5 p e r) (λe _ r=>c6 e r) (λk=>c7 k) (λk l m=>c8 k l m) (λk=>c9 k) (λp e k _ r=>c10 p e k r) n (λ_ _ p q=>c p q) h⟩
theorem Das.ind{Q:List V->List Xa->Prop}(n:Q [] [])(c:∀{x:V} {xs:List V} {d:Xa} {ds:List Xa},Da G H L x d->Das G H L xs ds->Q xs ds->Q (x :: xs) (d :: ds)):∀{xs ds},Das G H L xs ds->Q xs ds:=λh=>
 Das.rec (motive_1:=λ_ _ _=>True) (motive_2:=λxs ds _=>Q xs ds) trivial (λ_=>trivial) (λ_=>trivial) (λ_=>trivial) (λ_ _ _ _=>trivial) (λ_ _ _=>trivial) (λ_=>trivial) (λ_ _ _=>trivial) (λ_=>trivial) (λ_ _ _ _ _=>trivial) n (λp q _ r=>c p q r) h
theorem Da.frame2(hl:∀a (xs:MuO),L a->Rd H a xs.ho->L' a∧Rd H' a xs.ho)(ht:∀a (xs:ImO),H a=some xs.ho->H' a=some xs.ho):(∀{v:V} {d:Xa},Da G H L v d->Da G H' L' v d)∧∀{xs:List V} {ds:List Xa},Das G H L xs ds->Das G H' L' xs ds :=
 Da.both .non .bl .int .str (fun{_ xs _} p e r=>.lst (hl _ (.lst xs) p e).1 (hl _ (.lst xs) p e).2 r) (fun{_ xs _} e r=>.tup (ht _ (.tup xs) e) r) .scr (λc n e=>.exc c n (ht _ (.ext _) e)) .fn (λp e k r=>.dic (hl _ _ p e).1 (hl _ _ p e).2 k r) .nil .cons
theorem Da.frame(hl:∀a (xs:MuO),L a->Rd H a xs.ho->L' a∧Rd H' a xs.ho)(ht:∀a (xs:ImO),H a=some xs.ho->H' a=some xs.ho){v:V}{d:Xa}(h:Da G H L v d):Da G H' L' v d:=(Da.frame2 hl ht).1 h
theorem Das.frame(hl:∀a (xs:MuO),L a->Rd H a xs.ho->L' a∧Rd H' a xs.ho)(ht:∀a (xs:ImO),H a=some xs.ho->H' a=some xs.ho){xs:List V}{ds:List Xa}(h:Das G H L xs ds):Das G H' L' xs ds:=(Da.frame2 hl ht).2 h
theorem Rd.same{a:Addr}{u:HO}(s:Same H H')(h:Rd H a u):Rd H' a u:=h.imp (s _ _) λ⟨o,h⟩=>⟨o,s _ _ h⟩
theorem Rd.some{a:Addr}{u:HO}(h:Rd H a u):H a≠Option.none:=by
 rcases h with h|⟨o,h⟩<;>rw[h]<;>intro z<;>cases z
theorem Da.same(h:Same H H'){v:V}{d:Xa}(x:Da G H L v d):Da G H' L v d:=x.frame (λa xs p e=>⟨p,e.same h⟩) λa xs e=>h _ _ e
theorem Das.same(h:Same H H'){v:List V}{d:List Xa}(x:Das G H L v d):Das G H' L v d:=x.frame (λa xs p e=>⟨p,e.same h⟩) λa xs e=>h _ _ e
theorem Da.wide(h:∀a,L a->H a≠none->L' a){v:V}{d:Xa}(x:Da G H L v d):Da G H L' v d:=x.frame (λa xs p e=>⟨h a p e.some,e⟩) λa xs e=>e
theorem Das.wide(h:∀a,L a->H a≠none->L' a){v:List V}{d:List Xa}(x:Das G H L v d):Das G H L' v d:=x.frame (λa xs p e=>⟨h a p e.some,e⟩) λa xs e=>e
theorem Das.length{xs:List V}{ds:List Xa}(h:Das G H L xs ds):xs.length=ds.length:=Das.ind (Q:=λxs ds=>xs.length=ds.length) rfl (λ_ _ r=>congrArg (·+1) r) h
theorem Das.append{xs ys:List V}{ds es:List Xa}(h:Das G H L xs ds)(k:Das G H L ys es):Das G H L (xs ++ ys) (ds ++ es):=Das.ind (Q:=λxs ds=>Das G H L (xs ++ ys) (ds ++ es)) k (λh _ r=>.cons h r) h
theorem Das.get{xs:List V}{ds:List Xa}{i:Nat}{d:Xa}(h:Das G H L xs ds):ds[i]? =some d->∃x,xs[i]? =some x∧Da G H L x d :=
 Das.ind (Q:=λxs ds=>∀i,ds[i]? =some d->∃x,xs[i]? =some x∧Da G H L x d) (λ_ e=>(Option.some_ne_none _ (e.symm.trans List.getElem?_nil)).elim) (fun{x _ _ _} h _ r i=>Nat.casesOn i (λe=>⟨x,rfl,QD e▸h⟩) λi e=>r i e) h i
theorem Das.get'{xs:List V}{ds:List Xa}{i:Nat}{x:V}(h:Das G H L xs ds):xs[i]? =some x->∃d,ds[i]? =some d∧Da G H L x d :=
 Das.ind (Q:=λxs ds=>∀i,xs[i]? =some x->∃d,ds[i]? =some d∧Da G H L x d) (λ_ e=>(Option.some_ne_none _ (e.symm.trans List.getElem?_nil)).elim) (fun{_ _ d _} h _ r i=>Nat.casesOn i (λe=>⟨d,rfl,QD e▸h⟩) λi e=>r i e) h i
theorem Das.take{xs:List V}{ds:List Xa}(n:Nat)(h:Das G H L xs ds):Das G H L (xs.take n) (ds.take n) :=
 Das.ind (Q:=λxs ds=>∀n,Das G H L (xs.take n) (ds.take n)) (λn=>by rw[List.take_nil,List.take_nil];exact .nil) (λh _ r n=>Nat.casesOn n .nil λn=>.cons h (r n)) h n
theorem Das.drop{xs:List V}{ds:List Xa}(n:Nat)(h:Das G H L xs ds):Das G H L (xs.drop n) (ds.drop n) :=
 Das.ind (Q:=λxs ds=>∀n,Das G H L (xs.drop n) (ds.drop n)) (λn=>by rw[List.drop_nil,List.drop_nil];exact .nil) (λh q r n=>Nat.casesOn n (.cons h q) λn=>r n) h n
theorem Das.ints(ns:List Int):Das G H L (ns.map V.int) (ns.map Xk):=by
 induction ns with
 | nil=>exact .nil
 | cons n ns ih=>exact .cons (.int n) ih
theorem Das.int_inv{xs:List V}{ns:List Int}(h:Das G H L xs (ns.map Xk)):xs=ns.map V.int:=by
 induction ns generalizing xs with
 | nil=>cases h;rfl
 | cons n ns ih=>
  rw[XF]at h
  cases h with
  | cons h r=>cases h;rw[ih r];rfl
end
theorem Zp7{h:Heap}(ns:List Int){us:List Xd}(v:Vals (ns.map V.int) us):∃as,ReadsAll h us (ns.map Xk) as:=by
 induction ns generalizing us with
 | nil=>cases v;exact⟨_,.nil⟩
 | cons n ns ih=>
  rw[XF]at v
  cases v with
  | cons r rs=>
   obtain⟨t,e⟩:=(show∃t,_=Vr n t from r)
   subst e
   obtain⟨bs,k'⟩:=ih rs
   exact⟨_,.cons (.int n t) k'⟩
section
variable {X:Cx}{pins:List (Addr×Obj)}{σ:St}{H:Hp}{s:Xg}{L L':Addr->Prop}
theorem Da.reads2(hG:X.K=G)(I:Inv X pins σ H s):(∀{v:V} {d:Xa},Da G H L v d->∀u,RelV v u->d.canLay0=true->∃as,Reads s.heap u d as)∧∀{xs:List V} {ds:List Xa},Das G H L xs ds->∀us,Vals xs us->JT ds=true->∃as,ReadsAll s.heap us ds as:=by
 refine Da.both ?_ ?_ ?_ ?_ ?_ ?_ ?_ ?_ ?_ ?_ ?_ ?_
 ·intro u r _
  cases(show _=QS from r)
  exact⟨_,.none⟩
 ·intro b u r _
  cases(show _=U5 b from r)
  exact⟨_,.bool b⟩
 ·intro i u r _
  obtain⟨t,e⟩:=(show∃t,_=Vr i t from r)
  subst e
  exact⟨_,.int i t⟩
 ·intro x u r _
  obtain⟨t,e⟩:=(show∃t,_=Value.str x t from r)
  subst e
  exact⟨_,.str x t⟩
 ·intro a xs ds _ e q u r hcl
  cases(show _=Qn a from r)
  obtain⟨_,its,n,vs,h1⟩:=(show ObjOk X.prog X.w H s.heap a (.lst xs)from e.ok I.hok)
  rw[Bo]at hcl
  obtain⟨as,k⟩:=q _ vs hcl
  exact⟨_,Reads.list h1 rfl rfl k⟩
 ·intro a xs ds e q u r hcl
  cases(show _=Qn a from r)
  obtain⟨_,its,vs,o,ho,hc,n,hd⟩:=(show ObjOk X.prog X.w H s.heap a (.tup xs)from I.hok a _ e)
  rw[Bo]at hcl
  obtain⟨as,k⟩:=q _ vs hcl
  exact⟨_,Reads.tuple ho hc hd k⟩
 ·intro a ns k u r _
  cases(show _=Qn a from r)
  subst hG
  obtain⟨its,vs,⟨o,n,ho,hc,hd,hs⟩,_⟩:=I.list (k.sq (H:=H))
  obtain⟨as,q⟩:=Zp7 ns vs
  exact⟨_,Reads.list ho hc hs q⟩
 ·intro a C x _ _ e u r hc
  rw[exD,Bo]at hc
  cases hc
 ·intro a x _ u r hc
  rw[fnD,Bo]at hc
  cases hc
 ·intro a o t ks xs ds _ _ _ _ u r hc
  rw[dcD,Bo]at hc
  cases hc
 ·intro us v _
  cases v
  exact⟨_,.nil⟩
 ·intro x xs d ds h q us v hc
  cases v with
  | cons r rs=>
   rw[JT,XQ]at hc
   obtain⟨as,k⟩:=h _ r hc.1
   obtain⟨bs,k'⟩:=q _ rs hc.2
   exact⟨_,.cons k k'⟩
theorem Da.reads(hG:X.K=G)(I:Inv X pins σ H s){v:V}{d:Xa}{u:Xd}(h:Da G H L v d)(r:RelV v u)(c:d.canLay0=true):∃as,Reads s.heap u d as:=(Da.reads2 hG I).1 h u r c
theorem Das.reads(hG:X.K=G)(I:Inv X pins σ H s){xs:List V}{ds:List Xa}{us:List Xd}(h:Das G H L xs ds)(r:Vals xs us)(c:JT ds=true):∃as,ReadsAll s.heap us ds as:=(Da.reads2 hG I).2 h us r c
end
inductive OT where
 | fz (d:Xa)
 | nd (ts:List OT)
 | tp (ts:List OT)
 | dc (t:Bool) (ks:List KY) (ds:List Xa)
mutual
noncomputable def OT.data:OT->Xa
 | .fz d=>d
 | .nd ts=>.list (OT.datas ts)
 | .tp ts=>.tuple (OT.datas ts)
 | .dc t ks ds=>dcD t ks ds
noncomputable def OT.datas:List OT->List Xa
 | []=>[]
 | t :: ts=>t.data :: OT.datas ts
end
theorem OT.datas_map:∀(ts:List OT),OT.datas ts=ts.map OT.data
 | []=>rfl
 | t :: ts=>by rw[OT.datas,OT.datas_map ts];rfl
@[simp] theorem OT.data_fz(d:Xa):(OT.fz d).data=d:=by rw[OT.data]
@[simp] theorem OT.data_nd(ts:List OT):(OT.nd ts).data= .list (ts.map OT.data):=by rw[OT.data,OT.datas_map]
@[simp] theorem OT.data_tp(ts:List OT):(OT.tp ts).data= .tuple (ts.map OT.data):=by rw[OT.data,OT.datas_map]
theorem OT.data_dc(t:Bool)(ks:List KY)(ds:List Xa):(OT.dc t ks ds).data=dcD t ks ds:=by rw[OT.data]
@[simp] theorem OT.map_fz(ds:List Xa):(ds.map OT.fz).map OT.data=ds:=by
 rw[X5]
 exact(XH λd _=>OT.data_fz d).trans (List.map_id _)
mutual
inductive Own(G:Xc)(H:Hp)(L:Addr->Prop):V->OT->List Addr->Prop where
 | fz {v:V} {d:Xa}:Da G H L v d->Own G H L v (.fz d) []
 | nd {a:Addr} {xs:List V} {ts:List OT} {bs:List Addr}:H a=some (.lst xs)->Owns G H L xs ts bs->Own G H L (.ref a) (.nd ts) (a :: bs)
 | tp {a:Addr} {xs:List V} {ts:List OT} {bs:List Addr}:H a=some (.tup xs)->Owns G H L xs ts bs->Own G H L (.ref a) (.tp ts) bs
 | dc {a:Addr} {o:MuO} {t:Bool} {ks:List KY} {xs:List V} {ds:List Xa}:H a=some o.ho->o.dic t ks xs->Das G H L xs ds->Own G H L (.ref a) (.dc t ks ds) [a]
inductive Owns(G:Xc)(H:Hp)(L:Addr->Prop):List V->List OT->List Addr->Prop where
 | nil:Owns G H L [] [] []
 | cons {x:V} {xs:List V} {t:OT} {ts:List OT} {as bs:List Addr}:Own G H L x t as->Owns G H L xs ts bs->Owns G H L (x :: xs) (t :: ts) (as ++ bs)
end
section
variable {H H':Hp}{L L':Addr->Prop}
theorem Own.both{P:V->OT->List Addr->Prop}{Q:List V->List OT->List Addr->Prop}(c1:∀{v:V} {d:Xa},Da G H L v d->P v (.fz d) [])(c2:∀{a:Addr} {xs:List V} {ts:List OT} {bs:List Addr},H a=some (.lst xs)->Q xs ts bs->P (.ref a) (.nd ts) (a :: bs))
  (c3:∀{a:Addr} {xs:List V} {ts:List OT} {bs:List Addr},H a=some (.tup xs)->Q xs ts bs->P (.ref a) (.tp ts) bs) (c4:∀{a:Addr} {o:MuO} {t:Bool} {ks:List KY} {xs:List V} {ds:List Xa},H a=some o.ho->o.dic t ks xs->Das G H L xs ds->P (.ref a) (.dc t ks ds) [a]) (n:Q [] [] []) (c:∀{x:V} {xs:List V} {t:OT} {ts:List OT} {as bs:List Addr},P x t as->Q xs ts bs->Q (x :: xs) (t :: ts) (as ++ bs)) :
  (∀ {v t as},Own G H L v t as->P v t as)∧∀{xs ts as},Owns G H L xs ts as->Q xs ts as :=
 ⟨λh=>Own.rec (motive_1:=λv t as _=>P v t as) (motive_2:=λxs ts as _=>Q xs ts as) c1 (λe _ r=>c2 e r) (λe _ r=>c3 e r) (λe k r=>c4 e k r) n (λ_ _ p q=>c p q) h,
   λh=>Owns.rec (motive_1:=λv t as _=>P v t as) (motive_2:=λxs ts as _=>Q xs ts as) c1 (λe _ r=>c2 e r) (λe _ r=>c3 e r) (λe k r=>c4 e k r) n (λ_ _ p q=>c p q) h⟩
theorem Own.frame2(hl:∀a (xs:MuO),L a->Rd H a xs.ho->L' a∧Rd H' a xs.ho)(ht:∀a (xs:ImO),H a=some xs.ho->H' a=some xs.ho) :
  (∀ {v:V} {t:OT} {as:List Addr},Own G H L v t as->(∀a∈as,∀xs:MuO,H a=some xs.ho->H' a=some xs.ho)->Own G H' L' v t as)∧∀{xs:List V} {ts:List OT} {as:List Addr},Owns G H L xs ts as->(∀a∈as,∀xs:MuO,H a=some xs.ho->H' a=some xs.ho)->Owns G H' L' xs ts as :=
 Own.both (λh _=>.fz (h.frame hl ht)) (fun{_ xs _ _} e r ha=>.nd (ha _ (.head _) (.lst xs) e) (r λa m=>ha a (.tail _ m))) (fun{_ xs _ _} e r ha=>.tp (ht _ (.tup xs) e) (r ha)) (λe k r ha=>.dc (ha _ (.head _) _ e) k (r.frame hl ht)) (λ_=>.nil) (λh r ha=>.cons (h λa m=>ha a (VJ _ m)) (r λa m=>ha a (Qg _ m)))
theorem Own.frame(hl:∀a (xs:MuO),L a->Rd H a xs.ho->L' a∧Rd H' a xs.ho)(ht:∀a (xs:ImO),H a=some xs.ho->H' a=some xs.ho){v:V}{t:OT}{as:List Addr}(ha:∀a∈as,∀xs:MuO,H a=some xs.ho->H' a=some xs.ho)(h:Own G H L v t as):Own G H' L' v t as:=(Own.frame2 hl ht).1 h ha
theorem Owns.frame(hl:∀a (xs:MuO),L a->Rd H a xs.ho->L' a∧Rd H' a xs.ho)(ht:∀a (xs:ImO),H a=some xs.ho->H' a=some xs.ho){xs:List V}{ts:List OT}{as:List Addr}(ha:∀a∈as,∀xs:MuO,H a=some xs.ho->H' a=some xs.ho)(h:Owns G H L xs ts as):Owns G H' L' xs ts as:=(Own.frame2 hl ht).2 h ha
theorem Own.same(h:Same H H'){v:V}{t:OT}{as:List Addr}(x:Own G H L v t as):Own G H' L v t as:=x.frame (λa xs p e=>⟨p,e.same h⟩) (λa xs e=>h _ _ e) λa _ xs e=>h _ _ e
theorem Own.wide(h:∀a,L a->H a≠none->L' a){v:V}{t:OT}{as:List Addr}(x:Own G H L v t as):Own G H L' v t as:=x.frame (λa xs p e=>⟨h a p e.some,e⟩) (λa xs e=>e) λa _ xs e=>e
theorem Owns.wide(h:∀a,L a->H a≠none->L' a){v:List V}{t:List OT}{as:List Addr}(x:Owns G H L v t as):Owns G H L' v t as:=x.frame (λa xs p e=>⟨h a p e.some,e⟩) (λa xs e=>e) λa _ xs e=>e
theorem Owns.same(h:Same H H'){v:List V}{t:List OT}{as:List Addr}(x:Owns G H L v t as):Owns G H' L v t as:=x.frame (λa xs p e=>⟨p,e.same h⟩) (λa xs e=>h _ _ e) λa _ xs e=>h _ _ e
theorem Own.da2(h:∀a,L a->H a≠none->L' a):(∀{v:V} {t:OT} {as:List Addr},Own G H L v t as->(∀a∈as,L' a)->Da G H L' v t.data)∧∀{v:List V} {t:List OT} {as:List Addr},Owns G H L v t as->(∀a∈as,L' a)->Das G H L' v (OT.datas t) :=
 Own.both (λk _=>by rw[OT.data_fz];exact k.wide h) (λe r ha=>by rw[OT.data];exact .lst (ha _ (.head _)) (.inl e) (r λa m=>ha a (.tail _ m))) (λe r ha=>by rw[OT.data];exact .tup e (r ha)) (λe k r ha=>by rw[OT.data];exact .dic (ha _ (.head _)) (.inl e) k (r.wide h)) (λ_=>.nil) (λk r ha=>.cons (k λa m=>ha a (VJ _ m)) (r λa m=>ha a (Qg _ m)))
theorem Own.da(h:∀a,L a->H a≠none->L' a){v:V}{t:OT}{as:List Addr}(ha:∀a∈as,L' a)(k:Own G H L v t as):Da G H L' v t.data:=(Own.da2 h).1 k ha
theorem Owns.das(h:∀a,L a->H a≠none->L' a){v:List V}{t:List OT}{as:List Addr}(ha:∀a∈as,L' a)(k:Owns G H L v t as):Das G H L' v (OT.datas t):=(Own.da2 h).2 k ha
theorem Own.some2:(∀{v:V} {t:OT} {as:List Addr},Own G H L v t as->∀a∈as,∃xs:MuO,H a=some xs.ho)∧∀{v:List V} {t:List OT} {as:List Addr},Owns G H L v t as->∀a∈as,∃xs:MuO,H a=some xs.ho :=
 Own.both (λ_ _ m=>nomatch m) (fun{_ xs _ _} e r a m=>(Xq.mp m).elim (λq=>⟨.lst xs,q▸e⟩) (r a)) (λ_ r=>r) (fun{_ o _ _ _ _} e _ _ a m=>⟨o,XD.mp m▸e⟩) (λ_ m=>nomatch m) (λk r a m=>(QW.mp m).elim (k a) (r a))
theorem Own.some{v:V}{t:OT}{as:List Addr}(h:Own G H L v t as):∀a∈as,∃xs:MuO,H a=some xs.ho:=Own.some2.1 h
theorem Owns.some{v:List V}{t:List OT}{as:List Addr}(h:Owns G H L v t as):∀a∈as,∃xs:MuO,H a=some xs.ho:=Own.some2.2 h
theorem Owns.length{xs:List V}{ts:List OT}{as:List Addr}(h:Owns G H L xs ts as):xs.length=ts.length:=(Own.both (P:=λ_ _ _=>True) (Q:=λxs ts _=>xs.length=ts.length) (λ_=>trivial) (λ_ _=>trivial) (λ_ _=>trivial) (λ_ _ _=>trivial) rfl (λ_ r=>congrArg (·+1) r)).2 h
theorem Das.owns{xs:List V}{ds:List Xa}(h:Das G H L xs ds):Owns G H L xs (ds.map OT.fz) []:=Das.ind (Q:=λxs ds=>Owns G H L xs (ds.map OT.fz) []) .nil (λh _ r=>.cons (.fz h) r) h
end
variable {G:Xc}
noncomputable abbrev Zi:=List (Option OT)
noncomputable abbrev Fp:=Nat->List Addr
set_option genInjectivity false in
structure MC(G:Xc) where
 H₀:Hp
 as₀:Addr->Prop
 L:Addr->Prop
 σ₀:St
noncomputable def Foot(fp:Fp)(a:Addr):Prop:=∃i,a∈fp i
noncomputable def Lf(C:MC G)(fp:Fp)(ex:Addr->Prop)(a:Addr):Prop:=¬Foot fp a∧¬ex a∧(C.L a∨C.H₀ a=none)
structure Rel(C:MC G)(io:List Nat)(H:Hp)(σ:St)(δ:Zi)(fp:Fp)(ex:Addr->Prop):Prop where
 len:σ.length=δ.length
 own:∀(i:Nat) (t:OT),δ[i]? =some (some t)->∃v,σ[i]? =some (some v)∧Own G H (Lf C fp ex) v t (fp i)
 emp:∀i:Nat,(∀t,δ[i]? ≠some (some t))->fp i=[]
 nd:∀i,(fp i).Nodup
 dj:∀i j a,a∈fp i->a∈fp j->i=j
 dx:∀i a,a∈fp i->¬ex a
 xa:∀a,ex a->H a≠none
 fr:∀b o,C.H₀ b=some o->¬C.as₀ b->H b=some o
 al:∀b,H b=none->C.H₀ b=none
 new:∀i a,a∈fp i->(i∈io∧C.as₀ a)∨C.H₀ a=none
 io:∀i∈io,σ[i]? =C.σ₀[i]?
structure Stp(p:Bool)(H:Hp)(δ:Zi)(fp:Fp)(H':Hp)(δ':Zi)(fp':Fp):Prop where
 keep:∀b o,H b=some o->(p=true∨¬Foot fp b)->H' b=some o
 env:p=true->δ'=δ∧fp'=fp
 grow:∀a,Foot fp' a->Foot fp a∨H a=none
 al:∀b,H' b=none->H b=none
section
variable {C:MC G}{io:List Nat}{H H' H'':Hp}{σ:St}{δ δ' δ'':Zi}{fp fp' fp'':Fp}{ex ex':Addr->Prop}{p p' c:Bool}{v:V}{d:Xa}{r:OT}{new:List Addr}
theorem Rel.foot(R:Rel C io H σ δ fp ex){a:Addr}(h:Foot fp a):∃xs:MuO,H a=some xs.ho:=by
 obtain⟨i,h⟩:=h
 by_cases q:∃t,δ[i]? =some (some t)
 ·obtain⟨t,q⟩:=q
  obtain⟨v,_,o⟩:=R.own i t q
  exact o.some a h
 ·rw[R.emp i (λt z=>q ⟨t,z⟩)]at h
  exact nomatch h
theorem Rel.footSome(R:Rel C io H σ δ fp ex){a:Addr}(h:H a=none):¬Foot fp a:=λz=>by
 obtain⟨xs,e⟩:=R.foot z
 rw[h]at e
 cases e
theorem Stp.refl(p:Bool)(H:Hp)(δ:Zi)(fp:Fp):Stp p H δ fp H δ fp:=⟨λ_ _ h _=>h,λ_=>⟨rfl,rfl⟩,λ_ h=>.inl h,λ_ h=>h⟩
theorem Stp.same(h:Same H H')(hn:∀b,H' b=none->H b=none):Stp p H δ fp H' δ fp:=⟨λ_ _ q _=>h _ _ q,λ_=>⟨rfl,rfl⟩,λ_ h=>.inl h,hn⟩
theorem Same.al(h:Same H H'):∀b,H' b=none->H b=none:=λ_ q=>h.free q
theorem Stp.trans(a:Stp p H δ fp H' δ' fp')(b:Stp p' H' δ' fp' H'' δ'' fp''):Stp (p&&p') H δ fp H'' δ'' fp'' where
 keep:=λx o e h=>by
  rcases h with h|h
  ·rw[XQ]at h
   exact b.keep x o (a.keep x o e (.inl h.1)) (.inl h.2)
  ·refine b.keep x o (a.keep x o e (.inr h)) (.inr λz=>?_)
   rcases a.grow x z with z|z
   ·exact h z
   ·rw[e]at z;cases z
 env:=λh=>by
  rw[XQ]at h
  obtain⟨e1,e2⟩:=a.env h.1
  obtain⟨e3,e4⟩:=b.env h.2
  exact⟨e3.trans e1,e4.trans e2⟩
 grow:=λx h=>by
  rcases b.grow x h with h|h
  ·exact a.grow x h
  ·exact .inr (a.al x h)
 al:=λx h=>a.al x (b.al x h)
theorem Rel.frameL(R:Rel C io H σ δ fp ex)(S:Stp p H δ fp H' δ' fp')(hc:p=true∨c=true)(hx:∀a,ex' a->ex a∨H a=none) :
  (∀ a (xs:MuO),(c=true->Lf C fp ex a)->Rd H a xs.ho->(c=true->Lf C fp' ex' a)∧Rd H' a xs.ho)∧(∀a (xs:ImO),H a=some xs.ho->H' a=some xs.ho):=by
 have nf:∀a,Foot fp a->∃xs:MuO,H a=some xs.ho:=λa h=>R.foot h
 refine⟨λa xs l q=>⟨λhc'=>?_,?_⟩,λa xs q=>S.keep a _ q (.inr λz=>?_)⟩
 ·obtain⟨l1,l2,l3⟩:=l hc'
  refine⟨λz=>?_,λz=>?_,l3⟩
  ·rcases S.grow a z with z|z
   ·exact l1 z
   ·exact q.some z
  ·rcases hx a z with z|z
   ·exact l2 z
   ·exact q.some z
 ·have hk:p=true∨¬Foot fp a:=by
   rcases hc with h|h
   ·exact .inl h
   ·exact .inr (l h).1
  rcases q with q|⟨o,q⟩
  ·exact .inl (S.keep a _ q hk)
  ·exact .inr ⟨o,S.keep a _ q hk⟩
 ·obtain⟨ys,e⟩:=nf a z
  exact ImO.nm q e
theorem Rel.own_step(R:Rel C io H σ δ fp ex)(S:Stp p H δ fp H' δ' fp')(hc:p=true∨c=true)(hx:∀a,ex' a->ex a∨H a=none)(hn:∀a∈new,ex a)
  (x:Own G H (λa=>c=true->Lf C fp ex a) v r new):Own G H' (λa=>c=true->Lf C fp' ex' a) v r new :=
 x.frame (R.frameL S hc hx).1 (R.frameL S hc hx).2 λa m xs e=>S.keep a _ e (.inr λ⟨i,z⟩=>R.dx i a z (hn a m))
theorem Rel.owns_step(R:Rel C io H σ δ fp ex)(S:Stp p H δ fp H' δ' fp')(hc:p=true∨c=true)(hx:∀a,ex' a->ex a∨H a=none)(hn:∀a∈new,ex a){vs:List V}{rs:List OT}
  (x:Owns G H (λa=>c=true->Lf C fp ex a) vs rs new):Owns G H' (λa=>c=true->Lf C fp' ex' a) vs rs new :=
 x.frame (R.frameL S hc hx).1 (R.frameL S hc hx).2 λa m xs e=>S.keep a _ e (.inr λ⟨i,z⟩=>R.dx i a z (hn a m))
theorem Rel.drop(R:Rel C io H σ δ fp ex)(h:∀a,ex' a->ex a):Rel C io H σ δ fp ex' :=
 ⟨R.len,λi t e=>by
  obtain⟨v,e1,o⟩:=R.own i t e
  exact⟨v,e1,o.wide λa l _=>⟨l.1,λz=>l.2.1 (h a z),l.2.2⟩⟩,R.emp,R.nd,R.dj,λi a m z=>R.dx i a m (h a z),λa z=>R.xa a (h a z),R.fr,R.al,R.new,R.io⟩
theorem Rel.made(R:Rel C io H σ δ fp ex)(s:Same H H')(hn:∀a∈new,H a=none∧H' a≠none):Rel C io H' σ δ fp (λa=>ex a∨a∈new) :=
 ⟨R.len,λi t e=>by
  obtain⟨v,e1,o⟩:=R.own i t e
  refine⟨v,e1,(o.wide λa l q=>⟨l.1,λz=>?_,l.2.2⟩).same s⟩
  rcases z with z|z
  ·exact l.2.1 z
  ·exact q (hn a z).1,R.emp,R.nd,R.dj,λi a m z=>by
   rcases z with z|z
   ·exact R.dx i a m z
   ·exact R.footSome (hn a z).1 ⟨i,m⟩,λa z=>by
   rcases z with z|z
   ·intro q;exact R.xa a z (s.free q)
   ·exact(hn a z).2,λb o e n=>s _ _ (R.fr b o e n),λb q=>R.al b (s.free q),R.new,R.io⟩
end
noncomputable abbrev MEt:=Zi->(OT->Zi->Prop)->Prop
noncomputable abbrev MAt:=Zi->(List OT->Zi->Prop)->Prop
noncomputable abbrev MTt:=Zi->(Bool->Zi->Prop)->Prop
noncomputable abbrev exu(ex:Addr->Prop)(new:List Addr):Addr->Prop:=λa=>ex a∨a∈new
structure RE(C:MC G)(io:List Nat)(p c:Bool)(H:Hp)(σ:St)(δ:Zi)(fp:Fp)(ex:Addr->Prop)(H':Hp)(v:V)(r:OT)(δ':Zi)(fp':Fp)(new:List Addr):Prop where
 rel:Rel C io H' σ δ' fp' (exu ex new)
 stp:Stp p H δ fp H' δ' fp'
 own:Own G H' (λa=>c=true->Lf C fp' (exu ex new) a) v r new
 nd:new.Nodup
 fresh:∀a∈new,H a=none
structure RA(C:MC G)(io:List Nat)(p c:Bool)(H:Hp)(σ:St)(δ:Zi)(fp:Fp)(ex:Addr->Prop)(H':Hp)(v:List V)(r:List OT)(δ':Zi)(fp':Fp)(new:List Addr):Prop where
 rel:Rel C io H' σ δ' fp' (exu ex new)
 stp:Stp p H δ fp H' δ' fp'
 own:Owns G H' (λa=>c=true->Lf C fp' (exu ex new) a) v r new
 nd:new.Nodup
 fresh:∀a∈new,H a=none
noncomputable def SE(G:Xc)(io:List Nat)(p c:Bool)(t:TE)(m:MEt):Prop:=∀(C:MC G) (H:Hp) (σ:St) (δ:Zi) (fp:Fp) (ex:Addr->Prop) (K:OT->Zi->Prop) (Q:VK),Rel C io H σ δ fp ex->m δ K ->
 (∀ H' v r δ' fp' new,RE C io p c H σ δ fp ex H' v r δ' fp' new->K r δ'->Q v H')->t σ H Q
noncomputable def SA(G:Xc)(io:List Nat)(p c:Bool)(t:TA)(m:MAt):Prop:=∀(C:MC G) (H:Hp) (σ:St) (δ:Zi) (fp:Fp) (ex:Addr->Prop) (K:List OT->Zi->Prop) (Q:List V->Hp->Prop),Rel C io H σ δ fp ex->m δ K ->
 (∀ H' v r δ' fp' new,RA C io p c H σ δ fp ex H' v r δ' fp' new->K r δ'->Q v H')->t σ H Q
noncomputable def STt(G:Xc)(io:List Nat)(p:Bool)(t:TT)(m:MTt):Prop:=∀(C:MC G) (H:Hp) (σ:St) (δ:Zi) (fp:Fp) (ex:Addr->Prop) (K:Bool->Zi->Prop) (Q:Bool->Hp->Prop),Rel C io H σ δ fp ex->m δ K ->
 (∀ H' b δ' fp',Rel C io H' σ δ' fp' ex->Stp p H δ fp H' δ' fp'->K b δ'->Q b H')->t σ H Q
noncomputable def ME(X:Cx)(io:List Nat)(p c:Bool)(e:Expr)(m:MEt):Prop:=∃t,PE X e t∧SE X.K io p c t m
noncomputable def MA(X:Cx)(io:List Nat)(p c:Bool)(e:List Expr)(m:MAt):Prop:=∃t,PA X e t∧SA X.K io p c t m
noncomputable def MT(X:Cx)(io:List Nat)(p:Bool)(e:Expr)(m:MTt):Prop:=∃t,PT X e t∧STt X.K io p t m
noncomputable def MW(X:Cx)(io:List Nat)(p:Bool)(e:Expr)(m:MTt):Prop:=∃t,PW X e t∧STt X.K io p t m
section
variable {C:MC G}{io:List Nat}{H H' H'':Hp}{σ:St}{δ δ' δ'':Zi}{fp fp' fp'':Fp}{ex ex':Addr->Prop}{p p' c:Bool}{v:V}{d:Xa}{r:OT}{vs:List V}{rs:List OT}{new:List Addr}
theorem Rel.newOk(R:Rel C io H σ δ fp ex){a:Addr}(h:H a=none):¬Foot fp a∧¬ex a∧C.H₀ a=none:=⟨R.footSome h,λz=>R.xa a z h,R.al a h⟩
theorem RE.da(R:RE C io p c H σ δ fp ex H' v r δ' fp' new)(R0:Rel C io H σ δ fp ex):Da G H' (λa=>c=true->Lf C fp' ex a) v r.data:=by
 refine R.own.da (λa l _ h=>?_) (λa m _=>?_)
 ·exact⟨(l h).1,λz=>(l h).2.1 (.inl z),(l h).2.2⟩
 ·refine⟨λqz9=>?_,(R0.newOk (R.fresh a m)).2.1,.inr (R0.newOk (R.fresh a m)).2.2⟩
  obtain⟨i,z⟩:=qz9
  exact R.rel.dx i a z (.inr m)
theorem RA.das(R:RA C io p c H σ δ fp ex H' vs rs δ' fp' new)(R0:Rel C io H σ δ fp ex):Das G H' (λa=>c=true->Lf C fp' ex a) vs (OT.datas rs):=by
 refine R.own.das (λa l _ h=>?_) (λa m _=>?_)
 ·exact⟨(l h).1,λz=>(l h).2.1 (.inl z),(l h).2.2⟩
 ·refine⟨λqz9=>?_,(R0.newOk (R.fresh a m)).2.1,.inr (R0.newOk (R.fresh a m)).2.2⟩
  obtain⟨i,z⟩:=qz9
  exact R.rel.dx i a z (.inr m)
theorem RE.base(R:RE C io p c H σ δ fp ex H' v r δ' fp' new):Rel C io H' σ δ' fp' ex:=R.rel.drop λa z=>.inl z
theorem RA.base(R:RA C io p c H σ δ fp ex H' vs rs δ' fp' new):Rel C io H' σ δ' fp' ex:=R.rel.drop λa z=>.inl z
theorem Zcu{a:Addr}:exu ex [] a↔ex a:=by simp[exu]
theorem RE.fz(R:Rel C io H' σ δ' fp' ex)(S:Stp p H δ fp H' δ' fp')(h:Da G H' (λa=>c=true->Lf C fp' ex a) v d):RE C io p c H σ δ fp ex H' v (.fz d) δ' fp' [] :=
 ⟨R.drop λa z=>Zcu.mp z,S,.fz (h.wide λa l _ hc=>⟨(l hc).1,λz=>(l hc).2.1 (Zcu.mp z),(l hc).2.2⟩),.nil,λa m=>nomatch m⟩
theorem RE.tree{H1:Hp}(R0:Rel C io H σ δ fp ex)(R:Rel C io H1 σ δ' fp' ex)(S:Stp p H δ fp H1 δ' fp')(s:Same H1 H')(hn:∀a∈new,H1 a=none)(nd:new.Nodup)
  (o:Own G H' (λa=>((c=true->Lf C fp' ex a)∨H1 a=none)∧a∉new) v r new):RE C io p c H σ δ fp ex H' v r δ' fp' new:=by
 refine⟨R.made s λa m=>⟨hn a m,λz=>?_⟩,?_,o.wide λa l q hc=>?_,nd,λa m=>S.al a (hn a m)⟩
 ·obtain⟨xs,e⟩:=o.some a m
  rw[z]at e;cases e
 ·have:=S.trans (p':=true) (Stp.same (p:=true) (δ:=δ') (fp:=fp') s s.al)
  rwa[Bool.and_true]at this
 ·rcases l.1 with l1|l1
  ·exact⟨(l1 hc).1,λz=>z.elim (l1 hc).2.1 l.2,(l1 hc).2.2⟩
  ·exact⟨R.footSome l1,λz=>z.elim (λz=>R.xa a z l1) l.2,.inr (R.al a l1)⟩
end
inductive ScD:V->Xa->Prop where
 | non:ScD .non .none
 | bl (b:Bool):ScD (.bl b) (.bool b)
 | int (i:Int):ScD (.int i) (.int i)
 | str (x:Str):ScD (.str x) (.str x)
theorem ScD.da{H:Hp}{L:Addr->Prop}{v:V}{d:Xa}(h:ScD v d):Da G H L v d:=by
 cases h
 ·exact .non
 ·exact .bl _
 ·exact .int _
 ·exact .str _
section
variable {X:Cx}{io:List Nat}{p p' c c':Bool}{e a b:Expr}{m ma mb:MEt}{es:List Expr}
noncomputable def Z73(i:Nat):MEt:=λδ K=>match δ[i]? with|some (some (.fz d))=>K (.fz d) δ|_=>False
noncomputable def Z8c(i:Nat):MEt:=λδ K=>match δ[i]? with|some (some t)=>K (.fz t.data) δ|_=>False
noncomputable def mC(d:Xa):MEt:=λδ K=>K (.fz d) δ
theorem mv(i:Nat){x:Str}{pos:Pos}(hN:X.N[i]? =some x:=by rfl)(hv:Vis X.env.scope x:=by first|exact QH rfl|exact Qx (QH rfl)|exact Qx (Qx rfl))(hd:(x==("__debug__" : Str))=false:=by decide)
  (hcd:(x==("__classdict__" : Str))=false:=by decide):ME X io true true (.Name x pos) (Z73 i):=by
 refine⟨_,pv i hN hv hd hcd,λC H σ δ fp ex K Q R h k=>?_⟩
 unfold Z73 at h
 split at h
 ·rename_i d hd
  obtain⟨v,e,o⟩:=R.own i _ hd
  refine⟨v,e,k H v _ δ fp [] (.fz R (.refl _ _ _ _) ?_) h⟩
  generalize fp i=as at o
  cases o with
  | fz q=>exact q.wide λa l _ _=>l
 ·exact h.elim
theorem mo(i:Nat){x:Str}{pos:Pos}(hN:X.N[i]? =some x:=by rfl)(hv:Vis X.env.scope x:=by first|exact QH rfl|exact Qx (QH rfl)|exact Qx (Qx rfl))(hd:(x==("__debug__" : Str))=false:=by decide)
  (hcd:(x==("__classdict__" : Str))=false:=by decide):ME X io true false (.Name x pos) (Z8c i):=by
 refine⟨_,pv i hN hv hd hcd,λC H σ δ fp ex K Q R h k=>?_⟩
 unfold Z8c at h
 split at h
 ·rename_i d hd
  obtain⟨v,e,o⟩:=R.own i _ hd
  exact⟨v,e,k H v _ δ fp [] (.fz R (.refl _ _ _ _) (o.da (λa _ _ z=>(nomatch z)) λa _ z=>(nomatch z))) h⟩
 ·exact h.elim
theorem Zj7{t:V}{d:Xa}(h:PE X e (tC t))(s:ScD t d):ME X io true true e (mC d) :=
 ⟨_,h,λC H σ δ fp ex K Q R h k=>k H t _ δ fp [] (.fz R (.refl _ _ _ _) s.da) h⟩
theorem Zi6{i j pos}:ME X io true true (.Constant (.int i) j pos) (mC (.int i)):=Zj7 Z39 (.int i)
theorem Zbo{b j pos}:ME X io true true (.Constant (.bool b) j pos) (mC (.bool b)):=Zj7 Z8k (.bl b)
theorem Zom{j pos}:ME X io true true (.Constant .none j pos) (mC .none):=Zj7 Z33 .non
theorem Zlw{x j pos}:ME X io true true (.Constant (.str x) j pos) (mC (.str x)):=Zj7 Z4f (.str x)
theorem SE.two{ta tb:TE}(ha:SE G io p c ta ma)(hb:SE G io p' c' tb mb)(hc:p'=true∨c=true){C:MC G}{H:Hp}{σ:St}{δ:Zi}{fp:Fp}{ex:Addr->Prop}{K:OT->OT->Zi->Prop}{Q:V->V->Hp->Prop}
  (R:Rel C io H σ δ fp ex) (h:ma δ λx δ1=>mb δ1 λy δ2=>K x y δ2)
  (k:∀H' x y u v δ' fp',Rel C io H' σ δ' fp' ex->Stp (p&&p') H δ fp H' δ' fp'->Da G H' (λa=>(c&&c')=true->Lf C fp' ex a) x u.data->Da G H' (λa=>(c&&c')=true->Lf C fp' ex a) y v.data->K u v δ'->Q x y H') :
  ta σ H λx H1=>tb σ H1 λy H2=>Q x y H2:=by
 refine ha C H σ δ fp ex _ _ R h λH1 x u δ1 fp1 new1 r1 h1=>?_
 refine hb C H1 σ δ1 fp1 (exu ex new1) _ _ r1.rel h1 λH2 y v δ2 fp2 new2 r2 h2=>?_
 have o1:=r1.rel.own_step (ex':=exu (exu ex new1) new2) r2.stp (c:=c) hc (λa z=>z.imp id λz=>r2.fresh a z) (λa m=>.inr m) r1.own
 have R2:Rel C io H2 σ δ2 fp2 ex:=r2.rel.drop λa z=>.inl (.inl z)
 have q1:Da G H2 (λa=>c=true->Lf C fp2 ex a) x u.data:=by
  refine o1.da (λa l _ z=>?_) (λa m z=>?_)
  ·exact⟨(l z).1,λw=>(l z).2.1 (.inl (.inl w)),(l z).2.2⟩
  ·have:=R.newOk (r1.fresh a m)
   refine⟨λqz9=>?_,this.2.1,.inr this.2.2⟩
   obtain⟨i,w⟩:=qz9
   exact r2.rel.dx i a w (.inl (.inr m))
 have q2:=r2.da r1.rel
 refine k H2 x y u v δ2 fp2 R2 (r1.stp.trans r2.stp) (q1.wide λa l _ z=>l (by rw[XQ]at z;exact z.1)) (q2.wide λa l _ z=>?_) h2
 have l:=l (by rw[XQ]at z;exact z.2)
 exact⟨l.1,λw=>l.2.1 (.inl w),l.2.2⟩
noncomputable def P2s(G:Xc)(r:R2)(rp:Xa->Xa->(Xa->Prop)->Prop):Prop:=∀(H:Hp) (L:Addr->Prop) (x y:V) (d e:Xa) (k:Xa->Prop) (Q:VK),Da G H L x d->Da G H L y e->rp d e k->(∀v d',ScD v d'->k d'->Q v H)->r x y H Q
noncomputable def P2(G:Xc)(r:R2)(rp:Xa->Xa->(OT->Prop)->Prop):Prop:=∀(H:Hp) (L:Addr->Prop) (x y:V) (d e:Xa) (k:OT->Prop) (Q:VK),Da G H L x d->Da G H L y e->rp d e k ->
 (∀ H' v o new,Same H H'->Own G H' (λa=>(L a∨H a=none)∧a∉new) v o new->new.Nodup->(∀a∈new,H a=none)->k o->Q v H')->r x y H Q
noncomputable def Zns(rp:Xa->Xa->(Xa->Prop)->Prop)(ma mb:MEt):MEt:=λδ K=>ma δ λx δ1=>mb δ1 λy δ2=>rp x.data y.data λd=>K (.fz d) δ2
noncomputable def Z7w(rp:Xa->Xa->(OT->Prop)->Prop)(ma mb:MEt):MEt:=λδ K=>ma δ λx δ1=>mb δ1 λy δ2=>rp x.data y.data λd=>K d δ2
theorem Z17{r:R2}{rp}{ta tb:TE}(P:P2s G r rp)(ha:SE G io p c ta ma)(hb:SE G io p' c' tb mb)(hc:p'=true∨c=true):SE G io (p&&p') true (tOp r ta tb) (Zns rp ma mb):=by
 intro C H σ δ fp ex K Q R h k
 refine SE.two (K:=λx y δ2=>rp x.data y.data λd=>K (.fz d) δ2) (Q:=λx y H2=>r x y H2 Q) ha hb hc R h λH' x y u v δ' fp' R' S q1 q2 h'=>?_
 exact P H' _ x y _ _ _ _ q1 q2 h' λw d' sc h''=>k H' w _ δ' fp' [] (.fz R' S sc.da) h''
theorem Ybm{r:R2}{rp}{ta tb:TE}(P:P2 G r rp)(ha:SE G io p c ta ma)(hb:SE G io p' c' tb mb)(hc:p'=true∨c=true):SE G io (p&&p') (c&&c') (tOp r ta tb) (Z7w rp ma mb):=by
 intro C H σ δ fp ex K Q R h k
 refine SE.two (K:=λx y δ2=>rp x.data y.data λd=>K d δ2) (Q:=λx y H2=>r x y H2 Q) ha hb hc R h λH' x y u v δ' fp' R' S q1 q2 h'=>?_
 exact P H' _ x y _ _ _ _ q1 q2 h' λH2 w o new s ow nd hn h''=>k H2 w o δ' fp' new (RE.tree R R' S s hn nd ow) h''
theorem Zmr{op:Operator}{r:R2}{rp}{pos:Pos}(ho:OpR X (Ug op) r)(P:P2s X.K r rp)(ha:ME X io p c a ma)(hb:ME X io p' c' b mb)(hc:p'=true∨c=true:=by first|exact QH rfl|exact Qx rfl):ME X io (p&&p') true (.BinOp a op b pos) (Zns rp ma mb):=by
 obtain⟨_,A,sa⟩:=ha
 obtain⟨_,B,sb⟩:=hb
 exact⟨_,Z06 ho A B,Z17 P sa sb hc⟩
theorem Z7l{op:Operator}{r:R2}{rp}{pos:Pos}(ho:OpR X (Ug op) r)(P:P2 X.K r rp)(ha:ME X io p c a ma)(hb:ME X io p' c' b mb)(hc:p'=true∨c=true:=by first|exact QH rfl|exact Qx rfl):ME X io (p&&p') (c&&c') (.BinOp a op b pos) (Z7w rp ma mb):=by
 obtain⟨_,A,sa⟩:=ha
 obtain⟨_,B,sb⟩:=hb
 exact⟨_,Z06 ho A B,Ybm P sa sb hc⟩
theorem Zid{op:CmpOp}{r:R2}{rp}{pos:Pos}(ho:OpR X (BK op) r)(P:P2s X.K r rp)(ha:ME X io p c a ma)(hb:ME X io p' c' b mb)(hc:p'=true∨c=true:=by first|exact QH rfl|exact Qx rfl)(hm:U0 op b=false):ME X io (p&&p') true (.Compare a [op] [b] pos) (Zns rp ma mb):=by
 obtain⟨_,A,sa⟩:=ha
 obtain⟨_,B,sb⟩:=hb
 exact⟨_,Z2b ho A B hm,Z17 P sa sb hc⟩
theorem Z84{r:R2}{rp}{pos:Pos}(ho:IxR X r)(P:P2 X.K r rp)(ha:ME X io p c a ma)(hb:ME X io p' c' b mb)(hc:p'=true∨c=true:=by first|exact QH rfl|exact Qx rfl)(hs:Zjw b):ME X io (p&&p') (c&&c') (.Subscript a b pos) (Z7w rp ma mb):=by
 obtain⟨_,A,sa⟩:=ha
 obtain⟨_,B,sb⟩:=hb
 exact⟨_,Z6s ho A B hs,Ybm P sa sb hc⟩
noncomputable def kB(K:Bool->Zi->Prop):OT->Zi->Prop:=λo δ=>match o with| .fz (.bool b)=>K b δ|_=>False
theorem Yax{t:TE}(h:SE G io p c t m):STt G io p (Z5u t) (λδ K=>m δ (kB K)):=by
 intro C H σ δ fp ex K Q R h' k
 refine h C H σ δ fp ex _ _ R h' λH' v r δ' fp' new r1 h1=>?_
 cases r with
 | nd ts=>exact h1.elim
 | tp ts=>exact h1.elim
 | dc _ _ _=>exact h1.elim
 | fz d=>
  cases d with
  | bool b=>
   cases r1.own with
   | fz q=>
    cases q
    exact⟨b,rfl,k H' b δ' fp' r1.base r1.stp h1⟩
  | _=>exact h1.elim
theorem Za1{op:CmpOp}{r:R2}{rp}{pos:Pos}(ho:OpR X (BK op) r)(P:P2s X.K r rp)(ha:ME X io p c a ma)(hb:ME X io p' c' b mb)(hc:p'=true∨c=true:=by first|exact QH rfl|exact Qx rfl)(hm:U0 op b=false) :
  MT X io (p&&p') (.Compare a [op] [b] pos) (λδ K=>Zns rp ma mb δ (kB K)):=by
 obtain⟨_,A,sa⟩:=ha
 obtain⟨_,B,sb⟩:=hb
 exact⟨_,Z2i ho A B hm,Yax (Z17 P sa sb hc)⟩
end
variable {G:Xc}
section
variable {X:Cx}{io:List Nat}{p p' p'' c c':Bool}{e a b:Expr}{m ma mb:MEt}{es rest:List Expr}{ta tb:MTt}{pos:Pos}
noncomputable def Yc4(t:MTt):MTt:=λδ K=>t δ λb δ'=>K (!b) δ'
noncomputable def Ybh(t u:MTt):MTt:=λδ K=>t δ λb δ'=>if b=true then u δ' K else K false δ'
noncomputable def mOr(t u:MTt):MTt:=λδ K=>t δ λb δ'=>if b=true then K true δ' else u δ' K
theorem Zxy(h:MT X io p a ta):MT X io p (.UnaryOp .Not a pos) (Yc4 ta):=by
 obtain⟨_,A,sa⟩:=h
 exact⟨_,Z56 A,λC H σ δ fp ex K Q R h k=>sa C H σ δ fp ex _ _ R h λH' b δ' fp' R' S h'=>k H' (!b) δ' fp' R' S h'⟩
theorem Zj0(h:MT X io p a ta):MW X io p (.BoolOp .And [a] pos) ta:=by
 obtain⟨_,A,sa⟩:=h
 exact⟨_,Z1r A,sa⟩
theorem Zde(h:MT X io p a ta):MW X io p (.BoolOp .Or [a] pos) ta:=by
 obtain⟨_,A,sa⟩:=h
 exact⟨_,Z5g A,sa⟩
theorem Stp.andL{H H':Hp}{δ δ':Zi}{fp fp':Fp}(S:Stp p H δ fp H' δ' fp'):Stp (p&&p') H δ fp H' δ' fp':=by
 have:=S.trans (Stp.refl p' H' δ' fp')
 exact this
theorem Zol(h:MT X io p a ta)(g:MW X io p' (.BoolOp .And (b :: rest) pos) tb):MW X io (p&&p') (.BoolOp .And (a :: b :: rest) pos) (Ybh ta tb):=by
 obtain⟨_,A,sa⟩:=h
 obtain⟨_,B,sb⟩:=g
 exact⟨_,Z50 A B,λC H σ δ fp ex K Q R h k=>sa C H σ δ fp ex _ _ R h λH' b δ' fp' R' S h'=>by
  cases b with
  | true=>
   rw[if_pos rfl]at h'⊢
   exact sb C H' σ δ' fp' ex _ _ R' h' λH2 b2 δ2 fp2 R2 S2 h2=>k H2 b2 δ2 fp2 R2 (S.trans S2) h2
  | false=>
   rw[if_neg Xm]at h'⊢
   exact k H' false δ' fp' R' S.andL h'⟩
theorem Zch(h:MT X io p a ta)(g:MW X io p' (.BoolOp .Or (b :: rest) pos) tb):MW X io (p&&p') (.BoolOp .Or (a :: b :: rest) pos) (mOr ta tb):=by
 obtain⟨_,A,sa⟩:=h
 obtain⟨_,B,sb⟩:=g
 exact⟨_,Z9o A B,λC H σ δ fp ex K Q R h k=>sa C H σ δ fp ex _ _ R h λH' b δ' fp' R' S h'=>by
  cases b with
  | true=>
   rw[if_pos rfl]at h'⊢
   exact k H' true δ' fp' R' S.andL h'
  | false=>
   rw[if_neg Xm]at h'⊢
   exact sb C H' σ δ' fp' ex _ _ R' h' λH2 b2 δ2 fp2 R2 S2 h2=>k H2 b2 δ2 fp2 R2 (S.trans S2) h2⟩
theorem MW.mt(h:MW X io p e ta):MT X io p e ta:=by
 obtain⟨_,A,sa⟩:=h
 exact⟨_,A.pt,sa⟩
noncomputable def Zxg:Xa->Option Bool
 | .none=>some false
 | .bool b=>some b
 | .int i=>some (i !=0)
 | .list ds=>some (!ds.isEmpty)
 | .tuple ds=>some (!ds.isEmpty)
 | _=>none
noncomputable def Ycy(m:MEt):MTt:=λδ K=>m δ λr δ'=>match Zxg r.data with|some b=>K b δ'|none=>False
theorem Das.isEmpty{H:Hp}{L:Addr->Prop}{xs:List V}{ds:List Xa}(h:Das G H L xs ds):xs.isEmpty=ds.isEmpty:=by cases h<;>rfl
theorem W8(ha:ME X io p c a ma)(he:∀whole,isTrue a X.env whole=(do let v←whole;standAt a.pos;holding [v] (truthy v))):MT X io p a (Ycy ma):=by
 obtain⟨_,A,sa⟩:=ha
 exact⟨_,Z2e rfl A he,λC H σ δ fp ex K' Q R h k=>sa C H σ δ fp ex _ _ R h λH' v r δ' fp' new r1 h1=>by
  have q:=r1.da R
  generalize r.data=d at q h1
  cases q with
  | non=>exact⟨_,rfl,k H' _ δ' fp' r1.base r1.stp h1⟩
  | bl b=>exact⟨_,rfl,k H' _ δ' fp' r1.base r1.stp h1⟩
  | int b=>exact⟨_,rfl,k H' _ δ' fp' r1.base r1.stp h1⟩
  | str x=>exact h1.elim
  | lst _ e q=>exact⟨_,.inl ⟨_,.inl e,rfl⟩,k H' _ δ' fp' r1.base r1.stp (by rw[q.isEmpty];exact h1)⟩
  | tup e q=>exact⟨_,.inr (.inl ⟨_,.inl (.inl e),rfl⟩),k H' _ δ' fp' r1.base r1.stp (by rw[q.isEmpty];exact h1)⟩
  | scr q=>exact⟨_,.inl ⟨_,q.sq,rfl⟩,k H' _ δ' fp' r1.base r1.stp (by simpa [Zxg]using h1)⟩
  | exc _ _ _=>exact h1.elim
  | fn _=>exact h1.elim
  | dic _ _ _ _=>exact h1.elim⟩
noncomputable def asB(d:Xa)(k:Bool->Prop):Prop:=match d with| .bool b=>k b|_=>False
noncomputable def Z3d(a b:MEt):MEt:=λδ K=>a δ λx δ1=>asB x.data λc=>if c=true then b δ1 K else K (.fz (.bool false)) δ1
noncomputable def Z47(a:MEt):MEt:=λδ K=>a δ λx δ1=>asB x.data λc=>K (.fz (.bool (!c))) δ1
noncomputable def mIf(t:MTt)(a b:MEt):MEt:=λδ K=>t δ λc δ1=>if c=true then a δ1 K else b δ1 K
theorem Da.boolInv{H:Hp}{L:Addr->Prop}{v:V}{d:Xa}{k:Bool->Prop}(q:Da G H L v d)(h:asB d k):∃b,v= .bl b∧k b:=by
 cases q with
 | bl b=>exact⟨b,rfl,h⟩
 | _=>exact h.elim
theorem RE.step{C:MC G}{H H1 H2:Hp}{σ:St}{δ δ1 δ2:Zi}{fp fp1 fp2:Fp}{ex:Addr->Prop}{v:V}{r:OT}{new:List Addr}(S:Stp p H δ fp H1 δ1 fp1)(R:RE C io p' c H1 σ δ1 fp1 ex H2 v r δ2 fp2 new) :
  RE C io (p&&p') c H σ δ fp ex H2 v r δ2 fp2 new:=⟨R.rel,S.trans R.stp,R.own,R.nd,λa m=>S.al a (R.fresh a m)⟩
theorem Zul{op}(h:ME X io p c a ma):ME X io p c (.BoolOp op [a] pos) ma:=by
 obtain⟨_,A,sa⟩:=h
 exact⟨_,Z37 A,sa⟩
theorem Zm9(ha:ME X io p c a ma)(hb:ME X io p' c' (.BoolOp .And (b :: rest) pos) mb):ME X io (p&&p') c' (.BoolOp .And (a :: b :: rest) pos) (Z3d ma mb):=by
 obtain⟨_,A,sa⟩:=ha
 obtain⟨_,B,sb⟩:=hb
 exact⟨_,Z67 A B,λC H σ δ fp ex K Q R h k=>sa C H σ δ fp ex _ _ R h λH' v r δ' fp' new r1 h1=>by
  obtain⟨b,rfl,h1⟩:=(r1.da R).boolInv h1
  refine⟨b,rfl,?_⟩
  cases b with
  | true=>
   rw[if_pos rfl]at h1⊢
   exact sb C H' σ δ' fp' ex _ _ r1.base h1 λH2 w r2 δ2 fp2 new2 R2 h2=>k H2 w r2 δ2 fp2 new2 (R2.step r1.stp) h2
  | false=>
   rw[if_neg Xm]at h1⊢
   exact k H' _ _ δ' fp' [] (RE.fz r1.base r1.stp.andL (.bl false)) h1⟩
theorem Z49(ha:ME X io p c a ma):ME X io p true (.UnaryOp .Not a pos) (Z47 ma):=by
 obtain⟨_,A,sa⟩:=ha
 exact⟨_,Z34 A,λC H σ δ fp ex K Q R h k=>sa C H σ δ fp ex _ _ R h λH' v r δ' fp' new r1 h1=>by
  obtain⟨b,rfl,h1⟩:=(r1.da R).boolInv h1
  exact⟨b,rfl,k H' _ _ δ' fp' [] (RE.fz r1.base r1.stp (.bl _)) h1⟩⟩
theorem Stp.cast{p p':Bool}{H H':Hp}{δ δ':Zi}{fp fp':Fp}(h:p'=true->p=true)(S:Stp p H δ fp H' δ' fp'):Stp p' H δ fp H' δ' fp' :=
 ⟨λb o e q=>S.keep b o e (q.imp h id),λq=>S.env (h q),S.grow,S.al⟩
theorem RE.cast{C:MC G}{H H1:Hp}{σ:St}{δ δ1:Zi}{fp fp1:Fp}{ex:Addr->Prop}{v:V}{r:OT}{new:List Addr}(hp:p'=true->p=true)(hc:c'=true->c=true)(R:RE C io p c H σ δ fp ex H1 v r δ1 fp1 new) :
  RE C io p' c' H σ δ fp ex H1 v r δ1 fp1 new:=⟨R.rel,R.stp.cast hp,R.own.wide λa l _ z=>l (hc z),R.nd,R.fresh⟩
theorem Ydt{t:Expr}(ht:MT X io p t ta)(ha:ME X io p' c a ma)(hb:ME X io p'' c' b mb):ME X io (p&&(p'&&p'')) (c&&c') (.IfExp t a b pos) (mIf ta ma mb):=by
 obtain⟨_,T,st⟩:=ht
 obtain⟨_,A,sa⟩:=ha
 obtain⟨_,B,sb⟩:=hb
 exact⟨_,Zxk T A B,λC H σ δ fp ex K Q R h k=>st C H σ δ fp ex _ _ R h λH' b δ' fp' R' S h'=>by
  cases b with
  | true=>
   rw[if_pos rfl]at h'⊢
   exact sa C H' σ δ' fp' ex _ _ R' h' λH2 w r2 δ2 fp2 new2 R2 h2=>k H2 w r2 δ2 fp2 new2 ((R2.step S).cast (λz=>by simp at z;simp[z]) (λz=>by simp at z;exact z.1)) h2
  | false=>
   rw[if_neg Xm]at h'⊢
   exact sb C H' σ δ' fp' ex _ _ R' h' λH2 w r2 δ2 fp2 new2 R2 h2=>k H2 w r2 δ2 fp2 new2 ((R2.step S).cast (λz=>by simp at z;simp[z]) (λz=>by simp at z;exact z.2)) h2⟩
end
section
variable {X:Cx}{io:List Nat}{p p' p'' c c':Bool}{e a b:Expr}{m ma mb:MEt}{es rest:List Expr}{mr:MAt}{pos:Pos}
noncomputable def Ybc:MAt:=λδ K=>K [] δ
noncomputable def Z4d(m:MEt)(mr:MAt):MAt:=λδ K=>m δ λr δ1=>mr δ1 λrs δ2=>K (r :: rs) δ2
theorem Za7:MA X io true true [] Ybc:=⟨_,Zgg,λC H σ δ fp ex K Q R h k=>k H [] [] δ fp [] ⟨R.drop λa z=>Zcu.mp z,.refl _ _ _ _,.nil,.nil,λa m=>nomatch m⟩ h⟩
theorem Z02(ha:ME X io p c e m)(hr:MA X io p' c' es mr)(hc:p'=true∨c=true)(hs:Xp (e :: es) X.env=(false,eval e X.env) :: Xp es X.env:=by rfl):MA X io (p&&p') (c&&c') (e :: es) (Z4d m mr):=by
 obtain⟨tA,A,sa⟩:=ha
 obtain⟨tB,B,sb⟩:=hr
 refine⟨_,Zb3 A B hs,λC H σ δ fp ex K Q R h k=>?_⟩
 refine sa C H σ δ fp ex _ _ R h λH1 x u δ1 fp1 new1 r1 h1=>?_
 refine sb C H1 σ δ1 fp1 (exu ex new1) _ _ r1.rel h1 λH2 ys us δ2 fp2 new2 r2 h2=>?_
 have o1:=r1.rel.own_step (ex':=exu (exu ex new1) new2) r2.stp (c:=c) hc (λa z=>z.imp id λz=>r2.fresh a z) (λa m=>.inr m) r1.own
 have eqx:∀a,exu ex (new1 ++ new2) a->exu (exu ex new1) new2 a:=λa z=>by
  rcases z with z|z
  ·exact .inl (.inl z)
  ·rcases QW.mp z with z|z
   ·exact .inl (.inr z)
   ·exact .inr z
 refine k H2 (x :: ys) (u :: us) δ2 fp2 (new1 ++ new2) ⟨r2.rel.drop eqx,r1.stp.trans r2.stp,.cons (o1.wide λa l _ z=>?_) (r2.own.wide λa l _ z=>?_),?_,?_⟩ h2
 ·have l:=l (by rw[XQ]at z;exact z.1)
  exact⟨l.1,λw=>l.2.1 (eqx a w),l.2.2⟩
 ·have l:=l (by rw[XQ]at z;exact z.2)
  exact⟨l.1,λw=>l.2.1 (eqx a w),l.2.2⟩
 ·refine Vi.mpr ⟨r1.nd,r2.nd,λa m b m' z=>?_⟩
  subst z
  obtain⟨xs,e⟩:=r1.own.some a m
  rw[r2.fresh a m']at e
  cases e
 ·intro a m
  rcases QW.mp m with m|m
  ·exact r1.fresh a m
  ·exact r1.stp.al a (r2.fresh a m)
noncomputable def Ycu(m:MAt):MEt:=λδ K=>m δ λrs δ'=>rs.length≤Xx∧K (.fz (.tuple (OT.datas rs))) δ'
noncomputable def Yct(m:MAt):MEt:=λδ K=>m δ λrs δ'=>rs.length≤Xx∧K (.nd rs) δ'
theorem Z9u{x1}(h:MA X io p c es mr):ME X io p c (.Tuple es x1 pos) (Ycu mr):=by
 obtain⟨tA,A,sa⟩:=h
 refine⟨_,Z7r A,λC H σ δ fp ex K Q R h k=>?_⟩
 refine sa C H σ δ fp ex _ _ R h λH1 vs rs δ1 fp1 new1 r1 h1=>⟨by rw[r1.own.length];exact h1.1,λq hq=>?_⟩
 have s:=Yd hq (.tup vs)
 have R1:=r1.base
 have S:=r1.stp.trans (p':=true) (Stp.same (p:=true) (δ:=δ1) (fp:=fp1) s s.al)
 rw[Bool.and_true]at S
 refine k _ _ _ δ1 fp1 [] (.fz ?_ S (.tup Yl ((r1.das R).same s))) h1.2
 exact(R1.made (new:=[]) s λa m=>nomatch m).drop λa z=>.inl z
theorem Z1h(h:MA X io p c es mr):ME X io p c (.List es pos) (Yct mr):=by
 obtain⟨tA,A,sa⟩:=h
 refine⟨_,Zy6 A,λC H σ δ fp ex K Q R h k=>?_⟩
 refine sa C H σ δ fp ex _ _ R h λH1 vs rs δ1 fp1 new1 r1 h1=>⟨by rw[r1.own.length];exact h1.1,λq hq=>?_⟩
 have s:=Yd hq (.lst vs)
 have S:=r1.stp.trans (p':=true) (Stp.same (p:=true) (δ:=δ1) (fp:=fp1) s s.al)
 rw[Bool.and_true]at S
 have hqn:q∉new1:=λm=>by
  obtain⟨xs,e⟩:=r1.own.some q m
  rw[hq]at e;cases e
 have R2:=(r1.rel.made (new:=[q]) s λa m=>by
  rcases XD.mp m with rfl
  exact⟨hq,by rw[Yl];intro z;cases z⟩)
 have eqx:∀a,exu ex (q :: new1) a->exu (exu ex new1) [q] a:=λa z=>by
  rcases z with z|z
  ·exact .inl (.inl z)
  ·rcases Xq.mp z with z|z
   ·exact .inr (XD.mpr z)
   ·exact .inl (.inr z)
 refine k _ _ _ δ1 fp1 (q :: new1) ⟨R2.drop eqx,S,.nd Yl ((r1.own.wide λa l w z=>?_).same s),Qp.mpr ⟨hqn,r1.nd⟩,λa m=>?_⟩ h1.2
 ·have l:=l z
  refine⟨l.1,λy=>?_,l.2.2⟩
  rcases eqx a y with y|y
  ·exact l.2.1 y
  ·rcases XD.mp y with rfl
   exact w hq
 ·rcases Xq.mp m with rfl|m
  ·exact r1.stp.al _ hq
  ·exact r1.fresh a m
end
variable {G:Xc}
noncomputable def spD(G:Xc)(S:List Xa->(OT->Prop)->Prop):Sp:=λvs H Q _=>∃L ds k,Das G H L vs ds∧S ds k∧
 ∀r v H' new,k r->Same H H'->Own G H' (λa=>(L a∨H a=none)∧a∉new) v r new->new.Nodup->(∀a∈new,H a=none)->Q v H'
section
variable {X:Cx}{io:List Nat}{p p' p'' c c':Bool}{e a b:Expr}{m ma mb:MEt}{es rest:List Expr}{mr:MAt}{pos:Pos}
variable {CX:CXT}{k:Nat}{f:Addr}{fd:XR}{ps:List Str}{E:XK}{x:Str}{pp:Pos}
noncomputable def Zza(S:List Xa->(OT->Prop)->Prop)(mr:MAt):MEt:=λδ K=>mr δ λrs δ1=>S (OT.datas rs) λr=>K r δ1
theorem Z9z{S}{t:TA}(sa:SA G io p c t mr):SE G io p c (Z4x (spD G S) [] E t) (Zza S mr):=by
 intro C H σ δ fp ex K Q R h kk
 refine sa C H σ δ fp ex _ _ R h λH1 vs rs δ1 fp1 new1 r1 h1=>?_
 rw[Q5]
 refine⟨_,_,_,r1.das R,h1,λr v H' new kr s o nd hn=>?_⟩
 exact kk H' v r δ1 fp1 new (RE.tree R r1.base r1.stp s hn nd o) kr
theorem Zmg{S}(F:FnOk X.prog X.w X.K X.mg X.base CX k f fd ps (spD X.K S))(hr:Room k X.A)(hg:Gl X x)(hm:X.mg x=some (.ref f))(hk:Vy X.K (.ref f)=true)(hb:Binds X.K fd ps [])(hx:Zpp CX X E)
  (ha:MA X io p c (e :: es) mr) (hdb:(x==("__debug__" : Str))=false:=by decide) (he:Xp (e :: es) X.env=(false,eval e X.env) :: Xp es X.env:=by rfl) (hpl:(JM pos (Xp es X.env)).any (·.1)=false:=by rfl) :
  ME X io p c (.Call (.Name x pp) (e :: es) [] pos) (Zza S mr):=by
 obtain⟨_,A,sa⟩:=ha
 exact⟨_,Z22 F hr hg hm hk hb .nil hx A hdb he hpl,Z9z sa⟩
noncomputable def fpu(fp:Fp)(i:Nat)(as:List Addr):Fp:=λj=>if j=i then as else fp j
theorem Yk{fp:Fp}{i:Nat}{as:List Addr}:fpu fp i as i=as:=if_pos rfl
theorem Wf{fp:Fp}{i j:Nat}{as:List Addr}(h:j≠i):fpu fp i as j=fp j:=if_neg h
theorem Foot.of_u{fp:Fp}{i:Nat}{as:List Addr}{a:Addr}(h:Foot (fpu fp i as) a):a∈as∨∃j,j≠i∧a∈fp j:=by
 obtain⟨j,h⟩:=h
 by_cases e:j=i
 ·subst e;rw[Yk]at h;exact .inl h
 ·rw[Wf e]at h;exact .inr ⟨j,e,h⟩
theorem Rel.change{C:MC G}{H H':Hp}{σ:St}{δ:Zi}{fp:Fp}{ex:Addr->Prop}{i:Nat}{t t':OT}{v:V}{as' new:List Addr}(R:Rel C io H σ δ fp ex)(hi:δ[i]? =some (some t))(hv:σ[i]? =some (some v))
  (keep:∀b o,H b=some o->b∉fp i->H' b=some o) (al:∀b,H' b=none->H b=none) (o:Own G H' (Lf C (fpu fp i as') (exu ex new)) v t' as') (nd:as'.Nodup) (new':∀a∈as',a∈fp i∨H a=none)
  (hn:∀a∈new,H a=none∧H' a≠none∧a∉as') :
  Rel C io H' σ (δ.set i (some t')) (fpu fp i as') (exu ex new)∧Stp false H δ fp H' (δ.set i (some t')) (fpu fp i as'):=by
 have hil:i<δ.length:=(Xn.mp hi).1
 have apart:∀j a,j≠i->a∈fp j->a∉as':=λj a e m z=>by
  rcases new' a z with z|z
  ·exact e (R.dj j i a m z)
  ·exact R.footSome z ⟨j,m⟩
 constructor
 ·refine⟨by rw[Vf];exact R.len,λj t'' e=>?_,λj h=>?_,λj=>?_,λj k a h1 h2=>?_,λj a h z=>?_,λa z w=>z.elim (λz=>R.xa a z (al a w)) (λz=>(hn a z).2.1 w),λb ob e n=>?_,λb z=>R.al b (al b z),λj a h=>?_,R.io⟩
  ·by_cases ej:j=i
   ·subst ej
    rw[Q3 hil]at e
    cases e
    exact⟨v,hv,by rw[Yk];exact o⟩
   ·rw[Qz (Vs ej)]at e
    obtain⟨w,e1,o1⟩:=R.own j t'' e
    refine⟨w,e1,?_⟩
    rw[Wf ej]
    refine o1.frame (λa xs l q=>?_) (λa xs q=>keep a _ q λz=>?_) λa m xs q=>keep a _ q λz=>ej (R.dj j i a m z)
    ·have na:a∉fp i:=λz=>l.1 ⟨i,z⟩
     refine⟨⟨λz=>?_,λz=>z.elim l.2.1 λz=>q.some (hn a z).1,l.2.2⟩,?_⟩
     ·rcases z.of_u with z|⟨k,_,z⟩
      ·rcases new' a z with z|z
       ·exact na z
       ·exact q.some z
      ·exact l.1 ⟨k,z⟩
     ·rcases q with q|⟨u,q⟩
      ·exact .inl (keep a _ q na)
      ·exact .inr ⟨u,keep a _ q na⟩
    ·obtain⟨ys,e⟩:=R.foot ⟨i,z⟩
     exact ImO.nm q e
  ·by_cases ej:j=i
   ·subst ej
    exact absurd (Q3 hil) (h t')
   ·rw[Wf ej]
    refine R.emp j λt'' z=>h t'' ?_
    rw[Qz (Vs ej)]
    exact z
  ·by_cases ej:j=i
   ·subst ej;rw[Yk];exact nd
   ·rw[Wf ej];exact R.nd j
  ·by_cases ej:j=i
   ·subst ej
    rw[Yk]at h1
    by_cases ek:k=j
    ·exact ek.symm
    ·rw[Wf ek]at h2
     exact absurd h1 (apart k a ek h2)
   ·rw[Wf ej]at h1
    by_cases ek:k=i
    ·subst ek
     rw[Yk]at h2
     exact absurd h2 (apart j a ej h1)
    ·rw[Wf ek]at h2
     exact R.dj j k a h1 h2
  ·by_cases ej:j=i
   ·subst ej
    rw[Yk]at h
    rcases z with z|z
    ·rcases new' a h with w|w
     ·exact R.dx _ a w z
     ·exact R.xa a z w
    ·exact(hn a z).2.2 h
   ·rw[Wf ej]at h
    rcases z with z|z
    ·exact R.dx j a h z
    ·exact R.footSome (hn a z).1 ⟨j,h⟩
  ·refine keep b ob (R.fr b ob e n) λz=>?_
   rcases R.new i b z with w|w
   ·exact n w.2
   ·rw[e]at w;cases w
  ·by_cases ej:j=i
   ·subst ej
    rw[Yk]at h
    rcases new' a h with w|w
    ·exact R.new _ a w
    ·exact .inr (R.al a w)
   ·rw[Wf ej]at h
    exact R.new j a h
 ·refine⟨λb ob e q=>keep b ob e λz=>(q.resolve_left (by decide)) ⟨i,z⟩,λz=>(nomatch z),λa z=>?_,al⟩
  rcases z.of_u with z|⟨j,_,z⟩
  ·exact(new' a z).imp (λw=>⟨i,w⟩) id
  ·exact .inl ⟨j,z⟩
noncomputable def PNs(G:Xc)(r:List V->Hp->VK->Prop)(rp:List Xa->(Xa->Prop)->Prop):Prop:=∀(H:Hp) (L:Addr->Prop) (xs:List V) (ds:List Xa) (k:Xa->Prop) (Q:VK),Das G H L xs ds->rp ds k->(∀v d',ScD v d'->k d'->Q v H)->r xs H Q
noncomputable def PN(G:Xc)(r:List V->Hp->VK->Prop)(rp:List Xa->(OT->Prop)->Prop):Prop:=∀(H:Hp) (L:Addr->Prop) (xs:List V) (ds:List Xa) (k:OT->Prop) (Q:VK),Das G H L xs ds->rp ds k ->
 (∀ H' v o new,Same H H'->Own G H' (λa=>(L a∨H a=none)∧a∉new) v o new->new.Nodup->(∀a∈new,H a=none)->k o->Q v H')->r xs H Q
noncomputable def Z86(rp:List Xa->(Xa->Prop)->Prop)(mr:MAt):MEt:=λδ K=>mr δ λrs δ1=>rp (OT.datas rs) λd=>K (.fz d) δ1
noncomputable def mBl(rp:List Xa->(OT->Prop)->Prop)(mr:MAt):MEt:=λδ K=>mr δ λrs δ1=>rp (OT.datas rs) λo=>K o δ1
theorem Yej{r rp}{t:TA}(P:PNs G r rp)(sa:SA G io p c t mr):SE G io p true (tCB r t) (Z86 rp mr):=λC H σ δ fp ex K Q R h kk=>
 sa C H σ δ fp ex _ _ R h λH1 vs rs δ1 fp1 new1 r1 h1=>P H1 _ vs _ _ _ (r1.das R) h1 λv d' sc h2=>kk H1 v _ δ1 fp1 [] (.fz r1.base r1.stp sc.da) h2
theorem sBl{r rp}{t:TA}(P:PN G r rp)(sa:SA G io p c t mr):SE G io p c (tCB r t) (mBl rp mr):=λC H σ δ fp ex K Q R h kk=>
 sa C H σ δ fp ex _ _ R h λH1 vs rs δ1 fp1 new1 r1 h1=>P H1 _ vs _ _ _ (r1.das R) h1 λH' v o new s ow nd hn h2=>kk H' v o δ1 fp1 new (RE.tree R r1.base r1.stp s hn nd ow) h2
variable {id T:String}{r:List V->Hp->VK->Prop}
theorem Zkc{rp}(P:PNs X.K r rp)(hc:Zd6 X (.builtin id) r)(hg:Gl X x)(hm:X.mg x=none)(hv:Qk x=some (.builtin id))(ha:MA X io p c (e :: es) mr)(hn:x≠"__name__" :=by decide)(hdb:(x==("__debug__" : Str))=false:=by decide)
  (he:Xp (e :: es) X.env=(false,eval e X.env) :: Xp es X.env:=by rfl) (hpl:(JM pos (Xp es X.env)).any (·.1)=false:=by rfl):ME X io p true (.Call (.Name x pp) (e :: es) [] pos) (Z86 rp mr):=by
 obtain⟨_,A,sa⟩:=ha
 exact⟨_,Zkl hc hg hm hv A hn hdb he hpl,Yej P sa⟩
theorem Z3n{rp}(P:PN X.K r rp)(hc:Zd6 X (.builtin id) r)(hg:Gl X x)(hm:X.mg x=none)(hv:Qk x=some (.builtin id))(ha:MA X io p c (e :: es) mr)(hn:x≠"__name__" :=by decide)(hdb:(x==("__debug__" : Str))=false:=by decide)
  (he:Xp (e :: es) X.env=(false,eval e X.env) :: Xp es X.env:=by rfl) (hpl:(JM pos (Xp es X.env)).any (·.1)=false:=by rfl):ME X io p c (.Call (.Name x pp) (e :: es) [] pos) (mBl rp mr):=by
 obtain⟨_,A,sa⟩:=ha
 exact⟨_,Zkl hc hg hm hv A hn hdb he hpl,sBl P sa⟩
theorem Ydz{rp}(P:PN X.K r rp)(hc:Zd6 X (.type T) r)(hg:Gl X x)(hm:X.mg x=none)(hv:Qk x=some (.type T))(ha:MA X io p c (e :: es) mr)(hn:x≠"__name__" :=by decide)(hdb:(x==("__debug__" : Str))=false:=by decide)
  (he:Xp (e :: es) X.env=(false,eval e X.env) :: Xp es X.env:=by rfl) (hpl:(JM pos (Xp es X.env)).any (·.1)=false:=by rfl):ME X io p c (.Call (.Name x pp) (e :: es) [] pos) (mBl rp mr):=by
 obtain⟨_,A,sa⟩:=ha
 exact⟨_,Zhs hc hg hm hv A hn hdb he hpl,sBl P sa⟩
end
variable {G:Xc}
mutual
noncomputable def Zgv:Xa->Bool
 | .none=>true
 | .bool _=>true
 | .int _=>true
 | .str _=>true
 | .tuple ds=>Zup ds
 | .list _=>false
 | .dict _=>false
noncomputable def Zup:List Xa->Bool
 | []=>true
 | d :: ds=>Zgv d&&Zup ds
end
set_option genInjectivity false in
structure Zin where
 nx:Zi->Prop
 rt:OT->Zi->Prop
 bk:Zi->Prop:=λ_=>False
 ct:Zi->Prop:=λ_=>False
noncomputable abbrev MSt:=Zin->Zi->Prop
noncomputable abbrev Kp(H:Hp)(fp:Fp)(H':Hp)(fp':Fp):Prop:=Stp false H [] fp H' [] fp'
theorem Stp.kp{p:Bool}{H H':Hp}{δ δ':Zi}{fp fp':Fp}(S:Stp p H δ fp H' δ' fp'):Kp H fp H' fp':=⟨λb o e q=>S.keep b o e (.inr (q.resolve_left (by decide))),λz=>(nomatch z),S.grow,S.al⟩
theorem Kp.trans{H H1 H2:Hp}{fp fp1 fp2:Fp}(a:Kp H fp H1 fp1)(b:Kp H1 fp1 H2 fp2):Kp H fp H2 fp2:=Stp.trans a b
theorem Kp.refl(H:Hp)(fp:Fp):Kp H fp H fp:=Stp.refl _ _ _ _
structure RelEnds(C:MC G)(io:List Nat)(ex:Addr->Prop)(H:Hp)(fp:Fp)(D:Zin)(D':Ends):Prop where
 nx:∀H' σ' δ' fp',Rel C io H' σ' δ' fp' ex->Kp H fp H' fp'->D.nx δ'->D'.nx σ' H'
 bk:∀H' σ' δ' fp',Rel C io H' σ' δ' fp' ex->Kp H fp H' fp'->D.bk δ'->D'.bk σ' H'
 ct:∀H' σ' δ' fp',Rel C io H' σ' δ' fp' ex->Kp H fp H' fp'->D.ct δ'->D'.ct σ' H'
 rt:∀H' σ' v r δ' fp' new,Rel C io H' σ' δ' fp' (exu ex new)->Own G H' (Lf C fp' (exu ex new)) v r new->new.Nodup->(∀a∈new,C.H₀ a=none)->D.rt r δ'->D'.rt v H'
theorem RelEnds.shift{C:MC G}{io:List Nat}{ex:Addr->Prop}{H H1:Hp}{fp fp1:Fp}{D:Zin}{D':Ends}(E:RelEnds C io ex H fp D D')(k:Kp H fp H1 fp1):RelEnds C io ex H1 fp1 D D' :=
 ⟨λH' σ' δ' fp' R q=>E.nx H' σ' δ' fp' R (k.trans q),λH' σ' δ' fp' R q=>E.bk H' σ' δ' fp' R (k.trans q),λH' σ' δ' fp' R q=>E.ct H' σ' δ' fp' R (k.trans q),E.rt⟩
noncomputable def SS(G:Xc)(io:List Nat)(t:TS)(m:MSt):Prop:=∀(C:MC G) (H:Hp) (σ:St) (δ:Zi) (fp:Fp) (ex:Addr->Prop) (D:Zin) (D':Ends),Rel C io H σ δ fp ex->m D δ->RelEnds C io ex H fp D D'->t D' σ H
noncomputable def MS(X:Cx)(io:List Nat)(st:Stmt)(m:MSt):Prop:=∃t,PS X st t∧SS X.K io t m
noncomputable def MSs(X:Cx)(io:List Nat)(st:List Stmt)(m:MSt):Prop:=∃t,PSs X st t∧SS X.K io t m
section
variable {X:Cx}{io:List Nat}{p p' p'' c c':Bool}{e a b:Expr}{m ma mb:MEt}{es rest:List Expr}{mr:MAt}{pos:Pos}{st:Stmt}{sts:List Stmt}{u w:MSt}{mt:MTt}
noncomputable def Z5l:MSt:=λD δ=>D.nx δ
noncomputable def Ydx(w:MSt)(D:Zin)(δ:Zi):Prop:=w D δ
noncomputable def Yaw(u w:MSt):MSt:=λD δ=>u { D with nx:=Ydx w D } δ
theorem Zb0:MSs X io [] Z5l:=⟨_,Zzv,λC H σ δ fp ex D D' R h E=>E.nx H σ δ fp R (.refl _ _) h⟩
theorem Zg(h:MS X io st u):MSs X io [st] u:=by
 obtain⟨_,A,s⟩:=h
 exact⟨_,Z09 A,s⟩
theorem J2(h:MS X io st u)(g:MSs X io sts w):MSs X io (st :: sts) (Yaw u w):=by
 obtain⟨_,A,s⟩:=h
 obtain⟨tb,B,s'⟩:=g
 exact⟨_,Zwf A B,λC H σ δ fp ex D D' R h E=>s C H σ δ fp ex _ _ R h ⟨λH1 σ1 δ1 fp1 R1 k1 h1=>s' C H1 σ1 δ1 fp1 ex D D' R1 h1 (E.shift k1),E.bk,E.ct,E.rt⟩⟩
noncomputable def Z7f:MSt:=λ_ _=>False
theorem Zvn:MS X io st Z7f:=⟨_,Zww,λC H σ δ fp ex D D' R h E=>h.elim⟩
noncomputable def Z4w(m:MEt):MSt:=λD δ=>m δ λ_ δ'=>D.nx δ'
theorem Z0l(he:ME X io p c e m)(hs:V5 e none pos.line X.env=pure false:=by rfl):MS X io (.Expr e pos) (Z4w m):=by
 obtain⟨_,A,s⟩:=he
 exact⟨_,Zn4 A hs,λC H σ δ fp ex D D' R h E=>s C H σ δ fp ex _ _ R h λH' v r δ' fp' new r1 h1=>E.nx H' σ δ' fp' r1.base r1.stp.kp h1⟩
noncomputable def Ybp(m:MEt):MSt:=λD δ=>m δ λr δ'=>D.rt r δ'
theorem Zd3(he:ME X io p true e m):MS X io (.Return (some e) pos) (Ybp m):=by
 obtain⟨_,A,s⟩:=he
 exact⟨_,Zx2 A,λC H σ δ fp ex D D' R h E=>s C H σ δ fp ex _ _ R h λH' v r δ' fp' new r1 h1=>E.rt H' σ v r δ' fp' new r1.rel (r1.own.wide λa l _=>l rfl) r1.nd (λa m=>(R.newOk (r1.fresh a m)).2.2) h1⟩
noncomputable def Zva(i:Nat):MSt:=λD δ=>match δ[i]? with|some (some t)=>D.rt t (δ.set i none)|_=>False
theorem Rel.take{C:MC G}{H:Hp}{σ:St}{δ:Zi}{fp:Fp}{ex:Addr->Prop}{i:Nat}{t:OT}(R:Rel C io H σ δ fp ex)(hi:δ[i]? =some (some t)):Rel C io H σ (δ.set i none) (fpu fp i []) (exu ex (fp i)):=by
 have hil:i<δ.length:=(Xn.mp hi).1
 have get:∀j (t':OT),(δ.set i none)[j]? =some (some t')->j≠i∧δ[j]? =some (some t'):=λj t' e=>by
  by_cases ej:j=i
  ·subst ej;rw[Q3 hil]at e;cases e
  ·rw[Qz (Vs ej)]at e;exact⟨ej,e⟩
 have sub:∀j a,a∈fpu fp i [] j->j≠i∧a∈fp j:=λj a m=>by
  by_cases ej:j=i
  ·subst ej;rw[Yk]at m;exact nomatch m
  ·rw[Wf ej]at m;exact⟨ej,m⟩
 have lw:∀a,Lf C fp ex a->Lf C (fpu fp i []) (exu ex (fp i)) a:=λa l=>⟨λ⟨j,z⟩=>l.1 ⟨j,(sub j a z).2⟩,λz=>z.elim l.2.1 λz=>l.1 ⟨i,z⟩,l.2.2⟩
 refine⟨by rw[Vf];exact R.len,λj t' e=>?_,λj h=>?_,λj=>?_,λj k a h1 h2=>R.dj j k a (sub j a h1).2 (sub k a h2).2,λj a h z=>?_,λa z w=>?_,R.fr,R.al,λj a h=>R.new j a (sub j a h).2,R.io⟩
 ·obtain⟨ej,e⟩:=get j t' e
  obtain⟨w,e1,o⟩:=R.own j t' e
  exact⟨w,e1,by rw[Wf ej];exact o.wide λa l _=>lw a l⟩
 ·by_cases ej:j=i
  ·subst ej;rw[Yk]
  ·rw[Wf ej]
   exact R.emp j λt' z=>h t' (by rw[Qz (Vs ej)];exact z)
 ·by_cases ej:j=i
  ·subst ej;rw[Yk];exact .nil
  ·rw[Wf ej];exact R.nd j
 ·obtain⟨ej,h⟩:=sub j a h
  rcases z with z|z
  ·exact R.dx j a h z
  ·exact ej (R.dj j i a h z)
 ·rcases z with z|z
  ·exact R.xa a z w
  ·exact R.footSome w ⟨i,z⟩
theorem Zee(i:Nat){x:Str}{px:Pos}(hio:i∉io:=by decide)(hN:X.N[i]? =some x:=by rfl)(hv:Vis X.env.scope x:=by first|exact QH rfl|exact Qx (QH rfl)|exact Qx (Qx rfl))(hd:(x==("__debug__" : Str))=false:=by decide)
  (hcd:(x==("__classdict__" : Str))=false:=by decide):MS X io (.Return (some (.Name x px)) pos) (Zva i):=by
 refine⟨_,Zx2 (pv i hN hv hd hcd),λC H σ δ fp ex D D' R h E=>?_⟩
 unfold Zva at h
 split at h
 case h_2=>exact h.elim
 rename_i t hi
 obtain⟨v,e,o⟩:=R.own i t hi
 have lw:∀a,Lf C fp ex a->H a≠none->Lf C (fpu fp i []) (exu ex (fp i)) a:=λa l _=>⟨λz=>by
  rcases z.of_u with z|⟨j,_,z⟩
  ·exact nomatch z
  ·exact l.1 ⟨j,z⟩,λz=>z.elim l.2.1 λz=>l.1 ⟨i,z⟩,l.2.2⟩
 have hn:∀a∈fp i,C.H₀ a=none:=λa m=>by
  rcases R.new i a m with z|z
  ·exact absurd z.1 hio
  ·exact z
 exact⟨v,e,E.rt H σ v t _ _ (fp i) (R.take hi) (o.wide lw) (R.nd i) hn h⟩
noncomputable def Ybs(t:MTt)(u w:MSt):MSt:=λD δ=>t δ λb δ'=>if b=true then u D δ' else w D δ'
theorem Zky{cnd:Expr}{ss ss':List Stmt}(hc:MT X io p cnd mt)(ha:MSs X io ss u)(hb:MSs X io ss' w):MS X io (.If cnd ss ss' pos) (Ybs mt u w):=by
 obtain⟨_,T,s⟩:=hc
 obtain⟨_,A,sa⟩:=ha
 obtain⟨_,B,sb⟩:=hb
 exact⟨_,Z9j T A B,λC H σ δ fp ex D D' R h E=>s C H σ δ fp ex _ _ R h λH' b δ' fp' R' S h'=>by
  cases b with
  | true=>
   rw[if_pos rfl]at h'⊢
   exact sa C H' σ δ' fp' ex D D' R' h' (E.shift S.kp)
  | false=>
   rw[if_neg Xm]at h'⊢
   exact sb C H' σ δ' fp' ex D D' R' h' (E.shift S.kp)⟩
theorem Rel.put{C:MC G}{H:Hp}{σ:St}{δ:Zi}{fp:Fp}{ex:Addr->Prop}{i:Nat}{v:V}{r:OT}{new:List Addr}(R:Rel C io H σ δ fp (exu ex new))(hio:i∉io)(o:Own G H (Lf C fp (exu ex new)) v r new)(nd:new.Nodup)
  (hn:∀a∈new,C.H₀ a=none∧¬ex a):∃fp',Rel C io H (σ.set i (some v)) (δ.set i (some r)) fp' ex∧∀a,Foot fp' a->Foot fp a∨a∈new:=by
 by_cases hil:i<δ.length
 case neg=>
  refine⟨fp,?_,λa h=>.inl h⟩
  have hl:=R.len
  rw[List.set_eq_of_length_le (show δ.length≤i by omega),List.set_eq_of_length_le (show σ.length≤i by omega)]
  exact R.drop λa z=>.inl z
 have hsl:i<σ.length:=by rw[R.len];exact hil
 have sub:∀a,Foot (fpu fp i new) a->Foot fp a∨a∈new:=λa z=>by
  rcases z.of_u with z|⟨j,_,z⟩
  ·exact .inr z
  ·exact .inl ⟨j,z⟩
 have lw:∀a,Lf C fp (exu ex new) a->Lf C (fpu fp i new) ex a:=λa l=>⟨λz=>(sub a z).elim l.1 λz=>l.2.1 (.inr z),λz=>l.2.1 (.inl z),l.2.2⟩
 refine⟨fpu fp i new,⟨by rw[Vf,Vf];exact R.len,λj t' e=>?_,λj h=>?_,λj=>?_,λj k a h1 h2=>?_,λj a h z=>?_,λa z=>R.xa a (.inl z),R.fr,R.al,λj a h=>?_,λj hj=>?_⟩,sub⟩
 ·by_cases ej:j=i
  ·subst ej
   rw[Q3 hil]at e
   cases e
   exact⟨v,Q3 hsl,by rw[Yk];exact o.wide λa l _=>lw a l⟩
  ·rw[Qz (Vs ej)]at e
   obtain⟨w,e1,o1⟩:=R.own j t' e
   exact⟨w,by rw[Qz (Vs ej)];exact e1,by rw[Wf ej];exact o1.wide λa l _=>lw a l⟩
 ·by_cases ej:j=i
  ·subst ej;exact absurd (Q3 hil) (h r)
  ·rw[Wf ej]
   exact R.emp j λt' z=>h t' (by rw[Qz (Vs ej)];exact z)
 ·by_cases ej:j=i
  ·subst ej;rw[Yk];exact nd
  ·rw[Wf ej];exact R.nd j
 ·by_cases ej:j=i
  ·subst ej
   rw[Yk]at h1
   by_cases ek:k=j
   ·exact ek.symm
   ·rw[Wf ek]at h2
    exact absurd (.inr h1) (R.dx k a h2)
  ·rw[Wf ej]at h1
   by_cases ek:k=i
   ·subst ek
    rw[Yk]at h2
    exact absurd (.inr h2) (R.dx j a h1)
   ·rw[Wf ek]at h2
    exact R.dj j k a h1 h2
 ·by_cases ej:j=i
  ·subst ej
   rw[Yk]at h
   exact(hn a h).2 z
  ·rw[Wf ej]at h
   exact R.dx j a h (.inl z)
 ·by_cases ej:j=i
  ·subst ej
   rw[Yk]at h
   exact .inr (hn a h).1
  ·rw[Wf ej]at h
   exact R.new j a h
 ·have ej:j≠i:=λz=>hio (z▸hj)
  rw[Qz (Vs ej)]
  exact R.io j hj
theorem RE.put{C:MC G}{H H':Hp}{σ:St}{δ δ':Zi}{fp fp':Fp}{ex:Addr->Prop}{i:Nat}{v:V}{r:OT}{new:List Addr}(R:RE C io p true H σ δ fp ex H' v r δ' fp' new)(R0:Rel C io H σ δ fp ex)(hio:i∉io) :
  ∃fp2,Rel C io H' (σ.set i (some v)) (δ'.set i (some r)) fp2 ex∧Kp H fp H' fp2:=by
 obtain⟨fp2,R2,g⟩:=R.rel.put hio (R.own.wide λa l _=>l rfl) R.nd λa m=>⟨(R0.newOk (R.fresh a m)).2.2,(R0.newOk (R.fresh a m)).2.1⟩
 refine⟨fp2,R2,λb o e q=>R.stp.keep b o e (.inr (q.resolve_left (by decide))),λz=>(nomatch z),λa z=>?_,R.stp.al⟩
 rcases g a z with z|z
 ·exact R.stp.grow a z
 ·exact .inr (R.fresh a z)
theorem RE.fzc{C:MC G}{H H':Hp}{σ:St}{δ δ':Zi}{fp fp':Fp}{ex:Addr->Prop}{v:V}{r:OT}{new:List Addr}(R:RE C io p c H σ δ fp ex H' v r δ' fp' new)(R0:Rel C io H σ δ fp ex) :
  RE C io p c H σ δ fp ex H' v (.fz r.data) δ' fp' []:=.fz R.base R.stp (R.da R0)
noncomputable def Z3b(i:Nat)(m:MEt):MSt:=λD δ=>m δ λr δ'=>D.nx (δ'.set i (some (.fz r.data)))
noncomputable def Zqd(i:Nat)(m:MEt):MSt:=λD δ=>m δ λr δ'=>D.nx (δ'.set i (some r))
section
variable {i:Nat}{x:Str}{px:Pos}
theorem Yca{t:TE}(s:SE G io p true t m)(hio:i∉io):SS G io (Z4c t (Zs5 i)) (Z3b i m):=λC H σ δ fp ex D D' R h E=>s C H σ δ fp ex _ _ R h λH' v r δ' fp' new r1 h1=>by
 obtain⟨fp2,R2,k2⟩:=(r1.fzc R).put R hio
 exact E.nx H' _ _ fp2 R2 k2 h1
theorem Z3j{t:TE}(s:SE G io p true t m)(hio:i∉io):SS G io (Z4c t (Zs5 i)) (Zqd i m):=λC H σ δ fp ex D D' R h E=>s C H σ δ fp ex _ _ R h λH' v r δ' fp' new r1 h1=>by
 obtain⟨fp2,R2,k2⟩:=r1.put R hio
 exact E.nx H' _ _ fp2 R2 k2 h1
theorem Zor(hN:X.N.Nodup)(hi:X.N[i]? =some x)(hx:Loc X.env.scope x)(he:ME X io p true e m)(hio:i∉io:=by decide)(hs:V5 e (some (.Name x px)) pos.line X.env=pure false:=by rfl)(hf:X.fn x=true∨X.env.scope.names.lookup x=some .local:=by first|exact .inl rfl|exact .inr rfl|assumption) :
  MS X io (.Assign [.Name x px] e pos) (Z3b i m):=by
 obtain⟨_,A,s⟩:=he
 exact⟨_,Zyw hN hi hx A hs hf,Yca s hio⟩
theorem Zzn(hN:X.N.Nodup)(hi:X.N[i]? =some x)(hx:Loc X.env.scope x)(he:ME X io p true e m)(hio:i∉io:=by decide)(hs:V5 e (some (.Name x px)) pos.line X.env=pure false:=by rfl)(hf:X.fn x=true∨X.env.scope.names.lookup x=some .local:=by first|exact .inl rfl|exact .inr rfl|assumption) :
  MS X io (.Assign [.Name x px] e pos) (Zqd i m):=by
 obtain⟨_,A,s⟩:=he
 exact⟨_,Zyw hN hi hx A hs hf,Z3j s hio⟩
end
noncomputable def Zxp(t:MTt)(u:MSt):MSt:=λD δ=>∃W:Nat->Zi->Prop,(∃n,W n δ)∧∀n δ,W n δ->t δ λb δ'=>if b=true then∃N:Zi->Prop,(∀δ',N δ'->∃n',n'<n∧W n' δ')∧u { D with nx:=N,ct:=N,bk:=D.nx } δ' else D.nx δ'
theorem Zpq{cnd:Expr}{ss:List Stmt}(hp:PassesOwn (X6 X.prog X.w) X.A X.env X.xe)(hc:MT X io p cnd mt)(ha:MSs X io ss u):MS X io (.While cnd ss [] pos) (Zxp mt u):=by
 obtain⟨_,T,s⟩:=hc
 obtain⟨_,A,sa⟩:=ha
 refine⟨_,Zvq hp T A,λC H σ δ fp ex D D' R h E=>?_⟩
 obtain⟨W,⟨n0,w0⟩,turn⟩:=h
 refine⟨λn σ' H'=>∃δ' fp',Rel C io H' σ' δ' fp' ex∧Kp H fp H' fp'∧W n δ',⟨n0,δ,fp,R,.refl _ _,w0⟩,?_⟩
 rintro n σ1 H1 ⟨δ1,fp1,R1,k1,w1⟩
 refine s C H1 σ1 δ1 fp1 ex _ _ R1 (turn n δ1 w1) λH2 b δ2 fp2 R2 S2 h2=>?_
 have k2:=k1.trans S2.kp
 cases b with
 | true=>
  rw[if_pos rfl]at h2⊢
  obtain⟨N,hN,h2⟩:=h2
  refine⟨λσ' H'=>∃δ' fp',Rel C io H' σ' δ' fp' ex∧Kp H fp H' fp'∧N δ',λσ' H' ⟨δ',fp',R',k',n'⟩=>?_,?_⟩
  ·obtain⟨n1,hn1,w1⟩:=hN δ' n'
   exact⟨n1,hn1,δ',fp',R',k',w1⟩
  ·refine sa C H2 σ1 δ2 fp2 ex _ _ R2 h2 ⟨λH' σ' δ' fp' R' k' n'=>⟨δ',fp',R',k2.trans k',n'⟩,λH' σ' δ' fp' R' k' n'=>E.nx H' σ' δ' fp' R' (k2.trans k') n',λH' σ' δ' fp' R' k' n'=>⟨δ',fp',R',k2.trans k',n'⟩,E.rt⟩
 | false=>
  rw[if_neg Xm]at h2⊢
  exact E.nx H2 σ1 δ2 fp2 R2 k2 h2
end
variable {G:Xc}
noncomputable def Zrs(N:List Str)(ds:List Xa):Zi:=ds.map (λd=>some (.fz d)) ++ X4 (N.length-ds.length) none
section
variable {H:Hp}{L:Addr->Prop}{vs:List V}{ds:List Xa}{N:List Str}
theorem Zsn{i:Nat}{t:OT}{n:Nat}(h:(ds.map (λd=>some (.fz d)) ++ X4 n none:Zi)[i]? =some (some t)):∃d,ds[i]? =some d∧t= .fz d:=by
 rw[List.getElem?_append]at h
 split at h
 ·rw[Xu]at h
  cases e:ds[i]? with
  | none=>rw[e]at h;cases h
  | some d=>rw[e]at h;cases h;exact⟨d,rfl,rfl⟩
 ·rw[Ua]at h
  split at h
  ·cases h
  ·cases h
theorem Rel.entry(h:Das G H L vs ds):Rel (G:=G) ⟨H,λ_=>False,L,start N vs⟩ [] H (start N vs) (Zrs N ds) (λ_=>[]) (λ_=>False):=by
 refine⟨?_,λi t e=>?_,λ_ _=>rfl,λ_=>.nil,λi j a m=>(nomatch m),λi a m=>(nomatch m),λa z=>z.elim,λb o e _=>e,λb e=>e,λi a m=>(nomatch m),λi m=>nomatch m⟩
 ·unfold start Zrs
  simp[h.length]
 ·obtain⟨d,e',rfl⟩:=Zsn e
  obtain⟨x,e1,q⟩:=h.get e'
  refine⟨x,?_,.fz (q.wide λa l _=>⟨λ⟨j,z⟩=>(nomatch z),λz=>z,.inl l⟩)⟩
  unfold L2.start
  rw[Vc (by rw[Xj];exact(Xn.mp e1).1),Xu,e1]
  rfl
variable {P:Qa}{w:Qs}{K:Xc}{mg:Str->Option Xd}{base:Heap}
noncomputable def Zzx(k:OT->Prop):Zin:={ nx:=λ_=>k (.fz .none),rt:=λr _=>k r }
theorem Fun.okD{x qual:Str}{st:Stmt}{f:Addr}{fd:XR}{N ps:List Str}{n:Nat}{S:List Xa->(OT->Prop)->Prop}(F:Fun K x qual st f fd)(Sc:Zv N ps (Zm st))(len:∀ds k,S ds k->ds.length=ps.length)
  (hbody:∀(cdv:Xd) (A:Qq) (outer:List Env) (s:Xg) (H:Hp) (E:XK),Room n (A.deeper (envOfC qual (Zm st) s.heap.objs.size f cdv)) ->
   ∃m,MSs (Zys CX0 P w K mg base N qual (Zm st) f cdv A outer s H E).nox [] (Zcc st) m∧∀ds k,S ds k->m (Zzx k) (Zrs N ds)):FnOk P w K mg base CX0 (n+1) f fd ps (spD K S):=by
 refine F.ok Sc (λvs H Q E h=>?_) (λcdv A outer s H vs Q E hr h=>?_)
 ·obtain⟨L,ds,k,h1,h2,_⟩:=h
  rw[h1.length]
  exact len ds k h2
 ·obtain⟨L,ds,k,h1,h2,h3⟩:=h
  obtain⟨m,⟨t,A1,s1⟩,q⟩:=hbody cdv A outer s H E hr
  refine⟨t,A1,s1 ⟨H,λ_=>False,L,start N vs⟩ H _ _ _ _ (Zzx k) _ (Rel.entry h1) (q ds k h2) ⟨λH' σ' δ' fp' R _ hk=>?_,λ_ _ _ _ _ _ z=>z.elim,λ_ _ _ _ _ _ z=>z.elim,λH' σ' v r δ' fp' new R o nd hn hk=>?_⟩⟩
  ·exact h3 _ .non H' [] hk (λb o e=>R.fr b o e id) (.fz .non) .nil λa m=>nomatch m
  ·refine h3 r v H' new hk (λb o e=>R.fr b o e id) (o.wide λa l _=>⟨?_,λz=>l.2.1 (.inr z)⟩) nd hn
   exact l.2.2
end
noncomputable abbrev MGt:=Xa->Zi->(Zi->Prop)->Prop
noncomputable abbrev Zu5:=List Xa->Zi->(Zi->Prop)->Prop
noncomputable def SG(G:Xc)(io:List Nat)(c:Bool)(t:TG)(g:MGt):Prop:=∀(C:MC G) (H:Hp) (σ:St) (δ:Zi) (fp:Fp) (ex:Addr->Prop) (v:V) (d:Xa) (k:Zi->Prop) (Q:St->Hp->Prop),Rel C io H σ δ fp ex->Da G H (λa=>c=true->Lf C fp ex a) v d->g d δ k ->
 (∀ σ' δ' fp',Rel C io H σ' δ' fp' ex->Kp H fp H fp'->k δ'->Q σ' H)->t v σ H Q
noncomputable def SGs(G:Xc)(io:List Nat)(c:Bool)(t:TGs)(g:Zu5):Prop:=∀(C:MC G) (H:Hp) (σ:St) (δ:Zi) (fp:Fp) (ex:Addr->Prop) (v:List V) (d:List Xa) (k:Zi->Prop) (Q:St->Hp->Prop),Rel C io H σ δ fp ex->Das G H (λa=>c=true->Lf C fp ex a) v d->g d δ k ->
 (∀ σ' δ' fp',Rel C io H σ' δ' fp' ex->Kp H fp H fp'->k δ'->Q σ' H)->t v σ H Q
noncomputable def MG(X:Cx)(io:List Nat)(c:Bool)(tg:Expr)(g:MGt):Prop:=∃t,PG X tg t∧SG X.K io c t g
noncomputable def MGs(X:Cx)(io:List Nat)(c:Bool)(tg:List Expr)(g:Zu5):Prop:=∃t,PGs X tg t∧SGs X.K io c t g
section
variable {X:Cx}{io:List Nat}{c:Bool}{pos:Pos}{i:Nat}{x:Str}
noncomputable def dName(i:Nat):MGt:=λd δ k=>k (δ.set i (some (.fz d)))
theorem Rel.putD{C:MC G}{H:Hp}{σ:St}{δ:Zi}{fp:Fp}{ex:Addr->Prop}{v:V}{d:Xa}(R:Rel C io H σ δ fp ex)(hio:i∉io)(q:Da G H (Lf C fp ex) v d) :
  ∃fp',Rel C io H (σ.set i (some v)) (δ.set i (some (.fz d))) fp' ex∧Kp H fp H fp':=by
 obtain⟨fp',R',g⟩:=(R.drop λa z=>Zcu.mp z).put (new:=[]) hio (.fz (q.wide λa l _=>⟨l.1,λz=>l.2.1 (Zcu.mp z),l.2.2⟩)) .nil (λa m=>nomatch m)
 exact⟨fp',R',λb o e _=>e,λz=>(nomatch z),λa z=>(g a z).imp id λz=>(nomatch z),λb e=>e⟩
theorem Zjl(hN:X.N.Nodup)(hi:X.N[i]? =some x:=by rfl)(hx:Loc X.env.scope x:=by first|exact QH rfl|exact Qx rfl)(hio:i∉io:=by decide)(hf:X.fn x=true∨X.env.scope.names.lookup x=some .local:=by first|exact .inl rfl|exact .inr rfl|assumption):MG X io true (.Name x pos) (dName i) :=
 ⟨_,Zzf hN hi hx hf,λC H σ δ fp ex v d k Q R q h kk=>by
  obtain⟨fp',R',k'⟩:=R.putD hio (q.wide λa l _=>l rfl)
  exact kk _ _ fp' R' k' h⟩
noncomputable def Ybl:Zu5:=λds δ k=>ds=[]∧k δ
noncomputable def Z5o(g:MGt)(gs:Zu5):Zu5:=λds δ k=>match ds with|d :: r=>g d δ λδ'=>gs r δ' k|[]=>False
theorem Ztm:MGs X io c [] Ybl:=⟨_,Z0h,λC H σ δ fp ex v d k Q R q h kk=>by
 obtain⟨rfl,h⟩:=h
 cases q
 exact⟨rfl,kk σ δ fp R (.refl _ _) h⟩⟩
theorem Rel.kp_das{C:MC G}{H H':Hp}{σ:St}{δ:Zi}{fp fp':Fp}{ex:Addr->Prop}{vs:List V}{ds:List Xa}(R:Rel C io H σ δ fp ex)(S:Kp H fp H' fp')(h:Das G H (Lf C fp ex) vs ds):Das G H' (Lf C fp' ex) vs ds:=by
 have S':Stp false H δ fp H' δ fp':=⟨S.keep,λz=>(nomatch z),S.grow,S.al⟩
 obtain⟨f1,f2⟩:=R.frameL (c:=true) (ex':=ex) S' (.inr rfl) λa z=>.inl z
 exact h.frame (λa xs l q=>⟨(f1 a xs (λ_=>l) q).1 rfl,(f1 a xs (λ_=>l) q).2⟩) f2
theorem Zhd{e:Expr}{es:List Expr}{g:MGt}{gs:Zu5}(h1:MG X io true e g)(h2:MGs X io true es gs)
  (hs:(JQ (e :: es) X.env).map (·.2)=UJ e X.env :: (JQ es X.env).map (·.2):=by rfl):MGs X io true (e :: es) (Z5o g gs):=by
 obtain⟨_,A,s⟩:=h1
 obtain⟨_,B,s'⟩:=h2
 exact⟨_,Zxo A B hs,λC H σ δ fp ex v d k Q R q h kk=>by
  cases q with
  | nil=>exact h.elim
  | cons q qs=>
   refine⟨_,_,rfl,s C H σ δ fp ex _ _ _ _ R q h λσ1 δ1 fp1 R1 k1 h1=>?_⟩
   exact s' C H σ1 δ1 fp1 ex _ _ _ _ R1 ((R.kp_das k1 (qs.wide λa l _=>l rfl)).wide λa l _ _=>l) h1 λσ2 δ2 fp2 R2 k2 h2=>kk σ2 δ2 fp2 R2 (k1.trans k2) h2⟩
noncomputable def dTup(n:Nat)(gs:Zu5):MGt:=λd δ k=>match d with| .tuple ds=>ds.length=n∧gs ds δ k|_=>False
theorem Zy2{es:List Expr}{k:Nat}{gs:Zu5}{n:Nat}(hc:X.calm=true)(h:MGs X io c es gs)
  (hn:(JQ es X.env).length=n:=by rfl) (hst:(JQ es X.env).findIdx? (·.1)=none:=by rfl):MG X io c (.Tuple es k pos) (dTup n gs):=by
 obtain⟨_,A,s⟩:=h
 exact⟨_,Z5v hc A hn hst,λC H σ δ fp ex v d k Q R q h kk=>by
  cases q with
  | tup e qs=>exact⟨_,_,rfl,.inl (.inl e),by rw[qs.length];exact h.1,s C H σ δ fp ex _ _ _ _ R qs h.2 kk⟩
  | _=>exact h.elim⟩
noncomputable def Ya7(m:MEt)(g:MGt):MSt:=λD δ=>m δ λr δ'=>g r.data δ' D.nx
theorem Z3v{tg e:Expr}{p:Bool}{m:MEt}{g:MGt}(he:ME X io p c e m)(hg:MG X io c tg g)(hs:swapsWithSole [tg] e pos.line X.env=pure false:=by rfl)(hw:swappedStores [tg] e X.env=pure none:=by rfl)
  (h1:(JQ [tg] X.env).map (·.2)=[UJ tg X.env]:=by rfl):MS X io (.Assign [tg] e pos) (Ya7 m g):=by
 obtain⟨_,A,s⟩:=he
 obtain⟨_,B,s'⟩:=hg
 exact⟨_,Zyy A B hs hw h1,λC H σ δ fp ex D D' R h E=>s C H σ δ fp ex _ _ R h λH' v r δ' fp' new r1 h1=>
  s' C H' σ δ' fp' ex v _ _ _ r1.base (r1.da R) h1 λσ2 δ2 fp2 R2 k2 h2=>E.nx H' σ2 δ2 fp2 R2 (r1.stp.kp.trans k2) h2⟩
end
variable {G:Xc}
noncomputable def IterOk(C:MC G)(fp:Fp)(ex:Addr->Prop)(H1:Hp)(c:Bool)(J:It)(ds:List Xa):Prop:=∀H':Hp,(∀b o,H1 b=some o->(c=false∨¬Foot fp b)->H' b=some o)->∀i:Nat,
 (∀ d,ds[i]? =some d->J.go i H'∧∀x H'',J.yld i H' x H''->Same H' H''∧Da G H'' (λa=>c=true->(Lf C fp ex a∧H1 a≠none)) x d)∧(ds[i]? =none->J.stop i H')
noncomputable abbrev MIt:=Zi->(List Xa->Zi->Prop)->Prop
noncomputable def SI(G:Xc)(io:List Nat)(p c:Bool)(t:TI)(m:MIt):Prop:=∀(C:MC G) (H:Hp) (σ:St) (δ:Zi) (fp:Fp) (ex:Addr->Prop) (K:List Xa->Zi->Prop) (Q:It->Hp->Prop),Rel C io H σ δ fp ex->m δ K ->
 (∀ J H1 ds δ1 fp1,Rel C io H1 σ δ1 fp1 ex->Stp p H δ fp H1 δ1 fp1->IterOk C fp1 ex H1 c J ds->K ds δ1->Q J H1)->t σ H Q
noncomputable def MI(X:Cx)(io:List Nat)(p c:Bool)(tg iter:Expr)(m:MIt):Prop:=∃t,PI X tg iter t∧SI X.K io p c t m
section
variable {X:Cx}{io:List Nat}{p c:Bool}{e a b tg:Expr}{m:MEt}{mr:MAt}{K:Xc}
noncomputable def iL(m:MEt):MIt:=λδ K=>m δ λr δ'=>match r.data with| .list ds=>K ds δ'|_=>False
noncomputable def iT(m:MEt):MIt:=λδ K=>m δ λr δ'=>match r.data with| .tuple ds=>K ds δ'|_=>False
theorem Rel.kept{C:MC G}{H H':Hp}{σ:St}{δ:Zi}{fp:Fp}{ex:Addr->Prop}(R:Rel C io H σ δ fp ex)(kp:∀b o,H b=some o->(c=false∨¬Foot fp b)->H' b=some o) :
  (∀ a (xs:MuO),(c=true->Lf C fp ex a)->Rd H a xs.ho->(c=true->(Lf C fp ex a∧H a≠none))∧Rd H' a xs.ho)∧(∀a (xs:ImO),H a=some xs.ho->H' a=some xs.ho):=by
 refine⟨λa xs l q=>⟨λhc=>⟨l hc,q.some⟩,?_⟩,λa xs q=>kp a _ q (.inr λz=>?_)⟩
 ·have hk:c=false∨¬Foot fp a:=by
   cases c with
   | false=>exact .inl rfl
   | true=>exact .inr (l rfl).1
  rcases q with q|⟨o,q⟩
  ·exact .inl (kp a _ q hk)
  ·exact .inr ⟨o,kp a _ q hk⟩
 ·obtain⟨ys,e⟩:=R.foot z
  exact ImO.nm q e
theorem Z0a(h:ME X io p c e m):MI X io p c tg e (iL m):=by
 obtain⟨_,A,s⟩:=h
 exact⟨_,Zw2 rfl A,λC H σ δ fp ex K' Q R h kk=>s C H σ δ fp ex _ _ R h λH1 v r δ1 fp1 new r1 h1=>by
  have q:=r1.da R
  generalize r.data=d at q h1
  cases q with
  | lst l e qs=>
   refine⟨_,rfl,⟨_,.inl e⟩,kk _ H1 _ δ1 fp1 r1.base r1.stp (λH' kp i=>?_) h1⟩
   obtain⟨f1,f2⟩:=r1.base.kept kp
   have e':=(f1 _ (.lst _) l e).2
   have qs':=qs.frame f1 f2
   refine⟨λd hd=>?_,λhd=>?_⟩
   ·obtain⟨x,hx,qx⟩:=qs'.get hd
    refine⟨⟨_,x,.inl e',hx⟩,λy H'' hy=>?_⟩
    obtain⟨rfl,hy⟩:=hy
    have:=hy _ (.inl e')
    rw[hx]at this
    cases this
    exact⟨Same.refl _,qx⟩
   ·exact⟨_,.inl e',by rw[qs'.length];exact Qw.mp hd⟩
  | scr ks=>
   refine⟨_,rfl,⟨_,ks.sq⟩,kk _ H1 _ δ1 fp1 r1.base r1.stp (λH' kp i=>?_) h1⟩
   refine⟨λd hd=>?_,λhd=>?_⟩
   ·obtain⟨x,hx,qx⟩:=(Das.ints (G:=X.K) (H:=H') (L:=λa=>c=true->(Lf C fp1 ex a∧H1 a≠none)) _).get hd
    refine⟨⟨_,x,ks.sq,hx⟩,λy H'' hy=>?_⟩
    obtain⟨rfl,hy⟩:=hy
    have:=hy _ ks.sq
    rw[hx]at this
    cases this
    exact⟨Same.refl _,qx⟩
   ·refine⟨_,ks.sq,?_⟩
    have:=Qw.mp hd
    simpa using this
  | _=>exact h1.elim⟩
theorem Z53(h:ME X io p c e m):MI X io p c tg e (iT m):=by
 obtain⟨_,A,s⟩:=h
 exact⟨_,Z08 rfl A,λC H σ δ fp ex K' Q R h kk=>s C H σ δ fp ex _ _ R h λH1 v r δ1 fp1 new r1 h1=>by
  have q:=r1.da R
  generalize r.data=d at q h1
  cases q with
  | tup e qs=>
   refine⟨_,rfl,⟨_,.inl (.inl e)⟩,kk _ H1 _ δ1 fp1 r1.base r1.stp (λH' kp i=>?_) h1⟩
   obtain⟨f1,f2⟩:=r1.base.kept kp
   have e':=f2 _ (.tup _) e
   have qs':=qs.frame f1 f2
   refine⟨λd hd=>?_,λhd=>?_⟩
   ·obtain⟨x,hx,qx⟩:=qs'.get hd
    refine⟨⟨_,x,.inl (.inl e'),hx⟩,λy H'' hy=>?_⟩
    obtain⟨rfl,hy⟩:=hy
    have:=hy _ (.inl (.inl e'))
    rw[hx]at this
    cases this
    exact⟨Same.refl _,qx⟩
   ·exact⟨_,.inl (.inl e'),by rw[qs'.length];exact Qw.mp hd⟩
  | _=>exact h1.elim⟩
noncomputable def Zc7(lo:Int)(n:Nat):List Xa:=(Xr n).map λ(i:Nat)=>Xk (lo+(i:Int))
@[simp] theorem Wu(lo:Int)(n:Nat):(Zc7 lo n).length=n:=by simp[Zc7]
theorem Jk{lo:Int}{n i:Nat}{d:Xa}(h:(Zc7 lo n)[i]? =some d):i<n∧d= .int (lo+i):=by
 have hi:i<n:=by
  have:=(Xn.mp h).1
  simpa using this
 unfold Zc7 at h
 rw[Xu,V0 hi]at h
 cases h
 exact⟨hi,rfl⟩
theorem Zpc{C:MC G}{fp:Fp}{ex:Addr->Prop}{H1:Hp}{lo:Int}{n:Nat}:IterOk C fp ex H1 true (Itr lo n) (Zc7 lo n):=λH' _ i=>by
 refine⟨λd hd=>?_,λhd=>?_⟩
 ·obtain⟨hi,rfl⟩:=Jk hd
  refine⟨hi,λx H'' hy=>?_⟩
  obtain⟨rfl,rfl⟩:=hy
  exact⟨Same.refl _,.int _⟩
 ·have:=Qw.mp hd
  show n≤i
  simpa using this
noncomputable def iR1(mr:MAt):MIt:=λδ K=>mr δ λrs δ'=>match OT.datas rs with|[.int j]=>(-(2^62)≤j∧j<2^62)∧K (Zc7 0 j.toNat) δ'|_=>False
noncomputable def iR2(mr:MAt):MIt:=λδ K=>mr δ λrs δ'=>match OT.datas rs with|[.int i,.int j]=>(-(2^62)≤i∧i<2^62∧-(2^62)≤j∧j<2^62)∧K (Zc7 i (j-i).toNat) δ'|_=>False
theorem Wr{p' pos:Pos}(hg:Gl X "range")(hm:X.mg "range"=none)(ha:MA X io p c [a] mr)(hs:Xp [a] X.env=[(false,eval a X.env)]:=by rfl):MI X io p true tg (.Call (.Name "range" p') [a] [] pos) (iR1 mr):=by
 obtain⟨_,A,s⟩:=ha
 exact⟨_,Zt2 hg hm A hs,λC H σ δ fp ex K' Q R h kk=>s C H σ δ fp ex _ _ R h λH1 vs rs δ1 fp1 new r1 h1=>by
  have q:=r1.das R
  generalize OT.datas rs=d at q h1
  split at h1
  case h_2=>exact h1.elim
  cases q with
  | cons q1 q2=>
   cases q1
   cases q2
   exact⟨_,rfl,h1.1.1,h1.1.2,kk _ H1 _ δ1 fp1 r1.base r1.stp Zpc h1.2⟩⟩
theorem Zet{p' pos:Pos}(hg:Gl X "range")(hm:X.mg "range"=none)(ha:MA X io p c [a,b] mr)(hs:Xp [a,b] X.env=[(false,eval a X.env),(false,eval b X.env)]:=by rfl)(hs2:Xp [b] X.env=[(false,eval b X.env)]:=by rfl):MI X io p true tg (.Call (.Name "range" p') [a,b] [] pos) (iR2 mr):=by
 obtain⟨_,A,s⟩:=ha
 exact⟨_,Zur hg hm A hs hs2,λC H σ δ fp ex K' Q R h kk=>s C H σ δ fp ex _ _ R h λH1 vs rs δ1 fp1 new r1 h1=>by
  have q:=r1.das R
  generalize OT.datas rs=d at q h1
  split at h1
  case h_2=>exact h1.elim
  cases q with
  | cons q1 q2=>
   cases q1
   cases q2 with
   | cons q2 q3=>
    cases q2
    cases q3
    exact⟨_,_,rfl,h1.1,kk _ H1 _ δ1 fp1 r1.base r1.stp Zpc h1.2⟩⟩
theorem IterOk.at{C:MC G}{fp fp':Fp}{ex:Addr->Prop}{H1 H' H'':Hp}{J:It}{ds:List Xa}{x:V}{d:Xa}(g:∀a,Foot fp' a->Foot fp a∨H1 a=none)(h:Da G H'' (λa=>true=true->(Lf C fp ex a∧H1 a≠none)) x d):Da G H'' (λa=>true=true->Lf C fp' ex a) x d :=
 h.wide λa l _ z=>⟨λw=>(g a w).elim (l z).1.1 (l z).2,(l z).1.2.1,(l z).1.2.2⟩
noncomputable def Z9a(ds:List Xa)(g:MGt)(u:MSt)(D:Zin)(δ1:Zi):Prop:=∃I:Nat->Zi->Prop,I 0 δ1∧(∀(i:Nat) (d:Xa) (δ':Zi),ds[i]? =some d->I i δ'->g d δ' λδ2=>u { D with nx:=I (i+1),ct:=I (i+1),bk:=D.nx } δ2)∧∀δ',I ds.length δ'->D.nx δ'
noncomputable def Yc3(mi:MIt)(g:MGt)(u:MSt):MSt:=λD δ=>mi δ λds δ1=>Z9a ds g u D δ1
theorem Rel.mk0{C:MC G}{H H':Hp}{σ:St}{δ:Zi}{fp:Fp}{ex:Addr->Prop}(R:Rel C io H σ δ fp ex)(s:Same H H'):Rel C io H' σ δ fp ex:=(R.made (new:=[]) s λa m=>nomatch m).drop λa z=>.inl z
theorem Zs1{iter:Expr}{body:List Stmt}{mi:MIt}{g:MGt}{u:MSt}{pos:Pos}(hp:PassesOwn (X6 X.prog X.w) X.A X.env X.xe)(hc:X.calm=true)(hi:MI X io p true tg iter mi)(hg:MG X io true tg g)(hb:MSs X io body u)
  (hs:∀x,BJ iter X.env x=pure x:=by intro _;rfl):MS X io (.For tg iter body [] pos) (Yc3 mi g u):=by
 obtain⟨_,A,s⟩:=hi
 obtain⟨_,G,sg⟩:=hg
 obtain⟨_,B,sb⟩:=hb
 refine⟨_,Z4q hp hc A G B hs,λC H σ δ fp ex D D' R h E=>s C H σ δ fp ex _ _ R h λJ H1 ds δ1 fp1 R1 S1 it h1=>?_⟩
 obtain⟨I,h0,turn,fin⟩:=h1
 refine⟨λi n σ' H'=>n=ds.length-i∧i≤ds.length∧∃δ' fp',Rel C io H' σ' δ' fp' ex∧Kp H1 fp1 H' fp'∧I i δ',⟨ds.length,rfl,Qo _,δ1,fp1,R1,.refl _ _,h0⟩,?_⟩
 rintro i n σ2 H2 ⟨rfl,hle,δ2,fp2,R2,k2,i2⟩
 have itk:=it H2 (λb o e q=>k2.keep b o e (.inr (q.resolve_left (by decide)))) i
 by_cases hlt:i<ds.length
 ·have hd:ds[i]? =some ds[i]:=Xi hlt
  obtain⟨go,yl⟩:=itk.1 _ hd
  refine .inr ⟨go,λσ' H'=>∃δ' fp',Rel C io H' σ' δ' fp' ex∧Kp H1 fp1 H' fp'∧I (i+1) δ',λσ' H' ⟨δ',fp',R',k',i'⟩=>⟨ds.length-(i+1),by omega,rfl,hlt,δ',fp',R',k',i'⟩,λx H3 hy=>?_⟩
  obtain⟨s3,q3⟩:=yl x H3 hy
  have R3:=R2.mk0 s3
  have k3:Kp H1 fp1 H3 fp2:=k2.trans ⟨λb o e _=>s3 _ _ e,λz=>(nomatch z),λa z=>.inl z,s3.al⟩
  refine sg C H3 σ2 δ2 fp2 ex x _ _ _ R3 (IterOk.at (H':=H2) (J:=J) (ds:=ds) k2.grow q3) (turn i _ δ2 hd i2) λσ4 δ4 fp4 R4 k4 h4=>?_
  have k5:=k3.trans k4
  refine sb C H3 σ4 δ4 fp4 ex _ _ R4 h4 ⟨λH' σ' δ' fp' R' k' n'=>⟨δ',fp',R',k5.trans k',n'⟩,λH' σ' δ' fp' R' k' n'=>E.nx H' σ' δ' fp' R' (S1.kp.trans (k5.trans k')) n',λH' σ' δ' fp' R' k' n'=>⟨δ',fp',R',k5.trans k',n'⟩,E.rt⟩
 ·have e:i=ds.length:=by omega
  subst e
  exact .inl ⟨itk.2 (by simp),E.nx H2 σ2 δ2 fp2 R2 (S1.kp.trans k2) (fin δ2 i2)⟩
end
noncomputable def gM(G:Xc)(io:List Nat)(c:Bool)(g:MGt):TG:=λv σ H Q=>∃(C:MC G) (δ:Zi) (fp:Fp) (ex:Addr->Prop) (d:Xa) (k:Zi->Prop),Rel C io H σ δ fp ex∧Da G H (λa=>c=true->Lf C fp ex a) v d∧g d δ k∧
 ∀σ' δ' fp',Rel C io H σ' δ' fp' ex->Kp H fp H fp'->k δ'->Q σ' H
noncomputable def tM(G:Xc)(io:List Nat)(p c:Bool)(m:MEt):TE:=λσ H Q=>∃(C:MC G) (δ:Zi) (fp:Fp) (ex:Addr->Prop) (K:OT->Zi->Prop),Rel C io H σ δ fp ex∧m δ K∧∀H' v r δ' fp' new,RE C io p c H σ δ fp ex H' v r δ' fp' new->K r δ'->Q v H'
noncomputable def ttM(G:Xc)(io:List Nat)(p:Bool)(m:MTt):TT:=λσ H Q=>∃(C:MC G) (δ:Zi) (fp:Fp) (ex:Addr->Prop) (K:Bool->Zi->Prop),Rel C io H σ δ fp ex∧m δ K∧∀H' b δ' fp',Rel C io H' σ δ' fp' ex->Stp p H δ fp H' δ' fp'->K b δ'->Q b H'
noncomputable def MIfs(X:Cx)(io:List Nat)(p:Bool)(ifs:List Expr)(m:MTt):Prop:=∃t,Z2d X ifs t∧STt X.K io p t m
section
variable {X:Cx}{io:List Nat}{p c:Bool}{e tg:Expr}{m:MEt}{mt:MTt}{g:MGt}{ifs:List Expr}
theorem MG.canon(h:MG X io c tg g):PG X tg (gM X.K io c g):=by
 obtain⟨t,A,s⟩:=h
 rintro pins sh σ H v u Q I r ⟨C,δ,fp,ex,d,k,R,q,h,kk⟩
 exact A pins sh σ H v u Q I r (s C H σ δ fp ex v d k Q R q h kk)
theorem ME.canon(h:ME X io p c e m):PE X e (tM X.K io p c m):=by
 obtain⟨t,A,s⟩:=h
 rintro pins sh σ H Q I ⟨C,δ,fp,ex,K,R,h,kk⟩
 exact A pins sh σ H Q I (s C H σ δ fp ex K Q R h kk)
theorem MIfs.canon(h:MIfs X io p ifs mt):Z2d X ifs (ttM X.K io p mt):=by
 obtain⟨t,A,s⟩:=h
 rintro pins sh σ H Q I ⟨C,δ,fp,ex,K,R,h,kk⟩
 exact A pins sh σ H Q I (s C H σ δ fp ex K Q R h kk)
noncomputable def Z3r:MTt:=λδ K=>K true δ
theorem J9:MIfs X io true [] Z3r:=⟨_,Z1x,λC H σ δ fp ex K Q R h kk=>kk H true δ fp R (.refl _ _ _ _) h⟩
theorem Zj2{cnd:Expr}(h:MT X io p cnd mt):MIfs X io p [cnd] mt:=by
 obtain⟨_,A,s⟩:=h
 exact⟨_,Z18 A,s⟩
end
variable {G:Xc}
noncomputable def blk(n:Nat)(caps:List Nat)(δ:Zi):Zi:=X4 n none ++ caps.map λi=>(δ[i]?).getD none
noncomputable def Jw(n:Nat)(caps:List Nat)(fp:Fp):Fp:=λk=>if k<n then[]else match caps[k-n]? with|some i=>fp i|none=>[]
noncomputable def Zbm(n:Nat)(caps:List Nat):List Nat:=(Xr caps.length).map (·+n)
noncomputable def Zyv(C:MC G)(H1:Hp)(fp:Fp)(σ0:St):MC G:=⟨H1,Foot fp,λa=>(C.L a∨C.H₀ a=none)∧¬Foot fp a,σ0⟩
noncomputable def Zg0(ex:Addr->Prop)(D:Addr)(fp fpb:Fp)(a:Addr):Prop:=ex a∨a=D∨(Foot fp a∧¬Foot fpb a)
section
variable {C:MC G}{io:List Nat}{H1 H':Hp}{σ:St}{δ:Zi}{fp:Fp}{ex:Addr->Prop}{own:List Str}{caps:List Nat}{D:Addr}{n:Nat}
theorem Zdq{k:Nat}{a:Addr}(h:a∈Jw n caps fp k):∃i,n≤k∧caps[k-n]? =some i∧a∈fp i:=by
 unfold Jw at h
 split at h
 ·exact nomatch h
 ·split at h
  ·rename_i i e
   exact⟨i,by omega,e,h⟩
  ·exact nomatch h
theorem Zwi{j i:Nat}(h:caps[j]? =some i):Jw n caps fp (n+j)=fp i:=by
 unfold Jw
 rw[if_neg (by omega),show n+j-n=j by omega,h]
theorem Z6d{k:Nat}{t:OT}(h:(blk n caps δ)[k]? =some (some t)):∃i,n≤k∧caps[k-n]? =some i∧δ[i]? =some (some t):=by
 unfold blk at h
 rw[List.getElem?_append]at h
 split at h
 ·rw[Ua]at h
  split at h<;>cases h
 ·rename_i hk
  rw[Vv]at hk h
  rw[Xu]at h
  cases e:caps[k-n]? with
  | none=>rw[e]at h;cases h
  | some i=>
   rw[e]at h
   refine⟨i,by omega,rfl,?_⟩
   simp only[Option.map_some]at h
   cases e2:δ[i]? with
   | none=>rw[e2]at h;cases h
   | some o=>
    rw[e2]at h
    simpa using h
theorem Rel.block(R:Rel C io H1 σ δ fp ex)(nd:caps.Nodup)(hD:H1 D=none) :
  Rel (Zyv C H1 fp (Zad own caps σ)) (Zbm own.length caps) (upd H1 D (.lst [])) (Zad own caps σ) (blk own.length caps δ) (Jw own.length caps fp) (Zg0 ex D fp (Jw own.length caps fp)):=by
 have s:=Yd hD (.lst [])
 have sub:∀a,Foot (Jw own.length caps fp) a->Foot fp a:=λa q91=>by
  obtain⟨k,z⟩:=q91
  obtain⟨i,_,_,z⟩:=Zdq z
  exact⟨i,z⟩
 have neD:∀a,H1 a≠none->a≠D:=λa h z=>h (z▸hD)
 refine⟨by unfold Zad blk;simp,λk t e=>?_,λk h=>?_,λk=>?_,λk l a h1 h2=>?_,λk a h z=>?_,λa z=>?_,λb o e _=>s _ _ e,λb e=>s.free e,λk a h=>?_,λk _=>rfl⟩
 ·obtain⟨i,hk,e1,e2⟩:=Z6d e
  obtain⟨v,e3,o⟩:=R.own i t e2
  refine⟨v,?_,?_⟩
  ·unfold Zad
   rw[BW (by simpa using hk),Xj,Xu,e1]
   simp[e3]
  ·have ef:Jw own.length caps fp k=fp i:=by
    have:=Zwi (n:=own.length) (fp:=fp) e1
    rwa[show own.length+(k-own.length)=k by omega]at this
   rw[ef]
   refine(o.wide λa l q=>⟨λz=>l.1 (sub a z),λz=>?_,.inl ⟨l.2.2,l.1⟩⟩).same s
   rcases z with z|z|z
   ·exact l.2.1 z
   ·exact neD a q z
   ·exact l.1 z.1
 ·unfold Jw
  split
  ·rfl
  ·split
   ·rename_i i e1
    refine R.emp i λt z=>h t ?_
    unfold blk
    rw[BW (by rw[Vv];omega),Vv,Xu,e1]
    simp[z]
   ·rfl
 ·unfold Jw
  split
  ·exact .nil
  ·split
   ·exact R.nd _
   ·exact .nil
 ·obtain⟨i,hk,e1,m1⟩:=Zdq h1
  obtain⟨j,hl,e2,m2⟩:=Zdq h2
  have:=R.dj i j a m1 m2
  subst this
  have hlt:=(Xn.mp e1).1
  have:=(List.getElem?_inj hlt nd).mp (e1.trans e2.symm)
  omega
 ·obtain⟨i,hk,e1,m⟩:=Zdq h
  rcases z with z|z|z
  ·exact R.dx i a m z
  ·exact R.footSome (z▸hD) ⟨i,m⟩
  ·exact z.2 ⟨k,h⟩
 ·rcases z with z|z|z
  ·intro q;exact R.xa a z (s.free q)
  ·subst z;rw[Yl];intro q;cases q
  ·obtain⟨xs,e⟩:=R.foot z.1
   rw[s _ _ e];intro q;cases q
 ·obtain⟨i,hk,e1,m⟩:=Zdq h
  refine .inl ⟨?_,⟨i,m⟩⟩
  have:=(Xn.mp e1).1
  exact Qc.mpr ⟨k-own.length,by simpa using this,by omega⟩
theorem Z36{σ0:St}{fp':Fp}{ex':Addr->Prop}{a:Addr}(hx:∀a,ex a->ex' a)(l:Lf (Zyv C H1 fp σ0) fp' ex' a):Lf C fp ex a∨H1 a=none:=by
 obtain⟨l1,l2,l3⟩:=l
 rcases l3 with l3|l3
 ·exact .inl ⟨l3.2,λz=>l2 (hx a z),l3.1⟩
 ·exact .inr l3
theorem Rel.poke(R:Rel C io H' σ δ fp ex){xs ys:List V}(hx:ex D)(hD:H' D=some (.lst xs))(h0:C.H₀ D=none):Rel C io (upd H' D (.lst ys)) σ δ fp ex:=by
 have nf:¬Foot fp D:=λ⟨i,z⟩=>R.dx i D z hx
 have kp:∀b o,b≠D->H' b=some o->upd H' D (.lst ys) b=some o:=λb o n e=>by rw[Z3 n];exact e
 refine⟨R.len,λi t e=>?_,R.emp,R.nd,R.dj,R.dx,λa z=>?_,λb o e n=>?_,λb e=>?_,R.new,R.io⟩
 ·obtain⟨v,e1,o⟩:=R.own i t e
  refine⟨v,e1,o.frame (λa zs l q=>⟨l,?_⟩) (λa zs q=>kp a _ (λz=>?_) q) λa m zs q=>kp a _ (λz=>nf ⟨i,z▸m⟩) q⟩
  ·have na:a≠D:=λz=>l.2.1 (z▸hx)
   rcases q with q|⟨u,q⟩
   ·exact .inl (kp a _ na q)
   ·exact .inr ⟨u,kp a _ na q⟩
  ·exact ImO.nl q (z▸hD)
 ·by_cases e:a=D
  ·subst e;rw[Yl];intro q;cases q
  ·rw[Z3 e];exact R.xa a z
 ·refine kp b o (λz=>?_) (R.fr b o e n)
  rw[z,h0]at e;cases e
 ·refine R.al b ?_
  by_cases q:b=D
  ·subst q;rw[Yl]at e;cases e
  ·rwa[Z3 q]at e
theorem Owns.poke{L:Addr->Prop}{xs ys zs:List V}{rs:List OT}{as:List Addr}(o:Owns G H' L zs rs as)(hD:H' D=Bp (HO.lst xs))(hL:¬L D)(hn:D∉as):Owns G (upd H' D (.lst ys)) L zs rs as:=by
 refine o.frame (λa zs l q=>⟨l,?_⟩) (λa zs q=>?_) λa m zs q=>?_
 ·have na:a≠D:=λz=>hL (z▸l)
  rcases q with q|⟨u,q⟩
  ·exact .inl (by rw[Z3 na];exact q)
  ·exact .inr ⟨u,by rw[Z3 na];exact q⟩
 ·rw[Z3 (λz=>ImO.nl q (z▸hD))];exact q
 ·have na:a≠D:=λz=>hn (by rw[←z];exact m)
  rw[Z3 na];exact q
theorem Owns.snoc{L:Addr->Prop}{xs:List V}{rs:List OT}{as bs:List Addr}{x:V}{r:OT}(h:Owns G H' L xs rs as)(k:Own G H' L x r bs):Owns G H' L (xs ++ [x]) (rs ++ [r]) (as ++ bs) :=
 Owns.rec (motive_1:=λ_ _ _ _=>True) (motive_2:=λxs rs as _=>Owns G H' L (xs ++ [x]) (rs ++ [r]) (as ++ bs)) (λ_=>trivial) (λ_ _ _=>trivial) (λ_ _ _=>trivial) (λ_ _ _=>trivial) (by have:=Owns.cons k .nil;rwa[Q5]at this) (λk _ _ ih=>by rw[JB];exact .cons k ih) h
end
structure Zx6(C:MC G)(H1:Hp)(fp1:Fp)(ex:Addr->Prop)(n:Nat)(caps:List Nat)(σ0:St)(D:Addr)(pb:Bool)(H':Hp)(σ':St)(δ':Zi)(fp':Fp)(ys:List V)(rs:List OT)(new:List Addr):Prop where
 keep:∀b o,H1 b=some o->(pb=true∨¬Foot (Jw n caps fp1) b)->H' b=some o
 al:∀b,H' b=none->H1 b=none
 dat:H' D=some (.lst ys)
 rel:Rel (Zyv C H1 fp1 σ0) (Zbm n caps) H' σ' δ' fp' (exu (Zg0 ex D fp1 (Jw n caps fp1)) new)
 grow:∀a,Foot fp' a->Foot (Jw n caps fp1) a∨H1 a=none
 own:Owns G H' (λa=>true=true->Lf (Zyv C H1 fp1 σ0) fp' (exu (Zg0 ex D fp1 (Jw n caps fp1)) new) a) ys rs new
 nd:new.Nodup
 fresh:∀a∈new,H1 a=none∧a≠D
section
variable {io:List Nat}{p c pt pe ci:Bool}{g:MGt}{mt:MTt}{me:MEt}{own:List Str}{caps:List Nat}
theorem Zt3{C:MC G}{H1:Hp}{σ:St}{δ1:Zi}{fp1:Fp}{ex:Addr->Prop}{J:It}{ds:List Xa}{D:Addr}{Qf:Hp->Prop}(I:Nat->List OT->Zi->Prop)(R1:Rel C io H1 σ δ1 fp1 ex)
  (it:∀H':Hp,(∀b o,H1 b=some o->((pt&&pe)=true∨¬Foot (Jw own.length caps fp1) b)->H' b=some o)->∀i:Nat,(∀d,ds[i]? =some d->J.go i H'∧∀x H'',J.yld i H' x H''->Same H' H''∧Da G H'' (λa=>ci=true->(Lf C fp1 ex a∧H1 a≠none)) x d)∧(ds[i]? =none->J.stop i H'))
  (nd:caps.Nodup) (hD:H1 D=none) (hz:ds.length≤Xx) (h0:I 0 [] (blk own.length caps δ1))
  (turn:∀(i:Nat) (d:Xa) (rs:List OT) (δ':Zi),ds[i]? =some d->I i rs δ'->g d δ' λδ2=>mt δ2 λb δ3=>if b=true then me δ3 λr δ4=>I (i+1) (rs ++ [r]) δ4 else I (i+1) rs δ3)
  (fin:∀H' σ' δ' fp' ys rs new,Zx6 C H1 fp1 ex own.length caps (Zad own caps σ) D (pt&&pe) H' σ' δ' fp' ys rs new->I ds.length rs δ'->Qf H') :
  Zzr J (gM G (Zbm own.length caps) ci g) (ttM G (Zbm own.length caps) pt mt) (tM G (Zbm own.length caps) pe true me) (Zad own caps σ) D Qf H1:=by
 have hx:Zg0 ex D fp1 (Jw own.length caps fp1) D:=.inr (.inl rfl)
 refine⟨λi n σ' H'=>n=ds.length-i∧i≤ds.length∧∃rs ys new δ' fp',Zx6 C H1 fp1 ex own.length caps (Zad own caps σ) D (pt&&pe) H' σ' δ' fp' ys rs new∧ys.length≤i∧I i rs δ',⟨ds.length,rfl,Qo _,[],[],[],_,_,⟨λb o e _=>Yd hD _ _ _ e,(Yd hD _).al,Yl,?_,λa z=>.inl z,.nil,.nil,λa m=>(nomatch m)⟩,XN _,h0⟩,?_⟩
 ·exact(R1.block nd hD).drop λa z=>Zcu.mp z
 rintro i n σ2 H2 ⟨rfl,hle,rs,ys,new,δ2,fp2,B,hl,i2⟩
 have subB:∀b,Foot (Jw own.length caps fp1) b->Foot fp1 b:=λb q92=>by
  obtain⟨k,z⟩:=q92
  obtain⟨i,_,_,z⟩:=Zdq z
  exact⟨i,z⟩
 have itk:=it H2 B.keep i
 by_cases hlt:i<ds.length
 case neg=>
  have e:i=ds.length:=by omega
  subst e
  exact .inl ⟨itk.2 (by simp),fin H2 σ2 δ2 fp2 ys rs new B i2⟩
 have hd:ds[i]? =some ds[i]:=Xi hlt
 obtain⟨go,yl⟩:=itk.1 _ hd
 refine .inr ⟨go,λx H3 hy=>?_⟩
 obtain⟨s3,q3⟩:=yl x H3 hy
 have R3:=B.rel.mk0 s3
 have D3:H3 D=some (.lst ys):=s3 _ _ B.dat
 -- the item,clean in the block
 have q3':Da G H3 (λa=>ci=true->Lf (Zyv C H1 fp1 (Zad own caps σ)) fp2 (exu (Zg0 ex D fp1 (Jw own.length caps fp1)) new) a) x ds[i]:=by
  refine q3.wide λa l _ z=>?_
  obtain⟨⟨l1,l2,l3⟩,l4⟩:=l z
  refine⟨λw=>?_,λw=>?_,.inl ⟨l3,l1⟩⟩
  ·rcases B.grow a w with w|w
   ·exact l1 (subB a w)
   ·exact l4 w
  ·rcases w with(w|w|w)|w
   ·exact l2 w
   ·subst w;exact l4 hD
   ·exact l1 w.1
   ·exact l4 (B.fresh a w).1
 refine⟨_,δ2,fp2,_,_,_,R3,q3',turn i _ rs δ2 hd i2,λσ4 δ4 fp4 R4 k4 h4=>?_⟩
 refine⟨_,δ4,fp4,_,_,R4,h4,λH5 b δ5 fp5 R5 S5 h5=>?_⟩
 -- the state behind the test
 have keep5:∀b o,H1 b=some o->((pt&&pe)=true∨¬Foot (Jw own.length caps fp1) b)->H5 b=some o:=λb o e q=>by
  refine S5.keep b o (s3 _ _ (B.keep b o e q)) ?_
  rcases q with q|q
  ·rw[XQ]at q;exact .inl q.1
  ·refine .inr λz=>?_
   rcases k4.grow b z with z|z
   ·rcases B.grow b z with z|z
    ·exact q z
    ·rw[e]at z;cases z
   ·rw[s3 _ _ (B.keep b o e (.inr q))]at z;cases z
 have al5:∀b,H5 b=none->H1 b=none:=λb e=>B.al b (s3.al b (S5.al b e))
 have grow4:∀a,Foot fp4 a->Foot (Jw own.length caps fp1) a∨H1 a=none:=λa z=>by
  rcases k4.grow a z with z|z
  ·exact B.grow a z
  ·exact .inr (B.al a (s3.al a z))
 have grow5:∀a,Foot fp5 a->Foot (Jw own.length caps fp1) a∨H1 a=none:=λa z=>by
  rcases S5.grow a z with z|z
  ·exact grow4 a z
  ·exact .inr (B.al a (s3.al a z))
 have D5:H5 D=some (.lst ys):=S5.keep D _ D3 (.inr λ⟨k,z⟩=>R4.dx k D z (.inl hx))
 have own3:=B.own.same s3
 -- the items so far behind the target and the test
 have own4:Owns G H3 (λa=>true=true->Lf (Zyv C H1 fp1 (Zad own caps σ)) fp4 (exu (Zg0 ex D fp1 (Jw own.length caps fp1)) new) a) ys rs new:=by
  refine own3.wide λa l q z=>?_
  obtain⟨l1,l2,l3⟩:=l z
  exact⟨λw=>(k4.grow a w).elim l1 q,l2,l3⟩
 have own5:=R4.owns_step (ex':=exu (Zg0 ex D fp1 (Jw own.length caps fp1)) new) S5 (c:=true) (.inr rfl) (λa z=>.inl z) (λa m=>.inr m) own4
 dsimp only at h5⊢
 cases b with
 | false=>
  rw[if_neg Xm]at h5⊢
  exact⟨ds.length-(i+1),by omega,rfl,hlt,rs,ys,new,δ5,fp5,⟨keep5,al5,D5,R5,grow5,own5,B.nd,B.fresh⟩,by omega,h5⟩
 | true=>
  rw[if_pos rfl]at h5⊢
  refine⟨_,δ5,fp5,_,_,R5,h5,λH6 v r δ6 fp6 nr r6 h6=>?_⟩
  have D6:H6 D=some (.lst ys):=r6.stp.keep D _ D5 (.inr λ⟨k,z⟩=>R5.dx k D z (.inl hx))
  have hDnr:D∉nr:=λz=>by
   have:=r6.fresh D z
   rw[D5]at this;cases this
  have own6:=R5.owns_step (ex':=exu (exu (Zg0 ex D fp1 (Jw own.length caps fp1)) new) nr) r6.stp (c:=true) (.inr rfl) (λa z=>z.imp id λz=>r6.fresh a z) (λa m=>.inr m) own5
  have eqx:∀a,exu (Zg0 ex D fp1 (Jw own.length caps fp1)) (new ++ nr) a->exu (exu (Zg0 ex D fp1 (Jw own.length caps fp1)) new) nr a:=λa z=>by
   rcases z with z|z
   ·exact .inl (.inl z)
   ·rcases QW.mp z with z|z
    ·exact .inl (.inr z)
    ·exact .inr z
  have lw:∀a,(true=true->Lf (Zyv C H1 fp1 (Zad own caps σ)) fp6 (exu (exu (Zg0 ex D fp1 (Jw own.length caps fp1)) new) nr) a)->H6 a≠none->(true=true->Lf (Zyv C H1 fp1 (Zad own caps σ)) fp6 (exu (Zg0 ex D fp1 (Jw own.length caps fp1)) (new ++ nr)) a) :=
   λa l _ z=>⟨(l z).1,λw=>(l z).2.1 (eqx a w),(l z).2.2⟩
  have ownA:=(own6.snoc r6.own).wide lw
  refine⟨ys,D6,by omega,ds.length-(i+1),by omega,rfl,hlt,rs ++ [r],ys ++ [v],new ++ nr,δ6,fp6,⟨λb o e q=>?_,λb e=>?_,Yl,?_,λa z=>?_,?_,?_,λa m=>?_⟩,by rw[XX];show ys.length+1≤i+1;omega,h6⟩
  ·have nD:b≠D:=λz=>by rw[z,hD]at e;cases e
   rw[Z3 nD]
   refine r6.stp.keep b o (keep5 b o e q) ?_
   rcases q with q|q
   ·rw[XQ]at q;exact .inl q.2
   ·refine .inr λz=>?_
    rcases grow5 b z with z|z
    ·exact q z
    ·rw[e]at z;cases z
  ·by_cases q:b=D
   ·subst q;rw[Yl]at e;cases e
   ·rw[Z3 q]at e
    exact al5 b (r6.stp.al b e)
  ·exact(r6.rel.drop eqx).poke (.inl hx) D6 hD
  ·rcases r6.stp.grow a z with z|z
   ·exact grow5 a z
   ·exact .inr (al5 a z)
  ·exact ownA.poke D6 (λz=>(z rfl).2.1 (.inl hx)) (λm=>by
    rcases QW.mp m with m|m
    ·exact(B.fresh D m).2 rfl
    ·exact hDnr m)
  ·refine Vi.mpr ⟨B.nd,r6.nd,λa m b m' z=>?_⟩
   subst z
   obtain⟨xs,e⟩:=own5.some a m
   rw[r6.fresh a m']at e;cases e
  ·rcases QW.mp m with m|m
   ·exact B.fresh a m
   ·exact⟨al5 a (r6.fresh a m),λz=>hDnr (z▸m)⟩
end
variable {G:Xc}
section
variable {X:Cx}{io:List Nat}{p p' c pt pe ci:Bool}{g:MGt}{mt:MTt}{me m:MEt}{mi:MIt}{own:List Str}{caps:List Nat}{e:Expr}
noncomputable def Z63(n:Nat)(caps:List Nat)(ds:List Xa)(g:MGt)(mt:MTt)(me:MEt)(δ1:Zi)(K:OT->Zi->Prop):Prop:=ds.length≤Xx∧∃I:Nat->List OT->Zi->Prop,I 0 [] (blk n caps δ1)∧
 (∀ (i:Nat) (d:Xa) (rs:List OT) (δ':Zi),ds[i]? =some d->I i rs δ'->g d δ' λδ2=>mt δ2 λb δ3=>if b=true then me δ3 λr δ4=>I (i+1) (rs ++ [r]) δ4 else I (i+1) rs δ3)∧
 ∀rs δ',I ds.length rs δ'->K (.nd rs) δ1
noncomputable def Zh2(n:Nat)(caps:List Nat)(mi:MIt)(g:MGt)(mt:MTt)(me:MEt):MEt:=λδ K=>mi δ λds δ1=>Z63 n caps ds g mt me δ1 K
theorem Z14{wi:TI}(si:SI G io p ci wi mi)(nd:caps.Nodup)(hp:(pt&&pe)=true) :
  SE G io p true (Z0q own caps wi (gM G (Zbm own.length caps) ci g) (ttM G (Zbm own.length caps) pt mt) (tM G (Zbm own.length caps) pe true me)) (Zh2 own.length caps mi g mt me):=by
 intro C H σ δ fp ex K Q R h k
 refine si C H σ δ fp ex _ _ R h λJ H1 ds δ1 fp1 R1 S1 it h1 D hD=>?_
 obtain⟨hz,I,h0,turn,fin⟩:=h1
 refine Zt3 I R1 (λH' kp=>it H' λb o e _=>kp b o e (.inl hp)) nd hD hz h0 turn λH' σ' δ' fp' ys rs new B i'=>?_
 have s:Same H1 H':=λb o e=>B.keep b o e (.inl hp)
 refine k H' (.ref D) (.nd rs) δ1 fp1 (D :: new) (RE.tree R R1 S1 s (λa m=>?_) (Qp.mpr ⟨λm=>(B.fresh D m).2 rfl,B.nd⟩) (.nd B.dat (B.own.wide λa l _=>?_))) (fin rs δ' i')
 ·rcases Xq.mp m with rfl|m
  ·exact hD
  ·exact(B.fresh a m).1
 ·refine⟨?_,λm=>?_⟩
  ·rcases Z36 (λa z=>.inl (.inl z)) (l rfl)with z|z
   ·exact .inl λ_=>z
   ·exact .inr z
  ·rcases Xq.mp m with z|z
   ·exact(l rfl).2.1 (.inl (.inr (.inl z)))
   ·exact(l rfl).2.1 (.inr z)
variable {N':List Str}{sc:Uy}{tg elt iter:Expr}{ifs:List Expr}{pos:Pos}
theorem Z6c(S:CompScope X own caps N' sc)(hc:X.calm=true)(nd:caps.Nodup)(hi:MI X io p ci tg iter mi)
  (hg:∀C cells s₂ H₂ fp,MG (Wg X N' sc C cells s₂ H₂ fp) (Zbm own.length caps) ci tg g) (ht:∀C cells s₂ H₂ fp,MIfs (Wg X N' sc C cells s₂ H₂ fp) (Zbm own.length caps) pt ifs mt) (he:∀C cells s₂ H₂ fp,ME (Wg X N' sc C cells s₂ H₂ fp) (Zbm own.length caps) pe true elt me)
  (hp:(pt&&pe)=true:=by rfl) (hs:∀x,BJ iter X.env x=pure x:=by intro _;rfl):ME X io p true (.ListComp elt [⟨tg,iter,ifs,0⟩] sc pos) (Zh2 own.length caps mi g mt me):=by
 obtain⟨_,A,si⟩:=hi
 exact⟨_,Z2q S hc A (λC cells s₂ H₂ fp=>(hg C cells s₂ H₂ fp).canon) (λC cells s₂ H₂ fp=>(ht C cells s₂ H₂ fp).canon) (λC cells s₂ H₂ fp=>(he C cells s₂ H₂ fp).canon) hs,Z14 si nd hp⟩
section
variable {i:Nat}{y:Str}{py spos:Pos}
theorem Zdr(own':Bool)(hN:X.N.Nodup)(hy:X.N[i]? =some y)(hx:Loc X.env.scope y)(S:CompScope X own caps N' sc)(hc:X.calm=true)(nd:caps.Nodup)(hi:MI X io p ci tg iter mi)
  (hg:∀C cells s₂ H₂ fp,MG (Wg X N' sc C cells s₂ H₂ fp) (Zbm own.length caps) ci tg g) (ht:∀C cells s₂ H₂ fp,MIfs (Wg X N' sc C cells s₂ H₂ fp) (Zbm own.length caps) pt ifs mt) (he:∀C cells s₂ H₂ fp,ME (Wg X N' sc C cells s₂ H₂ fp) (Zbm own.length caps) pe true elt me)
  (hp:(pt&&pe)=true:=by rfl) (hio:i∉io:=by decide)
  (hsw:V5 (.ListComp elt [⟨tg,iter,ifs,0⟩] sc pos) (some (.Name y py)) spos.line X.env=pure true:=by rfl)
  (hs:∀x,BJ iter X.env x=pure x:=by intro _;rfl) (hf:X.fn y=true∨X.env.scope.names.lookup y=some .local:=by first|exact .inl rfl|exact .inr rfl|assumption) :
  MS X io (.Assign [.Name y py] (.ListComp elt [⟨tg,iter,ifs,0⟩] sc pos) spos) (if own'=true then Zqd i (Zh2 own.length caps mi g mt me)else Z3b i (Zh2 own.length caps mi g mt me)):=by
 obtain⟨_,A,si⟩:=hi
 refine⟨_,Zqf (g:=gM X.K (Zbm own.length caps) ci g) (tt:=ttM X.K (Zbm own.length caps) pt mt) (te:=tM X.K (Zbm own.length caps) pe true me) hN hy hx S hc A (λC cells s₂ H₂ fp=>(hg C cells s₂ H₂ fp).canon) (λC cells s₂ H₂ fp=>(ht C cells s₂ H₂ fp).canon) (λC cells s₂ H₂ fp=>(he C cells s₂ H₂ fp).canon) hsw hs hf,?_⟩
 cases own'
 ·exact Yca (Z14 si nd hp) hio
 ·exact Z3j (Z14 si nd hp) hio
end
end
variable {G:Xc}
section
variable {X:Cx}{pins:List (Addr×Obj)}{σ:St}{H:Hp}{s:Xg}{l:Addr}{xs:List V}
noncomputable def Z4o(K:Xc):R2:=λx y H Q=>∃l b xs zs,x= .ref l∧y= .ref b∧SqL K H l xs∧SqL K H b zs∧xs.length+zs.length≤Xx∧∀p,H p=none->Q (.ref p) (upd H p (.lst (xs ++ zs)))
theorem Inv.lstQ{K:Xc}(hK:X.K=K)(I:Inv X pins σ H s)(hH:SqL K H l xs):∃(its:List Xd) (n:Nat),Vals xs its∧xs.length=its.length∧∃o,s.heap.get? l=some o∧o.cls= .type "list"∧o.dict=none∧o.data= .seq its.toArray n:=by
 subst hK
 obtain⟨its,r,⟨o,n,e,h1,h2,h3⟩,_⟩:=I.list hH
 exact⟨its,n,r,r.length,o,e,h1,h2,h3⟩
theorem Zhw{K:Xc}(hK:X.K=K):OpR X (Ug .Add) (Z4o K):=by
 intro pins s σ H x y v u Q I rx ry h
 obtain⟨l,b,xs,zs,rfl,rfl,hH,hB,hz,q⟩:=h
 cases rx
 cases ry
 obtain⟨its,n,r,hl,⟨cls,dd,data,sl⟩,ho,hc,_,hd⟩:=I.lstQ hK hH
 obtain⟨its2,n2,r2,hl2,⟨cls2,dd2,data2,sl2⟩,ho2,hc2,_,hd2⟩:=I.lstQ hK hB
 simp only at hc hd hc2 hd2
 subst hc hd hc2 hd2
 have ea:its.toArray ++ its2.toArray=(its ++ its2).toArray:=by simp
 refine concat_meets ⟨_,ho,rfl⟩ ⟨_,ho2,rfl⟩ noFill_list_add seq_list_add PySem.F.slot_list_add PySem.F.entry_list_add (PySem.F.args_list_add_2 _ _) (list_addW l b its.toArray its2.toArray n n2 dd dd2 sl sl2 (by simp only[Xy];omega)) ⟨ho,ho2,?_⟩
 rw[ea]
 exact⟨.ref _,_,I.lnew (t':=s.toks) (r.append r2) (by rw[XX];omega),rfl,q _ I.fresh⟩
end
noncomputable def asI(d:Xa)(k:Int->Prop):Prop:=match d with| .int i=>k i|_=>False
noncomputable def asL(d:Xa)(k:List Xa->Prop):Prop:=match d with| .list ds=>k ds|_=>False
section
variable {H:Hp}{L:Addr->Prop}{v:V}{d:Xa}
theorem Da.intInv{k:Int->Prop}(q:Da G H L v d)(h:asI d k):∃i,v= .int i∧k i:=by
 cases q with
 | int b=>exact⟨b,rfl,h⟩
 | _=>exact h.elim
theorem Da.lstInv{k:List Xa->Prop}(q:Da G H L v d)(h:asL d k):∃a xs ds,v= .ref a∧SqL G H a xs∧Das G H L xs ds∧k ds:=by
 cases q with
 | lst l e r=>exact⟨_,_,_,rfl,.inl e,r,h⟩
 | scr s=>exact⟨_,_,_,rfl,s.sq,.ints _,h⟩
 | _=>exact h.elim
end
noncomputable def d2I(C:Int->Int->Prop)(g:Int->Int->Xa):Xa->Xa->(Xa->Prop)->Prop:=λd e k=>asI d λi=>asI e λj=>C i j∧k (g i j)
noncomputable def Zye(g:Int->Int->Xa):Xa->Xa->(Xa->Prop)->Prop:=λd e k=>asI d λi=>asI e λj=>k (g i j)
theorem Z5m{C:Int->Int->Prop}{f:Int->Int->Int}:P2s G (rI C λi j=>.int (f i j)) (d2I C λi j=>.int (f i j)):=λH L x y d e k Q hx hy h kk=>by
 obtain⟨i,rfl,h⟩:=hx.intInv h
 obtain⟨j,rfl,h⟩:=hy.intInv h
 exact⟨i,j,rfl,rfl,h.1,kk _ _ (.int _) h.2⟩
structure MulOk(i j:Int):Prop where
 ok:IntMulOk i j
structure Yck(i j:Int):Prop where
 ok:DivOk i j
structure Ya9(i j:Int):Prop where
 ok:Z7z i j
theorem Z3z{f:Int->Int->Int}:P2s G (rI IntMulOk λi j=>.int (f i j)) (d2I MulOk λi j=>.int (f i j)):=λH L x y d e k Q hx hy h kk=>by
 obtain⟨i,rfl,h⟩:=hx.intInv h
 obtain⟨j,rfl,h⟩:=hy.intInv h
 exact⟨i,j,rfl,rfl,h.1.ok,kk _ _ (.int _) h.2⟩
theorem Z30{f:Int->Int->Int}:P2s G (rI DivOk λi j=>.int (f i j)) (d2I Yck λi j=>.int (f i j)):=λH L x y d e k Q hx hy h kk=>by
 obtain⟨i,rfl,h⟩:=hx.intInv h
 obtain⟨j,rfl,h⟩:=hy.intInv h
 exact⟨i,j,rfl,rfl,h.1.ok,kk _ _ (.int _) h.2⟩
theorem Z62{f:Int->Int->Int}:P2s G (rI Z7z λi j=>.int (f i j)) (d2I Ya9 λi j=>.int (f i j)):=λH L x y d e k Q hx hy h kk=>by
 obtain⟨i,rfl,h⟩:=hx.intInv h
 obtain⟨j,rfl,h⟩:=hy.intInv h
 exact⟨i,j,rfl,rfl,h.1.ok,kk _ _ (.int _) h.2⟩
theorem Zj3{f:Int->Int->Int}:P2s G (rI0 λi j=>.int (f i j)) (Zye λi j=>.int (f i j)):=λH L x y d e k Q hx hy h kk=>by
 obtain⟨i,rfl,h⟩:=hx.intInv h
 obtain⟨j,rfl,h⟩:=hy.intInv h
 exact⟨i,j,rfl,rfl,kk _ _ (.int _) h⟩
theorem Zi3{f:Int->Int->Bool}:P2s G (rI0 λi j=>.bl (f i j)) (Zye λi j=>.bool (f i j)):=λH L x y d e k Q hx hy h kk=>by
 obtain⟨i,rfl,h⟩:=hx.intInv h
 obtain⟨j,rfl,h⟩:=hy.intInv h
 exact⟨i,j,rfl,rfl,kk _ _ (.bl _) h⟩
section
variable {X:Cx}
noncomputable def Ybe(K:Xc):R2:=λx y H Q=>∃(L L':Addr->Prop) (d e:Xa),Da K H L x d∧Da K H L' y e∧Shp d∧Shp e∧Q (.bl (QC d e)) H
noncomputable def Ybo(K:Xc):R2:=λx y H Q=>∃(L L':Addr->Prop) (d e:Xa),Da K H L x d∧Da K H L' y e∧Shp d∧Shp e∧Q (.bl (!QC d e)) H
theorem Zhm(hu:X.A.units+64<cLine):OpR X (BK .Eq) (Ybe X.K):=by
 intro pins s σ H x y v u Q I rx ry h
 obtain⟨L,L',d,e,h1,h2,s1,s2,q⟩:=h
 obtain⟨as,k1⟩:=h1.reads rfl I rx (Ui s1)
 obtain⟨bs,k2⟩:=h2.reads rfl I ry (Ui s2)
 exact eq_dataH k1 k2 s1 s2 hu ⟨.bl _,H,I,rfl,q⟩
theorem Zn9(hu:X.A.units+64<cLine):OpR X (BK .NotEq) (Ybo X.K):=by
 intro pins s σ H x y v u Q I rx ry h
 obtain⟨L,L',d,e,h1,h2,s1,s2,q⟩:=h
 obtain⟨as,k1⟩:=h1.reads rfl I rx (Ui s1)
 obtain⟨bs,k2⟩:=h2.reads rfl I ry (Ui s2)
 exact ne_dataH k1 k2 s1 s2 hu ⟨.bl _,H,I,rfl,q⟩
end
structure Z44(d:Xa):Prop where
 ok:Shp d
noncomputable def dEq:Xa->Xa->(Xa->Prop)->Prop:=λd e k=>Z44 d∧Z44 e∧k (.bool (QC d e))
noncomputable def dNe:Xa->Xa->(Xa->Prop)->Prop:=λd e k=>Z44 d∧Z44 e∧k (.bool (!QC d e))
theorem Znf:P2s G (Ybe G) dEq:=λH L x y d e k Q hx hy h kk=>⟨L,L,d,e,hx,hy,h.1.ok,h.2.1.ok,kk _ _ (.bl _) h.2.2⟩
theorem Zv8:P2s G (Ybo G) dNe:=λH L x y d e k Q hx hy h kk=>⟨L,L,d,e,hx,hy,h.1.ok,h.2.1.ok,kk _ _ (.bl _) h.2.2⟩
noncomputable def Zfk:Xa->Bool
 | .none=>true
 | _=>false
theorem Da.isNone{H:Hp}{L:Addr->Prop}{v:V}{d:Xa}(h:Da G H L v d):decide (v= .non)=Zfk d:=by
 cases h<;>rfl
noncomputable def Z5w:Xa->Xa->(Xa->Prop)->Prop:=λd e k=>e= .none∧k (.bool (!Zfk d))
theorem Zz6:P2s G (λx y H Q=>y= .non∧Q (.bl (!decide (x= .non))) H) Z5w:=λH L x y d e k Q hx hy h kk=>by
 obtain⟨rfl,h⟩:=h
 cases hy
 exact⟨rfl,by rw[hx.isNone];exact kk _ _ (.bl _) h⟩
noncomputable def scD:Xa->Bool
 | .none=>true
 | .bool _=>true
 | .int _=>true
 | .str _=>true
 | _=>false
noncomputable def eqS:Xa->Xa->Bool
 | .none,.none=>true
 | .bool a,.bool b=>a==b
 | .bool a,.int b=>(if a then 1 else 0)==b
 | .int a,.bool b=>a==(if b then 1 else 0)
 | .int a,.int b=>a==b
 | .str a,.str b=>a==b
 | _,_=>false
noncomputable def memS(d:Xa)(ds:List Xa):Bool:=ds.any λe=>eqS e d
theorem Da.toSc{H:Hp}{L:Addr->Prop}{v:V}{d:Xa}(h:Da G H L v d)(s:scD d=true):ScD v d:=by
 cases h with
 | non=>exact .non
 | bl b=>exact .bl b
 | int i=>exact .int i
 | str x=>exact .str x
 | _=>cases s
theorem Da.sc{H:Hp}{L:Addr->Prop}{v:V}{d:Xa}(h:Da G H L v d)(s:scD d=true):Zhv v=true:=by
 cases h.toSc s<;>rfl
theorem Das.sc{H:Hp}{L:Addr->Prop}{vs:List V}{ds:List Xa}(h:Das G H L vs ds):ds.all scD=true->vs.all Zhv=true :=
 Das.ind (Q:=λvs ds=>ds.all scD=true->vs.all Zhv=true) (λ_=>rfl) (λh _ r s=>by
  rw[List.all_cons,XQ]at s
  rw[List.all_cons,h.sc s.1,r s.2];rfl) h
theorem Da.eqS{H:Hp}{L:Addr->Prop}{v u:V}{d e:Xa}(h:Da G H L v d)(g:Da G H L u e)(s:scD d=true)(t:scD e=true):eqV v u=L2.eqS d e:=by
 cases h.toSc s<;>cases g.toSc t<;>rfl
theorem Das.memS{H:Hp}{L:Addr->Prop}{v:V}{d:Xa}(h:Da G H L v d)(s:scD d=true){vs:List V}{ds:List Xa}(g:Das G H L vs ds):ds.all scD=true->inV v vs=L2.memS d ds :=
 Das.ind (Q:=λvs ds=>ds.all scD=true->inV v vs=L2.memS d ds) (λ_=>rfl) (λg _ r t=>by
  rw[List.all_cons,XQ]at t
  have:=r t.2
  unfold inV L2.memS at*
  rw[List.any_cons,List.any_cons,this,g.eqS h t.1 s]) g
noncomputable def dIn(neg:Bool):Xa->Xa->(Xa->Prop)->Prop:=λd e k=>scD d=true∧match e with
 | .list ds=>ds.all scD=true∧k (.bool (if neg then !memS d ds else memS d ds))
 | .tuple ds=>ds.all scD=true∧k (.bool (if neg then !memS d ds else memS d ds))
 | _=>False
theorem Zux{neg:Bool}:P2s G (rIn G neg) (dIn neg):=λH L x y d e k Q hx hy h kk=>by
 obtain⟨s,h⟩:=h
 cases hy with
 | lst l e r=>exact⟨_,_,rfl,.inl (.inl e),hx.sc s,r.sc h.1,by rw[Das.memS hx s r h.1];exact kk _ _ (.bl _) h.2⟩
 | tup e r=>exact⟨_,_,rfl,.inr (.inl (.inl e)),hx.sc s,r.sc h.1,by rw[Das.memS hx s r h.1];exact kk _ _ (.bl _) h.2⟩
 | scr ks=>exact⟨_,_,rfl,.inl ks.sq,hx.sc s,(Das.ints (G:=G) (H:=H) (L:=L) _).sc h.1,by rw[Das.memS hx s (Das.ints (G:=G) (H:=H) (L:=L) _) h.1];exact kk _ _ (.bl _) h.2⟩
 | _=>exact h.elim
noncomputable def ixD(d e:Xa):Option Xa:=match d,e with
 | .list ds,.int i=>atI ds i
 | .tuple ds,.int i=>atI ds i
 | _,_=>none
noncomputable def dIx:Xa->Xa->(OT->Prop)->Prop:=λd e k=>match ixD d e with|some x=>k (.fz x)|none=>False
theorem Das.atI{H:Hp}{L:Addr->Prop}{xs:List V}{ds:List Xa}{i:Int}{d:Xa}(h:Das G H L xs ds)(e:L2.atI ds i=some d):∃x,L2.atI xs i=some x∧Da G H L x d:=by
 unfold L2.atI at*
 rw[h.length]
 cases q:ixN ds.length i with
 | none=>rw[q]at e;cases e
 | some j=>
  rw[q]at e
  exact h.get e
theorem Z10:P2 G (rIx G) dIx:=λH L x y d e k Q hx hy h kk=>by
 unfold dIx at h
 split at h
 case h_2=>exact h.elim
 rename_i z ez
 have fin:∀v,Da G H L v z->Q v H:=λv q=>kk H v (.fz z) [] (Same.refl _) (.fz (q.wide λa l _=>⟨.inl l,λm=>nomatch m⟩)) .nil (λa m=>nomatch m) h
 cases hx with
 | lst l e1 r=>
  cases hy with
  | int i=>
   obtain⟨v,e2,q⟩:=r.atI (show L2.atI _ i=some z from ez)
   exact .inl ⟨_,_,i,v,rfl,rfl,.inl e1,e2,fin v q⟩
  | _=>cases ez
 | tup e1 r=>
  cases hy with
  | int i=>
   obtain⟨v,e2,q⟩:=r.atI (show L2.atI _ i=some z from ez)
   exact .inr (.inl ⟨_,_,i,v,rfl,rfl,.inl (.inl e1),e2,fin v q⟩)
  | _=>cases ez
 | scr ks=>
  cases hy with
  | int i=>
   obtain⟨v,e2,q⟩:=(Das.ints (G:=G) (H:=H) (L:=L) _).atI (show L2.atI _ i=some z from ez)
   exact .inl ⟨_,_,i,v,rfl,rfl,ks.sq,e2,fin v q⟩
  | _=>cases ez
 | _=>cases ez
theorem Own.list{H:Hp}{L:Addr->Prop}{p:Addr}{xs:List V}{ds:List Xa}(hp:H p=none)(h:Das G H L xs ds):Own G (upd H p (.lst xs)) (λa=>(L a∨H a=none)∧a∉[p]) (.ref p) (.nd (ds.map OT.fz)) [p] :=
 .nd Yl (((h.wide λa l q=>⟨.inl l,λm=>q (by rw[XD.mp m];exact hp)⟩).same (Yd hp _)).owns)
theorem Zal{H:Hp}{p:Addr}(hp:H p=none):∀a∈[p],H a=none:=λa m=>by rw[XD.mp m];exact hp
theorem Zcn(p:Addr):[p].Nodup:=Qp.mpr ⟨λm=>(nomatch m),.nil⟩
noncomputable def dCat:Xa->Xa->(OT->Prop)->Prop:=λd e k=>asL d λds=>asL e λes=>ds.length+es.length≤Xx∧k (.nd ((ds ++ es).map OT.fz))
theorem Zlz:P2 G (Z4o G) dCat:=λH L x y d e k Q hx hy h kk=>by
 obtain⟨a,xs,ds,rfl,e1,r1,h⟩:=hx.lstInv h
 obtain⟨b,ys,es,rfl,e2,r2,h⟩:=hy.lstInv h
 exact⟨a,b,xs,ys,rfl,rfl,e1,e2,by rw[r1.length,r2.length];exact h.1,λp hp=>kk _ _ _ [p] (Yd hp _) (Own.list hp (r1.append r2)) (Zcn p) (Zal hp) h.2⟩
noncomputable def n1(k:Xa->Prop)(ds:List Xa):Prop:=match ds with|[d]=>k d|_=>False
noncomputable def n2(k:Xa->Xa->Prop)(ds:List Xa):Prop:=match ds with|[d,e]=>k d e|_=>False
theorem Das.one{H:Hp}{L:Addr->Prop}{vs:List V}{ds:List Xa}{k:Xa->Prop}(q:Das G H L vs ds)(h:n1 k ds):∃v d,vs=[v]∧ds=[d]∧Da G H L v d∧k d:=by
 cases q with
 | nil=>exact h.elim
 | cons q r=>
  cases r with
  | nil=>exact⟨_,_,rfl,rfl,q,h⟩
  | cons _ _=>exact h.elim
noncomputable def Zwq:Xa->Option Nat
 | .list ds=>some ds.length
 | .tuple ds=>some ds.length
 | _=>none
noncomputable def Ybd:List Xa->(Xa->Prop)->Prop:=λds k=>n1 (λd=>match Zwq d with|some n=>k (.int n)|none=>False) ds
theorem Zje:PNs G (Yb6 G) Ybd:=λH L xs ds k Q hx h kk=>by
 obtain⟨v,d,rfl,rfl,q,h⟩:=hx.one h
 cases q with
 | lst l e r=>exact⟨_,_,rfl,.inl (.inl e),by rw[r.length];exact kk _ _ (.int _) h⟩
 | tup e r=>exact⟨_,_,rfl,.inr (.inl (.inl e)),by rw[r.length];exact kk _ _ (.int _) h⟩
 | scr ks=>exact⟨_,_,rfl,.inl ks.sq,by rw[(Das.ints (G:=G) (H:=H) (L:=L) _).length];exact kk _ _ (.int _) h⟩
 | _=>exact h.elim
noncomputable def Ycl:List Xa->(Xa->Prop)->Prop:=λds k=>n1 (λd=>asI d λi=>k (.int (if i<0 then -i else i))) ds
theorem Zsw:PNs G (λxs H Q=>∃i,xs=[.int i]∧Q (.int (if i<0 then -i else i)) H) Ycl:=λH L xs ds k Q hx h kk=>by
 obtain⟨v,d,rfl,rfl,q,h⟩:=hx.one h
 obtain⟨i,rfl,h⟩:=q.intInv h
 exact⟨i,rfl,kk _ _ (.int _) h⟩
noncomputable def Zo5:Xa->Option (List Xa)
 | .list ds=>some ds
 | .tuple ds=>some ds
 | _=>none
noncomputable def Z61:List Xa->(OT->Prop)->Prop:=λds k=>n1 (λd=>match Zo5 d with|some es=>k (.nd (es.map OT.fz))|none=>False) ds
theorem Z0j:PN G (Zsm G) Z61:=λH L xs ds k Q hx h kk=>by
 obtain⟨v,d,rfl,rfl,q,h⟩:=hx.one h
 cases q with
 | lst l e r=>exact⟨_,_,rfl,.inl (.inl e),λp hp=>kk _ _ _ [p] (Yd hp _) (Own.list hp r) (Zcn p) (Zal hp) h⟩
 | tup e r=>exact⟨_,_,rfl,.inr (.inl (.inl e)),λp hp=>kk _ _ _ [p] (Yd hp _) (Own.list hp r) (Zcn p) (Zal hp) h⟩
 | scr ks=>exact⟨_,_,rfl,.inl ks.sq,λp hp=>kk _ _ _ [p] (Yd hp _) (Own.list hp (Das.ints _)) (Zcn p) (Zal hp) h⟩
 | _=>exact h.elim
section
variable {X:Cx}{io:List Nat}{p c:Bool}{a:Expr}{ma:MEt}{pos:Pos}
noncomputable def Ybz(m:MEt):MEt:=λδ K=>m δ λr δ'=>asI r.data λi=>K (.fz (.int (-i))) δ'
theorem Zp3(ha:ME X io p c a ma):ME X io p true (.UnaryOp .USub a pos) (Ybz ma):=by
 obtain⟨_,A,s⟩:=ha
 exact⟨_,Yak Z6i A,λC H σ δ fp ex K Q R h k=>s C H σ δ fp ex _ _ R h λH' v r δ' fp' new r1 h1=>by
  obtain⟨i,rfl,h1⟩:=(r1.da R).intInv h1
  exact⟨i,rfl,k H' _ _ δ' fp' [] (.fz r1.base r1.stp (.int _)) h1⟩⟩
noncomputable def Zob(T:String):Xa->Bool
 | .none=>false
 | .bool _=>T=="bool"||T=="int"
 | .int _=>T=="int"
 | .str _=>T=="str"
 | .list _=>T=="list"
 | .tuple _=>T=="tuple"
 | .dict _=>false
noncomputable def Ybu(T:String)(m:MEt):MEt:=λδ K=>m δ λr δ'=>Zih r.data=false∧K (.fz (.bool (Zob T r.data))) δ'
end
section
variable {prog:Qa}{w:Qs}{A:Qq}{E:Xd->Xg->Prop}{h:Heap}{g:Array GenState}{d:Drawn}{t:Nat}{os:OsState}{a C:Addr}{o:Obj}{K:Xc}
theorem Z2o(M:Model)(hx:h.get? a=some o)(hc:o.cls= .ref C):JN M h (typeOf (.ref a)) (.ref C):=hc▸(JN.ld hx).andThen .now
theorem Zw6{R:Result->Xg->Prop}(X:K.In h)(Z:Zel K C)(hx:h.get? a=some o)(hc:o.cls= .ref C)(hq:R (.ok (.ret (.ref C))) ⟨h,g,d,t,os⟩) :
  UW (X6 prog w) A (.call (.builtin "getset_descriptor.__get__") ⟨[.builtin "object.__class__",.ref a,.ref C],[]⟩) R ⟨h,g,d,t,os⟩:=by
 have L1:JN (X6 prog w) h (isSubtype (.ref C) (.type (".".intercalate ("object.__class__".cutAt '.').dropLast))) true:=by
  rw[F.owner_object_class]
  exact PySem.W.looks_subIn X Z.isO
 have T5:(⟨h,g,d,t,os⟩:Xg).TypeIs (.builtin "object.__class__") "getset_descriptor" :=F.typeOf_object_class
 refine codeAny_call_builtin F.slot_gs_get.plain F.entry_gs_get (F.slot_gs_get.check _ _ _ _ _ _ _ _ T5 (F.args_gs_get _ _ _) ?_)
 repeat (any_goals (first|assumption|(with_reducible refine Uv hx ?_;rw[hc])|(with_reducible refine Xb (JN.at L1 ?_))|(with_reducible refine JN.at L1 ?_)|wp_step))
 refine⟨Code.quiet_builtin _ (by decide +kernel),Q9 F.entry_object_class ?_⟩
 repeat (any_goals (first|assumption|(with_reducible refine Uv hx ?_;rw[hc])|wp_step))
theorem Zqo{tk:Tok}{Q:Fin->Xg->Prop}(X:K.In h)(Z:Zel K C)(hx:h.get? a=some o)(hc:o.cls= .ref C)(hq:Q (.done (.ret (.ref C))) ⟨h,g,d,t,os⟩) :
  XC (X6 prog w) A (Ba.«object.__getattribute__» ⟨[.ref a,.str "__class__" tk],[]⟩) Q E ⟨h,g,d,t,os⟩:=by
 have T5:(⟨h,g,d,t,os⟩:Xg).TypeIs (.builtin "object.__class__") "getset_descriptor" :=F.typeOf_object_class
 have g5:=F.typeOf_object_class
 have g6:=F.slot_gs_get.lookup
 have g7:=F.slot_gs_set.lookup
 have L4:=PySem.W.looks_findIn (M:=X6 prog w) X Z.cl
 repeat (any_goals (first|assumption|(with_reducible refine Uv hx ?_;rw[hc])|(with_reducible refine Xb (JN.at L4 ?_))|(with_reducible refine JN.at L4 ?_)|wp_step))
 refine Zw6 X Z hx hc ?_
 repeat (any_goals (first|assumption|wp_step))
theorem Zp1{M:Model}{nameV:Xd}{Q:Unit->Xg->Prop}(X:K.In h)(Z:Zel K C)(hx:h.get? a=some o)(hc:o.cls= .ref C)(hq:Q () ⟨h,g,d,t,os⟩) :
  XC M A (checkBuiltinCall "BaseException.__getattribute__" ⟨[.ref a,nameV],[]⟩) Q E ⟨h,g,d,t,os⟩:=by
 have e1:builtinKind "BaseException.__getattribute__"=some .slot:=by decide +kernel
 have e2:splitId "BaseException.__getattribute__"=some ("BaseException","__getattribute__"):=by decide +kernel
 have L1:=PySem.W.looks_subIn (M:=M) X Z.isB
 have e3:=F.args_bexc_ga (.ref a) nameV
 simp only[checkBuiltinCall,e1,e2]
 refine Xb ?_
 unfold isInstance
 repeat (first|(with_reducible refine Uv hx ?_;rw[hc])|(with_reducible refine Xb (JN.at L1 ?_))|(with_reducible refine JN.at L1 ?_)|wp_step)
 exact hq
theorem Zuj{tk:Tok}{R:Result->Xg->Prop}(X:K.In h)(Z:Zel K C)(hx:h.get? a=some o)(hc:o.cls= .ref C)(hq:R (.ok (.ret (.ref C))) ⟨h,g,d,t,os⟩) :
  UW (X6 prog w) A (.call (.builtin "BaseException.__getattribute__") ⟨[.ref a,.str "__class__" tk],[]⟩) R ⟨h,g,d,t,os⟩ :=
 codeAny_call_builtin F.excAttr_ValueError.ga.plain F.entry_bexc_ga (Zp1 X Z hx hc (Zqo X Z hx hc hq))
theorem Zzl{tk:Tok}{fill expr:Bool}{Q:Xd->Xg->Prop}(X:K.In h)(Z:Zel K C)(hx:h.get? a=some o)(hc:o.cls= .ref C)(hq:Q (.ref C) ⟨h,g,d,t,os⟩) :
  XC (X6 prog w) A (getAttrBy (.ref a) (.str "__class__" tk) fill expr) Q E ⟨h,g,d,t,os⟩:=by
 have f3:=F.excAttr_ValueError.ga.bind (.ref a)
 have y0:(expr&&onTheHeap (Value.builtin "BaseException.__getattribute__"))=false:=by cases expr<;>rfl
 have y2:(Value.builtin "BaseException.__getattribute__"==Value.builtin "object.__getattribute__")=false:=by decide +kernel
 have y1:(onTheHeap (Qn C)&&Value.builtin "BaseException.__getattribute__"==Value.builtin "object.__getattribute__")=false:=by rw[y2];rfl
 have L2:=PySem.W.looks_findIn (M:=X6 prog w) X Z.ga
 have L3:=PySem.W.looks_findIn (M:=X6 prog w) X Z.gt
 repeat (any_goals (first|assumption|(with_reducible refine Uv hx ?_;rw[hc])|(with_reducible refine JN.at L2 ?_)|(with_reducible refine JN.at L3 ?_)|(with_reducible refine Xb (JN.at L2 ?_))|(with_reducible refine Xb (JN.at L3 ?_))|wp_step))
 refine Zuj X Z hx hc ?_
 repeat (any_goals (first|assumption|wp_step))
theorem Zrb{Q:Option Xd->Xg->Prop}(X:K.In h)(Z:Zel K C)(hx:h.get? a=some o)(hc:o.cls= .ref C)(hq:Q (some (.ref C)) ⟨h,g,d,t+1,os⟩) :
  XC (X6 prog w) A (getAttr? (.ref a) "__class__") Q E ⟨h,g,d,t,os⟩:=by
 unfold getAttr? getAttrBy?
 repeat (any_goals (first|assumption|with_reducible apply Zzl X Z hx hc|wp_step))
end
theorem Zwu{K:Xc}{a C:Addr}(Z:Zel K C):PySem.W.KitX K (.ref a) (.ref C) (λh=>∃o,h.get? a=some o∧o.cls= .ref C) where
 ty:=λM h _ p=>let⟨_,hx,hc⟩:=p;Z2o M hx hc
 it:=λM h X _=>by
  have z:=Z.isC
  unfold PySem.W.clsIn at z
  split at z
  ·rename_i ho
   intro A' Q' E' s' k q
   unfold isType loadHead
   exact Xb (wpAny_loadPart (k _ _ (X _ _ ho)) (Xl q))
  ·cases z
 ne:=λh tp dd its n sl X htp=>by
  have z:=Z.isC
  refine Vj.mpr λq=>?_
  have e:C=tp:=Qn.inj (beq_iff_eq.mp q)
  subst e
  unfold PySem.W.clsIn at z
  split at z
  ·rename_i ho
   have z:=(X _ _ ho).symm.trans htp
   cases z
  ·cases z
 ca:=fun{_ _ _ _ _ s} X p k=>by
  obtain⟨h,g,d,t,os⟩:=s
  obtain⟨_,hx,hc⟩:=p
  exact Zrb X Z hx hc k
variable {G:Xc}
noncomputable def tyD:Xa->String
 | .none=>"NoneType"
 | .bool _=>"bool"
 | .int _=>"int"
 | .str _=>"str"
 | .list _=>"list"
 | .tuple _=>"tuple"
 | .dict _=>"dict"
theorem Zyo{K:Xc}{T:String}{d:Xa}(h:T="int"∨T="bool"∨T="str"∨T="list"∨T="tuple")(hd:∀kvs,d≠ .dict kvs):Vk K (.type (tyD d)) (.type T)=some (Zob T d):=by
 rcases h with rfl|rfl|rfl|rfl|rfl<;>cases d<;>first|rfl|(exact absurd rfl (hd _))|(unfold Vk PySem.W.kitCls;rfl)|(simp only[tyD,Zob];decide +kernel)
noncomputable def Z9k(G:Xc):List V->Hp->VK->Prop:=λxs H Q=>∃(x:V) (T:String) (L:Addr->Prop) (d:Xa),xs=[x,.ty T]∧Da G H L x d∧Zih d=false∧(T="int"∨T="bool"∨T="str"∨T="list"∨T="tuple")∧Q (.bl (Zob T d)) H
theorem Ztt{X:Cx}(hK:X.K=G):Zd6 X (.builtin "isinstance") (Z9k G):=by
 subst hK
 intro pins s σ H xs us Q I r h
 obtain⟨x,T,L,d,rfl,q,hf,hT,h⟩:=h
 obtain⟨u,w',rfl,r1,r2⟩:=vals2 r
 cases(show w'=Value.type T from r2)
 have fin:∀tk:Nat,EP X pins σ Q (.bool (Zob T d)) { s with toks:=tk }:=λtk=>⟨.bl _,H,I.tok tk,rfl,h⟩
 cases q with
 | non=>exact Zap I r1 .non (Zyo (d:=.none) hT λ_ z=>by cases z) fin
 | bl b=>exact Zap I r1 (.bl b) (Zyo (d:=.bool b) hT λ_ z=>by cases z) fin
 | int b=>exact Zap I r1 (.int b) (Zyo (d:=.int b) hT λ_ z=>by cases z) fin
 | str b=>exact Zap I r1 (.str b) (Zyo (d:=.str b) hT λ_ z=>by cases z) fin
 | lst l e qs=>
  rename_i ds
  rcases e with e|⟨o,e⟩
  ·exact Zap I r1 (.lst e) (Zyo (d:=.list ds) hT λ_ z=>by cases z) fin
  ·exact Zap I r1 (.frz e) (Zyo (d:=.list ds) hT λ_ z=>by cases z) fin
 | tup e qs=>
  rename_i ds
  exact Zap I r1 (.tup e) (Zyo (d:=.tuple ds) hT λ_ z=>by cases z) fin
 | scr ks=>
  rename_i a ns
  cases(show u=Qn a from r1)
  obtain⟨its,vs,⟨o,n,ho,hc,hd,hs⟩,_⟩:=I.list (ks.sq (H:=H))
  exact Q4 PySem.W.kitx_list I.kIn ⟨o,ho,hc⟩ (Zyo (d:=.list (ns.map Xk)) hT λ_ z=>by cases z) (λz=>nomatch z) fin
 | exc Z hn e=>
  rename_i a C x
  cases(show u=Qn a from r1)
  obtain⟨⟨o,vs,ho,hc,_⟩,_,_⟩:=(show ObjOk X.prog X.w H s.heap a (.ext (ExO C a))from I.hok a _ e)
  refine Q4 (Zwu Z) I.kIn ⟨o,ho,hc⟩ (b:=Zob T (exD x)) ?_ (λz=>nomatch z) fin
  rcases hT with rfl|rfl|rfl|rfl|rfl
  ·exact Z.k1
  ·exact Z.k2
  ·exact Z.k3
  ·exact Z.k4
  ·exact Z.k5
 | fn _=>cases hf
 | dic _ _ _ _=>unfold dcD Zih at hf;cases hf
section
variable {X:Cx}{io:List Nat}{p c p' c':Bool}{a b e:Expr}{ma m:MEt}{pos pp p2:Pos}{K:Xc}
theorem Zbv{T:Str}{T':String}(hT:T'="int"∨T'="bool"∨T'="str"∨T'="list"∨T'="tuple")(hg:Gl X "isinstance")(hm:X.mg "isinstance"=none)(hv:Qk "isinstance"=some (.builtin "isinstance"))
  (hg2:Gl X T) (hm2:X.mg T=none) (hv2:Qk T=some (.type T')) (ha:ME X io p c a ma) (hn:T≠"__name__" :=by decide) (hd:(T==("__debug__" : Str))=false:=by decide)
  (he:Xp [a,.Name T p2] X.env=(false,eval a X.env) :: Xp [.Name T p2] X.env:=by rfl) (he2:Xp [.Name T p2] X.env=(false,eval (.Name T p2) X.env) :: Xp [] X.env:=by rfl) (hpl:(JM pos (Xp [.Name T p2] X.env)).any (·.1)=false:=by rfl) :
  ME X io p true (.Call (.Name "isinstance" pp) [a,.Name T p2] [] pos) (Ybu T' ma):=by
 obtain⟨_,A,s⟩:=ha
 refine⟨_,Zkl (Ztt rfl) hg hm hv (Zb3 A (Zb3 (Z2a (v:=.ty T') hg2 hm2 hv2 rfl hn hd) Zgg he2) he) (by decide) (by decide) he hpl,?_⟩
 intro C H σ δ fp ex K' Q R h k
 refine s C H σ δ fp ex _ _ R h λH' v r δ' fp' new r1 h1=>?_
 exact⟨v,T',_,_,rfl,r1.da R,h1.1,hT,k H' _ _ δ' fp' [] (.fz r1.base r1.stp (.bl _)) h1.2⟩
noncomputable abbrev MOt:=Zi->(Option Int->Zi->Prop)->Prop
noncomputable def MO(X:Cx)(io:List Nat)(p:Bool)(e:Option Expr)(m:MOt):Prop:=∃t,PO X e t∧∀(C:MC X.K) (H:Hp) (σ:St) (δ:Zi) (fp:Fp) (ex:Addr->Prop) (K:Option Int->Zi->Prop) (Q:Option Int->Hp->Prop),Rel C io H σ δ fp ex->m δ K ->
 (∀ H' b δ' fp',Rel C io H' σ δ' fp' ex->Stp p H δ fp H' δ' fp'->K b δ'->Q b H')->t σ H Q
noncomputable def Zsi:MOt:=λδ K=>K none δ
noncomputable def Z5r(m:MEt):MOt:=λδ K=>m δ λr δ'=>asI r.data λi=>K (some i) δ'
theorem Zju:MO X io true none Zsi:=⟨_,Zzg,λC H σ δ fp ex K Q R h k=>k H none δ fp R (.refl _ _ _ _) h⟩
theorem Zb2(h:ME X io p c e m):MO X io p (some e) (Z5r m):=by
 obtain⟨_,A,s⟩:=h
 exact⟨_,Z1i A,λC H σ δ fp ex K Q R h k=>s C H σ δ fp ex _ _ R h λH' v r δ' fp' new r1 h1=>by
  obtain⟨i,rfl,h1⟩:=(r1.da R).intInv h1
  exact⟨i,rfl,k H' _ δ' fp' r1.base r1.stp h1⟩⟩
noncomputable def cutD(ds:List Xa)(lo hi:Option Int):List Xa:=(ds.drop (HT.sIx ds.length 0 lo)).take (HT.sIx ds.length ds.length hi-HT.sIx ds.length 0 lo)
theorem Das.cut{H:Hp}{L:Addr->Prop}{xs:List V}{ds:List Xa}(h:Das G H L xs ds)(lo hi:Option Int):Das G H L (Z3c xs lo hi) (cutD ds lo hi):=by
 unfold Z3c cutD
 rw[h.length]
 exact(h.drop _).take _
noncomputable def mSl(m:MEt)(ml mh:MOt):MEt:=λδ K=>m δ λr δ1=>ml δ1 λlo δ2=>mh δ2 λhi δ3=>asL r.data λds=>K (.nd ((cutD ds lo hi).map OT.fz)) δ3
theorem Zrp{lo hi:Option Expr}{ml mh:MOt}(ha:ME X io true c a ma)(hl:MO X io true lo ml)(hh:MO X io true hi mh):ME X io true c (.Subscript a (.Slice lo hi none p2) pos) (mSl ma ml mh):=by
 obtain⟨_,A,s⟩:=ha
 obtain⟨_,B,sl⟩:=hl
 obtain⟨_,D,sh⟩:=hh
 refine⟨_,Zvf (Zvh rfl) A B D,?_⟩
 intro C H σ δ fp ex K' Q R h k
 refine s C H σ δ fp ex _ _ R h λH1 v r δ1 fp1 new r1 h1=>?_
 refine sl C H1 σ δ1 fp1 ex _ _ r1.base h1 λH2 l δ2 fp2 R2 S2 h2=>?_
 refine sh C H2 σ δ2 fp2 ex _ _ R2 h2 λH3 u δ3 fp3 R3 S3 h3=>?_
 have s2:Same H1 H2:=λb o e=>S2.keep b o e (.inl rfl)
 have s3:Same H2 H3:=λb o e=>S3.keep b o e (.inl rfl)
 obtain⟨e1,e2⟩:=r1.stp.env rfl
 obtain⟨e3,e4⟩:=S2.env rfl
 obtain⟨e5,e6⟩:=S3.env rfl
 have q:=((r1.da R).same s2).same s3
 obtain⟨a',xs,ds,rfl,e,qs,h3⟩:=q.lstInv h3
 refine⟨a',xs,rfl,e,λp hp=>?_⟩
 have S:=(r1.stp.trans S2).trans S3
 refine k _ _ _ δ3 fp3 [p] (RE.tree R R3 S (Yd hp _) (Zal hp) (Zcn p) (Own.list hp ((qs.cut l u).wide λa l _=>?_))) h3
 rw[e6,e4]
 exact l
theorem Owns.set{H:Hp}{L:Addr->Prop}{x:V}{r:OT}(hr:Own G H L x r []):∀{xs:List V} {ts:List OT} {as:List Addr} (j:Nat),Owns G H L xs ts as->∃bs,Owns G H L (xs.set j x) (ts.set j r) bs∧bs.Sublist as
 | _,_,_,_,.nil=>⟨[],.nil,.refl _⟩
 | _,_,_,0,.cons k t=>⟨_,.cons hr t,by simp⟩
 | _,_,_,j+1,.cons (as:=as) k t=>by
  obtain⟨bs,o,s⟩:=Owns.set hr j t
  exact⟨as ++ bs,.cons k o,List.Sublist.append_left s as⟩
theorem Owns.get{H:Hp}{L:Addr->Prop}:∀{xs:List V} {ts:List OT} {as:List Addr} {j:Nat} {t:OT},Owns G H L xs ts as->ts[j]? =Bp t->∃x bs,xs[j]? =Bp x∧Own G H L x t bs∧bs.Sublist as
 | _,_,_,_,_,.nil,e=>by simp at e
 | _,_,_,0,_,.cons k _,e=>by simp at e;subst e;exact⟨_,_,rfl,k,List.sublist_append_left _ _⟩
 | _,_,_,j+1,t,.cons _ r,e=>by
  obtain⟨x,bs,h1,h2,h3⟩:=Owns.get (j:=j) (t:=t) r (by simpa using e)
  exact⟨x,bs,by simpa using h1,h2,h3.trans (List.sublist_append_right _ _)⟩
theorem Rel.top{C:MC G}{H:Hp}{σ:St}{δ:Zi}{fp:Fp}{ex:Addr->Prop}{i:Nat}{ts ts':List OT}{a':Addr}{xs ys:List V}{bs bs':List Addr}(R:Rel C io H σ δ fp ex)(hi:δ[i]? =some (some (.nd ts)))(hv:σ[i]? =some (some (.ref a')))
  (hf:fp i=a' :: bs) (hx:H a'=some (.lst xs)) (o:Owns G H (Lf C fp ex) ys ts' bs') (hs:bs'.Sublist bs) :
  Rel C io (upd H a' (.lst ys)) σ (δ.set i (some (.nd ts'))) (fpu fp i (a' :: bs')) ex∧Stp false H δ fp (upd H a' (.lst ys)) (δ.set i (some (.nd ts'))) (fpu fp i (a' :: bs')):=by
 have nd:=R.nd i
 rw[hf]at nd
 have hn:=Qp.mp nd
 have hm:a'∈fp i:=by rw[hf];exact .head _
 have ne':∀a,¬Foot fp a->a≠a':=λa h z=>h ⟨i,by rw[z];exact hm⟩
 have kp:∀b o,H b=some o->b≠a'->upd H a' (.lst ys) b=some o:=λb o e n=>by rw[Z3 n];exact e
 have sub:∀a,a∈a' :: bs'->a∈fp i:=λa m=>by
  rw[hf]
  rcases Xq.mp m with rfl|m
  ·exact .head _
  ·exact .tail _ (hs.subset m)
 have o':Owns G (upd H a' (.lst ys)) (Lf C (fpu fp i (a' :: bs')) (exu ex [])) ys ts' bs':=by
  have f0:∀a,¬Foot fp a->¬Foot (fpu fp i (a' :: bs')) a:=λa h z=>by
   rcases z.of_u with z|⟨j,_,z⟩
   ·exact h ⟨i,sub a z⟩
   ·exact h ⟨j,z⟩
  have f1:∀a (zs:MuO),Lf C fp ex a->Rd H a zs.ho->Lf C (fpu fp i (a' :: bs')) (exu ex []) a∧Rd (upd H a' (.lst ys)) a zs.ho:=λa zs l q=>by
   refine⟨⟨f0 a l.1,λz=>l.2.1 (Zcu.mp z),l.2.2⟩,?_⟩
   rcases q with q|⟨u,q⟩
   ·exact .inl (kp a _ q (ne' a l.1))
   ·exact .inr ⟨u,kp a _ q (ne' a l.1)⟩
  have f2:∀a (zs:ImO),H a=some zs.ho->upd H a' (.lst ys) a=some zs.ho:=λa zs q=>kp a _ q λz=>ImO.nl q (z▸hx)
  exact o.frame f1 f2 λa m zs q=>kp a _ q λz=>hn.1 (hs.subset (z▸m))
 have key:=R.change (new:=[]) (as':=a' :: bs') (t':=.nd ts') (H':=upd H a' (.lst ys)) hi hv (λb o e nb=>kp b o e λz=>nb (by rw[z];exact hm)) (λb e=>by
   by_cases q:b=a'
   ·subst q;rw[Yl]at e;cases e
   ·rwa[Z3 q]at e) (.nd Yl o') (Qp.mpr ⟨λm=>hn.1 (hs.subset m),hn.2.sublist hs⟩) (λa m=>.inl (sub a m)) (λa m=>nomatch m)
 exact⟨key.1.drop λa z=>.inl z,key.2⟩
end
variable {G:Xc}
section
variable {X:Cx}{io:List Nat}{p c p' c':Bool}{a b e:Expr}{ma m mi mj:MEt}{pos pp p2 apos cpos px:Pos}{K:Xc}{i:Nat}{x:Str}
theorem Rel.ownNd{C:MC G}{H:Hp}{σ:St}{δ:Zi}{fp:Fp}{ex:Addr->Prop}{ts:List OT}(R:Rel C io H σ δ fp ex)(hi:δ[i]? =some (some (.nd ts))) :
  ∃a' xs bs,σ[i]? =some (some (.ref a'))∧H a'=some (.lst xs)∧Owns G H (Lf C fp ex) xs ts bs∧fp i=a' :: bs:=by
 obtain⟨v,e,o⟩:=R.own i _ hi
 generalize hf:fp i=as at o
 cases o with
 | nd h r=>exact⟨_,_,_,e,h,r,rfl⟩
noncomputable def Zka(i:Nat)(m:MEt):MSt:=λD δ=>match δ[i]? with
 | some (some (.nd _))=>m δ λr δ1=>match δ1[i]? with
  | some (some (.nd ts))=>ts.length<Xx∧D.nx (δ1.set i (some (.nd (ts ++ [.fz r.data]))))
  | _=>False
 | _=>False
theorem Zar(i:Nat)(he:ME X io p true e m)(hN:X.N[i]? =some x:=by rfl)(hv:Vis X.env.scope x:=by first|exact QH rfl|exact Qx (QH rfl)|exact Qx (Qx rfl))(hd:(x==("__debug__" : Str))=false:=by decide)
  (hcd:(x==("__classdict__" : Str))=false:=by decide)
  (hbase:Uh (.Name x px) "append" X.env (eval (.Name x px) X.env)=eval (.Name x px) X.env:=by rfl)
  (hfew:((JM cpos (Xp [e] X.env)).all (λx=>!x.1)&&(backToKw cpos (U4 [] X.env)).all (λx=>x.1.isSome)
   &&decide ([e].length+([]:List V6).length+(if([]:List V6).isEmpty then 0 else 1)<30))=true:=by rfl)
  (hline:(apos.endLine==cpos.line)=true:=by rfl) (hs:Xp [e] X.env=(false,eval e X.env) :: Xp [] X.env:=by rfl) (hplain:(JM cpos (Xp [] X.env)).any (·.1)=false:=by rfl)
  (hsw:V5 (.Call (.Attribute (.Name x px) "append" apos) [e] [] cpos) none pos.line X.env=pure false:=by rfl) :
  MS X io (.Expr (.Call (.Attribute (.Name x px) "append" apos) [e] [] cpos) pos) (Zka i m):=by
 obtain⟨_,A,s⟩:=he
 refine⟨_,Zn4 (Zvl V3 PySem.F.slot_list_append PySem.F.type_list_append Zl6 (pv i hN hv hd hcd) (Zb3 A Zgg hs) hbase hfew hline hs hplain) hsw,λC H σ δ fp ex D D' R h E=>?_⟩
 unfold Zka at h
 split at h
 case h_2=>exact h.elim
 rename_i ts0 hi0
 obtain⟨a',xs0,bs0,hv0,hx0,_,_⟩:=R.ownNd hi0
 refine⟨_,hv0,.inl ⟨rfl,xs0,.inl (.inl hx0)⟩,?_⟩
 refine s C H σ δ fp ex _ _ R h λH1 v r δ1 fp1 new r1 h1=>?_
 split at h1
 case h_2=>exact h1.elim
 rename_i ts1 hi1
 have R1:=r1.base
 obtain⟨a1,xs1,bs1,hv1,hx1,o1,hf1⟩:=R1.ownNd hi1
 rw[hv0]at hv1
 cases hv1
 have q:=(r1.da R).wide (L':=Lf C fp1 ex) λa l _=>l rfl
 refine⟨a',xs1,v,rfl,rfl,hx1,by rw[o1.length];exact h1.1,?_⟩
 have o2:=o1.snoc (.fz q)
 obtain⟨R2,S2⟩:=R1.top hi1 hv0 hf1 hx1 o2 (by simp)
 exact E.nx _ σ _ _ R2 (r1.stp.kp.trans S2.kp) h1.2
noncomputable def Z6g(i:Nat)(m mi mj:MEt):MSt:=λD δ=>m δ λr δ1=>match δ1[i]? with
 | some (some (.nd ts))=>mi δ1 λn _=>asI n.data λk=>match ixN ts.length k with
  | some j=>match ts[j]? with
   | some (.nd us)=>mj δ1 λn' _=>asI n'.data λk'=>match ixN us.length k' with
    | some j'=>D.nx (δ1.set i (some (.nd (ts.set j (.nd (us.set j' (.fz r.data)))))))
    | none=>False
   | _=>False
  | none=>False
 | _=>False
theorem SE.pureAfter{t:TE}{C:MC G}{H:Hp}{σ:St}{δ:Zi}{fp:Fp}{ex:Addr->Prop}{K':OT->Zi->Prop}{Q:VK}(s:SE G io true c t m)(R:Rel C io H σ δ fp ex)(h:m δ K')(k:∀H' v r,Rel C io H' σ δ fp ex->Same H H'->Da G H' (λa=>c=true->Lf C fp ex a) v r.data->K' r δ->Q v H'):t σ H Q :=
 s C H σ δ fp ex _ _ R h λH1 v r δ1 fp1 new r1 h1=>by
  obtain⟨e1,e2⟩:=r1.stp.env rfl
  have q:=r1.da R
  have R1:=r1.base
  rw[e1]at R1 h1
  rw[e2]at R1 q
  exact k H1 v r R1 (λb o e=>r1.stp.keep b o e (.inl rfl)) q h1
theorem Owns.deep{H:Hp}{L:Addr->Prop}{b':Addr}{ws ws':List V}{us us':List OT}(hb:H b'=Bp (HO.lst ws))(hL:¬L b')(hc:∀cs,Owns G H L ws us cs->∃cs',Owns G H L ws' us' cs'∧cs'.Sublist cs) :
  ∀{xs:List V} {ts:List OT} {as:List Addr} {j:Nat},Owns G H L xs ts as->as.Nodup->xs[j]? =Bp (.ref b')->ts[j]? =Bp (.nd us)->∃as',Owns G (upd H b' (.lst ws')) L xs (ts.set j (.nd us')) as'∧as'.Sublist as∧b'∈as
 | _,_,_,_,.nil,_,e,_=>by simp at e
 | _,_,_,0,.cons (as:=as) (bs:=bs) k t,nd,e,e'=>by
  simp at e e'
  subst e e'
  have nd':=Vi.mp nd
  have kp:∀a o,a≠b'->H a=Bp o->upd H b' (.lst ws') a=Bp o:=λa o n q=>by rw[Z3 n];exact q
  have f1:∀a (zs:MuO),L a->Rd H a zs.ho->L a∧Rd (upd H b' (.lst ws')) a zs.ho:=λa zs l q=>⟨l,by
   have na:a≠b':=λz=>hL (z▸l)
   rcases q with q|⟨u,q⟩
   ·exact .inl (kp a _ na q)
   ·exact .inr ⟨u,kp a _ na q⟩⟩
  have f2:∀a (zs:ImO),H a=Bp zs.ho->upd H b' (.lst ws') a=Bp zs.ho:=λa zs q=>kp a _ (λz=>ImO.nl q (z▸hb)) q
  cases k with
  | nd h r=>
   rename_i xs0 as0
   rw[hb]at h
   cases h
   have nd2:=Qp.mp nd'.1
   obtain⟨cs',o',s'⟩:=hc _ r
   refine⟨b' :: cs' ++ bs,.cons (.nd Yl (o'.frame f1 f2 λa m zs q=>kp a _ (λz=>nd2.1 (s'.subset (z▸m))) q)) (t.frame f1 f2 λa m zs q=>kp a _ (λz=>nd'.2.2 b' (.head _) a m z.symm) q),List.Sublist.append_right (List.Sublist.cons₂ _ s') bs,VJ _ (.head _)⟩
 | _,_,_,j+1,.cons (as:=as) (bs:=bs) k t,nd,e,e'=>by
  have nd':=Vi.mp nd
  obtain⟨as',o,s,m⟩:=Owns.deep hb hL hc (j:=j) t nd'.2.1 (by simpa using e) (by simpa using e')
  have nb:b'∉as:=λz=>nd'.2.2 b' z b' m rfl
  refine⟨as ++ as',.cons ?_ o,List.Sublist.append_left s as,Qg _ m⟩
  have kp:∀a o,a≠b'->H a=Bp o->upd H b' (.lst ws') a=Bp o:=λa o n q=>by rw[Z3 n];exact q
  refine k.frame (λa zs l q=>⟨l,?_⟩) (λa zs q=>kp a _ (λz=>ImO.nl q (z▸hb)) q) λa m' zs q=>kp a _ (λz=>nb (z▸m')) q
  have na:a≠b':=λz=>hL (z▸l)
  rcases q with q|⟨u,q⟩
  ·exact .inl (kp a _ na q)
  ·exact .inr ⟨u,kp a _ na q⟩
theorem Zzm(i:Nat)(he:ME X io p true e m)(hj:ME X io true c a mi)(hk:ME X io true c' b mj)(hPa:Zjw a)(hN:X.N[i]? =some x:=by rfl)(hv:Vis X.env.scope x:=by first|exact QH rfl|exact Qx (QH rfl)|exact Qx (Qx rfl))(hd:(x==("__debug__" : Str))=false:=by decide)
  (hcd:(x==("__classdict__" : Str))=false:=by decide)
  (hpg:∀{to ti:TE},PE X (.Subscript (.Name x px) a pp) to->PE X b ti->PG X (.Subscript (.Subscript (.Name x px) a pp) b p2) (Yc2 to ti Z4a):=by intro _ _ A B;exact Z55 A B set_list)
  (hs:swapsWithSole [.Subscript (.Subscript (.Name x px) a pp) b p2] e pos.line X.env=pure false:=by rfl) (hw:swappedStores [.Subscript (.Subscript (.Name x px) a pp) b p2] e X.env=pure none:=by rfl)
  (h1:(JQ [.Subscript (.Subscript (.Name x px) a pp) b p2] X.env).map (·.2)=[UJ (.Subscript (.Subscript (.Name x px) a pp) b p2) X.env]:=by rfl) :
  MS X io (.Assign [.Subscript (.Subscript (.Name x px) a pp) b p2] e pos) (Z6g i m mi mj):=by
 obtain⟨_,A,s⟩:=he
 obtain⟨_,B,sj⟩:=hj
 obtain⟨_,B2,sk⟩:=hk
 refine⟨_,Zyy A (hpg (Z6s (Zv2 rfl) (pv i hN hv hd hcd) B hPa) B2) hs hw h1,λC H σ δ fp ex D D' R h E=>?_⟩
 refine s C H σ δ fp ex _ _ R h λH1 v r δ1 fp1 new r1 h1=>?_
 have R1:=r1.base
 have q:=(r1.da R).wide (L':=Lf C fp1 ex) λa l _=>l rfl
 split at h1
 case h_2=>exact h1.elim
 rename_i ts hi
 obtain⟨a',_,_,hv0,_⟩:=R1.ownNd hi
 refine⟨_,hv0,?_⟩
 refine sj.pureAfter R1 h1 λH2 w n R2 s2 q2 h2=>?_
 obtain⟨k,rfl,h2⟩:=q2.intInv h2
 split at h2
 case h_2=>exact h2.elim
 rename_i j hj
 split at h2
 case h_2=>exact h2.elim
 rename_i us hus
 -- the row
 obtain⟨a2,xs2,bs2,hv2,hx2,o2,hf2⟩:=R2.ownNd hi
 rw[hv0]at hv2
 cases hv2
 obtain⟨xr,cr,hxr,orow,_⟩:=o2.get hus
 obtain⟨b',rfl⟩:∃b',xr=V.ref b':=by
  cases orow with
  | nd h r=>exact⟨_,rfl⟩
 refine⟨a',xs2,k,V.ref b',rfl,rfl,.inl (.inl hx2),?_,?_⟩
 ·unfold atI
  rw[o2.length,hj]
  exact hxr
 refine sk.pureAfter R2 h2 λH3 w' n' R3 s3 q3 h3=>?_
 obtain⟨k',rfl,h3⟩:=q3.intInv h3
 split at h3
 case h_2=>exact h3.elim
 rename_i j' hj'
 obtain⟨a3,xs3,bs3,hv3,hx3,o3,hf3⟩:=R3.ownNd hi
 rw[hv0]at hv3
 cases hv3
 have exs:xs3=xs2:=by
  have:=s3 _ _ hx2
  rw[hx3]at this
  cases this;rfl
 subst exs
 obtain⟨xr3,cr3,hxr3,orow3,hsub3⟩:=o3.get hus
 rw[hxr]at hxr3
 cases hxr3
 have nd3:=R3.nd i
 rw[hf3]at nd3
 have hn3:=Qp.mp nd3
 cases orow3 with
 | nd hb r3=>
  rename_i ws3 bs4
  have hbm:b'∈bs3:=hsub3.subset (.head _)
  have hbf:b'∈fp1 i:=by rw[hf3];exact .tail _ hbm
  have hLb:¬Lf C fp1 ex b':=λl=>l.1 ⟨i,hbf⟩
  obtain⟨as',oo,ss,_⟩:=Owns.deep (ws':=ws3.set j' v) (us':=us.set j' (.fz r.data)) hb hLb (λcs hcs=>Owns.set (.fz ((q.same s2).same s3)) j' hcs) o3 hn3.2 hxr hus
  refine⟨b',ws3,k',j',rfl,rfl,hb,by rw[r3.length];exact hj',?_⟩
  have hba:a'≠b':=λz=>hn3.1 (z▸hbm)
  -- the change
  have sub:∀a,a∈a' :: as'->a∈fp1 i:=λa m=>by
   rw[hf3]
   rcases Xq.mp m with rfl|m
   ·exact .head _
   ·exact .tail _ (ss.subset m)
  have kp:∀b o,H3 b=some o->b≠b'->upd H3 b' (.lst (ws3.set j' v)) b=some o:=λb o e n=>by rw[Z3 n];exact e
  have lw:∀a,Lf C fp1 ex a->upd H3 b' (.lst (ws3.set j' v)) a≠none->Lf C (fpu fp1 i (a' :: as')) (exu ex []) a:=λa l _=>⟨λz=>by
   rcases z.of_u with z|⟨j,_,z⟩
   ·exact l.1 ⟨i,sub a z⟩
   ·exact l.1 ⟨j,z⟩,λz=>l.2.1 (Zcu.mp z),l.2.2⟩
  obtain⟨R4,S4⟩:=R3.change (new:=[]) (as':=a' :: as') (t':=.nd (ts.set j (.nd (us.set j' (.fz r.data))))) (H':=upd H3 b' (.lst (ws3.set j' v))) hi hv0 (λb o e nb=>kp b o e λz=>nb (by rw[z];exact hbf)) (λb e=>by
    by_cases q:b=b'
    ·subst q;rw[Yl]at e;cases e
    ·rwa[Z3 q]at e) (.nd (by rw[Z3 hba];exact hx3) (oo.wide lw)) (Qp.mpr ⟨λm=>hn3.1 (ss.subset m),hn3.2.sublist ss⟩) (λa m=>.inl (sub a m)) (λa m=>nomatch m)
  have k23:Kp H1 fp1 H3 fp1:=⟨λb o e _=>s3 _ _ (s2 _ _ e),λz=>(nomatch z),λa z=>.inl z,λb e=>s2.al b (s3.al b e)⟩
  exact E.nx _ σ _ _ (R4.drop λa z=>.inl z) (r1.stp.kp.trans (k23.trans S4.kp)) h3
end
variable {G:Xc}
mutual
noncomputable def Z1z:OT->Bool
 | .fz d=>Zgv d
 | .nd ts=>Zsv ts
 | .tp ts=>Zsv ts
 | .dc _ _ _=>false
noncomputable def Zsv:List OT->Bool
 | []=>true
 | t :: ts=>Z1z t&&Zsv ts
end
section
variable {X:Cx}{io:List Nat}{p c:Bool}{e:Expr}{m:MEt}
theorem Rel.freeze{C:MC G}{H:Hp}{σ:St}{δ:Zi}{fp:Fp}{ex:Addr->Prop}{i:Nat}{t:OT}(R:Rel C io H σ δ fp ex)(hio:i∉io)(hi:δ[i]? =some (some t)):Rel C io H σ (δ.set i (some (.fz t.data))) (fpu fp i []) ex:=by
 have hil:i<δ.length:=(Xn.mp hi).1
 have sub:∀j a,a∈fpu fp i [] j->j≠i∧a∈fp j:=λj a m=>by
  by_cases ej:j=i
  ·subst ej;rw[Yk]at m;exact nomatch m
  ·rw[Wf ej]at m;exact⟨ej,m⟩
 have lw:∀a,Lf C fp ex a->Lf C (fpu fp i []) ex a:=λa l=>⟨λ⟨j,z⟩=>l.1 ⟨j,(sub j a z).2⟩,l.2.1,l.2.2⟩
 have ln:∀a∈fp i,Lf C (fpu fp i []) ex a:=λa m=>⟨λ⟨j,z⟩=>(sub j a z).1 (R.dj j i a (sub j a z).2 m),R.dx i a m,.inr (by
  rcases R.new i a m with z|z
  ·exact absurd z.1 hio
  ·exact z)⟩
 refine⟨by rw[Vf];exact R.len,λj t' e=>?_,λj h=>?_,λj=>?_,λj k a h1 h2=>R.dj j k a (sub j a h1).2 (sub k a h2).2,λj a h z=>R.dx j a (sub j a h).2 z,R.xa,R.fr,R.al,λj a h=>R.new j a (sub j a h).2,R.io⟩
 ·by_cases ej:j=i
  ·subst ej
   rw[Q3 hil]at e
   cases e
   obtain⟨v,e1,o⟩:=R.own j t hi
   exact⟨v,e1,by rw[Yk];exact .fz (o.da (λa l _=>lw a l) ln)⟩
  ·rw[Qz (Vs ej)]at e
   obtain⟨w,e1,o⟩:=R.own j t' e
   exact⟨w,e1,by rw[Wf ej];exact o.wide λa l _=>lw a l⟩
 ·by_cases ej:j=i
  ·subst ej;rw[Yk]
  ·rw[Wf ej]
   exact R.emp j λt' z=>h t' (by rw[Qz (Vs ej)];exact z)
 ·by_cases ej:j=i
  ·subst ej;rw[Yk];exact .nil
  ·rw[Wf ej];exact R.nd j
noncomputable def Zjt(i:Nat)(u:MSt):MSt:=λD δ=>match δ[i]? with|some (some t)=>u D (δ.set i (some (.fz t.data)))|_=>False
theorem Zmi{st:Stmt}{u:MSt}(i:Nat)(h:MS X io st u)(hio:i∉io:=by decide):MS X io st (Zjt i u):=by
 obtain⟨_,A,s⟩:=h
 exact⟨_,A,λC H σ δ fp ex D D' R h E=>by
  unfold Zjt at h
  split at h
  case h_2=>exact h.elim
  rename_i t hi
  refine s C H σ _ _ ex D D' (R.freeze hio hi) h (E.shift ⟨λb o e _=>e,λz=>(nomatch z),λa z=>?_,λb e=>e⟩)
  rcases z.of_u with z|⟨j,_,z⟩
  ·exact nomatch z
  ·exact .inl ⟨j,z⟩⟩
end
variable {G:Xc}
noncomputable def Z5i(ds:List Xa)(k:OT->Prop):Prop:=∃ns:List Int,ds=[.list (ns.map Xk)]∧ns.length≤63∧k (.fz (.bool true))
theorem Z66{H:Hp}{a:Addr}{ns:List Int}{E:XK}(hl:ns.length≤63)(h:SqL G H a (ns.map V.int)):spD G Z5i [.ref a] H (λv _=>v= .bl true) E:=by
 refine⟨λ_=>True,[.list (ns.map Xk)],λr=>r= .fz (.bool true),.cons ?_ .nil,⟨ns,rfl,hl,rfl⟩,λr v H' new kr s o _ _=>?_⟩
 ·rcases h with h|h
  ·exact .lst trivial h (.ints ns)
  ·exact .scr h
 ·subst kr
  cases o with
  | fz q=>cases q;rfl
section
variable {P:Qa}{w:Qs}{mg:Str->Option Xd}{base:Heap}{CX:CXT}{n:Nat}{f:Addr}{fd:XR}{ps:List Str}
theorem Da.ints_sq{H:Hp}{L:Addr->Prop}{v:V}{ns:List Int}(h:Da G H L v (.list (ns.map Xk))):∃a,v= .ref a∧SqL G H a (ns.map V.int):=by
 generalize e:Qv (ns.map Xk)=d at h
 cases h with
 | lst l e1 r=>
  cases e
  rw[r.int_inv]at e1
  exact⟨_,rfl,.inl e1⟩
 | scr k=>
  rename_i a ms
  have e':=PyData.list.inj e
  have:ns=ms:=(U7 (λ_ _ h=>by cases h;rfl)).mp e'
  subst this
  exact⟨_,rfl,k.sq⟩
 | _=>cases e
end
@[simp] theorem Zfa:OT.datas []=[]:=rfl
@[simp] theorem Zdk(t:OT)(ts:List OT):OT.datas (t :: ts)=t.data :: OT.datas ts:=rfl
theorem Zmn{α:Type}{xs:List α}{i:Int}(h0:0≤i):atI xs i=xs[i.toNat]?:=by
 unfold atI ixN
 rw[if_pos h0]
 split
 ·rfl
 ·rename_i h
  symm
  exact Qw.mpr (by omega)
theorem Z4y{α:Type}{xs:List α}{i:Nat}:atI xs (i:Int)=xs[i]?:=by
 rw[Zmn (by omega),Qm]
@[simp] theorem Ydo{α:Type}(x:α)(xs:List α):atI (x :: xs) 0=some x:=by
 rw[Zmn (by decide)];rfl
@[simp] theorem Yd6{α:Type}(x y:α)(xs:List α):atI (x :: y :: xs) 1=some y:=by
 rw[Zmn (by decide)];rfl
@[simp] theorem Yd8{α:Type}(x y z:α)(xs:List α):atI (x :: y :: z :: xs) 2=some z:=by
 rw[Zmn (by decide)];rfl
@[simp] theorem Z8e(ds:List Xa)(i:Int):ixD (.list ds) (.int i)=atI ds i:=rfl
@[simp] theorem Yah(ds:List Xa)(i:Int):ixD (.tuple ds) (.int i)=atI ds i:=rfl
@[simp] theorem Z4t(ds:List Xa):Zwq (.list ds)=some ds.length:=rfl
@[simp] theorem Z7s(ds:List Xa):Zwq (.tuple ds)=some ds.length:=rfl
noncomputable def Znb(r:List Rat):Xa:=.list (r.map frD)
noncomputable def tbD(T:List (List Rat)):Xa:=.list (T.map Znb)
noncomputable def Z8f(r:List Rat):OT:=.nd (r.map λq=>.fz (frD q))
noncomputable def tbT(T:List (List Rat)):OT:=.nd (T.map Z8f)
@[simp] theorem Zun(r:List Rat):(Z8f r).data=Znb r:=by
 unfold Z8f Znb
 rw[OT.data_nd,X5]
 rfl
@[simp] theorem Z71(T:List (List Rat)):(tbT T).data=tbD T:=by
 unfold tbT tbD
 rw[OT.data_nd,X5]
 exact congrArg Qv (XH λr _=>Zun r)
noncomputable def Sq(n:Nat)(T:List (List Rat)):Prop:=T.length=n∧∀r∈T,r.length=n
noncomputable def dd(T:List (List Rat))(i j:Nat):Rat:=(T.getD i []).getD j 0
@[simp] theorem Yas(T:List (List Rat)):Zwq (tbD T)=some T.length:=by unfold tbD Zwq;simp
@[simp] theorem Z8j(r:List Rat):Zwq (Znb r)=some r.length:=by unfold Znb Zwq;simp
@[simp] theorem Z9p(q:Rat):Zgv (frD q)=true:=by unfold frD fr;simp[Zgv,Zup]
theorem Zog{n a:Nat}(h:a<n):ixN n (a:Int)=some a:=by
 unfold ixN
 rw[if_pos (by omega),if_pos (by omega)];simp
theorem Sq.ixN{n a:Nat}{T:List (List Rat)}(h:Sq n T)(ha:a<n):ixN (T.map Z8f).length (a:Int)=some a:=Zog (by rw[Xj,h.1];exact ha)
theorem ix3{d1 d2 d3:Xa}{r:Int}(r0:0≤r)(r1:r<3):∃d,(d=d1∨d=d2∨d=d3)∧ixD (.list [d1,d2,d3]) (.int r)=some d:=by
 have:r=0∨r=1∨r=2:=by omega
 rcases this with rfl|rfl|rfl
 ·exact⟨d1,.inl rfl,rfl⟩
 ·exact⟨d2,.inr (.inl rfl),rfl⟩
 ·exact⟨d3,.inr (.inr rfl),rfl⟩
theorem Zku{d:Xa}(h:Yy d=true):QC d d=true:=Zx5 h h rfl
structure Sh(n:Nat)(d:Xa):Prop where
 lay:Bo d=true
 dep:PyData.depth d≤n
theorem Sh.shp{n:Nat}{d:Xa}(h:Sh n d)(hn:n≤64:=by decide):Z44 d:=⟨by
 show(Bo d&&decide (PyData.depth d≤64))=true
 rw[h.lay,decide_eq_true (QT h.dep hn)];rfl⟩
theorem Zli{n:Nat}:∀{ds:List Xa},(∀d∈ds,Sh n d)->JT ds=true∧PyData.depthAll ds≤n
 | [],_=>⟨by rw[JT],by rw[PyData.depthAll];exact Qo _⟩
 | d :: ds,h=>by
  obtain⟨h1,h2⟩:=Zli λe m=>h e (.tail _ m)
  have h3:=h d (.head _)
  refine⟨by rw[JT,h3.lay,h1];rfl,?_⟩
  rw[PyData.depthAll]
  exact Nat.max_le.mpr ⟨h3.dep,h2⟩
theorem Zsx{n:Nat}{ds:List Xa}(h:∀d∈ds,Sh n d):Sh (n+1) (.list ds) :=
 ⟨by rw[Bo];exact(Zli h).1,by rw[PyData.depth];exact Nat.succ_le_succ (Zli h).2⟩
theorem Zxq{n:Nat}{ds:List Xa}(h:∀d∈ds,Sh n d):Sh (n+1) (.tuple ds) :=
 ⟨by rw[Bo];exact(Zli h).1,by rw[PyData.depth];exact Nat.succ_le_succ (Zli h).2⟩
theorem Zr0(i:Int):Sh 0 (.int i):=⟨rfl,Nat.le_of_eq rfl⟩
section
variable {X:Cx}{pins:List (Addr×Obj)}{σ:St}{H:Hp}{s:Xg}
theorem Inv.turnTup{h':Heap}{ch:List Addr}{T:Addr}{xs:List V}{its:List Xd}(I:Inv X pins σ H s)(f:∀b∈ch,Zj6 X pins H b)(k:∀b o,b∉ch->s.heap.get? b=some o->h'.get? b=some o)
  (th:∀b∈ch,∃o,h'.get? b=some o) (hT:s.heap.objs.size≤T) (hz:xs.length≤Xx) (r:Vals xs its) (ht:IsTup h' T its.toArray):Inv X pins σ (upd H T (.tup xs)) { s with heap:=h' }:=by
 have hn:H T=none:=I.hok.fresh hT
 have nch:∀b u,H b=some u->b∉ch:=λb u e z=>by rw[(f b z).1]at e;cases e
 have new:ObjOk X.prog X.w (upd H T (.tup xs)) h' T (.tup xs):=⟨hz,its,r,ht⟩
 refine I.call (ch:=ch) (g':=s.gens) (d':=s.drawn) (t':=s.toks) ⟨λb o e _ _ hc=>k b o hc e,λb o e _ _ hc=>⟨o.slots,k b o hc e⟩,λb o e n _=>?_,λb o e hc=>?_,λb ys e=>?_,λb o u e=>?_,λb ps e=>?_⟩ (λb u e=>?_) I.bare (λb hb=>?_)
 ·rw[Z3 (λz=>by rw[z]at e;exact absurd (XJ e) (Nat.not_lt.mpr hT))];exact n
 ·exact⟨o,k b o hc e⟩
 ·rw[Z3 (Yz e hn)];exact e
 ·rw[Z3 (Yz e hn)];exact e
 ·exact⟨#[],by rw[Z3 (Yz e hn),e];simp⟩
 ·by_cases hb:b=T
  ·subst hb;rw[Yl]at e;cases e;exact new
  ·rw[Z3 hb]at e
   refine(I.hok b u e).stay (λc v hc q=>k c v ?_ q) (λc q=>by rw[Z3 (Yz q hn)];exact q) λc ys q=>by rw[Z3 (Yz q hn)];exact q
   rcases hc with rfl|hc
   ·exact nch _ _ e
   ·exact nch _ _ hc
 ·obtain⟨f0,f1,f2,f3,f4,f5⟩:=f b hb
  exact⟨f3,f1,f4,f5⟩
theorem Inv.turnAll{h':Heap}{ch:List Addr}(I:Inv X pins σ H s)(f:∀b∈ch,Zj6 X pins H b)(k:∀b o,b∉ch->s.heap.get? b=some o->h'.get? b=some o):Inv X pins σ H { s with heap:=h' }:=by
 have nch:∀b u,H b=some u->b∉ch:=λb u e z=>by rw[(f b z).1]at e;cases e
 refine I.call (ch:=ch) (g':=s.gens) (d':=s.drawn) (t':=s.toks) ⟨λb o e _ _ hc=>k b o hc e,λb o e _ _ hc=>⟨o.slots,k b o hc e⟩,λb o e n _=>n,λb o e hc=>⟨o,k b o hc e⟩,λb ys e=>e,λb o u e=>e,λb ps e=>⟨#[],by rw[e];simp⟩⟩ (λb u e=>?_) I.bare (λb hb=>?_)
 ·refine(I.hok b u e).stay (λc v hc q=>k c v ?_ q) (λc q=>q) λc ys q=>q
  rcases hc with rfl|hc
  ·exact nch _ _ e
  ·exact nch _ _ hc
 ·obtain⟨f0,f1,f2,f3,f4,f5⟩:=f b hb
  exact⟨f3,f1,f4,f5⟩
end
variable {G:Xc}
section
variable {X:Cx}{io:List Nat}{p c:Bool}{e a b tg:Expr}{m:MEt}{mr:MAt}
theorem Rel.keptList{C:MC G}{H:Hp}{σ:St}{δ:Zi}{fp:Fp}{ex:Addr->Prop}{v:V}{ds:List Xa}(R:Rel C io H σ δ fp ex)(q:Da G H (λa=>c=true->Lf C fp ex a) v (.list ds)) :
  ∃a xs,v= .ref a∧∀H':Hp,(∀b o,H b=some o->(c=false∨¬Foot fp b)->H' b=some o)->SqL G H' a xs∧Das G H' (λa=>c=true->(Lf C fp ex a∧H a≠none)) xs ds:=by
 generalize hd:Qv ds=d at q
 cases q with
 | lst l e r=>
  cases hd
  rename_i a0 xs0
  refine⟨a0,xs0,rfl,λH' kp=>?_⟩
  obtain⟨f1,f2⟩:=R.kept kp
  exact⟨.inl (f1 _ (.lst _) l e).2,r.frame f1 f2⟩
 | scr k=>
  rename_i a ns
  have:=PyData.list.inj hd
  subst this
  exact⟨a,_,rfl,λH' _=>⟨k.sq,.ints ns⟩⟩
 | _=>cases hd
noncomputable def Zjf(as bs:List Xa):List Xa:=(as.zip bs).map λx=>.tuple [x.1,x.2]
theorem Zo0{as bs:List Xa}{i:Nat}{d:Xa}(h:(Zjf as bs)[i]? =some d):∃x y,as[i]? =some x∧bs[i]? =some y∧d= .tuple [x,y]:=by
 unfold Zjf at h
 rw[Xu]at h
 cases e:(as.zip bs)[i]? with
 | none=>rw[e]at h;cases h
 | some z=>
  rw[e]at h
  cases h
  obtain⟨h1,h2⟩:=List.getElem?_zip_eq_some.mp e
  exact⟨z.1,z.2,h1,h2,rfl⟩
theorem Zt1{as bs:List Xa}{i:Nat}(h:(Zjf as bs)[i]? =none):as.length≤i∨bs.length≤i:=by
 unfold Zjf at h
 have:=Qw.mp h
 simp at this
 omega
@[simp] theorem Z2j(as bs:List Xa):(Zjf as bs).length=min as.length bs.length:=by simp[Zjf]
end
variable {G:Xc}
section
variable {X:Cx}{io:List Nat}{c1 c2 c3:Bool}{a b e:Expr}{ma mb mc:MEt}{pos:Pos}{f g:Int->Int->Bool}
end
theorem Zjc:∀{ns:List Int} {its:List Xd},Vals (ns.map V.int) its->∃xs:List (Int×Tok),its=xs.map (λp=>Vr p.1 p.2)∧xs.map (·.1)=ns
 | [],_,.nil=>⟨[],rfl,rfl⟩
 | n :: ns,_,.cons r rs=>by
  obtain⟨t,e⟩:=(show∃t,_=Vr n t from r)
  obtain⟨xs,h1,h2⟩:=Zjc rs
  exact⟨(n,t) :: xs,by rw[e,h1];rfl,by rw[XF,h2]⟩
section
variable {X:Cx}{io:List Nat}{p c:Bool}{a b e:Expr}{ma mb m:MEt}{pos pl:Pos}
noncomputable def Yb5(m mb:MEt):MEt:=λδ K=>m δ λr δ1=>mb δ1 λn _=>asI n.data λk=>(-(2^63)≤k∧k<2^63∧k.toNat≤Xx)∧K (.nd (X4 k.toNat (.fz r.data))) δ1
theorem Zn7{α:Type}(x:α):∀n:Nat,(X4 n [x]).flatten=X4 n x
 | 0=>rfl
 | n+1=>by rw[Vm,Uj,Zn7 x n];rfl
theorem Das.rep{H:Hp}{L:Addr->Prop}{v:V}{d:Xa}(h:Da G H L v d):∀n:Nat,Das G H L (X4 n v) (X4 n d)
 | 0=>.nil
 | n+1=>.cons h (Das.rep h n)
theorem Yau(ha:ME X io p true a m)(hb:ME X io true c b mb)(hs:Xp [a] X.env=(false,eval a X.env) :: Xp [] X.env:=by rfl):ME X io p true (.BinOp (.List [a] pl) .Mult b pos) (Yb5 m mb):=by
 obtain⟨_,A,sa⟩:=ha
 obtain⟨_,B,sb⟩:=hb
 refine⟨_,Z06 Z3l (Zy6 (Zb3 A Zgg hs)) B,λC H σ δ fp ex K Q R h k=>?_⟩
 refine sa C H σ δ fp ex _ _ R h λH1 v r δ1 fp1 new r1 h1=>⟨(by show 1≤Xx;decide),λl hl=>?_⟩
 have R1:=r1.base
 have s1:=Yd hl (.lst [v])
 refine sb.pureAfter (R1.mk0 s1) h1 λH2 w n R2 s2 q2 h2=>?_
 obtain⟨i,rfl,h2⟩:=q2.intInv h2
 have q:=(((r1.da R).wide (L':=Lf C fp1 ex) λa l _=>l rfl).same s1).same s2
 refine⟨l,i,[v],rfl,rfl,s2 _ _ Yl,h2.1.1,h2.1.2.1,by show 1*i.toNat≤Xx;rw[Nat.one_mul];exact h2.1.2.2,λt ht=>?_⟩
 rw[Zn7]
 have S:Stp p H δ fp H2 δ1 fp1:=by
  have:=r1.stp.trans (p':=true) (Stp.same (p:=true) (δ:=δ1) (fp:=fp1) (s1.trans s2) (s1.trans s2).al)
  rwa[Bool.and_true]at this
 refine k _ _ _ δ1 fp1 [t] (RE.tree R R2 S (Yd ht _) (Zal ht) (Zcn t) ?_) h2.2
 have:=Own.list ht ((Das.rep q i.toNat).wide (L':=λa=>true=true->Lf C fp1 ex a) λa l _ _=>l)
 rwa[List.map_replicate]at this
end
variable {G:Xc}
section
variable {X:Cx}
noncomputable def Z1u:List V->Hp->VK->Prop:=λvs H Q=>∃j:Int,vs=[.int j]∧∀r,H r=none->Q (.ref r) (upd H r (.rng 0 j))
theorem Zr5:Zd6 X (.type "range") Z1u:=by
 intro pins s σ H vs us Q I r h
 obtain⟨j,rfl,q⟩:=h
 obtain⟨u,rfl,t,rfl⟩:=vals1 r
 refine call_range_1 ?_
 exact⟨.ref s.heap.objs.size,_,I.laid (o:=.rng 0 j) (λb o e=>Xe _ e) (XN _) ⟨_,_,_,Xw _ rfl⟩,rfl,q _ I.fresh⟩
noncomputable def Zve(lo:Int)(n:Nat):List V:=(Xr n).map λ(i:Nat)=>V.int (lo+(i:Int))
noncomputable def Zxh:List V->Hp->VK->Prop:=λvs H Q=>∃r lo hi,vs=[.ref r]∧H r=some (.rng lo hi)∧(-(2^62)≤lo∧lo<2^62∧-(2^62)≤hi∧hi<2^62)∧(hi-lo).toNat≤Xx∧∀l,H l=none->Q (.ref l) (upd H l (.lst (Zve lo (hi-lo).toNat)))
theorem Zlk(lo:Int)(n:Nat):Zve lo (n+1)= .int lo :: Zve (lo+1) n:=by
 unfold Zve
 rw[List.range_succ_eq_map,XF,X5]
 congr 1
 ·simp
 ·refine XH λi _=>?_
  show V.int (lo+((i+1:Nat):Int))=V.int (lo+1+(i:Int))
  congr 1
  omega
theorem Zoo:∀(acc:List Xd) (lo:Int),(∀(i:Nat) (v:Xd),acc[i]? =some v->∃t,v=Vr (lo+i) t)->Vals (Zve lo acc.length) acc
 | [],_,_=>.nil
 | v :: acc,lo,h=>by
  rw[BR,Zlk]
  obtain⟨t,e⟩:=h 0 v rfl
  refine .cons ⟨t,by rw[e];simp⟩ (Zoo acc (lo+1) λi w hw=>?_)
  obtain⟨t',e'⟩:=h (i+1) w (by simpa using hw)
  refine⟨t',?_⟩
  rw[e']
  congr 1
  omega
theorem Zjn(hc:X.calm=true):Zd6 X (.type "list") Zxh:=by
 intro pins s σ H vs us Q I r h
 obtain⟨a,lo,hi,rfl,e,hb,hz,q⟩:=h
 obtain⟨u,rfl,ru⟩:=vals1 r
 cases(show u=Qn a from ru)
 obtain⟨t,u',v,e1⟩:=(show ObjOk X.prog X.w H s.heap a (.rng lo hi)from I.hok a _ e)
 refine call_list_range (n:=(hi-lo).toNat) (I.ok.hd hc) e1 ?_ ?_ hz λh' tk acc c' hk hS hacc=>?_
 ·exact small_one hb.1 hb.2.1 hb.2.2.1 hb.2.2.2
 ·rw[rangeSize_one];split<;>omega
 ·refine⟨.ref s.heap.objs.size,_,I.laid (o:=.lst (Zve lo (hi-lo).toNat)) (t':=tk) hk (XN _) ⟨?_,acc.toList,c',?_,by simpa using hS⟩,rfl,q _ I.fresh⟩
  ·simp[Zve];omega
  ·have:=Zoo acc.toList lo λi v hv=>by
    obtain⟨t,e⟩:=hacc.2 i v (by simpa using hv)
    exact⟨t,by rw[e,Int.mul_one]⟩
   rwa[show acc.toList.length=(hi-lo).toNat by simpa using hacc.1]at this
end
end L2
namespace L2
open PySem PySem.Spec PyProof.Rows PySem.SeqAt
variable {G:Xc}
theorem Zrm(lo:Int)(n:Nat):Zc7 lo (n+1)= .int lo :: Zc7 (lo+1) n:=by
 unfold Zc7
 rw[List.range_succ_eq_map,XF,X5]
 congr 1
 ·simp
 ·refine XH λi _=>?_
  show Xk (lo+((i+1:Nat):Int))=Xk (lo+1+(i:Int))
  congr 1
  omega
theorem Das.rng{H:Hp}{L:Addr->Prop}:∀(n:Nat) (lo:Int),Das G H L (Zve lo n) (Zc7 lo n)
 | 0,_=>.nil
 | n+1,lo=>by
  rw[Zlk,Zrm]
  exact .cons (.int _) (Das.rng n _)
section
variable {X:Cx}{io:List Nat}{p c:Bool}{a b e:Expr}{ma mb m:MEt}{mr:MAt}{pos pos' pl pr:Pos}
noncomputable def Ycw(mr:MAt):MEt:=λδ K=>mr δ λrs δ'=>n1 (λd=>asI d λj=>(-(2^62)≤j∧j<2^62∧j.toNat≤Xx)∧K (.nd ((Zc7 0 j.toNat).map OT.fz)) δ') (OT.datas rs)
theorem Z51{C:MC G}{H H1:Hp}{σ:St}{δ δ1:Zi}{fp fp1:Fp}{ex:Addr->Prop}{r l:Addr}{lo hi:Int}{n:Nat}(R:Rel C io H σ δ fp ex)(R1:Rel C io H1 σ δ1 fp1 ex)(S:Stp p H δ fp H1 δ1 fp1)(hr:H1 r=none)
  (hl:upd H1 r (.rng lo hi) l=none):RE C io p true H σ δ fp ex (upd (upd H1 r (.rng lo hi)) l (.lst (Zve lo n))) (.ref l) (.nd ((Zc7 lo n).map OT.fz)) δ1 fp1 [l]:=by
 have s1:=Yd hr (.rng lo hi)
 have S':Stp p H δ fp (upd H1 r (.rng lo hi)) δ1 fp1:=by
  have:=S.trans (p':=true) (Stp.same (p:=true) (δ:=δ1) (fp:=fp1) s1 s1.al)
  rwa[Bool.and_true]at this
 exact RE.tree R (R1.mk0 s1) S' (Yd hl _) (Zal hl) (Zcn l) (Own.list hl (Das.rng n lo))
theorem Zml(hc:X.calm=true)(hgl:Gl X "list")(hml:X.mg "list"=none)(hvl:Qk "list"=some (.type "list"))(hg:Gl X "range")(hm:X.mg "range"=none)(hv:Qk "range"=some (.type "range"))(ha:MA X io p c [a] mr)
  (he:Xp [a] X.env=(false,eval a X.env) :: Xp [] X.env:=by rfl) (hpl:(JM pos' (Xp [] X.env)).any (·.1)=false:=by rfl)
  (he':Xp [.Call (.Name "range" pr) [a] [] pos'] X.env=(false,eval (.Call (.Name "range" pr) [a] [] pos') X.env) :: Xp [] X.env:=by rfl) (hpl':(JM pos (Xp [] X.env)).any (·.1)=false:=by rfl) :
  ME X io p true (.Call (.Name "list" pl) [.Call (.Name "range" pr) [a] [] pos'] [] pos) (Ycw mr):=by
 obtain⟨_,A,s⟩:=ha
 refine⟨_,Zhs (Zjn hc) hgl hml hvl (Zb3 (Zhs Zr5 hg hm hv A (he:=he) (hpl:=hpl)) Zgg he') (he:=he') (hpl:=hpl'),λC H σ δ fp ex K Q R h kk=>s C H σ δ fp ex _ _ R h λH1 vs rs δ1 fp1 new r1 h1=>?_⟩
 obtain⟨v,d,rfl,e2,q,h2⟩:=(r1.das R).one h1
 obtain⟨j,rfl,h2⟩:=q.intInv h2
 refine⟨j,rfl,λr hr=>⟨r,0,j,rfl,Yl,⟨by decide,by decide,h2.1.1,h2.1.2.1⟩,by rw[Int.sub_zero];exact h2.1.2.2,λl hl=>?_⟩⟩
 rw[Int.sub_zero]
 exact kk _ _ _ δ1 fp1 [l] (Z51 R r1.base r1.stp hr hl) h2.2
end
theorem Zj5:∀{ns:List Int} {its:List Xd},Vals (ns.map V.int) its->Q6 its ns
 | [],_,.nil=>.nil
 | n :: ns,_,.cons r rs=>by
  obtain⟨t,e⟩:=(show∃t,_=Vr n t from r)
  rw[e]
  exact .cons n t (Zj5 rs)
section
variable {X:Cx}{io:List Nat}{p c:Bool}{a b e:Expr}{ma mb m:MEt}{mr:MAt}{pos pos' pl pr:Pos}
noncomputable def Z5z(K:Xc):V->List V->Hp->VK->Prop:=λx vs H Q=>∃(l:Addr) (ns:List Int) (k:Int),x= .ref l∧vs=[.int k]∧SqL K H l (ns.map V.int)∧ns.length≤2^20∧k∈ns∧Q (.int (ns.idxOf k:Nat)) H
theorem Zvx{K:Xc}(hK:X.K=K):MtR X "list.index" (Z5z K):=by
 subst hK
 intro pins s σ H x vs v us Q I rx rv h
 obtain⟨l,ns,k,rfl,rfl,hs,hb,hk,q⟩:=h
 cases rx
 obtain⟨u,rfl,t,rfl⟩:=vals1 rv
 obtain⟨its,rw',pl,hz⟩:=I.list hs
 have hi:=Zj5 rw'
 obtain⟨⟨cls,dd,data,sl⟩,ho,hc,n,hd⟩:=id pl.isList
 simp only at hc hd
 subst hc hd
 have hlen:=hi.length
 have hj:ns.idxOf k<ns.length:=List.idxOf_lt_length_iff.mpr hk
 refine call_meets PySem.F.slot_list_index ⟨_,ho,rfl⟩ PySem.F.entry_list_index (PySem.F.args_list_index_2 _ _)
  (list_indexAt l its.toArray n dd sl (.int k t) (isInt k) (ns.idxOf k) (by simpa [hlen]using hj) (by omega) ?_ ?_) ⟨ho,λy hy=>(eq_isInt k t hi y (by simpa using hy)).at _ _,⟨.int (ns.idxOf k:Nat),H,I.kept (h':=s.heap) (λb o e=>e),⟨_,rfl⟩,q⟩⟩
 ·show isInt k its[ns.idxOf k]=true
  rw[isInt_at k hi _ (by omega) hj]
  simpa using List.getElem_idxOf hj
 ·intro j hjs hlt
  show isInt k its[j]=false
  rw[isInt_at k hi j (by simpa using hjs) (by omega)]
  exact ne_of_lt_idxOf hlt _
noncomputable def Zya(m mb:MEt):MEt:=λδ K=>m δ λr δ1=>∃ns:List Int,r.data= .list (ns.map Xk)∧ns.length≤2^20∧mb δ1 λn δ2=>asI n.data λk=>k∈ns∧K (.fz (.int (ns.idxOf k:Nat))) δ2
theorem Z0z{o:Expr}{apos cpos:Pos}(ho:ME X io true true o m)(he:ME X io true c e mb)
  (hbase:Uh o "index" X.env (eval o X.env)=eval o X.env:=by rfl)
  (hfew:((JM cpos (Xp [e] X.env)).all (λx=>!x.1)&&(backToKw cpos (U4 [] X.env)).all (λx=>x.1.isSome)
   &&decide ([e].length+([]:List V6).length+(if([]:List V6).isEmpty then 0 else 1)<30))=true:=by rfl)
  (hline:(apos.endLine==cpos.line)=true:=by rfl) (hs:Xp [e] X.env=(false,eval e X.env) :: Xp [] X.env:=by rfl) (hplain:(JM cpos (Xp [] X.env)).any (·.1)=false:=by rfl) :
  ME X io true true (.Call (.Attribute o "index" apos) [e] [] cpos) (Zya m mb):=by
 obtain⟨_,A,sa⟩:=ho
 obtain⟨_,B,sb⟩:=he
 refine⟨_,Zvl V3 PySem.F.slot_list_index PySem.F.type_list_index (Zvx rfl) A (Zb3 B Zgg hs) hbase hfew hline hs hplain,λC H σ δ fp ex K Q R h kk=>?_⟩
 refine sa.pureAfter R h λH1 v r R1 s1 q1 h1=>?_
 obtain⟨ns,e1,hb,h1⟩:=h1
 rw[e1]at q1
 obtain⟨a,rfl,hsq⟩:=q1.ints_sq
 refine⟨.inl ⟨rfl,_,hsq⟩,?_⟩
 refine sb.pureAfter R1 h1 λH2 w n R2 s2 q2 h2=>?_
 obtain⟨k,e2,h2⟩:=q2.intInv h2
 subst e2
 obtain⟨a',ea,hs'⟩:=(q1.same s2).ints_sq
 cases ea
 have s12:Same H H2:=s1.trans s2
 exact⟨a,ns,k,rfl,rfl,hs',hb,h2.1,kk H2 _ _ δ fp [] (.fz R2 (.same s12 s12.al) (.int _)) h2.2⟩
noncomputable def Z72(i:Nat)(m:MEt):MEt:=λδ K=>match δ[i]? with
 | some (some (.nd _))=>m δ λn δ1=>match δ1[i]? with
  | some (some (.nd ts))=>asI n.data λj=>match ixN ts.length j with
   | some k=>match ts[k]? with
    | some (.fz d)=>ts.length≤Xx∧K (.fz d) (δ1.set i (some (.nd (ts.eraseIdx k))))
    | _=>False
   | none=>False
  | _=>False
 | _=>False
theorem Owns.erase{H:Hp}{L:Addr->Prop}:∀{xs:List V} {ts:List OT} {as:List Addr} {k:Nat} {d:Xa},Owns G H L xs ts as->ts[k]? =Bp (.fz d)->Owns G H L (xs.eraseIdx k) (ts.eraseIdx k) as
 | _,_,_,_,_,.nil,e=>by simp at e
 | _,_,_,0,d,.cons q r,e=>by
  simp at e
  subst e
  cases q
  exact r
 | _,_,_,k+1,d,.cons q r,e=>.cons q (Owns.erase (k:=k) r (by simpa using e))
theorem Z95{x:Str}{px:Pos}{apos cpos:Pos}(i:Nat)(he:ME X io p c e m)(hN:X.N[i]? =some x:=by rfl)(hv:Vis X.env.scope x:=by first|exact QH rfl|exact Qx (QH rfl)|exact Qx (Qx rfl))(hd:(x==("__debug__" : Str))=false:=by decide)
  (hcd:(x==("__classdict__" : Str))=false:=by decide)
  (hbase:Uh (.Name x px) "pop" X.env (eval (.Name x px) X.env)=eval (.Name x px) X.env:=by rfl)
  (hfew:((JM cpos (Xp [e] X.env)).all (λx=>!x.1)&&(backToKw cpos (U4 [] X.env)).all (λx=>x.1.isSome)
   &&decide ([e].length+([]:List V6).length+(if([]:List V6).isEmpty then 0 else 1)<30))=true:=by rfl)
  (hline:(apos.endLine==cpos.line)=true:=by rfl) (hs:Xp [e] X.env=(false,eval e X.env) :: Xp [] X.env:=by rfl) (hplain:(JM cpos (Xp [] X.env)).any (·.1)=false:=by rfl) :
  ME X io false true (.Call (.Attribute (.Name x px) "pop" apos) [e] [] cpos) (Z72 i m):=by
 obtain⟨_,A,s⟩:=he
 refine⟨_,Zvl V3 PySem.F.slot_list_pop PySem.F.type_list_pop Zxf (pv i hN hv hd hcd) (Zb3 A Zgg hs) hbase hfew hline hs hplain,λC H σ δ fp ex K Q R h kk=>?_⟩
 unfold Z72 at h
 split at h
 case h_2=>exact h.elim
 rename_i ts0 hi0
 obtain⟨a',xs0,bs0,hv0,hx0,_,_⟩:=R.ownNd hi0
 refine⟨_,hv0,.inl ⟨rfl,xs0,.inl (.inl hx0)⟩,?_⟩
 refine s C H σ δ fp ex _ _ R h λH1 v r δ1 fp1 new r1 h1=>?_
 split at h1
 case h_2=>exact h1.elim
 rename_i ts1 hi1
 obtain⟨j,rfl,h1⟩:=(r1.da R).intInv h1
 split at h1
 case h_2=>exact h1.elim
 rename_i k hk
 split at h1
 case h_2=>exact h1.elim
 rename_i d hd1
 have R1:=r1.base
 obtain⟨a1,xs1,bs1,hv1,hx1,o1,hf1⟩:=R1.ownNd hi1
 rw[hv0]at hv1
 cases hv1
 obtain⟨y,cs,hy,oy,_⟩:=o1.get hd1
 have qy:Da X.K H1 (Lf C fp1 ex) y d:=by cases oy;assumption
 obtain⟨z1,z2,z3,z4⟩:=Zn0 hk
 have hz:=h1.1
 have hsz:Xx=16777216:=Qj
 refine⟨a',xs1,j,k,y,rfl,rfl,hx1,by omega,by omega,by rw[o1.length];exact z1,hy,?_⟩
 obtain⟨R2,S2⟩:=R1.top hi1 hv0 hf1 hx1 (o1.erase hd1) (List.Sublist.refl _)
 have S:=(r1.stp.trans S2).cast (p':=false) λz=>nomatch z
 refine kk _ _ _ _ _ [] (.fz R2 S ?_) h1.2
 have ne':∀a,¬Foot fp1 a->a≠a':=λa h z=>h ⟨i,by rw[z,hf1];exact .head _⟩
 have f0:∀a,¬Foot fp1 a->¬Foot (fpu fp1 i (a' :: bs1)) a:=λa h z=>by
  rcases z.of_u with z|⟨j,_,z⟩
  ·exact h ⟨i,by rw[hf1];exact z⟩
  ·exact h ⟨j,z⟩
 refine qy.frame (λa zs l q=>⟨λ_=>⟨f0 a l.1,l.2.1,l.2.2⟩,?_⟩) λa zs q=>?_
 ·rcases q with q|⟨u,q⟩
  ·exact .inl (by rw[Z3 (ne' a l.1)];exact q)
  ·exact .inr ⟨u,by rw[Z3 (ne' a l.1)];exact q⟩
 ·rw[Z3]
  ·exact q
  ·intro z
   exact ImO.nl q (z▸hx1)
end
end L2
namespace L2
open PySem PySem.Spec PyProof.Rows
structure Apart(X:Cx)(pins:List (Addr×Obj))(H:Hp)(b:Addr):Prop where
 fr:H b=none
 new:X.s₀.heap.get? b=none
 loc:b≠X.env.locals
 cel:∀x c,X.env.cells.lookup x=some c->c≠b
 pin:∀p∈X.pn ++ pins,p.1≠b
section
variable {X:Cx}{pins:List (Addr×Obj)}{σ:St}{H H':Hp}{s:Xg}{h':Heap}{b a C:Addr}
noncomputable def Fl(ap:Addr->Prop)(C a:Addr)(fl:Xd)(h:Heap):Prop:=∃a0 oe vs T oT ts,h.get? a=some oe∧(oe.cls= .ref C∧vs[0]? =some a0)∧oe.data= .fields vs∧vs[1]? =some (.ref T)∧T≠a∧h.get? T=some oT∧oT.data= .fields ts∧ts[3]? =some fl∧ap a∧ap T
noncomputable def Fl0(ap:Addr->Prop)(C a:Addr)(h:Heap):Prop:=∃a0 oe vs,h.get? a=some oe∧(oe.cls= .ref C∧vs[0]? =some a0)∧oe.data= .fields vs∧vs[1]? =some .none∧ap a
noncomputable def FlA(ap:Addr->Prop)(fl:Xd)(C a:Addr)(h:Heap):Prop:=Fl ap C a .none h∨Fl0 ap C a h∨Fl ap C a fl h
section
variable {M:Model}{A:Qq}{E:Xd->Xg->Prop}{Q:Unit->Xg->Prop}{ch:List Addr}
end
end
noncomputable def Zp4(K:Xc)(C:Addr):Prop:=PySem.W.excIn K C [.type "ValueError",.type "Exception",.type "BaseException",.type "object"] "ValueError.__new__"=true
noncomputable abbrev MXt:=Zi->(Addr->Zi->Prop)->Prop
noncomputable def XW(X:Cx)(C:MC X.K)(io:List Nat)(pins:List (Addr×Obj))(ex:Addr->Prop)(H:Hp)(fp:Fp)(k:Addr->Zi->Prop)(e:Xd)(s':Xg):Prop :=
 ∃a cl σ' H' δ' fp',e= .ref a∧Inv X pins σ' H' s'∧FlA (Apart X pins H') (JL X.env.locals) cl a s'.heap∧Rel C io H' σ' δ' fp' ex∧Kp H fp H' fp'∧k cl δ'
noncomputable def XS(X:Cx)(io:List Nat)(st:Stmt)(m:MXt):Prop:=∀(C:MC X.K) (pins:List (Addr×Obj)) (s:Xg) (σ:St) (H:Hp) (δ:Zi) (fp:Fp) (ex:Addr->Prop) (k:Addr->Zi->Prop),Inv X pins σ H s->Rel C io H σ δ fp ex->m δ k ->
 XC (X6 X.prog X.w) X.A (exec st X.env) (λ_ _=>False) (XW X C io pins ex H fp k) s
noncomputable def XSs(X:Cx)(io:List Nat)(sts:List Stmt)(m:MXt):Prop:=∀(C:MC X.K) (pins:List (Addr×Obj)) (s:Xg) (σ:St) (H:Hp) (δ:Zi) (fp:Fp) (ex:Addr->Prop) (k:Addr->Zi->Prop),Inv X pins σ H s->Rel C io H σ δ fp ex->m δ k ->
 XC (X6 X.prog X.w) X.A (execs sts X.env) (λ_ _=>False) (XW X C io pins ex H fp k) s
section
variable {X:Cx}{io:List Nat}{p c:Bool}{e:Expr}{es:List Expr}{mr:MAt}{m:MXt}{pos:Pos}{st:Stmt}{sts a b:List Stmt}{u:MSt}{w v:MXt}{mt:MTt}{i:Nat}{x:Str}
end
section
variable {P:Qa}{w:Qs}{K:Xc}{mg:Str->Option Xd}{base:Heap}
end
section
variable {X:Cx}{io:List Nat}{p c:Bool}{e:Expr}{es:List Expr}{mr:MAt}{pos pp:Pos}{k:Nat}{f:Addr}{fd:XR}{ps:List Str}{x:Str}
end
section
variable {X:Cx}{pins:List (Addr×Obj)}{σ:St}{H:Hp}{s:Xg}{a C:Addr}
noncomputable abbrev Cx.suite(X:Cx)(a:Addr):Cx:={ X with A:=X.A.mark (some (.ref a)),calm:=false }
end
theorem Zyu(b:Bool)(k:Bool->Prop):asB (.bool b) k=k b:=rfl
inductive Z8w:V->Xd->Prop where
 | own (D:Addr):Z8w (.ref D) (.ref D)
 | ty (T:String):Z8w (.ty T) (.type T)
inductive ClsVs:List V->List Xd->Prop where
 | nil:ClsVs [] []
 | cons {v:V} {c:Xd} {vs:List V} {cs:List Xd}:Z8w v c->ClsVs vs cs->ClsVs (v :: vs) (c :: cs)
theorem ClsVs.length:∀{vs:List V} {cs:List Xd},ClsVs vs cs->vs.length=cs.length
 | _,_,.nil=>rfl
 | _,_,.cons _ t=>by simp[t.length]
section
variable {X:Cx}{io:List Nat}{p c:Bool}{a b:Expr}{ma:MEt}{pos pp p2:Pos}
end
end L2
namespace L2
open PySem PySem.Spec PyProof.Rows PySem.P
section
variable {prog:Qa}{w:Qs}{A:Qq}{E:Xd->Xg->Prop}{s:Xg}{e t0 C:Addr}{o:Obj}{vs:Array Xd}{K:Xc}{m:Str}{tk:Tok}
structure Yc7(s:Xg)(e C t0:Addr)(m:Str)(tk:Tok):Prop where
 ob:∃o vs,s.heap.get? e=some o∧o.cls= .ref C∧o.data= .fields vs∧vs[0]? =some (.ref t0)
 tx:s.heap.TupAt t0 [.str m tk]
end
section
variable {X:Cx}{C:Addr}{x j:Str}{jk:Nat}{np cpos pos kp p1:Pos}
end
end L2
namespace L2
open PySem PySem.Spec PyProof.Rows
noncomputable abbrev FE:=Zi->Option (OT×Zi)
noncomputable abbrev FA:=Zi->Option (List OT×Zi)
noncomputable abbrev FT:=Zi->Option (Bool×Zi)
noncomputable abbrev FI:=Zi->Option (List Xa×Zi)
noncomputable abbrev FO:=Zi->Option (Option Int×Zi)
noncomputable abbrev FG:=Xa->Zi->Option Zi
noncomputable abbrev FGs:=List Xa->Zi->Option Zi
noncomputable def o2{α:Type}(f:Zi->Option (α×Zi)):Zi->(α->Zi->Prop)->Prop:=λδ K=>∃r δ',f δ=some (r,δ')∧K r δ'
noncomputable def oG(g:FG):MGt:=λd δ k=>∃δ',g d δ=some δ'∧k δ'
noncomputable def oGs(g:FGs):Zu5:=λd δ k=>∃δ',g d δ=some δ'∧k δ'
section
variable {X:Cx}{io:List Nat}{p c:Bool}{e tg:Expr}{es:List Expr}{m m':MEt}{mr mr':MAt}{mt mt':MTt}{mi mi':MIt}{g g':MGt}{gs gs':Zu5}{mo mo':MOt}{st:Stmt}{sts:List Stmt}{u u':MSt}{eo:Option Expr}
theorem ME.weak(h:ME X io p c e m)(w:∀δ K,m' δ K->m δ K):ME X io p c e m':=let⟨t,A,s⟩:=h;⟨t,A,λC H σ δ fp ex K Q R h k=>s C H σ δ fp ex K Q R (w δ K h) k⟩
theorem MA.weak(h:MA X io p c es mr)(w:∀δ K,mr' δ K->mr δ K):MA X io p c es mr':=let⟨t,A,s⟩:=h;⟨t,A,λC H σ δ fp ex K Q R h k=>s C H σ δ fp ex K Q R (w δ K h) k⟩
theorem MT.weak(h:MT X io p e mt)(w:∀δ K,mt' δ K->mt δ K):MT X io p e mt':=let⟨t,A,s⟩:=h;⟨t,A,λC H σ δ fp ex K Q R h k=>s C H σ δ fp ex K Q R (w δ K h) k⟩
theorem MW.weak(h:MW X io p e mt)(w:∀δ K,mt' δ K->mt δ K):MW X io p e mt':=let⟨t,A,s⟩:=h;⟨t,A,λC H σ δ fp ex K Q R h k=>s C H σ δ fp ex K Q R (w δ K h) k⟩
theorem MIfs.weak(h:MIfs X io p es mt)(w:∀δ K,mt' δ K->mt δ K):MIfs X io p es mt':=let⟨t,A,s⟩:=h;⟨t,A,λC H σ δ fp ex K Q R h k=>s C H σ δ fp ex K Q R (w δ K h) k⟩
theorem MI.weak(h:MI X io p c tg e mi)(w:∀δ K,mi' δ K->mi δ K):MI X io p c tg e mi':=let⟨t,A,s⟩:=h;⟨t,A,λC H σ δ fp ex K Q R h k=>s C H σ δ fp ex K Q R (w δ K h) k⟩
theorem MO.weak(h:MO X io p eo mo)(w:∀δ K,mo' δ K->mo δ K):MO X io p eo mo':=let⟨t,A,s⟩:=h;⟨t,A,λC H σ δ fp ex K Q R h k=>s C H σ δ fp ex K Q R (w δ K h) k⟩
theorem MG.weak(h:MG X io c tg g)(w:∀d δ K,g' d δ K->g d δ K):MG X io c tg g':=let⟨t,A,s⟩:=h;⟨t,A,λC H σ δ fp ex v d k Q R q h kk=>s C H σ δ fp ex v d k Q R q (w d δ k h) kk⟩
theorem MGs.weak(h:MGs X io c es gs)(w:∀d δ K,gs' d δ K->gs d δ K):MGs X io c es gs':=let⟨t,A,s⟩:=h;⟨t,A,λC H σ δ fp ex v d k Q R q h kk=>s C H σ δ fp ex v d k Q R q (w d δ k h) kk⟩
theorem MS.weak(h:MS X io st u)(w:∀D δ,u' D δ->u D δ):MS X io st u':=let⟨t,A,s⟩:=h;⟨t,A,λC H σ δ fp ex D D' R h E=>s C H σ δ fp ex D D' R (w D δ h) E⟩
theorem MSs.weak(h:MSs X io sts u)(w:∀D δ,u' D δ->u D δ):MSs X io sts u':=let⟨t,A,s⟩:=h;⟨t,A,λC H σ δ fp ex D D' R h E=>s C H σ δ fp ex D D' R (w D δ h) E⟩
end
noncomputable def Zd(i:Nat):FE:=λδ=>match δ[i]? with|some (some (.fz d))=>some (.fz d,δ)|_=>none
noncomputable def Zq0(i:Nat):FE:=λδ=>match δ[i]? with|some (some t)=>some (.fz t.data,δ)|_=>none
noncomputable def fC(d:Xa):FE:=λδ=>some (.fz d,δ)
noncomputable def Zf(g:Xa->Xa->Option Xa)(a b:FE):FE:=λδ=>(a δ).bind λp=>(b p.2).bind λq=>(g p.1.data q.1.data).bind λd=>some (.fz d,q.2)
noncomputable def Ye(g:Xa->Xa->Option OT)(a b:FE):FE:=λδ=>(a δ).bind λp=>(b p.2).bind λq=>(g p.1.data q.1.data).bind λd=>some (d,q.2)
noncomputable def fUn(g:Xa->Option Xa)(a:FE):FE:=λδ=>(a δ).bind λp=>(g p.1.data).bind λd=>some (.fz d,p.2)
noncomputable def Zqw(a b:FE):FE:=λδ=>(a δ).bind λp=>match p.1.data with| .bool true=>b p.2| .bool false=>some (.fz (.bool false),p.2)|_=>none
noncomputable def fOr(a b:FE):FE:=λδ=>(a δ).bind λp=>match p.1.data with| .bool true=>some (.fz (.bool true),p.2)| .bool false=>b p.2|_=>none
noncomputable def fIf(t:FT)(a b:FE):FE:=λδ=>(t δ).bind λp=>if p.1=true then a p.2 else b p.2
noncomputable def tV(e:FE):FT:=λδ=>(e δ).bind λp=>match p.1 with| .fz (.bool b)=>some (b,p.2)|_=>none
noncomputable def tNo(t:FT):FT:=λδ=>(t δ).bind λp=>some (!p.1,p.2)
noncomputable def tAn(t u:FT):FT:=λδ=>(t δ).bind λp=>if p.1=true then u p.2 else some (false,p.2)
noncomputable def tO(t u:FT):FT:=λδ=>(t δ).bind λp=>if p.1=true then some (true,p.2)else u p.2
noncomputable def tD(e:FE):FT:=λδ=>(e δ).bind λp=>(Zxg p.1.data).bind λb=>some (b,p.2)
noncomputable def Zq:FA:=λδ=>some ([],δ)
noncomputable def Zc(e:FE)(a:FA):FA:=λδ=>(e δ).bind λp=>(a p.2).bind λq=>some (p.1 :: q.1,q.2)
noncomputable def Zif(a:FA):FE:=λδ=>(a δ).bind λp=>if p.1.length≤Xx then some (.fz (.tuple (OT.datas p.1)),p.2)else none
noncomputable def Zdu(a:FA):FE:=λδ=>(a δ).bind λp=>if p.1.length≤Xx then some (.nd p.1,p.2)else none
noncomputable def Yaa(e:FE):FE:=λδ=>(e δ).bind λp=>if Zgv p.1.data=true then some (.fz p.1.data,p.2)else none
noncomputable def Z6b(e:FE):FE:=λδ=>(e δ).bind λp=>if Z1z p.1=true then some (p.1,p.2)else none
inductive RF where
 | ok (r:OT)
 | exn (c:Str)
 | bad
noncomputable abbrev FD:=List Xa->RF
noncomputable abbrev FIO:=OT->List Xa->Option (OT×OT)
noncomputable def Zu(F:FD)(a:FA):FE:=λδ=>(a δ).bind λp=>match F (OT.datas p.1)with| .ok r=>some (r,p.2)|_=>none
noncomputable def Zyd(i:Nat)(F:FIO)(a:FA):FE:=λδ=>match δ[i]? with
 | some (some _)=>(a δ).bind λp=>match p.2[i]? with
  | some (some t)=>(F t (OT.datas p.1)).bind λq=>some (q.1,p.2.set i (some q.2))
  | _=>none
 | _=>none
noncomputable def Zbx(g:List Xa->Option Xa)(a:FA):FE:=λδ=>(a δ).bind λp=>(g (OT.datas p.1)).bind λd=>some (.fz d,p.2)
noncomputable def fBl(g:List Xa->Option OT)(a:FA):FE:=λδ=>(a δ).bind λp=>(g (OT.datas p.1)).bind λd=>some (d,p.2)
noncomputable def Zfc(T:String)(e:FE):FE:=λδ=>(e δ).bind λp=>if Zih p.1.data=true then none else some (.fz (.bool (Zob T p.1.data)),p.2)
noncomputable def oN:FO:=λδ=>some (none,δ)
noncomputable def oI(e:FE):FO:=λδ=>(e δ).bind λp=>match p.1.data with| .int i=>some (some i,p.2)|_=>none
noncomputable def fSl(e:FE)(lo hi:FO):FE:=λδ=>(e δ).bind λp=>(lo p.2).bind λq=>(hi q.2).bind λr=>match p.1.data with| .list ds=>some (.nd ((cutD ds q.1 r.1).map OT.fz),r.2)|_=>none
noncomputable def Zgi(e:FE):FI:=λδ=>(e δ).bind λp=>match p.1.data with| .list ds=>some (ds,p.2)|_=>none
noncomputable def iTp(e:FE):FI:=λδ=>(e δ).bind λp=>match p.1.data with| .tuple ds=>some (ds,p.2)|_=>none
noncomputable def rOk(j:Int):Bool:=decide (-(2^62)≤j)&&decide (j<2^62)
theorem Zdg{j:Int}(h:rOk j=true):-(2^62)≤j∧j<2^62:=by
 unfold rOk at h
 rw[XQ]at h
 exact⟨of_decide_eq_true h.1,of_decide_eq_true h.2⟩
theorem Zjj{j:Int}(h0:-1000000≤j)(h1:j≤1000000):rOk j=true:=by
 unfold rOk
 rw[decide_eq_true (show -(2^62)≤j by omega),decide_eq_true (show j<2^62 by omega)];rfl
noncomputable def iRa(a:FA):FI:=λδ=>(a δ).bind λp=>match OT.datas p.1 with|[.int j]=>if rOk j=true then some (Zc7 0 j.toNat,p.2)else none|_=>none
noncomputable def iRb(a:FA):FI:=λδ=>(a δ).bind λp=>match OT.datas p.1 with|[.int i,.int j]=>if(rOk i&&rOk j)=true then some (Zc7 i (j-i).toNat,p.2)else none|_=>none
noncomputable def Z6e(a:FA):FI:=λδ=>(a δ).bind λp=>match OT.datas p.1 with|[.list as,.list bs]=>some (Zjf as bs,p.2)|_=>none
noncomputable def gNm(i:Nat):FG:=λd δ=>some (δ.set i (some (.fz d)))
noncomputable def Ydy(i:Nat):FG:=λd δ=>if Zgv d=true then some (δ.set i (some (.fz d)))else none
noncomputable def gNl:FGs:=λds δ=>match ds with|[]=>some δ|_=>none
noncomputable def gCn(g:FG)(gs:FGs):FGs:=λds δ=>match ds with|d :: r=>(g d δ).bind (gs r)|[]=>none
noncomputable def gTp(n:Nat)(gs:FGs):FG:=λd δ=>match d with| .tuple ds=>if ds.length=n then gs ds δ else none|_=>none
noncomputable def gLs(n:Nat)(gs:FGs):FG:=λd δ=>match d with| .list ds=>if ds.length=n then gs ds δ else none|_=>none
noncomputable def compLoop(g:FG)(t:FT)(e:FE):List Xa->Zi->Option (List OT×Zi)
 | [],δ=>some ([],δ)
 | d :: ds,δ=>(g d δ).bind λδ1=>(t δ1).bind λp=>if p.1=true then(e p.2).bind λq=>(compLoop g t e ds q.2).bind λz=>some (q.1 :: z.1,z.2)else compLoop g t e ds p.2
noncomputable def Wj(n:Nat)(caps:List Nat)(it:FI)(g:FG)(t:FT)(e:FE):FE:=λδ=>(it δ).bind λp=>if p.1.length≤Xx then(compLoop g t e p.1 (blk n caps p.2)).bind λz=>some (.nd z.1,p.2)else none
noncomputable def Zg2:FT:=λδ=>some (true,δ)
inductive RS where
 | nx (δ:Zi)
 | rt (r:OT) (δ:Zi)
 | bk (δ:Zi)
 | ct (δ:Zi)
 | ex (c:Str) (δ:Zi)
 | bad
noncomputable abbrev FS:=Zi->RS
noncomputable def RS.fits(D:Zin):RS->Prop
 | .nx δ=>D.nx δ
 | .rt r δ=>D.rt r δ
 | .bk δ=>D.bk δ
 | .ct δ=>D.ct δ
 | _=>False
noncomputable def oS(f:FS):MSt:=λD δ=>(f δ).fits D
noncomputable def xS(K:Xc)(f:FS):MXt:=λδ k=>∃c C δ',f δ= .ex c δ'∧ClsAt K c C∧k C δ'
noncomputable def Z4(f g:FS):FS:=λδ=>match f δ with| .nx δ'=>g δ'|r=>r
noncomputable def fNx:FS:=λδ=>.nx δ
noncomputable def Yda:FS:=λδ=>.bk δ
noncomputable def Ydm:FS:=λδ=>.ct δ
noncomputable def wE(e:FE)(k:OT->Zi->RS):FS:=λδ=>match e δ with|some (r,δ')=>k r δ'|none=>.bad
noncomputable def wX(F:FD)(a:FA)(k:OT->Zi->RS):FS:=λδ=>match a δ with
 | some (rs,δ1)=>match F (OT.datas rs)with
  | .ok r=>k r δ1
  | .exn c=>.ex c δ1
  | .bad=>.bad
 | none=>.bad
noncomputable def Ztk:OT->Zi->RS:=λ_ δ=>.nx δ
noncomputable def Ja:OT->Zi->RS:=λr δ=>.rt r δ
noncomputable def Z8n:OT->Zi->RS:=λr δ=>if Zgv r.data=true then .rt (.fz r.data) δ else .bad
noncomputable def Y6(i:Nat):OT->Zi->RS:=λr δ=>.nx (δ.set i (some (.fz r.data)))
noncomputable def Z87(i:Nat):OT->Zi->RS:=λr δ=>if Zgv r.data=true then .nx (δ.set i (some (.fz r.data)))else .bad
noncomputable def Zb5(i:Nat):OT->Zi->RS:=λr δ=>.nx (δ.set i (some r))
noncomputable def Z69(g:FG):OT->Zi->RS:=λr δ=>match g r.data δ with|some δ'=>.nx δ'|none=>.bad
noncomputable def Yaj:FS:=λδ=>.rt (.fz .none) δ
noncomputable def Zfb(i:Nat):FS:=λδ=>match δ[i]? with|some (some t)=>.rt t (δ.set i none)|_=>.bad
noncomputable def Jv(t:FT)(u w:FS):FS:=λδ=>match t δ with|some (b,δ')=>if b=true then u δ' else w δ'|none=>.bad
noncomputable def Zi5(c:Str):FS:=λδ=>.ex c δ
noncomputable def Wk(i:Nat)(e:FE):FS:=λδ=>match δ[i]? with
 | some (some (.nd _))=>wE e (λr δ1=>match δ1[i]? with
  | some (some (.nd ts))=>if ts.length<Xx then .nx (δ1.set i (some (.nd (ts ++ [.fz r.data]))))else .bad
  | _=>.bad) δ
 | _=>.bad
noncomputable def Zo7(i:Nat)(e:FE):FS:=λδ=>match δ[i]? with
 | some (some (.nd _))=>wE e (λr δ1=>match δ1[i]? with
  | some (some (.nd ts))=>if ts.length<Xx then .nx (δ1.set i (some (.nd (ts ++ [r]))))else .bad
  | _=>.bad) δ
 | _=>.bad
noncomputable def Ybi(i:Nat)(e j:FE):FS:=wE e λr δ1=>match δ1[i]? with
 | some (some (.nd ts))=>wE j (λn _=>match n.data with
  | .int k=>match ixN ts.length k with
   | some j=>.nx (δ1.set i (some (.nd (ts.set j (.fz r.data)))))
   | none=>.bad
  | _=>.bad) δ1
 | _=>.bad
noncomputable def Zru(i:Nat)(e j j2:FE):FS:=wE e λr δ1=>match δ1[i]? with
 | some (some (.nd ts))=>wE j (λn _=>match n.data with
  | .int k=>match ixN ts.length k with
   | some j=>match ts[j]? with
    | some (.nd us)=>wE j2 (λn' _=>match n'.data with
     | .int k'=>match ixN us.length k' with
      | some j'=>.nx (δ1.set i (some (.nd (ts.set j (.nd (us.set j' (.fz r.data)))))))
      | none=>.bad
     | _=>.bad) δ1
    | _=>.bad
   | none=>.bad
  | _=>.bad) δ1
 | _=>.bad
noncomputable def Zeg(i:Nat)(u:FS):FS:=λδ=>match δ[i]? with|some (some t)=>u (δ.set i (some (.fz t.data)))|_=>.bad
noncomputable def forLoop(g:FG)(u:FS):List Xa->Zi->RS
 | [],δ=>.nx δ
 | d :: ds,δ=>match g d δ with
  | none=>.bad
  | some δ1=>match u δ1 with
   | .nx δ2=>forLoop g u ds δ2
   | .ct δ2=>forLoop g u ds δ2
   | .bk δ2=>.nx δ2
   | r=>r
noncomputable def Zbw(it:FI)(g:FG)(u:FS):FS:=λδ=>match it δ with|some (ds,δ1)=>forLoop g u ds δ1|none=>.bad
noncomputable def whileLoop(t:FT)(u:FS):Nat->Zi->RS
 | 0,_=>.bad
 | n+1,δ=>match t δ with
  | none=>.bad
  | some (b,δ1)=>if b=true then match u δ1 with
   | .nx δ2=>whileLoop t u n δ2
   | .ct δ2=>whileLoop t u n δ2
   | .bk δ2=>.nx δ2
   | .rt r δ2=>.rt r δ2
   | _=>.bad
   else .nx δ1
open Classical in
noncomputable def Zjh(t:FT)(u:FS):FS:=λδ=>if h:∃n,whileLoop t u n δ≠ .bad then whileLoop t u (Classical.choose h) δ else .bad
noncomputable def Zgk(n:Nat)(ds:List Xa):Zi:=ds.map (λd=>some (.fz d)) ++ X4 (n-ds.length) none
noncomputable def Yar(n:Nat)(t:OT)(ds:List Xa):Zi:=some t :: (ds.map (λd=>some (.fz d)) ++ X4 (n-(ds.length+1)) none)
noncomputable def RS.told:RS->RF
 | .nx _=>.ok (.fz .none)
 | .rt r _=>.ok r
 | .ex c _=>.exn c
 | _=>.bad
noncomputable def J0(np n:Nat)(S:FS):FD:=λds=>if ds.length=np then(S (Zgk n ds)).told else .bad
noncomputable def sD(F:FD):List Xa->(OT->Prop)->Prop:=λds k=>∃r,F ds= .ok r∧k r
theorem bs{α β:Type}{x:Option α}{f:α->Option β}{b:β}(h:x.bind f=some b):∃a,x=some a∧f a=some b:=Option.bind_eq_some_iff.mp h
section
variable {X:Cx}{io:List Nat}{p c:Bool}{e tg:Expr}{es:List Expr}{st:Stmt}{sts:List Stmt}{eo:Option Expr}{fa fb fc:FE}{ra:FA}{ta tb:FT}{i:Nat}
theorem Z7(h:ME X io p c e (Z73 i)):ME X io p c e (o2 (Zd i)):=h.weak λδ K q91=>by
 obtain⟨r,δ',h,k⟩:=q91
 unfold Zd at h;unfold Z73
 split at h
 ·rename_i d hd;(try rw[hd]);cases h;exact k
 ·cases h
theorem Z5k(h:ME X io p c e (Z8c i)):ME X io p c e (o2 (Zq0 i)):=h.weak λδ K q92=>by
 obtain⟨r,δ',h,k⟩:=q92
 unfold Zq0 at h;unfold Z8c
 split at h
 ·rename_i d hd;(try rw[hd]);cases h;exact k
 ·cases h
theorem Zcp{d:Xa}(h:ME X io p c e (mC d)):ME X io p c e (o2 (fC d)):=h.weak λδ K ⟨r,δ',h,k⟩=>by cases h;exact k
noncomputable def ByS(g:Xa->Xa->Option Xa)(rp:Xa->Xa->(Xa->Prop)->Prop):Prop:=∀d e r k,g d e=some r->k r->rp d e k
noncomputable def ByO(g:Xa->Xa->Option OT)(rp:Xa->Xa->(OT->Prop)->Prop):Prop:=∀d e r k,g d e=some r->k r->rp d e k
theorem Zx8{g rp}(G:ByS g rp){δ:Zi}{K:OT->Zi->Prop}(h:o2 (Zf g fa fb) δ K):Zns rp (o2 fa) (o2 fb) δ K:=by
 obtain⟨r,δ',h,k⟩:=h
 obtain⟨⟨x,δ1⟩,h1,h⟩:=bs h
 obtain⟨⟨y,δ2⟩,h2,h⟩:=bs h
 obtain⟨d,h3,h⟩:=bs h
 cases h
 exact⟨x,δ1,h1,y,δ2,h2,G _ _ _ _ h3 k⟩
theorem Wb{g rp}(G:ByS g rp)(h:ME X io p c e (Zns rp (o2 fa) (o2 fb))):ME X io p c e (o2 (Zf g fa fb)):=h.weak λδ K z=>Zx8 G z
theorem Yea{f:FE}{δ:Zi}{K:Bool->Zi->Prop}(h:o2 (tV f) δ K):o2 f δ (kB K):=by
 obtain⟨b,δ',h,k⟩:=h
 obtain⟨⟨x,δ1⟩,h1,h⟩:=bs h
 refine⟨x,δ1,h1,?_⟩
 unfold kB
 try dsimp only at h⊢
 split at h
 ·cases h;exact k
 ·cases h
theorem Za9{g rp}(G:ByS g rp)(h:MT X io p e (λδ K=>Zns rp (o2 fa) (o2 fb) δ (kB K))):MT X io p e (o2 (tV (Zf g fa fb))):=h.weak λδ K z=>Zx8 G (Yea z)
theorem Zgr{g rp}(G:ByO g rp)(h:ME X io p c e (Z7w rp (o2 fa) (o2 fb))):ME X io p c e (o2 (Ye g fa fb)):=h.weak λδ K h=>by
 obtain⟨r,δ',h,k⟩:=h
 obtain⟨⟨x,δ1⟩,h1,h⟩:=bs h
 obtain⟨⟨y,δ2⟩,h2,h⟩:=bs h
 obtain⟨d,h3,h⟩:=bs h
 cases h
 exact⟨x,δ1,h1,y,δ2,h2,G _ _ _ _ h3 k⟩
noncomputable def Zqx:Xa->Option Xa| .int i=>some (.int (-i))|_=>none
noncomputable def Z7t:Xa->Option Xa| .bool b=>some (.bool (!b))|_=>none
theorem Zjg(h:ME X io p c e (Ybz (o2 fa))):ME X io p c e (o2 (fUn Zqx fa)):=h.weak λδ K h=>by
 obtain⟨r,δ',h,k⟩:=h
 obtain⟨⟨x,δ1⟩,h1,h⟩:=bs h
 obtain⟨d,h3,h⟩:=bs h
 cases h
 refine⟨x,δ1,h1,?_⟩
 dsimp only at h3⊢
 cases q:x.data<;>rw[q]at h3<;>cases h3
 exact k
theorem Zuz(h:ME X io p c e (Z47 (o2 fa))):ME X io p c e (o2 (fUn Z7t fa)):=h.weak λδ K h=>by
 obtain⟨r,δ',h,k⟩:=h
 obtain⟨⟨x,δ1⟩,h1,h⟩:=bs h
 obtain⟨d,h3,h⟩:=bs h
 cases h
 refine⟨x,δ1,h1,?_⟩
 dsimp only at h3⊢
 cases q:x.data<;>rw[q]at h3<;>cases h3
 exact k
theorem Zed(h:ME X io p c e (Z3d (o2 fa) (o2 fb))):ME X io p c e (o2 (Zqw fa fb)):=h.weak λδ K h=>by
 obtain⟨r,δ',h,k⟩:=h
 obtain⟨⟨x,δ1⟩,h1,h⟩:=bs h
 refine⟨x,δ1,h1,?_⟩
 try dsimp only at h⊢
 split at h
 ·rename_i q;(try rw[q]);rw[Zyu,if_pos rfl];exact⟨r,δ',h,k⟩
 ·rename_i q;(try rw[q]);cases h;rw[Zyu,if_neg Xm];exact k
 ·cases h
theorem Yaz(h:ME X io p c e (mIf (o2 ta) (o2 fa) (o2 fb))):ME X io p c e (o2 (fIf ta fa fb)):=h.weak λδ K h=>by
 obtain⟨r,δ',h,k⟩:=h
 obtain⟨⟨x,δ1⟩,h1,h⟩:=bs h
 refine⟨x,δ1,h1,?_⟩
 try dsimp only at h⊢
 split at h
 ·rename_i q;rw[if_pos q];exact⟨r,δ',h,k⟩
 ·rename_i q;rw[if_neg q];exact⟨r,δ',h,k⟩
theorem Zyr(h:MT X io p e (Yc4 (o2 ta))):MT X io p e (o2 (tNo ta)):=h.weak λδ K h=>by
 obtain⟨r,δ',h,k⟩:=h
 obtain⟨⟨x,δ1⟩,h1,h⟩:=bs h
 cases h
 exact⟨x,δ1,h1,k⟩
theorem Zpj(h:MW X io p e (Ybh (o2 ta) (o2 tb))):MW X io p e (o2 (tAn ta tb)):=h.weak λδ K h=>by
 obtain⟨r,δ',h,k⟩:=h
 obtain⟨⟨x,δ1⟩,h1,h⟩:=bs h
 refine⟨x,δ1,h1,?_⟩
 try dsimp only at h⊢
 split at h
 ·rename_i q;rw[if_pos q];exact⟨r,δ',h,k⟩
 ·rename_i q;rw[if_neg q];cases h;exact k
theorem Zcj(h:MW X io p e (mOr (o2 ta) (o2 tb))):MW X io p e (o2 (tO ta tb)):=h.weak λδ K h=>by
 obtain⟨r,δ',h,k⟩:=h
 obtain⟨⟨x,δ1⟩,h1,h⟩:=bs h
 refine⟨x,δ1,h1,?_⟩
 try dsimp only at h⊢
 split at h
 ·rename_i q;rw[if_pos q];cases h;exact k
 ·rename_i q;rw[if_neg q];exact⟨r,δ',h,k⟩
theorem W7(h:MT X io p e (Ycy (o2 fa))):MT X io p e (o2 (tD fa)):=h.weak λδ K h=>by
 obtain⟨r,δ',h,k⟩:=h
 obtain⟨⟨x,δ1⟩,h1,h⟩:=bs h
 obtain⟨d,h3,h⟩:=bs h
 cases h
 refine⟨x,δ1,h1,?_⟩
 dsimp only at h3⊢
 rw[h3]
 exact k
theorem Za8(h:MA X io p c es Ybc):MA X io p c es (o2 Zq):=h.weak λδ K ⟨r,δ',h,k⟩=>by cases h;exact k
theorem Z1c(h:MA X io p c es (Z4d (o2 fa) (o2 ra))):MA X io p c es (o2 (Zc fa ra)):=h.weak λδ K h=>by
 obtain⟨r,δ',h,k⟩:=h
 obtain⟨⟨x,δ1⟩,h1,h⟩:=bs h
 obtain⟨⟨y,δ2⟩,h2,h⟩:=bs h
 cases h
 exact⟨x,δ1,h1,y,δ2,h2,k⟩
theorem Z3u(h:ME X io p c e (Ycu (o2 ra))):ME X io p c e (o2 (Zif ra)):=h.weak λδ K h=>by
 obtain⟨r,δ',h,k⟩:=h
 obtain⟨⟨x,δ1⟩,h1,h⟩:=bs h
 refine⟨x,δ1,h1,?_⟩
 dsimp only at h
 split at h
 ·rename_i q;cases h;exact⟨q,k⟩
 ·cases h
theorem Zsp(h:ME X io p c e (Yct (o2 ra))):ME X io p c e (o2 (Zdu ra)):=h.weak λδ K h=>by
 obtain⟨r,δ',h,k⟩:=h
 obtain⟨⟨x,δ1⟩,h1,h⟩:=bs h
 refine⟨x,δ1,h1,?_⟩
 dsimp only at h
 split at h
 ·rename_i q;cases h;exact⟨q,k⟩
 ·cases h
theorem Zhh{F:FD}(h:ME X io p c e (Zza (sD F) (o2 ra))):ME X io p c e (o2 (Zu F ra)):=h.weak λδ K h=>by
 obtain⟨r,δ',h,k⟩:=h
 obtain⟨⟨x,δ1⟩,h1,h⟩:=bs h
 refine⟨x,δ1,h1,?_⟩
 dsimp only at h
 split at h
 ·rename_i q;cases h;exact⟨_,q,k⟩
 ·cases h
theorem Zeu{g rp}(G:∀ds r k,g ds=some r->k r->rp ds k)(h:ME X io p c e (Z86 rp (o2 ra))):ME X io p c e (o2 (Zbx g ra)):=h.weak λδ K h=>by
 obtain⟨r,δ',h,k⟩:=h
 obtain⟨⟨x,δ1⟩,h1,h⟩:=bs h
 obtain⟨d,h3,h⟩:=bs h
 cases h
 exact⟨x,δ1,h1,G _ _ _ h3 k⟩
theorem Zp9{g rp}(G:∀ds r k,g ds=some r->k r->rp ds k)(h:ME X io p c e (mBl rp (o2 ra))):ME X io p c e (o2 (fBl g ra)):=h.weak λδ K h=>by
 obtain⟨r,δ',h,k⟩:=h
 obtain⟨⟨x,δ1⟩,h1,h⟩:=bs h
 obtain⟨d,h3,h⟩:=bs h
 cases h
 exact⟨x,δ1,h1,G _ _ _ h3 k⟩
theorem Jg{T:String}(h:ME X io p c e (Ybu T (o2 fa))):ME X io p c e (o2 (Zfc T fa)):=h.weak λδ K h=>by
 obtain⟨r,δ',h,k⟩:=h
 obtain⟨⟨x,δ1⟩,h1,h⟩:=bs h
 by_cases hf:Zih x.data=true
 ·have h':(if Zih x.data=true then none else some (OT.fz (.bool (Zob T x.data)),δ1))=some (r,δ'):=h
  rw[if_pos hf]at h'
  cases h'
 ·have h':(if Zih x.data=true then none else some (OT.fz (.bool (Zob T x.data)),δ1))=some (r,δ'):=h
  rw[if_neg hf]at h'
  injection h' with h'
  injection h' with e1 e2
  subst e1 e2
  exact⟨x,_,h1,Vj.mpr hf,k⟩
theorem Zkg(h:MO X io p eo Zsi):MO X io p eo (o2 oN):=h.weak λδ K ⟨r,δ',h,k⟩=>by cases h;exact k
theorem Zb8(h:MO X io p eo (Z5r (o2 fa))):MO X io p eo (o2 (oI fa)):=h.weak λδ K h=>by
 obtain⟨r,δ',h,k⟩:=h
 obtain⟨⟨x,δ1⟩,h1,h⟩:=bs h
 refine⟨x,δ1,h1,?_⟩
 try dsimp only at h⊢
 split at h
 ·rename_i q;(try rw[q]);cases h;exact k
 ·cases h
theorem Zsj{lo hi:FO}(h:ME X io p c e (mSl (o2 fa) (o2 lo) (o2 hi))):ME X io p c e (o2 (fSl fa lo hi)):=h.weak λδ K h=>by
 obtain⟨r,δ',h,k⟩:=h
 obtain⟨⟨x,δ1⟩,h1,h⟩:=bs h
 obtain⟨⟨y,δ2⟩,h2,h⟩:=bs h
 obtain⟨⟨z,δ3⟩,h3,h⟩:=bs h
 refine⟨x,δ1,h1,y,δ2,h2,z,δ3,h3,?_⟩
 try dsimp only at h⊢
 split at h
 ·rename_i q;(try rw[q]);cases h;exact k
 ·cases h
theorem Z0x(h:MI X io p c tg e (iL (o2 fa))):MI X io p c tg e (o2 (Zgi fa)):=h.weak λδ K h=>by
 obtain⟨r,δ',h,k⟩:=h
 obtain⟨⟨x,δ1⟩,h1,h⟩:=bs h
 refine⟨x,δ1,h1,?_⟩
 try dsimp only at h⊢
 split at h
 ·rename_i q;(try rw[q]);cases h;exact k
 ·cases h
theorem Z4k(h:MI X io p c tg e (iT (o2 fa))):MI X io p c tg e (o2 (iTp fa)):=h.weak λδ K h=>by
 obtain⟨r,δ',h,k⟩:=h
 obtain⟨⟨x,δ1⟩,h1,h⟩:=bs h
 refine⟨x,δ1,h1,?_⟩
 try dsimp only at h⊢
 split at h
 ·rename_i q;(try rw[q]);cases h;exact k
 ·cases h
theorem Zig(h:MI X io p c tg e (iR1 (o2 ra))):MI X io p c tg e (o2 (iRa ra)):=h.weak λδ K h=>by
 obtain⟨r,δ',h,k⟩:=h
 obtain⟨⟨x,δ1⟩,h1,h⟩:=bs h
 refine⟨x,δ1,h1,?_⟩
 try dsimp only at h⊢
 split at h
 case h_2=>cases h
 rename_i q
 (try rw[q])
 try dsimp only
 split at h
 ·rename_i b;cases h;exact⟨Zdg b,k⟩
 ·cases h
theorem Zvt(h:MI X io p c tg e (iR2 (o2 ra))):MI X io p c tg e (o2 (iRb ra)):=h.weak λδ K h=>by
 obtain⟨r,δ',h,k⟩:=h
 obtain⟨⟨x,δ1⟩,h1,h⟩:=bs h
 refine⟨x,δ1,h1,?_⟩
 try dsimp only at h⊢
 split at h
 case h_2=>cases h
 rename_i q
 (try rw[q])
 try dsimp only
 split at h
 ·rename_i b
  cases h
  rw[XQ]at b
  exact⟨⟨(Zdg b.1).1,(Zdg b.1).2,(Zdg b.2).1,(Zdg b.2).2⟩,k⟩
 ·cases h
theorem Zkk(h:MG X io c tg (dName i)):MG X io c tg (oG (gNm i)):=h.weak λd δ K ⟨δ',h,k⟩=>by cases h;exact k
theorem Zuu(h:MGs X io c es Ybl):MGs X io c es (oGs gNl):=h.weak λd δ K q94=>by
 obtain⟨δ',h,k⟩:=q94
 unfold gNl at h
 split at h
 ·cases h;exact⟨rfl,k⟩
 ·cases h
theorem Zg3{g:FG}{gs:FGs}(h:MGs X io c es (Z5o (oG g) (oGs gs))):MGs X io c es (oGs (gCn g gs)):=h.weak λd δ K q95=>by
 obtain⟨δ',h,k⟩:=q95
 unfold gCn at h
 split at h
 ·obtain⟨δ1,h1,h⟩:=bs h
  exact⟨δ1,h1,δ',h,k⟩
 ·cases h
theorem Zy1{n:Nat}{gs:FGs}(h:MG X io c tg (dTup n (oGs gs))):MG X io c tg (oG (gTp n gs)):=h.weak λd δ K q96=>by
 obtain⟨δ',h,k⟩:=q96
 unfold gTp at h
 split at h
 case h_2=>cases h
 split at h
 ·rename_i q;exact⟨q,δ',h,k⟩
 ·cases h
theorem Zab(h:MIfs X io p es Z3r):MIfs X io p es (o2 Zg2):=h.weak λδ K ⟨r,δ',h,k⟩=>by cases h;exact k
theorem Z1o{g:FG}{t:FT}{me:FE}{ds:List Xa}{δ0:Zi}{zs:List OT}{δe:Zi}(h:compLoop g t me ds δ0=some (zs,δe)) :
  ∃I:Nat->List OT->Zi->Prop,I 0 [] δ0∧
 (∀ (i:Nat) (d:Xa) (rs:List OT) (δ':Zi),ds[i]? =some d->I i rs δ'->oG g d δ' λδ2=>o2 t δ2 λb δ3=>if b=true then o2 me δ3 λr δ4=>I (i+1) (rs ++ [r]) δ4 else I (i+1) rs δ3)∧
 ∀rs δ',I ds.length rs δ'->rs=zs∧δ'=δe:=by
 refine⟨λi rs δ'=>∃ys,rs ++ ys=zs∧compLoop g t me (ds.drop i) δ'=some (ys,δe),⟨zs,rfl,by rw[List.drop_zero];exact h⟩,?_,?_⟩
 ·rintro i d rs δ' hd ⟨ys,e,hl⟩
  obtain⟨hi,hdi⟩:=Xn.mp hd
  rw[VR hi,hdi]at hl
  unfold compLoop at hl
  obtain⟨δ1,h1,hl⟩:=bs hl
  obtain⟨⟨b,δ2⟩,h2,hl⟩:=bs hl
  refine⟨δ1,h1,b,δ2,h2,?_⟩
  dsimp only at hl
  split at hl
  ·rename_i hb
   rw[if_pos hb]
   obtain⟨⟨r,δ3⟩,h3,hl⟩:=bs hl
   obtain⟨⟨ws,δ4⟩,h4,hl⟩:=bs hl
   cases hl
   exact⟨r,δ3,h3,ws,by rw[JB];exact e,h4⟩
  ·rename_i hb
   rw[if_neg hb]
   exact⟨ys,e,hl⟩
 ·rintro rs δ' ⟨ys,e,hl⟩
  rw[List.drop_length]at hl
  unfold compLoop at hl
  cases hl
  exact⟨by rw[←e,Q5],rfl⟩
theorem Zry{n:Nat}{caps:List Nat}{it:FI}{g:FG}{t:FT}{me:FE}{δ:Zi}{K:OT->Zi->Prop}(h:o2 (Wj n caps it g t me) δ K):Zh2 n caps (o2 it) (oG g) (o2 t) (o2 me) δ K:=by
 obtain⟨r,δ',h,k⟩:=h
 obtain⟨⟨ds,δ1⟩,h1,h⟩:=bs h
 refine⟨ds,δ1,h1,?_⟩
 dsimp only at h
 split at h
 case isFalse=>cases h
 rename_i hz
 obtain⟨⟨zs,δe⟩,h2,h⟩:=bs h
 cases h
 obtain⟨I,i0,st,en⟩:=Z1o h2
 refine⟨hz,I,i0,st,λrs δ'' q=>?_⟩
 obtain⟨rfl,rfl⟩:=en rs δ'' q
 exact k
theorem J8{n:Nat}{caps:List Nat}{it:FI}{g:FG}{t:FT}{me:FE}(h:ME X io p c e (Zh2 n caps (o2 it) (oG g) (o2 t) (o2 me))):ME X io p c e (o2 (Wj n caps it g t me)):=h.weak λδ K z=>Zry z
end
section
variable {X:Cx}{io:List Nat}{p c:Bool}{e tg iter:Expr}{es:List Expr}{st:Stmt}{sts:List Stmt}{fa fb fc:FE}{ra:FA}{ta tb:FT}{i:Nat}{f g u w:FS}
theorem Zd5(h:MSs X io sts (Yaw (oS f) (oS g))):MSs X io sts (oS (Z4 f g)):=h.weak λD δ h=>by
 unfold oS Z4 at h;unfold Yaw oS
 cases q:f δ<;>rw[q]at h<;>exact h
theorem Zb7(h:MSs X io sts Z5l):MSs X io sts (oS fNx):=h.weak λD δ h=>h
theorem Zqz{k:OT->Zi->RS}{D:Zin}{δ:Zi}(h:oS (wE fa k) D δ):o2 fa δ λr δ'=>(k r δ').fits D:=by
 unfold oS wE at h
 split at h
 ·rename_i q;exact⟨_,_,q,h⟩
 ·exact h.elim
theorem o2.imp{α:Type}{f:Zi->Option (α×Zi)}{δ:Zi}{K K':α->Zi->Prop}(h:o2 f δ K)(k:∀r δ',K r δ'->K' r δ'):o2 f δ K':=let⟨r,δ',e,q⟩:=h;⟨r,δ',e,k r δ' q⟩
theorem Zpg{P:Prop}[Decidable P]{a:RS}{D:Zin}(h:(if P then a else .bad:RS).fits D):P∧a.fits D:=by
 split at h
 ·exact⟨‹_›,h⟩
 ·exact h.elim
theorem Z2f(h:MS X io st (Z4w (o2 fa))):MS X io st (oS (wE fa Ztk)):=h.weak λD δ h=>Zqz h
theorem Zdv(h:MS X io st (Ybp (o2 fa))):MS X io st (oS (wE fa Ja)):=h.weak λD δ h=>Zqz h
theorem Zef(h:MS X io st (Zva i)):MS X io st (oS (Zfb i)):=h.weak λD δ h=>by
 unfold oS Zfb at h;unfold Zva
 split at h
 ·rename_i q;(try rw[q]);exact h
 ·exact h.elim
theorem Zkq(h:MS X io st (Ybs (o2 ta) (oS u) (oS w))):MS X io st (oS (Jv ta u w)):=h.weak λD δ h=>by
 unfold oS Jv at h
 split at h
 ·rename_i b δ' q
  refine⟨b,δ',q,?_⟩
  split at h
  ·rename_i hb;rw[if_pos hb];exact h
  ·rename_i hb;rw[if_neg hb];exact h
 ·exact h.elim
theorem Zov(h:MS X io st (Z3b i (o2 fa))):MS X io st (oS (wE fa (Y6 i))):=h.weak λD δ h=>Zqz h
theorem Z2y(h:MS X io st (Zqd i (o2 fa))):MS X io st (oS (wE fa (Zb5 i))):=h.weak λD δ h=>Zqz h
section
variable {n:Nat}{caps:List Nat}{o q:Nat}{it:FI}{gg:FG}{t:FT}{me:FE}
theorem Zvz(h:MS X io st (if true=true then Zqd i (Zh2 n caps (o2 it) (oG gg) (o2 t) (o2 me))else Z3b i (Zh2 n caps (o2 it) (oG gg) (o2 t) (o2 me)))):MS X io st (oS (wE (Wj n caps it gg t me) (Zb5 i))) :=
 h.weak λD δ h=>by rw[if_pos rfl];exact Zry (Zqz h)
theorem Zmy(h:MS X io st (if false=true then Zqd i (Zh2 n caps (o2 it) (oG gg) (o2 t) (o2 me))else Z3b i (Zh2 n caps (o2 it) (oG gg) (o2 t) (o2 me)))):MS X io st (oS (wE (Wj n caps it gg t me) (Y6 i))) :=
 h.weak λD δ h=>by rw[if_neg Xm];exact Zry (Zqz h)
end
theorem Z68{gg:FG}(h:MS X io st (Ya7 (o2 fa) (oG gg))):MS X io st (oS (wE fa (Z69 gg))):=h.weak λD δ h=>(Zqz h).imp λr δ' q=>by
 unfold Z69 at q
 split at q
 ·rename_i z;exact⟨_,z,q⟩
 ·exact q.elim
theorem Zaq(h:MS X io st (Zka i (o2 fa))):MS X io st (oS (Wk i fa)):=h.weak λD δ h=>by
 unfold oS Wk at h;unfold Zka
 split at h
 case h_2=>exact h.elim
 rename_i q;(try rw[q])
 refine(Zqz h).imp λr δ' z=>?_
 split at z
 ·rename_i q2;(try rw[q2]);exact Zpg z
 ·exact z.elim
theorem Z00(h:MS X io st (Z6g i (o2 fa) (o2 fb) (o2 fc))):MS X io st (oS (Zru i fa fb fc)):=h.weak λD δ h=>by
 refine(Zqz h).imp λr δ' z=>?_
 split at z
 case h_2=>exact z.elim
 rename_i q;(try rw[q])
 refine(Zqz z).imp λn δ2 z=>?_
 split at z
 case h_2=>exact z.elim
 rename_i k q2;(try rw[q2])
 show match ixN _ k with|some j=>_|none=>_
 split at z
 case h_2=>exact z.elim
 rename_i q3;(try rw[q3])
 try dsimp only
 split at z
 case h_2=>exact z.elim
 rename_i q4;(try rw[q4])
 refine(Zqz z).imp λn' δ3 z=>?_
 split at z
 case h_2=>exact z.elim
 rename_i k' q5;(try rw[q5])
 show match ixN _ k' with|some j=>_|none=>_
 split at z
 ·rename_i q6;(try rw[q6]);exact z
 ·exact z.elim
theorem Zln(h:MS X io st (Zjt i (oS u))):MS X io st (oS (Zeg i u)):=h.weak λD δ h=>by
 unfold oS Zeg at h;unfold Zjt
 split at h
 ·rename_i q;(try rw[q]);exact h
 ·exact h.elim
theorem Zgl{gg:FG}{d:Xa}{ds:List Xa}{δ:Zi}:forLoop gg u (d :: ds) δ=match gg d δ with
  | none=>.bad
  | some δ1=>match u δ1 with
   | .nx δ2=>forLoop gg u ds δ2
   | .ct δ2=>forLoop gg u ds δ2
   | .bk δ2=>.nx δ2
   | r=>r:=rfl
theorem Zro{it:FI}{gg:FG}(h:MS X io st (Yc3 (o2 it) (oG gg) (oS u))):MS X io st (oS (Zbw it gg u)):=h.weak λD δ h=>by
 unfold oS Zbw at h
 split at h
 case h_2=>exact h.elim
 rename_i ds δ1 q
 refine⟨ds,δ1,q,λi δ'=>(forLoop gg u (ds.drop i) δ').fits D,by show RS.fits D (forLoop gg u (ds.drop 0) δ1);rw[List.drop_zero];exact h,λi d δ' hd z=>?_,λδ' z=>?_⟩
 ·obtain⟨hi,hdi⟩:=Xn.mp hd
  replace z:RS.fits D (forLoop gg u (ds.drop i) δ'):=z
  rw[VR hi,hdi,Zgl]at z
  split at z
  case h_1=>exact z.elim
  rename_i δ2 q2
  refine⟨δ2,q2,?_⟩
  unfold oS
  cases q3:u δ2<;>rw[q3]at z<;>(try rw[q3])<;>exact z
 ·replace z:RS.fits D (forLoop gg u (ds.drop ds.length) δ'):=z
  rw[List.drop_length]at z;exact z
theorem Zoe(h:MS X io st (Zxp (o2 ta) (oS u))):MS X io st (oS (Zjh ta u)):=h.weak λD δ h=>by
 unfold oS Zjh at h
 split at h
 case isFalse=>exact h.elim
 rename_i hn
 refine⟨λn δ'=>(whileLoop ta u n δ').fits D,⟨_,h⟩,λn δ' z=>?_⟩
 cases n with
 | zero=>exact z.elim
 | succ n=>
  unfold whileLoop at z
  split at z
  case h_1=>exact z.elim
  rename_i b δ1 q
  refine⟨b,δ1,q,?_⟩
  split at z
  ·rename_i hb
   rw[if_pos hb]
   refine⟨λδ''=>(whileLoop ta u n δ'').fits D,λδ'' y=>⟨n,Qt n,y⟩,?_⟩
   unfold oS
   cases q3:u δ1<;>rw[q3]at z<;>exact z
  ·rename_i hb
   rw[if_neg hb]
   exact z
theorem Zd4{n m:Nat}:∀{δ:Zi},whileLoop ta u n δ≠ .bad->whileLoop ta u (n+m) δ=whileLoop ta u n δ:=by
 induction n with
 | zero=>intro δ h;exact absurd rfl h
 | succ n ih=>
  intro δ h
  rw[Nat.succ_add]
  unfold whileLoop at h⊢
  cases q:ta δ with
  | none=>rfl
  | some x=>
   obtain⟨b,δ1⟩:=x
   rw[q]at h
   try dsimp only at h⊢
   split
   ·rename_i hb
    rw[if_pos hb]at h
    cases q3:u δ1<;>rw[q3]at h<;>first|exact ih h|rfl
   ·rfl
theorem Zl1{r:RS}{δ:Zi}(n:Nat)(h:whileLoop ta u n δ=r)(hr:r≠ .bad):Zjh ta u δ=r:=by
 have hn:∃n,whileLoop ta u n δ≠ .bad:=⟨n,by rw[h];exact hr⟩
 unfold Zjh
 rw[dif_pos hn]
 have h1:=Classical.choose_spec hn
 have e1:=Zd4 (m:=n) h1
 have e2:=Zd4 (m:=Classical.choose hn) (show whileLoop ta u n δ≠ .bad by rw[h];exact hr)
 rw[Nat.add_comm]at e2
 rw[←e1,e2,h]
theorem Zhb{cn:Str}:MS X io st (oS (Zi5 cn)):=Zvn.weak λD δ h=>h
class NoEx (f:FS):Prop where
 no:∀δ cn δ',f δ≠ .ex cn δ'
class NoExK (k:OT->Zi->RS):Prop where
 no:∀r δ cn δ',k r δ≠ .ex cn δ'
end
section
variable {P:Qa}{w:Qs}{K:Xc}{mg:Str->Option Xd}{base:Heap}{x qual:Str}{st:Stmt}{f:Addr}{fd:XR}{N ps:List Str}{n np nn:Nat}{S:FS}
theorem RS.told_fits{r:RS}{o:OT}{k:OT->Prop}(h:r.told= .ok o)(hk:k o):r.fits (Zzx k):=by
 cases r<;>unfold RS.told at h<;>first|(cases h;exact hk)|cases h
theorem Yb(F:Fun K x qual st f fd)(Sc:Zv N ps (Zm st))(hN:N.length=nn)(hp:np=ps.length)
  (hb:∀(cdv:Xd) (A:Qq) (outer:List Env) (s:Xg) (H:Hp) (E:XK),Room n (A.deeper (envOfC qual (Zm st) s.heap.objs.size f cdv))->MSs (Zys CX0 P w K mg base N qual (Zm st) f cdv A outer s H E).nox [] (Zcc st) (oS S)) :
  FnOk P w K mg base CX0 (n+1) f fd ps (spD K (sD (J0 np nn S))):=by
 subst hN hp
 refine F.okD Sc (λds k h=>?_) λcdv A outer s H E hr=>⟨_,hb cdv A outer s H E hr,λds k h=>?_⟩
 ·obtain⟨r,h,_⟩:=h
  unfold J0 at h
  split at h
  ·assumption
  ·cases h
 ·obtain⟨r,h,hk⟩:=h
  unfold J0 at h
  split at h
  ·exact RS.told_fits h hk
  ·cases h
end
noncomputable def i2(g:Int->Int->Xa):Xa->Xa->Option Xa:=λd e=>match d,e with| .int i,.int j=>some (g i j)|_,_=>none
noncomputable def i2c(c:Int->Int->Bool)(g:Int->Int->Xa):Xa->Xa->Option Xa:=λd e=>match d,e with| .int i,.int j=>if c i j=true then some (g i j)else none|_,_=>none
theorem Zq7{g:Int->Int->Xa}:ByS (i2 g) (Zye g):=λd e r k h hk=>by
 unfold i2 at h
 split at h
 ·cases h;exact hk
 ·cases h
theorem Zn6{c:Int->Int->Bool}{C:Int->Int->Prop}{g:Int->Int->Xa}(hc:∀i j,c i j=true->C i j):ByS (i2c c g) (d2I C g):=λd e r k h hk=>by
 unfold i2c at h
 split at h
 ·split at h
  ·cases h;exact⟨hc _ _ ‹_›,hk⟩
  ·cases h
 ·cases h
noncomputable def Z0k(a b:Int):Bool:=!(decide (JR a>shortFactorBits)&&decide (JR b>shortFactorBits)&&Builtin.Int.intTooBig (JR a+JR b))
noncomputable def Z4l(_ j:Int):Bool:=decide (j≠0)&&decide (j.natAbs.log2<9000)
noncomputable def Yc5(_ j:Int):Bool:=decide (j≠0)
noncomputable def Ydf(i j:Int):Bool:=decide (0≤j∧j≤1000000∧i.natAbs<2^64)
theorem Zg9{a b:Int}:Z0k a b=true↔IntMulOk a b:=by
 unfold Z0k IntMulOk
 rw[Bool.not_eq_true',Bool.not_eq_true]
noncomputable def Zau:=i2 λi j=>.int (i+j)
noncomputable def gSb:=i2 λi j=>.int (i-j)
noncomputable def Zcv:=i2c Z0k λi j=>.int (i*j)
noncomputable def Zac:=i2c Z4l λi j=>.int (i.fdiv j)
noncomputable def Zez:=i2c Yc5 λi j=>.int (i.fmod j)
noncomputable def Zvk:=i2c Ydf λi j=>.int (i^j.toNat)
noncomputable def gLt:=i2 λi j=>.bool (decide (i<j))
noncomputable def gLe:=i2 λi j=>.bool (decide (i≤j))
noncomputable def gGt:=i2 λi j=>.bool (decide (j<i))
noncomputable def gGe:=i2 λi j=>.bool (decide (j≤i))
theorem Yae:ByS Zau (Zye λi j=>.int (i+j)):=Zq7
theorem Z12:ByS gSb (Zye λi j=>.int (i-j)):=Zq7
theorem Z9g:ByS Zcv (d2I MulOk λi j=>.int (i*j)):=Zn6 λi j h=>⟨Zg9.mp h⟩
theorem Z64:ByS Zac (d2I Yck λi j=>.int (i.fdiv j)):=Zn6 λi j h=>⟨by
 unfold Z4l at h
 rw[XQ]at h
 exact⟨of_decide_eq_true h.1,of_decide_eq_true h.2⟩⟩
theorem Z9y:ByS Zez (d2I (λ_ j=>j≠0) λi j=>.int (i.fmod j)):=Zn6 λi j h=>of_decide_eq_true h
theorem Z93:ByS Zvk (d2I Ya9 λi j=>.int (i^j.toNat)):=Zn6 λi j h=>⟨(of_decide_eq_true h:0≤j∧j≤1000000∧i.natAbs<2^64)⟩
theorem Z76:ByS gLt (Zye λi j=>.bool (decide (i<j))):=Zq7
theorem Yeq:ByS gGt (Zye λi j=>.bool (decide (j<i))):=Zq7
theorem Yde:ByS gGe (Zye λi j=>.bool (decide (j≤i))):=Zq7
noncomputable def gEq:Xa->Xa->Option Xa:=λd e=>if(Vo d&&Vo e)=true then some (.bool (QC d e))else none
noncomputable def gNe:Xa->Xa->Option Xa:=λd e=>if(Vo d&&Vo e)=true then some (.bool (!QC d e))else none
theorem Zzj:ByS gEq dEq:=λd e r k h hk=>by
 unfold gEq at h
 split at h
 ·rename_i q
  rw[XQ]at q
  cases h
  exact⟨⟨q.1⟩,⟨q.2⟩,hk⟩
 ·cases h
theorem Z8d:ByS gNe dNe:=λd e r k h hk=>by
 unfold gNe at h
 split at h
 ·rename_i q
  rw[XQ]at q
  cases h
  exact⟨⟨q.1⟩,⟨q.2⟩,hk⟩
 ·cases h
noncomputable def gIs:Xa->Xa->Option Xa:=λd e=>match e with| .none=>some (.bool (Zfk d))|_=>none
noncomputable def Zhf:Xa->Xa->Option Xa:=λd e=>match e with| .none=>some (.bool (!Zfk d))|_=>none
theorem Zy8:ByS Zhf Z5w:=λd e r k h hk=>by
 unfold Zhf at h
 split at h
 ·cases h;exact⟨rfl,hk⟩
 ·cases h
noncomputable def Zmt(neg:Bool):Xa->Xa->Option Xa:=λd e=>match Zo5 e with
 | some ds=>if(scD d&&ds.all scD)=true then some (.bool (if neg then !memS d ds else memS d ds))else none
 | none=>none
theorem Ztz{neg:Bool}:ByS (Zmt neg) (dIn neg):=λd e r k h hk=>by
 unfold Zmt at h
 split at h
 case h_2=>cases h
 rename_i ds q
 split at h
 case isFalse=>cases h
 rename_i q2
 rw[XQ]at q2
 cases h
 refine⟨q2.1,?_⟩
 cases e<;>cases q
 ·exact⟨q2.2,hk⟩
 ·exact⟨q2.2,hk⟩
noncomputable def gIx:Xa->Xa->Option OT:=λd e=>(ixD d e).bind λx=>some (.fz x)
theorem Z9l:ByO gIx dIx:=λd e r k h hk=>by
 obtain⟨x,h1,h2⟩:=bs h
 cases h2
 unfold dIx
 rw[h1]
 exact hk
noncomputable def Zlt:Xa->Xa->Option OT:=λd e=>match d,e with| .list ds,.list es=>if ds.length+es.length≤Xx then some (.nd ((ds ++ es).map OT.fz))else none|_,_=>none
theorem Zr4:ByO Zlt dCat:=λd e r k h hk=>by
 unfold Zlt at h
 split at h
 ·split at h
  ·cases h;exact⟨‹_›,hk⟩
  ·cases h
 ·cases h
noncomputable def Za5:List Xa->Option Xa:=λds=>match ds with|[d]=>(Zwq d).bind λn=>some (.int n)|_=>none
theorem Zp5:∀ds r k,Za5 ds=some r->k r->Ybd ds k:=λds r k h hk=>by
 unfold Za5 at h
 split at h
 ·obtain⟨n,h1,h2⟩:=bs h
  cases h2
  show match Zwq _ with|some n=>_|none=>_
  rw[h1]
  exact hk
 ·cases h
noncomputable def Z28:List Xa->Option Xa:=λds=>match ds with|[.int i]=>some (.int (if i<0 then -i else i))|_=>none
theorem Z2g:∀ds r k,Z28 ds=some r->k r->Ycl ds k:=λds r k h hk=>by
 unfold Z28 at h
 split at h
 ·cases h;exact hk
 ·cases h
noncomputable def Yem:List Xa->Option Xa:=λds=>match ds with|[.int i,.int j]=>some (.int (if j>i then j else i))|_=>none
noncomputable def Ydu:List Xa->Option Xa:=λds=>match ds with|[.int i,.int j]=>some (.int (if j<i then j else i))|_=>none
noncomputable def Ycf:List Xa->Option Xa:=λds=>match ds with|[.int i]=>some (.int i)|[.bool b]=>some (.int (if b then 1 else 0))|_=>none
noncomputable def Zq6:List Xa->Option OT:=λds=>match ds with|[d]=>(Zo5 d).bind λes=>some (.nd (es.map OT.fz))|_=>none
theorem Z59:∀ds r k,Zq6 ds=some r->k r->Z61 ds k:=λds r k h hk=>by
 unfold Zq6 at h
 split at h
 ·obtain⟨n,h1,h2⟩:=bs h
  cases h2
  show match Zo5 _ with|some n=>_|none=>_
  rw[h1]
  exact hk
 ·cases h
noncomputable def Zbn:List Xa->Option (List Int)
 | []=>some []
 | .int i :: r=>(Zbn r).bind λl=>some (i :: l)
 | _ :: _=>none
theorem J3:∀{ds:List Xa} {ns:List Int},Zbn ds=some ns->ds=ns.map Xk
 | [],_,h=>by cases h;rfl
 | .int i :: r,_,h=>by
  obtain⟨l,h1,h2⟩:=bs h
  cases h2
  rw[J3 h1];rfl
 | .none :: _,_,h=>by cases h
 | .bool _ :: _,_,h=>by cases h
 | .str _ :: _,_,h=>by cases h
 | .list _ :: _,_,h=>by cases h
 | .tuple _ :: _,_,h=>by cases h
 | .dict _ :: _,_,h=>by cases h
@[simp] theorem Jj:∀ns:List Int,Zbn (ns.map Xk)=some ns
 | []=>rfl
 | n :: ns=>by rw[XF,Zbn,Jj ns];rfl
section
variable {X:Cx}{io:List Nat}{p c:Bool}{e tg:Expr}{es:List Expr}{st:Stmt}{fa fb fc:FE}{ra:FA}{i:Nat}
noncomputable def Zyi(a:FA):FE:=λδ=>(a δ).bind λp=>match OT.datas p.1 with|[.int j]=>if rOk j=true∧j.toNat≤Xx then some (.nd ((Zc7 0 j.toNat).map OT.fz),p.2)else none|_=>none
theorem Zxr(h:ME X io p c e (Ycw (o2 ra))):ME X io p c e (o2 (Zyi ra)):=h.weak λδ K h=>by
 obtain⟨r,δ',h,k⟩:=h
 obtain⟨⟨x,δ1⟩,h1,h⟩:=bs h
 refine⟨x,δ1,h1,?_⟩
 dsimp only at h
 split at h
 case h_2=>cases h
 rename_i q
 split at h
 case isFalse=>cases h
 rename_i b
 cases h
 (try rw[q])
 exact⟨⟨(Zdg b.1).1,(Zdg b.1).2,b.2⟩,k⟩
noncomputable def Z3a(a b:FE):FE:=λδ=>(a δ).bind λp=>(b p.2).bind λq=>match q.1.data with| .int k=>if rOk k=true∧k.toNat≤Xx then some (.nd (X4 k.toNat (.fz p.1.data)),p.2)else none|_=>none
theorem Z7e(h:ME X io p c e (Yb5 (o2 fa) (o2 fb))):ME X io p c e (o2 (Z3a fa fb)):=h.weak λδ K h=>by
 obtain⟨r,δ',h,k⟩:=h
 obtain⟨⟨x,δ1⟩,h1,h⟩:=bs h
 obtain⟨⟨y,δ2⟩,h2,h⟩:=bs h
 refine⟨x,δ1,h1,y,δ2,h2,?_⟩
 try dsimp only at h⊢
 split at h
 case h_2=>cases h
 rename_i q
 (try rw[q])
 split at h
 case isFalse=>cases h
 rename_i b
 cases h
 have z:=Zdg b.1
 exact⟨⟨by omega,by omega,b.2⟩,k⟩
noncomputable def Zla(a b:FE):FE:=λδ=>(a δ).bind λp=>match p.1.data with
 | .list es=>(Zbn es).bind λns=>if ns.length≤2^20 then(b p.2).bind λq=>match q.1.data with
  | .int k=>if k∈ns then some (.fz (.int (ns.idxOf k:Nat)),q.2)else none
  | _=>none else none
 | _=>none
theorem Zvp(h:ME X io p c e (Zya (o2 fa) (o2 fb))):ME X io p c e (o2 (Zla fa fb)):=h.weak λδ K h=>by
 obtain⟨r,δ',h,k⟩:=h
 obtain⟨⟨x,δ1⟩,h1,h⟩:=bs h
 refine⟨x,δ1,h1,?_⟩
 try dsimp only at h⊢
 split at h
 case h_2=>cases h
 rename_i q
 obtain⟨ns,h2,h⟩:=bs h
 split at h
 case isFalse=>cases h
 obtain⟨⟨y,δ2⟩,h3,h⟩:=bs h
 refine⟨ns,by rw[q,J3 h2],‹_›,y,δ2,h3,?_⟩
 try dsimp only at h⊢
 split at h
 case h_2=>cases h
 rename_i q2
 (try rw[q2])
 split at h
 case isFalse=>cases h
 cases h
 exact⟨‹_›,k⟩
noncomputable def Z5x(i:Nat)(a:FE):FE:=λδ=>match δ[i]? with
 | some (some (.nd _))=>(a δ).bind λp=>match p.2[i]? with
  | some (some (.nd ts))=>match p.1.data with
   | .int j=>match ixN ts.length j with
    | some k=>match ts[k]? with
     | some (.fz d)=>if ts.length≤Xx then some (.fz d,p.2.set i (some (.nd (ts.eraseIdx k))))else none
     | _=>none
    | none=>none
   | _=>none
  | _=>none
 | _=>none
theorem Z5c(h:ME X io p c e (Z72 i (o2 fa))):ME X io p c e (o2 (Z5x i fa)):=h.weak λδ K h=>by
 obtain⟨r,δ',h,k⟩:=h
 unfold Z5x at h;unfold Z72
 split at h
 case h_2=>cases h
 rename_i q;(try rw[q])
 obtain⟨⟨x,δ1⟩,h1,h⟩:=bs h
 refine⟨x,δ1,h1,?_⟩
 try dsimp only at h⊢
 split at h
 case h_2=>cases h
 rename_i q2;(try rw[q2])
 try dsimp only
 split at h
 case h_2=>cases h
 rename_i j q3;(try rw[q3])
 show match ixN _ j with|some k=>_|none=>_
 split at h
 case h_2=>cases h
 rename_i q4;(try rw[q4]);(try dsimp only)
 split at h
 case h_2=>cases h
 rename_i q5;(try rw[q5])
 split at h
 case isFalse=>cases h
 cases h
 exact⟨‹_›,k⟩
end
variable {G:Xc}
section
variable {X:Cx}{io:List Nat}{p c:Bool}{e a b:Expr}{es:List Expr}{m ma mb:MEt}{mr:MAt}{pos apos cpos px py pt sp kp:Pos}{i j:Nat}{x y:Str}{fa fb:FE}{ra:FA}{st:Stmt}
noncomputable def Ya1(a:FA):FE:=λδ=>(a δ).bind λp=>if p.1.length≤Xx then some (.tp p.1,p.2)else none
noncomputable def Zxs(i c:Nat)(e:FE):FS:=λδ=>match δ[i]? with
 | some (some (.tp ts))=>match ts[c]? with
  | some (.nd us)=>wE e (λr _=>if us.length<Xx then .nx (δ.set i (some (.tp (ts.set c (.nd (us ++ [.fz r.data]))))))else .bad) δ
  | _=>.bad
 | _=>.bad
noncomputable def Ya8(i j:Nat)(a:FA):FS:=λδ=>match a δ with
 | some (rs,δ1)=>match OT.datas rs with
  | [d,e]=>.nx ((δ1.set i (some (.fz d))).set j (some (.fz e)))
  | _=>.bad
 | none=>.bad
end
class NoStar (e:Expr):Prop where
 h:∀es env,Xp (e :: es) env=(false,eval e env) :: Xp es env
instance nx_Name{x:Str}{p:Pos}:NoStar (.Name x p):=⟨λ_ _=>rfl⟩
instance nx_Constant{x k}{p:Pos}:NoStar (.Constant x k p):=⟨λ_ _=>rfl⟩
instance nx_BinOp{a o b}{p:Pos}:NoStar (.BinOp a o b p):=⟨λ_ _=>rfl⟩
instance nx_Call{f a k}{p:Pos}:NoStar (.Call f a k p):=⟨λ_ _=>rfl⟩
instance nx_List{a}{p:Pos}:NoStar (.List a p):=⟨λ_ _=>rfl⟩
instance nx_Tuple{a k}{p:Pos}:NoStar (.Tuple a k p):=⟨λ_ _=>rfl⟩
instance nx_Subscript{a b}{p:Pos}:NoStar (.Subscript a b p):=⟨λ_ _=>rfl⟩
instance nx_ListComp{a b s}{p:Pos}:NoStar (.ListComp a b s p):=⟨λ_ _=>rfl⟩
theorem Ze{X:Cx}{io:List Nat}{p p' c c' p2 c2:Bool}{e:Expr}{es:List Expr}{fa:FE}{ra:FA}[NoStar e](ha:ME X io p c e (o2 fa))(hr:MA X io p' c' es (o2 ra))(hc:p'=true∨c=true:=by first|exact QH rfl|exact Qx rfl)(h2:(p&&p')=p2:=by rfl)(h3:(c&&c')=c2:=by rfl):MA X io p2 c2 (e :: es) (o2 (Zc fa ra)) :=
 h2▸h3▸Z1c (Z02 ha hr hc (NoStar.h es X.env))
theorem Zlj{X:Cx}{io:List Nat}{p p' c c':Bool}{e:Expr}{m:MEt}(h:ME X io p c e m)(h2:p=p':=by rfl)(h3:c=c':=by rfl):ME X io p' c' e m:=h2▸h3▸h
theorem Zrz{P:Qa}{w:Qs}{K:Xc}{mg:Str->Option Xd}{base:Heap}{CX:CXT}{k:Nat}{f:Addr}{fd:XR}{ps:List Str}{S:List Xa->(OT->Prop)->Prop}(h:∀ds k,¬S ds k):FnOk P w K mg base CX k f fd ps (spD K S):=by
 have h':∀{vs H Q E},spD K S vs H Q E->False:=λq=>by
  obtain⟨_,ds,k,_,z,_⟩:=q
  exact h ds k z
 exact⟨λvs H Q E q=>(h' q).elim,λA outer s H args us vs Q E _ _ _ _ q=>(h' q).elim⟩
variable {G:Xc}
section
variable {X:Cx}{io:List Nat}{p c:Bool}{e a b:Expr}{es:List Expr}{m ma mb:MEt}{mr:MAt}{pos apos cpos px py pt sp kp:Pos}{i j:Nat}{x y:Str}{fa fb:FE}{ra:FA}{st:Stmt}{u:FS}
noncomputable def insI(x:Int):List Int->List Int
 | []=>[x]
 | y :: ys=>if x≤y then x :: y :: ys else y :: insI x ys
noncomputable def Z5:List Int->List Int
 | []=>[]
 | x :: xs=>insI x (Z5 xs)
theorem insI_perm(x:Int):∀l,(insI x l).Perm (x :: l)
 | []=>.refl _
 | y :: ys=>by
  unfold insI
  split
  ·exact .refl _
  ·exact((insI_perm x ys).cons y).trans (.swap x y ys)
theorem Yi:∀l,(Z5 l).Perm l
 | []=>.refl _
 | x :: xs=>(insI_perm x _).trans ((Yi xs).cons x)
theorem Zho(x:Int):∀{l},l.Pairwise (·≤·)->(insI x l).Pairwise (·≤·)
 | [],_=>.cons (λ_ m=>nomatch m) .nil
 | y :: ys,h=>by
  unfold insI
  cases h with
  | cons h1 h2=>
   split
   ·rename_i c
    refine .cons (λz m=>?_) (.cons h1 h2)
    rcases Xq.mp m with rfl|m
    ·exact c
    ·exact Int.le_trans c (h1 z m)
   ·rename_i c
    refine .cons (λz m=>?_) (Zho x h2)
    rcases Xq.mp ((insI_perm x ys).mem_iff.mp m)with rfl|m
    ·omega
    ·exact h1 z m
theorem Y7:∀l,(Z5 l).Pairwise (·≤·)
 | []=>.nil
 | x :: xs=>Zho x (Y7 xs)
theorem Wy:∀{l₁ l₂:List Int},l₁.Perm l₂->l₁.Pairwise (·≤·)->l₂.Pairwise (·≤·)->l₁=l₂
 | [],l₂,h,_,_=>h.nil_eq
 | a :: l₁,[],h,_,_=>h.eq_nil
 | a :: l₁,b :: l₂,h,h1,h2=>by
  cases h1 with
  | cons p1 q1=>
   cases h2 with
   | cons p2 q2=>
    have e:a=b:=by
     have m1:a∈b :: l₂:=h.mem_iff.mp (.head _)
     have m2:b∈a :: l₁:=h.mem_iff.mpr (.head _)
     rcases Xq.mp m1 with e|m1
     ·exact e
     ·rcases Xq.mp m2 with e|m2
      ·exact e.symm
      ·have:=p2 a m1
       have:=p1 b m2
       omega
    subst e
    rw[Wy h.cons_inv q1 q2]
noncomputable def Zxv(K:Xc):List V->Hp->VK->Prop:=λxs H Q=>∃(a:Addr) (ns:List Int),xs=[.ref a]∧SqL K H a (ns.map V.int)∧ns.length<64∧∀l,H l=none->Q (.ref l) (upd H l (.lst ((Z5 ns).map V.int)))
theorem Z05:∀{its:List Xd} {ns:List Int},Q6 its ns->Vals (ns.map V.int) its
 | [],_,h=>by cases h;exact .nil
 | v :: its,_,h=>by
  cases h with
  | cons n t h=>exact .cons ⟨_,rfl⟩ (Z05 h)
theorem Zfn{K:Xc}(hK:X.K=K):Zd6 X (.builtin "sorted") (Zxv K):=by
 subst hK
 intro pins s σ H xs us Q I r h
 obtain⟨l,ns,rfl,hs,h64,q⟩:=h
 obtain⟨u,rfl,ru⟩:=vals1 r
 cases(show u=Qn l from ru)
 obtain⟨its,rv,pl,hz⟩:=I.list hs
 have hl:=rv.length
 rw[Xj]at hl
 refine sorted_ints pl.isList (Zj5 rv) (by omega) λout ns' a1 a2 a3=>?_
 obtain⟨e,he⟩:=sortedAll_at s.heap its out
 have en:ns'=Z5 ns:=Wy (a2.trans (Yi ns).symm) a3 (Y7 ns)
 subst en
 refine⟨.ref (s.heap.objs.size+1),_,I.laid (t':=s.toks) (o:=.lst ((Z5 ns).map V.int)) (λb ob q=>sortedAll_old q) (by omega) ⟨?_,out.toList,e,Z05 a1,he⟩,rfl,q _ (I.hok.fresh (by omega))⟩
 rw[Xj,(Yi ns).length_eq,Qj];omega
noncomputable def Zyc:List Xa->(OT->Prop)->Prop:=λds k=>n1 (λd=>∃ns:List Int,d= .list (ns.map Xk)∧ns.length<64∧k (.nd (((Z5 ns).map Xk).map OT.fz))) ds
theorem Zjr:PN G (Zxv G) Zyc:=λH L xs ds k Q hx h kk=>by
 obtain⟨v,d,rfl,rfl,q,ns,e,h64,h⟩:=hx.one h
 have fin:∀(p:Addr),H p=none->Q (.ref p) (upd H p (.lst ((Z5 ns).map V.int))):=λp hp=>kk _ _ _ [p] (Yd hp _) (Own.list hp (Das.ints _)) (Zcn p) (Zal hp) h
 subst e
 generalize ed:Qv (ns.map Xk)=d at q
 cases q with
 | lst l e r=>
  cases ed
  exact⟨_,ns,rfl,by rw[r.int_inv]at e;exact .inl e,h64,fin⟩
 | scr ks=>
  injection ed with ed
  have:ns=_:=U7 (λx y z=>by injection z)|>.mp ed
  subst this
  exact⟨_,_,rfl,ks.sq,h64,fin⟩
 | _=>cases ed
noncomputable def Zeq:List Xa->Option OT:=λds=>match ds with|[.list es]=>(Zbn es).bind λns=>if ns.length<64 then some (.nd (((Z5 ns).map Xk).map OT.fz))else none|_=>none
theorem Znv:∀ds r k,Zeq ds=some r->k r->Zyc ds k:=λds r k h hk=>by
 unfold Zeq at h
 split at h
 case h_2=>cases h
 obtain⟨ns,h1,h⟩:=bs h
 split at h
 case isFalse=>cases h
 rename_i h2
 cases h
 exact⟨ns,by rw[J3 h1],h2,hk⟩
end
structure Gives(P:Qa)(w:Qs)(it:Addr)(f:List Addr)(St:Heap->Prop)(x:Xd)(St':Heap->Prop):Prop where
 mem:it∈f
 run:∀{A:Qq} {E:Xd->Xg->Prop} {s:Xg} {Q:Xd->Xg->Prop},St s.heap->(∀h',St' h'->JK it s.heap h'->Q x { s with heap:=h' })->XC (X6 P w) A (QL (.ref it)) Q E s
 keep:∀h h',(∀c∈f,∀o,h.get? c=some o->h'.get? c=some o)->St h->St h'
 keep':∀h h',(∀c∈f,∀o,h.get? c=some o->h'.get? c=some o)->St' h->St' h'
structure Zi7(P:Qa)(w:Qs)(it:Addr)(f:List Addr)(St:Heap->Prop):Prop where
 mem:it∈f
 run:∀{A:Qq} {E:Xd->Xg->Prop} {s:Xg} {Q:Xd->Xg->Prop},A.handled=none->St s.heap->(∀h' e,Heap.ExtBut it s.heap h'->(∃o,h'.get? e=some o∧o.cls= .type "StopIteration")->E (.ref e) { s with heap:=h' })->XC (X6 P w) A (QL (.ref it)) Q E s
 keep:∀h h',(∀c∈f,∀o,h.get? c=some o->h'.get? c=some o)->St h->St h'
structure ZA(z TI TO i1 i2:Addr)(f1 f2:List Addr):Prop where
 TIz:TI≠z
 TOz:TO≠z
 a1:∀c∈f1,c≠z∧c≠TO∧c≠i2
 a2:∀c∈f2,c≠z∧c≠TO∧c≠i1
section
variable {P:Qa}{w:Qs}{A:Qq}{E:Xd->Xg->Prop}{s:Xg}
theorem Zkx{T:Addr}{a b x:Xd}{k:Nat}{Q:Unit->Xg->Prop}(hT:BZ s.heap T a b)(h:∀h',h'.get? T=some { cls:=.type "tuple",data:=.seq ((#[a,b]:Array Xd).setIfInBounds k x) }->JK T s.heap h'->Q () { s with heap:=h' }) :
  XC (X6 P w) A (updateSeq T (·.setIfInBounds k x)) Q E s:=wpAny_updateSeq_pair hT h
theorem Zsh{z TI TO i1 i2:Addr}{f1 f2:List Addr}{S1 T1 S2 T2:Heap->Prop}{x y a b:Xd}{Q:Xd->Xg->Prop}(D:ZA z TI TO i1 i2 f1 f2)(G1:Gives P w i1 f1 S1 x T1)(G2:Gives P w i2 f2 S2 y T2)
  (hz:IsZip s.heap z TI TO .none) (hTI:BZ s.heap TI (.ref i1) (.ref i2)) (hTO:BZ s.heap TO a b) (h1:S1 s.heap) (h2:S2 s.heap)
  (hQ:∀h',IsZip h' z TI TO (JL s.heap.objs.size)->BZ h' TO x y->T1 h'->T2 h'->BZ h' s.heap.objs.size x y ->
   (∀ c o,c∉[z,TO,i1,i2]->s.heap.get? c=some o->h'.get? c=some o)->Q (.ref s.heap.objs.size) { s with heap:=h' }) :
  XC (X6 P w) A (Ba.«zip.__next__» ⟨[.ref z],[]⟩) (λfin s'=>∃v,fin= .done (.ret v)∧Q v s') E s:=by
 obtain⟨i1z,i1O,i12⟩:=D.a1 i1 G1.mem
 obtain⟨i2z,i2O,i21⟩:=D.a2 i2 G2.mem
 have r1:z∉f1∧TO∉f1∧i2∉f1:=⟨λm=>(D.a1 z m).1 rfl,λm=>(D.a1 TO m).2.1 rfl,λm=>(D.a1 i2 m).2.2 rfl⟩
 have r2:z∉f2∧TO∉f2∧i1∉f2:=⟨λm=>(D.a2 z m).1 rfl,λm=>(D.a2 TO m).2.1 rfl,λm=>(D.a2 i1 m).2.2 rfl⟩
 have st:∀{b:Addr} {h h':Heap} {f:List Addr},JK b h h'->b∉f->∀c∈f,∀o,h.get? c=some o->h'.get? c=some o:=λsb hb c hc o e=>sb.extBut _ _ (λq=>hb (q▸hc)) e
 show XC _ _ (field (.ref z) 2>>=_) _ _ _
 refine Xb (Va hz rfl (x:=.bool false) rfl ?_)
 show XC _ _ (field (.ref z) 3>>=_) _ _ _
 refine Xb (Va hz rfl (x:=.ref TI) rfl (Xb (Bx hTI rfl ?_)))
 show XC _ _ (Bm (.ref z)>>=_) _ _ _
 refine Xb ?_
 unfold Bm
 refine Xb (Va hz rfl (x:=.none) rfl (Xl ?_))
 simp only[if_true]
 refine Xb (Uk (Xb (Va hz rfl (x:=.ref TO) rfl (Xb (QR hz (by simp) λh3 z3 b3=>?_)))))
 replace z3:IsZip h3 z TI TO .ellipsis:=z3
 refine Xb ?_
 simp only[List.zipIdx_cons,List.zipIdx_nil,List.forIn_cons,U8]
 refine Xb (Xb (wpAny_onRaise ?_))
 show XC _ _ (QL (.ref i1)>>=_) _ _ _
 refine Xb (G1.run (s:={ s with heap:=h3 }) (G1.keep _ _ (st b3 r1.1) h1) λh4 k4 b4=>Xl ?_)
 have o4:BZ h4 TO a b:=b4.extBut _ _ i1O.symm (b3.extBut _ _ D.TOz hTO)
 refine Xb (Bx o4 rfl (Xb (Zkx (s:={ s with heap:=h4 }) o4 λh5 o5 b5=>Xb (wpAny_letGo (Xl ?_)))))
 replace o5:BZ h5 TO x b:=o5
 refine Xb (Xb (wpAny_onRaise ?_))
 show XC _ _ (QL (.ref i2)>>=_) _ _ _
 refine Xb (G2.run (s:={ s with heap:=h5 }) (G2.keep _ _ (st b5 r2.2.1) (G2.keep _ _ (st b4 r2.2.2) (G2.keep _ _ (st b3 r2.1) h2))) λh6 k6 b6=>Xl ?_)
 have o6:BZ h6 TO x b:=b6.extBut _ _ i2O.symm o5
 refine Xb (Bx o6 rfl (Xb (Zkx (s:={ s with heap:=h6 }) o6 λh7 o7 b7=>Xb (wpAny_letGo (Xl (Xl ?_))))))
 replace o7:BZ h7 TO x y:=o7
 refine Xb (Bx o7 rfl (Xb (wpAny_newTuple ?_)))
 have sz:h7.objs.size=s.heap.objs.size:=by rw[b7.1,b6.1,b5.1,b4.1,b3.1]
 have z7:IsZip h7 z TI TO .ellipsis:=b7.extBut _ _ D.TOz.symm (b6.extBut _ _ i2z.symm (b5.extBut _ _ D.TOz.symm (b4.extBut _ _ i1z.symm z3)))
 have t1:T1 h7:=G1.keep' _ _ (st b7 r1.2.1) (G1.keep' _ _ (st b6 r1.2.2) (G1.keep' _ _ (st b5 r1.2.1) k4))
 have t2:T2 h7:=G2.keep' _ _ (st b7 r2.2.1) k6
 have old:∀c o,c∉[z,TO,i1,i2]->s.heap.get? c=some o->h7.get? c=some o:=λc o n e=>by
  simp only[Xq,Uq,or_false,not_or]at n
  exact b7.extBut _ _ n.2.1 (b6.extBut _ _ n.2.2.2 (b5.extBut _ _ n.2.1 (b4.extBut _ _ n.2.2.1 (b3.extBut _ _ n.1 e))))
 show XC _ _ (Builtin.SmallTypes.ownedTupleHandOut (.ref z) (.ref h7.objs.size)>>=_) _ _ _
 refine Xb ?_
 unfold Builtin.SmallTypes.ownedTupleHandOut
 have zp:IsZip (h7.push { cls:=.type "tuple",data:=.seq #[x,y] }) z TI TO .ellipsis:=Xe _ z7
 refine Xb (QR zp (by simp) λh8 z8 b8=>?_)
 replace z8:IsZip h8 z TI TO (JL h7.objs.size):=z8
 refine QR z8 (by simp) λh9 z9 b9=>?_
 replace z9:IsZip h9 z TI TO (JL h7.objs.size):=z9
 have up:∀c o,c≠z->h7.get? c=some o->h9.get? c=some o:=λc o n e=>b9.extBut _ _ n (b8.extBut _ _ n (Xe _ e))
 have nz:h7.objs.size≠z:=XM (XJ z7)
 have p9:BZ h9 h7.objs.size x y:=b9.extBut _ _ nz (b8.extBut _ _ nz (Xw _ rfl))
 refine Xl ⟨_,rfl,?_⟩
 show Q (.ref h7.objs.size) _
 rw[sz]at z9 p9⊢
 exact hQ h9 z9 (up _ _ D.TOz o7) (G1.keep' _ _ (λc hc o e=>up c o (λq=>r1.1 (q▸hc)) e) t1) (G2.keep' _ _ (λc hc o e=>up c o (λq=>r2.1 (q▸hc)) e) t2) p9 λc o n e=>up c o (λq=>n (by simp[q])) (old c o n e)
theorem Zv9{z TI TO i1 i2:Addr}{f1 f2:List Addr}{S1 T1 S2:Heap->Prop}{a b:Xd}{Q:Fin->Xg->Prop}(hh:A.handled=none)(D:ZA z TI TO i1 i2 f1 f2)(g1:Zi7 P w i1 f1 S1∨(∃x,Gives P w i1 f1 S1 x T1)∧Zi7 P w i2 f2 S2)
  (hz:IsZip s.heap z TI TO .none) (hTI:BZ s.heap TI (.ref i1) (.ref i2)) (hTO:BZ s.heap TO a b) (h1:S1 s.heap) (h2:S2 s.heap)
  (hE:∀h' e,(∀c o,c∉[z,TO,i1,i2]->s.heap.get? c=some o->h'.get? c=some o)->(∃o,h'.get? e=some o∧o.cls= .type "StopIteration")->E (.ref e) { s with heap:=h' }) :
  XC (X6 P w) A (Ba.«zip.__next__» ⟨[.ref z],[]⟩) Q E s:=by
 have r1:z∉f1∧TO∉f1∧i2∉f1:=⟨λm=>(D.a1 z m).1 rfl,λm=>(D.a1 TO m).2.1 rfl,λm=>(D.a1 i2 m).2.2 rfl⟩
 have r2:z∉f2∧TO∉f2∧i1∉f2:=⟨λm=>(D.a2 z m).1 rfl,λm=>(D.a2 TO m).2.1 rfl,λm=>(D.a2 i1 m).2.2 rfl⟩
 have st:∀{b:Addr} {h h':Heap} {f:List Addr},JK b h h'->b∉f->∀c∈f,∀o,h.get? c=some o->h'.get? c=some o:=λsb hb c hc o e=>sb.extBut _ _ (λq=>hb (q▸hc)) e
 show XC _ _ (field (.ref z) 2>>=_) _ _ _
 refine Xb (Va hz rfl (x:=.bool false) rfl ?_)
 show XC _ _ (field (.ref z) 3>>=_) _ _ _
 refine Xb (Va hz rfl (x:=.ref TI) rfl (Xb (Bx hTI rfl ?_)))
 show XC _ _ (Bm (.ref z)>>=_) _ _ _
 refine Xb ?_
 unfold Bm
 refine Xb (Va hz rfl (x:=.none) rfl (Xl ?_))
 simp only[if_true]
 refine Xb (Uk (Xb (Va hz rfl (x:=.ref TO) rfl (Xb (QR hz (by simp) λh3 z3 b3=>?_)))))
 replace z3:IsZip h3 z TI TO .ellipsis:=z3
 refine Xb ?_
 simp only[List.zipIdx_cons,List.zipIdx_nil,List.forIn_cons,U8]
 refine Xb (Xb (wpAny_onRaise ?_))
 show XC _ _ (QL (.ref i1)>>=_) _ _ _
 rcases g1 with G1|⟨⟨x,G1⟩,G2⟩
 ·obtain⟨i1z,i1O,i12⟩:=D.a1 i1 G1.mem
  refine Xb (G1.run (s:={ s with heap:=h3 }) hh (G1.keep _ _ (st b3 r1.1) h1) λh4 e b4 he=>?_)
  obtain⟨oe,hoe,hce⟩:=he
  have z4:IsZip h4 z TI TO .ellipsis:=b4 _ _ i1z.symm z3
  have ez:e≠z:=λq=>by subst q;rw[z4]at hoe;cases hoe;simp at hce
  refine QR z4 (by simp) λh5 _ b5=>hE h5 e (λc o n q=>?_) ⟨oe,b5.extBut _ _ ez hoe,hce⟩
  simp only[Xq,Uq,or_false,not_or]at n
  exact b5.extBut _ _ n.1 (b4 _ _ n.2.2.1 (b3.extBut _ _ n.1 q))
 ·obtain⟨i1z,i1O,i12⟩:=D.a1 i1 G1.mem
  obtain⟨i2z,i2O,i21⟩:=D.a2 i2 G2.mem
  refine Xb (G1.run (s:={ s with heap:=h3 }) (G1.keep _ _ (st b3 r1.1) h1) λh4 k4 b4=>Xl ?_)
  have o4:BZ h4 TO a b:=b4.extBut _ _ i1O.symm (b3.extBut _ _ D.TOz hTO)
  refine Xb (Bx o4 rfl (Xb (Zkx (s:={ s with heap:=h4 }) o4 λh5 o5 b5=>Xb (wpAny_letGo (Xl ?_)))))
  refine Xb (Xb (wpAny_onRaise ?_))
  show XC _ _ (QL (.ref i2)>>=_) _ _ _
  refine Xb (G2.run (s:={ s with heap:=h5 }) hh (G2.keep _ _ (st b5 r2.2.1) (G2.keep _ _ (st b4 r2.2.2) (G2.keep _ _ (st b3 r2.1) h2))) λh6 e b6 he=>?_)
  obtain⟨oe,hoe,hce⟩:=he
  have z6:IsZip h6 z TI TO .ellipsis:=b6 _ _ i2z.symm (b5.extBut _ _ D.TOz.symm (b4.extBut _ _ i1z.symm z3))
  have ez:e≠z:=λq=>by subst q;rw[z6]at hoe;cases hoe;simp at hce
  refine QR z6 (by simp) λh7 _ b7=>hE h7 e (λc o n q=>?_) ⟨oe,b7.extBut _ _ ez hoe,hce⟩
  simp only[Xq,Uq,or_false,not_or]at n
  exact b7.extBut _ _ n.1 (b6 _ _ n.2.2.2 (b5.extBut _ _ n.2.1 (b4.extBut _ _ n.2.2.1 (b3.extBut _ _ n.1 q))))
theorem Zqb{z TI TO i1 i2:Addr}{f1 f2:List Addr}{S1 T1 S2 T2:Heap->Prop}{x y a b:Xd}{Q:Option Xd->Xg->Prop}(D:ZA z TI TO i1 i2 f1 f2)(G1:Gives P w i1 f1 S1 x T1)(G2:Gives P w i2 f2 S2 y T2)
  (hz:IsZip s.heap z TI TO .none) (hTI:BZ s.heap TI (.ref i1) (.ref i2)) (hTO:BZ s.heap TO a b) (h1:S1 s.heap) (h2:S2 s.heap)
  (hQ:∀h',IsZip h' z TI TO (JL s.heap.objs.size)->BZ h' TO x y->T1 h'->T2 h'->BZ h' s.heap.objs.size x y ->
   (∀ c o,c∉[z,TO,i1,i2]->s.heap.get? c=some o->h'.get? c=some o)->Q (some (.ref s.heap.objs.size)) { s with heap:=h' }):XC (X6 P w) A (V9 (.ref z)) Q E s:=by
 have hT:s.TypeIs (.ref z) "zip" :=⟨_,hz,rfl⟩
 unfold V9
 exact Xb (UT (JG (name:=VN "__next__") hT F.slot_zip_next (JC F.slot_zip_next hT F.entry_zip_next (Zsh D G1 G2 hz hTI hTO h1 h2 λh' a1 a2 a3 a4 a5 a6=>Xl (hQ h' a1 a2 a3 a4 a5 a6)) (F.args_zip_next_1 _))))
theorem Zrl{z TI TO i1 i2:Addr}{f1 f2:List Addr}{S1 T1 S2:Heap->Prop}{a b:Xd}{Q:Option Xd->Xg->Prop}(hh:A.handled=none)(D:ZA z TI TO i1 i2 f1 f2)(g1:Zi7 P w i1 f1 S1∨(∃x,Gives P w i1 f1 S1 x T1)∧Zi7 P w i2 f2 S2)
  (hz:IsZip s.heap z TI TO .none) (hTI:BZ s.heap TI (.ref i1) (.ref i2)) (hTO:BZ s.heap TO a b) (h1:S1 s.heap) (h2:S2 s.heap)
  (hQ:∀h',(∀c o,c∉[z,TO,i1,i2]->s.heap.get? c=some o->h'.get? c=some o)->Q none { s with heap:=h' }):XC (X6 P w) A (V9 (.ref z)) Q E s:=by
 have hT:s.TypeIs (.ref z) "zip" :=⟨_,hz,rfl⟩
 unfold V9
 refine Xb (UT (JG (name:=VN "__next__") hT F.slot_zip_next (JC F.slot_zip_next hT F.entry_zip_next (Zv9 hh D g1 hz hTI hTO h1 h2 λh' e hk he=>?_) (F.args_zip_next_1 _))))
 obtain⟨o,ho,hc⟩:=he
 exact Xb (wpAny_isInstance (T :="StopIteration") (b:=true) ⟨o,ho,hc⟩ isSubtype_stop (Xl (hQ _ hk)))
theorem Zr1{it t:Addr}{i:Nat}{items:Array Xd}{x:Xd}(hx:items[i]? =some x):Gives P w it [it,t] (λh=>IsTupIter h it t i∧IsTup h t items) x (λh=>IsTupIter h it t (i+1)) where
 mem:=by simp
 run:=fun{A E s Q} ⟨hit,ht⟩ hQ=>by
  obtain⟨o,ho,hc,hd⟩:=id hit
  obtain⟨ol,hol,_,nl,hdl⟩:=ht
  unfold QL
  refine Xb (JG (name:=VN "__next__") hit.typeIs slot_tupleiter_next (JC slot_tupleiter_next hit.typeIs entry_tupleiter_next ?_ (args_tupleiter_next _)))
  show XC _ _ (field (.ref it) 0>>=_) _ _ s
  refine Xb (Va ho hd (x:=.ref t) rfl ?_)
  show XC _ _ (if(Qn t==QS)=true then _ else _) _ _ s
  rw[if_neg (show¬((Qn t==QS)=true)from Xm)]
  show XC _ _ (field (.ref it) 1>>=_) _ _ s
  refine Xb (Va ho hd (x:=.int i 0) rfl ?_)
  show XC _ _ (seqItems? (.ref t)>>=_) _ _ s
  refine Xb (Bx hol hdl ?_)
  simp only[Qm,hx]
  refine Xb (wpAny_setField ho hd (by simp) (Xl ⟨x,rfl,Xl (hQ _ ?_ (JF ..))⟩))
  exact⟨_,Heap.get?_update_self _ ho (Obj.isFreed_of_fields (Obj.data_mapFields hd _)),(Obj.cls_mapFields ..).trans hc,by rw[Obj.data_mapFields hd];simp[JL]⟩
 keep:=λh h' k ⟨⟨o,a1,a2⟩,⟨o',b1,b2⟩⟩=>⟨⟨o,k it (by simp) o a1,a2⟩,⟨o',k t (by simp) o' b1,b2⟩⟩
 keep':=λh h' k ⟨o,a1,a2⟩=>⟨o,k it (by simp) o a1,a2⟩
theorem Zvd{it t:Addr}{i:Nat}{items:Array Xd}(hx:items[i]? =none):Zi7 P w it [it,t] (λh=>IsTupIter h it t i∧IsTup h t items) where
 mem:=by simp
 run:=fun{A E s Q} hh ⟨hit,ht⟩ hE=>by
  obtain⟨o,ho,hc,hd⟩:=id hit
  obtain⟨ol,hol,_,nl,hdl⟩:=ht
  unfold QL
  refine Xb (JG (name:=VN "__next__") hit.typeIs slot_tupleiter_next (JC slot_tupleiter_next hit.typeIs entry_tupleiter_next ?_ (args_tupleiter_next _)))
  show XC _ _ (field (.ref it) 0>>=_) _ _ s
  refine Xb (Va ho hd (x:=.ref t) rfl ?_)
  show XC _ _ (if(Qn t==QS)=true then _ else _) _ _ s
  rw[if_neg (show¬((Qn t==QS)=true)from Xm)]
  show XC _ _ (field (.ref it) 1>>=_) _ _ s
  refine Xb (Va ho hd (x:=.int i 0) rfl ?_)
  show XC _ _ (seqItems? (.ref t)>>=_) _ _ s
  refine Xb (Bx hol hdl ?_)
  simp only[Qm,hx]
  refine Xb (Uk (Xb (wpAny_setField ho hd (by simp) ?_)))
  show XC _ _ (newExc (.type "StopIteration") []>>=_) _ _ _
  refine Xb ?_
  simp only[newExc,newTuple]
  refine Xb (JD ?_ (by size_fits))
  refine Xb (m:=Uw _ _) (wpAny_of_eq (a:=QS) (by first|rfl|(simp only[Uw];rfl)) ?_)
  refine JD ?_ (by size_fits)
  simp only[raiseNew]
  refine Xb (wpAny_handled ?_)
  first|rw[show A.in1.handled=none from hh]|rw[hh]
  exact Xb (Xl (wpAny_throw (hE _ _ (((JF ..).extBut.push _).push _) ⟨_,Xw _ rfl,rfl⟩)))
 keep:=λh h' k ⟨⟨o,a1,a2⟩,⟨o',b1,b2⟩⟩=>⟨⟨o,k it (by simp) o a1,a2⟩,⟨o',k t (by simp) o' b1,b2⟩⟩
end
noncomputable abbrev zT1(h:Heap)(a:Addr):Heap:=h.push { cls:=.type "tuple_iterator",data:=.fields #[.ref a,.int 0 0] }
noncomputable abbrev zT2(h:Heap)(a b:Addr):Heap:=(zT1 h a).push { cls:=.type "tuple_iterator",data:=.fields #[.ref b,.int 0 0] }
noncomputable abbrev zT3(h:Heap)(a b:Addr):Heap:=(zT2 h a b).push { cls:=.type "tuple",data:=.seq #[.ref h.objs.size,.ref (zT1 h a).objs.size] }
noncomputable abbrev zT4(h:Heap)(a b:Addr):Heap:=(zT3 h a b).push { cls:=.type "tuple",data:=.seq #[.none,.none] }
noncomputable abbrev zT5(h:Heap)(a b:Addr):Heap:=(zT4 h a b).push { cls:=.type "zip",data:=.fields #[.none,.bool false,.bool false,.ref (zT2 h a b).objs.size,.ref (zT3 h a b).objs.size] }
theorem Zw8(a b:Addr)(xs ys:Array Xd) :
  Meets (Ba.«zip.__new__» ⟨[.type "zip",.ref a,.ref b],[]⟩) (λ_ R s=>IsTup s.heap a xs∧IsTup s.heap b ys∧R (.ok (.ret (.ref (zT4 s.heap a b).objs.size))) { s with heap:=zT5 s.heap a b }) :=
 .of_wp λprog w A R s h=>by
  obtain⟨hp,g,d,tk,os⟩:=s
  obtain⟨h1,h2,h⟩:=h
  have hsub:=sub_zip
  have hL1:IsTup (Xg.heap ⟨hp,g,d,tk,os⟩) a xs:=h1
  have hL2:IsTup (Xg.heap ⟨hp.push { cls:=.type "tuple_iterator",data:=.fields #[.ref a,.int 0 0] },g,d,tk,os⟩) b ys:=h2.push _
  wp_walk using iter_tuple hL1,iter_tuple hL2
  exact⟨_,rfl,h⟩
section
variable {P:Qa}{w:Qs}{A:Qq}{E:Xd->Xg->Prop}{s:Xg}
theorem Zus{a b:Addr}{xs ys:Array Xd}{Q:Xd->Xg->Prop}(h1:IsTup s.heap a xs)(h2:IsTup s.heap b ys)
  (h:∀h' n,n=s.heap.objs.size->IsZip h' (n+4) (n+2) (n+3) .none->BZ h' (n+2) (.ref n) (.ref (n+1))->BZ h' (n+3) .none .none->IsTupIter h' n a 0->IsTupIter h' (n+1) b 0 ->
   (∀ c o,s.heap.get? c=some o->h'.get? c=some o)->Q (.ref (n+4)) { s with heap:=h' }):XC (X6 P w) A (call (.type "zip") [.ref a,.ref b]) Q E s:=by
 refine callType_new F.called_zip (by decide) (F.typeCall_zip_2 _ _) (F.newCall_zip_2 _ _) (λobj=>F.args_object_init_3 obj _ _) F.entry_zip_new (Zw8 a b xs ys) ⟨h1,h2,?_⟩
 have e1:(zT1 s.heap a).objs.size=s.heap.objs.size+1:=Qy ..
 have e2:(zT2 s.heap a b).objs.size=s.heap.objs.size+2:=by rw[Qy,e1]
 have e3:(zT3 s.heap a b).objs.size=s.heap.objs.size+3:=by rw[Qy,e2]
 have e4:(zT4 s.heap a b).objs.size=s.heap.objs.size+4:=by rw[Qy,e3]
 have up:∀{c o},(zT1 s.heap a).get? c=some o->(zT5 s.heap a b).get? c=some o:=λx=>Xe _ (Xe _ (Xe _ (Xe _ x)))
 have p5:(zT5 s.heap a b).get? (zT4 s.heap a b).objs.size=some _:=Xw _ rfl
 have p4:(zT5 s.heap a b).get? (zT3 s.heap a b).objs.size=some _:=Xe _ (Xw _ rfl)
 have p3:(zT5 s.heap a b).get? (zT2 s.heap a b).objs.size=some _:=Xe _ (Xe _ (Xw _ rfl))
 have p2:(zT5 s.heap a b).get? (zT1 s.heap a).objs.size=some _:=Xe _ (Xe _ (Xe _ (Xw _ rfl)))
 have p1:(zT5 s.heap a b).get? s.heap.objs.size=some _:=up (Xw _ rfl)
 show _∧_
 rw[e2,e3,e4]at p5
 rw[e1,e2]at p3
 rw[e3]at p4
 rw[e1]at p2
 rw[e4]
 exact⟨⟨_,p5,rfl⟩,h _ _ rfl p5 p3 p4 ⟨_,p1,rfl,rfl⟩ ⟨_,p2,rfl,rfl⟩ λc o x=>up (Xe _ x)⟩
end
theorem nn{n a b:Nat}(h:a≠b):n+a≠n+b:=λe=>h (Nat.add_left_cancel e)
theorem n0{n b:Nat}(h:0≠b):n≠n+b:=λe=>h (Nat.add_left_cancel (n:=n) e)
theorem nlt{n a c:Nat}(h:a<n):a≠n+c:=Xo (Qi h (JS ..))
theorem ZA.new{n a b:Nat}(h1:a<n)(h2:b<n):ZA (n+4) (n+2) (n+3) n (n+1) [n,a] [n+1,b] where
 TIz:=(by first|exact nn (by decide)|exact n0 (by decide)|exact(n0 (by decide)).symm|exact nlt h1|exact nlt h2|exact(nlt h1).symm|exact(nlt h2).symm|exact Xo h1|exact Xo h2|exact XM h1|exact XM h2|omega)
 TOz:=(by first|exact nn (by decide)|exact n0 (by decide)|exact(n0 (by decide)).symm|exact nlt h1|exact nlt h2|exact(nlt h1).symm|exact(nlt h2).symm|exact Xo h1|exact Xo h2|exact XM h1|exact XM h2|omega)
 a1:=λc hc=>by
  simp only[Xq,Uq,or_false]at hc
  rcases hc with rfl|rfl
  ·exact⟨(by first|exact nn (by decide)|exact n0 (by decide)|exact(n0 (by decide)).symm|exact nlt h1|exact nlt h2|exact(nlt h1).symm|exact(nlt h2).symm|exact Xo h1|exact Xo h2|exact XM h1|exact XM h2|omega),(by first|exact nn (by decide)|exact n0 (by decide)|exact(n0 (by decide)).symm|exact nlt h1|exact nlt h2|exact(nlt h1).symm|exact(nlt h2).symm|exact Xo h1|exact Xo h2|exact XM h1|exact XM h2|omega),(by first|exact nn (by decide)|exact n0 (by decide)|exact(n0 (by decide)).symm|exact nlt h1|exact nlt h2|exact(nlt h1).symm|exact(nlt h2).symm|exact Xo h1|exact Xo h2|exact XM h1|exact XM h2|omega)⟩
  ·exact⟨(by first|exact nn (by decide)|exact n0 (by decide)|exact(n0 (by decide)).symm|exact nlt h1|exact nlt h2|exact(nlt h1).symm|exact(nlt h2).symm|exact Xo h1|exact Xo h2|exact XM h1|exact XM h2|omega),(by first|exact nn (by decide)|exact n0 (by decide)|exact(n0 (by decide)).symm|exact nlt h1|exact nlt h2|exact(nlt h1).symm|exact(nlt h2).symm|exact Xo h1|exact Xo h2|exact XM h1|exact XM h2|omega),(by first|exact nn (by decide)|exact n0 (by decide)|exact(n0 (by decide)).symm|exact nlt h1|exact nlt h2|exact(nlt h1).symm|exact(nlt h2).symm|exact Xo h1|exact Xo h2|exact XM h1|exact XM h2|omega)⟩
 a2:=λc hc=>by
  simp only[Xq,Uq,or_false]at hc
  rcases hc with rfl|rfl
  ·exact⟨(by first|exact nn (by decide)|exact n0 (by decide)|exact(n0 (by decide)).symm|exact nlt h1|exact nlt h2|exact(nlt h1).symm|exact(nlt h2).symm|exact Xo h1|exact Xo h2|exact XM h1|exact XM h2|omega),(by first|exact nn (by decide)|exact n0 (by decide)|exact(n0 (by decide)).symm|exact nlt h1|exact nlt h2|exact(nlt h1).symm|exact(nlt h2).symm|exact Xo h1|exact Xo h2|exact XM h1|exact XM h2|omega),(by first|exact nn (by decide)|exact n0 (by decide)|exact(n0 (by decide)).symm|exact nlt h1|exact nlt h2|exact(nlt h1).symm|exact(nlt h2).symm|exact Xo h1|exact Xo h2|exact XM h1|exact XM h2|omega)⟩
  ·exact⟨(by first|exact nn (by decide)|exact n0 (by decide)|exact(n0 (by decide)).symm|exact nlt h1|exact nlt h2|exact(nlt h1).symm|exact(nlt h2).symm|exact Xo h1|exact Xo h2|exact XM h1|exact XM h2|omega),(by first|exact nn (by decide)|exact n0 (by decide)|exact(n0 (by decide)).symm|exact nlt h1|exact nlt h2|exact(nlt h1).symm|exact(nlt h2).symm|exact Xo h1|exact Xo h2|exact XM h1|exact XM h2|omega),(by first|exact nn (by decide)|exact n0 (by decide)|exact(n0 (by decide)).symm|exact nlt h1|exact nlt h2|exact(nlt h1).symm|exact(nlt h2).symm|exact Xo h1|exact Xo h2|exact XM h1|exact XM h2|omega)⟩
theorem ZA.new2(n:Nat):(n+2:Nat)≠n+3∧(n+2:Nat)≠n∧(n+2:Nat)≠n+1:=⟨nn (by decide),(n0 (by decide)).symm,nn (by decide)⟩
section
variable {X:Cx}{io:List Nat}{p c:Bool}{a b:Expr}{mr:MAt}
noncomputable def Z26(ds:List Xa):Option (List Xa):=match ds with|[.list as,.list bs]=>some (Zjf as bs)|[.tuple as,.tuple bs]=>some (Zjf as bs)|_=>none
noncomputable def Zgx(a:FA):FI:=λδ=>(a δ).bind λp=>(Z26 (OT.datas p.1)).bind λds=>some (ds,p.2)
end
noncomputable def Zfh{α:Type}(xs:List α)(lo hi st:Option Int):List α :=
 (sliceRange (JW lo hi st xs.length).1 (JW lo hi st xs.length).2.1 (JW lo hi st xs.length).2.2).filterMap (xs[·]?)
theorem Vals.places:∀{xs:List V} {its:List Xd},Vals xs its->∀js:List Nat,Vals (js.filterMap (xs[·]?)) (js.filterMap (its[·]?))
 | _,_,_,[]=>.nil
 | xs,its,h,j :: js=>by
  have ih:=Vals.places h js
  cases hn:xs[j]? with
  | some x=>
   obtain⟨u,hu,ru⟩:=h.get hn
   simp only[QG,hn,hu]
   exact .cons ru ih
  | none=>
   have hv:its[j]? =none:=by
    rw[Qw]at hn⊢
    rw[←h.length];exact hn
   simp only[QG,hn,hv]
   exact ih
theorem Das.places{G:Xc}{H:Hp}{L:Addr->Prop}{xs:List V}{ds:List Xa}(h:Das G H L xs ds):∀js:List Nat,Das G H L (js.filterMap (xs[·]?)) (js.filterMap (ds[·]?))
 | []=>.nil
 | j :: js=>by
  have ih:=Das.places h js
  cases hn:ds[j]? with
  | some x=>
   obtain⟨u,hu,ru⟩:=h.get hn
   simp only[QG,hn,hu]
   exact .cons ru ih
  | none=>
   have hv:xs[j]? =none:=by
    rw[Qw]at hn⊢
    rw[h.length];exact hn
   simp only[QG,hn,hv]
   exact ih
theorem Das.pick{G:Xc}{H:Hp}{L:Addr->Prop}{xs:List V}{ds:List Xa}(h:Das G H L xs ds)(lo hi st:Option Int):Das G H L (Zfh xs lo hi st) (Zfh ds lo hi st):=by
 unfold Zfh
 rw[h.length]
 exact h.places _
theorem Vals.pick{xs:List V}{its:List Xd}(h:Vals xs its)(lo hi st:Option Int):Vals (Zfh xs lo hi st) (slicePick its.toArray lo hi st).toList:=by
 have e:(slicePick its.toArray lo hi st).toList=(sliceRange (JW lo hi st xs.length).1 (JW lo hi st xs.length).2.1 (JW lo hi st xs.length).2.2).filterMap (its[·]?):=by
  simp[slicePick,h.length]
 rw[e]
 exact h.places _
theorem Zh6{xs:List V}{its:List Xd}(h:Vals xs its)(lo hi st:Option Int):(Zfh xs lo hi st).length≤xs.length:=by
 have e:=(h.pick lo hi st).length
 have s:=slicePick_size_le its.toArray lo hi st
 have l:=h.length
 simp only[X7,Xy]at e s
 omega
section
variable {X:Cx}{e:Expr}{te:TE}{lo hi:Option Expr}{se:Expr}{tl th ts:TO}{pos p2:Pos}
noncomputable def tSt(K:Xc)(te:TE)(tl th ts:TO):TE:=λσ H Q=>te σ H λx H1=>tl σ H1 λl H2=>th σ H2 λu H3=>ts σ H3 λk H4=>∃a xs,x= .ref a∧SqL K H4 a xs∧k≠some 0∧∀p,H4 p=none->Q (.ref p) (upd H4 p (.lst (Zfh xs l u k)))
theorem Z2x(he:PE X e te)(hl:PO X lo tl)(hu:PO X hi th)(hst:PO X (some se) ts):PE X (.Subscript e (.Slice lo hi (some se) p2) pos) (tSt X.K te tl th ts):=by
 intro pins s σ H Q I h
 refine Subscript_ (thn (he pins s σ H _ I h) λv s1 qz9=>?_)
 obtain⟨x,H1,I1,r1,q1⟩:=qz9
 refine wpAny_Slice (thn (hl pins s1 σ H1 _ I1 q1) λvl s2 qz9=>?_)
 obtain⟨l,H2,I2,pl,q2⟩:=qz9
 refine thn (hu pins s2 σ H2 _ I2 q2) λvu s3 qz9=>?_
 obtain⟨u,H3,I3,pu,q3⟩:=qz9
 refine thn (hst pins s3 σ H3 _ I3 q3) λvs s4 qz9=>?_
 obtain⟨k,H4,I4,ps,q4⟩:=qz9
 obtain⟨a,xs,rfl,hx,hk,q⟩:=q4
 cases r1
 have I5:Inv X pins σ H4 { s4 with heap:=s4.heap.push { cls:=.type "slice",data:=.fields #[vl,vu,vs] } }:=I4.kept (t':=s4.toks) λb ob q=>Xe _ q
 obtain⟨its,r,ht,hz⟩:=I5.list hx
 have hlen:=r.length
 show XC (X6 X.prog X.w) X.A (subscriptTail e (.Slice lo hi (some se) p2) (.ref a) (.ref s4.heap.objs.size)) (EP X pins σ Q) X.xe { s4 with heap:=s4.heap.push { cls:=.type "slice",data:=.fields #[vl,vu,vs] } }
 refine tail_any (ops:=[.ref a,.ref s4.heap.objs.size]) ht.isList.typeIs slot_list_getitem.lookup ?_ (by with_unfolding_all rfl)
 refine wpAny_getItem_list_slice ht.isList (Heap.IsSliceOf.new ..) pl pu ps hk ?_ (by rw[Xy]<;>omega)
 refine⟨.ref _,_,I5.laid (t':=s4.toks) (o:=.lst (Zfh xs l u k)) (λb ob q=>Xe _ q) (XN _) ?_,rfl,q _ (I5.hok.fresh (XN _))⟩
 exact⟨QT (Zh6 r l u k) hz,_,0,r.pick l u k,Xw _ rfl⟩
end
section
variable {X:Cx}{io:List Nat}{p c:Bool}{a e:Expr}{ma:MEt}{lo hi:Option Expr}{se:Expr}{ml mh ms:MOt}{pos p2:Pos}{fa:FE}
noncomputable def Z48(m:MEt)(ml mh ms:MOt):MEt:=λδ K=>m δ λr δ1=>ml δ1 λlo δ2=>mh δ2 λhi δ3=>ms δ3 λst δ4=>st≠some 0∧asL r.data λds=>K (.nd ((Zfh ds lo hi st).map OT.fz)) δ4
theorem Z4h(ha:ME X io true c a ma)(hl:MO X io true lo ml)(hh:MO X io true hi mh)(hs:MO X io true (some se) ms):ME X io true c (.Subscript a (.Slice lo hi (some se) p2) pos) (Z48 ma ml mh ms):=by
 obtain⟨_,A,s⟩:=ha
 obtain⟨_,B,sl⟩:=hl
 obtain⟨_,D,sh⟩:=hh
 obtain⟨_,F,ss⟩:=hs
 refine⟨_,Z2x A B D F,?_⟩
 intro C H σ δ fp ex K' Q R h k
 refine s C H σ δ fp ex _ _ R h λH1 v r δ1 fp1 new r1 h1=>?_
 refine sl C H1 σ δ1 fp1 ex _ _ r1.base h1 λH2 l δ2 fp2 R2 S2 h2=>?_
 refine sh C H2 σ δ2 fp2 ex _ _ R2 h2 λH3 u δ3 fp3 R3 S3 h3=>?_
 refine ss C H3 σ δ3 fp3 ex _ _ R3 h3 λH4 w δ4 fp4 R4 S4 h4=>?_
 obtain⟨hw,h4⟩:=h4
 have s2:Same H1 H2:=λb o e=>S2.keep b o e (.inl rfl)
 have s3:Same H2 H3:=λb o e=>S3.keep b o e (.inl rfl)
 have s4:Same H3 H4:=λb o e=>S4.keep b o e (.inl rfl)
 obtain⟨e3,e4⟩:=S2.env rfl
 obtain⟨e5,e6⟩:=S3.env rfl
 obtain⟨e7,e8⟩:=S4.env rfl
 have q:=(((r1.da R).same s2).same s3).same s4
 obtain⟨a',xs,ds,rfl,e,qs,h4⟩:=q.lstInv h4
 refine⟨a',xs,rfl,e,hw,λp hp=>?_⟩
 have S:=((r1.stp.trans S2).trans S3).trans S4
 refine k _ _ _ δ4 fp4 [p] (RE.tree R R4 S (Yd hp _) (Zal hp) (Zcn p) (Own.list hp ((qs.pick l u w).wide λa l _=>?_))) h4
 rw[e8,e6,e4]
 exact l
noncomputable def stepOf(d:Xa)(lo hi st:Option Int):Option OT:=match d with| .list ds=>if st=some 0 then none else some (.nd ((Zfh ds lo hi st).map OT.fz))|_=>none
noncomputable def Zwz(e:FE)(lo hi st:FO):FE:=λδ=>(e δ).bind λp=>(lo p.2).bind λq=>(hi q.2).bind λr=>(st r.2).bind λt=>(stepOf p.1.data q.1 r.1 t.1).bind λo=>some (o,t.2)
theorem Z0r{lo hi st:FO}(h:ME X io p c e (Z48 (o2 fa) (o2 lo) (o2 hi) (o2 st))):ME X io p c e (o2 (Zwz fa lo hi st)):=h.weak λδ K h=>by
 obtain⟨r,δ',h,k⟩:=h
 obtain⟨⟨x,δ1⟩,h1,h⟩:=bs h
 obtain⟨⟨y,δ2⟩,h2,h⟩:=bs h
 obtain⟨⟨z,δ3⟩,h3,h⟩:=bs h
 obtain⟨⟨t,δ4⟩,h4,h⟩:=bs h
 obtain⟨o,h5,h⟩:=bs h
 cases h
 refine⟨x,δ1,h1,y,δ2,h2,z,δ3,h3,t,δ4,h4,?_⟩
 unfold stepOf at h5
 dsimp only at h5⊢
 split at h5
 ·rename_i q
  split at h5
  ·cases h5
  ·rename_i n
   cases h5
   refine⟨n,?_⟩
   rw[show x.data=_ from q]
   exact k
 ·cases h5
end
theorem Zkd{α β:Type}{f g:α->Option β}:∀{l:List α},(∀k∈l,f k=g k)->l.filterMap f=l.filterMap g
 | [],_=>rfl
 | a :: l,h=>by
  rw[QG,QG,h a (by simp),Zkd λk hk=>h k (by simp[hk])]
theorem Ztn{α:Type}(xs:List α):Zfh xs none none (some (-1))=xs.reverse:=by
 unfold Zfh sliceRange JW
 simp only[Um]
 have d0:¬((-1:Int)>0):=by decide
 simp only[if_neg d0]
 have hc:(if(xs.length:Int)-1> -1 then((xs.length:Int)-1- -1- -1-1)/(- -1)else 0)=(xs.length:Int):=by
  split
  ·simp
  ·omega
 rw[hc,U9,Qm]
 apply List.ext_getElem?
 intro i
 have hf:List.filterMap ((λx=>xs[x]?)∘ λk:Nat=>((xs.length:Int)-1+ -1*(k:Int)).toNat) (Xr xs.length)=xs.reverse:=by
  have:∀k∈Xr xs.length,((λx=>xs[x]?)∘ λk:Nat=>((xs.length:Int)-1+ -1*(k:Int)).toNat) k=xs.reverse[k]?:=λk hk=>by
   have hk:=X8.mp hk
   show xs[((xs.length:Int)-1+ -1*(k:Int)).toNat]? =_
   rw[List.getElem?_reverse hk]
   congr 1
   omega
  rw[Zkd this]
  have gen:∀(ys:List α) (m:Nat),m=ys.length->List.filterMap (λk=>ys[k]?) (Xr m)=ys:=by
   intro ys
   induction ys with
   | nil=>intro m hm;subst hm;rfl
   | cons y ys ih=>
    intro m hm
    subst hm
    rw[BR,List.range_succ_eq_map,QG]
    simp only[List.getElem?_cons_zero,U9]
    exact congrArg _ (ih _ rfl)
  exact gen _ _ (by simp)
 rw[hf]
theorem Zp2{α:Type}(xs:List α):Zfh xs none (some 0) (some (-1))=(xs.drop 1).reverse:=by
 cases xs with
 | nil=>rfl
 | cons y ys=>
  rw[List.drop_succ_cons,List.drop_zero,←Ztn ys]
  unfold Zfh sliceRange JW
  simp only[Um,BR]
  have d0:¬((-1:Int)>0):=by decide
  have d1:¬((0:Int)<0):=by decide
  simp only[if_neg d0,if_neg d1]
  have e0:max (-1:Int) (min 0 (((ys.length+1:Nat):Int)-1))=0:=by omega
  rw[e0]
  have c1:(if((ys.length+1:Nat):Int)-1>0 then(((ys.length+1:Nat):Int)-1-0- -1-1)/(- -1)else 0)=(ys.length:Int):=by
   split
   ·simp
   ·omega
  have c2:(if(ys.length:Int)-1> -1 then((ys.length:Int)-1- -1- -1-1)/(- -1)else 0)=(ys.length:Int):=by
   split
   ·simp
   ·omega
  rw[c1,c2,U9,U9]
  refine Zkd λk hk=>?_
  have hk:k<ys.length:=by simpa using hk
  show(y :: ys)[(((ys.length+1:Nat):Int)-1+ -1*(k:Int)).toNat]? =ys[((ys.length:Int)-1+ -1*(k:Int)).toNat]?
  rw[show(((ys.length+1:Nat):Int)-1+ -1*(k:Int)).toNat=((ys.length:Int)-1+ -1*(k:Int)).toNat+1 by omega,Ub]
theorem Zni(ds:List Xa):stepOf (.list ds) none (some 0) (some (-1))=some (.nd (((ds.drop 1).reverse).map OT.fz)):=by
 show(if some (-1:Int)=some 0 then none else _)=_
 rw[Zp2];exact if_neg (by decide)
variable {G:Xc}
section
variable {X:Cx}{io:List Nat}{p c:Bool}{a b e:Expr}{mr:MAt}{ra:FA}{i:Nat}
noncomputable def isFn(y:Str)(d:Xa):Bool:=match d with| .dict [(.str x,.bool true)]=>decide (x=y)|_=>false
end
section
variable {X:Cx}{io:List Nat}{p c:Bool}{a:Expr}{mr:MAt}{ra:FA}
end
variable {G:Xc}
theorem Z4r{α:Type}{p:α->Prop}{a b c d:α}(h1:p a)(h2:p b)(h3:p c)(h4:p d):∀x∈[a,b,c,d],p x:=by
 intro x hx
 rcases Xq.mp hx with rfl|hx
 ·exact h1
 rcases Xq.mp hx with rfl|hx
 ·exact h2
 rcases Xq.mp hx with rfl|hx
 ·exact h3
 rcases XD.mp hx with rfl
 exact h4
theorem Z9x{α:Type}{p:α->Prop}{a b c d e:α}(h1:p a)(h2:p b)(h3:p c)(h4:p d)(h5:p e):∀x∈[a,b,c,d,e],p x:=λx hx=>(Xq.mp hx).elim (λq=>q▸h1) (Z4r h2 h3 h4 h5 x)
theorem no4{α:Type}{a b c d x:α}(h1:x≠a)(h2:x≠b)(h3:x≠c)(h4:x≠d):x∉[a,b,c,d]:=λhx=>Z4r (p:=λy=>x≠y) h1 h2 h3 h4 x hx rfl
noncomputable def SqB(K:Xc)(t:Bool)(H:Hp)(a:Addr)(xs:List V):Prop:=match t with|true=>H a=some (.tup xs)|false=>SqL K H a xs
noncomputable def IsB(t:Bool)(h:Heap)(a:Addr)(its:Array Xd):Prop:=match t with|true=>IsTup h a its|false=>h.IsList a its
noncomputable def ItB(t:Bool)(h:Heap)(it a:Addr)(i:Nat):Prop:=match t with|true=>IsTupIter h it a i|false=>h.IsListIter it a i
theorem ItB.at{t:Bool}{h h':Heap}{it a:Addr}{i:Nat}(x:ItB t h it a i)(k:∀o,h.get? it=some o->h'.get? it=some o):ItB t h' it a i:=by
 cases t with
 | false=>exact Heap.IsListIter.at x k
 | true=>
  obtain⟨o,ho,r⟩:=x
  exact⟨o,k o ho,r⟩
theorem ItB.obj{t:Bool}{h:Heap}{it a:Addr}{i:Nat}(x:ItB t h it a i):∃o,h.get? it=some o∧∀v,o.data≠ .cell v:=by
 cases t with
 | false=>
  obtain⟨o,ho,_,d⟩:=x
  exact⟨o,ho,λv q=>by rw[d]at q;cases q⟩
 | true=>
  obtain⟨o,ho,_,d⟩:=x
  exact⟨o,ho,λv q=>by rw[d]at q;cases q⟩
theorem IsB.lt{t:Bool}{h:Heap}{a:Addr}{its:Array Xd}(x:IsB t h a its):a<h.objs.size:=by
 cases t with
 | false=>
  obtain⟨o,ho,_⟩:=x
  exact XJ ho
 | true=>
  obtain⟨o,ho,_⟩:=x
  exact XJ ho
theorem SqB.its{X:Cx}{pins:List (Addr×Obj)}{σ:St}{H:Hp}{s:Xg}{t:Bool}{a:Addr}{xs:List V}(I:Inv X pins σ H s)(h:SqB X.K t H a xs):∃its:List Xd,Vals xs its∧IsB t s.heap a its.toArray:=by
 cases t with
 | false=>
  obtain⟨its,r,p,_⟩:=I.list h
  exact⟨its,r,p.isList⟩
 | true=>
  obtain⟨_,its,r,p⟩:=(show ObjOk X.prog X.w H s.heap a (.tup xs)from I.hok a _ h)
  exact⟨its,r,p⟩
theorem SqB.inj{X:Cx}{pins:List (Addr×Obj)}{σ:St}{H:Hp}{s:Xg}{t:Bool}{a:Addr}{xs ys:List V}(I:Inv X pins σ H s)(h:SqB X.K t H a xs)(k:SqB X.K t H a ys):xs=ys:=by
 cases t with
 | false=>exact I.list_inj h k
 | true=>
  have:=(show H a=some (.tup xs)from h).symm.trans k
  cases this
  rfl
section
variable {P:Qa}{w:Qs}
theorem Ztl{t:Bool}{it a:Addr}{i:Nat}{items:Array Xd}{x:Xd}(hx:items[i]? =some x):Gives P w it [it,a] (λh=>ItB t h it a i∧IsB t h a items) x (λh=>ItB t h it a (i+1)):=by
 cases t with
 | true=>exact Zr1 hx
 | false=>
  exact⟨.head _,λst hQ=>wpAny_nextOf_list_item st.1 st.2 hx hQ,λh h' k st=>⟨Heap.IsListIter.at st.1 λo e=>k it (.head _) o e,by
   obtain⟨o,ho,r⟩:=st.2
   exact⟨o,k a (.tail _ (.head _)) o ho,r⟩⟩,λh h' k st=>Heap.IsListIter.at st λo e=>k it (.head _) o e⟩
theorem Z6x{t:Bool}{it a:Addr}{i:Nat}{items:Array Xd}(hx:items[i]? =none):Zi7 P w it [it,a] (λh=>ItB t h it a i∧IsB t h a items):=by
 cases t with
 | true=>exact Zvd hx
 | false=>
  exact⟨.head _,λhh st hE=>wpAny_nextOf_list_end hh st.1 st.2 hx hE,λh h' k st=>⟨Heap.IsListIter.at st.1 λo e=>k it (.head _) o e,by
   obtain⟨o,ho,r⟩:=st.2
   exact⟨o,k a (.tail _ (.head _)) o ho,r⟩⟩⟩
end
noncomputable def Ycj(K:Xc)(t:Bool)(a b:Addr):It :=
 ⟨λi H=>∃xs ys x y,SqB K t H a xs∧SqB K t H b ys∧xs[i]? =some x∧ys[i]? =some y,
   λi H v H'=>∃p x y,H p=none∧v= .ref p∧H'=upd H p (.tup [x,y])∧(∀xs,SqB K t H a xs->xs[i]? =some x)∧∀ys,SqB K t H b ys->ys[i]? =some y,
   λi H=>∃xs ys,SqB K t H a xs∧SqB K t H b ys∧(xs.length≤i∨ys.length≤i)⟩
noncomputable def Yc1(t:Bool)(z TI TO i1 i2 a b:Addr)(i:Nat)(h:Heap):Prop:=IsZip h z TI TO .none∧BZ h TI (.ref i1) (.ref i2)∧(∃x y,BZ h TO x y)∧ItB t h i1 a i∧ItB t h i2 b i
theorem Zui{P:Qa}{w:Qs}{K:Xc}{es:List Expr}{kk:Nat}{pos:Pos}{t:Bool}{z TI TO i1 i2 a b:Addr}(D:ZA z TI TO i1 i2 [i1,a] [i2,b])(D2:TI≠TO∧TI≠i1∧TI≠i2):Turn P w K (.Tuple es kk pos) (Ycj K t a b) [z,TI,TO,i1,i2] z (Yc1 t z TI TO i1 i2 a b) where
 mem:=.head _
 obj:=λi h st=>by
  obtain⟨s1,s2,⟨x,y,s3⟩,s4,s5⟩:=st
  exact Z9x ⟨_,s1,λv q=>by cases q⟩ ⟨_,s2,λv q=>by cases q⟩ ⟨_,s3,λv q=>by cases q⟩ s4.obj s5.obj
 keep:=λi h h' st k=>by
  obtain⟨s1,s2,⟨x,y,s3⟩,s4,s5⟩:=st
  have m2:TI∈[z,TI,TO,i1,i2]:=.tail _ (.head _)
  have m3:TO∈[z,TI,TO,i1,i2]:=.tail _ (.tail _ (.head _))
  have m4:i1∈[z,TI,TO,i1,i2]:=.tail _ (.tail _ (.tail _ (.head _)))
  have m5:i2∈[z,TI,TO,i1,i2]:=.tail _ (.tail _ (.tail _ (.tail _ (.head _))))
  exact⟨k z (.head _) _ s1,k TI m2 _ s2,⟨x,y,k TO m3 _ s3⟩,s4.at (k i1 m4),s5.at (k i2 m5)⟩
 item:=by
  intro X hP hw hK hc i pins s σ H E I hf st hg
  subst hP hw hK
  obtain⟨s1,s2,⟨x0,y0,s3⟩,s4,s5⟩:=st
  obtain⟨xs,ys,x,y,hx,hy,ex,ey⟩:=hg
  obtain⟨its,rx,px⟩:=hx.its I
  obtain⟨its',ry,py⟩:=hy.its I
  obtain⟨u,hu,ru⟩:=rx.get ex
  obtain⟨u',hu',ru'⟩:=ry.get ey
  rw[←Uo]at hu hu'
  refine Zqb D (Ztl hu) (Ztl hu') s1 s2 s3 ⟨s4,px⟩ ⟨s5,py⟩ λh' g1 g2 g3 g4 g5 g6=>?_
  refine⟨_,rfl,wpAny_letOwnedTupleGo_zip (s:={ s with heap:=h' }) g1 λh2 z2 sb=>?_⟩
  have up:∀c o,c≠z->h'.get? c=some o->h2.get? c=some o:=λc o n e=>(sb.2 c n).trans e
  have kp:∀c o,c∉[z,TO,i1,i2]->s.heap.get? c=some o->h2.get? c=some o:=λc o n e=>up c o (λq=>n (q▸ .head _)) (g6 c o n e)
  have t5:BZ h2 s.heap.objs.size u u':=up _ _ (XM (XJ s1)) g5
  have i1z:=(D.a1 i1 (.head _)).1
  have i2z:=(D.a2 i2 (.head _)).1
  have n3:=g3.at (up i1 · i1z)
  have n4:=g4.at (up i2 · i2z)
  obtain⟨f1,f2,f3,f4,f5⟩:(Zj6 X pins H z∧Zj6 X pins H TI∧Zj6 X pins H TO∧Zj6 X pins H i1∧Zj6 X pins H i2):=⟨hf _ (.head _),hf _ (.tail _ (.head _)),hf _ (.tail _ (.tail _ (.head _))),hf _ (.tail _ (.tail _ (.tail _ (.head _)))),hf _ (.tail _ (.tail _ (.tail _ (.tail _ (.head _)))))⟩
  have I2:Inv X pins σ (upd H s.heap.objs.size (.tup [x,y])) { s with heap:=h2 } :=
   I.turnTup (ch:=[z,TO,i1,i2]) (its:=[u,u']) (Z4r f1 f3 f4 f5) kp (Z4r ⟨_,z2⟩ ⟨_,up _ _ D.TOz g2⟩ (n3.obj.imp λ_ q=>q.1) (n4.obj.imp λ_ q=>q.1)) (XN _) Z4z (.cons ru (.cons ru' .nil)) ⟨_,t5,rfl,0,rfl⟩
  have lt:∀{c:Addr} {o:Obj},s.heap.get? c=some o->Zj6 X pins H c->upd H s.heap.objs.size (.tup [x,y]) c=none:=λe f=>by rw[Z3 (Xo (XJ e))];exact f.1
  refine⟨.ref s.heap.objs.size,_,I2,rfl,⟨_,x,y,I.fresh,rfl,rfl,λzs hz=>by rw[hz.inj I hx];exact ex,λzs hz=>by rw[hz.inj I hy];exact ey⟩,⟨z2,kp TI _ (no4 D.TIz D2.1 D2.2.1 D2.2.2) s2,⟨_,_,up _ _ D.TOz g2⟩,n3,n4⟩,?_⟩
  obtain⟨o4,e4,_⟩:=s4.obj
  obtain⟨o5,e5,_⟩:=s5.obj
  exact Z9x (lt s1 f1) (lt s2 f2) (lt s3 f3) (lt e4 f4) (lt e5 f5)
 done:=by
  intro X hP hw hK hc i pins s σ H E I hf st hg
  subst hP hw hK
  obtain⟨s1,s2,⟨x0,y0,s3⟩,s4,s5⟩:=st
  obtain⟨xs,ys,hx,hy,he⟩:=hg
  obtain⟨its,rx,px⟩:=hx.its I
  obtain⟨its',ry,py⟩:=hy.its I
  have l1:=rx.length
  have l2:=ry.length
  refine Zrl (I.ok.hd hc) D (S1:=λh=>ItB t h i1 a i∧IsB t h a its.toArray) (T1:=λh=>ItB t h i1 a (i+1)) (S2:=λh=>ItB t h i2 b i∧IsB t h b its'.toArray) ?_ s1 s2 s3 ⟨s4,px⟩ ⟨s5,py⟩ λh' k=>⟨rfl,I.turnAll (ch:=[z,TO,i1,i2]) (Z4r (hf _ (.head _)) (hf _ (.tail _ (.tail _ (.head _)))) (hf _ (.tail _ (.tail _ (.tail _ (.head _))))) (hf _ (.tail _ (.tail _ (.tail _ (.tail _ (.head _))))))) k⟩
  cases q:its.toArray[i]? with
  | none=>exact .inl (Z6x q)
  | some v=>
   refine .inr ⟨⟨v,Ztl q⟩,Z6x ?_⟩
   have:=(Array.getElem?_eq_some_iff.mp q).1
   rw[Xy]at this
   rw[Array.getElem?_eq_none_iff,Xy]
   omega
 self:=λ_ _ _ _ _ st h=>wpAny_pyIter_zip st.1 h
theorem Zuf{P:Qa}{w:Qs}{A:Qq}{E:Xd->Xg->Prop}{s:Xg}{t:Bool}{a b:Addr}{xs ys:Array Xd}{Q:Xd->Xg->Prop}(h1:IsB t s.heap a xs)(h2:IsB t s.heap b ys)
  (h:∀h' n,n=s.heap.objs.size->IsZip h' (n+4) (n+2) (n+3) .none->BZ h' (n+2) (.ref n) (.ref (n+1))->BZ h' (n+3) .none .none->ItB t h' n a 0->ItB t h' (n+1) b 0 ->
   (∀ c o,s.heap.get? c=some o->h'.get? c=some o)->Q (.ref (n+4)) { s with heap:=h' }):XC (X6 P w) A (call (.type "zip") [.ref a,.ref b]) Q E s:=by
 cases t with
 | true=>exact Zus h1 h2 h
 | false=>exact call_zip_2 h1 h2 λh' g1 g2 g3 g4 g5 _ g7=>h h' _ rfl g1 g2 g3 g4 g5 g7
noncomputable def Z9s(K:Xc)(ta:TA):TI:=λσ H R=>ta σ H λvs H1=>∃t a b,vs=[.ref a,.ref b]∧(∃xs,SqB K t H1 a xs)∧(∃ys,SqB K t H1 b ys)∧R (Ycj K t a b) H1
theorem Zzp{X:Cx}{K:Xc}{a b:Expr}{ta:TA}{p pos pt:Pos}{es:List Expr}{kk:Nat}(hK:X.K=K)(hg:Gl X "zip")(hm:X.mg "zip"=none)(hv:Qk "zip"=some (.type "zip"))(ha:PA X [a,b] ta)
  (he:Xp [a,b] X.env=(false,eval a X.env) :: Xp [b] X.env:=by rfl) (hpl:(JM pos (Xp [b] X.env)).any (·.1)=false:=by rfl) :
  PI X (.Tuple es kk pt) (.Call (.Name "zip" p) [a,b] [] pos) (Z9s K ta):=by
 subst hK
 intro pins s σ H R I h
 refine Vw (Zgu I hg hm hv ?_ (by decide) (by decide))
 refine Br (thn (ha pos pins s σ H _ I h) λus s1 q=>?_) he hpl
 obtain⟨vs,H1,I1,r1,t,l1,l2,e1,⟨xs,hx⟩,⟨ys,hy⟩,q⟩:=q
 subst e1
 obtain⟨u,u',rfl,ru,ru'⟩:=vals2 r1
 cases(show u=Qn l1 from ru)
 cases(show u'=Qn l2 from ru')
 obtain⟨its,rx,px⟩:=hx.its I1
 obtain⟨its',ry,py⟩:=hy.its I1
 refine Zuf px py λh' n en g1 g2 g3 g4 g5 g7=>?_
 have I2:Inv X pins σ H1 { s1 with heap:=h' }:=I1.kept (t':=s1.toks) g7
 refine wpAny_pyIter_zip (s:={ s1 with heap:=h' }) g1 ?_
 refine⟨_,[_,_,_,_,_],Yc1 _ _ _ _ _ _ _ _,_,H1,rfl,I2,Zui (ZA.new (en▸px.lt) (en▸py.lt)) (ZA.new2 n),⟨g1,g2,⟨_,_,g3⟩,g4,g5⟩,?_,q⟩
 subst en
 have ok:∀k:Nat,Zj6 X pins H1 (s1.heap.objs.size+k):=λk=>I1.fpOk (JS _ _) (I1.hok.fresh (JS _ _))
 exact Z9x (ok 4) (ok 2) (ok 3) (ok 0) (ok 1)
section
variable {X:Cx}{io:List Nat}{p c:Bool}{a b:Expr}{mr:MAt}{ra:FA}
noncomputable def Z78(t:Bool)(as:List Xa):Xa:=match t with|true=>.tuple as|false=>.list as
theorem Rel.keptSq{C:MC G}{H:Hp}{σ:St}{δ:Zi}{fp:Fp}{ex:Addr->Prop}{v:V}{t:Bool}{ds:List Xa}(R:Rel C io H σ δ fp ex)(q:Da G H (λa=>c=true->Lf C fp ex a) v (Z78 t ds)) :
  ∃a xs,v= .ref a∧∀H':Hp,(∀b o,H b=some o->(c=false∨¬Foot fp b)->H' b=some o)->SqB G t H' a xs∧Das G H' (λa=>c=true->(Lf C fp ex a∧H a≠none)) xs ds:=by
 cases t with
 | false=>exact R.keptList q
 | true=>
  generalize hd:Z78 true ds=d at q
  cases q with
  | tup e r=>
   cases hd
   rename_i a0 xs0
   refine⟨a0,xs0,rfl,λH' kp=>?_⟩
   obtain⟨f1,f2⟩:=R.kept kp
   exact⟨f2 _ (.tup _) e,r.frame f1 f2⟩
  | _=>cases hd
theorem Zv5{ds es:List Xa}(h:Z26 ds=some es):∃t as bs,ds=[Z78 t as,Z78 t bs]∧es=Zjf as bs:=by
 unfold Z26 at h
 split at h
 ·cases h;exact⟨false,_,_,rfl,rfl⟩
 ·cases h;exact⟨true,_,_,rfl,rfl⟩
 ·cases h
noncomputable def iZB(mr:MAt):MIt:=λδ K=>mr δ λrs δ'=>∃es,Z26 (OT.datas rs)=some es∧K es δ'
theorem Zf1{p' pos pt:Pos}{es:List Expr}{kk:Nat}(hg:Gl X "zip")(hm:X.mg "zip"=none)(hv:Qk "zip"=some (.type "zip"))(ha:MA X io p c [a,b] mr)
  (he:Xp [a,b] X.env=(false,eval a X.env) :: Xp [b] X.env:=by rfl) (hpl:(JM pos (Xp [b] X.env)).any (·.1)=false:=by rfl):MI X io p c (.Tuple es kk pt) (.Call (.Name "zip" p') [a,b] [] pos) (iZB mr):=by
 obtain⟨_,A,s⟩:=ha
 refine⟨_,Zzp rfl hg hm hv A he hpl,λC H σ δ fp ex K' Q R h kk=>s C H σ δ fp ex _ _ R h λH1 vs rs δ1 fp1 new r1 h1=>?_⟩
 have q:=r1.das R
 obtain⟨es,hz,h1⟩:=h1
 obtain⟨t,as,bs,e,rfl⟩:=Zv5 hz
 rw[e]at q
 cases q with
 | cons q1 q2=>
  cases q2 with
  | cons q2 q3=>
   cases q3
   have R1:=r1.base
   obtain⟨l1,xs,rfl,k1⟩:=R1.keptSq q1
   obtain⟨l2,ys,rfl,k2⟩:=R1.keptSq q2
   refine⟨t,l1,l2,rfl,⟨_,(k1 H1 λ_ _ e _=>e).1⟩,⟨_,(k2 H1 λ_ _ e _=>e).1⟩,kk _ H1 _ δ1 fp1 R1 r1.stp (λH' kp i=>?_) h1⟩
   obtain⟨s1,d1⟩:=k1 H' kp
   obtain⟨s2,d2⟩:=k2 H' kp
   refine⟨λd hd=>?_,λhd=>⟨_,_,s1,s2,by rw[d1.length,d2.length];exact Zt1 hd⟩⟩
   obtain⟨x,y,hx,hy,rfl⟩:=Zo0 hd
   obtain⟨u,hu,qu⟩:=d1.get hx
   obtain⟨w,hw,qw⟩:=d2.get hy
   refine⟨⟨_,_,u,w,s1,s2,hu,hw⟩,λv H'' hyl=>?_⟩
   obtain⟨t',u',w',ht,rfl,rfl,hu',hw'⟩:=hyl
   cases hu.symm.trans (hu' _ s1)
   cases hw.symm.trans (hw' _ s2)
   exact⟨Yd ht _,.tup Yl (.cons (qu.same (Yd ht _)) (.cons (qw.same (Yd ht _)) .nil))⟩
theorem Zgc{tg e:Expr}(g:MI X io p c tg e (iZB (o2 ra))):MI X io p c tg e (o2 (Zgx ra)):=g.weak λδ K h=>by
 obtain⟨r,δ',h,k⟩:=h
 obtain⟨⟨x,δ1⟩,h1,h⟩:=bs h
 obtain⟨ds,h2,h⟩:=bs h
 cases h
 exact⟨x,_,h1,_,h2,k⟩
end
end L2
namespace L2
open PySem PySem.Spec PyProof.Rows PySem.W
noncomputable def kEv{α:Type}(lt:Nat->Nat->Bool):KasT α->α
 | .ret a=>a
 | .ask i j k=>kEv lt (k (lt i j))
noncomputable def kGood{α:Type}(n:Nat)(P:α->Prop):KasT α->Prop
 | .ret a=>P a
 | .ask i j k=>i<n∧j<n∧∀b,kGood n P (k b)
theorem kGood.bind{α β:Type}{n:Nat}{P:α->Prop}{R:β->Prop}{f:α->KasT β}(hf:∀a,P a->kGood n R (f a)){t:KasT α}(h:kGood n P t):kGood n R (t.bind f):=by
 induction t with
 | ret a=>exact hf a h
 | ask i j k ih=>exact⟨h.1,h.2.1,λb=>ih b (h.2.2 b)⟩
theorem kGood.ev{α:Type}{n:Nat}{P:α->Prop}{lt:Nat->Nat->Bool}{t:KasT α}(h:kGood n P t):P (kEv lt t):=by
 induction t with
 | ret a=>exact h
 | ask i j k ih=>exact ih _ (h.2.2 _)
theorem kGood.wp{α:Type}{n:Nat}{P:α->Prop}{lt:Nat->Nat->Bool}{cmp:Nat->Nat->(Bool->Xg->Prop)->Xg->Prop}{s:Xg}{Q:α->Xg->Prop}(hc:∀i j C,i<n->j<n->C (lt i j) s->cmp i j C s){t:KasT α}(h:kGood n P t)(q:Q (kEv lt t) s):t.kasWp cmp Q s:=by
 induction t with
 | ret a=>exact q
 | ask i j k ih=>exact hc i j _ h.1 h.2.1 (ih _ (h.2.2 _) q)
noncomputable def kP(n:Nat)(p:Array Nat):Prop:=p.toList.Perm (Xr n)
theorem kP.at{n:Nat}{p:Array Nat}(h:kP n p)(h0:0<n)(i:Nat):p.getD i 0<n:=by
 by_cases c:i<p.size
 ·have e:p.getD i 0=p[i]:=by simp[Array.getD,c]
  rw[e]
  exact X8.mp (h.mem_iff.mp (Array.getElem_mem_toList c))
 ·have e:p.getD i 0=0:=by simp[Array.getD,c]
  rw[e];exact h0
theorem kP.rev{n:Nat}{p:Array Nat}(h:kP n p)(i j:Nat):kP n (kas_rev p i j):=(Array.perm_iff_toList_perm.mp (mirror_perm p i j _)).trans h
theorem kP.bub{n:Nat}{p:Array Nat}(h:kP n p)(i j:Nat):kP n (bubble p i j):=(Array.perm_iff_toList_perm.mp (bubble_perm p i j)).trans h
theorem Zpm{n:Nat}{p:Array Nat}(h:kP n p)(h0:0<n)(f m:Nat):kGood n (λ_=>True) (kas_asc p f m):=by
 induction f generalizing m with
 | zero=>exact trivial
 | succ f ih=>
  refine⟨h.at h0 _,h.at h0 _,λb=>?_⟩
  cases b
  ·exact ih _
  ·exact trivial
theorem Zsg{n:Nat}(h0:0<n)(f:Nat){p:Array Nat}(h:kP n p)(m q:Nat):kGood n (λr:Array Nat×Nat×Nat=>kP n r.1) (kas_desc f p m q):=by
 induction f generalizing p m q with
 | zero=>exact h
 | succ f ih=>
  refine⟨h.at h0 _,h.at h0 _,λb=>?_⟩
  cases b
  ·refine⟨h.at h0 _,h.at h0 _,λb=>?_⟩
   cases b
   ·exact ih h _ _
   ·exact h
  ·show kGood n _ (if q>0 then _ else _)
   split
   ·exact ih (h.rev _ _) _ _
   ·exact ih h _ _
theorem Zlx{n:Nat}{p:Array Nat}(h:kP n p)(h0:0<n)(m r:Nat):kGood n (λr:Nat×Array Nat=>kP n r.2) (kas_tail3 m r p):=by
 refine kGood.bind (P:=λ_=>True) (λa _=>?_) (Zpm (h.rev _ _) h0 _ _)
 exact h.rev _ _
theorem Ze9{n:Nat}{p:Array Nat}(h:kP n p)(h0:0<n)(m r:Nat):kGood n (λr:Nat×Array Nat=>kP n r.2) (kas_descPart m r p) :=
 (Zsg h0 _ h _ _).bind λx hx=>by
  show kGood n _ (if x.2.2>0 then _ else _)
  split
  ·exact Zlx (hx.rev _ _) h0 _ _
  ·exact Zlx hx h0 _ _
theorem Zp6{n:Nat}{p:Array Nat}(h:kP n p)(h0:0<n)(r:Nat):kGood n (λr:Nat×Array Nat=>kP n r.2) (kas_count r p) :=
 (Zpm h h0 _ _).bind λm _=>by
  show kGood n _ (if(m==r)=true then _ else if m>1 then _ else _)
  split
  ·exact h
  ·split
   ·refine⟨h.at h0 _,h.at h0 _,λb=>?_⟩
    cases b
    ·exact Ze9 (h.rev _ _) h0 _ _
    ·exact h
   ·exact Ze9 h h0 _ _
theorem Zpz{n:Nat}{p:Array Nat}(h:kP n p)(h0:0<n)(k f l r:Nat):kGood n (λ_=>True) (kas_place p k f l r):=by
 induction f generalizing l r with
 | zero=>exact trivial
 | succ f ih=>
  show kGood n _ (if l≥r then _ else _)
  split
  ·exact trivial
  ·refine⟨h.at h0 _,h.at h0 _,λb=>?_⟩
   cases b
   ·exact ih _ _
   ·exact ih _ _
theorem Zvc{n:Nat}(h0:0<n)(f:Nat){p:Array Nat}(h:kP n p)(k:Nat):kGood n (kP n) (kas_bin f p k):=by
 induction f generalizing p k with
 | zero=>exact h
 | succ f ih=>exact(Zpz h h0 _ _ _ _).bind λl _=>ih (h.bub _ _) _
theorem Zh9{n:Nat}(h0:0<n):kGood n (kP n) (kas_sort n) :=
 (Zp6 (p:=VL (Xr n)) (.refl _) h0 n).bind λr hr=>by
  show kGood n _ (if r.1<n then _ else _)
  split
  ·exact Zvc h0 _ hr _
  ·exact hr
noncomputable def Zu4(lt:Nat->Nat->Bool)(n:Nat):List Nat:=(kEv lt (kas_sort n)).toList
theorem Zev{lt:Nat->Nat->Bool}{n:Nat}(h0:0<n):(Zu4 lt n).Perm (Xr n):=(Zh9 h0).ev (P:=kP n)
end L2
namespace L2
open PySem PySem.Spec PyProof.Rows PySem.W PySem.SeqAt
open AutoSeq1 (wpAny_loadPart')
open MeetsSeq MeetsSeq2 MeetsSeq3 SeqRoads2
noncomputable def ltI:List Int->List Int->Bool
 | [],[]=>false
 | [],_ :: _=>true
 | _ :: _,[]=>false
 | x :: xs,y :: ys=>if x=y then ltI xs ys else decide (x<y)
theorem Zgf{vs:List Xd}{ns:List Int}(h:Q6 vs ns)(i:Nat)(hi:i<vs.length):∃x t,vs[i]? =some (.int x t)∧ns.drop i=x :: ns.drop (i+1):=by
 induction h generalizing i with
 | nil=>exact absurd hi (Vh i)
 | cons n t h ih=>
  cases i with
  | zero=>exact⟨n,t,rfl,rfl⟩
  | succ i=>exact ih i (Nat.lt_of_succ_lt_succ hi)
theorem Za6{vs:List Xd}{ns:List Int}(h:Q6 vs ns):vs.length=ns.length:=by
 induction h with
 | nil=>rfl
 | cons n t h ih=>exact congrArg Nat.succ ih
theorem Ze3{xs ys:List Int}(h:xs=[]∨ys=[]):ltI xs ys=decide (xs.length<ys.length):=by
 cases xs<;>cases ys<;>first|rfl|(rcases h with h|h<;>cases h)|exact(decide_eq_true (Nat.succ_pos _)).symm
theorem Zs8(l b:Addr)(items items2:Array Xd)(n n2:Nat)(dd dd2:Option Addr)(sl sl2:Array (Option Xd)){xs ys:List Int}(h1:Q6 items.toList xs)(h2:Q6 items2.toList ys)(k:Nat) :
  ∀i:Nat,items.size-i=k->i≤items.size->i≤items2.size->Meets (Ba.«list.__eq__.loop» ⟨[.ref l,.ref b,JL i,JL 0],[]⟩)
   (λA R s=>s.heap.get? l=some { cls:=.type "list",dict:=dd,data:=.seq items n,slots:=sl }∧s.heap.get? b=some { cls:=.type "list",dict:=dd2,data:=.seq items2 n2,slots:=sl2 }∧
    R (.ok (.ret (.bool (ltI (xs.drop i) (ys.drop i))))) s):=by
 have e1:items.size=xs.length:=Za6 h1
 have e2:items2.size=ys.length:=Za6 h2
 have fin:∀i,i≤items.size->i≤items2.size->(i=items.size∨i=items2.size)->ltI (xs.drop i) (ys.drop i)=decide (items.size<items2.size):=λi u1 u2 c=>by
  rw[Ze3 (c.imp (λc=>JH (by omega)) λc=>JH (by omega)),Qu,Qu]
  exact decide_eq_decide.mpr (by omega)
 induction k with
 | zero=>
  intro i hk u1 u2 prog w A R s h
  obtain⟨hp,g,d,tk,os⟩:=s;obtain⟨hl,hb,h⟩:=h
  wp_walk using Xz hl,Xz hb
  have hi1:items[((i:Nat):Int).toNat]? =none:=by simp;omega
  rw[fin i u1 u2 (.inl (by omega))]at h
  rw[hi1]
  wp_walk using Xz hl,Xz hb
  exact h
 | succ k ih=>
  intro i hk u1 u2 prog w A R s h
  obtain⟨hp,g,d,tk,os⟩:=s;obtain⟨hl,hb,h⟩:=h
  have hlt:i<items.size:=by omega
  obtain⟨x,t,q1,q2⟩:=Zgf h1 i hlt
  have hi1:items[((i:Nat):Int).toNat]? =some (.int x t):=by rw[Qm,←q1,Qd]
  wp_walk using Xz hl,Xz hb
  by_cases c:i<items2.size
  ·obtain⟨y,u,q3,q4⟩:=Zgf h2 i c
   have hi2:items2[((i:Nat):Int).toNat]? =some (.int y u):=by rw[Qm,←q3,Qd]
   have hc:((i:Int)+1)=((i+1:Nat):Int):=by push_cast;rfl
   rw[q2,q4]at h
   unfold ltI at h
   rw[hi1,hi2]
   refine Xb (EqAt.int_int x t y u prog w _ _ ?_)
   by_cases cx:x=y
   ·rw[if_pos cx]at h
    rw[beq_iff_eq.mpr cx]
    wp_walk
    rw[hc]
    exact⟨Bw Bh _,Q9 UV (by
     rw[QJ Bh _]
     exact ih (i+1) (by omega) (by omega) (by omega) prog w A R _ ⟨hl,hb,h⟩)⟩
   ·rw[if_neg cx]at h
    rw[beq_eq_false_iff_ne.mpr cx]
    wp_walk using Xz hl,Xz hb
    rw[hi1,hi2]
    refine Xb (lt_int ?_)
    wp_walk
    exact h
  ·have hi2:items2[((i:Nat):Int).toNat]? =none:=by simp;omega
   rw[fin i u1 u2 (.inr (by omega))]at h
   rw[hi1,hi2]
   wp_walk using Xz hl,Xz hb
   exact h
theorem Zuh(l b:Addr)(items items2:Array Xd)(n n2:Nat)(dd dd2:Option Addr)(sl sl2:Array (Option Xd)){xs ys:List Int}(h1:Q6 items.toList xs)(h2:Q6 items2.toList ys) :
  Meets (Ba.«list.__lt__» ⟨[.ref l,.ref b],[]⟩)
   (λA R s=>s.heap.get? l=some { cls:=.type "list",dict:=dd,data:=.seq items n,slots:=sl }∧s.heap.get? b=some { cls:=.type "list",dict:=dd2,data:=.seq items2 n2,slots:=sl2 }∧
    R (.ok (.ret (.bool (ltI xs ys)))) s):=by
 intro prog w A R s h
 obtain⟨hp,g,d,tk,os⟩:=s;obtain⟨hl,hb,h⟩:=h
 have f3:=AutoSeq1.sub_list_list
 wp_walk using Xz hl,Xz hb
 exact⟨Bw Bh _,Q9 UV (by
  rw[QJ Bh _]
  exact Zs8 l b items items2 n n2 dd dd2 sl sl2 h1 h2 _ 0 rfl (Qo _) (Qo _) prog w A R _ ⟨hl,hb,h⟩)⟩
section
variable {prog:Qa}{w:Qs}{A:Qq}{E:Xd->Xg->Prop}{s:Xg}
theorem Zqk{l b:Addr}{items items2:Array Xd}{xs ys:List Int}{Q:Bool->Xg->Prop}(hu:A.units<cLine)(hl:s.heap.IsList l items)(hb:s.heap.IsList b items2)(h1:Q6 items.toList xs)(h2:Q6 items2.toList ys)(h:Q (ltI xs ys) s) :
  XC (X6 prog w) A (oneLt' true (.ref l) (.ref b)) Q E s:=by
 obtain⟨⟨cls,dd,data,sl⟩,hl,hc,n,hd⟩:=hl
 obtain⟨⟨cls2,dd2,data2,sl2⟩,hb,hc2,n2,hd2⟩:=hb
 simp only at hc hd hc2 hd2
 subst hc hd hc2 hd2
 rw[oneLt'_eq]
 simp only[if_true]
 refine Xb (wpAny_cRoomFor hu ?_)
 refine Xb (wpAny_callSpecialIfBound?_slot ⟨_,hl,rfl⟩ F.slot_list_lt (call_meets F.slot_list_lt ⟨_,hl,rfl⟩ F.entry_list_lt (F.args_list_lt_2 _ _) (Zuh l b items items2 n n2 dd dd2 sl sl2 h1 h2) ⟨hl,hb,?_⟩))
 exact Ut h
end
theorem Z42{prog:Qa}{w:Qs}{A:Qq}{E:Xd->Xg->Prop}{s:Xg}{a b:Int}{t u:Tok}{Q:Xd->Xg->Prop}(h:Q (.bool (decide (a<b))) s):XC (X6 prog w) A (richCompare .Lt (.int a t) (.int b u)) Q E s:=lt_int h
theorem Zqv(l b:Addr)(items items2:Array Xd)(n n2:Nat)(dd dd2:Option Addr)(sl sl2:Array (Option Xd)){xs ys:List Int}(h1:Q6 items.toList xs)(h2:Q6 items2.toList ys) :
  Meets (Ba.«tuple.__lt__» ⟨[.ref l,.ref b],[]⟩)
   (λA R s=>s.heap.get? l=some { cls:=.type "tuple",dict:=dd,data:=.seq items n,slots:=sl }∧s.heap.get? b=some { cls:=.type "tuple",dict:=dd2,data:=.seq items2 n2,slots:=sl2 }∧
    R (.ok (.ret (.bool (ltI xs ys)))) s) :=
 .of_wp λprog w A R s h=>by
  obtain⟨hp,g,d,tk,os⟩:=s;obtain⟨hl,hb,h⟩:=h
  have f2:=AutoSeq1.sub_tuple_tuple
  have e1:items.toList.length=xs.length:=Za6 h1
  have e2:items2.toList.length=ys.length:=Za6 h2
  wp_walk using Xz hl,Xz hb,wpAny_forIn_list _ (λrest b s'=>b.1=none∧s'=⟨hp,g,d,tk,os⟩∧∃i,rest=(items.toList.zip items2.toList).drop i∧i≤items.toList.length∧i≤items2.toList.length∧
   R (.ok (.ret (.bool (ltI (xs.drop i) (ys.drop i))))) ⟨hp,g,d,tk,os⟩) _
  case turn=>
   rintro⟨v,u⟩ rest b s' ⟨hb',rfl,i,hz,u1,u2,hR⟩
   have hlt:i<(items.toList.zip items2.toList).length:=by
    rcases VP i (items.toList.zip items2.toList).length with h'|h'
    ·exact h'
    ·rw[List.drop_of_length_le h']at hz;cases hz
   have hm:=hlt
   rw[List.length_zip]at hm
   obtain⟨x,t,q1,q2⟩:=Zgf h1 i (by omega)
   obtain⟨y,r,q3,q4⟩:=Zgf h2 i (by omega)
   rw[VR hlt]at hz
   injection hz with hyx hrest
   have hz0:(items.toList.zip items2.toList)[i]? =some (.int x t,.int y r):=by rw[List.getElem?_zip_eq_some];exact⟨q1,q3⟩
   rw[Xi hlt]at hz0
   injection hz0 with hz0
   rw[hz0]at hyx
   cases hyx
   rw[q2,q4]at hR
   unfold ltI at hR
   refine Xb (EqAt.int_int x t y r prog w _ _ ?_)
   by_cases cx:x=y
   ·rw[if_pos cx]at hR
    rw[beq_iff_eq.mpr cx]
    wp_walk
    exact⟨rfl,rfl,i+1,hrest,by omega,by omega,hR⟩
   ·rw[if_neg cx]at hR
    rw[beq_eq_false_iff_ne.mpr cx]
    wp_walk using Z42
    exact⟨_,rfl,hR⟩
  case fin=>
   rintro⟨b1,b2⟩ s' ⟨hb',rfl,i,hz,u1,u2,hR⟩
   simp only at hb'
   subst hb'
   have hge:min items.toList.length items2.toList.length≤i:=by
    rcases VP i (items.toList.zip items2.toList).length with h'|h'
    ·rw[VR h']at hz;cases hz
    ·rw[List.length_zip]at h';exact h'
   have hv:ltI (xs.drop i) (ys.drop i)=decide (items.size<items2.size):=by
    rw[Ze3 ((show i=items.toList.length∨i=items2.toList.length by omega).imp (λc=>JH (by omega)) λc=>JH (by omega)),Qu,Qu]
    rw[X7]at e1 e2 u1 u2
    exact decide_eq_decide.mpr (by omega)
   rw[hv]at hR
   wp_walk
   exact⟨_,rfl,hR⟩
  case h=>
   exact⟨rfl,rfl,0,rfl,Qo _,Qo _,h⟩
section
variable {prog:Qa}{w:Qs}{A:Qq}{E:Xd->Xg->Prop}{s:Xg}
theorem Zrj{l b:Addr}{items items2:Array Xd}{xs ys:List Int}{Q:Bool->Xg->Prop}(hu:A.units<cLine)(hl:s.heap.IsTuple l items)(hb:s.heap.IsTuple b items2)(h1:Q6 items.toList xs)(h2:Q6 items2.toList ys)(h:Q (ltI xs ys) s) :
  XC (X6 prog w) A (oneLt' false (.ref l) (.ref b)) Q E s:=by
 obtain⟨⟨cls,dd,data,sl⟩,hl,hc,n,hd⟩:=hl
 obtain⟨⟨cls2,dd2,data2,sl2⟩,hb,hc2,n2,hd2⟩:=hb
 simp only at hc hd hc2 hd2
 subst hc hd hc2 hd2
 exact kat_one _ _ (richCompare_meets_room (op:=.Lt) ⟨_,hl,rfl⟩ ⟨_,hb,rfl⟩ F.slot_tuple_lt F.entry_tuple_lt (F.args_tuple_lt_2 _ _) (Zqv l b items items2 n n2 dd dd2 sl sl2 h1 h2)
  ⟨hl,hb,show U5 (ltI xs ys)≠Value.notImplemented∧_ from⟨(λx=>nomatch x),h⟩⟩ hu)
end
end L2
namespace L2
open PySem PySem.Spec PyProof.Rows PySem.W
noncomputable def sLay{α:Type}(d:α)(lt:Nat->Nat->Bool)(vs:List α):List α:=if vs.length<2 then vs else(Zu4 lt vs.length).map λi=>vs.getD i d
theorem Zqh{α:Type}(d:α)(vs:List α):((Xr vs.length).map λi=>vs.getD i d)=vs:=by
 refine List.ext_getElem? λi=>?_
 rw[Xu]
 by_cases c:i<vs.length
 ·rw[V0 c,Xi c]
  show some (vs.getD i d)=_
  rw[Xf,Xi c];rfl
 ·rw[Q7 (by rw[X3];omega),Q7 (by omega)];rfl
theorem Zlc{α:Type}(d:α)(lt:Nat->Nat->Bool)(vs:List α):(sLay d lt vs).Perm vs:=by
 unfold sLay
 split
 ·exact .refl _
 ·have:=(Zev (lt:=lt) (n:=vs.length) (by omega)).map λi=>vs.getD i d
  rwa[Zqh]at this
theorem Zw5{α β:Type}(f:α->β)(d:α)(lt:Nat->Nat->Bool)(vs:List α):sLay (f d) lt (vs.map f)=(sLay d lt vs).map f:=by
 unfold sLay
 rw[Xj]
 split
 ·rfl
 ·rw[X5]
  refine XH λi _=>?_
  show(vs.map f).getD i (f d)=f (vs.getD i d)
  rw[Xf,Xf,Xu]
  cases vs[i]? <;>rfl
theorem Zty{lt:Nat->Nat->Bool}{xs:List V}{us:List Xd}(h:Vals xs us):Vals (sLay .non lt xs) (sLay .none lt us):=by
 unfold sLay
 rw[h.length]
 split
 ·exact h
 ·generalize Zu4 lt _=l
  induction l with
  | nil=>exact .nil
  | cons i l ih=>
   refine .cons ?_ ih
   show RelV (xs.getD i V.non) (us.getD i QS)
   rw[Xf,Xf]
   cases e:xs[i]? with
   | some x=>
    obtain⟨u,e',r⟩:=h.get e
    rw[e'];exact r
   | none=>
    have:us[i]? =none:=Q7 (by rw[←h.length];exact Qw.mp e)
    rw[this];exact rfl
section
variable {prog:Qa}{w:Qs}{A:Qq}{E:Xd->Xg->Prop}{s:Xg}
theorem Zpy{κ:SortKind}{lt:Nat->Nat->Bool}{h0:Heap}{a:Addr}{vs:List Xd}{n:Nat}{P:PySem.Fin->Xg->Prop}(ho:s.heap.get? a=some (BL "list" vs.toArray n))
  (k0:∀b o,h0.get? b=some o->s.heap.get? b=some o) (ha0:h0.get? a=none) (h64:vs.length<64)
  (hk:2≤vs.length->∀s':Xg,(∀b o,h0.get? b=some o->s'.heap.get? b=some o)->∀Q:SortKind->Xg->Prop,Q κ s'->XC (X6 prog w) A (keyKind' vs.toArray) Q E s')
  (hc:2≤vs.length->∀s':Xg,(∀b o,h0.get? b=some o->s'.heap.get? b=some o)->∀i j C,i<vs.length->j<vs.length->C (lt i j) s'->kas_ask prog w A κ vs i j C s')
  (h:P (.done (.ret .none)) { s with heap:=sortedHeap s.heap a vs (VL (sLay QS lt vs)) }):XC (X6 prog w) A (Ba.«list.sort» ⟨[.ref a],[]⟩) P E s:=by
 have ha:a<s.heap.objs.size:=XJ ho
 obtain⟨e1,ho1⟩:∃e1,(s.heap.update a (Bb λ_=>(#[]:Array Xd))).get? a=some (BL "list" #[] e1):=⟨_,get?_update_seq ho λ_=>#[]⟩
 have ho6:(((s.heap.update a (Bb λ_=>(#[]:Array Xd))).push (BL "tuple" vs.toArray 0)).push (BL "list" #[] 0)).get? a=some (BL "list" #[] e1):=Xe _ (Xe _ ho1)
 have k6:∀b o,h0.get? b=some o->(((s.heap.update a (Bb λ_=>(#[]:Array Xd))).push (BL "tuple" vs.toArray 0)).push (BL "list" #[] 0)).get? b=some o:=λb o e=>by
  refine Xe _ (Xe _ ?_)
  rw[Heap.get?_update_ne _ _ _ _ (λq=>by rw[q,ha0]at e;cases e)]
  exact k0 b o e
 rw[list_sort_plain]
 refine Xb (listItems_at ho rfl ?_)
 refine Xb (listUpdate_at ho rfl ?_ (by rw[Xy,Qj];omega) (Qo _))
 refine Xb (seqEpoch_at ho1 rfl ?_)
 refine Xb (wpAny_newTuple ?_ (by show vs.length≤_;rw[Qj];omega))
 refine Xb (wpAny_newList ?_ (Qo _))
 refine Bv ?_
 show XC (X6 prog w) A _ P E { s with heap:=((s.heap.update a (Bb λ_=>(#[]:Array Xd))).push (BL "tuple" vs.toArray 0)).push (BL "list" #[] 0) }
 dsimp only
 have hs:vs.toArray.size=vs.length:=Xy ..
 by_cases h2:vs.toArray.size<2
 ·have el:sLay QS lt vs=vs:=if_pos (hs▸h2)
  rw[el]at h
  rw[if_pos h2,if_pos h2]
  refine Xb (Xl ?_)
  rw[StateT.run_pure]
  refine Xb (Xl ?_)
  dsimp only
  refine Xb (seqEpoch_at ho6 rfl ?_)
  have ez:((vs.toArray.zip vs.toArray).map (·.2))=vs.toArray:=by
   apply Array.toList_inj.mp
   rw[Array.toList_map,Array.toList_zip,List.map_snd_zip (XN _)]
  show XC _ _ (Builtin.List.listUpdate _ (λ_=>(vs.toArray.zip vs.toArray).map (·.2))>>=_) _ _ _
  rw[ez]
  refine Xb (listUpdate_at ho6 rfl ?_ (Qo _) (by rw[hs,Qj];omega))
  simp only[bne_self_eq_false,Qh,if_false]
  exact Xl h
 ·rw[if_neg h2,if_neg h2]
  have h2':2≤vs.length:=by omega
  have el:sLay QS lt vs=(Zu4 lt vs.length).map λi=>vs.getD i QS:=if_neg (by omega)
  rw[el]at h
  refine Xb (hk h2' _ k6 _ ?_)
  have est:SortSt.mk' κ (vs.toArray.zip vs.toArray) #[] 7 none=kas_st κ (pairsOf vs) (VL (Xr vs.length)):=by
   have e:=kas_range (pairsOf vs)
   rw[pairsOf_size]at e
   show SortSt.mk' κ (pairsOf vs) #[] 7 none=SortSt.mk' κ ((VL (Xr vs.length)).map (kas_item (pairsOf vs))) #[] 7 none
   rw[e]
  have run:=kas_runs (prog:=prog) (w:=w) (A:=A) (κ:=κ) (it:=pairsOf vs) (E:=E) (s:={ s with heap:=((s.heap.update a (Bb λ_=>(#[]:Array Xd))).push (BL "tuple" vs.toArray 0)).push (BL "list" #[] 0) })
   (Q:=λ_ st' s'=>arrOf st'=(kEv lt (kas_sort vs.length)).map (kas_item (pairsOf vs))∧failedOf st'=none∧s'={ s with heap:=((s.heap.update a (Bb λ_=>(#[]:Array Xd))).push (BL "tuple" vs.toArray 0)).push (BL "list" #[] 0) })
   (G:=λp s'=>p=kEv lt (kas_sort vs.length)∧s'={ s with heap:=((s.heap.update a (Bb λ_=>(#[]:Array Xd))).push (BL "tuple" vs.toArray 0)).push (BL "list" #[] 0) })
   h2' h64 (λp' st' s' _ a2 a3 a4=>⟨a4.1▸a2,a3,a4.2⟩) (by
    rw[←kas_ask_eq]
    exact(Zh9 (n:=vs.length) (by omega)).wp (hc h2' _ k6) ⟨rfl,rfl⟩)
  rw[←est]at run
  refine Xb (Vd run ?_ λ_ _ e=>e)
  intro r s' z
  obtain⟨har,hf,rfl⟩:=z
  have hout:(arrOf r.2).map (·.2)=VL ((Zu4 lt vs.length).map λi=>vs.getD i QS):=by
   apply Array.toList_inj.mp
   rw[har,Array.map_map,Array.toList_map]
   exact XH λi _=>by show(kas_item (pairsOf vs) i).2=_;rw[kas_item_eq]
  rw[hout]
  refine Xb (seqEpoch_at ho6 rfl ?_)
  refine Xb (listUpdate_at ho6 rfl ?_ (Qo _) (by rw[Xy,Xj,(Zev (by omega)).length_eq,X3,Qj];omega))
  rw[hf]
  simp only[bne_self_eq_false,Qh,if_false]
  exact Xl h
theorem Zzk{κ:SortKind}{lt:Nat->Nat->Bool}{l:Addr}{vs:List Xd}{Q:Xd->Xg->Prop}(hl:s.heap.IsList l vs.toArray)(h64:vs.length<64)
  (hk:2≤vs.length->∀s':Xg,(∀b o,s.heap.get? b=some o->s'.heap.get? b=some o)->∀Q:SortKind->Xg->Prop,Q κ s'->XC (X6 prog w) A.in1.in1 (keyKind' vs.toArray) Q E s')
  (hc:2≤vs.length->∀s':Xg,(∀b o,s.heap.get? b=some o->s'.heap.get? b=some o)->∀i j C,i<vs.length->j<vs.length->C (lt i j) s'->kas_ask prog w A.in1.in1 κ vs i j C s')
  (h:Q (.ref (s.heap.objs.size+1)) { s with heap:=sortedAll s.heap vs (VL (sLay QS lt vs)) }):XC (X6 prog w) A (call (.builtin "sorted") [.ref l]) Q E s:=by
 refine Calls.call_function_entry kind_sorted plain_sorted entry_sorted (args_sorted1 _) ?_
 unfold Ba.«sorted»
 refine Xb (m:=checkCount "sorted" 1 1 _) (Xl ?_)
 refine Xb (collect_list hl ?_ (by rw[Qj];omega))
 refine Xb (wpAny_newList ?_ (by rw[Qj];omega))
 have hsz:((s.heap.push (BL "list" #[] 0)).update s.heap.objs.size (Bb (· ++ vs.toArray))).objs.size=s.heap.objs.size+1:=by
  rw[Heap.size_update,size_push']
 have hoL:(((s.heap.push (BL "list" #[] 0)).update s.heap.objs.size (Bb (· ++ vs.toArray))).push (BL "list" vs.toArray 0)).get? (s.heap.objs.size+1)=some (BL "list" vs.toArray 0):=by
  rw[←hsz];exact Xw _ rfl
 have keep:∀b o,s.heap.get? b=some o->(((s.heap.push (BL "list" #[] 0)).update s.heap.objs.size (Bb (· ++ vs.toArray))).push (BL "list" vs.toArray 0)).get? b=some o:=λb o q=>by
  have hlt:b<s.heap.objs.size:=XJ q
  rw[Heap.get?_push_ne _ _ _ (by rw[hsz];exact Xo (Bc hlt)),Heap.get?_update_ne _ _ _ _ (Xo hlt),Heap.get?_push_ne _ _ _ (Xo hlt)]
  exact q
 show XC _ _ _ _ _ { s with heap:=((s.heap.push (BL "list" #[] 0)).update s.heap.objs.size (Bb (· ++ vs.toArray))).push (BL "list" vs.toArray 0) }
 rw[hsz]
 refine Xb (Bv (JC slot_list_sort ⟨_,hoL,rfl⟩ entry_list_sort (Zpy (h0:=s.heap) hoL keep (Heap.get?_none_of_le (Nat.le_succ _)) h64 hk hc ⟨_,rfl,?_⟩) (args_list_sort _)))
 exact Xl ⟨_,rfl,h⟩
end
end L2
namespace L2
open PySem PySem.Spec PyProof.Rows PySem.W
variable {G:Xc}
structure Ycm{α:Type}(kd:Xa->Option α)(lt:α->α->Bool):Prop where
 lay:∀d k,kd d=some k->d.canLay0=true
 run:∃κ:SortKind,(∀(prog:Qa) (w:Qs) (A:Qq) (E:Xd->Xg->Prop) (s:Xg) (vs:List Xd) (ds:List Xa) (as:List Addr) (Q:SortKind->Xg->Prop),2≤vs.length->ReadsAll s.heap vs ds as->(∀d∈ds,∃k,kd d=some k)->Q κ s->XC (X6 prog w) A (keyKind' vs.toArray) Q E s)∧
  ∀(prog:Qa) (w:Qs) (A:Qq) (E:Xd->Xg->Prop) (s:Xg) (u v:Xd) (d e:Xa) (as bs:List Addr) (k m:α) (C:Bool->Xg->Prop),A.units+32<cLine->Reads s.heap u d as->Reads s.heap v e bs->kd d=some k->kd e=some m->C (lt k m) s->XC (X6 prog w) A (keyLt' κ u v) C E s
theorem readsAll_ints{h:Heap}(ns:List Int){vs:List Xd}{as:List Addr}(r:ReadsAll h vs (ns.map Xk) as):Q6 vs ns:=by
 induction ns generalizing vs as with
 | nil=>cases r;exact .nil
 | cons n ns ih=>
  cases r with
  | cons r q=>
   cases r
   exact .cons _ _ (ih q)
theorem Jd{h:Heap}{ns:List Int}{u:Xd}{as:List Addr}(r:Reads h u (.list (ns.map Xk)) as):∃a items,u= .ref a∧h.IsList a items∧Q6 items.toList ns:=by
 cases r with
 | list e c d q=>exact⟨_,_,rfl,⟨_,e,c,_,d⟩,readsAll_ints ns q⟩
theorem Zfv{h:Heap}{ns:List Int}{u:Xd}{as:List Addr}(r:Reads h u (.tuple (ns.map Xk)) as):∃a items,u= .ref a∧h.IsTuple a items∧Q6 items.toList ns:=by
 cases r with
 | tuple e c d q=>exact⟨_,_,rfl,⟨_,e,c,_,d⟩,readsAll_ints ns q⟩
theorem readsAll_get{h:Heap}{vs:List Xd}{ds:List Xa}{as:List Addr}(r:ReadsAll h vs ds as):vs.length=ds.length∧∀(i:Nat) d,ds[i]? =some d->∃v bs,vs[i]? =some v∧Reads h v d bs:=by
 induction ds generalizing vs as with
 | nil=>cases r;exact⟨rfl,λi d e=>by rw[List.getElem?_nil]at e;cases e⟩
 | cons d ds ih=>
  cases r with
  | cons r q=>
   obtain⟨z1,z2⟩:=ih q
   refine⟨congrArg Nat.succ z1,λi e he=>?_⟩
   cases i with
   | zero=>cases he;exact⟨_,_,rfl,r⟩
   | succ i=>exact z2 i e he
theorem lay_ints(ns:List Int):Sh 1 (.list (ns.map Xk)):=Zsx λd m=>by
 obtain⟨x,_,rfl⟩:=Qc.mp m
 exact Zr0 x
theorem Zc6(ns:List Int):Sh 1 (.tuple (ns.map Xk)):=Zxq λd m=>by
 obtain⟨x,_,rfl⟩:=Qc.mp m
 exact Zr0 x
theorem Zps{M:Model}{h:Heap}{a:Addr}{items:Array Xd}(e:h.IsList a items):Looks M h (typeOf (.ref a)) (.type "list"):=by
 obtain⟨o,e,c,_⟩:=e
 have:Looks M h (typeOf (.ref a)) o.cls:=(Looks.ld e).andThen .now
 rwa[c]at this
noncomputable def kdT:Xa->Option (List Int×List Int):=λd=>match d with| .tuple [.list es,.tuple fs]=>(Zbn es).bind λns=>(Zbn fs).bind λms=>some (ns,ms)|_=>none
noncomputable def ltT:List Int×List Int->List Int×List Int->Bool:=λa b=>if a.1=b.1 then(if a.2=b.2 then false else ltI a.2 b.2)else ltI a.1 b.1
theorem Zg7{d:Xa}{k:List Int×List Int}(h:kdT d=some k):d= .tuple [.list (k.1.map Xk),.tuple (k.2.map Xk)]:=by
 unfold kdT at h
 split at h
 case h_2=>cases h
 obtain⟨ns,h1,h⟩:=bs h
 obtain⟨ms,h2,h⟩:=bs h
 cases h
 rw[J3 h1,J3 h2]
theorem Zm0{h:Heap}{k:List Int×List Int}{u:Xd}{as:List Addr}(r:Reads h u (.tuple [.list (k.1.map Xk),.tuple (k.2.map Xk)]) as):∃t o n a b,u= .ref t∧h.get? t=some o∧o.cls= .type "tuple"∧o.data= .seq #[.ref a,.ref b] n∧(∃bs,Reads h (.ref a) (.list (k.1.map Xk)) bs)∧∃bs,Reads h (.ref b) (.tuple (k.2.map Xk)) bs:=by
 cases r with
 | @tuple t o vs n xs as e c d q=>
  obtain⟨l,hl⟩:∃l,l=vs.toList:=⟨_,rfl⟩
  rw[←hl]at q
  cases q with
  | cons r1 q=>
   cases q with
   | cons r2 q=>
    cases q
    obtain⟨a,_,rfl,_⟩:=Jd r1
    obtain⟨b,_,rfl,_⟩:=Zfv r2
    have:vs=#[.ref a,.ref b]:=Array.toList_inj.mp hl.symm
    subst this
    exact⟨t,o,n,a,b,rfl,e,c,d,⟨_,r1⟩,_,r2⟩
theorem Zh4(a b:List Int):QC (.list (a.map Xk)) (.list (b.map Xk))=decide (a=b):=by
 have p:∀l:List Int,Yy (.list (l.map Xk))=true:=λl=>by rw[Yy];induction l with|nil=>rfl|cons x l ih=>exact ih
 have inj:∀{l m:List Int},Qv (l.map Xk)= .list (m.map Xk)->l=m:=λh=>by
  injection h with h
  exact(U7 λx y z=>by injection z).mp h
 by_cases c:a=b
 ·rw[Zx5 (p a) (p b) (by rw[c]),decide_eq_true c]
 ·rw[Z3x (p a) (p b) λz=>c (inj z),decide_eq_false c]
theorem Zq3(a b:List Int):QC (.tuple (a.map Xk)) (.tuple (b.map Xk))=decide (a=b):=by
 have e:∀xs ys:List Xa,QC (.tuple xs) (.tuple ys)=QC (.list xs) (.list ys):=λxs ys=>by
  rw[QC,QC]
 rw[e,Zh4]
theorem Zx1:Ycm kdT ltT:=by
 refine⟨λd k h=>?_,tuples' true,λprog w A E s vs ds as Q h2 r hk q=>?_,λprog w A E s u v d e as bs k m C hu r1 r2 h1 h2 h=>?_⟩
 ·rw[Zg7 h]
  exact(Zxq (n:=1) λd m=>by
   rcases Xq.mp m with rfl|m
   ·exact lay_ints _
   ·rw[XD.mp m];exact Zc6 _).1
 ·have key:∃fs:List Xd,KatTups s.heap vs fs∧fs.length=vs.length∧∀v∈fs,∃a items,v= .ref a∧s.heap.IsList a items:=by
   clear h2 q
   induction ds generalizing vs as with
   | nil=>cases r;exact⟨[],trivial,rfl,λ_ m=>nomatch m⟩
   | cons d ds ih=>
    cases r with
    | cons r q=>
     obtain⟨fs,t,l,z⟩:=ih _ _ q λd m=>hk d (.tail _ m)
     obtain⟨k,hk⟩:=hk d (.head _)
     rw[Zg7 hk]at r
     obtain⟨t',o,n,a,b,rfl,e,c,hd,⟨_,x1⟩,_⟩:=Zm0 r
     obtain⟨a',items,ea,ex,_⟩:=Jd x1
     cases ea
     refine⟨.ref a :: fs,KatTups.cons e c hd rfl t,congrArg Nat.succ l,λv hv=>?_⟩
     rcases Xq.mp hv with rfl|hv
     ·exact⟨a,items,rfl,ex⟩
     ·exact z v hv
  obtain⟨fs,t,l,z⟩:=key
  exact kat_kind (T:=.type "list") t (by omega) (λv hv=>by obtain⟨a,items,rfl,e⟩:=z v hv;exact Zps e) rfl q
 ·rw[Zg7 h1]at r1
  rw[Zg7 h2]at r2
  obtain⟨t1,o1,n1,a1,b1,rfl,g1,c1,d1,⟨_,x1⟩,_,y1⟩:=Zm0 r1
  obtain⟨t2,o2,n2,a2,b2,rfl,g2,c2,d2,⟨_,x2⟩,_,y2⟩:=Zm0 r2
  refine kat_lt g1 d1 g2 d2 (kat_cons ?_)
  refine SeqAt.eqAt_reads _ _ A s _ _ _ _ x1 x2 (lay_ints _).1 (lay_ints _).1 (by have:=(lay_ints k.1).2;omega) prog w _ _ ?_
  rw[Zh4]
  unfold ltT at h
  obtain⟨p1,i1,e1,l1,z1⟩:=Jd x1
  obtain⟨p2,i2,e2,l2,z2⟩:=Jd x2
  cases e1;cases e2
  by_cases c:k.1=m.1
  ·rw[if_pos c]at h
   rw[decide_eq_true c]
   refine kat_yes (kat_cons ?_)
   refine SeqAt.eqAt_reads _ _ A s _ _ _ _ y1 y2 (Zc6 _).1 (Zc6 _).1 (by have:=(Zc6 k.2).2;omega) prog w _ _ ?_
   rw[Zq3]
   obtain⟨p1,i1,e1,l1,z1⟩:=Zfv y1
   obtain⟨p2,i2,e2,l2,z2⟩:=Zfv y2
   cases e1;cases e2
   by_cases c':k.2=m.2
   ·rw[if_pos c']at h
    rw[decide_eq_true c']
    exact kat_yes (kat_nil h)
   ·rw[if_neg c']at h
    rw[decide_eq_false c']
    exact kat_no (Zrj (by omega) l1 l2 z1 z2 h)
  ·rw[if_neg c]at h
   rw[decide_eq_false c]
   exact kat_no (Zqk (by omega) l1 l2 z1 z2 h)
end L2
namespace L2
open PySem PySem.Spec PyProof.Rows PySem.W
variable {G:Xc}
noncomputable def lk{α:Type}(kd:Xa->Option α)(lt:α->α->Bool)(es:List Xa):Nat->Nat->Bool:=λi j=>((kd (es.getD i .none)).bind λa=>(kd (es.getD j .none)).map λb=>lt a b).getD false
noncomputable def keyed{α:Type}(kd:Xa->Option α)(es:List Xa):Prop:=∀d∈es,∃k,kd d=some k
theorem Zpw{es:List Xa}(h:∀d∈es,d.canLay0=true):JT es=true:=by
 induction es with
 | nil=>rw[JT]
 | cons d es ih=>rw[JT,h d (.head _),ih λd m=>h d (.tail _ m)];rfl
theorem Das.sLay{H:Hp}{L:Addr->Prop}{lt:Nat->Nat->Bool}{xs:List V}{ds:List Xa}(h:Das G H L xs ds):Das G H L (L2.sLay .non lt xs) (L2.sLay .none lt ds):=by
 unfold L2.sLay
 rw[h.length]
 split
 ·exact h
 ·generalize Zu4 lt _=l
  induction l with
  | nil=>exact .nil
  | cons i l ih=>
   refine .cons ?_ ih
   show Da G H L (xs.getD i .non) (ds.getD i .none)
   rw[Xf,Xf]
   cases e:xs[i]? with
   | some x=>
    obtain⟨u,e',r⟩:=h.get' e
    rw[e'];exact r
   | none=>
    have:ds[i]? =none:=Q7 (by rw[←h.length];exact Qw.mp e)
    rw[this];exact .non
noncomputable def Zy7{α:Type}(kd:Xa->Option α)(lt:α->α->Bool)(K:Xc):List V->Hp->VK->Prop:=λxs H Q=>∃(a:Addr) (vs:List V) (L:Addr->Prop) (es:List Xa),xs=[.ref a]∧SqL K H a vs∧Das K H L vs es∧vs.length<64∧keyed kd es∧∀l,H l=none->Q (.ref l) (upd H l (.lst (sLay .non (lk kd lt es) vs)))
section
variable {X:Cx}{α:Type}{kd:Xa->Option α}{lt:α->α->Bool}
theorem Ziz{K:Xc}(S:Ycm kd lt)(hK:X.K=K)(hu:X.A.units+64<cLine):Zd6 X (.builtin "sorted") (Zy7 kd lt K):=by
 subst hK
 intro pins s σ H xs us Q I r h
 obtain⟨l,vs,L,es,rfl,hs,hd,h64,hk,q⟩:=h
 obtain⟨u,rfl,ru⟩:=vals1 r
 cases(show u=Qn l from ru)
 obtain⟨its,rv,pl,hz⟩:=I.list hs
 have hl:=rv.length
 obtain⟨as,ra⟩:=hd.reads rfl I rv (Zpw λd m=>by obtain⟨k,e⟩:=hk d m;exact S.lay d k e)
 obtain⟨κ,S1,S2⟩:=S.run
 obtain⟨z1,z2⟩:=readsAll_get ra
 refine Zzk (κ:=κ) (lt:=lk kd lt es) pl.isList (by omega) (λh2 s' k Q q=>S1 _ _ _ _ s' _ es as Q h2 (ReadsAll.keeps k ra) hk q) (λh2 s' k i j C hi hj hc=>?_) ?_
 ·rw[z1]at hi hj
  obtain⟨v,b1,e1,r1⟩:=z2 i _ (Xi hi)
  obtain⟨w,b2,e2,r2⟩:=z2 j _ (Xi hj)
  obtain⟨k1,q1⟩:=hk _ (BV hi)
  obtain⟨k2,q2⟩:=hk _ (BV hj)
  have ek:lk kd lt es i j=lt k1 k2:=by
   unfold lk
   rw[Xf,Xf,Xi hi,Xi hj]
   show((kd es[i]).bind λa=>(kd es[j]).map λb=>lt a b).getD false=_
   rw[q1,q2];rfl
  rw[ek]at hc
  unfold kas_ask
  rw[Xf,Xf,e1,e2]
  exact S2 _ _ _ _ s' v w _ _ _ _ k1 k2 C (show X.A.units+1+1+32<cLine by omega) (Reads.keeps k r1) (Reads.keeps k r2) q1 q2 hc
 ·obtain⟨e,he⟩:=sortedAll_at s.heap its (VL (sLay QS (lk kd lt es) its))
  refine⟨.ref (s.heap.objs.size+1),_,I.laid (t':=s.toks) (o:=.lst (sLay .non (lk kd lt es) vs)) (λb ob q=>sortedAll_old q) (by omega) ⟨?_,sLay QS (lk kd lt es) its,e,Zty rv,he⟩,rfl,q _ (I.hok.fresh (by omega))⟩
  rw[(Zlc _ _ _).length_eq,Qj];omega
noncomputable def Zyk(kd:Xa->Option α)(lt:α->α->Bool):List Xa->(OT->Prop)->Prop:=λds k=>n1 (λd=>∃es:List Xa,d= .list es∧es.length<64∧keyed kd es∧k (.nd ((sLay .none (lk kd lt es) es).map OT.fz))) ds
theorem Zoc:PN G (Zy7 kd lt G) (Zyk kd lt):=λH L xs ds k Q hx h kk=>by
 obtain⟨v,d,rfl,rfl,q,es,e,h64,hk,h⟩:=hx.one h
 have fin:∀(vs:List V) (p:Addr),Das G H L vs es->H p=none->Q (.ref p) (upd H p (.lst (sLay .non (lk kd lt es) vs))):=λvs p hv hp=>kk _ _ _ [p] (Yd hp _) (Own.list hp hv.sLay) (Zcn p) (Zal hp) h
 subst e
 generalize ed:Qv es=d at q
 cases q with
 | lst l e r=>
  cases ed
  exact⟨_,_,L,es,rfl,.inl e,r,by rw[r.length];exact h64,hk,λp hp=>fin _ p r hp⟩
 | scr ks=>
  cases ed
  exact⟨_,_,L,_,rfl,ks.sq,Das.ints _,by rw[(Das.ints (G:=G) (H:=H) (L:=L) _).length];exact h64,hk,λp hp=>fin _ p (Das.ints _) hp⟩
 | _=>cases ed
noncomputable def Zmh(kd:Xa->Option α)(lt:α->α->Bool):List Xa->Option OT:=λds=>match ds with|[.list es]=>if(decide (es.length<64)&&es.all λd=>(kd d).isSome)=true then some (.nd ((sLay .none (lk kd lt es) es).map OT.fz))else none|_=>none
theorem Zt9:∀ds r k,Zmh kd lt ds=some r->k r->Zyk kd lt ds k:=λds r k h hk=>by
 unfold Zmh at h
 split at h
 case h_2=>cases h
 split at h
 case isFalse=>cases h
 rename_i h2
 rw[XQ]at h2
 cases h
 exact⟨_,rfl,of_decide_eq_true h2.1,λd m=>Option.isSome_iff_exists.mp (Us.mp h2.2 d m),hk⟩
end
end L2
namespace L2
open PySem PySem.Spec PyProof.Rows
section
variable {X:Cx}{io:List Nat}{p p' c c' q r:Bool}{a b e:Expr}{fa fb:FE}{es:List Expr}{ra:FA}{st:Stmt}{sts ss ss':List Stmt}{f g:FS}{ta:FT}
theorem xv(i:Nat){x:Str}{pos:Pos}(hN:X.N[i]? =some x:=by rfl)(hv:Vis X.env.scope x:=by first|exact QH rfl|exact Qx (QH rfl)|exact Qx (Qx rfl))(hd:(x==("__debug__" : Str))=false:=by decide)(he:(x==("__classdict__" : Str))=false:=by decide):ME X io true true (.Name x pos) (o2 (Zd i)):=Z7 (mv i hN hv hd he)
theorem xo(i:Nat){x:Str}{pos:Pos}(hN:X.N[i]? =some x:=by rfl)(hv:Vis X.env.scope x:=by first|exact QH rfl|exact Qx (QH rfl)|exact Qx (Qx rfl))(hd:(x==("__debug__" : Str))=false:=by decide)(he:(x==("__classdict__" : Str))=false:=by decide):ME X io true false (.Name x pos) (o2 (Zq0 i)):=Z5k (mo i hN hv hd he)
theorem xci{i:Int}{j:Nat}{pos:Pos}:ME X io true true (.Constant (.int i) j pos) (o2 (fC (.int i))):=Zcp Zi6
theorem xix{pos:Pos}(ha:ME X io p c a (o2 fa))(hb:ME X io p' c' b (o2 fb))(hc:p'=true∨c=true:=by first|exact QH rfl|exact Qx rfl)(hs:Zjw b:=by exact λ_ _=>rfl)(h2:(p&&p')=q:=by rfl)(h3:(c&&c')=r:=by rfl):ME X io q r (.Subscript a b pos) (o2 (Ye gIx fa fb)):=h2▸h3▸Zgr Z9l (Z84 (Znh rfl) Z10 ha hb hc (hs:=hs))
theorem xa0:MA X io true true [] (o2 Zq):=Za8 Za7
theorem xa1[NoStar e](ha:ME X io p c e (o2 fa))(h2:(p&&true)=q:=by rfl)(h3:(c&&true)=r:=by rfl):MA X io q r [e] (o2 (Zc fa Zq)):=Ze ha xa0 (.inl rfl) h2 h3
theorem xsq(h:MS X io st (oS f))(k:MSs X io sts (oS g)):MSs X io (st :: sts) (oS (Z4 f g)):=Zd5 (J2 h k)
theorem xst{pos px:Pos}(i:Nat){x:Str}(hN:X.N.Nodup)(he:ME X io p true e (o2 fa))(hi:X.N[i]? =some x:=by rfl)(hx:Loc X.env.scope x:=by first|exact QH rfl|exact Qx rfl)(hio:i∉io:=by decide)(hs:V5 e (some (.Name x px)) pos.line X.env=pure false:=by rfl)(hf:X.fn x=true∨X.env.scope.names.lookup x=some .local:=by first|exact .inl rfl|exact .inr rfl|assumption):MS X io (.Assign [.Name x px] e pos) (oS (wE fa (Y6 i))):=Zov (Zor hN hi hx he hio hs hf)
theorem xrt{pos:Pos}(h:ME X io p true e (o2 fa)):MS X io (.Return (some e) pos) (oS (wE fa Ja)):=Zdv (Zd3 h)
theorem xg{pos:Pos}(i:Nat){x:Str}(hN:X.N.Nodup)(hi:X.N[i]? =some x:=by rfl)(hx:Loc X.env.scope x:=by first|exact QH rfl|exact Qx rfl)(hio:i∉io:=by decide)(hf:X.fn x=true∨X.env.scope.names.lookup x=some .local:=by first|exact .inl rfl|exact .inr rfl|assumption):MG X io true (.Name x pos) (oG (gNm i)):=Zkk (Zjl hN hi hx hio hf)
theorem xif{pos:Pos}(h:MT X io p e (o2 ta))(k:MSs X io ss (oS f))(l:MSs X io ss' (oS g)):MS X io (.If e ss ss' pos) (oS (Jv ta f g)):=Zkq (Zky h k l)
theorem xnl:MSs X io [] (oS fNx):=Zb7 Zb0
theorem xtp{pos:Pos}{n:Nat}(h:MA X io p c es (o2 ra)):ME X io p c (.Tuple es n pos) (o2 (Zif ra)):=Z3u (Z9u h)
theorem xls{pos:Pos}(h:MA X io p c es (o2 ra)):ME X io p c (.List es pos) (o2 (Zdu ra)):=Zsp (Z1h h)
theorem xil{tg:Expr}(h:ME X io p c e (o2 fa)):MI X io p c tg e (o2 (Zgi fa)):=Z0x (Z0a h)
theorem xno{pos:Pos}(h:MT X io p e (o2 ta)):MT X io p (.UnaryOp .Not e pos) (o2 (tNo ta)):=Zyr (Zxy h)
theorem Zfd{pos:Pos}(ha:ME X io p c a (o2 fa))(hb:ME X io p' c' b (o2 fb))(hc:p'=true∨c=true:=by first|exact QH rfl|exact Qx rfl)(h2:(p&&p')=q:=by rfl):ME X io q true (.BinOp a .Add b pos) (o2 (Zf Zau fa fb)):=h2▸Wb Yae (Zmr Z3g Zj3 ha hb hc)
theorem Z27{pos:Pos}(ha:ME X io p c a (o2 fa))(hb:ME X io p' c' b (o2 fb))(hc:p'=true∨c=true:=by first|exact QH rfl|exact Qx rfl)(h2:(p&&p')=q:=by rfl):ME X io q true (.BinOp a .Sub b pos) (o2 (Zf gSb fa fb)):=h2▸Wb Z12 (Zmr Zr9 Zj3 ha hb hc)
theorem Zil{pos:Pos}(ha:ME X io p c a (o2 fa))(hb:ME X io p' c' b (o2 fb))(hc:p'=true∨c=true:=by first|exact QH rfl|exact Qx rfl)(h2:(p&&p')=q:=by rfl):ME X io q true (.BinOp a .Mult b pos) (o2 (Zf Zcv fa fb)):=h2▸Wb Z9g (Zmr Z1y Z3z ha hb hc)
theorem Zk6{pos:Pos}(ha:ME X io p c a (o2 fa))(hb:ME X io p' c' b (o2 fb))(hc:p'=true∨c=true:=by first|exact QH rfl|exact Qx rfl)(h2:(p&&p')=q:=by rfl):ME X io q true (.BinOp a .Mod b pos) (o2 (Zf Zez fa fb)):=h2▸Wb Z9y (Zmr Zzb Z5m ha hb hc)
theorem Zou{pos:Pos}(ha:ME X io p c a (o2 fa))(hb:ME X io p' c' b (o2 fb))(hc:p'=true∨c=true:=by first|exact QH rfl|exact Qx rfl)(h2:(p&&p')=q:=by rfl):ME X io q true (.BinOp a .FloorDiv b pos) (o2 (Zf Zac fa fb)):=h2▸Wb Z64 (Zmr Zw1 Z30 ha hb hc)
theorem Z9b{pos:Pos}(ha:ME X io p c a (o2 fa))(hb:ME X io p' c' b (o2 fb))(hc:p'=true∨c=true:=by first|exact QH rfl|exact Qx rfl)(h2:(p&&p')=q:=by rfl):ME X io q true (.BinOp a .Pow b pos) (o2 (Zf Zvk fa fb)):=h2▸Wb Z93 (Zmr Z01 Z62 ha hb hc)
theorem xeq{pos:Pos}(hu:X.A.units+64<cLine)(ha:ME X io p c a (o2 fa))(hb:ME X io p' c' b (o2 fb))(hc:p'=true∨c=true:=by first|exact QH rfl|exact Qx rfl)(h2:(p&&p')=q:=by rfl):MT X io q (.Compare a [.Eq] [b] pos) (o2 (tV (Zf gEq fa fb))):=h2▸Za9 Zzj (Za1 (Zhm hu) Znf ha hb hc (hm:=Je _))
theorem xne{pos:Pos}(hu:X.A.units+64<cLine)(ha:ME X io p c a (o2 fa))(hb:ME X io p' c' b (o2 fb))(hc:p'=true∨c=true:=by first|exact QH rfl|exact Qx rfl)(h2:(p&&p')=q:=by rfl):MT X io q (.Compare a [.NotEq] [b] pos) (o2 (tV (Zf gNe fa fb))):=h2▸Za9 Z8d (Za1 (Zn9 hu) Zv8 ha hb hc (hm:=Je _))
theorem xlt{pos:Pos}(ha:ME X io p c a (o2 fa))(hb:ME X io p' c' b (o2 fb))(hc:p'=true∨c=true:=by first|exact QH rfl|exact Qx rfl)(h2:(p&&p')=q:=by rfl):MT X io q (.Compare a [.Lt] [b] pos) (o2 (tV (Zf gLt fa fb))):=h2▸Za9 Z76 (Za1 Zws Zi3 ha hb hc (hm:=Je _))
theorem xgt{pos:Pos}(ha:ME X io p c a (o2 fa))(hb:ME X io p' c' b (o2 fb))(hc:p'=true∨c=true:=by first|exact QH rfl|exact Qx rfl)(h2:(p&&p')=q:=by rfl):MT X io q (.Compare a [.Gt] [b] pos) (o2 (tV (Zf gGt fa fb))):=h2▸Za9 Yeq (Za1 Z8r Zi3 ha hb hc (hm:=Je _))
theorem xge{pos:Pos}(ha:ME X io p c a (o2 fa))(hb:ME X io p' c' b (o2 fb))(hc:p'=true∨c=true:=by first|exact QH rfl|exact Qx rfl)(h2:(p&&p')=q:=by rfl):MT X io q (.Compare a [.GtE] [b] pos) (o2 (tV (Zf gGe fa fb))):=h2▸Za9 Yde (Za1 Z9w Zi3 ha hb hc (hm:=Je _))
theorem xfr{pos:Pos}{tg:Expr}{it:FI}{gg:FG}(hp:PassesOwn (X6 X.prog X.w) X.A X.env X.xe)(hc:X.calm=true)(hi:MI X io p true tg e (o2 it))(hg:MG X io true tg (oG gg))(hb:MSs X io ss (oS f))(hs:∀x,BJ e X.env x=pure x:=by intro _;rfl):MS X io (.For tg e ss [] pos) (oS (Zbw it gg f)):=Zro (Zs1 hp hc hi hg hb hs)
theorem xg2{pos:Pos}{n:Nat}{g1 g2:FG}(hc:X.calm=true)(ha:MG X io true a (oG g1))(hb:MG X io true b (oG g2))(h1:List.map (λx=>x.snd) (JQ [a,b] X.env)=UJ a X.env :: List.map (λx=>x.snd) (JQ [b] X.env):=by rfl)(h2:List.map (λx=>x.snd) (JQ [b] X.env)=UJ b X.env :: List.map (λx=>x.snd) (JQ [] X.env):=by rfl)(h3:(JQ [a,b] X.env).length=2:=by rfl)(h4:List.findIdx? (λx=>x.fst) (JQ [a,b] X.env)=none:=by rfl):MG X io true (.Tuple [a,b] n pos) (oG (gTp 2 (gCn g1 (gCn g2 gNl)))):=Zy1 (Zy2 (n:=2) hc (Zg3 (Zhd ha (Zg3 (Zhd hb (Zuu Ztm) h2)) h1)) h3 h4)
theorem xso{pos px:Pos}(i:Nat){x:Str}(hN:X.N.Nodup)(he:ME X io p true e (o2 fa))(hi:X.N[i]? =some x:=by rfl)(hx:Loc X.env.scope x:=by first|exact QH rfl|exact Qx rfl)(hio:i∉io:=by decide)(hs:V5 e (some (.Name x px)) pos.line X.env=pure false:=by rfl)(hf:X.fn x=true∨X.env.scope.names.lookup x=some .local:=by first|exact .inl rfl|exact .inr rfl|assumption):MS X io (.Assign [.Name x px] e pos) (oS (wE fa (Zb5 i))):=Z2y (Zzn hN hi hx he hio hs hf)
theorem xcl{pos pp:Pos}{k:Nat}{f:Addr}{fd:XR}{ps:List Str}{x:Str}{F:FD}(G:FnOk X.prog X.w X.K X.mg X.base CX0 k f fd ps (spD X.K (sD F)))(hr:Room k X.A)(hm:X.mg x=some (.ref f))(hk:Vy X.K (.ref f)=true)(hb:Binds X.K fd ps [])(ha:MA X io p c (e :: es) (o2 ra))(hg:Gl X x:=by rfl)(h1:(x==("__debug__" : Str))=false:=by decide)(h2:Xp (e :: es) X.env=(false,eval e X.env) :: Xp es X.env:=by rfl)(h3:((JM pos (Xp es X.env)).any λx=>x.fst)=false:=by rfl):ME X io p c (.Call (.Name x pp) (e :: es) [] pos) (o2 (Zu F ra)):=Zhh (Zmg G hr hg hm hk hb Zuw ha h1 h2 h3)
theorem xln{pos pp:Pos}(hm:X.mg "len"=none)(ha:MA X io p c [e] (o2 ra))(hg:Gl X "len" :=by rfl)(h2:Xp [e] X.env=(false,eval e X.env) :: Xp [] X.env:=by rfl):ME X io p true (.Call (.Name "len" pp) [e] [] pos) (o2 (Zbx Za5 ra)):=Zeu Zp5 (Zkc Zje (Zbi rfl) hg hm L2.B.boot_len ha (by decide) (by decide) h2 (by rfl))
end
noncomputable def tbl(P:List Nat)(led:Bool):QZ:={ mask:=7,place:=P.toArray,dummies:=#[],finger:=0,led,moves:=0,plain:=true }
noncomputable def hT(k:List Int):Int:=reduceHash (Builtin.Tuple.tupleHashOf (k.map hashInt))
noncomputable def hAt(ks:List (List Int))(i:Nat):Int:=(ks[i]?.map hT).getD 0
noncomputable def Z85(P:List Nat)(j:Nat):List Nat:=((tbl P false).put j).1.place.toList
noncomputable def Yb7(P:List Nat)(j:Nat):Nat:=((tbl P false).put j).2
noncomputable def Yd4(ks:List (List Int))(p:Nat)(k:List Int):List (List Int):=ks.take p ++ k :: ks.drop p
noncomputable def Yec(P:List Nat)(ks:List (List Int))(k:List Int):Option (List Nat×List (List Int)) :=
 match(tbl P false).probe (hAt ks) (hT k) ((tbl P false).probeStart (hT k))with
 | some (.empty j none)=>if(tbl (Z85 P j) false).tooFull=false∧(Z85 P j).length=ks.length+1∧ks.length≤6∧Yb7 P j≤ks.length then some (Z85 P j,Yd4 ks (Yb7 P j) k)else none
 | some (.candidate _ i _)=>if ks[i]? =some k then some (P,ks)else none
 | _=>none
noncomputable def grow(K:List (List Int)):Nat->List (List Nat×List (List Int))->List (List Nat×List (List Int))
 | 0,S=>S
 | n+1,S=>grow K n (S ++ (S.flatMap λs=>K.filterMap λk=>Yec s.1 s.2 k).filter λs=>!S.contains s)
noncomputable def K2:List (List Int):=[[0,0],[0,1],[1,0],[1,1]]
noncomputable def S2:List (List Nat×List (List Int)):=(grow K2 4 [([],[])]).eraseDups
section
variable {prog:Qa}{w:Qs}{A:Qq}{E:Xd->Xg->Prop}{s:Xg}
inductive KeysIn(U:Addr->List Int->Prop):List (List Int)->List (Int×Xd)->Prop
 | nil:KeysIn U [] []
 | cons {k:List Int} {a:Addr} {ks:List (List Int)} {l:List (Int×Xd)} (h:U a k) (t:KeysIn U ks l):KeysIn U (k :: ks) ((hT k,.ref a) :: l)
noncomputable def Ts(U:Addr->List Int->Prop)(h:Heap)(S:Addr)(P:List Nat)(ks:List (List Int)):Prop :=
 ∃o es ep led,h.get? S=some o∧o.ExactSet∧o.data= .set es ep (tbl P led)∧P.length=es.size∧es.size≤7∧KeysIn U ks es.toList
noncomputable abbrev IK(prog:Qa)(w:Qs)(h:Heap)(k:List Int)(a:Addr):Prop:=IsTupleKey (Vx prog w) h k a
theorem items_int{ks:List Int}{vs:List Xd}(h:ItemsAre (Vx prog w) ks vs):∀v∈vs,∃i t,v= .int i t:=by
 induction h with
 | nil=>exact λ_ m=>nomatch m
 | cons h _ ih=>
  intro v hv
  rcases Xq.mp hv with rfl|hv
  ·obtain⟨t,e⟩:=Value.isInt_shape h
   exact⟨_,t,e⟩
  ·exact ih v hv
end
section
variable {prog:Qa}{w:Qs}{A:Qq}{R:Result->Xg->Prop}{I:Addr}{fp wr:List Addr}{n:Nat}{Pv:Nat->Xd->Prop}{St:Nat->Heap->Prop}
end
inductive Z9n(H:Hp):List V->List (List Int)->Prop
 | nil:Z9n H [] []
 | cons {a:Addr} {k:List Int} {xs:List V} {ks:List (List Int)} (h:H a=some (.tup (k.map V.int))) (t:Z9n H xs ks):Z9n H (.ref a :: xs) (k :: ks)
section
variable {X:Cx}{p c:Bool}{io:List Nat}{a e:Expr}{pos pos' pl pr:Pos}{t:TA}{mr:MAt}{ra:FA}
end
noncomputable abbrev Yeo(h:Heap)(T:Addr)(a b c:Xd):Prop:=h.get? T=some { cls:=.type "tuple",data:=.seq #[a,b,c] }
structure Z3A(z TI TO i1 i2 i3:Addr)(f1 f2 f3:List Addr):Prop where
 TIz:TI≠z
 TOz:TO≠z
 a1:∀c∈f1,c≠z∧c≠TO∧c≠i2∧c≠i3
 a2:∀c∈f2,c≠z∧c≠TO∧c≠i1∧c≠i3
 a3:∀c∈f3,c≠z∧c≠TO∧c≠i1∧c≠i2
section
variable {P:Qa}{w:Qs}{A:Qq}{E:Xd->Xg->Prop}{s:Xg}
end
noncomputable abbrev z3A(h:Heap)(a:Addr):Heap:=h.push { cls:=.type "list_iterator",data:=.fields #[.ref a,.int 0 0] }
noncomputable abbrev z3B(h:Heap)(a b:Addr):Heap:=z3A (z3A h a) b
noncomputable abbrev z3C(h:Heap)(a b c:Addr):Heap:=z3A (z3B h a b) c
noncomputable abbrev z3D(h:Heap)(a b c:Addr):Heap:=(z3C h a b c).push { cls:=.type "tuple",data:=.seq #[.ref h.objs.size,.ref (z3A h a).objs.size,.ref (z3B h a b).objs.size] }
noncomputable abbrev z3E(h:Heap)(a b c:Addr):Heap:=(z3D h a b c).push { cls:=.type "tuple",data:=.seq #[.none,.none,.none] }
noncomputable abbrev z3F(h:Heap)(a b c:Addr):Heap:=(z3E h a b c).push { cls:=.type "zip",data:=.fields #[.none,.bool false,.bool false,.ref (z3C h a b c).objs.size,.ref (z3D h a b c).objs.size] }
section
variable {P:Qa}{w:Qs}{A:Qq}{E:Xd->Xg->Prop}{s:Xg}
end
section
variable {X:Cx}{io:List Nat}{p c:Bool}{a b e:Expr}{mr:MAt}{ra:FA}
end
variable {G:Xc}
section
variable {X:Cx}{io:List Nat}{p c:Bool}{e:Expr}{m:MEt}{pos apos cpos px:Pos}{i:Nat}{x:Str}{st:Stmt}{fa:FE}
noncomputable def Zkr(i:Nat)(m:MEt):MSt:=λD δ=>match δ[i]? with
 | some (some (.nd _))=>m δ λr δ1=>match r,δ1[i]? with
  | .nd rs,some (some (.nd ts))=>ts.length+rs.length≤Xx∧D.nx (δ1.set i (some (.nd (ts ++ (OT.datas rs).map OT.fz))))
  | _,_=>False
 | _=>False
theorem Owns.app{H:Hp}{L:Addr->Prop}{ds:List Xa}:∀{zs xs:List V} {ts:List OT} {bs:List Addr},Owns G H L xs ts bs->Das G H L zs ds->Owns G H L (xs ++ zs) (ts ++ ds.map OT.fz) bs:=by
 induction ds with
 | nil=>
  intro zs xs ts bs h g
  cases g
  rw[Q5,List.map_nil,Q5];exact h
 | cons d ds ih=>
  intro zs xs ts bs h g
  cases g with
  | cons q g=>
   have:=ih (h.snoc (.fz q)) g
   rw[Q5,JB,JB]at this
   exact this
theorem Zsk(i:Nat)(he:ME X io p true e m)(hN:X.N[i]? =some x:=by rfl)(hv:Vis X.env.scope x:=by first|exact QH rfl|exact Qx (QH rfl)|exact Qx (Qx rfl))(hd:(x==("__debug__" : Str))=false:=by decide)
  (hcd:(x==("__classdict__" : Str))=false:=by decide)
  (hbase:Uh (.Name x px) "extend" X.env (eval (.Name x px) X.env)=eval (.Name x px) X.env:=by rfl)
  (hfew:((JM cpos (Xp [e] X.env)).all (λx=>!x.1)&&(backToKw cpos (U4 [] X.env)).all (λx=>x.1.isSome)
   &&decide ([e].length+([]:List V6).length+(if([]:List V6).isEmpty then 0 else 1)<30))=true:=by rfl)
  (hline:(apos.endLine==cpos.line)=true:=by rfl) (hs:Xp [e] X.env=(false,eval e X.env) :: Xp [] X.env:=by rfl) (hplain:(JM cpos (Xp [] X.env)).any (·.1)=false:=by rfl)
  (hsw:V5 (.Call (.Attribute (.Name x px) "extend" apos) [e] [] cpos) none pos.line X.env=pure false:=by rfl) :
  MS X io (.Expr (.Call (.Attribute (.Name x px) "extend" apos) [e] [] cpos) pos) (Zkr i m):=by
 obtain⟨_,A,s⟩:=he
 refine⟨_,Zn4 (Zvl V3 PySem.F.slot_list_extend PySem.F.type_list_extend Zra (pv i hN hv hd hcd) (Zb3 A Zgg hs) hbase hfew hline hs hplain) hsw,λC H σ δ fp ex D D' R h E=>?_⟩
 unfold Zkr at h
 split at h
 case h_2=>exact h.elim
 rename_i ts0 hi0
 obtain⟨a',xs0,bs0,hv0,hx0,_,_⟩:=R.ownNd hi0
 refine⟨_,hv0,.inl ⟨rfl,xs0,.inl (.inl hx0)⟩,?_⟩
 refine s C H σ δ fp ex _ _ R h λH1 v r δ1 fp1 new r1 h1=>?_
 split at h1
 case h_2=>exact h1.elim
 rename_i rs ts1 hi1
 have R1:=r1.base
 obtain⟨a1,xs1,bs1,hv1,hx1,o1,hf1⟩:=R1.ownNd hi1
 rw[hv0]at hv1
 cases hv1
 obtain⟨b,zs,rfl,hb,lz,qs⟩:∃b zs,v= .ref b∧H1 b=some (.lst zs)∧zs.length=rs.length∧Das X.K H1 (Lf C fp1 ex) zs (OT.datas rs):=by
  have ow:=r1.own
  have nw:∀a∈new,Lf C fp1 ex a:=λa m=>by
   refine⟨λqz=>?_,(R.newOk (r1.fresh a m)).2.1,.inr (R.newOk (r1.fresh a m)).2.2⟩
   obtain⟨i,z⟩:=qz
   exact r1.rel.dx i a z (.inr m)
  cases ow with
  | nd hb r=>exact⟨_,_,rfl,hb,r.length,r.das (λa l _=>⟨(l rfl).1,λz=>(l rfl).2.1 (.inl z),(l rfl).2.2⟩) λa m=>nw a (.tail _ m)⟩
 refine⟨a',b,xs1,zs,rfl,rfl,hx1,hb,by rw[o1.length,lz];exact h1.1,?_⟩
 obtain⟨R2,S2⟩:=R1.top hi1 hv0 hf1 hx1 (o1.app qs) (List.Sublist.refl _)
 exact E.nx _ σ _ _ R2 (r1.stp.kp.trans S2.kp) h1.2
noncomputable def Zhp(i:Nat)(e:FE):FS:=λδ=>match δ[i]? with
 | some (some (.nd _))=>wE e (λr δ1=>match r,δ1[i]? with
  | .nd rs,some (some (.nd ts))=>if ts.length+rs.length≤Xx then .nx (δ1.set i (some (.nd (ts ++ (OT.datas rs).map OT.fz))))else .bad
  | _,_=>.bad) δ
 | _=>.bad
theorem Zsy(h:MS X io st (Zkr i (o2 fa))):MS X io st (oS (Zhp i fa)):=h.weak λD δ h=>by
 unfold oS Zhp at h;unfold Zkr
 split at h
 case h_2=>exact h.elim
 rename_i q;(try rw[q])
 refine(Zqz h).imp λr δ' z=>?_
 split at z
 ·rename_i q2;(try rw[q2]);exact Zpg z
 ·exact z.elim
end
noncomputable def Up(xs:List Nat):Prop:=xs.Pairwise (·<·)
theorem Zwv{xs:List Nat}(h:Up xs){i j:Nat}{a b:Nat}(ha:xs[i]? =some a)(hb:xs[j]? =some b)(l:i<j):a<b:=by
 obtain⟨hi,rfl⟩:=Xn.mp ha
 obtain⟨hj,rfl⟩:=Xn.mp hb
 exact Bj.mp h i j hi hj l
theorem getD_at{xs:Array Nat}{i d:Nat}(h:i<xs.size):xs.toList[i]? =some (xs.getD i d):=by
 rw[Qd,VM h,Array.getD,dif_pos h];rfl
theorem Zwg{xs:Array Nat}{j:Nat}(up:Up xs.toList):∀(fuel lo hi:Nat),hi-lo≤fuel->lo≤hi->hi≤xs.size->(∀i a,i<lo->xs.toList[i]? =some a->a<j)->(∀i a,hi≤i->xs.toList[i]? =some a->j≤a) ->
  ∃p,SetTable.below.go xs j fuel lo hi=p∧p≤xs.size∧(∀i a,i<p->xs.toList[i]? =some a->a<j)∧∀i a,p≤i->xs.toList[i]? =some a->j≤a:=by
 intro fuel
 induction fuel with
 | zero=>
  intro lo hi f l z h1 h2
  have e:lo=hi:=by omega
  exact⟨lo,rfl,by omega,h1,λi a q=>h2 i a (by omega)⟩
 | succ fuel ih=>
  intro lo hi f l z h1 h2
  rw[SetTable.below.go]
  by_cases c:lo<hi
  ·rw[if_pos c]
   have hm:(lo+hi)/2<xs.size:=by omega
   have em:=getD_at (xs:=xs) (d:=j) hm
   by_cases q:xs.getD ((lo+hi)/2) j<j
   ·simp only[if_pos q]
    refine ih _ _ (by omega) (by omega) z (λi a li ea=>?_) h2
    by_cases e:i=(lo+hi)/2
    ·subst e
     rw[em]at ea
     cases ea
     exact q
    ·exact Vq (Zwv up ea em (by omega)) q
   ·simp only[if_neg q]
    refine ih _ _ (by omega) (by omega) (by omega) h1 λi a li ea=>?_
    by_cases e:i=(lo+hi)/2
    ·subst e
     rw[em]at ea
     cases ea
     omega
    ·have:=Zwv up em ea (by omega)
     omega
  ·rw[if_neg c]
   have e:lo=hi:=by omega
   exact⟨lo,rfl,by omega,h1,λi a q=>h2 i a (by omega)⟩
theorem Zj8{xs:Array Nat}(up:Up xs.toList)(j:Nat):QQ xs j≤xs.size∧(∀i a,i<QQ xs j->xs.toList[i]? =some a->a<j)∧∀i a,QQ xs j≤i->xs.toList[i]? =some a->j≤a:=by
 obtain⟨p,e,h⟩:=Zwg (j:=j) up xs.size 0 xs.size (by omega) (Qo _) (XN _) (λi a q=>absurd q (Vh _)) λi a q ea=>by
  have:=(Xn.mp ea).1
  rw[X7]at this
  omega
 unfold QQ
 rw[e];exact h
theorem Zqn{xs:Array Nat}(up:Up xs.toList){i a:Nat}(h:xs.toList[i]? =some a):QQ xs (a+1)=i+1:=by
 obtain⟨b0,b1,b2⟩:=Zj8 up (a+1)
 have hi:=(Xn.mp h).1
 rw[X7]at hi
 rcases Vz (QQ xs (a+1)) (i+1)with c|c|c
 ·have:=b2 i a (by omega) h
  omega
 ·exact c
 ·have hs:i+1<xs.toList.length:=by rw[X7];omega
  have e1:=Xi hs
  have:=b1 (i+1) _ c e1
  have:=Zwv up h e1 (Qt _)
  omega
theorem Zqm{xs:Array Nat}(up:Up xs.toList):QQ xs 0=0:=by
 obtain⟨b0,b1,_⟩:=Zj8 up 0
 cases e:QQ xs 0 with
 | zero=>rfl
 | succ k=>
  rw[e]at b0 b1
  have hs:0<xs.toList.length:=by rw[X7];omega
  exact absurd (b1 0 _ (Nat.zero_lt_succ _) (Xi hs)) (Vh _)
theorem Z5s{xs:List Nat}(up:Up xs){p j:Nat}(h1:∀i a,i<p->xs[i]? =some a->a<j)(h2:∀i a,p≤i->xs[i]? =some a->j<a):Up (xs.take p ++ j :: xs.drop p):=by
 refine List.pairwise_append.mpr ⟨up.sublist (List.take_sublist ..),List.pairwise_cons.mpr ⟨λa ha=>?_,up.sublist (List.drop_sublist ..)⟩,λa ha b hb=>?_⟩
 ·obtain⟨i,hi⟩:=Bs ha
  rw[V7]at hi
  exact h2 _ a (JS _ _) hi
 ·obtain⟨i,hi⟩:=Bs ha
  have ip:i<p:=by
   have:=(Xn.mp hi).1
   rw[BP]at this
   omega
  rw[List.getElem?_take_of_lt ip]at hi
  have aj:=h1 i a ip hi
  rcases Xq.mp hb with rfl|hb
  ·exact aj
  ·obtain⟨k,hk⟩:=Bs hb
   rw[V7]at hk
   exact Vq aj (h2 _ b (JS _ _) hk)
noncomputable def Zff(t:QZ)(j:Nat):Prop:=t.place[QQ t.place j]? ≠some j
structure Tb(b:Bool)(t:QZ):Prop where
 led:t.led=b
 up:t.plain=true->Up t.place.toList
theorem Zo8{t:QZ}{j:Nat}(h:t.slot j= .empty∨t.slot j= .dummy):Zff t j:=λz=>by
 have:t.slot j= .live (QQ t.place j):=by
  unfold QZ.slot
  rw[if_pos (beq_iff_eq.mpr z)]
 rcases h with h|h<;>rw[this]at h<;>cases h
theorem Zua{t:QZ}{f:Nat->Int}{h:Int}:∀(fuel:Nat) (p:SetTable.Probe),(∀d,p.dummy=some d->Zff t d)->∀j dm,SetTable.probe.go t f h fuel p=some (.empty j dm)->Zff t j∧∀d,dm=some d->Zff t d:=by
 intro fuel
 induction fuel with
 | zero=>intro p _ j dm e;cases e
 | succ fuel ih=>
  have adv:∀q:SetTable.Probe,(t.advance q).dummy=q.dummy:=λq=>by
   unfold QZ.advance
   split<;>rfl
  intro p hp j dm e
  rw[SetTable.probe.go]at e
  split at e
  ·rename_i c
   cases e
   exact⟨Zo8 (.inl c),hp⟩
  ·rename_i c
   refine ih _ (λd hd=>?_) j dm e
   rw[adv]at hd
   cases hd
   exact Zo8 (.inr c)
  ·split at e
   ·cases e
   ·exact ih _ (λd hd=>hp d (by rw[adv]at hd;exact hd)) j dm e
theorem Zxe{t:QZ}{h:Int}{j:Nat}{d:Bool}(e:t.freeSlot h=some (j,d)):Zff t j:=by
 unfold QZ.freeSlot at e
 split at e
 ·rename_i j' dm q
  cases e
  obtain⟨h1,h2⟩:=Zua _ _ (λd hd=>by cases hd) _ _ q
  cases dm with
  | none=>exact h1
  | some d=>exact h2 d rfl
 ·cases e
theorem Z5j{t:QZ}{j:Nat}(up:Up t.place.toList)(n:Zff t j):Up (t.put j).1.place.toList:=by
 show Up (QZ.insertAt t.place (QQ t.place j) j).toList
 obtain⟨b0,b1,b2⟩:=Zj8 up j
 rw[SetTable.toList_insertAt]
 refine Z5s up b1 λi a l ea=>?_
 have ja:=b2 i a l ea
 rcases VP j a with c|c
 ·exact c
 ·have e:a=j:=by omega
  subst e
  exfalso
  rcases VP (QQ t.place a) i with c2|c2
  ·have hs:QQ t.place a<t.place.toList.length:=Vq c2 (Xn.mp ea).1
   have e1:=Xi hs
   have:=Zwv up e1 ea c2
   have:=b2 _ _ (XN _) e1
   omega
  ·have e:i=QQ t.place a:=by omega
   subst e
   exact n (by rw[←Qd];exact ea)
theorem Tb.stand{b:Bool}{t:QZ}(h:Tb b t)(n:Nat):Tb b (t.standIn n):=⟨h.led,λz=>nomatch z⟩
theorem Tb.lay{b:Bool}{t:QZ}(h:Tb b t)(es:Array (Int×Xd))(k:Int)(x:Xd):Tb b (layNew t es k x).2.1:=by
 unfold layNew
 split
 ·rename_i j d e
  dsimp only
  unfold QZ.orStandIn
  split
  ·exact⟨h.led,λz=>Z5j (h.up z) (Zxe e)⟩
  ·exact⟨h.led,λz=>nomatch z⟩
 ·exact h.stand _
theorem Zz8(f:Nat->Option Nat)(n:Nat):Up (((Xr n).filterMap λj=>(f j).map (j,·)).map (·.1)):=by
 have e:∀l:List Nat,((l.filterMap λj=>(f j).map (j,·)).map (·.1)).Sublist l:=λl=>by
  induction l with
  | nil=>exact .slnil
  | cons a l ih=>
   rw[QG]
   cases f a with
   | none=>exact ih.cons a
   | some v=>exact ih.cons_cons a
 exact List.Pairwise.sublist (e _) List.pairwise_lt_range
theorem Tb.relay{b:Bool}{t:QZ}(h:Tb b t)(es:Array (Int×Xd))(n:Nat):Tb b (relayAll t es n).2.1:=by
 unfold relayAll
 split
 ·rename_i t' order e
  dsimp only
  split
  ·unfold QZ.relaid QZ.laid at e
   obtain⟨ow,_,e⟩:=Option.bind_eq_some_iff.mp e
   cases e
   exact⟨h.led,λ_=>Zz8 _ _⟩
  ·exact h.stand _
 ·exact h.stand _
noncomputable def vI:Xd->Int
 | .int k _=>k
 | _=>0
noncomputable def SetI(prog:Qa)(w:Qs)(b:Bool)(h:Heap)(S:Addr)(ks:List Int):Prop :=
 ∃o es ep t,h.get? S=some o∧o.ExactSet∧o.data= .set es ep t∧ElemsOf (Vx prog w) es.toList∧es.size<scanBound∧t.fits es.size=true∧Tb b t∧es.toList.map (λe=>vI e.2)=ks
section
variable {prog:Qa}{w:Qs}{A:Qq}{E:Xd->Xg->Prop}{s:Xg}{b:Bool}
theorem Zrt{k:Int}{v:Xd}(h:(Vx prog w).is k v=true):∃t,v= .int k t:=by
 cases v<;>simp_all [Vx,Xd.isInt]
theorem SetI.stay{h h':Heap}{S:Addr}{ks:List Int}(hS:SetI prog w b h S ks)(k:∀o,h.get? S=some o->h'.get? S=some o):SetI prog w b h' S ks:=by
 obtain⟨o,es,ep,t,ho,r⟩:=hS
 exact⟨o,es,ep,t,k o ho,r⟩
theorem SetI.put{h:Heap}{S:Addr}{o:Obj}{es es':Array (Int×Xd)}{ep:Nat}{t t':QZ}(ho:h.get? S=some o)(hex:o.ExactSet)(hd:o.data= .set es ep t)(he:ElemsOf (Vx prog w) es'.toList)(hb:es'.size<scanBound)(hf:t'.fits es'.size=true)(ht:Tb b t') :
  (h.update S (Obj.putSet es' t')).get? S=some { o with data:=.set es' (ep+1) t' }∧SetI prog w b (h.update S (Obj.putSet es' t')) S (es'.toList.map λe=>vI e.2):=by
 have g:=Heap.get?_update_self (Obj.putSet es' t') ho (by rw[putSet_of es' t' hd];rfl)
 rw[putSet_of es' t' hd]at g
 exact⟨g,_,es',ep+1,t',g,hex,rfl,he,hb,hf,ht,rfl⟩
theorem Zyn{g:Bool->Sem Unit}(hg:∀(c:Bool) (s₁:Xg) (Q':Unit->Xg->Prop),Q' () s₁->XC (X6 prog w) A (g c) Q' E s₁){S:Addr}{o:Obj}{es es1:Array (Int×Xd)}{ep:Nat}{t t1:QZ}{wasDummy:Bool}{R:Option Bool->Xg->Prop}
  (ho:s.heap.get? S=some o) (hex:o.ExactSet) (hd:o.data= .set es ep t) (he:ElemsOf (Vx prog w) es1.toList) (hb:es1.size<scanBound) (hf:t1.fits es1.size=true) (ht:Tb b t1)
  (q:∀h' ks',JK S s.heap h'->SetI prog w b h' S ks'->ks'.Perm (es1.toList.map λe=>vI e.2)->R (some true) { s with heap:=h' }) :
  XC (X6 prog w) A (do
    storeSet S es1 t1
    if(!wasDummy&&t1.tooFull)=true then do
      g (relayAll t1 es1 (Vu es1.size)).2.2
      storeSet S (relayAll t1 es1 (Vu es1.size)).1 (relayAll t1 es1 (Vu es1.size)).2.1
      pure (some true)
     else pure (some true)) R E s:=by
 refine Xb (wpAny_storeSet_of ho hd ?_ (fits_of_scanBound hb))
 obtain⟨g1,S1⟩:=SetI.put (b:=b) ho hex hd he hb hf ht
 split
 ·have pm:=relayAll_perm t1 es1 (Vu es1.size)
  have ff:=relayAll_fits t1 es1 (Vu es1.size)
  have tt:=ht.relay es1 (Vu es1.size)
  generalize relayAll t1 es1 (Vu es1.size)=Rl at pm ff tt⊢
  obtain⟨es2,t3,gv⟩:=Rl
  have sz:es2.size=es1.size:=by rw[←X7,pm.length_eq,X7]
  have b2:es2.size<scanBound:=by rw[sz];exact hb
  refine Xb (hg _ _ _ (Xb (wpAny_storeSet_of g1 rfl ?_ (fits_of_scanBound b2))))
  obtain⟨_,S2⟩:=SetI.put (b:=b) g1 hex rfl (he.perm pm) b2 ff tt
  exact Xl (q _ _ ((JF s.heap S _).trans (JF _ S _)) S2 (pm.map _))
 ·exact Xl (q _ _ (JF s.heap S _) S1 (.refl _))
theorem Ya0{S:Addr}{ks:List Int}{k:Int}{u:Tok}{Q:Bool->Xg->Prop}(hS:SetI prog w b s.heap S ks)(hr:ks.length+1<scanBound)
  (q:∀v h' tk ks',JK S s.heap h'->SetI prog w b h' S ks'->(k∈ks->ks'=ks)->(k∉ks->ks'.Perm (ks ++ [k]))->Q v { s with heap:=h',toks:=tk }):XC (X6 prog w) A (setAdd S (.int k u)) Q E s:=by
 have hS0:=hS
 obtain⟨o,es,ep,t,ho,hex,hd,he,hb,hf,ht,rfl⟩:=hS
 unfold setAdd
 refine Bv (Xb ((Vx prog w).pyHash (k:=k) (intKind_is _ _ _ _) ?_))
 show XC _ _ (setAddHashed S (.int k u) ((Vx prog w).hash k)) Q E { s with toks:=s.toks+1 }
 unfold setAddHashed setAddHashedIn
 refine Bv (Xb (Uu (s:={ s with toks:=s.toks+1 }) ho hd hf ?_))
 dsimp only
 rw[byScan_of (x:=.int k u) rfl hb he,if_pos rfl]
 unfold setAddByScan
 refine Xb (Xb (Uk (Xb (wpAny_setScan_of (s:={ s with toks:=s.toks+1 }) (intKind_is prog w k u) ho hd hf he ?_))))
 cases hx:List.findIdx? (λe=>(Vx prog w).is k e.2) es.toList with
 | some j=>
  dsimp only
  obtain⟨hj,pj,_⟩:=List.findIdx?_eq_some_iff_getElem.mp hx
  obtain⟨tj,ej⟩:=Zrt pj
  have hk:k∈es.toList.map λe=>vI e.2:=Qc.mpr ⟨_,BV hj,by rw[ej];rfl⟩
  exact Xl (Xl (q _ s.heap _ _ (JK.refl ..) hS0 (λ_=>rfl) λz=>absurd hk z))
 | none=>
  dsimp only
  have hk:k∉es.toList.map λe=>vI e.2:=λz=>by
   obtain⟨e,m,ev⟩:=Qc.mp z
   obtain⟨⟨k',i1,_⟩,_⟩:=he e m
   obtain⟨t',e2⟩:=Zrt i1
   have:=List.findIdx?_eq_none_iff.mp hx e m
   rw[e2]at this ev
   cases ev
   have z2:(Vx prog w).is k' (.int k' t')=false:=this
   rw[intKind_is]at z2
   cases z2
  have gw:∀(c:Bool) {s₁:Xg} {Q':Unit->Xg->Prop},Q' () s₁->XC (X6 prog w) A (match c with|true=>rule "set.scan.the-table-gave-way"|false=>pure ()) Q' E s₁:=λc s₁ Q' z=>by
   cases c<;>first|exact Xl z|exact Uk z
  have pm:=layNew_perm t es ((Vx prog w).hash k) (.int k u)
  have ff:=layNew_fits t es ((Vx prog w).hash k) (.int k u)
  have tt:=ht.lay es ((Vx prog w).hash k) (.int k u)
  generalize layNew t es ((Vx prog w).hash k) (.int k u)=Ln at pm ff tt⊢
  obtain⟨es1,t1,wd,gv⟩:=Ln
  dsimp only at pm ff tt⊢
  rw[Array.toList_push]at pm
  have he1:ElemsOf (Vx prog w) es1.toList:=(he.push (intKind_is prog w k u) rfl).perm pm
  have hb1:es1.size<scanBound:=by
   rw[←X7,pm.length_eq,XX]
   rw[Xj]at hr
   exact hr
  refine Xb (gw _ ?_)
  have fin:∀h' ks',JK S s.heap h'->SetI prog w b h' S ks'->ks'.Perm (es1.toList.map λe=>vI e.2)->XC (X6 prog w) A (pure true) Q E { s with heap:=h',toks:=s.toks+1 }:=λh' ks' sb S' p'=>Xl (q _ h' _ ks' sb S' (λz=>absurd z hk) λ_=>p'.trans (by
   have:=pm.map (λe:Int×Xd=>vI e.2)
   rw[QB]at this
   exact this))
  have hv:hashByValue 8 (.int k u)=pure true:=hashByValue_scannable 8 (x:=.int k u) rfl
  split
  ·refine Xb ?_
   rw[hv]
   refine Xl ?_
   simp only[if_true]
   exact Zyn (s:={ s with toks:=s.toks+1 }) (by intro c s₁ Q' z;cases c<;>first|exact Xl z|exact Uk z) ho hex hd he1 hb1 ff tt λh' ks' sb S' p'=>fin h' ks' sb S' p'
  ·refine Xb (Xl ?_)
   simp only[if_true]
   exact Zyn (s:={ s with toks:=s.toks+1 }) (by intro c s₁ Q' z;cases c<;>first|exact Xl z|exact Uk z) ho hex hd he1 hb1 ff tt λh' ks' sb S' p'=>fin h' ks' sb S' p'
end
noncomputable def byT(w:Qs):Bool:=w.params.followText "set-order"
noncomputable def OfL{α:Type}(ks ns:List α):Prop:=ks.Nodup∧∀x,x∈ks↔x∈ns
theorem OfL.add{α:Type}[DecidableEq α]{ks ks2 ns:List α}{k:α}(h:OfL ks ns)(c1:k∈ks->ks2=ks)(c2:k∉ks->ks2.Perm (ks ++ [k])):OfL ks2 (ns ++ [k])∧ks2.length≤ks.length+1:=by
 by_cases c:k∈ks
 ·rw[c1 c]
  refine⟨⟨h.1,λx=>?_⟩,Nat.le_succ _⟩
  rw[QW,←h.2,XD]
  exact⟨.inl,λm=>m.elim id λe=>e▸c⟩
 ·have pm:=c2 c
  refine⟨⟨pm.nodup_iff.mpr (Vi.mpr ⟨h.1,Qp.mpr ⟨(λz=>nomatch z),.nil⟩,λa ha y hy e=>c (by rw[←XD.mp hy,←e];exact ha)⟩),λx=>?_⟩,by rw[pm.length_eq,XX];exact XN _⟩
  rw[pm.mem_iff,QW,QW,h.2]
noncomputable abbrev Of(ks ns:List Int):Prop:=OfL ks ns
structure Yav{τ:Type}(prog:Qa)(w:Qs)(A:Qq)(S:Addr)(T:Heap->List τ->Prop)(h0:Heap)(n:Nat)(Ok:Xd->τ->Prop):Prop where
 stay:∀h h' ks,T h ks->(∀o,h.get? S=some o->h'.get? S=some o)->T h' ks
 add:∀(s:Xg) (E:Xd->Xg->Prop) (v:Xd) (k:τ) (ks:List τ) (Q:Bool->Xg->Prop),Ok v k->(∀b o,b<S->h0.get? b=some o->s.heap.get? b=some o)->T s.heap ks->ks.length<n->(∀c h' tk ks',JK S s.heap h'->T h' ks'->(k∈ks->ks'=ks)->(k∉ks->ks'.Perm (ks ++ [k]))->Q c { s with heap:=h',toks:=tk })->XC (X6 prog w) A (setAdd S v) Q E s
section
variable {prog:Qa}{w:Qs}{A:Qq}{R:Result->Xg->Prop}{I S:Addr}{fp wr:List Addr}{n:Nat}{Pv:Nat->Xd->Prop}{St:Nat->Heap->Prop}{τ:Type}{T:Heap->List τ->Prop}{h0:Heap}{Ok:Xd->τ->Prop}
theorem Z4g[DecidableEq τ](W:Walks prog w A.in1 I fp wr n Pv St)(D:Yav prog w A.in1 S T h0 n Ok)(sf:S∉fp)(zw:∀b∈wr,S<b)(ns:List τ)(ln:ns.length=n)(hv:∀i v,Pv i v->∃k,ns[i]? =some k∧Ok v k) :
  ∀(m i:Nat) (s:Xg) (ks:List τ),n-i=m->i≤n->St i s.heap->T s.heap ks->(∀b o,b<S->h0.get? b=some o->s.heap.get? b=some o)->OfL ks (ns.take i)->ks.length≤i ->
  (∀ h' tk ks',T h' ks'->OfL ks' ns->(∀b o,b<S->h0.get? b=some o->h'.get? b=some o)->R (.ok (.ret .none)) { s with heap:=h',toks:=tk }) ->
  UW (X6 prog w) A (.builtin "set.update.loop" ⟨[.ref S,.ref I],[]⟩) R s:=by
 have sw:S∉wr:=λh=>sf (W.sub _ h)
 have lw:∀b,b<S->b∉wr:=λb l m=>Nat.lt_asymm l (zw b m)
 intro m
 induction m with
 | zero=>
  intro i s ks em ei st hS hG hO lk r
  have en:i=n:=by omega
  refine Q9 F.entry_set_update_loop ?_;rw[QJ F.plain_set_update_loop _]
  show XC _ A.in1 (V9 (.ref I)>>=_) _ _ _
  refine Xb (W.done s _ _ (en▸st) λh' tk kp=>?_)
  show XC _ A.in1 (ret QS) _ _ { s with heap:=h',toks:=tk }
  rw[List.take_of_length_le (by omega)]at hO
  exact Xl (r h' tk ks (D.stay _ _ _ hS λo e=>kp S o sw e) hO λb o l e=>kp b o (lw b l) (hG b o l e))
 | succ m ih=>
  intro i s ks em ei st hS hG hO lk r
  have lt:i<n:=by omega
  refine Q9 F.entry_set_update_loop ?_;rw[QJ F.plain_set_update_loop _]
  show XC _ A.in1 (V9 (.ref I)>>=_) _ _ _
  refine Xb (W.item i s _ _ lt st λv h' tk pv st' kp=>?_)
  obtain⟨k,ek,ok⟩:=hv i v pv
  show XC _ A.in1 (holding [v] (setAdd S v)>>=_) _ _ { s with heap:=h',toks:=tk }
  have hG':∀b o,b<S->h0.get? b=some o->h'.get? b=some o:=λb o l e=>kp b o (lw b l) (hG b o l e)
  refine Xb (Bv (D.add { s with heap:=h',toks:=tk } _ v k ks _ ok hG' (D.stay _ _ _ hS λo e=>kp S o sw e) (by omega) λv h2 tk2 ks2 sb hS2 c1 c2=>?_))
  have k2:∀b o,b≠S->h'.get? b=some o->h2.get? b=some o:=λb o nS e=>by rw[sb.2 b nS];exact e
  have et:ns.take (i+1)=ns.take i ++ [k]:=by rw[List.take_succ,ek];rfl
  obtain⟨O2,l2⟩:=hO.add c1 c2
  rw[←et]at O2
  exact Xl ⟨Bw F.plain_set_update_loop _,ih (i+1) _ ks2 (by omega) lt (W.frame _ _ _ st' λb bf o e=>k2 b o (λh:b=S=>sf (by rw[←h];exact bf)) e) hS2 (λb o l e=>k2 b o (Xo l) (hG' b o l e)) O2 (by omega) r⟩
end
section
variable {prog:Qa}{w:Qs}{A:Qq}{E:Xd->Xg->Prop}{s:Xg}
theorem Ya2(a:Xd){Q₁:Xd->Xg->Prop}(h:Q₁ (.ref s.heap.objs.size) { s with heap:=s.heap.push { cls:=.type "set",dict:=none,data:=.set #[] 0 (.fresh 0 0 (!byT w)) } }) :
  UW (X6 prog w) A (.call (.builtin "set.__new__") ⟨[.type "set",a],[]⟩) (wants Q₁ E) s:=by
 refine codeAny_of_tree ?_;show XC _ A.in1 (do checkBuiltinCall "set.__new__" ⟨[.type "set",a],[]⟩;again (.builtin "set.__new__" ⟨[.type "set",a],[]⟩)) _ _ s
 refine Xb (wpAny_of_eq (F.newCall_set_1 a) (Xl ⟨Bw F.plain_set_new _,Q9 F.entry_set_new ?_⟩));rw[QJ F.plain_set_new _]
 unfold Ba.«set.__new__» Builtin.Frozenset.newClass
 have hsub:=sub_set_self
 obtain⟨hp,g,d,tk,os⟩:=s
 dsimp only
 wp_walk
 refine wpAny_askSetting (Xl ?_);dsimp only;simp only[newObj]
 exact Xb (wpAny_alloc (Xl (Xl h)))
theorem Z5a{τ:Type}[DecidableEq τ]{T:Heap->List τ->Prop}{Ok:Xd->τ->Prop}{l:Addr}{its:Array Xd}{ns:List τ}{b:Bool}{Q:Xd->Xg->Prop}(hh:A.handled=none)(hl:s.heap.IsList l its)(ln:ns.length=its.size)(D:∀A':Qq,A'.units=A.units+1->Yav prog w A' s.heap.objs.size T s.heap its.size Ok)(emp:∀h',h'.get? s.heap.objs.size=some { cls:=.type "set",dict:=none,data:=.set #[] 0 (.fresh 0 0 b) }->T h' [])(hv:∀(i:Nat) (v:Xd),its[i]? =some v->∃k,ns[i]? =some k∧Ok v k)
  (q:∀h' tk ks,T h' ks->OfL ks ns->(∀b o,b<s.heap.objs.size->s.heap.get? b=some o->h'.get? b=some o)->Q .none { s with heap:=h',toks:=tk }) :
  XC (X6 prog w) A (Ba.«set.__init__» ⟨[Qn s.heap.objs.size,Qn l],[]⟩) (λfin s'=>∃v,fin= .done (.ret v)∧Q v s') E { s with heap:=s.heap.push { cls:=.type "set",dict:=none,data:=.set #[] 0 (.fresh 0 0 b) } }:=by
 obtain⟨ol,hol,hcl,nl,hdl⟩:=id hl
 obtain⟨ocls,odict,odata,oslots⟩:=ol
 simp only at hcl hdl
 subst hcl hdl
 have ho':(s.heap.push { cls:=.type "set",dict:=none,data:=.set #[] 0 (.fresh 0 0 b) }).get? l=some { cls:=.type "list",dict:=odict,data:=.seq its nl,slots:=oslots }:=Xe _ hol
 have gS:(s.heap.push { cls:=.type "set",dict:=none,data:=.set #[] 0 (.fresh 0 0 b) }).get? s.heap.objs.size=some { cls:=.type "set",dict:=none,data:=.set #[] 0 (.fresh 0 0 b) }:=Xw _ rfl
 have hT:Shared.TypeIs { s with heap:=s.heap.push { cls:=.type "set",dict:=none,data:=.set #[] 0 (.fresh 0 0 b) } } (.ref s.heap.objs.size) "set" :=⟨_,gS,rfl⟩
 have h1:=F.sub_list_set
 have h2:=F.sub_list_frozenset
 have h3:(Value.type "list"==Value.type "dict")=false:=by decide
 have hl1:(s.heap.push { cls:=.type "set",dict:=none,data:=.set #[] 0 (.fresh 0 0 b) }).IsList l its:=⟨_,ho',rfl,nl,rfl⟩
 unfold Ba.«set.__init__» noKeywords Builtin.Frozenset.updateFrom
 generalize hPI:pyIter=PI
 wp_walk
 subst hPI
 refine wpAny_pyIter_list hl1 (Xb (wpAny_runValue ?_))
 have lS:l<s.heap.objs.size:=XJ hol
 refine Z4g (Walks.list (by simpa using hh) _ l ?hne its) (D _ rfl) ?sf ?zw ns ln hv its.size 0 _ [] (by omega) (Qo _) ⟨⟨_,Xw _ rfl,rfl,rfl⟩,hl1.push _⟩ (emp _ (Xe _ gS)) (λb o _ e=>Xe _ (Xe _ e)) ⟨.nil,λx=>by rw[List.take_zero]⟩ (XN _) λh' tk ks hS hO kp=>?_
 case hne=>rw[Qy];exact Xo (Bc lS)
 case sf=>
  rw[Qy]
  intro m
  rcases Xq.mp m with e|m
  ·exact Xo (Qt _) e
  ·exact XM lS (XD.mp m)
 case zw=>
  rw[Qy]
  exact λb m=>XD.mp m▸Qt _
 refine Xl ?_;show XC _ _ (ret QS) _ _ { s with heap:=h',toks:=tk }
 exact Xl ⟨_,rfl,q h' tk ks hS hO kp⟩
theorem Zuy{τ:Type}[DecidableEq τ]{T:Heap->List τ->Prop}{Ok:Xd->τ->Prop}{l:Addr}{its:Array Xd}{ns:List τ}{Q:Xd->Xg->Prop}(hh:A.handled=none)(hl:s.heap.IsList l its)(ln:ns.length=its.size)(D:∀A':Qq,A'.units≤A.units+24->Yav prog w A' s.heap.objs.size T s.heap its.size Ok)(emp:∀h',h'.get? s.heap.objs.size=some { cls:=.type "set",dict:=none,data:=.set #[] 0 (.fresh 0 0 (!byT w)) }->T h' [])(hv:∀(i:Nat) (v:Xd),its[i]? =some v->∃k,ns[i]? =some k∧Ok v k)
  (q:∀h' tk ks,T h' ks->OfL ks ns->(∀b o,b<s.heap.objs.size->s.heap.get? b=some o->h'.get? b=some o)->Q (Qn s.heap.objs.size) { s with heap:=h',toks:=tk }) :
  XC (X6 prog w) A (call (.type "set") [Qn l]) Q E s:=by
 obtain⟨c,tl,e0⟩:=V2.mro
 have e1:=V2.made
 have e2:=V2.sub
 refine wpAny_call (codeAny_of_tree ?_);show XC _ _ (callAny (.type "set") _) _ _ _
 refine Xl ⟨Code.quiet_builtin _ (by decide +kernel),Q9 F.entry_type_call ?_⟩;rw[Qq.under_plain (weight_type_call_type "set" [Qn l] []) rfl]
 have e3:=V2.notType
 have e4:=V2.canCreate
 have e5:=F.typeCall_set_1 (Qn l)
 repeat any_goals first|assumption|wp_step
 refine codeAny_mono (Ya2 (Qn l) (E:=E) (Q₁:=λobj s1=>obj=Qn s.heap.objs.size∧s1={ s with heap:=s.heap.push { cls:=.type "set",dict:=none,data:=.set #[] 0 (.fresh 0 0 (!byT w)) } }) ⟨rfl,rfl⟩) λr s1 r1=>?_
 cases r with
 | error e=>exact r1
 | ok fl=>
  cases fl with
  | ret obj=>
   obtain⟨rfl,rfl⟩:=r1
   have gS:(s.heap.push { cls:=.type "set",dict:=none,data:=.set #[] 0 (.fresh 0 0 (!byT w)) }).get? s.heap.objs.size=some { cls:=.type "set",dict:=none,data:=.set #[] 0 (.fresh 0 0 (!byT w)) }:=Xw _ rfl
   have hT:Shared.TypeIs { s with heap:=s.heap.push { cls:=.type "set",dict:=none,data:=.set #[] 0 (.fresh 0 0 (!byT w)) } } (Qn s.heap.objs.size) "set" :=⟨_,gS,rfl⟩
   have e6:=V2.init.lookup
   have e7:=V2.init.bind (Qn s.heap.objs.size)
   repeat any_goals first|assumption|wp_step
   refine codeAny_mono (codeAny_call_builtin (R:=wants (λr s2=>r= .none∧∃h' tk ks,s2={ s with heap:=h',toks:=tk }∧T h' ks∧OfL ks ns∧∀b o,b<s.heap.objs.size->s.heap.get? b=some o->h'.get? b=some o) E) V2.init.plain F.entry_set_init (check_set_init_1 hT ?_)) λr2 s2 hr2=>?_
   ·refine Vd (Z5a (T:=T) (Ok:=Ok) (by simpa using hh) hl ln (λA' e=>D A' (by rw[e];show _≤_;dsimp only;omega)) emp hv (Q:=λr s2=>r= .none∧∃h' tk ks,s2={ s with heap:=h',toks:=tk }∧T h' ks∧OfL ks ns∧∀b o,b<s.heap.objs.size->s.heap.get? b=some o->h'.get? b=some o) λh' tk ks a1 a2 a3=>⟨rfl,h',tk,ks,rfl,a1,a2,a3⟩) (λfin s' hf=>?_) λ_ _ x=>x
    obtain⟨v,rfl,hq⟩:=hf
    exact hq
   ·cases r2 with
    | error e=>exact hr2
    | ok fl2=>
     cases fl2 with
     | ret r=>
      obtain⟨rfl,h',tk,ks,rfl,a1,a2,a3⟩:=hr2
      repeat any_goals first|assumption|wp_step
      exact q h' tk ks a1 a2 a3
     | _=>exact hr2.elim
  | _=>exact r1.elim
theorem Zth{l:Addr}{its:Array Xd}{ns:List Int}{Q:Xd->Xg->Prop}(hh:A.handled=none)(hl:s.heap.IsList l its)(ln:ns.length=its.size)(lb:its.size+1<scanBound)(hv:∀(i:Nat) (v:Xd),its[i]? =some v->∃k t,v=Vr k t∧ns[i]? =some k)
  (q:∀h' tk ks,SetI prog w (!byT w) h' s.heap.objs.size ks->Of ks ns->(∀b o,b<s.heap.objs.size->s.heap.get? b=some o->h'.get? b=some o)->Q (Qn s.heap.objs.size) { s with heap:=h',toks:=tk }) :
  XC (X6 prog w) A (call (.type "set") [Qn l]) Q E s :=
 Zuy (T:=λh ks=>SetI prog w (!byT w) h s.heap.objs.size ks) (Ok:=λv k=>∃t,v=Vr k t) hh hl ln (λ_ _=>⟨λ_ _ _ h k=>h.stay k,λs' E v k ks Q ok _ hS hl r=>by
  obtain⟨t,rfl⟩:=ok
  exact Ya0 hS (by omega) r⟩) (λh' e=>⟨_,#[],0,_,e,⟨rfl,rfl,rfl⟩,rfl,(λe m=>nomatch m),(by decide),rfl,⟨rfl,λ_=>.nil⟩,rfl⟩) (λi v e=>by
  obtain⟨k,t,h1,h2⟩:=hv i v e
  exact⟨k,h2,t,h1⟩) q
end
theorem Zy:Slot "set_iterator" "__next__" "set_iterator.__next__" :=
 .of (owner :="set_iterator") (n :="__next__") (by rw[typeLookup_type,builtinLookup_eq_fast];kernel_rfl) (by decide +kernel) (by decide +kernel) (by decide +kernel) (by first|exact .inl (by decide +kernel)|exact .inr (by decide +kernel)) (by rw[isSubtype_type];kernel_rfl)
theorem Wq:entryFor table "set_iterator.__next__"=some Ba.«set_iterator.__next__»:=entryFor_of_fast (by kernel_rfl)
theorem W0(a:Xd):argsOk "set_iterator.__next__" ⟨[a],[]⟩:=by unfold argsOk;kernel_rfl
noncomputable def Z79(h:Heap)(I S:Addr)(slot i n ep:Nat):Prop:=h.get? I=some { cls:=.type "set_iterator",data:=.fields #[JL slot,JL i,.ref S,JL n,JL ep] }
theorem Zss{α:Type}:∀{l:List α} {i:Nat} (h:i<l.length),(l[i] :: l.eraseIdx i).Perm l:=fun{l}=>by
 induction l with
 | nil=>intro i h;cases h
 | cons a l ih=>
  intro i h
  cases i with
  | zero=>exact .refl _
  | succ i=>exact(List.Perm.swap ..).trans ((ih (Nat.lt_of_succ_lt_succ h)).cons a)
theorem Zzs{α:Type}(f:Nat->Nat):∀(fuel k:Nat) (left:List α) (out:Array α),left.length=fuel->(pickOrder.go f fuel k left out).toList.Perm (out.toList ++ left):=by
 intro fuel
 induction fuel with
 | zero=>
  intro k left out l
  rw[List.length_eq_zero_iff.mp l,Q5,pickOrder.go]
 | succ fuel ih=>
  intro k left out l
  rw[pickOrder.go]
  have hlt:f k%left.length<left.length:=Nat.mod_lt _ (by omega)
  rw[Xi hlt]
  dsimp only
  refine(ih (k+1) _ _ (by rw[List.length_eraseIdx_of_lt hlt];omega)).trans ?_
  rw[Array.toList_push,JB]
  exact List.Perm.append_left _ (Zss hlt)
theorem Zut{α:Type}(f:Nat->Nat)(xs:Array α):(pickOrder f xs).toList.Perm xs.toList:=by
 unfold pickOrder
 have:=Zzs f xs.size 0 xs.toList #[] (by rw[X7])
 rwa[List.nil_append]at this
section
variable {prog:Qa}{w:Qs}{A:Qq}{E:Xd->Xg->Prop}{s:Xg}
theorem Zq1{src:Source}{n:Nat}{Q:Nat->Xg->Prop}(hn:n≠0)(h:∀i,i<n->Q i { s with drawn:=s.drawn.bump src }):XC (X6 prog w) A (choose src n) Q E s:=fun Γ p _=>by
 show Sem.wp _ _ (.choose src n .pure) _ _ _ _
 rw[Sem.wp_choose]
 exact⟨hn,h _ (Nat.mod_lt _ (Nat.pos_of_ne_zero hn))⟩
theorem Zzd{α:Type}:∀(n:Nat) (xs:List α) (s:Xg) (Q:List α->Xg->Prop),xs.length=n->(∀ys d,ys.Perm xs->Q ys { s with drawn:=d })->XC (X6 prog w) A (drawOrder n xs) Q E s:=by
 intro n
 induction n with
 | zero=>
  intro xs s Q l q
  rw[List.length_eq_zero_iff.mp l]at q⊢
  exact Xl (q [] s.drawn (.refl _))
 | succ n ih=>
  intro xs s Q l q
  cases xs with
  | nil=>cases l
  | cons a xs=>
   rw[drawOrder]
   refine Xb (Zq1 (by rw[l];exact Nat.succ_ne_zero _) λi hi=>?_)
   rw[Xi hi]
   dsimp only
   refine Xb (ih _ _ _ (by rw[List.length_eraseIdx_of_lt hi];omega) λys d pm=>Xl (q _ d ?_))
   ·exact(pm.cons _).trans (Zss hi)
   ·intro z;cases z
noncomputable def Zf7(w:Qs)(S:Addr)(ep:Nat)(es:Array (Int×Xd)):List Xd:=(if byT w then(pickOrder (w.params.setOrder S ep) es).toList else es.toList).map (·.2)
theorem Zer{w:Qs}{S:Addr}{ep:Nat}{es:Array (Int×Xd)}:(Zf7 w S ep es).Perm (es.toList.map (·.2)):=by
 unfold Zf7
 split
 ·exact(Zut _ es).map _
 ·exact .refl _
noncomputable def Zi4(w:Qs)(t:QZ)(slot i:Nat):Prop:=byT w=false->QQ t.place slot=i
theorem Zhx{Q:Bool->Xg->Prop}(h:Q (byT w) s):XC (X6 prog w) A setsByText Q E s:=by
 unfold setsByText
 exact Xb (wpAny_askSetting (Xl h))
theorem Zjd{S:Addr}{o:Obj}{es:Array (Int×Xd)}{ep slot i:Nat}{t:QZ}{Q:Option (Xd×Nat)->Xg->Prop}(ho:s.heap.get? S=some o)(hd:o.data= .set es ep t)(hf:t.fits es.size=true)(tb:Tb (!byT w) t)(hdr:byT w=false->t.plain=true∨es.size≤1)(hs:Zi4 w t slot i)
  (q:∀r,(∀x,(Zf7 w S ep es)[i]? =some x->∃nx,r=some (x,nx)∧Zi4 w t nx (i+1))->((Zf7 w S ep es)[i]? =none->r=none)->Q r s):XC (X6 prog w) A (setNext S slot i ep) Q E s:=by
 unfold setNext
 refine Xb (Uu ho hd hf (Xb (Zhx ?_)))
 cases hb:byT w with
 | true=>
  have ew:Zf7 w S ep es=(pickOrder (w.params.setOrder S ep) es).toList.map (·.2):=by unfold Zf7;rw[hb,if_pos rfl]
  simp only[if_true,bne_self_eq_false,Qh,if_false]
  unfold setWalk
  refine Xb (Xb (Uu ho hd hf (Xb (Zhx ?_))))
  rw[hb]
  simp only[if_true]
  refine Xb (wpAny_askSetting (Xl (Xl (q _ (λx hx=>?_) λhx=>?_))))
  ·rw[ew,Xu,Qd]at hx
   show∃nx,Option.map _ (pickOrder (w.params.setOrder S ep) es)[i]? =_∧_
   cases e:(pickOrder (w.params.setOrder S ep) es)[i]? with
   | none=>rw[e]at hx;cases hx
   | some y=>
    rw[e]at hx
    cases hx
    exact⟨slot,rfl,λz=>by rw[hb]at z;cases z⟩
  ·rw[ew,Xu,Qd]at hx
   show Option.map _ (pickOrder (w.params.setOrder S ep) es)[i]? =_
   cases e:(pickOrder (w.params.setOrder S ep) es)[i]? with
   | none=>rfl
   | some y=>rw[e]at hx;cases hx
 | false=>
  have ew:Zf7 w S ep es=es.toList.map (·.2):=by unfold Zf7;rw[hb];rfl
  have pl:=hdr hb
  have le:=tb.led
  rw[hb]at le
  have bl:=hs hb
  obtain⟨mask,place,dummies,finger,led,moves,plain⟩:=t
  dsimp only at pl le bl
  subst le
  have sz0:place.size=es.size:=by
   unfold SetTable.fits at hf
   rw[XQ,beq_iff_eq]at hf
   exact hf.1
  have up:Up place.toList:=by
   rcases pl with pl|pl
   ·exact tb.up pl
   ·have l1:place.toList.length≤1:=by rw[X7,sz0];exact pl
    generalize place.toList=l at l1
    match l,l1 with
    | [],_=>exact .nil
    | [a],_=>exact List.pairwise_singleton _ _
  have dr:(!plain&&decide (es.size>1))=false:=by
   rcases pl with pl|pl
   ·rw[pl];rfl
   ·rw[decide_eq_false (by omega),Bool.and_false]
  simp only[Qh,if_false]
  show XC _ _ (if(!plain&&decide (es.size>1))=true then _ else _) _ _ _
  rw[dr]
  simp only[Qh,if_false]
  refine Xb (Xl ?_)
  have sz:place.size=es.size:=by
   unfold SetTable.fits at hf
   rw[XQ,beq_iff_eq]at hf
   exact hf.1
  rw[bl]
  refine Xl (q _ (λx hx=>?_) λhx=>?_)
  ·rw[ew,Xu,Qd]at hx
   cases e:es[i]? with
   | none=>rw[e]at hx;cases hx
   | some y=>
    rw[e]at hx
    cases hx
    have hi:i<place.size:=by rw[sz];exact(Array.getElem?_eq_some_iff.mp e).1
    have ep:place[i]? =some place[i]:=VM hi
    rw[ep]
    exact⟨place[i]+1,rfl,λ_=>Zqn up (by rw[Qd];exact ep)⟩
  ·rw[ew,Xu,Qd]at hx
   cases e:es[i]? with
   | none=>rfl
   | some y=>rw[e]at hx;cases hx
end
section
variable {prog:Qa}{w:Qs}{A:Qq}{E:Xd->Xg->Prop}{s:Xg}
theorem Zqp{I S:Addr}{o:Obj}{es:Array (Int×Xd)}{ep slot i:Nat}{t:QZ}{x:Xd}{Q:Option Xd->Xg->Prop}(hI:Z79 s.heap I S slot i es.size ep)(ho:s.heap.get? S=some o)(hd:o.data= .set es ep t)(hf:t.fits es.size=true)(tb:Tb (!byT w) t)(hdr:byT w=false->t.plain=true∨es.size≤1)(hs:Zi4 w t slot i)(hx:(Zf7 w S ep es)[i]? =some x)
  (q:∀h' nx,Z79 h' I S nx (i+1) es.size ep->Zi4 w t nx (i+1)->JK I s.heap h'->Q (some x) { s with heap:=h' }):XC (X6 prog w) A (V9 (.ref I)) Q E s:=by
 have hT:s.TypeIs (.ref I) "set_iterator" :=⟨_,hI,rfl⟩
 unfold V9
 refine Xb (UT (JG (name:=VN "__next__") hT Zy (JC Zy hT Wq ?_ (W0 _))))
 unfold Ba.«set_iterator.__next__» slotArgs fieldsOf
 simp only[Ur,V4,Qh,if_false,Vg,bne_self_eq_false,pure_bind,bind_assoc]
 refine Xb (wpAny_load hI ?_)
 dsimp only
 refine Xb (Xl ?_)
 show XC _ _ (setEntries S>>=_) _ _ _
 refine Xb (V8 ho hd hf ?_)
 rw[show(((es.size:Nat):Int) !=((es.size:Nat):Int))=false from bne_self_eq_false _]
 simp only[Qh,if_false]
 show XC _ _ (setNext S slot i ep>>=_) _ _ _
 refine Xb (Zjd ho hd hf tb hdr hs λr h1 _=>?_)
 obtain⟨nx,rfl,sk⟩:=h1 x hx
 dsimp only
 refine Xb (QR hI (by simp) λh2 g2 b2=>?_)
 refine Xb (QR g2 (by simp) λh3 g3 b3=>?_)
 exact Xl ⟨_,rfl,Xl (q h3 nx g3 sk (b2.trans b3))⟩
theorem Zso{I S:Addr}{o:Obj}{es:Array (Int×Xd)}{ep slot i:Nat}{t:QZ}{Q:Option Xd->Xg->Prop}(hh:A.handled=none)(hI:Z79 s.heap I S slot i es.size ep)(ho:s.heap.get? S=some o)(hd:o.data= .set es ep t)(hf:t.fits es.size=true)(tb:Tb (!byT w) t)(hdr:byT w=false->t.plain=true∨es.size≤1)(hs:Zi4 w t slot i)(hx:(Zf7 w S ep es)[i]? =none)
  (q:∀h',Heap.ExtBut I s.heap h'->Q none { s with heap:=h' }):XC (X6 prog w) A (V9 (.ref I)) Q E s:=by
 have hT:s.TypeIs (.ref I) "set_iterator" :=⟨_,hI,rfl⟩
 unfold V9
 refine Xb (UT (JG (name:=VN "__next__") hT Zy (JC Zy hT Wq ?_ (W0 _))))
 unfold Ba.«set_iterator.__next__» slotArgs fieldsOf
 simp only[Ur,V4,Qh,if_false,Vg,bne_self_eq_false,pure_bind,bind_assoc]
 refine Xb (wpAny_load hI ?_)
 dsimp only
 refine Xb (Xl ?_)
 show XC _ _ (setEntries S>>=_) _ _ _
 refine Xb (V8 ho hd hf ?_)
 rw[show(((es.size:Nat):Int) !=((es.size:Nat):Int))=false from bne_self_eq_false _]
 simp only[Qh,if_false]
 show XC _ _ (setNext S slot i ep>>=_) _ _ _
 refine Xb (Zjd ho hd hf tb hdr hs λr _ h2=>?_)
 rw[h2 hx]
 dsimp only
 refine Xb (QR hI (by simp) λh3 g3 b3=>?_)
 show XC _ _ (newExc (.type "StopIteration") []>>=_) _ _ _
 refine Xb ?_
 simp only[newExc,newTuple]
 refine Xb (JD ?_ (by size_fits))
 refine Xb (m:=Uw _ _) (wpAny_of_eq (a:=QS) (by first|rfl|(simp only[Uw];rfl)) ?_)
 refine JD ?_ (by size_fits)
 simp only[raiseNew]
 refine Xb (wpAny_handled ?_)
 rw[show A.in1.handled=none from hh]
 refine Xb (Xl (wpAny_throw ?_))
 exact Xb (wpAny_isInstance (T :="StopIteration") (b:=true) ⟨_,Xw _ rfl,rfl⟩ isSubtype_stop (Xl (q _ ((b3.extBut.push _).push _))))
end
noncomputable def Z8a(h:Heap)(I S T:Addr)(i n ep:Nat):Prop:=h.get? I=some { cls:=.type "set_iterator",data:=.fields #[.ref T,JL i,.ref S,JL n,JL ep] }
noncomputable def Zs0(ps:List Nat):Array Xd:=(ps.map λ(i:Nat)=>JL i).toArray
theorem Z2t{ps:List Nat}{i p:Nat}(h:ps[i]? =some p):(Zs0 ps)[i]? =some (JL p):=by
 unfold Zs0
 rw[Uo,Xu,h];rfl
theorem Ztw{ps:List Nat}{i:Nat}(h:ps[i]? =none):(Zs0 ps)[i]? =none:=by
 unfold Zs0
 rw[Uo,Xu,h];rfl
section
variable {prog:Qa}{w:Qs}{A:Qq}{E:Xd->Xg->Prop}{s:Xg}
theorem Zpt{I S T:Addr}{o:Obj}{es:Array (Int×Xd)}{ep i p:Nat}{t:QZ}{ps:List Nat}{x:Int×Xd}{Q:Option Xd->Xg->Prop}(hI:Z8a s.heap I S T i es.size ep)(hT2:s.heap.get? T=some { cls:=.type "tuple",data:=.seq (Zs0 ps) })(ho:s.heap.get? S=some o)(hd:o.data= .set es ep t)(hf:t.fits es.size=true)(hp:ps[i]? =some p)(hx:es[p]? =some x)
  (q:∀h',Z8a h' I S T (i+1) es.size ep->JK I s.heap h'->Q (some x.2) { s with heap:=h' }):XC (X6 prog w) A (V9 (.ref I)) Q E s:=by
 have hT:s.TypeIs (.ref I) "set_iterator" :=⟨_,hI,rfl⟩
 unfold V9
 refine Xb (UT (JG (name:=VN "__next__") hT Zy (JC Zy hT Wq ?_ (W0 _))))
 unfold Ba.«set_iterator.__next__» slotArgs fieldsOf
 simp only[Ur,V4,Qh,if_false,Vg,bne_self_eq_false,pure_bind,bind_assoc]
 refine Xb (wpAny_load hI ?_)
 dsimp only
 refine Xb (Xl ?_)
 show XC _ _ (setEntries S>>=_) _ _ _
 refine Xb (V8 ho hd hf ?_)
 rw[show(((es.size:Nat):Int) !=((es.size:Nat):Int))=false from bne_self_eq_false _]
 simp only[Qh,if_false]
 show XC _ _ (seqItems? (.ref T)>>=_) _ _ _
 refine Xb (Bx hT2 rfl ?_)
 dsimp only
 rw[Qm,Z2t hp]
 show XC _ _ (setNextDrawn S p ep>>=_) _ _ _
 unfold setNextDrawn
 refine Xb (Xb (Uu ho hd hf ?_))
 dsimp only
 rw[bne_self_eq_false]
 simp only[Qh,if_false]
 rw[hx]
 refine Xl ?_
 refine Xb (QR hI (by simp) λh2 g2 b2=>?_)
 exact Xl ⟨_,rfl,Xl (q h2 g2 b2)⟩
theorem Zu0{I S T:Addr}{o:Obj}{es:Array (Int×Xd)}{ep i:Nat}{t:QZ}{ps:List Nat}{Q:Option Xd->Xg->Prop}(hh:A.handled=none)(hI:Z8a s.heap I S T i es.size ep)(hT2:s.heap.get? T=some { cls:=.type "tuple",data:=.seq (Zs0 ps) })(ho:s.heap.get? S=some o)(hd:o.data= .set es ep t)(hf:t.fits es.size=true)(hp:ps[i]? =none)
  (q:∀h',Heap.ExtBut I s.heap h'->Q none { s with heap:=h' }):XC (X6 prog w) A (V9 (.ref I)) Q E s:=by
 have hT:s.TypeIs (.ref I) "set_iterator" :=⟨_,hI,rfl⟩
 unfold V9
 refine Xb (UT (JG (name:=VN "__next__") hT Zy (JC Zy hT Wq ?_ (W0 _))))
 unfold Ba.«set_iterator.__next__» slotArgs fieldsOf
 simp only[Ur,V4,Qh,if_false,Vg,bne_self_eq_false,pure_bind,bind_assoc]
 refine Xb (wpAny_load hI ?_)
 dsimp only
 refine Xb (Xl ?_)
 show XC _ _ (setEntries S>>=_) _ _ _
 refine Xb (V8 ho hd hf ?_)
 rw[show(((es.size:Nat):Int) !=((es.size:Nat):Int))=false from bne_self_eq_false _]
 simp only[Qh,if_false]
 show XC _ _ (seqItems? (.ref T)>>=_) _ _ _
 refine Xb (Bx hT2 rfl ?_)
 dsimp only
 rw[Qm,Ztw hp]
 dsimp only
 refine Xb (QR hI (by simp) λh2 g2 b2=>?_)
 refine Xb (QR g2 (by simp) λh3 g3 b3=>?_)
 show XC _ _ (newExc (.type "StopIteration") []>>=_) _ _ _
 refine Xb ?_
 simp only[newExc,newTuple]
 refine Xb (JD ?_ (by size_fits))
 refine Xb (m:=Uw _ _) (wpAny_of_eq (a:=QS) (by first|rfl|(simp only[Uw];rfl)) ?_)
 refine JD ?_ (by size_fits)
 simp only[raiseNew]
 refine Xb (wpAny_handled ?_)
 rw[show A.in1.handled=none from hh]
 refine Xb (Xl (wpAny_throw ?_))
 exact Xb (wpAny_isInstance (T :="StopIteration") (b:=true) ⟨_,Xw _ rfl,rfl⟩ isSubtype_stop (Xl (q _ (((b2.trans b3).extBut.push _).push _))))
end
theorem Zir:entryFor table "set.__iter__"=some Ba.«frozenset.__iter__»:=entryFor_alias (id' :="frozenset.__iter__") (by kernel_rfl) rfl (by decide +kernel) (by kernel_rfl)
theorem Zbu:Slot "set_iterator" "__iter__" "set_iterator.__iter__" :=
 .of (owner :="set_iterator") (n :="__iter__") (by rw[typeLookup_type,builtinLookup_eq_fast];kernel_rfl) (by decide +kernel) (by decide +kernel) (by decide +kernel) (by first|exact .inl (by decide +kernel)|exact .inr (by decide +kernel)) (by rw[isSubtype_type];kernel_rfl)
theorem Zes:entryFor table "set_iterator.__iter__"=some Ba.«dict_keyiterator.__iter__»:=entryFor_alias (id' :="dict_keyiterator.__iter__") (by kernel_rfl) (by first|rfl|decide +kernel|(unfold String.splitOn;simp +decide [String.splitOnAux])) (by decide +kernel) (by kernel_rfl)
theorem Zfi(a:Xd):argsOk "set_iterator.__iter__" ⟨[a],[]⟩:=by unfold argsOk;kernel_rfl
section
variable {prog:Qa}{w:Qs}{A:Qq}{E:Xd->Xg->Prop}{s:Xg}
theorem Zji{I:Addr}{vs:Array Xd}{Q:Xd->Xg->Prop}(hI:s.heap.get? I=some { cls:=.type "set_iterator",data:=.fields vs })(h:Q (.ref I) s):XC (X6 prog w) A (pyIter (.ref I)) Q E s:=by
 have hT:s.TypeIs (.ref I) "set_iterator" :=⟨_,hI,rfl⟩
 refine wpAny_pyIter_slot hT Zbu (JC Zbu hT Zes ?_ (Zfi _))
 show XC _ _ (ret (.ref I)) _ _ s
 exact Xl ⟨_,rfl,"set_iterator",_,hT,Zy.lookup,h⟩
theorem Z52{S:Addr}{o:Obj}{es:Array (Int×Xd)}{ep:Nat}{t:QZ}{Q:Xd->Xg->Prop}(ho:s.heap.get? S=some o)(hex:o.ExactSet)(hd:o.data= .set es ep t)(hf:t.fits es.size=true)(hz:es.size≤1000)
  (q1:(byT w=false->t.plain=true∨es.size≤1)->Q (.ref s.heap.objs.size) { s with heap:=s.heap.push { cls:=.type "set_iterator",data:=.fields #[JL 0,JL 0,.ref S,JL es.size,JL ep] } })
  (q2:∀ps d,ps.Perm (Xr es.size)->Q (.ref (s.heap.objs.size+1)) { s with heap:=(s.heap.push { cls:=.type "tuple",data:=.seq (Zs0 ps) }).push { cls:=.type "set_iterator",data:=.fields #[.ref s.heap.objs.size,JL 0,.ref S,JL es.size,JL ep] },drawn:=d }):XC (X6 prog w) A (pyIter (.ref S)) Q E s:=by
 have hT:s.TypeIs (.ref S) "set" :=⟨o,ho,hex.1⟩
 refine wpAny_pyIter_slot hT F.slot_set_iter (JC F.slot_set_iter hT Zir ?_ (F.args_set_iter_1 _))
 unfold Ba.«frozenset.__iter__» Builtin.Frozenset.slot0 slotArgs
 simp only[Ur,V4,Qh,if_false,Vg,bne_self_eq_false,pure_bind,bind_assoc]
 unfold Builtin.Frozenset.addrOf Builtin.Frozenset.sizeOf setDrawn
 refine Xb (Xl ?_)
 refine Xb (Xb (V8 ho hd hf (Xl ?_)))
 refine Xb (Xb (Uu ho hd hf (Xb (Zhx (Xl ?_)))))
 show XC _ _ (if(!byT w&&(!t.plain&&decide (es.size>1)))=true then _ else _) _ _ _
 by_cases c:(!byT w&&(!t.plain&&decide (es.size>1)))=true
 ·rw[if_pos c]
  refine Xb (Zzd _ _ _ _ X3 λps d pm=>?_)
  refine Xb (wpAny_newTuple ?_ (by rw[Xj,pm.length_eq,X3,Qj];omega))
  refine Xb (wpAny_setEpoch_of (Xe _ ho) hd hf ?_)
  have e:(s.heap.push { cls:=.type "tuple",data:=.seq (Zs0 ps) }).objs.size=s.heap.objs.size+1:=Qy ..
  refine Xb (JD (Xl ⟨_,rfl,"set_iterator",_,⟨_,Xw _ rfl,rfl⟩,Zy.lookup,?_⟩))
  have:=q2 ps d pm
  rw[←e]at this
  exact this
 ·rw[if_neg c]
  refine Xb (wpAny_setEpoch_of ho hd hf ?_)
  refine Xb (JD (Xl ⟨_,rfl,"set_iterator",_,⟨_,Xw _ rfl,rfl⟩,Zy.lookup,q1 λhb=>?_⟩))
  rw[hb]at c
  cases hp:t.plain with
  | true=>exact .inl rfl
  | false=>
   rw[hp]at c
   exact .inr (Nat.le_of_not_lt λz=>c (by rw[decide_eq_true z];rfl))
theorem Z6w(hh:A.handled=none){I S:Addr}(ne:S≠I){o:Obj}{es:Array (Int×Xd)}{ep:Nat}{t:QZ}(hd:o.data= .set es ep t)(hf:t.fits es.size=true)(tb:Tb (!byT w) t)(hdr:byT w=false->t.plain=true∨es.size≤1) :
  Walks prog w A I [I,S] [I] es.size (λi v=>(Zf7 w S ep es)[i]? =some v) (λi h=>(∃slot,Z79 h I S slot i es.size ep∧Zi4 w t slot i)∧h.get? S=some o) where
 sub:=λb hb=>by rw[XD.mp hb];exact .head _
 frame:=λi h h' st k=>by
  obtain⟨⟨slot,h1,h2⟩,h3⟩:=st
  exact⟨⟨slot,k I (.head _) _ h1,h2⟩,k S (.tail _ (.head _)) _ h3⟩
 item:=λi s Q E hi st q=>by
  obtain⟨⟨slot,h1,h2⟩,h3⟩:=st
  have hl:i<(Zf7 w S ep es).length:=by rw[Zer.length_eq,Xj,X7];exact hi
  have hx:=Xi hl
  refine Zqp h1 h3 hd hf tb hdr h2 hx λh' nx g1 g2 g3=>?_
  exact q _ h' s.toks hx ⟨⟨nx,g1,g2⟩,g3.extBut _ _ ne h3⟩ λb o nb e=>g3.extBut _ _ (λz=>nb (XD.mpr z)) e
 done:=λs Q E st q=>by
  obtain⟨⟨slot,h1,h2⟩,h3⟩:=st
  refine Zso hh h1 h3 hd hf tb hdr h2 (Q7 (by rw[Zer.length_eq,Xj,X7];exact XN _)) λh' g=>?_
  exact q h' s.toks λb o nb e=>g _ _ (λz=>nb (XD.mpr z)) e
 self:=λi s Q E st q=>by
  obtain⟨⟨slot,h1,h2⟩,h3⟩:=st
  exact Zji h1 q
noncomputable def Zk4(ps:List Nat)(es:Array (Int×Xd)):List Xd:=ps.filterMap λp=>es[p]?.map (·.2)
theorem Zlv{ps:List Nat}{es:Array (Int×Xd)}(pm:ps.Perm (Xr es.size)):(Zk4 ps es).Perm (es.toList.map (·.2)):=by
 have e:Zk4 (Xr es.size) es=es.toList.map (·.2):=by
  have h:=filterMap_getElem?_range es
  unfold Zk4
  rw[←List.map_filterMap,h]
 rw[←e]
 exact pm.filterMap _
theorem Zz5{ps:List Nat}{es:Array (Int×Xd)}(h:∀p∈ps,p<es.size):∀{i p:Nat},ps[i]? =some p->∃x,es[p]? =some x∧(Zk4 ps es)[i]? =some x.2:=by
 induction ps with
 | nil=>intro i p e;cases e
 | cons a ps ih=>
  intro i p e
  have ha:=h a (.head _)
  have ea:es[a]? =some es[a]:=VM ha
  have ed:Zk4 (a :: ps) es=es[a].2 :: Zk4 ps es:=by
   unfold Zk4
   rw[QG,ea];rfl
  rw[ed]
  cases i with
  | zero=>
   cases e
   exact⟨_,ea,rfl⟩
  | succ i=>exact ih (λp m=>h p (.tail _ m)) e
theorem Z3p(hh:A.handled=none){I S T:Addr}(n1:S≠I)(n2:T≠I){o:Obj}{es:Array (Int×Xd)}{ep:Nat}{t:QZ}{ps:List Nat}(hd:o.data= .set es ep t)(hf:t.fits es.size=true)(pm:ps.Perm (Xr es.size)) :
  Walks prog w A I [I,S,T] [I] es.size (λi v=>(Zk4 ps es)[i]? =some v) (λi h=>Z8a h I S T i es.size ep∧h.get? S=some o∧h.get? T=some { cls:=.type "tuple",data:=.seq (Zs0 ps) }) where
 sub:=λb hb=>by rw[XD.mp hb];exact .head _
 frame:=λi h h' st k=>⟨k I (.head _) _ st.1,k S (.tail _ (.head _)) _ st.2.1,k T (.tail _ (.tail _ (.head _))) _ st.2.2⟩
 item:=λi s Q E hi st q=>by
  have hl:i<ps.length:=by rw[pm.length_eq,X3];exact hi
  have hp:=Xi hl
  obtain⟨x,h1,h2⟩:=Zz5 (es:=es) (λp m=>X8.mp (pm.mem_iff.mp m)) hp
  refine Zpt st.1 st.2.2 st.2.1 hd hf hp h1 λh' g1 g3=>?_
  exact q _ h' s.toks h2 ⟨g1,g3.extBut _ _ n1 st.2.1,g3.extBut _ _ n2 st.2.2⟩ λb o nb e=>g3.extBut _ _ (λz=>nb (XD.mpr z)) e
 done:=λs Q E st q=>by
  refine Zu0 hh st.1 st.2.2 st.2.1 hd hf (Q7 (by rw[pm.length_eq,X3];exact XN _)) λh' g=>?_
  exact q h' s.toks λb o nb e=>g _ _ (λz=>nb (XD.mpr z)) e
 self:=λi s Q E st q=>Zji st.1 q
end
theorem Z24:typeLookup (.type "set") "__len__"=pure (some (.builtin "set.__len__")):=F.slot_set_len.lookup
section
variable {prog:Qa}{w:Qs}{A:Qq}{E:Xd->Xg->Prop}{s:Xg}
theorem Zy0{S:Addr}{o:Obj}{Q:Bool->Xg->Prop}(ho:s.heap.get? S=some o)(hex:o.ExactSet)(h:Q false s):XC (X6 prog w) A (Builtin.List.listLengthHint (.ref S)) Q E s:=by
 have hT:s.TypeIs (.ref S) "set" :=⟨o,ho,hex.1⟩
 unfold Builtin.List.listLengthHint
 refine Xb (wpAny_specialOf hT Z24 ?_)
 generalize hid:("set.__len__" : String)=id0
 (fail_if_success (clear hid id0))
 wp_delta
 rw[show splitId id0=some ("set","__len__")from by subst hid;decide +kernel]
 subst hid
 refine Xb (wpAny_isInstance (b:=true) hT (by rw[isSubtype_type];kernel_rfl) ?_)
 simp only[V4,Qh,if_false]
 rw[if_pos (by decide +kernel)]
 refine Xb (wpAny_typeOf hT ?_)
 exact Xl h
theorem Zlg{I N:Addr}{fp wr:List Addr}{n:Nat}{P:Nat->Xd->Prop}{St:Nat->Heap->Prop}{R:Result->Xg->Prop}(W:Walks prog w A.in1 I fp wr n P St)(hn:n≤1000)(hN:N∉fp)(st:St 0 s.heap)(gN:s.heap.get? N=some { cls:=.type "list",data:=.seq #[] 2 })
  (q:∀h' tk (acc:Array Xd) c,acc.size=n->(∀(j:Nat) v,acc[j]? =some v->P j v)->h'.get? N=some { cls:=.type "list",data:=.seq acc c }->(∀b o,b∉N :: wr->s.heap.get? b=some o->h'.get? b=some o)->R (.ok (.ret (.ref N))) { s with heap:=h',toks:=tk }) :
  UW (X6 prog w) A (.builtin "list.extend.loop" ⟨[.ref N,.ref I,.ref N],[]⟩) R s:=by
 refine codeAny_extend_loopS W.toS (by rw[Qj];omega) N hN (.ref N) n 0 s #[] 2 rfl (Qo _) st gN (ItemsOf.nil P) λs' acc c hm g it=>?_
 obtain⟨h',g',d',tk',os'⟩:=s'
 have eg:g'=s.gens:=hm.gens
 have ed:d'=s.drawn:=hm.drawn
 have eo:os'=s.os:=hm.os
 subst eg ed eo
 exact q h' tk' acc c it.1 it.2 g hm.heap
theorem Zs3{N:Addr}{Q:Unit->Xg->Prop}(gN:s.heap.get? N=some { cls:=.type "list",data:=.seq #[] 0 })(q:∀h',h'.get? N=some { cls:=.type "list",data:=.seq #[] 2 }->JK N s.heap h'->Q () { s with heap:=h' }):XC (X6 prog w) A (Builtin.List.listTouch (.ref N)) Q E s:=by
 unfold Builtin.List.listTouch
 refine Xb (listUpdate_at gN rfl ?_ (by rw[Qj];exact Qo _) (by rw[Qj];exact Nat.le_of_ble_eq_true rfl))
 have g1:=get?_update_seq (c :="list") (n:=0) gN (·.push .none)
 refine listUpdate_at g1 rfl (q _ ?_ ((JF ..).trans (JF ..))) (by rw[Qj];exact Nat.le_of_ble_eq_true rfl) (by rw[Qj];exact Qo _)
 exact get?_update_seq (c :="list") g1 (·.pop)
end
section
variable {prog:Qa}{w:Qs}{A:Qq}{E:Xd->Xg->Prop}{s:Xg}
theorem Zi9{α:Type}{l:List α}{acc:Array α}(h:acc.size=l.length)(k:∀(j:Nat) v,acc[j]? =some v->l[j]? =some v):acc.toList=l:=by
 refine List.ext_getElem? λj=>?_
 rw[Qd]
 cases e:acc[j]? with
 | some v=>exact(k j v e).symm
 | none=>
  have:=Array.getElem?_eq_none_iff.mp e
  exact(Q7 (by omega)).symm
theorem Zuk{S:Addr}{o:Obj}{es:Array (Int×Xd)}{ep:Nat}{t:QZ}{Q:List Xd->Xg->Prop}(hh:A.handled=none)(ho:s.heap.get? S=some o)(hex:o.ExactSet)(hd:o.data= .set es ep t)(hf:t.fits es.size=true)(tb:Tb (!byT w) t)(hz:es.size≤1000)
  (q:∀h' tk d acc,acc.Perm (es.toList.map (·.2))->s.heap.objs.size≤h'.objs.size->(∀b o,b<s.heap.objs.size->s.heap.get? b=some o->h'.get? b=some o)->Q acc { s with heap:=h',toks:=tk,drawn:=d }):XC (X6 prog w) A (collect (.ref S)) Q E s:=by
 have lS:S<s.heap.objs.size:=XJ ho
 unfold collect
 refine Xb (wpAny_runValue (Q9 F.entry_proto_collect ?_));rw[QJ F.plain_proto_collect _]
 show XC _ A.in1 (newList []>>= λl=>again (.builtin "list.__iadd__" ⟨[l,.ref S],[]⟩)) _ _ s
 refine Xb (JD (Xl ⟨Bw F.plain_list_iadd _,Q9 F.entry_list_iadd ?_⟩));rw[QJ F.plain_list_iadd _]
 have g0:(s.heap.push { cls:=.type "list",data:=.seq ([]:List Xd).toArray }).get? s.heap.objs.size=some { cls:=.type "list",data:=.seq #[] 0 }:=Xw _ rfl
 have s0:(s.heap.push { cls:=.type "list",data:=.seq ([]:List Xd).toArray }).objs.size=s.heap.objs.size+1:=Qy ..
 have ho1:(s.heap.push { cls:=.type "list",data:=.seq ([]:List Xd).toArray }).get? S=some o:=Xe _ ho
 generalize hH:s.heap.push { cls:=.type "list",data:=.seq ([]:List Xd).toArray }=H1 at g0 s0 ho1⊢
 have old:∀b o,s.heap.get? b=some o->H1.get? b=some o:=λb o e=>by rw[←hH];exact Xe _ e
 show XC _ A.in1 (Builtin.List.listExtendWith (.ref s.heap.objs.size) (.ref S) (.ref s.heap.objs.size)) _ _ { s with heap:=H1 }
 have hT1:Shared.TypeIs { s with heap:=H1 } (.ref S) "set" :=⟨o,ho1,hex.1⟩
 have ns:Builtin.List.listSameRef (.ref s.heap.objs.size) (.ref S)=false:=by simp[Builtin.List.listSameRef,XM lS]
 unfold Builtin.List.listExtendWith
 refine Xb (wpAny_typeOf hT1 ?_)
 rw[if_neg (by rw[ns];decide)]
 refine Xb (Z52 (s:={ s with heap:=H1 }) ho1 hex hd hf hz (λhdr=>?_) λps d pm=>?_)
 ·refine Xb (Bv (Zy0 (Xe _ ho1) hex ?_))
  rw[if_pos (by decide +kernel)]
  refine Xb (Uk (Xb (Zs3 (Xe _ g0) λh2 g2 b2=>Xl ⟨Bw F.plain_extend_loop _,?_⟩)))
  have gI:h2.get? H1.objs.size=some { cls:=.type "set_iterator",data:=.fields #[JL 0,JL 0,.ref S,JL es.size,JL ep] }:=b2.extBut _ _ (by rw[s0];exact XM (Qt _)) (Xw _ rfl)
  have gS:h2.get? S=some o:=b2.extBut _ _ (Xo lS) (Xe _ ho1)
  refine Zlg (I:=H1.objs.size) (s:={ s with heap:=h2 }) (Z6w (S:=S) (by simpa using hh) (by rw[s0];exact Xo (Bc lS)) hd hf tb hdr) hz (λm=>?_) ⟨⟨0,gI,λhb=>?_⟩,gS⟩ g2 λh' tk acc c l1 l2 g k=>?_
  ·rw[s0]at m
   rcases Xq.mp m with e|m
   ·exact Xo (Qt _) e
   ·exact XM lS (XD.mp m)
  ·refine Zqm ?_
   rcases hdr hb with z|z
   ·exact tb.up z
   ·have sz:t.place.size=es.size:=by
     unfold SetTable.fits at hf
     rw[XQ,beq_iff_eq]at hf
     exact hf.1
    have l1:t.place.toList.length≤1:=by rw[X7,sz];exact z
    generalize t.place.toList=l at l1
    match l,l1 with
    | [],_=>exact .nil
    | [a],_=>exact List.pairwise_singleton _ _
  ·have ea:acc.toList=Zf7 w S ep es:=Zi9 (by rw[l1,Zer.length_eq,Xj,X7]) l2
   show XC _ A (load s.heap.objs.size>>=_) _ _ { s with heap:=h',toks:=tk }
   refine Xb (wpAny_load g (Xl (q h' tk s.drawn acc.toList (ea▸Zer) (Be (XJ g)) λb o lb e=>k b o (λm=>?_) (b2.extBut _ _ (Xo lb) (Xe _ (old b o e))))))
   rcases Xq.mp m with z|m
   ·exact Xo lb z
   ·rw[XD.mp m,s0]at lb
    exact Bq _ (Nat.lt_of_succ_lt lb)
 ·refine Xb (Bv (Zy0 (Xe _ (Xe _ ho1)) hex ?_))
  rw[if_pos (by decide +kernel)]
  refine Xb (Uk (Xb (Zs3 (Xe _ (Xe _ g0)) λh2 g2 b2=>Xl ⟨Bw F.plain_extend_loop _,?_⟩)))
  have s1:(H1.push { cls:=.type "tuple",data:=.seq (Zs0 ps) }).objs.size=s.heap.objs.size+1+1:=by rw[Qy,s0]
  have gI:h2.get? (s.heap.objs.size+1+1)=some { cls:=.type "set_iterator",data:=.fields #[.ref H1.objs.size,JL 0,.ref S,JL es.size,JL ep] }:=b2.extBut _ _ (XM (Bc (Qt _))) (by rw[←s1];exact Xw _ rfl)
  have gS:h2.get? S=some o:=b2.extBut _ _ (Xo lS) (Xe _ (Xe _ ho1))
  have gT:h2.get? H1.objs.size=some { cls:=.type "tuple",data:=.seq (Zs0 ps) }:=b2.extBut _ _ (by rw[s0];exact XM (Qt _)) (Xe _ (Xw _ rfl))
  rw[show H1.objs.size+1=s.heap.objs.size+1+1 by rw[s0]]
  refine Zlg (I:=s.heap.objs.size+1+1) (s:={ s with heap:=h2,drawn:=d }) (Z3p (S:=S) (T:=H1.objs.size) (by simpa using hh) (Xo (Bc (Bc lS))) (by rw[s0];exact Xo (Qt _)) hd hf pm) hz (λm=>?_) ⟨gI,gS,gT⟩ g2 λh' tk acc c l1 l2 g k=>?_
  ·rcases Xq.mp m with e|m
   ·exact Xo (Bc (Qt _)) e
   rcases Xq.mp m with e|m
   ·exact XM lS e
   ·have:=XD.mp m
    rw[s0]at this
    exact Xo (Qt _) this
  ·have ea:acc.toList=Zk4 ps es:=Zi9 (by rw[l1,(Zlv pm).length_eq,Xj,X7]) l2
   show XC _ A (load s.heap.objs.size>>=_) _ _ { s with heap:=h',toks:=tk,drawn:=d }
   refine Xb (wpAny_load g (Xl (q h' tk d acc.toList (ea▸Zlv pm) (Be (XJ g)) λb o lb e=>k b o (λm=>?_) (b2.extBut _ _ (Xo lb) (Xe _ (Xe _ (old b o e)))))))
   rcases Xq.mp m with z|m
   ·exact Xo lb z
   ·rw[XD.mp m]at lb
    exact Bq _ (Nat.lt_of_succ_lt (Nat.lt_of_succ_lt lb))
end
theorem ints_of{vs:List Xd}(h:∀v∈vs,∃k t,v= .int k t):Q6 vs (vs.map vI):=by
 induction vs with
 | nil=>exact .nil
 | cons v vs ih=>
  obtain⟨k,t,rfl⟩:=h v (.head _)
  exact .cons k t (ih λu m=>h u (.tail _ m))
section
variable {prog:Qa}{w:Qs}{A:Qq}{E:Xd->Xg->Prop}{s:Xg}
theorem Zvr{S:Addr}{ks:List Int}{Q:Xd->Xg->Prop}(hh:A.handled=none)(hS:SetI prog w (!byT w) s.heap S ks)(h64:ks.length<64)
  (q:∀h' tk d L (out:List Xd) c,s.heap.objs.size≤L->h'.get? L=some { cls:=.type "list",data:=.seq out.toArray c }->Q6 out (Z5 ks)->(∀b o,b<s.heap.objs.size->s.heap.get? b=some o->h'.get? b=some o)->Q (.ref L) { s with heap:=h',toks:=tk,drawn:=d }):XC (X6 prog w) A (call (.builtin "sorted") [.ref S]) Q E s:=by
 obtain⟨o,es,ep,t,ho,hex,hd,he,hb,hf,tb,rfl⟩:=hS
 rw[Xj,X7]at h64
 refine Calls.call_function_entry kind_sorted plain_sorted entry_sorted (args_sorted1 _) ?_
 unfold Ba.«sorted»
 refine Xb (m:=checkCount "sorted" 1 1 _) (Xl ?_)
 refine Xb (Zuk (by simpa using hh) ho hex hd hf tb (by omega) λh1 tk d acc pm lN k1=>?_)
 have la:acc.length=es.size:=by rw[pm.length_eq,Xj,X7]
 refine Xb (wpAny_newList ?_ (by rw[Qj];omega))
 have ga:(h1.push (BL "list" acc.toArray 0)).get? h1.objs.size=some (BL "list" acc.toArray 0):=Xw _ rfl
 have ia:Q6 acc (acc.map vI):=ints_of λv m=>by
  obtain⟨e,me,rfl⟩:=Qc.mp (pm.mem_iff.mp m)
  obtain⟨⟨k,i1,_⟩,_⟩:=he e me
  obtain⟨t',e2⟩:=Zrt i1
  exact⟨k,t',e2⟩
 refine Xb (Bv (JC slot_list_sort ⟨_,ga,rfl⟩ entry_list_sort (list_sort_tree ga ia (by omega) λout ns' a1 a2 a3=>⟨_,rfl,?_⟩) (args_list_sort _)))
 have en:ns'=Z5 (es.toList.map λe=>vI e.2):=Wy (a2.trans (((pm.map vI).trans (by rw[X5];exact .refl _)).trans (Yi _).symm)) a3 (Y7 _)
 subst en
 have g1:=get?_update_seq (c :="list") ga (λ_=>(#[]:Array Xd))
 have g3:=get?_update_seq (c :="list") (Xe (BL "list" #[] 0) (Xe (BL "tuple" acc.toArray 0) g1)) (λ_=>out)
 refine Xl ⟨_,rfl,q _ tk d _ out.toList _ lN (by rw[Array.toArray_toList];exact g3) a1 λb o lb e=>?_⟩
 have nb:b≠h1.objs.size:=Xo (Qi lb lN)
 exact(JF ..).extBut _ _ nb (Xe _ (Xe _ ((JF ..).extBut _ _ nb (Xe _ (k1 b o lb e)))))
end
theorem Inv.drawn{X:Cx}{pins:List (Addr×Obj)}{σ:St}{H:Hp}{s:Xg}(I:Inv X pins σ H s)(d:Drawn):Inv X pins σ H { s with drawn:=d }:=by
 refine I.call (ch:=[]) (g':=s.gens) (d':=d) (t':=s.toks) ⟨λb o e _ _ _=>e,λb o e _ _ _=>⟨o.slots,e⟩,λb o e n _=>n,λb o e _=>⟨o,e⟩,λb ys e=>e,λb o u e=>e,λb ps e=>⟨#[],by rw[e];simp⟩⟩ (λb u e=>I.hok b u e) I.bare (λb hb=>nomatch hb)
noncomputable def dnc:List Int->List Int
 | []=>[]
 | x :: xs=>if x∈xs then dnc xs else x :: dnc xs
theorem Zk7(ns:List Int):Of (dnc ns) ns:=by
 induction ns with
 | nil=>exact⟨.nil,λx=>.rfl⟩
 | cons a ns ih=>
  rw[dnc]
  split
  ·rename_i c
   exact⟨ih.1,λx=>by rw[ih.2,Xq];exact⟨.inr,λm=>m.elim (λe=>e▸c) id⟩⟩
  ·rename_i c
   exact⟨Qp.mpr ⟨λm=>c ((ih.2 a).mp m),ih.1⟩,λx=>by rw[Xq,Xq,ih.2]⟩
theorem Zy9(ns:List Int):(dnc ns).length≤ns.length:=by
 induction ns with
 | nil=>exact XN _
 | cons a ns ih=>
  rw[dnc]
  split
  ·exact Nat.le_succ_of_le ih
  ·exact Nat.succ_le_succ ih
theorem Z6l{ks ns:List Int}(h:Of ks ns):ks.length≤ns.length:=by
 have pm:ks.Perm (dnc ns):=(VH h.1 (Zk7 ns).1).mpr λx=>by rw[h.2,(Zk7 ns).2]
 rw[pm.length_eq];exact Zy9 ns
theorem Ztc{ks ns:List Int}(h:Of ks ns):Z5 ks=Z5 (dnc ns):=by
 have pm:ks.Perm (dnc ns):=(VH h.1 (Zk7 ns).1).mpr λx=>by rw[h.2,(Zk7 ns).2]
 exact Wy ((Yi ks).trans (pm.trans (Yi _).symm)) (Y7 _) (Y7 _)
section
variable {X:Cx}{p c:Bool}{io:List Nat}{a e:Expr}{pos pos' pl pr:Pos}{t:TA}{mr:MAt}{ra:FA}
noncomputable def tSS(K:Xc)(t:TA):TE:=λσ H Q=>t σ H λvs H1=>∃(l:Addr) (ns:List Int),vs=[.ref l]∧SqL K H1 l (ns.map V.int)∧ns.length<64∧∀p,H1 p=none->Q (.ref p) (upd H1 p (.lst ((Z5 (dnc ns)).map V.int)))
theorem Zpr(hc:X.calm=true)(hgl:Gl X "sorted")(hml:X.mg "sorted"=none)(hvl:Qk "sorted"=some (.builtin "sorted"))(hg:Gl X "set")(hm:X.mg "set"=none)(hv:Qk "set"=some (.type "set"))(ha:PA X [a] t)
  (he:Xp [a] X.env=(false,eval a X.env) :: Xp [] X.env:=by rfl) (hpl:(JM pos' (Xp [] X.env)).any (·.1)=false:=by rfl)
  (he':Xp [.Call (.Name "set" pr) [a] [] pos'] X.env=(false,eval (.Call (.Name "set" pr) [a] [] pos') X.env) :: Xp [] X.env:=by rfl) (hpl':(JM pos (Xp [] X.env)).any (·.1)=false:=by rfl) :
  PE X (.Call (.Name "sorted" pl) [.Call (.Name "set" pr) [a] [] pos'] [] pos) (tSS X.K t):=by
 intro pins s σ H Q I h
 refine Vw (Zgu I hgl hml hvl ?_ (by decide) (by decide))
 refine PyProof.Rows.callWith_builtin1 ?_ he' hpl'
 rw[he']
 show XC _ _ (spliced ((false,eval (.Call (.Name "set" pr) [a] [] pos') X.env) :: JM pos (Xp [] X.env))) _ _ s
 have inner:XC (X6 X.prog X.w) X.A (eval (.Call (.Name "set" pr) [a] [] pos') X.env) (λu s2=>∃(S:Addr) (ks ns:List Int) (H1:Hp),u=Qn S∧SetI X.prog X.w (!byT X.w) s2.heap S ks∧Of ks ns∧ns.length<64∧Inv X pins σ H1 s2∧∀p,H1 p=none->Q (.ref p) (upd H1 p (.lst ((Z5 (dnc ns)).map V.int)))) X.xe s:=by
  refine Vw (Zgu I hg hm hv ?_ (by decide) (by decide))
  refine Br (thn (ha pos' pins s σ H _ I h) λus s1 qz=>?_) he hpl
  obtain⟨vs,H1,I1,r1,l,ns,rfl,hs,h64,q⟩:=qz
  obtain⟨u,rfl,ru⟩:=vals1 r1
  cases(show u=Qn l from ru)
  obtain⟨its,rv,pl,hz⟩:=I1.list hs
  obtain⟨ps,rfl,e2⟩:=Zjc rv
  have lp:ps.length=ns.length:=by rw[←e2,Xj]
  refine Zth (its:=(ps.map λp=>Vr p.1 p.2).toArray) (ns:=ns) (I1.ok.hd hc) pl.isList (by simp[lp]) (by rw[Xy,Xj];unfold scanBound;omega) (λi v ev=>?_) λh' tk ks a1 a2 a3=>?_
  ·rw[Uo,Xu]at ev
   cases ep:ps[i]? with
   | none=>rw[ep]at ev;cases ev
   | some p=>
    rw[ep]at ev
    cases ev
    exact⟨p.1,p.2,rfl,by rw[←e2,Xu,ep];rfl⟩
  ·exact⟨_,ks,ns,H1,rfl,a1,a2,h64,I1.kept (t':=tk) (λb u e=>a3 b u (XJ e) e),q⟩
 refine Calls.spliced_cons (thn inner λu s2 qz=>?_)
 obtain⟨S,ks,ns,H1,rfl,hS,hO,h64,I2,q⟩:=qz
 refine Calls.spliced_nil ?_
 have lk:ks.length≤ns.length:=Z6l hO
 refine Zvr (I2.ok.hd hc) hS (by omega) λh' tk d L out cc lN g io k=>?_
 rw[Ztc hO]at io
 have ld:((Z5 (dnc ns)).map V.int).length≤Xx:=by
  rw[Xj,←Ztc hO,(Yi ks).length_eq,Qj];omega
 refine⟨.ref L,_,(I2.laid (t':=tk) (o:=.lst ((Z5 (dnc ns)).map V.int)) (λb ob e=>k b ob (XJ e) e) lN ⟨ld,out,cc,Z05 io,g⟩).drawn d,rfl,q _ (I2.hok.fresh lN)⟩
noncomputable def Zo3(mr:MAt):MEt:=λδ K=>mr δ λrs δ'=>n1 (λd=>∃ns:List Int,d= .list (ns.map Xk)∧ns.length<64∧K (.nd (((Z5 (dnc ns)).map Xk).map OT.fz)) δ') (OT.datas rs)
theorem Zre(hc:X.calm=true)(hgl:Gl X "sorted")(hml:X.mg "sorted"=none)(hvl:Qk "sorted"=some (.builtin "sorted"))(hg:Gl X "set")(hm:X.mg "set"=none)(hv:Qk "set"=some (.type "set"))(ha:MA X io p c [a] mr)
  (he:Xp [a] X.env=(false,eval a X.env) :: Xp [] X.env:=by rfl) (hpl:(JM pos' (Xp [] X.env)).any (·.1)=false:=by rfl)
  (he':Xp [.Call (.Name "set" pr) [a] [] pos'] X.env=(false,eval (.Call (.Name "set" pr) [a] [] pos') X.env) :: Xp [] X.env:=by rfl) (hpl':(JM pos (Xp [] X.env)).any (·.1)=false:=by rfl) :
  ME X io p true (.Call (.Name "sorted" pl) [.Call (.Name "set" pr) [a] [] pos'] [] pos) (Zo3 mr):=by
 obtain⟨_,A,s⟩:=ha
 refine⟨_,Zpr hc hgl hml hvl hg hm hv A he hpl he' hpl',λC H σ δ fp ex K Q R h kk=>s C H σ δ fp ex _ _ R h λH1 vs rs δ1 fp1 new r1 h1=>?_⟩
 obtain⟨v,d,rfl,e2,q,ns,e,h64,h2⟩:=(r1.das R).one h1
 subst e
 obtain⟨l,rfl,hs⟩:=q.ints_sq
 refine⟨l,ns,rfl,hs,h64,λp hp=>?_⟩
 have sm:=Yd hp (.lst ((Z5 (dnc ns)).map V.int))
 exact kk _ _ _ δ1 fp1 [p] (RE.tree R r1.base r1.stp sm (Zal hp) (Zcn p) (Own.list hp (Das.ints _))) h2
noncomputable def Zg6(a:FA):FE:=λδ=>(a δ).bind λq=>match OT.datas q.1 with|[.list es]=>(Zbn es).bind λns=>if ns.length<64 then some (.nd (((Z5 (dnc ns)).map Xk).map OT.fz),q.2)else none|_=>none
theorem Zqc{c:Bool}{e:Expr}(h:ME X io p c e (Zo3 (o2 ra))):ME X io p c e (o2 (Zg6 ra)):=h.weak λδ K h=>by
 obtain⟨r,δ',h,k⟩:=h
 obtain⟨⟨x,δ1⟩,h1,h⟩:=bs h
 refine⟨x,δ1,h1,?_⟩
 dsimp only at h⊢
 split at h
 case h_2=>cases h
 rename_i es q
 rw[q]
 obtain⟨ns,h2,h⟩:=bs h
 split at h
 case isFalse=>cases h
 rename_i l64
 cases h
 exact⟨ns,by rw[J3 h2],l64,k⟩
end
section
variable {κ:Type}[DecidableEq κ]
noncomputable def Zu3(kvs:List (κ×V))(k:κ):Option V:=(kvs.find? λkv=>decide (kv.1=k)).map (·.2)
noncomputable def putK(kvs:List (κ×V))(k:κ)(v:V):List (κ×V) :=
 if(kvs.any λkv=>decide (kv.1=k))=true then kvs.map (λkv=>if kv.1=k then(kv.1,v)else kv)else kvs ++ [(k,v)]
theorem Zwn{p:κ×V}{r:List (κ×V)}{k:κ}(e:p.1=k):Zu3 (p :: r) k=some p.2:=by simp[Zu3,List.find?_cons,e]
theorem Zwr{p:κ×V}{r:List (κ×V)}{k:κ}(e:¬p.1=k):Zu3 (p :: r) k=Zu3 r k:=by simp[Zu3,List.find?_cons,e]
theorem KV.length{kvs:List (κ×V)}{vs:List (κ×Xd)}(r:KV kvs vs):kvs.length=vs.length:=Paired.length r
end
noncomputable abbrev KT(H:Hp):List (List Key×V)->List (List Key×Addr×Xd)->Prop:=Paired λp q=>p.1=q.1∧H q.2.1=some (.tup (p.1.map kV))∧RelV p.2 q.2.2
section
variable {P:Qa}{w:Qs}{H:Hp}{h:Heap}{a:Addr}
end
noncomputable def DGet(H:Hp)(a:Addr)(y:V)(r:Option V):Prop :=
 (∃ kvs k,Rd H a (.dK kvs)∧y=kV k∧r=Zu3 kvs k)∨∃kvs k b,Rd H a (.dT kvs)∧y= .ref b∧H b=some (.tup (k.map kV))∧r=Zu3 kvs k
noncomputable def DPut(H:Hp)(a:Addr)(y v:V)(H':Hp):Prop :=
 (∃ kvs k,H a=some (.dK kvs)∧y=kV k∧kvs.length<Xx∧H'=upd H a (.dK (putK kvs k v)))∨
 ∃kvs k b,H a=some (.dT kvs)∧y= .ref b∧H b=some (.tup (k.map kV))∧kvs.length<Xx∧H'=upd H a (.dT (putK kvs k v))
theorem DGet.k{H:Hp}{a:Addr}{kvs:List (Key×V)}{k:Key}(e:H a=some (.dK kvs)):DGet H a (kV k) (Zu3 kvs k):=.inl ⟨kvs,k,.inl e,rfl,rfl⟩
theorem DGet.t{H:Hp}{a b:Addr}{kvs:List (List Key×V)}{k:List Key}(e:H a=some (.dT kvs))(eb:H b=some (.tup (k.map kV))):DGet H a (.ref b) (Zu3 kvs k):=.inr ⟨kvs,k,b,.inl e,rfl,eb,rfl⟩
theorem DPut.k{H:Hp}{a:Addr}{kvs:List (Key×V)}{k:Key}{v:V}(e:H a=some (.dK kvs))(hl:kvs.length<Xx):DPut H a (kV k) v (upd H a (.dK (putK kvs k v))):=.inl ⟨kvs,k,e,rfl,hl,rfl⟩
theorem DPut.t{H:Hp}{a b:Addr}{kvs:List (List Key×V)}{k:List Key}{v:V}(e:H a=some (.dT kvs))(eb:H b=some (.tup (k.map kV)))(hl:kvs.length<Xx) :
  DPut H a (.ref b) v (upd H a (.dT (putK kvs k v))):=.inr ⟨kvs,k,b,e,rfl,eb,hl,rfl⟩
section
variable {X:Cx}{pins:List (Addr×Obj)}{σ:St}{H:Hp}{s:Xg}{a:Addr}{y v:V}{u r:Xd}{o:Option V}{A:Qq}{E:Xd->Xg->Prop}
end
section
variable {X:Cx}{pins:List (Addr×Obj)}{σ:St}{H:Hp}{s:Xg}{a:Addr}{kvs:List (Key×V)}{k:Key}{u:Xd}{A:Qq}{E:Xd->Xg->Prop}
end
section
variable {X:Cx}{o i e value:Expr}{pos pos' tpos:Pos}{td ty tv:TE}
end
section
variable {X:Cx}{pos:Pos}
end
noncomputable abbrev VV:List (V×V)->List (Xd×Xd)->Prop:=Paired λp q=>RelV p.1 q.1∧RelV p.2 q.2
structure M1(X:Cx)(o:Expr)(m:Str)(apos:Pos)(e:Expr)(cpos:Pos):Prop where
 base:Uh o m X.env (eval o X.env)=eval o X.env
 few:((JM cpos (Xp [e] X.env)).all (λx=>!x.1)&&(backToKw cpos (U4 [] X.env)).all (λx=>x.1.isSome)
  &&decide (([e]:List Expr).length+([]:List V6).length+(if([]:List V6).isEmpty then 0 else 1)<30))=true
 line:(apos.endLine==cpos.line)=true
 trees:JM cpos (Xp [e] X.env)=[(false,eval e X.env)]
structure M2(X:Cx)(o:Expr)(m:Str)(apos:Pos)(e f:Expr)(cpos:Pos):Prop where
 base:Uh o m X.env (eval o X.env)=eval o X.env
 few:((JM cpos (Xp [e,f] X.env)).all (λx=>!x.1)&&(backToKw cpos (U4 [] X.env)).all (λx=>x.1.isSome)
  &&decide (([e,f]:List Expr).length+([]:List V6).length+(if([]:List V6).isEmpty then 0 else 1)<30))=true
 line:(apos.endLine==cpos.line)=true
 trees:JM cpos (Xp [e,f] X.env)=[(false,eval e X.env),(false,eval f X.env)]
section
variable {X:Cx}{pins:List (Addr×Obj)}{σ:St}{H:Hp}{s:Xg}{a:Addr}{y d:V}{u r:Xd}{o:Option V}{A:Qq}{E:Xd->Xg->Prop}
end
section
variable {X:Cx}{o e f:Expr}{apos cpos:Pos}{td ty tx:TE}
end
variable {G:Xc}
noncomputable def Z91(k:KY):List KY->List Xa->Option Xa
 | [],_=>none
 | _ :: _,[]=>none
 | j :: ks,d :: ds=>if j=k then some d else Z91 k ks ds
section
variable {H:Hp}{L:Addr->Prop}{κ:Type}[DecidableEq κ]{f:κ->KY}
noncomputable def Yb9(G:Xc)(H:Hp)(L:Addr->Prop)(a:Option V)(b:Option Xa):Prop:=(∃v d,a=some v∧b=some d∧Da G H L v d)∨(a=none∧b=none)
theorem look(hf:∀a b,f a=f b->a=b)(k:κ)(kvs:List (κ×V)):∀ds,Das G H L (kvs.map (·.2)) ds->Yb9 G H L (Zu3 kvs k) (Z91 (f k) (kvs.map λp=>f p.1) ds):=by
 induction kvs with
 | nil=>exact λds _=>.inr ⟨rfl,rfl⟩
 | cons p kvs ih=>
  intro ds h
  cases h with
  | cons h r=>
   rename_i d ds
   show Yb9 G H L _ (if f p.1=f k then some d else Z91 (f k) (kvs.map λp=>f p.1) ds)
   by_cases e:p.1=k
   ·rw[Zwn e,if_pos (congrArg f e)]
    exact .inl ⟨_,_,rfl,rfl,h⟩
   ·rw[Zwr e,if_neg λz=>e (hf _ _ z)]
    exact ih _ r
end
section
variable {H:Hp}{L:Addr->Prop}{y:V}{e:Xa}
end
noncomputable def Yc0(o:Option (Option OT))(δ:Zi):Option (OT×Zi):=match o with|some (some (.fz d))=>some (.fz d,δ)|_=>none
theorem Zne(d:Xa)(δ:Zi):Yc0 (some (some (.fz d))) δ=some (.fz d,δ):=rfl
noncomputable def Z5t(o:Option (Option OT))(δ:Zi):Option (OT×Zi):=match o with|some (some t)=>some (.fz t.data,δ)|_=>none
theorem Z0e(t:OT)(δ:Zi):Z5t (some (some t)) δ=some (.fz t.data,δ):=rfl
theorem Znj(i:Nat)(δ:Zi):Zd i δ=Yc0 δ[i]? δ:=rfl
theorem Z11(i:Nat)(δ:Zi):Zq0 i δ=Z5t δ[i]? δ:=rfl
theorem Z9t(d:Xa)(δ:Zi):fC d δ=some (.fz d,δ):=rfl
theorem Zw7(g:Xa->Xa->Option Xa)(a b:FE)(δ:Zi):Zf g a b δ=(a δ).bind λp=>(b p.2).bind λq=>(g p.1.data q.1.data).bind λd=>some (.fz d,q.2):=rfl
theorem Z1d(g:Xa->Xa->Option OT)(a b:FE)(δ:Zi):Ye g a b δ=(a δ).bind λp=>(b p.2).bind λq=>(g p.1.data q.1.data).bind λd=>some (d,q.2):=rfl
theorem Z40(g:Xa->Option Xa)(a:FE)(δ:Zi):fUn g a δ=(a δ).bind λp=>(g p.1.data).bind λd=>some (.fz d,p.2):=rfl
noncomputable def onB{α:Type}(d:Xa)(x y:Option α):Option α:=match d with| .bool true=>x| .bool false=>y|_=>none
theorem Yap{α:Type}(x y:Option α):onB (.bool true) x y=x:=rfl
theorem Z8z{α:Type}(x y:Option α):onB (.bool false) x y=y:=rfl
theorem Zr7(a b:FE)(δ:Zi):Zqw a b δ=(a δ).bind λp=>onB p.1.data (b p.2) (some (.fz (.bool false),p.2)):=by
 unfold Zqw onB
 cases a δ with
 | none=>rfl
 | some p=>first|rfl|(simp only[Xh];done)|(simp only[Xh];generalize p.1.data=d;cases d<;>first|rfl|(rename_i b;cases b<;>rfl))
theorem Ya6(a b:FE)(δ:Zi):fOr a b δ=(a δ).bind λp=>onB p.1.data (some (.fz (.bool true),p.2)) (b p.2):=by
 unfold fOr onB
 cases a δ with
 | none=>rfl
 | some p=>first|rfl|(simp only[Xh];done)|(simp only[Xh];generalize p.1.data=d;cases d<;>first|rfl|(rename_i b;cases b<;>rfl))
theorem Zy5(t:FT)(a b:FE)(δ:Zi):fIf t a b δ=(t δ).bind λp=>if p.1=true then a p.2 else b p.2:=rfl
noncomputable def Z94(t:OT)(δ:Zi):Option (Bool×Zi):=match t with| .fz (.bool b)=>some (b,δ)|_=>none
theorem Z4e(b:Bool)(δ:Zi):Z94 (.fz (.bool b)) δ=some (b,δ):=rfl
theorem Z9h(e:FE)(δ:Zi):tV e δ=(e δ).bind λp=>Z94 p.1 p.2:=by
 unfold tV Z94
 cases e δ with
 | none=>rfl
 | some p=>rfl
theorem Z58(t:FT)(δ:Zi):tNo t δ=(t δ).bind λp=>some (!p.1,p.2):=rfl
theorem Zx3(t u:FT)(δ:Zi):tAn t u δ=(t δ).bind λp=>if p.1=true then u p.2 else some (false,p.2):=rfl
theorem Z6k(t u:FT)(δ:Zi):tO t u δ=(t δ).bind λp=>if p.1=true then some (true,p.2)else u p.2:=rfl
theorem Z9r(e:FE)(δ:Zi):tD e δ=(e δ).bind λp=>(Zxg p.1.data).bind λb=>some (b,p.2):=rfl
theorem Z98(δ:Zi):Zg2 δ=some (true,δ):=rfl
theorem Zzi(δ:Zi):Zq δ=some ([],δ):=rfl
theorem Zpd(e:FE)(a:FA)(δ:Zi):Zc e a δ=(e δ).bind λp=>(a p.2).bind λq=>some (p.1 :: q.1,q.2):=rfl
theorem Zze(a:FA)(δ:Zi):Zif a δ=(a δ).bind λp=>if p.1.length≤Xx then some (.fz (.tuple (OT.datas p.1)),p.2)else none:=rfl
theorem Ztf(a:FA)(δ:Zi):Zdu a δ=(a δ).bind λp=>if p.1.length≤Xx then some (.nd p.1,p.2)else none:=rfl
theorem Z74(a:FA)(δ:Zi):Ya1 a δ=(a δ).bind λp=>if p.1.length≤Xx then some (.tp p.1,p.2)else none:=rfl
theorem Z8g(e:FE)(δ:Zi):Yaa e δ=(e δ).bind λp=>if Zgv p.1.data=true then some (.fz p.1.data,p.2)else none:=rfl
theorem Z3y(e:FE)(δ:Zi):Z6b e δ=(e δ).bind λp=>if Z1z p.1=true then some (p.1,p.2)else none:=rfl
noncomputable def okO(x:RF)(δ:Zi):Option (OT×Zi):=match x with| .ok r=>some (r,δ)|_=>none
theorem Z46(r:OT)(δ:Zi):okO (.ok r) δ=some (r,δ):=rfl
theorem Zv1(F:FD)(a:FA)(δ:Zi):Zu F a δ=(a δ).bind λp=>okO (F (OT.datas p.1)) p.2:=by
 unfold Zu okO
 cases a δ with
 | none=>rfl
 | some p=>rfl
noncomputable def atO{α:Type}(o:Option (Option OT))(k:OT->Option α):Option α:=match o with|some (some t)=>k t|_=>none
theorem Yc8{α:Type}(t:OT)(k:OT->Option α):atO (some (some t)) k=k t:=rfl
theorem Z3t(i:Nat)(F:FIO)(a:FA)(δ:Zi):Zyd i F a δ=atO δ[i]? λ_=>(a δ).bind λp=>atO p.2[i]? λt=>(F t (OT.datas p.1)).bind λq=>some (q.1,p.2.set i (some q.2)):=by
 unfold Zyd
 generalize δ[i]? =o
 rcases o with _|_|t
 ·rfl
 ·rfl
 ·show(a δ).bind _=(a δ).bind _
  cases a δ with
  | none=>rfl
  | some p=>
   show(λo:Option (Option OT)=>(match o with|some (some t)=>(F t (OT.datas p.1)).bind λq=>some (q.1,p.2.set i (some q.2))|_=>none)) p.2[i]? =atO p.2[i]? _
   generalize p.2[i]? =o
   rcases o with _|_|t<;>rfl
theorem Z1w(g:List Xa->Option Xa)(a:FA)(δ:Zi):Zbx g a δ=(a δ).bind λp=>(g (OT.datas p.1)).bind λd=>some (.fz d,p.2):=rfl
theorem Zxx(g:List Xa->Option OT)(a:FA)(δ:Zi):fBl g a δ=(a δ).bind λp=>(g (OT.datas p.1)).bind λd=>some (d,p.2):=rfl
theorem Z0v(T:String)(e:FE)(δ:Zi):Zfc T e δ=(e δ).bind λp=>if Zih p.1.data=true then none else some (.fz (.bool (Zob T p.1.data)),p.2):=rfl
theorem Z8l(δ:Zi):oN δ=some (none,δ):=rfl
noncomputable def asInt{α:Type}(d:Xa)(k:Int->Option α):Option α:=match d with| .int i=>k i|_=>none
theorem Zt4{α:Type}(i:Int)(k:Int->Option α):asInt (.int i) k=k i:=rfl
noncomputable def Zt5{α:Type}(d:Xa)(k:List Xa->Option α):Option α:=match d with| .list i=>k i|_=>none
theorem Zuv{α:Type}(i:List Xa)(k:List Xa->Option α):Zt5 (.list i) k=k i:=rfl
noncomputable def Z2l{α:Type}(d:Xa)(k:List Xa->Option α):Option α:=match d with| .tuple i=>k i|_=>none
theorem Z9v{α:Type}(i:List Xa)(k:List Xa->Option α):Z2l (.tuple i) k=k i:=rfl
theorem Yay(e:FE)(δ:Zi):oI e δ=(e δ).bind λp=>asInt p.1.data λi=>some (some i,p.2):=by
 unfold oI asInt
 cases e δ with
 | none=>rfl
 | some p=>rfl
theorem Z5q(e:FE)(lo hi:FO)(δ:Zi):fSl e lo hi δ=(e δ).bind λp=>(lo p.2).bind λq=>(hi q.2).bind λr=>Zt5 p.1.data λds=>some (.nd ((cutD ds q.1 r.1).map OT.fz),r.2):=by
 unfold fSl Zt5;rfl
theorem Zzq(e:FE)(δ:Zi):Zgi e δ=(e δ).bind λp=>Zt5 p.1.data λds=>some (ds,p.2):=by
 unfold Zgi Zt5;rfl
theorem Z6m(e:FE)(δ:Zi):iTp e δ=(e δ).bind λp=>Z2l p.1.data λds=>some (ds,p.2):=by
 unfold iTp Z2l;rfl
noncomputable def as1{α:Type}(ds:List Xa)(k:Int->Option α):Option α:=match ds with|[.int i]=>k i|_=>none
theorem Z2c{α:Type}(i:Int)(k:Int->Option α):as1 [.int i] k=k i:=rfl
noncomputable def as2{α:Type}(ds:List Xa)(k:Int->Int->Option α):Option α:=match ds with|[.int i,.int j]=>k i j|_=>none
theorem Ya4{α:Type}(i j:Int)(k:Int->Int->Option α):as2 [.int i,.int j] k=k i j:=rfl
theorem Z6t(a:FA)(δ:Zi):iRa a δ=(a δ).bind λp=>as1 (OT.datas p.1) λj=>if rOk j=true then some (Zc7 0 j.toNat,p.2)else none:=by
 unfold iRa as1;rfl
theorem Z6h(a:FA)(δ:Zi):iRb a δ=(a δ).bind λp=>as2 (OT.datas p.1) λi j=>if(rOk i&&rOk j)=true then some (Zc7 i (j-i).toNat,p.2)else none:=by
 unfold iRb as2;rfl
theorem Zrx(a:FA)(δ:Zi):Zyi a δ=(a δ).bind λp=>as1 (OT.datas p.1) λj=>if rOk j=true∧j.toNat≤Xx then some (.nd ((Zc7 0 j.toNat).map OT.fz),p.2)else none:=by
 unfold Zyi as1;rfl
theorem Z1a(a b:FE)(δ:Zi):Z3a a b δ=(a δ).bind λp=>(b p.2).bind λq=>asInt q.1.data λk=>if rOk k=true∧k.toNat≤Xx then some (.nd (X4 k.toNat (.fz p.1.data)),p.2)else none:=by
 unfold Z3a asInt;rfl
noncomputable def Yac{α:Type}(ds:List Xa)(k:List Xa->List Xa->Option α):Option α:=match ds with|[.list i,.list j]=>k i j|_=>none
theorem Ycs{α:Type}(i j:List Xa)(k:List Xa->List Xa->Option α):Yac [.list i,.list j] k=k i j:=rfl
theorem Z8h(a:FA)(δ:Zi):Z6e a δ=(a δ).bind λp=>Yac (OT.datas p.1) λas bs=>some (Zjf as bs,p.2):=by
 unfold Z6e Yac;rfl
theorem Ych(i:Nat)(d:Xa)(δ:Zi):gNm i d δ=some (δ.set i (some (.fz d))):=rfl
theorem Z9e(i:Nat)(d:Xa)(δ:Zi):Ydy i d δ=if Zgv d=true then some (δ.set i (some (.fz d)))else none:=rfl
theorem Ybg(δ:Zi):gNl [] δ=some δ:=rfl
theorem Ybq(g:FG)(gs:FGs)(d:Xa)(r:List Xa)(δ:Zi):gCn g gs (d :: r) δ=(g d δ).bind (gs r):=rfl
theorem Ybf(n:Nat)(gs:FGs)(ds:List Xa)(δ:Zi):gTp n gs (.tuple ds) δ=if ds.length=n then gs ds δ else none:=rfl
theorem Ya5(n:Nat)(gs:FGs)(ds:List Xa)(δ:Zi):gLs n gs (.list ds) δ=if ds.length=n then gs ds δ else none:=rfl
noncomputable def RS.thn(r:RS)(g:FS):RS:=match r with| .nx δ=>g δ|r=>r
theorem Z32(δ:Zi)(g:FS):(RS.nx δ).thn g=g δ:=rfl
theorem Z5n(r:OT)(δ:Zi)(g:FS):(RS.rt r δ).thn g= .rt r δ:=rfl
theorem Ybk(δ:Zi)(g:FS):(RS.bk δ).thn g= .bk δ:=rfl
theorem Ycc(δ:Zi)(g:FS):(RS.ct δ).thn g= .ct δ:=rfl
theorem Yco(c:Str)(δ:Zi)(g:FS):(RS.ex c δ).thn g= .ex c δ:=rfl
theorem Zu2(f g:FS)(δ:Zi):Z4 f g δ=(f δ).thn g:=rfl
theorem Yb0(δ:Zi):fNx δ= .nx δ:=rfl
theorem Z8q(δ:Zi):Yda δ= .bk δ:=rfl
theorem Z99(δ:Zi):Ydm δ= .ct δ:=rfl
theorem Z7a(c:Str)(δ:Zi):Zi5 c δ= .ex c δ:=rfl
theorem Z7x(δ:Zi):Yaj δ= .rt (.fz .none) δ:=rfl
noncomputable def onO{α:Type}(o:Option (α×Zi))(k:α->Zi->RS):RS:=match o with|some (r,δ')=>k r δ'|none=>.bad
theorem Wm{α:Type}(r:α)(δ:Zi)(k:α->Zi->RS):onO (some (r,δ)) k=k r δ:=rfl
theorem Ze0(e:FE)(k:OT->Zi->RS)(δ:Zi):wE e k δ=onO (e δ) k:=by
 unfold wE onO
 cases e δ<;>rfl
noncomputable def onF(x:RF)(δ:Zi)(k:OT->Zi->RS):RS:=match x with| .ok r=>k r δ| .exn c=>.ex c δ| .bad=>.bad
theorem Yc6(r:OT)(δ:Zi)(k:OT->Zi->RS):onF (.ok r) δ k=k r δ:=rfl
theorem Yb4(c:Str)(δ:Zi)(k:OT->Zi->RS):onF (.exn c) δ k= .ex c δ:=rfl
theorem Yeh(F:FD)(a:FA)(k:OT->Zi->RS)(δ:Zi):wX F a k δ=onO (a δ) λrs δ1=>onF (F (OT.datas rs)) δ1 k:=by
 unfold wX onO onF
 cases a δ with
 | none=>rfl
 | some p=>rfl
theorem Zsc(t:FT)(u w:FS)(δ:Zi):Jv t u w δ=onO (t δ) λb δ'=>if b=true then u δ' else w δ':=by
 unfold Jv onO
 cases t δ<;>rfl
theorem Z2k(it:FI)(g:FG)(u:FS)(δ:Zi):Zbw it g u δ=onO (it δ) λds δ1=>forLoop g u ds δ1:=by
 unfold Zbw onO
 cases it δ<;>rfl
theorem Zvo(r:OT)(δ:Zi):Ztk r δ= .nx δ:=rfl
theorem Z1t(r:OT)(δ:Zi):Ja r δ= .rt r δ:=rfl
theorem Z70(r:OT)(δ:Zi):Z8n r δ=if Zgv r.data=true then .rt (.fz r.data) δ else .bad:=rfl
theorem Z1l(i:Nat)(r:OT)(δ:Zi):Y6 i r δ= .nx (δ.set i (some (.fz r.data))):=rfl
theorem Z8i(i:Nat)(r:OT)(δ:Zi):Z87 i r δ=if Zgv r.data=true then .nx (δ.set i (some (.fz r.data)))else .bad:=rfl
theorem Zvv(i:Nat)(r:OT)(δ:Zi):Zb5 i r δ= .nx (δ.set i (some r)):=rfl
noncomputable def onD(o:Option Zi):RS:=match o with|some δ=>.nx δ|none=>.bad
theorem Z7y(δ:Zi):onD (some δ)= .nx δ:=rfl
theorem Z9i(g:FG)(r:OT)(δ:Zi):Z69 g r δ=onD (g r.data δ):=rfl
noncomputable def onT(o:Option (Option OT))(k:OT->RS):RS:=match o with|some (some t)=>k t|_=>.bad
theorem Zzz(t:OT)(k:OT->RS):onT (some (some t)) k=k t:=rfl
theorem Zoq(i:Nat)(δ:Zi):Zfb i δ=onT δ[i]? λt=>.rt t (δ.set i none):=rfl
theorem Zpx(i:Nat)(u:FS)(δ:Zi):Zeg i u δ=onT δ[i]? λt=>u (δ.set i (some (.fz t.data))):=rfl
noncomputable def onN(o:Option (Option OT))(k:List OT->RS):RS:=match o with|some (some (.nd ts))=>k ts|_=>.bad
theorem Zv4(t:List OT)(k:List OT->RS):onN (some (some (.nd t))) k=k t:=rfl
theorem Ziy(i:Nat)(e:FE)(δ:Zi):Wk i e δ=onN δ[i]? λ_=>onO (e δ) λr δ1=>onN δ1[i]? λts=>if ts.length<Xx then .nx (δ1.set i (some (.nd (ts ++ [.fz r.data]))))else .bad:=by
 unfold Wk
 generalize δ[i]? =o
 rcases o with _|_|(_|_|_|_)
 ·rfl
 ·rfl
 ·rfl
 ·show wE e _ δ=onO (e δ) _
  rw[Ze0]
  congr 1
 ·rfl
 ·rfl
theorem Zz3(i:Nat)(e:FE)(δ:Zi):Zo7 i e δ=onN δ[i]? λ_=>onO (e δ) λr δ1=>onN δ1[i]? λts=>if ts.length<Xx then .nx (δ1.set i (some (.nd (ts ++ [r]))))else .bad:=by
 unfold Zo7
 generalize δ[i]? =o
 rcases o with _|_|(_|_|_|_)
 ·rfl
 ·rfl
 ·rfl
 ·show wE e _ δ=onO (e δ) _
  rw[Ze0]
  congr 1
 ·rfl
 ·rfl
noncomputable def onI(d:Xa)(k:Int->RS):RS:=match d with| .int i=>k i|_=>.bad
theorem Yds(i:Int)(k:Int->RS):onI (.int i) k=k i:=rfl
noncomputable def onX(o:Option Nat)(k:Nat->RS):RS:=match o with|some i=>k i|_=>.bad
theorem Ydw(i:Nat)(k:Nat->RS):onX (some i) k=k i:=rfl
theorem Yad(i:Nat)(e j:FE)(δ:Zi):Ybi i e j δ=onO (e δ) λr δ1=>onN δ1[i]? λts=>onO (j δ1) λn _=>onI n.data λk=>onX (ixN ts.length k) λj=>.nx (δ1.set i (some (.nd (ts.set j (.fz r.data))))):=by
 unfold Ybi
 rw[Ze0]
 congr 1
 funext r δ1
 generalize δ1[i]? =o
 rcases o with _|_|(_|_|_|_)
 ·rfl
 ·rfl
 ·rfl
 ·show wE j _ δ1=onO (j δ1) _
  rw[Ze0]
  congr 1
  funext n δ2
  generalize n.data=d
  cases d<;>try rfl
  show(match ixN _ _ with|some j=>_|none=>_)=onX (ixN _ _) _
  generalize ixN _ _=x
  cases x<;>rfl
 ·rfl
 ·rfl
noncomputable def onU(o:Option OT)(k:List OT->RS):RS:=match o with|some (.nd ts)=>k ts|_=>.bad
theorem Ydh(t:List OT)(k:List OT->RS):onU (some (.nd t)) k=k t:=rfl
noncomputable def onP(o:Option (Option OT))(k:List OT->RS):RS:=match o with|some (some (.tp ts))=>k ts|_=>.bad
theorem Yeb(t:List OT)(k:List OT->RS):onP (some (some (.tp t))) k=k t:=rfl
theorem Z3f(i c:Nat)(e:FE)(δ:Zi):Zxs i c e δ=onP δ[i]? λts=>onU ts[c]? λus=>onO (e δ) λr _=>if us.length<Xx then .nx (δ.set i (some (.tp (ts.set c (.nd (us ++ [.fz r.data]))))))else .bad:=by
 unfold Zxs
 generalize δ[i]? =o
 rcases o with _|_|(_|_|ts|_)
 ·rfl
 ·rfl
 ·rfl
 ·rfl
 ·show(match ts[c]? with|some (.nd us)=>wE e _ δ|_=>_)=onU ts[c]? _
  generalize ts[c]? =o
  rcases o with _|(_|_|_|_)
  ·rfl
  ·rfl
  ·show wE e _ δ=onO (e δ) _
   rw[Ze0]
  ·rfl
  ·rfl
 ·rfl
noncomputable def on2(ds:List Xa)(k:Xa->Xa->RS):RS:=match ds with|[d,e]=>k d e|_=>.bad
theorem Ydj(d e:Xa)(k:Xa->Xa->RS):on2 [d,e] k=k d e:=rfl
theorem Z8s(i j:Nat)(a:FA)(δ:Zi):Ya8 i j a δ=onO (a δ) λrs δ1=>on2 (OT.datas rs) λd e=>.nx ((δ1.set i (some (.fz d))).set j (some (.fz e))):=by
 unfold Ya8 onO on2
 cases a δ<;>rfl
theorem Zmw{np n:Nat}{S:FS}{ds:List Xa}(h:ds.length=np):J0 np n S ds=(S (Zgk n ds)).told:=by
 unfold J0;rw[if_pos h]
theorem Z0d(δ:Zi):(RS.nx δ).told= .ok (.fz .none):=rfl
theorem Zr8(r:OT)(δ:Zi):(RS.rt r δ).told= .ok r:=rfl
theorem Z8x(c:Str)(δ:Zi):(RS.ex c δ).told= .exn c:=rfl
theorem Ycz(i j:Int):Zau (.int i) (.int j)=some (.int (i+j)):=rfl
theorem Yd7(i j:Int):gSb (.int i) (.int j)=some (.int (i-j)):=rfl
theorem Yd9(i j:Int):gLt (.int i) (.int j)=some (.bool (decide (i<j))):=rfl
theorem Ydb(i j:Int):gLe (.int i) (.int j)=some (.bool (decide (i≤j))):=rfl
theorem Z8u(i j:Int):gGt (.int i) (.int j)=some (.bool (decide (j<i))):=rfl
theorem Yaf(i j:Int):gGe (.int i) (.int j)=some (.bool (decide (j≤i))):=rfl
theorem Zhj{i j:Int}(h:Z0k i j=true):Zcv (.int i) (.int j)=some (.int (i*j)):=by
 unfold Zcv i2c;dsimp only;rw[if_pos h]
theorem Zf8{i j:Int}(h:Z4l i j=true):Zac (.int i) (.int j)=some (.int (i.fdiv j)):=by
 unfold Zac i2c;dsimp only;rw[if_pos h]
theorem Zxz{i j:Int}(h:j≠0):Zez (.int i) (.int j)=some (.int (i.fmod j)):=by
 unfold Zez i2c Yc5;dsimp only;rw[if_pos (decide_eq_true h)]
theorem Zko{m n:Nat}{x y:Int}(h:Bt m x)(k:Bt n y)(hmn:m+n≤100000000:=by decide):Z0k x y=true:=Zg9.mpr (h.mulOk k hmn)
theorem Zyt{x y:Int}(h:x.natAbs<2^64):Z0k x y=true:=Zg9.mpr (.of_left (intBits_le_64 (by omega) (by omega)))
theorem Z57{x y:Int}(h:y.natAbs<2^64):Z0k x y=true:=Zg9.mpr (.of_right (intBits_le_64 (by omega) (by omega)))
theorem Zfx{n:Nat}{i j:Int}(h0:j≠0)(h:Bt n j)(hn:n≤9000:=by decide):Z4l i j=true:=by
 obtain⟨h1,h2⟩:=DivOk.of (i:=i) h0 h hn
 unfold Z4l
 rw[decide_eq_true h1,decide_eq_true h2];rfl
theorem Yai(i j:Int):gEq (.int i) (.int j)=some (.bool (decide (i=j))):=by
 show some (PyData.bool (i==j))=_
 rw[show(i==j)=decide (i=j)from rfl]
theorem Z92(i j:Int):gNe (.int i) (.int j)=some (.bool (!decide (i=j))):=by
 show some (PyData.bool (!(i==j)))=_
 rw[show(i==j)=decide (i=j)from rfl]
theorem Yel(d:Xa):gIs d .none=some (.bool (Zfk d)):=rfl
theorem Z8b(d:Xa):Zhf d .none=some (.bool (!Zfk d)):=rfl
theorem Zr2(ds:List Xa)(i:Int):gIx (.list ds) (.int i)=(atI ds i).bind λx=>some (.fz x):=rfl
theorem Yd0(ds:List Xa)(i:Int):gIx (.tuple ds) (.int i)=(atI ds i).bind λx=>some (.fz x):=rfl
theorem Zmj(ds:List Xa):Za5 [.list ds]=some (.int ds.length):=rfl
theorem Z31(ds:List Xa):Za5 [.tuple ds]=some (.int ds.length):=rfl
theorem Zrd(i:Int):Z28 [.int i]=some (.int (i.natAbs:Int)):=by
 show some (Xk (if i<0 then -i else i))=_
 congr 2;split<;>omega
theorem Ybt(i j:Int):Yem [.int i,.int j]=some (.int (if j>i then j else i)):=rfl
theorem Ybr(i j:Int):Ydu [.int i,.int j]=some (.int (if j<i then j else i)):=rfl
theorem Ycg(i:Int):Ycf [.int i]=some (.int i):=rfl
theorem Ycv(b:Bool):Ycf [.bool b]=some (.int (if b then 1 else 0)):=rfl
theorem Zz7(ds:List Xa):Zq6 [.list ds]=some (.nd (ds.map OT.fz)):=rfl
theorem Z81(ds:List Xa):Zq6 [.tuple ds]=some (.nd (ds.map OT.fz)):=rfl
theorem Z7c{ds es:List Xa}(h:ds.length+es.length≤Xx):Zlt (.list ds) (.list es)=some (.nd ((ds ++ es).map OT.fz)):=by
 unfold Zlt;dsimp only;rw[if_pos h]
theorem Z7i(i:Int):Zqx (.int i)=some (.int (-i)):=rfl
theorem Yb8(b:Bool):Z7t (.bool b)=some (.bool (!b)):=rfl
theorem Ycb(b:Bool):Zxg (.bool b)=some b:=rfl
theorem Yb3(i:Int):Zxg (.int i)=some (i !=0):=rfl
theorem Yce:Zxg .none=some false:=rfl
theorem Ybv(ds:List Xa):Zxg (.list ds)=some (!ds.isEmpty):=rfl
theorem Zvu{n:Nat}{d:Xa}(h:Sh n d)(hp:Yy d=true)(hn:n≤60):gNe d d=some (.bool false):=by
 have s:Vo d=true:=(h.shp (by omega)).ok
 unfold gNe
 rw[if_pos (by rw[s];rfl),Zku hp];rfl
theorem Zoz{gg:FG}{u:FS}{ds:List Xa}{δ:Zi}(I:Nat->Zi->Prop)(h0:I 0 δ)
  (turn:∀(i:Nat) (d:Xa) (δ:Zi),ds[i]? =some d->I i δ->∃δ1 δ2,gg d δ=some δ1∧(u δ1= .nx δ2∨u δ1= .ct δ2)∧I (i+1) δ2):∃δ',forLoop gg u ds δ= .nx δ'∧I ds.length δ':=by
 induction ds generalizing δ I with
 | nil=>exact⟨δ,rfl,h0⟩
 | cons d ds ih=>
  obtain⟨δ1,δ2,e1,e2,h1⟩:=turn 0 d δ rfl h0
  obtain⟨δ',e3,h3⟩:=ih (δ:=δ2) (λi δ=>I (i+1) δ) h1 λi d' δ hd hi=>turn (i+1) d' δ (by simpa using hd) hi
  refine⟨δ',?_,h3⟩
  rw[Zgl,e1]
  dsimp only
  rcases e2 with e2|e2<;>rw[e2]<;>exact e3
noncomputable def Goes(r:RS)(Q:Zi->Prop):Prop:=∃δ,(r= .nx δ∨r= .ct δ)∧Q δ
theorem Goes.nx{δ:Zi}{Q:Zi->Prop}(h:Q δ):Goes (.nx δ) Q:=⟨δ,.inl rfl,h⟩
theorem Goes.ct{δ:Zi}{Q:Zi->Prop}(h:Q δ):Goes (.ct δ) Q:=⟨δ,.inr rfl,h⟩
theorem Zuo{α:Type}{me:FE}{cs:Zi}(mk:α->Xa)(f:α->OT):∀(xs:List α) (z:Option OT),(∀x∈xs,me (some (.fz (mk x)) :: cs)=some (f x,some (.fz (mk x)) :: cs)) ->
  ∃z',compLoop (gNm 0) Zg2 me (xs.map mk) (z :: cs)=some (xs.map f,z' :: cs)
 | [],z,_=>⟨z,rfl⟩
 | x :: xs,z,h=>by
  obtain⟨z',e⟩:=Zuo mk f xs (some (.fz (mk x))) λy hy=>h y (.tail _ hy)
  refine⟨z',?_⟩
  rw[XF,compLoop]
  show(some (some (OT.fz (mk x)) :: cs)).bind _=_
  rw[Xh]
  show(some (true,some (OT.fz (mk x)) :: cs)).bind _=_
  rw[Xh,if_pos rfl,h x (.head _),Xh,e];rfl
theorem Zoy{α:Type}{t:FT}{me:FE}{cs:Zi}(mk:α->Xa)(p:α->Bool)(f:α->OT):∀(xs:List α) (z:Option OT),(∀x∈xs,t (some (.fz (mk x)) :: cs)=some (p x,some (.fz (mk x)) :: cs))->(∀x∈xs,p x=true->me (some (.fz (mk x)) :: cs)=some (f x,some (.fz (mk x)) :: cs)) ->
  ∃z',compLoop (gNm 0) t me (xs.map mk) (z :: cs)=some ((xs.filter p).map f,z' :: cs)
 | [],z,_,_=>⟨z,rfl⟩
 | x :: xs,z,ht,h=>by
  obtain⟨z',e⟩:=Zoy mk p f xs (some (.fz (mk x))) (λy hy=>ht y (.tail _ hy)) λy hy=>h y (.tail _ hy)
  refine⟨z',?_⟩
  rw[XF,compLoop]
  show(some (some (OT.fz (mk x)) :: cs)).bind _=_
  rw[Xh,ht x (.head _),Xh]
  dsimp only
  by_cases hp:p x=true
  ·rw[if_pos hp,h x (.head _) hp,Xh,e,Uc hp];rfl
  ·rw[if_neg hp,e,Ud hp]
theorem Zpa{α:Type}{caps:List Nat}{it:FI}{me:FE}{cs δ δ1:Zi}(xs:List α)(mk:α->Xa)(f:α->OT)(hi:it δ=some (xs.map mk,δ1))(hz:xs.length≤Xx)(hb:blk 1 caps δ1=none :: cs)
  (h:∀x∈xs,me (some (.fz (mk x)) :: cs)=some (f x,some (.fz (mk x)) :: cs)):Wj 1 caps it (gNm 0) Zg2 me δ=some (.nd (xs.map f),δ1):=by
 unfold Wj
 rw[hi,Xh]
 dsimp only
 rw[if_pos (by rw[Xj];exact hz),hb]
 obtain⟨z',e⟩:=Zuo (me:=me) (cs:=cs) mk f xs none h
 rw[e];rfl
theorem Zrv{α:Type}{caps:List Nat}{it:FI}{t:FT}{me:FE}{cs δ δ1:Zi}(xs:List α)(mk:α->Xa)(p:α->Bool)(f:α->OT)(hi:it δ=some (xs.map mk,δ1))(hz:xs.length≤Xx)(hb:blk 1 caps δ1=none :: cs)
  (ht:∀x∈xs,t (some (.fz (mk x)) :: cs)=some (p x,some (.fz (mk x)) :: cs)) (h:∀x∈xs,p x=true->me (some (.fz (mk x)) :: cs)=some (f x,some (.fz (mk x)) :: cs)):Wj 1 caps it (gNm 0) t me δ=some (.nd ((xs.filter p).map f),δ1):=by
 unfold Wj
 rw[hi,Xh]
 dsimp only
 rw[if_pos (by rw[Xj];exact hz),hb]
 obtain⟨z',e⟩:=Zoy (t:=t) (me:=me) (cs:=cs) mk p f xs none ht h
 rw[e];rfl
theorem Yeg:(2≤Xx)=True:=by simp[Qj]
theorem Yek:(1≤Xx)=True:=by simp[Qj]
theorem Ydq:(0≤Xx)=True:=by simp
theorem Z80:(3≤Xx)=True:=by simp[Qj]
theorem Zfs{α:Type}(f:α->Xa)(xs:List α):(xs.map λx=>OT.fz (f x)).map OT.data=xs.map f:=by
 rw[X5];exact XH λx _=>OT.data_fz _
theorem Z2s{α:Type}{j:Int}{x:α}(h0:0≤j)(h1:j≤1000000):(if rOk j=true then some x else none)=some x:=if_pos (Zjj (by omega) h1)
theorem Z2m{α:Type}{i j:Int}{x:α}(h0:0≤i)(h1:i≤1000000)(h2:0≤j)(h3:j≤1000000):(if(rOk i&&rOk j)=true then some x else none)=some x:=if_pos (by rw[Zjj (by omega) h1,Zjj (by omega) h3];rfl)
theorem Zxu{r:RS}{k:Nat}(h:k≤1000000):(if k<Xx then r else .bad)=r:=if_pos (by rw[Qj];omega)
noncomputable def EvV(e:FE)(δ:Zi)(d:Xa):Prop:=∃t,e δ=some (t,δ)∧t.data=d
noncomputable def EvA(a:FA)(δ:Zi)(ds:List Xa):Prop:=∃ts,a δ=some (ts,δ)∧OT.datas ts=ds
noncomputable def EvT(t:FT)(δ:Zi)(b:Bool):Prop:=t δ=some (b,δ)
noncomputable def Told(F:FD)(ds:List Xa)(d:Xa):Prop:=∃t,F ds= .ok t∧t.data=d
section
variable {e a b:FE}{as:FA}{δ δ':Zi}{x y d:Xa}{xs ds:List Xa}{i j:Nat}{p q:Bool}{t u:FT}{S S':FS}{r:RS}
theorem EvV.cast{e:FE}{δ:Zi}{x y:Xa}(h:EvV e δ x)(k:x=y):EvV e δ y:=k▸h
theorem Za(h:δ[i]? =some (some (.fz d)):=by rfl):EvV (Zd i) δ d:=⟨_,by rw[Znj,h,Zne],OT.data_fz _⟩
theorem Zyh{t:OT}(h:δ[i]? =some (some t))(hd:t.data=d):EvV (Zq0 i) δ d:=⟨_,by rw[Z11,h,Z0e],by rw[OT.data_fz,hd]⟩
theorem Z0:EvV (fC d) δ d:=⟨_,rfl,OT.data_fz _⟩
theorem Zr{g:Xa->Xa->Option Xa}(ha:EvV a δ x)(hb:EvV b δ y)(h:g x y=some d):EvV (Zf g a b) δ d:=by
 obtain⟨_,e1,d1⟩:=ha
 obtain⟨_,e2,d2⟩:=hb
 exact⟨_,by rw[Zw7,e1,Xh,e2,Xh,d1,d2,h,Xh],OT.data_fz _⟩
theorem Zx7{g:Xa->Xa->Option OT}{o:OT}(ha:EvV a δ x)(hb:EvV b δ y)(h:g x y=some o)(hd:o.data=d):EvV (Ye g a b) δ d:=by
 obtain⟨_,e1,d1⟩:=ha
 obtain⟨_,e2,d2⟩:=hb
 exact⟨_,by rw[Z1d,e1,Xh,e2,Xh,d1,d2,h,Xh],hd⟩
theorem Wd(ha:EvV a δ x)(hb:EvV b δ y)(h:gIx x y=some (.fz d)):EvV (Ye gIx a b) δ d:=Zx7 ha hb h (OT.data_fz _)
theorem Yp{i j:Int}(ha:EvV a δ (.int i))(hb:EvV b δ (.int j)):EvV (Zf Zau a b) δ (.int (i+j)):=Zr ha hb rfl
theorem Zdy{i j:Int}(ha:EvV a δ (.int i))(hb:EvV b δ (.int j)):EvV (Zf gSb a b) δ (.int (i-j)):=Zr ha hb rfl
theorem Z7k{g:Xa->Option Xa}(ha:EvV a δ x)(h:g x=some d):EvV (fUn g a) δ d:=by
 obtain⟨_,e1,d1⟩:=ha
 exact⟨_,by rw[Z40,e1,Xh,d1,h,Xh],OT.data_fz _⟩
theorem Zdm(ha:EvV a δ (.bool true))(hb:EvV b δ d):EvV (Zqw a b) δ d:=by
 obtain⟨_,e1,d1⟩:=ha
 obtain⟨_,e2,d2⟩:=hb
 exact⟨_,by rw[Zr7,e1,Xh,d1,Yap,e2],d2⟩
theorem Zxi(ha:EvV a δ (.bool false)):EvV (Zqw a b) δ (.bool false):=by
 obtain⟨_,e1,d1⟩:=ha
 exact⟨_,by rw[Zr7,e1,Xh,d1,Z8z],OT.data_fz _⟩
theorem Zey{T:String}(ha:EvV a δ x)(hf:Zih x=false:=by rfl):EvV (Zfc T a) δ (.bool (Zob T x)):=by
 obtain⟨_,e1,d1⟩:=ha
 exact⟨_,by rw[Z0v,e1,Xh,d1,if_neg (by rw[hf];decide)],OT.data_fz _⟩
theorem Zh:EvA Zq δ []:=⟨_,rfl,Zfa⟩
theorem Zb(h:EvV e δ d)(k:EvA as δ ds):EvA (Zc e as) δ (d :: ds):=by
 obtain⟨_,e1,d1⟩:=h
 obtain⟨_,e2,d2⟩:=k
 exact⟨_,by rw[Zpd,e1,Xh,e2,Xh],by rw[Zdk,d1,d2]⟩
theorem Zk{F:FD}(h:EvA as δ ds)(k:Told F ds d):EvV (Zu F as) δ d:=by
 obtain⟨_,e1,d1⟩:=h
 obtain⟨_,e2,d2⟩:=k
 exact⟨_,by rw[Zv1,e1,Xh,d1,e2,Z46],d2⟩
theorem J6{g:List Xa->Option Xa}(h:EvA as δ ds)(k:g ds=some d):EvV (Zbx g as) δ d:=by
 obtain⟨_,e1,d1⟩:=h
 exact⟨_,by rw[Z1w,e1,Xh,d1,k,Xh],OT.data_fz _⟩
theorem Zxn{g:List Xa->Option OT}{o:OT}(h:EvA as δ ds)(k:g ds=some o)(hd:o.data=d):EvV (fBl g as) δ d:=by
 obtain⟨_,e1,d1⟩:=h
 exact⟨_,by rw[Zxx,e1,Xh,d1,k,Xh],hd⟩
theorem Ze7:∀ts:List OT,(OT.datas ts).length=ts.length
 | []=>by rw[Zfa];rfl
 | t :: ts=>by rw[Zdk,BR,BR,Ze7 ts]
theorem datas_map:∀ts:List OT,OT.datas ts=ts.map OT.data
 | []=>Zfa
 | t :: ts=>by rw[Zdk,XF,datas_map ts]
theorem Zbj(h:EvA as δ ds)(hl:ds.length≤1000):EvV (Zif as) δ (.tuple ds):=by
 obtain⟨ts,e1,d1⟩:=h
 have:=Ze7 ts
 rw[d1]at this
 exact⟨_,by rw[Zze,e1,Xh,if_pos (by rw[Qj];show ts.length≤_;omega)],by rw[OT.data_fz];exact congrArg _ d1⟩
theorem Zmf(h:EvA as δ ds)(hl:ds.length≤1000):EvV (Zdu as) δ (.list ds):=by
 obtain⟨ts,e1,d1⟩:=h
 have:=Ze7 ts
 rw[d1]at this
 exact⟨_,by rw[Ztf,e1,Xh,if_pos (by rw[Qj];show ts.length≤_;omega)],by rw[OT.data_nd,←datas_map,d1]⟩
theorem Zms{o:OT}{b:Bool}(h:o.data= .bool b):o= .fz (.bool b):=by
 cases o with
 | fz d=>rw[OT.data_fz]at h;rw[h]
 | nd ts=>rw[OT.data_nd]at h;cases h
 | tp ts=>rw[OT.data_tp]at h;cases h
 | dc _ _ _=>rw[OT.data_dc]at h;cases h
theorem Jx(h:EvV e δ (.bool p)):EvT (tV e) δ p:=by
 obtain⟨_,e1,d1⟩:=h
 unfold EvT
 rw[Z9h,e1,Xh,Zms d1,Z4e]
theorem Z7u(h:EvV e δ d)(k:Zxg d=some p):EvT (tD e) δ p:=by
 obtain⟨_,e1,d1⟩:=h
 unfold EvT
 rw[Z9r,e1,Xh,d1,k,Xh]
theorem Zbl(h:EvV e δ (.bool p)):EvT (tD e) δ p:=Z7u h rfl
theorem Zex(h:EvT t δ p):EvT (tNo t) δ (!p):=by
 unfold EvT at h⊢
 rw[Z58,h,Xh]
theorem Zn1(h:EvT t δ true)(k:EvT u δ p):EvT (tAn t u) δ p:=by
 unfold EvT at h k⊢
 rw[Zx3,h,Xh,if_pos rfl,k]
theorem Znm(h:EvT t δ false):EvT (tAn t u) δ false:=by
 unfold EvT at h⊢
 rw[Zx3,h,Xh,if_neg Xm]
theorem Zmc(h:EvT t δ false)(k:EvT u δ p):EvT (tO t u) δ p:=by
 unfold EvT at h k⊢
 rw[Z6k,h,Xh,if_neg Xm,k]
theorem Z60(h:EvT t δ true):EvT (tO t u) δ true:=by
 unfold EvT at h⊢
 rw[Z6k,h,Xh,if_pos rfl]
theorem Yv(h:S δ= .nx δ')(k:S' δ'=r):Z4 S S' δ=r:=by rw[Zu2,h,Z32,k]
theorem Zsd{o:OT}(h:S δ= .rt o δ'):Z4 S S' δ= .rt o δ':=by rw[Zu2,h,Z5n]
theorem Zt(h:EvV e δ d):wE e (Y6 i) δ= .nx (δ.set i (some (.fz d))):=by
 obtain⟨_,e1,d1⟩:=h
 rw[Ze0,e1,Wm,Z1l,d1]
theorem Zym(h:EvV e δ d):∃o,wE e Ja δ= .rt o δ∧o.data=d:=by
 obtain⟨_,e1,d1⟩:=h
 exact⟨_,by rw[Ze0,e1,Wm,Z1t],d1⟩
theorem Zbh(h:EvT t δ true)(k:S δ=r):Jv t S S' δ=r:=by
 unfold EvT at h
 rw[Zsc,h,Wm,if_pos rfl,k]
theorem Zw(h:EvT t δ false)(k:S' δ=r):Jv t S S' δ=r:=by
 unfold EvT at h
 rw[Zsc,h,Wm,if_neg (by decide),k]
noncomputable def Zks(S:FS)(δ:Zi)(d:Xa):Prop:=∃o δ',S δ= .rt o δ'∧o.data=d
theorem Zo(h:S δ= .nx δ')(k:Zks S' δ' d):Zks (Z4 S S') δ d:=by
 obtain⟨o,δ2,e,hd⟩:=k
 exact⟨o,δ2,Yv h e,hd⟩
theorem Jr(k:Zks S δ d):Zks (Z4 S S') δ d:=by
 obtain⟨o,δ2,e,hd⟩:=k
 exact⟨o,δ2,Zsd e,hd⟩
theorem Yc(h:EvV e δ d):Zks (wE e Ja) δ d:=by
 obtain⟨o,e1,hd⟩:=Zym h
 exact⟨o,δ,e1,hd⟩
theorem Zai(h:EvT t δ true)(k:Zks S δ d):Zks (Jv t S S') δ d:=by
 obtain⟨o,δ2,e,hd⟩:=k
 exact⟨o,δ2,Zbh h e,hd⟩
theorem Zx{np n:Nat}(hl:xs.length=np)(k:Zks S (Zgk n xs) d):Told (J0 np n S) xs d:=by
 obtain⟨o,δ2,e,hd⟩:=k
 exact⟨o,by rw[Zmw hl,e,Zr8],hd⟩
noncomputable def EvO(o:FO)(δ:Zi)(l:Option Int):Prop:=o δ=some (l,δ)
theorem Z83:EvO oN δ none:=rfl
theorem Z21{i:Int}(h:EvV e δ (.int i)):EvO (oI e) δ (some i):=by
 obtain⟨_,e1,d1⟩:=h
 unfold EvO
 rw[Yay,e1,Xh,d1,Zt4]
theorem Yat{lo hi:FO}{l h:Option Int}(he:EvV e δ (.list ds))(hl:EvO lo δ l)(hh:EvO hi δ h):EvV (fSl e lo hi) δ (.list (cutD ds l h)):=by
 obtain⟨_,e1,d1⟩:=he
 unfold EvO at hl hh
 exact⟨_,by rw[Z5q,e1,Xh,hl,Xh,hh,Xh,d1,Zuv],by rw[OT.data_nd,OT.map_fz]⟩
theorem Zyl{es:List Xa}(ha:EvV a δ (.list ds))(hb:EvV b δ (.list es))(h:ds.length+es.length≤1000000):EvV (Ye Zlt a b) δ (.list (ds ++ es)) :=
 Zx7 ha hb (Z7c (by rw[Qj];omega)) (by rw[OT.data_nd,OT.map_fz])
noncomputable def EvI(it:FI)(δ:Zi)(ds:List Xa):Prop:=it δ=some (ds,δ)
theorem Zae(h:EvV e δ (.list ds)):EvI (Zgi e) δ ds:=by
 obtain⟨_,e1,d1⟩:=h
 unfold EvI
 rw[Zzq,e1,Xh,d1,Zuv]
theorem Zhz{n:Nat}(h:EvA as δ [.int n])(hn:n≤1000000):EvI (iRa as) δ (Zc7 0 n):=by
 obtain⟨_,e1,d1⟩:=h
 unfold EvI
 rw[Z6t,e1,Xh,d1,Z2c,Z2s (by omega) (by omega),Qm]
theorem Zdz{it:FI}{g:FG}(h:EvI it δ ds)(k:forLoop g S ds δ=r):Zbw it g S δ=r:=by
 unfold EvI at h
 rw[Z2k,h,Wm,k]
theorem Zc3{α:Type}{caps:List Nat}{it:FI}{me:FE}{cs:Zi}(xs:List α)(mk f:α->Xa)(hi:EvI it δ (xs.map mk))(hz:xs.length≤1000000)(hb:blk 1 caps δ=none :: cs)(h:∀x∈xs,EvV me (some (.fz (mk x)) :: cs) (f x)):EvV (Wj 1 caps it (gNm 0) Zg2 me) δ (.list (xs.map f)):=by
 have g:∀x,∃o:OT,x∈xs->me (some (.fz (mk x)) :: cs)=some (o,some (.fz (mk x)) :: cs)∧o.data=f x:=λx=>by
  by_cases c:x∈xs
  ·obtain⟨o,h1,h2⟩:=h x c
   exact⟨o,λ_=>⟨h1,h2⟩⟩
  ·exact⟨.fz .none,λz=>absurd z c⟩
 obtain⟨o,ho⟩:=V1 g
 unfold EvI at hi
 refine⟨_,Zpa (cs:=cs) xs mk o hi (by rw[Qj];omega) hb (λx hx=>(ho x hx).1),?_⟩
 rw[OT.data_nd,X5]
 exact congrArg _ (XH λx hx=>(ho x hx).2)
theorem Zma{ts:List OT}(h:EvV e δ d)(hi:δ[i]? =some (some (.nd ts)))(hl:ts.length≤1000000):Wk i e δ= .nx (δ.set i (some (.nd (ts ++ [.fz d])))):=by
 obtain⟨_,e1,d1⟩:=h
 rw[Ziy,hi,Zv4,e1,Wm,hi,Zv4,Zxu hl,d1]
theorem Zmu{o:OT}(h:e δ=some (o,δ)):wE e (Zb5 i) δ= .nx (δ.set i (some o)):=by rw[Ze0,h,Wm,Zvv]
theorem Z5d{o:OT}(h:δ[i]? =some (some o))(hd:o.data=d):Zks (Zfb i) δ d:=⟨o,_,by rw[Zoq,h,Zzz],hd⟩
theorem Zmm{o:OT}(h:δ[i]? =some (some o))(k:S (δ.set i (some (.fz o.data)))=r):Zeg i S δ=r:=by rw[Zpx,h,Zzz,k]
theorem Zzh(h:EvV e δ d):wE e Ztk δ= .nx δ:=by
 obtain⟨_,e1,d1⟩:=h
 rw[Ze0,e1,Wm,Zvo]
theorem Zuq{np n:Nat}(hl:xs.length=np)(k:S (Zgk n xs)= .nx δ'):Told (J0 np n S) xs .none:=⟨_,by rw[Zmw hl,k,Z0d],OT.data_fz _⟩
theorem Told.ok{F:FD}{b:Bool}(h:Told F ds (.bool b)):F ds= .ok (.fz (.bool b)):=by
 obtain⟨o,e1,d1⟩:=h
 rw[e1,Zms d1]
theorem Zo6{o:OT}{i:Int}(h:o.data= .int i):o= .fz (.int i):=by
 cases o with
 | fz d=>rw[OT.data_fz]at h;rw[h]
 | nd ts=>rw[OT.data_nd]at h;cases h
 | tp ts=>rw[OT.data_tp]at h;cases h
 | dc _ _ _=>rw[OT.data_dc]at h;cases h
theorem Told.int{F:FD}{i:Int}(h:Told F ds (.int i)):F ds= .ok (.fz (.int i)):=by
 obtain⟨o,e1,d1⟩:=h
 rw[e1,Zo6 d1]
theorem Zsf{o:OT}(h:o.data= .none):o= .fz .none:=by
 cases o with
 | fz d=>rw[OT.data_fz]at h;rw[h]
 | nd ts=>rw[OT.data_nd]at h;cases h
 | tp ts=>rw[OT.data_tp]at h;cases h
 | dc _ _ _=>rw[OT.data_dc]at h;cases h
theorem Told.of{F:FD}{o:OT}(h:F ds= .ok o)(hd:o.data=d):Told F ds d:=⟨o,h,hd⟩
end
section
variable {e a b:FE}{as:FA}{δ δ':Zi}{x y d:Xa}{xs ds:List Xa}{i j:Int}{k:Nat}{p q:Bool}{t u:FT}{S S':FS}{r:RS}{Q:Xa->Prop}
theorem Jy(ha:EvV a δ (.int i))(hb:EvV b δ (.int j))(h:j≠0):EvV (Zf Zez a b) δ (.int (i.fmod j)):=Zr ha hb (Zxz h)
theorem Z54{i j:Int}(h:(decide (0<j)&&decide (j<18446744073709551616))=true):Zac (.int i) (.int j)=some (.int (i.fdiv j)):=by
 rw[XQ,decide_eq_true_eq,decide_eq_true_eq]at h
 exact Zf8 (Zfx (n:=64) (by omega) (Bt.of_lt (by omega) (by omega)))
theorem Zb4(ha:EvV a δ (.int i))(hb:EvV b δ (.int j))(h:(decide (0<j)&&decide (j<18446744073709551616))=true:=by decide):EvV (Zf Zac a b) δ (.int (i.fdiv j)):=Zr ha hb (Z54 h)
theorem Zdc(ha:EvV a δ (.int i))(hb:EvV b δ (.int j))(h:i.natAbs<2^64:=by decide):EvV (Zf Zcv a b) δ (.int (i*j)):=Zr ha hb (Zhj (Zyt h))
theorem Zmx(ha:EvV a δ (.int i))(hb:EvV b δ (.int j))(h:j.natAbs<2^64:=by decide):EvV (Zf Zcv a b) δ (.int (i*j)):=Zr ha hb (Zhj (Z57 h))
theorem Zbk(ha:EvV a δ (.int i))(hb:EvV b δ (.int j))(h:decide (i<j)=p):EvV (Zf gLt a b) δ (.bool p):=h▸Zr ha hb rfl
theorem Zqs(ha:EvV a δ (.int i))(hb:EvV b δ (.int j))(h:decide (j<i)=p):EvV (Zf gGt a b) δ (.bool p):=h▸Zr ha hb (Z8u _ _)
theorem Z20(ha:EvV a δ (.int i))(hb:EvV b δ (.int j))(h:decide (j≤i)=p):EvV (Zf gGe a b) δ (.bool p):=h▸Zr ha hb (Yaf _ _)
theorem Zia(ha:EvV a δ (.int i))(hb:EvV b δ (.int j))(h:decide (i=j)=p):EvV (Zf gEq a b) δ (.bool p):=h▸Zr ha hb (Yai _ _)
theorem Znk(ha:EvV a δ (.int i))(hb:EvV b δ (.int j))(h:(!decide (i=j))=p):EvV (Zf gNe a b) δ (.bool p):=h▸Zr ha hb (Z92 _ _)
theorem Zmp(ha:EvV a δ (.int i)):EvV (fUn Zqx a) δ (.int (-i)):=Z7k ha (Z7i _)
theorem Zq8{ds:List Xa}(h:EvV e δ (.list ds)):EvV (Zbx Za5 (Zc e Zq)) δ (.int ds.length):=J6 (Zb h Zh) (Zmj ds)
theorem Zrk(ha:EvV a δ (.list ds))(hb:EvV b δ (.int i))(h:atI ds i=some d):EvV (Ye gIx a b) δ d:=Wd ha hb (by rw[Zr2,h];rfl)
noncomputable def Zwk(S:FS)(δ:Zi)(Q:Xa->Prop):Prop:=∃d,Zks S δ d∧Q d
theorem Zd2(h:S δ= .nx δ')(k:Zwk S' δ' Q):Zwk (Z4 S S') δ Q:=k.imp λ_ k=>⟨Zo h k.1,k.2⟩
theorem Ztv(h:EvV e δ d)(k:Q d):Zwk (wE e Ja) δ Q:=⟨d,Yc h,k⟩
theorem Ybw{o:OT}(h:δ[k]? =some (some o))(hd:Q o.data):Zwk (Zfb k) δ Q:=⟨_,Z5d h rfl,hd⟩
theorem Ztr{np n:Nat}(hl:xs.length=np)(h:Zwk S (Zgk n xs) Q):∃d,Told (J0 np n S) xs d∧Q d:=h.imp λ_ k=>⟨Zx hl k.1,k.2⟩
theorem Zll{it:FI}{g:FG}(I:Nat->Zi->Prop)(hi:EvI it δ ds)(h0:I 0 δ)(turn:∀(i:Nat) (d:Xa) (δ:Zi),ds[i]? =some d->I i δ->∃δ1 δ2,g d δ=some δ1∧(S δ1= .nx δ2∨S δ1= .ct δ2)∧I (i+1) δ2)(k:∀δ',I ds.length δ'->Zwk S' δ' Q):Zwk (Z4 (Zbw it g S) S') δ Q:=by
 obtain⟨δ',e,h⟩:=Zoz I h0 turn
 exact Zd2 (Zdz hi e) (k δ' h)
theorem Zgn{it:FI}{g:FG}(I:Nat->Zi->Prop)(hi:EvI it δ ds)(h0:I 0 δ)(turn:∀(i:Nat) (d:Xa) (δ:Zi),ds[i]? =some d->I i δ->∃δ1 δ2,g d δ=some δ1∧(S δ1= .nx δ2∨S δ1= .ct δ2)∧I (i+1) δ2)(k:∀δ',I ds.length δ'->Zks S' δ' d):Zks (Z4 (Zbw it g S) S') δ d:=by
 obtain⟨δ',e,h⟩:=Zoz I h0 turn
 exact Zo (Zdz hi e) (k δ' h)
theorem Zjs{it:FI}{g:FG}(I:Nat->Zi->Prop)(hi:EvI it δ ds)(h0:I 0 δ)(turn:∀(i:Nat) (d:Xa) (δ:Zi),ds[i]? =some d->I i δ->∃δ1 δ2,g d δ=some δ1∧(S δ1= .nx δ2∨S δ1= .ct δ2)∧I (i+1) δ2):∃δ',Zbw it g S δ= .nx δ'∧I ds.length δ':=by
 obtain⟨δ',e,h⟩:=Zoz I h0 turn
 exact⟨δ',Zdz hi e,h⟩
theorem Zv7{m n:Nat}(h:EvA as δ [.int m,.int n])(hm:m≤1000000)(hn:n≤1000000):EvI (iRb as) δ (Zc7 m (n-m)):=by
 obtain⟨_,e1,d1⟩:=h
 unfold EvI
 rw[Z6h,e1,Xh,d1,Ya4,Z2m (by omega) (by omega) (by omega) (by omega),show((n:Int)-(m:Int)).toNat=n-m by omega]
theorem Zge:wE (Zdu Zq) (Zb5 k) δ= .nx (δ.set k (some (.nd []))):=Zmu (by rw[Ztf];rfl)
theorem Zca{i:Int}(h:0<j):0≤i.fmod j:=by rw[Zdl h];exact Int.emod_nonneg _ (by omega)
theorem Zb1{i:Int}(h:0<j):i.fmod j<j:=by rw[Zdl h];exact Int.emod_lt_of_pos _ h
theorem Zr6(i:Int){n:Nat}(h:0<n):∃m:Nat,i.fmod (n:Int)=m∧m<n:=by
 have h0:=Zca (i:=i) (j:=n) (by omega)
 have h1:=Zb1 (i:=i) (j:=n) (by omega)
 exact⟨(i.fmod n).toNat,by omega,by omega⟩
theorem Yal{n:Int}(h:EvA as δ [.int n])(h0:0≤n)(h1:n≤1000000):EvV (Zyi as) δ (.list (Zc7 0 n.toNat)):=by
 obtain⟨_,e1,d1⟩:=h
 exact⟨_,by rw[Zrx,e1,Xh,d1,Z2c,if_pos ⟨Zjj (by omega) (by omega),by rw[Qj];omega⟩],by rw[OT.data_nd,OT.map_fz]⟩
theorem Zt6{o:OT}(h:δ[k]? =some (some o))(g:Zwk S (δ.set k (some (.fz o.data))) Q):Zwk (Zeg k S) δ Q:=by
 obtain⟨d,⟨o',δ2,e,hd⟩,hq⟩:=g
 exact⟨d,⟨o',δ2,Zmm h e,hd⟩,hq⟩
theorem Z2p{o:OT}{ts ts0:List OT}(h:e δ=some (o,δ'))(h0:δ[k]? =some (some (.nd ts0)))(h1:δ'[k]? =some (some (.nd ts)))(hl:ts.length≤1000000):Wk k e δ= .nx (δ'.set k (some (.nd (ts ++ [.fz o.data])))):=by
 rw[Ziy,h0,Zv4,h,Wm,h1,Zv4,Zxu hl]
theorem Zsq{es:List Xa}(h:EvA as δ ds)(hz:Z26 ds=some es):EvI (Zgx as) δ es:=by
 obtain⟨_,e1,d1⟩:=h
 unfold EvI Zgx
 rw[e1,Xh,d1,hz,Xh]
theorem Z3h{n:Nat}(hn:n≤1000000){v:Option OT}:(Z3a (fC d) (Zd 1)) [v,some (.fz (.int n))]=some (.nd (X4 n (.fz d)),[v,some (.fz (.int n))]):=by
 obtain⟨_,e1,d1⟩:=Za (δ:=[v,some (.fz (.int n))]) (i:=1) (d:=.int n)
 rw[Z1a,Z9t,Xh,e1,Xh,d1,Zt4,if_pos ⟨Zjj (by omega) (by omega),by rw[Qj];omega⟩,Qm,OT.data_fz]
theorem Zpk{it:FI}{g gg:FG}{δ1:Zi}(I:Nat->Zi->Prop){J:Zi->Prop}(hg:gg d δ=some δ1)(hi:EvI it δ1 ds)(h0:I 0 δ1)(turn:∀(i:Nat) (d:Xa) (δ:Zi),ds[i]? =some d->I i δ->∃δ1 δ2,g d δ=some δ1∧(S δ1= .nx δ2∨S δ1= .ct δ2)∧I (i+1) δ2)(hJ:∀δ',I ds.length δ'->J δ'):∃δ1 δ2,gg d δ=some δ1∧(Zbw it g S δ1= .nx δ2∨Zbw it g S δ1= .ct δ2)∧J δ2:=by
 obtain⟨δ',e,h⟩:=Zoz I h0 turn
 exact⟨δ1,δ',hg,.inl (Zdz hi e),hJ δ' h⟩
theorem Zc2{T:String}(ha:EvV a δ x)(h:Zob T x=p)(hf:Zih x=false:=by rfl):EvV (Zfc T a) δ (.bool p):=(Zey ha hf).cast (by rw[h])
theorem Zhi{a b:FE}{bs es:List Xa}{as:List Xa}(ha:EvV a δ (.list as))(hb:EvV b δ (.list bs))(hz:Zjf as bs=es):EvI (Zgx (Zc a (Zc b Zq))) δ es:=Zsq (Zb ha (Zb hb Zh)) (congrArg some hz)
theorem Zpe{α:Type}{caps:List Nat}{it:FI}{me:FE}{t:FT}{cs:Zi}(xs:List α)(mk:α->Xa)(pr:α->Bool)(hi:EvI it δ (xs.map mk))(hz:xs.length≤1000000)(hb:blk 1 caps δ=none :: cs)(ht:∀x∈xs,EvT t (some (.fz (mk x)) :: cs) (pr x))(h:∀x∈xs,pr x=true->me (some (.fz (mk x)) :: cs)=some (.fz (mk x),some (.fz (mk x)) :: cs)):EvV (Wj 1 caps it (gNm 0) t me) δ (.list ((xs.filter pr).map mk)):=by
 unfold EvI at hi
 refine⟨_,Zrv (cs:=cs) xs mk pr (λx=>.fz (mk x)) hi (by rw[Qj];omega) hb (λx hx=>ht x hx) h,?_⟩
 rw[OT.data_nd,X5]
 exact congrArg _ (XH λx _=>OT.data_fz _)
theorem Told.none{F:FD}(h:Told F ds .none):F ds= .ok (.fz .none):=by
 obtain⟨o,e1,d1⟩:=h
 rw[e1,Zsf d1]
end
end L2
namespace My
open PySem L2 PySem.Spec
noncomputable def Jt:FS :=
 (Z4 (wE (Zbx Z28 (Zc (Zd 0) Zq)) (Y6 0))
  (Z4 (wE (Zbx Z28 (Zc (Zd 1) Zq)) (Y6 1))
  (Z4 (Zjh (tV (Zf gNe (Zd 1) (fC (.int 0)))) (Z4 (wE (Zf Zez (Zd 0) (Zd 1)) (Y6 2))
  (Z4 (wE (Zd 1) (Y6 0))
  (wE (Zd 2) (Y6 1)))))
  (wE (Zd 0) Ja))))
noncomputable def Z8:FD:=J0 2 3 Jt
theorem Zk2{f1 f2:Int->Int->Option OT->Zi}{t:FT}{u:FS}(ht:∀x y z,t (f1 x y z)=some (!decide (y=0),f1 x y z))(hu:∀x y z,y≠0->∃z',u (f1 x y z)= .nx (f1 y (x.fmod y) z')) :
  ∀(n:Nat) (x y:Int) (z:Option OT),0≤x->0≤y->y.toNat<n->∃z',whileLoop t u n (f1 x y z)= .nx (f1 (Bg x y:Int) 0 z')
 | 0,_,_,_,_,_,h=>absurd h (Vh _)
 | n+1,x,y,z,hx,hy,h=>by
  unfold whileLoop
  rw[ht]
  dsimp only
  by_cases c:y=0
  ·subst c
   refine⟨z,?_⟩
   simp only[decide_true,V4,Qh,if_false]
   rw[Int.gcd_zero_right]
   congr 2
   omega
  ·simp only[c,decide_false,Bool.not_false,if_true]
   obtain⟨z1,e1⟩:=hu x y z c
   rw[e1]
   dsimp only
   have hm:x.fmod y=x%y:=Zdl (by omega)
   have h1:0≤x%y:=Int.emod_nonneg x c
   have h2:x%y<y:=Int.emod_lt_of_pos x (by omega)
   obtain⟨z2,e2⟩:=Zk2 (f1:=f1) (f2:=f2) ht hu n y (x.fmod y) z1 hy (by omega) (by omega)
   exact⟨z2,by rw[e2,Zvg hx (by omega)]⟩
theorem Zaz(a b:Int):Z8 [.int a,.int b]= .ok (.fz (.int (Bg a b:Int))):=by
 obtain⟨z',e⟩:=Zk2 (f1:=λx y z=>[some (.fz (.int x)),some (.fz (.int y)),z]) (f2:=λx y z=>[]) (t:=tV (Zf gNe (Zd 1) (fC (.int 0)))) (u:=Z4 (wE (Zf Zez (Zd 0) (Zd 1)) (Y6 2)) (Z4 (wE (Zd 1) (Y6 0)) (wE (Zd 2) (Y6 1)))) (λx y z=>Jx (Znk Za Z0 rfl)) (λx y z hy=>⟨_,Yv (Zt (Jy Za Za hy)) (Yv (Zt Za) (Zt Za))⟩) ((b.natAbs:Int).toNat+1) (a.natAbs:Int) (b.natAbs:Int) none (by omega) (by omega) (by omega)
 rw[Vt,Int.natAbs_natCast,Int.natAbs_natCast]at e
 exact Told.int<|Zx rfl<|Zo (Zt (J6 (Zb Za Zh) (Zrd a)))<|Zo (Zt (J6 (Zb Za Zh) (Zrd b)))<|Zo (Zl1 _ e (by intro z;cases z)) (Yc Za)
noncomputable def Zcy:FS :=
 (Z4 (wE (Zu Z8 (Zc (Zd 0) (Zc (Zd 1) Zq))) (Y6 2))
  (Z4 (Jv (tV (Zf gLt (Zd 1) (fC (.int 0))))
  (wE (fUn Zqx (Zd 2)) (Y6 2))
  fNx)
  (wE (Zif (Zc (Zf Zac (Zd 0) (Zd 2)) (Zc (Zf Zac (Zd 1) (Zd 2)) Zq))) Ja)))
noncomputable def Wx:FD:=J0 2 3 Zcy
theorem Z4v{n:Nat}{t b:Int}(hb:b≠0)(hB:Bt n b)(hn:n≤9000)(s:Int)(e:s=shr t b):Zac (.int t) (.int s)=some (.int (Xv t b).num)∧Zac (.int b) (.int s)=some (.int ((Xv t b).den:Int)):=by
 subst e
 rw[Zf8 (Zfx (Zyb hb) (Zx4 hb hB) hn),Zf8 (Zfx (Zyb hb) (Zx4 hb hB) hn),Zzu hb,Z15 hb]
 exact⟨rfl,rfl⟩
theorem Zei{n:Nat}{t b:Int}(hb:b≠0)(hB:Bt n b)(hn:n≤9000:=by decide):Told Wx [.int t,.int b] (frD (Xv t b)):=by
 have fin:∀{δ:Zi} {s:Int},s=shr t b->δ[0]? =some (some (.fz (.int t)))->δ[1]? =some (some (.fz (.int b)))->δ[2]? =some (some (.fz (.int s)))->Zks (wE (Zif (Zc (Zf Zac (Zd 0) (Zd 2)) (Zc (Zf Zac (Zd 1) (Zd 2)) Zq))) Ja) δ (frD (Xv t b)):=λe h0 h1 h2=>by
  obtain⟨e1,e2⟩:=Z4v hb hB hn _ e
  exact Yc (Zbj (Zb (Zr (Za h0) (Za h2) e1) (Zb (Zr (Za h1) (Za h2) e2) Zh)) (show 2≤1000 by decide))
 have g:Told Z8 [.int t,.int b] _:=.of (Zaz t b) (OT.data_fz _)
 by_cases c:b<0
 ·exact Zx rfl<|Zo (Zt (Zk (Zb Za (Zb Za Zh)) g))<|Zo (Zbh (Jx (Zbk Za Z0 (decide_eq_true c))) (Zt (Zmp Za))) (fin (by unfold shr;rw[if_pos c]) rfl rfl rfl)
 ·exact Zx rfl<|Zo (Zt (Zk (Zb Za (Zb Za Zh)) g))<|Zo (Zw (Jx (Zbk Za Z0 (decide_eq_false c))) rfl) (fin (by unfold shr;rw[if_neg c]) rfl rfl rfl)
noncomputable def Zc0:FS :=
 (wE (Zqw (Zfc "int" (Zd 0)) (fUn Z7t (Zfc "bool" (Zd 0)))) Ja)
noncomputable def Y4:FD:=J0 1 1 Zc0
theorem Zgt(i:Int):Y4 [.int i]= .ok (.fz (.bool true)):=rfl
noncomputable def Zcz:FS :=
 (Z4 (Jv (tO (tNo (tD (Zu Y4 (Zc (Zd 0) Zq)))) (tO (tNo (tD (Zu Y4 (Zc (Zd 1) Zq)))) (tV (Zf gEq (Zd 1) (fC (.int 0))))))
  (Zi5 "NoNumber")
  fNx)
  (wE (Zu Wx (Zc (Zd 0) (Zc (Zd 1) Zq))) Ja))
noncomputable def Y0:FD:=J0 2 2 Zcz
theorem Zm6{n:Nat}{t b:Int}(hb:b≠0)(hB:Bt n b)(hn:n≤9000:=by decide):Told Y0 [.int t,.int b] (frD (Xv t b)):=by
 have w:∀{i:Int},Told Y4 [.int i] (.bool true):=fun{i}=>.of (Zgt i) (OT.data_fz _)
 exact Zx rfl<|Zo (Zw (Zmc (Zex (p:=true) (Zbl (Zk (Zb Za Zh) w))) (Zmc (Zex (p:=true) (Zbl (Zk (Zb Za Zh) w))) (Jx (Zia Za Z0 (decide_eq_false hb))))) rfl) (Yc (Zk (Zb Za (Zb Za Zh)) (Zei hb hB hn)))
noncomputable def Zaf:FS :=
 (Z4 (wE (fC (.int 1)) (Y6 1))
  (Z4 (Zbw (Zgi (Zd 0)) (gNm 2)
  (wE (Zf Zcv (Zf Zac (Zd 1) (Zu Z8 (Zc (Zd 1) (Zc (Ye gIx (Zd 2) (fC (.int 1))) Zq)))) (Ye gIx (Zd 2) (fC (.int 1)))) (Y6 1)))
  (wE (Zd 1) Ja)))
noncomputable def Yw:FD:=J0 1 3 Zaf
noncomputable def prD(p:Int×Int):Xa:=.tuple [.int p.1,.int p.2]
theorem Zwh{a b B:Int}(ha:0<a)(hb:0<b)(h1:a∣B)(h2:b∣B)(hB:0<B):0<a.fdiv (Bg a b)*b∧a∣a.fdiv (Bg a b)*b∧b∣a.fdiv (Bg a b)*b∧a.fdiv (Bg a b)*b∣B:=by
 have hg:0<(Bg a b:Int):=Ze2 (by omega)
 have d1:(Bg a b:Int)∣a:=Int.gcd_dvd_left ..
 have d2:(Bg a b:Int)∣b:=Int.gcd_dvd_right ..
 rw[Y8 hg]
 have e:a/(Bg a b:Int)*b=(Int.lcm a b:Int):=by
  have q:=Int.gcd_mul_lcm a b
  have h3:(Bg a b:Int)*(Int.lcm a b:Int)=a*b:=by
   rw[←UL,q,UL,Int.natAbs_of_nonneg (by omega),Int.natAbs_of_nonneg (by omega)]
  obtain⟨k,hk⟩:=d1
  have e1:a/(Bg a b:Int)=k:=Int.ediv_eq_of_eq_mul_right (by omega) hk
  rw[e1]
  apply Int.eq_of_mul_eq_mul_left (a:=(Bg a b:Int)) (by omega)
  rw[h3,←Int.mul_assoc,←hk]
 rw[e]
 refine⟨?_,Int.dvd_lcm_left ..,Int.dvd_lcm_right ..,Int.coe_lcm_dvd h1 h2⟩
 have:Int.lcm a b≠0:=by
  rw[Ne,Int.lcm_eq_zero_iff]
  omega
 omega
theorem Zib{n:Nat}{a B:Int}(hB:0<B)(h:a∣B)(b:Bt n B):Bt n a:=by
 refine Bt.of_le b ?_
 have:=Int.natAbs_dvd_natAbs.mpr h
 exact Nat.le_of_dvd (by omega) this
theorem Zgy{n:Nat}{B:Int}(hB:0<B)(bB:Bt n B)(hn:n≤9000:=by decide)(ps:List (Int×Int))(h:∀p∈ps,0<p.2∧p.2∣B) :
  ∃m,Told Yw [.list (ps.map prD)] (.int m)∧0<m∧(∀p∈ps,p.2∣m)∧m∣B:=by
 have key:∃d,Told Yw [.list (ps.map prD)] d∧∃m,d= .int m∧0<m∧(∀p∈ps,p.2∣m)∧m∣B:=by
  refine Ztr rfl<|Zd2 (Zt Z0)<|Zll (ds:=ps.map prD) (λi δ=>∃m z,δ=[some (.fz (.list (ps.map prD))),some (.fz (.int m)),z]∧0<m∧(∀j p,j<i->ps[j]? =some p->p.2∣m)∧m∣B) (Zae Za) ⟨1,none,rfl,by decide,λj p hj=>absurd hj (Vh j),Int.one_dvd _⟩ (λi d δ hd hi=>?_) λδ' hi=>?_
  ·obtain⟨m,z,hδ,h1,h2,h3⟩:=hi
   subst hδ
   rw[Xu]at hd
   cases e:ps[i]? with
   | none=>rw[e]at hd;cases hd
   | some p=>
    rw[e]at hd
    cases hd
    obtain⟨q1,q2⟩:=h p (Q0 e)
    obtain⟨s1,s2,s3,s4⟩:=Zwh h1 q1 h3 q2 hB
    have g0:0<(Bg m p.2:Int):=Ze2 (by omega)
    have bg:Bt n (Bg m p.2:Int):=Zib hB (Int.dvd_trans (Int.gcd_dvd_right ..) q2) bB
    have bm:Bt n (m.fdiv (Bg m p.2)):=by
     rw[Y8 g0]
     exact Bt.of_le (Zib hB h3 bB) (Int.natAbs_ediv_le_natAbs _ _)
    have at1:∀{δ:Zi},δ[2]? =some (some (.fz (prD p)))->EvV (Ye gIx (Zd 2) (fC (.int 1))) δ (.int p.2):=λh=>Wd (Za h) Z0 rfl
    refine⟨_,_,rfl,.inl (Zt (Zr (Zr Za (Zk (Zb Za (Zb (at1 rfl) Zh)) (.of (Zaz m p.2) (OT.data_fz _))) (Zf8 (Zfx (by omega) bg hn))) (at1 rfl) (Zhj (Zko bm (Zib hB q2 bB) (by omega))))),_,_,rfl,s1,λj p' hj hp=>?_,s4⟩
    by_cases z:j=i
    ·subst z
     rw[e]at hp;cases hp
     exact s3
    ·exact Int.dvd_trans (h2 j p' (by omega) hp) s2
  ·obtain⟨m,z,rfl,h1,h2,h3⟩:=hi
   refine Ztv Za ⟨m,rfl,h1,λp hp=>?_,h3⟩
   obtain⟨j,hj⟩:=Bs hp
   exact h2 j p (by have:=(Xn.mp hj).1;rwa[Xj]) hj
 obtain⟨d,h,m,rfl,hm⟩:=key
 exact⟨m,h,hm⟩
noncomputable def Zav:FS :=
 (Z4 (wE (fC (.int 1)) (Y6 1))
  (Z4 (Zbw (Zgi (Zd 0)) (gNm 2)
  (wE (Zu Yw (Zc (Ye Zlt (Zdu (Zc (Zif (Zc (fC (.int 1)) (Zc (Zd 1) Zq))) Zq)) (Zd 2)) Zq)) (Y6 1)))
  (wE (Zd 1) Ja)))
noncomputable def Z6:FD:=J0 1 3 Zav
theorem Z1s(r:List Rat):r.map frD=(r.map λq=>(q.num,(q.den:Int))).map prD:=by rw[X5];rfl
noncomputable def Z4s(T:List (List Rat))(B:Int):Prop:=∀r∈T,∀q∈r,(q.den:Int)∣B
theorem Zh1{n:Nat}{B:Int}(hB:0<B)(bB:Bt n B)(hn:n≤9000:=by decide)(T:List (List Rat))(hz:∀r∈T,r.length≤1000)(h:Z4s T B) :
  ∃m,Told Z6 [tbD T] (.int m)∧0<m∧Z4s T m∧m∣B:=by
 have key:∃d,Told Z6 [.list (T.map Znb)] d∧∃m,d= .int m∧0<m∧Z4s T m∧m∣B:=by
  refine Ztr rfl<|Zd2 (Zt Z0)<|Zll (ds:=T.map Znb) (λi δ=>∃m z,δ=[some (.fz (.list (T.map Znb))),some (.fz (.int m)),z]∧0<m∧(∀j r,j<i->T[j]? =some r->∀q∈r,(q.den:Int)∣m)∧m∣B) (Zae Za) ⟨1,none,rfl,by decide,λj p hj=>absurd hj (Vh j),Int.one_dvd _⟩ (λi d δ hd hi=>?_) λδ' hi=>?_
  ·obtain⟨m,z,hδ,h1,h2,h3⟩:=hi
   subst hδ
   rw[Xu]at hd
   cases e:T[i]? with
   | none=>rw[e]at hd;cases hd
   | some r=>
    rw[e]at hd
    cases hd
    have hr:=Q0 e
    obtain⟨m',e1,p1,p2,p3⟩:=Zgy hB bB hn ((1,m) :: r.map λq=>(q.num,(q.den:Int))) λp hp=>by
     rcases Xq.mp hp with rfl|hp
     ·exact⟨h1,h3⟩
     ·obtain⟨q,hq,rfl⟩:=Qc.mp hp
      exact⟨J4 q,h r hr q hq⟩
    rw[XF,←Z1s]at e1
    have hl:=hz r hr
    refine⟨_,_,rfl,.inl (Zt (Zk (Zb (Zyl (ds:=[prD (1,m)]) (es:=r.map frD) (Zmf (Zb (Zbj (Zb Z0 (Zb Za Zh)) (show 2≤1000 by decide)) Zh) (show 1≤1000 by decide)) Za (by rw[Xj,JP];omega)) Zh) e1)),m',_,rfl,p1,λj r' hj hr' q hq=>?_,p3⟩
    by_cases z:j=i
    ·subst z
     rw[e]at hr';cases hr'
     exact p2 (q.num,(q.den:Int)) (.tail _ (Qc.mpr ⟨q,hq,rfl⟩))
    ·exact Int.dvd_trans (h2 j r' (by omega) hr' q hq) (p2 (1,m) (.head _))
  ·obtain⟨m,z,rfl,h1,h2,h3⟩:=hi
   refine Ztv Za ⟨m,rfl,h1,λr hr q hq=>?_,h3⟩
   obtain⟨j,hj⟩:=Bs hr
   exact h2 j r (by have:=(Xn.mp hj).1;rwa[Xj]) hj q hq
 obtain⟨d,h,m,rfl,hm⟩:=key
 exact⟨m,h,hm⟩
noncomputable def scI(m:Int)(q:Rat):Int:=q.num*(m/(q.den:Int))
theorem Zxt{m:Int}{q:Rat}(h:(q.den:Int)∣m):(scI m q:Rat)=q*(m:Rat):=by
 obtain⟨k,rfl⟩:=h
 unfold scI
 rw[Int.mul_ediv_cancel_left _ (Zh7 q)]
 rw[Rat.intCast_mul,Rat.intCast_mul,Ydl,Rat.mul_assoc]
noncomputable def Zcg:FS :=
 (wE (Wj 1 [0] (Zgi (Zd 1)) (gNm 0) Zg2 (Zf Zcv (Ye gIx (Zd 0) (fC (.int 0))) (Zf Zac (Zd 1) (Ye gIx (Zd 0) (fC (.int 1)))))) Ja)
noncomputable def J7:FD:=J0 2 2 Zcg
theorem Zl5{n:Nat}{m:Int}(hm:0<m)(bm:Bt n m)(r:List Rat)(hz:r.length≤1000)(h:∀q∈r,(q.den:Int)∣m∧Bt n q.num)(hn:n≤9000:=by decide) :
  Told J7 [.int m,Znb r] (.list (r.map λq=>.int (scI m q))) :=
 Zx rfl<|Yc<|Zc3 (cs:=[some (.fz (.int m))]) r frD (λq=>.int (scI m q)) (Zae Za) (by omega) rfl λq hq=>by
  obtain⟨h1,h2⟩:=h q hq
  refine(Zr (Wd (d:=.int q.num) Za Z0 rfl) (Zr Za (Wd (d:=.int (q.den:Int)) Za Z0 rfl) (Zf8 (Zfx (Zh7 q) (Zib hm h1 bm) hn))) (Zhj ?_)).cast ?_
  ·rw[Y8 (J4 q)]
   exact Zko h2 (Bt.of_le bm (Int.natAbs_ediv_le_natAbs _ _)) (by omega)
  ·rw[Y8 (J4 q)];rfl
noncomputable def Zbq:FS :=
 (wE (Wj 1 [0] (Zgi (Zd 1)) (gNm 0) Zg2 (Zu J7 (Zc (Zd 1) (Zc (Zd 0) Zq)))) Ja)
noncomputable def Yq:FD:=J0 2 2 Zbq
theorem Zkm{n:Nat}{m:Int}(hm:0<m)(bm:Bt n m)(T:List (List Rat))(hT:T.length≤1000)(hz:∀r∈T,r.length≤1000)(h:Z4s T m)(hb:∀r∈T,∀q∈r,Bt n q.num)(hn:n≤9000:=by decide) :
  Told Yq [.int m,tbD T] (.list (T.map λr=>.list (r.map λq=>.int (scI m q)))) :=
 Zx rfl<|Yc<|Zc3 (cs:=[some (.fz (.int m))]) T Znb (λr=>.list (r.map λq=>.int (scI m q))) (Zae Za) (by omega) rfl λr hr=>Zk (Zb Za (Zb Za Zh)) (Zl5 hm bm r (hz r hr) (λq hq=>⟨h r hr q hq,hb r hr q hq⟩) hn)
noncomputable def Zdi:FS :=
 (Z4 (wE (Zdu Zq) (Zb5 1))
  (Z4 (Zbw (iRa (Zc (Zd 0) Zq)) (gNm 2)
  (Zbw (iRb (Zc (Zf Zau (Zd 2) (fC (.int 1))) (Zc (Zd 0) Zq))) (gNm 3)
  (Wk 1 (Zif (Zc (Zd 2) (Zc (Zd 3) Zq))))))
  (Zfb 1)))
noncomputable def Jl:FD:=J0 1 4 Zdi
noncomputable def Z1(n:Nat):List (Nat×Nat):=(Xr n).flatMap λi=>(Xr (n-(i+1))).map λj=>(i,i+1+j)
noncomputable def ptD(p:Nat×Nat):Xa:=.tuple [.int p.1,.int p.2]
theorem Yx{n:Nat}{p:Nat×Nat}(h:p∈Z1 n):p.1<p.2∧p.2<n:=by
 unfold Z1 at h
 obtain⟨i,hi,hp⟩:=List.mem_flatMap.mp h
 obtain⟨j,hj,rfl⟩:=Qc.mp hp
 have:=X8.mp hi
 have:=X8.mp hj
 dsimp only
 omega
theorem Zf2{n i j:Nat}(h:i<j)(hj:j<n):(i,j)∈Z1 n:=by
 unfold Z1
 exact List.mem_flatMap.mpr ⟨i,X8.mpr (by omega),Qc.mpr ⟨j-(i+1),X8.mpr (by omega),by congr 1;omega⟩⟩
noncomputable def Zhl(n i:Nat):List (Nat×Nat):=(Xr i).flatMap λi=>(Xr (n-(i+1))).map λj=>(i,i+1+j)
theorem Zhk(n:Nat):∀i,(Zhl n i).length≤i*n
 | 0=>by simp[Zhl]
 | i+1=>by
  have:=Zhk n i
  unfold Zhl at this⊢
  rw[Uz,List.flatMap_append,XX]
  simp only[List.flatMap_cons,List.flatMap_nil,Q5,Xj,X3]
  have e:(i+1)*n=i*n+n:=by rw[Nat.succ_mul]
  omega
theorem Zf0(n i:Nat):Zhl n (i+1)=Zhl n i ++ (Xr (n-(i+1))).map λj=>(i,i+1+j):=by
 unfold Zhl;rw[Uz,List.flatMap_append];simp
theorem Znl(n:Nat)(hn:n≤1000):Told Jl [.int n] (.list ((Z1 n).map ptD)):=by
 refine Zx rfl<|Zo Zge<|Zgn (ds:=Zc7 0 n) (λi δ=>∃z1 z2,δ=[some (.fz (.int n)),some (.nd (((Zhl n i).map ptD).map OT.fz)),z1,z2]) (Zhz (Zb Za Zh) (by omega)) ⟨_,_,rfl⟩ (λi d δ hd h=>?_) λδ' h=>?_
 ·obtain⟨z1,z2,rfl⟩:=h
  obtain⟨hi,rfl⟩:=Jk hd
  rw[Bf]
  have ln:=Zhk n i
  have l2:i*n≤999*1000:=Nat.mul_le_mul (by omega) hn
  refine Zpk (ds:=Zc7 ((i+1:Nat):Int) (n-(i+1))) (λj δ=>∃z,δ=[some (.fz (.int n)),some (.nd (((Zhl n i ++ (Xr j).map λj=>(i,i+1+j)).map ptD).map OT.fz)),some (.fz (.int i)),z]) rfl (Zv7 (m:=i+1) (Zb (EvV.cast (Yp Za Z0) rfl) (Zb Za Zh)) (by omega) (by omega)) ⟨z2,by rw[List.range_zero,List.map_nil,Q5];rfl⟩ (λj d δ hd h=>?_) λδ' h=>?_
  ·obtain⟨z,rfl⟩:=h
   obtain⟨hj,rfl⟩:=Jk hd
   refine⟨_,_,rfl,.inl (Zma (Zbj (Zb Za (Zb Za Zh)) (show 2≤1000 by decide)) rfl (by rw[Xj,Xj,XX,Xj,X3];omega)),some (.fz (.int (((i+1:Nat):Int)+j))),?_⟩
   rw[Uz]
   simp only[QB,JB]
   rfl
  ·obtain⟨z,rfl⟩:=h
   rw[Wu,←Zf0]
   exact⟨_,_,rfl⟩
 ·obtain⟨z1,z2,rfl⟩:=h
  rw[Wu]
  exact Z5d rfl (by rw[OT.data_nd,OT.map_fz];rfl)
end My
namespace My
open PySem L2 PySem.Spec
noncomputable def Zba:FS :=
 (Z4 (Jv (tV (Zf gLt (Zd 1) (Zbx Za5 (Zc (Zd 0) Zq))))
  (wE (Ye gIx (Zd 0) (Zd 1)) Ja)
  fNx)
  (wE (fC (.int 0)) Ja))
noncomputable def Z9:FD:=J0 2 2 Zba
noncomputable def Zc5:FS :=
 (Z4 (Jv (tV (Zf gEq (Zf Zez (Zf Zac (Zd 0) (fC (.int 7))) (fC (.int 8))) (fC (.int 3))))
  (wE (Zf Zau (Zf Zau (Zd 2) (fC (.int 1))) (Zf Zez (Zf Zac (Zd 0) (fC (.int 56))) (Zf gSb (Zd 3) (Zd 2)))) Ja)
  fNx)
  (wE (Zf Zau (Zd 1) (Zf Zez (Zd 0) (Zf gSb (Zf Zau (Zd 2) (fC (.int 1))) (Zd 1)))) Ja))
noncomputable def Ju:FD:=J0 4 4 Zc5
noncomputable def Zdf:FS :=
 (Z4 (wE (Zf Zez (Zf Zcv (Zf Zau (Zf Zau (Zf Zez (Zd 0) (fC (.int 2147483629))) (Zf Zcv (fC (.int 9973)) (Zd 1))) (fC (.int 5))) (fC (.int 48271))) (fC (.int 2147483647))) (Y6 2))
  (Z4 (wE (Zf Zez (Zf Zcv (Zd 2) (Zd 2)) (fC (.int 2147483587))) (Y6 2))
  (wE (Zf Zac (Zf Zez (Zf Zcv (Zf Zau (Zd 2) (Zf Zcv (fC (.int 7919)) (Zd 1))) (fC (.int 16807))) (fC (.int 2147483563))) (fC (.int 8))) Ja)))
noncomputable def Wt:FD:=J0 2 3 Zdf
noncomputable def Za3:FS :=
 (Z4 (wE (Zdu Zq) (Zb5 2))
  (Z4 (wE (Zd 0) (Y6 3))
  (Z4 (Zbw (iRa (Zc (Zd 1) Zq)) (gNm 4)
  (Z4 (wE (Zu Wt (Zc (Zd 0) (Zc (Zd 4) Zq))) (Y6 5))
  (Z4 (Jv (tV (Zf gGe (Zd 0) (Zf Zvk (fC (.int 10)) (fC (.int 18)))))
  (wE (Zf Zez (Zd 3) (fC (.int 720720))) (Y6 5))
  fNx)
  (Z4 (wE (Zf Zac (Zd 3) (fC (.int 720720))) (Y6 3))
  (Wk 2 (Zd 5))))))
  (Zfb 2))))
noncomputable def Wl:FD:=J0 2 6 Za3
noncomputable def Zj(p:List Int):Xa:=.list (p.map Xk)
theorem Zpf{p:List Int}{i:Int}(h0:0≤i)(h1:i<p.length):atI (p.map Xk) i=some (.int (p.getD i.toNat 0)):=by
 rw[Zmn h0,Xu,Xi (by omega)]
 simp[Xf,Xi (show i.toNat<p.length by omega)]
theorem Zaj{a b:FE}{δ:Zi}{p:List Int}{i:Int}(ha:EvV a δ (Zj p))(hb:EvV b δ (.int i))(h0:0≤i)(h1:i<p.length):EvV (Ye gIx a b) δ (.int (p.getD i.toNat 0)):=Zrk ha hb (Zpf h0 h1)
theorem Wi{a:FE}{δ:Zi}{p:List Int}(ha:EvV a δ (Zj p)):EvV (Zbx Za5 (Zc a Zq)) δ (.int p.length):=by
 have:=Zq8 (ds:=p.map Xk) ha
 rwa[Xj]at this
theorem Ycn:Zvk (.int 10) (.int 18)=some (.int 1000000000000000000):=rfl
theorem Zds(ns:List Int){k:Int}(h0:0≤k):∃c,Z9 [Zj ns,.int k]= .ok (.fz (.int c)):=by
 by_cases c:k<ns.length
 ·exact⟨_,Told.int<|Zx rfl<|Jr (Zai (Jx (Zbk Za (Wi Za) (decide_eq_true c))) (Yc (Zaj Za Za h0 c)))⟩
 ·exact⟨_,Told.int<|Zx rfl<|Zo (Zw (Jx (Zbk Za (Wi Za) (decide_eq_false c))) rfl) (Yc Z0)⟩
theorem Z2v(c:Int){a b d:Int}(h1:a≤b)(h2:b<d):∃n:Int,Ju [.int c,.int a,.int b,.int d]= .ok (.fz (.int n))∧a≤n∧n≤d:=by
 by_cases k:(c.fdiv 7).fmod 8=3
 ·have q0:=Zca (i:=c.fdiv 56) (j:=d-b) (by omega)
  have q1:=Zb1 (i:=c.fdiv 56) (j:=d-b) (by omega)
  exact⟨_,Told.int<|Zx rfl<|Jr (Zai (Jx (Zia (Jy (Zb4 Za Z0) Z0 (by decide)) Z0 (decide_eq_true k)))
   (Yc (Yp (Yp Za Z0) (Jy (Zb4 Za Z0) (Zdy Za Za) (by omega))))),by omega,by omega⟩
 ·have q0:=Zca (i:=c) (j:=b+1-a) (by omega)
  have q1:=Zb1 (i:=c) (j:=b+1-a) (by omega)
  exact⟨_,Told.int<|Zx rfl<|Zo (Zw (Jx (Zia (Jy (Zb4 Za Z0) Z0 (by decide)) Z0 (decide_eq_false k))) rfl)
   (Yc (Yp Za (Jy Za (Zdy (Yp Za Z0) Za) (by omega)))),by omega,by omega⟩
theorem Zq9(c k:Int):∃v,Told Wt [.int c,.int k] (.int v):=by
 have n0:=Zca (i:=(c.fmod 2147483629+9973*k+5)*48271) (j:=2147483647) (by decide)
 have n1:=Zb1 (i:=(c.fmod 2147483629+9973*k+5)*48271) (j:=2147483647) (by decide)
 exact⟨_,Zx rfl<|Zo (Zt (Jy (Zmx (Yp (Yp (Jy Za Z0 (by decide)) (Zdc Z0 Za)) Z0) Z0) Z0 (by decide)))<|
  Zo (Zt (Jy (Zdc Za Za (by omega)) Z0 (by decide)))<|
  Yc (Zb4 (Jy (Zmx (Yp Za (Zdc Z0 Za)) Z0) Z0 (by decide)) Z0)⟩
theorem Zjv{i:Nat}{e:FE}{δ:Zi}{vs:List Int}{v:Int}(h:EvV e δ (.int v))(hi:δ[i]? =some (some (.nd (vs.map λv=>.fz (.int v)))))(hl:vs.length≤1000000):Wk i e δ= .nx (δ.set i (some (.nd ((vs ++ [v]).map λv=>.fz (.int v))))):=by
 rw[Zma h hi (by rw[Xj];exact hl),QB];rfl
theorem Zsb{i:Nat}{e:FE}{δ δ':Zi}{vs:List Int}{ts:List OT}{v:Int}(h:e δ=some (.fz (.int v),δ'))(h0:δ[i]? =some (some (.nd ts)))(h1:δ'[i]? =some (some (.nd (vs.map λv=>.fz (.int v)))))(hl:vs.length≤1000000):Wk i e δ= .nx (δ'.set i (some (.nd ((vs ++ [v]).map λv=>.fz (.int v))))):=by
 rw[Z2p h h0 h1 (by rw[Xj];exact hl),QB,OT.data_fz];rfl
theorem Zfj(p:List Int):(OT.nd ((p.map Xk).map OT.fz)).data=Zj p:=by
 rw[OT.data_nd,OT.map_fz];rfl
theorem Ze4(vs:List Int):(OT.nd (vs.map λv=>OT.fz (.int v))).data=Zj vs:=by rw[OT.data_nd,Zfs];rfl
theorem Zqi(c:Int)(m:Nat)(hm:m≤1000):∃vs:List Int,Told Wl [.int c,.int m] (Zj vs)∧vs.length=m:=by
 have key:∃d,Told Wl [.int c,.int m] d∧∃vs,d=Zj vs∧vs.length=m :=
  Ztr rfl<|Zd2 Zge<|Zd2 (Zt Za)<|Zll (ds:=Zc7 0 m) (λi δ=>∃(vs:List Int) (x:Int) (z1 z2:Option OT),δ=[some (.fz (.int c)),some (.fz (.int m)),some (.nd (vs.map λv=>.fz (.int v))),some (.fz (.int x)),z1,z2]∧vs.length=i)
   (Zhz (Zb Za Zh) (by omega)) ⟨[],c,none,none,rfl,rfl⟩ (λi d δ hd q91=>by
    obtain⟨vs,x,z1,z2,e,hl⟩:=q91
    subst e
    obtain⟨hi,rfl⟩:=Jk hd
    obtain⟨v,ev⟩:=Zq9 c (0+(i:Int))
    by_cases q:1000000000000000000≤c
    ·exact⟨_,_,rfl,.inl (Yv (Zt (Zk (Zb Za (Zb Za Zh)) ev))<|Yv (Zbh (Jx (Z20 Za (Zr Z0 Z0 Ycn) (decide_eq_true q))) (Zt (Jy Za Z0 (by decide))))<|
      Yv (Zt (Zb4 Za Z0)) (Zjv (vs:=vs) Za rfl (by omega))),_,_,_,_,rfl,by rw[XX,hl];rfl⟩
    ·exact⟨_,_,rfl,.inl (Yv (Zt (Zk (Zb Za (Zb Za Zh)) ev))<|Yv (Zw (Jx (Z20 Za (Zr Z0 Z0 Ycn) (decide_eq_false q))) rfl)<|
      Yv (Zt (Zb4 Za Z0)) (Zjv (vs:=vs) Za rfl (by omega))),_,_,_,_,rfl,by rw[XX,hl];rfl⟩)
   λδ' q92=>by
    obtain⟨vs,x,z1,z2,e,hl⟩:=q92
    subst e
    rw[Wu]at hl
    exact Ybw rfl ⟨vs,Ze4 vs,hl⟩
 obtain⟨d,h,vs,rfl,hl⟩:=key
 exact⟨vs,h,hl⟩
end My
namespace L2
open PySem PySem.Spec PyProof.Rows
variable {G:Xc}
section
variable {P:Qa}{w:Qs}{A:Qq}{E:Xd->Xg->Prop}{s:Xg}
structure Ap(z TI TO i1 i2:Addr):Prop where
 a1:TI≠z
 a2:TO≠z
 a3:i1≠z
 a4:i2≠z
 a5:i1≠TO
 a6:i2≠TO
 a7:i1≠i2
 a8:TI≠TO
 a9:TI≠i1
 a10:TI≠i2
noncomputable abbrev yT1(h:Heap)(x:Str)(t:Tok):Heap:=h.push { cls:=.type (strIterType x),data:=.fields #[.str x t,.int 0 0] }
noncomputable abbrev yT2(h:Heap)(x y:Str)(t u:Tok):Heap:=yT1 (yT1 h x t) y u
noncomputable abbrev yT3(h:Heap)(x y:Str)(t u:Tok):Heap:=(yT2 h x y t u).push { cls:=.type "tuple",data:=.seq #[.ref h.objs.size,.ref (yT1 h x t).objs.size] }
noncomputable abbrev yT4(h:Heap)(x y:Str)(t u:Tok):Heap:=(yT3 h x y t u).push { cls:=.type "tuple",data:=.seq #[.none,.none] }
noncomputable abbrev yT5(h:Heap)(x y:Str)(t u:Tok):Heap:=(yT4 h x y t u).push { cls:=.type "zip",data:=.fields #[.none,.bool false,.bool false,.ref (yT2 h x y t u).objs.size,.ref (yT3 h x y t u).objs.size] }
end
section
variable {X:Cx}{io:List Nat}{p c:Bool}{a b:Expr}{mr:MAt}{ra:FA}
end
end L2
namespace L2
open PySem PySem.Spec PyProof.Rows PySem.W PySem.SeqAt
open AutoSeq1 (wpAny_loadPart')
open MeetsSeq MeetsSeq2 MeetsSeq3 SeqRoads2
theorem Zud(l b:Addr)(items items2:Array Xd)(n n2:Nat)(dd dd2:Option Addr)(sl sl2:Array (Option Xd)){xs ys:List Int}(h1:Q6 items.toList xs)(h2:Q6 items2.toList ys)(k:Nat) :
  ∀i:Nat,items.size-i=k->i≤items.size->i≤items2.size->Meets (Ba.«list.__eq__.loop» ⟨[.ref l,.ref b,JL i,JL 5],[]⟩)
   (λA R s=>s.heap.get? l=some { cls:=.type "list",dict:=dd,data:=.seq items n,slots:=sl }∧s.heap.get? b=some { cls:=.type "list",dict:=dd2,data:=.seq items2 n2,slots:=sl2 }∧
    R (.ok (.ret (.bool (!ltI (xs.drop i) (ys.drop i))))) s):=by
 have e1:items.size=xs.length:=Za6 h1
 have e2:items2.size=ys.length:=Za6 h2
 have fin:∀i,i≤items.size->i≤items2.size->(i=items.size∨i=items2.size)->(!ltI (xs.drop i) (ys.drop i))=decide (items.size≥items2.size):=λi u1 u2 c=>by
  rw[Ze3 (c.imp (λc=>JH (by omega)) λc=>JH (by omega)),Qu,Qu,←decide_not]
  exact decide_eq_decide.mpr (by omega)
 induction k with
 | zero=>
  intro i hk u1 u2 prog w A R s h
  obtain⟨hp,g,d,tk,os⟩:=s;obtain⟨hl,hb,h⟩:=h
  wp_walk using Xz hl,Xz hb
  have hi1:items[((i:Nat):Int).toNat]? =none:=by simp;omega
  rw[fin i u1 u2 (.inl (by omega))]at h
  rw[hi1]
  wp_walk using Xz hl,Xz hb
  exact h
 | succ k ih=>
  intro i hk u1 u2 prog w A R s h
  obtain⟨hp,g,d,tk,os⟩:=s;obtain⟨hl,hb,h⟩:=h
  have hlt:i<items.size:=by omega
  obtain⟨x,t,q1,q2⟩:=Zgf h1 i hlt
  have hi1:items[((i:Nat):Int).toNat]? =some (.int x t):=by rw[Qm,←q1,Qd]
  wp_walk using Xz hl,Xz hb
  by_cases c:i<items2.size
  ·obtain⟨y,u,q3,q4⟩:=Zgf h2 i c
   have hi2:items2[((i:Nat):Int).toNat]? =some (.int y u):=by rw[Qm,←q3,Qd]
   have hc:((i:Int)+1)=((i+1:Nat):Int):=by push_cast;rfl
   rw[q2,q4]at h
   unfold ltI at h
   rw[hi1,hi2]
   refine Xb (EqAt.int_int x t y u prog w _ _ ?_)
   by_cases cx:x=y
   ·rw[if_pos cx]at h
    rw[beq_iff_eq.mpr cx]
    wp_walk
    rw[hc]
    exact⟨Bw Bh _,Q9 UV (by
     rw[QJ Bh _]
     exact ih (i+1) (by omega) (by omega) (by omega) prog w A R _ ⟨hl,hb,h⟩)⟩
   ·rw[if_neg cx,←decide_not,decide_eq_decide.mpr (show¬x<y↔y≤x by omega)]at h
    rw[beq_eq_false_iff_ne.mpr cx]
    wp_walk using Xz hl,Xz hb
    rw[hi1,hi2]
    refine Xb (PyProof.Rows.ge_int ?_)
    wp_walk
    exact h
  ·have hi2:items2[((i:Nat):Int).toNat]? =none:=by simp;omega
   rw[fin i u1 u2 (.inr (by omega))]at h
   rw[hi1,hi2]
   wp_walk using Xz hl,Xz hb
   exact h
theorem Zue(l b:Addr)(items items2:Array Xd)(n n2:Nat)(dd dd2:Option Addr)(sl sl2:Array (Option Xd)){xs ys:List Int}(h1:Q6 items.toList xs)(h2:Q6 items2.toList ys) :
  Meets (Ba.«list.__ge__» ⟨[.ref l,.ref b],[]⟩)
   (λA R s=>s.heap.get? l=some { cls:=.type "list",dict:=dd,data:=.seq items n,slots:=sl }∧s.heap.get? b=some { cls:=.type "list",dict:=dd2,data:=.seq items2 n2,slots:=sl2 }∧
    R (.ok (.ret (.bool (!ltI xs ys)))) s):=by
 intro prog w A R s h
 obtain⟨hp,g,d,tk,os⟩:=s;obtain⟨hl,hb,h⟩:=h
 have f3:=AutoSeq1.sub_list_list
 wp_walk using Xz hl,Xz hb
 exact⟨Bw Bh _,Q9 UV (by
  rw[QJ Bh _]
  exact Zud l b items items2 n n2 dd dd2 sl sl2 h1 h2 _ 0 rfl (Qo _) (Qo _) prog w A R _ ⟨hl,hb,h⟩)⟩
end L2
namespace L2
open PySem PySem.Spec PyProof.Rows
variable {G:Xc}
section
variable {X:Cx}
noncomputable def Ybx(K:Xc):R2:=λx y H Q=>∃(L L':Addr->Prop) (ns ms:List Int),Da K H L x (.list (ns.map Xk))∧Da K H L' y (.list (ms.map Xk))∧Q (.bl (!ltI ns ms)) H
theorem Z6y(hu:X.A.units+64<cLine):OpR X (BK .GtE) (Ybx X.K):=by
 intro pins s σ H x y v u Q I rx ry h
 obtain⟨L,L',ns,ms,h1,h2,q⟩:=h
 obtain⟨as,k1⟩:=h1.reads rfl I rx (lay_ints ns).1
 obtain⟨bs,k2⟩:=h2.reads rfl I ry (lay_ints ms).1
 obtain⟨a,i1,rfl,⟨⟨cls,dd,data,sl⟩,hl,hc,n,hd⟩,z1⟩:=Jd k1
 obtain⟨b,i2,rfl,⟨⟨cls2,dd2,data2,sl2⟩,hl2,hc2,n2,hd2⟩,z2⟩:=Jd k2
 simp only at hc hd hc2 hd2
 subst hc hd hc2 hd2
 exact richCompare_meets_room (op:=.GtE) ⟨_,hl,rfl⟩ ⟨_,hl2,rfl⟩ F.slot_list_ge F.entry_list_ge (F.args_list_ge_2 _ _) (Zue a b i1 i2 n n2 dd dd2 sl sl2 z1 z2)
  ⟨hl,hl2,show U5 (!ltI ns ms)≠Value.notImplemented∧_ from⟨(λx=>nomatch x),⟨.bl (!ltI ns ms),H,I,rfl,q⟩⟩⟩ (by omega)
noncomputable def Z25:Xa->Xa->Option Xa:=λd e=>match d,e with
 | .list ds,.list es=>(Zbn ds).bind λns=>(Zbn es).bind λms=>some (.bool (!ltI ns ms))
 | _,_=>none
noncomputable def Ycr:Xa->Xa->(Xa->Prop)->Prop:=λd e k=>∃r,Z25 d e=some r∧k r
theorem Yam:ByS Z25 Ycr:=λ_ _ r _ h hk=>⟨r,h,hk⟩
theorem Z43:P2s G (Ybx G) Ycr:=λH L x y d e k Q hx hy h kk=>by
 obtain⟨r,h,hk⟩:=h
 unfold Z25 at h
 split at h
 case h_2=>cases h
 obtain⟨ns,h1,h⟩:=bs h
 obtain⟨ms,h2,h⟩:=bs h
 cases h
 rw[J3 h1]at hx
 rw[J3 h2]at hy
 exact⟨L,L,ns,ms,hx,hy,kk _ _ (.bl _) hk⟩
end
end L2
namespace L2
open PySem PySem.Spec PyProof.Rows PySem.W
theorem Ze6{α β:Type}{lt:Nat->Nat->Bool}{f:α->KasT β}(t:KasT α):kEv lt (t.bind f)=kEv lt (f (kEv lt t)):=by
 induction t with
 | ret a=>rfl
 | ask i j k ih=>exact ih _
structure Tot(lt:Nat->Nat->Bool)(n:Nat):Prop where
 tr:∀i j k,i<n->j<n->k<n->lt i j=true->lt j k=true->lt i k=true
 tot:∀i j,i<n->j<n->i≠j->lt i j=false->lt j i=true
 asy:∀i j,i<n->j<n->lt i j=true->lt j i=false
section
variable {lt:Nat->Nat->Bool}{n:Nat}
noncomputable abbrev gD(p:Array Nat)(i:Nat):Nat:=p.getD i 0
theorem kP.size{p:Array Nat}(h:kP n p):p.size=n:=by rw[←X7,List.Perm.length_eq h,X3]
theorem Zm3{p:Array Nat}{i:Nat}(h:i<p.size):p[i]? =some (gD p i):=by rw[VM h];simp[gD,Array.getD,h]
theorem Zvy{p q:Array Nat}{i j:Nat}(h:p[i]? =q[j]?):gD p i=gD q j:=by
 show p.getD i 0=q.getD j 0
 rw[Array.getD_eq_getD_getElem?,Array.getD_eq_getD_getElem?,h]
theorem kP.blw{p:Array Nat}(h:kP n p){i:Nat}(hi:i<n):gD p i<n:=h.at (Nat.lt_of_le_of_lt (Qo _) hi) i
theorem kP.ne{p:Array Nat}(h:kP n p){i j:Nat}(hi:i<j)(hj:j<n):gD p i≠gD p j:=λe=>by
 have nd:p.toList.Nodup:=(List.Perm.nodup_iff h).mpr List.nodup_range
 have sz:=h.size
 have a:=Zm3 (p:=p) (i:=i) (by omega)
 have b:=Zm3 (p:=p) (i:=j) (by omega)
 rw[←Qd]at a b
 obtain⟨a1,a2⟩:=Xn.mp a
 obtain⟨b1,b2⟩:=Xn.mp b
 exact Bj.mp nd i j a1 b1 hi (by rw[a2,b2,e])
noncomputable def Ri(lt:Nat->Nat->Bool)(p:Array Nat)(m:Nat):Prop:=∀i j,i<j->j<m->lt (gD p i) (gD p j)=true
noncomputable def Fa(lt:Nat->Nat->Bool)(p:Array Nat)(m:Nat):Prop:=∀i j,i<j->j<m->lt (gD p j) (gD p i)=true
variable (T:Tot lt n)
include T
theorem Zyg{p:Array Nat}(h:kP n p)(f:Nat):∀m,1≤m->m+f≤n->Ri lt p m->Ri lt p (kEv lt (kas_asc p f m))∧m≤kEv lt (kas_asc p f m)∧kEv lt (kas_asc p f m)≤m+f∧(kEv lt (kas_asc p f m)<m+f->lt (gD p (kEv lt (kas_asc p f m))) (gD p (kEv lt (kas_asc p f m)-1))=true):=by
 induction f with
 | zero=>exact λm _ _ r=>⟨r,XN _,XN _,λz=>absurd z (Bq _)⟩
 | succ f ih=>
  intro m h1 hn r
  show _∧_
  rw[kas_asc,kEv]
  cases c:lt (p.getD m 0) (p.getD (m-1) 0)with
  | true=>
   rw[if_pos rfl,kEv]
   exact⟨r,XN _,JS _ _,λ_=>c⟩
  | false=>
   rw[if_neg Xm]
   have up:lt (gD p (m-1)) (gD p m)=true:=T.tot _ _ (h.blw (by omega)) (h.blw (by omega)) (h.ne (by omega) (by omega)).symm c
   have r2:Ri lt p (m+1):=λi j hij hj=>by
    rcases VP j m with q|q
    ·exact r i j hij q
    ·have:j=m:=by omega
     subst this
     rcases VP i (j-1)with q2|q2
     ·exact T.tr _ _ _ (h.blw (by omega)) (h.blw (by omega)) (h.blw (by omega)) (r i (j-1) q2 (by omega)) up
     ·have:i=j-1:=by omega
      subst this
      exact up
   obtain⟨a,b,c,d⟩:=ih (m+1) (by omega) (by omega) r2
   exact⟨a,by omega,by omega,λz=>d (by omega)⟩
theorem Z0g{p:Array Nat}(h:kP n p)(f:Nat):∀m,1≤m->m+f≤n->Fa lt p m->∃m',kEv lt (kas_desc f p m 0)=(p,m',0)∧Fa lt p m'∧m≤m'∧m'≤m+f:=by
 induction f with
 | zero=>exact λm _ _ r=>⟨m,rfl,r,XN _,XN _⟩
 | succ f ih=>
  intro m h1 hn r
  rw[kas_desc,kEv]
  cases c:lt (p.getD m 0) (p.getD (m-1) 0)with
  | true=>
   rw[if_pos rfl,if_neg (Bq _)]
   have r2:Fa lt p (m+1):=λi j hij hj=>by
    rcases VP j m with q|q
    ·exact r i j hij q
    ·have:j=m:=by omega
     subst this
     rcases VP i (j-1)with q2|q2
     ·exact T.tr _ _ _ (h.blw (by omega)) (h.blw (by omega)) (h.blw (by omega)) c (r i (j-1) q2 (by omega))
     ·have:i=j-1:=by omega
      subst this
      exact c
   obtain⟨m',e,a,b,d⟩:=ih (m+1) (by omega) (by omega) r2
   exact⟨m',e,a,by omega,by omega⟩
  | false=>
   rw[if_neg Xm,kEv]
   have up:lt (p.getD (m-1) 0) (p.getD m 0)=true:=T.tot _ _ (h.blw (by omega)) (h.blw (by omega)) (h.ne (by omega) (by omega)).symm c
   rw[up,if_pos rfl,kEv]
   exact⟨m,rfl,r,XN _,JS _ _⟩
theorem Zw4{p:Array Nat}(h:kP n p)(h0:0<n):∃m p',kEv lt (kas_count n p)=(m,p')∧kP n p'∧Ri lt p' m∧1≤m∧m≤n:=by
 rw[kas_count,Ze6]
 obtain⟨a,b,c,d⟩:=Zyg T h (n-1) 1 (XN _) (by omega) λi j _ _=>by omega
 generalize kEv lt (kas_asc p (n-1) 1)=m at a b c d
 by_cases e:m=n
 ·rw[if_pos (by rw[e];exact beq_self_eq_true _),kEv]
  exact⟨m,p,rfl,h,a,b,by omega⟩
 rw[if_neg (λz=>e (beq_iff_eq.mp z))]
 by_cases m1:m>1
 ·rw[if_pos m1,kEv,a 0 (m-1) (by omega) (by omega),if_pos rfl,kEv]
  exact⟨m,p,rfl,h,a,b,by omega⟩
 rw[if_neg m1]
 have em:m=1:=by omega
 subst em
 have lt1:=d (by omega)
 rw[kas_descPart,Ze6]
 obtain⟨m',e2,f2,b2,d2⟩:=Z0g T h (n-(1+1)) (1+1) (by omega) (by omega) λi j hij hj=>by
  have:i=0:=by omega
  have:j=1:=by omega
  subst i j
  exact lt1
 rw[e2,if_neg (Bq _),kas_tail3,Ze6,kEv]
 have kr:kP n (kas_rev p 0 m'):=h.rev _ _
 have rr:Ri lt (kas_rev p 0 m') m':=λi j hij hj=>by
  have ge:∀k,k<m'->gD (kas_rev p 0 m') k=gD p (m'-1-k):=λk hk=>Zvy (by
   have:=getElem?_mirror_all (xs:=p) (i:=0) (j:=m') (by rw[h.size];omega) k
   rw[if_pos ⟨Qo _,hk⟩,Nat.zero_add]at this
   exact this)
  rw[ge i (by omega),ge j hj]
  exact f2 _ _ (by omega) (by omega)
 obtain⟨a,b,c,_⟩:=Zyg T kr (n-m') m' (by omega) (by omega) rr
 have n2:2≤n:=by omega
 have:m'≤n:=by omega
 refine⟨_,_,rfl,kr,a,?_,?_⟩
 ·exact QT (by omega) b
 ·exact QT c (by omega)
theorem Zwa{p:Array Nat}(h:kP n p){k:Nat}(hk:k<n)(f:Nat):∀l r,l≤r->r≤k->r-l≤f->(∀i,i<l->lt (gD p i) (gD p k)=true)->(∀i,r≤i->i<k->lt (gD p k) (gD p i)=true)->Ri lt p k ->
  kEv lt (kas_place p k f l r)≤k∧(∀i,i<kEv lt (kas_place p k f l r)->lt (gD p i) (gD p k)=true)∧∀i,kEv lt (kas_place p k f l r)≤i->i<k->lt (gD p k) (gD p i)=true:=by
 induction f with
 | zero=>
  intro l r lr rk z a b R
  have:l=r:=by omega
  subst this
  exact⟨rk,a,b⟩
 | succ f ih=>
  intro l r lr rk z a b R
  rw[kas_place]
  by_cases c:l≥r
  ·rw[if_pos c,kEv]
   exact⟨by omega,a,λi x y=>b i (by omega) y⟩
  rw[if_neg c,kEv]
  have hm:(l+r)/2<k:=by omega
  cases q:lt (p.getD k 0) (p.getD ((l+r)/2) 0)with
  | true=>
   rw[if_pos rfl]
   refine ih _ _ (by omega) (by omega) (by omega) a (λi x y=>?_) R
   by_cases e:i=(l+r)/2
   ·subst e;exact q
   ·exact T.tr _ _ _ (h.blw hk) (h.blw (by omega)) (h.blw (by omega)) q (R _ _ (by omega) y)
  | false=>
   rw[if_neg Xm]
   have up:lt (gD p ((l+r)/2)) (gD p k)=true:=T.tot _ _ (h.blw hk) (h.blw (by omega)) (h.ne hm hk).symm q
   refine ih _ _ (by omega) (by omega) (by omega) (λi x=>?_) b R
   by_cases e:i=(l+r)/2
   ·subst e;exact up
   ·exact T.tr _ _ _ (h.blw (by omega)) (h.blw (by omega)) (h.blw hk) (R _ _ (by omega) hm) up
theorem Z3s(f:Nat):∀{p:Array Nat} (h:kP n p) (k:Nat),k+f≤n->Ri lt p k->Ri lt (kEv lt (kas_bin f p k)) (k+f):=by
 induction f with
 | zero=>exact λh k _ r=>r
 | succ f ih=>
  intro p h k hn r
  rw[kas_bin,Ze6]
  obtain⟨a,b,c⟩:=Zwa T h (k:=k) (by omega) k 0 k (Qo _) (XN _) (by omega) (λi z=>absurd z (Vh _)) (λi x y=>absurd y (by omega)) r
  generalize kEv lt (kas_place p k k 0 k)=l at a b c
  have ge:∀j,gD (bubble p k (k-l)) j=if j=l then gD p k else if l<j∧j≤k then gD p (j-1)else gD p j:=λj=>by
   have e:=getElem?_bubble (xs:=p) (src:=k) (by rw[h.size];omega) (k-l) (by omega) j
   have e0:k-(k-l)=l:=by omega
   rw[e0]at e
   by_cases c1:j=l
   ·rw[if_pos c1]at e⊢
    exact Zvy e
   ·rw[if_neg c1]at e⊢
    by_cases c2:l<j∧j≤k
    ·rw[if_pos c2]at e⊢
     exact Zvy e
    ·rw[if_neg c2]at e⊢
     exact Zvy e
  have:=ih (h.bub k (k-l)) (k+1) (by omega) λi j hij hj=>?_
  ·rw[show k+1+f=k+(f+1) by omega]at this
   exact this
  rw[ge,ge]
  rcases Vz j l with q|q|q
  ·rw[if_neg (by omega),if_neg (by omega),if_neg (by omega),if_neg (by omega)]
   exact r i j hij (by omega)
  ·rw[if_neg (by omega),if_neg (by omega),if_pos q]
   exact b i (by omega)
  ·rw[if_neg (show¬j=l by omega),if_pos (show l<j∧j≤k by omega)]
   rcases Vz i l with q2|q2|q2
   ·rw[if_neg (by omega),if_neg (by omega)]
    exact r i (j-1) (by omega) (by omega)
   ·rw[if_pos q2]
    exact c (j-1) (by omega) (by omega)
   ·rw[if_neg (by omega),if_pos (by omega)]
    exact r (i-1) (j-1) (by omega) (by omega)
theorem Z0o(h0:0<n):Ri lt (kEv lt (kas_sort n)) n:=by
 rw[kas_sort,Ze6]
 obtain⟨m,p,e,kp,r,l1,l2⟩:=Zw4 T (p:=VL (Xr n)) (List.Perm.refl _) h0
 rw[e]
 by_cases c:m<n
 ·rw[if_pos c]
  have em:max m 1=m:=by omega
  rw[em]
  have:=Z3s T (n-m) kp m (by omega) r
  rw[show m+(n-m)=n by omega]at this
  exact this
 ·rw[if_neg c,kEv]
  have:m=n:=by omega
  rw[this]at r
  exact r
theorem Z0f(h0:0<n):(Zu4 lt n).Pairwise λi j=>lt i j=true:=by
 have h:kP n (kEv lt (kas_sort n)):=(Zh9 h0).ev (P:=kP n)
 have r:=Z0o T h0
 refine Bj.mpr λi j hi hj hij=>?_
 have sz:=h.size
 rw[←X7]at sz
 have l2:(Zu4 lt n).length=n:=sz
 have ge:∀k (hk:k<(Zu4 lt n).length),(Zu4 lt n)[k]=gD (kEv lt (kas_sort n)) k:=λk hk=>by
  have:=Zm3 (p:=kEv lt (kas_sort n)) (i:=k) (by rw[h.size];omega)
  rw[←Qd]at this
  exact(Xn.mp this).2
 rw[ge,ge]
 exact r i j hij (by omega)
end
theorem Z1v{α β:Type}{d:α}{lt:Nat->Nat->Bool}{vs:List α}{R:α->α->Prop}(T:Tot lt vs.length)(hR:∀i j,i<vs.length->j<vs.length->lt i j=true->R (vs.getD i d) (vs.getD j d)):(sLay d lt vs).Pairwise R:=by
 unfold sLay
 split
 ·rename_i c
  match vs,c with
  | [],_=>exact .nil
  | [a],_=>exact List.pairwise_singleton _ _
 ·rename_i c
  have pm:=Zev (lt:=lt) (n:=vs.length) (by omega)
  have up:=Z0f T (by omega)
  have h:=List.Pairwise.imp_of_mem (fun{i j} hi hj e=>hR i j (X8.mp (pm.mem_iff.mp hi)) (X8.mp (pm.mem_iff.mp hj)) e) up
  exact List.pairwise_map.mpr h
end L2
namespace L2
open PySem PySem.Spec PyProof.Rows PySem.W PySem.SeqAt
open AutoSeq1 (wpAny_loadPart')
open MeetsSeq MeetsSeq2 MeetsSeq3 SeqRoads2
theorem Zq5(l b:Addr)(items items2:Array Xd)(n n2:Nat)(dd dd2:Option Addr)(sl sl2:Array (Option Xd)){xs ys:List Int}(h1:Q6 items.toList xs)(h2:Q6 items2.toList ys)(k:Nat) :
  ∀i:Nat,items.size-i=k->i≤items.size->i≤items2.size->Meets (Ba.«list.__eq__.loop» ⟨[.ref l,.ref b,JL i,JL 4],[]⟩)
   (λA R s=>s.heap.get? l=some { cls:=.type "list",dict:=dd,data:=.seq items n,slots:=sl }∧s.heap.get? b=some { cls:=.type "list",dict:=dd2,data:=.seq items2 n2,slots:=sl2 }∧
    R (.ok (.ret (.bool (ltI (ys.drop i) (xs.drop i))))) s):=by
 have e1:items.size=xs.length:=Za6 h1
 have e2:items2.size=ys.length:=Za6 h2
 have fin:∀i,i≤items.size->i≤items2.size->(i=items.size∨i=items2.size)->ltI (ys.drop i) (xs.drop i)=decide (items.size>items2.size):=λi u1 u2 c=>by
  rw[Ze3 (c.symm.imp (λc=>JH (by omega)) λc=>JH (by omega)),Qu,Qu]
  exact decide_eq_decide.mpr (by omega)
 induction k with
 | zero=>
  intro i hk u1 u2 prog w A R s h
  obtain⟨hp,g,d,tk,os⟩:=s;obtain⟨hl,hb,h⟩:=h
  wp_walk using Xz hl,Xz hb
  have hi1:items[((i:Nat):Int).toNat]? =none:=by simp;omega
  rw[fin i u1 u2 (.inl (by omega))]at h
  rw[hi1]
  wp_walk using Xz hl,Xz hb
  exact h
 | succ k ih=>
  intro i hk u1 u2 prog w A R s h
  obtain⟨hp,g,d,tk,os⟩:=s;obtain⟨hl,hb,h⟩:=h
  have hlt:i<items.size:=by omega
  obtain⟨x,t,q1,q2⟩:=Zgf h1 i hlt
  have hi1:items[((i:Nat):Int).toNat]? =some (.int x t):=by rw[Qm,←q1,Qd]
  wp_walk using Xz hl,Xz hb
  by_cases c:i<items2.size
  ·obtain⟨y,u,q3,q4⟩:=Zgf h2 i c
   have hi2:items2[((i:Nat):Int).toNat]? =some (.int y u):=by rw[Qm,←q3,Qd]
   have hc:((i:Int)+1)=((i+1:Nat):Int):=by push_cast;rfl
   rw[q2,q4]at h
   unfold ltI at h
   rw[hi1,hi2]
   refine Xb (EqAt.int_int x t y u prog w _ _ ?_)
   by_cases cx:x=y
   ·rw[if_pos cx.symm]at h
    rw[beq_iff_eq.mpr cx]
    wp_walk
    rw[hc]
    exact⟨Bw Bh _,Q9 UV (by
     rw[QJ Bh _]
     exact ih (i+1) (by omega) (by omega) (by omega) prog w A R _ ⟨hl,hb,h⟩)⟩
   ·rw[if_neg λz=>cx z.symm]at h
    rw[beq_eq_false_iff_ne.mpr cx]
    wp_walk using Xz hl,Xz hb
    rw[hi1,hi2]
    refine Xb (PyProof.Rows.gt_int ?_)
    wp_walk
    exact h
  ·have hi2:items2[((i:Nat):Int).toNat]? =none:=by simp;omega
   rw[fin i u1 u2 (.inr (by omega))]at h
   rw[hi1,hi2]
   wp_walk using Xz hl,Xz hb
   exact h
theorem Ztg(l b:Addr)(items items2:Array Xd)(n n2:Nat)(dd dd2:Option Addr)(sl sl2:Array (Option Xd)){xs ys:List Int}(h1:Q6 items.toList xs)(h2:Q6 items2.toList ys) :
  Meets (Ba.«list.__gt__» ⟨[.ref l,.ref b],[]⟩)
   (λA R s=>s.heap.get? l=some { cls:=.type "list",dict:=dd,data:=.seq items n,slots:=sl }∧s.heap.get? b=some { cls:=.type "list",dict:=dd2,data:=.seq items2 n2,slots:=sl2 }∧
    R (.ok (.ret (.bool (ltI ys xs)))) s):=by
 intro prog w A R s h
 obtain⟨hp,g,d,tk,os⟩:=s;obtain⟨hl,hb,h⟩:=h
 have f3:=AutoSeq1.sub_list_list
 wp_walk using Xz hl,Xz hb
 exact⟨Bw Bh _,Q9 UV (by
  rw[QJ Bh _]
  exact Zq5 l b items items2 n n2 dd dd2 sl sl2 h1 h2 _ 0 rfl (Qo _) (Qo _) prog w A R _ ⟨hl,hb,h⟩)⟩
end L2
namespace L2
open PySem PySem.Spec PyProof.Rows
variable {G:Xc}
section
variable {X:Cx}
noncomputable def Ycd(K:Xc):R2:=λx y H Q=>∃(L L':Addr->Prop) (ns ms:List Int),Da K H L x (.list (ns.map Xk))∧Da K H L' y (.list (ms.map Xk))∧Q (.bl (ltI ms ns)) H
theorem Z4n(hu:X.A.units+64<cLine):OpR X (BK .Gt) (Ycd X.K):=by
 intro pins s σ H x y v u Q I rx ry h
 obtain⟨L,L',ns,ms,h1,h2,q⟩:=h
 obtain⟨as,k1⟩:=h1.reads rfl I rx (lay_ints ns).1
 obtain⟨bs,k2⟩:=h2.reads rfl I ry (lay_ints ms).1
 obtain⟨a,i1,rfl,⟨⟨cls,dd,data,sl⟩,hl,hc,n,hd⟩,z1⟩:=Jd k1
 obtain⟨b,i2,rfl,⟨⟨cls2,dd2,data2,sl2⟩,hl2,hc2,n2,hd2⟩,z2⟩:=Jd k2
 simp only at hc hd hc2 hd2
 subst hc hd hc2 hd2
 exact richCompare_meets_room (op:=.Gt) ⟨_,hl,rfl⟩ ⟨_,hl2,rfl⟩ F.slot_list_gt F.entry_list_gt (F.args_list_gt_2 _ _) (Ztg a b i1 i2 n n2 dd dd2 sl sl2 z1 z2)
  ⟨hl,hl2,show U5 (ltI ms ns)≠Value.notImplemented∧_ from⟨(λx=>nomatch x),⟨.bl (ltI ms ns),H,I,rfl,q⟩⟩⟩ (by omega)
noncomputable def Z3k:Xa->Xa->Option Xa:=λd e=>match d,e with
 | .list ds,.list es=>(Zbn ds).bind λns=>(Zbn es).bind λms=>some (.bool (ltI ms ns))
 | _,_=>none
noncomputable def Yb2:Xa->Xa->(Xa->Prop)->Prop:=λd e k=>∃r,Z3k d e=some r∧k r
theorem Yab:ByS Z3k Yb2:=λ_ _ r _ h hk=>⟨r,h,hk⟩
theorem Z3o:P2s G (Ycd G) Yb2:=λH L x y d e k Q hx hy h kk=>by
 obtain⟨r,h,hk⟩:=h
 unfold Z3k at h
 split at h
 case h_2=>cases h
 obtain⟨ns,h1,h⟩:=bs h
 obtain⟨ms,h2,h⟩:=bs h
 cases h
 rw[J3 h1]at hx
 rw[J3 h2]at hy
 exact⟨L,L,ns,ms,hx,hy,kk _ _ (.bl _) hk⟩
end
end L2
namespace My
open PySem L2 PySem.Spec
noncomputable def We(R:FD):FS :=
 (Z4 (Jv (tD (Zfc "int" (Zd 1)))
  (wE (Zqw (Zfc "int" (Zd 0)) (Zqw (fUn Z7t (Zfc "bool" (Zd 0))) (Zf gEq (Zd 0) (Zd 1)))) Ja)
  fNx)
  (Z4 (Jv (tD (Zfc "str" (Zd 1)))
  (wE (Zqw (Zfc "str" (Zd 0)) (Zf gEq (Zd 0) (Zd 1))) Ja)
  fNx)
  (Z4 (Jv (tO (tV (Zf gNe (Zfc "tuple" (Zd 1)) (Zfc "tuple" (Zd 0)))) (tV (Zf gNe (Zfc "list" (Zd 1)) (Zfc "list" (Zd 0)))))
  (wE (fC (.bool false)) Ja)
  fNx)
  (Z4 (Jv (tV (Zf gNe (Zbx Za5 (Zc (Zd 0) Zq)) (Zbx Za5 (Zc (Zd 1) Zq))))
  (wE (fC (.bool false)) Ja)
  fNx)
  (Z4 (Zbw (Zgx (Zc (Zd 0) (Zc (Zd 1) Zq))) (gTp 2 (gCn (gNm 2) (gCn (gNm 3) gNl)))
  (Jv (tNo (tD (Zu R (Zc (Zd 2) (Zc (Zd 3) Zq)))))
  (wE (fC (.bool false)) Ja)
  fNx))
  (wE (fC (.bool true)) Ja))))))
noncomputable def Zn:Nat->FD
 | 0=>λ_=>RF.bad
 | k+1=>J0 2 4 (We (Zn k))
noncomputable def Zdw:FS :=
 (Z4 (wE (Zbx Z28 (Zc (Zd 0) Zq)) (Y6 2))
  (Z4 (wE (Zd 1) (Y6 3))
  (Z4 (Zjh (tV (Zf gNe (Zd 3) (fC (.int 0)))) (Z4 (wE (Zf Zez (Zd 2) (Zd 3)) (Y6 4))
  (Z4 (wE (Zd 3) (Y6 2))
  (wE (Zd 4) (Y6 3)))))
  (wE (Zif (Zc (Zf Zac (Zd 0) (Zd 2)) (Zc (Zf Zac (Zd 1) (Zd 2)) Zq))) Ja))))
noncomputable def Yt:FD:=J0 2 5 Zdw
noncomputable def Zaw:FS :=
 (Z4 (Jv (tNo (tD (Zfc "list" (Zd 1))))
  (wE (fC (.bool false)) Ja)
  fNx)
  (Z4 (Zbw (Zgi (Zd 1)) (gNm 3)
  (Z4 (Jv (tO (tNo (tD (Zfc "tuple" (Zd 3)))) (tO (tV (Zf gNe (Zbx Za5 (Zc (Zd 3) Zq)) (fC (.int 2)))) (tNo (tD (Zfc "list" (Ye gIx (Zd 3) (fC (.int 0))))))))
  (wE (fC (.bool false)) Ja)
  fNx)
  (Z4 (wE (Ye gIx (Zd 3) (fC (.int 0))) (Y6 4))
  (Z4 (Jv (tV (Zf gNe (Wj 1 [] (Zgi (Zd 4)) (gNm 0) (tO (tD (Zfc "bool" (Zd 0))) (tNo (tD (Zfc "int" (Zd 0))))) (Zd 0)) (Zdu Zq)))
  (wE (fC (.bool false)) Ja)
  fNx)
  (Z4 (Jv (tO (tV (Zf gNe (Zd 4) (Zg6 (Zc (Zd 4) Zq)))) (tO (tV (Zf gEq (Zd 4) (Zdu Zq))) (tO (tV (Zf gLt (Ye gIx (Zd 4) (fC (.int 0))) (fC (.int 1)))) (tV (Zf gGe (Ye gIx (Zd 4) (fUn Zqx (fC (.int 1)))) (Zd 0))))))
  (wE (fC (.bool false)) Ja)
  fNx)
  (Z4 (wE (Ye gIx (Zd 3) (fC (.int 1))) (Y6 5))
  (Z4 (Jv (tO (tNo (tD (Zfc "tuple" (Zd 5)))) (tV (Zf gNe (Zbx Za5 (Zc (Zd 5) Zq)) (fC (.int 2)))))
  (wE (fC (.bool false)) Ja)
  fNx)
  (Z4 (Jv (tV (Zf gNe (Wj 1 [] (iTp (Zd 5)) (gNm 0) (tO (tD (Zfc "bool" (Zd 0))) (tNo (tD (Zfc "int" (Zd 0))))) (Zd 0)) (Zdu Zq)))
  (wE (fC (.bool false)) Ja)
  fNx)
  (Jv (tO (tV (Zf gLt (Ye gIx (Zd 5) (fC (.int 0))) (fC (.int 1)))) (tO (tV (Zf gLt (Ye gIx (Zd 5) (fC (.int 1))) (fC (.int 1)))) (tO (tV (Zf gNe (Zu Yt (Zc (Ye gIx (Zd 5) (fC (.int 0))) (Zc (Ye gIx (Zd 5) (fC (.int 1))) Zq))) (Zd 5))) (tV (Zf gGt (Zf Zez (Zf Zcv (fC (.int 2)) (Zd 2)) (Ye gIx (Zd 5) (fC (.int 1)))) (fC (.int 0)))))))
  (wE (fC (.bool false)) Ja)
  fNx)))))))))
  (wE (Zf gEq (Wj 1 [1] (iRb (Zc (fC (.int 1)) (Zc (Zbx Za5 (Zc (Zd 1) Zq)) Zq))) (gNm 0) (tV (Zf Z25 (Ye gIx (Ye gIx (Zd 1) (Zf gSb (Zd 0) (fC (.int 1)))) (fC (.int 0))) (Ye gIx (Ye gIx (Zd 1) (Zd 0)) (fC (.int 0))))) (Zd 0)) (Zdu Zq)) Ja)))
noncomputable def Y9:FD:=J0 3 6 Zaw
noncomputable def Zag:FS :=
 (Z4 (wE (Zla (Zd 0) (fC (.int 0))) (Y6 1))
  (Z4 (wE (Ye Zlt (fSl (Zd 0) (oI (Zd 1)) oN) (fSl (Zd 0) oN (oI (Zd 1)))) (Y6 2))
  (Z4 (Jv (tAn (tV (Zf gGt (Zbx Za5 (Zc (Zd 2) Zq)) (fC (.int 2)))) (tV (Zf gGt (Ye gIx (Zd 2) (fC (.int 1))) (Ye gIx (Zd 2) (fUn Zqx (fC (.int 1)))))))
  (wE (Ye Zlt (fSl (Zd 2) oN (oI (fC (.int 1)))) (Zwz (Zd 2) oN (oI (fC (.int 0))) (oI (fUn Zqx (fC (.int 1)))))) (Y6 2))
  fNx)
  (wE (Zd 2) Ja))))
noncomputable def W9:FD:=J0 1 3 Zag
noncomputable def Zc1:FS :=
 (Z4 (wE (Zu Wl (Zc (Zd 0) (Zc (Zd 1) Zq))) (Y6 2))
  (Z4 (wE (Zyi (Zc (Zd 1) Zq)) (Zb5 3))
  (Z4 (wE (Zdu Zq) (Zb5 4))
  (Z4 (Zbw (iRa (Zc (Zd 1) Zq)) (gNm 5)
  (Wk 4 (Z5x 3 (Zf Zez (Ye gIx (Zd 2) (Zd 5)) (Zbx Za5 (Zc (Zq0 3) Zq))))))
  (Zeg 4 (wE (Zu W9 (Zc (Zd 4) Zq)) Ja))))))
noncomputable def Jp:FD:=J0 2 6 Zc1
noncomputable def Js:FS :=
 (Z4 (wE (Ye gIx (Zdu (Zc (fC (.int 3)) (Zc (fC (.int 12)) (Zc (Zf Zvk (fC (.int 10)) (fC (.int 20))) Zq)))) (Zf Zez (Zd 3) (fC (.int 3)))) (Y6 4))
  (Z4 (wE (Zdu Zq) (Zb5 5))
  (Z4 (Zbw (iRa (Zc (Zf Zac (Zf Zcv (Zd 2) (Zf gSb (Zd 2) (fC (.int 1)))) (fC (.int 2))) Zq)) (gNm 6)
  (Z4 (wE (Zu Wt (Zc (Zd 3) (Zc (Zf Zau (fC (.int 50)) (Zd 6)) Zq))) (Y6 7))
  (Z4 (Jv (tV (Zf gLt (Zf Zau (Zd 1) (Zd 6)) (Zbx Za5 (Zc (Zd 0) Zq))))
  (wE (Ye gIx (Zd 0) (Zf Zau (Zd 1) (Zd 6))) (Y6 7))
  fNx)
  (Wk 5 (Zf Zez (Zd 7) (Zd 4))))))
  (Zfb 5))))
noncomputable def Yo:FD:=J0 4 8 Js
noncomputable def Zck:FS :=
 (Z4 (wE (Wj 1 [0] (iRa (Zc (Zd 0) Zq)) (gNm 0) Zg2 (Z3a (fC (.int 0)) (Zd 1))) (Zb5 3))
  (Z4 (Zbw (Zgx (Zc (Zd 1) (Zc (Zd 2) Zq))) (gTp 2 (gCn (gNm 4) (gCn (gNm 5) gNl)))
  (Zbw (iRa (Zc (Zd 0) Zq)) (gNm 6)
  (Zbw (iRa (Zc (Zd 0) Zq)) (gNm 7)
  (Jv (tV (Zf gNe (Zf (Zmt false) (Zd 6) (Zd 4)) (Zf (Zmt false) (Zd 7) (Zd 4))))
  (Zru 3 (Zf Zau (Ye gIx (Ye gIx (Zq0 3) (Zd 6)) (Zd 7)) (Zd 5)) (Zd 6) (Zd 7))
  fNx))))
  (Zfb 3)))
noncomputable def Y5:FD:=J0 3 8 Zck
noncomputable def Zcr:FS :=
 (Z4 (wE (Zdu Zq) (Zb5 1))
  (Z4 (Zbw (iRa (Zc (Zd 0) Zq)) (gNm 2)
  (Zhp 1 (Wj 1 [2] (iRb (Zc (Zf Zau (Zd 2) (fC (.int 1))) (Zc (Zd 0) Zq))) (gNm 0) Zg2 (Zif (Zc (Zd 1) (Zc (Zd 0) Zq))))))
  (Zfb 1)))
noncomputable def Zam:FD:=J0 1 3 Zcr
noncomputable def Zcd:FS :=
 (wE (Wj 2 [0] (Zgi (Zu Zam (Zc (Zbx Za5 (Zc (Zd 0) Zq)) Zq))) (gTp 2 (gCn (gNm 0) (gCn (gNm 1) gNl))) Zg2 (fBl Zeq (Zc (fSl (Zd 2) (oI (Zf Zau (Zd 0) (fC (.int 1)))) (oI (Zf Zau (Zd 1) (fC (.int 1))))) Zq))) Ja)
noncomputable def Zaa:FD:=J0 1 1 Zcd
noncomputable def Zbs:FS :=
 (Z4 (Zbw (iRa (Zc (Zd 0) Zq)) (gNm 4)
  (Zbw (iRa (Zc (Zd 0) Zq)) (gNm 5)
  (Z4 (wE (fC (.int 0)) (Y6 6))
  (Z4 (Zbw (Zgi (Zd 1)) (gTp 2 (gCn (gNm 7) (gCn (gNm 8) gNl)))
  (Jv (tV (Zf gNe (Zf (Zmt false) (Zd 4) (Zd 7)) (Zf (Zmt false) (Zd 5) (Zd 7))))
  (wE (Zf Zau (Zd 6) (Zf Zcv (Ye gIx (Zd 8) (fC (.int 0))) (Zf Zac (Zf Zcv (fC (.int 2)) (Zd 2)) (Ye gIx (Zd 8) (fC (.int 1)))))) (Y6 6))
  fNx))
  (Jv (tV (Zf gNe (Zd 6) (Zf Zcv (fC (.int 2)) (Ye gIx (Ye gIx (Zd 3) (Zd 4)) (Zd 5)))))
  (wE (fC (.bool false)) Ja)
  fNx)))))
  (wE (fC (.bool true)) Ja))
noncomputable def W5:FD:=J0 4 9 Zbs
noncomputable def Zcf:FS :=
 (wE (Wj 1 [1] (Zgi (Zd 0)) (gNm 0) Zg2 (Wj 1 [1] (Zgi (Zd 0)) (gNm 0) Zg2 (Zu Yt (Zc (Zd 0) (Zc (Zd 1) Zq))))) Ja)
noncomputable def Wh:FD:=J0 2 2 Zcf
noncomputable def Zas:FS :=
 (wE (fBl (Zmh kdT ltT) (Zc (Wj 2 [2] (Zgx (Zc (Zd 0) (Zc (Zd 1) Zq))) (gTp 2 (gCn (gNm 0) (gCn (gNm 1) gNl))) (tV (Zf gGt (Zd 1) (fC (.int 0)))) (Zif (Zc (fBl Zq6 (Zc (Zd 0) Zq)) (Zc (Zu Yt (Zc (Zd 1) (Zc (Zd 2) Zq))) Zq)))) Zq)) Ja)
noncomputable def Yr:FD:=J0 3 3 Zas
noncomputable def Zh3:FS :=
 (wE (Zu Wx (Zc (Zf Zau (Zf Zcv (Ye gIx (Zd 0) (fC (.int 0))) (Ye gIx (Zd 1) (fC (.int 1)))) (Zf Zcv (Ye gIx (Zd 1) (fC (.int 0))) (Ye gIx (Zd 0) (fC (.int 1))))) (Zc (Zf Zcv (Ye gIx (Zd 0) (fC (.int 1))) (Ye gIx (Zd 1) (fC (.int 1)))) Zq))) Ja)
noncomputable def Zea:FD:=J0 2 2 Zh3
noncomputable def Zgm:FS :=
 (Z4 (Jv (tV (Zf gNe (Zbx Za5 (Zc (Zd 0) Zq)) (Zbx Za5 (Zc (Zd 1) Zq))))
  (Zi5 "NoTable")
  fNx)
  (Z4 (wE (Zdu Zq) (Zb5 2))
  (Z4 (Zbw (Zgx (Zc (Zd 0) (Zc (Zd 1) Zq))) (gTp 2 (gCn (gNm 3) (gCn (gNm 4) gNl)))
  (Wk 2 (Wj 2 [] (Zgx (Zc (Zd 3) (Zc (Zd 4) Zq))) (gTp 2 (gCn (gNm 0) (gCn (gNm 1) gNl))) Zg2 (Zu Zea (Zc (Zd 0) (Zc (Zd 1) Zq))))))
  (Zfb 2))))
noncomputable def Za2:FD:=J0 2 5 Zgm
noncomputable def Zao:FS :=
 (Z4 (wE (Ye gIx (Zd 1) (Zd 2)) (Y6 4))
  (Z4 (wE (Ye gIx (Zd 1) (Zf Zau (Zd 2) (fC (.int 1)))) (Y6 5))
  (Z4 (wE (Ye gIx (Zd 1) (Zd 3)) (Y6 6))
  (Z4 (wE (Ye gIx (Zd 1) (Zf Zez (Zf Zau (Zd 3) (fC (.int 1))) (Zbx Za5 (Zc (Zd 0) Zq)))) (Y6 7))
  (wE (Zf gSb (Zf gSb (Zf Zau (Ye gIx (Ye gIx (Zd 0) (Zd 4)) (Zd 6)) (Ye gIx (Ye gIx (Zd 0) (Zd 5)) (Zd 7))) (Ye gIx (Ye gIx (Zd 0) (Zd 4)) (Zd 7))) (Ye gIx (Ye gIx (Zd 0) (Zd 5)) (Zd 6))) Ja)))))
noncomputable def Zz:FD:=J0 4 8 Zao
noncomputable def Zcm:FS :=
 (Z4 (Zbw (iRa (Zc (Zd 2) Zq)) (gNm 3)
  (Jv (tV (Zf gLt (Zu Zz (Zc (Zd 0) (Zc (Zd 1) (Zc (Zd 3) (Zc (Zd 2) Zq))))) (fC (.int 0))))
  (wE (fC (.bool false)) Ja)
  fNx))
  (wE (fC (.bool true)) Ja))
noncomputable def Yj:FD:=J0 3 4 Zcm
noncomputable def Wn(R:FD):FS :=
 (Z4 (wE (Zbx Za5 (Zc (Zd 0) Zq)) (Y6 2))
  (Z4 (Jv (tV (Zf gEq (Zbx Za5 (Zc (Zd 1) Zq)) (Zd 2)))
  (wE (fIf (tAn (tV (Zf gLt (Ye gIx (Zd 1) (fC (.int 1))) (Ye gIx (Zd 1) (fUn Zqx (fC (.int 1)))))) (tD (Zu Yj (Zc (Zd 0) (Zc (Zd 1) (Zc (Zf gSb (Zd 2) (fC (.int 1))) Zq)))))) (Zd 1) (fC .none)) Ja)
  fNx)
  (Z4 (Zbw (iRb (Zc (fC (.int 1)) (Zc (Zd 2) Zq))) (gNm 3)
  (Jv (tAn (tV (Zf (Zmt true) (Zd 3) (Zd 1))) (tD (Zu Yj (Zc (Zd 0) (Zc (Ye Zlt (Zd 1) (Zdu (Zc (Zd 3) Zq))) (Zc (Zf gSb (Zbx Za5 (Zc (Zd 1) Zq)) (fC (.int 1))) Zq))))))
  (Z4 (wE (Zu R (Zc (Zd 0) (Zc (Ye Zlt (Zd 1) (Zdu (Zc (Zd 3) Zq))) Zq))) (Y6 4))
  (Jv (tV (Zf Zhf (Zd 4) (fC .none)))
  (wE (Zd 4) Ja)
  fNx))
  fNx))
  (wE (fC .none) Ja))))
noncomputable def Z2:Nat->FD
 | 0=>λ_=>RF.bad
 | k+1=>J0 2 5 (Wn (Z2 k))
noncomputable def Zbp:FS :=
 (Z4 (Jv (tV (Zf gLt (Zbx Za5 (Zc (Zd 0) Zq)) (fC (.int 3))))
  (wE (fC .none) Ja)
  fNx)
  (wE (Zu (Z2 8) (Zc (Zu Yq (Zc (Zu Z6 (Zc (Zd 0) Zq)) (Zc (Zd 0) Zq))) (Zc (Zdu (Zc (fC (.int 0)) Zq)) Zq))) Ja))
noncomputable def Wz:FD:=J0 1 1 Zbp
noncomputable def Zd0:FS :=
 (Z4 (Zbw (Zgi (Zd 1)) (gNm 2)
  (Jv (tNo (tD (Zu Y4 (Zc (Zd 2) Zq))))
  (wE (fC (.bool false)) Ja)
  fNx))
  (Z4 (Jv (tO (tV (Zf gLt (Zd 0) (fC (.int 3)))) (tV (Zf gNe (fBl Zeq (Zc (Zd 1) Zq)) (Zyi (Zc (Zd 0) Zq)))))
  (wE (fC (.bool false)) Ja)
  fNx)
  (wE (Zqw (Zf gEq (Ye gIx (Zd 1) (fC (.int 0))) (fC (.int 0))) (Zf gLt (Ye gIx (Zd 1) (fC (.int 1))) (Ye gIx (Zd 1) (fUn Zqx (fC (.int 1)))))) Ja)))
noncomputable def Zbf:FD:=J0 2 3 Zd0
noncomputable def Zbr:FS :=
 (Jv (tNo (tD (Zu Zbf (Zc (Zd 0) (Zc (Zd 1) Zq)))))
  (Zi5 "NoOrder")
  fNx)
noncomputable def W6:FD:=J0 2 2 Zbr
noncomputable def Zce:FS :=
 (Z4 (wE (Zu W6 (Zc (Zbx Za5 (Zc (Zd 0) Zq)) (Zc (Zd 1) Zq))) Ztk)
  (Z4 (wE (Zu Z6 (Zc (Zd 0) Zq)) (Y6 2))
  (Z4 (wE (Zu Yq (Zc (Zd 2) (Zc (Zd 0) Zq))) (Y6 3))
  (Z4 (wE (Zdu Zq) (Zb5 4))
  (Z4 (Zbw (Zgi (Zu Jl (Zc (Zbx Za5 (Zc (Zd 0) Zq)) Zq))) (gTp 2 (gCn (gNm 5) (gCn (gNm 6) gNl)))
  (Z4 (wE (Zu Zz (Zc (Zd 3) (Zc (Zd 1) (Zc (Zd 5) (Zc (Zd 6) Zq))))) (Y6 7))
  (Z4 (Jv (tV (Zf gLt (Zd 7) (fC (.int 0))))
  (wE (Zif (Zc (fC (.str "bars")) (Zc (Zif (Zc (Zd 5) (Zc (Zd 6) Zq))) Zq))) Ja)
  fNx)
  (Jv (tV (Zf gGt (Zd 7) (fC (.int 0))))
  (Wk 4 (Zif (Zc (fBl Zeq (Zc (fSl (Zd 1) (oI (Zf Zau (Zd 5) (fC (.int 1)))) (oI (Zf Zau (Zd 6) (fC (.int 1))))) Zq)) (Zc (Zu Y0 (Zc (Zd 7) (Zc (Zf Zcv (fC (.int 2)) (Zd 2)) Zq))) Zq))))
  fNx))))
  (Zeg 4 (wE (Zif (Zc (fC (.str "ring")) (Zc (fBl (Zmh kdT ltT) (Zc (Zd 4) Zq)) Zq))) Ja)))))))
noncomputable def Yn:FD:=J0 2 8 Zce
noncomputable def Zcw:FS :=
 (wE (Zf gLt (Zf Zcv (Ye gIx (Zd 0) (fC (.int 0))) (Ye gIx (Zd 1) (fC (.int 1)))) (Zf Zcv (Ye gIx (Zd 1) (fC (.int 0))) (Ye gIx (Zd 0) (fC (.int 1))))) Ja)
noncomputable def Zan:FD:=J0 2 2 Zcw
noncomputable def Zgd:FS :=
 (wE (Zu Wx (Zc (Zf Zcv (Ye gIx (Zd 0) (fC (.int 0))) (Ye gIx (Zd 1) (fC (.int 0)))) (Zc (Zf Zcv (Ye gIx (Zd 0) (fC (.int 1))) (Ye gIx (Zd 1) (fC (.int 1)))) Zq))) Ja)
noncomputable def Zdh:FD:=J0 2 2 Zgd
noncomputable def Za4:FS :=
 (Z4 (Jv (tD (Zu Zan (Zc (Zd 0) (Zc (Zif (Zc (fC (.int 0)) (Zc (fC (.int 1)) Zq))) Zq))))
  (Zi5 "NoNumber")
  fNx)
  (Z4 (wE (Zdu Zq) (Zb5 2))
  (Z4 (Zbw (Zgi (Zd 1)) (gNm 3)
  (Wk 2 (Wj 1 [0] (Zgi (Zd 3)) (gNm 0) Zg2 (Zu Zdh (Zc (Zd 1) (Zc (Zd 0) Zq))))))
  (Zfb 2))))
noncomputable def Wo:FD:=J0 2 4 Za4
noncomputable def Zi8:FS :=
 (Z4 (wE (Zu Ju (Zc (Zu Z9 (Zc (Zd 0) (Zc (fC (.int 0)) Zq))) (Zc (fC (.int 3)) (Zc (fC (.int 6)) (Zc (fC (.int 8)) Zq))))) (Y6 1))
  (Z4 (wE (Zu Z9 (Zc (Zd 0) (Zc (fC (.int 1)) Zq))) (Y6 2))
  (Z4 (wE (Ye gIx (Zdu (Zc (fC (.int 1)) (Zc (fC (.int 2)) (Zc (fC (.int 6)) (Zc (Zf Zau (Zf Zvk (fC (.int 10)) (fC (.int 15))) (fC (.int 37))) Zq))))) (Zf Zez (Zf Zac (Zd 2) (fC (.int 3))) (fC (.int 4)))) (Y6 3))
  (Z4 (wE (Zu Jp (Zc (Zu Z9 (Zc (Zd 0) (Zc (fC (.int 2)) Zq))) (Zc (Zd 1) Zq))) (Y6 4))
  (Z4 (wE (Zu Zaa (Zc (Zd 4) Zq)) (Y6 5))
  (Z4 (wE (Zu Yo (Zc (Zd 0) (Zc (fC (.int 4)) (Zc (Zd 1) (Zc (Zd 2) Zq))))) (Y6 6))
  (Z4 (wE (Zu Yo (Zc (Zd 0) (Zc (Zf Zau (fC (.int 4)) (Zbx Za5 (Zc (Zd 5) Zq))) (Zc (Zd 1) (Zc (Zf Zau (Zd 2) (fC (.int 1))) Zq))))) (Y6 7))
  (Z4 (Jv (tV (Zf gEq (Zd 1) (fC (.int 8))))
  (wE (Wj 1 [] (Zgi (Zd 6)) (gNm 0) Zg2 (Zf Zau (fC (.int 1)) (Zd 0))) (Y6 6))
  fNx)
  (Z4 (wE (Wj 2 [] (Zgx (Zc (Zd 6) (Zc (Zd 7) Zq))) (gTp 2 (gCn (gNm 0) (gCn (gNm 1) gNl))) Zg2 (Zf Zau (Zd 0) (Zd 1))) (Y6 8))
  (Z4 (wE (Zu Y5 (Zc (Zd 1) (Zc (Zd 5) (Zc (Zd 8) Zq)))) (Y6 9))
  (Z4 (wE (Zu Wh (Zc (Zu Y5 (Zc (Zd 1) (Zc (Zd 5) (Zc (Zd 6) Zq)))) (Zc (Zd 3) Zq))) (Y6 10))
  (Z4 (wE (Zu Za2 (Zc (Zd 10) (Zc (Zu Wh (Zc (Zu Y5 (Zc (Zd 1) (Zc (Zd 5) (Zc (Zd 7) Zq)))) (Zc (Zd 3) Zq))) Zq))) (Y6 11))
  (Z4 (wE (Zif (Zc (fC (.str "ring")) (Zc (Zu Yr (Zc (Zd 5) (Zc (Zd 8) (Zc (Zd 3) Zq)))) Zq))) (Y6 12))
  (Z4 (Jv (tO (tNo (tD (Zu (Zn 8) (Zc (Zd 11) (Zc (Zu Wh (Zc (Zd 9) (Zc (Zd 3) Zq))) Zq))))) (tNo (tD (Zu (Zn 8) (Zc (Zu Yn (Zc (Zd 11) (Zc (Zd 4) Zq))) (Zc (Zd 12) Zq))))))
  (wE (fC (.bool false)) Ja)
  fNx)
  (Z4 (wE (Zu Yt (Zc (Zf Zez (Zu Z9 (Zc (Zd 0) (Zc (fC (.int 3)) Zq))) (fC (.int 50))) (Zc (Zf Zau (fC (.int 1)) (Zf Zez (Zf Zac (Zu Z9 (Zc (Zd 0) (Zc (fC (.int 3)) Zq))) (fC (.int 50))) (fC (.int 9)))) Zq))) (Y6 13))
  (Z4 (wE (Wj 1 [13] (Zgi (Zd 6)) (gNm 0) Zg2 (Zf Zcv (Zd 0) (Ye gIx (Zd 1) (fC (.int 0))))) (Y6 14))
  (Z4 (Jv (tNo (tD (Zu (Zn 8) (Zc (Zu Yn (Zc (Zu Wo (Zc (Zd 13) (Zc (Zd 10) Zq))) (Zc (Zd 4) Zq))) (Zc (Zif (Zc (fC (.str "ring")) (Zc (Zu Yr (Zc (Zd 5) (Zc (Zd 14) (Zc (Zf Zcv (Zd 3) (Ye gIx (Zd 13) (fC (.int 1)))) Zq)))) Zq))) Zq)))))
  (wE (fC (.bool false)) Ja)
  fNx)
  (Z4 (wE (Zu Wz (Zc (Zd 11) Zq)) (Y6 15))
  (Z4 (Jv (tO (tNo (tD (Zfc "list" (Zd 15)))) (tO (tV (Zf Z3k (Zd 15) (Zd 4))) (tAn (tV (Zf gEq (Zd 1) (fC (.int 8)))) (tV (Zf gNe (Zd 15) (Zd 4))))))
  (wE (fC (.bool false)) Ja)
  fNx)
  (Z4 (wE (Zu Yn (Zc (Zd 11) (Zc (Zd 15) Zq))) (Z69 (gTp 2 (gCn (gNm 16) (gCn (gNm 17) gNl)))))
  (wE (Zqw (Zf gEq (Zd 16) (fC (.str "ring"))) (Zqw (Zu Y9 (Zc (Zd 1) (Zc (Zd 17) (Zc (Zd 3) Zq)))) (Zu W5 (Zc (Zd 1) (Zc (Zd 17) (Zc (Zd 3) (Zc (Zd 9) Zq))))))) Ja)))))))))))))))))))))
noncomputable def Zfg:FD:=J0 1 18 Zi8
end My
namespace My
open PySem L2 PySem.Spec
theorem Zna(p:List Int):Sh 1 (Zj p):=Zsx λd m=>by
 obtain⟨x,_,rfl⟩:=Qc.mp m
 exact Zr0 x
theorem Zqq{ds:List Xa}(h:∀d∈ds,Yy d=true):Yy (.list ds)=true:=by
 rw[Yy]
 induction ds with
 | nil=>rfl
 | cons d ds ih=>rw[Zeo,h d (.head _),ih λe he=>h e (.tail _ he)];rfl
theorem Zfe(p:List Int):Yy (Zj p)=true:=Zqq λd m=>by
 obtain⟨x,_,rfl⟩:=Qc.mp m
 rfl
theorem Zvs{a b:List Int}(h:Zj a=Zj b):a=b:=by
 unfold Zj at h
 injection h with h
 exact U7 (λx y z=>by injection z)|>.mp h
theorem Zg8(a b:List Int):gNe (Zj a) (Zj b)=some (.bool (!decide (a=b))):=by
 have s:Vo (Zj a)=true:=((Zna a).shp (by omega)).ok
 have t:Vo (Zj b)=true:=((Zna b).shp (by omega)).ok
 unfold gNe
 rw[if_pos (by rw[s,t];rfl)]
 by_cases c:a=b
 ·subst c
  rw[Zku (Zfe a)]
  simp
 ·have:QC (Zj a) (Zj b)=false:=by
   cases e:QC (Zj a) (Zj b)with
   | false=>rfl
   | true=>exact absurd (Zvs ((Zkv _ _ (Zfe a) (Zfe b)).mp e)) c
  rw[this,decide_eq_false c]
theorem Zf5{p:List Int}(h:p.length<64):Zeq [Zj p]=some (.nd (((Z5 p).map Xk).map OT.fz)):=by
 show((Zbn (p.map Xk)).bind λns=>if ns.length<64 then some (OT.nd (((Z5 ns).map Xk).map OT.fz))else none)=_
 rw[Jj,Xh,if_pos h]
theorem Zhe{p:List Int}{i:Int}(h0:0≤i)(h1:i<p.length):gIx (Zj p) (.int i)=some (.fz (.int (p.getD i.toNat 0))):=by
 unfold Zj
 rw[Zr2,Zpf h0 h1];rfl
theorem Zhc{p:List Int}(h:0<p.length):gIx (Zj p) (.int (-1))=some (.fz (.int (p.getD (p.length-1) 0))):=by
 unfold Zj
 rw[Zr2]
 have e:p=p.dropLast ++ [p.getLast (by intro z;rw[z]at h;simp at h)]:=(List.dropLast_concat_getLast _).symm
 have g:p.getD (p.length-1) 0=p.getLast (by intro z;rw[z]at h;simp at h):=by
  rw[List.getLast_eq_getElem,Xf,Xi (by omega)];rfl
 rw[g]
 conv=>lhs;rw[e,QB]
 rw[XF,List.map_nil,Zv0];rfl
noncomputable def Jf(n:Int):List Int:=(Xr n.toNat).map λi:Nat=>(i:Int)
theorem Zvj(n:Int):Qv (Zc7 0 n.toNat)=Zj (Jf n):=by
 unfold Zj Jf Zc7
 rw[X5]
 refine congrArg _ (XH λi _=>?_)
 show Xk (0+(i:Int))=Xk (i:Int)
 rw[Bf]
noncomputable def ringB(n:Int)(p:List Int):Bool:=decide (3≤n)&&(decide (Z5 p=Jf n)&&(decide (p.getD 0 0=0)&&decide (p.getD 1 0<p.getD (p.length-1) 0)))
theorem Zqg{n:Int}{p:List Int}(h:p.length<64)(hn:n≤1000000):Zbf [.int n,Zj p]= .ok (.fz (.bool (ringB n p))):=by
 refine Told.ok (Zx rfl (Zgn (ds:=p.map Xk) (λi δ=>∃z,δ=[some (.fz (.int n)),some (.fz (Zj p)),z]) (Zae Za) ⟨_,rfl⟩ (λi d δ hd q=>?_) λδ' q=>?_))
 ·obtain⟨z,rfl⟩:=q
  obtain⟨x,_,rfl⟩:=Qc.mp (Q0 hd)
  exact⟨_,_,rfl,.inl (Zw (Zex (p:=true) (Zbl (Zk (Zb Za Zh) (.of (Zgt x) (OT.data_fz _))))) rfl),_,rfl⟩
 obtain⟨z,rfl⟩:=q
 unfold ringB
 by_cases c:n<3
 ·rw[decide_eq_false (show¬3≤n by omega)]
  exact Jr (Zai (Z60 (Jx (Zbk Za Z0 (decide_eq_true c)))) (Yc Z0))
 have t1:∀{b:Bool},(!decide (Z5 p=Jf n))=b->EvT (tO (tV (Zf gLt (Zd 0) (fC (.int 3)))) (tV (Zf gNe (fBl Zeq (Zc (Zd 1) Zq)) (Zyi (Zc (Zd 0) Zq))))) [some (.fz (.int n)),some (.fz (Zj p)),z] b:=λhb=>Zmc (Jx (Zbk Za Z0 (decide_eq_false c))) (Jx (Zr (Zxn (Zb Za Zh) (Zf5 h) (Zfj _)) (Yal (Zb Za Zh) (by omega) hn) (by rw[Zvj,Zg8,hb])))
 rw[decide_eq_true (show 3≤n by omega)]
 by_cases c2:Z5 p=Jf n
 ·have hp:n.toNat=p.length:=by
   have:=congrArg List.length c2
   rw[(Yi p).length_eq]at this
   unfold Jf at this
   simpa using this.symm
  rw[decide_eq_true c2]at t1⊢
  refine Zo (Zw (t1 rfl) rfl) (Yc ?_)
  have a0:=Zaj (p:=p) (δ:=[some (.fz (.int n)),some (.fz (Zj p)),z]) (Za (i:=1)) (Z0 (d:=.int 0)) (by decide) (by omega)
  by_cases c3:p.getD 0 0=0
  ·rw[decide_eq_true c3]
   exact Zdm (Zia a0 Z0 (decide_eq_true c3)) (Zbk (Zaj Za Z0 (by decide) (by omega)) (Wd Za (Zmp Z0) (Zhc (by omega))) rfl)
  ·rw[decide_eq_false c3]
   exact Zxi (Zia a0 Z0 (decide_eq_false c3))
 ·rw[decide_eq_false c2]at t1⊢
  exact Jr (Zai (t1 rfl) (Yc Z0))
noncomputable def Zvw(n:Nat)(f:Nat->Int):Xa:=.list ((Xr n).map λj=>.int (f j))
noncomputable def Ym(n:Nat)(r:Nat->Nat->Int):Xa:=.list ((Xr n).map λi=>Zvw n (r i))
theorem Zpi{α:Type}{n i:Nat}(f:Nat->α)(h:i<n):atI ((Xr n).map f) (i:Int)=some (f i):=by
 rw[Z4y,Xu,V0 h];rfl
theorem Zs4{n j:Nat}{f:Nat->Int}(h:j<n):gIx (Zvw n f) (.int (j:Int))=some (.fz (.int (f j))):=by
 unfold Zvw;rw[Zr2,Zpi _ h];rfl
theorem Zn8{n i:Nat}{r:Nat->Nat->Int}(h:i<n):gIx (Ym n r) (.int (i:Int))=some (.fz (Zvw n (r i))):=by
 unfold Ym;rw[Zr2,Zpi _ h];rfl
theorem Ze5(n:Nat)(r:Nat->Nat->Int):Za5 [Ym n r]=some (.int n):=by
 unfold Ym;rw[Zmj,Xj,X3]
theorem Zny{t b:Int}(hb:b≠0):((Xv t b).den:Int)∣b:=by
 rw[Rat.den_divInt,if_neg hb]
 have:(b.natAbs/b.gcd t:Nat)∣b.natAbs:=Nat.div_dvd_of_dvd (by rw[Vt];exact Nat.gcd_dvd_left ..)
 exact Int.ofNat_dvd_left.mpr this
theorem Zfq{a m k:Int}(hk:0<k)(hm:0<m):Xv (k*a) (m*k)=Xv a m:=by
 rw[Ul k a]
 exact Rat.divInt_mul_right (by omega)
theorem Zjy{n:Int}{p:List Int}(h:p.length<64)(hn:n≤1000000)(c:ringB n p=true):W6 [.int n,Zj p]= .ok (.fz .none) :=
 (Zuq rfl (Zw (Zex (p:=true) (Zbl (Zk (Zb Za (Zb Za Zh)) (.of (by rw[Zqg h hn,c]) (OT.data_fz _))))) rfl)).none
noncomputable def tw(S:Nat->Nat->Int)(x p y q:Nat):Int:=S x y+S p q-S x q-S p y
noncomputable def pn(p:List Int)(i:Nat):Nat:=(p.getD i 0).toNat
noncomputable def InR(n:Nat)(p:List Int):Prop:=p.length=n∧∀i,i<n->0≤p.getD i 0∧p.getD i 0<n
theorem InR.at{n:Nat}{p:List Int}(h:InR n p){i:Nat}(hi:i<n):gIx (Zj p) (.int (i:Int))=some (.fz (.int (pn p i:Nat)))∧pn p i<n:=by
 obtain⟨h1,h2⟩:=h
 obtain⟨a,b⟩:=h2 i hi
 rw[Zhe (by omega) (by omega),Qm]
 unfold pn
 rw[U3 a]
 exact⟨rfl,by omega⟩
theorem Zok{b n:Nat}(h:0<n):Zez (.int ((b:Int)+1)) (.int (n:Int))=some (.int (((b+1)%n:Nat):Int)):=by
 rw[Zxz (by omega),show((b:Int)+1).fmod (n:Int)=(((b+1)%n:Nat):Int) by rw[Zdl (by omega)];push_cast;rfl]
theorem Zgs{n x y i j:Nat}{S:Nat->Nat->Int}{δ:Zi}(hx:x<n)(hy:y<n)(h0:δ[0]? =some (some (.fz (Ym n S))))(h1:δ[i]? =some (some (.fz (.int x))))(h2:δ[j]? =some (some (.fz (.int y)))):EvV (Ye gIx (Ye gIx (Zd 0) (Zd i)) (Zd j)) δ (.int (S x y)):=Wd (Wd (Za h0) (Za h1) (Zn8 hx)) (Za h2) (Zs4 hy)
theorem Zhy{n a b:Nat}{S:Nat->Nat->Int}{p:List Int}(h:InR n p)(hab:a<b)(hb:b<n):Zz [Ym n S,Zj p,.int a,.int b]= .ok (.fz (.int (tw S (pn p a) (pn p (a+1)) (pn p b) (pn p ((b+1)%n))))):=by
 have hm:(b+1)%n<n:=Nat.mod_lt _ (by omega)
 obtain⟨e1,l1⟩:=h.at (i:=a) (by omega)
 obtain⟨e2,l2⟩:=h.at (i:=a+1) (by omega)
 obtain⟨e3,l3⟩:=h.at hb
 obtain⟨e4,l4⟩:=h.at hm
 exact Told.int<|Zx rfl<|Zo (Zt (Wd Za Za e1))<|Zo (Zt (Wd Za (Yp Za Z0) e2))<|Zo (Zt (Wd Za Za e3))<|
  Zo (Zt (Wd Za (Zr (Yp Za Z0) (J6 (Zb Za Zh) (Ze5 n S)) (Zok (by omega))) e4))<|
  Yc (Zdy (Zdy (Yp (Zgs l1 l3 rfl rfl rfl) (Zgs l2 l4 rfl rfl rfl)) (Zgs l1 l4 rfl rfl rfl)) (Zgs l2 l3 rfl rfl rfl))
noncomputable def Zci(n:Nat)(R:Nat->Nat->Int)(b:Int):List (List Rat):=(Xr n).map λi=>(Xr n).map λj=>Xv (R i j) b
theorem Ztb(T:List (List Rat)):Za5 [tbD T]=some (.int T.length):=by
 unfold tbD
 rw[Zmj,Xj]
theorem Zjq(n:Nat)(R:Nat->Nat->Int)(b:Int):(Zci n R b).length=n:=by unfold Zci;simp
theorem Zrf{S R:Nat->Nat->Int}{m k:Int}(hm:0<m)(hk:0<k){x p y q:Nat}(h1:k*S x y=R x y)(h2:k*S p q=R p q)(h3:k*S x q=R x q)(h4:k*S p y=R p y) :
  Xv (tw S x p y q) (2*m)=Xv (tw R x p y q) (2*(m*k)):=by
 have e:tw R x p y q=k*tw S x p y q:=by
  unfold tw
  rw[←h1,←h2,←h3,←h4]
  simp only[Int.mul_add,Int.mul_sub]
 rw[e,show 2*(m*k)=(2*m)*k by rw[Int.mul_assoc],Zfq hk (by omega)]
theorem Zx0{n:Nat}{R:Nat->Nat->Int}{b:Int}(hn:n<64)(hb:0<b)(bb:Bt 300 b)(bR:∀i j,i<n->j<n->Bt 300 (R i j)):∃(m k:Int) (S:Nat->Nat->Int),Told Z6 [tbD (Zci n R b)] (.int m)∧Told Yq [.int m,tbD (Zci n R b)] (Ym n S)∧0<m∧0<k∧b=m*k∧Bt 300 m∧∀x y,x<n->y<n->k*S x y=R x y:=by
 have hz:∀r∈Zci n R b,r.length≤1000:=λr hr=>by
  unfold Zci at hr
  obtain⟨x,_,rfl⟩:=Qc.mp hr
  rw[Xj,X3];omega
 have hB:Z4s (Zci n R b) b:=λr hr q hq=>by
  unfold Zci at hr
  obtain⟨x,_,rfl⟩:=Qc.mp hr
  obtain⟨y,_,rfl⟩:=Qc.mp hq
  exact Zny (by omega)
 have hN:∀r∈Zci n R b,∀q∈r,Bt 300 q.num:=λr hr q hq=>by
  unfold Zci at hr
  obtain⟨x,hx,rfl⟩:=Qc.mp hr
  obtain⟨y,hy,rfl⟩:=Qc.mp hq
  exact Zsr (by omega) (bR x y (X8.mp hx) (X8.mp hy))
 obtain⟨m,e1,m0,hm,k,rfl⟩:=Zh1 hb bb (by decide) (Zci n R b) hz hB
 have k0:0<k:=by
  by_cases c:0<k
  ·exact c
  ·have:=Int.mul_nonpos_of_nonneg_of_nonpos (a:=m) (b:=k) (by omega) (by omega)
   omega
 have bm:Bt 300 m:=Zib hb ⟨k,rfl⟩ bb
 have e2:=Zkm m0 bm (Zci n R (m*k)) (by rw[Zjq];omega) hz hm hN
 have sc:∀x y,x<n->y<n->k*scI m (Xv (R x y) (m*k))=R x y:=λx y hx hy=>by
  have hd:((Xv (R x y) (m*k)).den:Int)∣m:=hm _ (Qc.mpr ⟨x,X8.mpr hx,rfl⟩) _ (Qc.mpr ⟨y,X8.mpr hy,rfl⟩)
  have:=Zxt hd
  have e:((k*scI m (Xv (R x y) (m*k)):Int):Rat)=((R x y:Int):Rat):=by
   have nk:((k:Int):Rat)≠0:=by
    intro z
    have:k=0:=by exact_mod_cast z
    omega
   have nm:((m:Int):Rat)≠0:=by
    intro z
    have:m=0:=by exact_mod_cast z
    omega
   rw[Rat.intCast_mul,this,Rat.divInt_eq_div,Rat.intCast_mul]
   rw[Rat.mul_comm,Rat.mul_assoc]
   exact Rat.div_mul_cancel (λz=>(Rat.mul_eq_zero.mp z).elim nm nk)
  exact_mod_cast e
 have er:Qv ((Zci n R (m*k)).map λr=>.list (r.map λq=>.int (scI m q)))=Ym n (λi j=>scI m (Xv (R i j) (m*k))):=by
  unfold Zci Ym
  rw[X5]
  refine congrArg Qv (XH λi _=>?_)
  show Qv _=Zvw _ _
  rw[X5];rfl
 exact⟨m,k,_,e1,er▸e2,m0,k0,rfl,bm,sc⟩
theorem Zdt{n:Nat}{t b:Int}(hb:0<b)(hB:Bt n b)(hn:n≤9000:=by decide):Told Yt [.int t,.int b] (frD (Xv t b)):=by
 obtain⟨z',e⟩:=Zk2 (f1:=λx y z=>[some (.fz (.int t)),some (.fz (.int b)),some (.fz (.int x)),some (.fz (.int y)),z]) (f2:=λx y z=>[]) (t:=tV (Zf gNe (Zd 3) (fC (.int 0)))) (u:=Z4 (wE (Zf Zez (Zd 2) (Zd 3)) (Y6 4)) (Z4 (wE (Zd 3) (Y6 2)) (wE (Zd 4) (Y6 3)))) (λx y z=>Jx (Znk Za Z0 rfl)) (λx y z hy=>⟨_,Yv (Zt (Jy Za Za hy)) (Yv (Zt Za) (Zt Za))⟩) (b.toNat+1) (t.natAbs:Int) b none (by omega) (by omega) (by omega)
 have eg:(Bg (t.natAbs:Int) b:Int)=shr t b:=by
  unfold shr
  rw[if_neg (by omega),Vt,Vt,Int.natAbs_natCast]
 obtain⟨e1,e2⟩:=Z4v (t:=t) (b:=b) (by omega) hB hn _ eg
 exact Zx rfl<|Zo (Zt (J6 (Zb Za Zh) (Zrd t)))<|Zo (Zt Za)<|Zo (Zl1 _ e (by intro z;cases z)) (Yc (Zbj (Zb (Zr Za Za e1) (Zb (Zr Za Za e2) Zh)) (show 2≤1000 by decide)))
theorem Ydc:Zvk (.int 10) (.int 20)=some (.int 100000000000000000000):=rfl
theorem Yep:Zvk (.int 10) (.int 15)=some (.int 1000000000000000):=rfl
theorem btc{n:Nat}{m:Int}(h1:decide (-(2^n)<m)=true)(h2:decide (m<2^n)=true):Bt n m:=Bt.of_lt (of_decide_eq_true h1) (of_decide_eq_true h2)
noncomputable def Zrq(r:List Int):OT:=.nd (r.map λx=>.fz (.int x))
noncomputable def Dr(n:Nat)(base:Int)(L:List (List Int)):Prop:=L.length=n∧∀r∈L,r.length=n∧∀x∈r,0≤x∧x<base
theorem Dr.put{n:Nat}{base v:Int}{L:List (List Int)}(h:Dr n base L)(h0:0≤v)(h1:v<base)(a b:Nat):Dr n base (L.set a ((L.getD a []).set b v)):=by
 refine⟨by rw[Vf];exact h.1,λr hr=>?_⟩
 rcases List.mem_or_eq_of_mem_set hr with hr|rfl
 ·exact h.2 r hr
 ·by_cases c:a<L.length
  ·have m:L.getD a []∈L:=by rw[Xf,Xi c];exact BV c
   obtain⟨h3,h4⟩:=h.2 _ m
   refine⟨by rw[Vf];exact h3,λx hx=>?_⟩
   rcases List.mem_or_eq_of_mem_set hx with hx|rfl
   ·exact h4 x hx
   ·exact⟨h0,h1⟩
  ·rw[List.set_eq_of_length_le (by omega)]at hr
   exact h.2 _ hr
theorem Z19{i:Nat}{e j j2:FE}{δ:Zi}{d:Int}{L:List (List Int)}{a b:Nat}(he:EvV e δ (.int d))(hi:δ[i]? =some (some (.nd (L.map Zrq))))(hj:EvV j δ (.int a))(ha:a<L.length)(hk:EvV j2 δ (.int b))(hb:b<(L.getD a []).length) :
  Zru i e j j2 δ= .nx (δ.set i (some (.nd ((L.set a ((L.getD a []).set b d)).map Zrq)))):=by
 have e1:(L.map Zrq)[a]? =some (.nd ((L.getD a []).map λx=>.fz (.int x))):=by
  rw[Xu,Xi ha,Xf,Xi ha];rfl
 obtain⟨_,e2,d2⟩:=he
 obtain⟨_,e3,d3⟩:=hj
 obtain⟨_,e4,d4⟩:=hk
 unfold Zru
 rw[Ze0,e2,Wm,hi]
 dsimp only
 rw[Ze0,e3,Wm,d3]
 dsimp only
 rw[Zog (by rw[Xj];exact ha)]
 dsimp only
 rw[e1]
 dsimp only
 rw[Ze0,e4,Wm,d4]
 dsimp only
 rw[Zog (by rw[Xj];exact hb)]
 dsimp only
 rw[d2]
 refine congrArg RS.nx (congrArg (δ.set i) (congrArg some (congrArg OT.nd ?_)))
 rw[List.map_set]
 refine congrArg _ ?_
 show _=OT.nd _
 rw[List.map_set]
noncomputable def fnL(L:List (List Int))(i j:Nat):Int:=(L.getD i []).getD j 0
theorem Z2u{L:List (List Int)}{a b:Nat}{v:Int}(ha:a<L.length)(hb:b<(L.getD a []).length)(x y:Nat):fnL (L.set a ((L.getD a []).set b v)) x y=if x=a∧y=b then v else fnL L x y:=by
 unfold fnL
 rw[Xf (l:=L.set a _),List.getElem?_set]
 by_cases c:a=x
 ·subst c
  rw[if_pos rfl,if_pos ha]
  show(((L.getD a []).set b v).getD y 0)=_
  rw[Xf,List.getElem?_set]
  by_cases e:b=y
  ·subst e
   rw[if_pos rfl,if_pos hb,if_pos ⟨rfl,rfl⟩];rfl
  ·rw[if_neg e,if_neg λz=>e z.2.symm,←Xf]
 ·rw[if_neg c,if_neg λz=>c z.1.symm,←Xf]
noncomputable def Zwc(p:List Int)(lo hi:Option Int):List Int:=(p.drop (HT.sIx p.length 0 lo)).take (HT.sIx p.length p.length hi-HT.sIx p.length 0 lo)
theorem Zwp(p:List Int)(lo hi:Option Int):cutD (p.map Xk) lo hi=(Zwc p lo hi).map Xk:=by
 unfold cutD Zwc
 rw[Xj,List.map_take,List.map_drop]
theorem Ztx{p:List Int}{k:Nat}(h:k≤p.length):Zwc p none (some (k:Int))=p.take k:=by
 unfold Zwc
 rw[HT.sIx_none,HT.sIx_nat,List.drop_zero,Nat.sub_zero,Nat.min_eq_left h]
theorem Ztd{p:List Int}{k:Nat}(h:k≤p.length):Zwc p (some (k:Int)) none=p.drop k:=by
 unfold Zwc
 rw[HT.sIx_none,HT.sIx_nat,Nat.min_eq_left h,List.take_of_length_le (by rw[Qu];omega)]
theorem Zwt(e:FE)(lo hi st:FO)(δ:Zi):Zwz e lo hi st δ=(e δ).bind λp=>(lo p.2).bind λq=>(hi q.2).bind λr=>(st r.2).bind λt=>(stepOf p.1.data q.1 r.1 t.1).bind λo=>some (o,t.2):=rfl
theorem Zto(p:List Int):stepOf (Zj p) none (some 0) (some (-1))=some (.nd ((((p.drop 1).reverse).map Xk).map OT.fz)):=by
 unfold Zj
 rw[Zni,show((p.map Xk).drop 1).reverse=((p.drop 1).reverse).map Xk by rw[List.map_reverse,List.map_drop]]
noncomputable def Pm(n:Nat)(p:List Int):Prop:=p.Perm (Jf n)
theorem J1{n:Nat}{x:Int}:x∈Jf n↔0≤x∧x<n:=by
 unfold Jf
 rw[Qm,Qc]
 constructor
 ·rintro⟨i,hi,rfl⟩
  have:=X8.mp hi
  omega
 ·rintro⟨h0,h1⟩
  exact⟨x.toNat,X8.mpr (by omega),by omega⟩
theorem Zgj(n:Nat):(Jf n).Nodup:=by
 unfold Jf
 rw[Qm]
 exact List.pairwise_map.mpr (List.nodup_range.imp λh e=>h (by omega))
theorem Zk1(n:Nat):(Jf n).Pairwise (·≤·):=by
 unfold Jf
 rw[Qm,List.pairwise_map]
 exact List.pairwise_lt_range.imp λh=>by omega
theorem Zdp(n:Nat):(Jf n).length=n:=by unfold Jf;simp
theorem Pm.len{n:Nat}{p:List Int}(h:Pm n p):p.length=n:=by rw[h.length_eq,Zdp]
theorem Pm.nodup{n:Nat}{p:List Int}(h:Pm n p):p.Nodup:=h.nodup_iff.mpr (Zgj n)
theorem getD_mem{p:List Int}{i:Nat}(h:i<p.length):p.getD i 0∈p:=by
 rw[Xf,Xi h];exact BV h
theorem Pm.inR{n:Nat}{p:List Int}(h:Pm n p):InR n p:=⟨h.len,λi hi=>J1.mp (h.mem_iff.mp (getD_mem (by rw[h.len];exact hi)))⟩
theorem Pm.ne{n:Nat}{p:List Int}(h:Pm n p){i j:Nat}(hi:i<n)(hj:j<n)(e:p.getD i 0=p.getD j 0):i=j:=by
 have hl:=h.len
 rw[Xf,Xf,Xi (by omega),Xi (by omega)]at e
 have nd:=Bj.mp h.nodup
 rcases Vz i j with c|c|c
 ·exact(nd i j (by omega) (by omega) c e).elim
 ·exact c
 ·exact(nd j i (by omega) (by omega) c e.symm).elim
theorem Pm.ringB{n:Nat}{p:List Int}(h:Pm n p)(h3:3≤n)(h0:p.getD 0 0=0)(h1:p.getD 1 0<p.getD (n-1) 0):ringB n p=true:=by
 unfold My.ringB
 rw[decide_eq_true (show(3:Int)≤n by omega),decide_eq_true (Wy ((Yi p).trans h) (Y7 p) (Zk1 n)),decide_eq_true h0,h.len,decide_eq_true h1]
 rfl
theorem Zu9{a b:FE}{δ:Zi}{p:List Int}{k:Int}(ha:a δ=some (.fz (Zj p),δ))(hp:p.length≤1000)(hb:b δ=some (.fz (.int k),δ))(hk:k∈p):Zla a b δ=some (.fz (.int (p.idxOf k:Nat)),δ):=by
 unfold Zla
 rw[ha,Xh,OT.data_fz]
 unfold Zj
 dsimp only
 rw[Jj,Xh,if_pos (by omega),hb,Xh,OT.data_fz]
 dsimp only
 rw[if_pos hk]
noncomputable def flip(w:List Int):List Int:=w.take 1 ++ (w.drop 1).reverse
theorem Zlp(a:Int)(t:List Int):flip (a :: t)=a :: t.reverse:=rfl
theorem Zu1(w:List Int):(flip w).Perm w:=by
 cases w with
 | nil=>exact .nil
 | cons a t=>rw[Zlp];exact(List.reverse_perm t).cons a
theorem Zwe{w:List Int}(h:2≤w.length):(flip w).getD 0 0=w.getD 0 0∧(flip w).getD 1 0=w.getD (w.length-1) 0∧(flip w).getD (w.length-1) 0=w.getD 1 0:=by
 match w,h with
 | a :: b :: t,_=>
  rw[Zlp]
  simp only[Xf,BR]
  refine⟨rfl,?_,?_⟩
  ·rw[Ub,List.getElem?_reverse (by simp)]
   simp only[BR,Nat.add_sub_cancel,Nat.sub_zero]
   rw[Ub (l:=b :: t)]
  ·rw[show t.length+1+1-1=t.length+1 by omega,Ub,List.getElem?_reverse (by simp)]
   simp
theorem Zta{e:FE}{δ:Zi}{r p:List Int}{lo hi:FO}{l h:Option Int}(he:EvV e δ (Zj r))(hl:EvO lo δ l)(hh:EvO hi δ h)(hp:Zwc r l h=p):EvV (fSl e lo hi) δ (Zj p):=hp▸(Yat (ds:=r.map Xk) he hl hh).cast (by rw[Zwp];rfl)
theorem Zte{a b:FE}{δ:Zi}{p q:List Int}(ha:EvV a δ (Zj p))(hb:EvV b δ (Zj q))(h:p.length≤1000)(k:q.length≤1000):EvV (Ye Zlt a b) δ (Zj (p ++ q)):=(Zyl (ds:=p.map Xk) (es:=q.map Xk) ha hb (by rw[Xj,Xj];omega)).cast (by rw[←QB];rfl)
theorem Zy4{e:FE}{δ:Zi}{x:Int}(h:EvV e δ (.int x)):EvV (Zdu (Zc e Zq)) δ (Zj [x]):=Zmf (Zb h Zh) (show 1≤1000 by decide)
theorem Zow{δ:Zi}:EvV (Zdu Zq) δ (Zj []):=Zmf Zh (show 0≤1000 by decide)
theorem Zz2{e:FE}{δ:Zi}{r:List Int}{hi st:FO}(he:EvV e δ (Zj r))(hh:EvO hi δ (some 0))(hs:EvO st δ (some (-1))):EvV (Zwz e oN hi st) δ (Zj ((r.drop 1).reverse)):=by
 obtain⟨t,e1,d1⟩:=he
 unfold EvO at hh hs
 exact⟨_,by rw[Zwt,e1,Xh,Z8l,Xh,hh,Xh,hs,Xh,d1,Zto,Xh],Zfj _⟩
theorem Zls{n:Nat}{p:List Int}(h:Pm n p)(h3:3≤n)(hn:n≤10):∃r,Told W9 [Zj p] (Zj r)∧Pm n r∧r.getD 0 0=0∧r.getD 1 0<r.getD (n-1) 0:=by
 have hl:=h.len
 have m0:(0:Int)∈p:=h.mem_iff.mpr (J1.mpr (by omega))
 have hk:p.idxOf 0<p.length:=List.idxOf_lt_length_of_mem m0
 obtain⟨k,ek⟩:∃k,p.idxOf 0=k:=⟨_,rfl⟩
 obtain⟨w,ew⟩:∃w,p.drop k ++ p.take k=w:=⟨_,rfl⟩
 have hw:Pm n w:=by
  unfold Pm
  rw[←ew]
  refine(List.perm_append_comm.trans ?_).trans h
  rw[List.take_append_drop]
 have wl:=hw.len
 have w0:w.getD 0 0=0:=by
  rw[←ew,Xf,Vc (by rw[Qu];omega),V7,Nat.add_zero,Xi (by omega)]
  subst ek
  exact List.getElem_idxOf hk
 have e1:∀{δ:Zi},δ[0]? =some (some (.fz (Zj p)))->EvV (Zla (Zd 0) (fC (.int 0))) δ (.int k):=λh0=>⟨_,by rw[Zu9 (p:=p) (k:=0) (by rw[Znj,h0,Zne]) (by omega) rfl m0,ek],OT.data_fz _⟩
 have e2:∀{δ:Zi},δ[0]? =some (some (.fz (Zj p)))->δ[1]? =some (some (.fz (.int k)))->EvV (Ye Zlt (fSl (Zd 0) (oI (Zd 1)) oN) (fSl (Zd 0) oN (oI (Zd 1)))) δ (Zj w):=λh0 h1=>ew▸Zte (Zta (Za h0) (Z21 (Za h1)) Z83 (Ztd (by omega))) (Zta (Za h0) Z83 (Z21 (Za h1)) (Ztx (by omega))) (by rw[Qu];omega) (by rw[BP];omega)
 have e3:∀{δ:Zi} {b:Bool},decide (w.getD (n-1) 0<w.getD 1 0)=b->δ[2]? =some (some (.fz (Zj w)))->EvT (tAn (tV (Zf gGt (Zbx Za5 (Zc (Zd 2) Zq)) (fC (.int 2)))) (tV (Zf gGt (Ye gIx (Zd 2) (fC (.int 1))) (Ye gIx (Zd 2) (fUn Zqx (fC (.int 1))))))) δ b:=λhb h2=>Zn1 (Jx (Zqs (Wi (Za h2)) Z0 (decide_eq_true (by omega)))) (Jx (Zqs (Zaj (Za h2) Z0 (by decide) (by omega)) (Wd (Za h2) (Zmp Z0) (Zhc (by omega))) (by rw[wl];exact hb)))
 by_cases c:w.getD (n-1) 0<w.getD 1 0
 ·obtain⟨g0,g1,g2⟩:=Zwe (w:=w) (by omega)
  rw[wl]at g1 g2
  exact⟨flip w,Zx rfl<|Zo (Zt (e1 rfl))<|Zo (Zt (e2 rfl rfl))<|Zo (Zbh (e3 (decide_eq_true c) rfl) (Zt (Zte (Zta Za Z83 (Z21 Z0) (Ztx (k:=1) (by omega))) (Zz2 Za rfl rfl) (by rw[BP];omega) (by rw[List.length_reverse,Qu];omega)))) (Yc Za),(Zu1 w).trans hw,by rw[g0,w0],by rw[g1,g2];exact c⟩
 ·refine⟨w,Zx rfl<|Zo (Zt (e1 rfl))<|Zo (Zt (e2 rfl rfl))<|Zo (Zw (e3 (decide_eq_false c) rfl) rfl) (Yc Za),hw,w0,?_⟩
  have:w.getD 1 0≠w.getD (n-1) 0:=λe=>by
   have:=hw.ne (by omega) (by omega) e
   omega
  omega
theorem Zld{α β:Type}(f:α->β):∀(l:List α) (j:Nat),(l.map f).eraseIdx j=(l.eraseIdx j).map f
 | [],_=>rfl
 | _ :: _,0=>rfl
 | a :: l,j+1=>by
  show f a :: (l.map f).eraseIdx j=f a :: (l.eraseIdx j).map f
  rw[Zld f l j]
theorem Zi1:∀(l:List Int) (j:Nat),j<l.length->(l.getD j 0 :: l.eraseIdx j).Perm l
 | [],_,h=>by simp at h
 | a :: l,0,_=>.refl _
 | a :: l,j+1,h=>by
  have:=Zi1 l j (by simpa using h)
  show(l.getD j 0 :: a :: l.eraseIdx j).Perm (a :: l)
  exact(List.Perm.swap _ _ _).trans (this.cons a)
theorem Z35{i:Nat}{a:FE}{δ:Zi}{l:List Int}{j:Nat}(hi:δ[i]? =some (some (.nd (l.map λx=>.fz (.int x)))))(ha:a δ=some (.fz (.int j),δ))(hj:j<l.length)(hl:l.length≤1000) :
  Z5x i a δ=some (.fz (.int (l.getD j 0)),δ.set i (some (.nd ((l.eraseIdx j).map λx=>.fz (.int x))))):=by
 have e1:(l.map λx=>OT.fz (.int x))[j]? =some (.fz (.int (l.getD j 0))):=by
  rw[Xu,Xf,Xi hj];rfl
 unfold Z5x
 rw[hi]
 dsimp only
 rw[ha,Xh]
 dsimp only
 rw[hi]
 dsimp only
 rw[OT.data_fz]
 dsimp only
 rw[Zog (by rw[Xj];exact hj)]
 dsimp only
 rw[e1]
 dsimp only
 rw[if_pos (by rw[Xj,Qj];omega)]
 refine congrArg some (congrArg (Prod.mk _) (congrArg (δ.set i) (congrArg some (congrArg OT.nd ?_))))
 rw[Zld]
theorem Znn(c:Int){n:Nat}(h3:3≤n)(hn:n≤10):∃r,Told Jp [.int c,.int n] (Zj r)∧Pm n r∧r.getD 0 0=0∧r.getD 1 0<r.getD (n-1) 0:=by
 obtain⟨vs,e0,hv⟩:=Zqi c n (by omega)
 have e1:∀{δ:Zi},δ[1]? =some (some (.fz (.int n)))->(Zyi (Zc (Zd 1) Zq)) δ=some (.nd ((Jf n).map λx=>OT.fz (.int x)),δ):=λh1=>by
  rw[Zrx,Zpd,Znj,h1,Zne,Xh,Zzi,Xh,Xh,Zdk,Zfa,OT.data_fz,Z2c,if_pos ⟨Zjj (by omega) (by omega),by rw[Qj];omega⟩]
  refine congrArg some (congrArg (λt=>(t,_)) (congrArg OT.nd ?_))
  unfold Zc7 Jf
  rw[X5,X5]
  refine XH λi _=>?_
  show OT.fz (.int (0+(i:Int)))=OT.fz (.int (i:Int))
  rw[Bf]
 have key:∃d,Told Jp [.int c,.int n] d∧∃r,d=Zj r∧Pm n r∧r.getD 0 0=0∧r.getD 1 0<r.getD (n-1) 0:=by
  refine Ztr rfl<|Zd2 (Zt (Zk (Zb Za (Zb Za Zh)) e0))<|Zd2 (Zmu (e1 rfl))<|Zd2 Zge<|Zll (ds:=Zc7 0 n) (λi δ=>∃(l r:List Int) (z:Option OT),δ=[some (.fz (.int c)),some (.fz (.int n)),some (.fz (Zj vs)),some (.nd (l.map λx=>.fz (.int x))),some (.nd (r.map λx=>.fz (.int x))),z]∧(r ++ l).Perm (Jf n)∧r.length=i) (Zhz (Zb Za Zh) (by omega)) ⟨Jf n,[],none,rfl,.refl _,rfl⟩ (λi d δ hd q=>?_) λδ' q=>?_
  ·obtain⟨l,r,z,rfl,hp,hr⟩:=q
   obtain⟨hi,rfl⟩:=Jk hd
   rw[Bf]
   have hl:=hp.length_eq
   rw[XX,Zdp]at hl
   obtain⟨j,ej,hj⟩:=Zr6 (vs.getD i 0) (n:=l.length) (by omega)
   have ep:EvV (Zf Zez (Ye gIx (Zd 2) (Zd 5)) (Zbx Za5 (Zc (Zq0 3) Zq))) [some (.fz (.int c)),some (.fz (.int n)),some (.fz (Zj vs)),some (.nd (l.map λx=>.fz (.int x))),some (.nd (r.map λx=>.fz (.int x))),some (.fz (.int i))] (.int j):=EvV.cast (Jy (j:=l.length) (Zaj (p:=vs) (i:=(i:Int)) Za Za (by omega) (by omega)) (Wi (Zyh rfl (Ze4 l))) (by omega)) (congrArg _ ej)
   obtain⟨t,e2,d2⟩:=ep
   rw[Zo6 d2]at e2
   refine⟨_,_,rfl,.inl (Zsb (vs:=r) (Z35 (l:=l) (j:=j) rfl e2 hj (by omega)) rfl rfl (by omega)),l.eraseIdx j,r ++ [l.getD j 0],some (.fz (.int i)),rfl,?_,by rw[XX,hr];rfl⟩
   rw[JB]
   exact(List.Perm.append_left r (Zi1 l j hj)).trans hp
  ·obtain⟨l,r,z,rfl,hp,hr⟩:=q
   rw[Wu]at hr
   have hl:=hp.length_eq
   rw[XX,Zdp]at hl
   have hl:l=[]:=List.length_eq_zero_iff.mp (by omega)
   subst hl
   rw[Q5]at hp
   obtain⟨q,e1,h1⟩:=Zls hp h3 hn
   exact Zt6 rfl (Ztv (Zk (Zb (Za (d:=Zj r) (by rw[Ze4];rfl)) Zh) e1) ⟨q,rfl,h1⟩)
 obtain⟨d,h,r,rfl,hr⟩:=key
 exact⟨r,h,hr⟩
noncomputable def sm(f:Nat->Int):Nat->Int
 | 0=>0
 | n+1=>sm f n+f n
theorem Zew{f g:Nat->Int}:∀n,(∀i,i<n->f i=g i)->sm f n=sm g n
 | 0,_=>rfl
 | n+1,h=>by rw[sm,sm,Zew n λi hi=>h i (Bc hi),h n (Qt n)]
theorem Zxw(f g:Nat->Int):∀n,sm (λi=>f i+g i) n=sm f n+sm g n
 | 0=>rfl
 | n+1=>by rw[sm,sm,sm,Zxw f g n];omega
theorem Zkt:∀n,sm (λ_=>0) n=0
 | 0=>rfl
 | n+1=>by rw[sm,Zkt n];rfl
noncomputable def cl(lo hi x:Nat):Nat:=if x<lo then lo else if x<hi then x else hi
theorem Z7v(k:Nat->Int){lo hi:Nat}(h:lo≤hi)(s:Nat):∀m,sm (λj=>if lo≤s+j∧s+j<hi then k (s+j)-k (s+j+1)else 0) m=k (cl lo hi s)-k (cl lo hi (s+m))
 | 0=>by rw[sm,Nat.add_zero];omega
 | m+1=>by
  rw[sm,Z7v k h s m]
  have e:s+(m+1)=s+m+1:=rfl
  rw[e]
  generalize s+m=x
  by_cases a:lo≤x∧x<hi
  ·rw[if_pos a]
   have e1:cl lo hi x=x:=by unfold cl;rw[if_neg (by omega),if_pos a.2]
   have e2:cl lo hi (x+1)=x+1:=by
    unfold cl
    rw[if_neg (by omega)]
    by_cases c:x+1<hi
    ·rw[if_pos c]
    ·rw[if_neg c];omega
   rw[e1,e2];omega
  ·rw[if_neg a]
   have e1:cl lo hi (x+1)=cl lo hi x:=by
    unfold cl
    by_cases b:x<lo
    ·rw[if_pos b]
     by_cases c:x+1<lo
     ·rw[if_pos c]
     ·rw[if_neg c]
      by_cases d:x+1<hi
      ·rw[if_pos d];omega
      ·rw[if_neg d];omega
    ·rw[if_neg b,if_neg (by omega),if_neg (by omega),if_neg (by omega)]
   rw[e1];omega
theorem Z1q{lo hi x:Nat}(h:lo≤hi)(a:x≤lo):cl lo hi x=lo:=by
 unfold cl
 by_cases c:x<lo
 ·rw[if_pos c]
 ·rw[if_neg c]
  by_cases d:x<hi
  ·rw[if_pos d];omega
  ·rw[if_neg d];omega
theorem Z1p{lo hi x:Nat}(h:lo≤hi)(a:hi≤x):cl lo hi x=hi:=by
 unfold cl
 rw[if_neg (by omega),if_neg (by omega)]
noncomputable def twP(n:Nat)(D:Nat->Nat->Int)(a c:Nat):Int:=D a c+D (a+1) ((c+1)%n)-D a ((c+1)%n)-D (a+1) c
noncomputable def inS(a c x:Nat):Bool:=decide (a<x)&&decide (x≤c)
noncomputable def Zf3(a c u v:Nat):Bool:=inS a c u !=inS a c v
theorem Ws{a c x:Nat}:inS a c x=true↔a<x∧x≤c:=by
 unfold inS
 rw[XQ,decide_eq_true_eq,decide_eq_true_eq]
theorem Zkf{a c u v:Nat}:Zf3 a c u v=true↔¬((a<u∧u≤c)↔(a<v∧v≤c)):=by
 unfold Zf3
 rw[bne_iff_ne,ne_eq,UG,Ws,Ws]
noncomputable def kw(n:Nat)(D:Nat->Nat->Int)(a c:Nat):Int:=if c=n then D a 0-D (a+1) 0 else D a c-D (a+1) c
noncomputable def kA(D:Nat->Nat->Int)(u v a:Nat):Int:=D a u-D a v
theorem Z1g{n u v a:Nat}(D:Nat->Nat->Int)(huv:u<v)(hv:v<n)(ha:a<n):sm (λj=>if Zf3 a (a+1+j) u v=true then twP n D a (a+1+j)else 0) (n-(a+1))=
  (if 0≤0+a∧0+a<u then kA D u v (0+a)-kA D u v (0+a+1)else 0)+(if u≤0+a∧0+a<v then kA D v 0 (0+a)-kA D v 0 (0+a+1)else 0):=by
 rw[Nat.zero_add]
 have tk:∀c,c<n->twP n D a c=kw n D a c-kw n D a (c+1):=λc hc=>by
  unfold twP kw
  rw[if_neg (show¬c=n by omega)]
  by_cases e:c+1=n
  ·rw[if_pos e,e,Nat.mod_self];omega
  ·rw[if_neg e,Vn (by omega)];omega
 have go:∀lo hi,lo≤hi->a+1≤lo->hi≤n->(∀c,a<c->c<n->(Zf3 a c u v=true↔lo≤c∧c<hi))->sm (λj=>if Zf3 a (a+1+j) u v=true then twP n D a (a+1+j)else 0) (n-(a+1))=kw n D a lo-kw n D a hi:=λlo hi h1 h2 h3 h4=>by
  have e:sm (λj=>if Zf3 a (a+1+j) u v=true then twP n D a (a+1+j)else 0) (n-(a+1))=sm (λj=>if lo≤a+1+j∧a+1+j<hi then kw n D a (a+1+j)-kw n D a (a+1+j+1)else 0) (n-(a+1)):=Zew _ λj hj=>by
   rw[←tk _ (by omega)]
   have h:=h4 (a+1+j) (by omega) (by omega)
   by_cases p:Zf3 a (a+1+j) u v=true
   ·rw[if_pos p,if_pos (h.mp p)]
   ·rw[if_neg p,if_neg λz=>p (h.mpr z)]
  rw[e,Z7v (kw n D a) h1 (a+1),Z1q h1 h2,Z1p h1 (by omega)]
 by_cases h1:a<u
 ·rw[if_pos ⟨Qo _,h1⟩,if_neg (by omega),go u v (by omega) (by omega) (by omega) λc h2 h3=>by rw[Zkf];omega]
  unfold kw kA
  rw[if_neg (by omega),if_neg (by omega)];omega
 ·rw[if_neg (by omega)]
  by_cases h2:a<v
  ·rw[if_pos ⟨by omega,h2⟩,go v n (by omega) (by omega) (by omega) λc h2 h3=>by rw[Zkf];omega]
   unfold kw kA
   rw[if_neg (by omega),if_pos rfl];omega
  ·rw[if_neg (by omega)]
   refine(Zew _ λj hj=>?_).trans (Zkt _)
   exact if_neg (by rw[Zkf];omega)
noncomputable def Z75(n:Nat)(F:Nat->Nat->Int):Int:=sm (λa=>sm (λj=>F a (a+1+j)) (n-(a+1))) n
theorem Zxc{n u v:Nat}{D:Nat->Nat->Int}(sy:∀i j,i<n->j<n->D i j=D j i∧D i i=0)(hu:u<n)(hv:v<n):Z75 n (λa c=>if Zf3 a c u v=true then twP n D a c else 0)=2*D u v:=by
 have key:∀u v,u<v->v<n->Z75 n (λa c=>if Zf3 a c u v=true then twP n D a c else 0)=2*D u v:=λu v huv hv=>by
  unfold Z75
  rw[Zew n λa ha=>Z1g D huv hv ha,Zxw,Z7v (kA D u v) (Qo u) 0,Z7v (kA D v 0) (show u≤v by omega) 0,Z1q (Qo _) (XN _),Z1p (Qo _) (by omega),Z1q (by omega) (Qo _),Z1p (by omega) (by omega)]
  unfold kA
  have s1:=sy 0 u (by omega) (by omega)
  have s2:=sy 0 v (by omega) (by omega)
  have s3:=sy u v (by omega) (by omega)
  have s4:=sy v u (by omega) (by omega)
  omega
 have sw:∀a c,Zf3 a c u v=Zf3 a c v u:=λa c=>by unfold Zf3;cases inS a c u<;>cases inS a c v<;>rfl
 rcases Vz u v with h|h|h
 ·exact key u v h hv
 ·subst h
  have:(λa c=>if Zf3 a c u u=true then twP n D a c else 0)= λ_ _=>(0:Int):=funext λa=>funext λc=>if_neg (by unfold Zf3;rw[bne_self_eq_false];exact Xm)
  rw[this,(sy u u hu hu).2]
  unfold Z75
  exact(Zew n λa _=>Zkt _).trans (Zkt n)
 ·have:(λa c=>if Zf3 a c u v=true then twP n D a c else 0)= λa c=>if Zf3 a c v u=true then twP n D a c else 0:=funext λa=>funext λc=>by rw[sw]
  rw[this,key v u h hu,(sy v u hv hu).1]
theorem Zy3{a c x:Nat}(h:¬(a<x∧x≤c)):inS a c x=false:=by
 cases e:inS a c x with
 | true=>exact absurd (Ws.mp e) h
 | false=>rfl
theorem Zod{a c x y:Nat}(h:(a<x∧x≤c)↔(a<y∧y≤c)):inS a c x=inS a c y:=by
 rw[UG,Ws,Ws];exact h
noncomputable def cd(w:Int)(a c i j:Nat):Int:=w*(if Zf3 a c i j=true then 1 else 0)
theorem Zj1{w:Int}{a c x y:Nat}(h:inS a c x=inS a c y)(j:Nat):cd w a c x j=cd w a c y j∧cd w a c j x=cd w a c j y:=by
 unfold cd Zf3
 rw[h];exact⟨rfl,rfl⟩
theorem Zph{w:Int}{a c i j:Nat}{p q:Bool}(h1:inS a c i=p)(h2:inS a c j=q):cd w a c i j=if(p !=q)=true then w else 0:=by
 unfold cd Zf3
 rw[h1,h2]
 cases(p !=q)
 ·rw[if_neg Xm,if_neg Xm];omega
 ·rw[if_pos rfl,if_pos rfl];omega
theorem Z4p{n a c x y:Nat}(hac:a<c)(hc:c<n)(hxy:x<y)(hy:y<n)(D:Nat->Nat->Int)(w:Int):twP n (λi j=>D i j+cd w a c i j) x y=twP n D x y+(if x=a∧y=c then 2*w else 0):=by
 obtain⟨z,hz,hz2⟩:∃z,(y+1)%n=z∧(z=y+1∨(z=0∧y+1=n)):=by
  by_cases e:y+1=n
  ·exact⟨0,by rw[e,Nat.mod_self],.inr ⟨rfl,e⟩⟩
  ·exact⟨y+1,Vn (by omega),.inl rfl⟩
 unfold twP
 rw[hz]
 dsimp only
 by_cases kx:x=a∨x=c
 ·by_cases ky:y=a∨y=c
  ·have k:x=a∧y=c:=by omega
   obtain⟨rfl,rfl⟩:=k
   have e1:inS x y x=false:=Zy3 (by omega)
   have e2:inS x y (x+1)=true:=Ws.mpr (by omega)
   have e3:inS x y y=true:=Ws.mpr (by omega)
   have e4:inS x y z=false:=Zy3 (by omega)
   rw[if_pos ⟨rfl,rfl⟩,Zph e1 e3,Zph e2 e4,Zph e1 e4,Zph e2 e3]
   show(D x y+w)+(D (x+1) z+w)-(D x z+0)-(D (x+1) y+0)=_
   omega
  ·rw[if_neg (by omega)]
   have e:inS a c y=inS a c z:=Zod (by omega)
   have h1:=(Zj1 (w:=w) e x).2
   have h2:=(Zj1 (w:=w) e (x+1)).2
   omega
 ·rw[if_neg (by omega)]
  have e:inS a c x=inS a c (x+1):=Zod (by omega)
  have h1:=(Zj1 (w:=w) e y).1
  have h2:=(Zj1 (w:=w) e z).1
  omega
theorem Zr3{e:FE}{δ:Zi}{i:Nat}{ts rs:List OT}{ds:List Xa}(h:e δ=some (.nd rs,δ))(hd:OT.datas rs=ds)(hi:δ[i]? =some (some (.nd ts)))(hl:ts.length+ds.length≤1000000):Zhp i e δ= .nx (δ.set i (some (.nd (ts ++ ds.map OT.fz)))):=by
 unfold Zhp
 rw[hi]
 dsimp only
 rw[Ze0,h,Wm,hi]
 dsimp only
 have lr:rs.length=ds.length:=by rw[←hd,Ze7]
 rw[if_pos (by rw[Qj,lr];omega),hd]
theorem Z2r{α:Type}{caps:List Nat}{it:FI}{me:FE}{cs:Zi}{δ:Zi}(xs:List α)(mk f:α->Xa)(hi:EvI it δ (xs.map mk))(hz:xs.length≤1000000)(hb:blk 1 caps δ=none :: cs)(h:∀x∈xs,EvV me (some (.fz (mk x)) :: cs) (f x)):∃rs,Wj 1 caps it (gNm 0) Zg2 me δ=some (.nd rs,δ)∧OT.datas rs=xs.map f:=by
 obtain⟨t,e1,e2⟩:=Zc3 xs mk f hi hz hb h
 cases t with
 | fz d=>
  unfold Wj at e1
  unfold EvI at hi
  rw[hi,Xh]at e1
  split at e1
  ·obtain⟨z,h1,h2⟩:=bs e1
   cases h2
  ·cases e1
 | tp ts=>rw[OT.data_tp]at e2;cases e2
 | dc _ _ _=>rw[OT.data_dc]at e2;cases e2
 | nd rs=>
  rw[OT.data_nd,←datas_map]at e2
  injection e2 with e2
  exact⟨rs,e1,e2⟩
theorem Z2w(n:Nat)(hn:n≤20):Told Zam [.int n] (.list ((Z1 n).map ptD)):=by
 refine Zx rfl<|Zo Zge ?_
 refine Zgn (ds:=Zc7 0 n) (λi δ=>∃z,δ=[some (.fz (.int n)),some (.nd (((Zhl n i).map ptD).map OT.fz)),z]) (Zhz (Zb Za Zh) (by omega)) ⟨none,rfl⟩ (λi d δ hd q=>?_) λδ' q=>?_
 ·obtain⟨z,rfl⟩:=q
  obtain⟨hi,rfl⟩:=Jk hd
  rw[Bf]
  have lp:=Zhk n i
  have:i*n≤20*20:=Nat.mul_le_mul (by omega) hn
  obtain⟨rs,e1,e2⟩:=Z2r (δ:=[some (.fz (.int n)),some (.nd (((Zhl n i).map ptD).map OT.fz)),some (.fz (.int i))]) (caps:=[2]) (cs:=[some (.fz (.int i))]) (me:=Zif (Zc (Zd 1) (Zc (Zd 0) Zq))) (it:=iRb (Zc (Zf Zau (Zd 2) (fC (.int 1))) (Zc (Zd 0) Zq))) (Xr (n-(i+1))) (λj:Nat=>Xk (((i+1:Nat):Int)+(j:Int))) (λj=>ptD (i,i+1+j)) (Zv7 (m:=i+1) (Zb ((Yp Za Z0).cast (by rw[Int.natCast_add];rfl)) (Zb Za Zh)) (by omega) (by omega)) (by rw[X3];omega) rfl λj _=>(Zbj (Zb Za (Zb Za Zh)) (show 2≤1000 by decide)).cast (by
   show Xa.tuple [.int (i:Int),.int (((i+1:Nat):Int)+(j:Int))]= .tuple [.int (i:Int),.int ((i+1+j:Nat):Int)]
   rw[Int.natCast_add (i+1) j])
  refine⟨_,_,rfl,.inl (Zr3 e1 e2 rfl (by rw[Xj,Xj,Xj,X3];omega)),some (.fz (.int i)),?_⟩
  have em:(Xr (n-(i+1))).map (λj=>ptD (i,i+1+j))=((Xr (n-(i+1))).map λj=>(i,i+1+j)).map ptD:=by rw[X5];rfl
  rw[Zf0,QB,QB,em];rfl
 ·obtain⟨z,rfl⟩:=q
  rw[Wu]
  exact Z5d rfl (by rw[OT.data_nd,OT.map_fz];rfl)
theorem Zcx(neg:Bool)(x:Int)(p:List Int):Zmt neg (.int x) (Zj p)=some (.bool (if neg then !decide (x∈p)else decide (x∈p))):=by
 have e:memS (.int x) (p.map Xk)=decide (x∈p):=by
  unfold memS
  rw[List.any_map]
  rw[UG,List.any_eq_true,decide_eq_true_eq]
  constructor
  ·rintro⟨y,hy,h⟩
   have:(y==x)=true:=h
   rw[←eq_of_beq this];exact hy
  ·intro h
   exact⟨x,h,(show(x==x)=true from beq_self_eq_true x)⟩
 have s:(p.map Xk).all scD=true:=by
  rw[Us]
  intro d hd
  obtain⟨y,_,rfl⟩:=Qc.mp hd
  rfl
 show(if(scD (.int x)&&(p.map Xk).all scD)=true then some (PyData.bool (if neg then !memS (.int x) (p.map Xk)else memS (.int x) (p.map Xk)))else none)=_
 rw[s,e];rfl
theorem Zo4(x y:Bool):gNe (.bool x) (.bool y)=some (.bool (x !=y)):=by
 cases x<;>cases y<;>rfl
noncomputable def sd(p:List Int)(q:Nat×Nat):List Int:=(p.drop (q.1+1)).take (q.2-q.1)
theorem Zdj{n:Nat}{p:List Int}(h:Pm n p){u:Nat}(hu:u<n){q:Nat×Nat}(h1:q.1<q.2)(h2:q.2<n):decide (p.getD u 0∈sd p q)=inS q.1 q.2 u:=by
 rw[UG,decide_eq_true_eq,Ws]
 have lp:=h.len
 unfold sd
 constructor
 ·intro m
  obtain⟨k,hk⟩:=Bs m
  rw[List.getElem?_take]at hk
  split at hk
  ·rw[V7]at hk
   have hl:=(Xn.mp hk).1
   have e:p.getD (q.1+1+k) 0=p.getD u 0:=by rw[Xf,hk];rfl
   have:=h.ne (by omega) hu e
   omega
  ·cases hk
 ·rintro⟨h3,h4⟩
  refine Q0 (i:=u-(q.1+1)) ?_
  rw[List.getElem?_take,if_pos (by omega),V7,show q.1+1+(u-(q.1+1))=u by omega,Xf,Xi (by omega)];rfl
theorem Zyj{p:List Int}{q:Nat×Nat}(h1:q.1<q.2)(h2:q.2<p.length):Zwc p (some ((q.1:Int)+1)) (some ((q.2:Int)+1))=sd p q:=by
 have e1:(q.1:Int)+1=((q.1+1:Nat):Int):=by omega
 have e2:(q.2:Int)+1=((q.2+1:Nat):Int):=by omega
 have f:∀k d:Nat,k≤p.length->HT.sIx p.length d (some (k:Int))=k:=λk d hk=>by
  show(if(k:Int)<0 then((k:Int)+(p.length:Int)).toNat else min (k:Int).toNat p.length)=k
  rw[if_neg (by omega)]
  omega
 unfold Zwc sd
 rw[e1,e2,f _ _ (by omega),f _ _ (by omega),show q.2+1-(q.1+1)=q.2-q.1 by omega]
theorem Pm.at{n:Nat}{p:List Int}(h:Pm n p){i:Nat}(hi:i<n):∃u,u<n∧p.getD u 0=(i:Int):=by
 have m:(i:Int)∈p:=h.mem_iff.mpr (J1.mpr ⟨by omega,by omega⟩)
 obtain⟨u,hu⟩:=Bs m
 exact⟨u,by rw[←h.len];exact(Xn.mp hu).1,by rw[Xf,hu];rfl⟩
noncomputable def smL(F:Nat×Nat->Int)(L:List (Nat×Nat)):Int:=(L.map F).sum
theorem Zsz(F:Nat×Nat->Int)(L M:List (Nat×Nat)):smL F (L ++ M)=smL F L+smL F M:=by
 unfold smL
 rw[QB,List.sum_append]
theorem Zl0(F:Nat×Nat->Int)(i:Nat):∀m,smL F ((Xr m).map λj=>(i,i+1+j))=sm (λj=>F (i,i+1+j)) m
 | 0=>rfl
 | m+1=>by
  rw[Uz,QB,Zsz,Zl0 F i m,sm]
  refine congrArg (_+·) ?_
  show F (i,i+1+m)+0=_
  omega
theorem Zo9(F:Nat×Nat->Int)(n:Nat):∀m,smL F (Zhl n m)=sm (λa=>sm (λj=>F (a,a+1+j)) (n-(a+1))) m
 | 0=>rfl
 | m+1=>by rw[Zf0,Zsz,Zo9 F n m,Zl0,sm]
theorem Zkz{T m:Int}(hm:0<m):(Xv T m).num*(m.fdiv ((Xv T m).den:Int))=T∧m.fmod ((Xv T m).den:Int)=0:=by
 have hd:((Xv T m).den:Int)∣m:=Zny (by omega)
 have hp:=J4 (Xv T m)
 refine⟨?_,by rw[Zdl hp];exact Int.emod_eq_zero_of_dvd hd⟩
 rw[Y8 hp]
 have e:=Zxt hd
 have nz:(m:Rat)≠0:=by
  intro z
  have:m=0:=by exact_mod_cast z
  omega
 have:(Xv T m)*(m:Rat)=(T:Rat):=by
  rw[Rat.divInt_eq_div]
  exact Rat.div_mul_cancel nz
 rw[this]at e
 exact_mod_cast e
theorem Z88{n:Nat}{D:Nat->Nat->Int}{a c:Nat}(h:∀i j,i<n->j<n->Bt 300 (D i j))(hac:a<c)(hc:c<n):Bt 303 (twP n D a c):=by
 have hm:(c+1)%n<n:=Nat.mod_lt _ (by omega)
 unfold twP
 exact(((h a c (by omega) hc).add' (h (a+1) _ (by omega) hm)).sub' ((h a _ (by omega) hm).mono (by decide))).sub' ((h (a+1) c (by omega) hc).mono (by decide))
theorem Ycq{b:Int}(h:Bt 300 b):Bt 302 (2*b):=(show Bt 2 2 by unfold Bt;decide).mul h
theorem Z7h{b:Int}{q:Rat}(hb:0<b)(bb:Bt 300 b)(hd:(q.den:Int)∣2*b):Bt 302 ((2*b).fdiv (q.den:Int)):=by
 rw[Y8 (J4 q)]
 exact Zib (by omega) (Int.ediv_dvd_of_dvd hd) (Ycq bb)
theorem Z4i{T b:Int}(hb:0<b):((Xv T (2*b)).den:Int)∣2*b:=Zny (by omega)
theorem list_range{α β:Type}(p:List α)(d:α)(f:α->β):p.map f=(Xr p.length).map λi=>f (p.getD i d):=by
 refine List.ext_getElem? λi=>?_
 rw[Xu,Xu]
 by_cases c:i<p.length
 ·rw[V0 c,Xi c]
  simp[Xf,Xi c]
 ·rw[Q7 (by omega),Q7 (by simp;omega)];rfl
theorem Z0p{n:Nat}{base:Int}{L:List (List Int)}(h:Dr n base L):Qv ((L.map Zrq).map OT.data)=Ym n (fnL L)∧∀i j,i<n->j<n->0≤fnL L i j∧fnL L i j<base:=by
 refine⟨?_,λi j hi hj=>?_⟩
 ·unfold Ym
  refine congrArg Qv ?_
  rw[X5,list_range L [],h.1]
  refine XH λi hi=>?_
  have hi:i<n:=by simpa using hi
  have hr:(L.getD i []).length=n:=by
   refine(h.2 _ ?_).1
   rw[Xf,Xi (by rw[h.1];exact hi)]
   exact BV _
  show(OT.nd _).data=Zvw n _
  rw[OT.data_nd]
  unfold Zvw
  refine congrArg Qv ?_
  rw[X5,list_range (L.getD i []) 0,hr]
  rfl
 ·have m1:L.getD i []∈L:=by
   rw[Xf,Xi (by rw[h.1];exact hi)]
   exact BV _
  obtain⟨h1,h2⟩:=h.2 _ m1
  exact h2 _ (getD_mem (by omega))
theorem Z7n{e:FE}{δ δ':Zi}{d:Xa}{g:FG}(h:EvV e δ d)(hg:g d δ=some δ'):wE e (Z69 g) δ= .nx δ':=by
 obtain⟨t,e1,e2⟩:=h
 rw[Ze0,e1,Wm]
 show(match g t.data δ with|some δ'=>RS.nx δ'|none=>.bad)=_
 rw[e2,hg]
theorem ix3{x y z:Xa}{v:Int}(h0:0≤v)(h1:v<3):∃d,gIx (.list [x,y,z]) (.int v)=some (.fz d)∧(d=x∨d=y∨d=z):=by
 obtain⟨n,rfl⟩:∃n:Nat,v=n:=⟨v.toNat,by omega⟩
 match n with
 | 0=>exact⟨x,rfl,.inl rfl⟩
 | 1=>exact⟨y,rfl,.inr (.inl rfl)⟩
 | 2=>exact⟨z,rfl,.inr (.inr rfl)⟩
 | n+3=>exact absurd h1 (by omega)
theorem ix4{x y z w:Xa}{v:Int}(h0:0≤v)(h1:v<4):∃d,gIx (.list [x,y,z,w]) (.int v)=some (.fz d)∧(d=x∨d=y∨d=z∨d=w):=by
 obtain⟨n,rfl⟩:∃n:Nat,v=n:=⟨v.toNat,by omega⟩
 match n with
 | 0=>exact⟨x,rfl,.inl rfl⟩
 | 1=>exact⟨y,rfl,.inr (.inl rfl)⟩
 | 2=>exact⟨z,rfl,.inr (.inr (.inl rfl))⟩
 | 3=>exact⟨w,rfl,.inr (.inr (.inr rfl))⟩
 | n+4=>exact absurd h1 (by omega)
noncomputable def B20:Int:=100000000000000000000
noncomputable def wtB(cnt:FE):FS:=(Z4 (wE (Ye gIx (Zdu (Zc (fC (.int 3)) (Zc (fC (.int 12)) (Zc (Zf Zvk (fC (.int 10)) (fC (.int 20))) Zq)))) (Zf Zez (Zd 3) (fC (.int 3)))) (Y6 4))
  (Z4 (wE (Zdu Zq) (Zb5 5))
  (Z4 (Zbw (iRa (Zc cnt Zq)) (gNm 6)
  (Z4 (wE (Zu Wt (Zc (Zd 3) (Zc (Zf Zau (fC (.int 50)) (Zd 6)) Zq))) (Y6 7))
  (Z4 (Jv (tV (Zf gLt (Zf Zau (Zd 1) (Zd 6)) (Zbx Za5 (Zc (Zd 0) Zq))))
  (wE (Ye gIx (Zd 0) (Zf Zau (Zd 1) (Zd 6))) (Y6 7))
  fNx)
  (Wk 5 (Zf Zez (Zd 7) (Zd 4))))))
  (Zfb 5))))
theorem Yaq(ns:List Int)(st:Nat)(x c:Int){cnt:FE}{m:Nat}(hm:m≤1000)(hc:∀{δ:Zi},δ[2]? =some (some (.fz (.int x)))->EvV cnt δ (.int m)):∃vs:List Int,Told (J0 4 8 (wtB cnt)) [Zj ns,.int st,.int x,.int c] (Zj vs)∧vs.length=m∧∀v∈vs,0≤v∧v<B20:=by
 obtain⟨d,e,h⟩:=ix3 (x:=.int 3) (y:=.int 12) (z:=.int B20) (v:=c.fmod 3) (Zca (by decide)) (Zb1 (by decide))
 obtain⟨b,rfl,b0,b1⟩:∃b:Int,d= .int b∧0<b∧b≤B20:=by
  unfold B20 at h⊢
  rcases h with h|h|h<;>exact⟨_,h,by decide,by decide⟩
 have key:∃d,Told (J0 4 8 (wtB cnt)) [Zj ns,.int st,.int x,.int c] d∧∃vs:List Int,d=Zj vs∧vs.length=m∧∀v∈vs,0≤v∧v<B20:=by
  refine Ztr rfl<|Zd2 (Zt (Wd (Zmf (Zb Z0 (Zb Z0 (Zb (Zr Z0 Z0 Ydc) Zh))) (show 3≤1000 by decide)) (Jy Za Z0 (by decide)) e))<|Zd2 Zge<|Zll (ds:=Zc7 0 m) (λi δ=>∃(vs:List Int) (z6 z7:Option OT),δ=[some (.fz (Zj ns)),some (.fz (.int st)),some (.fz (.int x)),some (.fz (.int c)),some (.fz (.int b)),some (.nd (vs.map λv=>.fz (.int v))),z6,z7]∧vs.length=i∧∀v∈vs,0≤v∧v<B20) (Zhz (Zb (hc rfl) Zh) (by omega)) ⟨[],none,none,rfl,rfl,λ_ h=>nomatch h⟩ (λi d δ hd q=>?_) λδ' q=>?_
  ·obtain⟨vs,z6,z7,rfl,hl,hv⟩:=q
   obtain⟨hi,rfl⟩:=Jk hd
   rw[Bf]
   obtain⟨v,ev⟩:=Zq9 c (50+(i:Int))
   obtain⟨w,e3⟩:∃w,Jv (tV (Zf gLt (Zf Zau (Zd 1) (Zd 6)) (Zbx Za5 (Zc (Zd 0) Zq)))) (wE (Ye gIx (Zd 0) (Zf Zau (Zd 1) (Zd 6))) (Y6 7)) fNx [some (.fz (Zj ns)),some (.fz (.int st)),some (.fz (.int x)),some (.fz (.int c)),some (.fz (.int b)),some (.nd (vs.map λv=>.fz (.int v))),some (.fz (.int i)),some (.fz (.int v))]= .nx [some (.fz (Zj ns)),some (.fz (.int st)),some (.fz (.int x)),some (.fz (.int c)),some (.fz (.int b)),some (.nd (vs.map λv=>.fz (.int v))),some (.fz (.int i)),some (.fz (.int w))]:=by
    by_cases q:(st:Int)+(i:Int)<ns.length
    ·exact⟨_,Zbh (Jx (Zbk (Yp Za Za) (Wi Za) (decide_eq_true q))) (Zt (Zaj Za (Yp Za Za) (by omega) q))⟩
    ·exact⟨v,Zw (Jx (Zbk (Yp Za Za) (Wi Za) (decide_eq_false q))) rfl⟩
   refine⟨_,_,rfl,.inl (Yv (Zt (Zk (Zb Za (Zb (Yp Z0 Za) Zh)) ev))<|Yv e3 (Zjv (vs:=vs) (Jy Za Za (by omega)) rfl (by omega))),vs ++ [w.fmod b],_,_,rfl,by rw[XX,hl];rfl,λu hu=>?_⟩
   rcases QW.mp hu with q|q
   ·exact hv u q
   ·rw[XD.mp q]
    exact⟨Zca b0,Int.lt_of_lt_of_le (Zb1 b0) b1⟩
  ·obtain⟨vs,z6,z7,rfl,hl,hv⟩:=q
   rw[Wu]at hl
   exact Ybw rfl ⟨vs,Ze4 vs,hl,hv⟩
 obtain⟨d,h,vs,rfl,r⟩:=key
 exact⟨vs,h,r⟩
theorem Zcl(ns:List Int)(st n:Nat)(c:Int)(hn:n≤10):∃vs:List Int,Told Yo [Zj ns,.int st,.int n,.int c] (Zj vs)∧vs.length=n*(n-1)/2∧∀v∈vs,0≤v∧v<B20:=by
 refine Yaq ns st n c (m:=n*(n-1)/2) ?_ λh=>(Zb4 (Zdc (Za h) (Zdy (Za h) Z0) (by omega)) Z0).cast (congrArg Xk ?_)
 ·have:n*(n-1)≤10*10:=Nat.mul_le_mul hn (by omega)
  omega
 ·cases n with
  | zero=>rfl
  | succ k=>
   rw[Y8 (by decide),show((k+1:Nat):Int)-1=(k:Int) by omega,←UL]
   rfl
theorem Z2n{np n:Nat}{S:FS}{xs:List Xa}{o:OT}{δ':Zi}(hl:xs.length=np)(k:S (Zgk n xs)= .rt o δ'):J0 np n S xs= .ok o:=by rw[Zmw hl,k,Zr8]
theorem Z1n{δ:Zi}{i:Nat}{o:OT}(h:δ[i]? =some (some o)):Zfb i δ= .rt o (δ.set i none):=by rw[Zoq,h,Zzz]
noncomputable def B25:Int:=10000000000000000000000000
noncomputable def sep(s:List Int)(x y:Nat):Bool:=decide ((x:Int)∈s) !=decide ((y:Int)∈s)
theorem Dr.len{n:Nat}{base:Int}{L:List (List Int)}(h:Dr n base L){k:Nat}(hk:k<n):(L.getD k []).length=n:=by
 refine(h.2 _ ?_).1
 rw[Xf,Xi (by rw[h.1];exact hk)]
 exact BV _
theorem Z41{δ:Zi}{a b:FE}{i x y:Nat}{n:Nat}{base:Int}{L:List (List Int)}(h:Dr n base L)(hi:δ[i]? =some (some (.nd (L.map Zrq))))(ha:EvV a δ (.int x))(hx:x<n)(hb:EvV b δ (.int y))(hy:y<n):EvV (Ye gIx (Ye gIx (Zq0 i) a) b) δ (.int (fnL L x y)):=by
 have e1:EvV (Zq0 i) δ (.list (L.map Zj)):=Zyh hi (by
  rw[OT.data_nd,X5]
  exact congrArg Qv (XH λr _=>Ze4 r))
 have e2:EvV (Ye gIx (Zq0 i) a) δ (Zj (L.getD x [])):=Zrk e1 ha (Zug (by rw[Xu,Xf,Xi (by rw[h.1];exact hx)];rfl))
 exact(Zaj e2 hb (by omega) (by rw[h.len hx];omega)).cast (by rw[show(y:Int).toNat=y by omega];rfl)
noncomputable def rE(n:Nat)(A B:Xa)(L:List (List Int))(s:List Int)(w:Int)(z6 z7:Option OT):Zi:=[some (.fz (.int n)),some (.fz A),some (.fz B),some (.nd (L.map Zrq)),some (.fz (Zj s)),some (.fz (.int w)),z6,z7]
noncomputable def Zqe:FS:=Jv (tV (Zf gNe (Zf (Zmt false) (Zd 6) (Zd 4)) (Zf (Zmt false) (Zd 7) (Zd 4))))
  (Zru 3 (Zf Zau (Ye gIx (Ye gIx (Zq0 3) (Zd 6)) (Zd 7)) (Zd 5)) (Zd 6) (Zd 7))
  fNx
structure Up(n:Nat)(L0:List (List Int))(s:List Int)(w:Int)(P:Nat->Nat->Prop)(L:List (List Int)):Prop where
 dr:Dr n B25 L
 yes:∀x y,x<n->y<n->P x y->fnL L x y=fnL L0 x y+(if sep s x y=true then w else 0)
 no:∀x y,x<n->y<n->¬P x y->fnL L x y=fnL L0 x y
theorem Up.mono{n:Nat}{L0 L:List (List Int)}{s:List Int}{w:Int}{P Q:Nat->Nat->Prop}(h:Up n L0 s w P L)(e:∀x y,x<n->y<n->(P x y↔Q x y)):Up n L0 s w Q L:=⟨h.dr,λx y hx hy q=>h.yes x y hx hy ((e x y hx hy).mpr q),λx y hx hy q=>h.no x y hx hy λz=>q ((e x y hx hy).mp z)⟩
theorem Z0m{n:Nat}{A B:Xa}{L0 L:List (List Int)}{s:List Int}{w:Int}{P:Nat->Nat->Prop}{i j:Nat}(hi:i<n)(hj:j<n)(U:Up n L0 s w P L)(np:¬P i j)(lo:0≤fnL L0 i j)(w0:0≤w)(hb:fnL L0 i j+w<B25) :
  ∃L',Zqe (rE n A B L s w (some (.fz (.int i))) (some (.fz (.int j))))= .nx (rE n A B L' s w (some (.fz (.int i))) (some (.fz (.int j))))∧Up n L0 s w (λx y=>P x y∨(x=i∧y=j)) L':=by
 have t:=Jx (Zr (g:=gNe) (δ:=rE n A B L s w (some (.fz (.int i))) (some (.fz (.int j)))) (Zr (Za (i:=6) rfl) (Za (i:=4) rfl) (Zcx false (i:Int) s)) (Zr (Za (i:=7) rfl) (Za (i:=4) rfl) (Zcx false (j:Int) s)) (Zo4 _ _))
 have t:EvT _ _ (sep s i j):=t
 cases c:sep s i j with
 | false=>
  rw[c]at t
  refine⟨L,Zw t rfl,U.dr,λx y hx hy q=>?_,λx y hx hy q=>U.no x y hx hy λz=>q (.inl z)⟩
  rcases q with q|⟨rfl,rfl⟩
  ·exact U.yes x y hx hy q
  ·rw[U.no x y hx hy np,c,if_neg Xm,Int.add_zero]
 | true=>
  rw[c]at t
  have f:=Z2u (L:=L) (a:=i) (b:=j) (v:=fnL L i j+w) (by rw[U.dr.1];exact hi) (by rw[U.dr.len hi];exact hj)
  have e:=U.no i j hi hj np
  refine⟨_,Zbh t (Z19 (L:=L) (a:=i) (b:=j) (d:=fnL L i j+w) (Yp (Z41 U.dr rfl (Za rfl) hi (Za rfl) hj) (Za rfl)) rfl (Za rfl) (by rw[U.dr.1];exact hi) (Za rfl) (by rw[U.dr.len hi];exact hj)),U.dr.put (by rw[e];omega) (by rw[e];exact hb) i j,λx y hx hy q=>?_,λx y hx hy q=>?_⟩
  ·rw[f]
   by_cases z:x=i∧y=j
   ·obtain⟨rfl,rfl⟩:=z
    rw[if_pos ⟨rfl,rfl⟩,e,c,if_pos rfl]
   ·rw[if_neg z]
    exact U.yes x y hx hy (q.resolve_right z)
  ·rw[f,if_neg λz=>q (.inr z)]
   exact U.no x y hx hy λz=>q (.inl z)
theorem Zxm{n:Nat}{A B:Xa}{L0 L:List (List Int)}{s:List Int}{w:Int}{i:Nat}{z7:Option OT}(n10:n≤10)(hi:i<n)(U:Up n L0 s w (λx _=>x<i) L)(lo:∀x y,x<n->y<n->0≤fnL L0 x y)(w0:0≤w)(hb:∀x y,x<n->y<n->fnL L0 x y+w<B25) :
  ∃L' z7',Zbw (iRa (Zc (Zd 0) Zq)) (gNm 7) Zqe (rE n A B L s w (some (.fz (.int i))) z7)= .nx (rE n A B L' s w (some (.fz (.int i))) z7')∧Up n L0 s w (λx _=>x<i+1) L':=by
 obtain⟨δ',e,L',z7',rfl,U'⟩:=Zjs (S:=Zqe) (g:=gNm 7) (it:=iRa (Zc (Zd 0) Zq)) (δ:=rE n A B L s w (some (.fz (.int i))) z7) (ds:=Zc7 0 n) (λj δ=>∃L' z7',δ=rE n A B L' s w (some (.fz (.int i))) z7'∧Up n L0 s w (λx y=>x<i∨(x=i∧y<j)) L') (Zhz (Zb (Za rfl) Zh) (by omega)) ⟨L,z7,rfl,U.mono λx y _ _=>by omega⟩ λj d δ hd q=>by
  obtain⟨L',z7',rfl,U'⟩:=q
  obtain⟨hj,rfl⟩:=Jk hd
  rw[Bf]
  obtain⟨L2,e2,U2⟩:=Z0m (A:=A) (B:=B) hi hj U' (by omega) (lo i j hi hj) w0 (hb i j hi hj)
  exact⟨_,_,rfl,.inl e2,L2,_,rfl,U2.mono λx y _ _=>by omega⟩
 rw[Wu]at U'
 exact⟨L',z7',e,U'.mono λx y _ hy=>by omega⟩
theorem Zvm{n:Nat}{A B:Xa}{L0:List (List Int)}{s:List Int}{w:Int}{z6 z7:Option OT}(n10:n≤10)(D:Dr n B25 L0)(lo:∀x y,x<n->y<n->0≤fnL L0 x y)(w0:0≤w)(hb:∀x y,x<n->y<n->fnL L0 x y+w<B25) :
  ∃L' z6' z7',Zbw (iRa (Zc (Zd 0) Zq)) (gNm 6) (Zbw (iRa (Zc (Zd 0) Zq)) (gNm 7) Zqe) (rE n A B L0 s w z6 z7)= .nx (rE n A B L' s w z6' z7')∧Dr n B25 L'∧∀x y,x<n->y<n->fnL L' x y=fnL L0 x y+(if sep s x y=true then w else 0):=by
 obtain⟨δ',e,L',z6',z7',rfl,U'⟩:=Zjs (S:=Zbw (iRa (Zc (Zd 0) Zq)) (gNm 7) Zqe) (g:=gNm 6) (it:=iRa (Zc (Zd 0) Zq)) (δ:=rE n A B L0 s w z6 z7) (ds:=Zc7 0 n) (λi δ=>∃L' z6' z7',δ=rE n A B L' s w z6' z7'∧Up n L0 s w (λx _=>x<i) L') (Zhz (Zb (Za rfl) Zh) (by omega)) ⟨L0,z6,z7,rfl,D,λ_ _ _ _ z=>absurd z (Vh _),λ_ _ _ _ _=>rfl⟩ λi d δ hd q=>by
  obtain⟨L',z6',z7',rfl,U'⟩:=q
  obtain⟨hi,rfl⟩:=Jk hd
  rw[Bf]
  obtain⟨L2,z,e2,U2⟩:=Zxm (A:=A) (B:=B) (z7:=z7') n10 hi U' lo w0 hb
  exact⟨_,_,rfl,.inl e2,L2,_,z,rfl,U2⟩
 rw[Wu]at U'
 exact⟨L',z6',z7',e,U'.dr,λx y hx hy=>U'.yes x y hx hy hx⟩
theorem Zxl(s:List Int)(x y:Nat):sep s x y=sep s y x:=by unfold sep;cases decide ((x:Int)∈s)<;>cases decide ((y:Int)∈s)<;>rfl
theorem Zwm(s:List Int)(x:Nat):sep s x x=false:=by unfold sep;cases decide ((x:Int)∈s)<;>rfl
theorem Zvb{n:Nat}:Dr n B25 ((Xr n).map λ_=>X4 n 0)∧∀x y,x<n->y<n->fnL ((Xr n).map λ_=>X4 n 0) x y=0:=by
 refine⟨⟨by rw[Xj,X3],λr hr=>?_⟩,λi j hi hj=>?_⟩
 ·obtain⟨_,_,rfl⟩:=Qc.mp hr
  exact⟨Vv,λx hx=>by rw[List.eq_of_mem_replicate hx];decide⟩
 ·unfold fnL
  rw[Xf (l:=List.map _ _),Xu,V0 hi]
  show(X4 n (0:Int)).getD j 0=0
  rw[Xf,Ua,if_pos hj];rfl
theorem Yan{α:Type}{g:FG}{t:FT}{me:FE}{cs:Zi}(x1 x2:α->Xa)(p:α->Bool)(f:α->OT):∀(xs:List α) (z0 z1:Option OT),(∀x∈xs,∀z0 z1,g (.tuple [x1 x,x2 x]) (z0 :: z1 :: cs)=some (some (.fz (x1 x)) :: some (.fz (x2 x)) :: cs))->(∀x∈xs,t (some (.fz (x1 x)) :: some (.fz (x2 x)) :: cs)=some (p x,some (.fz (x1 x)) :: some (.fz (x2 x)) :: cs))->(∀x∈xs,p x=true->me (some (.fz (x1 x)) :: some (.fz (x2 x)) :: cs)=some (f x,some (.fz (x1 x)) :: some (.fz (x2 x)) :: cs)) ->
  ∃z0' z1',compLoop g t me (xs.map λx=>.tuple [x1 x,x2 x]) (z0 :: z1 :: cs)=some ((xs.filter p).map f,z0' :: z1' :: cs):=by
 intro xs
 induction xs with
 | nil=>exact λz0 z1 _ _ _=>⟨z0,z1,rfl⟩
 | cons x xs ih=>
  intro z0 z1 hg ht hm
  obtain⟨y0,y1,e⟩:=ih (some (.fz (x1 x))) (some (.fz (x2 x))) (λy hy=>hg y (.tail _ hy)) (λy hy=>ht y (.tail _ hy)) λy hy=>hm y (.tail _ hy)
  refine⟨y0,y1,?_⟩
  rw[XF,compLoop,hg x (.head _),Xh,ht x (.head _),Xh]
  dsimp only
  cases hp:p x with
  | true=>rw[if_pos rfl,hm x (.head _) hp,Xh,Uc hp,XF];dsimp only;rw[e];rfl
  | false=>rw[if_neg Xm,Ud (by rw[hp];exact Xm)];exact e
theorem Zyp{α:Type}{caps:List Nat}{it:FI}{g:FG}{t:FT}{me:FE}{cs δ:Zi}(xs:List α)(x1 x2:α->Xa)(p:α->Bool)(f:α->OT)(hi:EvI it δ (xs.map λx=>.tuple [x1 x,x2 x]))(hz:xs.length≤1000000)(hb:blk 2 caps δ=none :: none :: cs)
  (hg:∀x∈xs,∀z0 z1,g (.tuple [x1 x,x2 x]) (z0 :: z1 :: cs)=some (some (.fz (x1 x)) :: some (.fz (x2 x)) :: cs)) (ht:∀x∈xs,t (some (.fz (x1 x)) :: some (.fz (x2 x)) :: cs)=some (p x,some (.fz (x1 x)) :: some (.fz (x2 x)) :: cs)) (hm:∀x∈xs,p x=true->me (some (.fz (x1 x)) :: some (.fz (x2 x)) :: cs)=some (f x,some (.fz (x1 x)) :: some (.fz (x2 x)) :: cs)) :
  Wj 2 caps it g t me δ=some (.nd ((xs.filter p).map f),δ):=by
 obtain⟨z0,z1,e⟩:=Yan x1 x2 p f xs none none hg ht hm
 unfold EvI at hi
 unfold Wj
 rw[hi,Xh]
 dsimp only
 rw[if_pos (by rw[Qj,Xj];omega),hb,e];rfl
theorem Zk3{α β:Type}(f:α->Xa)(g:β->Xa)(r:List α)(s:List β):Zjf (r.map f) (s.map g)=(r.zip s).map λq=>.tuple [f q.1,g q.2]:=by
 unfold Zjf
 rw[List.zip_map,X5];rfl
theorem Zhn:∀m≤10,(Z1 m).length≤60:=by decide
theorem Zdd{n:Nat}(hn:n≤10)(R:Nat->Nat->Int){b:Int}(hb:0<b)(bb:Bt 300 b):Told Wh [Ym n R,.int b] (tbD (Zci n R b)):=by
 have e:tbD (Zci n R b)= .list ((Xr n).map λi=>.list ((Xr n).map λj=>frD (Xv (R i j) b))):=by
  unfold tbD Zci
  rw[X5]
  refine congrArg Qv (XH λi _=>?_)
  show Znb _=_
  unfold Znb
  rw[X5];rfl
 rw[e]
 exact Zx rfl<|Yc<|Zc3 (cs:=[some (.fz (.int b))]) (Xr n) (λi=>Zvw n (R i)) (λi=>.list ((Xr n).map λj=>frD (Xv (R i j) b))) (Zae Za) (by rw[X3];omega) rfl λi _=>
  Zc3 (cs:=[some (.fz (.int b))]) (Xr n) (λj=>.int (R i j)) (λj=>frD (Xv (R i j) b)) (Zae Za) (by rw[X3];omega) rfl λj _=>Zk (Zb Za (Zb Za Zh)) (Zdt hb bb)
structure Rw(n:Nat)(R:Nat->Nat->Int):Prop where
 sy:∀i j,i<n->j<n->R i j=R j i∧R i i=0
 bt:∀i j,i<n->j<n->Bt 300 (R i j)
noncomputable def ctD(p:List Int×Rat):Xa:=.tuple [Zj p.1,frD p.2]
noncomputable def Zgp(L:List (List Int×Rat)):Xa:=.list (L.map ctD)
theorem Zyq(p:List Int×Rat):kdT (ctD p)=some (p.1,[p.2.num,(p.2.den:Int)]):=by
 show((Zbn (p.1.map Xk)).bind λns=>(Zbn [.int p.2.num,.int (p.2.den:Int)]).bind λms=>some (ns,ms))=_
 rw[Jj];rfl
theorem Zq4:∀{a b c:List Int},ltI a b=true->ltI b c=true->ltI a c=true:=by
 intro a
 induction a with
 | nil=>
  intro b c h1 h2
  cases b with
  | nil=>cases h1
  | cons y b=>cases c with
   | nil=>cases h2
   | cons z c=>rfl
 | cons x a ih=>
  intro b c h1 h2
  cases b with
  | nil=>cases h1
  | cons y b=>cases c with
   | nil=>cases h2
   | cons z c=>
    unfold ltI at h1 h2⊢
    by_cases e1:x=y
    ·subst e1
     rw[if_pos rfl]at h1
     by_cases e2:x=z
     ·rw[if_pos e2]at h2⊢;exact ih h1 h2
     ·rw[if_neg e2]at h2⊢;exact h2
    ·rw[if_neg e1]at h1
     have l1:=of_decide_eq_true h1
     by_cases e2:y=z
     ·subst e2
      rw[if_neg e1];exact h1
     ·rw[if_neg e2]at h2
      have l2:=of_decide_eq_true h2
      rw[if_neg (by omega)]
      exact decide_eq_true (by omega)
theorem Zm5:∀a:List Int,ltI a a=false:=by
 intro a
 induction a with
 | nil=>rfl
 | cons x a ih=>unfold ltI;rw[if_pos rfl];exact ih
theorem Z1k:∀{a b:List Int},a≠b->ltI a b=false->ltI b a=true:=by
 intro a
 induction a with
 | nil=>
  intro b ne h
  cases b with
  | nil=>exact absurd rfl ne
  | cons y b=>cases h
 | cons x a ih=>
  intro b ne h
  cases b with
  | nil=>rfl
  | cons y b=>
   unfold ltI at h⊢
   by_cases e:x=y
   ·subst e
    rw[if_pos rfl]at h⊢
    exact ih (λz=>ne (z▸rfl)) h
   ·rw[if_neg e]at h
    rw[if_neg (Vs e)]
    have:=of_decide_eq_false h
    exact decide_eq_true (by omega)
noncomputable def sCt(L:List (List Int×Rat)):List (List Int×Rat):=sLay ([],0) (lk kdT ltT (L.map ctD)) L
noncomputable def Dst(L:List (List Int×Rat)):Prop:=∀k l,k<l->l<L.length->(L.getD k ([],0)).1≠(L.getD l ([],0)).1
theorem Zx9{L:List (List Int×Rat)}(h:Dst L){i j:Nat}(hi:i<L.length)(hj:j<L.length):lk kdT ltT (L.map ctD) i j=ltI (L.getD i ([],0)).1 (L.getD j ([],0)).1:=by
 have e:∀k,k<L.length->kdT ((L.map ctD).getD k .none)=some ((L.getD k ([],0)).1,[(L.getD k ([],0)).2.num,((L.getD k ([],0)).2.den:Int)]):=λk hk=>by
  rw[Xf,Xu,Xi hk,Xf,Xi hk]
  exact Zyq _
 unfold lk
 rw[e i hi,e j hj]
 show ltT _ _=_
 unfold ltT
 by_cases c:i=j
 ·subst c
  rw[if_pos rfl,if_pos rfl,Zm5]
 ·rw[if_neg]
  rcases BX c with z|z
  ·exact h i j z hj
  ·exact λq=>h j i z hi q.symm
theorem Z7d{L:List (List Int×Rat)}(h:Dst L):(sCt L).Pairwise λa b=>ltI a.1 b.1=true:=by
 refine Z1v (β:=Nat) (d:=([],0)) (vs:=L) ⟨λi j k hi hj hk h1 h2=>?_,λi j hi hj c q=>?_,λi j hi hj q=>?_⟩ λi j hi hj q=>?_
 ·rw[Zx9 h hi hj]at h1
  rw[Zx9 h hj hk]at h2
  rw[Zx9 h hi hk]
  exact Zq4 h1 h2
 ·rw[Zx9 h hi hj]at q
  rw[Zx9 h hj hi]
  refine Z1k ?_ q
  rcases BX c with z|z
  ·exact h i j z hj
  ·exact λq=>h j i z hi q.symm
 ·rw[Zx9 h hi hj]at q
  rw[Zx9 h hj hi]
  refine Vj.mpr λz=>?_
  have:=Zq4 q z
  rw[Zm5]at this
  cases this
 ·rw[Zx9 h hi hj]at q
  exact q
theorem Z13{α:Type}(d d':α)(lt:Nat->Nat->Bool)(vs:List α):sLay d lt vs=sLay d' lt vs:=by
 unfold sLay
 split
 ·rfl
 ·refine XH λi hi=>?_
  have:=X8.mp ((Zev (by omega)).mem_iff.mp hi)
  rw[Xf,Xf,Xi this];rfl
theorem Zki{α:Type}{g:FG}{u:FS}(mk:α->Xa)(P:α->Bool)(I:List α->Zi->Prop)(V:α->Xa)(all:List α)(t:∀x done rest,done ++ x :: rest=all->∀δ,I done δ->∃δ1,g (mk x) δ=some δ1∧(P x=false->∃δ2,u δ1= .nx δ2∧I (done ++ [x]) δ2)∧(P x=true->Zks u δ1 (V x))):∀(xs done:List α),done ++ xs=all->∀(δ:Zi),I done δ ->
  (xs.find? P=none->∃δ2,forLoop g u (xs.map mk) δ= .nx δ2∧I all δ2)∧∀x,xs.find? P=some x->Zks (forLoop g u (xs.map mk)) δ (V x):=by
 intro xs
 induction xs with
 | nil=>exact λdone e δ h=>⟨λ_=>⟨δ,rfl,by rw[Q5]at e;exact e▸h⟩,λx z=>nomatch z⟩
 | cons x xs ih=>
  intro done ea δ h
  obtain⟨δ1,e1,a,b⟩:=t x done xs ea δ h
  cases c:P x with
  | true=>
   rw[List.find?_cons_of_pos c]
   refine⟨λz=>(nomatch z),λy hy=>?_⟩
   cases hy
   obtain⟨o,δ2,e2,d⟩:=b c
   refine⟨o,δ2,?_,d⟩
   rw[XF,forLoop,e1]
   dsimp only
   rw[e2]
  | false=>
   rw[List.find?_cons_of_neg (by rw[c];exact Xm)]
   obtain⟨δ2,e2,h2⟩:=a c
   have e:forLoop g u ((x :: xs).map mk) δ=forLoop g u (xs.map mk) δ2:=by
    rw[XF,forLoop,e1]
    dsimp only
    rw[e2]
   have:=ih (done ++ [x]) (by rw[JB];exact ea) δ2 h2
   unfold Zks at this⊢
   rw[e]
   exact this
theorem Ztj{e:FE}{δ:Zi}{L:List (List Int×Rat)}(he:EvV e δ (Zgp L))(h:L.length<64):EvV (fBl (Zmh kdT ltT) (Zc e Zq)) δ (Zgp (sCt L)):=by
 refine Zxn (Zb he Zh) (o:=.nd (((sCt L).map ctD).map OT.fz)) ?_ (by rw[OT.data_nd,OT.map_fz];rfl)
 unfold sCt
 rw[←Zw5,Z13 (ctD ([],0)) Xa.none]
 refine if_pos ?_
 rw[XQ,decide_eq_true_eq,Xj,Us]
 refine⟨h,λd m=>?_⟩
 obtain⟨p,_,rfl⟩:=Qc.mp m
 rw[Zyq];rfl
noncomputable def tq(n:Nat)(R:Nat->Nat->Int)(p:List Int)(q:Nat×Nat):Int:=twP n (λu v=>R (pn p u) (pn p v)) q.1 q.2
noncomputable def cL(n:Nat)(R:Nat->Nat->Int)(p:List Int)(b:Int)(Q:List (Nat×Nat)):List (List Int×Rat):=(Q.filter λq=>decide (0<tq n R p q)).map λq=>(Z5 (sd p q),Xv (tq n R p q) (2*b))
noncomputable def Zwy(n:Nat)(R:Nat->Nat->Int)(p:List Int):Option (Nat×Nat):=(Z1 n).find? λq=>decide (tq n R p q<0)
noncomputable def Zu6(n:Nat)(R:Nat->Nat->Int)(p:List Int)(b:Int):Xa:=match Zwy n R p with
 | some q=>.tuple [.str "bars",ptD q]
 | none=>.tuple [.str "ring",Zgp (sCt (cL n R p b (Z1 n)))]
theorem Zts(n:Nat)(R:Nat->Nat->Int)(p:List Int)(b:Int)(Q:List (Nat×Nat))(q:Nat×Nat):cL n R p b (Q ++ [q])=cL n R p b Q ++ (if 0<tq n R p q then[(Z5 (sd p q),Xv (tq n R p q) (2*b))]else[]):=by
 unfold cL
 rw[List.filter_append,QB]
 by_cases c:0<tq n R p q
 ·rw[if_pos c,Uc (p:=λq=>decide (0<tq n R p q)) (decide_eq_true c)];rfl
 ·rw[if_neg c,Ud (p:=λq=>decide (0<tq n R p q)) (by rw[decide_eq_false c];exact Xm)];rfl
theorem Ztp(n:Nat)(R:Nat->Nat->Int)(p:List Int)(b:Int)(Q:List (Nat×Nat)):(cL n R p b Q).length≤Q.length:=by
 unfold cL
 rw[Xj]
 exact List.length_filter_le _ _
theorem Zgq{n:Nat}{R:Nat->Nat->Int}{b:Int}{p:List Int}(h:Pm n p)(hr:ringB n p=true)(hn:n≤10)(hb:0<b)(bb:Bt 300 b)(W:Rw n R):Told Yn [tbD (Zci n R b),Zj p] (Zu6 n R p b):=by
 obtain⟨m,k,S,e1,eS,m0,k0,rfl,bm,sc⟩:=Zx0 (by omega:n<64) hb bb W.bt
 have hI:=h.inR
 have hle:Za5 [tbD (Zci n R (m*k))]=some (.int n):=by rw[Ztb,Zjq]
 have hg:Zcv (.int 2) (.int m)=some (.int (2*m)):=Zhj (Zyt (by decide))
 obtain⟨E,hE⟩:∃E:List (List Int×Rat)->Option OT->Option OT->Option OT->Zi,E= λL z5 z6 z7=>[some (.fz (tbD (Zci n R (m*k)))),some (.fz (Zj p)),some (.fz (.int m)),some (.fz (Ym n S)),some (.nd ((L.map ctD).map OT.fz)),z5,z6,z7]:=⟨_,rfl⟩
 have key:=Zki (g:=gTp 2 (gCn (gNm 5) (gCn (gNm 6) gNl))) (u:=Z4 (wE (Zu Zz (Zc (Zd 3) (Zc (Zd 1) (Zc (Zd 5) (Zc (Zd 6) Zq))))) (Y6 7))
  (Z4 (Jv (tV (Zf gLt (Zd 7) (fC (.int 0))))
  (wE (Zif (Zc (fC (.str "bars")) (Zc (Zif (Zc (Zd 5) (Zc (Zd 6) Zq))) Zq))) Ja)
  fNx)
  (Jv (tV (Zf gGt (Zd 7) (fC (.int 0))))
  (Wk 4 (Zif (Zc (fBl Zeq (Zc (fSl (Zd 1) (oI (Zf Zau (Zd 5) (fC (.int 1)))) (oI (Zf Zau (Zd 6) (fC (.int 1))))) Zq)) (Zc (Zu Y0 (Zc (Zd 7) (Zc (Zf Zcv (fC (.int 2)) (Zd 2)) Zq))) Zq))))
  fNx))) ptD (λq=>decide (tq n R p q<0)) (λQ δ=>∃z5 z6 z7,δ=E (cL n R p (m*k) Q) z5 z6 z7) (λq=>.tuple [.str "bars",ptD q]) (Z1 n) (λq done rest ea δ hI'=>?_) (Z1 n) [] rfl (E [] none none none) ⟨_,_,_,rfl⟩
 ·have l0:=Zhn n hn
  have st:∀{S':FS} {d:Xa},Zks S' (E [] none none none) d->Told (J0 2 8 (Z4 (wE (Zu W6 (Zc (Zbx Za5 (Zc (Zd 0) Zq)) (Zc (Zd 1) Zq))) Ztk) (Z4 (wE (Zu Z6 (Zc (Zd 0) Zq)) (Y6 2)) (Z4 (wE (Zu Yq (Zc (Zd 2) (Zc (Zd 0) Zq))) (Y6 3)) (Z4 (wE (Zdu Zq) (Zb5 4)) S'))))) [tbD (Zci n R (m*k)),Zj p] d:=fun{S' d} q=>
   Zx rfl<|Zo (Zzh (Zk (Zb (J6 (Zb Za Zh) hle) (Zb Za Zh)) (.of (Zjy (by rw[hI.1];omega) (by omega) hr) (OT.data_fz _))))<|Zo (Zt (Zk (Zb Za Zh) e1))<|Zo (Zt (Zk (Zb Za (Zb Za Zh)) eS))<|Zo Zge (by rw[hE]at q;exact q)
  have hi:EvI (Zgi (Zu Jl (Zc (Zbx Za5 (Zc (Zd 0) Zq)) Zq))) (E [] none none none) ((Z1 n).map ptD):=by
   rw[hE]
   exact Zae (Zk (Zb (J6 (Zb (Za (i:=0) rfl) Zh) hle) Zh) (Znl n (by omega)))
  refine st ?_
  unfold Zu6
  cases c:Zwy n R p with
  | some q=>
   obtain⟨o,δ',e,d⟩:=key.2 q c
   exact Jr ⟨o,δ',Zdz hi e,d⟩
  | none=>
   obtain⟨δ',e,q⟩:=key.1 c
   obtain⟨z5,z6,z7,rfl⟩:=q
   refine Zo (Zdz hi e) ?_
   have ll:=Ztp n R p (m*k) (Z1 n)
   obtain⟨o,h1,h2⟩:=Zym (Zbj (Zb (Z0 (δ:=[some (.fz (tbD (Zci n R (m*k)))),some (.fz (Zj p)),some (.fz (.int m)),some (.fz (Ym n S)),some (.fz (Zgp (cL n R p (m*k) (Z1 n)))),z5,z6,z7]) (d:=.str "ring")) (Zb (Ztj (e:=Zd 4) (L:=cL n R p (m*k) (Z1 n)) (Za rfl) (by omega)) Zh)) (show 2≤1000 by decide))
   rw[hE]
   exact⟨o,_,Zmm (o:=.nd (((cL n R p (m*k) (Z1 n)).map ctD).map OT.fz)) rfl (by rw[OT.data_nd,OT.map_fz];exact h1),h2⟩
 ·obtain⟨l1,l2⟩:=Yx (p:=q) (by rw[←ea];exact Qg _ (.head _))
  have dl:done.length≤60:=by
   have:=Zhn n hn
   rw[←ea,XX]at this
   omega
  obtain⟨z5,z6,z7,rfl⟩:=hI'
  have hmod:(q.2+1)%n<n:=Nat.mod_lt _ (by omega)
  obtain⟨_,a1⟩:=hI.at (i:=q.1) (by omega)
  obtain⟨_,a2⟩:=hI.at (i:=q.1+1) (by omega)
  obtain⟨_,a3⟩:=hI.at l2
  obtain⟨_,a4⟩:=hI.at hmod
  obtain⟨v,hv⟩:∃v,v=tw S (pn p q.1) (pn p (q.1+1)) (pn p q.2) (pn p ((q.2+1)%n)):=⟨_,rfl⟩
  have kv:k*v=tq n R p q:=by
   rw[hv]
   show k*(S _ _+S _ _-S _ _-S _ _)=R _ _+R _ _-R _ _-R _ _
   rw[Int.mul_sub,Int.mul_sub,Int.mul_add,sc _ _ a1 a3,sc _ _ a2 a4,sc _ _ a1 a4,sc _ _ a2 a3]
  have neg:(v<0)↔tq n R p q<0:=by
   rw[←kv]
   exact⟨λz=>Int.mul_neg_of_pos_of_neg k0 z,λz=>Int.not_le.mp λy=>Ue.mpr (Int.mul_nonneg (Int.le_of_lt k0) y) z⟩
  have ps:(0<v)↔0<tq n R p q:=by
   rw[←kv]
   exact⟨λz=>Int.mul_pos k0 z,λz=>Int.not_le.mp λy=>Ue.mpr (Int.mul_nonpos_of_nonneg_of_nonpos (Int.le_of_lt k0) y) z⟩
  have eF:=Zm6 (n:=302) (t:=tw S (pn p q.1) (pn p (q.1+1)) (pn p q.2) (pn p ((q.2+1)%n))) (b:=2*m) (by omega) (Bt.mul (m:=2) (Bt.of_lt (by decide) (by decide)) bm)
  rw[Zrf m0 k0 (sc _ _ a1 a3) (sc _ _ a2 a4) (sc _ _ a1 a4) (sc _ _ a2 a3),←hv]at eF
  have eF:Told Y0 [.int v,.int (2*m)] (frD (Xv (tq n R p q) (2*(m*k)))):=eF
  rw[hE]
  have s7:∀{S':FS} {r:RS},S' [some (.fz (tbD (Zci n R (m*k)))),some (.fz (Zj p)),some (.fz (.int m)),some (.fz (Ym n S)),some (.nd (((cL n R p (m*k) done).map ctD).map OT.fz)),some (.fz (.int (q.1:Int))),some (.fz (.int (q.2:Int))),some (.fz (.int v))]=r->Z4 (wE (Zu Zz (Zc (Zd 3) (Zc (Zd 1) (Zc (Zd 5) (Zc (Zd 6) Zq))))) (Y6 7)) S' [some (.fz (tbD (Zci n R (m*k)))),some (.fz (Zj p)),some (.fz (.int m)),some (.fz (Ym n S)),some (.nd (((cL n R p (m*k) done).map ctD).map OT.fz)),some (.fz (.int (q.1:Int))),some (.fz (.int (q.2:Int))),z7]=r:=λh=>Yv (Zt (d:=.int v) (Zk (Zb (Za rfl) (Zb (Za rfl) (Zb (Za rfl) (Zb (Za rfl) Zh)))) (.of (hv▸Zhy hI l1 l2) (OT.data_fz _)))) h
  refine⟨_,rfl,λc=>?_,λc=>?_⟩
  ·have nn:¬v<0:=λz=>of_decide_eq_false c (neg.mp z)
   by_cases pv:0<v
   ·refine⟨_,s7 (Yv (Zw (Jx (Zbk (Za rfl) Z0 (decide_eq_false nn))) rfl) (Zbh (Jx (Zqs (Za rfl) Z0 (decide_eq_true pv))) (Zma (ts:=((cL n R p (m*k) done).map ctD).map OT.fz) (d:=ctD (Z5 (sd p q),Xv (tq n R p q) (2*(m*k)))) (Zbj (Zb (Zxn (Zb (Zta (r:=p) (Za rfl) (Z21 (Yp (Za rfl) Z0)) (Z21 (Yp (Za rfl) Z0)) (Zyj l1 (by rw[hI.1];exact l2))) Zh) (Zf5 ?_) (Zfj _)) (Zb (Zk (Zb (Za rfl) (Zb (Zr Z0 (Za rfl) hg) Zh)) eF) Zh)) (show 2≤1000 by decide)) rfl ?_))),some (.fz (.int (q.1:Int))),some (.fz (.int (q.2:Int))),some (.fz (.int v)),?_⟩
    ·unfold sd
     rw[BP,Qu,hI.1];omega
    ·rw[Xj,Xj]
     have:=Ztp n R p (m*k) done
     omega
    ·rw[Zts,if_pos (ps.mp pv)]
     dsimp only
     rw[QB,QB];rfl
   ·refine⟨_,s7 (Yv (Zw (Jx (Zbk (Za rfl) Z0 (decide_eq_false nn))) rfl) (Zw (Jx (Zqs (Za rfl) Z0 (decide_eq_false pv))) rfl)),some (.fz (.int (q.1:Int))),some (.fz (.int (q.2:Int))),some (.fz (.int v)),?_⟩
    rw[Zts,if_neg λz=>pv (ps.mpr z),Q5]
  ·obtain⟨o,δ2,e,d⟩:=Jr (S':=Jv (tV (Zf gGt (Zd 7) (fC (.int 0)))) (Wk 4 (Zif (Zc (fBl Zeq (Zc (fSl (Zd 1) (oI (Zf Zau (Zd 5) (fC (.int 1)))) (oI (Zf Zau (Zd 6) (fC (.int 1))))) Zq)) (Zc (Zu Y0 (Zc (Zd 7) (Zc (Zf Zcv (fC (.int 2)) (Zd 2)) Zq))) Zq)))) fNx) (Zai (S':=fNx) (Jx (Zbk (δ:=[some (.fz (tbD (Zci n R (m*k)))),some (.fz (Zj p)),some (.fz (.int m)),some (.fz (Ym n S)),some (.nd (((cL n R p (m*k) done).map ctD).map OT.fz)),some (.fz (.int (q.1:Int))),some (.fz (.int (q.2:Int))),some (.fz (.int v))]) (Za (i:=7) rfl) (Z0 (d:=.int 0)) (decide_eq_true (neg.mpr (of_decide_eq_true c))))) (Yc (Zbj (Zb (Z0 (d:=.str "bars")) (Zb (Zbj (Zb (Za (i:=5) rfl) (Zb (Za (i:=6) rfl) Zh)) (show 2≤1000 by decide)) Zh)) (show 2≤1000 by decide))))
   exact⟨o,δ2,s7 e,d⟩
theorem Zwj{α:Type}(f:α->Int){l m:List α}(h:l.Perm m):(l.map f).sum=(m.map f).sum:=by
 induction h with
 | nil=>rfl
 | cons x _ ih=>rw[XF,XF,QF,QF,ih]
 | swap x y l=>rw[XF,XF,XF,XF,QF,QF,QF,QF];omega
 | trans _ _ a b=>exact a.trans b
noncomputable def wt1(b:Int)(i j:Nat)(c:List Int×Rat):Int:=if sep c.1 i j=true then c.2.num*((2*b).fdiv (c.2.den:Int))else 0
noncomputable def wsum(b:Int)(i j:Nat)(C:List (List Int×Rat)):Int:=(C.map (wt1 b i j)).sum
structure CtB(b:Int)(c:List Int×Rat):Prop where
 n:Bt 303 c.2.num
 d:Bt 302 (c.2.den:Int)
 q:Bt 302 ((2*b).fdiv (c.2.den:Int))
theorem wsum_snoc(b:Int)(i j:Nat)(C:List (List Int×Rat))(c:List Int×Rat):wsum b i j (C ++ [c])=wsum b i j C+wt1 b i j c:=by
 unfold wsum
 rw[QB,List.sum_append]
 show _+(_+0)=_
 rw[Int.add_zero]
theorem Z7q{n:Nat}(hn:n≤10){R:Nat->Nat->Int}{b:Int}{C:List (List Int×Rat)}(hC:∀c∈C,CtB b c)(hs:∀i j,i<n->j<n->wsum b i j C=2*R i j):Told W5 [.int n,Zgp C,.int b,Ym n R] (.bool true):=by
 obtain⟨E,hE⟩:∃E:Option OT->Option OT->Option OT->Option OT->Option OT->Zi,E= λz4 z5 z6 z7 z8=>[some (.fz (.int n)),some (.fz (Zgp C)),some (.fz (.int b)),some (.fz (Ym n R)),z4,z5,z6,z7,z8]:=⟨_,rfl⟩
 refine Zx rfl<|Zgn (ds:=Zc7 0 n) (λ_ δ=>∃z4 z5 z6 z7 z8,δ=E z4 z5 z6 z7 z8) (Zhz (Zb Za Zh) (by omega)) ⟨none,none,none,none,none,hE▸rfl⟩ (λi d δ hd q=>?_) λδ' q=>by obtain⟨z4,z5,z6,z7,z8,rfl⟩:=q;exact Yc Z0
 obtain⟨z4,z5,z6,z7,z8,rfl⟩:=q
 obtain⟨hi,rfl⟩:=Jk hd
 rw[Bf,hE]
 refine Zpk (ds:=Zc7 0 n) (λ_ δ=>∃z5 z6 z7 z8,δ=E (some (.fz (.int i))) z5 z6 z7 z8) rfl (Zhz (Zb Za Zh) (by omega)) ⟨z5,z6,z7,z8,by rw[hE];try rfl⟩ (λj d δ hd q=>?_) λδ' q=>by obtain⟨z5,z6,z7,z8,e⟩:=q;exact⟨_,z5,z6,z7,z8,by rw[e,hE]⟩
 obtain⟨z5,z6,z7,z8,rfl⟩:=q
 obtain⟨hj,rfl⟩:=Jk hd
 rw[Bf,hE]
 obtain⟨δ',e,y7,y8,rfl⟩:=Zjs (it:=Zgi (Zd 1)) (g:=gTp 2 (gCn (gNm 7) (gCn (gNm 8) gNl))) (S:=Jv (tV (Zf gNe (Zf (Zmt false) (Zd 4) (Zd 7)) (Zf (Zmt false) (Zd 5) (Zd 7))))
  (wE (Zf Zau (Zd 6) (Zf Zcv (Ye gIx (Zd 8) (fC (.int 0))) (Zf Zac (Zf Zcv (fC (.int 2)) (Zd 2)) (Ye gIx (Zd 8) (fC (.int 1)))))) (Y6 6))
  fNx) (δ:=[some (.fz (.int n)),some (.fz (Zgp C)),some (.fz (.int b)),some (.fz (Ym n R)),some (.fz (.int i)),some (.fz (.int j)),some (.fz (.int 0)),z7,z8]) (ds:=C.map ctD) (λk δ=>∃z7 z8,δ=[some (.fz (.int n)),some (.fz (Zgp C)),some (.fz (.int b)),some (.fz (Ym n R)),some (.fz (.int i)),some (.fz (.int j)),some (.fz (.int (wsum b i j (C.take k)))),z7,z8]) (Zae (Za rfl)) ⟨z7,z8,rfl⟩ λk d δ hd q=>by
   obtain⟨z7,z8,rfl⟩:=q
   rw[Xu]at hd
   obtain⟨c,hc,rfl⟩:=Option.map_eq_some_iff.mp hd
   have B:=hC c (Q0 hc)
   have et:C.take (k+1)=C.take k ++ [c]:=by rw[List.take_succ,hc];rfl
   rw[et,wsum_snoc]
   have t:EvT (tV (Zf gNe (Zf (Zmt false) (Zd 4) (Zd 7)) (Zf (Zmt false) (Zd 5) (Zd 7)))) [some (.fz (.int n)),some (.fz (Zgp C)),some (.fz (.int b)),some (.fz (Ym n R)),some (.fz (.int i)),some (.fz (.int j)),some (.fz (.int (wsum b i j (C.take k)))),some (.fz (Zj c.1)),some (.fz (frD c.2))] (sep c.1 i j):=Jx (Zr (Zr (Za rfl) (Za rfl) (Zcx false _ _)) (Zr (Za rfl) (Za rfl) (Zcx false _ _)) (Zo4 _ _))
   have dp:=J4 c.2
   cases s:sep c.1 i j with
   | true=>
    rw[s]at t
    have w:wt1 b i j c=c.2.num*((2*b).fdiv (c.2.den:Int)):=by unfold wt1;rw[s,if_pos rfl]
    rw[w]
    exact⟨_,_,rfl,.inl (Zbh t (Zt (Yp (Za rfl) (Zr (Wd (d:=.int c.2.num) (Za rfl) Z0 rfl) (Zr (Zdc Z0 (Za rfl)) (Wd (d:=.int (c.2.den:Int)) (Za rfl) Z0 rfl) (Zf8 (Zfx (by omega) B.d))) (Zhj (Zko B.n B.q)))))),some (.fz (Zj c.1)),some (.fz (frD c.2)),rfl⟩
   | false=>
    rw[s]at t
    have w:wt1 b i j c=0:=by unfold wt1;rw[s,if_neg Xm]
    rw[w,Int.add_zero]
    exact⟨_,_,rfl,.inl (Zw t rfl),some (.fz (Zj c.1)),some (.fz (frD c.2)),rfl⟩
 rw[Xj,List.take_length,hs i j hi hj]at e
 exact⟨_,_,rfl,.inl (Yv (Zt Z0) (Yv e (Zw (Jx (Znk (Za rfl) (Zdc Z0 (Wd (Wd (Za rfl) (Za rfl) (Zn8 hi)) (Za rfl) (Zs4 hj))) (by rw[decide_eq_true rfl];rfl))) rfl))),some (.fz (.int j)),some (.fz (.int (2*R i j))),y7,y8,rfl⟩
theorem Z7p{n:Nat}{R:Nat->Nat->Int}{b:Int}{p:List Int}(h:Pm n p)(hb:0<b)(W:Rw n R)(nb:∀q∈Z1 n,0≤tq n R p q){i j:Nat}(hi:i<n)(hj:j<n):wsum b i j (cL n R p b (Z1 n))=2*R i j:=by
 have hin:=h.inR
 have pnlt:∀u,u<n->pn p u<n:=λu hu=>(hin.at hu).2
 obtain⟨u,hu,eu⟩:=h.at hi
 obtain⟨v,hv,ev⟩:=h.at hj
 have fin:smL (λq=>if Zf3 q.1 q.2 u v=true then tq n R p q else 0) (Z1 n)=2*R i j:=by
  have:=Zxc (n:=n) (u:=u) (v:=v) (D:=λu v=>R (pn p u) (pn p v)) (λi j hi hj=>W.sy _ _ (pnlt i hi) (pnlt j hj)) hu hv
  have pu:pn p u=i:=by unfold pn;rw[eu];rfl
  have pv:pn p v=j:=by unfold pn;rw[ev];rfl
  rw[pu,pv]at this
  exact(Zo9 _ n n).trans this
 rw[←fin]
 have key:∀Q:List (Nat×Nat),(∀q∈Q,q∈Z1 n)->wsum b i j (cL n R p b Q)=smL (λq=>if Zf3 q.1 q.2 u v=true then tq n R p q else 0) Q:=by
  intro Q
  induction Q with
  | nil=>exact λ_=>rfl
  | cons q Q ih=>
   intro hQ
   have hq:=hQ q (.head _)
   obtain⟨h1,h2⟩:=Yx hq
   have ih:=ih λx hx=>hQ x (.tail _ hx)
   have es:smL (λq=>if Zf3 q.1 q.2 u v=true then tq n R p q else 0) (q :: Q)=(if Zf3 q.1 q.2 u v=true then tq n R p q else 0)+smL (λq=>if Zf3 q.1 q.2 u v=true then tq n R p q else 0) Q:=by
    unfold smL
    rw[XF,QF]
   rw[es,←ih]
   by_cases c:0<tq n R p q
   ·have e1:cL n R p b (q :: Q)=(Z5 (sd p q),Xv (tq n R p q) (2*b)) :: cL n R p b Q:=by
     unfold cL
     rw[Uc (p:=λq=>decide (0<tq n R p q)) (decide_eq_true c),XF]
    have e2:wsum b i j (cL n R p b (q :: Q))=wt1 b i j (Z5 (sd p q),Xv (tq n R p q) (2*b))+wsum b i j (cL n R p b Q):=by
     rw[e1]
     unfold wsum
     rw[XF,QF]
    rw[e2]
    refine congrArg (·+_) ?_
    have es:sep (Z5 (sd p q)) i j=Zf3 q.1 q.2 u v:=by
     unfold sep Zf3
     have m:∀x:Int,decide (x∈Z5 (sd p q))=decide (x∈sd p q):=λx=>decide_eq_decide.mpr (Yi _).mem_iff
     rw[m,m,←eu,←ev,Zdj h hu h1 h2,Zdj h hv h1 h2]
    unfold wt1
    rw[es]
    dsimp only
    rw[(Zkz (T:=tq n R p q) (m:=2*b) (by omega)).1]
   ·have e1:cL n R p b (q :: Q)=cL n R p b Q:=by
     unfold cL
     rw[Ud (p:=λq=>decide (0<tq n R p q)) (by rw[decide_eq_false c];exact Xm)]
    have z:tq n R p q=0:=by have:=nb q hq;omega
    rw[e1,z]
    split<;>rw[Bf]
 exact key _ λ_ h=>h
theorem Zoi(a b:List Int):gEq (Zj a) (Zj b)=some (.bool (decide (a=b))):=by
 have s:∀p,Vo (Zj p)=true:=λp=>((Zna p).shp (by omega)).ok
 unfold gEq
 rw[if_pos (by rw[s,s];rfl)]
 exact congrArg (λz=>some (PyData.bool z)) (Zh4 a b)
theorem Zs7(a b:List Int):Z25 (Zj a) (Zj b)=some (.bool (!ltI a b)):=by
 show(Zbn (a.map Xk)).bind _=_
 rw[Jj,Xh,Jj,Xh]
theorem Zpv{δ:Zi}{i:Nat}{ns:List Int}(h:δ[i]? =some (some (.fz (Zj ns))))(l:ns.length<64):EvV (Zg6 (Zc (Zd i) Zq)) δ (Zj (Z5 (dnc ns))):=by
 obtain⟨ts,e1,e2⟩:=Zb (Za h) (Zh (δ:=δ))
 refine⟨.nd (((Z5 (dnc ns)).map Xk).map OT.fz),?_,Zfj _⟩
 unfold Zg6
 rw[e1,Xh]
 show(match OT.datas ts with|[.list es]=>(Zbn es).bind λns=>if ns.length<64 then some (OT.nd (((Z5 (dnc ns)).map Xk).map OT.fz),δ)else none|_=>none)=_
 rw[e2]
 show(Zbn (ns.map Xk)).bind _=_
 rw[Jj,Xh,if_pos l]
theorem Z97{e:FE}{δ:Zi}{ds:List Xa}(h:EvV e δ (.tuple ds)):EvI (iTp e) δ ds:=by
 obtain⟨t,e1,d1⟩:=h
 unfold EvI
 rw[Z6m,e1,Xh,d1];rfl
structure CtG(n:Nat)(b:Int)(c:List Int×Rat):Prop where
 srt:Z5 (dnc c.1)=c.1
 len:c.1.length<64
 ne:c.1≠[]
 lo:1≤c.1.getD 0 0
 hi:c.1.getD (c.1.length-1) 0<n
 pos:0<c.2.num
 dv:(2*b).fmod (c.2.den:Int)=0
theorem Zyx{it:FI}{δ:Zi}{ns:List Int}(hi:EvI it δ (ns.map Xk))(hb:blk 1 [] δ=[none])(hl:ns.length≤1000):EvV (Wj 1 [] it (gNm 0) (tO (tD (Zfc "bool" (Zd 0))) (tNo (tD (Zfc "int" (Zd 0))))) (Zd 0)) δ (Zj []):=by
 have:=Zpe (δ:=δ) (caps:=[]) (it:=it) (me:=Zd 0) (t:=tO (tD (Zfc "bool" (Zd 0))) (tNo (tD (Zfc "int" (Zd 0))))) (cs:=[]) ns Xk (λ_=>false) hi (by omega) hb (λx _=>Zmc (Zbl (Zc2 (Za (d:=.int x) rfl) rfl)) (Zex (p:=true) (Zbl (Zc2 (Za (d:=.int x) rfl) rfl)))) λx _ z=>nomatch z
 rwa[List.filter_eq_nil_iff.mpr λ_ _=>Xm]at this
theorem Znd{n:Nat}{b:Int}{C:List (List Int×Rat)}(hl:C.length≤1000)(hC:∀c∈C,CtG n b c∧CtB b c)(up:C.Pairwise λa b=>ltI a.1 b.1=true):Told Y9 [.int n,Zgp C,.int b] (.bool true):=by
 have nn:gNe (Zj []) (Zj [])=some (.bool false):=by rw[Zg8,decide_eq_true rfl];rfl
 refine Zx rfl<|Zo (Zw (Zex (p:=true) (Zbl (Zc2 (Za (d:=Zgp C) rfl) rfl))) rfl)<|Zgn (ds:=C.map ctD) (λ_ δ=>∃z3 z4 z5,δ=[some (.fz (.int n)),some (.fz (Zgp C)),some (.fz (.int b)),z3,z4,z5]) (Zae (Za rfl)) ⟨_,_,_,rfl⟩ (λk d δ hd q=>?_) λδ' q=>?_
 ·obtain⟨z3,z4,z5,rfl⟩:=q
  obtain⟨c,hc,rfl⟩:=Qc.mp (Q0 hd)
  obtain⟨G,B⟩:=hC c hc
  have dp:=J4 c.2
  have lp:=List.length_pos_iff.mpr G.ne
  have low:Told Yt [.int c.2.num,.int (c.2.den:Int)] (frD c.2):=by
   have:=Zdt (t:=c.2.num) (b:=(c.2.den:Int)) (by omega) B.d
   rwa[Rat.num_divInt_den]at this
  refine⟨_,_,rfl,.inl ?_,some (.fz (ctD c)),some (.fz (Zj c.1)),some (.fz (frD c.2)),rfl⟩
  refine Yv (Zw (Zmc (Zex (p:=true) (Zbl (Zc2 (Za (d:=ctD c) rfl) rfl))) (Zmc (Jx (Znk (J6 (Zb (Za (d:=ctD c) rfl) Zh) rfl) Z0 rfl)) (Zex (p:=true) (Zbl (Zc2 (Wd (d:=Zj c.1) (Za (d:=ctD c) rfl) Z0 rfl) rfl))))) rfl) ?_
  refine Yv (Zt (d:=Zj c.1) (Wd (Za (d:=ctD c) rfl) Z0 rfl)) ?_
  refine Yv (Zw (Jx (Zr (Zyx (ns:=c.1) (Zae (Za rfl)) rfl (by have:=G.len;omega)) Zow nn)) rfl) ?_
  refine Yv (Zw (Zmc (Jx (Zr (Za rfl) (Zpv rfl G.len) (by rw[G.srt,Zg8,decide_eq_true rfl];rfl))) (Zmc (Jx (Zr (Za rfl) Zow (by rw[Zoi,decide_eq_false G.ne]))) (Zmc (Jx (Zbk (Wd (Za rfl) Z0 (Zhe (i:=0) (by decide) (by omega))) Z0 (decide_eq_false (by have:=G.lo;show¬c.1.getD 0 0<1;omega)))) (Jx (Z20 (Wd (Za rfl) (Zmp Z0) (Zhc lp)) (Za rfl) (decide_eq_false (by have:=G.hi;omega))))))) rfl) ?_
  refine Yv (Zt (d:=frD c.2) (Wd (Za (d:=ctD c) rfl) Z0 rfl)) ?_
  refine Yv (Zw (Zmc (Zex (p:=true) (Zbl (Zc2 (Za (d:=frD c.2) rfl) rfl))) (Jx (Znk (J6 (Zb (Za (d:=frD c.2) rfl) Zh) rfl) Z0 rfl))) rfl) ?_
  refine Yv (Zw (Jx (Zr (Zyx (ns:=[c.2.num,(c.2.den:Int)]) (Z97 (Za (d:=frD c.2) rfl)) rfl (show 2≤1000 by decide)) Zow nn)) rfl) ?_
  exact Zw (Zmc (Jx (Zbk (Wd (d:=.int c.2.num) (Za rfl) Z0 rfl) Z0 (decide_eq_false (by have:=G.pos;omega)))) (Zmc (Jx (Zbk (Wd (d:=.int (c.2.den:Int)) (Za rfl) Z0 rfl) Z0 (decide_eq_false (by omega)))) (Zmc (Jx (Zr (Zk (Zb (Wd (d:=.int c.2.num) (Za rfl) Z0 rfl) (Zb (Wd (d:=.int (c.2.den:Int)) (Za rfl) Z0 rfl) Zh)) low) (Za rfl) (Zvu (n:=1) (Zc6 [c.2.num,(c.2.den:Int)]) rfl (by decide)))) (Jx (Zqs (Jy (Zdc Z0 (Za rfl)) (Wd (d:=.int (c.2.den:Int)) (Za rfl) Z0 rfl) (by omega)) Z0 (decide_eq_false (by rw[G.dv];decide))))))) rfl
 ·obtain⟨z3,z4,z5,rfl⟩:=q
  have at':∀{δ:Zi} {e:FE} {k:Nat},δ[1]? =some (some (.fz (Zgp C)))->EvV e δ (.int (k:Int))->k<C.length->EvV (Ye gIx (Ye gIx (Zd 1) e) (fC (.int 0))) δ (Zj (C.getD k ([],0)).1):=fun{δ e k} h he hk=>Wd (Zrk (ds:=C.map ctD) (d:=ctD (C.getD k ([],0))) (Za h) he (Zug (by rw[Xu,Xf,Xi hk];rfl))) Z0 rfl
  have:=Zpe (δ:=[some (.fz (.int n)),some (.fz (Zgp C)),some (.fz (.int b)),z3,z4,z5]) (caps:=[1]) (it:=iRb (Zc (fC (.int 1)) (Zc (Zbx Za5 (Zc (Zd 1) Zq)) Zq))) (me:=Zd 0) (t:=tV (Zf Z25 (Ye gIx (Ye gIx (Zd 1) (Zf gSb (Zd 0) (fC (.int 1)))) (fC (.int 0))) (Ye gIx (Ye gIx (Zd 1) (Zd 0)) (fC (.int 0))))) (cs:=[some (.fz (Zgp C))]) (Xr (C.length-1)) (λi:Nat=>Xk (1+(i:Int))) (λ_=>false) (Zv7 (m:=1) (n:=C.length) (Zb Z0 (Zb ((Zq8 (Za (d:=Zgp C) rfl)).cast (by rw[Xj])) Zh)) (by decide) (by omega)) (by rw[X3];omega) rfl (λi hi=>?_) λx _ z=>nomatch z
  ·rw[List.filter_eq_nil_iff.mpr λ_ _=>Xm]at this
   exact Yc (Zr this Zow (by rw[show Qv (List.map (λi:Nat=>Xk (1+(i:Int))) [])=Zj []from rfl,Zoi,decide_eq_true rfl]))
  ·have hi:=X8.mp hi
   have u:=Bj.mp up i (1+i) (by omega) (by omega) (by omega)
   refine Jx (Zr (at' (k:=i) rfl ((Zdy (Za rfl) Z0).cast (congrArg Xk (by omega))) (by omega)) (at' (k:=1+i) rfl ((Za (d:=.int (1+(i:Int))) rfl).cast (congrArg Xk (by omega))) (by omega)) ?_)
   rw[Zs7,Xf,Xi (by omega),Xf,Xi (by omega)]
   exact congrArg (λz=>some (PyData.bool (!z))) u
theorem Z65{n:Nat}{p:List Int}(h:Pm n p)(h0:p.getD 0 0=0){q:Nat×Nat}(h1:q.1<q.2)(h2:q.2<n){x:Int}(m:x∈sd p q):1≤x∧x<n:=by
 have mp:x∈p:=List.mem_of_mem_drop (List.mem_of_mem_take m)
 obtain⟨a,b⟩:=J1.mp (h.mem_iff.mp mp)
 have z:=Zdj h (u:=0) (by omega) h1 h2
 rw[h0]at z
 have z0:inS q.1 q.2 0=false:=Vj.mpr λy=>by have:=Ws.mp y;omega
 rw[z0]at z
 have ne:x≠0:=λe=>of_decide_eq_false z (e▸m)
 omega
theorem Z6n{n:Nat}{p:List Int}(h:Pm n p){q:Nat×Nat}(h1:q.1<q.2)(h2:q.2<n):(sd p q).length=q.2-q.1:=by
 unfold sd
 rw[BP,Qu,h.len];omega
theorem Zon{n:Nat}{R:Nat->Nat->Int}{b:Int}{p:List Int}(h:Pm n p)(h0:p.getD 0 0=0)(hn:n≤10)(hb:0<b)(bb:Bt 300 b)(W:Rw n R){c:List Int×Rat}(hc:c∈cL n R p b (Z1 n)):CtG n b c∧CtB b c:=by
 obtain⟨q,hq,rfl⟩:=Qc.mp hc
 obtain⟨hq,tp⟩:=Ve.mp hq
 have tp:=of_decide_eq_true tp
 obtain⟨h1,h2⟩:=Yx hq
 have pnlt:∀u,u<n->pn p u<n:=λu hu=>(h.inR.at hu).2
 have pm:=Yi (sd p q)
 have nd:(Z5 (sd p q)).Nodup:=pm.nodup_iff.mpr ((h.nodup.sublist (List.drop_sublist _ _)).sublist (List.take_sublist _ _))
 have ln:(Z5 (sd p q)).length=q.2-q.1:=by rw[pm.length_eq,Z6n h h1 h2]
 have mem:∀x∈Z5 (sd p q),1≤x∧x<n:=λx hx=>Z65 h h0 h1 h2 (pm.mem_iff.mp hx)
 have tT:Bt 303 (tq n R p q):=Z88 (λi j hi hj=>W.bt _ _ (pnlt i hi) (pnlt j hj)) h1 h2
 obtain⟨lb1,lb2⟩:=Zkz (T:=tq n R p q) (m:=2*b) (by omega)
 have hdv:=Z4i (T:=tq n R p q) hb
 have dp:=J4 (Xv (tq n R p q) (2*b))
 have bd:Bt 302 ((Xv (tq n R p q) (2*b)).den:Int):=Zib (by omega) hdv (Ycq bb)
 refine⟨⟨?_,by show(Z5 (sd p q)).length<64;omega,λe=>?_,(mem _ (getD_mem (show 0<(Z5 (sd p q)).length by omega))).1,(mem _ (getD_mem (show(Z5 (sd p q)).length-1<(Z5 (sd p q)).length by omega))).2,?_,lb2⟩,Zsr (by omega) tT,bd,Z7h hb bb hdv⟩
 ·have o:=Zk7 (Z5 (sd p q))
  exact Wy ((Yi _).trans ((VH o.1 nd).mpr o.2)) (Y7 _) (Y7 _)
 ·have e:Z5 (sd p q)=[]:=e
  rw[e]at ln
  exact absurd ln (by rw[Vg];omega)
 ·refine Int.not_le.mp λy=>?_
  have y:(Xv (tq n R p q) (2*b)).num≤0:=y
  have f0:0≤(2*b).fdiv ((Xv (tq n R p q) (2*b)).den:Int):=Int.fdiv_nonneg (by omega) (by omega)
  have:=Int.mul_nonpos_of_nonpos_of_nonneg y f0
  omega
theorem Zh5:∀m≤10,(Z1 m).Nodup:=by decide +kernel
theorem Z6f{n:Nat}{p:List Int}(h:Pm n p){q r:Nat×Nat}(h1:q.1<q.2)(h2:q.2<n)(g1:r.1<r.2)(g2:r.2<n)(e:Z5 (sd p q)=Z5 (sd p r)):q=r:=by
 have key:∀u<n,inS q.1 q.2 u=inS r.1 r.2 u:=λu hu=>by
  rw[←Zdj h hu h1 h2,←Zdj h hu g1 g2]
  refine decide_eq_decide.mpr ?_
  rw[←(Yi (sd p q)).mem_iff,e,(Yi (sd p r)).mem_iff]
 have a1:=Ws.mp ((key (q.1+1) (by omega)).symm.trans (Ws.mpr ⟨by omega,by omega⟩))
 have a2:=Ws.mp ((key q.2 h2).symm.trans (Ws.mpr ⟨by omega,by omega⟩))
 have a3:=Ws.mp ((key (r.1+1) (by omega)).trans (Ws.mpr ⟨by omega,by omega⟩))
 have a4:=Ws.mp ((key r.2 g2).trans (Ws.mpr ⟨by omega,by omega⟩))
 exact Prod.ext (by omega) (by omega)
theorem Z7g{n:Nat}{R:Nat->Nat->Int}{b:Int}{p:List Int}(h:Pm n p)(hn:n≤10):Dst (cL n R p b (Z1 n)):=by
 have pw:(cL n R p b (Z1 n)).Pairwise λx y=>x.1≠y.1:=by
  unfold cL
  rw[List.pairwise_map]
  refine List.Pairwise.imp_of_mem (fun{q r} hq hr ne e=>ne ?_) ((Zh5 n hn).filter _)
  obtain⟨h1,h2⟩:=Yx (Ve.mp hq).1
  obtain⟨g1,g2⟩:=Yx (Ve.mp hr).1
  exact Z6f h h1 h2 g1 g2 e
 intro k l kl hl
 rw[Xf,Xi (by omega),Xf,Xi hl]
 exact Bj.mp pw k l (by omega) hl kl
theorem Z04{T m:Int}(hm:0<m):(T<0->(Xv T m).num<0)∧(0≤T->0≤(Xv T m).num):=by
 have lb:=(Zkz (T:=T) hm).1
 have dp:=J4 (Xv T m)
 have f0:0≤m.fdiv ((Xv T m).den:Int):=Int.fdiv_nonneg (by omega) (by omega)
 constructor
 ·intro h
  refine Int.not_le.mp λy=>?_
  have:=Int.mul_nonneg y f0
  omega
 ·intro h
  refine Ue.mp λy=>?_
  rcases Int.lt_or_eq_of_le f0 with z|z
  ·have:=Int.mul_neg_of_neg_of_pos y z
   omega
  ·rw[←z,Int.mul_zero]at lb
   rw[←lb,Rat.zero_divInt]at y
   exact absurd y (by decide)
theorem Z0b{d:Xa}{n:Nat}(h:Sh n d)(hn:n≤64)(hp:Yy d=true):gEq d d=some (.bool true)∧gNe d d=some (.bool false):=by
 have s:=(h.shp hn).ok
 unfold gEq gNe
 rw[if_pos (by rw[s];rfl),if_pos (by rw[s];rfl),Zku hp]
 exact⟨rfl,rfl⟩
theorem Z3i{w:Str}(h:PyData.strOk w=true):Sh 0 (.str w):=⟨by rw[Bo];exact h,Nat.le_of_eq rfl⟩
theorem Zt0(w:Str):Yy (.str w)=true:=by rw[Yy]
theorem Zo2{w:Str}(h:PyData.strOk w=true):gNe (.str w) (.str w)=some (.bool false)∧gEq (.str w) (.str w)=some (.bool true):=by
 have:=Z0b (Z3i h) (by decide) (Zt0 w)
 exact⟨this.2,this.1⟩
theorem Zt7:PyData.strOk "ring"=true:=by decide +kernel
noncomputable def twS(n:Nat)(S:Nat->Nat->Int)(p:List Int)(a b:Nat):Int:=tw S (pn p a) (pn p (a+1)) (pn p b) (pn p ((b+1)%n))
noncomputable def Ent(n:Nat)(p:List Int):Prop:=∀x∈p,0≤x∧x<(n:Int)
theorem Ent.at{n:Nat}{p:List Int}(h:Ent n p){i:Nat}(hi:i<p.length):gIx (Zj p) (.int (i:Int))=some (.fz (.int (pn p i:Nat)))∧pn p i<n:=by
 obtain⟨a,b⟩:=h _ (getD_mem hi)
 rw[Zhe (by omega) (by omega),Qm]
 unfold pn
 rw[U3 a]
 exact⟨rfl,by omega⟩
theorem Zzc{n a b:Nat}{S:Nat->Nat->Int}{p:List Int}(h:Ent n p)(hab:a<b)(hb:b<p.length)(hc:(b+1)%n<p.length)(hn:0<n):Told Zz [Ym n S,Zj p,.int a,.int b] (.int (twS n S p a b)):=by
 obtain⟨e1,l1⟩:=h.at (i:=a) (by omega)
 obtain⟨e2,l2⟩:=h.at (i:=a+1) (by omega)
 obtain⟨e3,l3⟩:=h.at hb
 obtain⟨e4,l4⟩:=h.at hc
 exact Zx rfl<|Zo (Zt (Wd Za Za e1))<|Zo (Zt (Wd Za (Yp Za Z0) e2))<|Zo (Zt (Wd Za Za e3))<|
  Zo (Zt (Wd Za (Zr (Yp Za Z0) (J6 (Zb Za Zh) (Ze5 n S)) (Zok hn)) e4))<|
  Yc (Zdy (Zdy (Yp (Zgs l1 l3 rfl rfl rfl) (Zgs l2 l4 rfl rfl rfl)) (Zgs l1 l4 rfl rfl rfl)) (Zgs l2 l3 rfl rfl rfl))
noncomputable def fits(n:Nat)(S:Nat->Nat->Int)(p:List Int)(b:Nat):Bool:=((Xr b).find? λa=>decide (twS n S p a b<0)).isNone
theorem Zha{n:Nat}{S:Nat->Nat->Int}{p:List Int}{b:Nat}:fits n S p b=true↔∀a<b,0≤twS n S p a b:=by
 unfold fits
 rw[Option.isNone_iff_eq_none,Vp]
 exact⟨λh a ha=>Ue.mp λz=>h a (X8.mpr ha) (decide_eq_true z),λh a ha z=>Ue.mpr (h a (X8.mp ha)) (of_decide_eq_true z)⟩
theorem Zst{n b:Nat}{S:Nat->Nat->Int}{p:List Int}(h:Ent n p)(hb:b<p.length)(hc:(b+1)%n<p.length)(hn:0<n)(b10:b≤100):Told Yj [Ym n S,Zj p,.int b] (.bool (fits n S p b)):=by
 have key:=Zki (g:=gNm 3) (u:=Jv (tV (Zf gLt (Zu Zz (Zc (Zd 0) (Zc (Zd 1) (Zc (Zd 3) (Zc (Zd 2) Zq))))) (fC (.int 0)))) (wE (fC (.bool false)) Ja) fNx) (λa:Nat=>Xk (0+(a:Int))) (λa=>decide (twS n S p a b<0)) (λ_ δ=>∃z,δ=[some (.fz (Ym n S)),some (.fz (Zj p)),some (.fz (.int b)),z]) (λ_=>.bool false) (Xr b) (λa done rest ea δ hI=>?_) (Xr b) [] rfl [some (.fz (Ym n S)),some (.fz (Zj p)),some (.fz (.int b)),none] ⟨_,rfl⟩
 ·have hi:EvI (iRa (Zc (Zd 2) Zq)) [some (.fz (Ym n S)),some (.fz (Zj p)),some (.fz (.int b)),none] ((Xr b).map λa:Nat=>Xk (0+(a:Int))):=Zhz (n:=b) (Zb (Za rfl) Zh) (by omega)
  unfold fits
  cases c:(Xr b).find? λa=>decide (twS n S p a b<0)with
  | none=>
   obtain⟨δ',e,z,rfl⟩:=key.1 c
   exact Zx rfl (Zo (Zdz hi e) (Yc Z0))
  | some a=>
   obtain⟨o,δ',e,d⟩:=key.2 a c
   exact Zx rfl (Jr ⟨o,δ',Zdz hi e,d⟩)
 ·obtain⟨z,rfl⟩:=hI
  have ha:a<b:=X8.mp (by rw[←ea];exact Qg _ (.head _))
  have ev:EvV (Zu Zz (Zc (Zd 0) (Zc (Zd 1) (Zc (Zd 3) (Zc (Zd 2) Zq))))) [some (.fz (Ym n S)),some (.fz (Zj p)),some (.fz (.int b)),some (.fz (.int (0+(a:Int))))] (.int (twS n S p a b)):=Zk (Zb (Za rfl) (Zb (Za rfl) (Zb ((Za (d:=.int (0+(a:Int))) rfl).cast (by rw[Bf])) (Zb (Za rfl) Zh)))) (Zzc h ha hb hc hn)
  exact⟨_,rfl,λc=>⟨_,Zw (Jx (Zbk ev Z0 c)) rfl,_,rfl⟩,λc=>Zai (Jx (Zbk ev Z0 c)) (Yc Z0)⟩
structure OKr(n:Nat)(S:Nat->Nat->Int)(r:List Int):Prop where
 pm:Pm n r
 z:r.getD 0 0=0
 lt:r.getD 1 0<r.getD (n-1) 0
 ok:∀b<n,fits n S r b=true
theorem Zq2:∀(p:List Int) {x y:Int} {s t:List Int},x<y->ltI (p ++ x :: s) (p ++ y :: t)=true
 | [],x,y,s,t,h=>by
  rw[List.nil_append,List.nil_append,ltI,if_neg (by omega)]
  exact decide_eq_true h
 | a :: p,x,y,s,t,h=>by
  rw[List.cons_append,List.cons_append,ltI,if_pos rfl]
  exact Zq2 p h
noncomputable def opD(o:Option (List Int)):Xa:=match o with|none=>.none|some r=>Zj r
structure Znc(n:Nat)(S:Nat->Nat->Int)(p:List Int)(o:Option (List Int)):Prop where
 ok:∀r,o=some r->OKr n S r∧p<+: r
 first:∀r',OKr n S r'->p<+: r'->∃r,o=some r∧(r=r'∨ltI r r'=true)
structure Beg(n:Nat)(S:Nat->Nat->Int)(p:List Int):Prop where
 ent:Ent n p
 nd:p.Nodup
 z:∃t,p=0 :: t
 ok:∀b,b+1<p.length->fits n S p b=true
theorem Zoh{p r:List Int}(h:p<+: r){i:Nat}(hi:i<p.length):pn p i=pn r i:=by
 obtain⟨t,rfl⟩:=h
 unfold pn
 rw[Xf,Xf,Vc hi]
theorem Zot{n b:Nat}{S:Nat->Nat->Int}{p r:List Int}(h:p<+: r)(hb:b+1<p.length)(hn:p.length≤n):fits n S p b=fits n S r b:=by
 have e:∀a<b,twS n S p a b=twS n S r a b:=λa ha=>by
  unfold twS
  rw[Vn (by omega),Zoh h (by omega),Zoh h (by omega),Zoh h (by omega),Zoh h hb]
 rw[UG,Zha,Zha]
 exact⟨λq a ha=>e a ha▸q a ha,λq a ha=>(e a ha).symm▸q a ha⟩
theorem Pm.of{n:Nat}{p:List Int}(h:Ent n p)(nd:p.Nodup)(l:p.length=n):Pm n p:=by
 refine(VH nd (Zgj n)).mpr λx=>⟨λhx=>J1.mpr (h x hx),λhx=>Classical.byContradiction λc=>?_⟩
 have nd2:(x :: p).Nodup:=Qp.mpr ⟨c,nd⟩
 have:=nd2.length_le_of_subset (l₂:=Jf n) λy hy=>(Xq.mp hy).elim (λe=>e▸hx) λm=>J1.mpr (h y m)
 rw[Zdp,BR]at this
 omega
theorem Z1b{t:FT}{a b:FE}{δ:Zi}{d:Xa}(h:EvT t δ true)(k:EvV a δ d):EvV (fIf t a b) δ d:=by
 obtain⟨o,e,d1⟩:=k
 exact⟨o,by rw[Zy5,h,Xh];exact e,d1⟩
theorem Zsu{t:FT}{a b:FE}{δ:Zi}{d:Xa}(h:EvT t δ false)(k:EvV b δ d):EvV (fIf t a b) δ d:=by
 obtain⟨o,e,d1⟩:=k
 exact⟨o,by rw[Zy5,h,Xh];exact e,d1⟩
noncomputable def cnd(n:Nat)(S:Nat->Nat->Int)(p:List Int)(x:Int):Bool:=!decide (x∈p)&&fits n S (p ++ [x]) (p.length-1)
theorem Beg.add{n:Nat}{S:Nat->Nat->Int}{p:List Int}(B:Beg n S p)(l:p.length<n){x:Int}(h0:0≤x)(h1:x<n)(c:cnd n S p x=true):Beg n S (p ++ [x]):=by
 unfold cnd at c
 rw[XQ]at c
 obtain⟨c1,c2⟩:=c
 have c1:x∉p:=λm=>by rw[decide_eq_true m]at c1;cases c1
 obtain⟨t,ht⟩:=B.z
 refine⟨λy hy=>?_,?_,⟨t ++ [x],by rw[ht];rfl⟩,λb hb=>?_⟩
 ·rcases QW.mp hy with q|q
  ·exact B.ent y q
  ·rw[XD.mp q];exact⟨h0,h1⟩
 ·exact Vi.mpr ⟨B.nd,Qp.mpr ⟨(λz=>nomatch z),.nil⟩,λa ha b hb e=>c1 (by rw[←XD.mp hb,←e];exact ha)⟩
 ·rw[XX]at hb
  have hb:b+1<p.length+1:=hb
  by_cases q:b+1<p.length
  ·rw[←Zot (p:=p) ⟨[x],rfl⟩ q (by omega)]
   exact B.ok b q
  ·rw[show b=p.length-1 by omega];exact c2
theorem Zs2{n:Nat}(h3:3≤n)(hn:n≤10){S:Nat->Nat->Int}{F:FD}{p:List Int}(B:Beg n S p)(l:p.length=n):∃o,Told (J0 2 5 (Wn F)) [Ym n S,Zj p] (opD o)∧Znc n S p o:=by
 obtain⟨t,ht⟩:=B.z
 have pz:p.getD 0 0=0:=by rw[ht];rfl
 have st:∀{d:Xa},EvV (fIf (tAn (tV (Zf gLt (Ye gIx (Zd 1) (fC (.int 1))) (Ye gIx (Zd 1) (fUn Zqx (fC (.int 1)))))) (tD (Zu Yj (Zc (Zd 0) (Zc (Zd 1) (Zc (Zf gSb (Zd 2) (fC (.int 1))) Zq)))))) (Zd 1) (fC .none)) [some (.fz (Ym n S)),some (.fz (Zj p)),some (.fz (.int n)),none,none] d->Told (J0 2 5 (Wn F)) [Ym n S,Zj p] d:=λh=>Zx rfl<|Zo (Zt (J6 (Zb Za Zh) (Ze5 n S)))<|Jr<|Zai (Jx (Zia (Wi Za) Za (decide_eq_true (congrArg Nat.cast l))))<|Yc h
 have t1:EvT (tV (Zf gLt (Ye gIx (Zd 1) (fC (.int 1))) (Ye gIx (Zd 1) (fUn Zqx (fC (.int 1)))))) [some (.fz (Ym n S)),some (.fz (Zj p)),some (.fz (.int n)),none,none] (decide (p.getD 1 0<p.getD (n-1) 0)):=Jx (Zbk (Wd (Za (i:=1) rfl) (Z0 (d:=.int 1)) (Zhe (p:=p) (i:=1) (by decide) (by omega))) (Wd (Za (i:=1) rfl) (Zmp (Z0 (d:=.int 1))) (Zhc (p:=p) (by omega))) (by rw[l];rfl))
 have t2:EvT (tD (Zu Yj (Zc (Zd 0) (Zc (Zd 1) (Zc (Zf gSb (Zd 2) (fC (.int 1))) Zq))))) [some (.fz (Ym n S)),some (.fz (Zj p)),some (.fz (.int n)),none,none] (fits n S p (n-1)):=Zbl (Zk (Zb (Za rfl) (Zb (Za rfl) (Zb ((Zdy (Za (i:=2) (d:=.int n) rfl) (Z0 (d:=.int 1))).cast (congrArg Xk (by omega:(n:Int)-1=((n-1:Nat):Int)))) Zh))) (Zst B.ent (by omega) (by rw[show n-1+1=n by omega,Nat.mod_self];omega) (by omega) (by omega)))
 have no:(OKr n S p->False)->Znc n S p none:=λq=>⟨λr z=>(nomatch z),λr' h hp=>by
  have e:=hp.eq_of_length (by rw[l,h.pm.len])
  exact(q (e▸h)).elim⟩
 cases c1:decide (p.getD 1 0<p.getD (n-1) 0)with
 | false=>
  rw[c1]at t1
  exact⟨none,st (Zsu (Znm t1) Z0),no λh=>of_decide_eq_false c1 h.lt⟩
 | true=>
  rw[c1]at t1
  cases c2:fits n S p (n-1)with
  | false=>
   rw[c2]at t2
   exact⟨none,st (Zsu (Zn1 t1 t2) Z0),no λh=>by have:=h.ok (n-1) (by omega);rw[c2]at this;cases this⟩
  | true=>
   rw[c2]at t2
   have ok:OKr n S p:=⟨.of B.ent B.nd l,pz,of_decide_eq_true c1,λb hb=>by
    by_cases q:b+1<n
    ·exact B.ok b (by omega)
    ·rw[show b=n-1 by omega];exact c2⟩
   refine⟨some p,st (Z1b (Zn1 t1 t2) Za),λr hr=>?_,λr' h hp=>⟨p,rfl,.inl (hp.eq_of_length (by rw[l,h.pm.len]))⟩⟩
   cases hr
   exact⟨ok,List.prefix_refl _⟩
theorem Zmv{n:Nat}{S:Nat->Nat->Int}{p:List Int}(B:Beg n S p)(l:p.length<n){g:Nat->Option (List Int)}(hg:∀i,i<n-1->(cnd n S p (1+(i:Int))=true->Znc n S (p ++ [1+(i:Int)]) (g i))∧(cnd n S p (1+(i:Int))=false->g i=none)):Znc n S p (((Xr (n-1)).find? λi=>(g i).isSome).bind g):=by
 have lead:∀r',OKr n S r'->p<+: r'->∃j r t,j<n-1∧g j=some r∧r'=p ++ (1+(j:Int)) :: t∧(r=r'∨ltI r r'=true):=λr' h hp=>by
  obtain⟨t,rfl⟩:=hp
  have len:=h.pm.len
  rw[XX]at len
  cases t with
  | nil=>rw[Vg]at len;omega
  | cons y t=>
   have ym:y∈p ++ y :: t:=Qg _ (.head _)
   obtain⟨y0,y1⟩:=J1.mp (h.pm.mem_iff.mp ym)
   obtain⟨_,_,dj⟩:=Vi.mp h.pm.nodup
   have yn:y∉p:=λm=>dj y m y (.head _) rfl
   obtain⟨s,hs⟩:=B.z
   have yz:y≠0:=λe=>yn (by rw[e,hs];exact .head _)
   have ey:1+((y.toNat-1:Nat):Int)=y:=by omega
   have pre:p ++ [y]<+: p ++ y :: t:=⟨t,by rw[JB];rfl⟩
   have pl:0<p.length:=by rw[hs];exact Nat.succ_pos _
   have c:cnd n S p y=true:=by
    unfold cnd
    rw[decide_eq_false yn,Zot pre (by rw[XX,JP];omega) (by rw[XX,JP];omega),h.ok _ (by omega)];rfl
   have G:=(hg (y.toNat-1) (by omega)).1
   rw[ey]at G
   obtain⟨r,hr,lr⟩:=(G c).first _ h pre
   exact⟨y.toNat-1,r,t,by omega,hr,by rw[ey],lr⟩
 have okx:∀i r,i<n-1->g i=some r->OKr n S r∧p ++ [1+(i:Int)]<+: r:=λi r hi hr=>by
  cases c:cnd n S p (1+(i:Int))with
  | false=>rw[(hg i hi).2 c]at hr;cases hr
  | true=>exact((hg i hi).1 c).ok r hr
 cases c:(Xr (n-1)).find? λi=>(g i).isSome with
 | none=>
  refine⟨λr z=>(nomatch z),λr' h hp=>?_⟩
  obtain⟨j,r,t,hj,e,_⟩:=lead r' h hp
  exact absurd (by rw[e];rfl) (Vp.mp c j (X8.mpr hj))
 | some i=>
  obtain⟨s,hi,bef⟩:=List.find?_range_eq_some.mp c
  have hi:=X8.mp hi
  obtain⟨r,er⟩:=Option.isSome_iff_exists.mp s
  obtain⟨o1,o2⟩:=okx i r hi er
  show Znc n S p (g i)
  rw[er]
  refine⟨λr2 z=>?_,λr' h hp=>?_⟩
  ·cases z
   exact⟨o1,(List.prefix_append _ _).trans o2⟩
  ·obtain⟨j,r2,t,hj,e,et,lr⟩:=lead r' h hp
   refine⟨r,rfl,?_⟩
   rcases Vz i j with q|q|q
   ·obtain⟨u,hu⟩:=o2
    rw[JB]at hu
    refine .inr ?_
    rw[←hu,et]
    exact Zq2 p (by omega)
   ·subst q
    rw[er]at e
    cases e
    exact lr
   ·have:=bef j q
    rw[e]at this
    cases this
theorem Z5y(o:Option (List Int)):Zhf (opD o) .none=some (.bool o.isSome):=by cases o<;>rfl
theorem Zw0{n:Nat}(h3:3≤n)(hn:n≤10){S:Nat->Nat->Int}:∀(k:Nat) (p:List Int),Beg n S p->p.length≤n->n<p.length+k->∃o,Told (Z2 k) [Ym n S,Zj p] (opD o)∧Znc n S p o:=by
 intro k
 induction k with
 | zero=>exact λp _ a b=>absurd b (by omega)
 | succ k ih=>
  intro p B l1 l2
  by_cases l:p.length=n
  ·exact Zs2 h3 hn B l
  have ll:p.length<n:=by omega
  have l0:0<p.length:=by obtain⟨t,ht⟩:=B.z;rw[ht];exact Nat.succ_pos _
  have ex:∀i:Nat,∃o,i<n-1->(cnd n S p (1+(i:Int))=true->Told (Z2 k) [Ym n S,Zj (p ++ [1+(i:Int)])] (opD o)∧Znc n S (p ++ [1+(i:Int)]) o)∧(cnd n S p (1+(i:Int))=false->o=none):=λi=>by
   by_cases q:i<n-1∧cnd n S p (1+(i:Int))=true
   ·obtain⟨o,h1,h2⟩:=ih (p ++ [1+(i:Int)]) (B.add ll (by omega) (by omega) q.2) (by rw[XX];exact ll) (by rw[XX,JP];omega)
    exact⟨o,λ_=>⟨λ_=>⟨h1,h2⟩,λz=>by rw[q.2]at z;cases z⟩⟩
   ·exact⟨none,λhi=>⟨λc=>absurd ⟨hi,c⟩ q,λ_=>rfl⟩⟩
  obtain⟨g,hg⟩:=V1 ex
  refine⟨_,?_,Zmv B ll λi hi=>⟨λc=>((hg i hi).1 c).2,(hg i hi).2⟩⟩
  have key:=Zki (g:=gNm 3) (u:=Jv (tAn (tV (Zf (Zmt true) (Zd 3) (Zd 1))) (tD (Zu Yj (Zc (Zd 0) (Zc (Ye Zlt (Zd 1) (Zdu (Zc (Zd 3) Zq))) (Zc (Zf gSb (Zbx Za5 (Zc (Zd 1) Zq)) (fC (.int 1))) Zq))))))
  (Z4 (wE (Zu (Z2 k) (Zc (Zd 0) (Zc (Ye Zlt (Zd 1) (Zdu (Zc (Zd 3) Zq))) Zq))) (Y6 4))
  (Jv (tV (Zf Zhf (Zd 4) (fC .none)))
  (wE (Zd 4) Ja)
  fNx))
  fNx) (λi:Nat=>Xk (1+(i:Int))) (λi=>(g i).isSome) (λ_ δ=>∃z3 z4,δ=[some (.fz (Ym n S)),some (.fz (Zj p)),some (.fz (.int n)),z3,z4]) (λi=>opD (g i)) (Xr (n-1)) (λi done rest ea δ hI=>?_) (Xr (n-1)) [] rfl [some (.fz (Ym n S)),some (.fz (Zj p)),some (.fz (.int n)),none,none] ⟨_,_,rfl⟩
  ·have hi:EvI (iRb (Zc (fC (.int 1)) (Zc (Zd 2) Zq))) [some (.fz (Ym n S)),some (.fz (Zj p)),some (.fz (.int n)),none,none] ((Xr (n-1)).map λi:Nat=>Xk (1+(i:Int))):=Zv7 (m:=1) (n:=n) (Zb Z0 (Zb (Za rfl) Zh)) (by decide) (by omega)
   have st:∀{S' S2:FS} {d:Xa},Zks S' [some (.fz (Ym n S)),some (.fz (Zj p)),some (.fz (.int n)),none,none] d->Zks (Z4 (wE (Zbx Za5 (Zc (Zd 0) Zq)) (Y6 2)) (Z4 (Jv (tV (Zf gEq (Zbx Za5 (Zc (Zd 1) Zq)) (Zd 2))) S2 fNx) S')) (Zgk 5 [Ym n S,Zj p]) d:=λq=>Zo (Zt (J6 (Zb Za Zh) (Ze5 n S)))<|Zo (Zw (Jx (Zia (Wi Za) Za (decide_eq_false λz=>l (Int.ofNat.inj z)))) rfl) q
   cases c:(Xr (n-1)).find? λi=>(g i).isSome with
   | none=>
    obtain⟨δ',e,z3,z4,rfl⟩:=key.1 c
    exact Zx rfl (st (Zo (Zdz hi e) (Yc Z0)))
   | some i=>
    obtain⟨o,δ',e,d⟩:=key.2 i c
    exact Zx rfl (st (Jr ⟨o,δ',Zdz hi e,d⟩))
  ·obtain⟨z3,z4,rfl⟩:=hI
   have hi:i<n-1:=X8.mp (by rw[←ea];exact Qg _ (.head _))
   obtain⟨g1,g2⟩:=hg i hi
   have t1:EvT (tV (Zf (Zmt true) (Zd 3) (Zd 1))) [some (.fz (Ym n S)),some (.fz (Zj p)),some (.fz (.int n)),some (.fz (.int (1+(i:Int)))),z4] (!decide (1+(i:Int)∈p)):=Jx (Zr (Za rfl) (Za rfl) (Zcx true _ _))
   have cat:∀{δ:Zi},δ[1]? =some (some (.fz (Zj p)))->δ[3]? =some (some (.fz (.int (1+(i:Int)))))->EvV (Ye Zlt (Zd 1) (Zdu (Zc (Zd 3) Zq))) δ (Zj (p ++ [1+(i:Int)])):=λh1 h3=>Zte (Za h1) (Zy4 (Za h3)) (by omega) (show 1≤1000 by decide)
   by_cases m:1+(i:Int)∈p
   ·rw[decide_eq_true m]at t1
    have gn:=g2 (by unfold cnd;rw[decide_eq_true m];rfl)
    exact⟨_,rfl,λ_=>⟨_,Zw (Znm t1) rfl,_,_,rfl⟩,λz=>by rw[gn]at z;cases z⟩
   rw[decide_eq_false m]at t1
   have ent:Ent n (p ++ [1+(i:Int)]):=λy hy=>by
    rcases QW.mp hy with q|q
    ·exact B.ent y q
    ·rw[XD.mp q];exact⟨by omega,by omega⟩
   have t2:EvT (tD (Zu Yj (Zc (Zd 0) (Zc (Ye Zlt (Zd 1) (Zdu (Zc (Zd 3) Zq))) (Zc (Zf gSb (Zbx Za5 (Zc (Zd 1) Zq)) (fC (.int 1))) Zq))))) [some (.fz (Ym n S)),some (.fz (Zj p)),some (.fz (.int n)),some (.fz (.int (1+(i:Int)))),z4] (fits n S (p ++ [1+(i:Int)]) (p.length-1)):=Zbl (Zk (Zb (Za rfl) (Zb (cat rfl rfl) (Zb ((Zdy (Wi (p:=p) (Za rfl)) Z0).cast (congrArg Xk (by omega:(p.length:Int)-1=((p.length-1:Nat):Int)))) Zh))) (Zst ent (by rw[XX];omega) (by rw[show p.length-1+1=p.length by omega,Vn ll,XX];exact Qt _) (by omega) (by omega)))
   cases c:fits n S (p ++ [1+(i:Int)]) (p.length-1)with
   | false=>
    rw[c]at t2
    have gn:=g2 (by unfold cnd;rw[c,Bool.and_false])
    exact⟨_,rfl,λ_=>⟨_,Zw (Zn1 t1 t2) rfl,_,_,rfl⟩,λz=>by rw[gn]at z;cases z⟩
   | true=>
    rw[c]at t2
    have T:=(g1 (by unfold cnd;rw[c,decide_eq_false m];rfl)).1
    have s4:wE (Zu (Z2 k) (Zc (Zd 0) (Zc (Ye Zlt (Zd 1) (Zdu (Zc (Zd 3) Zq))) Zq))) (Y6 4) [some (.fz (Ym n S)),some (.fz (Zj p)),some (.fz (.int n)),some (.fz (.int (1+(i:Int)))),z4]= .nx [some (.fz (Ym n S)),some (.fz (Zj p)),some (.fz (.int n)),some (.fz (.int (1+(i:Int)))),some (.fz (opD (g i)))]:=(Zt (Zk (Zb (Za rfl) (Zb (cat rfl rfl) Zh)) T)).trans rfl
    have t4:EvT (tV (Zf Zhf (Zd 4) (fC .none))) [some (.fz (Ym n S)),some (.fz (Zj p)),some (.fz (.int n)),some (.fz (.int (1+(i:Int)))),some (.fz (opD (g i)))] (g i).isSome:=Jx (Zr (Za rfl) Z0 (Z5y _))
    refine⟨_,rfl,λz=>?_,λz=>?_⟩
    ·have z:(g i).isSome=false:=z
     rw[z]at t4
     exact⟨_,Zbh (Zn1 t1 t2) (Yv s4 (Zw t4 rfl)),_,_,rfl⟩
    ·have z:(g i).isSome=true:=z
     rw[z]at t4
     exact Zai (Zn1 t1 t2) (Zo s4 (Zai t4 (Yc (Za rfl))))
theorem Zkw{n:Nat}{R:Nat->Nat->Int}{b:Int}(h3:3≤n)(hn:n≤8)(hb:0<b)(bb:Bt 300 b)(W:Rw n R):∃o,Told Wz [tbD (Zci n R b)] (opD o)∧(∀r,o=some r->Pm n r∧r.getD 0 0=0∧r.getD 1 0<r.getD (n-1) 0∧Zwy n R r=none)∧∀r,Pm n r->r.getD 0 0=0->r.getD 1 0<r.getD (n-1) 0->Zwy n R r=none->∃r1,o=some r1∧(r1=r∨ltI r1 r=true):=by
 obtain⟨m,k,S,e1,eS,m0,k0,rfl,bm,sc⟩:=Zx0 (by omega:n<64) hb bb W.bt
 have hle:Za5 [tbD (Zci n R (m*k))]=some (.int n):=by rw[Ztb,Zjq]
 have kv:∀r,Pm n r->∀q∈Z1 n,k*twS n S r q.1 q.2=tq n R r q:=λr h q hq=>by
  have hI:=h.inR
  obtain⟨l1,l2⟩:=Yx hq
  obtain⟨_,a1⟩:=hI.at (i:=q.1) (by omega)
  obtain⟨_,a2⟩:=hI.at (i:=q.1+1) (by omega)
  obtain⟨_,a3⟩:=hI.at l2
  obtain⟨_,a4⟩:=hI.at (Nat.mod_lt (q.2+1) (by omega:0<n))
  show k*(S _ _+S _ _-S _ _-S _ _)=R _ _+R _ _-R _ _-R _ _
  rw[Int.mul_sub,Int.mul_sub,Int.mul_add,sc _ _ a1 a3,sc _ _ a2 a4,sc _ _ a1 a4,sc _ _ a2 a3]
 have bar:∀r,Pm n r->(Zwy n R r=none↔∀b<n,fits n S r b=true):=λr h=>by
  unfold Zwy
  rw[Vp]
  constructor
  ·intro q b hb
   refine Zha.mpr λa ha=>Ue.mp λz=>?_
   have hm:(a,b)∈Z1 n:=Zf2 ha hb
   refine q (a,b) hm (decide_eq_true ?_)
   rw[←kv r h _ hm]
   exact Int.mul_neg_of_pos_of_neg k0 z
  ·intro q x hx z
   obtain⟨l1,l2⟩:=Yx hx
   have:=Zha.mp (q x.2 l2) x.1 l1
   have z:=of_decide_eq_true z
   rw[←kv r h _ hx]at z
   exact Ue.mpr (Int.mul_nonneg (Int.le_of_lt k0) this) z
 have B0:Beg n S [0]:=⟨λx hx=>by rw[XD.mp hx];exact⟨Int.le_refl _,by omega⟩,Qp.mpr ⟨(λz=>nomatch z),.nil⟩,⟨[],rfl⟩,λb hb=>absurd hb (by rw[JP];omega)⟩
 obtain⟨o,T,G⟩:=Zw0 h3 (by omega) (S:=S) 8 [0] B0 (by rw[JP];omega) (by rw[JP];omega)
 refine⟨o,Zx rfl<|Zo (Zw (Jx (Zbk (J6 (Zb Za Zh) hle) Z0 (decide_eq_false (by omega)))) rfl)<|Yc (Zk (Zb (Zk (Zb (Zk (Zb Za Zh) e1) (Zb Za Zh)) eS) (Zb (Zy4 Z0) Zh)) T),λr hr=>?_,λr h z l q=>?_⟩
 ·obtain⟨K,_⟩:=G.ok r hr
  exact⟨K.pm,K.z,K.lt,(bar r K.pm).mpr K.ok⟩
 ·refine G.first r ⟨h,z,l,(bar r h).mp q⟩ ?_
  have len:=h.len
  cases r with
  | nil=>rw[Vg]at len;omega
  | cons x r=>
   have z:x=0:=z
   exact⟨r,by rw[z];rfl⟩
theorem Zht(k:Nat)(i:Int):Told (Zn (k+1)) [.int i,.int i] (.bool true) :=
 show Told (J0 2 4 (We (Zn k))) [.int i,.int i] (.bool true)from Zx rfl<|Jr<|Zai (Z7u (Zey Za) rfl)<|Yc (Zdm (Zc2 Za rfl) (Zdm (Z7k (Zey Za) rfl) (Zia Za Za (decide_eq_true rfl))))
theorem Zt8(k:Nat){w:Str}(h:PyData.strOk w=true):Told (Zn (k+1)) [.str w,.str w] (.bool true) :=
 show Told (J0 2 4 (We (Zn k))) [.str w,.str w] (.bool true)from Zx rfl<|Zo (Zw (Z7u (Zey Za) rfl) rfl)<|Jr<|Zai (Z7u (Zey Za) rfl)<|Yc (Zdm (Zc2 Za rfl) (Zr Za Za (Zo2 h).2))
theorem Zay{k:Nat}{x:Xa}{ds:List Xa}(hx:x= .list ds∨x= .tuple ds)(h:∀d∈ds,Told (Zn k) [d,d] (.bool true)):Told (Zn (k+1)) [x,x] (.bool true):=by
 have key:Zob "int" x=false->Zob "str" x=false->Zih x=false->Za5 [x]=some (.int ds.length)->Z26 [x,x]=some (Zjf ds ds)->Told (Zn (k+1)) [x,x] (.bool true):=λh1 h2 hf hl hz=>
  show Told (J0 2 4 (We (Zn k))) [x,x] (.bool true)from Zx rfl<|Zo (Zw (Zbl (Zc2 Za h1 hf)) rfl)<|Zo (Zw (Zbl (Zc2 Za h2 hf)) rfl)<|
   Zo (Zw (Zmc (Jx (Zr (Zey Za hf) (Zey Za hf) ((Zo4 _ _).trans (by rw[bne_self_eq_false])))) (Jx (Zr (Zey Za hf) (Zey Za hf) ((Zo4 _ _).trans (by rw[bne_self_eq_false]))))) rfl)<|
   Zo (Zw (Jx (Znk (J6 (Zb Za Zh) hl) (J6 (Zb Za Zh) hl) (by rw[decide_eq_true rfl];rfl))) rfl)<|
   Zgn (ds:=Zjf ds ds) (λi δ=>∃z1 z2,δ=[some (.fz x),some (.fz x),z1,z2]) (Zsq (Zb Za (Zb Za Zh)) hz) ⟨none,none,rfl⟩ (λi d δ hd q=>by
    obtain⟨z1,z2,rfl⟩:=q
    obtain⟨a,b,ha,hb,rfl⟩:=Zo0 hd
    rw[ha]at hb
    cases hb
    exact⟨_,_,rfl,.inl (Zw (Zex (p:=true) (Zbl (Zk (Zb Za (Zb Za Zh)) (h a (Q0 ha))))) rfl),_,_,rfl⟩) λδ' _=>Yc Z0
 rcases hx with rfl|rfl
 ·exact key rfl rfl rfl (Zmj ds) rfl
 ·exact key rfl rfl rfl (Z31 ds) rfl
theorem Zpo(k:Nat)(q:Rat):Told (Zn (k+2)) [frD q,frD q] (.bool true):=Zay (ds:=[.int q.num,.int (q.den:Int)]) (.inr rfl) λd m=>by
 rcases Xq.mp m with rfl|m
 ·exact Zht k _
 ·rw[XD.mp m];exact Zht k _
theorem Zvi(k:Nat)(T:List (List Rat)):Told (Zn (k+4)) [tbD T,tbD T] (.bool true):=Zay (ds:=T.map Znb) (.inl rfl) λd m=>by
 obtain⟨r,_,rfl⟩:=Qc.mp m
 refine Zay (ds:=r.map frD) (.inl rfl) λd m=>?_
 obtain⟨q,_,rfl⟩:=Qc.mp m
 exact Zpo k q
theorem Zl4(k:Nat)(L:List (List Int×Rat)):Told (Zn (k+5)) [.tuple [.str "ring",Zgp L],.tuple [.str "ring",Zgp L]] (.bool true):=Zay (ds:=[.str "ring",Zgp L]) (.inr rfl) λd m=>by
 rcases Xq.mp m with rfl|m
 ·exact Zt8 (k+3) Zt7
 rw[XD.mp m]
 refine Zay (k:=k+3) (ds:=L.map ctD) (.inl rfl) λd m=>?_
 obtain⟨c,_,rfl⟩:=Qc.mp m
 refine Zay (k:=k+2) (ds:=[Zj c.1,frD c.2]) (.inr rfl) λd m=>?_
 rcases Xq.mp m with rfl|m
 ·refine Zay (k:=k+1) (ds:=c.1.map Xk) (.inl rfl) λd m=>?_
  obtain⟨i,_,rfl⟩:=Qc.mp m
  exact Zht k i
 ·rw[XD.mp m];exact Zpo k _
theorem Zj4{α:Type}{caps:List Nat}{it:FI}{g:FG}{t:FT}{me:FE}{cs δ:Zi}(xs:List α)(x1 x2:α->Xa)(p:α->Bool)(f:α->Xa)(hi:EvI it δ (xs.map λx=>.tuple [x1 x,x2 x]))(hz:xs.length≤1000000)(hb:blk 2 caps δ=none :: none :: cs)
  (hg:∀x∈xs,∀z0 z1,g (.tuple [x1 x,x2 x]) (z0 :: z1 :: cs)=some (some (.fz (x1 x)) :: some (.fz (x2 x)) :: cs)) (ht:∀x∈xs,EvT t (some (.fz (x1 x)) :: some (.fz (x2 x)) :: cs) (p x)) (hm:∀x∈xs,p x=true->EvV me (some (.fz (x1 x)) :: some (.fz (x2 x)) :: cs) (f x)) :
  EvV (Wj 2 caps it g t me) δ (.list ((xs.filter p).map f)):=by
 have ch:∀x,∃o:OT,x∈xs->p x=true->me (some (.fz (x1 x)) :: some (.fz (x2 x)) :: cs)=some (o,some (.fz (x1 x)) :: some (.fz (x2 x)) :: cs)∧o.data=f x:=λx=>by
  by_cases c:x∈xs∧p x=true
  ·obtain⟨o,h⟩:=hm x c.1 c.2
   exact⟨o,λ_ _=>h⟩
  ·exact⟨.fz .none,λa b=>absurd ⟨a,b⟩ c⟩
 obtain⟨F,hF⟩:=V1 ch
 refine⟨_,Zyp xs x1 x2 p F hi hz hb hg ht λx m q=>(hF x m q).1,?_⟩
 rw[OT.data_nd,X5]
 exact congrArg Qv (XH λx m=>(hF x (Ve.mp m).1 (Ve.mp m).2).2)
theorem Zec{a b:FE}{δ:Zi}{i j:Int}{m n:Nat}(ha:EvV a δ (.int i))(hb:EvV b δ (.int j))(h:Bt m i)(k:Bt n j)(hmn:m+n≤100000000:=by decide):EvV (Zf Zcv a b) δ (.int (i*j)):=Zr ha hb (Zhj (Zko h k hmn))
theorem Zjb{e:FE}{δ:Zi}{q:Rat}(h:EvV e δ (frD q)):EvV (Ye gIx e (fC (.int 0))) δ (.int q.num):=Wd h Z0 rfl
theorem Zgh{e:FE}{δ:Zi}{q:Rat}(h:EvV e δ (frD q)):EvV (Ye gIx e (fC (.int 1))) δ (.int (q.den:Int)):=Wd h Z0 rfl
theorem Zzy{q r:Rat}(hq:BQ 400 q)(hr:BQ 400 r):Told Zea [frD q,frD r] (frD (q+r)):=by
 rw[←Zu8]
 exact Zx rfl<|Yc<|Zk (Zb (Yp (Zec (Zjb Za) (Zgh Za) hq.1 hr.2) (Zec (Zjb Za) (Zgh Za) hr.1 hq.2)) (Zb (Zec (Zgh Za) (Zgh Za) hq.2 hr.2) Zh)) (Zei (n:=800) (Int.mul_ne_zero (Zh7 q) (Zh7 r)) (hq.2.mul hr.2))
theorem Zw9{q r:Rat}(hq:BQ 400 q)(hr:BQ 400 r):Told Zdh [frD q,frD r] (frD (q*r)):=by
 rw[←Zrn]
 exact Zx rfl<|Yc<|Zk (Zb (Zec (Zjb Za) (Zjb Za) hq.1 hr.1) (Zb (Zec (Zgh Za) (Zgh Za) hq.2 hr.2) Zh)) (Zei (n:=800) (Int.mul_ne_zero (Zh7 q) (Zh7 r)) (hq.2.mul hr.2))
noncomputable def rwT(n:Nat)(f:Nat->Nat->Rat)(i:Nat):Xa:=.list ((Xr n).map λj=>frD (f i j))
noncomputable def mt(n:Nat)(f:Nat->Nat->Rat):Xa:=.list ((Xr n).map (rwT n f))
theorem Zl7(n:Nat)(R:Nat->Nat->Int)(b:Int):tbD (Zci n R b)=mt n λi j=>Xv (R i j) b:=by
 unfold tbD Zci mt
 rw[X5]
 refine congrArg Qv (XH λi _=>?_)
 show Znb _=_
 unfold Znb
 rw[X5];rfl
theorem Zoa{n:Nat}{f g:Nat->Nat->Rat}(h:∀i j,i<n->j<n->f i j=g i j):mt n f=mt n g:=by
 unfold mt rwT
 refine congrArg Qv (XH λi hi=>congrArg Qv (XH λj hj=>?_))
 rw[h i j (X8.mp hi) (X8.mp hj)]
theorem Zj9{α:Type}(f g:α->Xa)(xs:List α):Zjf (xs.map f) (xs.map g)=xs.map λx=>.tuple [f x,g x]:=by
 unfold Zjf
 induction xs with
 | nil=>rfl
 | cons x xs ih=>rw[XF,XF,List.zip_cons_cons,XF,ih];rfl
theorem Zi0(f:Nat->Xa)(i:Nat):((Xr i).map λx=>OT.fz (f x)) ++ [OT.fz (f i)]=(Xr (i+1)).map λx=>OT.fz (f x):=by rw[Uz,QB];rfl
theorem Zlr{α:Type}{n i:Nat}{f:Nat->α}{d:α}(h:((Xr n).map f)[i]? =some d):i<n∧d=f i:=by
 rw[Xu]at h
 obtain⟨j,e,rfl⟩:=Option.map_eq_some_iff.mp h
 obtain⟨l,e⟩:=Xn.mp e
 rw[List.getElem_range]at e
 rw[X3]at l
 exact⟨l,by rw[e]⟩
theorem Zwd{n:Nat}(hn:n≤10){f g:Nat->Nat->Rat}(hf:∀i j,i<n->j<n->BQ 400 (f i j))(hg:∀i j,i<n->j<n->BQ 400 (g i j)):Told Za2 [mt n f,mt n g] (mt n λi j=>f i j+g i j):=by
 have ln:∀h,Za5 [mt n h]=some (.int n):=λh=>by unfold mt;rw[Zmj,Xj,X3]
 refine Zx rfl<|Zo (Zw (Jx (Znk (J6 (Zb Za Zh) (ln f)) (J6 (Zb Za Zh) (ln g)) (by rw[decide_eq_true rfl];rfl))) rfl)<|Zo Zge<|
  Zgn (ds:=(Xr n).map λi=>.tuple [rwT n f i,rwT n g i]) (λi δ=>∃z3 z4,δ=[some (.fz (mt n f)),some (.fz (mt n g)),some (.nd ((Xr i).map λx=>OT.fz (rwT n (λi j=>f i j+g i j) x))),z3,z4]) (Zhi Za Za (Zj9 _ _ _)) ⟨none,none,rfl⟩ (λi d δ hd q=>?_) λδ' q=>?_
 ·obtain⟨z3,z4,rfl⟩:=q
  obtain⟨hi,rfl⟩:=Zlr hd
  refine⟨_,_,rfl,.inl (Zma (d:=rwT n (λi j=>f i j+g i j) i) ?_ rfl (by rw[Xj,X3];omega)),some (.fz (rwT n f i)),some (.fz (rwT n g i)),?_⟩
  ·refine(Zj4 (t:=Zg2) (cs:=[]) (Xr n) (λj=>frD (f i j)) (λj=>frD (g i j)) (λ_=>true) (λj=>frD (f i j+g i j)) (Zhi (Za (i:=3) (d:=rwT n f i) rfl) (Za (i:=4) (d:=rwT n g i) rfl) (Zj9 _ _ _)) (by rw[X3];omega) rfl (λ_ _ _ _=>rfl) (λ_ _=>rfl) λj hj _=>?_).cast (by rw[List.filter_eq_self.mpr λ_ _=>rfl];rfl)
   have hj:=X8.mp hj
   exact Zk (Zb Za (Zb Za Zh)) (Zzy (hf i j hi hj) (hg i j hi hj))
  ·rw[Zi0];rfl
 ·obtain⟨z3,z4,rfl⟩:=q
  rw[Xj,X3]
  exact Z5d rfl (by rw[OT.data_nd,Zfs];rfl)
theorem Zis{n:Nat}(hn:n≤10){q:Rat}{f:Nat->Nat->Rat}(q0:0≤q.num)(hq:BQ 400 q)(hf:∀i j,i<n->j<n->BQ 400 (f i j)):Told Wo [frD q,mt n f] (mt n λi j=>q*f i j):=by
 have ib:Told Zan [frD q,.tuple [.int 0,.int 1]] (.bool false):=Zx rfl<|Yc<|Zbk (Zmx (Zjb Za) (Wd (d:=.int 1) Za Z0 rfl) (by decide)) (Zdc (Wd (d:=.int 0) Za Z0 rfl) (Zgh Za) (by decide)) (decide_eq_false (by omega))
 refine Zx rfl<|Zo (Zw (Zbl (Zk (Zb Za (Zb (Zbj (Zb Z0 (Zb Z0 Zh)) (show 2≤1000 by decide)) Zh)) ib)) rfl)<|Zo Zge<|
  Zgn (ds:=(Xr n).map (rwT n f)) (λi δ=>∃z3,δ=[some (.fz (frD q)),some (.fz (mt n f)),some (.nd ((Xr i).map λx=>OT.fz (rwT n (λi j=>q*f i j) x))),z3]) (Zae Za) ⟨none,rfl⟩ (λi d δ hd r=>?_) λδ' r=>?_
 ·obtain⟨z3,rfl⟩:=r
  obtain⟨hi,rfl⟩:=Zlr hd
  refine⟨_,_,rfl,.inl (Zma (d:=rwT n (λi j=>q*f i j) i) ?_ rfl (by rw[Xj,X3];omega)),some (.fz (rwT n f i)),?_⟩
  ·exact Zc3 (cs:=[some (.fz (frD q))]) (Xr n) (λj=>frD (f i j)) (λj=>frD (q*f i j)) (Zae (Za (i:=3) (d:=rwT n f i) rfl)) (by rw[X3];omega) rfl λj hj=>Zk (Zb Za (Zb Za Zh)) (Zw9 hq (hf i j hi (X8.mp hj)))
  ·rw[Zi0];rfl
 ·obtain⟨z3,rfl⟩:=r
  rw[Xj,X3]
  exact Z5d rfl (by rw[OT.data_nd,Zfs];rfl)
noncomputable def cz(Z:List (List Int×Int))(x y:Nat):Int:=(Z.map λq=>if sep q.1 x y=true then q.2 else 0).sum
theorem Z0c(Z:List (List Int×Int))(q:List Int×Int)(x y:Nat):cz (Z ++ [q]) x y=cz Z x y+(if sep q.1 x y=true then q.2 else 0):=by
 unfold cz
 rw[QB,List.sum_append]
 show _+(_+0)=_
 rw[Int.add_zero]
theorem Zng{n:Nat}{f g:Nat->Nat->Int}(h:∀i j,i<n->j<n->f i j=g i j):Ym n f=Ym n g:=by
 unfold Ym Zvw
 refine congrArg Qv (XH λi hi=>congrArg Qv (XH λj hj=>?_))
 rw[h i j (X8.mp hi) (X8.mp hj)]
theorem Zri{n:Nat}(n10:n≤10){Ls:List (List Int)}{vs:List Int}(hl:Ls.length≤60)(hv:∀v∈vs,0≤v∧v<1000*B20):Told Y5 [.int n,.list (Ls.map Zj),Zj vs] (Ym n (cz (Ls.zip vs)))∧Rw n (cz (Ls.zip vs)):=by
 obtain⟨D0,f0⟩:=Zvb (n:=n)
 have s1:wE (Wj 1 [0] (iRa (Zc (Zd 0) Zq)) (gNm 0) Zg2 (Z3a (fC (.int 0)) (Zd 1))) (Zb5 3) (Zgk 8 [.int n,.list (Ls.map Zj),Zj vs])= .nx [some (.fz (.int n)),some (.fz (.list (Ls.map Zj))),some (.fz (Zj vs)),some (.nd (((Xr n).map λ_=>X4 n 0).map Zrq)),none,none,none,none]:=by
  refine(Zmu (Zpa (cs:=[some (.fz (.int n))]) (Xr n) (λi:Nat=>Xk (0+(i:Int))) (λ_=>Zrq (X4 n 0)) (Zhz (Zb (Za rfl) Zh) (by omega)) (by rw[X3,Qj];omega) rfl λx _=>?_)).trans (by rw[X5];rfl)
  unfold Zrq
  rw[List.map_replicate]
  exact Z3h (by omega)
 obtain⟨δ',e,L,z4,z5,z6,z7,rfl,D,ex,bd⟩:=Zjs (S:=Zbw (iRa (Zc (Zd 0) Zq)) (gNm 6) (Zbw (iRa (Zc (Zd 0) Zq)) (gNm 7) Zqe)) (g:=gTp 2 (gCn (gNm 4) (gCn (gNm 5) gNl))) (it:=Zgx (Zc (Zd 1) (Zc (Zd 2) Zq))) (δ:=[some (.fz (.int n)),some (.fz (.list (Ls.map Zj))),some (.fz (Zj vs)),some (.nd (((Xr n).map λ_=>X4 n 0).map Zrq)),none,none,none,none]) (ds:=Zjf (Ls.map Zj) (vs.map Xk)) (λk δ=>∃(L:List (List Int)) (z4 z5 z6 z7:Option OT),δ=[some (.fz (.int n)),some (.fz (.list (Ls.map Zj))),some (.fz (Zj vs)),some (.nd (L.map Zrq)),z4,z5,z6,z7]∧Dr n B25 L∧(∀x y,x<n->y<n->fnL L x y=cz ((Ls.zip vs).take k) x y)∧∀x y,x<n->y<n->0≤fnL L x y∧fnL L x y≤k*(1000*B20)) (Zhi (Za rfl) (Za (d:=Zj vs) rfl) rfl) ⟨_,_,_,_,_,rfl,D0,λi j hi hj=>f0 i j hi hj,λx y hx hy=>by rw[f0 x y hx hy];exact⟨Int.le_refl _,Int.le_of_eq (by rw[Int.natCast_zero,Int.zero_mul])⟩⟩ λk d δ hd q=>by
  obtain⟨L,z4,z5,z6,z7,rfl,D,ex,bd⟩:=q
  rw[Zk3,Xu]at hd
  obtain⟨⟨s,w⟩,hq,rfl⟩:=Option.map_eq_some_iff.mp hd
  have ml:=List.of_mem_zip (Q0 hq)
  have k60:k<60:=by
   have:=(Xn.mp hq).1
   rw[List.length_zip]at this
   omega
  obtain⟨w0,w1⟩:=hv w ml.2
  have kB:(k:Int)*(1000*B20)≤60*(1000*B20):=Int.mul_le_mul_of_nonneg_right (by omega) (by decide)
  obtain⟨L',y6,y7,e,D',f⟩:=Zvm (A:=.list (Ls.map Zj)) (B:=Zj vs) (s:=s) (z6:=z6) (z7:=z7) n10 D (λx y hx hy=>(bd x y hx hy).1) w0 λx y hx hy=>by
   have:=(bd x y hx hy).2
   have:B25=100000*B20:=by decide
   have:0<B20:=by decide
   omega
  refine⟨_,_,rfl,.inl e,L',_,_,y6,y7,rfl,D',λi j hi hj=>?_,λx y hx hy=>?_⟩
  ·rw[f i j hi hj,ex i j hi hj,List.take_add_one,hq]
   exact(Z0c _ (s,w) i j).symm
  ·have:=bd x y hx hy
   rw[f x y hx hy,Int.natCast_succ,Int.add_mul,Int.one_mul]
   split<;>omega
 have tk:(Ls.zip vs).take (Zjf (Ls.map Zj) (vs.map Xk)).length=Ls.zip vs:=by rw[Zk3,Xj,List.take_length]
 rw[tk]at ex
 obtain⟨e1,e2⟩:=Z0p D
 refine⟨⟨_,Z2n rfl (Yv s1 (Yv e (Z1n (i:=3) rfl))),?_⟩,λi j hi hj=>⟨?_,?_⟩,λi j hi hj=>?_⟩
 ·rw[OT.data_nd,e1]
  exact Zng ex
 ·unfold cz
  exact congrArg List.sum (XH λq _=>by rw[Zxl])
 ·unfold cz
  rw[show(Ls.zip vs).map (λq=>if sep q.1 i i=true then q.2 else 0)=(Ls.zip vs).map (λ_=>0)from XH λq _=>by rw[Zwm,if_neg Xm]]
  generalize Ls.zip vs=Z
  induction Z with
  | nil=>rfl
  | cons q Z ih=>rw[XF,QF,ih];rfl
 ·rw[←ex i j hi hj]
  have:=e2 i j hi hj
  refine Bt.of_lt ?_ ?_
  ·have:(0:Int)<2^300:=by decide +kernel
   omega
  ·have:B25<2^300:=by decide +kernel
   omega
noncomputable def wL(Z:List (List Int×Int))(b:Int):List (List Int×Rat):=(Z.filter λq=>decide (0<q.2)).map λq=>(q.1,Xv q.2 b)
theorem Znx{Ls:List (List Int)}{vs:List Int}{b:Int}(hl:Ls.length≤60)(hb:0<b)(bb:Bt 400 b):Told Yr [.list (Ls.map Zj),Zj vs,.int b] (Zgp (sCt (wL (Ls.zip vs) b))):=by
 have l:(Ls.zip vs).length≤60:=by rw[List.length_zip];omega
 have l2:=List.length_filter_le (λq:List Int×Int=>decide (0<q.2)) (Ls.zip vs)
 refine Zx rfl<|Yc<|Ztj ?_ (by unfold wL;rw[Xj];omega)
 refine(Zj4 (t:=tV (Zf gGt (Zd 1) (fC (.int 0)))) (cs:=[some (.fz (.int b))]) (Ls.zip vs) (λq=>Zj q.1) (λq=>.int q.2) (λq=>decide (0<q.2)) (λq=>ctD (q.1,Xv q.2 b)) (Zhi Za (Za (d:=Zj vs) rfl) (Zk3 _ _ _ _)) (by omega) rfl (λ_ _ _ _=>rfl) (λq _=>Jx (Zqs Za Z0 rfl)) λq _ _=>?_).cast ?_
 ·exact Zbj (Zb (Zxn (Zb (Za (d:=Zj q.1) rfl) Zh) (Zz7 _) (Zfj _)) (Zb (Zk (Zb (Za (d:=.int q.2) rfl) (Zb (Za (d:=.int b) rfl) Zh)) (Zdt hb bb)) Zh)) (show 2≤1000 by decide)
 ·unfold Zgp wL
  rw[X5];rfl
noncomputable def rz(n:Nat)(p:List Int)(w:Nat×Nat->Int):List (List Int×Int):=(Z1 n).map λq=>(Z5 (sd p q),w q)
theorem Z6r{n x y:Nat}(hxy:x<y)(hy:y<n)(w:Nat×Nat->Int):∀Q:List (Nat×Nat),(∀q∈Q,q.1<q.2∧q.2<n)->twP n (λi j=>(Q.map λq=>cd (w q) q.1 q.2 i j).sum) x y=(Q.map λq=>if x=q.1∧y=q.2 then 2*w q else 0).sum:=by
 intro Q
 induction Q with
 | nil=>exact λ_=>rfl
 | cons q Q ih=>
  intro h
  have e:(λi j=>((q :: Q).map λq=>cd (w q) q.1 q.2 i j).sum)= λi j=>(Q.map λq=>cd (w q) q.1 q.2 i j).sum+cd (w q) q.1 q.2 i j:=funext λi=>funext λj=>by rw[XF,QF,Int.add_comm]
  obtain⟨h1,h2⟩:=h q (.head _)
  rw[e,Z4p h1 h2 hxy hy,ih λr hr=>h r (.tail _ hr),XF,QF,Int.add_comm]
theorem Zxa{x y:Nat}(w:Nat×Nat->Int):∀Q:List (Nat×Nat),(x,y)∉Q->(Q.map λq=>if x=q.1∧y=q.2 then 2*w q else 0).sum=0:=by
 intro Q
 induction Q with
 | nil=>exact λ_=>rfl
 | cons q Q ih=>
  intro h
  rw[XF,QF,ih λm=>h (.tail _ m),if_neg λc=>h (by rw[c.1,c.2];exact .head _)];rfl
theorem Z0s{x y:Nat}(w:Nat×Nat->Int):∀Q:List (Nat×Nat),Q.Nodup->(x,y)∈Q->(Q.map λq=>if x=q.1∧y=q.2 then 2*w q else 0).sum=2*w (x,y):=by
 intro Q
 induction Q with
 | nil=>exact λ_ m=>nomatch m
 | cons q Q ih=>
  intro nd m
  obtain⟨n1,n2⟩:=Qp.mp nd
  rw[XF,QF]
  by_cases c:(x,y)=q
  ·subst c
   rw[if_pos ⟨rfl,rfl⟩,Zxa w Q n1,Int.add_zero]
  ·rcases Xq.mp m with m|m
   ·exact absurd m c
   ·rw[ih n2 m,if_neg λz=>c (Prod.ext z.1 z.2),Bf]
theorem Zsa{n a c:Nat}{D E:Nat->Nat->Int}(hac:a<c)(hc:c<n)(h:∀i j,i<n->j<n->D i j=E i j):twP n D a c=twP n E a c:=by
 have m:=Nat.mod_lt (c+1) (show 0<n by omega)
 unfold twP
 rw[h a c (by omega) hc,h (a+1) _ (by omega) m,h a _ (by omega) m,h (a+1) c (by omega) hc]
theorem Pm.pn{n:Nat}{p:List Int}(h:Pm n p){u:Nat}(hu:u<n):((pn p u:Nat):Int)=p.getD u 0:=U3 (h.inR.2 u hu).1
theorem Zz1{n:Nat}{p:List Int}(h:Pm n p)(w:Nat×Nat->Int){u v:Nat}(hu:u<n)(hv:v<n):cz (rz n p w) (pn p u) (pn p v)=((Z1 n).map λq=>cd (w q) q.1 q.2 u v).sum:=by
 unfold cz rz
 rw[X5]
 refine congrArg List.sum (XH λq hq=>?_)
 obtain⟨l1,l2⟩:=Yx hq
 have mm:∀{u:Nat},u<n->decide (((My.pn p u:Nat):Int)∈Z5 (sd p q))=inS q.1 q.2 u:=fun{u} hu=>by
  rw[←Zdj h hu l1 l2]
  exact decide_eq_decide.mpr (by rw[h.pn hu,(Yi (sd p q)).mem_iff])
 show(if sep (Z5 (sd p q)) (My.pn p u) (My.pn p v)=true then w q else 0)=_
 unfold sep cd Zf3
 rw[mm hu,mm hv]
 cases(inS q.1 q.2 u !=inS q.1 q.2 v)
 ·rw[if_neg Xm,if_neg Xm,Int.mul_zero]
 ·rw[if_pos rfl,if_pos rfl,Int.mul_one]
theorem Zkn{n:Nat}{p:List Int}(h:Pm n p)(hn:n≤10)(w:Nat×Nat->Int){q:Nat×Nat}(hq:q∈Z1 n):tq n (cz (rz n p w)) p q=2*w q:=by
 obtain⟨l1,l2⟩:=Yx hq
 unfold tq
 rw[Zsa l1 l2 λi j hi hj=>Zz1 h w hi hj,Z6r l1 l2 w (Z1 n) λq hq=>Yx hq]
 exact Z0s w (Z1 n) (Zh5 n hn) hq
theorem Z16{n:Nat}{p:List Int}(h:Pm n p)(hn:n≤10)(w:Nat×Nat->Int){b:Int}(hb:0<b):cL n (cz (rz n p w)) p b (Z1 n)=wL (rz n p w) b:=by
 unfold cL wL
 rw[show rz n p w=(Z1 n).map λq=>(Z5 (sd p q),w q)from rfl,List.filter_map,X5]
 rw[show(Z1 n).filter ((λq:List Int×Int=>decide (0<q.2))∘ λq=>(Z5 (sd p q),w q))=(Z1 n).filter (λq=>decide (0<tq n (cz (rz n p w)) p q))from List.filter_congr λq hq=>by
  rw[Zkn h hn w hq]
  exact decide_eq_decide.mpr (by show 0<w q↔_;omega)]
 refine XH λq hq=>?_
 have hq:=(Ve.mp hq).1
 show(_,Xv (tq n (cz (rz n p w)) p q) (2*b))=(_,Xv (w q) b)
 rw[Zkn h hn w hq,Ul 2 b,Zfq (by decide) hb]
theorem Zpl{n:Nat}{p:List Int}(h:Pm n p)(hn:n≤10){w:Nat×Nat->Int}(w0:∀q∈Z1 n,0≤w q):Zwy n (cz (rz n p w)) p=none:=by
 unfold Zwy
 rw[Vp]
 intro q hq c
 have:=of_decide_eq_true c
 rw[Zkn h hn w hq]at this
 have:=w0 q hq
 omega
theorem Z6q:∀{Q:List (Nat×Nat)} {vs:List Int},Q.Nodup->vs.length=Q.length->∃w:Nat×Nat->Int,vs=Q.map w:=by
 intro Q
 induction Q with
 | nil=>exact fun{vs} _ l=>⟨λ_=>0,Bu l⟩
 | cons q Q ih=>
  intro vs nd l
  cases vs with
  | nil=>cases l
  | cons v vs=>
   obtain⟨n1,n2⟩:=Qp.mp nd
   obtain⟨w,e⟩:=ih (vs:=vs) n2 (Nat.succ.inj l)
   refine⟨λx=>if x=q then v else w x,?_⟩
   rw[XF,if_pos rfl,e]
   refine congrArg (v :: ·) (XH λx hx=>?_)
   exact(if_neg λz:x=q=>n1 (z▸hx)).symm
theorem Zrg:∀m≤10,(Z1 m).length=m*(m-1)/2:=by decide +kernel
theorem Zlu{n:Nat}{p:List Int}(h:Pm n p)(hr:ringB n p=true)(hn:n≤10){w:Nat×Nat->Int}(w0:∀q∈Z1 n,0≤w q){b:Int}(hb:0<b)(bb:Bt 300 b)(W:Rw n (cz (rz n p w))):Told Yn [tbD (Zci n (cz (rz n p w)) b),Zj p] (.tuple [.str "ring",Zgp (sCt (wL (rz n p w) b))]):=by
 have:=Zgq h hr hn hb bb W
 unfold Zu6 at this
 rw[Zpl h hn w0,Z16 h hn w hb]at this
 exact this
theorem Zwb{n:Nat}{r:List Int}(hr:r.length=n)(hn:n≤10):Told Zaa [Zj r] (.list (((Z1 n).map λq=>Z5 (sd r q)).map Zj)):=by
 refine Zx rfl (Yc ⟨_,Zyp (cs:=[some (.fz (Zj r))]) (Z1 n) (λq=>.int (q.1:Int)) (λq=>.int (q.2:Int)) (λ_=>true) (λq=>.nd (((Z5 (sd r q)).map Xk).map OT.fz)) (Zae (Zk (Zb ((Wi Za).cast (by rw[hr])) Zh) (Z2w n (by omega)))) (QT (Zhn n hn) (by decide)) rfl (λq _ z0 z1=>rfl) (λq _=>rfl) λq hq _=>?_,?_⟩)
 ·obtain⟨l1,l2⟩:=Yx hq
  have ls:(sd r q).length<64:=by
   unfold sd
   rw[BP,Qu];omega
  obtain⟨ts,e1,d1⟩:=Zb (Zta (e:=Zd 2) (δ:=[some (.fz (.int (q.1:Int))),some (.fz (.int (q.2:Int))),some (.fz (Zj r))]) (r:=r) Za (Z21 (Yp (Za (i:=0) (d:=.int (q.1:Int)) rfl) (Z0 (d:=.int 1)))) (Z21 (Yp (Za (i:=1) (d:=.int (q.2:Int)) rfl) (Z0 (d:=.int 1)))) (Zyj l1 (by omega))) Zh
  rw[Zxx,e1,Xh]
  dsimp only
  rw[d1,Zf5 ls];rfl
 ·rw[List.filter_eq_self.mpr λ_ _=>rfl,OT.data_nd,X5,X5]
  exact congrArg Qv (XH λq _=>Zfj _)
theorem kal{n:Nat}{D:Nat->Nat->Int}{P:Int->Prop}(ad:∀x y,P x->P y->P (x+y))(h:∀a c,a<c->c<n->P (twP n D a c)){i j k l:Nat}(h1:i<j)(h2:j≤k)(h3:k<l)(h4:l≤n):P (D i k+D j (l%n)-D i (l%n)-D j k):=by
 have g:∀(m a k:Nat),a<k->k+m<n->P (D a k+D (a+1) ((k+m+1)%n)-D a ((k+m+1)%n)-D (a+1) k):=by
  intro m
  induction m with
  | zero=>exact λa k ha hk=>h a k ha hk
  | succ m ih=>
   intro a k ha hk
   have t:=ad _ _ (ih a k ha (by omega)) (h a (k+m+1) (by omega) (by omega))
   unfold twP at t
   rw[Vn (show k+m+1<n by omega)]at t
   refine cast (congrArg P ?_) t
   rw[show k+(m+1)+1=k+m+1+1 by omega]
   omega
 have g2:∀(m i:Nat),i+m<k->P (D i k+D (i+m+1) (l%n)-D i (l%n)-D (i+m+1) k):=by
  have one:∀a,a<k->P (D a k+D (a+1) (l%n)-D a (l%n)-D (a+1) k):=λa ha=>by
   have:=g (l-k-1) a k ha (by omega)
   rw[show k+(l-k-1)+1=l by omega]at this
   exact this
  intro m
  induction m with
  | zero=>exact λi hi=>one i hi
  | succ m ih=>
   intro i hi
   have t:=ad _ _ (ih i (by omega)) (one (i+m+1) (by omega))
   refine cast (congrArg P ?_) t
   rw[show i+(m+1)+1=i+m+1+1 by omega]
   omega
 have:=g2 (j-i-1) i (by omega)
 rw[show i+(j-i-1)+1=j by omega]at this
 exact this
theorem Zyz{n:Nat}{f:Nat->Nat}(hf:∀x,0<x->x<n->0<f x∧f x<n)(inc:∀x y,0<x->x<y->y<n->f x<f y):∀x,0<x->x<n->f x=x:=by
 have lo:∀x,0<x->x<n->x≤f x:=by
  intro x
  induction x with
  | zero=>exact λz=>absurd z (Bq 0)
  | succ x ih=>
   intro _ h
   by_cases c:x=0
   ·subst c;exact(hf 1 (by decide) h).1
   ·have:=ih (by omega) (by omega)
    have:=inc x (x+1) (by omega) (by omega) h
    omega
 have hi:∀k x,x+k+1=n->0<x->f x≤x:=by
  intro k
  induction k with
  | zero=>exact λx e h=>by have:=(hf x h (by omega)).2;omega
  | succ k ih=>
   intro x e h
   have:=ih (x+1) (by omega) (by omega)
   have:=inc x (x+1) h (by omega) (by omega)
   omega
 intro x h0 h1
 have:=lo x h0 h1
 have:=hi (n-1-x) x (by omega) h0
 omega
theorem Ztq{n:Nat}(h4:4≤n){p r:List Int}{R:Nat->Nat->Int}(W:Rw n R)(hp:Pm n p)(p0:p.getD 0 0=0)(p1:p.getD 1 0<p.getD (n-1) 0)(hr:Pm n r)(r0:r.getD 0 0=0)(r1:r.getD 1 0<r.getD (n-1) 0)
  (tp:∀q∈Z1 n,0<tq n R p q) (tr:∀q∈Z1 n,0≤tq n R r q):r=p:=by
 have ch:∀x,∃s,x<n->s<n∧p.getD s 0=r.getD x 0:=λx=>by
  by_cases c:x<n
  ·obtain⟨s,h1,h2⟩:=hp.at (hr.inR.at c).2
   exact⟨s,λ_=>⟨h1,by rw[h2,hr.pn c]⟩⟩
  ·exact⟨0,λz=>absurd z c⟩
 obtain⟨f,hf⟩:=V1 ch
 have f0:f 0=0:=hp.ne (hf 0 (by omega)).1 (by omega) (by rw[(hf 0 (by omega)).2,r0,p0])
 have fi:∀x y,x<n->y<n->f x=f y->x=y:=λx y hx hy e=>hr.ne hx hy (by rw[←(hf x hx).2,←(hf y hy).2,e])
 have fp:∀x,0<x->x<n->0<f x∧f x<n:=λx h0 hx=>⟨Nat.pos_of_ne_zero λz=>by have:=fi x 0 hx (by omega) (by rw[z,f0]);omega,(hf x hx).1⟩
 obtain⟨d,hd⟩:∃d:Nat->Nat->Int,d= λa b=>R (pn p a) (pn p b):=⟨_,rfl⟩
 have ds:∀a b,a<n->b<n->d a b=d b a:=λa b ha hb=>by rw[hd];exact(W.sy _ _ (hp.inR.at ha).2 (hp.inR.at hb).2).1
 have pe:∀x,x<n->pn r x=pn p (f x):=λx hx=>by unfold pn;rw[(hf x hx).2]
 have kp:∀s t u,0<s->s<t->t<u->u<n->0<d 0 t+d s u-d 0 u-d s t∧0<d s u+d t 0-d s 0-d t u:=λs t u h0 h1 h2 h3=>by
  have k:=λ(i j k l:Nat) (a:i<j) (b:j≤k) (c:k<l) (e:l≤n)=>kal (n:=n) (D:=d) (P:=λx=>0<x) (λ_ _ a b=>by omega) (λa c ha hc=>by rw[hd];exact tp (a,c) (Zf2 ha hc)) a b c e
  have k1:=k 0 s t u h0 (Be h1) h2 (Be h3)
  have k2:=k s t u n h1 (Be h2) h3 (XN n)
  rw[Vn h3]at k1
  rw[Nat.mod_self]at k2
  exact⟨k1,k2⟩
 have kr:∀x y z,0<x->x<y->y<z->z<n->0≤d 0 (f y)+d (f x) (f z)-d 0 (f z)-d (f x) (f y)∧0≤d (f x) (f z)+d (f y) 0-d (f x) 0-d (f y) (f z):=λx y z h0 h1 h2 h3=>by
  have k:=λ(i j k l:Nat) (a:i<j) (b:j≤k) (c:k<l) (e:l≤n)=>kal (n:=n) (D:=λa b=>R (pn r a) (pn r b)) (P:=λx=>0≤x) (λ_ _ a b=>by omega) (λa c ha hc=>tr (a,c) (Zf2 ha hc)) a b c e
  have k1:=k 0 x y z h0 (Be h1) h2 (Be h3)
  have k2:=k x y z n h1 (Be h2) h3 (XN n)
  rw[Vn h3]at k1
  rw[Nat.mod_self]at k2
  (try dsimp only at k1 k2)
  rw[pe 0 (by omega),pe x (by omega),pe y (by omega),pe z h3,f0]at k1 k2
  rw[hd]
  exact⟨k1,k2⟩
 have med:∀x y z,0<x->x<y->y<z->z<n->(f x<f y∧f y<f z)∨(f z<f y∧f y<f x):=λx y z h0 h1 h2 h3=>by
  obtain⟨w1,w2⟩:=kr x y z h0 h1 h2 h3
  obtain⟨a0,a1⟩:=fp x h0 (by omega)
  obtain⟨b0,b1⟩:=fp y (by omega) (by omega)
  obtain⟨c0,c1⟩:=fp z (by omega) h3
  have ab:f x≠f y:=λe=>by have:=fi x y (by omega) (by omega) e;omega
  have bc:f y≠f z:=λe=>by have:=fi y z (by omega) (by omega) e;omega
  have ac:f x≠f z:=λe=>by have:=fi x z (by omega) (by omega) e;omega
  have s1:=ds 0 (f x) (by omega) a1
  have s2:=ds 0 (f y) (by omega) b1
  have s3:=ds 0 (f z) (by omega) c1
  have s4:=ds (f x) (f y) a1 b1
  have s5:=ds (f y) (f z) b1 c1
  have s6:=ds (f x) (f z) a1 c1
  rcases BX ab with q1|q1<;>rcases BX bc with q2|q2
  ·exact .inl ⟨q1,q2⟩
  ·rcases BX ac with q3|q3
   ·have:=kp (f x) (f z) (f y) a0 q3 q2 b1;omega
   ·have:=kp (f z) (f x) (f y) c0 q3 q1 b1;omega
  ·rcases BX ac with q3|q3
   ·have:=kp (f y) (f x) (f z) b0 q1 q3 c1;omega
   ·have:=kp (f y) (f z) (f x) b0 q2 q3 a1;omega
  ·exact .inr ⟨q2,q1⟩
 have n1:f 1≠f (n-1):=λe=>by have:=fi 1 (n-1) (by omega) (by omega) e;omega
 rcases BX n1 with c|c
 ·have b1:∀y,1<y->y<n->f 1<f y:=λy h1 h2=>by
   by_cases e:y=n-1
   ·rw[e];exact c
   ·have:=med 1 y (n-1) (by decide) h1 (by omega) (by omega);omega
  have id:=Zyz fp λx y h0 h1 h2=>by
   by_cases e:x=1
   ·rw[e];exact b1 y (by omega) h2
   ·have:=med 1 x y (by decide) (by omega) h1 h2
    have:=b1 y (by omega) h2
    omega
  refine List.ext_getElem (by rw[hr.len,hp.len]) λi h1 h2=>?_
  have hi:i<n:=by rw[hr.len]at h1;exact h1
  have e:=(hf i hi).2
  rw[show f i=i from if z:i=0 then by rw[z,f0]else id i (by omega) hi,Xf,Xf,Xi h1,Xi h2]at e
  exact e.symm
 ·have b1:∀y,1<y->y<n->f y<f 1:=λy h1 h2=>by
   by_cases e:y=n-1
   ·rw[e];exact c
   ·have:=med 1 y (n-1) (by decide) h1 (by omega) (by omega);omega
  have id:=Zyz (n:=n) (f:=λx=>n-f x) (λx h0 h1=>by have:=fp x h0 h1;omega) λx y h0 h1 h2=>by
   have:=fp x h0 (by omega)
   have:=fp y (by omega) h2
   have l:f y<f x:=by
    by_cases e:x=1
    ·rw[e];exact b1 y (by omega) h2
    ·have:=med 1 x y (by decide) (by omega) h1 h2
     have:=b1 y (by omega) h2
     omega
   omega
  have i1:=id 1 (by decide) (by omega)
  have i2:=id (n-1) (by omega) (by omega)
  have e1:=fp 1 (by decide) (by omega)
  have e2:=fp (n-1) (by omega) (by omega)
  rw[←(hf 1 (by omega)).2,←(hf (n-1) (by omega)).2,show f 1=n-1 by omega,show f (n-1)=1 by omega]at r1
  omega
theorem Z4j(n:Nat)(p:List Int)(w o:Nat×Nat->Int)(x y:Nat):cz (rz n p λq=>w q+o q) x y=cz (rz n p w) x y+cz (rz n p o) x y:=by
 unfold cz rz
 rw[X5,X5,X5]
 generalize Z1 n=Q
 induction Q with
 | nil=>rfl
 | cons q Q ih=>
  rw[XF,XF,XF,QF,QF,QF,ih]
  have k:∀(c:Bool) (a b:Int),(if c=true then a+b else 0)=(if c=true then a else 0)+(if c=true then b else 0):=λc a b=>by cases c<;>rfl
  show(if sep (Z5 (sd p q)) x y=true then w q+o q else 0)+_=(if sep (Z5 (sd p q)) x y=true then w q else 0)+_+((if sep (Z5 (sd p q)) x y=true then o q else 0)+_)
  rw[k]
  ac_rfl
theorem Z38(n:Nat)(p:List Int)(w:Nat×Nat->Int)(k:Int)(x y:Nat):cz (rz n p λq=>w q*k) x y=k*cz (rz n p w) x y:=by
 unfold cz rz
 rw[X5,X5]
 generalize Z1 n=Q
 induction Q with
 | nil=>exact(Int.mul_zero k).symm
 | cons q Q ih=>
  rw[XF,XF,QF,QF,ih,Int.mul_add]
  refine congrArg (·+_) ?_
  show(if _ then w q*k else 0)=k*(if _ then w q else 0)
  split
  ·exact Ul _ _
  ·exact(Int.mul_zero k).symm
theorem Z03{x y b:Int}(hb:0<b):Xv x b+Xv y b=Xv (x+y) b:=by
 rw[Rat.divInt_add_divInt _ _ (by omega) (by omega),←Zfq (a:=x+y) hb hb,Int.mul_add,Ul b x,Ul b y]
theorem Z0i(q:Rat){x b:Int}:q*Xv x b=Xv (q.num*x) (b*(q.den:Int)):=by
 have e:=Rat.divInt_mul_divInt q.num x (d₁:=(q.den:Int)) (d₂:=b)
 rw[Rat.num_divInt_den]at e
 rw[e,Ul b]
theorem Zw3(c:Int):∃b,gIx (.list [.int 1,.int 2,.int 6,.int (1000000000000000+37)]) (.int ((c.fdiv 3).fmod 4))=some (.fz (.int b))∧0<b∧Bt 200 b:=by
 obtain⟨d,e,h⟩:=ix4 (x:=.int 1) (y:=.int 2) (z:=.int 6) (w:=.int (1000000000000000+37)) (v:=(c.fdiv 3).fmod 4) (Zca (by decide)) (Zb1 (by decide))
 rcases h with rfl|rfl|rfl|rfl
 ·exact⟨_,e,by decide,btc (by decide +kernel) (by decide +kernel)⟩
 ·exact⟨_,e,by decide,btc (by decide +kernel) (by decide +kernel)⟩
 ·exact⟨_,e,by decide,btc (by decide +kernel) (by decide +kernel)⟩
 ·exact⟨_,e,by decide,btc (by decide +kernel) (by decide +kernel)⟩
theorem Zrr(a b:List Int):Z3k (Zj a) (Zj b)=some (.bool (ltI b a)):=by
 show(Zbn (a.map Xk)).bind _=_
 rw[Jj,Xh,Jj,Xh]
noncomputable def wD(Q:List (Nat×Nat))(w:Nat×Nat->Int):Xa:=Zj (Q.map w)
theorem Zo1(Q:List (Nat×Nat))(w:Nat×Nat->Int):wD Q w= .list (Q.map λq=>Xk (w q)):=by unfold wD Zj;rw[X5];rfl
theorem Zz4{δ:Zi}{i j:Nat}{Q:List (Nat×Nat)}{w o:Nat×Nat->Int}(hQ:Q.length≤60)(hi:δ[i]? =some (some (.fz (wD Q w))))(hj:δ[j]? =some (some (.fz (wD Q o))))(hb:blk 2 [] δ=[none,none]) :
  EvV (Wj 2 [] (Zgx (Zc (Zd i) (Zc (Zd j) Zq))) (gTp 2 (gCn (gNm 0) (gCn (gNm 1) gNl))) Zg2 (Zf Zau (Zd 0) (Zd 1))) δ (wD Q λq=>w q+o q):=by
 rw[Zo1]at hi hj
 refine(Zj4 (t:=Zg2) (cs:=[]) Q (λq=>.int (w q)) (λq=>.int (o q)) (λ_=>true) (λq=>.int (w q+o q)) (Zhi (Za hi) (Za hj) (Zj9 _ _ _)) (by omega) hb (λ_ _ _ _=>rfl) (λ_ _=>rfl) λq _ _=>Yp Za Za).cast ?_
 rw[List.filter_eq_self.mpr λ_ _=>rfl,Zo1]
theorem Zzw{δ:Zi}{i:Nat}{Q:List (Nat×Nat)}{w:Nat×Nat->Int}{by':Rat}(hQ:Q.length≤60)(hw:∀q∈Q,Bt 100 (w q))(hy:Bt 100 by'.num)(hi:δ[i]? =some (some (.fz (wD Q w))))(hb:blk 1 [13] δ=[none,some (.fz (frD by'))]) :
  EvV (Wj 1 [13] (Zgi (Zd i)) (gNm 0) Zg2 (Zf Zcv (Zd 0) (Ye gIx (Zd 1) (fC (.int 0))))) δ (wD Q λq=>w q*by'.num):=by
 rw[Zo1]at hi⊢
 exact Zc3 (cs:=[some (.fz (frD by'))]) Q (λq=>.int (w q)) (λq=>.int (w q*by'.num)) (Zae (Za hi)) (by omega) hb λq hq=>Zec (Za (d:=.int (w q)) rfl) (Zjb Za) (hw q hq) hy
theorem Z8p{δ:Zi}{i:Nat}{Q:List (Nat×Nat)}{w:Nat×Nat->Int}(hQ:Q.length≤60)(hi:δ[i]? =some (some (.fz (wD Q w))))(hb:blk 1 [] δ=[none]) :
  EvV (Wj 1 [] (Zgi (Zd i)) (gNm 0) Zg2 (Zf Zau (fC (.int 1)) (Zd 0))) δ (wD Q λq=>1+w q):=by
 rw[Zo1]at hi⊢
 exact Zc3 (cs:=[]) Q (λq=>.int (w q)) (λq=>.int (1+w q)) (Zae (Za hi)) (by omega) hb λq hq=>Yp Z0 Za
theorem Zqj{n:Nat}{R:Nat->Nat->Int}{b:Int}{r:List Int}(h3:3≤n)(hn:n≤10)(h:Pm n r)(z:r.getD 0 0=0)(lt:r.getD 1 0<r.getD (n-1) 0)(hb:0<b)(bb:Bt 300 b)(W:Rw n R)(nb:Zwy n R r=none) :
  ∃C,Told Yn [tbD (Zci n R b),Zj r] (.tuple [.str "ring",Zgp C])∧Told Y9 [.int n,Zgp C,.int b] (.bool true)∧Told W5 [.int n,Zgp C,.int b,Ym n R] (.bool true):=by
 have T:=Zgq h (h.ringB h3 z lt) hn hb bb W
 unfold Zu6 at T
 rw[nb]at T
 have pm:(sCt (cL n R r b (Z1 n))).Perm (cL n R r b (Z1 n)):=Zlc _ _ _
 have l:=Ztp n R r b (Z1 n)
 have l2:=Zhn n hn
 refine⟨_,T,Znd (by rw[pm.length_eq];omega) (λc hc=>Zon h z hn hb bb W (pm.mem_iff.mp hc)) (Z7d (Z7g h hn)),Z7q hn (λc hc=>(Zon h z hn hb bb W (pm.mem_iff.mp hc)).2) λi j hi hj=>?_⟩
 unfold wsum
 rw[Zwj _ pm]
 exact Z7p h hb W (λq hq=>Ue.mp λc=>Vp.mp nb q hq (decide_eq_true c)) hi hj
theorem Zwo(ns:List Int)(hl:ns.length≤63):Zfg [.list (ns.map Xk)]= .ok (.fz (.bool true)):=by
 show Zfg [Zj ns]=_
 obtain⟨c0,e0⟩:=Zds ns (k:=0) (by decide)
 obtain⟨c1,e1⟩:=Zds ns (k:=1) (by decide)
 obtain⟨c2,e2⟩:=Zds ns (k:=2) (by decide)
 obtain⟨c3,e3⟩:=Zds ns (k:=3) (by decide)
 obtain⟨n,en,h3,hn⟩:∃n:Nat,Ju [.int c0,.int 3,.int 6,.int 8]= .ok (.fz (.int n))∧3≤n∧n≤8:=by
  obtain⟨m,e,h1,h2⟩:=Z2v c0 (a:=3) (b:=6) (d:=8) (by decide) (by decide)
  exact⟨m.toNat,by rw[e,U3 (by omega)],by omega,by omega⟩
 have n10:n≤10:=by omega
 obtain⟨b,eb,hb,bb⟩:=Zw3 c1
 have bb3:Bt 300 b:=bb.mono (by decide)
 obtain⟨p,Tr,pm,z,lt⟩:=Znn c2 h3 n10
 have rb:=pm.ringB h3 z lt
 have Ts:=Zwb pm.len n10
 obtain⟨Q,hQ⟩:∃Q,Q=Z1 n:=⟨_,rfl⟩
 have lQ:Q.length≤60:=hQ▸Zhn n n10
 have nd:Q.Nodup:=hQ▸Zh5 n n10
 obtain⟨v1,Tw,lw,bw⟩:=Zcl ns 4 n c1 n10
 obtain⟨v2,To,lo,bo⟩:=Zcl ns (4+Q.length) n (c1+1) n10
 obtain⟨w0,rfl⟩:=Z6q nd (vs:=v1) (by rw[lw,hQ,Zrg n n10])
 obtain⟨o,rfl⟩:=Z6q nd (vs:=v2) (by rw[lo,hQ,Zrg n n10])
 obtain⟨E,hE⟩:∃E:(Nat×Nat->Int)->Zi,E= λw=>[some (.fz (Zj ns)),some (.fz (.int n)),some (.fz (.int c1)),some (.fz (.int b)),some (.fz (Zj p)),some (.fz (.list ((Q.map λq=>Z5 (sd p q)).map Zj))),some (.fz (wD Q w)),some (.fz (wD Q o)),none,none,none,none,none,none,none,none,none,none]:=⟨_,rfl⟩
 obtain⟨w,bw,up,s8⟩:∃w:Nat×Nat->Int,(∀q∈Q,0≤w q∧w q≤B20)∧(n=8->∀q∈Q,0<w q)∧Jv (tV (Zf gEq (Zd 1) (fC (.int 8)))) (wE (Wj 1 [] (Zgi (Zd 6)) (gNm 0) Zg2 (Zf Zau (fC (.int 1)) (Zd 0))) (Y6 6)) fNx (E w0)= .nx (E w):=by
  have t:=Jx (Zia (δ:=E w0) (Za (i:=1) (d:=.int n) (hE▸rfl)) (Z0 (d:=.int 8)) rfl)
  have b0:∀q∈Q,0≤w0 q∧w0 q<B20:=λq hq=>bw _ (List.mem_map_of_mem hq)
  by_cases c:(n:Int)=8
  ·rw[decide_eq_true c]at t
   refine⟨λq=>1+w0 q,λq hq=>?_,λ_ q hq=>?_,Zbh t ((Zt (Z8p (δ:=E w0) (w:=w0) (i:=6) lQ (by rw[hE];rfl) (by rw[hE];rfl))).trans (by rw[hE];rfl))⟩
   ·have:=b0 q hq;show 0≤1+w0 q∧1+w0 q≤B20;omega
   ·have:=b0 q hq;show 0<1+w0 q;omega
  ·rw[decide_eq_false c]at t
   exact⟨w0,λq hq=>⟨(b0 q hq).1,Int.le_of_lt (b0 q hq).2⟩,λe=>absurd (by omega) c,Zw t rfl⟩
 have bo:∀q∈Q,0≤o q∧o q<B20:=λq hq=>bo _ (List.mem_map_of_mem hq)
 have B0:B20=100000000000000000000:=rfl
 have zq:∀w:Nat×Nat->Int,(Q.map λq=>Z5 (sd p q)).zip (Q.map w)=rz n p w:=λw=>by rw[hQ,List.zip_map'];rfl
 have ls:(Q.map λq=>Z5 (sd p q)).length≤60:=by rw[Xj];exact lQ
 have rt:∀w:Nat×Nat->Int,(∀q∈Q,0≤w q∧w q<1000*B20)->Told Y5 [.int n,.list ((Q.map λq=>Z5 (sd p q)).map Zj),wD Q w] (Ym n (cz (rz n p w)))∧Rw n (cz (rz n p w)):=λw h=>by
  have:=Zri n10 (vs:=Q.map w) ls λv hv=>by obtain⟨q,hq,rfl⟩:=Qc.mp hv;exact h q hq
  rw[zq]at this
  exact this
 have wt:∀(w:Nat×Nat->Int) {b:Int},0<b->Bt 400 b->Told Yr [.list ((Q.map λq=>Z5 (sd p q)).map Zj),wD Q w,.int b] (Zgp (sCt (wL (rz n p w) b))):=λw b hb bb=>by
  have:=Znx (vs:=Q.map w) ls hb bb
  rw[zq]at this
  exact this
 obtain⟨T1,W1⟩:=rt w λq hq=>by have:=bw q hq;omega
 obtain⟨T2,W2⟩:=rt o λq hq=>by have:=bo q hq;omega
 obtain⟨T3,W3⟩:=rt (λq=>w q+o q) λq hq=>by have:=bw q hq;have:=bo q hq;show 0≤w q+o q∧w q+o q<_;omega
 have BQt:∀{R:Nat->Nat->Int},Rw n R->∀i j,i<n->j<n->BQ 400 (Xv (R i j) b):=λW i j hi hj=>BQ.div (by omega) ((W.bt i j hi hj).mono (by decide)) (bb.mono (by decide))
 have Ta:Told Za2 [tbD (Zci n (cz (rz n p w)) b),tbD (Zci n (cz (rz n p o)) b)] (tbD (Zci n (cz (rz n p λq=>w q+o q)) b)):=by
  rw[Zl7,Zl7,Zl7,Zoa (f:=λi j=>Xv (cz (rz n p λq=>w q+o q) i j) b) (g:=λi j=>Xv (cz (rz n p w) i j) b+Xv (cz (rz n p o) i j) b) λi j _ _=>by rw[Z03 hb,Z4j]]
  exact Zwd n10 (BQt W1) (BQt W2)
 have w3:∀q∈Z1 n,0≤w q+o q:=λq hq=>by have:=bw q (hQ▸hq);have:=bo q (hQ▸hq);omega
 have Tt:=Zlu pm rb n10 (w:=λq=>w q+o q) w3 hb bb3 W3
 -- so many times
 obtain⟨t,ht,m,hm⟩:∃t,t=c3.fmod 50∧∃m,m=1+(c3.fdiv 50).fmod 9:=⟨_,rfl,_,rfl⟩
 have t0:0≤t∧t<50:=ht▸⟨Zca (by decide),Zb1 (by decide)⟩
 have m0:0<m∧m<10:=by
  have h1:=Zca (i:=c3.fdiv 50) (j:=9) (by decide)
  have h2:=Zb1 (i:=c3.fdiv 50) (j:=9) (by decide)
  omega
 have bt7:∀x:Int,0≤x->x<50->Bt 7 x:=λx h0 h1=>Bt.of_lt (by omega) (by omega)
 have Tl:=Zdt (n:=7) (t:=t) m0.1 (bt7 m (by omega) (by omega))
 obtain⟨q,hq⟩:∃q,q=Xv t m:=⟨_,rfl⟩
 rw[←hq]at Tl
 have q0:0≤q.num:=hq▸(Z04 m0.1).2 t0.1
 have bq:BQ 7 q:=hq▸BQ.div (by omega) (bt7 t t0.1 t0.2) (bt7 m (by omega) (by omega))
 have qn:q.num<128:=by
  have:=bq.1
  unfold Bt at this
  have:(2:Nat)^7=128:=by decide
  omega
 have w4:∀x∈Q,0≤w x*q.num∧w x*q.num<1000*B20:=λx hx=>by
  have h1:=bw x hx
  have h2:w x*q.num≤B20*q.num:=Int.mul_le_mul_of_nonneg_right h1.2 q0
  have h3:B20*q.num≤B20*127:=Int.mul_le_mul_of_nonneg_left (by omega) (by decide)
  exact⟨Int.mul_nonneg h1.1 q0,by omega⟩
 obtain⟨_,W4⟩:=rt (λx=>w x*q.num) w4
 have dp:=J4 q
 have hb4:0<b*(q.den:Int):=Int.mul_pos hb dp
 have bb4:Bt 300 (b*(q.den:Int)):=(bb.mul bq.2).mono (by decide)
 have Tm:Told Wo [frD q,tbD (Zci n (cz (rz n p w)) b)] (tbD (Zci n (cz (rz n p λx=>w x*q.num)) (b*(q.den:Int)))):=by
  rw[Zl7,Zl7,Zoa (f:=λi j=>Xv (cz (rz n p λx=>w x*q.num) i j) (b*(q.den:Int))) (g:=λi j=>q*Xv (cz (rz n p w) i j) b) λi j _ _=>by rw[Z0i,Z38]]
  exact Zis n10 q0 (bq.mono (by decide)) (BQt W1)
 have Tt4:=Zlu pm rb n10 (w:=λx=>w x*q.num) (λx hx=>(w4 x (hQ▸hx)).1) hb4 bb4 W4
 have w100:∀x∈Q,Bt 100 (w x):=λx hx=>by
  have h:=bw x hx
  have:B20<2^100:=by decide +kernel
  have:(0:Int)<2^100:=by decide +kernel
  exact Bt.of_lt (by omega) (by omega)
 -- the first ring
 obtain⟨ro,Tf,okf,first⟩:=Zkw h3 hn hb bb3 W3
 obtain⟨r,rfl,hr⟩:=first p pm z lt (Zpl pm n10 w3)
 obtain⟨pr,zr,ltr,nbr⟩:=okf r rfl
 have Tf:Told Wz [tbD (Zci n (cz (rz n p λq=>w q+o q)) b)] (Zj r):=Tf
 obtain⟨C,Tc,Ac,Sc⟩:=Zqj h3 n10 pr zr ltr hb bb3 W3 nbr
 have ngt:ltI p r=false:=Vj.mpr λy=>by
  have ir:=Zm5 p
  rcases hr with rfl|h2
  ·rw[y]at ir;cases ir
  ·rw[Zq4 y h2]at ir;cases ir
 have uq1:n=8->r=p:=λe=>Ztq (by omega) W3 pm z lt pr zr ltr (λx hx=>by
   rw[Zkn pm n10 _ hx]
   have:=up e x (hQ▸hx)
   have:=bo x (hQ▸hx)
   show 0<2*(w x+o x)
   omega) λx hx=>Ue.mp λc=>Vp.mp nbr x hx (decide_eq_true c)
 refine Told.ok (Zx rfl ?_)
 refine Zo (Zt (Zk (Zb (Zk (Zb Za (Zb Z0 Zh)) (.of e0 (OT.data_fz _))) (Zb Z0 (Zb Z0 (Zb Z0 Zh)))) (.of en (OT.data_fz _))))<|Zo (Zt (Zk (Zb Za (Zb Z0 Zh)) (.of e1 (OT.data_fz _))))<|
  Zo (Zt (Wd (Zmf (Zb Z0 (Zb Z0 (Zb Z0 (Zb (Yp (Zr Z0 Z0 Yep) Z0) Zh)))) (show 4≤1000 by decide)) (Jy (Zb4 Za Z0) Z0 (by decide)) eb))<|
  Zo (Zt (Zk (Zb (Zk (Zb Za (Zb Z0 Zh)) (.of e2 (OT.data_fz _))) (Zb Za Zh)) Tr))<|Zo (Zt (Zk (Zb Za Zh) (hQ▸Ts)))<|
  Zo (Zt (Zk (Zb Za (Zb Z0 (Zb Za (Zb Za Zh)))) Tw))<|
  Zo (δ':=E w0) ((Zt (Zk (Zb Za (Zb (EvV.cast (y:=.int ((4+Q.length:Nat):Int)) (Yp (Z0 (d:=.int 4)) (Zq8 (ds:=(Q.map λq=>Z5 (sd p q)).map Zj) Za)) (by rw[Xj,Xj];rfl)) (Zb Za (Zb (Yp Za Z0) Zh)))) To)).trans (by rw[hE];rfl))<|Zo s8 ?_
 rw[hE]
 refine Zo (Zt (Zz4 (w:=w) (o:=o) lQ rfl rfl rfl))<|Zo (Zt (Zk (Zb Za (Zb Za (Zb Za Zh))) T3))<|
  Zo (Zt (Zk (Zb (Zk (Zb Za (Zb Za (Zb Za Zh))) T1) (Zb Za Zh)) (Zdd n10 _ hb bb3)))<|
  Zo (Zt (Zk (Zb Za (Zb (Zk (Zb (Zk (Zb Za (Zb Za (Zb Za Zh))) T2) (Zb Za Zh)) (Zdd n10 _ hb bb3)) Zh)) Ta))<|
  Zo (Zt (Zbj (Zb Z0 (Zb (Zk (Zb Za (Zb Za (Zb Za Zh))) (wt (λq=>w q+o q) hb (bb.mono (by decide)))) Zh)) (show 2≤1000 by decide)))<|
  Zo (Zw (Zmc (Zex (p:=true) (Zbl (Zk (Zb Za (Zb (Zk (Zb Za (Zb Za Zh)) (Zdd n10 _ hb bb3)) Zh)) (Zvi 4 _)))) (Zex (p:=true) (Zbl (Zk (Zb (Zk (Zb Za (Zb Za Zh)) Tt) (Zb Za Zh)) (Zl4 3 _))))) rfl)<|
  Zo (Zt (Zk (Zb (EvV.cast (Jy (Zk (Zb Za (Zb Z0 Zh)) (.of e3 (OT.data_fz _))) Z0 (by decide)) (congrArg Xk ht.symm)) (Zb (EvV.cast (Yp Z0 (Jy (Zb4 (Zk (Zb Za (Zb Z0 Zh)) (.of e3 (OT.data_fz _))) Z0) Z0 (by decide))) (congrArg Xk hm.symm)) Zh)) Tl))<|
  Zo (Zt (Zzw (i:=6) lQ w100 (bq.1.mono (by decide)) rfl rfl))<|
  Zo (Zw (Zex (p:=true) (Zbl (Zk (Zb (Zk (Zb (Zk (Zb Za (Zb Za Zh)) Tm) (Zb Za Zh)) Tt4) (Zb (Zbj (Zb Z0 (Zb (Zk (Zb Za (Zb Za (Zb (Zec Za (Zgh Za) bb bq.2) Zh))) (wt (λx=>w x*q.num) hb4 (bb4.mono (by decide)))) Zh)) (show 2≤1000 by decide)) Zh)) (Zl4 3 _)))) rfl)<|
  Zo (Zt (Zk (Zb Za Zh) Tf))<|Zo (Zw (Zmc (Zex (p:=true) (Zbl (Zc2 (Za (i:=15) (d:=Zj r) rfl) rfl))) (Zmc (Jx (Zr (Za (i:=15) (d:=Zj r) rfl) (Za (i:=4) (d:=Zj p) rfl) ((Zrr r p).trans (by rw[ngt])))) ?_)) rfl)<|
  Zo (Z7n (Zk (Zb Za (Zb Za Zh)) Tc) rfl)<|Yc (Zdm (Zr Za Z0 (Zo2 Zt7).2) (Zdm (Zk (Zb Za (Zb Za (Zb Za Zh))) Ac) (Zk (Zb Za (Zb Za (Zb Za (Zb Za Zh)))) Sc)))
 by_cases c:(n:Int)=8
 ·exact Zn1 (Jx (Zia (Za (i:=1) (d:=.int n) rfl) Z0 (decide_eq_true c))) (Jx (Zr (Za (i:=15) (d:=Zj r) rfl) (Za (i:=4) (d:=Zj p) rfl) (by rw[uq1 (by omega),Zg8,decide_eq_true rfl];rfl)))
 ·exact Znm (Jx (Zia (Za (i:=1) (d:=.int n) rfl) Z0 (decide_eq_false c)))
end My
namespace L2
open PySem PySem.Spec PyProof.Rows
structure Ei(K:Xc)(x:Str)(st:Stmt)(f:Addr)(fd:XR):Prop where
 a:QM K Ql x=some (some (.ref f))
 F:Fun K x x st f fd
structure En(K:Xc)(mg:Str->Option Xd)(x:Str)(st:Stmt)(ps:List Str)(f:Addr)(fd:XR):Prop where
 F:Fun K x x st f fd
 b:Binds K fd ps []
 m:mg x=some (.ref f)
structure Ec(K:Xc)(mg:Str->Option Xd)(x:Str)(f:Addr):Prop where
 m:mg x=some (.ref f)
 a:ClsAt K x f
section
variable {K:Xc}{h:Heap}{mg:Str->Option Xd}{x:Str}{st:Stmt}{f:Addr}{fd:XR}
theorem en0(X:K.In h)(G:h.Ns Ql mg)(q:Ei K x st f fd){ps:List Str}(hb:∀(kV doc pm:Xd) (an:Option Addr) (cdv ct:Xd) (us:List Xd),us.length=ps.length->bindArgs (VF x x (Zf6 st) (Zcc st) (Zm st) .none kV doc pm an cdv ct) ⟨us,[]⟩=pure (ps.zip us)):En K mg x st ps f fd:=⟨q.F,q.F.binds hb,PySem.W.mg_of X G q.a⟩
noncomputable abbrev Bd(x:Str)(st:Stmt)(ps:List Str)(us:List Xd):Prop:=∀(kV doc pm:Xd) (an:Option Addr) (cdv ct:Xd),bindArgs (VF x x (Zf6 st) (Zcc st) (Zm st) .none kV doc pm an cdv ct) ⟨us,[]⟩=pure (ps.zip us)
theorem l_c{us:List Xd}{n:Nat}(h:us.length=n+1):∃u vs,us=u :: vs∧vs.length=n:=by
 cases us with
 | nil=>cases h
 | cons u vs=>exact⟨u,vs,rfl,Nat.succ.inj h⟩
theorem en1(X:K.In h)(G:h.Ns Ql mg)(q:Ei K x st f fd){p0:Str}(hb:∀v0,Bd x st [p0] [v0]:=by exact λ_ _ _ _ _ _ _=>rfl):En K mg x st [p0] f fd:=en0 X G q λa b c d e g us hl=>by
 have h0:us.length=1:=hl
 obtain⟨u0,us0,e0,h1⟩:=l_c h0
 cases Bu h1
 subst e0
 exact hb u0 a b c d e g
theorem en2(X:K.In h)(G:h.Ns Ql mg)(q:Ei K x st f fd){p0 p1:Str}(hb:∀v0 v1,Bd x st [p0,p1] [v0,v1]:=by exact λ_ _ _ _ _ _ _ _=>rfl):En K mg x st [p0,p1] f fd:=en0 X G q λa b c d e g us hl=>by
 have h0:us.length=2:=hl
 obtain⟨u0,us0,e0,h1⟩:=l_c h0
 obtain⟨u1,us1,e1,h2⟩:=l_c h1
 cases Bu h2
 subst e1
 subst e0
 exact hb u0 u1 a b c d e g
theorem en3(X:K.In h)(G:h.Ns Ql mg)(q:Ei K x st f fd){p0 p1 p2:Str}(hb:∀v0 v1 v2,Bd x st [p0,p1,p2] [v0,v1,v2]:=by exact λ_ _ _ _ _ _ _ _ _=>rfl):En K mg x st [p0,p1,p2] f fd:=en0 X G q λa b c d e g us hl=>by
 have h0:us.length=3:=hl
 obtain⟨u0,us0,e0,h1⟩:=l_c h0
 obtain⟨u1,us1,e1,h2⟩:=l_c h1
 obtain⟨u2,us2,e2,h3⟩:=l_c h2
 cases Bu h3
 subst e2
 subst e1
 subst e0
 exact hb u0 u1 u2 a b c d e g
theorem en4(X:K.In h)(G:h.Ns Ql mg)(q:Ei K x st f fd){p0 p1 p2 p3:Str}(hb:∀v0 v1 v2 v3,Bd x st [p0,p1,p2,p3] [v0,v1,v2,v3]:=by exact λ_ _ _ _ _ _ _ _ _ _=>rfl):En K mg x st [p0,p1,p2,p3] f fd:=en0 X G q λa b c d e g us hl=>by
 have h0:us.length=4:=hl
 obtain⟨u0,us0,e0,h1⟩:=l_c h0
 obtain⟨u1,us1,e1,h2⟩:=l_c h1
 obtain⟨u2,us2,e2,h3⟩:=l_c h2
 obtain⟨u3,us3,e3,h4⟩:=l_c h3
 cases Bu h4
 subst e3
 subst e2
 subst e1
 subst e0
 exact hb u0 u1 u2 u3 a b c d e g
theorem ec(X:K.In h)(G:h.Ns Ql mg)(a:QM K Ql x=some (some (.ref f))):Ec K mg x f:=⟨PySem.W.mg_of X G a,a⟩
end
theorem fsc{N P:List Str}{sc:Uy}(h1:sc.kind= .function:=by rfl)(h2:sc.isCoroutine=false:=by rfl)(h3:sc.isGenerator=false:=by rfl)(h4:N.Nodup:=by decide +kernel)(h5:N.take P.length=P:=by rfl)(h6:∀x∈P,sc.names.lookup x=some .local∨sc.names.lookup x=some .cell:=by decide +kernel)(h7:∀y∈sc.names,y.2≠ .free:=by decide +kernel):Zv N P sc:=⟨h1,h2,h3,h4,h5,h6,h7⟩
section
variable {X:Cx}{io:List Nat}{st:Stmt}{sts ss ss':List Stmt}{f g:FS}{e:Expr}{es:List Expr}{p c:Bool}{ta:FT}{pos:Pos}{ra:FA}
noncomputable abbrev BS(X:Cx)(io:List Nat)(st:Stmt)(f:FS):Prop:=MS X io st (oS f)∧XS X io st (xS X.K f)
noncomputable abbrev BSs(X:Cx)(io:List Nat)(sts:List Stmt)(f:FS):Prop:=MSs X io sts (oS f)∧XSs X io sts (xS X.K f)
end
section
variable {X:Cx}{io:List Nat}{e:Expr}{es:List Expr}{p c:Bool}{ra:FA}{pos pp:Pos}{k k':Nat}{f:Addr}{fd:XR}{ps:List Str}{x:Str}{F:FD}{st:Stmt}
theorem xce(G:FnOk X.prog X.w X.K X.mg X.base CX0 k f fd ps (spD X.K (sD F)))(hr:Room k' X.A)(E:En X.K X.mg x st ps f fd)(ha:MA X io p c (e :: es) (o2 ra))(hle:k≤k':=by decide)(hg:Gl X x:=by rfl)(h1:(x==("__debug__" : Str))=false:=by decide)(h2:Xp (e :: es) X.env=(false,eval e X.env) :: Xp es X.env:=by rfl)(h3:((JM pos (Xp es X.env)).any λx=>x.fst)=false:=by rfl):ME X io p c (.Call (.Name x pp) (e :: es) [] pos) (o2 (Zu F ra)):=xcl G (hr.mono hle) E.m E.F.kp E.b ha hg h1 h2 h3
end
section
variable {X:Cx}{io:List Nat}{p ci pt pe:Bool}{tg iter elt:Expr}{ifs:List Expr}{sc:Uy}{pos:Pos}{mi:MIt}{g:MGt}{mt:MTt}{me:MEt}
theorem Zgz(own:List Str)(caps:List Nat)(N':List Str)(hi:MI X io p ci tg iter mi)
  (hg:∀C cells s₂ H₂ fp,MG (Wg X N' sc C cells s₂ H₂ fp) (Zbm own.length caps) ci tg g) (ht:∀C cells s₂ H₂ fp,MIfs (Wg X N' sc C cells s₂ H₂ fp) (Zbm own.length caps) pt ifs mt) (he:∀C cells s₂ H₂ fp,ME (Wg X N' sc C cells s₂ H₂ fp) (Zbm own.length caps) pe true elt me)
  (S:CompScope X own caps N' sc:=by exact⟨rfl,by decide +kernel,rfl,by decide +kernel,rfl,rfl⟩) (hc:X.calm=true:=by rfl) (nd:caps.Nodup:=by decide) (hp:(pt&&pe)=true:=by rfl) (hs:∀x,BJ iter X.env x=pure x:=by intro _;rfl):ME X io p true (.ListComp elt [⟨tg,iter,ifs,0⟩] sc pos) (Zh2 own.length caps mi g mt me):=Z6c S hc nd hi hg ht he hp hs
end
end L2
namespace My
open PySem L2 PySem.Spec
noncomputable def top(i:Nat):Stmt:=PySem.Challenge.pw_farcuts_k31_rings_added.main.body.getD i (.Pass ⟨0,0,0,0⟩)
noncomputable abbrev Zej:Stmt:=top 36
noncomputable abbrev Zh0:Stmt:=top 35
noncomputable abbrev Zbb:Stmt:=top 47
noncomputable abbrev Zb6:Stmt:=top 32
noncomputable abbrev Zfr:Stmt:=top 33
noncomputable abbrev Zby:Stmt:=top 34
noncomputable abbrev Zat:Stmt:=top 41
noncomputable abbrev Zfy:Stmt:=top 42
noncomputable abbrev Jm:Stmt:=top 45
noncomputable abbrev Zfo:Stmt:=top 37
noncomputable abbrev Zfm:Stmt:=top 43
noncomputable abbrev Zeh:Stmt:=top 44
noncomputable abbrev Zgb:Stmt:=top 40
noncomputable abbrev Zco:Stmt:=top 46
noncomputable abbrev Zem:Stmt:=top 38
noncomputable abbrev Zbc:Stmt:=top 39
noncomputable abbrev Jo:Stmt:=top 7
noncomputable abbrev Zft:Stmt:=top 8
noncomputable abbrev Zrh:Stmt:=top 10
noncomputable abbrev Znt:Stmt:=top 29
noncomputable abbrev Zbg:Stmt:=top 23
noncomputable abbrev Zga:Stmt:=top 25
noncomputable abbrev Zcb:Stmt:=top 26
noncomputable abbrev Za0:Stmt:=top 16
noncomputable abbrev Zbe:Stmt:=top 18
noncomputable abbrev Zek:Stmt:=top 17
noncomputable abbrev Zcs:Stmt:=top 19
noncomputable abbrev Zdb:Stmt:=top 27
noncomputable abbrev Zf9:Stmt:=top 6
noncomputable abbrev Zic:Stmt:=top 21
noncomputable abbrev Zc4:Stmt:=top 22
noncomputable abbrev Zfz:Stmt:=top 9
noncomputable abbrev Zfw:Stmt:=top 14
noncomputable abbrev Zep:Stmt:=top 24
noncomputable abbrev Zfp:Stmt:=top 12
noncomputable abbrev Zm4:Stmt:=top 11
noncomputable abbrev Zb9:Stmt:=top 30
noncomputable abbrev Z0y:Stmt:=top 48
set_option genInjectivity false in
set_option genSizeOfSpec false in
structure Txt(K:Xc)(mg:Str->Option Xd)(f:Nat->Addr)(fd:Nat->XR)(cls:Nat->Addr):Prop where
 e_law_alike:En K mg "_law_alike" Zej ["found","due"] (f 0) (fd 0)
 e_law_low:En K mg "_law_low" Zh0 ["top","bottom"] (f 1) (fd 1)
 e_law_are_cuts:En K mg "_law_are_cuts" Zbb ["n","cuts","bottom"] (f 2) (fd 2)
 e_law_cell_at:En K mg "_law_cell_at" Zb6 ["script","k"] (f 3) (fd 3)
 e_law_stir:En K mg "_law_stir" Zfr ["cell","k"] (f 4) (fd 4)
 e_law_numbers:En K mg "_law_numbers" Zby ["cell","many"] (f 5) (fd 5)
 e_law_put_right:En K mg "_law_put_right" Zat ["ring"] (f 6) (fd 6)
 e_law_ring:En K mg "_law_ring" Zfy ["cell","n"] (f 7) (fd 7)
 e_law_ring_weights:En K mg "_law_ring_weights" Jm ["script","start","n","cell"] (f 8) (fd 8)
 e_law_rows:En K mg "_law_rows" Zfo ["n","sides","weights"] (f 9) (fd 9)
 e_law_gaps:En K mg "_law_gaps" Zfm ["n"] (f 10) (fd 10)
 e_law_sides:En K mg "_law_sides" Zeh ["ring"] (f 11) (fd 11)
 e_law_size:En K mg "_law_size" Zgb ["cell","least","most","great"] (f 12) (fd 12)
 e_law_sum_of:En K mg "_law_sum_of" Zco ["n","cuts","bottom","rows"] (f 13) (fd 13)
 e_law_table:En K mg "_law_table" Zem ["rows","bottom"] (f 14) (fd 14)
 e_law_weighted:En K mg "_law_weighted" Zbc ["sides","weights","bottom"] (f 15) (fd 15)
 e_greatest_divisor:En K mg "greatest_divisor" Jo ["a","b"] (f 16) (fd 16)
 e_in_least:En K mg "in_least" Zft ["top","bottom"] (f 17) (fd 17)
 e_plus:En K mg "plus" Zrh ["q","r"] (f 18) (fd 18)
 e_added:En K mg "added" Znt ["table","other"] (f 19) (fd 19)
 e_twice_weight:En K mg "twice_weight" Zbg ["rows","ring","a","b"] (f 20) (fd 20)
 e_fits_gap:En K mg "fits_gap" Zga ["rows","ring","b"] (f 21) (fd 21)
 e_first_grown:En K mg "first_grown" Zcb ["rows","begun"] (f 22) (fd 22)
 e_shared_bottom:En K mg "shared_bottom" Za0 ["numbers"] (f 23) (fd 23)
 e_table_bottom:En K mg "table_bottom" Zbe ["table"] (f 24) (fd 24)
 e_tops_over:En K mg "tops_over" Zek ["bottom","numbers"] (f 25) (fd 25)
 e_table_over:En K mg "table_over" Zcs ["bottom","table"] (f 26) (fd 26)
 e_first_ring:En K mg "first_ring" Zdb ["table"] (f 27) (fd 27)
 e_is_whole:En K mg "is_whole" Zf9 ["thing"] (f 28) (fd 28)
 e_is_ring:En K mg "is_ring" Zic ["n","ring"] (f 29) (fd 29)
 e_check_ring:En K mg "check_ring" Zc4 ["n","ring"] (f 30) (fd 30)
 e_fraction:En K mg "fraction" Zfz ["top","bottom"] (f 31) (fd 31)
 e_pairs_of:En K mg "pairs_of" Zfw ["n"] (f 32) (fd 32)
 e_ring_told:En K mg "ring_told" Zep ["table","ring"] (f 33) (fd 33)
 e_is_below:En K mg "is_below" Zfp ["q","r"] (f 34) (fd 34)
 e_times:En K mg "times" Zm4 ["q","r"] (f 35) (fd 35)
 e_times_table:En K mg "times_table" Zb9 ["q","table"] (f 36) (fd 36)
 e_law:En K mg "law" Z0y ["script"] (f 37) (fd 37)
 z_abs:mg "abs"=none
 z_bool:mg "bool"=none
 z_int:mg "int"=none
 z_isinstance:mg "isinstance"=none
 z_len:mg "len"=none
 z_list:mg "list"=none
 z_range:mg "range"=none
 z_set:mg "set"=none
 z_sorted:mg "sorted"=none
 z_str:mg "str"=none
 z_tuple:mg "tuple"=none
 z_zip:mg "zip"=none
 c_NoNumber:Ec K mg "NoNumber" (cls 0)
 c_NoOrder:Ec K mg "NoOrder" (cls 1)
 c_NoTable:Ec K mg "NoTable" (cls 2)
 x_NoNumber:Zel K (cls 0)
 x_NoOrder:Zel K (cls 1)
 x_NoTable:Zel K (cls 2)
 r_NoNumber:Zp4 K (cls 0)
 r_NoOrder:Zp4 K (cls 1)
 r_NoTable:Zp4 K (cls 2)
section
variable {P:Qa}{w:Qs}{K:Xc}{mg:Str->Option Xd}{base:Heap}
theorem Zct:Zv ["found","due","one","other"] ["found","due"] (Zm Zej):=fsc
theorem Zcq{f:Nat->Addr}{fd:Nat->XR}{cls:Nat->Addr}(T:Txt K mg f fd cls):∀k,FnOk P w K mg base CX0 (1+k) (f 0) (fd 0) ["found","due"] (spD K (sD (Zn k)))
 | 0=>Zrz λds k h=>by obtain⟨r,h,_⟩:=h;cases h
 | k+1=>by
  have G_rec:=Zcq T k
  refine Yb T.e_law_alike.F Zct (S:=We (Zn k)) rfl rfl (λcdv A outer s H E hr=>?_)
  have hu:=hr.units
  exact(Zd5 (J2 (Zkq (Zky (W7 (W8 (Jg (Zbv (by decide) (by rfl) T.z_isinstance L2.B.boot_isinstance (by rfl) T.z_int L2.B.boot_int (Z7 (mv 1)))) (λ_=>rfl))) (Zg (Zdv (Zd3 (Zed (Zm9 (Jg (Zbv (by decide) (by rfl) T.z_isinstance L2.B.boot_isinstance (by rfl) T.z_int L2.B.boot_int (Z7 (mv 0)))) (Zed (Zm9 (Zuz (Z49 (Jg (Zbv (by decide) (by rfl) T.z_isinstance L2.B.boot_isinstance (by rfl) T.z_bool L2.B.boot_bool (Z7 (mv 0)))))) (Zul (Wb Zzj (Zid (Zhm hu) Znf (Z7 (mv 0)) (Z7 (mv 1)) (hm:=(Je _)))))))))))) (Zb7 Zb0)))
   (Zd5 (J2 (Zkq (Zky (W7 (W8 (Jg (Zbv (by decide) (by rfl) T.z_isinstance L2.B.boot_isinstance (by rfl) T.z_str L2.B.boot_str (Z7 (mv 1)))) (λ_=>rfl))) (Zg (Zdv (Zd3 (Zed (Zm9 (Jg (Zbv (by decide) (by rfl) T.z_isinstance L2.B.boot_isinstance (by rfl) T.z_str L2.B.boot_str (Z7 (mv 0)))) (Zul (Wb Zzj (Zid (Zhm hu) Znf (Z7 (mv 0)) (Z7 (mv 1)) (hm:=(Je _)))))))))) (Zb7 Zb0)))
   (Zd5 (J2 (Zkq (Zky (MW.mt (Zcj (Zch (Za9 Z8d (Za1 (Zn9 hu) Zv8 (Jg (Zbv (by decide) (by rfl) T.z_isinstance L2.B.boot_isinstance (by rfl) T.z_tuple L2.B.boot_tuple (Z7 (mv 1)))) (Jg (Zbv (by decide) (by rfl) T.z_isinstance L2.B.boot_isinstance (by rfl) T.z_tuple L2.B.boot_tuple (Z7 (mv 0)))) (hm:=(Je _)))) (Zde (Za9 Z8d (Za1 (Zn9 hu) Zv8 (Jg (Zbv (by decide) (by rfl) T.z_isinstance L2.B.boot_isinstance (by rfl) T.z_list L2.B.boot_list (Z7 (mv 1)))) (Jg (Zbv (by decide) (by rfl) T.z_isinstance L2.B.boot_isinstance (by rfl) T.z_list L2.B.boot_list (Z7 (mv 0)))) (hm:=(Je _)))))))) (Zg (Zdv (Zd3 (Zcp Zbo)))) (Zb7 Zb0)))
   (Zd5 (J2 (Zkq (Zky (Za9 Z8d (Za1 (Zn9 hu) Zv8 (Zeu Zp5 (Zkc Zje (Zbi rfl) (by rfl) T.z_len L2.B.boot_len (Ze (Z7 (mv 0)) (Za8 Za7)))) (Zeu Zp5 (Zkc Zje (Zbi rfl) (by rfl) T.z_len L2.B.boot_len (Ze (Z7 (mv 1)) (Za8 Za7)))) (hm:=(Je _)))) (Zg (Zdv (Zd3 (Zcp Zbo)))) (Zb7 Zb0)))
   (Zd5 (J2 (Zro (Zs1 Qe rfl (Zgc (Zf1 (by rfl) T.z_zip L2.B.boot_zip (Ze (Z7 (mv 0)) (Ze (Z7 (mv 1)) (Za8 Za7))))) (Zy1 (Zy2 (n:=2) (by rfl) (Zg3 (Zhd (Zkk (Zjl (i:=2) Zct.nd)) (Zg3 (Zhd (Zkk (Zjl (i:=3) Zct.nd)) (Zuu Ztm)))))))
   (Zg (Zkq (Zky (Zyr (Zxy (W7 (W8 (Zhh (Zmg G_rec hr (by rfl) T.e_law_alike.m T.e_law_alike.F.kp T.e_law_alike.b Zuw (Ze (Z7 (mv 2)) (Ze (Z7 (mv 3)) (Za8 Za7))))) (λ_=>rfl))))) (Zg (Zdv (Zd3 (Zcp Zbo)))) (Zb7 Zb0))))))
   (Zg (Zdv (Zd3 (Zcp Zbo))))))))))))))
theorem Zl3{f:Nat->Addr}{fd:Nat->XR}{cls:Nat->Addr}(T:Txt K mg f fd cls):FnOk P w K mg base CX0 9 (f 0) (fd 0) ["found","due"] (spD K (sD (Zn 8))):=Zcq T 8
theorem Zah:Zv ["top","bottom","one","other","left"] ["top","bottom"] (Zm Zh0):=fsc
theorem Zdo{f:Nat->Addr}{fd:Nat->XR}{cls:Nat->Addr}(T:Txt K mg f fd cls):FnOk P w K mg base CX0 1 (f 1) (fd 1) ["top","bottom"] (spD K (sD Yt)):=by
 refine Yb T.e_law_low.F Zah (S:=Zdw) rfl rfl (λcdv A outer s H E hr=>?_)
 have hu:=hr.units
 exact(xsq (xst 2 Zah.nd (Zeu Z2g (Zkc Zsw Zk0 (by rfl) T.z_abs L2.B.boot_abs (xa1 (xv 0))))) (xsq (xst 3 Zah.nd (xv 1)) (xsq (Zoe (Zpq Qe (xne hu (xv 3) xci) (xsq (xst 4 Zah.nd (Zk6 (xv 2) (xv 3))) (xsq (xst 2 Zah.nd (xv 3)) (Zg (xst 3 Zah.nd (xv 4))))))) (Zg (xrt (xtp (Ze (Zou (xv 0) (xv 2)) (xa1 (Zou (xv 1) (xv 2))))))))))
theorem Jq:Zv ["n","cuts","bottom","one","side","weight"] ["n","cuts","bottom"] (Zm Zbb):=fsc
theorem Zij{f:Nat->Addr}{fd:Nat->XR}{cls:Nat->Addr}(T:Txt K mg f fd cls):FnOk P w K mg base CX0 2 (f 2) (fd 2) ["n","cuts","bottom"] (spD K (sD Y9)):=by
 have G_law_low:=Zdo (P:=P) (w:=w) (base:=base) T
 refine Yb T.e_law_are_cuts.F Jq (S:=Zaw) rfl rfl (λcdv A outer s H E hr=>?_)
 have hu:=hr.units
 exact(xsq (xif (xno (W7 (W8 (Jg (Zbv (by decide) (by rfl) T.z_isinstance L2.B.boot_isinstance (by rfl) T.z_list L2.B.boot_list (xv 1))) (λ_=>rfl)))) (Zg (xrt (Zcp Zbo))) xnl) (xsq (xfr Qe rfl (xil (xv 1)) (xg 3 Jq.nd) (xsq (xif (MW.mt (Zcj (Zch (xno (W7 (W8 (Jg (Zbv (by decide) (by rfl) T.z_isinstance L2.B.boot_isinstance (by rfl) T.z_tuple L2.B.boot_tuple (xv 3))) (λ_=>rfl)))) (Zcj (Zch (xne hu (xln T.z_len (xa1 (xv 3))) xci) (Zde (xno (W7 (W8 (Jg (Zbv (by decide) (by rfl) T.z_isinstance L2.B.boot_isinstance (by rfl) T.z_list L2.B.boot_list (xix (xv 3) xci))) (λ_=>rfl)))))))))) (Zg (xrt (Zcp Zbo))) xnl) (xsq (xst 4 Jq.nd (xix (xv 3) xci)) (xsq (xif (xne hu (J8 (Zgz ["point"] [] ["point"] (xil (xv 4)) (λ_ _ _ _ _=>(xg 0 (by show Q8 (["point"]:List Str);decide +kernel))) (λ_ _ _ _ _=>(Zj2 (MW.mt (Zcj (Zch (W7 (W8 (Jg (Zbv (by decide) (by rfl) T.z_isinstance L2.B.boot_isinstance (by rfl) T.z_bool L2.B.boot_bool (xv 0))) (λ_=>rfl))) (Zde (xno (W7 (W8 (Jg (Zbv (by decide) (by rfl) T.z_isinstance L2.B.boot_isinstance (by rfl) T.z_int L2.B.boot_int (xv 0))) (λ_=>rfl)))))))))) (λ_ _ _ _ _=>(xv 0)))) (xls xa0)) (Zg (xrt (Zcp Zbo))) xnl) (xsq (xif (MW.mt (Zcj (Zch (xne hu (xv 4) (Zqc (Zre (by rfl) (by rfl) T.z_sorted L2.B.boot_sorted (by rfl) T.z_set L2.B.boot_set (xa1 (xv 4))))) (Zcj (Zch (xeq hu (xv 4) (xls xa0)) (Zcj (Zch (xlt (xix (xv 4) xci) xci) (Zde (xge (xix (xv 4) (Zjg (Zp3 xci))) (xv 0)))))))))) (Zg (xrt (Zcp Zbo))) xnl) (xsq (xst 5 Jq.nd (xix (xv 3) xci)) (xsq (xif (MW.mt (Zcj (Zch (xno (W7 (W8 (Jg (Zbv (by decide) (by rfl) T.z_isinstance L2.B.boot_isinstance (by rfl) T.z_tuple L2.B.boot_tuple (xv 5))) (λ_=>rfl)))) (Zde (xne hu (xln T.z_len (xa1 (xv 5))) xci))))) (Zg (xrt (Zcp Zbo))) xnl) (xsq (xif (xne hu (J8 (Zgz ["part"] [] ["part"] (Z4k (Z53 (xv 5))) (λ_ _ _ _ _=>(xg 0 (by show Q8 (["part"]:List Str);decide +kernel))) (λ_ _ _ _ _=>(Zj2 (MW.mt (Zcj (Zch (W7 (W8 (Jg (Zbv (by decide) (by rfl) T.z_isinstance L2.B.boot_isinstance (by rfl) T.z_bool L2.B.boot_bool (xv 0))) (λ_=>rfl))) (Zde (xno (W7 (W8 (Jg (Zbv (by decide) (by rfl) T.z_isinstance L2.B.boot_isinstance (by rfl) T.z_int L2.B.boot_int (xv 0))) (λ_=>rfl)))))))))) (λ_ _ _ _ _=>(xv 0)))) (xls xa0)) (Zg (xrt (Zcp Zbo))) xnl) (Zg (xif (MW.mt (Zcj (Zch (xlt (xix (xv 5) xci) xci) (Zcj (Zch (xlt (xix (xv 5) xci) xci) (Zcj (Zch (xne hu (xce G_law_low hr T.e_law_low (Ze (xix (xv 5) xci) (xa1 (xix (xv 5) xci)))) (xv 5)) (Zde (xgt (Zk6 (Zil xci (xv 2)) (xix (xv 5) xci)) xci))))))))) (Zg (xrt (Zcp Zbo))) xnl)))))))))) (Zg (xrt (Wb Zzj (Zid (Zhm hu) Znf (J8 (Zgz ["k"] [1] ["k","cuts"] (Zvt (Zet (by rfl) T.z_range (Ze xci (xa1 (xln T.z_len (xa1 (xv 1))))))) (λ_ _ _ _ _=>(xg 0 (by show Q8 (["k","cuts"]:List Str);decide +kernel))) (λ_ _ _ _ _=>(Zj2 (Za9 Yam (Za1 (Z6y hu) Z43 (xix (xix (xv 1) (Z27 (xv 0) xci)) xci) (xix (xix (xv 1) (xv 0)) xci) (hm:=(Je _)))))) (λ_ _ _ _ _=>(xv 0)))) (xls xa0) (hm:=(Je _))))))))
theorem Zim:Zv ["script","k"] ["script","k"] (Zm Zb6):=fsc
theorem Zio{f:Nat->Addr}{fd:Nat->XR}{cls:Nat->Addr}(T:Txt K mg f fd cls):FnOk P w K mg base CX0 1 (f 3) (fd 3) ["script","k"] (spD K (sD Z9)):=by
 refine Yb T.e_law_cell_at.F Zim (S:=Zba) rfl rfl (λcdv A outer s H E hr=>?_)
 exact(xsq (xif (xlt (xv 1) (xln T.z_len (xa1 (xv 0)))) (Zg (xrt (xix (xv 0) (xv 1)))) xnl) (Zg (xrt xci)))
theorem Zen:Zv ["cell","k","one"] ["cell","k"] (Zm Zfr):=fsc
theorem Zie{f:Nat->Addr}{fd:Nat->XR}{cls:Nat->Addr}(T:Txt K mg f fd cls):FnOk P w K mg base CX0 1 (f 4) (fd 4) ["cell","k"] (spD K (sD Wt)):=by
 refine Yb T.e_law_stir.F Zen (S:=Zdf) rfl rfl (λcdv A outer s H E hr=>?_)
 exact(xsq (xst 2 Zen.nd (Zk6 (Zil (Zfd (Zfd (Zk6 (xv 0) xci) (Zil xci (xv 1))) xci) xci) xci)) (xsq (xst 2 Zen.nd (Zk6 (Zil (xv 2) (xv 2)) xci)) (Zg (xrt (Zou (Zk6 (Zil (Zfd (xv 2) (Zil xci (xv 1))) xci) xci) xci)))))
theorem Yu:Zv ["cell","many","found","digits","k","number"] ["cell","many"] (Zm Zby):=fsc
theorem Ziq{f:Nat->Addr}{fd:Nat->XR}{cls:Nat->Addr}(T:Txt K mg f fd cls):FnOk P w K mg base CX0 2 (f 5) (fd 5) ["cell","many"] (spD K (sD Wl)):=by
 have G_law_stir:=Zie (P:=P) (w:=w) (base:=base) T
 refine Yb T.e_law_numbers.F Yu (S:=Za3) rfl rfl (λcdv A outer s H E hr=>?_)
 exact(xsq (xso 2 Yu.nd (xls xa0)) (xsq (xst 3 Yu.nd (xv 0)) (xsq (xfr Qe rfl (Zig (Wr (by rfl) T.z_range (xa1 (xv 1)))) (xg 4 Yu.nd) (xsq (xst 5 Yu.nd (xce G_law_stir hr T.e_law_stir (Ze (xv 0) (xa1 (xv 4))))) (xsq (xif (xge (xv 0) (Z9b xci xci)) (Zg (xst 5 Yu.nd (Zk6 (xv 3) xci))) xnl) (xsq (xst 3 Yu.nd (Zou (xv 3) xci)) (Zg (Zaq (Zar 2 (xv 5)))))))) (Zg (Zef (Zee 2))))))
theorem Jc:Zv ["ring","at","wound"] ["ring"] (Zm Zat):=fsc
theorem Zgw{f:Nat->Addr}{fd:Nat->XR}{cls:Nat->Addr}(T:Txt K mg f fd cls):FnOk P w K mg base CX0 1 (f 6) (fd 6) ["ring"] (spD K (sD W9)):=by
 refine Yb T.e_law_put_right.F Jc (S:=Zag) rfl rfl (λcdv A outer s H E hr=>?_)
 exact(xsq (xst 1 Jc.nd (Zvp (Z0z (xv 0) xci))) (xsq (xst 2 Jc.nd (Zlj (Zgr Zr4 (Z7l (Zhw rfl) Zlz (Zsj (Zrp (xv 0) (Zb8 (Zb2 (xv 1))) (Zkg Zju))) (Zsj (Zrp (xv 0) (Zkg Zju) (Zb8 (Zb2 (xv 1))))))))) (xsq (xif (MW.mt (Zpj (Zol (xgt (xln T.z_len (xa1 (xv 2))) xci) (Zj0 (xgt (xix (xv 2) xci) (xix (xv 2) (Zjg (Zp3 xci)))))))) (Zg (xst 2 Jc.nd (Zlj (Zgr Zr4 (Z7l (Zhw rfl) Zlz (Zsj (Zrp (xv 2) (Zkg Zju) (Zb8 (Zb2 xci)))) (Z0r (Z4h (xv 2) (Zkg Zju) (Zb8 (Zb2 xci)) (Zb8 (Zb2 (Zjg (Zp3 xci))))))))))) xnl) (Zg (xrt (xv 2))))))
theorem Zak:Zv ["cell","n","numbers","left","ring","k"] ["cell","n"] (Zm Zfy):=fsc
theorem Znr{f:Nat->Addr}{fd:Nat->XR}{cls:Nat->Addr}(T:Txt K mg f fd cls):FnOk P w K mg base CX0 3 (f 7) (fd 7) ["cell","n"] (spD K (sD Jp)):=by
 have G_law_numbers:=Ziq (P:=P) (w:=w) (base:=base) T
 have G_law_put_right:=Zgw (P:=P) (w:=w) (base:=base) T
 refine Yb T.e_law_ring.F Zak (S:=Zc1) rfl rfl (λcdv A outer s H E hr=>?_)
 exact(xsq (xst 2 Zak.nd (xce G_law_numbers hr T.e_law_numbers (Ze (xv 0) (xa1 (xv 1))))) (xsq (xso 3 Zak.nd (Zxr (Zml (by rfl) (by rfl) T.z_list L2.B.boot_list (by rfl) T.z_range L2.B.boot_range (xa1 (xv 1))))) (xsq (xso 4 Zak.nd (xls xa0)) (xsq (xfr Qe rfl (Zig (Wr (by rfl) T.z_range (xa1 (xv 1)))) (xg 5 Zak.nd) (Zg (Zaq (Zar 4 (Z5c (Z95 3 (Zk6 (xix (xv 2) (xv 5)) (xln T.z_len (xa1 (xo 3)))))))))) (Zg (Zln (Zmi 4 (xrt (xce G_law_put_right hr T.e_law_put_right (xa1 (xv 4)))))))))))
theorem Yh:Zv ["script","start","n","cell","base","found","k","number"] ["script","start","n","cell"] (Zm Jm):=fsc
theorem Zd7{f:Nat->Addr}{fd:Nat->XR}{cls:Nat->Addr}(T:Txt K mg f fd cls):FnOk P w K mg base CX0 2 (f 8) (fd 8) ["script","start","n","cell"] (spD K (sD Yo)):=by
 have G_law_stir:=Zie (P:=P) (w:=w) (base:=base) T
 refine Yb T.e_law_ring_weights.F Yh (S:=Js) rfl rfl (λcdv A outer s H E hr=>?_)
 exact(xsq (xst 4 Yh.nd (xix (xls (Ze xci (Ze xci (xa1 (Z9b xci xci))))) (Zk6 (xv 3) xci))) (xsq (xso 5 Yh.nd (xls xa0)) (xsq (xfr Qe rfl (Zig (Wr (by rfl) T.z_range (xa1 (Zou (Zil (xv 2) (Z27 (xv 2) xci)) xci)))) (xg 6 Yh.nd) (xsq (xst 7 Yh.nd (xce G_law_stir hr T.e_law_stir (Ze (xv 3) (xa1 (Zfd xci (xv 6)))))) (xsq (xif (xlt (Zfd (xv 1) (xv 6)) (xln T.z_len (xa1 (xv 0)))) (Zg (xst 7 Yh.nd (xix (xv 0) (Zfd (xv 1) (xv 6))))) xnl) (Zg (Zaq (Zar 5 (Zk6 (xv 7) (xv 4)))))))) (Zg (Zef (Zee 5))))))
theorem Jz:Zv ["n","sides","weights","rows","side","weight","i","j"] ["n","sides","weights"] (Zm Zfo):=fsc
theorem Znu{f:Nat->Addr}{fd:Nat->XR}{cls:Nat->Addr}(T:Txt K mg f fd cls):FnOk P w K mg base CX0 1 (f 9) (fd 9) ["n","sides","weights"] (spD K (sD Y5)):=by
 refine Yb T.e_law_rows.F Jz (S:=Zck) rfl rfl (λcdv A outer s H E hr=>?_)
 have hu:=hr.units
 exact(xsq (Zvz (Zdr (i:=3) (own:=["point"]) (caps:=[0]) (N':=["point","n"]) true Jz.nd rfl (QH rfl) (by exact⟨rfl,by decide +kernel,rfl,by decide +kernel,rfl,rfl⟩) (by rfl) (by decide) (Zig (Wr (by rfl) T.z_range (xa1 (xv 0)))) (λ_ _ _ _ _=>(xg 0 (by show Q8 (["point","n"]:List Str);decide +kernel))) (λ_ _ _ _ _=>(Zab J9)) (λ_ _ _ _ _=>(Z7e (Yau xci (xv 1)))))) (xsq (xfr Qe rfl (Zgc (Zf1 (by rfl) T.z_zip L2.B.boot_zip (Ze (xv 1) (xa1 (xv 2))))) (xg2 rfl (xg 4 Jz.nd) (xg 5 Jz.nd)) (Zg (xfr Qe rfl (Zig (Wr (by rfl) T.z_range (xa1 (xv 0)))) (xg 6 Jz.nd) (Zg (xfr Qe rfl (Zig (Wr (by rfl) T.z_range (xa1 (xv 0)))) (xg 7 Jz.nd) (Zg (xif (xne hu (Wb Ztz (Zid (Zox rfl) Zux (xv 6) (xv 4) (hm:=(by with_unfolding_all rfl)))) (Wb Ztz (Zid (Zox rfl) Zux (xv 7) (xv 4) (hm:=(by with_unfolding_all rfl))))) (Zg (Z00 (Zzm 3 (Zfd (xix (xix (xo 3) (xv 6)) (xv 7)) (xv 5)) (xv 6) (xv 7) (λ_ _=>rfl)))) xnl))))))) (Zg (Zef (Zee 3)))))
theorem Zeb:Zv ["n","found","a"] ["n"] (Zm Zfm):=fsc
theorem Zmz{f:Nat->Addr}{fd:Nat->XR}{cls:Nat->Addr}(T:Txt K mg f fd cls):FnOk P w K mg base CX0 1 (f 10) (fd 10) ["n"] (spD K (sD Zam)):=by
 refine Yb T.e_law_gaps.F Zeb (S:=Zcr) rfl rfl (λcdv A outer s H E hr=>?_)
 exact(xsq (xso 1 Zeb.nd (xls xa0)) (xsq (xfr Qe rfl (Zig (Wr (by rfl) T.z_range (xa1 (xv 0)))) (xg 2 Zeb.nd) (Zg (Zsy (Zsk 1 (J8 (Zgz ["b"] [2] ["b","a"] (Zvt (Zet (by rfl) T.z_range (Ze (Zfd (xv 2) xci) (xa1 (xv 0))))) (λ_ _ _ _ _=>(xg 0 (by show Q8 (["b","a"]:List Str);decide +kernel))) (λ_ _ _ _ _=>(Zab J9)) (λ_ _ _ _ _=>(xtp (Ze (xv 1) (xa1 (xv 0))))))))))) (Zg (Zef (Zee 1)))))
theorem Zk9:Zv ["ring"] ["ring"] (Zm Zeh):=fsc
theorem Zmb{f:Nat->Addr}{fd:Nat->XR}{cls:Nat->Addr}(T:Txt K mg f fd cls):FnOk P w K mg base CX0 2 (f 11) (fd 11) ["ring"] (spD K (sD Zaa)):=by
 have G_law_gaps:=Zmz (P:=P) (w:=w) (base:=base) T
 refine Yb T.e_law_sides.F Zk9 (S:=Zcd) rfl rfl (λcdv A outer s H E hr=>?_)
 exact(Zg (xrt (J8 (Zgz ["a","b"] [0] ["a","b","ring"] (xil (xce G_law_gaps hr T.e_law_gaps (xa1 (xln T.z_len (xa1 (xv 0)))))) (λ_ _ _ _ _=>(xg2 rfl (xg 0 (by show Q8 (["a","b","ring"]:List Str);decide +kernel)) (xg 1 (by show Q8 (["a","b","ring"]:List Str);decide +kernel)))) (λ_ _ _ _ _=>(Zab J9)) (λ_ _ _ _ _=>(Zp9 Znv (Z3n Zjr (Zfn rfl) (by rfl) T.z_sorted L2.B.boot_sorted (xa1 (Zsj (Zrp (xv 2) (Zb8 (Zb2 (Zfd (xv 0) xci))) (Zb8 (Zb2 (Zfd (xv 1) xci)))))))))))))
theorem Zm1:Zv ["cell","least","most","great"] ["cell","least","most","great"] (Zm Zgb):=fsc
theorem Znw{f:Nat->Addr}{fd:Nat->XR}{cls:Nat->Addr}(T:Txt K mg f fd cls):FnOk P w K mg base CX0 1 (f 12) (fd 12) ["cell","least","most","great"] (spD K (sD Ju)):=by
 refine Yb T.e_law_size.F Zm1 (S:=Zc5) rfl rfl (λcdv A outer s H E hr=>?_)
 have hu:=hr.units
 exact(xsq (xif (xeq hu (Zk6 (Zou (xv 0) xci) xci) xci) (Zg (xrt (Zfd (Zfd (xv 2) xci) (Zk6 (Zou (xv 0) xci) (Z27 (xv 3) (xv 2)))))) xnl) (Zg (xrt (Zfd (xv 1) (Zk6 (xv 0) (Z27 (Zfd (xv 2) xci) (xv 1)))))))
theorem Wc:Zv ["n","cuts","bottom","rows","i","j","top","side","weight"] ["n","cuts","bottom","rows"] (Zm Zco):=fsc
theorem Zjm{f:Nat->Addr}{fd:Nat->XR}{cls:Nat->Addr}(T:Txt K mg f fd cls):FnOk P w K mg base CX0 1 (f 13) (fd 13) ["n","cuts","bottom","rows"] (spD K (sD W5)):=by
 refine Yb T.e_law_sum_of.F Wc (S:=Zbs) rfl rfl (λcdv A outer s H E hr=>?_)
 have hu:=hr.units
 exact(xsq (xfr Qe rfl (Zig (Wr (by rfl) T.z_range (xa1 (xv 0)))) (xg 4 Wc.nd) (Zg (xfr Qe rfl (Zig (Wr (by rfl) T.z_range (xa1 (xv 0)))) (xg 5 Wc.nd) (xsq (xst 6 Wc.nd xci) (xsq (xfr Qe rfl (xil (xv 1)) (xg2 rfl (xg 7 Wc.nd) (xg 8 Wc.nd)) (Zg (xif (xne hu (Wb Ztz (Zid (Zox rfl) Zux (xv 4) (xv 7) (hm:=(by with_unfolding_all rfl)))) (Wb Ztz (Zid (Zox rfl) Zux (xv 5) (xv 7) (hm:=(by with_unfolding_all rfl))))) (Zg (xst 6 Wc.nd (Zfd (xv 6) (Zil (xix (xv 8) xci) (Zou (Zil xci (xv 2)) (xix (xv 8) xci)))))) xnl))) (Zg (xif (xne hu (xv 6) (Zil xci (xix (xix (xv 3) (xv 4)) (xv 5)))) (Zg (xrt (Zcp Zbo))) xnl))))))) (Zg (xrt (Zcp Zbo))))
theorem Zl2:Zv ["rows","bottom"] ["rows","bottom"] (Zm Zem):=fsc
theorem Zl8{f:Nat->Addr}{fd:Nat->XR}{cls:Nat->Addr}(T:Txt K mg f fd cls):FnOk P w K mg base CX0 2 (f 14) (fd 14) ["rows","bottom"] (spD K (sD Wh)):=by
 have G_law_low:=Zdo (P:=P) (w:=w) (base:=base) T
 refine Yb T.e_law_table.F Zl2 (S:=Zcf) rfl rfl (λcdv A outer s H E hr=>?_)
 exact(Zg (xrt (J8 (Zgz ["row"] [1] ["row","bottom"] (xil (xv 0)) (λ_ _ _ _ _=>(xg 0 (by show Q8 (["row","bottom"]:List Str);decide +kernel))) (λ_ _ _ _ _=>(Zab J9)) (λ_ _ _ _ _=>(J8 (Zgz ["one"] [1] ["one","bottom"] (xil (xv 0)) (λ_ _ _ _ _=>(xg 0 (by show Q8 (["one","bottom"]:List Str);decide +kernel))) (λ_ _ _ _ _=>(Zab J9)) (λ_ _ _ _ _=>(xce G_law_low hr T.e_law_low (Ze (xv 0) (xa1 (xv 1))))))))))))
theorem Zhg:Zv ["sides","weights","bottom"] ["sides","weights","bottom"] (Zm Zbc):=fsc
theorem Zii{f:Nat->Addr}{fd:Nat->XR}{cls:Nat->Addr}(T:Txt K mg f fd cls):FnOk P w K mg base CX0 2 (f 15) (fd 15) ["sides","weights","bottom"] (spD K (sD Yr)):=by
 have G_law_low:=Zdo (P:=P) (w:=w) (base:=base) T
 refine Yb T.e_law_weighted.F Zhg (S:=Zas) rfl rfl (λcdv A outer s H E hr=>?_)
 have hu:=hr.units
 exact(Zg (xrt (Zp9 Zt9 (Z3n Zoc (Ziz Zx1 rfl hu) (by rfl) T.z_sorted L2.B.boot_sorted (xa1 (J8 (Zgz ["side","weight"] [2] ["side","weight","bottom"] (Zgc (Zf1 (by rfl) T.z_zip L2.B.boot_zip (Ze (xv 0) (xa1 (xv 1))))) (λ_ _ _ _ _=>(xg2 rfl (xg 0 (by show Q8 (["side","weight","bottom"]:List Str);decide +kernel)) (xg 1 (by show Q8 (["side","weight","bottom"]:List Str);decide +kernel)))) (λ_ _ _ _ _=>(Zj2 (xgt (xv 1) xci))) (λ_ _ _ _ _=>(xtp (Ze (Zp9 Z59 (Ydz Z0j (Zp8 rfl) (by rfl) T.z_list L2.B.boot_list (xa1 (xv 0)))) (xa1 (xce G_law_low hr T.e_law_low (Ze (xv 1) (xa1 (xv 2)))))))))))))))
theorem Yg:Zv ["a","b","left"] ["a","b"] (Zm Jo):=fsc
theorem Zax{f:Nat->Addr}{fd:Nat->XR}{cls:Nat->Addr}(T:Txt K mg f fd cls):FnOk P w K mg base CX0 1 (f 16) (fd 16) ["a","b"] (spD K (sD Z8)):=by
 refine Yb T.e_greatest_divisor.F Yg (S:=Jt) rfl rfl (λcdv A outer s H E hr=>?_)
 have hu:=hr.units
 exact(xsq (xst 0 Yg.nd (Zeu Z2g (Zkc Zsw Zk0 (by rfl) T.z_abs L2.B.boot_abs (xa1 (xv 0))))) (xsq (xst 1 Yg.nd (Zeu Z2g (Zkc Zsw Zk0 (by rfl) T.z_abs L2.B.boot_abs (xa1 (xv 1))))) (xsq (Zoe (Zpq Qe (xne hu (xv 1) xci) (xsq (xst 2 Yg.nd (Zk6 (xv 0) (xv 1))) (xsq (xst 0 Yg.nd (xv 1)) (Zg (xst 1 Yg.nd (xv 2))))))) (Zg (xrt (xv 0))))))
theorem Zd9:Zv ["top","bottom","shared"] ["top","bottom"] (Zm Zft):=fsc
theorem Zd8{f:Nat->Addr}{fd:Nat->XR}{cls:Nat->Addr}(T:Txt K mg f fd cls):FnOk P w K mg base CX0 2 (f 17) (fd 17) ["top","bottom"] (spD K (sD Wx)):=by
 have G_greatest_divisor:=Zax (P:=P) (w:=w) (base:=base) T
 refine Yb T.e_in_least.F Zd9 (S:=Zcy) rfl rfl (λcdv A outer s H E hr=>?_)
 exact(xsq (xst 2 Zd9.nd (xce G_greatest_divisor hr T.e_greatest_divisor (Ze (xv 0) (xa1 (xv 1))))) (xsq (xif (xlt (xv 1) xci) (Zg (xst 2 Zd9.nd (Zjg (Zp3 (xv 2))))) xnl) (Zg (xrt (xtp (Ze (Zou (xv 0) (xv 2)) (xa1 (Zou (xv 1) (xv 2)))))))))
theorem Z0w:Zv ["q","r"] ["q","r"] (Zm Zrh):=fsc
theorem Z1m{f:Nat->Addr}{fd:Nat->XR}{cls:Nat->Addr}(T:Txt K mg f fd cls):FnOk P w K mg base CX0 3 (f 18) (fd 18) ["q","r"] (spD K (sD Zea)):=by
 have G_in_least:=Zd8 (P:=P) (w:=w) (base:=base) T
 refine Yb T.e_plus.F Z0w (S:=Zh3) rfl rfl (λcdv A outer s H E hr=>?_)
 exact(Zg (xrt (xce G_in_least hr T.e_in_least (Ze (Zfd (Zil (xix (xv 0) xci) (xix (xv 1) xci)) (Zil (xix (xv 1) xci) (xix (xv 0) xci))) (xa1 (Zil (xix (xv 0) xci) (xix (xv 1) xci)))))))
theorem Zg5:Zv ["table","other","together","row","other_row"] ["table","other"] (Zm Znt):=fsc
theorem Zxj{f:Nat->Addr}{fd:Nat->XR}{cls:Nat->Addr}(T:Txt K mg f fd cls):FnOk P w K mg base CX0 4 (f 19) (fd 19) ["table","other"] (spD K (sD Za2)):=by
 have G_plus:=Z1m (P:=P) (w:=w) (base:=base) T
 refine Yb T.e_added.F Zg5 (S:=Zgm) rfl rfl (λcdv A outer s H E hr=>?_)
 have hu:=hr.units
 exact(xsq (xif (xne hu (xln T.z_len (xa1 (xv 0))) (xln T.z_len (xa1 (xv 1)))) (Zg Zhb) xnl) (xsq (xso 2 Zg5.nd (xls xa0)) (xsq (xfr Qe rfl (Zgc (Zf1 (by rfl) T.z_zip L2.B.boot_zip (Ze (xv 0) (xa1 (xv 1))))) (xg2 rfl (xg 3 Zg5.nd) (xg 4 Zg5.nd)) (Zg (Zaq (Zar 2 (J8 (Zgz ["q","r"] [] ["q","r"] (Zgc (Zf1 (by rfl) T.z_zip L2.B.boot_zip (Ze (xv 3) (xa1 (xv 4))))) (λ_ _ _ _ _=>(xg2 rfl (xg 0 (by show Q8 (["q","r"]:List Str);decide +kernel)) (xg 1 (by show Q8 (["q","r"]:List Str);decide +kernel)))) (λ_ _ _ _ _=>(Zab J9)) (λ_ _ _ _ _=>(xce G_plus hr T.e_plus (Ze (xv 0) (xa1 (xv 1))))))))))) (Zg (Zef (Zee 2))))))
theorem Ww:Zv ["rows","ring","a","b","x","p","y","q"] ["rows","ring","a","b"] (Zm Zbg):=fsc
theorem Zc8{f:Nat->Addr}{fd:Nat->XR}{cls:Nat->Addr}(T:Txt K mg f fd cls):FnOk P w K mg base CX0 1 (f 20) (fd 20) ["rows","ring","a","b"] (spD K (sD Zz)):=by
 refine Yb T.e_twice_weight.F Ww (S:=Zao) rfl rfl (λcdv A outer s H E hr=>?_)
 exact(xsq (xst 4 Ww.nd (xix (xv 1) (xv 2))) (xsq (xst 5 Ww.nd (xix (xv 1) (Zfd (xv 2) xci))) (xsq (xst 6 Ww.nd (xix (xv 1) (xv 3))) (xsq (xst 7 Ww.nd (xix (xv 1) (Zk6 (Zfd (xv 3) xci) (xln T.z_len (xa1 (xv 0)))))) (Zg (xrt (Z27 (Z27 (Zfd (xix (xix (xv 0) (xv 4)) (xv 6)) (xix (xix (xv 0) (xv 5)) (xv 7))) (xix (xix (xv 0) (xv 4)) (xv 7))) (xix (xix (xv 0) (xv 5)) (xv 6)))))))))
theorem Zhr:Zv ["rows","ring","b","a"] ["rows","ring","b"] (Zm Zga):=fsc
theorem Zno{f:Nat->Addr}{fd:Nat->XR}{cls:Nat->Addr}(T:Txt K mg f fd cls):FnOk P w K mg base CX0 2 (f 21) (fd 21) ["rows","ring","b"] (spD K (sD Yj)):=by
 have G_twice_weight:=Zc8 (P:=P) (w:=w) (base:=base) T
 refine Yb T.e_fits_gap.F Zhr (S:=Zcm) rfl rfl (λcdv A outer s H E hr=>?_)
 exact(xsq (xfr Qe rfl (Zig (Wr (by rfl) T.z_range (xa1 (xv 2)))) (xg 3 Zhr.nd) (Zg (xif (xlt (xce G_twice_weight hr T.e_twice_weight (Ze (xv 0) (Ze (xv 1) (Ze (xv 3) (xa1 (xv 2)))))) xci) (Zg (xrt (Zcp Zbo))) xnl))) (Zg (xrt (Zcp Zbo))))
theorem J5:Zv ["rows","begun","n","point","found"] ["rows","begun"] (Zm Zcb):=fsc
theorem Zbt{f:Nat->Addr}{fd:Nat->XR}{cls:Nat->Addr}(T:Txt K mg f fd cls):∀k,FnOk P w K mg base CX0 (3+k) (f 22) (fd 22) ["rows","begun"] (spD K (sD (Z2 k)))
 | 0=>Zrz λds k h=>by obtain⟨r,h,_⟩:=h;cases h
 | k+1=>by
  have G_rec:=Zbt T k
  have G_fits_gap:=Zno (P:=P) (w:=w) (base:=base) T
  refine Yb T.e_first_grown.F J5 (S:=Wn (Z2 k)) rfl rfl (λcdv A outer s H E hr=>?_)
  have hu:=hr.units
  exact(Zd5 (J2 (Zov (Zor (i:=2) J5.nd rfl (QH rfl) (Zeu Zp5 (Zkc Zje (Zbi rfl) (by rfl) T.z_len L2.B.boot_len (Ze (Z7 (mv 0)) (Za8 Za7))))))
   (Zd5 (J2 (Zkq (Zky (Za9 Zzj (Za1 (Zhm hu) Znf (Zeu Zp5 (Zkc Zje (Zbi rfl) (by rfl) T.z_len L2.B.boot_len (Ze (Z7 (mv 1)) (Za8 Za7)))) (Z7 (mv 2)) (hm:=(Je _)))) (Zg (Zdv (Zd3 (Zlj (Yaz (Ydt (MW.mt (Zpj (Zol (Za9 Z76 (Za1 Zws Zi3 (Zlj (Zgr Z9l (Z84 (Znh rfl) Z10 (Z7 (mv 1)) (Zcp Zi6) (hs:=λ_ _=>rfl)))) (Zlj (Zgr Z9l (Z84 (Znh rfl) Z10 (Z7 (mv 1)) (Zjg (Zp3 (Zcp Zi6))) (hs:=λ_ _=>rfl)))) (hm:=(Je _)))) (Zj0 (W7 (W8 (Zhh (Zmg G_fits_gap (hr.mono (QT (by decide) (JS 3 k))) (by rfl) T.e_fits_gap.m T.e_fits_gap.F.kp T.e_fits_gap.b Zuw (Ze (Z7 (mv 0)) (Ze (Z7 (mv 1)) (Ze (Wb Z12 (Zmr Zr9 Zj3 (Z7 (mv 2)) (Zcp Zi6))) (Za8 Za7)))))) (λ_=>rfl))))))) (Z7 (mv 1)) (Zcp Zom))))))) (Zb7 Zb0)))
   (Zd5 (J2 (Zro (Zs1 Qe rfl (Zvt (Zet (by rfl) T.z_range (Ze (Zcp Zi6) (Ze (Z7 (mv 2)) (Za8 Za7))))) (Zkk (Zjl (i:=3) J5.nd))
   (Zg (Zkq (Zky (MW.mt (Zpj (Zol (Za9 Ztz (Za1 (Zs6 rfl) Zux (Z7 (mv 3)) (Z7 (mv 1)) (hm:=(by with_unfolding_all rfl)))) (Zj0 (W7 (W8 (Zhh (Zmg G_fits_gap (hr.mono (QT (by decide) (JS 3 k))) (by rfl) T.e_fits_gap.m T.e_fits_gap.F.kp T.e_fits_gap.b Zuw (Ze (Z7 (mv 0)) (Ze (Zlj (Zgr Zr4 (Z7l (Zhw rfl) Zlz (Z7 (mv 1)) (Zsp (Z1h (Ze (Z7 (mv 3)) (Za8 Za7))))))) (Ze (Wb Z12 (Zmr Zr9 Zj3 (Zeu Zp5 (Zkc Zje (Zbi rfl) (by rfl) T.z_len L2.B.boot_len (Ze (Z7 (mv 1)) (Za8 Za7)))) (Zcp Zi6))) (Za8 Za7)))))) (λ_=>rfl))))))) (Zd5 (J2 (Zov (Zor (i:=4) J5.nd rfl (QH rfl) (Zhh (Zmg G_rec hr (by rfl) T.e_first_grown.m T.e_first_grown.F.kp T.e_first_grown.b Zuw (Ze (Z7 (mv 0)) (Ze (Zlj (Zgr Zr4 (Z7l (Zhw rfl) Zlz (Z7 (mv 1)) (Zsp (Z1h (Ze (Z7 (mv 3)) (Za8 Za7))))))) (Za8 Za7)))))))
   (Zg (Zkq (Zky (Za9 Zy8 (Za1 Z0u Zz6 (Z7 (mv 4)) (Zcp Zom) (hm:=(Je _)))) (Zg (Zdv (Zd3 (Z7 (mv 4))))) (Zb7 Zb0)))))) (Zb7 Zb0))))))
   (Zg (Zdv (Zd3 (Zcp Zom))))))))))
theorem Ziu{f:Nat->Addr}{fd:Nat->XR}{cls:Nat->Addr}(T:Txt K mg f fd cls):FnOk P w K mg base CX0 11 (f 22) (fd 22) ["rows","begun"] (spD K (sD (Z2 8))):=Zbt T 8
theorem Jb:Zv ["numbers","bottom","q"] ["numbers"] (Zm Za0):=fsc
theorem Zg1{f:Nat->Addr}{fd:Nat->XR}{cls:Nat->Addr}(T:Txt K mg f fd cls):FnOk P w K mg base CX0 2 (f 23) (fd 23) ["numbers"] (spD K (sD Yw)):=by
 have G_greatest_divisor:=Zax (P:=P) (w:=w) (base:=base) T
 refine Yb T.e_shared_bottom.F Jb (S:=Zaf) rfl rfl (λcdv A outer s H E hr=>?_)
 exact(xsq (xst 1 Jb.nd xci) (xsq (xfr Qe rfl (xil (xv 0)) (xg 2 Jb.nd) (Zg (xst 1 Jb.nd (Zil (Zou (xv 1) (xce G_greatest_divisor hr T.e_greatest_divisor (Ze (xv 1) (xa1 (xix (xv 2) xci))))) (xix (xv 2) xci))))) (Zg (xrt (xv 1)))))
theorem Ji:Zv ["table","bottom","row"] ["table"] (Zm Zbe):=fsc
theorem Zc9{f:Nat->Addr}{fd:Nat->XR}{cls:Nat->Addr}(T:Txt K mg f fd cls):FnOk P w K mg base CX0 3 (f 24) (fd 24) ["table"] (spD K (sD Z6)):=by
 have G_shared_bottom:=Zg1 (P:=P) (w:=w) (base:=base) T
 refine Yb T.e_table_bottom.F Ji (S:=Zav) rfl rfl (λcdv A outer s H E hr=>?_)
 exact(xsq (xst 1 Ji.nd xci) (xsq (xfr Qe rfl (xil (xv 0)) (xg 2 Ji.nd) (Zg (xst 1 Ji.nd (xce G_shared_bottom hr T.e_shared_bottom (xa1 (Zlj (Zgr Zr4 (Z7l (Zhw rfl) Zlz (xls (xa1 (xtp (Ze xci (xa1 (xv 1)))))) (xv 2))))))))) (Zg (xrt (xv 1)))))
theorem Zmo:Zv ["bottom","numbers"] ["bottom","numbers"] (Zm Zek):=fsc
theorem Zlm{f:Nat->Addr}{fd:Nat->XR}{cls:Nat->Addr}(T:Txt K mg f fd cls):FnOk P w K mg base CX0 1 (f 25) (fd 25) ["bottom","numbers"] (spD K (sD J7)):=by
 refine Yb T.e_tops_over.F Zmo (S:=Zcg) rfl rfl (λcdv A outer s H E hr=>?_)
 exact(Zg (xrt (J8 (Zgz ["q"] [0] ["q","bottom"] (xil (xv 1)) (λ_ _ _ _ _=>(xg 0 (by show Q8 (["q","bottom"]:List Str);decide +kernel))) (λ_ _ _ _ _=>(Zab J9)) (λ_ _ _ _ _=>(Zil (xix (xv 0) xci) (Zou (xv 1) (xix (xv 0) xci))))))))
theorem Zke:Zv ["bottom","table"] ["bottom","table"] (Zm Zcs):=fsc
theorem Ze8{f:Nat->Addr}{fd:Nat->XR}{cls:Nat->Addr}(T:Txt K mg f fd cls):FnOk P w K mg base CX0 2 (f 26) (fd 26) ["bottom","table"] (spD K (sD Yq)):=by
 have G_tops_over:=Zlm (P:=P) (w:=w) (base:=base) T
 refine Yb T.e_table_over.F Zke (S:=Zbq) rfl rfl (λcdv A outer s H E hr=>?_)
 exact(Zg (xrt (J8 (Zgz ["row"] [0] ["row","bottom"] (xil (xv 1)) (λ_ _ _ _ _=>(xg 0 (by show Q8 (["row","bottom"]:List Str);decide +kernel))) (λ_ _ _ _ _=>(Zab J9)) (λ_ _ _ _ _=>(xce G_tops_over hr T.e_tops_over (Ze (xv 1) (xa1 (xv 0)))))))))
theorem Zkb:Zv ["table"] ["table"] (Zm Zdb):=fsc
theorem Zkj{f:Nat->Addr}{fd:Nat->XR}{cls:Nat->Addr}(T:Txt K mg f fd cls):FnOk P w K mg base CX0 12 (f 27) (fd 27) ["table"] (spD K (sD Wz)):=by
 have G_first_grown:=Ziu (P:=P) (w:=w) (base:=base) T
 have G_table_bottom:=Zc9 (P:=P) (w:=w) (base:=base) T
 have G_table_over:=Ze8 (P:=P) (w:=w) (base:=base) T
 refine Yb T.e_first_ring.F Zkb (S:=Zbp) rfl rfl (λcdv A outer s H E hr=>?_)
 exact(xsq (xif (xlt (xln T.z_len (xa1 (xv 0))) xci) (Zg (xrt (Zcp Zom))) xnl) (Zg (xrt (xce G_first_grown hr T.e_first_grown (Ze (xce G_table_over hr T.e_table_over (Ze (xce G_table_bottom hr T.e_table_bottom (xa1 (xv 0))) (xa1 (xv 0)))) (xa1 (xls (xa1 xci))))))))
theorem Znq:Zv ["thing"] ["thing"] (Zm Zf9):=fsc
theorem Zhu{f:Nat->Addr}{fd:Nat->XR}{cls:Nat->Addr}(T:Txt K mg f fd cls):FnOk P w K mg base CX0 1 (f 28) (fd 28) ["thing"] (spD K (sD Y4)):=by
 refine Yb T.e_is_whole.F Znq (S:=Zc0) rfl rfl (λcdv A outer s H E hr=>?_)
 exact(Zg (xrt (Zed (Zm9 (Jg (Zbv (by decide) (by rfl) T.z_isinstance L2.B.boot_isinstance (by rfl) T.z_int L2.B.boot_int (xv 0))) (Zul (Zuz (Z49 (Jg (Zbv (by decide) (by rfl) T.z_isinstance L2.B.boot_isinstance (by rfl) T.z_bool L2.B.boot_bool (xv 0))))))))))
theorem Ziw:Zv ["n","ring","point"] ["n","ring"] (Zm Zic):=fsc
theorem Zpu{f:Nat->Addr}{fd:Nat->XR}{cls:Nat->Addr}(T:Txt K mg f fd cls):FnOk P w K mg base CX0 2 (f 29) (fd 29) ["n","ring"] (spD K (sD Zbf)):=by
 have G_is_whole:=Zhu (P:=P) (w:=w) (base:=base) T
 refine Yb T.e_is_ring.F Ziw (S:=Zd0) rfl rfl (λcdv A outer s H E hr=>?_)
 have hu:=hr.units
 exact(xsq (xfr Qe rfl (xil (xv 1)) (xg 2 Ziw.nd) (Zg (xif (xno (W7 (W8 (xce G_is_whole hr T.e_is_whole (xa1 (xv 2))) (λ_=>rfl)))) (Zg (xrt (Zcp Zbo))) xnl))) (xsq (xif (MW.mt (Zcj (Zch (xlt (xv 0) xci) (Zde (xne hu (Zp9 Znv (Z3n Zjr (Zfn rfl) (by rfl) T.z_sorted L2.B.boot_sorted (xa1 (xv 1)))) (Zxr (Zml (by rfl) (by rfl) T.z_list L2.B.boot_list (by rfl) T.z_range L2.B.boot_range (xa1 (xv 0))))))))) (Zg (xrt (Zcp Zbo))) xnl) (Zg (xrt (Zed (Zm9 (Wb Zzj (Zid (Zhm hu) Znf (xix (xv 1) xci) xci (hm:=(Je _)))) (Zul (Wb Z76 (Zid Zws Zi3 (xix (xv 1) xci) (xix (xv 1) (Zjg (Zp3 xci))) (hm:=(Je _)))))))))))
theorem Zk5:Zv ["n","ring"] ["n","ring"] (Zm Zc4):=fsc
theorem Zjk{f:Nat->Addr}{fd:Nat->XR}{cls:Nat->Addr}(T:Txt K mg f fd cls):FnOk P w K mg base CX0 3 (f 30) (fd 30) ["n","ring"] (spD K (sD W6)):=by
 have G_is_ring:=Zpu (P:=P) (w:=w) (base:=base) T
 refine Yb T.e_check_ring.F Zk5 (S:=Zbr) rfl rfl (λcdv A outer s H E hr=>?_)
 exact(Zg (xif (xno (W7 (W8 (xce G_is_ring hr T.e_is_ring (Ze (xv 0) (xa1 (xv 1)))) (λ_=>rfl)))) (Zg Zhb) xnl))
theorem Zm7:Zv ["top","bottom"] ["top","bottom"] (Zm Zfz):=fsc
theorem Zn5{f:Nat->Addr}{fd:Nat->XR}{cls:Nat->Addr}(T:Txt K mg f fd cls):FnOk P w K mg base CX0 3 (f 31) (fd 31) ["top","bottom"] (spD K (sD Y0)):=by
 have G_in_least:=Zd8 (P:=P) (w:=w) (base:=base) T
 have G_is_whole:=Zhu (P:=P) (w:=w) (base:=base) T
 refine Yb T.e_fraction.F Zm7 (S:=Zcz) rfl rfl (λcdv A outer s H E hr=>?_)
 have hu:=hr.units
 exact(xsq (xif (MW.mt (Zcj (Zch (xno (W7 (W8 (xce G_is_whole hr T.e_is_whole (xa1 (xv 0))) (λ_=>rfl)))) (Zcj (Zch (xno (W7 (W8 (xce G_is_whole hr T.e_is_whole (xa1 (xv 1))) (λ_=>rfl)))) (Zde (xeq hu (xv 1) xci))))))) (Zg Zhb) xnl) (Zg (xrt (xce G_in_least hr T.e_in_least (Ze (xv 0) (xa1 (xv 1)))))))
theorem Zbz:Zv ["n","pairs","i","j"] ["n"] (Zm Zfw):=fsc
theorem Zm8{f:Nat->Addr}{fd:Nat->XR}{cls:Nat->Addr}(T:Txt K mg f fd cls):FnOk P w K mg base CX0 1 (f 32) (fd 32) ["n"] (spD K (sD Jl)):=by
 refine Yb T.e_pairs_of.F Zbz (S:=Zdi) rfl rfl (λcdv A outer s H E hr=>?_)
 exact(xsq (xso 1 Zbz.nd (xls xa0)) (xsq (xfr Qe rfl (Zig (Wr (by rfl) T.z_range (xa1 (xv 0)))) (xg 2 Zbz.nd) (Zg (xfr Qe rfl (Zvt (Zet (by rfl) T.z_range (Ze (Zfd (xv 2) xci) (xa1 (xv 0))))) (xg 3 Zbz.nd) (Zg (Zaq (Zar 1 (xtp (Ze (xv 2) (xa1 (xv 3)))))))))) (Zg (Zef (Zee 1)))))
theorem Wv:Zv ["table","ring","bottom","rows","weighted","a","b","twice"] ["table","ring"] (Zm Zep):=fsc
theorem Zmk{f:Nat->Addr}{fd:Nat->XR}{cls:Nat->Addr}(T:Txt K mg f fd cls):FnOk P w K mg base CX0 4 (f 33) (fd 33) ["table","ring"] (spD K (sD Yn)):=by
 have G_check_ring:=Zjk (P:=P) (w:=w) (base:=base) T
 have G_fraction:=Zn5 (P:=P) (w:=w) (base:=base) T
 have G_pairs_of:=Zm8 (P:=P) (w:=w) (base:=base) T
 have G_table_bottom:=Zc9 (P:=P) (w:=w) (base:=base) T
 have G_table_over:=Ze8 (P:=P) (w:=w) (base:=base) T
 have G_twice_weight:=Zc8 (P:=P) (w:=w) (base:=base) T
 refine Yb T.e_ring_told.F Wv (S:=Zce) rfl rfl (λcdv A outer s H E hr=>?_)
 have hu:=hr.units
 exact(xsq (Z2f (Z0l (xce G_check_ring hr T.e_check_ring (Ze (xln T.z_len (xa1 (xv 0))) (xa1 (xv 1)))))) (xsq (xst 2 Wv.nd (xce G_table_bottom hr T.e_table_bottom (xa1 (xv 0)))) (xsq (xst 3 Wv.nd (xce G_table_over hr T.e_table_over (Ze (xv 2) (xa1 (xv 0))))) (xsq (xso 4 Wv.nd (xls xa0)) (xsq (xfr Qe rfl (xil (xce G_pairs_of hr T.e_pairs_of (xa1 (xln T.z_len (xa1 (xv 0)))))) (xg2 rfl (xg 5 Wv.nd) (xg 6 Wv.nd)) (xsq (xst 7 Wv.nd (xce G_twice_weight hr T.e_twice_weight (Ze (xv 3) (Ze (xv 1) (Ze (xv 5) (xa1 (xv 6))))))) (xsq (xif (xlt (xv 7) xci) (Zg (xrt (xtp (Ze (Zcp Zlw) (xa1 (xtp (Ze (xv 5) (xa1 (xv 6))))))))) xnl) (Zg (xif (xgt (xv 7) xci) (Zg (Zaq (Zar 4 (xtp (Ze (Zp9 Znv (Z3n Zjr (Zfn rfl) (by rfl) T.z_sorted L2.B.boot_sorted (xa1 (Zsj (Zrp (xv 1) (Zb8 (Zb2 (Zfd (xv 5) xci))) (Zb8 (Zb2 (Zfd (xv 6) xci)))))))) (xa1 (xce G_fraction hr T.e_fraction (Ze (xv 7) (xa1 (Zil xci (xv 2))))))))))) xnl))))) (Zg (Zln (Zmi 4 (xrt (xtp (Ze (Zcp Zlw) (xa1 (Zp9 Zt9 (Z3n Zoc (Ziz Zx1 rfl hu) (by rfl) T.z_sorted L2.B.boot_sorted (xa1 (xv 4))))))))))))))))
theorem Znz:Zv ["q","r"] ["q","r"] (Zm Zfp):=fsc
theorem Zn2{f:Nat->Addr}{fd:Nat->XR}{cls:Nat->Addr}(T:Txt K mg f fd cls):FnOk P w K mg base CX0 1 (f 34) (fd 34) ["q","r"] (spD K (sD Zan)):=by
 refine Yb T.e_is_below.F Znz (S:=Zcw) rfl rfl (λcdv A outer s H E hr=>?_)
 exact(Zg (xrt (Wb Z76 (Zid Zws Zi3 (Zil (xix (xv 0) xci) (xix (xv 1) xci)) (Zil (xix (xv 1) xci) (xix (xv 0) xci)) (hm:=(Je _))))))
theorem Zwl:Zv ["q","r"] ["q","r"] (Zm Zm4):=fsc
theorem Zv6{f:Nat->Addr}{fd:Nat->XR}{cls:Nat->Addr}(T:Txt K mg f fd cls):FnOk P w K mg base CX0 3 (f 35) (fd 35) ["q","r"] (spD K (sD Zdh)):=by
 have G_in_least:=Zd8 (P:=P) (w:=w) (base:=base) T
 refine Yb T.e_times.F Zwl (S:=Zgd) rfl rfl (λcdv A outer s H E hr=>?_)
 exact(Zg (xrt (xce G_in_least hr T.e_in_least (Ze (Zil (xix (xv 0) xci) (xix (xv 1) xci)) (xa1 (Zil (xix (xv 0) xci) (xix (xv 1) xci)))))))
theorem Zbd:Zv ["q","table","grown","row"] ["q","table"] (Zm Zb9):=fsc
theorem Ziv{f:Nat->Addr}{fd:Nat->XR}{cls:Nat->Addr}(T:Txt K mg f fd cls):FnOk P w K mg base CX0 4 (f 36) (fd 36) ["q","table"] (spD K (sD Wo)):=by
 have G_is_below:=Zn2 (P:=P) (w:=w) (base:=base) T
 have G_times:=Zv6 (P:=P) (w:=w) (base:=base) T
 refine Yb T.e_times_table.F Zbd (S:=Za4) rfl rfl (λcdv A outer s H E hr=>?_)
 exact(xsq (xif (W7 (W8 (xce G_is_below hr T.e_is_below (Ze (xv 0) (xa1 (xtp (Ze xci (xa1 xci)))))) (λ_=>rfl))) (Zg Zhb) xnl) (xsq (xso 2 Zbd.nd (xls xa0)) (xsq (xfr Qe rfl (xil (xv 1)) (xg 3 Zbd.nd) (Zg (Zaq (Zar 2 (J8 (Zgz ["r"] [0] ["r","q"] (xil (xv 3)) (λ_ _ _ _ _=>(xg 0 (by show Q8 (["r","q"]:List Str);decide +kernel))) (λ_ _ _ _ _=>(Zab J9)) (λ_ _ _ _ _=>(xce G_times hr T.e_times (Ze (xv 1) (xa1 (xv 0))))))))))) (Zg (Zef (Zee 2))))))
theorem Jh:Zv ["script","n","cell","bottom","ring","sides","weights","others","both","rows","first","table","due","by","many","found","word","cuts"] ["script"] (Zm Z0y):=fsc
theorem Z6z{f:Nat->Addr}{fd:Nat->XR}{cls:Nat->Addr}(T:Txt K mg f fd cls):FnOk P w K mg base CX0 13 (f 37) (fd 37) ["script"] (spD K (sD Zfg)):=by
 have G_law_alike:=Zl3 (P:=P) (w:=w) (base:=base) T
 have G_law_are_cuts:=Zij (P:=P) (w:=w) (base:=base) T
 have G_law_cell_at:=Zio (P:=P) (w:=w) (base:=base) T
 have G_law_low:=Zdo (P:=P) (w:=w) (base:=base) T
 have G_law_ring:=Znr (P:=P) (w:=w) (base:=base) T
 have G_law_ring_weights:=Zd7 (P:=P) (w:=w) (base:=base) T
 have G_law_rows:=Znu (P:=P) (w:=w) (base:=base) T
 have G_law_sides:=Zmb (P:=P) (w:=w) (base:=base) T
 have G_law_size:=Znw (P:=P) (w:=w) (base:=base) T
 have G_law_sum_of:=Zjm (P:=P) (w:=w) (base:=base) T
 have G_law_table:=Zl8 (P:=P) (w:=w) (base:=base) T
 have G_law_weighted:=Zii (P:=P) (w:=w) (base:=base) T
 have G_added:=Zxj (P:=P) (w:=w) (base:=base) T
 have G_first_ring:=Zkj (P:=P) (w:=w) (base:=base) T
 have G_ring_told:=Zmk (P:=P) (w:=w) (base:=base) T
 have G_times_table:=Ziv (P:=P) (w:=w) (base:=base) T
 refine Yb T.e_law.F Jh (S:=Zi8) rfl rfl (λcdv A outer s H E hr=>?_)
 have hu:=hr.units
 exact(xsq (xst 1 Jh.nd (xce G_law_size hr T.e_law_size (Ze (xce G_law_cell_at hr T.e_law_cell_at (Ze (xv 0) (xa1 xci))) (Ze xci (Ze xci (xa1 xci)))))) (xsq (xst 2 Jh.nd (xce G_law_cell_at hr T.e_law_cell_at (Ze (xv 0) (xa1 xci)))) (xsq (xst 3 Jh.nd (xix (xls (Ze xci (Ze xci (Ze xci (xa1 (Zfd (Z9b xci xci) xci)))))) (Zk6 (Zou (xv 2) xci) xci))) (xsq (xst 4 Jh.nd (xce G_law_ring hr T.e_law_ring (Ze (xce G_law_cell_at hr T.e_law_cell_at (Ze (xv 0) (xa1 xci))) (xa1 (xv 1))))) (xsq (xst 5 Jh.nd (xce G_law_sides hr T.e_law_sides (xa1 (xv 4)))) (xsq (xst 6 Jh.nd (xce G_law_ring_weights hr T.e_law_ring_weights (Ze (xv 0) (Ze xci (Ze (xv 1) (xa1 (xv 2))))))) (xsq (xst 7 Jh.nd (xce G_law_ring_weights hr T.e_law_ring_weights (Ze (xv 0) (Ze (Zfd xci (xln T.z_len (xa1 (xv 5)))) (Ze (xv 1) (xa1 (Zfd (xv 2) xci))))))) (xsq (xif (xeq hu (xv 1) xci) (Zg (Zmy (Zdr (i:=6) (own:=["weight"]) (caps:=[]) (N':=["weight"]) false Jh.nd rfl (QH rfl) (by exact⟨rfl,by decide +kernel,rfl,by decide +kernel,rfl,rfl⟩) (by rfl) (by decide) (xil (xv 6)) (λ_ _ _ _ _=>(xg 0 (by show Q8 (["weight"]:List Str);decide +kernel))) (λ_ _ _ _ _=>(Zab J9)) (λ_ _ _ _ _=>(Zfd xci (xv 0)))))) xnl) (xsq (Zmy (Zdr (i:=8) (own:=["one","other"]) (caps:=[]) (N':=["one","other"]) false Jh.nd rfl (QH rfl) (by exact⟨rfl,by decide +kernel,rfl,by decide +kernel,rfl,rfl⟩) (by rfl) (by decide) (Zgc (Zf1 (by rfl) T.z_zip L2.B.boot_zip (Ze (xv 6) (xa1 (xv 7))))) (λ_ _ _ _ _=>(xg2 rfl (xg 0 (by show Q8 (["one","other"]:List Str);decide +kernel)) (xg 1 (by show Q8 (["one","other"]:List Str);decide +kernel)))) (λ_ _ _ _ _=>(Zab J9)) (λ_ _ _ _ _=>(Zfd (xv 0) (xv 1))))) (xsq (xst 9 Jh.nd (xce G_law_rows hr T.e_law_rows (Ze (xv 1) (Ze (xv 5) (xa1 (xv 8)))))) (xsq (xst 10 Jh.nd (xce G_law_table hr T.e_law_table (Ze (xce G_law_rows hr T.e_law_rows (Ze (xv 1) (Ze (xv 5) (xa1 (xv 6))))) (xa1 (xv 3))))) (xsq (xst 11 Jh.nd (xce G_added hr T.e_added (Ze (xv 10) (xa1 (xce G_law_table hr T.e_law_table (Ze (xce G_law_rows hr T.e_law_rows (Ze (xv 1) (Ze (xv 5) (xa1 (xv 7))))) (xa1 (xv 3)))))))) (xsq (xst 12 Jh.nd (xtp (Ze (Zcp Zlw) (xa1 (xce G_law_weighted hr T.e_law_weighted (Ze (xv 5) (Ze (xv 8) (xa1 (xv 3))))))))) (xsq (xif (MW.mt (Zcj (Zch (xno (W7 (W8 (xce G_law_alike hr T.e_law_alike (Ze (xv 11) (xa1 (xce G_law_table hr T.e_law_table (Ze (xv 9) (xa1 (xv 3))))))) (λ_=>rfl)))) (Zde (xno (W7 (W8 (xce G_law_alike hr T.e_law_alike (Ze (xce G_ring_told hr T.e_ring_told (Ze (xv 11) (xa1 (xv 4)))) (xa1 (xv 12)))) (λ_=>rfl)))))))) (Zg (xrt (Zcp Zbo))) xnl) (xsq (Zov (Zor (i:=13) Jh.nd rfl (Qx rfl) (xce G_law_low hr T.e_law_low (Ze (Zk6 (xce G_law_cell_at hr T.e_law_cell_at (Ze (xv 0) (xa1 xci))) xci) (xa1 (Zfd xci (Zk6 (Zou (xce G_law_cell_at hr T.e_law_cell_at (Ze (xv 0) (xa1 xci))) xci) xci))))))) (xsq (Zmy (Zdr (i:=14) (own:=["weight"]) (caps:=[13]) (N':=["weight","by"]) false Jh.nd rfl (QH rfl) (by exact⟨rfl,by decide +kernel,rfl,by decide +kernel,rfl,rfl⟩) (by rfl) (by decide) (xil (xv 6)) (λ_ _ _ _ _=>(xg 0 (by show Q8 (["weight","by"]:List Str);decide +kernel))) (λ_ _ _ _ _=>(Zab J9)) (λ_ _ _ _ _=>(Zil (xv 0) (xix (xv 1) xci))))) (xsq (xif (xno (W7 (W8 (xce G_law_alike hr T.e_law_alike (Ze (xce G_ring_told hr T.e_ring_told (Ze (xce G_times_table hr T.e_times_table (Ze (xv 13) (xa1 (xv 10)))) (xa1 (xv 4)))) (xa1 (xtp (Ze (Zcp Zlw) (xa1 (xce G_law_weighted hr T.e_law_weighted (Ze (xv 5) (Ze (xv 14) (xa1 (Zil (xv 3) (xix (xv 13) xci)))))))))))) (λ_=>rfl)))) (Zg (xrt (Zcp Zbo))) xnl) (xsq (xst 15 Jh.nd (xce G_first_ring hr T.e_first_ring (xa1 (xv 11)))) (xsq (xif (MW.mt (Zcj (Zch (xno (W7 (W8 (Jg (Zbv (by decide) (by rfl) T.z_isinstance L2.B.boot_isinstance (by rfl) T.z_list L2.B.boot_list (xv 15))) (λ_=>rfl)))) (Zcj (Zch (Za9 Yab (Za1 (Z4n hu) Z3o (xv 15) (xv 4) (hm:=(Je _)))) (Zde (MW.mt (Zpj (Zol (xeq hu (xv 1) xci) (Zj0 (xne hu (xv 15) (xv 4)))))))))))) (Zg (xrt (Zcp Zbo))) xnl) (xsq (Z68 (Z3v (xce G_ring_told hr T.e_ring_told (Ze (xv 11) (xa1 (xv 15)))) (xg2 rfl (xg 16 Jh.nd) (xg 17 Jh.nd)))) (Zg (xrt (Zed (Zm9 (Wb Zzj (Zid (Zhm hu) Znf (xv 16) (Zcp Zlw) (hm:=(Je _)))) (Zed (Zm9 (xce G_law_are_cuts hr T.e_law_are_cuts (Ze (xv 1) (Ze (xv 17) (xa1 (xv 3))))) (Zul (xce G_law_sum_of hr T.e_law_sum_of (Ze (xv 1) (Ze (xv 17) (Ze (xv 3) (xa1 (xv 9)))))))))))))))))))))))))))))))))
theorem Z07{f:Nat->Addr}{fd:Nat->XR}{cls:Nat->Addr}(T:Txt K mg f fd cls):FnOk P w K mg base CX0 13 (f 37) (fd 37) ["script"] (spD K Z5i):=(Z6z T).imp λvs H Q E q=>by
 obtain⟨L,ds,k,h1,⟨ns,e,hl,hk⟩,h3⟩:=q
 exact⟨L,ds,k,h1,⟨_,by rw[e];exact Zwo ns hl,hk⟩,h3⟩
end
theorem Z6p{l:PySem.W.OpenLaw}{w:Qs}{K:Xc}{h:Heap}{mg:Str->Option Xd}{fa:Addr}(X:K.In h)(G:h.Ns Ql mg)(hfa:mg "law"=some (.ref fa))
  (q1:Ei K "_law_alike" Zej f1 d1)
  (q2:Ei K "_law_low" Zh0 f2 d2)
  (q3:Ei K "_law_are_cuts" Zbb f3 d3)
  (q4:Ei K "_law_cell_at" Zb6 f4 d4)
  (q5:Ei K "_law_stir" Zfr f5 d5)
  (q6:Ei K "_law_numbers" Zby f6 d6)
  (q7:Ei K "_law_put_right" Zat f7 d7)
  (q8:Ei K "_law_ring" Zfy f8 d8)
  (q9:Ei K "_law_ring_weights" Jm f9 d9)
  (q10:Ei K "_law_rows" Zfo f10 d10)
  (q11:Ei K "_law_gaps" Zfm f11 d11)
  (q12:Ei K "_law_sides" Zeh f12 d12)
  (q13:Ei K "_law_size" Zgb f13 d13)
  (q14:Ei K "_law_sum_of" Zco f14 d14)
  (q15:Ei K "_law_table" Zem f15 d15)
  (q16:Ei K "_law_weighted" Zbc f16 d16)
  (q17:Ei K "greatest_divisor" Jo f17 d17)
  (q18:Ei K "in_least" Zft f18 d18)
  (q19:Ei K "plus" Zrh f19 d19)
  (q20:Ei K "added" Znt f20 d20)
  (q21:Ei K "twice_weight" Zbg f21 d21)
  (q22:Ei K "fits_gap" Zga f22 d22)
  (q23:Ei K "first_grown" Zcb f23 d23)
  (q24:Ei K "shared_bottom" Za0 f24 d24)
  (q25:Ei K "table_bottom" Zbe f25 d25)
  (q26:Ei K "tops_over" Zek f26 d26)
  (q27:Ei K "table_over" Zcs f27 d27)
  (q28:Ei K "first_ring" Zdb f28 d28)
  (q29:Ei K "is_whole" Zf9 f29 d29)
  (q30:Ei K "is_ring" Zic f30 d30)
  (q31:Ei K "check_ring" Zc4 f31 d31)
  (q32:Ei K "fraction" Zfz f32 d32)
  (q33:Ei K "pairs_of" Zfw f33 d33)
  (q34:Ei K "ring_told" Zep f34 d34)
  (q35:Ei K "is_below" Zfp f35 d35)
  (q36:Ei K "times" Zm4 f36 d36)
  (q37:Ei K "times_table" Zb9 f37 d37)
  (q38:Ei K "law" Z0y f38 d38)
  (z0:QM K Ql "abs"=some none)
  (z1:QM K Ql "bool"=some none)
  (z2:QM K Ql "int"=some none)
  (z3:QM K Ql "isinstance"=some none)
  (z4:QM K Ql "len"=some none)
  (z5:QM K Ql "list"=some none)
  (z6:QM K Ql "range"=some none)
  (z7:QM K Ql "set"=some none)
  (z8:QM K Ql "sorted"=some none)
  (z9:QM K Ql "str"=some none)
  (z10:QM K Ql "tuple"=some none)
  (z11:QM K Ql "zip"=some none)
  (cc_NoNumber:QM K Ql "NoNumber"=some (some (.ref C_NoNumber)))
  (cc_NoOrder:QM K Ql "NoOrder"=some (some (.ref C_NoOrder)))
  (cc_NoTable:QM K Ql "NoTable"=some (some (.ref C_NoTable)))
  (x_NoNumber:Zel K C_NoNumber)
  (x_NoOrder:Zel K C_NoOrder)
  (x_NoTable:Zel K C_NoTable)
  (r_NoNumber:Zp4 K C_NoNumber)
  (r_NoOrder:Zp4 K C_NoOrder)
  (r_NoTable:Zp4 K C_NoTable)
  :∃fd:XR,(∀(s:Xg) (v:Xd),BindsTo s fd ⟨[v],[]⟩ [("script",v)])∧∀base:Heap,K.In base->base.Ns Ql mg->FnOk l.prog w K mg base CX0 13 fa fd ["script"] (spD K Z5i):=by
 have e:=hfa.symm.trans (PySem.W.mg_of X G q38.a)
 cases e
 have T:Txt K mg (λk=>[f1,f2,f3,f4,f5,f6,f7,f8,f9,f10,f11,f12,f13,f14,f15,f16,f17,f18,f19,f20,f21,f22,f23,f24,f25,f26,f27,f28,f29,f30,f31,f32,f33,f34,f35,f36,f37,f38].getD k 0) (λk=>[d1,d2,d3,d4,d5,d6,d7,d8,d9,d10,d11,d12,d13,d14,d15,d16,d17,d18,d19,d20,d21,d22,d23,d24,d25,d26,d27,d28,d29,d30,d31,d32,d33,d34,d35,d36,d37,d38].getD k d38) (λk=>[C_NoNumber,C_NoOrder,C_NoTable].getD k 0):=⟨en2 X G q1,en2 X G q2,en3 X G q3,en2 X G q4,en2 X G q5,en2 X G q6,en1 X G q7,en2 X G q8,en4 X G q9,en3 X G q10,en1 X G q11,en1 X G q12,en4 X G q13,en4 X G q14,en2 X G q15,en3 X G q16,en2 X G q17,en2 X G q18,en2 X G q19,en2 X G q20,en4 X G q21,en3 X G q22,en2 X G q23,en1 X G q24,en1 X G q25,en2 X G q26,en2 X G q27,en1 X G q28,en1 X G q29,en2 X G q30,en2 X G q31,en2 X G q32,en1 X G q33,en2 X G q34,en2 X G q35,en2 X G q36,en2 X G q37,en1 X G q38,QK X G z0,QK X G z1,QK X G z2,QK X G z3,QK X G z4,QK X G z5,QK X G z6,QK X G z7,QK X G z8,QK X G z9,QK X G z10,QK X G z11,ec X G cc_NoNumber,ec X G cc_NoOrder,ec X G cc_NoTable,x_NoNumber,x_NoOrder,x_NoTable,r_NoNumber,r_NoOrder,r_NoTable⟩
 refine⟨d38,λs v=>?_,λbase _ _=>Z07 (P:=l.prog) (w:=w) (base:=base) T⟩
 obtain⟨_,_,_,_,_,_,_,_,_,rfl,_,_⟩:=q38.F.ex
 exact .of_eq rfl
theorem walk{l:PySem.W.OpenLaw}{q:Qa}{loose:List Str}{XP:(Str->Option Xd)->Heap->Prop}{YP:Qs->Heap->Prop}{d:DefRec}{K:Params->Xc}(hn:l.most=some 63)(hdf:d.params.defaults=[])
  (hY:∀(w:Qs) (h:Heap),YP w h->(K w.params).In h)
  (F:∀(w:Qs) (mg:Str->Option Xd) (fa:Addr) (h:Heap),(K w.params).In h->h.Ns Ql mg->mg d.name=some (.ref fa) ->
   ∃fd:XR,(∀(s:Xg) (u:Xd),BindsTo s fd ⟨[u],[]⟩ [("script",u)])∧∀base:Heap,(K w.params).In base->base.Ns Ql mg->FnOk l.prog w (K w.params) mg base CX0 13 fa fd ["script"] (spD (K w.params) Z5i)) :
  PySem.W.WalkO q loose XP YP l.row.toRowW d [] (λf vs=>PySem.call f vs) :=
 L2.Z2h (n:=63) (k:=13) (x :="script") (CX:=λ_=>CX0) (sp:=λw=>spD (K w.params) Z5i) hn (by decide) hdf ⟨rfl,by decide,by decide⟩ hY F (λ_ _ a ns hl _ hS=>Z66 hl hS) λ_ _ _ _ _ z=>z
end My
open PySem PySem.W PyProof.Rows
theorem PySem.W.Fast.tw10979159902800049538:True:=trivial
theorem PySem.W.Fast.tw8617471634766862091:True:=trivial
theorem PySem.W.Fast.tw12348668139661806229:True:=trivial
theorem PySem.W.Fast.tw13914643394945490238:True:=trivial
theorem PySem.W.Fast.tw2376564296976137670:True:=trivial
theorem PySem.W.Fast.tw17215102081006337449:True:=trivial
theorem PySem.W.Fast.tw13491293580468377954:True:=trivial
theorem PySem.W.Fast.tw4068394213919325147:True:=trivial
theorem PySem.W.Fast.tw9450217089878151056:True:=trivial
theorem PySem.W.Fast.tw12487478156425610065:True:=trivial
theorem PySem.W.Fast.tw1668094818824062102:True:=trivial
theorem PySem.W.Fast.tw9956948056299138929:True:=trivial
theorem PySem.W.Fast.tw5839447468255879110:True:=trivial
theorem PySem.W.Fast.tw2338210802863018267:True:=trivial
theorem PySem.W.Fast.tw14070618353611484264:True:=trivial
theorem PySem.W.Fast.tw4927052946692885346:True:=trivial
theorem PySem.W.Fast.tw1340187708466284060:True:=trivial
theorem PySem.W.Fast.tw3457699713942927924:True:=trivial
theorem PySem.W.Fast.tw9053359798976973768:True:=trivial
theorem PySem.W.Fast.tw839625257590566790:True:=trivial
theorem PySem.W.Fast.tw17798949091037830561:True:=trivial
theorem PySem.W.Fast.tw9702042496163506154:True:=trivial
theorem PySem.W.Fast.tw13143609761803238763:True:=trivial
theorem PySem.W.Fast.tw12139237980394626927:True:=trivial
theorem PySem.W.Fast.tw11689035367399605924:True:=trivial
theorem PySem.W.Fast.tw2339218531503156458:True:=trivial
theorem PySem.W.Fast.tw17624432196265088423:True:=trivial
theorem PySem.W.Fast.tw421645315789698519:True:=trivial
theorem PySem.W.Fast.tw17950283549520696398:True:=trivial
theorem PySem.W.Fast.tw4888199958717012776:True:=trivial
theorem PySem.W.Fast.tw2060645591184148066:True:=trivial
theorem PySem.W.Fast.tw10557636818551215199:True:=trivial
theorem PySem.W.Fast.tw17310351860181699543:True:=trivial
theorem PySem.W.Fast.tw17610045175659548043:True:=trivial
theorem PySem.W.Fast.tw17401045665674579432:True:=trivial
theorem PySem.W.Fast.tw6523345575324792724:True:=trivial
theorem PySem.W.Fast.tw12238602886903099559:True:=trivial
theorem PySem.W.Fast.tw14366159800582021061:True:=trivial
theorem PySem.W.Fast.tw15686872827107773407:True:=trivial
theorem PySem.W.Fast.tw4369783602807770332:True:=trivial
set_option maxRecDepth 100000 in
set_option maxHeartbeats 0 in
theorem PySem.Challenge.cw_farcuts_k31_rings_added_holds : PySem.Challenge.rw_farcuts_k31_rings_added.Holds := by
 w_on;o_law;k_head;(case hw=>w_witness2)
 k_fill
 refine My.walk (l:=PySem.Challenge.rw_farcuts_k31_rings_added) rfl rfl (λw h Y=>PySem.W.kIn_of Y) ?F
 case F=>
  intro w mg fa h KX G hmg
  refine' My.Z6p KX G hmg ?_ ?_ ?_ ?_ ?_ ?_ ?_ ?_ ?_ ?_ ?_ ?_ ?_ ?_ ?_ ?_ ?_ ?_ ?_ ?_ ?_ ?_ ?_ ?_ ?_ ?_ ?_ ?_ ?_ ?_ ?_ ?_ ?_ ?_ ?_ ?_ ?_ ?_ ?_ ?_ ?_ ?_ ?_ ?_ ?_ ?_ ?_ ?_ ?_ ?_ ?_ ?_ ?_ ?_ ?_ ?_ ?_ ?_ ?_
  all_goals try (first|(refine' ⟨?a,L2.Z3e ?l ?c ?k⟩;(case a=>k_is);(case l=>k_is);(case c=>k_is);(case k=>k_is))|k_is|kit_is|(show PySem.W.excIn _ _ _ _=true;k_exc)|(refine' ⟨?_,?_,?_,?_,?_,?_,?_,?_,?_,?_,?_⟩<;>first|k_is|kit_is|(show PySem.W.isClsIn _ _=true;k_is)))
#print axioms PySem.Challenge.cw_farcuts_k31_rings_added_holds
