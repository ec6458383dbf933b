import PyProof.Rows.All
import Wide.All
import OpenK.AllK
import Wide.FinOn
import PyProof.EqAt
import PyProof.EqKinds
import PyProof.TupleCall
import PyProof.P3In
import PyProof.ZipIter
import PyProof.ListRange
import PyProof.SetRoads
import PyProof.Rows.SetFrom
import PyProof.Rows.SeqMore2
import KE.RegKIsAll
import PyProof.StrWalks
import PyProof.EnumMake
import PyProof.Conv_int
import PyProof.Conv_int_bool
import PyProof.StrBlockI
import PyProof.Draws
import PySem.Challenge.RW_farcuts_k48_rests
set_option Elab.async false
set_option linter.all false
set_option maxRecDepth 100000
set_option genSizeOfSpec false
set_option genInjectivity false
/-! THE HAND LAYER, for ints, bools, texts, own classes, LISTS and tuples (index, slices, in, append, pop ..), calls, loops. Paste it whole ahead of your own text; what your proof does not reach may be deleted. -/
open Array renaming getElem?_toList->JL,length_toList->Bx
open Bool renaming false_ne_true->XC,and_eq_true->XN,false_eq_true->BZ,eq_false_iff->UL,and_true->UW
open False renaming elim->Vl
open ForInStep renaming yield->JB
open Int renaming zero_add->Qw,le_trans->Qx,toNat_natCast->QV,gcd->JK,max_eq_right->BW,mul_le_mul_of_nonneg_left->BX,gcd_eq_natAbs_gcd_natAbs->Vf,natAbs_ediv_le_natAbs->Vt,toNat_of_nonneg->Vu,max_eq_left->Vz,mul_nonpos_of_nonneg_of_nonpos->VB,le_refl->VD,le_antisymm->Ub,natAbs_natCast->Us,lt_of_lt_of_le->Ut
open List renaming length_map->Xe,getElem?_eq_some_iff->Xg,getD_eq_getElem?_getD->Xi,getElem?_eq_getElem->Xj,getElem?_map->Xk,range->Xl,mem_cons->Xo,length_range->Xw,replicate->Xx,mem_singleton->Xy,mem_map->XF,map_congr_left->XH,size_toArray->XM,map_cons->X3,mem_of_getElem?->X5,getElem?_set_ne->Qh,nodup_cons->Qj,mem_append_right->Qk,mem_append->Ql,getElem?_set_self->Qo,mem_range->Qp,Nodup->Qq,length_append->Qy,getElem?_range->Qz,map_map->QD,map_append->QF,getElem?_of_mem->QH,lookup_cons->QM,getElem?_eq_none_iff->QR,append_nil->QT,getElem?_eq_none->Q6,mem_filter->Q7,getElem?_append_right->JF,length_drop->JR,length_cons->JS,eq_nil_of_length_eq_zero->JX,nodup_append->Ba,take_length->Bj,getElem?_append_left->Bq,length_set->Br,mem_append_left->Bs,append_assoc->Bu,replicate_succ->By,getElem_of_mem->BJ,filter_cons_of_pos->BK,filter_cons_of_neg->BL,all_eq_true->BP,length_filter_le->Vg,take_succ->Vn,toArray->Vp,rel_of_pairwise_cons->Vs,sum_cons->Vv,any_cons->Vw,find?_cons->Vx,flatten_cons->VH,length_replicate->VL,not_mem_nil->VM,mem_flatMap->VN,length_take->VP,getElem_mem->VR,take_nil->V3,drop_nil->V4,mem_cons_of_mem->V7,pairwise_cons->Uh,mem_cons_self->Ui,forIn_nil->Uj,pairwise_iff_getElem->Ux,getElem?_nil->UG,all_cons->UV,pairwise_singleton->U7,getElem?_replicate->U8
open Nat renaming ne_of_lt->Xu,ne_of_gt->XJ,le_refl->XQ,lt_of_lt_of_le->X6,not_lt_zero->Qe,le_trans->Qg,lt_irrefl->QQ,zero_le->QZ,lt_succ_self->JV,le_add_right->Bk,lt_of_le_of_lt->Bl,lt_trans->Vd,lt_or_ge->Ve,pow_le_pow_right->Vo,zero_add->Vr,lt_trichotomy->UT
open Ne renaming symm->Bb
open Option renaming bind_some->Xh,some->Be,map_some->U9
open Option.some renaming inj->QB
open Or renaming inr->Qi,inl->Qn
open PyProof.Rows renaming callWith_type1->JW,seqObj->BV,IntsAre->Vy,KeysIn->V6,slot_tupleiter_next->Uu,envOfC->U4
open PySem renaming PyData->Xa,Value->Xc,Shared->Xd,wpAny_bind->Xf,starEach->Xp,sizeLine->Xr,FuncData->XD,wpAny->XR,mainGlobals->XX,Program->X4,model->X7,wpAny_pure->X8,bootBuiltins->Qa,sizeLine_eq->Qc,Around->Qm,World->Qs,assignEach->QW,wpAny_loadPart'->Q0,mem_of_lookup->JD,backTo->JG,cellsFrom->JM,NameKind->Bc,foldedSetIterable->Bf,compareOp->Bg,IsPair->Bm,wpAny_field->Bo,pushCells->Bp,wpAny_mono->BR,wpAny_seqItems->Va,binaryOp->Vb,SetTable->Vc,wpAny_setField_rec->Vh,wpAny_Call_Name_kw->Vi,wpAny_passesOwn->Vj,swapsWith->Vm,wpAny_callSpecial?_slot->VJ,wpAny_truthy_bool->V0,wpAny_loadPart_at->V1,assign->V2,Keyword->V5,Scope->V8,wpAny_call_entry->Ua,behindInMarks->Uc,attributeBase->Ud,sliceBounds->Ue,pushCells_keeps->Ul,letOwnedTupleGo->Um,intItems->U3,IsZip->U6
open PySem.Builtin.Int renaming intBits->Q8,intTooBig->UJ
open PySem.Builtin.List renaming listTooLong->V9
open PySem.Builtin.SmallTypes renaming nextOf->QK,ownedTupleIsFree->JP,ownedTupleHandOut->Uk
open PySem.F renaming type_list_append->Uq,slot_list_append->Ur,plainAttrs_list->Uz
open PySem.Heap renaming get?_push_of_some->Xm,lt_size->Xz,get?_push_size->Qd,size_push->QX,SameBut->Vq
open PySem.NameKind renaming free->QL,cell->JN
open PySem.Obj renaming mapSeq->JH
open PySem.PassesOwn renaming never->Xq
open PySem.PyData renaming int->Xn,list->QC,eqv->Q3,canLayAll0->Q9,canLay0->Bh,eqvAll->Uw
open PySem.PyData.list renaming inj->Uv
open PySem.SeqAt renaming EqAt->JC,shaped->VF,canLay_of_shaped->VG
open PySem.SetTable renaming below->JQ
open PySem.Value renaming ref->QJ,none->Q4,builtin->Uy,int->U5
open PySem.W renaming Frag->Xb,mg_none_of->Qt,nsIn->QG,kia_one->QS,Looks->Q5,keepIn->JT,kitOne->Bv,findIn->Bw,fnOf->Vk,kas_sort->U0
open Rat renaming divInt->Xv,divInt_eq_div->Qu,div_def->JZ,sub_eq_add_neg->Uo
open True renaming intro->Ug
namespace L2
open PySem PySem.Spec PyProof.Rows
noncomputable abbrev Key:=Sum Int Str
noncomputable def Z4t:Key->Xc->Bool
 | .inl k,v=>Xc.isInt k v
 | .inr x,v=>Xc.isStrOf x v
noncomputable def Yep(w:Qs):Key->Int
 | .inl k=>hashInt k
 | .inr x=>hashStr w x
theorem Wf:∀{k:Key} {v:Xc},Z4t k v=true->(∃i t,k=Sum.inl i∧v=U5 i t)∨(∃x t,k=Sum.inr x∧v=Value.str x t)
 | .inl i,v,h=>by
  obtain⟨t,e⟩:=Value.isInt_shape (k:=i) (v:=v) h
  exact .inl ⟨i,t,rfl,e⟩
 | .inr x,v,h=>by
  obtain⟨t,e⟩:=Xc.isStrOf_shape (x:=x) (v:=v) h
  exact .inr ⟨x,t,rfl,e⟩
theorem Z5t(a b:Int):decide ((Sum.inl a:Key)=Sum.inl b)=(a==b):=by
 by_cases e:a=b
 ·subst e;simp
 ·have h:¬(Sum.inl a:Key)=Sum.inl b:=λq=>e (Sum.inl.inj q)
  rw[decide_eq_false h]
  exact(beq_eq_false_iff_ne.mpr e).symm
theorem Z5d(a b:Str):decide ((Sum.inr a:Key)=Sum.inr b)=decide (a=b):=by
 by_cases e:a=b
 ·subst e;simp
 ·have h:¬(Sum.inr a:Key)=Sum.inr b:=λq=>e (Sum.inr.inj q)
  rw[decide_eq_false h,decide_eq_false e]
theorem Z3g(a:Int)(b:Str):decide ((Sum.inl a:Key)=Sum.inr b)=false:=decide_eq_false (λq=>nomatch q)
theorem Z7m(a:Str)(b:Int):decide ((Sum.inr a:Key)=Sum.inl b)=false:=decide_eq_false (λq=>nomatch q)
noncomputable def Znq(prog:X4)(w:Qs):PySem.KeyKind prog w Key where
 is:=Z4t
 hash:=Yep w
 inj:=λv a b ha hb=>by
  rcases Wf ha with⟨i,t,rfl,rfl⟩|⟨x,t,rfl,rfl⟩
  ·rcases Wf hb with⟨j,u,rfl,e⟩|⟨y,u,rfl,e⟩
   ·injection e with e1 _;rw[e1]
   ·exact nomatch e
  ·rcases Wf hb with⟨j,u,rfl,e⟩|⟨y,u,rfl,e⟩
   ·exact nomatch e
   ·injection e with e1 _;rw[e1]
 byValue:=λk v h=>by
  rcases Wf h with⟨i,t,rfl,rfl⟩|⟨x,t,rfl,rfl⟩<;>rfl
 pyHash:=λhv h=>by
  rcases Wf hv with⟨i,t,rfl,rfl⟩|⟨x,t,rfl,rfl⟩
  ·exact wpAny_pyHash_int h
  ·exact wpAny_pyHash_str h
 eqBool:=λhu hv h=>by
  rcases Wf hu with⟨i,t,rfl,rfl⟩|⟨x,t,rfl,rfl⟩
  ·rcases Wf hv with⟨j,u,rfl,rfl⟩|⟨y,u,rfl,rfl⟩
   ·rw[Z5t]at h;exact wpAny_eqBool_int h
   ·rw[Z3g]at h;exact SeqAt.EqAt.int_str i t y u _ _ _ _ h
  ·rcases Wf hv with⟨j,u,rfl,rfl⟩|⟨y,u,rfl,rfl⟩
   ·rw[Z7m]at h;exact SeqAt.EqAt.str_int x t j u _ _ _ _ h
   ·rw[Z5d]at h;exact wpAny_eqBool_str h
 «strs»:=λk x t v h=>by
  rcases Wf h with⟨i,u,rfl,e⟩|⟨y,u,rfl,e⟩
  ·exact nomatch e
  ·injection e with e1 _
   subst e1
   cases v<;>rfl
inductive V where
 | non|bl (b:Bool)|int (i:Int)|str (x:Str)|byt (b:Array UInt8)|flt (b:UInt64)|ref (a:Addr)|ty (n:String)
 deriving DecidableEq
noncomputable def RelV:V->Xc->Prop
 | .non,u=>u=Q4
 | .bl b,u=>u=Value.bool b
 | .int i,u=>∃t,u=U5 i t
 | .str x,u=>∃t,u=Value.str x t
 | .byt b,u=>∃t,u=Xc.bytes b t
 | .flt b,u=>∃t,u=Xc.float b t
 | .ref a,u=>u=QJ a
 | .ty n,u=>u=Xc.type n
noncomputable abbrev Vals:List V->List Xc->Prop:=Paired RelV
theorem Vals.length{xs:List V}{us:List Xc}(r:Vals xs us):xs.length=us.length:=Paired.length r
theorem Vals.get{xs:List V}{us:List Xc}{i:Nat}{x:V}(h:Vals xs us)(e:xs[i]? =some x):∃u,us[i]? =some u∧RelV x u:=by
 induction h generalizing i with
 | nil=>exact(Option.some_ne_none _ (e.symm.trans UG)).elim
 | cons r t ih=>
  cases i with
  | zero=>exact⟨_,rfl,QB e▸r⟩
  | succ i=>exact ih e
theorem Vals.set{x:V}{u:Xc}(r:RelV x u){xs:List V}{us:List Xc}(i:Nat)(h:Vals xs us):Vals (xs.set i x) (us.set i u):=by
 induction h generalizing i with
 | nil=>exact .nil
 | cons q t ih=>
  cases i with
  | zero=>exact .cons r t
  | succ i=>exact .cons q (ih i)
theorem Vals.append{xs ys:List V}{us ws:List Xc}(h:Vals xs us)(s:Vals ys ws):Vals (xs ++ ys) (us ++ ws):=by
 induction h with
 | nil=>exact s
 | cons r t ih=>exact .cons r ih
theorem Vals.take{xs:List V}{us:List Xc}(n:Nat)(h:Vals xs us):Vals (xs.take n) (us.take n):=by
 induction h generalizing n with
 | nil=>rw[V3,V3];exact .nil
 | cons r t ih=>
  cases n with
  | zero=>exact .nil
  | succ n=>exact .cons r (ih n)
theorem Vals.drop{xs:List V}{us:List Xc}(n:Nat)(h:Vals xs us):Vals (xs.drop n) (us.drop n):=by
 induction h generalizing n with
 | nil=>rw[V4,V4];exact .nil
 | cons r t ih=>
  cases n with
  | zero=>exact .cons r t
  | succ n=>exact ih n
noncomputable def RelO:Option V->Option Xc->Prop
 | some v,some u=>RelV v u
 | none,none=>True
 | _,_=>False
noncomputable def KV{κ:Type}:List (κ×V)->List (κ×Xc)->Prop:=Paired λ(p:κ×V) (q:κ×Xc)=>p.1=q.1∧RelV p.2 q.2
noncomputable def kV:Key->V
 | .inl i=>.int i
 | .inr x=>.str x
inductive HO where
  | lst (xs:List V)
  | tup (xs:List V)
  | dK (kvs:List (Key×V))|dT (kvs:List (List Key×V))
  | set (S:Int->Bool) (n:Nat)
  | ins (C dx:Addr) (fs:List (Str×V))
  | own (x:Addr)
  | xd (fs:List (Str×V))
  | met (f x:Addr)
  | rng (lo hi:Int)
  | frz (o:Obj) (u:HO)
  | tbl (ps:Array Xc)
  | ext (φ:Heap->Prop)
noncomputable abbrev Hp:=Addr->Option HO
noncomputable def upd(H:Hp)(a:Addr)(o:HO):Hp:=λb=>if b=a then some o else H b
theorem Zx{H:Hp}{a:Addr}{o:HO}:upd H a o a=some o:=by unfold upd;rw[if_pos rfl]
theorem Zr{H:Hp}{a b:Addr}{o:HO}(h:b≠a):upd H a o b=H b:=by unfold upd;rw[if_neg h]
theorem Yq{H:Hp}{a b:Addr}{o:HO}(h:H a=some o)(h':H b=none):a≠b:=by
 intro e;subst e;rw[h]at h';cases h'
section
variable (P:X4)(w:Qs)
noncomputable def ObjOk(H:Hp)(h:Heap)(a:Addr):HO->Prop
 | .lst xs=>xs.length≤Xr∧∃(its:List Xc) (n:Nat),Vals xs its∧h.get? a=some { cls:=.type "list",data:=.seq its.toArray n }
 | .tup xs=>xs.length≤Xr∧∃its:List Xc,Vals xs its∧IsTup h a its.toArray
 | .dK kvs=>kvs.length≤Xr∧(a==sysModules)=false∧∃vs,KV kvs vs∧h.DictOf (Znq P w) a vs
 | .dT kvs=>kvs.length≤Xr∧(a==sysModules)=false∧∃xs:List (List Key×Addr×Xc),
   Paired (λ(p:List Key×V) (q:List Key×Addr×Xc)=>p.1=q.1∧H q.2.1=some (.tup (p.1.map kV))∧RelV p.2 q.2.2) kvs xs∧
   ∃o es ep,h.get? a=some o∧o.ExactDict∧o.data= .dict es ep∧es.toList=xs.map (entryOfKey (tupleKind (Znq P w)))∧(xs.map (·.1)).Nodup
 | .set S n=>h.SetOf (intKind P w) a S n
 | .ins C dx fs=>H dx=some (.own a)∧fs.length≤1000∧dx≠a∧h.get? a=some (PySem.W.instObj C dx)∧
   ∃mA,h.Ns1 dx mA∧(∀f,RelO (fs.lookup f) (mA f))∧PySem.Within mA (fs.map (·.1))
 | .own _=>∃o,h.get? a=some o
 | .xd fs=>∃mA,h.Ns1 a mA∧∀f,RelO (fs.lookup f) (mA f)
 | .rng lo hi=>∃t u v,h.get? a=some { cls:=.type "range",data:=.fields #[.int lo t,.int hi u,.int 1 v] }
 | .frz o u=>h.get? a=some o∧ObjOk H h a u
 | .tbl ps=>h.get? a=some { cls:=.none,data:=.fields ps }
 | .met f x=>h.get? a=some (PySem.W.methodObj (.ref f) (.ref x))
 | .ext φ=>φ h∧(∃o,h.get? a=some o)∧∀h1 h2:Heap,φ h1->(∀o,h1.get? a=some o->h2.get? a=some o)->φ h2
noncomputable def HOk(H:Hp)(h:Heap):Prop:=∀a o,H a=some o->ObjOk P w H h a o
end
section
variable {P:X4}{w:Qs}{H H':Hp}{h h':Heap}{a:Addr}{o:HO}
theorem ObjOk.lt(x:ObjOk P w H h a o):a<h.objs.size:=by
 cases o with
 | lst xs=>obtain⟨_,_,_,_,e⟩:=x;exact Xz e
 | tup xs=>obtain⟨_,_,_,p⟩:=x;exact p.lt
 | dK kvs=>obtain⟨_,_,_,_,o,_,_,e,_⟩:=x;exact Xz e
 | dT kvs=>obtain⟨_,_,_,_,o,_,_,e,_⟩:=x;exact Xz e
 | set S n=>obtain⟨o,_,_,_,e,_⟩:=x;exact Xz e
 | ins C dx fs=>obtain⟨_,_,_,e,_⟩:=x;exact Xz e
 | own y=>obtain⟨_,e⟩:=x;exact Xz e
 | xd fs=>obtain⟨_,⟨_,_,_,e,_⟩,_⟩:=x;exact Xz e
 | rng lo hi=>obtain⟨_,_,_,e⟩:=x;exact Xz e
 | frz ob u=>obtain⟨e,_⟩:=x;exact Xz e
 | tbl ps=>exact Xz (show h.get? a=some _ from x)
 | met f y=>exact Xz (show h.get? a=some _ from x)
 | ext φ=>obtain⟨_,⟨_,e⟩,_⟩:=x;exact Xz e
theorem Paired.mapP{α β:Type}{F G:α->β->Prop}{l₁:List α}{l₂:List β}(h:Paired F l₁ l₂)(f:∀a b,F a b->G a b):Paired G l₁ l₂:=by
 induction h with
 | nil=>exact .nil
 | cons r t ih=>exact .cons (f _ _ r) ih
theorem ObjOk.stay(x:ObjOk P w H h a o)(k:∀b u,(b=a∨H b=some (.own a))->h.get? b=some u->h'.get? b=some u)
  (ho:∀b,H b=some (.own a)->H' b=some (.own a)) (ht:∀b xs,H b=some (.tup xs)->H' b=some (.tup xs)):ObjOk P w H' h' a o:=by
 induction o with
 | lst xs=>obtain⟨z,its,n,r,e⟩:=x;exact⟨z,its,n,r,k _ _ (.inl rfl) e⟩
 | tup xs=>obtain⟨z,its,r,ob,e,c⟩:=x;exact⟨z,its,r,ob,k _ _ (.inl rfl) e,c⟩
 | dK kvs=>obtain⟨z,y,vs,r,ob,es,ep,e,c⟩:=x;exact⟨z,y,vs,r,ob,es,ep,k _ _ (.inl rfl) e,c⟩
 | dT kvs=>
  obtain⟨z,y,xs,r,ob,es,ep,e,c⟩:=x
  exact⟨z,y,xs,Paired.mapP r λp q z=>⟨z.1,ht _ _ z.2.1,z.2.2⟩,ob,es,ep,k _ _ (.inl rfl) e,c⟩
 | set S n=>obtain⟨ob,es,ep,t,e,c⟩:=x;exact⟨ob,es,ep,t,k _ _ (.inl rfl) e,c⟩
 | ins C dx fs=>
  obtain⟨d,z,ne,e,mA,⟨od,es,ep,e2,c⟩,r⟩:=x
  exact⟨ho _ d,z,ne,k _ _ (.inl rfl) e,mA,⟨od,es,ep,k _ _ (.inr d) e2,c⟩,r⟩
 | own y=>obtain⟨ob,e⟩:=x;exact⟨ob,k _ _ (.inl rfl) e⟩
 | xd fs=>obtain⟨mA,⟨od,es,ep,e,c⟩,r⟩:=x;exact⟨mA,⟨od,es,ep,k _ _ (.inl rfl) e,c⟩,r⟩
 | rng lo hi=>obtain⟨t,u,v,e⟩:=x;exact⟨t,u,v,k _ _ (.inl rfl) e⟩
 | frz ob u ih=>obtain⟨e,q⟩:=x;exact⟨k _ _ (.inl rfl) e,ih q⟩
 | tbl ps=>
  have e:h.get? a=some { cls:=.none,data:=.fields ps }:=x
  show h'.get? a=some { cls:=.none,data:=.fields ps }
  exact k a _ (.inl rfl) e
 | met f y=>
  have e:h.get? a=some (PySem.W.methodObj (.ref f) (.ref y)):=x
  show h'.get? a=some (PySem.W.methodObj (.ref f) (.ref y))
  exact k a _ (.inl rfl) e
 | ext φ=>obtain⟨p,⟨o,e⟩,st⟩:=x;exact⟨st _ _ p λo q=>k _ _ (.inl rfl) q,⟨o,k _ _ (.inl rfl) e⟩,st⟩
theorem HOk.lt(x:HOk P w H h)(e:H a=some o):a<h.objs.size:=(x a o e).lt
theorem HOk.fresh(x:HOk P w H h)(e:h.objs.size≤a):H a=none:=by
 cases q:H a with
 | none=>rfl
 | some u=>exact absurd (X6 (x.lt q) e) (QQ _)
theorem HOk.kept(x:HOk P w H h)(k:∀b u,h.get? b=some u->h'.get? b=some u):HOk P w H h':=λa o e=>
 (x a o e).stay (λb u _ q=>k b u q) (λ_ q=>q) λ_ _ q=>q
theorem HOk.laid(x:HOk P w H h)(k:∀b u,h.get? b=some u->h'.get? b=some u)(hp:h.objs.size≤a)(new:ObjOk P w (upd H a o) h' a o):HOk P w (upd H a o) h':=λb u e=>by
 have hn:=x.fresh hp
 by_cases hb:b=a
 ·subst hb;rw[Zx]at e;cases e;exact new
 ·rw[Zr hb]at e
  exact(x b u e).stay (λc v _ q=>k c v q) (λc q=>by rw[Zr (Yq q hn)];exact q) λc xs q=>by rw[Zr (Yq q hn)];exact q
end
noncomputable def Rd(H:Hp)(a:Addr)(u:HO):Prop:=H a=some u∨∃o,H a=some (.frz o u)
theorem Rd.ok{P:X4}{w:Qs}{H:Hp}{h:Heap}{a:Addr}{u:HO}(r:Rd H a u)(x:HOk P w H h):ObjOk P w H h a u:=by
 rcases r with r|⟨o,r⟩
 ·exact x a u r
 ·obtain⟨_,q⟩:=x a _ r
  exact q
noncomputable def Mut:Option HO->Prop
 | some (.lst _)=>True
 | some (.dK _)=>True
 | some (.dT _)=>True
 | some (.set _ _)=>True
 | some (.ins _ _ _)=>True
 | some (.ext _)=>True
 | _=>False
section
variable {P:X4}{w:Qs}{H:Hp}{h h':Heap}{x e:Addr}{o':HO}
theorem HOk.write(ok:HOk P w H h)(mu:Mut (H x))(he:e=x∨H e=some (.own x))(k:∀b u,b≠e->h.get? b=some u->h'.get? b=some u)(heo:∃u,h'.get? e=some u)
  (new:ObjOk P w (upd H x o') h' x o'):HOk P w (upd H x o') h':=λb u q=>by
 have nown:∀c y,H c=some (.own y)->c≠x:=λc y r z=>by subst z;rw[r]at mu;exact mu
 have ntup:∀c xs,H c=some (.tup xs)->c≠x:=λc xs r z=>by subst z;rw[r]at mu;exact mu
 by_cases hb:b=x
 ·subst hb;rw[Zx]at q;cases q;exact new
 ·rw[Zr hb]at q
  by_cases hbe:b=e
  ·have q':H b=some (.own x):=by
    rcases he with z|z
    ·exact absurd (hbe.trans z) hb
    ·rw[hbe];exact z
   rw[q]at q';cases q'
   obtain⟨v,hv⟩:=heo
   exact⟨v,by rw[hbe];exact hv⟩
  ·refine(ok b u q).stay (λc v hc r=>k c v ?_ r) (λc r=>by rw[Zr (nown c b r)];exact r) λc xs r=>by rw[Zr (ntup c xs r)];exact r
   rcases hc with rfl|hc
   ·exact hbe
   ·rintro rfl
    rcases he with z|z
    ·exact nown c b hc z
    ·rw[hc]at z;cases z;exact hb rfl
end
structure Un(fs ex:List Addr)(H H':Hp)(h h':Heap):Prop where
 keep:∀b o,h.get? b=some o->H b=none->b∉fs->b∉ex->h'.get? b=some o
 slot:∀b o,h.get? b=some o->H b=none->b∈fs->b∉ex->∃sl,h'.get? b=some { o with slots:=sl }
 free:∀b o,h.get? b=some o->H b=none->b∉ex->H' b=none
 there:∀b o,h.get? b=some o->b∉ex->∃o',h'.get? b=some o'
 tups:∀b xs,H b=some (.tup xs)->H' b=some (.tup xs)
 frzs:∀b o u,H b=some (.frz o u)->H' b=some (.frz o u)
 tbls:∀b ps,H b=some (.tbl ps)->∃more,H' b=some (.tbl (ps ++ more))
section
variable {fs fs' ex ex':List Addr}{H H1 H2:Hp}{h h1 h2 h':Heap}{a x e:Addr}{o:HO}
theorem Un.any(u:Un fs ex H H1 h h1){b:Addr}{ob:Obj}(q:h.get? b=some ob)(n:H b=none)(hx:b∉ex):∃sl,h1.get? b=some { ob with slots:=sl }:=by
 by_cases hb:b∈fs
 ·exact u.slot b ob q n hb hx
 ·exact⟨ob.slots,u.keep b ob q n hb hx⟩
theorem Un.trans(a:Un fs ex H H1 h h1)(b:Un fs ex H1 H2 h1 h2):Un fs ex H H2 h h2 where
 keep:=λc ob q n hc hx=>b.keep c ob (a.keep c ob q n hc hx) (a.free c ob q n hx) hc hx
 slot:=λc ob q n hc hx=>by
  obtain⟨sl,e1⟩:=a.slot c ob q n hc hx
  obtain⟨sl',e2⟩:=b.slot c _ e1 (a.free c ob q n hx) hc hx
  exact⟨sl',e2⟩
 free:=λc ob q n hx=>by
  obtain⟨o',e1⟩:=a.there c ob q hx
  exact b.free c o' e1 (a.free c ob q n hx) hx
 there:=λc ob q hx=>by
  obtain⟨o',e1⟩:=a.there c ob q hx
  exact b.there c o' e1 hx
 tups:=λc xs q=>b.tups c xs (a.tups c xs q)
 frzs:=λc ob xs q=>b.frzs c ob xs (a.frzs c ob xs q)
 tbls:=λc ps q=>by
  obtain⟨m1,e1⟩:=a.tbls c ps q
  obtain⟨m2,e2⟩:=b.tbls c _ e1
  exact⟨m1 ++ m2,by rw[e2,Array.append_assoc]⟩
theorem Un.kept(k:∀b u,h.get? b=some u->h'.get? b=some u):Un fs ex H H h h' :=
 ⟨λb ob q _ _ _=>k b ob q,λb ob q _ _ _=>⟨ob.slots,k b ob q⟩,λ_ _ _ n _=>n,λb ob q _=>⟨ob,k b ob q⟩,λ_ _ q=>q,λ_ _ _ q=>q,λ_ ps q=>⟨#[],by rw[q];simp⟩⟩
theorem Un.refl:Un fs ex H H h h:=Un.kept λ_ _ q=>q
theorem Un.laid(k:∀b u,h.get? b=some u->h'.get? b=some u)(hp:h.objs.size≤a)(hn:H a=none):Un fs ex H (upd H a o) h h' where
 keep:=λb u q _ _ _=>k b u q
 slot:=λb u q _ _ _=>⟨u.slots,k b u q⟩
 free:=λb u q n _=>by rw[Zr (Xu (X6 (Xz q) hp))];exact n
 there:=λb u q _=>⟨u,k b u q⟩
 tups:=λb xs q=>by rw[Zr (Yq q hn)];exact q
 frzs:=λb u xs q=>by rw[Zr (Yq q hn)];exact q
 tbls:=λb ps q=>⟨#[],by rw[Zr (Yq q hn),q];simp⟩
theorem Un.write(mu:Mut (H x))(he:e=x∨H e=some (.own x))(k:∀b u,b≠e->h.get? b=some u->h'.get? b=some u)(heo:∃u,h'.get? e=some u):Un fs ex H (upd H x o) h h':=by
 have hx:∀b,H b=none->b≠x:=λb n z=>by subst z;rw[n]at mu;exact mu
 have hb:∀b,H b=none->b≠e:=λb n z=>by
  subst z
  rcases he with r|r
  ·exact hx b n r
  ·rw[n]at r;cases r
 have hm:∀b u,H b=some u->¬Mut (some u)->b≠x:=λb u q nm z=>by subst z;rw[q]at mu;exact nm mu
 refine⟨λb u q n _ _=>k b u (hb b n) q,λb u q n _ _=>⟨u.slots,k b u (hb b n) q⟩,λb u q n _=>by rw[Zr (hx b n)];exact n,λb u q _=>?_,
  λb xs q=>by rw[Zr (hm b _ q λz=>z)];exact q,λb u xs q=>by rw[Zr (hm b _ q λz=>z)];exact q,λb ps q=>⟨#[],by rw[Zr (hm b _ q λz=>z),q];simp⟩⟩
 by_cases hbe:b=e
 ·subst hbe;exact heo
 ·exact⟨u,k b u hbe q⟩
theorem Un.mono(u:Un fs ex H H1 h h1)(hs:∀b∈fs,b∈fs')(hx:∀b∈ex,b∈ex'):Un fs' ex' H H1 h h1 :=
 ⟨λb ob q n hb he=>u.keep b ob q n (λz=>hb (hs b z)) λz=>he (hx b z),λ_ _ q n _ he=>u.any q n λz=>he (hx _ z),λb ob q n he=>u.free b ob q n λz=>he (hx b z),λb ob q he=>u.there b ob q λz=>he (hx b z),u.tups,u.frzs,u.tbls⟩
end
noncomputable def trk(h:Heap)(H:Hp):List Addr:=(Xl h.objs.size).filter λa=>(H a).isSome
noncomputable def Zu0(h:Heap)(H:Hp):Heap:=PySem.W.hideAll h (trk h H)
theorem Zq4(h:Heap)(H:Hp):(Zu0 h H).objs.size=h.objs.size:=PySem.W.hideAll_size _ _
theorem Zuh{h:Heap}{H:Hp}{b:Addr}{o:Obj}(e:h.get? b=some o)(n:H b=none):(Zu0 h H).get? b=some o :=
 PySem.W.hideAll_get _ e λhm=>by
  have q:(H b).isSome=true:=(Q7.mp hm).2
  rw[n]at q;simp at q
theorem Zyl{h:Heap}{H:Hp}{b:Addr}{o:Obj}(e:(Zu0 h H).get? b=some o):h.get? b=some o∧H b=none:=by
 have e':h.get? b=some o:=PySem.W.of_hideAll (trk h H) e
 refine⟨e',?_⟩
 cases q:H b with
 | none=>rfl
 | some x=>
  have hm:b∈trk h H:=Q7.mpr ⟨Qp.mpr (Xz e'),by simp[q]⟩
  have z:(Zu0 h H).get? b=none:=PySem.W.hideAll_none (trk h H) hm
  rw[z]at e;cases e
noncomputable def Zzl(g h:Heap)(L:Addr):List (Addr×Obj):=(Xl h.objs.size).filterMap λa=>if a=L∨(g.get? a).isSome=true then none else(h.get? a).map λo=>(a,o)
noncomputable def rest(g h:Heap)(L d:Addr):List (Addr×Obj):=(Zzl g h L).filter λp=>decide (p.1≠d)
structure Mod(K:Xb)(mg:Str->Option Xc)(base:Heap):Prop where
 kin:K.In base
 glob:base.Ns XX mg
 blt:∃mb,base.Ns builtinsNs mb∧∀x:Str,x≠"__name__" ->mb x=Qa x
 nolimit:base.NoLimit
set_option genInjectivity false in
structure Cx where
 prog:X4
 w:Qs
 K:Xb
 mg:Str->Option Xc
 base:Heap
 A:Qm
 N:List Str
 s₀:Xd
 H₀:Hp
 env:Env
 outer:List Env
 stack:List Env
 ex:List Addr
 fn:Str->Bool
 calm:Bool
 pn:List (Addr×Obj)
 xe:Xc->Xd->Prop
noncomputable def frs(l:List Env):List Addr:=l.filterMap (·.frame)
noncomputable abbrev Cx.fs(X:Cx):List Addr:=frs X.outer
noncomputable def Vis(sc:V8)(x:Str):Prop:=sc.names.lookup x=some .local∨sc.names.lookup x=some .cell∨sc.names.lookup x=some .free
noncomputable def Loc(sc:V8)(x:Str):Prop:=sc.names.lookup x=some .local∨sc.names.lookup x=some .cell
noncomputable def Look(env:Env)(h:Heap)(m:Str->Option Xc)(x:Str)(u:Xc):Prop :=
 (env.kindOf x=some .local∧m x=some u)∨((env.kindOf x=some .cell∨env.kindOf x=some .free)∧∃c,env.cells.lookup x=some c∧h.IsCell c (some u))
structure Cx.Ok(X:Cx):Prop where
 mod:Mod X.K X.mg X.base
 kind:X.env.scope.kind= .function
 glob:X.env.globals=XX
 blt:X.env.builtins=builtinsNs
 above:X.s₀.heap.objs.size≤X.env.locals
 inj:∀x y c,X.env.cells.lookup x=some c->X.env.cells.lookup y=some c->x=y
 has:∀x,(X.env.kindOf x=some .cell∨X.env.kindOf x=some .free)->∃c,X.env.cells.lookup x=some c
 cab:∀x c,X.fn x=true->X.env.cells.lookup x=some c->X.s₀.heap.objs.size≤c
 hd:X.calm=true->X.A.handled=none
 frames:X.A.frames=some X.stack
 stk:X.stack=X.outer∨(X.stack=X.env :: X.outer∧X.env.frame=some X.env.locals)
 exf:∀b∈X.ex,b≠X.env.locals∧∀x c,X.env.cells.lookup x=some c->c≠b
 bs:∀b o,X.base.get? b=some o->X.s₀.heap.get? b=some o∧X.H₀ b=none
 bsz:X.base.objs.size≤X.s₀.heap.objs.size
 noex:∀b o,X.base.get? b=some o->b∉X.ex
 exfs:∀b∈X.ex,b∉X.fs
 funs:X.s₀.heap.FunFrames X.base X.outer
 frf:∀b∈X.fs,X.H₀ b=none
structure Inv(X:Cx)(pins:List (Addr×Obj))(σ:List (Option V))(H:Hp)(s:Xd):Prop where
 ok:X.Ok
 os:s.os=X.s₀.os
 bare:AllBare s.gens
 base:Un X.fs X.ex X.H₀ H X.s₀.heap s.heap
 loc:∃m,s.heap.Ns X.env.locals m∧∀(i:Nat) (x:Str) (v:V),X.N[i]? =some x->σ[i]? =some (some v)->Vis X.env.scope x->∃u,RelV v u∧Look X.env s.heap m x u
 cell:∀x c,X.env.cells.lookup x=some c->∃v,s.heap.IsCell c v
 free:H X.env.locals=none
 freeC:∀x c,X.env.cells.lookup x=some c->H c=none
 pin:∀p∈X.pn ++ pins,s.heap.get? p.1=some p.2∧H p.1=none∧p.1≠X.env.locals∧p.1∉X.fs∧∀v,p.2.data≠ .cell v
 hok:HOk X.prog X.w H s.heap
 len:σ.length=X.N.length
section
variable {X:Cx}{pins:List (Addr×Obj)}{σ:List (Option V)}{H H':Hp}{s:Xd}{h':Heap}
theorem Cx.Ok.nofr(ok:X.Ok){b:Addr}{o:Obj}(e:X.base.get? b=some o):b∉X.fs:=λhb=>by
 have:=(ok.funs.mem hb).1
 rw[e]at this;cases this
theorem Inv.bs(I:Inv X pins σ H s):∀b o,X.base.get? b=some o->s.heap.get? b=some o∧H b=none:=λb o e=>
 ⟨I.base.keep b o (I.ok.bs b o e).1 (I.ok.bs b o e).2 (I.ok.nofr e) (I.ok.noex b o e),I.base.free b o (I.ok.bs b o e).1 (I.ok.bs b o e).2 (I.ok.noex b o e)⟩
theorem Inv.bk(I:Inv X pins σ H s):∀b o,X.base.get? b=some o->s.heap.get? b=some o:=λb o e=>(I.bs b o e).1
theorem Inv.mod(I:Inv X pins σ H s):Mod X.K X.mg X.base:=I.ok.mod
theorem Inv.kIn(I:Inv X pins σ H s):X.K.In s.heap:=I.ok.mod.kin.keeps I.bk
theorem Inv.lt(I:Inv X pins σ H s):X.env.locals<s.heap.objs.size:=let⟨_,hn,_⟩:=I.loc;hn.lt
theorem Inv.sz(I:Inv X pins σ H s):X.s₀.heap.objs.size≤s.heap.objs.size:=Qg I.ok.above (Nat.le_of_lt I.lt)
theorem Inv.nofs(I:Inv X pins σ H s){a:Addr}(h:s.heap.objs.size≤a):a∉X.fs:=λhb=>by
 obtain⟨_,o,ho,_⟩:=I.ok.funs.mem hb
 exact absurd (X6 (Xz ho) (Qg I.sz h)) (QQ _)
theorem Inv.cne(I:Inv X pins σ H s):∀x c,X.env.cells.lookup x=some c->c≠X.env.locals:=λx c e z=>by
 obtain⟨v,o,ho,hd⟩:=I.cell x c e
 obtain⟨m,⟨o',es,ep,ho',hd',_⟩,_⟩:=I.loc
 rw[z,ho']at ho;cases ho;rw[hd']at hd;cases hd
theorem Inv.funs(I:Inv X pins σ H s):s.heap.FunFrames X.base X.outer:=by
 have all:∀(l:List Env),(∀b∈frs l,b∈X.fs)->X.s₀.heap.FunFrames X.base l->s.heap.FunFrames X.base l:=by
  intro l
  induction l with
  | nil=>intro _ _;trivial
  | cons env r ih=>
   intro hs hl
   obtain⟨hk,⟨L,o,hf,hn,ho,hd⟩,hr⟩:=hl
   have hL:L∈X.fs:=hs L (by unfold frs;rw[List.filterMap_cons,hf];exact Ui)
   obtain⟨sl,e⟩:=I.base.slot L o ho (I.ok.frf L hL) hL λz=>I.ok.exfs L z hL
   exact⟨hk,⟨L,_,hf,hn,e,hd⟩,ih (λb hb=>hs b (by unfold frs;rw[List.filterMap_cons,hf];exact V7 _ hb)) hr⟩
 exact all X.outer (λ_ hb=>hb) I.ok.funs
theorem Inv.stack(I:Inv X pins σ H s):s.heap.FunFrames X.base X.stack:=by
 rcases I.ok.stk with e|⟨e,hf⟩
 ·rw[e];exact I.funs
 ·rw[e]
  obtain⟨m,hn,_⟩:=I.loc
  refine .cons (by rw[I.ok.kind];decide) hf hn ?_ I.funs
  exact Heap.get?_none_of_le (Qg I.ok.bsz I.ok.above)
theorem Inv.stkSub(I:Inv X pins σ H s):∀b∈frs X.stack,b∈X.env.locals :: X.fs:=λb hb=>by
 rcases I.ok.stk with e|⟨e,hf⟩
 ·rw[e]at hb;exact V7 _ hb
 ·rw[e]at hb
  unfold frs at hb
  rw[List.filterMap_cons,hf]at hb
  exact hb
theorem Inv.stkFree(I:Inv X pins σ H s):∀b∈frs X.stack,H b=none:=λb hb=>by
 rcases Xo.mp (I.stkSub b hb)with e|hb
 ·rw[e];exact I.free
 ·obtain⟨_,o,ho,_⟩:=I.ok.funs.mem hb
  exact I.base.free b o ho (I.ok.frf b hb) λz=>I.ok.exfs b z hb
theorem Inv.step{g':Array GenState}{t':Nat}{d':Drawn}{ch:List Addr}(I:Inv X pins σ H s)
  (hch:∀b∈ch,(b∈X.ex∨X.s₀.heap.objs.size≤b)∧b≠X.env.locals∧(∀x c,X.env.cells.lookup x=some c->c≠b)∧∀p∈X.pn ++ pins,p.1≠b)
  (keep:∀b o,b≠X.env.locals->b∉X.fs->b∉ch->s.heap.get? b=some o->H b=none->h'.get? b=some o)
  (slot:∀b o,b≠X.env.locals->b∈X.fs->b∉ch->s.heap.get? b=some o->H b=none->∃sl,h'.get? b=some { o with slots:=sl }) (free:∀b o,b∉ch->s.heap.get? b=some o->H b=none->H' b=none)
  (there:∀b o,b∉ch->s.heap.get? b=some o->∃o',h'.get? b=some o')
  (tups:∀b xs,H b=some (.tup xs)->H' b=some (.tup xs)) (frzs:∀b o u,H b=some (.frz o u)->H' b=some (.frz o u)) (tbls:∀b ps,H b=some (.tbl ps)->∃more,H' b=some (.tbl (ps ++ more)))
  (ns:∀m,s.heap.Ns X.env.locals m->h'.Ns X.env.locals m) (hok:HOk X.prog X.w H' h') (hg:AllBare g') :
  Inv X pins σ H' { s with heap:=h',gens:=g',drawn:=d',toks:=t' }:=by
 have neL:∀b o,X.s₀.heap.get? b=some o->b≠X.env.locals:=λb o e=>Xu (X6 (Xz e) I.ok.above)
 have neC:∀b o,X.s₀.heap.get? b=some o->b∉X.ex->b∉ch:=λb o e hx hb=>by
  rcases(hch b hb).1 with z|z
  ·exact hx z
  ·exact absurd (X6 (Xz e) z) (QQ _)
 have cellK:∀x c,X.env.cells.lookup x=some c->∀v,s.heap.IsCell c v->h'.IsCell c v:=λx c e v ⟨o,ho,hd⟩=>by
  have nch:c∉ch:=λz=>(hch c z).2.2.1 x c e rfl
  by_cases hc:c∈X.fs
  ·obtain⟨sl,q⟩:=slot c o (I.cne x c e) hc nch ho (I.freeC x c e)
   exact⟨_,q,hd⟩
  ·exact⟨o,keep c o (I.cne x c e) hc nch ho (I.freeC x c e),hd⟩
 refine⟨I.ok,I.os,hg,⟨λb o e n hb hx=>?_,λb o e n hb hx=>?_,λb o e n hx=>?_,λb o e hx=>?_,λb xs e=>tups b xs (I.base.tups b xs e),λb o xs e=>frzs b o xs (I.base.frzs b o xs e),λb ps e=>?_⟩,?_,λx c e=>?_,?_,λx c e=>?_,λp hp=>?_,hok,I.len⟩
 ·exact keep b o (neL b o e) hb (neC b o e hx) (I.base.keep b o e n hb hx) (I.base.free b o e n hx)
 ·obtain⟨sl,e1⟩:=I.base.slot b o e n hb hx
  obtain⟨sl',e2⟩:=slot b _ (neL b o e) hb (neC b o e hx) e1 (I.base.free b o e n hx)
  exact⟨sl',e2⟩
 ·obtain⟨o',e1⟩:=I.base.there b o e hx
  exact free b o' (neC b o e hx) e1 (I.base.free b o e n hx)
 ·obtain⟨o',e1⟩:=I.base.there b o e hx
  exact there b o' (neC b o e hx) e1
 ·obtain⟨m1,e1⟩:=I.base.tbls b ps e
  obtain⟨m2,e2⟩:=tbls b _ e1
  exact⟨m1 ++ m2,by rw[e2,Array.append_assoc]⟩
 ·obtain⟨m,hn,hl⟩:=I.loc
  refine⟨m,ns m hn,λi x v e1 e2 e3=>?_⟩
  obtain⟨u,r,l⟩:=hl i x v e1 e2 e3
  refine⟨u,r,?_⟩
  rcases l with l|⟨k,c,e,z⟩
  ·exact .inl l
  ·exact .inr ⟨k,c,e,cellK x c e _ z⟩
 ·obtain⟨v,z⟩:=I.cell x c e
  exact⟨v,cellK x c e v z⟩
 ·obtain⟨m,⟨o,_,_,ho,_⟩,_⟩:=I.loc
  exact free _ o (λz=>(hch _ z).2.1 rfl) ho I.free
 ·obtain⟨v,o,ho,hd⟩:=I.cell x c e
  exact free c o (λz=>(hch c z).2.2.1 x c e rfl) ho (I.freeC x c e)
 ·obtain⟨e,n,ne,nf,d⟩:=I.pin p hp
  have nch:p.1∉ch:=λz=>(hch p.1 z).2.2.2 p hp rfl
  exact⟨keep p.1 p.2 ne nf nch e n,free p.1 p.2 nch e n,ne,nf,d⟩
theorem Inv.un{t':Nat}(I:Inv X pins σ H s)(u:Un X.fs [] H H' s.heap h')(hok:HOk X.prog X.w H' h'):Inv X pins σ H' { s with heap:=h',toks:=t' }:=by
 obtain⟨m,⟨o,es,ep,ho,r⟩,_⟩:=id I.loc
 obtain⟨sl,hL⟩:=u.any ho I.free (by simp)
 exact I.step (g':=s.gens) (d':=s.drawn) (ch:=[]) (λ_ z=>nomatch z) (λb o _ hb _ e n=>u.keep b o e n hb (by simp)) (λb o _ hb _ e n=>u.slot b o e n hb (by simp)) (λb o _ e n=>u.free b o e n (by simp)) (λb o _ e=>u.there b o e (by simp)) u.tups u.frzs u.tbls (λm' hm=>by
  obtain⟨o',es',ep',ho',r'⟩:=hm
  rw[ho]at ho';cases ho'
  exact⟨_,es',ep',hL,r'⟩) hok I.bare
theorem Inv.call{g':Array GenState}{t':Nat}{d':Drawn}{ch:List Addr}(I:Inv X pins σ H s)(u:Un (frs X.stack) ch H H' s.heap h')(hok:HOk X.prog X.w H' h')(hg:AllBare g')
  (hch:∀b∈ch,(b∈X.ex∨X.s₀.heap.objs.size≤b)∧b≠X.env.locals∧(∀x c,X.env.cells.lookup x=some c->c≠b)∧∀p∈X.pn ++ pins,p.1≠b) :
  Inv X pins σ H' { s with heap:=h',gens:=g',drawn:=d',toks:=t' }:=by
 obtain⟨m,⟨o,es,ep,ho,r⟩,_⟩:=id I.loc
 obtain⟨sl,hL⟩:=u.any ho I.free λz=>(hch _ z).2.1 rfl
 exact I.step (ch:=ch) hch (λb o hL hb hc e n=>u.keep b o e n (λz=>(Xo.mp (I.stkSub b z)).elim hL hb) hc) (λb o _ _ hc e n=>u.any e n hc) (λb o hc e n=>u.free b o e n hc) (λb o hc e=>u.there b o e hc) u.tups u.frzs u.tbls (λm' hm=>by
  obtain⟨o',es',ep',ho',r'⟩:=hm
  rw[ho]at ho';cases ho'
  exact⟨_,es',ep',hL,r'⟩) hok hg
theorem Inv.turned{t':Nat}{it:Addr}(I:Inv X pins σ H s)(k:∀b o,b≠it->s.heap.get? b=some o->h'.get? b=some o)(hn:H it=none)(hL:it≠X.env.locals)
  (h1:it∈X.ex∨X.s₀.heap.objs.size≤it) (h2:∀x c,X.env.cells.lookup x=some c->c≠it) (h3:∀p∈X.pn ++ pins,p.1≠it):Inv X pins σ H { s with heap:=h',toks:=t' }:=by
 have nit:∀b u,H b=some u->b≠it:=λb u e z=>by rw[z,hn]at e;cases e
 refine I.step (g':=s.gens) (d':=s.drawn) (ch:=[it]) (λb hb=>?_) (λb o _ _ hc e _=>k b o (λz=>hc (by simp[z])) e) (λb o _ _ hc e _=>⟨o.slots,k b o (λz=>hc (by simp[z])) e⟩) (λ_ _ _ _ n=>n)
  (λb o hc e=>⟨o,k b o (λz=>hc (by simp[z])) e⟩) (λ_ _ e=>e) (λ_ _ _ e=>e) (λb ps e=>⟨#[],by rw[e];simp⟩) (λm hm=>?_) (λb u e=>?_) I.bare
 ·have e:b=it:=by simpa using hb
  subst e
  exact⟨h1,hL,h2,h3⟩
 ·obtain⟨o,es,ep,ho,r⟩:=hm
  exact⟨o,es,ep,k _ o (Bb hL) ho,r⟩
 ·refine(I.hok b u e).stay (λc v hc q=>k c v ?_ q) (λ_ q=>q) λ_ _ q=>q
  rcases hc with z|z
  ·rw[z];exact nit b u e
  ·exact nit c _ z
theorem Inv.tok(I:Inv X pins σ H s)(t:Nat):Inv X pins σ H { s with toks:=t }:=I.un (h':=s.heap) (t':=t) Un.refl I.hok
theorem Inv.kept{t':Nat}(I:Inv X pins σ H s)(k:∀b u,s.heap.get? b=some u->h'.get? b=some u):Inv X pins σ H { s with heap:=h',toks:=t' }:=I.un (Un.kept k) (I.hok.kept k)
theorem Inv.laid{a:Addr}{o:HO}{t':Nat}(I:Inv X pins σ H s)(k:∀b u,s.heap.get? b=some u->h'.get? b=some u)(hp:s.heap.objs.size≤a)(new:ObjOk X.prog X.w (upd H a o) h' a o) :
  Inv X pins σ (upd H a o) { s with heap:=h',toks:=t' }:=I.un (Un.laid k hp (I.hok.fresh hp)) (I.hok.laid k hp new)
theorem Inv.write{x e:Addr}{o:HO}{t':Nat}(I:Inv X pins σ H s)(mu:Mut (H x))(he:e=x∨H e=some (.own x))(k:∀b u,b≠e->s.heap.get? b=some u->h'.get? b=some u)(heo:∃u,h'.get? e=some u)
  (new:ObjOk X.prog X.w (upd H x o) h' x o):Inv X pins σ (upd H x o) { s with heap:=h',toks:=t' }:=I.un (Un.write mu he k heo) (I.hok.write mu he k heo new)
theorem Inv.pins_of{pins':List (Addr×Obj)}(I:Inv X pins σ H s)(h:∀p∈pins',s.heap.get? p.1=some p.2∧H p.1=none∧p.1≠X.env.locals∧p.1∉X.fs∧∀v,p.2.data≠ .cell v):Inv X pins' σ H s :=
 ⟨I.ok,I.os,I.bare,I.base,I.loc,I.cell,I.free,I.freeC,λp hp=>(Ql.mp hp).elim (λz=>I.pin p (Bs _ z)) (h p),I.hok,I.len⟩
theorem Zog{N:List Str}(hN:N.Nodup){i j:Nat}{x:Str}(a:N[i]? =some x)(b:N[j]? =some x):i=j:=by
 obtain⟨h1,e1⟩:=Xg.mp a
 obtain⟨h2,e2⟩:=Xg.mp b
 exact(List.getElem_inj hN).mp (e1.trans e2.symm)
theorem Zli{M:Model}{A:Qm}{E:Xc->Xd->Prop}{i:Nat}{x:Str}{v:V}{u:Xc}{Q:Unit->Xd->Prop}(I:Inv X pins σ H s)(hN:X.N.Nodup)(hi:X.N[i]? =some x)(hx:Loc X.env.scope x)(r:RelV v u)
  (h:∀s',Inv X pins (σ.set i (some v)) H s'->(∃a,Vq a s.heap s'.heap∧(a=X.env.locals∨X.env.cells.lookup x=some a))->Q () s') (hf:X.fn x=true∨X.env.scope.names.lookup x=some .local:=by first|exact .inl rfl|exact .inr rfl|assumption):XR M A (storeName X.env x u) Q E s:=by
 obtain⟨m,hn,hl⟩:=id I.loc
 have hcls:(X.env.scope.kind== .class||(X.env.scope.kind== .module&&X.env.locals !=X.env.globals))=false:=by rw[I.ok.kind];rfl
 have hiσ:i<σ.length:=by rw[I.len];exact(Xg.mp hi).1
 have cne:=I.cne
 have tracked:∀{a:Addr} {h':Heap},(∃o,s.heap.get? a=some o∧H a=none)->Vq a s.heap h'->HOk X.prog X.w H h':=fun{a h'} ha hs b ob e=>by
  obtain⟨_,_,hfree⟩:=ha
  refine(I.hok b ob e).stay (λc w' hc q=>(hs.2 c ?_).trans q) (λ_ q=>q) λ_ _ q=>q
  rintro rfl
  rcases hc with rfl|hc
  ·rw[hfree]at e;cases e
  ·rw[hfree]at hc;cases hc
 rcases hx with hk|hk
 ·refine wpAny_storeName_local hk hn (λh' hn' hs=>?_) hcls
  obtain⟨oL,_,_,hoL,_⟩:=id hn
  refine h _ ⟨I.ok,I.os,I.bare,⟨λb o e n hb hx=>?_,λb o e n hb hx=>?_,I.base.free,λb o e hx=>?_,I.base.tups,I.base.frzs,I.base.tbls⟩,⟨_,hn',λj y v' e1 e2 e3=>?_⟩,λy c e=>?_,I.free,I.freeC,λp hp=>?_,tracked ⟨oL,hoL,I.free⟩ hs,by simpa using I.len⟩ ⟨_,hs,.inl rfl⟩
  ·exact(hs.2 b (Xu (X6 (Xz e) I.ok.above))).trans (I.base.keep b o e n hb hx)
  ·obtain⟨sl,e1⟩:=I.base.slot b o e n hb hx
   exact⟨sl,(hs.2 b (Xu (X6 (Xz e) I.ok.above))).trans e1⟩
  ·obtain⟨o',e1⟩:=I.base.there b o e hx
   exact⟨o',(hs.2 b (Xu (X6 (Xz e) I.ok.above))).trans e1⟩
  ·by_cases hj:j=i
   ·subst hj
    rw[hi]at e1;cases e1
    rw[Qo hiσ]at e2
    cases e2
    exact⟨u,r,.inl ⟨hk,by simp⟩⟩
   ·rw[Qh (Bb hj)]at e2
    obtain⟨u',r',q⟩:=hl j y v' e1 e2 e3
    refine⟨u',r',?_⟩
    rcases q with⟨k,e⟩|⟨k,c,e,z⟩
    ·refine .inl ⟨k,?_⟩
     have:y≠x:=λe=>hj (Zog hN e1 (e▸hi))
     simp[this,e]
    ·exact .inr ⟨k,c,e,z.sameBut hs (cne y c e)⟩
  ·obtain⟨w',z⟩:=I.cell y c e
   exact⟨w',z.sameBut hs (cne y c e)⟩
  ·obtain⟨e,n,ne,nf,d⟩:=I.pin p hp
   exact⟨(hs.2 p.1 ne).trans e,n,ne,nf,d⟩
 ·have hfn:X.fn x=true:=by
   rcases hf with z|z
   ·exact z
   ·rw[z]at hk;cases hk
  obtain⟨c,hc⟩:=I.ok.has x (.inl hk)
  obtain⟨w',z⟩:=I.cell x c hc
  refine wpAny_storeName_cell I.ok.kind hk hc z (λh' hc' hs=>?_)
  obtain⟨oc,hoc,hocd⟩:=id z
  refine h { s with heap:=h' } ⟨I.ok,I.os,I.bare,⟨λb o e n hb hx=>?_,λb o e n hb hx=>?_,I.base.free,λb o e hx=>?_,I.base.tups,I.base.frzs,I.base.tbls⟩,⟨m,hn.sameBut hs (Bb (cne x c hc)),λj y v' e1 e2 e3=>?_⟩,λy c' e=>?_,I.free,I.freeC,λp hp=>?_,tracked ⟨oc,hoc,I.freeC x c hc⟩ hs,by simpa using I.len⟩ ⟨c,hs,.inr hc⟩
  ·exact(hs.2 b (Xu (X6 (Xz e) (I.ok.cab x c hfn hc)))).trans (I.base.keep b o e n hb hx)
  ·obtain⟨sl,e1⟩:=I.base.slot b o e n hb hx
   exact⟨sl,(hs.2 b (Xu (X6 (Xz e) (I.ok.cab x c hfn hc)))).trans e1⟩
  ·obtain⟨o',e1⟩:=I.base.there b o e hx
   exact⟨o',(hs.2 b (Xu (X6 (Xz e) (I.ok.cab x c hfn hc)))).trans e1⟩
  ·by_cases hj:j=i
   ·subst hj
    rw[hi]at e1;cases e1
    rw[Qo hiσ]at e2
    cases e2
    exact⟨u,r,.inr ⟨.inl hk,c,hc,hc'⟩⟩
   ·rw[Qh (Bb hj)]at e2
    obtain⟨u',r',q⟩:=hl j y v' e1 e2 e3
    refine⟨u',r',?_⟩
    rcases q with q|⟨k,c',e,z'⟩
    ·exact .inl q
    ·refine .inr ⟨k,c',e,z'.sameBut hs ?_⟩
     rintro rfl
     exact hj (Zog hN e1 (I.ok.inj _ _ _ e hc▸hi))
  ·by_cases hcc:c'=c
   ·subst hcc;exact⟨_,hc'⟩
   ·obtain⟨w2,z2⟩:=I.cell y c' e
    exact⟨w2,z2.sameBut hs hcc⟩
  ·obtain⟨e,n,ne,nf,d⟩:=I.pin p hp
   refine⟨(hs.2 p.1 ?_).trans e,n,ne,nf,d⟩
   intro q
   rw[q,hoc]at e
   have q':oc=p.2:=QB e
   exact d w' (by rw[←q'];exact hocd)
theorem Zn0{M:Model}{A:Qm}{E:Xc->Xd->Prop}{i:Nat}{x:Str}{v:V}{u:Xc}{Q:Unit->Xd->Prop}(I:Inv X pins σ H s)(hN:X.N.Nodup)(hi:X.N[i]? =some x)(hx:Loc X.env.scope x)(r:RelV v u)
  (h:∀s',Inv X pins (σ.set i (some v)) H s'->Q () s') (hf:X.fn x=true∨X.env.scope.names.lookup x=some .local:=by first|exact .inl rfl|exact .inr rfl|assumption):XR M A (storeName X.env x u) Q E s :=
 Zli I hN hi hx r (λs' I' _=>h s' I') hf
theorem Inv.call'{s':Xd}{ch:List Addr}(I:Inv X pins σ H s)(ho:s'.os=s.os)(u:Un (frs X.stack) ch H H' s.heap s'.heap)(hok:HOk X.prog X.w H' s'.heap)(hg:AllBare s'.gens)
  (hch:∀b∈ch,(b∈X.ex∨X.s₀.heap.objs.size≤b)∧b≠X.env.locals∧(∀x c,X.env.cells.lookup x=some c->c≠b)∧∀p∈X.pn ++ pins,p.1≠b):Inv X pins σ H' s':=by
 obtain⟨h',g',d',t',o'⟩:=s'
 have e:o'=s.os:=ho
 subst e
 exact I.call (g':=g') (t':=t') (d':=d') u hok hg hch
end
noncomputable abbrev XK:=Xc->Option Addr->Hp->Prop
noncomputable abbrev St:=List (Option V)
noncomputable abbrev VK:=V->Hp->Prop
noncomputable abbrev TE:=St->Hp->VK->Prop
noncomputable abbrev TT:=St->Hp->(Bool->Hp->Prop)->Prop
noncomputable abbrev TA:=St->Hp->(List V->Hp->Prop)->Prop
set_option genInjectivity false in
structure Ends where
 nx:St->Hp->Prop
 rt:VK
 bk:St->Hp->Prop:=λ_ _=>False
 ct:St->Hp->Prop:=λ_ _=>False
noncomputable abbrev TS:=Ends->St->Hp->Prop
noncomputable def EP(X:Cx)(pins:List (Addr×Obj))(σ:St)(Q:VK)(u:Xc)(s':Xd):Prop:=∃v H',Inv X pins σ H' s'∧RelV v u∧Q v H'
noncomputable def TP(X:Cx)(pins:List (Addr×Obj))(σ:St)(Q:Bool->Hp->Prop)(b:Bool)(s':Xd):Prop:=∃H',Inv X pins σ H' s'∧Q b H'
noncomputable def AP(X:Cx)(pins:List (Addr×Obj))(σ:St)(Q:List V->Hp->Prop)(us:List Xc)(s':Xd):Prop:=∃vs H',Inv X pins σ H' s'∧Vals vs us∧Q vs H'
noncomputable def SP(X:Cx)(pins:List (Addr×Obj))(D:Ends)(f:Flow)(s':Xd):Prop :=
 match f with
 | .next=>∃σ' H',Inv X pins σ' H' s'∧D.nx σ' H'
 | .brk=>∃σ' H',Inv X pins σ' H' s'∧D.bk σ' H'
 | .cont=>∃σ' H',Inv X pins σ' H' s'∧D.ct σ' H'
 | .ret u=>∃v σ' H',Inv X pins σ' H' s'∧RelV v u∧D.rt v H'
noncomputable def PE(X:Cx)(e:Expr)(t:TE):Prop :=
 ∀(pins:List (Addr×Obj)) (s:Xd) (σ:St) (H:Hp) (Q:VK),Inv X pins σ H s->t σ H Q->XR (X7 X.prog X.w) X.A (eval e X.env) (EP X pins σ Q) X.xe s
noncomputable def PT(X:Cx)(e:Expr)(t:TT):Prop :=
 ∀(pins:List (Addr×Obj)) (s:Xd) (σ:St) (H:Hp) (Q:Bool->Hp->Prop),Inv X pins σ H s->t σ H Q->XR (X7 X.prog X.w) X.A (isTrue e X.env (eval e X.env)) (TP X pins σ Q) X.xe s
noncomputable def PW(X:Cx)(e:Expr)(t:TT):Prop :=
 ∀(whole:Sem Xc) (pins:List (Addr×Obj)) (s:Xd) (σ:St) (H:Hp) (Q:Bool->Hp->Prop),Inv X pins σ H s->t σ H Q->XR (X7 X.prog X.w) X.A (isTrue e X.env whole) (TP X pins σ Q) X.xe s
theorem PW.pt{X:Cx}{e:Expr}{t:TT}(h:PW X e t):PT X e t:=h _
noncomputable def PA(X:Cx)(es:List Expr)(t:TA):Prop :=
 ∀(pos:Pos) (pins:List (Addr×Obj)) (s:Xd) (σ:St) (H:Hp) (Q:List V->Hp->Prop),Inv X pins σ H s->t σ H Q->XR (X7 X.prog X.w) X.A (spliced (JG pos (Xp es X.env))) (AP X pins σ Q) X.xe s
noncomputable def PS(X:Cx)(st:Stmt)(t:TS):Prop :=
 ∀(pins:List (Addr×Obj)) (s:Xd) (σ:St) (H:Hp) (D:Ends),Inv X pins σ H s->t D σ H->XR (X7 X.prog X.w) X.A (exec st X.env) (SP X pins D) X.xe s
noncomputable def PSs(X:Cx)(st:List Stmt)(t:TS):Prop :=
 ∀(pins:List (Addr×Obj)) (s:Xd) (σ:St) (H:Hp) (D:Ends),Inv X pins σ H s->t D σ H->XR (X7 X.prog X.w) X.A (execs st X.env) (SP X pins D) X.xe s
theorem thn{α:Type}{t:Sem α}{Q Q':α->Xd->Prop}{M:Model}{A:Qm}{E:Xc->Xd->Prop}{s:Xd}(h:XR M A t Q E s)(hQ:∀a s,Q a s->Q' a s):XR M A t Q' E s:=BR h hQ λ_ _ x=>x
section
variable {X:Cx}
noncomputable def Z3o(i:Nat):TE:=λσ H Q=>∃v,σ[i]? =some (some v)∧Q v H
noncomputable def tC(v:V):TE:=λ_ H Q=>Q v H
theorem Zxl{i:Nat}{x:Str}{pos:Pos}(hN:X.N[i]? =some x)(hv:Vis X.env.scope x)(hd:(x==("__debug__" : Str))=false:=by decide)(hcd:(x==("__classdict__" : Str))=false:=by decide):PE X (.Name x pos) (Z3o i):=by
 intro pins s σ H Q I h
 obtain⟨v,e,h⟩:=h
 obtain⟨m,hn,hl⟩:=I.loc
 obtain⟨u,r,l⟩:=hl i x v hN e hv
 have fin:EP X pins σ Q u s:=⟨v,H,I,r,h⟩
 rcases l with⟨hk,hm⟩|⟨hk,c,hc,hcell⟩
 ·exact wpAny_Name (wpAny_loadName_local I.ok.kind hk hn hm fin) hd
 ·rcases hk with hk|hk
  ·exact wpAny_Name (wpAny_loadName_cell I.ok.kind hk hc hcell fin) hd
  ·exact wpAny_Name (wpAny_loadName_free I.ok.kind hk hc hcell fin hcd) hd
theorem Z58{i j pos}:PE X (.Constant (.int i) j pos) (tC (.int i)):=λ_ _ _ H _ I h=>wpAny_Constant_int ⟨.int i,H,I.tok _,⟨_,rfl⟩,h⟩
theorem Yan{b j pos}:PE X (.Constant (.bool b) j pos) (tC (.bl b)):=λ_ _ _ H _ I h=>Constant_bool ⟨.bl b,H,I,rfl,h⟩
theorem Z4l{j pos}:PE X (.Constant .none j pos) (tC .non):=λ_ _ _ H _ I h=>Constant_none ⟨.non,H,I,rfl,h⟩
noncomputable def Gl(X:Cx)(x:Str):Prop:=X.env.kindOf x=some .globalImplicit
theorem Zql{E:Xc->Xd->Prop}{pins:List (Addr×Obj)}{s:Xd}{σ:St}{H:Hp}{x:Str}{u:Xc}{pos:Pos}{Q:Xc->Xd->Prop}(I:Inv X pins σ H s)(hg:Gl X x)(hm:X.mg x=some u)(h:Q u s)
  (hd:(x==("__debug__" : Str))=false:=by decide):XR (X7 X.prog X.w) X.A (eval (.Name x pos) X.env) Q E s :=
 Calls.Name_function_global I.ok.kind hg (Calls.loadGlobal_global (by rw[I.ok.glob];exact I.mod.glob.keeps I.bk) hm h) hd
theorem Zgz{E:Xc->Xd->Prop}{pins:List (Addr×Obj)}{s:Xd}{σ:St}{H:Hp}{x:Str}{u:Xc}{pos:Pos}{Q:Xc->Xd->Prop}(I:Inv X pins σ H s)(hg:Gl X x)(hm:X.mg x=none)(hv:Qa x=some u)(h:Q u s)
  (hn:x≠"__name__" :=by decide) (hd:(x==("__debug__" : Str))=false:=by decide):XR (X7 X.prog X.w) X.A (eval (.Name x pos) X.env) Q E s:=by
 obtain⟨mb,h1,h2⟩:=I.mod.blt
 exact Calls.Name_function_global I.ok.kind hg (Calls.loadGlobal_builtin (by rw[I.ok.glob];exact I.mod.glob.keeps I.bk) hm (by rw[I.ok.blt];exact h1.keeps I.bk) ((h2 x hn).trans hv) h) hd
theorem Z1i{x:Str}{v:V}{u:Xc}{pos:Pos}(hg:Gl X x)(hm:X.mg x=some u)(r:RelV v u)(hd:(x==("__debug__" : Str))=false:=by decide):PE X (.Name x pos) (tC v) :=
 λ_ _ _ H _ I h=>Zql I hg hm ⟨v,H,I,r,h⟩ hd
theorem Z1n{x:Str}{v:V}{u:Xc}{pos:Pos}(hg:Gl X x)(hm:X.mg x=none)(hv:Qa x=some u)(r:RelV v u)(hn:x≠"__name__" :=by decide)(hd:(x==("__debug__" : Str))=false:=by decide):PE X (.Name x pos) (tC v) :=
 λ_ _ _ H _ I h=>Zgz I hg hm hv ⟨v,H,I,r,h⟩ hn hd
noncomputable def t2I(ta tb:TE)(k:Int->Int->Hp->Prop):St->Hp->Prop:=λσ H=>ta σ H λx H1=>tb σ H1 λy H2=>∃i j,x= .int i∧y= .int j∧k i j H2
variable {a b:Expr}{ta tb:TE}{pos:Pos}
noncomputable def Z12(p:Int->Int->Bool)(ta tb:TE):TE:=λσ H Q=>t2I ta tb (λi j H2=>Q (.bl (p i j)) H2) σ H
noncomputable abbrev tLt:TE->TE->TE:=Z12 λi j=>decide (i<j)
noncomputable abbrev tLe:TE->TE->TE:=Z12 λi j=>decide (i≤j)
noncomputable abbrev tGt:TE->TE->TE:=Z12 λi j=>decide (j<i)
noncomputable abbrev tGe:TE->TE->TE:=Z12 λi j=>decide (j≤i)
noncomputable abbrev Ygc:TE->TE->TE:=Z12 λi j=>decide (i=j)
noncomputable abbrev Ygd:TE->TE->TE:=Z12 λi j=>!decide (i=j)
noncomputable def tB(t:TE):TT:=λσ H Q=>t σ H λx H1=>∃c,x= .bl c∧Q c H1
variable {tA tB':TT}{rest:List Expr}
noncomputable def Ye9(t u:TT):TT:=λσ H Q=>t σ H λc H1=>if c=true then u σ H1 Q else Q false H1
noncomputable def tOr(t u:TT):TT:=λσ H Q=>t σ H λc H1=>if c=true then Q true H1 else u σ H1 Q
noncomputable def Yf2(t:TT):TT:=λσ H Q=>t σ H λc H1=>Q (!c) H1
theorem Z1m(ha:PT X a tA):PW X (.BoolOp .And [a] pos) tA:=by
 intro wh pins s σ H Q I h
 refine isTrue_and (thn (ha pins s σ H Q I h) λc s1 e=>?_)
 cases c with
 | true=>exact isTrue_and_nil e
 | false=>exact e
theorem Z3s(ha:PT X a tA):PW X (.BoolOp .Or [a] pos) tA:=by
 intro wh pins s σ H Q I h
 refine isTrue_or (thn (ha pins s σ H Q I h) λc s1 e=>?_)
 cases c with
 | false=>exact isTrue_or_nil e
 | true=>exact e
theorem Z6y(ha:PT X a tA)(hb:PW X (.BoolOp .And (b :: rest) pos) tB'):PW X (.BoolOp .And (a :: b :: rest) pos) (Ye9 tA tB'):=by
 intro wh pins s σ H Q I h
 refine isTrue_and (thn (ha pins s σ H _ I h) λc s1 qz9=>?_)
 obtain⟨H1,I1,q1⟩:=qz9
 cases c with
 | true=>exact hb wh pins s1 σ H1 Q I1 q1
 | false=>exact⟨H1,I1,q1⟩
theorem Z9m(ha:PT X a tA)(hb:PW X (.BoolOp .Or (b :: rest) pos) tB'):PW X (.BoolOp .Or (a :: b :: rest) pos) (tOr tA tB'):=by
 intro wh pins s σ H Q I h
 refine isTrue_or (thn (ha pins s σ H _ I h) λc s1 qz9=>?_)
 obtain⟨H1,I1,q1⟩:=qz9
 cases c with
 | true=>exact⟨H1,I1,q1⟩
 | false=>exact hb wh pins s1 σ H1 Q I1 q1
theorem Z3c(ha:PT X a tA):PT X (.UnaryOp .Not a pos) (Yf2 tA):=by
 intro pins s σ H Q I h
 exact isTrue_not (ha pins s σ H (λc H1=>Q (!c) H1) I h)
noncomputable def Z9w(ta tb:TE):TE:=λσ H Q=>ta σ H λx H1=>∃c,x= .bl c∧if c=true then tb σ H1 Q else Q (.bl false) H1
noncomputable def Z8v(ta:TE):TE:=λσ H Q=>ta σ H λx H1=>∃c,x= .bl c∧Q (.bl (!c)) H1
theorem Z3d{op}{t:TE}(h:PE X a t):PE X (.BoolOp op [a] pos) t:=λpins s σ H Q I hw=>BoolOp_one (h pins s σ H Q I hw)
theorem Z5l(ha:PE X a ta)(hb:PE X (.BoolOp .And (b :: rest) pos) tb):PE X (.BoolOp .And (a :: b :: rest) pos) (Z9w ta tb):=by
 intro pins s σ H Q I h
 refine BoolOp_and (thn (ha pins s σ H _ I h) λv s1 qz9=>?_)
 obtain⟨x,H1,I1,r1,q1⟩:=qz9
 obtain⟨c,rfl,q1⟩:=q1
 cases r1
 refine V0 ?_
 cases c with
 | true=>exact hb pins s1 σ H1 Q I1 q1
 | false=>exact⟨.bl false,H1,I1,rfl,q1⟩
theorem Z7c(ha:PE X a ta):PE X (.UnaryOp .Not a pos) (Z8v ta):=by
 intro pins s σ H Q I h
 refine UnaryOp_ (thn (ha pins s σ H _ I h) λv s1 qz9=>?_)
 obtain⟨x,H1,I1,r1,q1⟩:=qz9
 obtain⟨c,rfl,q1⟩:=q1
 cases r1
 exact not_of (V0 ⟨.bl (!c),H1,I1,rfl,q1⟩)
noncomputable def tIf(t:TT)(ta tb:TE):TE:=λσ H Q=>t σ H λc H1=>if c=true then ta σ H1 Q else tb σ H1 Q
theorem Zvm{c:Expr}(hc:PT X c tA)(ha:PE X a ta)(hb:PE X b tb):PE X (.IfExp c a b pos) (tIf tA ta tb):=by
 intro pins s σ H Q I h
 refine wpAny_IfExp (thn (hc pins s σ H _ I h) λd s1 qz9=>?_)
 obtain⟨H1,I1,q1⟩:=qz9
 cases d with
 | true=>exact ha pins s1 σ H1 Q I1 q1
 | false=>exact hb pins s1 σ H1 Q I1 q1
end
noncomputable def SqL(K:Xb)(H:Hp)(a:Addr)(xs:List V):Prop :=
 Rd H a (.lst xs)∨
  ∃(o:Obj) (its:Array Xc) (n:Nat),K.lookup a=some o∧o.cls= .type "list"∧o.dict=none∧o.data= .seq its n∧its.size≤Xr∧Vals xs its.toList
noncomputable def SqT(K:Xb)(H:Hp)(a:Addr)(xs:List V):Prop :=
 Rd H a (.tup xs)∨
  ∃(o:Obj) (its:Array Xc) (n:Nat),K.lookup a=some o∧o.cls= .type "tuple"∧o.data= .seq its n∧its.size≤Xr∧Vals xs its.toList
noncomputable def Yfe:Xc->Option V
 | .none=>some .non
 | .bool b=>some (.bl b)
 | .int i _=>some (.int i)
 | .str x _=>some (.str x)
 | .bytes b _=>some (.byt b)
 | .float b _=>some (.flt b)
 | .ref a=>some (.ref a)
 | .type n=>some (.ty n)
 | _=>none
theorem RelV.abs{x:V}{u:Xc}(r:RelV x u):Yfe u=some x:=by
 cases x with
 | non=>cases r;rfl
 | bl _=>cases r;rfl
 | int _=>obtain⟨t,rfl⟩:=r;rfl
 | str _=>obtain⟨t,rfl⟩:=r;rfl
 | byt _=>obtain⟨t,rfl⟩:=r;rfl
 | flt _=>obtain⟨t,rfl⟩:=r;rfl
 | ref _=>cases r;rfl
 | ty _=>cases r;rfl
theorem RelV.inj{x y:V}{u:Xc}(r:RelV x u)(q:RelV y u):x=y:=QB (r.abs.symm.trans q.abs)
theorem Vals.inj{xs ys:List V}{us:List Xc}(h:Vals xs us)(k:Vals ys us):xs=ys:=by
 induction h generalizing ys with
 | nil=>cases k;rfl
 | cons r t ih=>
  cases k with
  | cons r' t'=>rw[r.inj r',ih t']
section
variable {X:Cx}{pins:List (Addr×Obj)}{σ:St}{H:Hp}{s:Xd}{a:Addr}{xs ys:List V}
theorem Inv.list(I:Inv X pins σ H s)(h:SqL X.K H a xs):∃its:List Xc,Vals xs its∧PlainL s.heap a its.toArray∧xs.length≤Xr:=by
 rcases h with h|⟨o,its,n,hk,hc,hd,hs,hz,r⟩
 ·obtain⟨z,its,n,r,e⟩:=h.ok I.hok
  exact⟨its,r,⟨_,n,e,rfl,rfl,rfl⟩,z⟩
 ·refine⟨its.toList,r,⟨o,n,I.kIn a o hk,hc,hd,by simpa using hs⟩,?_⟩
  have e:=r.length
  simp only[Bx]at e
  omega
theorem Inv.tuple(I:Inv X pins σ H s)(h:SqT X.K H a xs):∃its:List Xc,Vals xs its∧IsTup s.heap a its.toArray∧xs.length≤Xr:=by
 rcases h with h|⟨o,its,n,hk,hc,hs,hz,r⟩
 ·obtain⟨z,its,r,p⟩:=h.ok I.hok
  exact⟨its,r,p,z⟩
 ·refine⟨its.toList,r,⟨o,I.kIn a o hk,hc,n,by simpa using hs⟩,?_⟩
  have e:=r.length
  simp only[Bx]at e
  omega
theorem Inv.list_inj(I:Inv X pins σ H s)(h:SqL X.K H a xs)(h':SqL X.K H a ys):xs=ys:=by
 obtain⟨its,r,⟨o,n,e,_,_,d⟩,_⟩:=I.list h
 obtain⟨its',r',⟨o',n',e',_,_,d'⟩,_⟩:=I.list h'
 rw[e]at e';cases e'
 rw[d]at d'
 injection d' with d1 _
 have:its=its':=by simpa using congrArg Array.toList d1
 subst this
 exact r.inj r'
end
noncomputable abbrev Cx.wish(X:Cx)(E:Xc->Xd->Prop):Cx:={ X with xe:=E }
noncomputable abbrev Cx.nox(X:Cx):Cx:=X.wish λ_ _=>False
theorem Cx.Ok.wish{X:Cx}(ok:X.Ok)(E:Xc->Xd->Prop):(X.wish E).Ok :=
 ⟨ok.mod,ok.kind,ok.glob,ok.blt,ok.above,ok.inj,ok.has,ok.cab,ok.hd,ok.frames,ok.stk,ok.exf,ok.bs,ok.bsz,ok.noex,ok.exfs,ok.funs,ok.frf⟩
theorem Cx.Ok.unwish{X:Cx}{E:Xc->Xd->Prop}(ok:(X.wish E).Ok):X.Ok :=
 ⟨ok.mod,ok.kind,ok.glob,ok.blt,ok.above,ok.inj,ok.has,ok.cab,ok.hd,ok.frames,ok.stk,ok.exf,ok.bs,ok.bsz,ok.noex,ok.exfs,ok.funs,ok.frf⟩
section
variable {X:Cx}{pins:List (Addr×Obj)}{σ:St}{H:Hp}{s:Xd}{E:Xc->Xd->Prop}
theorem Inv.wish(I:Inv X pins σ H s)(E:Xc->Xd->Prop):Inv (X.wish E) pins σ H s:=⟨I.ok.wish E,I.os,I.bare,I.base,I.loc,I.cell,I.free,I.freeC,I.pin,I.hok,I.len⟩
theorem Inv.unwish(I:Inv (X.wish E) pins σ H s):Inv X pins σ H s:=⟨I.ok.unwish,I.os,I.bare,I.base,I.loc,I.cell,I.free,I.freeC,I.pin,I.hok,I.len⟩
theorem SP.unwish{D:Ends}{f:Flow}{s':Xd}(h:SP (X.wish E) pins D f s'):SP X pins D f s':=by
 cases f with
 | next=>obtain⟨σ',H',I,q⟩:=h;exact⟨σ',H',I.unwish,q⟩
 | brk=>obtain⟨σ',H',I,q⟩:=h;exact⟨σ',H',I.unwish,q⟩
 | cont=>obtain⟨σ',H',I,q⟩:=h;exact⟨σ',H',I.unwish,q⟩
 | ret u=>obtain⟨v,σ',H',I,r,q⟩:=h;exact⟨v,σ',H',I.unwish,r,q⟩
theorem PSs.nox{st:List Stmt}{t:TS}(h:PSs X.nox st t):PSs X st t:=λpins s σ H D I hw=>
 BR (h pins s σ H D (I.wish _) hw) (λ_ _ q=>q.unwish) λ_ _ z=>Vl z
end
section
variable {X:Cx}{st:Stmt}{rest:List Stmt}{t u:TS}{e:Expr}{te:TE}{pos:Pos}
noncomputable def Yat:TS:=λD σ H=>D.nx σ H
noncomputable def Ye8(t u:TS):TS:=λD σ H=>t { D with nx:=u D } σ H
theorem Z0c:PSs X [] Yat:=λ_ _ σ H _ I h=>wpAny_execs_nil ⟨σ,H,I,h⟩
theorem Zvi(h1:PS X st t)(h2:PSs X rest u):PSs X (st :: rest) (Ye8 t u):=by
 intro pins s σ H D I h
 refine wpAny_execs_cons (thn (h1 pins s σ H { D with nx:=u D } I h) λf s1 q=>?_)
 cases f with
 | next=>
  obtain⟨σ',H',I',q⟩:=q
  exact h2 pins s1 σ' H' D I' q
 | ret v=>exact q
 | brk=>exact q
 | cont=>exact q
theorem Zzf(h1:PS X st t):PSs X [st] t:=by
 intro pins s σ H D I h
 refine wpAny_execs_cons (thn (h1 pins s σ H D I h) λf s1 q=>?_)
 cases f with
 | next=>exact wpAny_execs_nil q
 | ret v=>exact q
 | brk=>exact q
 | cont=>exact q
theorem Inv.quiet{pins:List (Addr×Obj)}{σ:St}{H:Hp}{s:Xd}(I:Inv X pins σ H s):interactive X.env=false:=by simp[interactive,I.ok.kind]
noncomputable def Yaq(te:TE):TS:=λD σ H=>te σ H λ_ H1=>D.nx σ H1
theorem Zj7(he:PE X e te)(hs:Vm e none pos.line X.env=pure false:=by rfl):PS X (.Expr e pos) (Yaq te):=by
 intro pins s σ H D I h
 refine wpAny_Expr_any (thn (he pins s σ H _ I h) λv s1 qz9=>?_) I.quiet hs
 obtain⟨x,H1,I1,r1,q1⟩:=qz9
 exact⟨σ,H1,I1,q1⟩
noncomputable def Yft(te:TE):TS:=λD σ H=>te σ H D.rt
theorem Zwb(he:PE X e te):PS X (.Return (some e) pos) (Yft te):=by
 intro pins s σ H D I h
 refine wpAny_Return_some (thn (he pins s σ H _ I h) λv s1 qz9=>?_)
 obtain⟨x,H1,I1,r1,q1⟩:=qz9
 exact⟨x,σ,H1,I1,r1,q1⟩
noncomputable def Yfb(c:TT)(t u:TS):TS:=λD σ H=>c σ H λb H1=>if b=true then t D σ H1 else u D σ H1
theorem Z9p{c:Expr}{a b:List Stmt}{tc:TT}(hc:PT X c tc)(ha:PSs X a t)(hb:PSs X b u):PS X (.If c a b pos) (Yfb tc t u):=by
 intro pins s σ H D I h
 refine wpAny_If (thn (hc pins s σ H _ I h) λd s1 qz9=>?_)
 obtain⟨H1,I1,q1⟩:=qz9
 cases d with
 | true=>exact ha pins s1 σ H1 D I1 q1
 | false=>exact hb pins s1 σ H1 D I1 q1
noncomputable def Z5r:TS:=λ_ _ _=>False
theorem Zv2:PS X st Z5r:=λ_ _ _ _ _ _ h=>h.elim
end
noncomputable abbrev TG:=V->St->Hp->(St->Hp->Prop)->Prop
noncomputable abbrev TGs:=List V->St->Hp->(St->Hp->Prop)->Prop
noncomputable def PG(X:Cx)(target:Expr)(t:TG):Prop :=
 ∀(pins:List (Addr×Obj)) (s:Xd) (σ:St) (H:Hp) (v:V) (u:Xc) (Q:St->Hp->Prop),Inv X pins σ H s->RelV v u->t v σ H Q ->
  XR (X7 X.prog X.w) X.A (V2 target X.env u) (λ_ s'=>∃σ' H',Inv X pins σ' H' s'∧Q σ' H') X.xe s
noncomputable def PGs(X:Cx)(ts:List Expr)(t:TGs):Prop :=
 ∀(pins:List (Addr×Obj)) (s:Xd) (σ:St) (H:Hp) (vs:List V) (us:List Xc) (Q:St->Hp->Prop),Inv X pins σ H s->Vals vs us->t vs σ H Q ->
  XR (X7 X.prog X.w) X.A (assignInOrder ((QW ts X.env).map (·.2)) us) (λ_ s'=>∃σ' H',Inv X pins σ' H' s'∧Q σ' H') X.xe s
noncomputable abbrev Z89:=V->V->V->Hp->(Hp->Prop)->Prop
noncomputable def Yca(X:Cx)(t:Z89):Prop :=
 ∀(pins:List (Addr×Obj)) (s:Xd) (σ:St) (H:Hp) (o i v:V) (ov iv u:Xc) (Q:Hp->Prop),Inv X pins σ H s->RelV o ov->RelV i iv->RelV v u->t o i v H Q ->
  XR (X7 X.prog X.w) X.A (setItem ov iv u) (λ_ s'=>∃H',Inv X pins σ H' s'∧Q H') X.xe s
noncomputable abbrev TIp:=V->V->Hp->VK->Prop
section
variable {X:Cx}{pos:Pos}
noncomputable def Zpx(i:Nat):TG:=λv σ H Q=>Q (σ.set i (some v)) H
theorem Zmy{i:Nat}{x:Str}(hN:X.N.Nodup)(hi:X.N[i]? =some x)(hx:Loc X.env.scope x)(hf:X.fn x=true∨X.env.scope.names.lookup x=some .local:=by first|exact .inl rfl|exact .inr rfl|assumption):PG X (.Name x pos) (Zpx i):=by
 intro pins s σ H v u Q I r h
 exact wpAny_assign_Name (Zn0 I hN hi hx r (λs' I'=>⟨_,H,I',h⟩) hf)
noncomputable def Yf0:TGs:=λvs σ H Q=>vs=[]∧Q σ H
noncomputable def Z9q(t:TG)(u:TGs):TGs:=λvs σ H Q=>∃v r,vs=v :: r∧t v σ H λσ' H'=>u r σ' H' Q
theorem Z0v:PGs X [] Yf0:=by
 intro pins s σ H vs us Q I r h
 obtain⟨e,h⟩:=h
 subst e
 cases r
 exact assignInOrder_nil ⟨σ,H,I,h⟩
theorem Zo4{e:Expr}{es:List Expr}{t:TG}{u:TGs}(h1:PG X e t)(h2:PGs X es u)
  (hs:(QW (e :: es) X.env).map (·.2)=V2 e X.env :: (QW es X.env).map (·.2):=by rfl):PGs X (e :: es) (Z9q t u):=by
 intro pins s σ H vs us Q I r h
 obtain⟨v,vr,e1,h⟩:=h
 subst e1
 cases r with
 | cons r rr=>
  rw[hs]
  refine assignInOrder_cons (thn (h1 pins s σ H _ _ _ I r h) λ_ s1 qz9=>?_)
  obtain⟨σ1,H1,I1,q1⟩:=qz9
  exact h2 pins s1 σ1 H1 _ _ Q I1 rr q1
noncomputable def Yet(K:Xb)(n:Nat)(t:TGs):TG:=λv σ H Q=>∃a xs,v= .ref a∧SqT K H a xs∧xs.length=n∧t xs σ H Q
theorem Z48{es:List Expr}{k:Nat}{t:TGs}{n:Nat}(hc:X.calm=true)(h:PGs X es t)
  (hn:(QW es X.env).length=n:=by rfl) (hst:(QW es X.env).findIdx? (·.1)=none:=by rfl):PG X (.Tuple es k pos) (Yet X.K n t):=by
 intro pins s σ H v u Q I r hw
 obtain⟨a,xs,e1,hq,hl,hw⟩:=hw
 subst e1
 cases r
 obtain⟨its,rv,ht,hz⟩:=I.tuple hq
 refine assign_Tuple_tuple (I.ok.hd hc) ht (by simp[hn,←hl,rv.length]) hst λh' hx=>?_
 have I1:Inv X pins σ H { s with heap:=h' }:=I.kept (t':=s.toks) λb o e=>hx b o (Xu (Xz e)) e
 exact h pins _ σ H xs _ Q I1 (by simpa using rv) hw
noncomputable def Z84(to ti:TE)(t:Z89):TG:=λv σ H Q=>to σ H λo H1=>ti σ H1 λi H2=>t o i v H2 λH3=>Q σ H3
theorem Zv9{o i:Expr}{to ti:TE}{t:Z89}(ho:PE X o to)(hi:PE X i ti)(hs:Yca X t)
  (ha:∀v,V2 (.Subscript o i pos) X.env v=(do
   let ov←holding [v] (eval o X.env)
   let iv←holding [v,ov] (eval i X.env)
   standAt pos
   holding [v,ov,iv] (setItem ov iv v)
   release [v,ov,iv] []):=by intro _;rfl):PG X (.Subscript o i pos) (Z84 to ti t):=by
 intro pins s σ H v u Q I r h
 rw[ha]
 refine Xf (wpAny_holding (thn (ho pins s σ H _ I h) λov s1 qz9=>?_))
 obtain⟨x,H1,I1,r1,q1⟩:=qz9
 refine Xf (wpAny_holding (thn (hi pins s1 σ H1 _ I1 q1) λiv s2 qz9=>?_))
 obtain⟨y,H2,I2,r2,q2⟩:=qz9
 refine Xf (wpAny_standAt (Xf (wpAny_holding (thn (hs pins s2 σ H2 x y v ov iv u _ I2 r1 r2 r q2) λ_ s3 qz9=>?_))))
 obtain⟨H3,I3,q3⟩:=qz9
 exact wpAny_release ⟨σ,H3,I3,q3⟩
noncomputable def Z3b(te:TE)(g:TG):TS:=λD σ H=>te σ H λx H1=>g x σ H1 D.nx
theorem Zxg{tg e:Expr}{te:TE}{g:TG}(he:PE X e te)(hg:PG X tg g)(hs:swapsWithSole [tg] e pos.line X.env=pure false:=by rfl)(hw:swappedStores [tg] e X.env=pure none:=by rfl)
  (h1:(QW [tg] X.env).map (·.2)=[V2 tg X.env]:=by rfl):PS X (.Assign [tg] e pos) (Z3b te g):=by
 intro pins s σ H D I h
 refine wpAny_Assign_stores (thn (he pins s σ H _ I h) λv s1 qz9=>?_) hs hw
 obtain⟨x,H1,I1,r1,q1⟩:=qz9
 rw[h1]
 exact thn (hg pins s1 σ H1 x v _ I1 r1 q1) λ_ s2 q=>q
theorem Zxq{i:Nat}{x:Str}{e:Expr}{te:TE}{pos':Pos}(hN:X.N.Nodup)(hi:X.N[i]? =some x)(hx:Loc X.env.scope x)(he:PE X e te)(hs:Vm e (some (.Name x pos')) pos.line X.env=pure false:=by rfl)(hf:X.fn x=true∨X.env.scope.names.lookup x=some .local:=by first|exact .inl rfl|exact .inr rfl|assumption) :
  PS X (.Assign [.Name x pos'] e pos) (Z3b te (Zpx i)):=by
 intro pins s σ H D I h
 refine wpAny_Assign_Name (thn (he pins s σ H _ I h) λv s1 qz9=>?_) hs
 obtain⟨y,H1,I1,r1,q1⟩:=qz9
 exact Zn0 I1 hN hi hx r1 (λs2 I2=>⟨_,H1,I2,q1⟩) hf
end
section
variable {X:Cx}{pos:Pos}
noncomputable def Z5f(c:TT)(tb:TS):TS:=λD σ H=>∃W:Nat->St->Hp->Prop,(∃m,W m σ H)∧∀m σ H,W m σ H ->
 c σ H λb H1=>if b=true then∃N:St->Hp->Prop,(∀σ' H',N σ' H'->∃m',m'<m∧W m' σ' H')∧tb { D with nx:=N,ct:=N,bk:=D.nx } σ H1 else D.nx σ H1
theorem Zud{c:Expr}{body:List Stmt}{tc:TT}{tb:TS}(hp:PassesOwn (X7 X.prog X.w) X.A X.env X.xe)(hc:PT X c tc)(hb:PSs X body tb):PS X (.While c body [] pos) (Z5f tc tb):=by
 intro pins s σ H D I h
 obtain⟨W,⟨m0,w0⟩,turn⟩:=h
 refine wpAny_While (codeAny_whileLoop (λn s'=>∃σ' H',Inv X pins σ' H' s'∧W n σ' H') ?_ m0 ⟨σ,H,I,w0⟩)
 rintro n s1 ⟨σ1,H1,I1,w1⟩
 refine Vj hp (thn (hc pins s1 σ1 H1 _ I1 (turn n σ1 H1 w1)) λb s2 qz9=>?_)
 obtain⟨H2,I2,q2⟩:=qz9
 cases b with
 | true=>
  obtain⟨N,hN,q2⟩:=q2
  rw[if_pos rfl]
  refine Vj hp (thn (hb pins s2 σ1 H2 _ I2 q2) λf s3 q3=>?_)
  cases f with
  | next=>
   obtain⟨σ3,H3,I3,n3⟩:=q3
   obtain⟨m',hm,w3⟩:=hN σ3 H3 n3
   exact⟨m',hm,σ3,H3,I3,w3⟩
  | cont=>
   obtain⟨σ3,H3,I3,n3⟩:=q3
   obtain⟨m',hm,w3⟩:=hN σ3 H3 n3
   exact⟨m',hm,σ3,H3,I3,w3⟩
  | brk=>exact q3
  | ret v=>exact q3
 | false=>
  rw[if_neg XC]
  exact wpAny_execs_nil ⟨σ1,H2,I2,q2⟩
end
set_option genInjectivity false in
structure It where
 go:Nat->Hp->Prop
 yld:Nat->Hp->V->Hp->Prop
 stop:Nat->Hp->Prop
noncomputable def Zjb(X:Cx)(pins:List (Addr×Obj))(H:Hp)(b:Addr):Prop :=
 H b=none∧b≠X.env.locals∧b∉X.fs∧(b∈X.ex∨X.s₀.heap.objs.size≤b)∧(∀x c,X.env.cells.lookup x=some c->c≠b)∧∀p∈X.pn ++ pins,p.1≠b
theorem Inv.fpOk{X:Cx}{pins:List (Addr×Obj)}{σ:St}{H H':Hp}{s:Xd}{b:Addr}(I:Inv X pins σ H s)(hb:s.heap.objs.size≤b)(hn:H' b=none):Zjb X pins H' b:=by
 refine⟨hn,XJ (X6 I.lt hb),I.nofs hb,.inr (Qg I.sz hb),λx c e z=>?_,λp hp z=>?_⟩
 ·obtain⟨v,q⟩:=I.cell x c e
  exact absurd (X6 q.lt (by rw[z];exact hb)) (QQ _)
 ·exact absurd (X6 (Xz (I.pin p hp).1) (by rw[z];exact hb)) (QQ _)
structure Turn(P:X4)(w:Qs)(K:Xb)(tg:Expr)(J:It)(fp:List Addr)(it:Addr)(tn:Nat->Heap->Prop):Prop where
 mem:it∈fp
 obj:∀i h,tn i h->∀b∈fp,∃o,h.get? b=some o∧∀v,o.data≠ .cell v
 keep:∀i h h',tn i h->(∀b∈fp,∀o,h.get? b=some o->h'.get? b=some o)->tn i h'
 item:∀(X:Cx),X.prog=P->X.w=w->X.K=K->X.calm=true->∀(i:Nat) (pins:List (Addr×Obj)) (s:Xd) (σ:St) (H:Hp) (E:Xc->Xd->Prop),Inv X pins σ H s->(∀b∈fp,Zjb X pins H b)->tn i s.heap->J.go i H ->
  XR (X7 P w) X.A (pyNext (.ref it)) (λr s1=>∃u,r=some u∧
   XR (X7 P w) X.A (Um tg (.ref it) u) (λ_ s2=>∃x H',Inv X pins σ H' s2∧RelV x u∧J.yld i H x H'∧tn (i+1) s2.heap∧∀b∈fp,H' b=none) E s1) E s
 done:∀(X:Cx),X.prog=P->X.w=w->X.K=K->X.calm=true->∀(i:Nat) (pins:List (Addr×Obj)) (s:Xd) (σ:St) (H:Hp) (E:Xc->Xd->Prop),Inv X pins σ H s->(∀b∈fp,Zjb X pins H b)->tn i s.heap->J.stop i H ->
  XR (X7 P w) X.A (pyNext (.ref it)) (λr s1=>r=none∧Inv X pins σ H s1) E s
 self:∀(A:Qm) (i:Nat) (s:Xd) (Q:Xc->Xd->Prop) (E:Xc->Xd->Prop),tn i s.heap->Q (.ref it) s->XR (X7 P w) A (pyIter (.ref it)) Q E s
noncomputable abbrev TI:=St->Hp->(It->Hp->Prop)->Prop
noncomputable def PIE(X:Cx)(pins:List (Addr×Obj))(σ:St)(tg:Expr)(R:It->Hp->Prop)(itv:Xc)(s2:Xd):Prop :=
 ∃(it:Addr) (fp:List Addr) (tn:Nat->Heap->Prop) (J:It) (H':Hp),itv= .ref it∧Inv X pins σ H' s2∧Turn X.prog X.w X.K tg J fp it tn∧tn 0 s2.heap∧(∀b∈fp,Zjb X pins H' b)∧R J H'
noncomputable def PI(X:Cx)(tg iter:Expr)(wi:TI):Prop :=
 ∀(pins:List (Addr×Obj)) (s:Xd) (σ:St) (H:Hp) (R:It->Hp->Prop),Inv X pins σ H s->wi σ H R ->
  XR (X7 X.prog X.w) X.A (eval iter X.env) (λv s1=>XR (X7 X.prog X.w) X.A (pyIter v) (PIE X pins σ tg R) X.xe s1) X.xe s
theorem Z4z{M:Model}{A:Qm}{E:Xc->Xd->Prop}{s:Xd}{tg:Expr}{it:Addr}{u:Xc}{o:Obj}{n:String}{vs:Array Xc}{Q:Unit->Xd->Prop}(ho:s.heap.get? it=some o)(hc:o.cls= .type n)(hd:o.data= .fields vs)
  (hn:["enumerate","zip","dict_itemiterator","dict_reverseitemiterator","odict_iterator","itertools.zip_longest","itertools.pairwise"].contains n=false) (hQ:Q () s):XR M A (Um tg (.ref it) u) Q E s:=by
 unfold Um
 cases tg<;>first
  | exact X8 hQ
  | (cases u<;>first
    | exact X8 hQ
    | (refine Xf (wpAny_load ho ?_)
       rw[hc,hd]
       show XR M A (if(["enumerate","zip","dict_itemiterator","dict_reverseitemiterator","odict_iterator","itertools.zip_longest","itertools.pairwise"].contains n&&vs[0]? ==some (rawInt _))=true then _ else _) Q E s
       rw[if_neg (by intro h;rw[hn,Bool.false_and]at h;cases h)]
       exact X8 hQ))
noncomputable def Itl(K:Xb)(a:Addr):It :=
 ⟨λi H=>∃xs x,SqL K H a xs∧xs[i]? =some x,λi H x H'=>H'=H∧∀xs,SqL K H a xs->xs[i]? =some x,λi H=>∃xs,SqL K H a xs∧xs.length≤i⟩
noncomputable def Itr(lo:Int)(n:Nat):It:=⟨λi _=>i<n,λi H x H'=>H'=H∧x= .int (lo+i),λi _=>n≤i⟩
theorem Zso{P:X4}{w:Qs}{K:Xb}{tg:Expr}(a it:Addr):Turn P w K tg (Itl K a) [it] it (λi h=>h.IsListIter it a i) where
 mem:=by simp
 obj:=λi h st b hb=>by
  have e:b=it:=by simpa using hb
  subst e
  obtain⟨o,e,c,d⟩:=st
  exact⟨o,e,λv z=>by rw[d]at z;cases z⟩
 keep:=λi h h' st k=>st.at λo e=>k it (by simp) o e
 item:=by
  intro X hP hw hK hc i pins s σ H E I hf st hg
  subst hP hw hK
  obtain⟨xs,x,hq,hx⟩:=hg
  obtain⟨its,rv,p,hz⟩:=I.list hq
  obtain⟨u,hu,ru⟩:=rv.get hx
  obtain⟨f0,f1,f2,f3,f4,f5⟩:=hf it (by simp)
  refine wpAny_pyNext_list_item st p.isList (x:=u) (by simpa using hu) λh' st' sb=>?_
  have I1:Inv X pins σ H { s with heap:=h' }:=I.turned (t':=s.toks) (λb o hb e=>(sb.2 b hb).trans e) f0 f1 f3 f4 f5
  obtain⟨o,e,c,d⟩:=id st'
  exact⟨u,rfl,Z4z (s:={ s with heap:=h' }) e c d (by decide) ⟨x,H,I1,ru,⟨rfl,λys hy=>by rw[I.list_inj hy hq];exact hx⟩,st',λb hb=>(hf b hb).1⟩⟩
 done:=by
  intro X hP hw hK hc i pins s σ H E I hf st hg
  subst hP hw hK
  obtain⟨xs,hq,hx⟩:=hg
  obtain⟨its,rv,p,hz⟩:=I.list hq
  obtain⟨f0,f1,f2,f3,f4,f5⟩:=hf it (by simp)
  have hl:=rv.length
  exact wpAny_pyNext_list_end (I.ok.hd hc) st p.isList (by simp;omega) λh' eb=>⟨rfl,I.turned (t':=s.toks) (λb o hb e=>eb b o hb e) f0 f1 f3 f4 f5⟩
 self:=λ_ _ _ _ _ st h=>wpAny_pyIter_listiter st h
theorem Zpe{P:X4}{w:Qs}{K:Xb}{tg:Expr}(it:Addr)(lo:Int)(n:Nat):Turn P w K tg (Itr lo n) [it] it (λi h=>IsRangeIter h it (lo+(i:Nat)*1) ((n:Int)-(i:Nat)) 1) where
 mem:=by simp
 obj:=λi h st b hb=>by
  have e:b=it:=by simpa using hb
  subst e
  exact⟨_,st,λv z=>by
   have z':Data.fields _=Data.cell v:=z
   cases z'⟩
 keep:=λi h h' st k=>k it (by simp) _ st
 item:=by
  intro X hP hw hK hc i pins s σ H E I hf st hg
  subst hP hw hK
  obtain⟨f0,f1,f2,f3,f4,f5⟩:=hf it (by simp)
  have W:=Walks.range (prog:=X.prog) (w:=X.w) (I.ok.hd hc) it lo 1 n
  refine W.item i s _ _ hg st λv h' tk hv st' kk=>?_
  obtain⟨t,rfl⟩:=hv
  have I1:Inv X pins σ H { s with heap:=h',toks:=tk }:=I.turned (λb o hb e=>kk b o (by simpa using hb) e) f0 f1 f3 f4 f5
  refine⟨_,rfl,Z4z (s:={ s with heap:=h',toks:=tk }) (n :="range_iterator") st' rfl rfl (by decide) ⟨.int (lo+i),H,I1,⟨t,?_⟩,⟨rfl,rfl⟩,st',λb hb=>(hf b hb).1⟩⟩
  rw[Int.mul_one]
 done:=by
  intro X hP hw hK hc i pins s σ H E I hf st hg
  subst hP hw hK
  obtain⟨f0,f1,f2,f3,f4,f5⟩:=hf it (by simp)
  exact wpAny_pyNext_range_end (I.ok.hd hc) st (by have:n≤i:=hg;omega) λh' eb=>⟨rfl,I.turned (t':=s.toks) (λb o hb e=>eb b o hb e) f0 f1 f3 f4 f5⟩
 self:=λ_ _ _ _ _ st h=>wpAny_pyIter_rangeiter st h
section
variable {X:Cx}{tg:Expr}
noncomputable def Zyd(K:Xb)(tl:TE):TI:=λσ H R=>tl σ H λx H1=>∃a,x= .ref a∧(∃xs,SqL K H1 a xs)∧R (Itl K a) H1
theorem Zzz{l:Expr}{tl:TE}(hl:PE X l tl):PI X tg l (Zyd X.K tl):=by
 intro pins s σ H R I h
 refine thn (hl pins s σ H _ I h) λv s1 qz9=>?_
 obtain⟨x,H1,I1,r1,q1⟩:=qz9
 obtain⟨a,e,⟨xs,hq⟩,q⟩:=q1
 subst e
 cases r1
 obtain⟨its,rv,p,hz⟩:=I1.list hq
 refine wpAny_pyIter_list p.isList ?_
 refine⟨s1.heap.objs.size,[s1.heap.objs.size],_,_,H1,rfl,I1.kept (t':=s1.toks) λb o e=>Xm _ e,Zso a _,⟨_,Qd _ rfl,rfl,rfl⟩,λb hb=>?_,q⟩
 have e:b=s1.heap.objs.size:=by simpa using hb
 subst e
 exact I1.fpOk (XQ _) (I1.hok.fresh (XQ _))
theorem Zol{pins:List (Addr×Obj)}{σ:St}{H:Hp}{s:Xd}{R:It->Hp->Prop}{E:Xc->Xd->Prop}{lo hi:Int}{t u v:Tok}{tk:Nat}(I:Inv X pins σ H s)(h1:-(2^62)≤lo)(h2:lo<2^62)(h3:-(2^62)≤hi)(h4:hi<2^62)
  (q:R (Itr lo (hi-lo).toNat) H):XR (X7 X.prog X.w) X.A (pyIter (.ref s.heap.objs.size)) (PIE X pins σ tg R) E { s with heap:=s.heap.push { cls:=.type "range",data:=.fields #[.int lo t,.int hi u,.int 1 v] },toks:=tk }:=by
 refine wpAny_pyIter_range (IsRange.new ..) (small_one h1 h2 h3 h4) ?_
 have I1:Inv X pins σ H { s with heap:=s.heap.push { cls:=.type "range",data:=.fields #[.int lo t,.int hi u,.int 1 v] },toks:=tk }:=I.kept λb o e=>Xm _ e
 refine⟨(s.heap.push { cls:=.type "range",data:=.fields #[.int lo t,.int hi u,.int 1 v] }).objs.size,[(s.heap.push { cls:=.type "range",data:=.fields #[.int lo t,.int hi u,.int 1 v] }).objs.size],_,_,H,rfl,
  I1.kept (t':=tk) λb o e=>Xm _ e,Zpe _ lo (hi-lo).toNat,?_,λb hb=>?_,q⟩
 ·have e1:lo+((0:Nat):Int)*1=lo:=by simp
  have e2:(((hi-lo).toNat:Nat):Int)-((0:Nat):Int)=Builtin.Range.rangeSize lo hi 1:=by rw[rangeSize_one];split<;>omega
  show IsRangeIter _ _ (lo+((0:Nat):Int)*1) ((((hi-lo).toNat:Nat):Int)-((0:Nat):Int)) 1
  rw[e1,e2]
  exact Qd _ rfl
 ·have e:b=(s.heap.push { cls:=.type "range",data:=.fields #[.int lo t,.int hi u,.int 1 v] }).objs.size:=by simpa using hb
  subst e
  exact I1.fpOk (XQ _) (I1.hok.fresh (XQ _))
noncomputable def Yae(ta:TA):TI:=λσ H R=>ta σ H λvs H1=>∃j:Int,vs=[.int j]∧-(2^62)≤j∧j<2^62∧R (Itr 0 j.toNat) H1
noncomputable def Ya3(ta:TA):TI:=λσ H R=>ta σ H λvs H1=>∃i j:Int,vs=[.int i,.int j]∧(-(2^62)≤i∧i<2^62∧-(2^62)≤j∧j<2^62)∧R (Itr i (j-i).toNat) H1
theorem Zqo{a:Expr}{ta:TA}{p pos:Pos}(hg:Gl X "range")(hm:X.mg "range"=none)(ha:PA X [a] ta)(hs:Xp [a] X.env=[(false,eval a X.env)]:=by rfl):PI X tg (.Call (.Name "range" p) [a] [] pos) (Yae ta):=by
 intro pins s σ H R I h
 refine Call_ (Zgz I hg hm boot_range (JW (thn (ha pos pins s σ H _ I h) λus s1 qz9=>?_) hs rfl))
 obtain⟨vs,H1,I1,r1,q1⟩:=qz9
 obtain⟨j,e,q1,q2,q⟩:=q1
 subst e
 cases r1 with
 | cons r rr=>
  cases rr
  obtain⟨t,rfl⟩:=r
  exact call_range_1 (Zol I1 (by omega) (by omega) q1 q2 (by simpa using q))
theorem Zrr{a b:Expr}{ta:TA}{p pos:Pos}(hg:Gl X "range")(hm:X.mg "range"=none)(ha:PA X [a,b] ta)(hs:Xp [a,b] X.env=[(false,eval a X.env),(false,eval b X.env)]:=by rfl)(hs2:Xp [b] X.env=[(false,eval b X.env)]:=by rfl) :
  PI X tg (.Call (.Name "range" p) [a,b] [] pos) (Ya3 ta):=by
 intro pins s σ H R I h
 refine Call_ (Zgz I hg hm boot_range (JW (thn (ha pos pins s σ H _ I h) λus s1 ⟨vs,H1,I1,r1,q1⟩=>?_) (by rw[hs,hs2]) (by rw[hs2];rfl)))
 obtain⟨i,j,e,⟨q1,q2,q3,q4⟩,q⟩:=q1
 subst e
 cases r1 with
 | cons r rr=>
  cases rr with
  | cons r' rr=>
   cases rr
   obtain⟨t,rfl⟩:=r
   obtain⟨t',rfl⟩:=r'
   exact call_range_2 (Zol I1 q1 q2 q3 q4 q)
noncomputable def Yff(wi:TI)(g:TG)(tb:TS):TS:=λD σ H=>wi σ H λJ H1=>∃W:Nat->Nat->St->Hp->Prop,(∃m,W 0 m σ H1)∧∀i m σ H,W i m σ H ->
 (J.stop i H∧D.nx σ H)∨(J.go i H∧∃N:St->Hp->Prop,(∀σ' H',N σ' H'->∃m',m'<m∧W (i+1) m' σ' H')∧∀x H',J.yld i H x H'->g x σ H' λσ2 H2=>tb { D with nx:=N,ct:=N,bk:=D.nx } σ2 H2)
noncomputable def Zlo(fp:List Addr)(h:Heap):List (Addr×Obj):=fp.filterMap λb=>(h.get? b).map λo=>(b,o)
theorem Zdb{fp:List Addr}{h:Heap}{b:Addr}{o:Obj}(hb:b∈fp)(e:h.get? b=some o):(b,o)∈Zlo fp h:=List.mem_filterMap.mpr ⟨b,hb,by rw[e];rfl⟩
theorem Zqz{fp:List Addr}{h:Heap}{p:Addr×Obj}(hp:p∈Zlo fp h):p.1∈fp∧h.get? p.1=some p.2:=by
 obtain⟨b,hb,e⟩:=List.mem_filterMap.mp hp
 cases q:h.get? b with
 | none=>rw[q]at e;cases e
 | some o=>
  rw[q]at e
  have e':(b,o)=p:=QB e
  subst e'
  exact⟨hb,q⟩
theorem Inv.pinned{pins:List (Addr×Obj)}{σ:St}{H:Hp}{s:Xd}{fp:List Addr}(I:Inv X pins σ H s)(hf:∀b∈fp,Zjb X pins H b)(ho:∀b∈fp,∃o,s.heap.get? b=some o∧∀v,o.data≠ .cell v):Inv X (pins ++ Zlo fp s.heap) σ H s :=
 I.pins_of λp hp=>(Ql.mp hp).elim (λz=>I.pin p (Qk _ z)) λz=>by
  obtain⟨hb,e⟩:=Zqz z
  obtain⟨f0,f1,f2,_⟩:=hf p.1 hb
  obtain⟨o,e',d⟩:=ho p.1 hb
  rw[e]at e';cases e'
  exact⟨e,f0,f1,f2,d⟩
theorem Inv.unpinned{pins pl:List (Addr×Obj)}{σ:St}{H:Hp}{s:Xd}(I:Inv X (pins ++ pl) σ H s):Inv X pins σ H s:=I.pins_of λp hp=>I.pin p (Qk _ (Bs _ hp))
theorem Z3r{iter:Expr}{body:List Stmt}{wi:TI}{g:TG}{tb:TS}{pos:Pos}(hp:PassesOwn (X7 X.prog X.w) X.A X.env X.xe)(hc:X.calm=true)(hi:PI X tg iter wi)(hg:PG X tg g)(hb:PSs X body tb)
  (hs:∀x,Bf iter X.env x=pure x:=by intro _;rfl):PS X (.For tg iter body [] pos) (Yff wi g tb):=by
 intro pins s σ H D I h
 refine wpAny_For (thn (hi pins s σ H _ I h) λv s1 h1=>thn h1 λitv s2 h2=>?_) hs
 obtain⟨it,fp,tn,J,H2,e,I2,T,st2,f2,W,⟨m0,w0⟩,turn⟩:=h2
 subst e
 -- what stays true of the iterator's objects through the loop
 have stat:∀{H':Hp},(∀b∈fp,H' b=none)->∀b∈fp,Zjb X pins H' b:=λhn b hb=>⟨hn b hb,(f2 b hb).2⟩
 refine codeAny_forLoop_any (λn s'=>∃i σ' H',Inv X pins σ' H' s'∧tn i s'.heap∧(∀b∈fp,H' b=none)∧W i n σ' H') ?_ m0 ⟨0,σ,H2,I2,st2,λb hb=>(f2 b hb).1,w0⟩
 rintro n s3 ⟨i,σ3,H3,I3,st3,fr3,w3⟩
 rcases turn i n σ3 H3 w3 with⟨stop,qn⟩|⟨go,N,hN,step⟩
 ·refine Vj hp (thn (T.done X rfl rfl rfl hc i pins s3 σ3 H3 X.xe I3 (stat fr3) st3 stop) λr s4 qz9=>?_)
  obtain⟨hr,I4⟩:=qz9
  subst hr
  exact wpAny_execs_nil ⟨σ3,H3,I4,qn⟩
 ·refine Vj hp (thn (T.item X rfl rfl rfl hc i pins s3 σ3 H3 X.xe I3 (stat fr3) st3 go) λr s4 qz9=>?_)
  obtain⟨u,hr,h4⟩:=qz9
  subst hr
  refine Vj hp (thn h4 λ_ s5 qz9=>?_)
  obtain⟨x,H5,I5,r5,y5,st5,fr5⟩:=qz9
  have I5':=I5.pinned (stat fr5) (T.obj _ _ st5)
  refine Vj hp (thn (hg _ s5 σ3 H5 x u _ I5' r5 (step x H5 y5)) λ_ s6 qz9=>?_)
  obtain⟨σ6,H6,I6,q6⟩:=qz9
  refine Vj hp (thn (hb _ s6 σ6 H6 _ I6 q6) λf s7 q7=>?_)
  have again:∀{σ7:St} {H7:Hp},Inv X (pins ++ Zlo fp s5.heap) σ7 H7 s7->N σ7 H7->∃m,m<n∧∃i σ' H',Inv X pins σ' H' s7∧tn i s7.heap∧(∀b∈fp,H' b=none)∧W i m σ' H':=fun{σ7 H7} I7 n7=>by
   obtain⟨m',hm,w7⟩:=hN σ7 H7 n7
   refine⟨m',hm,i+1,σ7,H7,I7.unpinned,T.keep _ _ _ st5 λb hb o e=>(I7.pin (b,o) (Qk _ (Qk _ (Zdb hb e)))).1,λb hb=>?_,w7⟩
   obtain⟨o,e,d⟩:=T.obj _ _ st5 b hb
   exact(I7.pin (b,o) (Qk _ (Qk _ (Zdb hb e)))).2.1
  cases f with
  | next=>obtain⟨σ7,H7,I7,n7⟩:=q7;exact again I7 n7
  | cont=>obtain⟨σ7,H7,I7,n7⟩:=q7;exact again I7 n7
  | brk=>obtain⟨σ7,H7,I7,q7⟩:=q7;exact⟨σ7,H7,I7.unpinned,q7⟩
  | ret v=>obtain⟨x7,σ7,H7,I7,r7,q7⟩:=q7;exact⟨x7,σ7,H7,I7.unpinned,r7,q7⟩
end
noncomputable abbrev R2:=V->V->Hp->VK->Prop
noncomputable def OpR(X:Cx)(f:Xc->Xc->Sem Xc)(r:R2):Prop :=
 ∀(pins:List (Addr×Obj)) (s:Xd) (σ:St) (H:Hp) (x y:V) (v u:Xc) (Q:VK),Inv X pins σ H s->RelV x v->RelV y u->r x y H Q ->
  XR (X7 X.prog X.w) X.A (f v u) (EP X pins σ Q) X.xe s
noncomputable def UnR(X:Cx)(f:Xc->Sem Xc)(r:V->Hp->VK->Prop):Prop :=
 ∀(pins:List (Addr×Obj)) (s:Xd) (σ:St) (H:Hp) (x:V) (v:Xc) (Q:VK),Inv X pins σ H s->RelV x v->r x H Q ->
  XR (X7 X.prog X.w) X.A (f v) (EP X pins σ Q) X.xe s
noncomputable def Zes(X:Cx)(f:Xc)(r:List V->Hp->VK->Prop):Prop :=
 ∀(pins:List (Addr×Obj)) (s:Xd) (σ:St) (H:Hp) (xs:List V) (us:List Xc) (Q:VK),Inv X pins σ H s->Vals xs us->r xs H Q ->
  XR (X7 X.prog X.w) X.A (call f us) (EP X pins σ Q) X.xe s
noncomputable def Yeu(X:Cx)(r:V->Hp->(Bool->Hp->Prop)->Prop):Prop :=
 ∀(pins:List (Addr×Obj)) (s:Xd) (σ:St) (H:Hp) (x:V) (v:Xc) (Q:Bool->Hp->Prop),Inv X pins σ H s->RelV x v->r x H Q ->
  XR (X7 X.prog X.w) X.A (truthy v) (TP X pins σ Q) X.xe s
noncomputable def tOp(r:R2)(ta tb:TE):TE:=λσ H Q=>ta σ H λx H1=>tb σ H1 λy H2=>r x y H2 Q
noncomputable def tUn(r:V->Hp->VK->Prop)(ta:TE):TE:=λσ H Q=>ta σ H λx H1=>r x H1 Q
noncomputable def rI(C:Int->Int->Prop)(g:Int->Int->V):R2:=λx y H Q=>∃i j,x= .int i∧y= .int j∧C i j∧Q (g i j) H
noncomputable def rI0(g:Int->Int->V):R2:=λx y H Q=>∃i j,x= .int i∧y= .int j∧Q (g i j) H
noncomputable def rU(g:Int->V):V->Hp->VK->Prop:=λx H Q=>∃i,x= .int i∧Q (g i) H
section
variable {X:Cx}{a b c:Expr}{ta tb tc:TE}{pos:Pos}
theorem Z9k(ha:PE X a ta)(hb:PE X b tb){pins:List (Addr×Obj)}{s:Xd}{σ:St}{H:Hp}{R:V->V->Hp->Prop}(I:Inv X pins σ H s)
  (h:ta σ H λx H1=>tb σ H1 λy H2=>R x y H2) {Q:Xc->Xd->Prop} {f:Xc->Xc->Sem Xc}
  (hf:∀v u s2 x y H2,Inv X pins σ H2 s2->RelV x v->RelV y u->R x y H2->XR (X7 X.prog X.w) X.A (f v u) Q X.xe s2) :
  XR (X7 X.prog X.w) X.A (eval a X.env) (λv s₁=>XR (X7 X.prog X.w) X.A (eval b X.env) (λu s₂=>XR (X7 X.prog X.w) X.A (f v u) Q X.xe s₂) X.xe s₁) X.xe s:=by
 refine thn (ha pins s σ H _ I h) λv s1 qz9=>?_
 obtain⟨x,H1,I1,r1,q1⟩:=qz9
 refine thn (hb pins s1 σ H1 _ I1 q1) λu s2 qz9=>?_
 obtain⟨y,H2,I2,r2,q2⟩:=qz9
 exact hf v u s2 x y H2 I2 r1 r2 q2
theorem Zzh{op:Operator}{r:R2}(ho:OpR X (Vb op) r)(ha:PE X a ta)(hb:PE X b tb):PE X (.BinOp a op b pos) (tOp r ta tb):=by
 intro pins s σ H Q I h
 exact wpAny_BinOp (Z9k ha hb I h λv u s2 x y H2 I2 rx ry q=>ho pins s2 σ H2 x y v u Q I2 rx ry q)
theorem Yba{op:UnaryOp}{r:V->Hp->VK->Prop}(ho:UnR X (unaryOp op) r)(ha:PE X a ta):PE X (.UnaryOp op a pos) (tUn r ta):=by
 intro pins s σ H Q I h
 refine UnaryOp_ (thn (ha pins s σ H _ I h) λv s1 qz9=>?_)
 obtain⟨x,H1,I1,r1,q1⟩:=qz9
 exact ho pins s1 σ H1 x v Q I1 r1 q1
theorem opI{f:Xc->Xc->Sem Xc}{C:Int->Int->Prop}{g:Int->Int->Int}
  (rule:∀(i j:Int) (t u:Tok) (s:Xd) (Q:Xc->Xd->Prop) (E:Xc->Xd->Prop),C i j->Q (.int (g i j) s.toks) { s with toks:=s.toks+1 }->XR (X7 X.prog X.w) X.A (f (.int i t) (.int j u)) Q E s) :
  OpR X f (rI C λi j=>.int (g i j)):=by
 intro pins s σ H x y v u Q I rx ry h
 obtain⟨i,j,rfl,rfl,hc,q⟩:=h
 obtain⟨t,rfl⟩:=rx
 obtain⟨t',rfl⟩:=ry
 exact rule i j t t' s _ _ hc ⟨.int (g i j),H,I.tok _,⟨_,rfl⟩,q⟩
theorem Ya1{f:Xc->Xc->Sem Xc}{g:Int->Int->Int}
  (rule:∀(i j:Int) (t u:Tok) (s:Xd) (Q:Xc->Xd->Prop) (E:Xc->Xd->Prop),Q (.int (g i j) s.toks) { s with toks:=s.toks+1 }->XR (X7 X.prog X.w) X.A (f (.int i t) (.int j u)) Q E s) :
  OpR X f (rI0 λi j=>.int (g i j)):=by
 intro pins s σ H x y v u Q I rx ry h
 obtain⟨i,j,rfl,rfl,q⟩:=h
 obtain⟨t,rfl⟩:=rx
 obtain⟨t',rfl⟩:=ry
 exact rule i j t t' s _ _ ⟨.int (g i j),H,I.tok _,⟨_,rfl⟩,q⟩
theorem Z7p{f:Xc->Xc->Sem Xc}{g:Int->Int->Bool}
  (rule:∀(i j:Int) (t u:Tok) (s:Xd) (Q:Xc->Xd->Prop) (E:Xc->Xd->Prop),Q (.bool (g i j)) s->XR (X7 X.prog X.w) X.A (f (.int i t) (.int j u)) Q E s) :
  OpR X f (rI0 λi j=>.bl (g i j)):=by
 intro pins s σ H x y v u Q I rx ry h
 obtain⟨i,j,rfl,rfl,q⟩:=h
 obtain⟨t,rfl⟩:=rx
 obtain⟨t',rfl⟩:=ry
 exact rule i j t t' s _ _ ⟨.bl (g i j),H,I,rfl,q⟩
noncomputable def Z16(i j:Int):Prop:=0≤j∧j≤1000000∧i.natAbs<2^64
noncomputable def CMul(i j:Int):Prop:=(-(2^64)<i∧i<2^64)∨(-(2^64)<j∧j<2^64)
theorem CMul.ok{i j:Int}(h:CMul i j):IntMulOk i j:=by
 rcases h with⟨h1,h2⟩|⟨h1,h2⟩
 ·exact .of_left (intBits_le_64 h1 h2)
 ·exact .of_right (intBits_le_64 h1 h2)
theorem Zpf(k:Nat):(0:Int)≤2^k:=by
 rw[two_pow_cast]
 exact Int.natCast_nonneg _
theorem Z6w:OpR X (Vb .Add) (rI0 λi j=>.int (i+j)):=Ya1 λ_ _ _ _ _ _ _ q=>add_int q
theorem Z69:OpR X (Vb .Sub) (rI0 λi j=>.int (i-j)):=Ya1 λ_ _ _ _ _ _ _ q=>sub_int q
theorem Zzd:OpR X (Vb .Mod) (rI (λ_ j=>j≠0) λi j=>.int (i.fmod j)):=opI λ_ _ _ _ _ _ _ hc q=>mod_int' hc q
theorem Z5o:OpR X (Vb .Pow) (rI Z16 λi j=>.int (i^j.toNat)):=opI λ_ _ _ _ _ _ _ hc q=>pow_int_small hc.1 hc.2.1 hc.2.2 q
theorem Z5x:OpR X (Vb .LShift) (rI Z16 λi j=>.int (i*2^j.toNat)):=opI λ_ _ _ _ _ _ _ hc q=>lshift_int_small hc.1 hc.2.1 hc.2.2 q
theorem Zwj:OpR X (Vb .RShift) (rI (λ_ j=>0≤j) λi j=>.int (i/2^j.toNat)):=opI λi j _ _ _ _ _ hc q=>
 rshift_int hc (by rw[Int.fdiv_eq_ediv_of_nonneg i (Zpf _)];exact q)
theorem Zv6:OpR X (Vb .BitAnd) (rI0 λi j=>.int (Builtin.bitAnd i j)):=Ya1 λ_ _ _ _ _ _ _ q=>and_int q
theorem unI{f:Xc->Sem Xc}{g:Int->Int}
  (rule:∀(i:Int) (t:Tok) (s:Xd) (Q:Xc->Xd->Prop) (E:Xc->Xd->Prop),Q (.int (g i) s.toks) { s with toks:=s.toks+1 }->XR (X7 X.prog X.w) X.A (f (.int i t)) Q E s) :
  UnR X f (rU λi=>.int (g i)):=by
 intro pins s σ H x v Q I rx h
 obtain⟨i,rfl,q⟩:=h
 obtain⟨t,rfl⟩:=rx
 exact rule i t s _ _ ⟨.int (g i),H,I.tok _,⟨_,rfl⟩,q⟩
theorem Z6k:UnR X (unaryOp .USub) (rU λi=>.int (-i)):=unI λ_ _ _ _ _ q=>neg_int q
end
section
variable {X:Cx}{a b c:Expr}{ta tb tc:TE}{pos:Pos}
theorem Zwy{pins:List (Addr×Obj)}{σ:St}{H:Hp}{s:Xd}{Q:VK}{k k':Bool}(I:Inv X pins σ H s)(q:Q (.bl k) H)(e:k=k'):EP X pins σ Q (.bool k') s:=by
 subst e
 exact⟨.bl k,H,I,rfl,q⟩
theorem Z50:OpR X (Bg .Lt) (rI0 λi j=>.bl (decide (i<j))):=Z7p λ_ _ _ _ _ _ _ q=>lt_int q
theorem Z99:OpR X (Bg .LtE) (rI0 λi j=>.bl (decide (i≤j))):=Z7p λ_ _ _ _ _ _ _ q=>le_int q
theorem Ybd:OpR X (Bg .Gt) (rI0 λi j=>.bl (decide (j<i))):=Z7p λ_ _ _ _ _ _ _ q=>gt_int q
theorem Z9s:OpR X (Bg .GtE) (rI0 λi j=>.bl (decide (j≤i))):=Z7p λ_ _ _ _ _ _ _ q=>ge_int q
theorem Z7k:OpR X (Bg .Is) (λx y H Q=>y= .non∧Q (.bl (decide (x= .non))) H):=by
 intro pins s σ H x y v u Q I rx ry h
 obtain⟨rfl,q⟩:=h
 cases ry
 refine is_none_gen (Zwy I q ?_)
 cases x<;>first
  | (cases rx;rfl)
  | (obtain⟨t,rfl⟩:=rx;rfl)
theorem Zz8:OpR X (Bg .IsNot) (λx y H Q=>y= .non∧Q (.bl (!decide (x= .non))) H):=by
 intro pins s σ H x y v u Q I rx ry h
 obtain⟨rfl,q⟩:=h
 cases ry
 refine isnot_none_gen (Zwy I q ?_)
 cases x<;>first
  | (cases rx;rfl)
  | (obtain⟨t,rfl⟩:=rx;rfl)
theorem Zc6(b:Expr){op:CmpOp}(h:op≠ .In:=by decide)(h2:op≠ .NotIn:=by decide):Uc op b=false:=by
 have e1:(op==CmpOp.In)=false:=by cases op<;>first|rfl|exact absurd rfl h
 have e2:(op==CmpOp.NotIn)=false:=by cases op<;>first|rfl|exact absurd rfl h2
 cases b<;>simp[Uc,e1,e2]
theorem Zzs{op:CmpOp}{r:R2}(ho:OpR X (Bg op) r)(ha:PE X a ta)(hb:PE X b tb)(hm:Uc op b=false):PE X (.Compare a [op] [b] pos) (tOp r ta tb):=by
 intro pins s σ H Q I h
 exact wpAny_Compare1 (Z9k ha hb I h λv u s2 x y H2 I2 rx ry q=>ho pins s2 σ H2 x y v u Q I2 rx ry q) hm
noncomputable def Z37(t:TE):TT:=λσ H Q=>t σ H λx H'=>∃k,x= .bl k∧Q k H'
theorem Zyb{op:CmpOp}{r:R2}(ho:OpR X (Bg op) r)(ha:PE X a ta)(hb:PE X b tb)(hm:Uc op b=false):PT X (.Compare a [op] [b] pos) (Z37 (tOp r ta tb)):=by
 intro pins s σ H Q I h
 refine wpAny_isTrue_Compare1 (thn (ha pins s σ H _ I h) λv s1 ⟨x,H1,I1,r1,q1⟩=>thn (hb pins s1 σ H1 _ I1 q1) λu s2 ⟨y,H2,I2,r2,q2⟩=>
  thn (ho pins s2 σ H2 x y v u _ I2 r1 r2 q2) λc s3 ⟨z,H3,I3,r3,k,e,q3⟩=>?_) hm
 subst e
 cases r3
 exact V0 ⟨H3,I3,q3⟩
noncomputable def Ya7(K:Xb)(x:V)(H:Hp)(k:Bool):Prop :=
 match x with
 | .non=>k=false
 | .bl b=>k=b
 | .int i=>k=(i !=0)
 | .str y=>y.length≤Xr∧k=((y.length:Int) !=0)
 | .byt y=>y.size≤Xr∧k=((y.size:Int) !=0)
 | .ref p=>(∃xs,SqL K H p xs∧k= !xs.isEmpty)∨(∃xs,SqT K H p xs∧k= !xs.isEmpty)∨∃kvs,H p=some (.dK kvs)∧k= !kvs.isEmpty
 | _=>False
theorem Zo7{κ:Type}{kvs:List (κ×V)}{vs:List (κ×Xc)}(r:KV kvs vs):(!vs.isEmpty)= !kvs.isEmpty:=by
 cases r<;>rfl
theorem Zip{xs:List V}{its:List Xc}(r:Vals xs its):(!its.toArray.isEmpty)= !xs.isEmpty:=by
 cases r<;>simp
theorem Zim:(Xr:Nat)<2^63:=by rw[Qc];decide
theorem Z2r:Yeu X (λx H Q=>∃k,Ya7 X.K x H k∧Q k H):=by
 intro pins s σ H x v Q I rx h
 obtain⟨k,e,q⟩:=h
 have hl:=Zim
 have hs:Xr=16777216:=Qc
 cases x with
 | non=>
  cases rx
  have e':k=false:=e
  subst e'
  exact truthy_none ⟨H,I,q⟩
 | bl b=>
  cases rx
  have e':k=b:=e
  subst e'
  exact V0 ⟨H,I,q⟩
 | int i=>
  obtain⟨t,rfl⟩:=rx
  have e':k=(i !=0):=e
  subst e'
  exact PySem.P.truthy_int ⟨H,I,q⟩
 | str y=>
  obtain⟨t,rfl⟩:=rx
  obtain⟨hy,e'⟩:y.length≤Xr∧k=((y.length:Int) !=0):=e
  subst e'
  exact PySem.P.truthy_str (by omega) ⟨H,I.tok _,q⟩
 | byt y=>
  obtain⟨t,rfl⟩:=rx
  obtain⟨hy,e'⟩:y.size≤Xr∧k=((y.size:Int) !=0):=e
  subst e'
  exact PySem.W.truthy_bytes (by omega) ⟨H,I.tok _,q⟩
 | ref p=>
  cases rx
  have e':(∃xs,SqL X.K H p xs∧k= !xs.isEmpty)∨(∃xs,SqT X.K H p xs∧k= !xs.isEmpty)∨∃kvs,H p=some (.dK kvs)∧k= !kvs.isEmpty:=e
  rcases e' with⟨xs,hx,e'⟩|⟨xs,hx,e'⟩|⟨kvs,hx,e'⟩
  ·subst e'
   obtain⟨its,r,pl,hz⟩:=I.list hx
   have hlen:=r.length
   exact wpAny_truthy_list pl.isList (by simp only[XM];omega) ⟨H,I.tok _,by rw[Zip r];exact q⟩
  ·subst e'
   obtain⟨its,r,pl,hz⟩:=I.tuple hx
   have hlen:=r.length
   exact truthy_tuple pl (by simp only[XM];omega) ⟨H,I.tok _,by rw[Zip r];exact q⟩
  ·subst e'
   obtain⟨hz,hS,vs,r,m⟩:kvs.length≤Xr∧(p==sysModules)=false∧∃vs,KV kvs vs∧s.heap.DictOf (Znq X.prog X.w) p vs:=I.hok p _ hx
   have hlen:kvs.length=vs.length:=Paired.length r
   exact wpAny_truthy_dict hS m (by omega) ⟨H,I.tok _,by rw[Zo7 r];exact q⟩
 | _=>exact(show False from e).elim
theorem Zvt(ha:PE X a ta)(he:∀whole,isTrue a X.env whole=(do let v←whole;standAt a.pos;holding [v] (truthy v))) :
  PT X a (λσ H Q=>ta σ H λx H'=>∃k,Ya7 X.K x H' k∧Q k H'):=by
 intro pins s σ H Q I h
 refine isTrue_plain (thn (ha pins s σ H _ I h) λv s1 qz9=>?_) (he _)
 obtain⟨x,H1,I1,r1,q1⟩:=qz9
 exact Z2r pins s1 σ H1 x v Q I1 r1 q1
theorem vals1{x:V}{us:List Xc}(r:Vals [x] us):∃u,us=[u]∧RelV x u:=by
 cases r with
 | cons r1 r2=>cases r2;exact⟨_,rfl,r1⟩
theorem vals2{x y:V}{us:List Xc}(r:Vals [x,y] us):∃u w',us=[u,w']∧RelV x u∧RelV y w':=by
 cases r with
 | cons r1 r2=>
  cases r2 with
  | cons r3 r4=>cases r4;exact⟨_,_,rfl,r1,r3⟩
theorem Zkc:Zes X (.builtin "abs") (λxs H Q=>∃i,xs=[.int i]∧Q (.int (if i<0 then -i else i)) H):=by
 intro pins s σ H xs us Q I r h
 obtain⟨i,rfl,q⟩:=h
 obtain⟨u,rfl,t,rfl⟩:=vals1 r
 exact call_abs_int λu tk=>⟨.int (if i<0 then -i else i),H,I.tok _,⟨_,rfl⟩,q⟩
theorem Zma(hc:X.calm=true):Zes X (.builtin "min") (λxs H Q=>∃i j,xs=[.int i,.int j]∧Q (.int (if j<i then j else i)) H):=by
 intro pins s σ H xs us Q I r h
 obtain⟨i,j,rfl,q⟩:=h
 obtain⟨u,w',rfl,⟨t,rfl⟩,⟨t',rfl⟩⟩:=vals2 r
 refine min_two_ints (I.ok.hd hc) λh' tk k=>⟨_,H,I.kept k,?_,q⟩
 by_cases hj:j<i
 ·rw[if_pos hj,if_pos hj];exact⟨_,rfl⟩
 ·rw[if_neg hj,if_neg hj];exact⟨_,rfl⟩
theorem Zs8:Zes X (.type "int") (λxs H Q=>(∃i,xs=[.int i]∧Q (.int i) H)∨∃k,xs=[.bl k]∧Q (.int (if k then 1 else 0)) H):=by
 intro pins s σ H xs us Q I r h
 rcases h with⟨i,rfl,q⟩|⟨k,rfl,q⟩
 ·obtain⟨u,rfl,t,rfl⟩:=vals1 r
  exact call_int_int ⟨.int i,H,I,⟨_,rfl⟩,q⟩
 ·obtain⟨u,rfl,r1⟩:=vals1 r
  cases r1
  exact call_int_bool ⟨.int (if k then 1 else 0),H,I.tok _,⟨_,rfl⟩,q⟩
end
structure ObjM(h:Heap)(x dx C:Addr)(mA:Str->Option Xc):Prop where
 obj:h.get? x=some (PySem.W.instObj C dx)
 ns:h.Ns1 dx mA
 ne:dx≠x
theorem Zrx{h:Heap}{dx:Addr}{mA:Str->Option Xc}(n:h.Ns1 dx mA):∃od,h.get? dx=some od∧∀name,PySem.W.lookIn name od=some (mA name):=by
 obtain⟨o,es,ep,ho,hd,hk,_,hm⟩:=n
 refine⟨o,ho,λname=>?_⟩
 have e:=hm name
 unfold nsFind findBy at e
 rw[←Array.find?_toList]at e
 unfold PySem.W.lookIn
 rw[hd]
 dsimp only
 split
 ·rename_i y q
  rw[q]at e
  exact congrArg some e
 ·rename_i q
  rw[q]at e
  have a:es.toList.any (·.refKey)=false:=by
   rw[List.any_eq_false]
   intro y hy
   obtain⟨z,t,hkey⟩:=hk y (Array.mem_toList_iff.mp hy)
   simp[DictEntry.refKey,hkey]
  have a':¬es.toList.any (·.refKey)=true:=by rw[a];exact XC
  rw[if_neg a']
  exact congrArg some e
theorem ObjM.look{h:Heap}{x dx C:Addr}{mA:Str->Option Xc}(I:ObjM h x dx C mA):∃od,PySem.W.InstAt h x (PySem.W.instObj C dx) C (some od)∧∀name,PySem.W.lookIn name od=some (mA name) :=
 let⟨od,ho,hl⟩:=Zrx I.ns
 ⟨od,⟨I.obj,rfl,rfl,ho⟩,hl⟩
section
variable {prog:X4}{w:Qs}{A:Qm}{E:Xc->Xd->Prop}{s:Xd}{K:Xb}{x dx C f:Addr}{mA:Str->Option Xc}{name:Str}{v:Xc}
end
section
variable {P:X4}{w:Qs}{H H':Hp}{h h':Heap}{a C dx:Addr}{fs fs':List (Str×V)}
theorem Z11(hok:HOk P w H h)(e:H a=some (.ins C dx fs)):∃mA,ObjM h a dx C mA∧(∀f,RelO (fs.lookup f) (mA f))∧PySem.Within mA (fs.map (·.1))∧fs.length≤1000∧H dx=some (.own a):=by
 obtain⟨d,z,ne,ob,mA,n,r,q⟩:=(show ObjOk P w H h a (.ins C dx fs)from hok a _ e)
 exact⟨mA,⟨ob,n,ne⟩,r,q,z,d⟩
end
structure Cls(K:Xb)(C:Addr):Prop where
 pg:PySem.W.plainGet K C Str.empty=true
 hd:PySem.W.hasDictIn K C=true
 po:PySem.W.plainOver K C=true
 sa:Bw K (.ref C) "__setattr__"=some (some (.builtin "object.__setattr__"))
theorem Cls.get{K:Xb}{C:Addr}(c:Cls K C)(f:Str):PySem.W.plainGet K C f=true:=c.pg
structure Con(K:Xb)(C:Addr)(f:Str)(v:V)(u:Xc):Prop where
 at_:Bw K (.ref C) f=some (some u)
 rel:RelV v u
 get:PySem.W.specialIn K u "__get__"=some none
 cp:PySem.W.copiedNames.contains f=false
structure Meth(K:Xb)(C:Addr)(m:Str)(f:Addr):Prop where
 at_:Bw K (.ref C) m=some (some (.ref f))
 fn:PySem.W.isFn K (.ref f)=true
 kp:JT K (.ref f)=true
section
variable {X:Cx}{pins:List (Addr×Obj)}{σ:St}{H:Hp}{s:Xd}{a C dx:Addr}{fs:List (Str×V)}{f:Str}{v:V}{A:Qm}{E:Xc->Xd->Prop}
end
section
variable {X:Cx}{o e value:Expr}{f:Str}{pos pos' tpos:Pos}{ta tv:TE}
end
section
variable {X:Cx}{pins:List (Addr×Obj)}{σ:St}{H:Hp}{s:Xd}{A:Qm}{E:Xc->Xd->Prop}{Q:Xc->Xd->Prop}{c:Xc}{b:Bool}
inductive Zqb(K:Xb)(H:Hp):V->Xc->Prop where
 | non:Zqb K H .non (.type "NoneType")
 | bl (x:Bool):Zqb K H (.bl x) (.type "bool")
 | int (i:Int):Zqb K H (.int i) (.type "int")
 | str (x:Str):Zqb K H (.str x) (.type "str")
 | flt (x:UInt64):Zqb K H (.flt x) (.type "float")
 | lst {a:Addr} {xs:List V} (e:H a=some (.lst xs)):Zqb K H (.ref a) (.type "list")
 | frz {a:Addr} {o:Obj} {xs:List V} (e:H a=some (.frz o (.lst xs))):Zqb K H (.ref a) (.type "list")
 | tup {a:Addr} {xs:List V} (e:H a=some (.tup xs)):Zqb K H (.ref a) (.type "tuple")
 | dK {a:Addr} {kvs:List (Key×V)} (e:H a=some (.dK kvs)):Zqb K H (.ref a) (.type "dict")
 | dT {a:Addr} {kvs:List (List Key×V)} (e:H a=some (.dT kvs)):Zqb K H (.ref a) (.type "dict")
 | ins {a C dx:Addr} {fs:List (Str×V)} (e:H a=some (.ins C dx fs)) (cl:Cls K C) (ha:Bw K (.ref C) "__class__"=some (some (.builtin "object.__class__")))
   (hn:PySem.W.specialIn K (.builtin "object.__class__") "__get__"=some (some (.builtin "getset_descriptor.__get__"))) (htk:PySem.W.takesIn K (.builtin "object.__class__")=some true)
   (hm:PySem.W.mroIn K C (.type "object")=some true):Zqb K H (.ref a) (.ref C)
theorem Zal{x:V}{u t:Xc}(I:Inv X pins σ H s)(rx:RelV x u)(ty:Zqb X.K H x t)(e:Bv X.K t c=some b)(h:∀tk,Q (.bool b) { s with toks:=tk }) :
  XR (X7 X.prog X.w) A (call (.builtin "isinstance") [u,c]) Q E s:=by
 cases ty with
 | non=>cases(show u=Q4 from rx);exact QS PySem.W.kitx_none I.kIn Ug e (λz=>nomatch z) h
 | bl y=>cases(show u=Value.bool y from rx);exact QS PySem.W.kitx_bool I.kIn Ug e (λz=>nomatch z) h
 | int i=>obtain⟨t,q⟩:=(show∃t,u=U5 i t from rx);cases q;exact QS PySem.W.kitx_int I.kIn Ug e (λz=>nomatch z) h
 | str y=>obtain⟨t,q⟩:=(show∃t,u=Value.str y t from rx);cases q;exact QS PySem.W.kitx_str I.kIn Ug e (λz=>nomatch z) h
 | flt y=>obtain⟨t,q⟩:=(show∃t,u=Xc.float y t from rx);cases q;exact QS PySem.W.kitx_float I.kIn Ug e (λz=>nomatch z) h
 | @lst a xs ea=>
  cases(show u=QJ a from rx)
  obtain⟨_,_,n,_,h1⟩:=(show ObjOk X.prog X.w H s.heap a (.lst xs)from I.hok a _ ea)
  exact QS PySem.W.kitx_list I.kIn ⟨_,h1,rfl⟩ e (λz=>nomatch z) h
 | @frz a ob xs ea=>
  cases(show u=QJ a from rx)
  obtain⟨_,_,_,n,_,h1⟩:=(show ObjOk X.prog X.w H s.heap a (.frz ob (.lst xs))from I.hok a _ ea)
  exact QS PySem.W.kitx_list I.kIn ⟨_,h1,rfl⟩ e (λz=>nomatch z) h
 | @tup a xs ea=>
  cases(show u=QJ a from rx)
  obtain⟨_,_,_,p⟩:=(show ObjOk X.prog X.w H s.heap a (.tup xs)from I.hok a _ ea)
  obtain⟨o,h1,h2,_⟩:=p
  exact QS PySem.W.kitx_tuple I.kIn ⟨o,h1,h2⟩ e (λz=>nomatch z) h
 | @dK a kvs ea=>
  cases(show u=QJ a from rx)
  obtain⟨_,_,vs,_,p⟩:=(show ObjOk X.prog X.w H s.heap a (.dK kvs)from I.hok a _ ea)
  obtain⟨o,es,ep,h1,h2,_⟩:=p
  exact QS PySem.W.kitx_dict I.kIn ⟨o,h1,h2.1⟩ e (λz=>nomatch z) h
 | @dT a kvs ea=>
  cases(show u=QJ a from rx)
  obtain⟨_,_,xs,_,o,es,ep,h1,h2,_⟩:=(show ObjOk X.prog X.w H s.heap a (.dT kvs)from I.hok a _ ea)
  exact QS PySem.W.kitx_dict I.kIn ⟨o,h1,h2.1⟩ e (λz=>nomatch z) h
 | @ins a C dx fs ea cl ha hn htk hm=>
  cases(show u=QJ a from rx)
  obtain⟨mA,O,_⟩:=Z11 I.hok ea
  obtain⟨od,J,_⟩:=O.look
  exact QS (PySem.W.kitx_own (cl.get _) cl.hd ha hn htk hm) I.kIn J e (λz=>nomatch z) h
end
structure Room(k:Nat)(A:Qm):Prop where
 hd:A.handled=none
 dp:A.depth+3*k+5<recursionLimit
 un:A.units+16*k+200<cLine
theorem Room.mono{j k:Nat}{A:Qm}(r:Room k A)(h:j≤k):Room j A:=⟨r.hd,by have:=r.dp;omega,by have:=r.un;omega⟩
theorem Room.deeper{k:Nat}{A:Qm}(r:Room (k+1) A)(env:Env):Room k (A.deeper env) :=
 ⟨r.hd,by have:=r.dp;show A.depth+1+3*k+5<_;omega,by have:=r.un;show A.units+3+16*k+200<_;omega⟩
theorem Room.depth{k:Nat}{A:Qm}(r:Room k A):A.depth<recursionLimit:=by have:=r.dp;omega
theorem Room.units{k:Nat}{A:Qm}(r:Room k A):A.units+64<cLine:=by have:=r.un;omega
noncomputable def Yec:TA:=λ_ H Q=>Q [] H
noncomputable def Zzv(ta:TE)(tr:TA):TA:=λσ H Q=>ta σ H λx H1=>tr σ H1 λxs H2=>Q (x :: xs) H2
section
variable {X:Cx}{e:Expr}{es:List Expr}{te:TE}{t:TA}{pos:Pos}
theorem Zh1:PA X [] Yec:=λ_ _ _ _ H Q I h=>Calls.spliced_nil ⟨[],H,I,.nil,h⟩
theorem Zbs(ha:PE X e te)(hr:PA X es t)(hs:Xp (e :: es) X.env=(false,eval e X.env) :: Xp es X.env:=by rfl):PA X (e :: es) (Zzv te t):=by
 intro pos pins s σ H Q I h
 rw[hs]
 show XR _ _ (spliced ((false,eval e X.env) :: JG pos (Xp es X.env))) _ _ s
 refine Calls.spliced_cons (thn (ha pins s σ H _ I h) λu s1 qz9=>?_)
 obtain⟨x,H1,I1,r1,q1⟩:=qz9
 refine thn (hr pos pins s1 σ H1 _ I1 q1) λus s2 qz9=>?_
 obtain⟨xs,H2,I2,r2,q2⟩:=qz9
 exact⟨x :: xs,H2,I2,.cons r1 r2,q2⟩
noncomputable def Yel(t:TA):TE:=λσ H Q=>t σ H λxs H1=>xs.length≤Xr∧∀p,H1 p=none->Q (.ref p) (upd H1 p (.tup xs))
noncomputable def Yfh(t:TA):TE:=λσ H Q=>t σ H λxs H1=>xs.length≤Xr∧∀p,H1 p=none->Q (.ref p) (upd H1 p (.lst xs))
theorem Z7e{x1}(h:PA X es t):PE X (.Tuple es x1 pos) (Yel t):=by
 intro pins s σ H Q I hq
 refine wpAny_Tuple_spliced (thn (h pos pins s σ H _ I hq) λus s1 ⟨xs,H1,I1,r,z,q⟩=>⟨by rw[←r.length];exact z,?_⟩)
 have hf:H1 s1.heap.objs.size=none:=I1.hok.fresh (XQ _)
 refine⟨.ref s1.heap.objs.size,upd H1 s1.heap.objs.size (.tup xs),I1.laid (t':=s1.toks) (λb u e=>Xm _ e) (XQ _) ?_,rfl,q _ hf⟩
 exact⟨z,us,r,⟨_,Qd _ rfl,rfl,_,rfl⟩⟩
theorem Zwm(h:PA X es t):PE X (.List es pos) (Yfh t):=by
 intro pins s σ H Q I hq
 refine wpAny_List_spliced (thn (h pos pins s σ H _ I hq) λus s1 ⟨xs,H1,I1,r,z,q⟩=>⟨by rw[←r.length];exact z,?_⟩)
 have hf:H1 s1.heap.objs.size=none:=I1.hok.fresh (XQ _)
 refine⟨.ref s1.heap.objs.size,upd H1 s1.heap.objs.size (.lst xs),I1.laid (t':=s1.toks) (λb u e=>Xm _ e) (XQ _) ?_,rfl,q _ hf⟩
 exact⟨z,us,0,r,Qd _ rfl⟩
end
noncomputable abbrev Sp:=List V->Hp->VK->XK->Prop
noncomputable abbrev CXT:=List Env->Hp->Xd->XK->Xc->Xd->Prop
structure Z7w(P:X4)(w:Qs)(K:Xb)(mg:Str->Option Xc)(base:Heap)(A:Qm)(outer:List Env)(s:Xd)(H:Hp):Prop where
 frames:A.frames=some outer
 mod:Mod K mg base
 bs:∀b o,base.get? b=some o->s.heap.get? b=some o∧H b=none
 bsz:base.objs.size≤s.heap.objs.size
 funs:s.heap.FunFrames base outer
 frf:∀b∈frs outer,H b=none
 hok:HOk P w H s.heap
 bare:AllBare s.gens
noncomputable def CE(outer:List Env)(P:X4)(w:Qs)(H:Hp)(s:Xd)(Q:VK)(u:Xc)(s':Xd):Prop :=
 ∃v H',s'.os=s.os∧AllBare s'.gens∧Un (frs outer) [] H H' s.heap s'.heap∧HOk P w H' s'.heap∧RelV v u∧Q v H'
noncomputable def CR(CX:CXT)(outer:List Env)(P:X4)(w:Qs)(H:Hp)(s:Xd)(Q:VK)(E:XK)(r:Result)(s':Xd):Prop :=
 match r with
 | .ok (.ret u)=>CE outer P w H s Q u s'
 | .ok _=>False
 | .error e=>CX outer H s E e s'
structure FnOk(P:X4)(w:Qs)(K:Xb)(mg:Str->Option Xc)(base:Heap)(CX:CXT)(k:Nat)(f:Addr)(fd:XD)(ps:List Str)(sp:Sp):Prop where
 len:∀vs H Q E,sp vs H Q E->vs.length=ps.length
 run:∀(A:Qm) (outer:List Env) (s:Xd) (H:Hp) (args:Args) (us:List Xc) (vs:List V) (Q:VK) (E:XK),Room k A->Z7w P w K mg base A outer s H->BindsTo s fd args (ps.zip us)->Vals vs us->sp vs H Q E ->
  codeAny (X7 P w) A (.call (.ref f) args) (CR CX outer P w H s Q E) s
theorem FnOk.mono{P:X4}{w:Qs}{K:Xb}{mg:Str->Option Xc}{base:Heap}{CX:CXT}{j k:Nat}{f:Addr}{fd:XD}{ps:List Str}{sp:Sp}(F:FnOk P w K mg base CX j f fd ps sp)(h:j≤k) :
  FnOk P w K mg base CX k f fd ps sp:=⟨F.len,λA outer s H args us vs Q E hr=>F.run A outer s H args us vs Q E (hr.mono h)⟩
theorem FnOk.imp{P:X4}{w:Qs}{K:Xb}{mg:Str->Option Xc}{base:Heap}{CX:CXT}{k:Nat}{f:Addr}{fd:XD}{ps:List Str}{sp sp':Sp}(F:FnOk P w K mg base CX k f fd ps sp)
  (h:∀vs H Q E,sp' vs H Q E->sp vs H Q E):FnOk P w K mg base CX k f fd ps sp' :=
 ⟨λvs H Q E q=>F.len vs H Q E (h _ _ _ _ q),λA outer s H args us vs Q E hr he hb hv hs=>F.run A outer s H args us vs Q E hr he hb hv (h _ _ _ _ hs)⟩
section
variable {X:Cx}{pins:List (Addr×Obj)}{σ:St}{H:Hp}{s s':Xd}
theorem Inv.env0(I:Inv X pins σ H s):Z7w X.prog X.w X.K X.mg X.base X.A X.stack s H :=
 ⟨I.ok.frames,I.ok.mod,I.bs,Qg I.ok.bsz I.sz,I.stack,I.stkFree,I.hok,I.bare⟩
theorem Inv.after{Q:VK}{u:Xc}(I:Inv X pins σ H s)(h:CE X.stack X.prog X.w H s Q u s'):EP X pins σ Q u s':=by
 obtain⟨v,H',os,bare,un,hok,r,q⟩:=h
 obtain⟨hh,g,d,t,os'⟩:=s'
 obtain rfl:os'=s.os:=os
 exact⟨v,H',I.call (h':=hh) (g':=g) (d':=d) (t':=t) (ch:=[]) un hok bare (λb z=>absurd z (by simp)),r,q⟩
end
noncomputable def Zuq(sp:Sp)(dvs:List V)(E:XK)(t:TA):TE:=λσ H Q=>t σ H λvs H1=>sp (vs ++ dvs) H1 Q E
noncomputable def Binds(K:Xb)(fd:XD)(ps:List Str)(ds:List Xc):Prop :=
 ∀(s:Xd) (us:List Xc),K.In s.heap->(us ++ ds).length=ps.length->BindsTo s fd ⟨us,[]⟩ (ps.zip (us ++ ds))
theorem Binds.all{K:Xb}{fd:XD}{ps:List Str}(h:∀us:List Xc,us.length=ps.length->bindArgs fd ⟨us,[]⟩=pure (ps.zip us)):Binds K fd ps []:=λs us _ hl=>by
 rw[QT]at hl⊢
 exact .of_eq (h us hl)
noncomputable def Zh0(CX:CXT)(X:Cx)(E:XK):Prop:=∀(pins:List (Addr×Obj)) (σ:St) (H:Hp) (s:Xd) (e:Xc) (s':Xd),Inv X pins σ H s->CX X.stack H s E e s'->X.xe e s'
section
variable {X:Cx}{CX:CXT}{k:Nat}{f C:Addr}{fd:XD}{ps:List Str}{sp:Sp}{dvs:List V}{ds:List Xc}{E:XK}{x m:Str}{p pos apos:Pos}{e o:Expr}{es:List Expr}{ta:TE}{t:TA}
theorem Zxa{pins:List (Addr×Obj)}{σ:St}{H:Hp}{s:Xd}{Q:VK}{us:List Xc}{vs:List V}(F:FnOk X.prog X.w X.K X.mg X.base CX k f fd ps sp)(hr:Room k X.A)(hb:Binds X.K fd ps ds)(hd:Vals dvs ds)(hx:Zh0 CX X E)
  (I:Inv X pins σ H s) (r:Vals vs us) (h:sp (vs ++ dvs) H Q E):XR (X7 X.prog X.w) X.A (call (.ref f) us) (EP X pins σ Q) X.xe s:=by
 have r2:Vals (vs ++ dvs) (us ++ ds):=r.append hd
 have hl:(us ++ ds).length=ps.length:=by rw[←r2.length];exact F.len _ _ _ _ h
 refine wpAny_call (codeAny_mono (F.run X.A X.stack s H ⟨us,[]⟩ (us ++ ds) (vs ++ dvs) Q E hr I.env0 (hb s us I.kIn hl) r2 h) λr s' hq=>?_)
 cases r with
 | error e=>exact hx pins σ H s e s' I hq
 | ok fl=>
  cases fl with
  | ret u=>exact I.after hq
  | next=>exact Vl hq
  | brk=>exact Vl hq
  | cont=>exact Vl hq
theorem Zqj(F:FnOk X.prog X.w X.K X.mg X.base CX k f fd ps sp)(hr:Room k X.A)(hg:Gl X x)(hm:X.mg x=some (.ref f))(hk:JT X.K (.ref f)=true)(hb:Binds X.K fd ps ds)(hd:Vals dvs ds)(hx:Zh0 CX X E)
  (ha:PA X (e :: es) t) (hdb:(x==("__debug__" : Str))=false:=by decide) (he:Xp (e :: es) X.env=(false,eval e X.env) :: Xp es X.env:=by rfl) (hpl:(JG pos (Xp es X.env)).any (·.1)=false:=by rfl) :
  PE X (.Call (.Name x p) (e :: es) [] pos) (Zuq sp dvs E t):=by
 intro pins s σ H Q I h
 refine Vi (Zql I hg hm ?_ hdb)
 refine PySem.W.callWith_K (h₀:=X.base) I.ok.mod.kin hk (thn (ha pos pins s σ H _ I h) λus s1 qz9=>?_) he hpl
 obtain⟨vs,H1,I1,r,q⟩:=qz9
 refine⟨I1.kIn,?_⟩
 exact Zxa F hr hb hd hx I1 r q
structure Mk(K:Xb)(C f:Addr):Prop where
 makes:PySem.W.makesIn K C=true
 init:Bw K (.ref C) "__init__"=some (some (.ref f))
 fn:PySem.W.isFn K (.ref f)=true
 kp:JT K (.ref C)=true
end
section
variable {X:Cx}{CX:CXT}{k:Nat}{f C:Addr}{fd:XD}{ps ks:List Str}{sp:Sp}{E:XK}{x m:Str}{p pos apos kpos:Pos}{e o:Expr}{es:List Expr}{kws:List V5}{te ta:TE}{t tk:TA}{nm:Option Str}
structure Yc6(K:Xb)(fd:XD)(ps ks:List Str)(g:List Xc->List Xc->List Xc)(gV:List V->List V->List V):Prop where
 to:∀(s:Xd) (us ws:List Xc),K.In s.heap->(g us ws).length=ps.length->BindsTo s fd ⟨us,ks.zip ws⟩ (ps.zip (g us ws))
 rel:∀{vs:List V} {us:List Xc} {zs:List V} {ws:List Xc},Vals vs us->Vals zs ws->Vals (gV vs zs) (g us ws)
variable {g:List Xc->List Xc->List Xc}{gV:List V->List V->List V}
end
structure Zk(N P:List Str)(sc:V8):Prop where
 kind:sc.kind= .function
 co:sc.isCoroutine=false
 gen:sc.isGenerator=false
 nd:N.Nodup
 pre:N.take P.length=P
 par:∀x∈P,sc.names.lookup x=some .local∨sc.names.lookup x=some .cell
 nofree:∀y∈sc.names,y.2≠ .free
theorem Zlf{kindOf:Str->Option Bc}{x:Str}:∀{binds:List (Str×Xc)} {m:Str->Option Xc},(∀v,(x,v)∉binds)->bindL kindOf binds m x=m x
 | [],_,_=>rfl
 | (n,v) :: r,m,h=>by
  unfold bindL
  rw[Zlf λw hw=>h w (V7 _ hw)]
  split
  ·have:x≠n:=by rintro rfl;exact h v Ui
   simp[this]
  ·rfl
theorem Zmc{kindOf:Str->Option Bc}{x:Str}:∀{binds:List (Str×Xc)} {m:Str->Option Xc},(∀v,(x,v)∉binds)->bindC kindOf binds m x=m x
 | [],_,_=>rfl
 | (n,v) :: r,m,h=>by
  unfold bindC
  rw[Zmc λw hw=>h w (V7 _ hw)]
  split
  ·rfl
  ·have:x≠n:=by rintro rfl;exact h v Ui
   simp[this]
theorem Zlk{kindOf:Str->Option Bc}{x:Str}{v:Xc}:∀{P:List Str} {vs:List Xc} {i:Nat} {m:Str->Option Xc},P.Nodup->P[i]? =some x->vs[i]? =some v->kindOf x=some .local ->
  bindL kindOf (P.zip vs) m x=some v
 | [],_,_,_,_,h,_,_=>by simp at h
 | _ :: _,[],_,_,_,_,h,_=>by simp at h
 | p :: P,w :: vs,0,m,nd,h1,h2,hk=>by
  simp at h1 h2;subst h1;subst h2
  show bindL kindOf ((p,w) :: P.zip vs) m p=_
  unfold bindL
  rw[Zlf λv hv=>(Qj.mp nd).1 (List.of_mem_zip hv).1,if_pos hk]
  simp
 | p :: P,w :: vs,i+1,m,nd,h1,h2,hk=>by
  show bindL kindOf ((p,w) :: P.zip vs) m x=_
  unfold bindL
  exact Zlk (i:=i) (Qj.mp nd).2 (by simpa using h1) (by simpa using h2) hk
theorem Zll{kindOf:Str->Option Bc}{x:Str}{v:Xc}:∀{P:List Str} {vs:List Xc} {i:Nat} {m:Str->Option Xc},P.Nodup->P[i]? =some x->vs[i]? =some v->kindOf x≠some .local ->
  bindC kindOf (P.zip vs) m x=some v
 | [],_,_,_,_,h,_,_=>by simp at h
 | _ :: _,[],_,_,_,_,h,_=>by simp at h
 | p :: P,w :: vs,0,m,nd,h1,h2,hk=>by
  simp at h1 h2;subst h1;subst h2
  show bindC kindOf ((p,w) :: P.zip vs) m p=_
  unfold bindC
  rw[Zmc λv hv=>(Qj.mp nd).1 (List.of_mem_zip hv).1,if_neg hk]
  simp
 | p :: P,w :: vs,i+1,m,nd,h1,h2,hk=>by
  show bindC kindOf ((p,w) :: P.zip vs) m x=_
  unfold bindC
  exact Zll (i:=i) (Qj.mp nd).2 (by simpa using h1) (by simpa using h2) hk
noncomputable def start(N:List Str)(vs:List V):St:=vs.map some ++ Xx (N.length-vs.length) none
noncomputable def Ztq(CX:CXT)(P:X4)(w:Qs)(K:Xb)(mg:Str->Option Xc)(base:Heap)(N:List Str)(qual:Str)(scope:V8)(f:Addr)(cd:Xc)(A:Qm)(outer:List Env)(s:Xd)(H:Hp)(E:XK):Cx where
 prog:=P
 w:=w
 K:=K
 mg:=mg
 base:=base
 A:=A.deeper (U4 qual scope s.heap.objs.size f cd)
 N:=N
 s₀:=s
 H₀:=H
 env:=U4 qual scope s.heap.objs.size f cd
 outer:=outer
 stack:=U4 qual scope s.heap.objs.size f cd :: outer
 ex:=[]
 calm:=true
 fn:=λ_=>true
 pn:=[]
 xe:=λe s'=>XR (X7 P w) (A.deeper (U4 qual scope s.heap.objs.size f cd)) (leaving (U4 qual scope s.heap.objs.size f cd) e) (λ_ s''=>CX outer H s E e s'') (λe' s''=>CX outer H s E e' s'') s'
theorem Zof{sc:V8}{n:Nat}{x:Str}(h:sc.names.lookup x=some .cell):∃c,(JM n sc.names []).lookup x=some c:=by
 have q:=PySem.W.cellsFrom_some sc.names n [] (.inl h)
 exact Option.isSome_iff_exists.mp q
theorem Zsx{CX:CXT}{P:X4}{w:Qs}{K:Xb}{mg:Str->Option Xc}{base:Heap}{N ps:List Str}{qual:Str}{scope:V8}{f:Addr}{cd:Xc}{A:Qm}{outer:List Env}{s s1:Xd}{H:Hp}{E:XK}{us:List Xc}{vs:List V}
  (S:Zk N ps scope) (hd:A.handled=none) (e0:Z7w P w K mg base A outer s H) (hl:vs.length=ps.length) (r:Vals vs us)
  (x:InCallC s s.heap.objs.size (bindL (U4 qual scope s.heap.objs.size f cd).kindOf (ps.zip us) λ_=>none) (JM (s.heap.objs.size+1) scope.names []) (bindC (U4 qual scope s.heap.objs.size f cd).kindOf (ps.zip us) λ_=>none) s1) :
  Inv (Ztq CX P w K mg base N qual scope f cd A outer s H E) [] (start N vs) H s1:=by
 have hpl:ps.length≤N.length:=by have:=congrArg List.length S.pre;rw[VP]at this;omega
 obtain⟨h1,tk,rfl,hk⟩:=x.done
 have noA:∀b:Addr,b∉(Ztq CX P w K mg base N qual scope f cd A outer s H E).ex:=λb z=>absurd (show b∈([]:List Addr)from z) (by simp)
 refine⟨⟨e0.mod,S.kind,rfl,rfl,XQ _,λy z c h1 h2=>?_,λy hy=>?_,λy c _ h=>?_,λ_=>hd,Qm.frames_deeper e0.frames,.inr ⟨rfl,rfl⟩,λb z=>absurd z (noA b),e0.bs,e0.bsz,λb _ _=>noA b,λb z=>absurd z (noA b),e0.funs,e0.frf⟩,
  rfl,e0.bare,Un.kept hk,⟨_,x.toInCall.ns,λi y v h1 h2 h3=>?_⟩,λy c h=>⟨_,x.cell y c h⟩,e0.hok.fresh (XQ _),λy c h=>?_,λp hp=>absurd (show p∈([]:List (Addr×Obj))from hp) (by simp),e0.hok.kept hk,?_⟩
 ·exact name_of_addr x.apart (JD h1) (JD h2)
 ·have hy:scope.names.lookup y=some .cell∨scope.names.lookup y=some .free:=hy
  rcases hy with hy|hy
  ·exact Zof hy
  ·exact absurd rfl (S.nofree _ (JD hy))
 ·exact Nat.le_of_lt (x.above y c (JD h))
 ·have hi:i<vs.length:=by
   unfold start at h2
   by_cases hi:i<vs.length
   ·exact hi
   ·rw[JF (by simpa using hi)]at h2
    rw[U8]at h2
    split at h2<;>cases h2
  have ha:vs[i]? =some v:=by
   unfold start at h2
   rw[Bq (by simpa using hi),Xk]at h2
   cases e:vs[i]? with
   | none=>rw[e]at h2;cases h2
   | some a=>rw[e]at h2;cases h2;rfl
  obtain⟨u,hu,rv⟩:=r.get ha
  have hp:ps[i]? =some y:=by
   rw[←S.pre,List.getElem?_take_of_lt (by omega)];exact h1
  have ndP:ps.Nodup:=by rw[←S.pre];exact S.nd.sublist (List.take_sublist _ _)
  refine⟨u,rv,?_⟩
  rcases S.par y (X5 hp)with k|k
  ·exact .inl ⟨k,Zlk ndP hp hu k⟩
  ·obtain⟨c,e⟩:=Zof (n:=s.heap.objs.size+1) k
   refine .inr ⟨.inl k,c,e,?_⟩
   have q:=x.cell y c e
   rw[Zll ndP hp hu (by show scope.names.lookup y≠_;rw[k];decide)]at q
   exact q
 ·exact e0.hok.fresh (Nat.le_of_lt (x.above y c (JD h)))
 ·unfold start
  show _=N.length
  rw[Qy,Xe,VL]
  omega
theorem Yar{CX:CXT}{P:X4}{w:Qs}{K:Xb}{mg:Str->Option Xc}{base:Heap}{k:Nat}{f:Addr}{name qual:Str}{params:Arguments}{body:List Stmt}{scope:V8}{dV kV doc pm cdv ct oc:Xc}{an od:Option Addr}
  {osl:Array (Option Xc)} {N ps:List Str} {sp:Sp} (lk:K.lookup f=some ⟨oc,od,.func (Vk name qual params body scope dV kV doc pm an cdv ct),osl⟩) (hcd:PySem.W.codeIn K cdv qual=true) (S:Zk N ps scope)
  (len:∀vs H Q E,sp vs H Q E->vs.length=ps.length)
  (hbody:∀(A:Qm) (outer:List Env) (s:Xd) (H:Hp) (vs:List V) (Q:VK) (E:XK),Room k (A.deeper (U4 qual scope s.heap.objs.size f cdv))->sp vs H Q E ->
   ∃t,PSs (Ztq CX P w K mg base N qual scope f cdv A outer s H E) body t∧t { nx:=λ_ H'=>Q .non H',rt:=Q } (start N vs) H) :
  FnOk P w K mg base CX (k+1) f (Vk name qual params body scope dV kV doc pm an cdv ct) ps sp:=by
 refine⟨len,λA outer s H args us vs Q E hr e0 hb r hsp=>?_⟩
 have hl:=len _ _ _ _ hsp
 have KX:K.In s.heap:=e0.mod.kin.keeps λb o e=>(e0.bs b o e).1
 have lim:s.heap.NoLimit:=e0.mod.nolimit.keeps λb o e=>(e0.bs b o e).1
 have hkind:∀y∈ps.zip us,scope.names.lookup y.1=some .local∨(scope.names.lookup y.1=some .cell∧((JM (s.heap.objs.size+1) scope.names []).lookup y.1).isSome=true):=λ⟨n,v⟩ hy=>by
  rcases S.par n (List.of_mem_zip hy).1 with q|q
  ·exact .inl q
  ·exact .inr ⟨q,PySem.W.cellsFrom_some _ _ _ (.inl q)⟩
 refine codeAny_call_function hr.depth (KX _ _ lk) rfl S.co S.gen rfl (PySem.W.codeRec_of KX hcd) (hb _ _ _ _ ?_)
 refine wpAny_newFunctionEnv_cells S.kind hkind λenv he s1 x=>?_
 subst he
 refine⟨lim.keeps x.toInCall.keep,codeAny_func ?_⟩
 obtain⟨t,ht,hq⟩:=hbody A outer s H vs Q E (hr.deeper _) hsp
 have I:Inv (Ztq CX P w K mg base N qual scope f cdv A outer s H E) [] (start N vs) H s1:=Zsx S hr.hd e0 hl r x
 refine BR (ht [] s1 (start N vs) H _ I hq) (λfl s' hs=>?_) λe s' hs=>hs
 have fin:∀{σ':St} {H':Hp} {v:V} {u:Xc},Inv (Ztq CX P w K mg base N qual scope f cdv A outer s H E) [] σ' H' s'->RelV v u->Q v H'->CE outer P w H s Q u s' :=
  fun{σ' H' v u} J rv q=>⟨v,H',J.os,J.bare,J.base,J.hok,rv,q⟩
 cases fl with
 | ret u=>
  obtain⟨v,σ',H',J,rv,q⟩:=hs
  exact fin J rv q
 | next=>
  obtain⟨σ',H',J,q⟩:=hs
  exact fin (v:=V.non) (u:=Q4) J rfl q
 | brk=>
  obtain⟨_,_,_,q⟩:=hs
  exact Vl q
 | cont=>
  obtain⟨_,_,_,q⟩:=hs
  exact Vl q
section
variable {X:Cx}{x:Str}{p pos:Pos}{e:Expr}{es:List Expr}{t:TA}{id T:String}{r:List V->Hp->VK->Prop}
noncomputable def tCB(r:List V->Hp->VK->Prop)(t:TA):TE:=λσ H Q=>t σ H λvs H1=>r vs H1 Q
theorem Zgc(hc:Zes X (.builtin id) r)(hg:Gl X x)(hm:X.mg x=none)(hv:Qa x=some (.builtin id))(ha:PA X (e :: es) t)(hn:x≠"__name__" :=by decide)(hdb:(x==("__debug__" : Str))=false:=by decide)
  (he:Xp (e :: es) X.env=(false,eval e X.env) :: Xp es X.env:=by rfl) (hpl:(JG pos (Xp es X.env)).any (·.1)=false:=by rfl):PE X (.Call (.Name x p) (e :: es) [] pos) (tCB r t):=by
 intro pins s σ H Q I h
 refine Vi (Zgz I hg hm hv ?_ hn hdb)
 refine PyProof.Rows.callWith_builtin1 (thn (ha pos pins s σ H _ I h) λus s1 qz9=>?_) he hpl
 obtain⟨vs,H1,I1,r1,q1⟩:=qz9
 exact hc pins s1 σ H1 vs us Q I1 r1 q1
theorem Zqv(hc:Zes X (.type T) r)(hg:Gl X x)(hm:X.mg x=none)(hv:Qa x=some (.type T))(ha:PA X (e :: es) t)(hn:x≠"__name__" :=by decide)(hdb:(x==("__debug__" : Str))=false:=by decide)
  (he:Xp (e :: es) X.env=(false,eval e X.env) :: Xp es X.env:=by rfl) (hpl:(JG pos (Xp es X.env)).any (·.1)=false:=by rfl):PE X (.Call (.Name x p) (e :: es) [] pos) (tCB r t):=by
 intro pins s σ H Q I h
 refine Vi (Zgz I hg hm hv ?_ hn hdb)
 refine JW (thn (ha pos pins s σ H _ I h) λus s1 qz9=>?_) he hpl
 obtain⟨vs,H1,I1,r1,q1⟩:=qz9
 exact hc pins s1 σ H1 vs us Q I1 r1 q1
end
end L2
namespace HT
open PySem PyProof.Rows
section
open PySem.SeqAt
open PySem.AutoSeq1 (wpAny_loadPart')
open PySem.MeetsSeq PySem.MeetsSeq2 PySem.MeetsSeq3
end
section
variable {prog:X4}{w:Qs}{A:Qm}{E:Xc->Xd->Prop}{s:Xd}
noncomputable def sIx(n d:Nat):Option Int->Nat
 | none=>d
 | some v=>if v<0 then(v+(n:Int)).toNat else min v.toNat n
theorem sIx_none(n d:Nat):sIx n d none=d:=rfl
theorem sIx_nat(n d k:Nat):sIx n d (some (k:Int))=min k n:=by
 show(if(k:Int)<0 then((k:Int)+(n:Int)).toNat else min (k:Int).toNat n)=min k n
 rw[if_neg (by omega),QV]
end
end HT
namespace L2
open PySem PySem.Spec PyProof.Rows
noncomputable abbrev TO:=St->Hp->(Option Int->Hp->Prop)->Prop
noncomputable def PO(X:Cx)(e:Option Expr)(t:TO):Prop :=
 ∀(pins:List (Addr×Obj)) (s:Xd) (σ:St) (H:Hp) (Q:Option Int->Hp->Prop),Inv X pins σ H s->t σ H Q ->
  XR (X7 X.prog X.w) X.A (evalPart e X.env) (λu s'=>∃o H',Inv X pins σ H' s'∧IsPart u o∧Q o H') X.xe s
noncomputable def Z0l:TO:=λ_ H Q=>Q none H
noncomputable def Ya5(t:TE):TO:=λσ H Q=>t σ H λx H1=>∃i,x= .int i∧Q (some i) H1
section
variable {X:Cx}{e:Expr}{te:TE}{lo hi:Option Expr}{tl th:TO}{pos p2:Pos}
theorem Zz3:PO X none Z0l:=by
 intro pins s σ H Q I h
 rw[evalPart_none]
 exact X8 ⟨none,H,I,.none,h⟩
theorem Z10(h:PE X e te):PO X (some e) (Ya5 te):=by
 intro pins s σ H Q I hw
 rw[evalPart_some]
 refine thn (h pins s σ H _ I hw) λu s1 qz9=>?_
 obtain⟨x,H1,I1,r1,q1⟩:=qz9
 obtain⟨i,rfl,q⟩:=q1
 obtain⟨t,rfl⟩:=r1
 exact⟨some i,H1,I1,.int i t,q⟩
noncomputable def SlR(X:Cx)(r:V->Option Int->Option Int->Hp->VK->Prop):Prop :=
 ∀(pins:List (Addr×Obj)) (s:Xd) (σ:St) (H:Hp) (x:V) (v vl vu:Xc) (lo hi:Option Int) (sl:Addr) (Q:VK),Inv X pins σ H s->RelV x v->s.heap.IsSliceOf sl vl vu .none->IsPart vl lo->IsPart vu hi->r x lo hi H Q ->
  ∃T id,typeLookup (.type T) "__getitem__"=pure (some (.builtin id))∧s.TypeIs v T∧XR (X7 X.prog X.w) X.A (getItem v (.ref sl)) (EP X pins σ Q) X.xe s
noncomputable def tSl(r:V->Option Int->Option Int->Hp->VK->Prop)(te:TE)(tl th:TO):TE:=λσ H Q=>te σ H λx H1=>tl σ H1 λl H2=>th σ H2 λu H3=>r x l u H3 Q
theorem Zub{r:V->Option Int->Option Int->Hp->VK->Prop}(hr:SlR X r)(he:PE X e te)(hl:PO X lo tl)(hu:PO X hi th):PE X (.Subscript e (.Slice lo hi none p2) pos) (tSl r te tl th):=by
 intro pins s σ H Q I h
 refine Subscript_ (thn (he pins s σ H _ I h) λv s1 qz9=>?_)
 obtain⟨x,H1,I1,r1,q1⟩:=qz9
 refine wpAny_Slice (thn (hl pins s1 σ H1 _ I1 q1) λvl s2 qz9=>?_)
 obtain⟨l,H2,I2,pl,q2⟩:=qz9
 refine thn (hu pins s2 σ H2 _ I2 q2) λvu s3 qz9=>?_
 obtain⟨u,H3,I3,pu,q3⟩:=qz9
 rw[evalPart_none]
 refine X8 ?_
 have I4:Inv X pins σ H3 { s3 with heap:=s3.heap.push { cls:=.type "slice",data:=.fields #[vl,vu,.none] } }:=I3.kept (t':=s3.toks) λb ob q=>Xm _ q
 obtain⟨T,id,hT,ht,hg⟩:=hr pins { s3 with heap:=s3.heap.push { cls:=.type "slice",data:=.fields #[vl,vu,.none] } } σ H3 x v vl vu l u s3.heap.objs.size Q I4 r1 (Heap.IsSliceOf.new ..) pl pu q3
 show XR (X7 X.prog X.w) X.A (subscriptTail e (.Slice lo hi none p2) v (.ref s3.heap.objs.size)) (EP X pins σ Q) X.xe { s3 with heap:=s3.heap.push { cls:=.type "slice",data:=.fields #[vl,vu,.none] } }
 exact tail_any (ops:=[.ref s3.heap.objs.size,v]) ht hT hg (by with_unfolding_all rfl)
noncomputable def Z2b(xs:List V)(lo hi:Option Int):List V:=(xs.drop (HT.sIx xs.length 0 lo)).take (HT.sIx xs.length xs.length hi-HT.sIx xs.length 0 lo)
theorem Zmt(xs:List V)(lo hi:Option Int):(Z2b xs lo hi).length≤xs.length:=by
 unfold Z2b
 rw[VP,JR]
 omega
end
noncomputable def ixN(n:Nat)(i:Int):Option Nat:=if 0≤i then(if i<n then some i.toNat else none)else if -(n:Int)≤i then some (i+n).toNat else none
noncomputable def atI{α:Type}(xs:List α)(i:Int):Option α:=(ixN xs.length i).bind λj=>xs[j]?
theorem Zqp{n:Nat}{i:Int}{j:Nat}(h:ixN n i=some j):seqIndex? i n=some j∧j<n∧-(n:Int)≤i∧i<n:=by
 unfold ixN at h
 by_cases h0:0≤i
 ·rw[if_pos h0]at h
  by_cases h1:i<n
  ·rw[if_pos h1]at h
   have e:i.toNat=j:=QB h
   exact⟨by rw[seqIndex_of h0 h1,e],by omega,by omega,h1⟩
  ·rw[if_neg h1]at h;cases h
 ·rw[if_neg h0]at h
  by_cases h1:-(n:Int)≤i
  ·rw[if_pos h1]at h
   have e:(i+n).toNat=j:=QB h
   exact⟨by rw[seqIndex_neg (by omega) h1,e],by omega,h1,by omega⟩
  ·rw[if_neg h1]at h;cases h
theorem Zmi{α:Type}{xs:List α}{i:Int}{v:α}(h:atI xs i=some v):∃j,seqIndex? i xs.length=some j∧xs[j]? =some v∧j<xs.length∧-(xs.length:Int)≤i∧i<xs.length:=by
 unfold atI at h
 cases e:ixN xs.length i with
 | none=>rw[e]at h;cases h
 | some j=>
  rw[e]at h
  obtain⟨h1,h2,h3,h4⟩:=Zqp e
  exact⟨j,h1,h,h2,h3,h4⟩
noncomputable def Zgw(b:Expr):Prop:=∀o i,subscripted b false o i=operate [o,i] (getItem o i)
noncomputable def IxR(X:Cx)(r:R2):Prop :=
 ∀(value slice:Expr) (pins:List (Addr×Obj)) (s:Xd) (σ:St) (H:Hp) (x y:V) (v u:Xc) (Q:VK),Inv X pins σ H s->RelV x v->RelV y u->r x y H Q ->
  subscripted slice false v u=operate [v,u] (getItem v u)->XR (X7 X.prog X.w) X.A (subscriptTail value slice v u) (EP X pins σ Q) X.xe s
noncomputable def MtR(X:Cx)(id:String)(r:V->List V->Hp->VK->Prop):Prop :=
 ∀(pins:List (Addr×Obj)) (s:Xd) (σ:St) (H:Hp) (x:V) (xs:List V) (v:Xc) (us:List Xc) (Q:VK),Inv X pins σ H s->RelV x v->Vals xs us->r x xs H Q ->
  XR (X7 X.prog X.w) X.A (call (.builtin id) (v :: us)) (EP X pins σ Q) X.xe s
section
variable {X:Cx}{a b:Expr}{ta tb:TE}{pos:Pos}
theorem IxR.or{r r':R2}(h:IxR X r)(h':IxR X r'):IxR X (λx y H Q=>r x y H Q∨r' x y H Q):=by
 intro value slice pins s σ H x y v u Q I rx ry q hs
 rcases q with q|q
 ·exact h value slice pins s σ H x y v u Q I rx ry q hs
 ·exact h' value slice pins s σ H x y v u Q I rx ry q hs
theorem Z1k{r:R2}(hr:IxR X r)(ha:PE X a ta)(hb:PE X b tb)(hs:Zgw b):PE X (.Subscript a b pos) (tOp r ta tb):=by
 intro pins s σ H Q I h
 exact Subscript_ (Z9k ha hb I h λv u s2 x y H2 I2 rx ry q=>hr a b pins s2 σ H2 x y v u Q I2 rx ry q (hs _ _))
noncomputable def Yab(K:Xb):R2:=λx y H Q=>∃p xs i v,x= .ref p∧y= .int i∧SqL K H p xs∧atI xs i=some v∧Q v H
noncomputable def Yct(K:Xb):R2:=λx y H Q=>∃p xs i v,x= .ref p∧y= .int i∧SqT K H p xs∧atI xs i=some v∧Q v H
noncomputable def Ydf:R2:=λx y H Q=>∃z i c,x= .str z∧y= .int i∧z.length≤Xr∧atI z.cps.toList i=some c∧Q (.str ⟨#[c]⟩) H
theorem Zqt:IxR X (Yab X.K):=by
 intro value slice pins s σ H x y v u Q I rx ry h hs
 obtain⟨p,xs,i,z,rfl,rfl,hq,he,q⟩:=h
 cases rx
 obtain⟨t,rfl⟩:=ry
 obtain⟨its,r,pl,hz⟩:=I.list hq
 obtain⟨j,h1,h2,h3,h4,h5⟩:=Zmi he
 obtain⟨w,ew,rw'⟩:=r.get h2
 have hl:=r.length
 have hn:=Zim
 have fin:EP X pins σ Q w s:=⟨z,H,I,rw',q⟩
 by_cases h0:0≤i
 ·have hj:i.toNat=j:=by
   rw[seqIndex_of h0 h5]at h1
   exact QB h1
  exact item_listR pl.isList h0 (by omega) (by rw[hj];simpa using ew) fin hs
 ·have hj:(i+(its.toArray.size:Int)).toNat=j:=by
   rw[seqIndex_neg (by omega) h4]at h1
   rw[XM,←hl]
   exact QB h1
  exact subscriptTail_builtinR (x:=w) pl.isList.typeIs slot_list_getitem.lookup
   (wpAny_getItem_list_neg (Q:=λr s'=>r=w∧EP X pins σ Q r s') pl.isList (by omega) (by rw[XM]<;>omega) (by omega) (by rw[hj];simpa using ew) ⟨rfl,fin⟩) hs
theorem Z4w:IxR X (Yct X.K):=by
 intro value slice pins s σ H x y v u Q I rx ry h hs
 obtain⟨p,xs,i,z,rfl,rfl,hq,he,q⟩:=h
 cases rx
 obtain⟨t,rfl⟩:=ry
 obtain⟨its,r,pl,hz⟩:=I.tuple hq
 obtain⟨j,h1,h2,h3,h4,h5⟩:=Zmi he
 obtain⟨w,ew,rw'⟩:=r.get h2
 have hl:=r.length
 have hn:=Zim
 have fin:EP X pins σ Q w s:=⟨z,H,I,rw',q⟩
 exact subscriptTail_builtinR (x:=w) pl.typeIs slot_tuple_getitem.lookup
  (getItem_tuple (j:=j) (Q:=λr s'=>r=w∧EP X pins σ Q r s') pl (by omega) (by omega) (by rw[XM,←hl];exact h1) (by simpa using ew) ⟨rfl,fin⟩) hs
theorem Z22:IxR X Ydf:=by
 intro value slice pins s σ H x y v u Q I rx ry h hs
 obtain⟨z,i,c,rfl,rfl,hz,he,q⟩:=h
 obtain⟨t,rfl⟩:=rx
 obtain⟨t',rfl⟩:=ry
 obtain⟨j,h1,h2,h3,h4,h5⟩:=Zmi he
 have hl:z.cps.toList.length=z.length:=by simp[Str.length]
 rw[hl]at h1 h4 h5
 have hn:=Zim
 exact tail_any (typeIs_str s z t) slot_str_getitem.lookup (getItem_str (c:=c) (by
  have e1:decide (i< -(2^63:Int))=false:=decide_eq_false (by omega)
  have e2:decide (i≥2^63)=false:=decide_eq_false (by omega)
  rw[e1,e2,Bool.or_false]) (by rw[h1];simpa using h2) ⟨.str ⟨#[c]⟩,H,I.tok _,⟨_,rfl⟩,q⟩) hs
noncomputable def rIx(K:Xb):R2:=λx y H Q=>Yab K x y H Q∨Yct K x y H Q∨Ydf x y H Q
theorem Z41:IxR X (rIx X.K):=Zqt.or (Z4w.or Z22)
theorem Zpz(its:List Xc)(n j:Nat)(u:Xc):JH (·.setIfInBounds j u) { cls:=.type "list",data:=.seq its.toArray n }={ cls:=.type "list",data:=.seq (its.set j u).toArray n }:=by
 simp[JH]
theorem Inv.lst{pins:List (Addr×Obj)}{σ:St}{H:Hp}{s:Xd}{p:Addr}{xs:List V}(I:Inv X pins σ H s)(h:H p=some (.lst xs)) :
  ∃(its:List Xc) (n:Nat),Vals xs its∧s.heap.get? p=some { cls:=.type "list",data:=.seq its.toArray n }∧xs.length≤Xr:=by
 obtain⟨z,its,n,r,e⟩:=I.hok p _ h
 exact⟨its,n,r,e,z⟩
theorem Inv.lstUpd{pins:List (Addr×Obj)}{σ:St}{H:Hp}{s:Xd}{p:Addr}{xs ys:List V}{its its':List Xc}{n n':Nat}{f:Obj->Obj}(I:Inv X pins σ H s)(h:H p=some (.lst xs))
  (ho:s.heap.get? p=some { cls:=.type "list",data:=.seq its.toArray n }) (hf:f { cls:=.type "list",data:=.seq its.toArray n }={ cls:=.type "list",data:=.seq its'.toArray n' }) (r:Vals ys its') (hz:ys.length≤Xr) (t:Nat) :
  Inv X pins σ (upd H p (.lst ys)) { s with heap:=s.heap.update p f,toks:=t }:=by
 have e:(s.heap.update p f).get? p=some { cls:=.type "list",data:=.seq its'.toArray n' }:=by
  rw[Heap.get?_update_self f ho (by rw[hf]<;>rfl),hf]
 refine I.write (x:=p) (e:=p) (by rw[h];trivial) (.inl rfl) (λb u hb q=>(Heap.get?_update_other _ _ (Bb hb)).trans q) ⟨_,e⟩ ?_
 exact⟨hz,its',n',r,e⟩
noncomputable def Z04:V->V->V->Hp->(Hp->Prop)->Prop:=λo i v H Q=>∃p xs k j,o= .ref p∧i= .int k∧H p=some (.lst xs)∧ixN xs.length k=some j∧Q (upd H p (.lst (xs.set j v)))
theorem set_list:Yca X Z04:=by
 intro pins s σ H o i v ov iv u Q I ro ri rv h
 obtain⟨p,xs,k,j,rfl,rfl,hp,hj,q⟩:=h
 cases ro
 obtain⟨t,rfl⟩:=ri
 obtain⟨its,n,r,ho,hz⟩:=I.lst hp
 obtain⟨h1,h2,h3,h4⟩:=Zqp hj
 have hl:=r.length
 have hn:=Zim
 have I':Inv X pins σ (upd H p (.lst (xs.set j v))) { s with heap:=s.heap.update p (JH (·.setIfInBounds j u)) } :=
  I.lstUpd hp ho (Zpz its n j u) (r.set rv j) (by rw[Br];exact hz) s.toks
 by_cases h0:0≤k
 ·have hk:k.toNat=j:=by
   rw[seqIndex_of h0 h4]at h1
   exact QB h1
  exact PySem.W.ki_setAt ho h0 (by omega) (by rw[XM,←hl];exact h4) (by rw[hk];exact⟨_,I',q⟩)
 ·have hk:(k+(its.toArray.size:Int)).toNat=j:=by
   rw[seqIndex_neg (by omega) h3]at h1
   rw[XM,←hl]
   exact QB h1
  exact PySem.W.ki_setBack ho (by omega) (by rw[XM,←hl];exact h3) (by omega) (by rw[hk];exact⟨_,I',q⟩)
theorem Zkt(lo hi:Option Int)(n:Nat):(Ue lo hi none n).1=((HT.sIx n 0 lo:Nat):Int)∧(Ue lo hi none n).2.1=((HT.sIx n n hi:Nat):Int)∧(Ue lo hi none n).2.2=1:=by
 refine⟨?_,?_,rfl⟩
 ·cases lo with
  | none=>simp[Ue,HT.sIx]
  | some i=>
   simp only[Ue,HT.sIx,Option.getD_none,show(1:Int)>0 by decide,if_true]
   by_cases h:i<0
   ·simp only[h,if_true]<;>omega
   ·simp only[h,if_false]<;>omega
 ·cases hi with
  | none=>simp[Ue,HT.sIx]
  | some i=>
   simp only[Ue,HT.sIx,Option.getD_none,show(1:Int)>0 by decide,if_true]
   by_cases h:i<0
   ·simp only[h,if_true]<;>omega
   ·simp only[h,if_false]<;>omega
theorem Zja(its:List Xc)(lo hi:Option Int):slicePick its.toArray lo hi none=((its.drop (HT.sIx its.length 0 lo)).take (HT.sIx its.length its.length hi-HT.sIx its.length 0 lo)).toArray:=by
 obtain⟨h1,h2,h3⟩:=Zkt lo hi its.toArray.size
 unfold slicePick
 rw[h1,h2,h3]
 simp only[sliceRange_one,pick_run,XM]<;>rfl
noncomputable def Yd1(K:Xb):V->Option Int->Option Int->Hp->VK->Prop:=λx lo hi H Q=>∃a xs,x= .ref a∧SqL K H a xs∧∀p,H p=none->Q (.ref p) (upd H p (.lst (Z2b xs lo hi)))
theorem Z0y:SlR X (Yd1 X.K):=by
 intro pins s σ H x v vl vu lo hi sl Q I rx hs pl pu h
 obtain⟨a,xs,rfl,hx,q⟩:=h
 cases rx
 obtain⟨its,r,ht,hz⟩:=I.list hx
 have hlen:=r.length
 refine⟨"list",_,slot_list_getitem.lookup,ht.isList.typeIs,?_⟩
 refine wpAny_getItem_list_slice ht.isList hs pl pu .none (by simp) ?_ (by rw[XM]<;>omega)
 rw[Zja,←hlen]
 refine⟨.ref s.heap.objs.size,_,I.laid (t':=s.toks) (o:=.lst (Z2b xs lo hi)) (λb ob q=>Xm _ q) (XQ _) ?_,rfl,q _ (I.hok.fresh (XQ _))⟩
 exact⟨Qg (Zmt xs lo hi) hz,_,0,(r.drop (HT.sIx xs.length 0 lo)).take (HT.sIx xs.length xs.length hi-HT.sIx xs.length 0 lo),Qd _ rfl⟩
noncomputable def Zg0:V->Bool
 | .non=>true
 | .bl _=>true
 | .int _=>true
 | .str _=>true
 | _=>false
noncomputable def eqV:V->V->Bool
 | .non,.non=>true
 | .bl a,.bl b=>a==b
 | .bl a,.int b=>(if a then 1 else 0)==b
 | .int a,.bl b=>a==(if b then 1 else 0)
 | .int a,.int b=>a==b
 | .str a,.str b=>a==b
 | _,_=>false
theorem Z3w{A:Qm}{s:Xd}{y x:V}{u v:Xc}(ry:RelV y u)(rx:RelV x v)(fy:Zg0 y=true)(fx:Zg0 x=true):JC A s u v (eqV y x):=by
 cases y with
 | non=>
  cases ry
  cases x with
  | non=>cases rx;exact JC.same _
  | bl b=>cases rx;exact JC.none_bool b
  | int b=>obtain⟨t,rfl⟩:=rx;exact JC.none_int b t
  | str b=>obtain⟨t,rfl⟩:=rx;exact JC.none_str b t
  | _=>exact absurd (show false=true from fx) XC
 | bl a=>
  cases ry
  cases x with
  | non=>cases rx;exact JC.bool_none a
  | bl b=>cases rx;exact JC.bool_bool a b
  | int b=>obtain⟨t,rfl⟩:=rx;exact JC.bool_int a b t
  | str b=>obtain⟨t,rfl⟩:=rx;exact JC.bool_str a b t
  | _=>exact absurd (show false=true from fx) XC
 | int a=>
  obtain⟨t',rfl⟩:=ry
  cases x with
  | non=>cases rx;exact JC.int_none a t'
  | bl b=>cases rx;exact JC.int_bool a t' b
  | int b=>obtain⟨t,rfl⟩:=rx;exact JC.int_int a t' b t
  | str b=>obtain⟨t,rfl⟩:=rx;exact SeqAt.EqAt.int_str a t' b t
  | _=>exact absurd (show false=true from fx) XC
 | str a=>
  obtain⟨t',rfl⟩:=ry
  cases x with
  | non=>cases rx;exact JC.str_none a t'
  | bl b=>cases rx;exact JC.str_bool a t' b
  | int b=>obtain⟨t,rfl⟩:=rx;exact SeqAt.EqAt.str_int a t' b t
  | str b=>obtain⟨t,rfl⟩:=rx;exact JC.str_str a t' b t
  | _=>exact absurd (show false=true from fx) XC
 | _=>exact absurd (show false=true from fy) XC
noncomputable def eqU(x:V)(u:Xc):Bool:=match u with
 | .none=>eqV .non x
 | .bool b=>eqV (.bl b) x
 | .int i _=>eqV (.int i) x
 | .str z _=>eqV (.str z) x
 | _=>false
theorem Zwu{x y:V}{u:Xc}(r:RelV y u)(f:Zg0 y=true):eqU x u=eqV y x:=by
 cases y with
 | non=>cases r;rfl
 | bl b=>cases r;rfl
 | int i=>obtain⟨t,rfl⟩:=r;rfl
 | str z=>obtain⟨t,rfl⟩:=r;rfl
 | _=>exact absurd (show false=true from f) XC
theorem Zjh{x:V}{xs:List V}{us:List Xc}(h:Vals xs us)(f:xs.all Zg0=true):us.any (eqU x)=xs.any λy=>eqV y x:=by
 induction h with
 | nil=>rfl
 | cons r t ih=>
  rw[UV,XN]at f
  rw[Vw,Vw,Zwu r f.1,ih f.2]
theorem Zgi{A:Qm}{s:Xd}{x:V}{v:Xc}(rx:RelV x v)(fx:Zg0 x=true){xs:List V}{us:List Xc}(h:Vals xs us)(f:xs.all Zg0=true):∀u∈us,JC A s u v (eqU x u):=by
 induction h with
 | nil=>intro u hu;cases hu
 | cons r t ih=>
  intro u' hu
  rw[UV,XN]at f
  rcases Xo.mp hu with rfl|hu
  ·rw[Zwu r f.1];exact Z3w r rx f.1 fx
  ·exact ih f.2 u' hu
noncomputable def inV(x:V)(xs:List V):Bool:=xs.any λy=>eqV y x
noncomputable def rIn(K:Xb)(neg:Bool):R2:=λx y H Q=>∃p xs,y= .ref p∧(SqL K H p xs∨SqT K H p xs)∧Zg0 x=true∧xs.all Zg0=true∧Q (.bl (if neg then !inV x xs else inV x xs)) H
theorem Zrj:OpR X (Bg .In) (rIn X.K false):=by
 intro pins s σ H x y v u Q I rx ry h
 obtain⟨p,xs,rfl,hq,fx,fs,q⟩:=h
 cases ry
 rcases hq with hq|hq
 ·obtain⟨its,r,pl,hz⟩:=I.list hq
  refine SeqAt.in_listAt (eqU x) pl.isList (λw hw=>Zgi rx fx r fs w (by simpa using hw)) ⟨.bl _,H,I,rfl,?_⟩
  rw[show its.toArray.any (eqU x)=its.any (eqU x) by simp,Zjh r fs]
  exact q
 ·obtain⟨its,r,pl,hz⟩:=I.tuple hq
  refine SeqAt.in_tupleAt (eqU x) pl (λw hw=>Zgi rx fx r fs w (by simpa using hw)) ⟨.bl _,H,I,rfl,?_⟩
  rw[show its.toArray.any (eqU x)=its.any (eqU x) by simp,Zjh r fs]
  exact q
theorem Zlb:OpR X (Bg .NotIn) (rIn X.K true):=by
 intro pins s σ H x y v u Q I rx ry h
 obtain⟨p,xs,rfl,hq,fx,fs,q⟩:=h
 cases ry
 rcases hq with hq|hq
 ·obtain⟨its,r,pl,hz⟩:=I.list hq
  refine SeqAt.notIn_listAt (eqU x) pl.isList (λw hw=>Zgi rx fx r fs w (by simpa using hw)) ⟨.bl _,H,I,rfl,?_⟩
  rw[show its.toArray.any (eqU x)=its.any (eqU x) by simp,Zjh r fs]
  exact q
 ·obtain⟨its,r,pl,hz⟩:=I.tuple hq
  refine SeqAt.notIn_tupleAt (eqU x) pl (λw hw=>Zgi rx fx r fs w (by simpa using hw)) ⟨.bl _,H,I,rfl,?_⟩
  rw[show its.toArray.any (eqU x)=its.any (eqU x) by simp,Zjh r fs]
  exact q
theorem Zlp:Zes X (.builtin "len") (λxs H Q=>∃p ys,xs=[.ref p]∧(SqL X.K H p ys∨SqT X.K H p ys)∧Q (.int ys.length) H):=by
 intro pins s σ H xs us Q I r h
 obtain⟨p,ys,rfl,hq,q⟩:=h
 obtain⟨u,rfl,rx⟩:=vals1 r
 cases rx
 have hn:=Zim
 rcases hq with hq|hq
 ·obtain⟨its,r',pl,hz⟩:=I.list hq
  have hlen:=r'.length
  exact Calls.call_len_list pl.isList (by simp only[XM]<;>omega) ⟨.int ys.length,H,I.tok _,⟨s.toks+1,by rw[XM,hlen]⟩,q⟩
 ·obtain⟨its,r',pl,hz⟩:=I.tuple hq
  have hlen:=r'.length
  exact len_tuple pl (by simp only[XM]<;>omega) ⟨.int ys.length,H,I.tok _,⟨s.toks+1,by rw[XM,hlen]⟩,q⟩
noncomputable def tyV(K:Xb)(T:String)(x:V)(H:Hp):Prop:=match x with
 | .str _=>T="str"
 | .int _=>T="int"
 | .ref p=>(T="list"∧∃xs,SqL K H p xs)∨(T="tuple"∧∃o,K.lookup p=some o∧o.cls= .type "tuple"∧o.dict=none)∨
   (T="dict"∧((∃kvs,H p=some (.dK kvs))∨∃kvs,H p=some (.dT kvs)))∨(T="set"∧∃S n,H p=some (.set S n))
 | _=>False
theorem Z4b{pins:List (Addr×Obj)}{σ:St}{H:Hp}{s:Xd}{T:String}{x:V}{v:Xc}(I:Inv X pins σ H s)(r:RelV x v)(ty:tyV X.K T x H) :
  s.TypeIs v T∧∀a,v= .ref a->∃ob,s.heap.get? a=some ob∧ob.dict=none:=by
 cases x with
 | str z=>
  obtain⟨t,rfl⟩:=r
  cases(show T="str"from ty)
  exact⟨typeIs_str s z t,λ_ e=>nomatch e⟩
 | int i=>
  obtain⟨t,rfl⟩:=r
  cases(show T="int"from ty)
  exact⟨typeIs_int s i t,λ_ e=>nomatch e⟩
 | ref p=>
  cases r
  rcases ty with⟨rfl,xs,hq⟩|⟨rfl,o,hk,hc,hd⟩|⟨rfl,hk⟩|⟨rfl,S,n,hk⟩
  ·obtain⟨its,_,pl,_⟩:=I.list hq
   refine⟨pl.isList.typeIs,λa e=>?_⟩
   cases e
   obtain⟨o,n,e,c,hd,_⟩:=pl
   exact⟨o,e,hd⟩
  ·refine⟨⟨o,I.kIn p o hk,hc⟩,λa e=>?_⟩
   cases e
   exact⟨o,I.kIn _ o hk,hd⟩
  ·have z:∃o,s.heap.get? p=some o∧o.ExactDict:=by
    rcases hk with⟨kvs,hk⟩|⟨kvs,hk⟩
    ·obtain⟨_,_,_,_,o,_,_,e,ex,_⟩:=I.hok p _ hk
     exact⟨o,e,ex⟩
    ·obtain⟨_,_,_,_,o,_,_,e,ex,_⟩:=I.hok p _ hk
     exact⟨o,e,ex⟩
   obtain⟨o,e,ex⟩:=z
   refine⟨⟨o,e,ex.1⟩,λa e2=>?_⟩
   cases e2
   exact⟨o,e,ex.2.1⟩
  ·obtain⟨o,_,_,_,e,ex,_⟩:=I.hok p _ hk
   refine⟨⟨o,e,ex.1⟩,λa e2=>?_⟩
   cases e2
   exact⟨o,e,ex.2.1⟩
 | _=>exact Vl ty
noncomputable def tBM(K:Xb)(T:String)(r:V->List V->Hp->VK->Prop)(to:TE)(t:TA):TE:=λσ H Q=>to σ H λx H1=>tyV K T x H1∧t σ H1 λxs H2=>r x xs H2 Q
variable {o e:Expr}{es:List Expr}{to:TE}{t:TA}{name:Str}{apos cpos:Pos}{T id:String}{r:V->List V->Hp->VK->Prop}
theorem Z1f(pa:PlainAttrs T)(slot:Slot T name id)(hty:typeOf (.builtin id)=pure (.type "method_descriptor"))(hm:MtR X id r)(ho:PE X o to)(ha:PA X (e :: es) t)
  (hbase:Ud o name X.env (eval o X.env)=eval o X.env:=by rfl)
  (hfew:((JG cpos (Xp (e :: es) X.env)).all (λx=>!x.1)&&(backToKw cpos (keywordEach [] X.env)).all (λx=>x.1.isSome)
   &&decide ((e :: es).length+([]:List V5).length+(if([]:List V5).isEmpty then 0 else 1)<30))=true:=by rfl)
  (hline:(apos.endLine==cpos.line)=true:=by rfl) (hs:Xp (e :: es) X.env=(false,eval e X.env) :: Xp es X.env:=by rfl) (hplain:(JG cpos (Xp es X.env)).any (·.1)=false:=by rfl) :
  PE X (.Call (.Attribute o name apos) (e :: es) [] cpos) (tBM X.K T r to t):=by
 intro pins s σ H Q I h
 refine wpAny_Call_method_late hbase hfew hline rfl (thn (ho pins s σ H _ I h) λv s1 qz9=>?_)
 obtain⟨x,H1,I1,r1,ty,q1⟩:=qz9
 obtain⟨h1,h2⟩:=Z4b I1 r1 ty
 refine⟨T,id,pa,slot,hty,h1,h2,?_⟩
 have hA:=ha cpos pins s1 σ H1 _ I1 q1
 rw[hs]at hA⊢
 refine Calls.callWith_builtin (by show(false||(JG cpos (Xp es X.env)).any (·.1))=false;rw[hplain]<;>rfl) (Calls.evalArgs_plain ?_)
 refine thn hA λus s2 qz9=>?_
 obtain⟨vs,H2,I2,r2,q2⟩:=qz9
 exact hm pins s2 σ H2 x vs v us Q I2 r1 r2 q2
end
noncomputable def MtM(X:Cx)(id:String)(r:V->List V->Hp->VK->Prop):Prop :=
 ∀(pins:List (Addr×Obj)) (s:Xd) (σ:St) (H:Hp) (x:V) (xs:List V) (v:Xc) (us:List Xc) (Q:VK),Inv X pins σ H s->RelV x v->Vals xs us->r x xs H Q ->
  XR (X7 X.prog X.w) X.A (call (.builtin id) (v :: us)) (EP X pins σ Q) X.xe s
theorem Vals.one{x:V}{us:List Xc}(h:Vals [x] us):∃u,us=[u]∧RelV x u:=by
 cases h with
 | cons r t=>cases t;exact⟨_,rfl,r⟩
theorem Vals.zero:∀{us:List Xc},Vals [] us->us=[]
 | _,.nil=>rfl
theorem Vals.rep{xs:List V}{us:List Xc}(h:Vals xs us):∀k:Nat,Vals (Xx k xs).flatten (Xx k us).flatten
 | 0=>.nil
 | k+1=>by
  rw[By,By,VH,VH]
  exact Vals.append h (Vals.rep h k)
theorem foldl_rep(its:List Xc):∀(k:Nat) (acc:List Xc),
  List.foldl (λx1 x2=>x1 ++ x2) acc.toArray (Xx k its.toArray)=(acc ++ (Xx k its).flatten).toArray
 | 0,acc=>by simp
 | k+1,acc=>by
  have e:acc.toArray ++ its.toArray=(acc ++ its).toArray:=by simp
  have e2:(acc ++ its) ++ (Xx k its).flatten=acc ++ (Xx (k+1) its).flatten:=by
   rw[By,VH,Bu]
  rw[←e2,←foldl_rep its k (acc ++ its),←e,By,List.foldl_cons]
section
variable {X:Cx}{pins:List (Addr×Obj)}{σ:St}{H:Hp}{s:Xd}{l b:Addr}{xs ys zs:List V}
theorem Inv.lset{its its':List Xc}{n:Nat}{f:Array Xc->Array Xc}{t':Nat}(I:Inv X pins σ H s)(hH:H l=some (.lst xs))
  (e:s.heap.get? l=some { cls:=.type "list",data:=.seq its.toArray n }) (hf:f its.toArray=its'.toArray) (hv:Vals ys its') (hz:ys.length≤Xr) :
  Inv X pins σ (upd H l (.lst ys)) { s with heap:=s.heap.update l (JH f),toks:=t' }:=by
 have q:=PySem.IsL.update e f
 rw[hf]at q
 refine I.write (x:=l) (e:=l) (by rw[hH];exact trivial) (.inl rfl) (λb' u hb hu=>(Heap.get?_update_other s.heap (JH f) (Bb hb)).trans hu) ⟨_,q⟩ ?_
 exact⟨hz,its',_,hv,q⟩
theorem Inv.lnew{its:List Xc}{t':Nat}(I:Inv X pins σ H s)(hv:Vals ys its)(hz:ys.length≤Xr) :
  Inv X pins σ (upd H s.heap.objs.size (.lst ys)) { s with heap:=s.heap.push { cls:=.type "list",data:=.seq its.toArray },toks:=t' } :=
 I.laid (λ_ _ q=>Xm _ q) (XQ _) ⟨hz,its,0,hv,Qd _ rfl⟩
theorem Inv.fresh(I:Inv X pins σ H s):H s.heap.objs.size=none:=I.hok.fresh (XQ _)
theorem Inv.lstM(I:Inv X pins σ H s)(hH:H l=some (.lst xs)):xs.length≤Xr∧∃(its:List Xc) (n:Nat),Vals xs its∧xs.length=its.length∧s.heap.get? l=some { cls:=.type "list",data:=.seq its.toArray n }:=by
 obtain⟨z,its,n,r,e⟩:=I.hok l _ hH
 exact⟨z,its,n,r,r.length,e⟩
theorem Zul{n:Nat}(h:n≤Xr):V9 n=false:=by
 unfold V9
 exact decide_eq_false (by omega)
end
section
variable {X:Cx}
noncomputable def Z1w:V->List V->Hp->VK->Prop:=λx vs H Q=>∃l xs y,x= .ref l∧vs=[y]∧H l=some (.lst xs)∧xs.length<Xr∧Q .non (upd H l (.lst (xs ++ [y])))
theorem Zed:MtM X "list.append" Z1w:=by
 intro pins s σ H x vs v us Q I rx rv h
 obtain⟨l,xs,y,rfl,rfl,hH,hz,q⟩:=h
 cases rx
 obtain⟨u,rfl,ru⟩:=rv.one
 obtain⟨z,its,n,r,hl,e⟩:=I.lstM hH
 refine call_meets F.slot_list_append ⟨_,e,rfl⟩ F.entry_list_append (F.args_list_append_2 _ _) (PySem.list_append l its.toArray n u (by rw[XM];omega)) ⟨e,?_⟩
 refine⟨.non,_,I.lset (its':=its ++ [u]) hH e (by simp) (r.append (.cons ru .nil)) ?_,rfl,q⟩
 rw[Qy,List.length_singleton]
 omega
noncomputable def Ye0:R2:=λx y H Q=>∃l k xs,x= .ref l∧y= .int k∧H l=some (.lst xs)∧-(2^63)≤k∧k<2^63∧xs.length*k.toNat≤Xr∧
 ∀p,H p=none->Q (.ref p) (upd H p (.lst (Xx k.toNat xs).flatten))
theorem len_rep{α:Type}(xs:List α)(k:Nat):(Xx k xs).flatten.length=k*xs.length:=by
 induction k with
 | zero=>simp
 | succ k ih=>rw[By,VH,Qy,ih,Nat.succ_mul,Nat.add_comm]
theorem Z2l:OpR X (Vb .Mult) Ye0:=by
 intro pins s σ H x y v u Q I rx ry h
 obtain⟨l,k,xs,rfl,rfl,hH,h1,h2,hz,q⟩:=h
 cases rx
 obtain⟨t,rfl⟩:=ry
 obtain⟨z,its,n,r,hl,e⟩:=I.lstM hH
 have hlen:its.toArray.size*k.toNat≤Xr:=by rw[XM,←hl];exact hz
 have hcap:¬its.toArray.size*k.toNat>(2^63-1)/8:=by
  have:(Xr:Nat)≤(2^63-1)/8:=by decide
  omega
 have hfit:¬(!Builtin.List.listFitsIndex k)=true:=by
  rw[fitsIndex_both h1 h2]
  exact XC
 have hlong:¬V9 (its.toArray.size*k.toNat)=true:=by
  rw[Zul hlen]
  exact XC
 have hnew:List.foldl (λx1 x2=>x1 ++ x2) #[] (Xx (if its.toArray.isEmpty=true then 0 else k.toNat) its.toArray)=(Xx k.toNat its).flatten.toArray:=by
  have f0:∀m:Nat,List.foldl (λx1 x2=>x1 ++ x2) #[] (Xx m its.toArray)=(Xx m its).flatten.toArray:=λm=>by
   have:=foldl_rep its m []
   rw[List.nil_append]at this
   exact this
  rw[f0]
  cases its with
  | nil=>simp
  | cons a r'=>rw[if_neg (by simp)]
 refine wpAny_binaryOp_repeat_ref (T :="list") (U :="int") (by decide) ⟨_,e,rfl⟩ (λs'=>typeIs_int s' k t) noFill_list_mul F.fills_int_mul F.slot_int_rmul repeat_list F.slot_int_index.lookup
  (call_meets F.slot_int_rmul (typeIs_int s k t) F.entry_int_rmul (F.args_int_rmul_2 _ _) (int___rmul___int_list k t l its.toArray n)
   ⟨e,rfl,⟨_,e,rfl⟩,call_meets F.slot_list_mul ⟨_,e,rfl⟩ F.entry_list_mul (F.args_list_mul_2 _ _) (AutoListH.list___mul___list_int_3 l its.toArray n k t hfit hcap hlong) ⟨e,?_⟩⟩)
 rw[hnew]
 exact⟨.ref _,_,I.lnew (t':=s.toks) (r.rep k.toNat) (by rw[len_rep,Nat.mul_comm];exact hz),rfl,q _ I.fresh⟩
end
section
variable {prog:X4}{w:Qs}{A:Qm}{E:Xc->Xd->Prop}{s:Xd}
end
section
variable {X:Cx}
end
end L2
namespace Att
open PySem PySem.W PySem.Calls PyProof.Rows
theorem Zhx{P:Params}{h:Heap}:∀(ns:List Int) (vs:List Xc),WellAll P h vs (ns.map WData.int)->Vy vs ns:=by
 intro ns
 induction ns with
 | nil=>
  intro vs w
  rw[List.map_nil]at w
  cases w
  exact .nil
 | cons n ns ih=>
  intro vs w
  rw[X3]at w
  cases w with
  | cons a b=>
   cases a
   exact .cons _ _ (ih _ b)
theorem Ztk{l:OpenLaw}{n:Nat}(hn:l.most=some n){P:Params}{h:Heap}{args:List WData}{vals:List Xc}
  (hpre:l.row.toRowW.claim.pre args=true) (hwl:WellAll P h vals args) :
  ∃a vs ns,vals=[QJ a]∧args=[WData.list (ns.map WData.int)]∧h.get? a=some { cls:=.type "list",data:=.seq vs.toArray }∧Vy vs ns∧ns.length≤n:=by
 have hsh:WShape.hasAll [] args [.list .int]=true:=(pre_splitW hpre).1
 have hc:l.pre.holds [] { args:=args }=true:=(pre_splitW hpre).2
 obtain⟨d,r,rfl,h1,h2⟩:=hasAllW_cons hsh
 obtain rfl:=hasAllW_nil h2
 obtain⟨xs,rfl,h3⟩:=hasW_list h1
 obtain⟨ns,rfl⟩:=items_int h3
 have hlen:ns.length≤n:=by
  unfold OpenLaw.pre at hc
  have h4:(WTm.not (.lt (.lit (.int (n:Int))) (.len (.arg 0)))).holds [] { args:=[.list (ns.map .int)] }=true:=by
   have h4:=(holds_andW hc).1
   rw[hn]at h4
   exact h4
  have h5:=condW_of h4 (w_not (w_lt w_lit (w_len_list (w_arg rfl))))
  rw[Xe]at h5
  refine Nat.le_of_not_lt λq=>?_
  have q':(n:Int)<((ns.length:Nat):Int):=by omega
  first
   | (rw[decide_eq_true q']at h5;exact absurd h5 (by decide))
   | (simp at h5;omega)
 cases hwl with
 | cons w1 w2=>
  cases w2
  cases w1 with
  | list ho hall=>exact⟨_,_,ns,rfl,rfl,ho,Zhx ns _ hall,hlen⟩
theorem Zti(l:OpenLaw)(args:List WData):l.row.toRowW.claim.post args (.bool true) args=true :=
 postW_of (r:=l.row.toRowW) (X:=(true==true))
  (show WShape.has [] (.bool true) .bool=true by first|rfl|decide|simp[WShape.has,WShape.arms,WShape.armsAll])
  (show(WTm.eq .res (.lit (.bool true))).value [] { args:=args,res:=some (.bool true),after:=args }=some (.bool (true==true))from w_eq_bool (w_res rfl) w_lit) rfl
theorem attach_call{l:OpenLaw}{n:Nat}{q:X4}{loose:List Str}{XP:(Str->Option Xc)->Heap->Prop}{YP:Qs->Heap->Prop}{d:DefRec}
  (hn:l.most=some n) (hdf:d.params.defaults=[])
  (call:∀(w:Qs) (s₀ s₁:Xd) (mg mb:Str->Option Xc) (fa:Addr) (o:Obj) (pm cd doc:Xc) (a:Addr) (vs:List Xc) (ns:List Int),
   Ground q loose [] XP w s₀ mg mb s₁.heap->YP w s₁.heap ->
   s₁.heap.get? fa=some o->o.data= .func (docDef d.name d.params d.body d.scope pm cd doc)->s₁.heap.CodeRec cd d.name->mg d.name=some (.ref fa) ->
   s₁.heap.get? a=some { cls:=.type "list",data:=.seq vs.toArray }->Vy vs ns->ns.length≤n->s₁.gens=#[] ->
   codeAny (X7 l.prog w) callerA (.call (.ref fa) ⟨[.ref a],[]⟩) (λr s'=>r= .ok (.ret (.bool true))∧OldK s₁.heap s'.heap∧s'.os=s₁.os∧AllBare s'.gens) s₁) :
  WalkO q loose XP YP l.row.toRowW d [] (λf vs=>PySem.call f vs):=by
 intro w s₀ s₁ mg mb G Y fa o pm cd doc dV kV ho hd hcd hD hmg hg args vals as hpre hlay hrd hwl hlo
 obtain rfl:dV= .none:=Dflts.none hD hdf
 obtain rfl:kV= .none:=Dflts.noKw hD
 obtain⟨a,vs,ns,rfl,rfl,hobj,hints,hlen⟩:=Ztk hn hpre hwl
 refine enter_call (codeAny_mono (call w s₀ s₁ mg mb fa o pm cd doc a vs ns G Y ho (fd_plain hd) hcd hmg hobj hints hlen hg) λr s' hq=>?_)
 obtain⟨rfl,h2,h3,h4⟩:=hq
 exact⟨.inl ⟨.bool true,.bool true,[],rfl,λ_=>rfl,.bool true,Zti l _,λ_=>⟨List.Pairwise.nil,λ_ hm=>(nomatch hm)⟩⟩,h2,h3,h4⟩
section
variable {prog:X4}{w:Qs}{A:Qm}{E:Xc->Xd->Prop}{s:Xd}{K:Frag}
end
end Att
namespace L2
open PySem PySem.Spec PyProof.Rows
theorem Zrk{vs:List Xc}{ns:List Int}(h:Vy vs ns):Vals (ns.map V.int) vs:=by
 induction h with
 | nil=>exact .nil
 | cons n t h ih=>exact .cons ⟨t,rfl⟩ ih
noncomputable def Only(H:Hp):Prop:=∀b,H b=none∨∃o xs,H b=some (.frz o (.lst xs))
theorem Zu2{P:X4}{w:Qs}{K:Xb}{mg mb:Str->Option Xc}{CX:CXT}{k:Nat}{fa a:Addr}{fd:XD}{x:Str}{sp:Sp}{s₁:Xd}{vs:List Xc}{ns:List Int}
  (KX:K.In s₁.heap) (hns:s₁.heap.Ns XX mg) (hb:s₁.heap.Ns builtinsNs mb) (hbb:∀x:Str,x≠"__name__" ->mb x=Qa x) (hlim:s₁.heap.NoLimit) (hg:s₁.gens=#[])
  (ha:s₁.heap.get? a=some { cls:=.type "list",data:=.seq vs.toArray }) (hi:Vy vs ns) (hl:ns.length≤Xr) (hr:Room k callerA)
  (F:∀base:Heap,K.In base->base.Ns XX mg->FnOk P w K mg base CX k fa fd [x] sp) (hbind:∀(s:Xd) (u:Xc),BindsTo s fd ⟨[u],[]⟩ [(x,u)])
  (hsp:∀H:Hp,Only H->SqL K H a (ns.map V.int)->sp [.ref a] H (λv _=>v= .bl true) λ_ _ _=>False)
  (hCX:∀H e s',CX [] H s₁ (λ_ _ _=>False) e s'->False) :
  codeAny (X7 P w) callerA (.call (.ref fa) ⟨[.ref a],[]⟩) (λr s'=>r= .ok (.ret (.bool true))∧OldK s₁.heap s'.heap∧s'.os=s₁.os∧AllBare s'.gens) s₁:=by
 have rv:=Zrk hi
 have lenV:=hi.length
 -- from an abstract heap in which nothing but the script may be tracked
 have core:∀H:Hp,Only H->SqL K H a (ns.map V.int)->HOk P w H s₁.heap->(∀b,H b≠none->b=a)->(H a≠none->K.lookup a=none) ->
   codeAny (X7 P w) callerA (.call (.ref fa) ⟨[.ref a],[]⟩) (λr s'=>r= .ok (.ret (.bool true))∧OldK s₁.heap s'.heap∧s'.os=s₁.os∧AllBare s'.gens) s₁:=by
  intro H hO hS hok hA hK
  have base_of:∀{b:Addr} {o:Obj},s₁.heap.get? b=some o->H b=none->(Zu0 s₁.heap H).get? b=some o:=λe n=>Zuh e n
  have noA:∀{b:Addr} {o:Obj} {es:Array DictEntry} {ep:Nat},s₁.heap.get? b=some o->o.data= .dict es ep->H b=none:=fun{b o es ep} e d=>by
   cases q:H b with
   | none=>rfl
   | some u=>
    have e':b=a:=hA b (by rw[q];simp)
    subst e'
    rw[ha]at e;cases e
    have d':Data.seq vs.toArray _=Data.dict es ep:=d
    cases d'
  have nsK:∀{b:Addr} {m:Str->Option Xc},s₁.heap.Ns b m->(Zu0 s₁.heap H).Ns b m:=fun{b m} ⟨o,es,ep,e,d,r⟩=>⟨o,es,ep,base_of e (noA e d),d,r⟩
  have hKb:K.In (Zu0 s₁.heap H):=λb o e=>base_of (KX b o e) (by
   cases q:H b with
   | none=>rfl
   | some u=>
    have e':b=a:=hA b (by rw[q];simp)
    subst e'
    rw[hK (by rw[q];simp)]at e;cases e)
  have hM:Mod K mg (Zu0 s₁.heap H):=⟨hKb,nsK hns,⟨mb,nsK hb,hbb⟩,let⟨mc,h1,h2⟩:=hlim;⟨mc,nsK h1,h2⟩⟩
  have e0:Z7w P w K mg (Zu0 s₁.heap H) callerA [] s₁ H:=⟨rfl,hM,λb o e=>Zyl e,Nat.le_of_eq (Zq4 _ _),trivial,λb hb=>absurd (show b∈([]:List Addr)from hb) (by simp),hok,.of_eq hg⟩
  refine codeAny_mono ((F _ hKb (nsK hns)).run callerA [] s₁ H ⟨[.ref a],[]⟩ [.ref a] [.ref a] _ _ hr e0 (hbind s₁ (.ref a)) (.cons rfl .nil) (hsp H hO hS)) λr s' h=>?_
  cases r with
  | error e=>exact(hCX H e s' h).elim
  | ok fl=>
   cases fl with
   | next=>exact Vl h
   | brk=>exact Vl h
   | cont=>exact Vl h
   | ret u=>
    obtain⟨v,H',os,bare,un,hok',r',q⟩:=h
    have q':v= .bl true:=q
    subst q'
    obtain rfl:u=Value.bool true:=r'
    refine⟨rfl,OldK.of_keep λb o e=>?_,os,bare⟩
    cases q:H b with
    | none=>exact un.keep b o e q (by intro z;exact absurd (show b∈([]:List Addr)from z) (by simp)) (by simp)
    | some u=>
     rcases hO b with z|⟨ob,xs,z⟩
     ·rw[q]at z;cases z
     ·have z2:=un.frzs b ob _ z
      obtain⟨e1,_⟩:=hok b _ z
      obtain⟨e2,_⟩:=hok' b _ z2
      rw[e]at e1;cases e1
      exact e2
 cases hk:K.lookup a with
 | some o=>
  -- the script is one of the module's own objects
  have e:=KX a o hk
  rw[ha]at e
  cases e
  refine core (λ_=>none) (λ_=>.inl rfl) (.inr ⟨_,vs.toArray,_,hk,rfl,rfl,rfl,by rw[XM,lenV];exact hl,by simpa using rv⟩) (λb u z=>by have z':(none:Option HO)=some u:=z;cases z') (λb z=>absurd rfl z) λz=>absurd rfl z
 | none=>
  refine core (λb=>if b=a then some (.frz { cls:=.type "list",data:=.seq vs.toArray } (.lst (ns.map V.int)))else none) (λb=>?_) (.inl (.inr ⟨{ cls:=.type "list",data:=.seq vs.toArray },if_pos rfl⟩)) (λb u z=>?_) (λb z=>?_) λ_=>hk
  ·by_cases hb:b=a
   ·exact .inr ⟨_,_,if_pos hb⟩
   ·exact .inl (if_neg hb)
  ·by_cases hb:b=a
   ·have z':=(if_pos hb).symm.trans z
    cases z'
    subst hb
    exact⟨ha,by rw[Xe];exact hl,vs,_,rv,ha⟩
   ·have z':=(if_neg hb).symm.trans z
    cases z'
  ·by_cases hb:b=a
   ·exact hb
   ·exact absurd (if_neg hb) z
noncomputable abbrev KOf{K:Xb}{h:Heap}(_:K.In h):Xb:=K
theorem Z01{l:PySem.W.OpenLaw}{n k:Nat}{q:X4}{loose:List Str}{XP:(Str->Option Xc)->Heap->Prop}{YP:Qs->Heap->Prop}{d:DefRec}{K:Params->Xb}{CX:Qs->CXT}{sp:Qs->Sp}{x:Str}
  (hn:l.most=some n) (hn2:n≤Xr) (hdf:d.params.defaults=[]) (hr:Room k callerA)
  (hY:∀(w:Qs) (h:Heap),YP w h->(K w.params).In h)
  (F:∀(w:Qs) (mg:Str->Option Xc) (fa:Addr) (h:Heap),(K w.params).In h->h.Ns XX mg->mg d.name=some (.ref fa) ->
   ∃fd:XD,(∀(s:Xd) (u:Xc),BindsTo s fd ⟨[u],[]⟩ [(x,u)])∧
    ∀base:Heap,(K w.params).In base->base.Ns XX mg->FnOk l.prog w (K w.params) mg base (CX w) k fa fd [x] (sp w))
  (hsp:∀(w:Qs) (H:Hp) (a:Addr) (ns:List Int),ns.length≤n->Only H->SqL (K w.params) H a (ns.map V.int)->sp w [.ref a] H (λv _=>v= .bl true) λ_ _ _=>False)
  (hCX:∀(w:Qs) (H:Hp) (s:Xd) (e:Xc) (s':Xd),CX w [] H s (λ_ _ _=>False) e s'->False) :
  PySem.W.WalkO q loose XP YP l.row.toRowW d [] (λf vs=>PySem.call f vs):=by
 refine Att.attach_call hn hdf λw s₀ s₁ mg mb fa o pm cd doc a vs ns G Y ho hd hcd hmg hobj hints hlen hg=>?_
 have KX:=hY w _ Y
 obtain⟨fd,hb,hF⟩:=F w mg fa _ KX G.T.g hmg
 exact Zu2 KX G.T.g G.T.b G.T.builtins G.T.nolimit hg hobj hints (Qg hlen hn2) hr hF hb (λH hO hS=>hsp w H a ns hlen hO hS) λH e s'=>hCX w H s₁ e s'
noncomputable def Ze9(s:Stmt):Arguments:=match s with
 | .FunctionDef _ a _ _ _ _ _ _ _ _=>a
 | _=>{ posonlyargs:=[],args:=[],vararg:=none,kwonlyargs:=[],kw_defaults:=[],kwarg:=none,defaults:=[] }
noncomputable def Zar(s:Stmt):List Stmt:=match s with
 | .FunctionDef _ _ b _ _ _ _ _ _ _=>b
 | _=>[]
noncomputable def Zi(s:Stmt):V8:=match s with
 | .FunctionDef _ _ _ _ _ _ sc _ _ _=>sc
 | _=>{ kind:=.function,names:=[],isGenerator:=false,isCoroutine:=false }
noncomputable abbrev CX0:CXT:=λ_ _ _ _ _ _=>False
noncomputable abbrev E0:XK:=λ_ _ _=>False
theorem Zby{X:Cx}:Zh0 CX0 X E0:=λ_ _ _ _ _ _ _ h=>h.elim
structure Fun(K:Xb)(x qual:Str)(st:Stmt)(f:Addr)(fd:XD):Prop where
 ex:∃(oc:Xc) (od:Option Addr) (kV doc pm:Xc) (an:Option Addr) (cdv ct:Xc) (osl:Array (Option Xc)),
  fd=Vk x qual (Ze9 st) (Zar st) (Zi st) .none kV doc pm an cdv ct∧K.lookup f=some ⟨oc,od,.func fd,osl⟩∧PySem.W.codeIn K cdv qual=true
 kp:JT K (.ref f)=true
section
variable {P:X4}{w:Qs}{K:Xb}{mg:Str->Option Xc}{base:Heap}
theorem Fun.ok{x qual:Str}{st:Stmt}{f:Addr}{fd:XD}{N ps:List Str}{k:Nat}{sp:Sp}(F:Fun K x qual st f fd)(S:Zk N ps (Zi st))(len:∀vs H Q E,sp vs H Q E->vs.length=ps.length)
  (hbody:∀(cdv:Xc) (A:Qm) (outer:List Env) (s:Xd) (H:Hp) (vs:List V) (Q:VK) (E:XK),Room k (A.deeper (U4 qual (Zi st) s.heap.objs.size f cdv))->sp vs H Q E ->
   ∃t,PSs (Ztq CX0 P w K mg base N qual (Zi st) f cdv A outer s H E).nox (Zar st) t∧t { nx:=λ_ H'=>Q .non H',rt:=Q } (start N vs) H):FnOk P w K mg base CX0 (k+1) f fd ps sp:=by
 obtain⟨oc,od,kV,doc,pm,an,cdv,ct,osl,rfl,lk,hcd⟩:=F.ex
 refine Yar lk hcd S len λA outer s H vs Q E hr hsp=>?_
 obtain⟨t,h,q⟩:=hbody cdv A outer s H vs Q E hr hsp
 exact⟨t,h.nox,q⟩
theorem Fun.binds{x qual:Str}{st:Stmt}{f:Addr}{fd:XD}{ps:List Str}(F:Fun K x qual st f fd)
  (h:∀(kV doc pm:Xc) (an:Option Addr) (cdv ct:Xc) (us:List Xc),us.length=ps.length->bindArgs (Vk x qual (Ze9 st) (Zar st) (Zi st) .none kV doc pm an cdv ct) ⟨us,[]⟩=pure (ps.zip us)):Binds K fd ps []:=by
 obtain⟨oc,od,kV,doc,pm,an,cdv,ct,osl,rfl,lk,hcd⟩:=F.ex
 exact .all (h kV doc pm an cdv ct)
theorem Z5s{x qual:Str}{st:Stmt}{f:Addr}{oc:Xc}{od an:Option Addr}{osl:Array (Option Xc)}{kV doc pm cdv ct:Xc}(l:K.lookup f=some ⟨oc,od,.func (Vk x qual (Ze9 st) (Zar st) (Zi st) .none kV doc pm an cdv ct),osl⟩)
  (c:PySem.W.codeIn K cdv qual=true) (k:JT K (.ref f)=true):Fun K x qual st f (Vk x qual (Ze9 st) (Zar st) (Zi st) .none kV doc pm an cdv ct):=⟨⟨oc,od,kV,doc,pm,an,cdv,ct,osl,rfl,l,c⟩,k⟩
end
section
variable {X:Cx}
theorem pv(i:Nat){x:Str}{pos:Pos}(hN:X.N[i]? =some x:=by rfl)(hv:Vis X.env.scope x:=by first|exact Qn rfl|exact Qi (Qn rfl)|exact Qi (Qi rfl))(hd:(x==("__debug__" : Str))=false:=by decide)
  (hcd:(x==("__classdict__" : Str))=false:=by decide):PE X (.Name x pos) (Z3o i):=Zxl hN hv hd hcd
end
noncomputable def Same(H H':Hp):Prop:=∀b o,H b=some o->H' b=some o
theorem Same.refl(H:Hp):Same H H:=λ_ _ h=>h
theorem Same.trans{H H1 H2:Hp}(a:Same H H1)(b:Same H1 H2):Same H H2:=λc o h=>b c o (a c o h)
theorem Same.free{H H':Hp}(e:Same H H'){l:Addr}(h:H' l=Option.none):H l=Option.none:=by
 cases q:H l with
 | none=>rfl
 | some o=>
  rw[e l o q]at h
  cases h
end L2
set_option maxHeartbeats 4000000
namespace L2
open PySem PySem.Spec PyProof.Rows
noncomputable def Bt(n:Nat)(x:Int):Prop:=x.natAbs<2^n
theorem Bt.mono{m n:Nat}{x:Int}(h:Bt m x)(hn:m≤n):Bt n x:=X6 h (Vo (by decide) hn)
theorem Bt.mul{m n:Nat}{x y:Int}(h:Bt m x)(k:Bt n y):Bt (m+n) (x*y):=by
 unfold Bt at*
 rw[Int.natAbs_mul,Nat.pow_add]
 exact Nat.mul_lt_mul'' h k
theorem Bt.neg{m:Nat}{x:Int}(h:Bt m x):Bt m (-x):=by
 unfold Bt at*
 rw[Int.natAbs_neg]
 exact h
theorem Bt.add{m n:Nat}{x y:Int}(h:Bt m x)(k:Bt n y):Bt (m+n+1) (x+y):=by
 unfold Bt at*
 have h1:2^m≤2^(m+n):=Vo (by decide) (by omega)
 have h2:2^n≤2^(m+n):=Vo (by decide) (by omega)
 have h3:2^(m+n+1)=2*2^(m+n):=by rw[Nat.pow_succ];omega
 have h4:=Int.natAbs_add_le x y
 omega
theorem Bt.of_le{m:Nat}{x y:Int}(h:Bt m x)(k:y.natAbs≤x.natAbs):Bt m y:=Bl k h
theorem Bt.of_lt{m:Nat}{x:Int}(h1:-(2^m)<x)(h2:x<2^m):Bt m x:=by
 unfold Bt
 have e:((2^m:Nat):Int)=2^m:=by simp
 omega
theorem Bt.bits{m:Nat}{x:Int}(h:Bt m x):Q8 x≤m:=by
 unfold Q8
 split
 ·exact QZ _
 ·rename_i hx
  have hp:x.natAbs≠0:=by
   intro e
   apply hx
   have:x=0:=by omega
   subst this
   rfl
  have:=(Nat.log2_lt hp).mpr h
  omega
theorem Bt.mulOk{m n:Nat}{x y:Int}(h:Bt m x)(k:Bt n y)(hmn:m+n≤100000000:=by decide):IntMulOk x y:=by
 have h1:=h.bits
 have h2:=k.bits
 have h3:UJ (Q8 x+Q8 y)=false:=by
  unfold UJ bitsLine
  exact decide_eq_false (by omega)
 unfold IntMulOk
 rw[h3]
 simp
noncomputable def DivOk(_ j:Int):Prop:=j≠0∧j.natAbs.log2<9000
theorem DivOk.of{i j:Int}{n:Nat}(h0:j≠0)(h:Bt n j)(hn:n≤9000:=by decide):DivOk i j:=by
 refine⟨h0,?_⟩
 have hp:j.natAbs≠0:=by omega
 have:=(Nat.log2_lt hp).mpr h
 omega
section
variable {X:Cx}
theorem Zzt:OpR X (Vb .Mult) (rI IntMulOk λi j=>.int (i*j)):=opI λ_ _ _ _ _ _ _ hc q=>mul_int q hc
theorem Zv1:OpR X (Vb .FloorDiv) (rI DivOk λi j=>.int (i.fdiv j)):=opI λ_ _ _ _ _ _ _ hc q=>floordiv_int hc.1 q (.inl (PyProof.noPylong_of_log2 hc.2))
theorem Z0m:OpR X (Vb .Pow) (rI Z16 λi j=>.int (i^j.toNat)):=Z5o
end
theorem Zib(elt target iter:Expr)(ifs:List Expr)(scope:V8)(pos:Pos)(it acc:Xc)(env:Env) :
  compTurn (.ListComp elt [⟨target,iter,ifs,0⟩] scope pos) 0 it acc env=(standAt iter.pos>>= λ_=>pyNext it>>= λr=>match r with
   | none=>pure (.done .next)
   | some v=>Um target it v>>= λ_=>V2 target env v>>= λ_=>
    (forIn ifs true λc r=>if r=true then do let ok←isTrue c env (eval c env);pure (JB ok)else pure (JB r))>>= λok=>
     if ok=true then((eval elt env>>= λx=>call (.builtin "list.append") [acc,x]>>= λ_=>pure ())>>= λ_=>
      again (.compLoop (.ListComp elt [⟨target,iter,ifs,0⟩] scope pos) 0 it acc env))
     else again (.compLoop (.ListComp elt [⟨target,iter,ifs,0⟩] scope pos) 0 it acc env)):=by rfl
theorem Zl5{prog:X4}{w:Qs}{A:Qm}{R:Result->Xd->Prop}{s:Xd}{elt target iter:Expr}{ifs:List Expr}{scope:V8}{pos:Pos}{it acc:Xc}{env:Env}(I:Nat->Xd->Prop)
  (turn:∀n s,I n s->XR (X7 prog w) A (pyNext it) (λr s₁=>match r with
   | none=>R (.ok .next) s₁
   | some v=>XR (X7 prog w) A (Um target it v) (λ_ s₁=>XR (X7 prog w) A (V2 target env v) (λ_ s₂=>
     XR (X7 prog w) A (forIn ifs true λc r=>if r=true then do let ok←isTrue c env (eval c env);pure (JB ok)else pure (JB r)) (λok s₃=>
      if ok=true then XR (X7 prog w) A (eval elt env) (λx s₄=>
       XR (X7 prog w) A (call (.builtin "list.append") [acc,x]) (λ_ s₅=>∃m,m<n∧I m s₅) (notedBy (X7 prog w) A env λe s'=>R (.error e) s') s₄) (notedBy (X7 prog w) A env λe s'=>R (.error e) s') s₃
      else∃m,m<n∧I m s₃) (notedBy (X7 prog w) A env λe s'=>R (.error e) s') s₂) (notedBy (X7 prog w) A env λe s'=>R (.error e) s') s₁) (notedBy (X7 prog w) A env λe s'=>R (.error e) s') s₁) (notedBy (X7 prog w) A env λe s'=>R (.error e) s') s)
  (n:Nat) (h:I n s) :
  codeAny (X7 prog w) A (.compLoop (.ListComp elt [⟨target,iter,ifs,0⟩] scope pos) 0 it acc env) R s:=by
 refine codeAny_loop rfl I (λn s hI=>?_) n h
 show XR _ A ((compTurn (.ListComp elt [⟨target,iter,ifs,0⟩] scope pos) 0 it acc env).onRaise (λx=>do noteFrame x env;theTreesLotGoes x)) _ _ s
 refine wpAny_noted ?_
 rw[Zib]
 refine Xf (wpAny_standAt (Xf (BR (turn n s hI) (λr s₁ h₁=>?_) λ_ _ h'=>h')))
 cases r with
 | none=>exact X8 h₁
 | some v=>
  refine Xf (BR h₁ (λ_ s₂ h₂=>?_) λ_ _ h'=>h')
  refine Xf (BR h₂ (λ_ s₂ h₂=>Xf (BR h₂ (λok s₃ h₃=>?_) λ_ _ h'=>h')) λ_ _ h'=>h')
  cases ok with
  | false=>exact X8 ⟨rfl,h₃⟩
  | true=>
   exact Xf (Xf (BR h₃ (λx s₄ h₄=>Xf (BR h₄ (λ_ s₅ h₅=>X8 (X8 ⟨rfl,h₅⟩)) λ_ _ h'=>h')) λ_ _ h'=>h'))
noncomputable def Zh4(env:Env):List (Str×Bc)->List (Str×Addr)->List (Str×Addr)
 | [],acc=>acc
 | (n,k) :: r,acc=>if k== .free then Zh4 env r ((n,(env.cells.lookup n).getD 0) :: acc)else Zh4 env r acc
theorem Zka{env:Env}:∀(names:List (Str×Bc)) (acc:List (Str×Addr)),(∀y∈names,y.2= .free->∃c,env.cells.lookup y.1=some c) ->
  (forIn names acc (λ(y:Str×Bc) cs=>(if y.2== .free then(cellOf env y.1>>= λc=>pure (JB ((y.1,c) :: cs)))else pure (JB cs):Sem (ForInStep (List (Str×Addr))))))=pure (Zh4 env names acc)
 | [],acc,_=>by rw[Uj];rfl
 | (n,k) :: r,acc,h=>by
  by_cases hk:k= .free
  ·subst hk
   obtain⟨c,hc⟩:=h (n,.free) (.head _) rfl
   have hc':env.cells.lookup n=some c:=hc
   have e:=Zka (env:=env) r ((n,c) :: acc) λy hy=>h y (.tail _ hy)
   have ec:cellOf env n=pure c:=by
    unfold cellOf
    rw[hc']
   rw[List.forIn_cons]
   simp only[beq_self_eq_true,if_true]
   rw[ec]
   simp only[Zh4,beq_self_eq_true,if_true,hc',Option.getD_some]
   exact e
  ·have e:=Zka (env:=env) r acc λy hy=>h y (.tail _ hy)
   have hb:(k==QL)=false:=by simpa using hk
   rw[List.forIn_cons]
   simp only[Zh4,hb,BZ,if_false]
   exact e
theorem Zdj{scope:V8}{env:Env}(h:∀y∈scope.names,y.2= .free->∃c,env.cells.lookup y.1=some c):closureFor scope env=pure (Zh4 env scope.names []):=by
 have e:=Zka scope.names [] h
 have e':(forIn scope.names ([]:List (Str×Addr)) (λ(y:Str×Bc) cs=>(match y with|(name,kind)=>do
   if kind== .free then do let a←cellOf env name;pure (JB ((name,a) :: cs))else pure (JB cs):Sem (ForInStep (List (Str×Addr))))))=pure (Zh4 env scope.names []):=e
 exact congrArg (λ(m:Sem (List (Str×Addr)))=>m>>= λx=>pure x) e'
theorem Zj4{env:Env}:∀(names:List (Str×Bc)) (acc:List (Str×Addr)),(∀y∈names,y.2= .free->∃c,env.cells.lookup y.1=some c) ->
  ∀n c,(n,c)∈Zh4 env names acc->(n,c)∈acc∨((n,QL)∈names∧env.cells.lookup n=some c)
 | [],acc,_,n,c,h=>.inl h
 | (m,k) :: r,acc,h,n,c,hm=>by
  by_cases hk:k= .free
  ·subst hk
   obtain⟨d,hd⟩:=h (m,.free) (.head _) rfl
   have hd':env.cells.lookup m=some d:=hd
   simp only[Zh4,beq_self_eq_true,if_true,hd',Option.getD_some]at hm
   rcases Zj4 r _ (λy hy=>h y (.tail _ hy)) n c hm with z|⟨z1,z2⟩
   ·rcases Xo.mp z with z|z
    ·cases z;exact .inr ⟨.head _,hd'⟩
    ·exact .inl z
   ·exact .inr ⟨.tail _ z1,z2⟩
  ·have hb:(k==QL)=false:=by simpa using hk
   simp only[Zh4,hb,BZ,if_false]at hm
   refine(Zj4 r _ (λy hy=>h y (.tail _ hy)) n c hm).imp id λqz9=>?_
   obtain⟨z1,z2⟩:=qz9
   exact⟨.tail _ z1,z2⟩
theorem Zjj{env:Env}:∀(names:List (Str×Bc)) (acc:List (Str×Addr)),∀p∈acc,p∈Zh4 env names acc
 | [],_,_,h=>h
 | (m,k) :: r,acc,p,h=>by
  unfold Zh4
  split
  ·exact Zjj r _ p (.tail _ h)
  ·exact Zjj r _ p h
theorem Zkj{env:Env}:∀(names:List (Str×Bc)) (acc:List (Str×Addr)) (n:Str),(n,QL)∈names->∃c,(n,c)∈Zh4 env names acc
 | [],_,_,h=>nomatch h
 | (m,k) :: r,acc,n,h=>by
  rcases Xo.mp h with z|z
  ·cases z
   exact⟨_,by
    simp only[Zh4,beq_self_eq_true,if_true]
    exact Zjj _ _ _ (.head _)⟩
  ·unfold Zh4
   split
   ·exact Zkj r _ n z
   ·exact Zkj r _ n z
theorem Zfu{env:Env}(inj:∀x y c,env.cells.lookup x=some c->env.cells.lookup y=some c->x=y):∀(names:List (Str×Bc)) (acc:List (Str×Addr)),
  (∀ y∈names,y.2= .free->∃c,env.cells.lookup y.1=some c)->(names.map (·.1)).Nodup->(∀p∈acc,env.cells.lookup p.1=some p.2)->(∀p∈acc,p.1∉names.map (·.1))->(acc.Pairwise λx y=>x.2≠y.2) ->
  (Zh4 env names acc).Pairwise λx y=>x.2≠y.2
 | [],_,_,_,_,_,h=>h
 | (m,k) :: r,acc,hf,hn,ha,hd,hp=>by
  rw[X3,Qj]at hn
  have hf':∀y∈r,y.2= .free->∃c,env.cells.lookup y.1=some c:=λy hy=>hf y (.tail _ hy)
  have hd':∀p∈acc,p.1∉r.map (·.1):=λp hp z=>hd p hp (by rw[X3];exact .tail _ z)
  by_cases hk:k= .free
  ·subst hk
   obtain⟨d,hd0⟩:=hf (m,.free) (.head _) rfl
   have hd1:env.cells.lookup m=some d:=hd0
   simp only[Zh4,beq_self_eq_true,if_true,hd1,Option.getD_some]
   refine Zfu inj r _ hf' hn.2 (λp hp'=>?_) (λp hp'=>?_) (Uh.mpr ⟨λp hp' z=>?_,hp⟩)
   ·rcases Xo.mp hp' with rfl|hp'
    ·exact hd1
    ·exact ha p hp'
   ·rcases Xo.mp hp' with rfl|hp'
    ·exact hn.1
    ·exact hd' p hp'
   ·have e:m=p.1:=inj m p.1 d hd1 (by rw[ha p hp',←z])
    exact hd p hp' (by rw[X3,←e];exact .head _)
  ·have hb:(k==QL)=false:=by simpa using hk
   simp only[Zh4,hb,BZ,if_false]
   exact Zfu inj r _ hf' hn.2 ha hd' hp
structure Zpg(h:Heap)(lo:Nat)(names:List (Str×Bc))(acc cs:List (Str×Addr)):Prop where
 mem:∀n c,(n,c)∈cs->(n,c)∈acc∨(h.IsCell c none∧lo≤c∧(n,JN)∈names)
 has:∀n,(n,JN)∈names->∃c,(n,c)∈cs
 old:∀p∈acc,p∈cs
theorem Ze3:∀(names:List (Str×Bc)) (h:Heap) (lo:Nat) (acc:List (Str×Addr)),lo≤h.objs.size->Zpg (Bp h names) lo names acc (JM h.objs.size names acc)
 | [],_,_,_,_=>⟨λ_ _ m=>.inl m,(λ_ m=>nomatch m),λ_ m=>m⟩
 | (name,kind) :: r,h,lo,acc,hlo=>by
  by_cases hk:(kind==JN)=true
  ·have ek:kind= .cell:=by simpa using hk
   subst ek
   have ih:=Ze3 r (h.push { cls:=.type "cell",data:=.cell none }) lo ((name,h.objs.size) :: acc) (by rw[QX];omega)
   rw[QX]at ih
   have e1:JM h.objs.size ((name,.cell) :: r) acc=JM (h.objs.size+1) r ((name,h.objs.size) :: acc):=by
    rw[JM,if_pos hk]
   have e2:Bp h ((name,.cell) :: r)=Bp (h.push { cls:=.type "cell",data:=.cell none }) r:=by
    rw[Bp,if_pos hk]
   rw[e1,e2]
   refine⟨λn c m=>?_,λn m=>?_,λp m=>ih.old p (.tail _ m)⟩
   ·rcases ih.mem n c m with z|⟨z1,z2,z3⟩
    ·rcases Xo.mp z with z|z
     ·cases z
      exact .inr ⟨⟨_,Ul _ _ _ _ (Qd _ rfl),rfl⟩,hlo,.head _⟩
     ·exact .inl z
    ·exact .inr ⟨z1,z2,.tail _ z3⟩
   ·rcases Xo.mp m with z|z
    ·cases z
     exact⟨_,ih.old _ (.head _)⟩
    ·exact ih.has n z
  ·have ih:=Ze3 r h lo acc hlo
   have e1:JM h.objs.size ((name,kind) :: r) acc=JM h.objs.size r acc:=by
    rw[JM,if_neg hk]
   have e2:Bp h ((name,kind) :: r)=Bp h r:=by
    rw[Bp,if_neg hk]
   rw[e1,e2]
   refine⟨λn c m=>(ih.mem n c m).imp id λ⟨z1,z2,z3⟩=>⟨z1,z2,.tail _ z3⟩,λn m=>?_,ih.old⟩
   rcases Xo.mp m with z|z
   ·cases z
    exact absurd rfl hk
   ·exact ih.has n z
theorem Zg8(names:List (Str×Bc)):∀(h:Heap) (acc:List (Str×Addr)),(acc.Pairwise λx y=>x.2≠y.2)->(∀p∈acc,p.2<h.objs.size)->(JM h.objs.size names acc).Pairwise λx y=>x.2≠y.2:=by
 induction names with
 | nil=>intro h acc ha _;exact ha
 | cons y r ih=>
  intro h acc ha hb
  obtain⟨name,kind⟩:=y
  unfold JM
  split
  ·have:=ih (h.push { cls:=.type "cell",data:=.cell none }) ((name,h.objs.size) :: acc) (Uh.mpr ⟨λp hp=>XJ (hb p hp),ha⟩) (λp hp=>by
    rw[QX]
    rcases Xo.mp hp with rfl|hp
    ·exact JV _
    ·exact Nat.lt_succ_of_lt (hb p hp))
   rwa[QX]at this
  ·exact ih h acc ha hb
theorem Zh6{M:Model}{A:Qm}{E:Xc->Xd->Prop}{s:Xd}{scope:V8}{globals:Addr}{cl:List (Str×Addr)}{qual:Str}{env:Env}{Q:Env->Xd->Prop}
  (hQ:Q (newEnv scope s.heap.objs.size globals (JM (s.heap.objs.size+1) scope.names cl) qual none .none (some env) builtinsNs)
   { s with heap:=Bp (s.heap.push { cls:=.type "dict",data:=.dict #[] }) scope.names }) :
  XR M A (newFunctionEnv scope globals cl [] qual none .none (some env)) Q E s:=by
 simp only[newFunctionEnv,Option.isSome_some,if_true]
 refine Xf (wpAny_alloc ?_)
 refine Xf (wpAny_layCells _ (λname kind cells=>by cases hkc:kind==JN<;>simp[hkc]) _ _ _ _ ?_)
 rw[show({ s with heap:=s.heap.push { cls:=.type "dict",data:=.dict #[] } }:Xd).heap.objs.size=s.heap.objs.size+1 from QX ..]
 rw[Uj]
 exact Xf (X8 (X8 hQ))
noncomputable def Wh(X:Cx)(N':List Str)(sc:V8)(C:Addr)(cells:List (Str×Addr))(s₂:Xd)(H₂:Hp)(fp:List Addr):Cx :=
 { X with N:=N',s₀:=s₂,H₀:=H₂,env:=compEnvC sc cells C X.env,outer:=X.stack,stack:=X.stack,ex:=fp,fn:=λx=>sc.names.lookup x==some .cell,pn:=[],xe:=λ_ _=>False }
theorem Zdl{env:Env}:∀{names:List (Str×Bc)} {x:Str} {k:Bc},names.lookup x=some k ->
  (names.map λ(n,k)=>if(k==QL&&env.scope.kind== .function&&env.kindOf n==some .cell)then(n,JN)else(n,k)).lookup x=
   some (if(k==QL&&env.scope.kind== .function&&env.kindOf x==some .cell)then JN else k)
 | [],_,_,h=>by simp at h
 | (n,k') :: r,x,k,h=>by
  have ih:=@Zdl env r x k
  show List.lookup x ((if(k'==QL&&env.scope.kind== .function&&env.kindOf n==some .cell)=true then(n,JN)else(n,k')) :: _)=_
  cases hx:x==n with
  | true=>
   simp only[QM,hx]at h
   cases h
   have e:=beq_iff_eq.mp hx
   subst e
   split<;>simp[QM]
  | false=>
   simp only[QM,hx]at h
   split
   ·simp only[QM,hx];exact ih h
   ·simp only[QM,hx];exact ih h
theorem Zf5{env:Env}:∀{names:List (Str×Bc)} {x:Str},names.lookup x=none ->
  (names.map λ(n,k)=>if(k==QL&&env.scope.kind== .function&&env.kindOf n==some .cell)then(n,JN)else(n,k)).lookup x=none
 | [],_,_=>rfl
 | (n,k') :: r,x,h=>by
  have ih:=@Zf5 env r x
  show List.lookup x ((if(k'==QL&&env.scope.kind== .function&&env.kindOf n==some .cell)=true then(n,JN)else(n,k')) :: _)=_
  cases hx:x==n with
  | true=>
   simp only[QM,hx]at h
   cases h
  | false=>
   simp only[QM,hx]at h
   split
   ·simp only[QM,hx];exact ih h
   ·simp only[QM,hx];exact ih h
theorem Zej{α:Type}:∀{l:List (Str×α)} {n:Str} {c:α},(l.map (·.1)).Nodup->(n,c)∈l->l.lookup n=some c
 | (k,v) :: r,n,c,hd,h=>by
  rw[X3,Qj]at hd
  rcases Xo.mp h with e|hr
  ·cases e
   simp[QM]
  ·have hne:(n==k)=false:=by
    refine UL.mpr λz=>hd.1 ?_
    have e:n=k:=beq_iff_eq.mp z
    rw[←e]
    exact XF.mpr ⟨(n,c),hr,rfl⟩
   rw[QM,hne]
   exact Zej hd.2 hr
theorem Yu{α:Type}:∀{l:List (Str×α)} {n:Str} {c:α},(n,c)∈l->∃d,l.lookup n=some d∧(n,d)∈l
 | (k,v) :: r,n,c,h=>by
  by_cases e:n=k
  ·subst e
   exact⟨v,by simp[QM],Ui⟩
  ·have hne:(n==k)=false:=by simpa using e
   rcases Xo.mp h with z|z
   ·cases z;exact absurd rfl e
   ·obtain⟨d,h1,h2⟩:=Yu z
    exact⟨d,by rw[QM,hne];exact h1,.tail _ h2⟩
structure CompScope(X:Cx)(own:List Str)(caps:List Nat)(N':List Str)(sc:V8):Prop where
 kind:sc.kind= .function
 nd:N'.Nodup
 names:N'=own ++ caps.map λi=>X.N.getD i Str.empty
 nn:(sc.names.map (·.1)).Nodup
 free:(sc.names.all λy=>y.2 != .free||(X.env.kindOf y.1==some .cell||X.env.kindOf y.1==some .free))=true
 caps:(caps.all λi=>sc.names.lookup (X.N.getD i Str.empty)==some .free)=true
noncomputable def Zac(own:List Str)(caps:List Nat)(σ:St):St:=own.map (λ_=>none) ++ caps.map λi=>(σ[i]?).getD none
section
variable {X:Cx}{own:List Str}{caps:List Nat}{N':List Str}{sc:V8}
theorem CompScope.lk(S:CompScope X own caps N' sc){n:Str}{k:Bc}(h:(n,k)∈sc.names):sc.names.lookup n=some k:=Zej S.nn h
theorem CompScope.fr(S:CompScope X own caps N' sc){n:Str}(h:(n,QL)∈sc.names):X.env.kindOf n=some .cell∨X.env.kindOf n=some .free:=by
 have:=BP.mp S.free _ h
 simpa using this
theorem Zpm{pins:List (Addr×Obj)}{σ:St}{H:Hp}{s:Xd}{fp:List Addr}{cl:List (Str×Addr)}(S:CompScope X own caps N' sc)(I:Inv X pins σ H s)
  (f:∀b∈fp,Zjb X pins H b) (fo:∀b∈fp,∃o,s.heap.get? b=some o)
  (hcl:∀n c,(n,c)∈cl->(n,QL)∈sc.names∧X.env.cells.lookup n=some c) (hcl2:∀n,(n,QL)∈sc.names->∃c,(n,c)∈cl) (hapart:cl.Pairwise λx y=>x.2≠y.2) :
  Inv (Wh X N' sc (s.heap.objs.size+1) (JM (s.heap.objs.size+2) sc.names cl) s H fp) [] (Zac own caps σ) (upd H s.heap.objs.size (.lst []))
   { s with heap:=Bp ((s.heap.push { cls:=.type "list",data:=.seq #[] }).push { cls:=.type "dict",data:=.dict #[] }) sc.names }:=by
 generalize hh1:s.heap.push { cls:=.type "list",data:=.seq #[] }=h1
 have z1:h1.objs.size=s.heap.objs.size+1:=by rw[←hh1,QX]
 generalize hh2:h1.push { cls:=.type "dict",data:=.dict #[] }=h2
 have z2:h2.objs.size=s.heap.objs.size+2:=by rw[←hh2,QX,z1]
 have BC:=Ze3 sc.names h2 (s.heap.objs.size+2) cl (by omega)
 have AP:=Zg8 sc.names h2 cl hapart (λp hp=>by
  obtain⟨v,hv⟩:=I.cell p.1 p.2 (hcl p.1 p.2 hp).2
  exact X6 hv.lt (by omega))
 rw[z2]at BC AP
 have keep:∀b o,s.heap.get? b=some o->(Bp h2 sc.names).get? b=some o:=λb o e=>Ul _ _ _ _ (by
  rw[←hh2]
  refine Xm _ ?_
  rw[←hh1]
  exact Xm _ e)
 have hD:(Bp h2 sc.names).get? s.heap.objs.size=some { cls:=.type "list",data:=.seq #[] }:=Ul _ _ _ _ (by
  rw[←hh2]
  refine Xm _ ?_
  rw[←hh1]
  exact Qd _ rfl)
 have hC:(Bp h2 sc.names).Ns (s.heap.objs.size+1) (λ_=>none):=by
  refine Heap.Ns.keeps ?_ (Ul _ _)
  have:=Heap.Ns.new h1 (.type "dict")
  rw[hh2,z1]at this
  exact this
 have cellOld:∀n c,X.env.cells.lookup n=some c->c<s.heap.objs.size:=λn c e=>by
  obtain⟨v,hv⟩:=I.cell n c e
  exact hv.lt
 have lk':∀n c,(JM (s.heap.objs.size+2) sc.names cl).lookup n=some c->(n,c)∈JM (s.heap.objs.size+2) sc.names cl:=λn c e=>JD e
 have hnD:H s.heap.objs.size=none:=I.fresh
 have fresh:∀c,s.heap.objs.size<c->upd H s.heap.objs.size (.lst []) c=none:=λc hc=>by
  rw[Zr (XJ hc)]
  exact I.hok.fresh (Nat.le_of_lt hc)
 have isc:∀n c,(n,c)∈JM (s.heap.objs.size+2) sc.names cl->∃v,(Bp h2 sc.names).IsCell c v:=λn c m=>by
  rcases BC.mem n c m with z|⟨z,_⟩
  ·obtain⟨v,hv⟩:=I.cell n c (hcl n c z).2
   exact⟨v,hv.keeps keep⟩
  ·exact⟨none,z⟩
 have okH:HOk X.prog X.w (upd H s.heap.objs.size (.lst [])) (Bp h2 sc.names):=by
  refine I.hok.laid keep (XQ _) ?_
  exact⟨QZ _,[],0,.nil,hD⟩
 have kinds:∀x k,sc.names.lookup x=some k->(relabel sc X.env).names.lookup x=some (if(k==QL&&X.env.scope.kind== .function&&X.env.kindOf x==some .cell)then JN else k):=λx k e=>Zdl e
 have kindsR:∀x k,(relabel sc X.env).names.lookup x=some k->∃k',(x,k')∈sc.names∧k=(if(k'==QL&&X.env.scope.kind== .function&&X.env.kindOf x==some .cell)then JN else k'):=λx k e=>by
  cases q:sc.names.lookup x with
  | none=>
   have:=Zf5 (env:=X.env) q
   rw[show(relabel sc X.env).names.lookup x=_ from this]at e
   cases e
  | some k'=>
   refine⟨k',JD q,?_⟩
   rw[kinds x k' q]at e
   exact(QB e).symm
 refine⟨⟨I.ok.mod,S.kind,I.ok.glob,I.ok.blt,?_,?_,?_,?_,I.ok.hd,I.ok.frames,.inl rfl,?_,?_,?_,?_,?_,?_,?_⟩,rfl,I.bare,?_,?_,?_,?_,?_,(λp hp=>nomatch hp),okH,?_⟩
 ·show s.heap.objs.size≤s.heap.objs.size+1;omega
 ·intro x y c e1 e2
  exact name_of_addr AP (lk' x c e1) (lk' y c e2)
 ·intro x hx
  rcases hx with hx|hx
  ·obtain⟨k',hm,hk'⟩:=kindsR x _ hx
   cases k' with
   | cell=>
    obtain⟨c,hc⟩:=BC.has x hm
    obtain⟨d,h1,_⟩:=Yu hc
    exact⟨d,h1⟩
   | free=>
    obtain⟨c,hc⟩:=hcl2 _ hm
    obtain⟨d,h1,_⟩:=Yu (BC.old _ hc)
    exact⟨d,h1⟩
   | _=>simp at hk'
  ·obtain⟨k',hm,hk'⟩:=kindsR x _ hx
   cases k' with
   | free=>
    obtain⟨c,hc⟩:=hcl2 _ hm
    obtain⟨d,h1,_⟩:=Yu (BC.old _ hc)
    exact⟨d,h1⟩
   | _=>simp at hk'
 ·intro x c hf e
  have hf':sc.names.lookup x=some .cell:=by simpa [Wh]using hf
  rcases BC.mem x c (lk' x c e)with z|⟨_,z,_⟩
  ·-- a free one and a cell at once: the name stands once
   exfalso
   have q:=S.lk (hcl x c z).1
   rw[hf']at q
   cases q
  ·show s.heap.objs.size≤c;omega
 ·intro b hb
  obtain⟨o,ho⟩:=fo b hb
  have hlt:=Xz ho
  refine⟨Xu (Vd hlt (JV _)),λx c e z=>?_⟩
  rcases BC.mem x c (lk' x c e)with q|⟨_,q,_⟩
  ·exact(f b hb).2.2.2.2.1 x c (hcl x c q).2 z
  ·subst z
   exact absurd hlt (Nat.not_lt.mpr (Qg (Bk _ 2) q))
 ·exact I.bs
 ·exact Qg I.ok.bsz I.sz
 ·intro b o e hb
  rcases(f b hb).2.2.2.1 with z|z
  ·exact I.ok.noex b o e z
  ·exact absurd (X6 (Xz e) I.ok.bsz) (Nat.not_lt.mpr z)
 ·intro b hb z
  rcases Xo.mp (I.stkSub b z)with q|q
  ·exact(f b hb).2.1 q
  ·exact(f b hb).2.2.1 q
 ·exact I.stack
 ·exact I.stkFree
 ·exact Un.laid keep (XQ _) hnD
 ·refine⟨_,hC,λi x v e1 e2 e3=>?_⟩
  have e1':(own ++ caps.map λi=>X.N.getD i Str.empty)[i]? =some x:=by rw[←S.names];exact e1
  have e2':(own.map (λ_=>(none:Option V)) ++ caps.map λi=>(σ[i]?).getD none)[i]? =some (some v):=e2
  by_cases hi:i<own.length
  ·rw[Bq (by simpa using hi),Xk]at e2'
   cases q:own[i]? with
   | none=>rw[q]at e2';cases e2'
   | some y=>rw[q]at e2';cases e2'
  ·rw[JF (by simpa using hi),Xk]at e2'
   rw[JF (by omega),Xk]at e1'
   rw[Xe]at e2'
   cases q:caps[i-own.length]? with
   | none=>rw[q]at e2';cases e2'
   | some j=>
    rw[q]at e1' e2'
    have e1:X.N.getD j Str.empty=x:=QB e1'
    have e2:(σ[j]?).getD none=some v:=QB e2'
    have e4:σ[j]? =some (some v):=by
     cases r:σ[j]? with
     | none=>rw[r]at e2;cases e2
     | some o=>rw[r]at e2;exact congrArg some e2
    have hj:j<X.N.length:=by rw[←I.len];exact(Xg.mp e4).1
    have e5:X.N[j]? =some x:=by rw[←e1];simp[Xi,hj]
    have hc:=BP.mp S.caps j (X5 q)
    have e6:sc.names.lookup x=some .free:=by rw[←e1];simpa using hc
    have hm:=JD e6
    have kx:=S.fr hm
    obtain⟨m,hn,hl⟩:=I.loc
    obtain⟨u,ru,lo⟩:=hl j x v e5 e4 (by rcases kx with z|z;exact .inr (.inl z);exact .inr (.inr z))
    refine⟨u,ru,.inr ⟨?_,?_⟩⟩
    ·have:=kinds x _ e6
     show(relabel sc X.env).names.lookup x=_∨(relabel sc X.env).names.lookup x=_
     rw[this]
     split
     ·exact .inl rfl
     ·exact .inr rfl
    ·rcases lo with⟨z,_⟩|⟨_,c,hc1,hc2⟩
     ·rcases kx with w|w<;>(rw[w]at z;cases z)
     ·obtain⟨d,hd⟩:=hcl2 x hm
      obtain⟨d',h1,h2⟩:=Yu (BC.old _ hd)
      refine⟨d',h1,?_⟩
      rcases BC.mem x d' h2 with w|⟨_,_,w⟩
      ·have w':=(hcl x d' w).2
       rw[hc1]at w'
       cases w'
       exact hc2.keeps keep
      ·have:=S.lk w
       rw[e6]at this
       cases this
 ·intro x c e
  exact isc x c (lk' x c e)
 ·exact fresh _ (JV _)
 ·intro x c e
  rcases BC.mem x c (lk' x c e)with z|⟨_,z,_⟩
  ·have e':=(hcl x c z).2
   have hlt:=cellOld x c e'
   rw[Zr (Xu hlt)]
   exact I.freeC x c e'
  ·exact fresh c (by omega)
 ·show(Zac own caps σ).length=N'.length
  rw[S.names]
  unfold Zac
  simp
end
noncomputable def Zvh(J:It)(g:TG)(tt:TT)(te:TE)(σ0:St)(D:Addr)(Q:Hp->Prop)(H1:Hp):Prop :=
 ∃W:Nat->Nat->St->Hp->Prop,(∃m,W 0 m σ0 (upd H1 D (.lst [])))∧∀i m σ' H',W i m σ' H' ->
  (J.stop i H'∧Q H')∨(J.go i H'∧∀x H2,J.yld i H' x H2->g x σ' H2 λσ2 H3=>tt σ2 H3 λb H4=>
   if b=true then te σ2 H4 λy H5=>∃ys,H5 D=some (.lst ys)∧ys.length<Xr∧∃m',m'<m∧W (i+1) m' σ2 (upd H5 D (.lst (ys ++ [y])))
   else∃m',m'<m∧W (i+1) m' σ2 H4)
noncomputable def Zu1(own:List Str)(caps:List Nat)(wi:TI)(g:TG)(tt:TT)(te:TE):TE:=λσ H Q=>wi σ H λJ H1=>∀D,H1 D=none->Zvh J g tt te (Zac own caps σ) D (Q (.ref D)) H1
noncomputable def Z6z:TT:=λ_ H Q=>Q true H
noncomputable def Zy9(X:Cx)(ifs:List Expr)(t:TT):Prop :=
 ∀(pins:List (Addr×Obj)) (s:Xd) (σ:St) (H:Hp) (Q:Bool->Hp->Prop),Inv X pins σ H s->t σ H Q ->
  XR (X7 X.prog X.w) X.A (forIn ifs true λc r=>if r=true then do let ok←isTrue c X.env (eval c X.env);pure (JB ok)else pure (JB r)) (TP X pins σ Q) X.xe s
theorem Zrg{X:Cx}:Zy9 X [] Z6z:=λpins s σ H Q I h=>by
 rw[Uj]
 exact X8 ⟨H,I,h⟩
theorem Z1q{X:Cx}{c:Expr}{t:TT}(h:PT X c t):Zy9 X [c] t:=λpins s σ H Q I q=>wpAny_tests_one (h pins s σ H Q I q)
theorem Z1t{M:Model}{A:Qm}{α:Type}{t:Sem α}{Q Q':α->Xd->Prop}{E:Xc->Xd->Prop}{s:Xd}(h:XR M A t Q (λ_ _=>False) s)(hQ:∀a s,Q a s->Q' a s):XR M A t Q' E s :=
 BR h hQ λ_ _ z=>z.elim
section
variable {X:Cx}{own:List Str}{caps:List Nat}{N':List Str}{sc:V8}{tg elt iter:Expr}{ifs:List Expr}{pos:Pos}{wi:TI}{g:TG}{tt:TT}{te:TE}
theorem Zn3{pins p':List (Addr×Obj)}{σ σ':St}{H H':Hp}{s s':Xd}{fp:List Addr}{C:Addr}{cells:List (Str×Addr)}{h':Heap}(I:Inv X pins σ H s)(f:∀b∈fp,Zjb X pins H b)
  (I':Inv (Wh X N' sc C cells s H fp) p' σ' H' s') (hs:Vq C s'.heap h'):Inv X pins σ H' { s' with heap:=h' }:=by
 have hC:s.heap.objs.size≤C:=I'.ok.above
 have B:=I'.base
 have ne:∀b o,s.heap.get? b=some o->b≠C:=λb o e=>Xu (X6 (Xz e) hC)
 obtain⟨m,⟨oC,_,_,hoC,_⟩,_⟩:=I'.loc
 refine I.call' (ch:=fp) (s':={ s' with heap:=h' }) I'.os ⟨λb o e n hb hx=>?_,λb o e n hb hx=>?_,B.free,λb o e hx=>?_,B.tups,B.frzs,B.tbls⟩ (λb ob e=>?_) I'.bare λb hb=>?_
 ·exact(hs.2 b (ne b o e)).trans (B.keep b o e n hb hx)
 ·obtain⟨sl,q⟩:=B.slot b o e n hb hx
  exact⟨sl,(hs.2 b (ne b o e)).trans q⟩
 ·obtain⟨o',q⟩:=B.there b o e hx
  exact⟨o',(hs.2 b (ne b o e)).trans q⟩
 ·have hfree:H' C=none:=I'.free
  refine(I'.hok b ob e).stay (λc w' hc q=>(hs.2 c ?_).trans q) (λ_ q=>q) λ_ _ q=>q
  rintro rfl
  rcases hc with rfl|hc
  ·rw[hfree]at e;cases e
  ·rw[hfree]at hc;cases hc
 ·obtain⟨_,f1,_,f3,f4,f5⟩:=f b hb
  exact⟨f3,f1,f4,f5⟩
theorem Zi0{Qf:Result->Xd->Prop}(S:CompScope X own caps N' sc)(hc:X.calm=true)
  (hg:∀C cells s₂ H₂ fp,PG (Wh X N' sc C cells s₂ H₂ fp) tg g) (ht:∀C cells s₂ H₂ fp,Zy9 (Wh X N' sc C cells s₂ H₂ fp) ifs tt) (he:∀C cells s₂ H₂ fp,PE (Wh X N' sc C cells s₂ H₂ fp) elt te)
  {pins:List (Addr×Obj)} {σ:St} {H:Hp} {s:Xd} {fp:List Addr} {it:Addr} {tn:Nat->Heap->Prop} {J:It} {Q:Hp->Prop} (I:Inv X pins σ H s) (T:Turn X.prog X.w X.K tg J fp it tn) (st:tn 0 s.heap) (f:∀b∈fp,Zjb X pins H b)
  (h:Zvh J g tt te (Zac own caps σ) s.heap.objs.size Q H)
  (fin:∀s' σ' H' p' C cells,Inv (Wh X N' sc C cells s H fp) p' σ' H' s'->C=s.heap.objs.size+1->Q H'->Qf (.ok .next) s') :
  XR (X7 X.prog X.w) X.A (newFunctionEnv sc X.env.globals (Zh4 X.env sc.names []) [] X.env.qual none .none (some X.env)) (λcenv s₄=>
   cenv.locals=s.heap.objs.size+1∧codeAny (X7 X.prog X.w) X.A (.compStart (.ListComp elt [⟨tg,iter,ifs,0⟩] sc pos) 0 (.ref it) (.ref s.heap.objs.size) { cenv with scope:=relabel sc X.env }) Qf s₄) X.xe
    { s with heap:=s.heap.push { cls:=.type "list",data:=.seq #[] } }:=by
 have hf:∀y∈sc.names,y.2= .free->∃c,X.env.cells.lookup y.1=some c:=λy hy e=>by
  obtain⟨n,k⟩:=y
  have e':k= .free:=e
  subst e'
  exact I.ok.has n (S.fr hy)
 have hcl:∀n c,(n,c)∈Zh4 X.env sc.names []->(n,QL)∈sc.names∧X.env.cells.lookup n=some c:=λn c m=>(Zj4 sc.names [] hf n c m).elim (λz=>nomatch z) id
 have hap:=Zfu I.ok.inj sc.names [] hf S.nn (λ_ z=>nomatch z) (λ_ z=>nomatch z) .nil
 have I0:=Zpm (cl:=Zh4 X.env sc.names []) S I f (λb hb=>let⟨o,e,_⟩:=T.obj _ _ st b hb;⟨o,e⟩) hcl (λn m=>Zkj sc.names [] n m) hap
 refine Zh6 ?_
 rw[show({ s with heap:=s.heap.push { cls:=.type "list",data:=.seq #[] } }:Xd).heap.objs.size=s.heap.objs.size+1 from QX ..]
 refine⟨rfl,?_⟩
 dsimp only
 generalize hs0:({ s with heap:=Bp ((s.heap.push { cls:=.type "list",data:=.seq #[] }).push { cls:=.type "dict",data:=.dict #[] }) sc.names }:Xd)=s0 at I0⊢
 have st0:tn 0 s0.heap:=T.keep _ _ _ st λb hb o e=>by
  rw[←hs0]
  exact Ul _ _ _ _ (Xm _ (Xm _ e))
 generalize hcells:JM (s.heap.objs.size+1+1) sc.names (Zh4 X.env sc.names [])=cells at I0⊢
 -- the loop
 obtain⟨W,⟨m0,w0⟩,turn⟩:=h
 have loop:codeAny (X7 X.prog X.w) X.A (.compLoop (.ListComp elt [⟨tg,iter,ifs,0⟩] sc pos) 0 (.ref it) (.ref s.heap.objs.size) (Wh X N' sc (s.heap.objs.size+1) cells s H fp).env) Qf s0:=by
  generalize hX':Wh X N' sc (s.heap.objs.size+1) cells s H fp=X' at I0⊢
  have hg':=hg (s.heap.objs.size+1) cells s H fp
  have ht':=ht (s.heap.objs.size+1) cells s H fp
  have he':=he (s.heap.objs.size+1) cells s H fp
  have fin':=λs' σ' H' p' (z:Inv (Wh X N' sc (s.heap.objs.size+1) cells s H fp) p' σ' H' s')=>fin s' σ' H' p' _ _ z rfl
  rw[hX']at hg' ht' he' fin'
  have hxe:X'.xe= λ_ _=>False:=by rw[←hX'];rfl
  have hpr:X'.prog=X.prog:=by rw[←hX'];rfl
  have hw:X'.w=X.w:=by rw[←hX'];rfl
  have hK:X'.K=X.K:=by rw[←hX'];rfl
  have hA:X'.A=X.A:=by rw[←hX'];rfl
  have hcm:X'.calm=true:=by rw[←hX'];exact hc
  have hex:X'.ex=fp:=by rw[←hX'];rfl
  have hpn:X'.pn=[]:=by rw[←hX'];rfl
  have stat:∀{H':Hp},(∀b∈fp,H' b=none)->∀b∈fp,Zjb X' [] H' b:=λhn b hb=>by
   have e1:=I0.ok.exf b (by rw[hex];exact hb)
   have e2:=I0.ok.exfs b (by rw[hex];exact hb)
   exact⟨hn b hb,e1.1,e2,.inl (by rw[hex];exact hb),e1.2,λp hp=>by rw[hpn]at hp;exact nomatch hp⟩
  have frD:∀b∈fp,(upd H s.heap.objs.size (.lst [])) b=none:=λb hb=>by
   obtain⟨o,e,_⟩:=T.obj _ _ st b hb
   rw[Zr (Xu (Xz e))]
   exact(f b hb).1
  have T':Turn X'.prog X'.w X'.K tg J fp it tn:=by rw[hpr,hw,hK];exact T
  rw[←hpr,←hw,←hA]
  refine Zl5 (λn s'=>∃i σ' H',Inv X' [] σ' H' s'∧tn i s'.heap∧(∀b∈fp,H' b=none)∧W i n σ' H') ?_ m0 ⟨0,_,_,I0,st0,frD,w0⟩
  rintro n s3 ⟨i,σ3,H3,I3,st3,fr3,w3⟩
  rcases turn i n σ3 H3 w3 with⟨stop,qn⟩|⟨go,step⟩
  ·refine Z1t (T'.done X' rfl rfl rfl hcm i [] s3 σ3 H3 _ I3 (stat fr3) st3 stop) λr s4 qz9=>?_
   obtain⟨hr,I4⟩:=qz9
   subst hr
   exact fin' s4 σ3 H3 [] I4 qn
  ·refine Z1t (T'.item X' rfl rfl rfl hcm i [] s3 σ3 H3 _ I3 (stat fr3) st3 go) λr s4 qz9=>?_
   obtain⟨u,hr,h4⟩:=qz9
   subst hr
   refine Z1t h4 λ_ s5 qz9=>?_
   obtain⟨x,H5,I5,r5,y5,st5,fr5⟩:=qz9
   have I5':=I5.pinned (stat fr5) (T.obj _ _ st5)
   have hgg:=hg' _ s5 σ3 H5 x u _ I5' r5 (step x H5 y5)
   rw[hxe]at hgg
   refine Z1t hgg λ_ s6 qz9=>?_
   obtain⟨σ6,H6,I6,q6⟩:=qz9
   have htt:=ht' _ s6 σ6 H6 _ I6 q6
   rw[hxe]at htt
   refine Z1t htt λok s7 qz9=>?_
   obtain⟨H7,I7,q7⟩:=qz9
   have again:∀{σ7:St} {H7:Hp} {s7:Xd} {m:Nat},Inv X' ([] ++ Zlo fp s5.heap) σ7 H7 s7->W (i+1) m σ7 H7->m<n->∃m,m<n∧∃i σ' H',Inv X' [] σ' H' s7∧tn i s7.heap∧(∀b∈fp,H' b=none)∧W i m σ' H':=fun{σ7 H7 s7 m} I7 w7 hm=>by
    refine⟨m,hm,i+1,σ7,H7,I7.unpinned,T.keep _ _ _ st5 λb hb o e=>(I7.pin (b,o) (Qk _ (Qk _ (Zdb hb e)))).1,λb hb=>?_,w7⟩
    obtain⟨o,e,d⟩:=T.obj _ _ st5 b hb
    exact(I7.pin (b,o) (Qk _ (Qk _ (Zdb hb e)))).2.1
   cases ok with
   | false=>
    obtain⟨m',hm,w7⟩:=q7
    rw[if_neg XC]
    exact again I7 w7 hm
   | true=>
    rw[if_pos rfl]
    have hee:=he' _ s7 σ6 H7 _ I7 q7
    rw[hxe]at hee
    refine Z1t hee λy s8 qz9=>?_
    obtain⟨vy,H8,I8,r8,ys,hD,hlen,m',hm,w8⟩:=qz9
    have hap:=Zed (X:=X') _ s8 σ6 H8 (.ref s.heap.objs.size) [vy] (.ref s.heap.objs.size) [y] (λ_ H'=>W (i+1) m' σ6 H') I8 rfl (.cons r8 .nil) ⟨_,ys,vy,rfl,rfl,hD,hlen,w8⟩
    rw[hxe]at hap
    refine Z1t hap λz s9 qz9=>?_
    obtain⟨_,H9,I9,_,w9⟩:=qz9
    exact again I9 w9 hm
 exact codeAny_compStart_list loop (T.self _ 0 _ _ _ st0 loop)
theorem Zqs(S:CompScope X own caps N' sc)(hc:X.calm=true)(hi:PI X tg iter wi)
  (hg:∀C cells s₂ H₂ fp,PG (Wh X N' sc C cells s₂ H₂ fp) tg g) (ht:∀C cells s₂ H₂ fp,Zy9 (Wh X N' sc C cells s₂ H₂ fp) ifs tt) (he:∀C cells s₂ H₂ fp,PE (Wh X N' sc C cells s₂ H₂ fp) elt te)
  (hs:∀x,Bf iter X.env x=pure x:=by intro _;rfl):PE X (.ListComp elt [⟨tg,iter,ifs,0⟩] sc pos) (Zu1 own caps wi g tt te):=by
 intro pins s σ H Q I h
 rw[eval_ListComp]
 have hf:∀y∈sc.names,y.2= .free->∃c,X.env.cells.lookup y.1=some c:=λy hy e=>by
  obtain⟨n,k⟩:=y
  have e':k= .free:=e
  subst e'
  exact I.ok.has n (S.fr hy)
 refine wpAny_comprehension_free (use:=none) rfl hs (Zdj hf) S.kind (λy hy e=>by obtain⟨n,k⟩:=y;have e':k= .local:=e;subst e';exact S.lk hy) ?_
 refine thn (hi pins s σ H _ I h) λv s1 h1=>thn h1 λitv s2 h2=>?_
 obtain⟨it,fp,tn,J,H2,e,I2,T,st2,f2,q⟩:=h2
 subst e
 refine wpAny_newObj_type ?_
 refine thn (Zi0 (iter:=iter) (pos:=pos) (Qf:=compPost (X7 X.prog X.w) X.A X.xe none (EP X pins σ Q) (.ref s2.heap.objs.size) (s2.heap.objs.size+1)) S hc hg ht he I2 T st2 f2 (q s2.heap.objs.size I2.fresh) ?_) λcenv s4 ⟨hl,hr⟩=>?_
 ·intro s' σ' H' p' C cells I' eC q'
  subst eC
  obtain⟨m,hn,_⟩:=id I'.loc
  exact⟨m,hn,λh' hs'=>⟨.ref s2.heap.objs.size,H',Zn3 I2 f2 I' hs',rfl,q'⟩⟩
 ·rw[←hl]at hr
  exact hr
end
section
variable {X:Cx}{own:List Str}{caps:List Nat}{N':List Str}{sc:V8}{tg elt iter:Expr}{ifs:List Expr}{pos:Pos}{wi:TI}{g:TG}{tt:TT}{te:TE}
theorem Zpr{i:Nat}{y:Str}{py spos:Pos}(hN:X.N.Nodup)(hy:X.N[i]? =some y)(hx:Loc X.env.scope y)(S:CompScope X own caps N' sc)(hc:X.calm=true)(hi:PI X tg iter wi)
  (hg:∀C cells s₂ H₂ fp,PG (Wh X N' sc C cells s₂ H₂ fp) tg g) (ht:∀C cells s₂ H₂ fp,Zy9 (Wh X N' sc C cells s₂ H₂ fp) ifs tt) (he:∀C cells s₂ H₂ fp,PE (Wh X N' sc C cells s₂ H₂ fp) elt te)
  (hsw:Vm (.ListComp elt [⟨tg,iter,ifs,0⟩] sc pos) (some (.Name y py)) spos.line X.env=pure true:=by rfl)
  (hs:∀x,Bf iter X.env x=pure x:=by intro _;rfl) (hf:X.fn y=true∨X.env.scope.names.lookup y=some .local:=by first|exact .inl rfl|exact .inr rfl|assumption) :
  PS X (.Assign [.Name y py] (.ListComp elt [⟨tg,iter,ifs,0⟩] sc pos) spos) (Z3b (Zu1 own caps wi g tt te) (Zpx i)):=by
 intro pins s σ H D I h
 have hfr:∀y∈sc.names,y.2= .free->∃c,X.env.cells.lookup y.1=some c:=λy hy e=>by
  obtain⟨n,k⟩:=y
  have e':k= .free:=e
  subst e'
  exact I.ok.has n (S.fr hy)
 rw[exec_Assign_Name_used _ _ _ _ hsw]
 refine Xf (wpAny_standAt (Xf ?_))
 show XR _ X.A (do let _←comprehension (.ListComp elt [⟨tg,iter,ifs,0⟩] sc pos) sc X.env _ (newList []) false (eval iter X.env) (some (V2 (.Name y py) X.env))) _ _ s
 refine Xf (BR (wpAny_comprehension_free (use:=some (V2 (.Name y py) X.env)) (Q:=λ_ s'=>SP X pins D .next s') rfl hs (Zdj hfr) S.kind (λy hy e=>by obtain⟨n,k⟩:=y;have e':k= .local:=e;subst e';exact S.lk hy) ?_) (λ_ s' hq=>X8 (X8 hq)) λ_ _ e=>e)
 refine thn (hi pins s σ H _ I h) λv s1 h1=>thn h1 λitv s2 h2=>?_
 obtain⟨it,fp,tn,J,H2,e,I2,T,st2,f2,q⟩:=h2
 subst e
 refine wpAny_newObj_type ?_
 refine thn (Zi0 (iter:=iter) (pos:=pos) (Qf:=compPost (X7 X.prog X.w) X.A X.xe (some (V2 (.Name y py) X.env)) (λ_ s'=>SP X pins D .next s') (.ref s2.heap.objs.size) (s2.heap.objs.size+1)) S hc hg ht he I2 T st2 f2 (q s2.heap.objs.size I2.fresh) ?_) λcenv s4 ⟨hl,hr⟩=>?_
 ·intro s' σ' H' p' C cells I' eC q'
  subst eC
  obtain⟨m,hn,_⟩:=id I'.loc
  have I3:Inv X pins σ H' s':=Zn3 I2 f2 I' (.refl ..)
  show XR _ X.A (V2 (.Name y py) X.env (.ref s2.heap.objs.size)) _ _ s'
  refine wpAny_assign_Name (Zli (v:=.ref s2.heap.objs.size) I3 hN hy hx rfl (λs5 I5 hsb=>?_) hf)
  have hC:s2.heap.objs.size<s2.heap.objs.size+1:=JV _
  have ltL:X.env.locals<s2.heap.objs.size:=I2.lt
  have ltC:∀x c,X.env.cells.lookup x=some c->c<s2.heap.objs.size:=λx c e=>by
   obtain⟨w',z⟩:=I2.cell x c e
   exact z.lt
  refine⟨m,?_,λh' hs'=>⟨σ.set i (some (.ref s2.heap.objs.size)),H',?_,q'⟩⟩
  ·obtain⟨a,hsa,ha⟩:=hsb
   refine hn.sameBut hsa ?_
   rcases ha with ha|ha
   ·rw[ha];exact XJ (Vd ltL hC)
   ·exact XJ (Vd (ltC _ _ ha) hC)
  ·refine I5.turned (t':=s5.toks) (it:=s2.heap.objs.size+1) (λb o hb e=>(hs'.2 b hb).trans e) I'.free (XJ (Vd ltL hC)) (.inr (Qg I2.sz (Nat.le_of_lt hC))) (λx c e=>Xu (Vd (ltC x c e) hC)) λp hp=>?_
   obtain⟨e,_⟩:=I2.pin p hp
   exact Xu (Vd (Xz e) hC)
 ·rw[←hl]at hr
  exact hr
end
section
variable (n:Nat)(D:Addr)(Pv:Nat->List V->St->Hp->Prop)
noncomputable def CW(i m:Nat)(σ:St)(H:Hp):Prop:=m=n-i∧i≤n∧∃ys,H D=some (.lst ys)∧ys.length≤i∧Pv i ys σ H
noncomputable def cPut(i:Nat)(σ:St)(y:V)(H:Hp):Prop:=∃ys,H D=some (.lst ys)∧ys.length<Xr∧∃m',m'<n-i∧CW n D Pv (i+1) m' σ (upd H D (.lst (ys ++ [y])))
noncomputable def Ya2(i:Nat)(σ:St)(H:Hp):Prop:=∃m',m'<n-i∧CW n D Pv (i+1) m' σ H
variable {n D Pv}
theorem cPut.of{i:Nat}{σ:St}{y:V}{H:Hp}{ys:List V}(hi:i<n)(hl:ys.length≤i)(hn:n≤Xr)(h:H D=some (.lst ys))(p:Pv (i+1) (ys ++ [y]) σ (upd H D (.lst (ys ++ [y])))):cPut n D Pv i σ y H :=
 ⟨ys,h,by omega,n-(i+1),by omega,rfl,hi,ys ++ [y],Zx,by rw[Qy];show ys.length+1≤i+1;omega,p⟩
theorem Zqx{K:Xb}{a:Addr}{xs:List V}{g:TG}{tt:TT}{te:TE}{σ0:St}{Q:Hp->Prop}{H1:Hp}(Pv:Nat->List V->St->Hp->Prop)(h0:Pv 0 [] σ0 (upd H1 D (.lst [])))
  (hl:∀i ys σ H,i≤xs.length->Pv i ys σ H->SqL K H a xs)
  (hs:∀i x ys σ H,xs[i]? =some x->i<xs.length->ys.length≤i->H D=some (.lst ys)->Pv i ys σ H->g x σ H λσ2 H3=>tt σ2 H3 λb H4=>if b=true then te σ2 H4 (cPut xs.length D Pv i σ2)else Ya2 xs.length D Pv i σ2 H4)
  (hd:∀ys σ H,H D=some (.lst ys)->ys.length≤xs.length->Pv xs.length ys σ H->Q H):Zvh (Itl K a) g tt te σ0 D Q H1:=by
 refine⟨CW xs.length D Pv,⟨xs.length,by simp,QZ _,[],Zx,XQ _,h0⟩,?_⟩
 rintro i m σ H ⟨rfl,hi,ys,hD,hle,p⟩
 have q:=hl i ys σ H hi p
 by_cases hlt:i<xs.length
 ·refine .inr ⟨⟨xs,xs[i],q,by simp[hlt]⟩,λx H' y=>?_⟩
  obtain⟨e,y⟩:=y
  subst e
  exact hs i x ys σ _ (y xs q) hlt hle hD p
 ·have e:i=xs.length:=by omega
  subst e
  exact .inl ⟨⟨xs,q,XQ _⟩,hd ys σ H hD hle p⟩
end
mutual
inductive Is(H:Hp)(L:Addr->Prop):V->Xa->Prop where
 | non:Is H L .non .none
 | bl (b:Bool):Is H L (.bl b) (.bool b)
 | int (i:Int):Is H L (.int i) (.int i)
 | str (x:Str):Is H L (.str x) (.str x)
 | lst {a:Addr} {xs:List V} {ds:List Xa}:L a->H a=some (.lst xs)->IsAll H L xs ds->Is H L (.ref a) (.list ds)
 | tup {a:Addr} {xs:List V} {ds:List Xa}:H a=some (.tup xs)->IsAll H L xs ds->Is H L (.ref a) (.tuple ds)
inductive IsAll(H:Hp)(L:Addr->Prop):List V->List Xa->Prop where
 | nil:IsAll H L [] []
 | cons {x:V} {xs:List V} {d:Xa} {ds:List Xa}:Is H L x d->IsAll H L xs ds->IsAll H L (x :: xs) (d :: ds)
end
section
variable {H H':Hp}{L L':Addr->Prop}
theorem IsAll.ind{Q:List V->List Xa->Prop}(n:Q [] [])(c:∀{x:V} {xs:List V} {d:Xa} {ds:List Xa},Is H L x d->IsAll H L xs ds->Q xs ds->Q (x :: xs) (d :: ds)):∀{xs ds},IsAll H L xs ds->Q xs ds:=λh=>
 IsAll.rec (motive_1:=λ_ _ _=>True) (motive_2:=λxs ds _=>Q xs ds) trivial (λ_=>trivial) (λ_=>trivial) (λ_=>trivial) (λ_ _ _ _=>trivial) (λ_ _ _=>trivial) n (λp q _ r=>c p q r) h
theorem IsAll.length{xs:List V}{ds:List Xa}(h:IsAll H L xs ds):xs.length=ds.length:=IsAll.ind (Q:=λxs ds=>xs.length=ds.length) rfl (λ_ _ r=>congrArg (·+1) r) h
theorem IsAll.append{xs ys:List V}{ds es:List Xa}(h:IsAll H L xs ds)(k:IsAll H L ys es):IsAll H L (xs ++ ys) (ds ++ es):=IsAll.ind (Q:=λxs ds=>IsAll H L (xs ++ ys) (ds ++ es)) k (λh _ r=>.cons h r) h
theorem IsAll.snoc{xs:List V}{ds:List Xa}{x:V}{d:Xa}(h:IsAll H L xs ds)(k:Is H L x d):IsAll H L (xs ++ [x]) (ds ++ [d]):=h.append (.cons k .nil)
theorem IsAll.set{xs:List V}{ds:List Xa}{x:V}{d:Xa}(i:Nat)(h:IsAll H L xs ds)(k:Is H L x d):IsAll H L (xs.set i x) (ds.set i d) :=
 IsAll.ind (Q:=λxs ds=>∀i,IsAll H L (xs.set i x) (ds.set i d)) (λ_=>.nil) (λh q r i=>Nat.casesOn i (.cons k q) λi=>.cons h (r i)) h i
end
section
variable {X:Cx}{pins:List (Addr×Obj)}{σ:St}{H:Hp}{s:Xd}{L L':Addr->Prop}
end
noncomputable abbrev Shp(d:Xa):Prop:=VF d=true
section
variable {X:Cx}
end
mutual
noncomputable def Yp:Xa->Bool
 | .none=>true
 | .int _=>true
 | .str _=>true
 | .list ds=>J2 ds
 | .tuple ds=>J2 ds
 | _=>false
noncomputable def J2:List Xa->Bool
 | []=>true
 | d :: ds=>Yp d&&J2 ds
end
mutual
theorem Znr:∀(d e:Xa),Yp d=true->Yp e=true->(Q3 d e=true↔d=e)
 | .none,e,_,he=>by cases e<;>simp_all [Q3,Yp]
 | .int i,e,_,he=>by cases e<;>simp_all [Q3,Yp]
 | .str i,e,_,he=>by cases e<;>simp_all [Q3,Yp]
 | .list ds,e,hd,he=>by
  cases e with
  | list es=>
   rw[Yp]at hd he
   rw[Q3,QC.injEq]
   exact Zfp ds es hd he
  | _=>simp_all [Q3,Yp]
 | .tuple ds,e,hd,he=>by
  cases e with
  | tuple es=>
   rw[Yp]at hd he
   rw[Q3,PyData.tuple.injEq]
   exact Zfp ds es hd he
  | _=>simp_all [Q3,Yp]
 | .bool b,e,hd,_=>by simp[Yp]at hd
 | .dict b,e,hd,_=>by simp[Yp]at hd
theorem Zfp:∀(ds es:List Xa),J2 ds=true->J2 es=true->(Uw ds es=true↔ds=es)
 | [],[],_,_=>by simp[Uw]
 | [],_ :: _,_,_=>by simp[Uw]
 | _ :: _,[],_,_=>by simp[Uw]
 | d :: ds,e :: es,hd,he=>by
  rw[J2,XN]at hd he
  rw[Uw,XN,Znr d e hd.1 he.1,Zfp ds es hd.2 he.2,List.cons.injEq]
end
theorem Zxj{d e:Xa}(h:Yp d=true)(k:Yp e=true)(q:d=e):Q3 d e=true:=(Znr d e h k).mpr q
theorem Z3m{d e:Xa}(h:Yp d=true)(k:Yp e=true)(q:d≠e):Q3 d e=false:=UL.mpr λz=>q ((Znr d e h k).mp z)
noncomputable def fr(a b:Int):Xa:=.tuple [.int a,.int b]
theorem Zvl(a b:Int):Yp (fr a b)=true:=rfl
theorem Zee{t b:Int}(hb:b≠0):0<(JK t b:Int):=by
 have:=Int.gcd_pos_of_ne_zero_right t hb
 omega
theorem Jc{t g:Int}(hg:0<g):t.fdiv g=t/g:=Int.fdiv_eq_ediv_of_nonneg t (by omega)
theorem Zc1{t g:Int}(hg:0<g)(h:g∣t):t.fdiv (-g)= -(t/g):=by
 obtain⟨k,rfl⟩:=h
 rw[Int.mul_ediv_cancel_left _ (by omega)]
 have e:g*k=(-k)*(-g):=by rw[Int.neg_mul_neg,Int.mul_comm]
 rw[e,Int.mul_fdiv_cancel _ (by omega)]
noncomputable def shr(t b:Int):Int:=if b<0 then -(JK t b:Int)else(JK t b:Int)
theorem Z05{t b:Int}(hb:b≠0):t.fdiv (shr t b)=(Xv t b).num:=by
 have hg:=Zee (t:=t) hb
 have hd:(JK t b:Int)∣t:=Int.gcd_dvd_left ..
 rw[Rat.num_divInt,Int.gcd_comm b t]
 unfold shr
 by_cases h:b<0
 ·rw[if_pos h,Zc1 hg hd,Int.sign_eq_neg_one_of_neg h,Int.neg_one_mul,Int.neg_ediv_of_dvd hd]
 ·rw[if_neg h,Jc hg,Int.sign_eq_one_of_pos (by omega),Int.one_mul]
theorem Z1c{t b:Int}(hb:b≠0):b.fdiv (shr t b)=((Xv t b).den:Int):=by
 have hg:=Zee (t:=t) hb
 have hd:(JK t b:Int)∣b:=Int.gcd_dvd_right ..
 rw[Rat.den_divInt,if_neg hb,Int.gcd_comm b t]
 unfold shr
 by_cases h:b<0
 ·have e:(b.natAbs:Int)= -b:=by omega
  rw[if_pos h,Zc1 hg hd,Int.natCast_ediv,e,Int.neg_ediv_of_dvd hd]
 ·have e:(b.natAbs:Int)=b:=by omega
  rw[if_neg h,Jc hg,Int.natCast_ediv,e]
theorem Zwp{t b:Int}(hb:b≠0):shr t b≠0:=by
 have hg:=Zee (t:=t) hb
 unfold shr
 split<;>omega
theorem Zv7{n:Nat}{t b:Int}(hb:b≠0)(h:Bt n b):Bt n (shr t b):=by
 have h1:Bt n (JK t b:Int):=by
  refine Bt.of_le h ?_
  have:=Int.gcd_le_natAbs_right t hb
  omega
 unfold shr
 split
 ·exact h1.neg
 ·exact h1
theorem Zkw{n:Nat}{t b:Int}(hb:b≠0)(h:Bt n t):Bt n (Xv t b).num:=by
 rw[Rat.num_divInt]
 refine Bt.of_le h ?_
 refine Qg (Vt _ _) ?_
 rw[Int.natAbs_mul]
 have:b.sign.natAbs≤1:=by
  rw[Int.natAbs_sign]
  split<;>omega
 calc b.sign.natAbs*t.natAbs≤1*t.natAbs:=Nat.mul_le_mul_right _ this
  _=t.natAbs:=Nat.one_mul _
theorem Zs0{n:Nat}{t b:Int}(hb:b≠0)(h:Bt n b):Bt n ((Xv t b).den:Int):=by
 rw[Rat.den_divInt,if_neg hb]
 refine Bt.of_le h ?_
 show((b.natAbs/b.gcd t:Nat):Int).natAbs≤_
 rw[Us]
 exact Nat.div_le_self _ _
theorem Zqf(q:Rat):(q.den:Int)≠0:=by
 have:=q.den_pos
 omega
theorem J4(q:Rat):(0:Int)<(q.den:Int):=by
 have:=q.den_pos
 omega
theorem Zob(q r:Rat):Xv (q.num*(r.den:Int)+r.num*(q.den:Int)) ((q.den:Int)*(r.den:Int))=q+r:=by
 rw[Rat.add_def',←Int.natCast_mul,Rat.divInt_ofNat]
theorem Zri(q r:Rat):Xv (q.num*(r.den:Int)-r.num*(q.den:Int)) ((q.den:Int)*(r.den:Int))=q-r:=by
 rw[Rat.sub_def',←Int.natCast_mul,Rat.divInt_ofNat]
theorem Zr8(q r:Rat):q.num*(r.den:Int)<r.num*(q.den:Int)↔q<r:=(Rat.lt_iff q r).symm
noncomputable def frD(q:Rat):Xa:=fr q.num (q.den:Int)
noncomputable def BQ(n:Nat)(q:Rat):Prop:=Bt n q.num∧Bt n (q.den:Int)
theorem BQ.mono{m n:Nat}{q:Rat}(h:BQ m q)(k:m≤n):BQ n q:=⟨h.1.mono k,h.2.mono k⟩
theorem BQ.zero:BQ 1 0:=⟨by unfold Bt;decide,by unfold Bt;decide⟩
section
variable {X:Cx}{K:Xb}{a b o e:Expr}{ta tb tl to:TE}{pos:Pos}
theorem Zoi(hK:X.K=K):IxR X (Yab K):=hK▸Zqt
theorem Z0b(hK:X.K=K):IxR X (rIx K):=hK▸Z41
theorem Zvd(hK:X.K=K):SlR X (Yd1 K):=hK▸Z0y
noncomputable def Z8y(K:Xb):List V->Hp->VK->Prop:=λxs H Q=>∃p ys,xs=[.ref p]∧(SqL K H p ys∨SqT K H p ys)∧Q (.int ys.length) H
theorem Zk7(hK:X.K=K):Zes X (.builtin "len") (Z8y K):=by subst hK;exact Zlp
noncomputable def Ye1(K:Xb)(ta:TE):TT:=λσ H Q=>ta σ H λx H'=>∃k,Ya7 K x H' k∧Q k H'
theorem Zy0(hK:X.K=K)(ha:PE X a ta)(he:∀whole,isTrue a X.env whole=(do let v←whole;standAt a.pos;holding [v] (truthy v))):PT X a (Ye1 K ta):=by subst hK;exact Zvt ha he
theorem Zoa{tg l:Expr}(hK:X.K=K)(hl:PE X l tl):PI X tg l (Zyd K tl):=by subst hK;exact Zzz hl
theorem Z3h(hK:X.K=K):OpR X (Bg .In) (rIn K false):=by subst hK;exact Zrj
theorem Zgt(hK:X.K=K):OpR X (Bg .NotIn) (rIn K true):=by subst hK;exact Zlb
end
theorem Yv{H:Hp}{p:Addr}(h:H p=none)(o:HO):Same H (upd H p o):=λb u q=>by rw[Zr (Yq q h)];exact q
noncomputable def But(p:Addr)(H H':Hp):Prop:=∀b o,b≠p->H b=some o->H' b=some o
theorem But.trans{p:Addr}{H H1 H2:Hp}(a:But p H H1)(b:But p H1 H2):But p H H2:=λc o n e=>b c o n (a c o n e)
theorem But.upd(p:Addr)(H:Hp)(o:HO):But p H (upd H p o):=λb u n e=>by rw[Zr n];exact e
noncomputable def Pl(H:Hp)(p:Addr)(n:Nat):Prop:=∃a b c:Int,H p=some (.lst [.int a,.int b,.int c])∧0≤c∧c≤n
theorem Pl.mono{H:Hp}{p:Addr}{m n:Nat}(h:Pl H p m)(k:m≤n):Pl H p n:=by
 obtain⟨a,b,c,e,h1,h2⟩:=h
 exact⟨a,b,c,e,h1,by omega⟩
theorem Pl.at{H:Hp}{p:Addr}{n:Nat}(h:Pl H p n):∃xs,H p=some (.lst xs):=by
 obtain⟨a,b,c,e,h1,h2⟩:=h
 exact⟨_,e⟩
namespace B
theorem boot_abs:Qa "abs"=some (.builtin "abs"):=by decide +kernel
theorem boot_len:Qa "len"=some (.builtin "len"):=by decide +kernel
theorem boot_max:Qa "max"=some (.builtin "max"):=by decide +kernel
theorem boot_min:Qa "min"=some (.builtin "min"):=by decide +kernel
theorem boot_isinstance:Qa "isinstance"=some (.builtin "isinstance"):=by decide +kernel
theorem boot_sum:Qa "sum"=some (.builtin "sum"):=by decide +kernel
theorem boot_sorted:Qa "sorted"=some (.builtin "sorted"):=by decide +kernel
theorem boot_int:Qa "int"=some (.type "int"):=by decide +kernel
theorem boot_bool:Qa "bool"=some (.type "bool"):=by decide +kernel
theorem boot_list:Qa "list"=some (.type "list"):=by decide +kernel
theorem boot_tuple:Qa "tuple"=some (.type "tuple"):=by decide +kernel
theorem boot_range:Qa "range"=some (.type "range"):=by decide +kernel
theorem boot_zip:Qa "zip"=some (.type "zip"):=by decide +kernel
theorem boot_enumerate:Qa "enumerate"=some (.type "enumerate"):=by decide +kernel
end B
theorem Zgh{a b:Int}(hb:0<b):a.fmod b=a%b:=Int.fmod_eq_emod_of_nonneg a (by omega)
theorem Ztv{x y:Int}(hx:0≤x)(hy:0<y):JK y (x.fmod y)=JK x y:=by
 rw[Zgh hy,Int.gcd_comm x y]
 have e:=Int.emod_add_mul_ediv x y
 conv=>rhs;rw[←e]
 rw[Int.gcd_add_mul_left_right]
theorem Zwf:(2:Nat)≤Xr:=by decide
theorem Zue(q:Rat):Xv q.num (q.den:Int)=q:=Rat.num_divInt_den q
theorem BQ.n{n:Nat}{q:Rat}(h:BQ n q):Bt n q.num:=h.1
theorem BQ.d{n:Nat}{q:Rat}(h:BQ n q):Bt n (q.den:Int):=h.2
theorem Yfa(q:Rat):(((q.den:Int)):Rat)≠0:=by
 intro z
 exact Zqf q (Rat.intCast_eq_zero_iff.mp z)
theorem Yga(q:Rat):((q.num:Int):Rat)=q*(((q.den:Int)):Rat):=by
 have h:=Zue q
 rw[Qu]at h
 have d:=Yfa q
 conv=>rhs;lhs;rw[←h]
 grind
variable {G:Xb}
noncomputable def KS(G:Xb)(a:Addr)(ns:List Int):Prop:=∃(o:Obj) (its:Array Xc) (n:Nat),G.lookup a=some o∧o.cls= .type "list"∧o.dict=none∧o.data= .seq its n∧its.size≤Xr∧Vals (ns.map V.int) its.toList
theorem KS.sq{G:Xb}{H:Hp}{a:Addr}{ns:List Int}(h:KS G a ns):SqL G H a (ns.map V.int):=.inr h
noncomputable def exD(x:Str):Xa:=.dict [(.str x,.none)]
noncomputable def fnD(x:Str):Xa:=.dict [(.str x,.bool true)]
noncomputable def Zh5:Xa->Bool| .dict ((_,.bool _) :: _)=>true|_=>false
noncomputable def ClsAt(G:Xb)(x:Str)(C:Addr):Prop:=QG G XX x=some (some (.ref C))
structure Zey(G:Xb)(C:Addr):Prop where
 ga:Bw G (.ref C) "__getattribute__"=some (some (.builtin "BaseException.__getattribute__"))
 gt:Bw G (.ref C) "__getattr__"=some none
 cl:Bw G (.ref C) "__class__"=some (some (.builtin "object.__class__"))
 isB:PySem.W.subIn G (.ref C) (.type "BaseException")=some true
 isO:PySem.W.subIn G (.ref C) (.type "object")=some true
 isC:(PySem.W.clsIn G C).isSome=true
 k1:Bv G (.ref C) (.type "int")=some false
 k2:Bv G (.ref C) (.type "bool")=some false
 k3:Bv G (.ref C) (.type "str")=some false
 k4:Bv G (.ref C) (.type "list")=some false
 k5:Bv G (.ref C) (.type "tuple")=some false
noncomputable def ExO(C a:Addr)(h:Heap):Prop:=∃o vs,h.get? a=some o∧o.cls= .ref C∧o.data= .fields vs
inductive ImO where
 | tup (xs:List V)
 | ext (φ:Heap->Prop)
noncomputable def ImO.ho:ImO->HO
 | .tup xs=>.tup xs
 | .ext φ=>.ext φ
inductive MuO where
 | lst (xs:List V)
 | dK (kvs:List (Key×V))
 | dT (kvs:List (List Key×V))
noncomputable def MuO.ho:MuO->HO
 | .lst xs=>.lst xs
 | .dK kvs=>.dK kvs
 | .dT kvs=>.dT kvs
noncomputable def Ycf:Key->Xa
 | .inl i=>.int i
 | .inr x=>.str x
noncomputable def Yfu(ks:List Key):Xa:=.tuple (ks.map Ycf)
noncomputable abbrev KY:=Sum Key (List Key)
noncomputable def kyD:KY->Xa
 | .inl k=>Ycf k
 | .inr ks=>Yfu ks
noncomputable def MuO.dic(t:Bool)(ks:List KY)(xs:List V):MuO->Prop
 | .lst _=>False
 | .dK kvs=>t=false∧ks=kvs.map (λp=>.inl p.1)∧xs=kvs.map (·.2)
 | .dT kvs=>t=true∧ks=kvs.map (λp=>.inr p.1)∧xs=kvs.map (·.2)
noncomputable def dcD(t:Bool)(ks:List KY)(ds:List Xa):Xa:=.dict ((.none,.bool t) :: (ks.map kyD).zip ds)
theorem ImO.nm{H:Hp}{a:Addr}{x:ImO}{y:MuO}(h:H a=some x.ho)(h':H a=some y.ho):False:=by
 rw[h]at h'
 cases x<;>cases y<;>cases h'
theorem ImO.nl{H:Hp}{a:Addr}{x:ImO}{ys:List V}(h:H a=some x.ho)(h':H a=some (.lst ys)):False:=by
 rw[h]at h'
 cases x<;>cases h'
mutual
inductive Da(G:Xb)(H:Hp)(L:Addr->Prop):V->Xa->Prop where
 | non:Da G H L .non .none
 | bl (b:Bool):Da G H L (.bl b) (.bool b)
 | int (i:Int):Da G H L (.int i) (.int i)
 | str (x:Str):Da G H L (.str x) (.str x)
 | lst {a:Addr} {xs:List V} {ds:List Xa}:L a->Rd H a (.lst xs)->Das G H L xs ds->Da G H L (.ref a) (.list ds)
 | tup {a:Addr} {xs:List V} {ds:List Xa}:H a=some (.tup xs)->Das G H L xs ds->Da G H L (.ref a) (.tuple ds)
 | scr {a:Addr} {ns:List Int}:KS G a ns->Da G H L (.ref a) (.list (ns.map Xn))
 | exc {a C:Addr} {x:Str}:Zey G C->ClsAt G x C->H a=some (.ext (ExO C a))->Da G H L (.ref a) (exD x)
 | fn {a:Addr} {x:Str}:ClsAt G x a->Da G H L (.ref a) (fnD x)
 | dic {a:Addr} {o:MuO} {t:Bool} {ks:List KY} {xs:List V} {ds:List Xa}:L a->Rd H a o.ho->o.dic t ks xs->Das G H L xs ds->Da G H L (.ref a) (dcD t ks ds)
inductive Das(G:Xb)(H:Hp)(L:Addr->Prop):List V->List Xa->Prop where
 | nil:Das G H L [] []
 | cons {x:V} {xs:List V} {d:Xa} {ds:List Xa}:Da G H L x d->Das G H L xs ds->Das G H L (x :: xs) (d :: ds)
end
section
variable {H H':Hp}{L L':Addr->Prop}
theorem Da.both{P:V->Xa->Prop}{Q:List V->List Xa->Prop}(c1:P .non .none)(c2:∀b,P (.bl b) (.bool b))(c3:∀i,P (.int i) (.int i))(c4:∀x,P (.str x) (.str x))
  (c5:∀{a:Addr} {xs:List V} {ds:List Xa},L a->Rd H a (.lst xs)->Q xs ds->P (.ref a) (.list ds)) (c6:∀{a:Addr} {xs:List V} {ds:List Xa},H a=some (.tup xs)->Q xs ds->P (.ref a) (.tuple ds))
  (c7:∀{a:Addr} {ns:List Int},KS G a ns->P (.ref a) (.list (ns.map Xn))) (c8:∀{a C:Addr} {x:Str},Zey G C->ClsAt G x C->H a=some (.ext (ExO C a))->P (.ref a) (exD x)) (c9:∀{a:Addr} {x:Str},ClsAt G x a->P (.ref a) (fnD x))
  (c10:∀{a:Addr} {o:MuO} {t:Bool} {ks:List KY} {xs:List V} {ds:List Xa},L a->Rd H a o.ho->o.dic t ks xs->Q xs ds->P (.ref a) (dcD t ks ds)) (n:Q [] []) (c:∀{x:V} {xs:List V} {d:Xa} {ds:List Xa},P x d->Q xs ds->Q (x :: xs) (d :: ds)):(∀{v d},Da G H L v d->P v d)∧∀{xs ds},Das G H L xs ds->Q xs ds :=
 ⟨λh=>Da.rec (motive_1:=λv d _=>P v d) (motive_2:=λxs ds _=>Q xs ds) c1 c2 c3 c4 (λp e _ r=>c5 p e r) (λe _ r=>c6 e r) (λk=>c7 k) (λk l m=>c8 k l m) (λk=>c9 k) (λp e k _ r=>c10 p e k r) n (λ_ _ p q=>c p q) h,
   λh=>Das.rec (motive_1:=λv d _=>P v d) (motive_2:=λxs ds _=>Q xs ds) c1 c2 c3 c4 (λp e _ r=>c5 p e r) (λe _ r=>c6 e r) (λk=>c7 k) (λk l m=>c8 k l m) (λk=>c9 k) (λp e k _ r=>c10 p e k r) n (λ_ _ p q=>c p q) h⟩
theorem Das.ind{Q:List V->List Xa->Prop}(n:Q [] [])(c:∀{x:V} {xs:List V} {d:Xa} {ds:List Xa},Da G H L x d->Das G H L xs ds->Q xs ds->Q (x :: xs) (d :: ds)):∀{xs ds},Das G H L xs ds->Q xs ds:=λh=>
 Das.rec (motive_1:=λ_ _ _=>True) (motive_2:=λxs ds _=>Q xs ds) trivial (λ_=>trivial) (λ_=>trivial) (λ_=>trivial) (λ_ _ _ _=>trivial) (λ_ _ _=>trivial) (λ_=>trivial) (λ_ _ _=>trivial) (λ_=>trivial) (λ_ _ _ _ _=>trivial) n (λp q _ r=>c p q r) h
theorem Da.frame2(hl:∀a (xs:MuO),L a->Rd H a xs.ho->L' a∧Rd H' a xs.ho)(ht:∀a (xs:ImO),H a=some xs.ho->H' a=some xs.ho):(∀{v:V} {d:Xa},Da G H L v d->Da G H' L' v d)∧∀{xs:List V} {ds:List Xa},Das G H L xs ds->Das G H' L' xs ds :=
 Da.both .non .bl .int .str (fun{_ xs _} p e r=>.lst (hl _ (.lst xs) p e).1 (hl _ (.lst xs) p e).2 r) (fun{_ xs _} e r=>.tup (ht _ (.tup xs) e) r) .scr (λc n e=>.exc c n (ht _ (.ext _) e)) .fn (λp e k r=>.dic (hl _ _ p e).1 (hl _ _ p e).2 k r) .nil .cons
theorem Da.frame(hl:∀a (xs:MuO),L a->Rd H a xs.ho->L' a∧Rd H' a xs.ho)(ht:∀a (xs:ImO),H a=some xs.ho->H' a=some xs.ho){v:V}{d:Xa}(h:Da G H L v d):Da G H' L' v d:=(Da.frame2 hl ht).1 h
theorem Das.frame(hl:∀a (xs:MuO),L a->Rd H a xs.ho->L' a∧Rd H' a xs.ho)(ht:∀a (xs:ImO),H a=some xs.ho->H' a=some xs.ho){xs:List V}{ds:List Xa}(h:Das G H L xs ds):Das G H' L' xs ds:=(Da.frame2 hl ht).2 h
theorem Rd.same{a:Addr}{u:HO}(s:Same H H')(h:Rd H a u):Rd H' a u:=h.imp (s _ _) λ⟨o,h⟩=>⟨o,s _ _ h⟩
theorem Rd.some{a:Addr}{u:HO}(h:Rd H a u):H a≠Option.none:=by
 rcases h with h|⟨o,h⟩<;>rw[h]<;>intro z<;>cases z
theorem Da.same(h:Same H H'){v:V}{d:Xa}(x:Da G H L v d):Da G H' L v d:=x.frame (λa xs p e=>⟨p,e.same h⟩) λa xs e=>h _ _ e
theorem Das.same(h:Same H H'){v:List V}{d:List Xa}(x:Das G H L v d):Das G H' L v d:=x.frame (λa xs p e=>⟨p,e.same h⟩) λa xs e=>h _ _ e
theorem Da.wide(h:∀a,L a->H a≠none->L' a){v:V}{d:Xa}(x:Da G H L v d):Da G H L' v d:=x.frame (λa xs p e=>⟨h a p e.some,e⟩) λa xs e=>e
theorem Das.wide(h:∀a,L a->H a≠none->L' a){v:List V}{d:List Xa}(x:Das G H L v d):Das G H L' v d:=x.frame (λa xs p e=>⟨h a p e.some,e⟩) λa xs e=>e
theorem Das.length{xs:List V}{ds:List Xa}(h:Das G H L xs ds):xs.length=ds.length:=Das.ind (Q:=λxs ds=>xs.length=ds.length) rfl (λ_ _ r=>congrArg (·+1) r) h
theorem Das.append{xs ys:List V}{ds es:List Xa}(h:Das G H L xs ds)(k:Das G H L ys es):Das G H L (xs ++ ys) (ds ++ es):=Das.ind (Q:=λxs ds=>Das G H L (xs ++ ys) (ds ++ es)) k (λh _ r=>.cons h r) h
theorem Das.snoc{xs:List V}{ds:List Xa}{x:V}{d:Xa}(h:Das G H L xs ds)(k:Da G H L x d):Das G H L (xs ++ [x]) (ds ++ [d]):=h.append (.cons k .nil)
theorem Das.get{xs:List V}{ds:List Xa}{i:Nat}{d:Xa}(h:Das G H L xs ds):ds[i]? =some d->∃x,xs[i]? =some x∧Da G H L x d :=
 Das.ind (Q:=λxs ds=>∀i,ds[i]? =some d->∃x,xs[i]? =some x∧Da G H L x d) (λ_ e=>(Option.some_ne_none _ (e.symm.trans UG)).elim) (fun{x _ _ _} h _ r i=>Nat.casesOn i (λe=>⟨x,rfl,QB e▸h⟩) λi e=>r i e) h i
theorem Das.get'{xs:List V}{ds:List Xa}{i:Nat}{x:V}(h:Das G H L xs ds):xs[i]? =some x->∃d,ds[i]? =some d∧Da G H L x d :=
 Das.ind (Q:=λxs ds=>∀i,xs[i]? =some x->∃d,ds[i]? =some d∧Da G H L x d) (λ_ e=>(Option.some_ne_none _ (e.symm.trans UG)).elim) (fun{_ _ d _} h _ r i=>Nat.casesOn i (λe=>⟨d,rfl,QB e▸h⟩) λi e=>r i e) h i
theorem Das.take{xs:List V}{ds:List Xa}(n:Nat)(h:Das G H L xs ds):Das G H L (xs.take n) (ds.take n) :=
 Das.ind (Q:=λxs ds=>∀n,Das G H L (xs.take n) (ds.take n)) (λn=>by rw[V3,V3];exact .nil) (λh _ r n=>Nat.casesOn n .nil λn=>.cons h (r n)) h n
theorem Das.drop{xs:List V}{ds:List Xa}(n:Nat)(h:Das G H L xs ds):Das G H L (xs.drop n) (ds.drop n) :=
 Das.ind (Q:=λxs ds=>∀n,Das G H L (xs.drop n) (ds.drop n)) (λn=>by rw[V4,V4];exact .nil) (λh q r n=>Nat.casesOn n (.cons h q) λn=>r n) h n
theorem Das.ints(ns:List Int):Das G H L (ns.map V.int) (ns.map Xn):=by
 induction ns with
 | nil=>exact .nil
 | cons n ns ih=>exact .cons (.int n) ih
theorem Das.int_inv{xs:List V}{ns:List Int}(h:Das G H L xs (ns.map Xn)):xs=ns.map V.int:=by
 induction ns generalizing xs with
 | nil=>cases h;rfl
 | cons n ns ih=>
  rw[X3]at h
  cases h with
  | cons h r=>cases h;rw[ih r];rfl
end
theorem Zpw{h:Heap}(ns:List Int){us:List Xc}(v:Vals (ns.map V.int) us):∃as,ReadsAll h us (ns.map Xn) as:=by
 induction ns generalizing us with
 | nil=>cases v;exact⟨_,.nil⟩
 | cons n ns ih=>
  rw[X3]at v
  cases v with
  | cons r rs=>
   obtain⟨t,e⟩:=(show∃t,_=U5 n t from r)
   subst e
   obtain⟨bs,k'⟩:=ih rs
   exact⟨_,.cons (.int n t) k'⟩
section
variable {X:Cx}{pins:List (Addr×Obj)}{σ:St}{H:Hp}{s:Xd}{L L':Addr->Prop}
theorem Da.reads2(hG:X.K=G)(I:Inv X pins σ H s):(∀{v:V} {d:Xa},Da G H L v d->∀u,RelV v u->d.canLay0=true->∃as,Reads s.heap u d as)∧∀{xs:List V} {ds:List Xa},Das G H L xs ds->∀us,Vals xs us->Q9 ds=true->∃as,ReadsAll s.heap us ds as:=by
 refine Da.both ?_ ?_ ?_ ?_ ?_ ?_ ?_ ?_ ?_ ?_ ?_ ?_
 ·intro u r _
  cases(show _=Q4 from r)
  exact⟨_,.none⟩
 ·intro b u r _
  cases(show _=Value.bool b from r)
  exact⟨_,.bool b⟩
 ·intro i u r _
  obtain⟨t,e⟩:=(show∃t,_=U5 i t from r)
  subst e
  exact⟨_,.int i t⟩
 ·intro x u r _
  obtain⟨t,e⟩:=(show∃t,_=Value.str x t from r)
  subst e
  exact⟨_,.str x t⟩
 ·intro a xs ds _ e q u r hcl
  cases(show _=QJ a from r)
  obtain⟨_,its,n,vs,h1⟩:=(show ObjOk X.prog X.w H s.heap a (.lst xs)from e.ok I.hok)
  rw[Bh]at hcl
  obtain⟨as,k⟩:=q _ vs hcl
  exact⟨_,Reads.list h1 rfl rfl k⟩
 ·intro a xs ds e q u r hcl
  cases(show _=QJ a from r)
  obtain⟨_,its,vs,o,ho,hc,n,hd⟩:=(show ObjOk X.prog X.w H s.heap a (.tup xs)from I.hok a _ e)
  rw[Bh]at hcl
  obtain⟨as,k⟩:=q _ vs hcl
  exact⟨_,Reads.tuple ho hc hd k⟩
 ·intro a ns k u r _
  cases(show _=QJ a from r)
  subst hG
  obtain⟨its,vs,⟨o,n,ho,hc,hd,hs⟩,_⟩:=I.list (k.sq (H:=H))
  obtain⟨as,q⟩:=Zpw ns vs
  exact⟨_,Reads.list ho hc hs q⟩
 ·intro a C x _ _ e u r hc
  rw[exD,Bh]at hc
  cases hc
 ·intro a x _ u r hc
  rw[fnD,Bh]at hc
  cases hc
 ·intro a o t ks xs ds _ _ _ _ u r hc
  rw[dcD,Bh]at hc
  cases hc
 ·intro us v _
  cases v
  exact⟨_,.nil⟩
 ·intro x xs d ds h q us v hc
  cases v with
  | cons r rs=>
   rw[Q9,XN]at hc
   obtain⟨as,k⟩:=h _ r hc.1
   obtain⟨bs,k'⟩:=q _ rs hc.2
   exact⟨_,.cons k k'⟩
theorem Da.reads(hG:X.K=G)(I:Inv X pins σ H s){v:V}{d:Xa}{u:Xc}(h:Da G H L v d)(r:RelV v u)(c:d.canLay0=true):∃as,Reads s.heap u d as:=(Da.reads2 hG I).1 h u r c
theorem Das.reads(hG:X.K=G)(I:Inv X pins σ H s){xs:List V}{ds:List Xa}{us:List Xc}(h:Das G H L xs ds)(r:Vals xs us)(c:Q9 ds=true):∃as,ReadsAll s.heap us ds as:=(Da.reads2 hG I).2 h us r c
end
inductive OT where
 | fz (d:Xa)
 | nd (ts:List OT)
 | tp (ts:List OT)
 | dc (t:Bool) (ks:List KY) (ds:List Xa)
mutual
noncomputable def OT.data:OT->Xa
 | .fz d=>d
 | .nd ts=>.list (OT.datas ts)
 | .tp ts=>.tuple (OT.datas ts)
 | .dc t ks ds=>dcD t ks ds
noncomputable def OT.datas:List OT->List Xa
 | []=>[]
 | t :: ts=>t.data :: OT.datas ts
end
theorem OT.datas_map:∀(ts:List OT),OT.datas ts=ts.map OT.data
 | []=>rfl
 | t :: ts=>by rw[OT.datas,OT.datas_map ts];rfl
@[simp] theorem OT.data_fz(d:Xa):(OT.fz d).data=d:=by rw[OT.data]
@[simp] theorem OT.data_nd(ts:List OT):(OT.nd ts).data= .list (ts.map OT.data):=by rw[OT.data,OT.datas_map]
@[simp] theorem OT.data_tp(ts:List OT):(OT.tp ts).data= .tuple (ts.map OT.data):=by rw[OT.data,OT.datas_map]
theorem OT.data_dc(t:Bool)(ks:List KY)(ds:List Xa):(OT.dc t ks ds).data=dcD t ks ds:=by rw[OT.data]
@[simp] theorem OT.map_fz(ds:List Xa):(ds.map OT.fz).map OT.data=ds:=by
 rw[QD]
 exact(XH λd _=>OT.data_fz d).trans (List.map_id _)
mutual
inductive Own(G:Xb)(H:Hp)(L:Addr->Prop):V->OT->List Addr->Prop where
 | fz {v:V} {d:Xa}:Da G H L v d->Own G H L v (.fz d) []
 | nd {a:Addr} {xs:List V} {ts:List OT} {bs:List Addr}:H a=some (.lst xs)->Owns G H L xs ts bs->Own G H L (.ref a) (.nd ts) (a :: bs)
 | tp {a:Addr} {xs:List V} {ts:List OT} {bs:List Addr}:H a=some (.tup xs)->Owns G H L xs ts bs->Own G H L (.ref a) (.tp ts) bs
 | dc {a:Addr} {o:MuO} {t:Bool} {ks:List KY} {xs:List V} {ds:List Xa}:H a=some o.ho->o.dic t ks xs->Das G H L xs ds->Own G H L (.ref a) (.dc t ks ds) [a]
inductive Owns(G:Xb)(H:Hp)(L:Addr->Prop):List V->List OT->List Addr->Prop where
 | nil:Owns G H L [] [] []
 | cons {x:V} {xs:List V} {t:OT} {ts:List OT} {as bs:List Addr}:Own G H L x t as->Owns G H L xs ts bs->Owns G H L (x :: xs) (t :: ts) (as ++ bs)
end
section
variable {H H':Hp}{L L':Addr->Prop}
theorem Own.both{P:V->OT->List Addr->Prop}{Q:List V->List OT->List Addr->Prop}(c1:∀{v:V} {d:Xa},Da G H L v d->P v (.fz d) [])(c2:∀{a:Addr} {xs:List V} {ts:List OT} {bs:List Addr},H a=some (.lst xs)->Q xs ts bs->P (.ref a) (.nd ts) (a :: bs))
  (c3:∀{a:Addr} {xs:List V} {ts:List OT} {bs:List Addr},H a=some (.tup xs)->Q xs ts bs->P (.ref a) (.tp ts) bs) (c4:∀{a:Addr} {o:MuO} {t:Bool} {ks:List KY} {xs:List V} {ds:List Xa},H a=some o.ho->o.dic t ks xs->Das G H L xs ds->P (.ref a) (.dc t ks ds) [a]) (n:Q [] [] []) (c:∀{x:V} {xs:List V} {t:OT} {ts:List OT} {as bs:List Addr},P x t as->Q xs ts bs->Q (x :: xs) (t :: ts) (as ++ bs)) :
  (∀ {v t as},Own G H L v t as->P v t as)∧∀{xs ts as},Owns G H L xs ts as->Q xs ts as :=
 ⟨λh=>Own.rec (motive_1:=λv t as _=>P v t as) (motive_2:=λxs ts as _=>Q xs ts as) c1 (λe _ r=>c2 e r) (λe _ r=>c3 e r) (λe k r=>c4 e k r) n (λ_ _ p q=>c p q) h,
   λh=>Owns.rec (motive_1:=λv t as _=>P v t as) (motive_2:=λxs ts as _=>Q xs ts as) c1 (λe _ r=>c2 e r) (λe _ r=>c3 e r) (λe k r=>c4 e k r) n (λ_ _ p q=>c p q) h⟩
theorem Own.frame2(hl:∀a (xs:MuO),L a->Rd H a xs.ho->L' a∧Rd H' a xs.ho)(ht:∀a (xs:ImO),H a=some xs.ho->H' a=some xs.ho) :
  (∀ {v:V} {t:OT} {as:List Addr},Own G H L v t as->(∀a∈as,∀xs:MuO,H a=some xs.ho->H' a=some xs.ho)->Own G H' L' v t as)∧∀{xs:List V} {ts:List OT} {as:List Addr},Owns G H L xs ts as->(∀a∈as,∀xs:MuO,H a=some xs.ho->H' a=some xs.ho)->Owns G H' L' xs ts as :=
 Own.both (λh _=>.fz (h.frame hl ht)) (fun{_ xs _ _} e r ha=>.nd (ha _ (.head _) (.lst xs) e) (r λa m=>ha a (.tail _ m))) (fun{_ xs _ _} e r ha=>.tp (ht _ (.tup xs) e) (r ha)) (λe k r ha=>.dc (ha _ (.head _) _ e) k (r.frame hl ht)) (λ_=>.nil) (λh r ha=>.cons (h λa m=>ha a (Bs _ m)) (r λa m=>ha a (Qk _ m)))
theorem Own.frame(hl:∀a (xs:MuO),L a->Rd H a xs.ho->L' a∧Rd H' a xs.ho)(ht:∀a (xs:ImO),H a=some xs.ho->H' a=some xs.ho){v:V}{t:OT}{as:List Addr}(ha:∀a∈as,∀xs:MuO,H a=some xs.ho->H' a=some xs.ho)(h:Own G H L v t as):Own G H' L' v t as:=(Own.frame2 hl ht).1 h ha
theorem Owns.frame(hl:∀a (xs:MuO),L a->Rd H a xs.ho->L' a∧Rd H' a xs.ho)(ht:∀a (xs:ImO),H a=some xs.ho->H' a=some xs.ho){xs:List V}{ts:List OT}{as:List Addr}(ha:∀a∈as,∀xs:MuO,H a=some xs.ho->H' a=some xs.ho)(h:Owns G H L xs ts as):Owns G H' L' xs ts as:=(Own.frame2 hl ht).2 h ha
theorem Own.same(h:Same H H'){v:V}{t:OT}{as:List Addr}(x:Own G H L v t as):Own G H' L v t as:=x.frame (λa xs p e=>⟨p,e.same h⟩) (λa xs e=>h _ _ e) λa _ xs e=>h _ _ e
theorem Own.wide(h:∀a,L a->H a≠none->L' a){v:V}{t:OT}{as:List Addr}(x:Own G H L v t as):Own G H L' v t as:=x.frame (λa xs p e=>⟨h a p e.some,e⟩) (λa xs e=>e) λa _ xs e=>e
theorem Owns.wide(h:∀a,L a->H a≠none->L' a){v:List V}{t:List OT}{as:List Addr}(x:Owns G H L v t as):Owns G H L' v t as:=x.frame (λa xs p e=>⟨h a p e.some,e⟩) (λa xs e=>e) λa _ xs e=>e
theorem Owns.same(h:Same H H'){v:List V}{t:List OT}{as:List Addr}(x:Owns G H L v t as):Owns G H' L v t as:=x.frame (λa xs p e=>⟨p,e.same h⟩) (λa xs e=>h _ _ e) λa _ xs e=>h _ _ e
theorem Own.da2(h:∀a,L a->H a≠none->L' a):(∀{v:V} {t:OT} {as:List Addr},Own G H L v t as->(∀a∈as,L' a)->Da G H L' v t.data)∧∀{v:List V} {t:List OT} {as:List Addr},Owns G H L v t as->(∀a∈as,L' a)->Das G H L' v (OT.datas t) :=
 Own.both (λk _=>by rw[OT.data_fz];exact k.wide h) (λe r ha=>by rw[OT.data];exact .lst (ha _ (.head _)) (.inl e) (r λa m=>ha a (.tail _ m))) (λe r ha=>by rw[OT.data];exact .tup e (r ha)) (λe k r ha=>by rw[OT.data];exact .dic (ha _ (.head _)) (.inl e) k (r.wide h)) (λ_=>.nil) (λk r ha=>.cons (k λa m=>ha a (Bs _ m)) (r λa m=>ha a (Qk _ m)))
theorem Own.da(h:∀a,L a->H a≠none->L' a){v:V}{t:OT}{as:List Addr}(ha:∀a∈as,L' a)(k:Own G H L v t as):Da G H L' v t.data:=(Own.da2 h).1 k ha
theorem Owns.das(h:∀a,L a->H a≠none->L' a){v:List V}{t:List OT}{as:List Addr}(ha:∀a∈as,L' a)(k:Owns G H L v t as):Das G H L' v (OT.datas t):=(Own.da2 h).2 k ha
theorem Own.some2:(∀{v:V} {t:OT} {as:List Addr},Own G H L v t as->∀a∈as,∃xs:MuO,H a=some xs.ho)∧∀{v:List V} {t:List OT} {as:List Addr},Owns G H L v t as->∀a∈as,∃xs:MuO,H a=some xs.ho :=
 Own.both (λ_ _ m=>nomatch m) (fun{_ xs _ _} e r a m=>(Xo.mp m).elim (λq=>⟨.lst xs,q▸e⟩) (r a)) (λ_ r=>r) (fun{_ o _ _ _ _} e _ _ a m=>⟨o,Xy.mp m▸e⟩) (λ_ m=>nomatch m) (λk r a m=>(Ql.mp m).elim (k a) (r a))
theorem Own.some{v:V}{t:OT}{as:List Addr}(h:Own G H L v t as):∀a∈as,∃xs:MuO,H a=some xs.ho:=Own.some2.1 h
theorem Owns.some{v:List V}{t:List OT}{as:List Addr}(h:Owns G H L v t as):∀a∈as,∃xs:MuO,H a=some xs.ho:=Own.some2.2 h
theorem Owns.length{xs:List V}{ts:List OT}{as:List Addr}(h:Owns G H L xs ts as):xs.length=ts.length:=(Own.both (P:=λ_ _ _=>True) (Q:=λxs ts _=>xs.length=ts.length) (λ_=>trivial) (λ_ _=>trivial) (λ_ _=>trivial) (λ_ _ _=>trivial) rfl (λ_ r=>congrArg (·+1) r)).2 h
theorem Das.owns{xs:List V}{ds:List Xa}(h:Das G H L xs ds):Owns G H L xs (ds.map OT.fz) []:=Das.ind (Q:=λxs ds=>Owns G H L xs (ds.map OT.fz) []) .nil (λh _ r=>.cons (.fz h) r) h
end
variable {G:Xb}
noncomputable abbrev Ze:=List (Option OT)
noncomputable abbrev Fp:=Nat->List Addr
set_option genInjectivity false in
structure MC(G:Xb) where
 H₀:Hp
 as₀:Addr->Prop
 L:Addr->Prop
 σ₀:St
noncomputable def Foot(fp:Fp)(a:Addr):Prop:=∃i,a∈fp i
noncomputable def Lf(C:MC G)(fp:Fp)(ex:Addr->Prop)(a:Addr):Prop:=¬Foot fp a∧¬ex a∧(C.L a∨C.H₀ a=none)
structure Rel(C:MC G)(io:List Nat)(H:Hp)(σ:St)(δ:Ze)(fp:Fp)(ex:Addr->Prop):Prop where
 len:σ.length=δ.length
 own:∀(i:Nat) (t:OT),δ[i]? =some (some t)->∃v,σ[i]? =some (some v)∧Own G H (Lf C fp ex) v t (fp i)
 emp:∀i:Nat,(∀t,δ[i]? ≠some (some t))->fp i=[]
 nd:∀i,(fp i).Nodup
 dj:∀i j a,a∈fp i->a∈fp j->i=j
 dx:∀i a,a∈fp i->¬ex a
 xa:∀a,ex a->H a≠none
 fr:∀b o,C.H₀ b=some o->¬C.as₀ b->H b=some o
 al:∀b,H b=none->C.H₀ b=none
 new:∀i a,a∈fp i->(i∈io∧C.as₀ a)∨C.H₀ a=none
 io:∀i∈io,σ[i]? =C.σ₀[i]?
structure Stp(p:Bool)(H:Hp)(δ:Ze)(fp:Fp)(H':Hp)(δ':Ze)(fp':Fp):Prop where
 keep:∀b o,H b=some o->(p=true∨¬Foot fp b)->H' b=some o
 env:p=true->δ'=δ∧fp'=fp
 grow:∀a,Foot fp' a->Foot fp a∨H a=none
 al:∀b,H' b=none->H b=none
section
variable {C:MC G}{io:List Nat}{H H' H'':Hp}{σ:St}{δ δ' δ'':Ze}{fp fp' fp'':Fp}{ex ex':Addr->Prop}{p p' c:Bool}{v:V}{d:Xa}{r:OT}{new:List Addr}
theorem Rel.foot(R:Rel C io H σ δ fp ex){a:Addr}(h:Foot fp a):∃xs:MuO,H a=some xs.ho:=by
 obtain⟨i,h⟩:=h
 by_cases q:∃t,δ[i]? =some (some t)
 ·obtain⟨t,q⟩:=q
  obtain⟨v,_,o⟩:=R.own i t q
  exact o.some a h
 ·rw[R.emp i (λt z=>q ⟨t,z⟩)]at h
  exact nomatch h
theorem Rel.footSome(R:Rel C io H σ δ fp ex){a:Addr}(h:H a=none):¬Foot fp a:=λz=>by
 obtain⟨xs,e⟩:=R.foot z
 rw[h]at e
 cases e
theorem Stp.refl(p:Bool)(H:Hp)(δ:Ze)(fp:Fp):Stp p H δ fp H δ fp:=⟨λ_ _ h _=>h,λ_=>⟨rfl,rfl⟩,λ_ h=>.inl h,λ_ h=>h⟩
theorem Stp.same(h:Same H H')(hn:∀b,H' b=none->H b=none):Stp p H δ fp H' δ fp:=⟨λ_ _ q _=>h _ _ q,λ_=>⟨rfl,rfl⟩,λ_ h=>.inl h,hn⟩
theorem Same.al(h:Same H H'):∀b,H' b=none->H b=none:=λ_ q=>h.free q
theorem Stp.trans(a:Stp p H δ fp H' δ' fp')(b:Stp p' H' δ' fp' H'' δ'' fp''):Stp (p&&p') H δ fp H'' δ'' fp'' where
 keep:=λx o e h=>by
  rcases h with h|h
  ·rw[XN]at h
   exact b.keep x o (a.keep x o e (.inl h.1)) (.inl h.2)
  ·refine b.keep x o (a.keep x o e (.inr h)) (.inr λz=>?_)
   rcases a.grow x z with z|z
   ·exact h z
   ·rw[e]at z;cases z
 env:=λh=>by
  rw[XN]at h
  obtain⟨e1,e2⟩:=a.env h.1
  obtain⟨e3,e4⟩:=b.env h.2
  exact⟨e3.trans e1,e4.trans e2⟩
 grow:=λx h=>by
  rcases b.grow x h with h|h
  ·exact a.grow x h
  ·exact .inr (a.al x h)
 al:=λx h=>a.al x (b.al x h)
theorem Rel.frameL(R:Rel C io H σ δ fp ex)(S:Stp p H δ fp H' δ' fp')(hc:p=true∨c=true)(hx:∀a,ex' a->ex a∨H a=none) :
  (∀ a (xs:MuO),(c=true->Lf C fp ex a)->Rd H a xs.ho->(c=true->Lf C fp' ex' a)∧Rd H' a xs.ho)∧(∀a (xs:ImO),H a=some xs.ho->H' a=some xs.ho):=by
 have nf:∀a,Foot fp a->∃xs:MuO,H a=some xs.ho:=λa h=>R.foot h
 refine⟨λa xs l q=>⟨λhc'=>?_,?_⟩,λa xs q=>S.keep a _ q (.inr λz=>?_)⟩
 ·obtain⟨l1,l2,l3⟩:=l hc'
  refine⟨λz=>?_,λz=>?_,l3⟩
  ·rcases S.grow a z with z|z
   ·exact l1 z
   ·exact q.some z
  ·rcases hx a z with z|z
   ·exact l2 z
   ·exact q.some z
 ·have hk:p=true∨¬Foot fp a:=by
   rcases hc with h|h
   ·exact .inl h
   ·exact .inr (l h).1
  rcases q with q|⟨o,q⟩
  ·exact .inl (S.keep a _ q hk)
  ·exact .inr ⟨o,S.keep a _ q hk⟩
 ·obtain⟨ys,e⟩:=nf a z
  exact ImO.nm q e
theorem Rel.own_step(R:Rel C io H σ δ fp ex)(S:Stp p H δ fp H' δ' fp')(hc:p=true∨c=true)(hx:∀a,ex' a->ex a∨H a=none)(hn:∀a∈new,ex a)
  (x:Own G H (λa=>c=true->Lf C fp ex a) v r new):Own G H' (λa=>c=true->Lf C fp' ex' a) v r new :=
 x.frame (R.frameL S hc hx).1 (R.frameL S hc hx).2 λa m xs e=>S.keep a _ e (.inr λ⟨i,z⟩=>R.dx i a z (hn a m))
theorem Rel.owns_step(R:Rel C io H σ δ fp ex)(S:Stp p H δ fp H' δ' fp')(hc:p=true∨c=true)(hx:∀a,ex' a->ex a∨H a=none)(hn:∀a∈new,ex a){vs:List V}{rs:List OT}
  (x:Owns G H (λa=>c=true->Lf C fp ex a) vs rs new):Owns G H' (λa=>c=true->Lf C fp' ex' a) vs rs new :=
 x.frame (R.frameL S hc hx).1 (R.frameL S hc hx).2 λa m xs e=>S.keep a _ e (.inr λ⟨i,z⟩=>R.dx i a z (hn a m))
theorem Rel.drop(R:Rel C io H σ δ fp ex)(h:∀a,ex' a->ex a):Rel C io H σ δ fp ex' :=
 ⟨R.len,λi t e=>by
  obtain⟨v,e1,o⟩:=R.own i t e
  exact⟨v,e1,o.wide λa l _=>⟨l.1,λz=>l.2.1 (h a z),l.2.2⟩⟩,R.emp,R.nd,R.dj,λi a m z=>R.dx i a m (h a z),λa z=>R.xa a (h a z),R.fr,R.al,R.new,R.io⟩
theorem Rel.made(R:Rel C io H σ δ fp ex)(s:Same H H')(hn:∀a∈new,H a=none∧H' a≠none):Rel C io H' σ δ fp (λa=>ex a∨a∈new) :=
 ⟨R.len,λi t e=>by
  obtain⟨v,e1,o⟩:=R.own i t e
  refine⟨v,e1,(o.wide λa l q=>⟨l.1,λz=>?_,l.2.2⟩).same s⟩
  rcases z with z|z
  ·exact l.2.1 z
  ·exact q (hn a z).1,R.emp,R.nd,R.dj,λi a m z=>by
   rcases z with z|z
   ·exact R.dx i a m z
   ·exact R.footSome (hn a z).1 ⟨i,m⟩,λa z=>by
   rcases z with z|z
   ·intro q;exact R.xa a z (s.free q)
   ·exact(hn a z).2,λb o e n=>s _ _ (R.fr b o e n),λb q=>R.al b (s.free q),R.new,R.io⟩
end
noncomputable abbrev MEt:=Ze->(OT->Ze->Prop)->Prop
noncomputable abbrev MAt:=Ze->(List OT->Ze->Prop)->Prop
noncomputable abbrev MTt:=Ze->(Bool->Ze->Prop)->Prop
noncomputable abbrev exu(ex:Addr->Prop)(new:List Addr):Addr->Prop:=λa=>ex a∨a∈new
structure RE(C:MC G)(io:List Nat)(p c:Bool)(H:Hp)(σ:St)(δ:Ze)(fp:Fp)(ex:Addr->Prop)(H':Hp)(v:V)(r:OT)(δ':Ze)(fp':Fp)(new:List Addr):Prop where
 rel:Rel C io H' σ δ' fp' (exu ex new)
 stp:Stp p H δ fp H' δ' fp'
 own:Own G H' (λa=>c=true->Lf C fp' (exu ex new) a) v r new
 nd:new.Nodup
 fresh:∀a∈new,H a=none
structure RA(C:MC G)(io:List Nat)(p c:Bool)(H:Hp)(σ:St)(δ:Ze)(fp:Fp)(ex:Addr->Prop)(H':Hp)(v:List V)(r:List OT)(δ':Ze)(fp':Fp)(new:List Addr):Prop where
 rel:Rel C io H' σ δ' fp' (exu ex new)
 stp:Stp p H δ fp H' δ' fp'
 own:Owns G H' (λa=>c=true->Lf C fp' (exu ex new) a) v r new
 nd:new.Nodup
 fresh:∀a∈new,H a=none
noncomputable def SE(G:Xb)(io:List Nat)(p c:Bool)(t:TE)(m:MEt):Prop:=∀(C:MC G) (H:Hp) (σ:St) (δ:Ze) (fp:Fp) (ex:Addr->Prop) (K:OT->Ze->Prop) (Q:VK),Rel C io H σ δ fp ex->m δ K ->
 (∀ H' v r δ' fp' new,RE C io p c H σ δ fp ex H' v r δ' fp' new->K r δ'->Q v H')->t σ H Q
noncomputable def SA(G:Xb)(io:List Nat)(p c:Bool)(t:TA)(m:MAt):Prop:=∀(C:MC G) (H:Hp) (σ:St) (δ:Ze) (fp:Fp) (ex:Addr->Prop) (K:List OT->Ze->Prop) (Q:List V->Hp->Prop),Rel C io H σ δ fp ex->m δ K ->
 (∀ H' v r δ' fp' new,RA C io p c H σ δ fp ex H' v r δ' fp' new->K r δ'->Q v H')->t σ H Q
noncomputable def STt(G:Xb)(io:List Nat)(p:Bool)(t:TT)(m:MTt):Prop:=∀(C:MC G) (H:Hp) (σ:St) (δ:Ze) (fp:Fp) (ex:Addr->Prop) (K:Bool->Ze->Prop) (Q:Bool->Hp->Prop),Rel C io H σ δ fp ex->m δ K ->
 (∀ H' b δ' fp',Rel C io H' σ δ' fp' ex->Stp p H δ fp H' δ' fp'->K b δ'->Q b H')->t σ H Q
noncomputable def ME(X:Cx)(io:List Nat)(p c:Bool)(e:Expr)(m:MEt):Prop:=∃t,PE X e t∧SE X.K io p c t m
noncomputable def MA(X:Cx)(io:List Nat)(p c:Bool)(e:List Expr)(m:MAt):Prop:=∃t,PA X e t∧SA X.K io p c t m
noncomputable def MT(X:Cx)(io:List Nat)(p:Bool)(e:Expr)(m:MTt):Prop:=∃t,PT X e t∧STt X.K io p t m
noncomputable def MW(X:Cx)(io:List Nat)(p:Bool)(e:Expr)(m:MTt):Prop:=∃t,PW X e t∧STt X.K io p t m
section
variable {C:MC G}{io:List Nat}{H H' H'':Hp}{σ:St}{δ δ' δ'':Ze}{fp fp' fp'':Fp}{ex ex':Addr->Prop}{p p' c:Bool}{v:V}{d:Xa}{r:OT}{vs:List V}{rs:List OT}{new:List Addr}
theorem Rel.newOk(R:Rel C io H σ δ fp ex){a:Addr}(h:H a=none):¬Foot fp a∧¬ex a∧C.H₀ a=none:=⟨R.footSome h,λz=>R.xa a z h,R.al a h⟩
theorem RE.da(R:RE C io p c H σ δ fp ex H' v r δ' fp' new)(R0:Rel C io H σ δ fp ex):Da G H' (λa=>c=true->Lf C fp' ex a) v r.data:=by
 refine R.own.da (λa l _ h=>?_) (λa m _=>?_)
 ·exact⟨(l h).1,λz=>(l h).2.1 (.inl z),(l h).2.2⟩
 ·refine⟨λqz9=>?_,(R0.newOk (R.fresh a m)).2.1,.inr (R0.newOk (R.fresh a m)).2.2⟩
  obtain⟨i,z⟩:=qz9
  exact R.rel.dx i a z (.inr m)
theorem RA.das(R:RA C io p c H σ δ fp ex H' vs rs δ' fp' new)(R0:Rel C io H σ δ fp ex):Das G H' (λa=>c=true->Lf C fp' ex a) vs (OT.datas rs):=by
 refine R.own.das (λa l _ h=>?_) (λa m _=>?_)
 ·exact⟨(l h).1,λz=>(l h).2.1 (.inl z),(l h).2.2⟩
 ·refine⟨λqz9=>?_,(R0.newOk (R.fresh a m)).2.1,.inr (R0.newOk (R.fresh a m)).2.2⟩
  obtain⟨i,z⟩:=qz9
  exact R.rel.dx i a z (.inr m)
theorem RE.base(R:RE C io p c H σ δ fp ex H' v r δ' fp' new):Rel C io H' σ δ' fp' ex:=R.rel.drop λa z=>.inl z
theorem RA.base(R:RA C io p c H σ δ fp ex H' vs rs δ' fp' new):Rel C io H' σ δ' fp' ex:=R.rel.drop λa z=>.inl z
theorem Za4{a:Addr}:exu ex [] a↔ex a:=by simp[exu]
theorem RE.fz(R:Rel C io H' σ δ' fp' ex)(S:Stp p H δ fp H' δ' fp')(h:Da G H' (λa=>c=true->Lf C fp' ex a) v d):RE C io p c H σ δ fp ex H' v (.fz d) δ' fp' [] :=
 ⟨R.drop λa z=>Za4.mp z,S,.fz (h.wide λa l _ hc=>⟨(l hc).1,λz=>(l hc).2.1 (Za4.mp z),(l hc).2.2⟩),.nil,λa m=>nomatch m⟩
theorem RE.tree{H1:Hp}(R0:Rel C io H σ δ fp ex)(R:Rel C io H1 σ δ' fp' ex)(S:Stp p H δ fp H1 δ' fp')(s:Same H1 H')(hn:∀a∈new,H1 a=none)(nd:new.Nodup)
  (o:Own G H' (λa=>((c=true->Lf C fp' ex a)∨H1 a=none)∧a∉new) v r new):RE C io p c H σ δ fp ex H' v r δ' fp' new:=by
 refine⟨R.made s λa m=>⟨hn a m,λz=>?_⟩,?_,o.wide λa l q hc=>?_,nd,λa m=>S.al a (hn a m)⟩
 ·obtain⟨xs,e⟩:=o.some a m
  rw[z]at e;cases e
 ·have:=S.trans (p':=true) (Stp.same (p:=true) (δ:=δ') (fp:=fp') s s.al)
  rwa[UW]at this
 ·rcases l.1 with l1|l1
  ·exact⟨(l1 hc).1,λz=>z.elim (l1 hc).2.1 l.2,(l1 hc).2.2⟩
  ·exact⟨R.footSome l1,λz=>z.elim (λz=>R.xa a z l1) l.2,.inr (R.al a l1)⟩
end
inductive ScD:V->Xa->Prop where
 | non:ScD .non .none
 | bl (b:Bool):ScD (.bl b) (.bool b)
 | int (i:Int):ScD (.int i) (.int i)
 | str (x:Str):ScD (.str x) (.str x)
theorem ScD.da{H:Hp}{L:Addr->Prop}{v:V}{d:Xa}(h:ScD v d):Da G H L v d:=by
 cases h
 ·exact .non
 ·exact .bl _
 ·exact .int _
 ·exact .str _
section
variable {X:Cx}{io:List Nat}{p p' c c':Bool}{e a b:Expr}{m ma mb:MEt}{es:List Expr}
noncomputable def Z7v(i:Nat):MEt:=λδ K=>match δ[i]? with|some (some (.fz d))=>K (.fz d) δ|_=>False
noncomputable def Z8a(i:Nat):MEt:=λδ K=>match δ[i]? with|some (some t)=>K (.fz t.data) δ|_=>False
noncomputable def mC(d:Xa):MEt:=λδ K=>K (.fz d) δ
theorem mv(i:Nat){x:Str}{pos:Pos}(hN:X.N[i]? =some x:=by rfl)(hv:Vis X.env.scope x:=by first|exact Qn rfl|exact Qi (Qn rfl)|exact Qi (Qi rfl))(hd:(x==("__debug__" : Str))=false:=by decide)
  (hcd:(x==("__classdict__" : Str))=false:=by decide):ME X io true true (.Name x pos) (Z7v i):=by
 refine⟨_,pv i hN hv hd hcd,λC H σ δ fp ex K Q R h k=>?_⟩
 unfold Z7v at h
 split at h
 ·rename_i d hd
  obtain⟨v,e,o⟩:=R.own i _ hd
  refine⟨v,e,k H v _ δ fp [] (.fz R (.refl _ _ _ _) ?_) h⟩
  generalize fp i=as at o
  cases o with
  | fz q=>exact q.wide λa l _ _=>l
 ·exact h.elim
theorem mo(i:Nat){x:Str}{pos:Pos}(hN:X.N[i]? =some x:=by rfl)(hv:Vis X.env.scope x:=by first|exact Qn rfl|exact Qi (Qn rfl)|exact Qi (Qi rfl))(hd:(x==("__debug__" : Str))=false:=by decide)
  (hcd:(x==("__classdict__" : Str))=false:=by decide):ME X io true false (.Name x pos) (Z8a i):=by
 refine⟨_,pv i hN hv hd hcd,λC H σ δ fp ex K Q R h k=>?_⟩
 unfold Z8a at h
 split at h
 ·rename_i d hd
  obtain⟨v,e,o⟩:=R.own i _ hd
  exact⟨v,e,k H v _ δ fp [] (.fz R (.refl _ _ _ _) (o.da (λa _ _ z=>(nomatch z)) λa _ z=>(nomatch z))) h⟩
 ·exact h.elim
theorem Zmv{t:V}{d:Xa}(h:PE X e (tC t))(s:ScD t d):ME X io true true e (mC d) :=
 ⟨_,h,λC H σ δ fp ex K Q R h k=>k H t _ δ fp [] (.fz R (.refl _ _ _ _) s.da) h⟩
theorem Z3v{i j pos}:ME X io true true (.Constant (.int i) j pos) (mC (.int i)):=Zmv Z58 (.int i)
theorem Zmf{b j pos}:ME X io true true (.Constant (.bool b) j pos) (mC (.bool b)):=Zmv Yan (.bl b)
theorem Zou{j pos}:ME X io true true (.Constant .none j pos) (mC .none):=Zmv Z4l .non
theorem SE.two{ta tb:TE}(ha:SE G io p c ta ma)(hb:SE G io p' c' tb mb)(hc:p'=true∨c=true){C:MC G}{H:Hp}{σ:St}{δ:Ze}{fp:Fp}{ex:Addr->Prop}{K:OT->OT->Ze->Prop}{Q:V->V->Hp->Prop}
  (R:Rel C io H σ δ fp ex) (h:ma δ λx δ1=>mb δ1 λy δ2=>K x y δ2)
  (k:∀H' x y u v δ' fp',Rel C io H' σ δ' fp' ex->Stp (p&&p') H δ fp H' δ' fp'->Da G H' (λa=>(c&&c')=true->Lf C fp' ex a) x u.data->Da G H' (λa=>(c&&c')=true->Lf C fp' ex a) y v.data->K u v δ'->Q x y H') :
  ta σ H λx H1=>tb σ H1 λy H2=>Q x y H2:=by
 refine ha C H σ δ fp ex _ _ R h λH1 x u δ1 fp1 new1 r1 h1=>?_
 refine hb C H1 σ δ1 fp1 (exu ex new1) _ _ r1.rel h1 λH2 y v δ2 fp2 new2 r2 h2=>?_
 have o1:=r1.rel.own_step (ex':=exu (exu ex new1) new2) r2.stp (c:=c) hc (λa z=>z.imp id λz=>r2.fresh a z) (λa m=>.inr m) r1.own
 have R2:Rel C io H2 σ δ2 fp2 ex:=r2.rel.drop λa z=>.inl (.inl z)
 have q1:Da G H2 (λa=>c=true->Lf C fp2 ex a) x u.data:=by
  refine o1.da (λa l _ z=>?_) (λa m z=>?_)
  ·exact⟨(l z).1,λw=>(l z).2.1 (.inl (.inl w)),(l z).2.2⟩
  ·have:=R.newOk (r1.fresh a m)
   refine⟨λqz9=>?_,this.2.1,.inr this.2.2⟩
   obtain⟨i,w⟩:=qz9
   exact r2.rel.dx i a w (.inl (.inr m))
 have q2:=r2.da r1.rel
 refine k H2 x y u v δ2 fp2 R2 (r1.stp.trans r2.stp) (q1.wide λa l _ z=>l (by rw[XN]at z;exact z.1)) (q2.wide λa l _ z=>?_) h2
 have l:=l (by rw[XN]at z;exact z.2)
 exact⟨l.1,λw=>l.2.1 (.inl w),l.2.2⟩
noncomputable def P2s(G:Xb)(r:R2)(rp:Xa->Xa->(Xa->Prop)->Prop):Prop:=∀(H:Hp) (L:Addr->Prop) (x y:V) (d e:Xa) (k:Xa->Prop) (Q:VK),Da G H L x d->Da G H L y e->rp d e k->(∀v d',ScD v d'->k d'->Q v H)->r x y H Q
noncomputable def P2(G:Xb)(r:R2)(rp:Xa->Xa->(OT->Prop)->Prop):Prop:=∀(H:Hp) (L:Addr->Prop) (x y:V) (d e:Xa) (k:OT->Prop) (Q:VK),Da G H L x d->Da G H L y e->rp d e k ->
 (∀ H' v o new,Same H H'->Own G H' (λa=>(L a∨H a=none)∧a∉new) v o new->new.Nodup->(∀a∈new,H a=none)->k o->Q v H')->r x y H Q
noncomputable def Zmn(rp:Xa->Xa->(Xa->Prop)->Prop)(ma mb:MEt):MEt:=λδ K=>ma δ λx δ1=>mb δ1 λy δ2=>rp x.data y.data λd=>K (.fz d) δ2
noncomputable def Z79(rp:Xa->Xa->(OT->Prop)->Prop)(ma mb:MEt):MEt:=λδ K=>ma δ λx δ1=>mb δ1 λy δ2=>rp x.data y.data λd=>K d δ2
theorem Zyw{r:R2}{rp}{ta tb:TE}(P:P2s G r rp)(ha:SE G io p c ta ma)(hb:SE G io p' c' tb mb)(hc:p'=true∨c=true):SE G io (p&&p') true (tOp r ta tb) (Zmn rp ma mb):=by
 intro C H σ δ fp ex K Q R h k
 refine SE.two (K:=λx y δ2=>rp x.data y.data λd=>K (.fz d) δ2) (Q:=λx y H2=>r x y H2 Q) ha hb hc R h λH' x y u v δ' fp' R' S q1 q2 h'=>?_
 exact P H' _ x y _ _ _ _ q1 q2 h' λw d' sc h''=>k H' w _ δ' fp' [] (.fz R' S sc.da) h''
theorem Yby{r:R2}{rp}{ta tb:TE}(P:P2 G r rp)(ha:SE G io p c ta ma)(hb:SE G io p' c' tb mb)(hc:p'=true∨c=true):SE G io (p&&p') (c&&c') (tOp r ta tb) (Z79 rp ma mb):=by
 intro C H σ δ fp ex K Q R h k
 refine SE.two (K:=λx y δ2=>rp x.data y.data λd=>K d δ2) (Q:=λx y H2=>r x y H2 Q) ha hb hc R h λH' x y u v δ' fp' R' S q1 q2 h'=>?_
 exact P H' _ x y _ _ _ _ q1 q2 h' λH2 w o new s ow nd hn h''=>k H2 w o δ' fp' new (RE.tree R R' S s hn nd ow) h''
theorem Zha{op:Operator}{r:R2}{rp}{pos:Pos}(ho:OpR X (Vb op) r)(P:P2s X.K r rp)(ha:ME X io p c a ma)(hb:ME X io p' c' b mb)(hc:p'=true∨c=true:=by first|exact Qn rfl|exact Qi rfl):ME X io (p&&p') true (.BinOp a op b pos) (Zmn rp ma mb):=by
 obtain⟨_,A,sa⟩:=ha
 obtain⟨_,B,sb⟩:=hb
 exact⟨_,Zzh ho A B,Zyw P sa sb hc⟩
theorem Z13{op:Operator}{r:R2}{rp}{pos:Pos}(ho:OpR X (Vb op) r)(P:P2 X.K r rp)(ha:ME X io p c a ma)(hb:ME X io p' c' b mb)(hc:p'=true∨c=true:=by first|exact Qn rfl|exact Qi rfl):ME X io (p&&p') (c&&c') (.BinOp a op b pos) (Z79 rp ma mb):=by
 obtain⟨_,A,sa⟩:=ha
 obtain⟨_,B,sb⟩:=hb
 exact⟨_,Zzh ho A B,Yby P sa sb hc⟩
theorem Z1g{op:CmpOp}{r:R2}{rp}{pos:Pos}(ho:OpR X (Bg op) r)(P:P2s X.K r rp)(ha:ME X io p c a ma)(hb:ME X io p' c' b mb)(hc:p'=true∨c=true:=by first|exact Qn rfl|exact Qi rfl)(hm:Uc op b=false):ME X io (p&&p') true (.Compare a [op] [b] pos) (Zmn rp ma mb):=by
 obtain⟨_,A,sa⟩:=ha
 obtain⟨_,B,sb⟩:=hb
 exact⟨_,Zzs ho A B hm,Zyw P sa sb hc⟩
theorem Yf1{r:R2}{rp}{pos:Pos}(ho:IxR X r)(P:P2 X.K r rp)(ha:ME X io p c a ma)(hb:ME X io p' c' b mb)(hc:p'=true∨c=true:=by first|exact Qn rfl|exact Qi rfl)(hs:Zgw b):ME X io (p&&p') (c&&c') (.Subscript a b pos) (Z79 rp ma mb):=by
 obtain⟨_,A,sa⟩:=ha
 obtain⟨_,B,sb⟩:=hb
 exact⟨_,Z1k ho A B hs,Yby P sa sb hc⟩
noncomputable def kB(K:Bool->Ze->Prop):OT->Ze->Prop:=λo δ=>match o with| .fz (.bool b)=>K b δ|_=>False
theorem Z8x{t:TE}(h:SE G io p c t m):STt G io p (Z37 t) (λδ K=>m δ (kB K)):=by
 intro C H σ δ fp ex K Q R h' k
 refine h C H σ δ fp ex _ _ R h' λH' v r δ' fp' new r1 h1=>?_
 cases r with
 | nd ts=>exact h1.elim
 | tp ts=>exact h1.elim
 | dc _ _ _=>exact h1.elim
 | fz d=>
  cases d with
  | bool b=>
   cases r1.own with
   | fz q=>
    cases q
    exact⟨b,rfl,k H' b δ' fp' r1.base r1.stp h1⟩
  | _=>exact h1.elim
theorem Zb5{op:CmpOp}{r:R2}{rp}{pos:Pos}(ho:OpR X (Bg op) r)(P:P2s X.K r rp)(ha:ME X io p c a ma)(hb:ME X io p' c' b mb)(hc:p'=true∨c=true:=by first|exact Qn rfl|exact Qi rfl)(hm:Uc op b=false) :
  MT X io (p&&p') (.Compare a [op] [b] pos) (λδ K=>Zmn rp ma mb δ (kB K)):=by
 obtain⟨_,A,sa⟩:=ha
 obtain⟨_,B,sb⟩:=hb
 exact⟨_,Zyb ho A B hm,Z8x (Zyw P sa sb hc)⟩
end
variable {G:Xb}
section
variable {X:Cx}{io:List Nat}{p p' p'' c c':Bool}{e a b:Expr}{m ma mb:MEt}{es rest:List Expr}{ta tb:MTt}{pos:Pos}
noncomputable def Ybu(t:MTt):MTt:=λδ K=>t δ λb δ'=>K (!b) δ'
noncomputable def Ydc(t u:MTt):MTt:=λδ K=>t δ λb δ'=>if b=true then u δ' K else K false δ'
noncomputable def mOr(t u:MTt):MTt:=λδ K=>t δ λb δ'=>if b=true then K true δ' else u δ' K
theorem Z5i(h:MT X io p a ta):MT X io p (.UnaryOp .Not a pos) (Ybu ta):=by
 obtain⟨_,A,sa⟩:=h
 exact⟨_,Z3c A,λC H σ δ fp ex K Q R h k=>sa C H σ δ fp ex _ _ R h λH' b δ' fp' R' S h'=>k H' (!b) δ' fp' R' S h'⟩
theorem Zzx(h:MT X io p a ta):MW X io p (.BoolOp .And [a] pos) ta:=by
 obtain⟨_,A,sa⟩:=h
 exact⟨_,Z1m A,sa⟩
theorem Zg3(h:MT X io p a ta):MW X io p (.BoolOp .Or [a] pos) ta:=by
 obtain⟨_,A,sa⟩:=h
 exact⟨_,Z3s A,sa⟩
theorem Stp.andL{H H':Hp}{δ δ':Ze}{fp fp':Fp}(S:Stp p H δ fp H' δ' fp'):Stp (p&&p') H δ fp H' δ' fp':=by
 have:=S.trans (Stp.refl p' H' δ' fp')
 exact this
theorem Z54(h:MT X io p a ta)(g:MW X io p' (.BoolOp .And (b :: rest) pos) tb):MW X io (p&&p') (.BoolOp .And (a :: b :: rest) pos) (Ydc ta tb):=by
 obtain⟨_,A,sa⟩:=h
 obtain⟨_,B,sb⟩:=g
 exact⟨_,Z6y A B,λC H σ δ fp ex K Q R h k=>sa C H σ δ fp ex _ _ R h λH' b δ' fp' R' S h'=>by
  cases b with
  | true=>
   rw[if_pos rfl]at h'⊢
   exact sb C H' σ δ' fp' ex _ _ R' h' λH2 b2 δ2 fp2 R2 S2 h2=>k H2 b2 δ2 fp2 R2 (S.trans S2) h2
  | false=>
   rw[if_neg XC]at h'⊢
   exact k H' false δ' fp' R' S.andL h'⟩
theorem Zj3(h:MT X io p a ta)(g:MW X io p' (.BoolOp .Or (b :: rest) pos) tb):MW X io (p&&p') (.BoolOp .Or (a :: b :: rest) pos) (mOr ta tb):=by
 obtain⟨_,A,sa⟩:=h
 obtain⟨_,B,sb⟩:=g
 exact⟨_,Z9m A B,λC H σ δ fp ex K Q R h k=>sa C H σ δ fp ex _ _ R h λH' b δ' fp' R' S h'=>by
  cases b with
  | true=>
   rw[if_pos rfl]at h'⊢
   exact k H' true δ' fp' R' S.andL h'
  | false=>
   rw[if_neg XC]at h'⊢
   exact sb C H' σ δ' fp' ex _ _ R' h' λH2 b2 δ2 fp2 R2 S2 h2=>k H2 b2 δ2 fp2 R2 (S.trans S2) h2⟩
theorem MW.mt(h:MW X io p e ta):MT X io p e ta:=by
 obtain⟨_,A,sa⟩:=h
 exact⟨_,A.pt,sa⟩
noncomputable def Zt1:Xa->Option Bool
 | .none=>some false
 | .bool b=>some b
 | .int i=>some (i !=0)
 | .list ds=>some (!ds.isEmpty)
 | .tuple ds=>some (!ds.isEmpty)
 | _=>none
noncomputable def Ycg(m:MEt):MTt:=λδ K=>m δ λr δ'=>match Zt1 r.data with|some b=>K b δ'|none=>False
theorem Das.isEmpty{H:Hp}{L:Addr->Prop}{xs:List V}{ds:List Xa}(h:Das G H L xs ds):xs.isEmpty=ds.isEmpty:=by cases h<;>rfl
theorem Zeb(ha:ME X io p c a ma)(he:∀whole,isTrue a X.env whole=(do let v←whole;standAt a.pos;holding [v] (truthy v))):MT X io p a (Ycg ma):=by
 obtain⟨_,A,sa⟩:=ha
 exact⟨_,Zy0 rfl A he,λC H σ δ fp ex K' Q R h k=>sa C H σ δ fp ex _ _ R h λH' v r δ' fp' new r1 h1=>by
  have q:=r1.da R
  generalize r.data=d at q h1
  cases q with
  | non=>exact⟨_,rfl,k H' _ δ' fp' r1.base r1.stp h1⟩
  | bl b=>exact⟨_,rfl,k H' _ δ' fp' r1.base r1.stp h1⟩
  | int b=>exact⟨_,rfl,k H' _ δ' fp' r1.base r1.stp h1⟩
  | str x=>exact h1.elim
  | lst _ e q=>exact⟨_,.inl ⟨_,.inl e,rfl⟩,k H' _ δ' fp' r1.base r1.stp (by rw[q.isEmpty];exact h1)⟩
  | tup e q=>exact⟨_,.inr (.inl ⟨_,.inl (.inl e),rfl⟩),k H' _ δ' fp' r1.base r1.stp (by rw[q.isEmpty];exact h1)⟩
  | scr q=>exact⟨_,.inl ⟨_,q.sq,rfl⟩,k H' _ δ' fp' r1.base r1.stp (by simpa [Zt1]using h1)⟩
  | exc _ _ _=>exact h1.elim
  | fn _=>exact h1.elim
  | dic _ _ _ _=>exact h1.elim⟩
noncomputable def asB(d:Xa)(k:Bool->Prop):Prop:=match d with| .bool b=>k b|_=>False
noncomputable def Z4c(a b:MEt):MEt:=λδ K=>a δ λx δ1=>asB x.data λc=>if c=true then b δ1 K else K (.fz (.bool false)) δ1
noncomputable def Z32(a:MEt):MEt:=λδ K=>a δ λx δ1=>asB x.data λc=>K (.fz (.bool (!c))) δ1
noncomputable def mIf(t:MTt)(a b:MEt):MEt:=λδ K=>t δ λc δ1=>if c=true then a δ1 K else b δ1 K
theorem Da.boolInv{H:Hp}{L:Addr->Prop}{v:V}{d:Xa}{k:Bool->Prop}(q:Da G H L v d)(h:asB d k):∃b,v= .bl b∧k b:=by
 cases q with
 | bl b=>exact⟨b,rfl,h⟩
 | _=>exact h.elim
theorem RE.step{C:MC G}{H H1 H2:Hp}{σ:St}{δ δ1 δ2:Ze}{fp fp1 fp2:Fp}{ex:Addr->Prop}{v:V}{r:OT}{new:List Addr}(S:Stp p H δ fp H1 δ1 fp1)(R:RE C io p' c H1 σ δ1 fp1 ex H2 v r δ2 fp2 new) :
  RE C io (p&&p') c H σ δ fp ex H2 v r δ2 fp2 new:=⟨R.rel,S.trans R.stp,R.own,R.nd,λa m=>S.al a (R.fresh a m)⟩
theorem Z9z{op}(h:ME X io p c a ma):ME X io p c (.BoolOp op [a] pos) ma:=by
 obtain⟨_,A,sa⟩:=h
 exact⟨_,Z3d A,sa⟩
theorem Ybc(ha:ME X io p c a ma)(hb:ME X io p' c' (.BoolOp .And (b :: rest) pos) mb):ME X io (p&&p') c' (.BoolOp .And (a :: b :: rest) pos) (Z4c ma mb):=by
 obtain⟨_,A,sa⟩:=ha
 obtain⟨_,B,sb⟩:=hb
 exact⟨_,Z5l A B,λC H σ δ fp ex K Q R h k=>sa C H σ δ fp ex _ _ R h λH' v r δ' fp' new r1 h1=>by
  obtain⟨b,rfl,h1⟩:=(r1.da R).boolInv h1
  refine⟨b,rfl,?_⟩
  cases b with
  | true=>
   rw[if_pos rfl]at h1⊢
   exact sb C H' σ δ' fp' ex _ _ r1.base h1 λH2 w r2 δ2 fp2 new2 R2 h2=>k H2 w r2 δ2 fp2 new2 (R2.step r1.stp) h2
  | false=>
   rw[if_neg XC]at h1⊢
   exact k H' _ _ δ' fp' [] (RE.fz r1.base r1.stp.andL (.bl false)) h1⟩
theorem Ya9(ha:ME X io p c a ma):ME X io p true (.UnaryOp .Not a pos) (Z32 ma):=by
 obtain⟨_,A,sa⟩:=ha
 exact⟨_,Z7c A,λC H σ δ fp ex K Q R h k=>sa C H σ δ fp ex _ _ R h λH' v r δ' fp' new r1 h1=>by
  obtain⟨b,rfl,h1⟩:=(r1.da R).boolInv h1
  exact⟨b,rfl,k H' _ _ δ' fp' [] (RE.fz r1.base r1.stp (.bl _)) h1⟩⟩
theorem Stp.cast{p p':Bool}{H H':Hp}{δ δ':Ze}{fp fp':Fp}(h:p'=true->p=true)(S:Stp p H δ fp H' δ' fp'):Stp p' H δ fp H' δ' fp' :=
 ⟨λb o e q=>S.keep b o e (q.imp h id),λq=>S.env (h q),S.grow,S.al⟩
theorem RE.cast{C:MC G}{H H1:Hp}{σ:St}{δ δ1:Ze}{fp fp1:Fp}{ex:Addr->Prop}{v:V}{r:OT}{new:List Addr}(hp:p'=true->p=true)(hc:c'=true->c=true)(R:RE C io p c H σ δ fp ex H1 v r δ1 fp1 new) :
  RE C io p' c' H σ δ fp ex H1 v r δ1 fp1 new:=⟨R.rel,R.stp.cast hp,R.own.wide λa l _ z=>l (hc z),R.nd,R.fresh⟩
theorem Yez{t:Expr}(ht:MT X io p t ta)(ha:ME X io p' c a ma)(hb:ME X io p'' c' b mb):ME X io (p&&(p'&&p'')) (c&&c') (.IfExp t a b pos) (mIf ta ma mb):=by
 obtain⟨_,T,st⟩:=ht
 obtain⟨_,A,sa⟩:=ha
 obtain⟨_,B,sb⟩:=hb
 exact⟨_,Zvm T A B,λC H σ δ fp ex K Q R h k=>st C H σ δ fp ex _ _ R h λH' b δ' fp' R' S h'=>by
  cases b with
  | true=>
   rw[if_pos rfl]at h'⊢
   exact sa C H' σ δ' fp' ex _ _ R' h' λH2 w r2 δ2 fp2 new2 R2 h2=>k H2 w r2 δ2 fp2 new2 ((R2.step S).cast (λz=>by simp at z;simp[z]) (λz=>by simp at z;exact z.1)) h2
  | false=>
   rw[if_neg XC]at h'⊢
   exact sb C H' σ δ' fp' ex _ _ R' h' λH2 w r2 δ2 fp2 new2 R2 h2=>k H2 w r2 δ2 fp2 new2 ((R2.step S).cast (λz=>by simp at z;simp[z]) (λz=>by simp at z;exact z.2)) h2⟩
end
section
variable {X:Cx}{io:List Nat}{p p' p'' c c':Bool}{e a b:Expr}{m ma mb:MEt}{es rest:List Expr}{mr:MAt}{pos:Pos}
noncomputable def Ych:MAt:=λδ K=>K [] δ
noncomputable def Z2s(m:MEt)(mr:MAt):MAt:=λδ K=>m δ λr δ1=>mr δ1 λrs δ2=>K (r :: rs) δ2
theorem Z47:MA X io true true [] Ych:=⟨_,Zh1,λC H σ δ fp ex K Q R h k=>k H [] [] δ fp [] ⟨R.drop λa z=>Za4.mp z,.refl _ _ _ _,.nil,.nil,λa m=>nomatch m⟩ h⟩
theorem Z1y(ha:ME X io p c e m)(hr:MA X io p' c' es mr)(hc:p'=true∨c=true)(hs:Xp (e :: es) X.env=(false,eval e X.env) :: Xp es X.env:=by rfl):MA X io (p&&p') (c&&c') (e :: es) (Z2s m mr):=by
 obtain⟨tA,A,sa⟩:=ha
 obtain⟨tB,B,sb⟩:=hr
 refine⟨_,Zbs A B hs,λC H σ δ fp ex K Q R h k=>?_⟩
 refine sa C H σ δ fp ex _ _ R h λH1 x u δ1 fp1 new1 r1 h1=>?_
 refine sb C H1 σ δ1 fp1 (exu ex new1) _ _ r1.rel h1 λH2 ys us δ2 fp2 new2 r2 h2=>?_
 have o1:=r1.rel.own_step (ex':=exu (exu ex new1) new2) r2.stp (c:=c) hc (λa z=>z.imp id λz=>r2.fresh a z) (λa m=>.inr m) r1.own
 have eqx:∀a,exu ex (new1 ++ new2) a->exu (exu ex new1) new2 a:=λa z=>by
  rcases z with z|z
  ·exact .inl (.inl z)
  ·rcases Ql.mp z with z|z
   ·exact .inl (.inr z)
   ·exact .inr z
 refine k H2 (x :: ys) (u :: us) δ2 fp2 (new1 ++ new2) ⟨r2.rel.drop eqx,r1.stp.trans r2.stp,.cons (o1.wide λa l _ z=>?_) (r2.own.wide λa l _ z=>?_),?_,?_⟩ h2
 ·have l:=l (by rw[XN]at z;exact z.1)
  exact⟨l.1,λw=>l.2.1 (eqx a w),l.2.2⟩
 ·have l:=l (by rw[XN]at z;exact z.2)
  exact⟨l.1,λw=>l.2.1 (eqx a w),l.2.2⟩
 ·refine Ba.mpr ⟨r1.nd,r2.nd,λa m b m' z=>?_⟩
  subst z
  obtain⟨xs,e⟩:=r1.own.some a m
  rw[r2.fresh a m']at e
  cases e
 ·intro a m
  rcases Ql.mp m with m|m
  ·exact r1.fresh a m
  ·exact r1.stp.al a (r2.fresh a m)
noncomputable def Ydy(m:MAt):MEt:=λδ K=>m δ λrs δ'=>rs.length≤Xr∧K (.fz (.tuple (OT.datas rs))) δ'
noncomputable def Yc5(m:MAt):MEt:=λδ K=>m δ λrs δ'=>rs.length≤Xr∧K (.nd rs) δ'
theorem Z9i{x1}(h:MA X io p c es mr):ME X io p c (.Tuple es x1 pos) (Ydy mr):=by
 obtain⟨tA,A,sa⟩:=h
 refine⟨_,Z7e A,λC H σ δ fp ex K Q R h k=>?_⟩
 refine sa C H σ δ fp ex _ _ R h λH1 vs rs δ1 fp1 new1 r1 h1=>⟨by rw[r1.own.length];exact h1.1,λq hq=>?_⟩
 have s:=Yv hq (.tup vs)
 have R1:=r1.base
 have S:=r1.stp.trans (p':=true) (Stp.same (p:=true) (δ:=δ1) (fp:=fp1) s s.al)
 rw[UW]at S
 refine k _ _ _ δ1 fp1 [] (.fz ?_ S (.tup Zx ((r1.das R).same s))) h1.2
 exact(R1.made (new:=[]) s λa m=>nomatch m).drop λa z=>.inl z
theorem Yaw(h:MA X io p c es mr):ME X io p c (.List es pos) (Yc5 mr):=by
 obtain⟨tA,A,sa⟩:=h
 refine⟨_,Zwm A,λC H σ δ fp ex K Q R h k=>?_⟩
 refine sa C H σ δ fp ex _ _ R h λH1 vs rs δ1 fp1 new1 r1 h1=>⟨by rw[r1.own.length];exact h1.1,λq hq=>?_⟩
 have s:=Yv hq (.lst vs)
 have S:=r1.stp.trans (p':=true) (Stp.same (p:=true) (δ:=δ1) (fp:=fp1) s s.al)
 rw[UW]at S
 have hqn:q∉new1:=λm=>by
  obtain⟨xs,e⟩:=r1.own.some q m
  rw[hq]at e;cases e
 have R2:=(r1.rel.made (new:=[q]) s λa m=>by
  rcases Xy.mp m with rfl
  exact⟨hq,by rw[Zx];intro z;cases z⟩)
 have eqx:∀a,exu ex (q :: new1) a->exu (exu ex new1) [q] a:=λa z=>by
  rcases z with z|z
  ·exact .inl (.inl z)
  ·rcases Xo.mp z with z|z
   ·exact .inr (Xy.mpr z)
   ·exact .inl (.inr z)
 refine k _ _ _ δ1 fp1 (q :: new1) ⟨R2.drop eqx,S,.nd Zx ((r1.own.wide λa l w z=>?_).same s),Qj.mpr ⟨hqn,r1.nd⟩,λa m=>?_⟩ h1.2
 ·have l:=l z
  refine⟨l.1,λy=>?_,l.2.2⟩
  rcases eqx a y with y|y
  ·exact l.2.1 y
  ·rcases Xy.mp y with rfl
   exact w hq
 ·rcases Xo.mp m with rfl|m
  ·exact r1.stp.al _ hq
  ·exact r1.fresh a m
end
variable {G:Xb}
noncomputable def spD(G:Xb)(S:List Xa->(OT->Prop)->Prop):Sp:=λvs H Q _=>∃L ds k,Das G H L vs ds∧S ds k∧
 ∀r v H' new,k r->Same H H'->Own G H' (λa=>(L a∨H a=none)∧a∉new) v r new->new.Nodup->(∀a∈new,H a=none)->Q v H'
noncomputable def spI(G:Xb)(S:OT->List Xa->(OT->OT->Prop)->Prop):Sp:=λvs H Q _=>∃L v0 t0 as vs' ds k,vs=v0 :: vs'∧Own G H L v0 t0 as∧as.Nodup∧(∀a∈as,¬L a)∧Das G H L vs' ds∧S t0 ds k∧
 ∀r t' v H' new as',k r t'->(∀b o,H b=some o->b∉as->H' b=some o)->(∀b,H' b=none->H b=none) ->
  Own G H' (λa=>(L a∨H a=none)∧a∉new∧a∉as') v r new->Own G H' (λa=>(L a∨H a=none)∧a∉new∧a∉as') v0 t' as'->(as' ++ new).Nodup->(∀a∈new,H a=none)->(∀a∈as',a∈as∨H a=none)->Q v H'
section
variable {X:Cx}{io:List Nat}{p p' p'' c c':Bool}{e a b:Expr}{m ma mb:MEt}{es rest:List Expr}{mr:MAt}{pos:Pos}
variable {CX:CXT}{k:Nat}{f:Addr}{fd:XD}{ps:List Str}{E:XK}{x:Str}{pp:Pos}
noncomputable def Zu7(S:List Xa->(OT->Prop)->Prop)(mr:MAt):MEt:=λδ K=>mr δ λrs δ1=>S (OT.datas rs) λr=>K r δ1
theorem Z4v{S}{t:TA}(sa:SA G io p c t mr):SE G io p c (Zuq (spD G S) [] E t) (Zu7 S mr):=by
 intro C H σ δ fp ex K Q R h kk
 refine sa C H σ δ fp ex _ _ R h λH1 vs rs δ1 fp1 new1 r1 h1=>?_
 rw[QT]
 refine⟨_,_,_,r1.das R,h1,λr v H' new kr s o nd hn=>?_⟩
 exact kk H' v r δ1 fp1 new (RE.tree R r1.base r1.stp s hn nd o) kr
theorem Z3y{S}(F:FnOk X.prog X.w X.K X.mg X.base CX k f fd ps (spD X.K S))(hr:Room k X.A)(hg:Gl X x)(hm:X.mg x=some (.ref f))(hk:JT X.K (.ref f)=true)(hb:Binds X.K fd ps [])(hx:Zh0 CX X E)
  (ha:MA X io p c (e :: es) mr) (hdb:(x==("__debug__" : Str))=false:=by decide) (he:Xp (e :: es) X.env=(false,eval e X.env) :: Xp es X.env:=by rfl) (hpl:(JG pos (Xp es X.env)).any (·.1)=false:=by rfl) :
  ME X io p c (.Call (.Name x pp) (e :: es) [] pos) (Zu7 S mr):=by
 obtain⟨_,A,sa⟩:=ha
 exact⟨_,Zqj F hr hg hm hk hb .nil hx A hdb he hpl,Z4v sa⟩
theorem Ye3(hg:Gl X x)(hm:X.mg x=some (.ref f))(hc:ClsAt X.K x f)(hdb:(x==("__debug__" : Str))=false:=by decide):ME X io true true (.Name x pos) (mC (fnD x)) :=
 ⟨_,Z1i (v:=.ref f) hg hm rfl hdb,λC H σ δ fp ex K Q R h k=>k H (.ref f) _ δ fp [] (.fz R (.refl _ _ _ _) (.fn hc)) h⟩
noncomputable def Z3i(i:Nat)(f:Addr)(sp:Sp)(E:XK)(t:TA):TE:=λσ H Q=>σ[i]? =some (some (.ref f))∧Zuq sp [] E t σ H Q
theorem Zvw{sp:Sp}{t:TA}{i:Nat}(F:FnOk X.prog X.w X.K X.mg X.base CX k f fd ps sp)(hr:Room k X.A)(hN:X.N[i]? =some x)(hv:Vis X.env.scope x)(hk:JT X.K (.ref f)=true)(hb:Binds X.K fd ps [])(hx:Zh0 CX X E)
  (ha:PA X (e :: es) t) (hdb:(x==("__debug__" : Str))=false:=by decide) (hcd:(x==("__classdict__" : Str))=false:=by decide) (he:Xp (e :: es) X.env=(false,eval e X.env) :: Xp es X.env:=by rfl) (hpl:(JG pos (Xp es X.env)).any (·.1)=false:=by rfl) :
  PE X (.Call (.Name x pp) (e :: es) [] pos) (Z3i i f sp E t):=by
 intro pins s σ H Q I h
 obtain⟨e0,h⟩:=h
 refine Vi (thn (Zxl hN hv hdb hcd pins s σ H (λv H'=>v= .ref f∧H'=H) I ⟨_,e0,rfl,rfl⟩) λu s0 q=>?_)
 obtain⟨v,H0,I0,r0,e1,e2⟩:=q
 subst e1 e2
 cases(show u=QJ f from r0)
 refine PySem.W.callWith_K (h₀:=X.base) I0.ok.mod.kin hk (thn (ha pos pins s0 σ H0 _ I0 h) λus s1 q=>?_) he hpl
 obtain⟨vs,H1,I1,r,q⟩:=q
 exact⟨I1.kIn,Zxa F hr hb .nil hx I1 r q⟩
noncomputable def Zwg(i:Nat)(y:Str)(S:List Xa->(OT->Prop)->Prop)(mr:MAt):MEt:=λδ K=>δ[i]? =some (some (.fz (fnD y)))∧Zu7 S mr δ K
theorem Da.fnInv{H:Hp}{L:Addr->Prop}{v:V}{y:Str}{f:Addr}(q:Da G H L v (fnD y))(hf:ClsAt G y f):v= .ref f:=by
 generalize ed:fnD y=d at q
 cases q with
 | fn h=>
  unfold fnD at ed
  injection ed with ed
  injection ed with ed _
  injection ed with ed _
  injection ed with ed
  subst ed
  have:=h.symm.trans hf
  injection this with this
  injection this with this
  injection this with this
  rw[this]
 | exc _ _ _=>unfold fnD exD at ed;cases ed
 | _=>unfold fnD at ed;cases ed
theorem Ztd{S}{i:Nat}{y:Str}(F:FnOk X.prog X.w X.K X.mg X.base CX k f fd ps (spD X.K S))(hr:Room k X.A)(hc:ClsAt X.K y f)(hk:JT X.K (.ref f)=true)(hb:Binds X.K fd ps [])(hx:Zh0 CX X E)
  (ha:MA X io p c (e :: es) mr) (hN:X.N[i]? =some x:=by rfl) (hv:Vis X.env.scope x:=by first|exact Qn rfl|exact Qi (Qn rfl)|exact Qi (Qi rfl)) (hdb:(x==("__debug__" : Str))=false:=by decide) (hcd:(x==("__classdict__" : Str))=false:=by decide)
  (he:Xp (e :: es) X.env=(false,eval e X.env) :: Xp es X.env:=by rfl) (hpl:(JG pos (Xp es X.env)).any (·.1)=false:=by rfl):ME X io p c (.Call (.Name x pp) (e :: es) [] pos) (Zwg i y S mr):=by
 obtain⟨_,A,sa⟩:=ha
 refine⟨_,Zvw F hr hN hv hk hb hx A hdb hcd he hpl,λC H σ δ fp ex K Q R h kk=>?_⟩
 obtain⟨h0,h⟩:=h
 obtain⟨v,e1,o⟩:=R.own i _ h0
 generalize fp i=as at o
 cases o with
 | fz q=>
  rw[q.fnInv hc]at e1
  exact⟨e1,Z4v sa C H σ δ fp ex K Q R h kk⟩
noncomputable def Zl7(i:Nat)(S:OT->List Xa->(OT->OT->Prop)->Prop)(mr:MAt):MEt:=λδ K=>match δ[i]? with
 | some (some _)=>mr δ λrs δ1=>match δ1[i]? with
  | some (some t)=>S t (OT.datas rs) λr t'=>K r (δ1.set i (some t'))
  | _=>False
 | _=>False
noncomputable def fpu(fp:Fp)(i:Nat)(as:List Addr):Fp:=λj=>if j=i then as else fp j
theorem Zy{fp:Fp}{i:Nat}{as:List Addr}:fpu fp i as i=as:=if_pos rfl
theorem Yh{fp:Fp}{i j:Nat}{as:List Addr}(h:j≠i):fpu fp i as j=fp j:=if_neg h
theorem Foot.of_u{fp:Fp}{i:Nat}{as:List Addr}{a:Addr}(h:Foot (fpu fp i as) a):a∈as∨∃j,j≠i∧a∈fp j:=by
 obtain⟨j,h⟩:=h
 by_cases e:j=i
 ·subst e;rw[Zy]at h;exact .inl h
 ·rw[Yh e]at h;exact .inr ⟨j,e,h⟩
theorem Rel.change{C:MC G}{H H':Hp}{σ:St}{δ:Ze}{fp:Fp}{ex:Addr->Prop}{i:Nat}{t t':OT}{v:V}{as' new:List Addr}(R:Rel C io H σ δ fp ex)(hi:δ[i]? =some (some t))(hv:σ[i]? =some (some v))
  (keep:∀b o,H b=some o->b∉fp i->H' b=some o) (al:∀b,H' b=none->H b=none) (o:Own G H' (Lf C (fpu fp i as') (exu ex new)) v t' as') (nd:as'.Nodup) (new':∀a∈as',a∈fp i∨H a=none)
  (hn:∀a∈new,H a=none∧H' a≠none∧a∉as') :
  Rel C io H' σ (δ.set i (some t')) (fpu fp i as') (exu ex new)∧Stp false H δ fp H' (δ.set i (some t')) (fpu fp i as'):=by
 have hil:i<δ.length:=(Xg.mp hi).1
 have apart:∀j a,j≠i->a∈fp j->a∉as':=λj a e m z=>by
  rcases new' a z with z|z
  ·exact e (R.dj j i a m z)
  ·exact R.footSome z ⟨j,m⟩
 constructor
 ·refine⟨by rw[Br];exact R.len,λj t'' e=>?_,λj h=>?_,λj=>?_,λj k a h1 h2=>?_,λj a h z=>?_,λa z w=>z.elim (λz=>R.xa a z (al a w)) (λz=>(hn a z).2.1 w),λb ob e n=>?_,λb z=>R.al b (al b z),λj a h=>?_,R.io⟩
  ·by_cases ej:j=i
   ·subst ej
    rw[Qo hil]at e
    cases e
    exact⟨v,hv,by rw[Zy];exact o⟩
   ·rw[Qh (Bb ej)]at e
    obtain⟨w,e1,o1⟩:=R.own j t'' e
    refine⟨w,e1,?_⟩
    rw[Yh ej]
    refine o1.frame (λa xs l q=>?_) (λa xs q=>keep a _ q λz=>?_) λa m xs q=>keep a _ q λz=>ej (R.dj j i a m z)
    ·have na:a∉fp i:=λz=>l.1 ⟨i,z⟩
     refine⟨⟨λz=>?_,λz=>z.elim l.2.1 λz=>q.some (hn a z).1,l.2.2⟩,?_⟩
     ·rcases z.of_u with z|⟨k,_,z⟩
      ·rcases new' a z with z|z
       ·exact na z
       ·exact q.some z
      ·exact l.1 ⟨k,z⟩
     ·rcases q with q|⟨u,q⟩
      ·exact .inl (keep a _ q na)
      ·exact .inr ⟨u,keep a _ q na⟩
    ·obtain⟨ys,e⟩:=R.foot ⟨i,z⟩
     exact ImO.nm q e
  ·by_cases ej:j=i
   ·subst ej
    exact absurd (Qo hil) (h t')
   ·rw[Yh ej]
    refine R.emp j λt'' z=>h t'' ?_
    rw[Qh (Bb ej)]
    exact z
  ·by_cases ej:j=i
   ·subst ej;rw[Zy];exact nd
   ·rw[Yh ej];exact R.nd j
  ·by_cases ej:j=i
   ·subst ej
    rw[Zy]at h1
    by_cases ek:k=j
    ·exact ek.symm
    ·rw[Yh ek]at h2
     exact absurd h1 (apart k a ek h2)
   ·rw[Yh ej]at h1
    by_cases ek:k=i
    ·subst ek
     rw[Zy]at h2
     exact absurd h2 (apart j a ej h1)
    ·rw[Yh ek]at h2
     exact R.dj j k a h1 h2
  ·by_cases ej:j=i
   ·subst ej
    rw[Zy]at h
    rcases z with z|z
    ·rcases new' a h with w|w
     ·exact R.dx _ a w z
     ·exact R.xa a z w
    ·exact(hn a z).2.2 h
   ·rw[Yh ej]at h
    rcases z with z|z
    ·exact R.dx j a h z
    ·exact R.footSome (hn a z).1 ⟨j,h⟩
  ·refine keep b ob (R.fr b ob e n) λz=>?_
   rcases R.new i b z with w|w
   ·exact n w.2
   ·rw[e]at w;cases w
  ·by_cases ej:j=i
   ·subst ej
    rw[Zy]at h
    rcases new' a h with w|w
    ·exact R.new _ a w
    ·exact .inr (R.al a w)
   ·rw[Yh ej]at h
    exact R.new j a h
 ·refine⟨λb ob e q=>keep b ob e λz=>(q.resolve_left (by decide)) ⟨i,z⟩,λz=>(nomatch z),λa z=>?_,al⟩
  rcases z.of_u with z|⟨j,_,z⟩
  ·exact(new' a z).imp (λw=>⟨i,w⟩) id
  ·exact .inl ⟨j,z⟩
theorem Z4y{S}{i:Nat}{t:TA}(sa:SA G io p true t mr):SE G io false true (Zuq (spI G S) [] E (Zzv (Z3o i) t)) (Zl7 i S mr):=by
 intro C H σ δ fp ex K Q R h kk
 unfold Zl7 at h
 split at h
 case h_2=>exact h.elim
 rename_i t0 hi0
 obtain⟨v0,hv,_⟩:=R.own i t0 hi0
 refine⟨v0,hv,?_⟩
 refine sa C H σ δ fp ex _ _ R h λH1 vs rs δ1 fp1 new1 r1 h1=>?_
 show spI G S ((v0 :: vs) ++ []) H1 Q E
 rw[QT]
 split at h1
 case h_2=>exact h1.elim
 rename_i t1 hi1
 have R1:=r1.base
 obtain⟨v1,hv1,o1⟩:=R1.own i t1 hi1
 rw[hv]at hv1
 cases hv1
 refine⟨Lf C fp1 ex,v0,t1,fp1 i,vs,_,_,rfl,o1,R1.nd i,λa m l=>l.1 ⟨i,m⟩,(r1.das R).wide λa l _=>l rfl,h1,?_⟩
 intro r t' v H' new as' kr keep al orr ot nd hn ha
 have nd2:=Ba.mp nd
 have lw:∀a,((Lf C fp1 ex a∨H1 a=none)∧a∉new∧a∉as')->H' a≠none->Lf C (fpu fp1 i as') (exu ex new) a:=λa l _=>by
  have hf:¬Foot (fpu fp1 i as') a:=λz=>by
   rcases z.of_u with z|⟨j,_,z⟩
   ·exact l.2.2 z
   ·rcases l.1 with l1|l1
    ·exact l1.1 ⟨j,z⟩
    ·exact R1.footSome l1 ⟨j,z⟩
  rcases l.1 with l1|l1
  ·exact⟨hf,λz=>z.elim l1.2.1 l.2.1,l1.2.2⟩
  ·have:=R1.newOk l1
   exact⟨hf,λz=>z.elim this.2.1 l.2.1,.inr this.2.2⟩
 have hnn:∀a∈new,H' a≠none:=λa m z=>by
  obtain⟨xs,e⟩:=orr.some a m
  rw[z]at e;cases e
 obtain⟨R2,S2⟩:=R1.change (new:=new) hi1 hv keep al (ot.wide lw) nd2.1 ha (λa m=>⟨hn a m,hnn a m,λz=>nd2.2.2 a z a m rfl⟩)
 refine kk H' v r _ _ new ⟨R2,?_,orr.wide λa l q _=>lw a l q,nd2.2.1,λa m=>r1.stp.al a (hn a m)⟩ kr
 exact(r1.stp.trans S2).cast λz=>nomatch z
theorem W2{S}{i:Nat}{y:Str}{py:Pos}(F:FnOk X.prog X.w X.K X.mg X.base CX k f fd ps (spI X.K S))(hr:Room k X.A)(hg:Gl X x)(hm:X.mg x=some (.ref f))(hk:JT X.K (.ref f)=true)(hb:Binds X.K fd ps [])(hx:Zh0 CX X E)
  (ha:MA X io p true es mr) (hN:X.N[i]? =some y:=by rfl) (hv:Vis X.env.scope y:=by first|exact Qn rfl|exact Qi (Qn rfl)|exact Qi (Qi rfl)) (hd:(y==("__debug__" : Str))=false:=by decide)
  (hcd:(y==("__classdict__" : Str))=false:=by decide)
  (hdb:(x==("__debug__" : Str))=false:=by decide) (he:Xp (.Name y py :: es) X.env=(false,eval (.Name y py) X.env) :: Xp es X.env:=by rfl) (hpl:(JG pos (Xp es X.env)).any (·.1)=false:=by rfl) :
  ME X io false true (.Call (.Name x pp) (.Name y py :: es) [] pos) (Zl7 i S mr):=by
 obtain⟨_,A,sa⟩:=ha
 exact⟨_,Zqj F hr hg hm hk hb .nil hx (Zbs (pv i hN hv hd hcd) A he) hdb he hpl,Z4y sa⟩
noncomputable def PNs(G:Xb)(r:List V->Hp->VK->Prop)(rp:List Xa->(Xa->Prop)->Prop):Prop:=∀(H:Hp) (L:Addr->Prop) (xs:List V) (ds:List Xa) (k:Xa->Prop) (Q:VK),Das G H L xs ds->rp ds k->(∀v d',ScD v d'->k d'->Q v H)->r xs H Q
noncomputable def PN(G:Xb)(r:List V->Hp->VK->Prop)(rp:List Xa->(OT->Prop)->Prop):Prop:=∀(H:Hp) (L:Addr->Prop) (xs:List V) (ds:List Xa) (k:OT->Prop) (Q:VK),Das G H L xs ds->rp ds k ->
 (∀ H' v o new,Same H H'->Own G H' (λa=>(L a∨H a=none)∧a∉new) v o new->new.Nodup->(∀a∈new,H a=none)->k o->Q v H')->r xs H Q
noncomputable def Z7s(rp:List Xa->(Xa->Prop)->Prop)(mr:MAt):MEt:=λδ K=>mr δ λrs δ1=>rp (OT.datas rs) λd=>K (.fz d) δ1
noncomputable def mBl(rp:List Xa->(OT->Prop)->Prop)(mr:MAt):MEt:=λδ K=>mr δ λrs δ1=>rp (OT.datas rs) λo=>K o δ1
theorem Ycz{r rp}{t:TA}(P:PNs G r rp)(sa:SA G io p c t mr):SE G io p true (tCB r t) (Z7s rp mr):=λC H σ δ fp ex K Q R h kk=>
 sa C H σ δ fp ex _ _ R h λH1 vs rs δ1 fp1 new1 r1 h1=>P H1 _ vs _ _ _ (r1.das R) h1 λv d' sc h2=>kk H1 v _ δ1 fp1 [] (.fz r1.base r1.stp sc.da) h2
theorem sBl{r rp}{t:TA}(P:PN G r rp)(sa:SA G io p c t mr):SE G io p c (tCB r t) (mBl rp mr):=λC H σ δ fp ex K Q R h kk=>
 sa C H σ δ fp ex _ _ R h λH1 vs rs δ1 fp1 new1 r1 h1=>P H1 _ vs _ _ _ (r1.das R) h1 λH' v o new s ow nd hn h2=>kk H' v o δ1 fp1 new (RE.tree R r1.base r1.stp s hn nd ow) h2
variable {id T:String}{r:List V->Hp->VK->Prop}
theorem Zi6{rp}(P:PNs X.K r rp)(hc:Zes X (.builtin id) r)(hg:Gl X x)(hm:X.mg x=none)(hv:Qa x=some (.builtin id))(ha:MA X io p c (e :: es) mr)(hn:x≠"__name__" :=by decide)(hdb:(x==("__debug__" : Str))=false:=by decide)
  (he:Xp (e :: es) X.env=(false,eval e X.env) :: Xp es X.env:=by rfl) (hpl:(JG pos (Xp es X.env)).any (·.1)=false:=by rfl):ME X io p true (.Call (.Name x pp) (e :: es) [] pos) (Z7s rp mr):=by
 obtain⟨_,A,sa⟩:=ha
 exact⟨_,Zgc hc hg hm hv A hn hdb he hpl,Ycz P sa⟩
theorem Ycm{rp}(P:PN X.K r rp)(hc:Zes X (.builtin id) r)(hg:Gl X x)(hm:X.mg x=none)(hv:Qa x=some (.builtin id))(ha:MA X io p c (e :: es) mr)(hn:x≠"__name__" :=by decide)(hdb:(x==("__debug__" : Str))=false:=by decide)
  (he:Xp (e :: es) X.env=(false,eval e X.env) :: Xp es X.env:=by rfl) (hpl:(JG pos (Xp es X.env)).any (·.1)=false:=by rfl):ME X io p c (.Call (.Name x pp) (e :: es) [] pos) (mBl rp mr):=by
 obtain⟨_,A,sa⟩:=ha
 exact⟨_,Zgc hc hg hm hv A hn hdb he hpl,sBl P sa⟩
theorem Yak{rp}(P:PNs X.K r rp)(hc:Zes X (.type T) r)(hg:Gl X x)(hm:X.mg x=none)(hv:Qa x=some (.type T))(ha:MA X io p c (e :: es) mr)(hn:x≠"__name__" :=by decide)(hdb:(x==("__debug__" : Str))=false:=by decide)
  (he:Xp (e :: es) X.env=(false,eval e X.env) :: Xp es X.env:=by rfl) (hpl:(JG pos (Xp es X.env)).any (·.1)=false:=by rfl):ME X io p true (.Call (.Name x pp) (e :: es) [] pos) (Z7s rp mr):=by
 obtain⟨_,A,sa⟩:=ha
 exact⟨_,Zqv hc hg hm hv A hn hdb he hpl,Ycz P sa⟩
end
variable {G:Xb}
mutual
noncomputable def Zbi:Xa->Bool
 | .none=>true
 | .bool _=>true
 | .int _=>true
 | .str _=>true
 | .tuple ds=>Zk3 ds
 | .list _=>false
 | .dict _=>false
noncomputable def Zk3:List Xa->Bool
 | []=>true
 | d :: ds=>Zbi d&&Zk3 ds
end
theorem Da.flat2{H:Hp}{L L':Addr->Prop}:(∀{v:V} {d:Xa},Da G H L v d->Zbi d=true->Da G H L' v d)∧∀{v:List V} {d:List Xa},Das G H L v d->Zk3 d=true->Das G H L' v d :=
 Da.both (λ_=>.non) (λb _=>.bl b) (λi _=>.int i) (λx _=>.str x) (λ_ _ _ h=>by rw[Zbi]at h;cases h) (λe r h=>.tup e (r (by rw[Zbi]at h;exact h))) (λk _=>.scr k) (λc n e _=>.exc c n e) (λk _=>.fn k) (λ_ _ _ _ h=>by rw[dcD,Zbi]at h;cases h) (λ_=>.nil)
  (λk r h=>by rw[Zk3,XN]at h;exact .cons (k h.1) (r h.2))
theorem Da.flat{H:Hp}{L L':Addr->Prop}{v:V}{d:Xa}(h:Da G H L v d)(f:Zbi d=true):Da G H L' v d:=Da.flat2.1 h f
set_option genInjectivity false in
structure Zf9 where
 nx:Ze->Prop
 rt:OT->Ze->Prop
 bk:Ze->Prop:=λ_=>False
 ct:Ze->Prop:=λ_=>False
noncomputable abbrev MSt:=Zf9->Ze->Prop
noncomputable abbrev Kp(H:Hp)(fp:Fp)(H':Hp)(fp':Fp):Prop:=Stp false H [] fp H' [] fp'
theorem Stp.kp{p:Bool}{H H':Hp}{δ δ':Ze}{fp fp':Fp}(S:Stp p H δ fp H' δ' fp'):Kp H fp H' fp':=⟨λb o e q=>S.keep b o e (.inr (q.resolve_left (by decide))),λz=>(nomatch z),S.grow,S.al⟩
theorem Kp.trans{H H1 H2:Hp}{fp fp1 fp2:Fp}(a:Kp H fp H1 fp1)(b:Kp H1 fp1 H2 fp2):Kp H fp H2 fp2:=Stp.trans a b
theorem Kp.refl(H:Hp)(fp:Fp):Kp H fp H fp:=Stp.refl _ _ _ _
structure RelEnds(C:MC G)(io:List Nat)(ex:Addr->Prop)(H:Hp)(fp:Fp)(D:Zf9)(D':Ends):Prop where
 nx:∀H' σ' δ' fp',Rel C io H' σ' δ' fp' ex->Kp H fp H' fp'->D.nx δ'->D'.nx σ' H'
 bk:∀H' σ' δ' fp',Rel C io H' σ' δ' fp' ex->Kp H fp H' fp'->D.bk δ'->D'.bk σ' H'
 ct:∀H' σ' δ' fp',Rel C io H' σ' δ' fp' ex->Kp H fp H' fp'->D.ct δ'->D'.ct σ' H'
 rt:∀H' σ' v r δ' fp' new,Rel C io H' σ' δ' fp' (exu ex new)->Own G H' (Lf C fp' (exu ex new)) v r new->new.Nodup->(∀a∈new,C.H₀ a=none)->D.rt r δ'->D'.rt v H'
theorem RelEnds.shift{C:MC G}{io:List Nat}{ex:Addr->Prop}{H H1:Hp}{fp fp1:Fp}{D:Zf9}{D':Ends}(E:RelEnds C io ex H fp D D')(k:Kp H fp H1 fp1):RelEnds C io ex H1 fp1 D D' :=
 ⟨λH' σ' δ' fp' R q=>E.nx H' σ' δ' fp' R (k.trans q),λH' σ' δ' fp' R q=>E.bk H' σ' δ' fp' R (k.trans q),λH' σ' δ' fp' R q=>E.ct H' σ' δ' fp' R (k.trans q),E.rt⟩
noncomputable def SS(G:Xb)(io:List Nat)(t:TS)(m:MSt):Prop:=∀(C:MC G) (H:Hp) (σ:St) (δ:Ze) (fp:Fp) (ex:Addr->Prop) (D:Zf9) (D':Ends),Rel C io H σ δ fp ex->m D δ->RelEnds C io ex H fp D D'->t D' σ H
noncomputable def MS(X:Cx)(io:List Nat)(st:Stmt)(m:MSt):Prop:=∃t,PS X st t∧SS X.K io t m
noncomputable def MSs(X:Cx)(io:List Nat)(st:List Stmt)(m:MSt):Prop:=∃t,PSs X st t∧SS X.K io t m
section
variable {X:Cx}{io:List Nat}{p p' p'' c c':Bool}{e a b:Expr}{m ma mb:MEt}{es rest:List Expr}{mr:MAt}{pos:Pos}{st:Stmt}{sts:List Stmt}{u w:MSt}{mt:MTt}
noncomputable def Z5v:MSt:=λD δ=>D.nx δ
noncomputable def Hold(w:MSt)(D:Zf9)(δ:Ze):Prop:=w D δ
theorem Hold.go{w:MSt}{D:Zf9}{δ:Ze}(h:w D δ):Hold w D δ:=h
noncomputable def Yag(u w:MSt):MSt:=λD δ=>u { D with nx:=Hold w D } δ
theorem Zzo:MSs X io [] Z5v:=⟨_,Z0c,λC H σ δ fp ex D D' R h E=>E.nx H σ δ fp R (.refl _ _) h⟩
theorem Zc(h:MS X io st u):MSs X io [st] u:=by
 obtain⟨_,A,s⟩:=h
 exact⟨_,Zzf A,s⟩
theorem Zt6(h:MS X io st u)(g:MSs X io sts w):MSs X io (st :: sts) (Yag u w):=by
 obtain⟨_,A,s⟩:=h
 obtain⟨tb,B,s'⟩:=g
 exact⟨_,Zvi A B,λC H σ δ fp ex D D' R h E=>s C H σ δ fp ex _ _ R h ⟨λH1 σ1 δ1 fp1 R1 k1 h1=>s' C H1 σ1 δ1 fp1 ex D D' R1 h1 (E.shift k1),E.bk,E.ct,E.rt⟩⟩
noncomputable def Z27:MSt:=λ_ _=>False
theorem Zuc:MS X io st Z27:=⟨_,Zv2,λC H σ δ fp ex D D' R h E=>h.elim⟩
noncomputable def Z5e(m:MEt):MSt:=λD δ=>m δ λ_ δ'=>D.nx δ'
theorem Zmr(he:ME X io p c e m)(hs:Vm e none pos.line X.env=pure false:=by rfl):MS X io (.Expr e pos) (Z5e m):=by
 obtain⟨_,A,s⟩:=he
 exact⟨_,Zj7 A hs,λC H σ δ fp ex D D' R h E=>s C H σ δ fp ex _ _ R h λH' v r δ' fp' new r1 h1=>E.nx H' σ δ' fp' r1.base r1.stp.kp h1⟩
noncomputable def Ybz(m:MEt):MSt:=λD δ=>m δ λr δ'=>D.rt r δ'
theorem Z21(he:ME X io p true e m):MS X io (.Return (some e) pos) (Ybz m):=by
 obtain⟨_,A,s⟩:=he
 exact⟨_,Zwb A,λC H σ δ fp ex D D' R h E=>s C H σ δ fp ex _ _ R h λH' v r δ' fp' new r1 h1=>E.rt H' σ v r δ' fp' new r1.rel (r1.own.wide λa l _=>l rfl) r1.nd (λa m=>(R.newOk (r1.fresh a m)).2.2) h1⟩
noncomputable def Zui(i:Nat):MSt:=λD δ=>match δ[i]? with|some (some t)=>D.rt t (δ.set i none)|_=>False
theorem Rel.take{C:MC G}{H:Hp}{σ:St}{δ:Ze}{fp:Fp}{ex:Addr->Prop}{i:Nat}{t:OT}(R:Rel C io H σ δ fp ex)(hi:δ[i]? =some (some t)):Rel C io H σ (δ.set i none) (fpu fp i []) (exu ex (fp i)):=by
 have hil:i<δ.length:=(Xg.mp hi).1
 have get:∀j (t':OT),(δ.set i none)[j]? =some (some t')->j≠i∧δ[j]? =some (some t'):=λj t' e=>by
  by_cases ej:j=i
  ·subst ej;rw[Qo hil]at e;cases e
  ·rw[Qh (Bb ej)]at e;exact⟨ej,e⟩
 have sub:∀j a,a∈fpu fp i [] j->j≠i∧a∈fp j:=λj a m=>by
  by_cases ej:j=i
  ·subst ej;rw[Zy]at m;exact nomatch m
  ·rw[Yh ej]at m;exact⟨ej,m⟩
 have lw:∀a,Lf C fp ex a->Lf C (fpu fp i []) (exu ex (fp i)) a:=λa l=>⟨λ⟨j,z⟩=>l.1 ⟨j,(sub j a z).2⟩,λz=>z.elim l.2.1 λz=>l.1 ⟨i,z⟩,l.2.2⟩
 refine⟨by rw[Br];exact R.len,λj t' e=>?_,λj h=>?_,λj=>?_,λj k a h1 h2=>R.dj j k a (sub j a h1).2 (sub k a h2).2,λj a h z=>?_,λa z w=>?_,R.fr,R.al,λj a h=>R.new j a (sub j a h).2,R.io⟩
 ·obtain⟨ej,e⟩:=get j t' e
  obtain⟨w,e1,o⟩:=R.own j t' e
  exact⟨w,e1,by rw[Yh ej];exact o.wide λa l _=>lw a l⟩
 ·by_cases ej:j=i
  ·subst ej;rw[Zy]
  ·rw[Yh ej]
   exact R.emp j λt' z=>h t' (by rw[Qh (Bb ej)];exact z)
 ·by_cases ej:j=i
  ·subst ej;rw[Zy];exact .nil
  ·rw[Yh ej];exact R.nd j
 ·obtain⟨ej,h⟩:=sub j a h
  rcases z with z|z
  ·exact R.dx j a h z
  ·exact ej (R.dj j i a h z)
 ·rcases z with z|z
  ·exact R.xa a z w
  ·exact R.footSome w ⟨i,z⟩
theorem Zd4(i:Nat){x:Str}{px:Pos}(hio:i∉io:=by decide)(hN:X.N[i]? =some x:=by rfl)(hv:Vis X.env.scope x:=by first|exact Qn rfl|exact Qi (Qn rfl)|exact Qi (Qi rfl))(hd:(x==("__debug__" : Str))=false:=by decide)
  (hcd:(x==("__classdict__" : Str))=false:=by decide):MS X io (.Return (some (.Name x px)) pos) (Zui i):=by
 refine⟨_,Zwb (pv i hN hv hd hcd),λC H σ δ fp ex D D' R h E=>?_⟩
 unfold Zui at h
 split at h
 case h_2=>exact h.elim
 rename_i t hi
 obtain⟨v,e,o⟩:=R.own i t hi
 have lw:∀a,Lf C fp ex a->H a≠none->Lf C (fpu fp i []) (exu ex (fp i)) a:=λa l _=>⟨λz=>by
  rcases z.of_u with z|⟨j,_,z⟩
  ·exact nomatch z
  ·exact l.1 ⟨j,z⟩,λz=>z.elim l.2.1 λz=>l.1 ⟨i,z⟩,l.2.2⟩
 have hn:∀a∈fp i,C.H₀ a=none:=λa m=>by
  rcases R.new i a m with z|z
  ·exact absurd z.1 hio
  ·exact z
 exact⟨v,e,E.rt H σ v t _ _ (fp i) (R.take hi) (o.wide lw) (R.nd i) hn h⟩
noncomputable def Ydw(t:MTt)(u w:MSt):MSt:=λD δ=>t δ λb δ'=>if b=true then u D δ' else w D δ'
theorem Yaf{cnd:Expr}{ss ss':List Stmt}(hc:MT X io p cnd mt)(ha:MSs X io ss u)(hb:MSs X io ss' w):MS X io (.If cnd ss ss' pos) (Ydw mt u w):=by
 obtain⟨_,T,s⟩:=hc
 obtain⟨_,A,sa⟩:=ha
 obtain⟨_,B,sb⟩:=hb
 exact⟨_,Z9p T A B,λC H σ δ fp ex D D' R h E=>s C H σ δ fp ex _ _ R h λH' b δ' fp' R' S h'=>by
  cases b with
  | true=>
   rw[if_pos rfl]at h'⊢
   exact sa C H' σ δ' fp' ex D D' R' h' (E.shift S.kp)
  | false=>
   rw[if_neg XC]at h'⊢
   exact sb C H' σ δ' fp' ex D D' R' h' (E.shift S.kp)⟩
theorem Rel.put{C:MC G}{H:Hp}{σ:St}{δ:Ze}{fp:Fp}{ex:Addr->Prop}{i:Nat}{v:V}{r:OT}{new:List Addr}(R:Rel C io H σ δ fp (exu ex new))(hio:i∉io)(o:Own G H (Lf C fp (exu ex new)) v r new)(nd:new.Nodup)
  (hn:∀a∈new,C.H₀ a=none∧¬ex a):∃fp',Rel C io H (σ.set i (some v)) (δ.set i (some r)) fp' ex∧∀a,Foot fp' a->Foot fp a∨a∈new:=by
 by_cases hil:i<δ.length
 case neg=>
  refine⟨fp,?_,λa h=>.inl h⟩
  have hl:=R.len
  rw[List.set_eq_of_length_le (show δ.length≤i by omega),List.set_eq_of_length_le (show σ.length≤i by omega)]
  exact R.drop λa z=>.inl z
 have hsl:i<σ.length:=by rw[R.len];exact hil
 have sub:∀a,Foot (fpu fp i new) a->Foot fp a∨a∈new:=λa z=>by
  rcases z.of_u with z|⟨j,_,z⟩
  ·exact .inr z
  ·exact .inl ⟨j,z⟩
 have lw:∀a,Lf C fp (exu ex new) a->Lf C (fpu fp i new) ex a:=λa l=>⟨λz=>(sub a z).elim l.1 λz=>l.2.1 (.inr z),λz=>l.2.1 (.inl z),l.2.2⟩
 refine⟨fpu fp i new,⟨by rw[Br,Br];exact R.len,λj t' e=>?_,λj h=>?_,λj=>?_,λj k a h1 h2=>?_,λj a h z=>?_,λa z=>R.xa a (.inl z),R.fr,R.al,λj a h=>?_,λj hj=>?_⟩,sub⟩
 ·by_cases ej:j=i
  ·subst ej
   rw[Qo hil]at e
   cases e
   exact⟨v,Qo hsl,by rw[Zy];exact o.wide λa l _=>lw a l⟩
  ·rw[Qh (Bb ej)]at e
   obtain⟨w,e1,o1⟩:=R.own j t' e
   exact⟨w,by rw[Qh (Bb ej)];exact e1,by rw[Yh ej];exact o1.wide λa l _=>lw a l⟩
 ·by_cases ej:j=i
  ·subst ej;exact absurd (Qo hil) (h r)
  ·rw[Yh ej]
   exact R.emp j λt' z=>h t' (by rw[Qh (Bb ej)];exact z)
 ·by_cases ej:j=i
  ·subst ej;rw[Zy];exact nd
  ·rw[Yh ej];exact R.nd j
 ·by_cases ej:j=i
  ·subst ej
   rw[Zy]at h1
   by_cases ek:k=j
   ·exact ek.symm
   ·rw[Yh ek]at h2
    exact absurd (.inr h1) (R.dx k a h2)
  ·rw[Yh ej]at h1
   by_cases ek:k=i
   ·subst ek
    rw[Zy]at h2
    exact absurd (.inr h2) (R.dx j a h1)
   ·rw[Yh ek]at h2
    exact R.dj j k a h1 h2
 ·by_cases ej:j=i
  ·subst ej
   rw[Zy]at h
   exact(hn a h).2 z
  ·rw[Yh ej]at h
   exact R.dx j a h (.inl z)
 ·by_cases ej:j=i
  ·subst ej
   rw[Zy]at h
   exact .inr (hn a h).1
  ·rw[Yh ej]at h
   exact R.new j a h
 ·have ej:j≠i:=λz=>hio (z▸hj)
  rw[Qh (Bb ej)]
  exact R.io j hj
theorem RE.put{C:MC G}{H H':Hp}{σ:St}{δ δ':Ze}{fp fp':Fp}{ex:Addr->Prop}{i:Nat}{v:V}{r:OT}{new:List Addr}(R:RE C io p true H σ δ fp ex H' v r δ' fp' new)(R0:Rel C io H σ δ fp ex)(hio:i∉io) :
  ∃fp2,Rel C io H' (σ.set i (some v)) (δ'.set i (some r)) fp2 ex∧Kp H fp H' fp2:=by
 obtain⟨fp2,R2,g⟩:=R.rel.put hio (R.own.wide λa l _=>l rfl) R.nd λa m=>⟨(R0.newOk (R.fresh a m)).2.2,(R0.newOk (R.fresh a m)).2.1⟩
 refine⟨fp2,R2,λb o e q=>R.stp.keep b o e (.inr (q.resolve_left (by decide))),λz=>(nomatch z),λa z=>?_,R.stp.al⟩
 rcases g a z with z|z
 ·exact R.stp.grow a z
 ·exact .inr (R.fresh a z)
theorem RE.fzc{C:MC G}{H H':Hp}{σ:St}{δ δ':Ze}{fp fp':Fp}{ex:Addr->Prop}{v:V}{r:OT}{new:List Addr}(R:RE C io p c H σ δ fp ex H' v r δ' fp' new)(R0:Rel C io H σ δ fp ex) :
  RE C io p c H σ δ fp ex H' v (.fz r.data) δ' fp' []:=.fz R.base R.stp (R.da R0)
theorem RE.fzs{C:MC G}{H H':Hp}{σ:St}{δ δ':Ze}{fp fp':Fp}{ex:Addr->Prop}{v:V}{r:OT}{new:List Addr}(R:RE C io p c H σ δ fp ex H' v r δ' fp' new)(R0:Rel C io H σ δ fp ex)(h:Zbi r.data=true) :
  RE C io p true H σ δ fp ex H' v (.fz r.data) δ' fp' []:=.fz R.base R.stp ((R.da R0).flat h)
noncomputable def Z18(i:Nat)(m:MEt):MSt:=λD δ=>m δ λr δ'=>D.nx (δ'.set i (some (.fz r.data)))
noncomputable def Zpu(i:Nat)(m:MEt):MSt:=λD δ=>m δ λr δ'=>D.nx (δ'.set i (some r))
section
variable {i:Nat}{x:Str}{px:Pos}
theorem Ycs{t:TE}(s:SE G io p true t m)(hio:i∉io):SS G io (Z3b t (Zpx i)) (Z18 i m):=λC H σ δ fp ex D D' R h E=>s C H σ δ fp ex _ _ R h λH' v r δ' fp' new r1 h1=>by
 obtain⟨fp2,R2,k2⟩:=(r1.fzc R).put R hio
 exact E.nx H' _ _ fp2 R2 k2 h1
theorem Z3a{t:TE}(s:SE G io p true t m)(hio:i∉io):SS G io (Z3b t (Zpx i)) (Zpu i m):=λC H σ δ fp ex D D' R h E=>s C H σ δ fp ex _ _ R h λH' v r δ' fp' new r1 h1=>by
 obtain⟨fp2,R2,k2⟩:=r1.put R hio
 exact E.nx H' _ _ fp2 R2 k2 h1
theorem Z30(hN:X.N.Nodup)(hi:X.N[i]? =some x)(hx:Loc X.env.scope x)(he:ME X io p true e m)(hio:i∉io:=by decide)(hs:Vm e (some (.Name x px)) pos.line X.env=pure false:=by rfl)(hf:X.fn x=true∨X.env.scope.names.lookup x=some .local:=by first|exact .inl rfl|exact .inr rfl|assumption) :
  MS X io (.Assign [.Name x px] e pos) (Z18 i m):=by
 obtain⟨_,A,s⟩:=he
 exact⟨_,Zxq hN hi hx A hs hf,Ycs s hio⟩
theorem Zx0(hN:X.N.Nodup)(hi:X.N[i]? =some x)(hx:Loc X.env.scope x)(he:ME X io p true e m)(hio:i∉io:=by decide)(hs:Vm e (some (.Name x px)) pos.line X.env=pure false:=by rfl)(hf:X.fn x=true∨X.env.scope.names.lookup x=some .local:=by first|exact .inl rfl|exact .inr rfl|assumption) :
  MS X io (.Assign [.Name x px] e pos) (Zpu i m):=by
 obtain⟨_,A,s⟩:=he
 exact⟨_,Zxq hN hi hx A hs hf,Z3a s hio⟩
end
noncomputable def Zwz(t:MTt)(u:MSt):MSt:=λD δ=>∃W:Nat->Ze->Prop,(∃n,W n δ)∧∀n δ,W n δ->t δ λb δ'=>if b=true then∃N:Ze->Prop,(∀δ',N δ'->∃n',n'<n∧W n' δ')∧u { D with nx:=N,ct:=N,bk:=D.nx } δ' else D.nx δ'
theorem Zop{cnd:Expr}{ss:List Stmt}(hp:PassesOwn (X7 X.prog X.w) X.A X.env X.xe)(hc:MT X io p cnd mt)(ha:MSs X io ss u):MS X io (.While cnd ss [] pos) (Zwz mt u):=by
 obtain⟨_,T,s⟩:=hc
 obtain⟨_,A,sa⟩:=ha
 refine⟨_,Zud hp T A,λC H σ δ fp ex D D' R h E=>?_⟩
 obtain⟨W,⟨n0,w0⟩,turn⟩:=h
 refine⟨λn σ' H'=>∃δ' fp',Rel C io H' σ' δ' fp' ex∧Kp H fp H' fp'∧W n δ',⟨n0,δ,fp,R,.refl _ _,w0⟩,?_⟩
 rintro n σ1 H1 ⟨δ1,fp1,R1,k1,w1⟩
 refine s C H1 σ1 δ1 fp1 ex _ _ R1 (turn n δ1 w1) λH2 b δ2 fp2 R2 S2 h2=>?_
 have k2:=k1.trans S2.kp
 cases b with
 | true=>
  rw[if_pos rfl]at h2⊢
  obtain⟨N,hN,h2⟩:=h2
  refine⟨λσ' H'=>∃δ' fp',Rel C io H' σ' δ' fp' ex∧Kp H fp H' fp'∧N δ',λσ' H' ⟨δ',fp',R',k',n'⟩=>?_,?_⟩
  ·obtain⟨n1,hn1,w1⟩:=hN δ' n'
   exact⟨n1,hn1,δ',fp',R',k',w1⟩
  ·refine sa C H2 σ1 δ2 fp2 ex _ _ R2 h2 ⟨λH' σ' δ' fp' R' k' n'=>⟨δ',fp',R',k2.trans k',n'⟩,λH' σ' δ' fp' R' k' n'=>E.nx H' σ' δ' fp' R' (k2.trans k') n',λH' σ' δ' fp' R' k' n'=>⟨δ',fp',R',k2.trans k',n'⟩,E.rt⟩
 | false=>
  rw[if_neg XC]at h2⊢
  exact E.nx H2 σ1 δ2 fp2 R2 k2 h2
end
variable {G:Xb}
noncomputable def Zsg(N:List Str)(ds:List Xa):Ze:=ds.map (λd=>some (.fz d)) ++ Xx (N.length-ds.length) none
noncomputable def Zgr(N:List Str)(t:OT)(ds:List Xa):Ze:=some t :: (ds.map (λd=>some (.fz d)) ++ Xx (N.length-(ds.length+1)) none)
section
variable {H:Hp}{L:Addr->Prop}{vs:List V}{ds:List Xa}{N:List Str}
theorem Zmb{i:Nat}{t:OT}{n:Nat}(h:(ds.map (λd=>some (.fz d)) ++ Xx n none:Ze)[i]? =some (some t)):∃d,ds[i]? =some d∧t= .fz d:=by
 rw[List.getElem?_append]at h
 split at h
 ·rw[Xk]at h
  cases e:ds[i]? with
  | none=>rw[e]at h;cases h
  | some d=>rw[e]at h;cases h;exact⟨d,rfl,rfl⟩
 ·rw[U8]at h
  split at h
  ·cases h
  ·cases h
theorem Rel.entry(h:Das G H L vs ds):Rel (G:=G) ⟨H,λ_=>False,L,start N vs⟩ [] H (start N vs) (Zsg N ds) (λ_=>[]) (λ_=>False):=by
 refine⟨?_,λi t e=>?_,λ_ _=>rfl,λ_=>.nil,λi j a m=>(nomatch m),λi a m=>(nomatch m),λa z=>z.elim,λb o e _=>e,λb e=>e,λi a m=>(nomatch m),λi m=>nomatch m⟩
 ·unfold start Zsg
  simp[h.length]
 ·obtain⟨d,e',rfl⟩:=Zmb e
  obtain⟨x,e1,q⟩:=h.get e'
  refine⟨x,?_,.fz (q.wide λa l _=>⟨λ⟨j,z⟩=>(nomatch z),λz=>z,.inl l⟩)⟩
  unfold L2.start
  rw[Bq (by rw[Xe];exact(Xg.mp e1).1),Xk,e1]
  rfl
variable {P:X4}{w:Qs}{K:Xb}{mg:Str->Option Xc}{base:Heap}
noncomputable def Zx9(k:OT->Prop):Zf9:={ nx:=λ_=>k (.fz .none),rt:=λr _=>k r }
theorem Fun.okD{x qual:Str}{st:Stmt}{f:Addr}{fd:XD}{N ps:List Str}{n:Nat}{S:List Xa->(OT->Prop)->Prop}(F:Fun K x qual st f fd)(Sc:Zk N ps (Zi st))(len:∀ds k,S ds k->ds.length=ps.length)
  (hbody:∀(cdv:Xc) (A:Qm) (outer:List Env) (s:Xd) (H:Hp) (E:XK),Room n (A.deeper (U4 qual (Zi st) s.heap.objs.size f cdv)) ->
   ∃m,MSs (Ztq CX0 P w K mg base N qual (Zi st) f cdv A outer s H E).nox [] (Zar st) m∧∀ds k,S ds k->m (Zx9 k) (Zsg N ds)):FnOk P w K mg base CX0 (n+1) f fd ps (spD K S):=by
 refine F.ok Sc (λvs H Q E h=>?_) (λcdv A outer s H vs Q E hr h=>?_)
 ·obtain⟨L,ds,k,h1,h2,_⟩:=h
  rw[h1.length]
  exact len ds k h2
 ·obtain⟨L,ds,k,h1,h2,h3⟩:=h
  obtain⟨m,⟨t,A1,s1⟩,q⟩:=hbody cdv A outer s H E hr
  refine⟨t,A1,s1 ⟨H,λ_=>False,L,start N vs⟩ H _ _ _ _ (Zx9 k) _ (Rel.entry h1) (q ds k h2) ⟨λH' σ' δ' fp' R _ hk=>?_,λ_ _ _ _ _ _ z=>z.elim,λ_ _ _ _ _ _ z=>z.elim,λH' σ' v r δ' fp' new R o nd hn hk=>?_⟩⟩
  ·exact h3 _ .non H' [] hk (λb o e=>R.fr b o e id) (.fz .non) .nil λa m=>nomatch m
  ·refine h3 r v H' new hk (λb o e=>R.fr b o e id) (o.wide λa l _=>⟨?_,λz=>l.2.1 (.inr z)⟩) nd hn
   exact l.2.2
theorem Rel.entryI{v0:V}{t0:OT}{as:List Addr}(o:Own G H L v0 t0 as)(nd:as.Nodup)(hL:∀a∈as,¬L a)(h:Das G H L vs ds) :
  Rel (G:=G) ⟨H,λa=>a∈as,L,start N (v0 :: vs)⟩ [0] H (start N (v0 :: vs)) (Zgr N t0 ds) (λi=>if i=0 then as else[]) (λ_=>False):=by
 have lw:∀a,L a->H a≠none->Lf (G:=G) ⟨H,λa=>a∈as,L,L2.start N (v0 :: vs)⟩ (λi=>if i=0 then as else[]) (λ_=>False) a:=λa l _=>⟨λq91=>by
  obtain⟨i,z⟩:=q91
  dsimp only at z
  split at z
  ·exact hL a z l
  ·exact(nomatch z),λz=>z,.inl l⟩
 have sub:∀i a,a∈(if i=0 then as else[])->i=0∧a∈as:=λi a m=>by
  split at m
  ·exact⟨by assumption,m⟩
  ·exact nomatch m
 refine⟨?_,λi t e=>?_,λi h=>?_,λi=>?_,λi j a m m'=>(sub i a m).1.trans (sub j a m').1.symm,λi a m z=>z,λa z=>z.elim,λb o e _=>e,λb e=>e,λi a m=>.inl ⟨by rw[(sub i a m).1];exact Xy.mpr rfl,(sub i a m).2⟩,λi _=>rfl⟩
 ·unfold L2.start L2.Zgr
  simp[h.length]
 ·cases i with
  | zero=>
   have e':t0=t:=by
    unfold L2.Zgr at e
    simpa using e
   subst e'
   exact⟨v0,rfl,o.wide lw⟩
  | succ i=>
   have e':(ds.map (λd=>some (.fz d)) ++ Xx (N.length-(ds.length+1)) none:Ze)[i]? =some (some t):=e
   obtain⟨d,e2,rfl⟩:=Zmb e'
   obtain⟨x,e1,q⟩:=h.get e2
   refine⟨x,?_,.fz (q.wide lw)⟩
   show(vs.map some ++ _)[i]? =_
   rw[Bq (by rw[Xe];exact(Xg.mp e1).1),Xk,e1]
   rfl
 ·split
  ·subst i
   exact absurd rfl (h t0)
  ·rfl
 ·split
  ·exact nd
  ·exact .nil
noncomputable def Zyo(k:OT->OT->Prop):Zf9:={ nx:=λδ=>match δ[0]? with|some (some t)=>k (.fz .none) t|_=>False,rt:=λr δ=>match δ[0]? with|some (some t)=>k r t|_=>False }
theorem Fun.okI{x qual:Str}{st:Stmt}{f:Addr}{fd:XD}{N ps:List Str}{n:Nat}{S:OT->List Xa->(OT->OT->Prop)->Prop}(F:Fun K x qual st f fd)(Sc:Zk N ps (Zi st))(len:∀t ds k,S t ds k->ds.length+1=ps.length)
  (hbody:∀(cdv:Xc) (A:Qm) (outer:List Env) (s:Xd) (H:Hp) (E:XK),Room n (A.deeper (U4 qual (Zi st) s.heap.objs.size f cdv)) ->
   ∃m,MSs (Ztq CX0 P w K mg base N qual (Zi st) f cdv A outer s H E).nox [0] (Zar st) m∧∀t ds k,S t ds k->m (Zyo k) (Zgr N t ds)):FnOk P w K mg base CX0 (n+1) f fd ps (spI K S):=by
 refine F.ok Sc (λvs H Q E h=>?_) (λcdv A outer s H vs Q E hr h=>?_)
 ·obtain⟨L,v0,t0,as,vs',ds,k,rfl,_,_,_,h1,h2,_⟩:=h
  rw[JS,h1.length]
  exact len t0 ds k h2
 ·obtain⟨L,v0,t0,as,vs',ds,k,rfl,o0,nd0,hL,h1,h2,h3⟩:=h
  obtain⟨m,⟨t,A1,s1⟩,q⟩:=hbody cdv A outer s H E hr
  have fin:∀H' σ' v r δ' fp' new,Rel (G:=K) ⟨H,λa=>a∈as,L,L2.start N (v0 :: vs')⟩ [0] H' σ' δ' fp' (exu (λ_=>False) new)->Own K H' (Lf (G:=K) ⟨H,λa=>a∈as,L,L2.start N (v0 :: vs')⟩ fp' (exu (λ_=>False) new)) v r new->new.Nodup->(∀a∈new,H a=none) ->
    (match δ'[0]? with|some (some t)=>k r t|_=>False)->Q v H':=by
   intro H' σ' v r δ' fp' new R o nd hn hk
   split at hk
   case h_2=>exact hk.elim
   rename_i t' e'
   obtain⟨u,eu,ou⟩:=R.own 0 t' e'
   have hio:=R.io 0 (by simp)
   rw[eu]at hio
   have:u=v0:=by
    have e2:(L2.start N (v0 :: vs'))[0]? =some (some v0):=rfl
    have hio':some (some u)=(L2.start N (v0 :: vs'))[0]?:=hio
    rw[e2]at hio'
    cases hio';rfl
   subst this
   refine h3 r t' v H' new (fp' 0) hk (λb ob e nb=>R.fr b ob e nb) (λb e=>R.al b e) (o.wide λa l _=>⟨l.2.2,λz=>l.2.1 (.inr z),λz=>l.1 ⟨0,z⟩⟩) (ou.wide λa l _=>⟨l.2.2,λz=>l.2.1 (.inr z),λz=>l.1 ⟨0,z⟩⟩) ?_ hn λa m=>?_
   ·exact Ba.mpr ⟨R.nd 0,nd,λa m b m' z=>by subst z;exact R.dx 0 a m (.inr m')⟩
   ·rcases R.new 0 a m with z|z
    ·exact .inl z.2
    ·exact .inr z
  refine⟨t,A1,s1 ⟨H,λa=>a∈as,L,L2.start N (v0 :: vs')⟩ H _ _ _ _ (Zyo k) _ (Rel.entryI o0 nd0 hL h1) (q t0 ds k h2) ⟨λH' σ' δ' fp' R _ hk=>?_,λ_ _ _ _ _ _ z=>z.elim,λ_ _ _ _ _ _ z=>z.elim,λH' σ' v r δ' fp' new R o nd hn hk=>fin H' σ' v r δ' fp' new R o nd hn hk⟩⟩
  exact fin H' σ' .non (.fz .none) δ' fp' [] (R.drop λa z=>Za4.mp z) (.fz .non) .nil (λa m=>nomatch m) hk
end
noncomputable abbrev MGt:=Xa->Ze->(Ze->Prop)->Prop
noncomputable abbrev Zqq:=List Xa->Ze->(Ze->Prop)->Prop
noncomputable def SG(G:Xb)(io:List Nat)(c:Bool)(t:TG)(g:MGt):Prop:=∀(C:MC G) (H:Hp) (σ:St) (δ:Ze) (fp:Fp) (ex:Addr->Prop) (v:V) (d:Xa) (k:Ze->Prop) (Q:St->Hp->Prop),Rel C io H σ δ fp ex->Da G H (λa=>c=true->Lf C fp ex a) v d->g d δ k ->
 (∀ σ' δ' fp',Rel C io H σ' δ' fp' ex->Kp H fp H fp'->k δ'->Q σ' H)->t v σ H Q
noncomputable def SGs(G:Xb)(io:List Nat)(c:Bool)(t:TGs)(g:Zqq):Prop:=∀(C:MC G) (H:Hp) (σ:St) (δ:Ze) (fp:Fp) (ex:Addr->Prop) (v:List V) (d:List Xa) (k:Ze->Prop) (Q:St->Hp->Prop),Rel C io H σ δ fp ex->Das G H (λa=>c=true->Lf C fp ex a) v d->g d δ k ->
 (∀ σ' δ' fp',Rel C io H σ' δ' fp' ex->Kp H fp H fp'->k δ'->Q σ' H)->t v σ H Q
noncomputable def MG(X:Cx)(io:List Nat)(c:Bool)(tg:Expr)(g:MGt):Prop:=∃t,PG X tg t∧SG X.K io c t g
noncomputable def MGs(X:Cx)(io:List Nat)(c:Bool)(tg:List Expr)(g:Zqq):Prop:=∃t,PGs X tg t∧SGs X.K io c t g
section
variable {X:Cx}{io:List Nat}{c:Bool}{pos:Pos}{i:Nat}{x:Str}
noncomputable def dName(i:Nat):MGt:=λd δ k=>k (δ.set i (some (.fz d)))
noncomputable def Zwa(i:Nat):MGt:=λd δ k=>Zbi d=true∧k (δ.set i (some (.fz d)))
theorem Rel.putD{C:MC G}{H:Hp}{σ:St}{δ:Ze}{fp:Fp}{ex:Addr->Prop}{v:V}{d:Xa}(R:Rel C io H σ δ fp ex)(hio:i∉io)(q:Da G H (Lf C fp ex) v d) :
  ∃fp',Rel C io H (σ.set i (some v)) (δ.set i (some (.fz d))) fp' ex∧Kp H fp H fp':=by
 obtain⟨fp',R',g⟩:=(R.drop λa z=>Za4.mp z).put (new:=[]) hio (.fz (q.wide λa l _=>⟨l.1,λz=>l.2.1 (Za4.mp z),l.2.2⟩)) .nil (λa m=>nomatch m)
 exact⟨fp',R',λb o e _=>e,λz=>(nomatch z),λa z=>(g a z).imp id λz=>(nomatch z),λb e=>e⟩
theorem Zys(hN:X.N.Nodup)(hi:X.N[i]? =some x:=by rfl)(hx:Loc X.env.scope x:=by first|exact Qn rfl|exact Qi rfl)(hio:i∉io:=by decide)(hf:X.fn x=true∨X.env.scope.names.lookup x=some .local:=by first|exact .inl rfl|exact .inr rfl|assumption):MG X io true (.Name x pos) (dName i) :=
 ⟨_,Zmy hN hi hx hf,λC H σ δ fp ex v d k Q R q h kk=>by
  obtain⟨fp',R',k'⟩:=R.putD hio (q.wide λa l _=>l rfl)
  exact kk _ _ fp' R' k' h⟩
theorem Zn2(hN:X.N.Nodup)(hi:X.N[i]? =some x:=by rfl)(hx:Loc X.env.scope x:=by first|exact Qn rfl|exact Qi rfl)(hio:i∉io:=by decide)(hf:X.fn x=true∨X.env.scope.names.lookup x=some .local:=by first|exact .inl rfl|exact .inr rfl|assumption):MG X io c (.Name x pos) (Zwa i) :=
 ⟨_,Zmy hN hi hx hf,λC H σ δ fp ex v d k Q R q h kk=>by
  obtain⟨fp',R',k'⟩:=R.putD hio (q.flat h.1)
  exact kk _ _ fp' R' k' h.2⟩
noncomputable def Ycj:Zqq:=λds δ k=>ds=[]∧k δ
noncomputable def Zz9(g:MGt)(gs:Zqq):Zqq:=λds δ k=>match ds with|d :: r=>g d δ λδ'=>gs r δ' k|[]=>False
theorem Zrv:MGs X io c [] Ycj:=⟨_,Z0v,λC H σ δ fp ex v d k Q R q h kk=>by
 obtain⟨rfl,h⟩:=h
 cases q
 exact⟨rfl,kk σ δ fp R (.refl _ _) h⟩⟩
theorem Rel.kp_das{C:MC G}{H H':Hp}{σ:St}{δ:Ze}{fp fp':Fp}{ex:Addr->Prop}{vs:List V}{ds:List Xa}(R:Rel C io H σ δ fp ex)(S:Kp H fp H' fp')(h:Das G H (Lf C fp ex) vs ds):Das G H' (Lf C fp' ex) vs ds:=by
 have S':Stp false H δ fp H' δ fp':=⟨S.keep,λz=>(nomatch z),S.grow,S.al⟩
 obtain⟨f1,f2⟩:=R.frameL (c:=true) (ex':=ex) S' (.inr rfl) λa z=>.inl z
 exact h.frame (λa xs l q=>⟨(f1 a xs (λ_=>l) q).1 rfl,(f1 a xs (λ_=>l) q).2⟩) f2
theorem Zoj{e:Expr}{es:List Expr}{g:MGt}{gs:Zqq}(h1:MG X io true e g)(h2:MGs X io true es gs)
  (hs:(QW (e :: es) X.env).map (·.2)=V2 e X.env :: (QW es X.env).map (·.2):=by rfl):MGs X io true (e :: es) (Zz9 g gs):=by
 obtain⟨_,A,s⟩:=h1
 obtain⟨_,B,s'⟩:=h2
 exact⟨_,Zo4 A B hs,λC H σ δ fp ex v d k Q R q h kk=>by
  cases q with
  | nil=>exact h.elim
  | cons q qs=>
   refine⟨_,_,rfl,s C H σ δ fp ex _ _ _ _ R q h λσ1 δ1 fp1 R1 k1 h1=>?_⟩
   exact s' C H σ1 δ1 fp1 ex _ _ _ _ R1 ((R.kp_das k1 (qs.wide λa l _=>l rfl)).wide λa l _ _=>l) h1 λσ2 δ2 fp2 R2 k2 h2=>kk σ2 δ2 fp2 R2 (k1.trans k2) h2⟩
theorem Zlg{e:Expr}{es:List Expr}{g:MGt}{gs:Zqq}(h1:MG X io false e g)(h2:MGs X io false es gs)
  (hs:(QW (e :: es) X.env).map (·.2)=V2 e X.env :: (QW es X.env).map (·.2):=by rfl):MGs X io false (e :: es) (Zz9 g gs):=by
 obtain⟨_,A,s⟩:=h1
 obtain⟨_,B,s'⟩:=h2
 exact⟨_,Zo4 A B hs,λC H σ δ fp ex v d k Q R q h kk=>by
  cases q with
  | nil=>exact h.elim
  | cons q qs=>
   refine⟨_,_,rfl,s C H σ δ fp ex _ _ _ _ R (q.wide λa _ _ z=>nomatch z) h λσ1 δ1 fp1 R1 k1 h1=>?_⟩
   exact s' C H σ1 δ1 fp1 ex _ _ _ _ R1 (qs.wide λa _ _ z=>nomatch z) h1 λσ2 δ2 fp2 R2 k2 h2=>kk σ2 δ2 fp2 R2 (k1.trans k2) h2⟩
noncomputable def dTup(n:Nat)(gs:Zqq):MGt:=λd δ k=>match d with| .tuple ds=>ds.length=n∧gs ds δ k|_=>False
theorem Zwn{es:List Expr}{k:Nat}{gs:Zqq}{n:Nat}(hc:X.calm=true)(h:MGs X io c es gs)
  (hn:(QW es X.env).length=n:=by rfl) (hst:(QW es X.env).findIdx? (·.1)=none:=by rfl):MG X io c (.Tuple es k pos) (dTup n gs):=by
 obtain⟨_,A,s⟩:=h
 exact⟨_,Z48 hc A hn hst,λC H σ δ fp ex v d k Q R q h kk=>by
  cases q with
  | tup e qs=>exact⟨_,_,rfl,.inl (.inl e),by rw[qs.length];exact h.1,s C H σ δ fp ex _ _ _ _ R qs h.2 kk⟩
  | _=>exact h.elim⟩
end
variable {G:Xb}
noncomputable def IterOk(C:MC G)(fp:Fp)(ex:Addr->Prop)(H1:Hp)(c:Bool)(J:It)(ds:List Xa):Prop:=∀H':Hp,(∀b o,H1 b=some o->(c=false∨¬Foot fp b)->H' b=some o)->∀i:Nat,
 (∀ d,ds[i]? =some d->J.go i H'∧∀x H'',J.yld i H' x H''->Same H' H''∧Da G H'' (λa=>c=true->(Lf C fp ex a∧H1 a≠none)) x d)∧(ds[i]? =none->J.stop i H')
noncomputable abbrev MIt:=Ze->(List Xa->Ze->Prop)->Prop
noncomputable def SI(G:Xb)(io:List Nat)(p c:Bool)(t:TI)(m:MIt):Prop:=∀(C:MC G) (H:Hp) (σ:St) (δ:Ze) (fp:Fp) (ex:Addr->Prop) (K:List Xa->Ze->Prop) (Q:It->Hp->Prop),Rel C io H σ δ fp ex->m δ K ->
 (∀ J H1 ds δ1 fp1,Rel C io H1 σ δ1 fp1 ex->Stp p H δ fp H1 δ1 fp1->IterOk C fp1 ex H1 c J ds->K ds δ1->Q J H1)->t σ H Q
noncomputable def MI(X:Cx)(io:List Nat)(p c:Bool)(tg iter:Expr)(m:MIt):Prop:=∃t,PI X tg iter t∧SI X.K io p c t m
section
variable {X:Cx}{io:List Nat}{p c:Bool}{e a b tg:Expr}{m:MEt}{mr:MAt}{K:Xb}
noncomputable def iL(m:MEt):MIt:=λδ K=>m δ λr δ'=>match r.data with| .list ds=>K ds δ'|_=>False
theorem Rel.kept{C:MC G}{H H':Hp}{σ:St}{δ:Ze}{fp:Fp}{ex:Addr->Prop}(R:Rel C io H σ δ fp ex)(kp:∀b o,H b=some o->(c=false∨¬Foot fp b)->H' b=some o) :
  (∀ a (xs:MuO),(c=true->Lf C fp ex a)->Rd H a xs.ho->(c=true->(Lf C fp ex a∧H a≠none))∧Rd H' a xs.ho)∧(∀a (xs:ImO),H a=some xs.ho->H' a=some xs.ho):=by
 refine⟨λa xs l q=>⟨λhc=>⟨l hc,q.some⟩,?_⟩,λa xs q=>kp a _ q (.inr λz=>?_)⟩
 ·have hk:c=false∨¬Foot fp a:=by
   cases c with
   | false=>exact .inl rfl
   | true=>exact .inr (l rfl).1
  rcases q with q|⟨o,q⟩
  ·exact .inl (kp a _ q hk)
  ·exact .inr ⟨o,kp a _ q hk⟩
 ·obtain⟨ys,e⟩:=R.foot z
  exact ImO.nm q e
theorem Zyz(h:ME X io p c e m):MI X io p c tg e (iL m):=by
 obtain⟨_,A,s⟩:=h
 exact⟨_,Zoa rfl A,λC H σ δ fp ex K' Q R h kk=>s C H σ δ fp ex _ _ R h λH1 v r δ1 fp1 new r1 h1=>by
  have q:=r1.da R
  generalize r.data=d at q h1
  cases q with
  | lst l e qs=>
   refine⟨_,rfl,⟨_,.inl e⟩,kk _ H1 _ δ1 fp1 r1.base r1.stp (λH' kp i=>?_) h1⟩
   obtain⟨f1,f2⟩:=r1.base.kept kp
   have e':=(f1 _ (.lst _) l e).2
   have qs':=qs.frame f1 f2
   refine⟨λd hd=>?_,λhd=>?_⟩
   ·obtain⟨x,hx,qx⟩:=qs'.get hd
    refine⟨⟨_,x,.inl e',hx⟩,λy H'' hy=>?_⟩
    obtain⟨rfl,hy⟩:=hy
    have:=hy _ (.inl e')
    rw[hx]at this
    cases this
    exact⟨Same.refl _,qx⟩
   ·exact⟨_,.inl e',by rw[qs'.length];exact QR.mp hd⟩
  | scr ks=>
   refine⟨_,rfl,⟨_,ks.sq⟩,kk _ H1 _ δ1 fp1 r1.base r1.stp (λH' kp i=>?_) h1⟩
   refine⟨λd hd=>?_,λhd=>?_⟩
   ·obtain⟨x,hx,qx⟩:=(Das.ints (G:=X.K) (H:=H') (L:=λa=>c=true->(Lf C fp1 ex a∧H1 a≠none)) _).get hd
    refine⟨⟨_,x,ks.sq,hx⟩,λy H'' hy=>?_⟩
    obtain⟨rfl,hy⟩:=hy
    have:=hy _ ks.sq
    rw[hx]at this
    cases this
    exact⟨Same.refl _,qx⟩
   ·refine⟨_,ks.sq,?_⟩
    have:=QR.mp hd
    simpa using this
  | _=>exact h1.elim⟩
noncomputable def Zcg(lo:Int)(n:Nat):List Xa:=(Xl n).map λ(i:Nat)=>Xn (lo+(i:Int))
@[simp] theorem Z6(lo:Int)(n:Nat):(Zcg lo n).length=n:=by simp[Zcg]
theorem Z9{lo:Int}{n i:Nat}{d:Xa}(h:(Zcg lo n)[i]? =some d):i<n∧d= .int (lo+i):=by
 have hi:i<n:=by
  have:=(Xg.mp h).1
  simpa using this
 unfold Zcg at h
 rw[Xk,Qz hi]at h
 cases h
 exact⟨hi,rfl⟩
theorem Zn4{C:MC G}{fp:Fp}{ex:Addr->Prop}{H1:Hp}{lo:Int}{n:Nat}:IterOk C fp ex H1 true (Itr lo n) (Zcg lo n):=λH' _ i=>by
 refine⟨λd hd=>?_,λhd=>?_⟩
 ·obtain⟨hi,rfl⟩:=Z9 hd
  refine⟨hi,λx H'' hy=>?_⟩
  obtain⟨rfl,rfl⟩:=hy
  exact⟨Same.refl _,.int _⟩
 ·have:=QR.mp hd
  show n≤i
  simpa using this
noncomputable def iR1(mr:MAt):MIt:=λδ K=>mr δ λrs δ'=>match OT.datas rs with|[.int j]=>(-(2^62)≤j∧j<2^62)∧K (Zcg 0 j.toNat) δ'|_=>False
noncomputable def iR2(mr:MAt):MIt:=λδ K=>mr δ λrs δ'=>match OT.datas rs with|[.int i,.int j]=>(-(2^62)≤i∧i<2^62∧-(2^62)≤j∧j<2^62)∧K (Zcg i (j-i).toNat) δ'|_=>False
theorem Zv{p' pos:Pos}(hg:Gl X "range")(hm:X.mg "range"=none)(ha:MA X io p c [a] mr)(hs:Xp [a] X.env=[(false,eval a X.env)]:=by rfl):MI X io p true tg (.Call (.Name "range" p') [a] [] pos) (iR1 mr):=by
 obtain⟨_,A,s⟩:=ha
 exact⟨_,Zqo hg hm A hs,λC H σ δ fp ex K' Q R h kk=>s C H σ δ fp ex _ _ R h λH1 vs rs δ1 fp1 new r1 h1=>by
  have q:=r1.das R
  generalize OT.datas rs=d at q h1
  split at h1
  case h_2=>exact h1.elim
  cases q with
  | cons q1 q2=>
   cases q1
   cases q2
   exact⟨_,rfl,h1.1.1,h1.1.2,kk _ H1 _ δ1 fp1 r1.base r1.stp Zn4 h1.2⟩⟩
theorem Zg6{p' pos:Pos}(hg:Gl X "range")(hm:X.mg "range"=none)(ha:MA X io p c [a,b] mr)(hs:Xp [a,b] X.env=[(false,eval a X.env),(false,eval b X.env)]:=by rfl)(hs2:Xp [b] X.env=[(false,eval b X.env)]:=by rfl):MI X io p true tg (.Call (.Name "range" p') [a,b] [] pos) (iR2 mr):=by
 obtain⟨_,A,s⟩:=ha
 exact⟨_,Zrr hg hm A hs hs2,λC H σ δ fp ex K' Q R h kk=>s C H σ δ fp ex _ _ R h λH1 vs rs δ1 fp1 new r1 h1=>by
  have q:=r1.das R
  generalize OT.datas rs=d at q h1
  split at h1
  case h_2=>exact h1.elim
  cases q with
  | cons q1 q2=>
   cases q1
   cases q2 with
   | cons q2 q3=>
    cases q2
    cases q3
    exact⟨_,_,rfl,h1.1,kk _ H1 _ δ1 fp1 r1.base r1.stp Zn4 h1.2⟩⟩
theorem IterOk.at{C:MC G}{fp fp':Fp}{ex:Addr->Prop}{H1 H' H'':Hp}{J:It}{ds:List Xa}{x:V}{d:Xa}(g:∀a,Foot fp' a->Foot fp a∨H1 a=none)(h:Da G H'' (λa=>true=true->(Lf C fp ex a∧H1 a≠none)) x d):Da G H'' (λa=>true=true->Lf C fp' ex a) x d :=
 h.wide λa l _ z=>⟨λw=>(g a w).elim (l z).1.1 (l z).2,(l z).1.2.1,(l z).1.2.2⟩
noncomputable def Z8z(ds:List Xa)(g:MGt)(u:MSt)(D:Zf9)(δ1:Ze):Prop:=∃I:Nat->Ze->Prop,I 0 δ1∧(∀(i:Nat) (d:Xa) (δ':Ze),ds[i]? =some d->I i δ'->g d δ' λδ2=>u { D with nx:=I (i+1),ct:=I (i+1),bk:=D.nx } δ2)∧∀δ',I ds.length δ'->D.nx δ'
noncomputable def Ycq(mi:MIt)(g:MGt)(u:MSt):MSt:=λD δ=>mi δ λds δ1=>Z8z ds g u D δ1
theorem Rel.mk0{C:MC G}{H H':Hp}{σ:St}{δ:Ze}{fp:Fp}{ex:Addr->Prop}(R:Rel C io H σ δ fp ex)(s:Same H H'):Rel C io H' σ δ fp ex:=(R.made (new:=[]) s λa m=>nomatch m).drop λa z=>.inl z
theorem Z3n{iter:Expr}{body:List Stmt}{mi:MIt}{g:MGt}{u:MSt}{pos:Pos}(hp:PassesOwn (X7 X.prog X.w) X.A X.env X.xe)(hc:X.calm=true)(hi:MI X io p true tg iter mi)(hg:MG X io true tg g)(hb:MSs X io body u)
  (hs:∀x,Bf iter X.env x=pure x:=by intro _;rfl):MS X io (.For tg iter body [] pos) (Ycq mi g u):=by
 obtain⟨_,A,s⟩:=hi
 obtain⟨_,G,sg⟩:=hg
 obtain⟨_,B,sb⟩:=hb
 refine⟨_,Z3r hp hc A G B hs,λC H σ δ fp ex D D' R h E=>s C H σ δ fp ex _ _ R h λJ H1 ds δ1 fp1 R1 S1 it h1=>?_⟩
 obtain⟨I,h0,turn,fin⟩:=h1
 refine⟨λi n σ' H'=>n=ds.length-i∧i≤ds.length∧∃δ' fp',Rel C io H' σ' δ' fp' ex∧Kp H1 fp1 H' fp'∧I i δ',⟨ds.length,rfl,QZ _,δ1,fp1,R1,.refl _ _,h0⟩,?_⟩
 rintro i n σ2 H2 ⟨rfl,hle,δ2,fp2,R2,k2,i2⟩
 have itk:=it H2 (λb o e q=>k2.keep b o e (.inr (q.resolve_left (by decide)))) i
 by_cases hlt:i<ds.length
 ·have hd:ds[i]? =some ds[i]:=Xj hlt
  obtain⟨go,yl⟩:=itk.1 _ hd
  refine .inr ⟨go,λσ' H'=>∃δ' fp',Rel C io H' σ' δ' fp' ex∧Kp H1 fp1 H' fp'∧I (i+1) δ',λσ' H' ⟨δ',fp',R',k',i'⟩=>⟨ds.length-(i+1),by omega,rfl,hlt,δ',fp',R',k',i'⟩,λx H3 hy=>?_⟩
  obtain⟨s3,q3⟩:=yl x H3 hy
  have R3:=R2.mk0 s3
  have k3:Kp H1 fp1 H3 fp2:=k2.trans ⟨λb o e _=>s3 _ _ e,λz=>(nomatch z),λa z=>.inl z,s3.al⟩
  refine sg C H3 σ2 δ2 fp2 ex x _ _ _ R3 (IterOk.at (H':=H2) (J:=J) (ds:=ds) k2.grow q3) (turn i _ δ2 hd i2) λσ4 δ4 fp4 R4 k4 h4=>?_
  have k5:=k3.trans k4
  refine sb C H3 σ4 δ4 fp4 ex _ _ R4 h4 ⟨λH' σ' δ' fp' R' k' n'=>⟨δ',fp',R',k5.trans k',n'⟩,λH' σ' δ' fp' R' k' n'=>E.nx H' σ' δ' fp' R' (S1.kp.trans (k5.trans k')) n',λH' σ' δ' fp' R' k' n'=>⟨δ',fp',R',k5.trans k',n'⟩,E.rt⟩
 ·have e:i=ds.length:=by omega
  subst e
  exact .inl ⟨itk.2 (by simp),E.nx H2 σ2 δ2 fp2 R2 (S1.kp.trans k2) (fin δ2 i2)⟩
end
noncomputable def gM(G:Xb)(io:List Nat)(c:Bool)(g:MGt):TG:=λv σ H Q=>∃(C:MC G) (δ:Ze) (fp:Fp) (ex:Addr->Prop) (d:Xa) (k:Ze->Prop),Rel C io H σ δ fp ex∧Da G H (λa=>c=true->Lf C fp ex a) v d∧g d δ k∧
 ∀σ' δ' fp',Rel C io H σ' δ' fp' ex->Kp H fp H fp'->k δ'->Q σ' H
noncomputable def tM(G:Xb)(io:List Nat)(p c:Bool)(m:MEt):TE:=λσ H Q=>∃(C:MC G) (δ:Ze) (fp:Fp) (ex:Addr->Prop) (K:OT->Ze->Prop),Rel C io H σ δ fp ex∧m δ K∧∀H' v r δ' fp' new,RE C io p c H σ δ fp ex H' v r δ' fp' new->K r δ'->Q v H'
noncomputable def ttM(G:Xb)(io:List Nat)(p:Bool)(m:MTt):TT:=λσ H Q=>∃(C:MC G) (δ:Ze) (fp:Fp) (ex:Addr->Prop) (K:Bool->Ze->Prop),Rel C io H σ δ fp ex∧m δ K∧∀H' b δ' fp',Rel C io H' σ δ' fp' ex->Stp p H δ fp H' δ' fp'->K b δ'->Q b H'
noncomputable def MIfs(X:Cx)(io:List Nat)(p:Bool)(ifs:List Expr)(m:MTt):Prop:=∃t,Zy9 X ifs t∧STt X.K io p t m
section
variable {X:Cx}{io:List Nat}{p c:Bool}{e tg:Expr}{m:MEt}{mt:MTt}{g:MGt}{ifs:List Expr}
theorem MG.canon(h:MG X io c tg g):PG X tg (gM X.K io c g):=by
 obtain⟨t,A,s⟩:=h
 rintro pins sh σ H v u Q I r ⟨C,δ,fp,ex,d,k,R,q,h,kk⟩
 exact A pins sh σ H v u Q I r (s C H σ δ fp ex v d k Q R q h kk)
theorem ME.canon(h:ME X io p c e m):PE X e (tM X.K io p c m):=by
 obtain⟨t,A,s⟩:=h
 rintro pins sh σ H Q I ⟨C,δ,fp,ex,K,R,h,kk⟩
 exact A pins sh σ H Q I (s C H σ δ fp ex K Q R h kk)
theorem MIfs.canon(h:MIfs X io p ifs mt):Zy9 X ifs (ttM X.K io p mt):=by
 obtain⟨t,A,s⟩:=h
 rintro pins sh σ H Q I ⟨C,δ,fp,ex,K,R,h,kk⟩
 exact A pins sh σ H Q I (s C H σ δ fp ex K Q R h kk)
noncomputable def Z4j:MTt:=λδ K=>K true δ
theorem W3:MIfs X io true [] Z4j:=⟨_,Zrg,λC H σ δ fp ex K Q R h kk=>kk H true δ fp R (.refl _ _ _ _) h⟩
theorem Zdt{cnd:Expr}(h:MT X io p cnd mt):MIfs X io p [cnd] mt:=by
 obtain⟨_,A,s⟩:=h
 exact⟨_,Z1q A,s⟩
end
variable {G:Xb}
noncomputable def blk(n:Nat)(caps:List Nat)(δ:Ze):Ze:=Xx n none ++ caps.map λi=>(δ[i]?).getD none
noncomputable def J0(n:Nat)(caps:List Nat)(fp:Fp):Fp:=λk=>if k<n then[]else match caps[k-n]? with|some i=>fp i|none=>[]
noncomputable def Zbn(n:Nat)(caps:List Nat):List Nat:=(Xl caps.length).map (·+n)
noncomputable def Zxc(C:MC G)(H1:Hp)(fp:Fp)(σ0:St):MC G:=⟨H1,Foot fp,λa=>(C.L a∨C.H₀ a=none)∧¬Foot fp a,σ0⟩
noncomputable def Zga(ex:Addr->Prop)(D:Addr)(fp fpb:Fp)(a:Addr):Prop:=ex a∨a=D∨(Foot fp a∧¬Foot fpb a)
section
variable {C:MC G}{io:List Nat}{H1 H':Hp}{σ:St}{δ:Ze}{fp:Fp}{ex:Addr->Prop}{own:List Str}{caps:List Nat}{D:Addr}{n:Nat}
theorem Zc8{k:Nat}{a:Addr}(h:a∈J0 n caps fp k):∃i,n≤k∧caps[k-n]? =some i∧a∈fp i:=by
 unfold J0 at h
 split at h
 ·exact nomatch h
 ·split at h
  ·rename_i i e
   exact⟨i,by omega,e,h⟩
  ·exact nomatch h
theorem Zvn{j i:Nat}(h:caps[j]? =some i):J0 n caps fp (n+j)=fp i:=by
 unfold J0
 rw[if_neg (by omega),show n+j-n=j by omega,h]
theorem Z29{k:Nat}{t:OT}(h:(blk n caps δ)[k]? =some (some t)):∃i,n≤k∧caps[k-n]? =some i∧δ[i]? =some (some t):=by
 unfold blk at h
 rw[List.getElem?_append]at h
 split at h
 ·rw[U8]at h
  split at h<;>cases h
 ·rename_i hk
  rw[VL]at hk h
  rw[Xk]at h
  cases e:caps[k-n]? with
  | none=>rw[e]at h;cases h
  | some i=>
   rw[e]at h
   refine⟨i,by omega,rfl,?_⟩
   simp only[U9]at h
   cases e2:δ[i]? with
   | none=>rw[e2]at h;cases h
   | some o=>
    rw[e2]at h
    simpa using h
theorem Rel.block(R:Rel C io H1 σ δ fp ex)(nd:caps.Nodup)(hD:H1 D=none) :
  Rel (Zxc C H1 fp (Zac own caps σ)) (Zbn own.length caps) (upd H1 D (.lst [])) (Zac own caps σ) (blk own.length caps δ) (J0 own.length caps fp) (Zga ex D fp (J0 own.length caps fp)):=by
 have s:=Yv hD (.lst [])
 have sub:∀a,Foot (J0 own.length caps fp) a->Foot fp a:=λa q91=>by
  obtain⟨k,z⟩:=q91
  obtain⟨i,_,_,z⟩:=Zc8 z
  exact⟨i,z⟩
 have neD:∀a,H1 a≠none->a≠D:=λa h z=>h (z▸hD)
 refine⟨by unfold Zac blk;simp,λk t e=>?_,λk h=>?_,λk=>?_,λk l a h1 h2=>?_,λk a h z=>?_,λa z=>?_,λb o e _=>s _ _ e,λb e=>s.free e,λk a h=>?_,λk _=>rfl⟩
 ·obtain⟨i,hk,e1,e2⟩:=Z29 e
  obtain⟨v,e3,o⟩:=R.own i t e2
  refine⟨v,?_,?_⟩
  ·unfold Zac
   rw[JF (by simpa using hk),Xe,Xk,e1]
   simp[e3]
  ·have ef:J0 own.length caps fp k=fp i:=by
    have:=Zvn (n:=own.length) (fp:=fp) e1
    rwa[show own.length+(k-own.length)=k by omega]at this
   rw[ef]
   refine(o.wide λa l q=>⟨λz=>l.1 (sub a z),λz=>?_,.inl ⟨l.2.2,l.1⟩⟩).same s
   rcases z with z|z|z
   ·exact l.2.1 z
   ·exact neD a q z
   ·exact l.1 z.1
 ·unfold J0
  split
  ·rfl
  ·split
   ·rename_i i e1
    refine R.emp i λt z=>h t ?_
    unfold blk
    rw[JF (by rw[VL];omega),VL,Xk,e1]
    simp[z]
   ·rfl
 ·unfold J0
  split
  ·exact .nil
  ·split
   ·exact R.nd _
   ·exact .nil
 ·obtain⟨i,hk,e1,m1⟩:=Zc8 h1
  obtain⟨j,hl,e2,m2⟩:=Zc8 h2
  have:=R.dj i j a m1 m2
  subst this
  have hlt:=(Xg.mp e1).1
  have:=(List.getElem?_inj hlt nd).mp (e1.trans e2.symm)
  omega
 ·obtain⟨i,hk,e1,m⟩:=Zc8 h
  rcases z with z|z|z
  ·exact R.dx i a m z
  ·exact R.footSome (z▸hD) ⟨i,m⟩
  ·exact z.2 ⟨k,h⟩
 ·rcases z with z|z|z
  ·intro q;exact R.xa a z (s.free q)
  ·subst z;rw[Zx];intro q;cases q
  ·obtain⟨xs,e⟩:=R.foot z.1
   rw[s _ _ e];intro q;cases q
 ·obtain⟨i,hk,e1,m⟩:=Zc8 h
  refine .inl ⟨?_,⟨i,m⟩⟩
  have:=(Xg.mp e1).1
  exact XF.mpr ⟨k-own.length,by simpa using this,by omega⟩
theorem Z46{σ0:St}{fp':Fp}{ex':Addr->Prop}{a:Addr}(hx:∀a,ex a->ex' a)(l:Lf (Zxc C H1 fp σ0) fp' ex' a):Lf C fp ex a∨H1 a=none:=by
 obtain⟨l1,l2,l3⟩:=l
 rcases l3 with l3|l3
 ·exact .inl ⟨l3.2,λz=>l2 (hx a z),l3.1⟩
 ·exact .inr l3
theorem Rel.poke(R:Rel C io H' σ δ fp ex){xs ys:List V}(hx:ex D)(hD:H' D=some (.lst xs))(h0:C.H₀ D=none):Rel C io (upd H' D (.lst ys)) σ δ fp ex:=by
 have nf:¬Foot fp D:=λ⟨i,z⟩=>R.dx i D z hx
 have kp:∀b o,b≠D->H' b=some o->upd H' D (.lst ys) b=some o:=λb o n e=>by rw[Zr n];exact e
 refine⟨R.len,λi t e=>?_,R.emp,R.nd,R.dj,R.dx,λa z=>?_,λb o e n=>?_,λb e=>?_,R.new,R.io⟩
 ·obtain⟨v,e1,o⟩:=R.own i t e
  refine⟨v,e1,o.frame (λa zs l q=>⟨l,?_⟩) (λa zs q=>kp a _ (λz=>?_) q) λa m zs q=>kp a _ (λz=>nf ⟨i,z▸m⟩) q⟩
  ·have na:a≠D:=λz=>l.2.1 (z▸hx)
   rcases q with q|⟨u,q⟩
   ·exact .inl (kp a _ na q)
   ·exact .inr ⟨u,kp a _ na q⟩
  ·exact ImO.nl q (z▸hD)
 ·by_cases e:a=D
  ·subst e;rw[Zx];intro q;cases q
  ·rw[Zr e];exact R.xa a z
 ·refine kp b o (λz=>?_) (R.fr b o e n)
  rw[z,h0]at e;cases e
 ·refine R.al b ?_
  by_cases q:b=D
  ·subst q;rw[Zx]at e;cases e
  ·rwa[Zr q]at e
theorem Owns.poke{L:Addr->Prop}{xs ys zs:List V}{rs:List OT}{as:List Addr}(o:Owns G H' L zs rs as)(hD:H' D=Be (HO.lst xs))(hL:¬L D)(hn:D∉as):Owns G (upd H' D (.lst ys)) L zs rs as:=by
 refine o.frame (λa zs l q=>⟨l,?_⟩) (λa zs q=>?_) λa m zs q=>?_
 ·have na:a≠D:=λz=>hL (z▸l)
  rcases q with q|⟨u,q⟩
  ·exact .inl (by rw[Zr na];exact q)
  ·exact .inr ⟨u,by rw[Zr na];exact q⟩
 ·rw[Zr (λz=>ImO.nl q (z▸hD))];exact q
 ·have na:a≠D:=λz=>hn (by rw[←z];exact m)
  rw[Zr na];exact q
theorem Owns.snoc{L:Addr->Prop}{xs:List V}{rs:List OT}{as bs:List Addr}{x:V}{r:OT}(h:Owns G H' L xs rs as)(k:Own G H' L x r bs):Owns G H' L (xs ++ [x]) (rs ++ [r]) (as ++ bs) :=
 Owns.rec (motive_1:=λ_ _ _ _=>True) (motive_2:=λxs rs as _=>Owns G H' L (xs ++ [x]) (rs ++ [r]) (as ++ bs)) (λ_=>trivial) (λ_ _ _=>trivial) (λ_ _ _=>trivial) (λ_ _ _=>trivial) (by have:=Owns.cons k .nil;rwa[QT]at this) (λk _ _ ih=>by rw[Bu];exact .cons k ih) h
end
structure Zw2(C:MC G)(H1:Hp)(fp1:Fp)(ex:Addr->Prop)(n:Nat)(caps:List Nat)(σ0:St)(D:Addr)(pb:Bool)(H':Hp)(σ':St)(δ':Ze)(fp':Fp)(ys:List V)(rs:List OT)(new:List Addr):Prop where
 keep:∀b o,H1 b=some o->(pb=true∨¬Foot (J0 n caps fp1) b)->H' b=some o
 al:∀b,H' b=none->H1 b=none
 dat:H' D=some (.lst ys)
 rel:Rel (Zxc C H1 fp1 σ0) (Zbn n caps) H' σ' δ' fp' (exu (Zga ex D fp1 (J0 n caps fp1)) new)
 grow:∀a,Foot fp' a->Foot (J0 n caps fp1) a∨H1 a=none
 own:Owns G H' (λa=>true=true->Lf (Zxc C H1 fp1 σ0) fp' (exu (Zga ex D fp1 (J0 n caps fp1)) new) a) ys rs new
 nd:new.Nodup
 fresh:∀a∈new,H1 a=none∧a≠D
section
variable {io:List Nat}{p c pt pe ci:Bool}{g:MGt}{mt:MTt}{me:MEt}{own:List Str}{caps:List Nat}
theorem Zrd{C:MC G}{H1:Hp}{σ:St}{δ1:Ze}{fp1:Fp}{ex:Addr->Prop}{J:It}{ds:List Xa}{D:Addr}{Qf:Hp->Prop}(I:Nat->List OT->Ze->Prop)(R1:Rel C io H1 σ δ1 fp1 ex)
  (it:∀H':Hp,(∀b o,H1 b=some o->((pt&&pe)=true∨¬Foot (J0 own.length caps fp1) b)->H' b=some o)->∀i:Nat,(∀d,ds[i]? =some d->J.go i H'∧∀x H'',J.yld i H' x H''->Same H' H''∧Da G H'' (λa=>ci=true->(Lf C fp1 ex a∧H1 a≠none)) x d)∧(ds[i]? =none->J.stop i H'))
  (nd:caps.Nodup) (hD:H1 D=none) (hz:ds.length≤Xr) (h0:I 0 [] (blk own.length caps δ1))
  (turn:∀(i:Nat) (d:Xa) (rs:List OT) (δ':Ze),ds[i]? =some d->I i rs δ'->g d δ' λδ2=>mt δ2 λb δ3=>if b=true then me δ3 λr δ4=>I (i+1) (rs ++ [r]) δ4 else I (i+1) rs δ3)
  (fin:∀H' σ' δ' fp' ys rs new,Zw2 C H1 fp1 ex own.length caps (Zac own caps σ) D (pt&&pe) H' σ' δ' fp' ys rs new->I ds.length rs δ'->Qf H') :
  Zvh J (gM G (Zbn own.length caps) ci g) (ttM G (Zbn own.length caps) pt mt) (tM G (Zbn own.length caps) pe true me) (Zac own caps σ) D Qf H1:=by
 have hx:Zga ex D fp1 (J0 own.length caps fp1) D:=.inr (.inl rfl)
 refine⟨λi n σ' H'=>n=ds.length-i∧i≤ds.length∧∃rs ys new δ' fp',Zw2 C H1 fp1 ex own.length caps (Zac own caps σ) D (pt&&pe) H' σ' δ' fp' ys rs new∧ys.length≤i∧I i rs δ',⟨ds.length,rfl,QZ _,[],[],[],_,_,⟨λb o e _=>Yv hD _ _ _ e,(Yv hD _).al,Zx,?_,λa z=>.inl z,.nil,.nil,λa m=>(nomatch m)⟩,XQ _,h0⟩,?_⟩
 ·exact(R1.block nd hD).drop λa z=>Za4.mp z
 rintro i n σ2 H2 ⟨rfl,hle,rs,ys,new,δ2,fp2,B,hl,i2⟩
 have subB:∀b,Foot (J0 own.length caps fp1) b->Foot fp1 b:=λb q92=>by
  obtain⟨k,z⟩:=q92
  obtain⟨i,_,_,z⟩:=Zc8 z
  exact⟨i,z⟩
 have itk:=it H2 B.keep i
 by_cases hlt:i<ds.length
 case neg=>
  have e:i=ds.length:=by omega
  subst e
  exact .inl ⟨itk.2 (by simp),fin H2 σ2 δ2 fp2 ys rs new B i2⟩
 have hd:ds[i]? =some ds[i]:=Xj hlt
 obtain⟨go,yl⟩:=itk.1 _ hd
 refine .inr ⟨go,λx H3 hy=>?_⟩
 obtain⟨s3,q3⟩:=yl x H3 hy
 have R3:=B.rel.mk0 s3
 have D3:H3 D=some (.lst ys):=s3 _ _ B.dat
 -- the item,clean in the block
 have q3':Da G H3 (λa=>ci=true->Lf (Zxc C H1 fp1 (Zac own caps σ)) fp2 (exu (Zga ex D fp1 (J0 own.length caps fp1)) new) a) x ds[i]:=by
  refine q3.wide λa l _ z=>?_
  obtain⟨⟨l1,l2,l3⟩,l4⟩:=l z
  refine⟨λw=>?_,λw=>?_,.inl ⟨l3,l1⟩⟩
  ·rcases B.grow a w with w|w
   ·exact l1 (subB a w)
   ·exact l4 w
  ·rcases w with(w|w|w)|w
   ·exact l2 w
   ·subst w;exact l4 hD
   ·exact l1 w.1
   ·exact l4 (B.fresh a w).1
 refine⟨_,δ2,fp2,_,_,_,R3,q3',turn i _ rs δ2 hd i2,λσ4 δ4 fp4 R4 k4 h4=>?_⟩
 refine⟨_,δ4,fp4,_,_,R4,h4,λH5 b δ5 fp5 R5 S5 h5=>?_⟩
 -- the state behind the test
 have keep5:∀b o,H1 b=some o->((pt&&pe)=true∨¬Foot (J0 own.length caps fp1) b)->H5 b=some o:=λb o e q=>by
  refine S5.keep b o (s3 _ _ (B.keep b o e q)) ?_
  rcases q with q|q
  ·rw[XN]at q;exact .inl q.1
  ·refine .inr λz=>?_
   rcases k4.grow b z with z|z
   ·rcases B.grow b z with z|z
    ·exact q z
    ·rw[e]at z;cases z
   ·rw[s3 _ _ (B.keep b o e (.inr q))]at z;cases z
 have al5:∀b,H5 b=none->H1 b=none:=λb e=>B.al b (s3.al b (S5.al b e))
 have grow4:∀a,Foot fp4 a->Foot (J0 own.length caps fp1) a∨H1 a=none:=λa z=>by
  rcases k4.grow a z with z|z
  ·exact B.grow a z
  ·exact .inr (B.al a (s3.al a z))
 have grow5:∀a,Foot fp5 a->Foot (J0 own.length caps fp1) a∨H1 a=none:=λa z=>by
  rcases S5.grow a z with z|z
  ·exact grow4 a z
  ·exact .inr (B.al a (s3.al a z))
 have D5:H5 D=some (.lst ys):=S5.keep D _ D3 (.inr λ⟨k,z⟩=>R4.dx k D z (.inl hx))
 have own3:=B.own.same s3
 -- the items so far behind the target and the test
 have own4:Owns G H3 (λa=>true=true->Lf (Zxc C H1 fp1 (Zac own caps σ)) fp4 (exu (Zga ex D fp1 (J0 own.length caps fp1)) new) a) ys rs new:=by
  refine own3.wide λa l q z=>?_
  obtain⟨l1,l2,l3⟩:=l z
  exact⟨λw=>(k4.grow a w).elim l1 q,l2,l3⟩
 have own5:=R4.owns_step (ex':=exu (Zga ex D fp1 (J0 own.length caps fp1)) new) S5 (c:=true) (.inr rfl) (λa z=>.inl z) (λa m=>.inr m) own4
 dsimp only at h5⊢
 cases b with
 | false=>
  rw[if_neg XC]at h5⊢
  exact⟨ds.length-(i+1),by omega,rfl,hlt,rs,ys,new,δ5,fp5,⟨keep5,al5,D5,R5,grow5,own5,B.nd,B.fresh⟩,by omega,h5⟩
 | true=>
  rw[if_pos rfl]at h5⊢
  refine⟨_,δ5,fp5,_,_,R5,h5,λH6 v r δ6 fp6 nr r6 h6=>?_⟩
  have D6:H6 D=some (.lst ys):=r6.stp.keep D _ D5 (.inr λ⟨k,z⟩=>R5.dx k D z (.inl hx))
  have hDnr:D∉nr:=λz=>by
   have:=r6.fresh D z
   rw[D5]at this;cases this
  have own6:=R5.owns_step (ex':=exu (exu (Zga ex D fp1 (J0 own.length caps fp1)) new) nr) r6.stp (c:=true) (.inr rfl) (λa z=>z.imp id λz=>r6.fresh a z) (λa m=>.inr m) own5
  have eqx:∀a,exu (Zga ex D fp1 (J0 own.length caps fp1)) (new ++ nr) a->exu (exu (Zga ex D fp1 (J0 own.length caps fp1)) new) nr a:=λa z=>by
   rcases z with z|z
   ·exact .inl (.inl z)
   ·rcases Ql.mp z with z|z
    ·exact .inl (.inr z)
    ·exact .inr z
  have lw:∀a,(true=true->Lf (Zxc C H1 fp1 (Zac own caps σ)) fp6 (exu (exu (Zga ex D fp1 (J0 own.length caps fp1)) new) nr) a)->H6 a≠none->(true=true->Lf (Zxc C H1 fp1 (Zac own caps σ)) fp6 (exu (Zga ex D fp1 (J0 own.length caps fp1)) (new ++ nr)) a) :=
   λa l _ z=>⟨(l z).1,λw=>(l z).2.1 (eqx a w),(l z).2.2⟩
  have ownA:=(own6.snoc r6.own).wide lw
  refine⟨ys,D6,by omega,ds.length-(i+1),by omega,rfl,hlt,rs ++ [r],ys ++ [v],new ++ nr,δ6,fp6,⟨λb o e q=>?_,λb e=>?_,Zx,?_,λa z=>?_,?_,?_,λa m=>?_⟩,by rw[Qy];show ys.length+1≤i+1;omega,h6⟩
  ·have nD:b≠D:=λz=>by rw[z,hD]at e;cases e
   rw[Zr nD]
   refine r6.stp.keep b o (keep5 b o e q) ?_
   rcases q with q|q
   ·rw[XN]at q;exact .inl q.2
   ·refine .inr λz=>?_
    rcases grow5 b z with z|z
    ·exact q z
    ·rw[e]at z;cases z
  ·by_cases q:b=D
   ·subst q;rw[Zx]at e;cases e
   ·rw[Zr q]at e
    exact al5 b (r6.stp.al b e)
  ·exact(r6.rel.drop eqx).poke (.inl hx) D6 hD
  ·rcases r6.stp.grow a z with z|z
   ·exact grow5 a z
   ·exact .inr (al5 a z)
  ·exact ownA.poke D6 (λz=>(z rfl).2.1 (.inl hx)) (λm=>by
    rcases Ql.mp m with m|m
    ·exact(B.fresh D m).2 rfl
    ·exact hDnr m)
  ·refine Ba.mpr ⟨B.nd,r6.nd,λa m b m' z=>?_⟩
   subst z
   obtain⟨xs,e⟩:=own5.some a m
   rw[r6.fresh a m']at e;cases e
  ·rcases Ql.mp m with m|m
   ·exact B.fresh a m
   ·exact⟨al5 a (r6.fresh a m),λz=>hDnr (z▸m)⟩
end
variable {G:Xb}
section
variable {X:Cx}{io:List Nat}{p p' c pt pe ci:Bool}{g:MGt}{mt:MTt}{me m:MEt}{mi:MIt}{own:List Str}{caps:List Nat}{e:Expr}
noncomputable def Z36(m:MEt):MEt:=λδ K=>m δ λr δ'=>Zbi r.data=true∧K (.fz r.data) δ'
theorem Z2i(h:ME X io p c e m):ME X io p true e (Z36 m):=by
 obtain⟨_,A,s⟩:=h
 exact⟨_,A,λC H σ δ fp ex K Q R h k=>s C H σ δ fp ex _ _ R h λH' v r δ' fp' new r1 h1=>k H' v _ δ' fp' [] (r1.fzs R h1.1) h1.2⟩
noncomputable def Z53(n:Nat)(caps:List Nat)(ds:List Xa)(g:MGt)(mt:MTt)(me:MEt)(δ1:Ze)(K:OT->Ze->Prop):Prop:=ds.length≤Xr∧∃I:Nat->List OT->Ze->Prop,I 0 [] (blk n caps δ1)∧
 (∀ (i:Nat) (d:Xa) (rs:List OT) (δ':Ze),ds[i]? =some d->I i rs δ'->g d δ' λδ2=>mt δ2 λb δ3=>if b=true then me δ3 λr δ4=>I (i+1) (rs ++ [r]) δ4 else I (i+1) rs δ3)∧
 ∀rs δ',I ds.length rs δ'->K (.nd rs) δ1
noncomputable def Zg9(n:Nat)(caps:List Nat)(mi:MIt)(g:MGt)(mt:MTt)(me:MEt):MEt:=λδ K=>mi δ λds δ1=>Z53 n caps ds g mt me δ1 K
theorem Zx6{wi:TI}(si:SI G io p ci wi mi)(nd:caps.Nodup)(hp:(pt&&pe)=true) :
  SE G io p true (Zu1 own caps wi (gM G (Zbn own.length caps) ci g) (ttM G (Zbn own.length caps) pt mt) (tM G (Zbn own.length caps) pe true me)) (Zg9 own.length caps mi g mt me):=by
 intro C H σ δ fp ex K Q R h k
 refine si C H σ δ fp ex _ _ R h λJ H1 ds δ1 fp1 R1 S1 it h1 D hD=>?_
 obtain⟨hz,I,h0,turn,fin⟩:=h1
 refine Zrd I R1 (λH' kp=>it H' λb o e _=>kp b o e (.inl hp)) nd hD hz h0 turn λH' σ' δ' fp' ys rs new B i'=>?_
 have s:Same H1 H':=λb o e=>B.keep b o e (.inl hp)
 refine k H' (.ref D) (.nd rs) δ1 fp1 (D :: new) (RE.tree R R1 S1 s (λa m=>?_) (Qj.mpr ⟨λm=>(B.fresh D m).2 rfl,B.nd⟩) (.nd B.dat (B.own.wide λa l _=>?_))) (fin rs δ' i')
 ·rcases Xo.mp m with rfl|m
  ·exact hD
  ·exact(B.fresh a m).1
 ·refine⟨?_,λm=>?_⟩
  ·rcases Z46 (λa z=>.inl (.inl z)) (l rfl)with z|z
   ·exact .inl λ_=>z
   ·exact .inr z
  ·rcases Xo.mp m with z|z
   ·exact(l rfl).2.1 (.inl (.inr (.inl z)))
   ·exact(l rfl).2.1 (.inr z)
variable {N':List Str}{sc:V8}{tg elt iter:Expr}{ifs:List Expr}{pos:Pos}
theorem Z45(S:CompScope X own caps N' sc)(hc:X.calm=true)(nd:caps.Nodup)(hi:MI X io p ci tg iter mi)
  (hg:∀C cells s₂ H₂ fp,MG (Wh X N' sc C cells s₂ H₂ fp) (Zbn own.length caps) ci tg g) (ht:∀C cells s₂ H₂ fp,MIfs (Wh X N' sc C cells s₂ H₂ fp) (Zbn own.length caps) pt ifs mt) (he:∀C cells s₂ H₂ fp,ME (Wh X N' sc C cells s₂ H₂ fp) (Zbn own.length caps) pe true elt me)
  (hp:(pt&&pe)=true:=by rfl) (hs:∀x,Bf iter X.env x=pure x:=by intro _;rfl):ME X io p true (.ListComp elt [⟨tg,iter,ifs,0⟩] sc pos) (Zg9 own.length caps mi g mt me):=by
 obtain⟨_,A,si⟩:=hi
 exact⟨_,Zqs S hc A (λC cells s₂ H₂ fp=>(hg C cells s₂ H₂ fp).canon) (λC cells s₂ H₂ fp=>(ht C cells s₂ H₂ fp).canon) (λC cells s₂ H₂ fp=>(he C cells s₂ H₂ fp).canon) hs,Zx6 si nd hp⟩
section
variable {i:Nat}{y:Str}{py spos:Pos}
theorem Zaf(own':Bool)(hN:X.N.Nodup)(hy:X.N[i]? =some y)(hx:Loc X.env.scope y)(S:CompScope X own caps N' sc)(hc:X.calm=true)(nd:caps.Nodup)(hi:MI X io p ci tg iter mi)
  (hg:∀C cells s₂ H₂ fp,MG (Wh X N' sc C cells s₂ H₂ fp) (Zbn own.length caps) ci tg g) (ht:∀C cells s₂ H₂ fp,MIfs (Wh X N' sc C cells s₂ H₂ fp) (Zbn own.length caps) pt ifs mt) (he:∀C cells s₂ H₂ fp,ME (Wh X N' sc C cells s₂ H₂ fp) (Zbn own.length caps) pe true elt me)
  (hp:(pt&&pe)=true:=by rfl) (hio:i∉io:=by decide)
  (hsw:Vm (.ListComp elt [⟨tg,iter,ifs,0⟩] sc pos) (some (.Name y py)) spos.line X.env=pure true:=by rfl)
  (hs:∀x,Bf iter X.env x=pure x:=by intro _;rfl) (hf:X.fn y=true∨X.env.scope.names.lookup y=some .local:=by first|exact .inl rfl|exact .inr rfl|assumption) :
  MS X io (.Assign [.Name y py] (.ListComp elt [⟨tg,iter,ifs,0⟩] sc pos) spos) (if own'=true then Zpu i (Zg9 own.length caps mi g mt me)else Z18 i (Zg9 own.length caps mi g mt me)):=by
 obtain⟨_,A,si⟩:=hi
 refine⟨_,Zpr (g:=gM X.K (Zbn own.length caps) ci g) (tt:=ttM X.K (Zbn own.length caps) pt mt) (te:=tM X.K (Zbn own.length caps) pe true me) hN hy hx S hc A (λC cells s₂ H₂ fp=>(hg C cells s₂ H₂ fp).canon) (λC cells s₂ H₂ fp=>(ht C cells s₂ H₂ fp).canon) (λC cells s₂ H₂ fp=>(he C cells s₂ H₂ fp).canon) hsw hs hf,?_⟩
 cases own'
 ·exact Ycs (Zx6 si nd hp) hio
 ·exact Z3a (Zx6 si nd hp) hio
end
end
variable {G:Xb}
section
variable {X:Cx}{pins:List (Addr×Obj)}{σ:St}{H:Hp}{s:Xd}{l:Addr}{xs:List V}
noncomputable def Z6t(K:Xb):R2:=λx y H Q=>∃l b xs zs,x= .ref l∧y= .ref b∧SqL K H l xs∧SqL K H b zs∧xs.length+zs.length≤Xr∧∀p,H p=none->Q (.ref p) (upd H p (.lst (xs ++ zs)))
theorem Inv.lstQ{K:Xb}(hK:X.K=K)(I:Inv X pins σ H s)(hH:SqL K H l xs):∃(its:List Xc) (n:Nat),Vals xs its∧xs.length=its.length∧∃o,s.heap.get? l=some o∧o.cls= .type "list"∧o.dict=none∧o.data= .seq its.toArray n:=by
 subst hK
 obtain⟨its,r,⟨o,n,e,h1,h2,h3⟩,_⟩:=I.list hH
 exact⟨its,n,r,r.length,o,e,h1,h2,h3⟩
theorem Zfa{K:Xb}(hK:X.K=K):OpR X (Vb .Add) (Z6t K):=by
 intro pins s σ H x y v u Q I rx ry h
 obtain⟨l,b,xs,zs,rfl,rfl,hH,hB,hz,q⟩:=h
 cases rx
 cases ry
 obtain⟨its,n,r,hl,⟨cls,dd,data,sl⟩,ho,hc,_,hd⟩:=I.lstQ hK hH
 obtain⟨its2,n2,r2,hl2,⟨cls2,dd2,data2,sl2⟩,ho2,hc2,_,hd2⟩:=I.lstQ hK hB
 simp only at hc hd hc2 hd2
 subst hc hd hc2 hd2
 have ea:its.toArray ++ its2.toArray=(its ++ its2).toArray:=by simp
 refine concat_meets ⟨_,ho,rfl⟩ ⟨_,ho2,rfl⟩ noFill_list_add seq_list_add PySem.F.slot_list_add PySem.F.entry_list_add (PySem.F.args_list_add_2 _ _) (list_addW l b its.toArray its2.toArray n n2 dd dd2 sl sl2 (by simp only[XM];omega)) ⟨ho,ho2,?_⟩
 rw[ea]
 exact⟨.ref _,_,I.lnew (t':=s.toks) (r.append r2) (by rw[Qy];omega),rfl,q _ I.fresh⟩
end
noncomputable def asI(d:Xa)(k:Int->Prop):Prop:=match d with| .int i=>k i|_=>False
noncomputable def asL(d:Xa)(k:List Xa->Prop):Prop:=match d with| .list ds=>k ds|_=>False
section
variable {H:Hp}{L:Addr->Prop}{v:V}{d:Xa}
theorem Da.intInv{k:Int->Prop}(q:Da G H L v d)(h:asI d k):∃i,v= .int i∧k i:=by
 cases q with
 | int b=>exact⟨b,rfl,h⟩
 | _=>exact h.elim
theorem Da.lstInv{k:List Xa->Prop}(q:Da G H L v d)(h:asL d k):∃a xs ds,v= .ref a∧SqL G H a xs∧Das G H L xs ds∧k ds:=by
 cases q with
 | lst l e r=>exact⟨_,_,_,rfl,.inl e,r,h⟩
 | scr s=>exact⟨_,_,_,rfl,s.sq,.ints _,h⟩
 | _=>exact h.elim
end
noncomputable def d2I(C:Int->Int->Prop)(g:Int->Int->Xa):Xa->Xa->(Xa->Prop)->Prop:=λd e k=>asI d λi=>asI e λj=>C i j∧k (g i j)
noncomputable def Ztr(g:Int->Int->Xa):Xa->Xa->(Xa->Prop)->Prop:=λd e k=>asI d λi=>asI e λj=>k (g i j)
theorem Zqu{C:Int->Int->Prop}{f:Int->Int->Int}:P2s G (rI C λi j=>.int (f i j)) (d2I C λi j=>.int (f i j)):=λH L x y d e k Q hx hy h kk=>by
 obtain⟨i,rfl,h⟩:=hx.intInv h
 obtain⟨j,rfl,h⟩:=hy.intInv h
 exact⟨i,j,rfl,rfl,h.1,kk _ _ (.int _) h.2⟩
structure MulOk(i j:Int):Prop where
 ok:IntMulOk i j
structure Yd2(i j:Int):Prop where
 ok:DivOk i j
structure Z73(i j:Int):Prop where
 ok:Z16 i j
theorem Z3p{f:Int->Int->Int}:P2s G (rI IntMulOk λi j=>.int (f i j)) (d2I MulOk λi j=>.int (f i j)):=λH L x y d e k Q hx hy h kk=>by
 obtain⟨i,rfl,h⟩:=hx.intInv h
 obtain⟨j,rfl,h⟩:=hy.intInv h
 exact⟨i,j,rfl,rfl,h.1.ok,kk _ _ (.int _) h.2⟩
theorem Z6r{f:Int->Int->Int}:P2s G (rI DivOk λi j=>.int (f i j)) (d2I Yd2 λi j=>.int (f i j)):=λH L x y d e k Q hx hy h kk=>by
 obtain⟨i,rfl,h⟩:=hx.intInv h
 obtain⟨j,rfl,h⟩:=hy.intInv h
 exact⟨i,j,rfl,rfl,h.1.ok,kk _ _ (.int _) h.2⟩
theorem Zxf{f:Int->Int->Int}:P2s G (rI Z16 λi j=>.int (f i j)) (d2I Z73 λi j=>.int (f i j)):=λH L x y d e k Q hx hy h kk=>by
 obtain⟨i,rfl,h⟩:=hx.intInv h
 obtain⟨j,rfl,h⟩:=hy.intInv h
 exact⟨i,j,rfl,rfl,h.1.ok,kk _ _ (.int _) h.2⟩
theorem Zjl{f:Int->Int->Int}:P2s G (rI0 λi j=>.int (f i j)) (Ztr λi j=>.int (f i j)):=λH L x y d e k Q hx hy h kk=>by
 obtain⟨i,rfl,h⟩:=hx.intInv h
 obtain⟨j,rfl,h⟩:=hy.intInv h
 exact⟨i,j,rfl,rfl,kk _ _ (.int _) h⟩
theorem Zlt{f:Int->Int->Bool}:P2s G (rI0 λi j=>.bl (f i j)) (Ztr λi j=>.bool (f i j)):=λH L x y d e k Q hx hy h kk=>by
 obtain⟨i,rfl,h⟩:=hx.intInv h
 obtain⟨j,rfl,h⟩:=hy.intInv h
 exact⟨i,j,rfl,rfl,kk _ _ (.bl _) h⟩
section
variable {X:Cx}
noncomputable def Yco(K:Xb):R2:=λx y H Q=>∃(L L':Addr->Prop) (d e:Xa),Da K H L x d∧Da K H L' y e∧Shp d∧Shp e∧Q (.bl (Q3 d e)) H
noncomputable def Yed(K:Xb):R2:=λx y H Q=>∃(L L':Addr->Prop) (d e:Xa),Da K H L x d∧Da K H L' y e∧Shp d∧Shp e∧Q (.bl (!Q3 d e)) H
theorem Zrl(hu:X.A.units+64<cLine):OpR X (Bg .Eq) (Yco X.K):=by
 intro pins s σ H x y v u Q I rx ry h
 obtain⟨L,L',d,e,h1,h2,s1,s2,q⟩:=h
 obtain⟨as,k1⟩:=h1.reads rfl I rx (VG s1)
 obtain⟨bs,k2⟩:=h2.reads rfl I ry (VG s2)
 exact eq_dataH k1 k2 s1 s2 hu ⟨.bl _,H,I,rfl,q⟩
theorem Z7j(hu:X.A.units+64<cLine):OpR X (Bg .NotEq) (Yed X.K):=by
 intro pins s σ H x y v u Q I rx ry h
 obtain⟨L,L',d,e,h1,h2,s1,s2,q⟩:=h
 obtain⟨as,k1⟩:=h1.reads rfl I rx (VG s1)
 obtain⟨bs,k2⟩:=h2.reads rfl I ry (VG s2)
 exact ne_dataH k1 k2 s1 s2 hu ⟨.bl _,H,I,rfl,q⟩
end
structure Z2j(d:Xa):Prop where
 ok:Shp d
noncomputable def dEq:Xa->Xa->(Xa->Prop)->Prop:=λd e k=>Z2j d∧Z2j e∧k (.bool (Q3 d e))
noncomputable def dNe:Xa->Xa->(Xa->Prop)->Prop:=λd e k=>Z2j d∧Z2j e∧k (.bool (!Q3 d e))
theorem Zzg:P2s G (Yco G) dEq:=λH L x y d e k Q hx hy h kk=>⟨L,L,d,e,hx,hy,h.1.ok,h.2.1.ok,kk _ _ (.bl _) h.2.2⟩
theorem Z9h:P2s G (Yed G) dNe:=λH L x y d e k Q hx hy h kk=>⟨L,L,d,e,hx,hy,h.1.ok,h.2.1.ok,kk _ _ (.bl _) h.2.2⟩
noncomputable def Zd5:Xa->Bool
 | .none=>true
 | _=>false
theorem Da.isNone{H:Hp}{L:Addr->Prop}{v:V}{d:Xa}(h:Da G H L v d):decide (v= .non)=Zd5 d:=by
 cases h<;>rfl
noncomputable def Ycb:Xa->Xa->(Xa->Prop)->Prop:=λd e k=>e= .none∧k (.bool (Zd5 d))
noncomputable def Z6u:Xa->Xa->(Xa->Prop)->Prop:=λd e k=>e= .none∧k (.bool (!Zd5 d))
theorem Z7a:P2s G (λx y H Q=>y= .non∧Q (.bl (decide (x= .non))) H) Ycb:=λH L x y d e k Q hx hy h kk=>by
 obtain⟨rfl,h⟩:=h
 cases hy
 exact⟨rfl,by rw[hx.isNone];exact kk _ _ (.bl _) h⟩
theorem Z02:P2s G (λx y H Q=>y= .non∧Q (.bl (!decide (x= .non))) H) Z6u:=λH L x y d e k Q hx hy h kk=>by
 obtain⟨rfl,h⟩:=h
 cases hy
 exact⟨rfl,by rw[hx.isNone];exact kk _ _ (.bl _) h⟩
noncomputable def scD:Xa->Bool
 | .none=>true
 | .bool _=>true
 | .int _=>true
 | .str _=>true
 | _=>false
noncomputable def eqS:Xa->Xa->Bool
 | .none,.none=>true
 | .bool a,.bool b=>a==b
 | .bool a,.int b=>(if a then 1 else 0)==b
 | .int a,.bool b=>a==(if b then 1 else 0)
 | .int a,.int b=>a==b
 | .str a,.str b=>a==b
 | _,_=>false
noncomputable def memS(d:Xa)(ds:List Xa):Bool:=ds.any λe=>eqS e d
theorem Da.toSc{H:Hp}{L:Addr->Prop}{v:V}{d:Xa}(h:Da G H L v d)(s:scD d=true):ScD v d:=by
 cases h with
 | non=>exact .non
 | bl b=>exact .bl b
 | int i=>exact .int i
 | str x=>exact .str x
 | _=>cases s
theorem Da.sc{H:Hp}{L:Addr->Prop}{v:V}{d:Xa}(h:Da G H L v d)(s:scD d=true):Zg0 v=true:=by
 cases h.toSc s<;>rfl
theorem Das.sc{H:Hp}{L:Addr->Prop}{vs:List V}{ds:List Xa}(h:Das G H L vs ds):ds.all scD=true->vs.all Zg0=true :=
 Das.ind (Q:=λvs ds=>ds.all scD=true->vs.all Zg0=true) (λ_=>rfl) (λh _ r s=>by
  rw[UV,XN]at s
  rw[UV,h.sc s.1,r s.2];rfl) h
theorem Da.eqS{H:Hp}{L:Addr->Prop}{v u:V}{d e:Xa}(h:Da G H L v d)(g:Da G H L u e)(s:scD d=true)(t:scD e=true):eqV v u=L2.eqS d e:=by
 cases h.toSc s<;>cases g.toSc t<;>rfl
theorem Das.memS{H:Hp}{L:Addr->Prop}{v:V}{d:Xa}(h:Da G H L v d)(s:scD d=true){vs:List V}{ds:List Xa}(g:Das G H L vs ds):ds.all scD=true->inV v vs=L2.memS d ds :=
 Das.ind (Q:=λvs ds=>ds.all scD=true->inV v vs=L2.memS d ds) (λ_=>rfl) (λg _ r t=>by
  rw[UV,XN]at t
  have:=r t.2
  unfold inV L2.memS at*
  rw[Vw,Vw,this,g.eqS h t.1 s]) g
noncomputable def dIn(neg:Bool):Xa->Xa->(Xa->Prop)->Prop:=λd e k=>scD d=true∧match e with
 | .list ds=>ds.all scD=true∧k (.bool (if neg then !memS d ds else memS d ds))
 | .tuple ds=>ds.all scD=true∧k (.bool (if neg then !memS d ds else memS d ds))
 | _=>False
theorem Zt9{neg:Bool}:P2s G (rIn G neg) (dIn neg):=λH L x y d e k Q hx hy h kk=>by
 obtain⟨s,h⟩:=h
 cases hy with
 | lst l e r=>exact⟨_,_,rfl,.inl (.inl e),hx.sc s,r.sc h.1,by rw[Das.memS hx s r h.1];exact kk _ _ (.bl _) h.2⟩
 | tup e r=>exact⟨_,_,rfl,.inr (.inl (.inl e)),hx.sc s,r.sc h.1,by rw[Das.memS hx s r h.1];exact kk _ _ (.bl _) h.2⟩
 | scr ks=>exact⟨_,_,rfl,.inl ks.sq,hx.sc s,(Das.ints (G:=G) (H:=H) (L:=L) _).sc h.1,by rw[Das.memS hx s (Das.ints (G:=G) (H:=H) (L:=L) _) h.1];exact kk _ _ (.bl _) h.2⟩
 | _=>exact h.elim
noncomputable def ixD(d e:Xa):Option Xa:=match d,e with
 | .list ds,.int i=>atI ds i
 | .tuple ds,.int i=>atI ds i
 | _,_=>none
noncomputable def dIx:Xa->Xa->(OT->Prop)->Prop:=λd e k=>match ixD d e with|some x=>k (.fz x)|none=>False
theorem Das.atI{H:Hp}{L:Addr->Prop}{xs:List V}{ds:List Xa}{i:Int}{d:Xa}(h:Das G H L xs ds)(e:L2.atI ds i=some d):∃x,L2.atI xs i=some x∧Da G H L x d:=by
 unfold L2.atI at*
 rw[h.length]
 cases q:ixN ds.length i with
 | none=>rw[q]at e;cases e
 | some j=>
  rw[q]at e
  exact h.get e
theorem Ybl:P2 G (rIx G) dIx:=λH L x y d e k Q hx hy h kk=>by
 unfold dIx at h
 split at h
 case h_2=>exact h.elim
 rename_i z ez
 have fin:∀v,Da G H L v z->Q v H:=λv q=>kk H v (.fz z) [] (Same.refl _) (.fz (q.wide λa l _=>⟨.inl l,λm=>nomatch m⟩)) .nil (λa m=>nomatch m) h
 cases hx with
 | lst l e1 r=>
  cases hy with
  | int i=>
   obtain⟨v,e2,q⟩:=r.atI (show L2.atI _ i=some z from ez)
   exact .inl ⟨_,_,i,v,rfl,rfl,.inl e1,e2,fin v q⟩
  | _=>cases ez
 | tup e1 r=>
  cases hy with
  | int i=>
   obtain⟨v,e2,q⟩:=r.atI (show L2.atI _ i=some z from ez)
   exact .inr (.inl ⟨_,_,i,v,rfl,rfl,.inl (.inl e1),e2,fin v q⟩)
  | _=>cases ez
 | scr ks=>
  cases hy with
  | int i=>
   obtain⟨v,e2,q⟩:=(Das.ints (G:=G) (H:=H) (L:=L) _).atI (show L2.atI _ i=some z from ez)
   exact .inl ⟨_,_,i,v,rfl,rfl,ks.sq,e2,fin v q⟩
  | _=>cases ez
 | _=>cases ez
theorem Own.list{H:Hp}{L:Addr->Prop}{p:Addr}{xs:List V}{ds:List Xa}(hp:H p=none)(h:Das G H L xs ds):Own G (upd H p (.lst xs)) (λa=>(L a∨H a=none)∧a∉[p]) (.ref p) (.nd (ds.map OT.fz)) [p] :=
 .nd Zx (((h.wide λa l q=>⟨.inl l,λm=>q (by rw[Xy.mp m];exact hp)⟩).same (Yv hp _)).owns)
theorem Zkg{H:Hp}{p:Addr}(hp:H p=none):∀a∈[p],H a=none:=λa m=>by rw[Xy.mp m];exact hp
theorem Zkz(p:Addr):[p].Nodup:=Qj.mpr ⟨λm=>(nomatch m),.nil⟩
noncomputable def dCat:Xa->Xa->(OT->Prop)->Prop:=λd e k=>asL d λds=>asL e λes=>ds.length+es.length≤Xr∧k (.nd ((ds ++ es).map OT.fz))
theorem Ziq:P2 G (Z6t G) dCat:=λH L x y d e k Q hx hy h kk=>by
 obtain⟨a,xs,ds,rfl,e1,r1,h⟩:=hx.lstInv h
 obtain⟨b,ys,es,rfl,e2,r2,h⟩:=hy.lstInv h
 exact⟨a,b,xs,ys,rfl,rfl,e1,e2,by rw[r1.length,r2.length];exact h.1,λp hp=>kk _ _ _ [p] (Yv hp _) (Own.list hp (r1.append r2)) (Zkz p) (Zkg hp) h.2⟩
noncomputable def n1(k:Xa->Prop)(ds:List Xa):Prop:=match ds with|[d]=>k d|_=>False
noncomputable def n2(k:Xa->Xa->Prop)(ds:List Xa):Prop:=match ds with|[d,e]=>k d e|_=>False
theorem Das.one{H:Hp}{L:Addr->Prop}{vs:List V}{ds:List Xa}{k:Xa->Prop}(q:Das G H L vs ds)(h:n1 k ds):∃v d,vs=[v]∧ds=[d]∧Da G H L v d∧k d:=by
 cases q with
 | nil=>exact h.elim
 | cons q r=>
  cases r with
  | nil=>exact⟨_,_,rfl,rfl,q,h⟩
  | cons _ _=>exact h.elim
theorem Das.two{H:Hp}{L:Addr->Prop}{vs:List V}{ds:List Xa}{k:Xa->Xa->Prop}(q:Das G H L vs ds)(h:n2 k ds):∃v u d e,vs=[v,u]∧ds=[d,e]∧Da G H L v d∧Da G H L u e∧k d e:=by
 cases q with
 | nil=>exact h.elim
 | cons q r=>
  cases r with
  | nil=>exact h.elim
  | cons q' r'=>
   cases r' with
   | nil=>exact⟨_,_,_,_,rfl,rfl,q,q',h⟩
   | cons _ _=>exact h.elim
noncomputable def Zus:Xa->Option Nat
 | .list ds=>some ds.length
 | .tuple ds=>some ds.length
 | _=>none
noncomputable def Ydg:List Xa->(Xa->Prop)->Prop:=λds k=>n1 (λd=>match Zus d with|some n=>k (.int n)|none=>False) ds
theorem Z3j:PNs G (Z8y G) Ydg:=λH L xs ds k Q hx h kk=>by
 obtain⟨v,d,rfl,rfl,q,h⟩:=hx.one h
 cases q with
 | lst l e r=>exact⟨_,_,rfl,.inl (.inl e),by rw[r.length];exact kk _ _ (.int _) h⟩
 | tup e r=>exact⟨_,_,rfl,.inr (.inl (.inl e)),by rw[r.length];exact kk _ _ (.int _) h⟩
 | scr ks=>exact⟨_,_,rfl,.inl ks.sq,by rw[(Das.ints (G:=G) (H:=H) (L:=L) _).length];exact kk _ _ (.int _) h⟩
 | _=>exact h.elim
noncomputable def Ycw:List Xa->(Xa->Prop)->Prop:=λds k=>n1 (λd=>asI d λi=>k (.int (if i<0 then -i else i))) ds
theorem Zr3:PNs G (λxs H Q=>∃i,xs=[.int i]∧Q (.int (if i<0 then -i else i)) H) Ycw:=λH L xs ds k Q hx h kk=>by
 obtain⟨v,d,rfl,rfl,q,h⟩:=hx.one h
 obtain⟨i,rfl,h⟩:=q.intInv h
 exact⟨i,rfl,kk _ _ (.int _) h⟩
noncomputable def Yci:List Xa->(Xa->Prop)->Prop:=λds k=>n2 (λd e=>asI d λi=>asI e λj=>k (.int (if j<i then j else i))) ds
theorem Zse:PNs G (λxs H Q=>∃i j,xs=[.int i,.int j]∧Q (.int (if j<i then j else i)) H) Yci:=λH L xs ds k Q hx h kk=>by
 obtain⟨v,u,d,e,rfl,rfl,q,q',h⟩:=hx.two h
 obtain⟨i,rfl,h⟩:=q.intInv h
 obtain⟨j,rfl,h⟩:=q'.intInv h
 exact⟨i,j,rfl,kk _ _ (.int _) h⟩
noncomputable def Yc1:List Xa->(Xa->Prop)->Prop:=λds k=>n1 (λd=>match d with| .int i=>k (.int i)| .bool b=>k (.int (if b then 1 else 0))|_=>False) ds
theorem Z66:PNs G (λxs H Q=>(∃i,xs=[.int i]∧Q (.int i) H)∨∃k,xs=[.bl k]∧Q (.int (if k then 1 else 0)) H) Yc1:=λH L xs ds k Q hx h kk=>by
 obtain⟨v,d,rfl,rfl,q,h⟩:=hx.one h
 cases q with
 | int i=>exact .inl ⟨i,rfl,kk _ _ (.int _) h⟩
 | bl b=>exact .inr ⟨b,rfl,kk _ _ (.int _) h⟩
 | _=>exact h.elim
noncomputable def Zxh:Xa->Option (List Xa)
 | .list ds=>some ds
 | .tuple ds=>some ds
 | _=>none
section
variable {X:Cx}{io:List Nat}{p c:Bool}{a:Expr}{ma:MEt}{pos:Pos}
noncomputable def Yds(m:MEt):MEt:=λδ K=>m δ λr δ'=>asI r.data λi=>K (.fz (.int (-i))) δ'
theorem Z9o(ha:ME X io p c a ma):ME X io p true (.UnaryOp .USub a pos) (Yds ma):=by
 obtain⟨_,A,s⟩:=ha
 exact⟨_,Yba Z6k A,λC H σ δ fp ex K Q R h k=>s C H σ δ fp ex _ _ R h λH' v r δ' fp' new r1 h1=>by
  obtain⟨i,rfl,h1⟩:=(r1.da R).intInv h1
  exact⟨i,rfl,k H' _ _ δ' fp' [] (.fz r1.base r1.stp (.int _)) h1⟩⟩
noncomputable def Zqc(T:String):Xa->Bool
 | .none=>false
 | .bool _=>T=="bool"||T=="int"
 | .int _=>T=="int"
 | .str _=>T=="str"
 | .list _=>T=="list"
 | .tuple _=>T=="tuple"
 | .dict _=>false
noncomputable def Ydb(T:String)(m:MEt):MEt:=λδ K=>m δ λr δ'=>Zh5 r.data=false∧K (.fz (.bool (Zqc T r.data))) δ'
end
section
variable {prog:X4}{w:Qs}{A:Qm}{E:Xc->Xd->Prop}{h:Heap}{g:Array GenState}{d:Drawn}{t:Nat}{os:OsState}{a C:Addr}{o:Obj}{K:Xb}
theorem Z0s(M:Model)(hx:h.get? a=some o)(hc:o.cls= .ref C):Q5 M h (typeOf (.ref a)) (.ref C):=hc▸(Q5.ld hx).andThen .now
theorem Zty{R:Result->Xd->Prop}(X:K.In h)(Z:Zey K C)(hx:h.get? a=some o)(hc:o.cls= .ref C)(hq:R (.ok (.ret (.ref C))) ⟨h,g,d,t,os⟩) :
  codeAny (X7 prog w) A (.call (.builtin "getset_descriptor.__get__") ⟨[.builtin "object.__class__",.ref a,.ref C],[]⟩) R ⟨h,g,d,t,os⟩:=by
 have L1:Q5 (X7 prog w) h (isSubtype (.ref C) (.type (".".intercalate ("object.__class__".cutAt '.').dropLast))) true:=by
  rw[F.owner_object_class]
  exact PySem.W.looks_subIn X Z.isO
 have T5:(⟨h,g,d,t,os⟩:Xd).TypeIs (.builtin "object.__class__") "getset_descriptor" :=F.typeOf_object_class
 refine codeAny_call_builtin F.slot_gs_get.plain F.entry_gs_get (F.slot_gs_get.check _ _ _ _ _ _ _ _ T5 (F.args_gs_get _ _ _) ?_)
 repeat (any_goals (first|assumption|(with_reducible refine V1 hx ?_;rw[hc])|(with_reducible refine Xf (Q5.at L1 ?_))|(with_reducible refine Q5.at L1 ?_)|wp_step))
 refine⟨Code.quiet_builtin _ (by decide +kernel),codeAny_builtin F.entry_object_class ?_⟩
 repeat (any_goals (first|assumption|(with_reducible refine V1 hx ?_;rw[hc])|wp_step))
theorem Zpo{tk:Tok}{Q:Fin->Xd->Prop}(X:K.In h)(Z:Zey K C)(hx:h.get? a=some o)(hc:o.cls= .ref C)(hq:Q (.done (.ret (.ref C))) ⟨h,g,d,t,os⟩) :
  XR (X7 prog w) A (Builtin.«object.__getattribute__» ⟨[.ref a,.str "__class__" tk],[]⟩) Q E ⟨h,g,d,t,os⟩:=by
 have T5:(⟨h,g,d,t,os⟩:Xd).TypeIs (.builtin "object.__class__") "getset_descriptor" :=F.typeOf_object_class
 have g5:=F.typeOf_object_class
 have g6:=F.slot_gs_get.lookup
 have g7:=F.slot_gs_set.lookup
 have L4:=PySem.W.looks_findIn (M:=X7 prog w) X Z.cl
 repeat (any_goals (first|assumption|(with_reducible refine V1 hx ?_;rw[hc])|(with_reducible refine Xf (Q5.at L4 ?_))|(with_reducible refine Q5.at L4 ?_)|wp_step))
 refine Zty X Z hx hc ?_
 repeat (any_goals (first|assumption|wp_step))
theorem Zo9{M:Model}{nameV:Xc}{Q:Unit->Xd->Prop}(X:K.In h)(Z:Zey K C)(hx:h.get? a=some o)(hc:o.cls= .ref C)(hq:Q () ⟨h,g,d,t,os⟩) :
  XR M A (checkBuiltinCall "BaseException.__getattribute__" ⟨[.ref a,nameV],[]⟩) Q E ⟨h,g,d,t,os⟩:=by
 have e1:builtinKind "BaseException.__getattribute__"=some .slot:=by decide +kernel
 have e2:splitId "BaseException.__getattribute__"=some ("BaseException","__getattribute__"):=by decide +kernel
 have L1:=PySem.W.looks_subIn (M:=M) X Z.isB
 have e3:=F.args_bexc_ga (.ref a) nameV
 simp only[checkBuiltinCall,e1,e2]
 refine Xf ?_
 unfold isInstance
 repeat (first|(with_reducible refine V1 hx ?_;rw[hc])|(with_reducible refine Xf (Q5.at L1 ?_))|(with_reducible refine Q5.at L1 ?_)|wp_step)
 exact hq
theorem Zsq{tk:Tok}{R:Result->Xd->Prop}(X:K.In h)(Z:Zey K C)(hx:h.get? a=some o)(hc:o.cls= .ref C)(hq:R (.ok (.ret (.ref C))) ⟨h,g,d,t,os⟩) :
  codeAny (X7 prog w) A (.call (.builtin "BaseException.__getattribute__") ⟨[.ref a,.str "__class__" tk],[]⟩) R ⟨h,g,d,t,os⟩ :=
 codeAny_call_builtin F.excAttr_ValueError.ga.plain F.entry_bexc_ga (Zo9 X Z hx hc (Zpo X Z hx hc hq))
theorem Zye{tk:Tok}{fill expr:Bool}{Q:Xc->Xd->Prop}(X:K.In h)(Z:Zey K C)(hx:h.get? a=some o)(hc:o.cls= .ref C)(hq:Q (.ref C) ⟨h,g,d,t,os⟩) :
  XR (X7 prog w) A (getAttrBy (.ref a) (.str "__class__" tk) fill expr) Q E ⟨h,g,d,t,os⟩:=by
 have f3:=F.excAttr_ValueError.ga.bind (.ref a)
 have y0:(expr&&onTheHeap (Uy "BaseException.__getattribute__"))=false:=by cases expr<;>rfl
 have y2:(Uy "BaseException.__getattribute__"==Uy "object.__getattribute__")=false:=by decide +kernel
 have y1:(onTheHeap (QJ C)&&Uy "BaseException.__getattribute__"==Uy "object.__getattribute__")=false:=by rw[y2];rfl
 have L2:=PySem.W.looks_findIn (M:=X7 prog w) X Z.ga
 have L3:=PySem.W.looks_findIn (M:=X7 prog w) X Z.gt
 repeat (any_goals (first|assumption|(with_reducible refine V1 hx ?_;rw[hc])|(with_reducible refine Q5.at L2 ?_)|(with_reducible refine Q5.at L3 ?_)|(with_reducible refine Xf (Q5.at L2 ?_))|(with_reducible refine Xf (Q5.at L3 ?_))|wp_step))
 refine Zsq X Z hx hc ?_
 repeat (any_goals (first|assumption|wp_step))
theorem Zra{Q:Option Xc->Xd->Prop}(X:K.In h)(Z:Zey K C)(hx:h.get? a=some o)(hc:o.cls= .ref C)(hq:Q (some (.ref C)) ⟨h,g,d,t+1,os⟩) :
  XR (X7 prog w) A (getAttr? (.ref a) "__class__") Q E ⟨h,g,d,t,os⟩:=by
 unfold getAttr? getAttrBy?
 repeat (any_goals (first|assumption|with_reducible apply Zye X Z hx hc|wp_step))
end
theorem Zug{K:Xb}{a C:Addr}(Z:Zey K C):PySem.W.KitX K (.ref a) (.ref C) (λh=>∃o,h.get? a=some o∧o.cls= .ref C) where
 ty:=λM h _ p=>let⟨_,hx,hc⟩:=p;Z0s M hx hc
 it:=λM h X _=>by
  have z:=Z.isC
  unfold PySem.W.clsIn at z
  split at z
  ·rename_i ho
   intro A' Q' E' s' k q
   unfold isType loadHead
   exact Xf (wpAny_loadPart (k _ _ (X _ _ ho)) (X8 q))
  ·cases z
 ne:=λh tp dd its n sl X htp=>by
  have z:=Z.isC
  refine UL.mpr λq=>?_
  have e:C=tp:=QJ.inj (beq_iff_eq.mp q)
  subst e
  unfold PySem.W.clsIn at z
  split at z
  ·rename_i ho
   have z:=(X _ _ ho).symm.trans htp
   cases z
  ·cases z
 ca:=fun{_ _ _ _ _ s} X p k=>by
  obtain⟨h,g,d,t,os⟩:=s
  obtain⟨_,hx,hc⟩:=p
  exact Zra X Z hx hc k
variable {G:Xb}
noncomputable def tyD:Xa->String
 | .none=>"NoneType"
 | .bool _=>"bool"
 | .int _=>"int"
 | .str _=>"str"
 | .list _=>"list"
 | .tuple _=>"tuple"
 | .dict _=>"dict"
theorem Zxu{K:Xb}{T:String}{d:Xa}(h:T="int"∨T="bool"∨T="str"∨T="list"∨T="tuple")(hd:∀kvs,d≠ .dict kvs):Bv K (.type (tyD d)) (.type T)=some (Zqc T d):=by
 rcases h with rfl|rfl|rfl|rfl|rfl<;>cases d<;>first|rfl|(exact absurd rfl (hd _))|(unfold Bv PySem.W.kitCls;rfl)|(simp only[tyD,Zqc];decide +kernel)
noncomputable def Z9n(G:Xb):List V->Hp->VK->Prop:=λxs H Q=>∃(x:V) (T:String) (L:Addr->Prop) (d:Xa),xs=[x,.ty T]∧Da G H L x d∧Zh5 d=false∧(T="int"∨T="bool"∨T="str"∨T="list"∨T="tuple")∧Q (.bl (Zqc T d)) H
theorem Ztl{X:Cx}(hK:X.K=G):Zes X (.builtin "isinstance") (Z9n G):=by
 subst hK
 intro pins s σ H xs us Q I r h
 obtain⟨x,T,L,d,rfl,q,hf,hT,h⟩:=h
 obtain⟨u,w',rfl,r1,r2⟩:=vals2 r
 cases(show w'=Xc.type T from r2)
 have fin:∀tk:Nat,EP X pins σ Q (.bool (Zqc T d)) { s with toks:=tk }:=λtk=>⟨.bl _,H,I.tok tk,rfl,h⟩
 cases q with
 | non=>exact Zal I r1 .non (Zxu (d:=.none) hT λ_ z=>by cases z) fin
 | bl b=>exact Zal I r1 (.bl b) (Zxu (d:=.bool b) hT λ_ z=>by cases z) fin
 | int b=>exact Zal I r1 (.int b) (Zxu (d:=.int b) hT λ_ z=>by cases z) fin
 | str b=>exact Zal I r1 (.str b) (Zxu (d:=.str b) hT λ_ z=>by cases z) fin
 | lst l e qs=>
  rename_i ds
  rcases e with e|⟨o,e⟩
  ·exact Zal I r1 (.lst e) (Zxu (d:=.list ds) hT λ_ z=>by cases z) fin
  ·exact Zal I r1 (.frz e) (Zxu (d:=.list ds) hT λ_ z=>by cases z) fin
 | tup e qs=>
  rename_i ds
  exact Zal I r1 (.tup e) (Zxu (d:=.tuple ds) hT λ_ z=>by cases z) fin
 | scr ks=>
  rename_i a ns
  cases(show u=QJ a from r1)
  obtain⟨its,vs,⟨o,n,ho,hc,hd,hs⟩,_⟩:=I.list (ks.sq (H:=H))
  exact QS PySem.W.kitx_list I.kIn ⟨o,ho,hc⟩ (Zxu (d:=.list (ns.map Xn)) hT λ_ z=>by cases z) (λz=>nomatch z) fin
 | exc Z hn e=>
  rename_i a C x
  cases(show u=QJ a from r1)
  obtain⟨⟨o,vs,ho,hc,_⟩,_,_⟩:=(show ObjOk X.prog X.w H s.heap a (.ext (ExO C a))from I.hok a _ e)
  refine QS (Zug Z) I.kIn ⟨o,ho,hc⟩ (b:=Zqc T (exD x)) ?_ (λz=>nomatch z) fin
  rcases hT with rfl|rfl|rfl|rfl|rfl
  ·exact Z.k1
  ·exact Z.k2
  ·exact Z.k3
  ·exact Z.k4
  ·exact Z.k5
 | fn _=>cases hf
 | dic _ _ _ _=>unfold dcD Zh5 at hf;cases hf
section
variable {X:Cx}{io:List Nat}{p c p' c':Bool}{a b e:Expr}{ma m:MEt}{pos pp p2:Pos}{K:Xb}
theorem Zq9{T:Str}{T':String}(hT:T'="int"∨T'="bool"∨T'="str"∨T'="list"∨T'="tuple")(hg:Gl X "isinstance")(hm:X.mg "isinstance"=none)(hv:Qa "isinstance"=some (.builtin "isinstance"))
  (hg2:Gl X T) (hm2:X.mg T=none) (hv2:Qa T=some (.type T')) (ha:ME X io p c a ma) (hn:T≠"__name__" :=by decide) (hd:(T==("__debug__" : Str))=false:=by decide)
  (he:Xp [a,.Name T p2] X.env=(false,eval a X.env) :: Xp [.Name T p2] X.env:=by rfl) (he2:Xp [.Name T p2] X.env=(false,eval (.Name T p2) X.env) :: Xp [] X.env:=by rfl) (hpl:(JG pos (Xp [.Name T p2] X.env)).any (·.1)=false:=by rfl) :
  ME X io p true (.Call (.Name "isinstance" pp) [a,.Name T p2] [] pos) (Ydb T' ma):=by
 obtain⟨_,A,s⟩:=ha
 refine⟨_,Zgc (Ztl rfl) hg hm hv (Zbs A (Zbs (Z1n (v:=.ty T') hg2 hm2 hv2 rfl hn hd) Zh1 he2) he) (by decide) (by decide) he hpl,?_⟩
 intro C H σ δ fp ex K' Q R h k
 refine s C H σ δ fp ex _ _ R h λH' v r δ' fp' new r1 h1=>?_
 exact⟨v,T',_,_,rfl,r1.da R,h1.1,hT,k H' _ _ δ' fp' [] (.fz r1.base r1.stp (.bl _)) h1.2⟩
noncomputable abbrev MOt:=Ze->(Option Int->Ze->Prop)->Prop
noncomputable def MO(X:Cx)(io:List Nat)(p:Bool)(e:Option Expr)(m:MOt):Prop:=∃t,PO X e t∧∀(C:MC X.K) (H:Hp) (σ:St) (δ:Ze) (fp:Fp) (ex:Addr->Prop) (K:Option Int->Ze->Prop) (Q:Option Int->Hp->Prop),Rel C io H σ δ fp ex->m δ K ->
 (∀ H' b δ' fp',Rel C io H' σ δ' fp' ex->Stp p H δ fp H' δ' fp'->K b δ'->Q b H')->t σ H Q
noncomputable def Ztj:MOt:=λδ K=>K none δ
noncomputable def Z4h(m:MEt):MOt:=λδ K=>m δ λr δ'=>asI r.data λi=>K (some i) δ'
theorem Ztf:MO X io true none Ztj:=⟨_,Zz3,λC H σ δ fp ex K Q R h k=>k H none δ fp R (.refl _ _ _ _) h⟩
theorem Zs1(h:ME X io p c e m):MO X io p (some e) (Z4h m):=by
 obtain⟨_,A,s⟩:=h
 exact⟨_,Z10 A,λC H σ δ fp ex K Q R h k=>s C H σ δ fp ex _ _ R h λH' v r δ' fp' new r1 h1=>by
  obtain⟨i,rfl,h1⟩:=(r1.da R).intInv h1
  exact⟨i,rfl,k H' _ δ' fp' r1.base r1.stp h1⟩⟩
noncomputable def cutD(ds:List Xa)(lo hi:Option Int):List Xa:=(ds.drop (HT.sIx ds.length 0 lo)).take (HT.sIx ds.length ds.length hi-HT.sIx ds.length 0 lo)
theorem Das.cut{H:Hp}{L:Addr->Prop}{xs:List V}{ds:List Xa}(h:Das G H L xs ds)(lo hi:Option Int):Das G H L (Z2b xs lo hi) (cutD ds lo hi):=by
 unfold Z2b cutD
 rw[h.length]
 exact(h.drop _).take _
noncomputable def mSl(m:MEt)(ml mh:MOt):MEt:=λδ K=>m δ λr δ1=>ml δ1 λlo δ2=>mh δ2 λhi δ3=>asL r.data λds=>K (.nd ((cutD ds lo hi).map OT.fz)) δ3
theorem Z3q{lo hi:Option Expr}{ml mh:MOt}(ha:ME X io true c a ma)(hl:MO X io true lo ml)(hh:MO X io true hi mh):ME X io true c (.Subscript a (.Slice lo hi none p2) pos) (mSl ma ml mh):=by
 obtain⟨_,A,s⟩:=ha
 obtain⟨_,B,sl⟩:=hl
 obtain⟨_,D,sh⟩:=hh
 refine⟨_,Zub (Zvd rfl) A B D,?_⟩
 intro C H σ δ fp ex K' Q R h k
 refine s C H σ δ fp ex _ _ R h λH1 v r δ1 fp1 new r1 h1=>?_
 refine sl C H1 σ δ1 fp1 ex _ _ r1.base h1 λH2 l δ2 fp2 R2 S2 h2=>?_
 refine sh C H2 σ δ2 fp2 ex _ _ R2 h2 λH3 u δ3 fp3 R3 S3 h3=>?_
 have s2:Same H1 H2:=λb o e=>S2.keep b o e (.inl rfl)
 have s3:Same H2 H3:=λb o e=>S3.keep b o e (.inl rfl)
 obtain⟨e1,e2⟩:=r1.stp.env rfl
 obtain⟨e3,e4⟩:=S2.env rfl
 obtain⟨e5,e6⟩:=S3.env rfl
 have q:=((r1.da R).same s2).same s3
 obtain⟨a',xs,ds,rfl,e,qs,h3⟩:=q.lstInv h3
 refine⟨a',xs,rfl,e,λp hp=>?_⟩
 have S:=(r1.stp.trans S2).trans S3
 refine k _ _ _ δ3 fp3 [p] (RE.tree R R3 S (Yv hp _) (Zkg hp) (Zkz p) (Own.list hp ((qs.cut l u).wide λa l _=>?_))) h3
 rw[e6,e4]
 exact l
theorem Owns.set{H:Hp}{L:Addr->Prop}{x:V}{r:OT}(hr:Own G H L x r []):∀{xs:List V} {ts:List OT} {as:List Addr} (j:Nat),Owns G H L xs ts as->∃bs,Owns G H L (xs.set j x) (ts.set j r) bs∧bs.Sublist as
 | _,_,_,_,.nil=>⟨[],.nil,.refl _⟩
 | _,_,_,0,.cons k t=>⟨_,.cons hr t,by simp⟩
 | _,_,_,j+1,.cons (as:=as) k t=>by
  obtain⟨bs,o,s⟩:=Owns.set hr j t
  exact⟨as ++ bs,.cons k o,List.Sublist.append_left s as⟩
theorem Owns.get{H:Hp}{L:Addr->Prop}:∀{xs:List V} {ts:List OT} {as:List Addr} {j:Nat} {t:OT},Owns G H L xs ts as->ts[j]? =Be t->∃x bs,xs[j]? =Be x∧Own G H L x t bs∧bs.Sublist as
 | _,_,_,_,_,.nil,e=>by simp at e
 | _,_,_,0,_,.cons k _,e=>by simp at e;subst e;exact⟨_,_,rfl,k,List.sublist_append_left _ _⟩
 | _,_,_,j+1,t,.cons _ r,e=>by
  obtain⟨x,bs,h1,h2,h3⟩:=Owns.get (j:=j) (t:=t) r (by simpa using e)
  exact⟨x,bs,by simpa using h1,h2,h3.trans (List.sublist_append_right _ _)⟩
theorem Rel.top{C:MC G}{H:Hp}{σ:St}{δ:Ze}{fp:Fp}{ex:Addr->Prop}{i:Nat}{ts ts':List OT}{a':Addr}{xs ys:List V}{bs bs':List Addr}(R:Rel C io H σ δ fp ex)(hi:δ[i]? =some (some (.nd ts)))(hv:σ[i]? =some (some (.ref a')))
  (hf:fp i=a' :: bs) (hx:H a'=some (.lst xs)) (o:Owns G H (Lf C fp ex) ys ts' bs') (hs:bs'.Sublist bs) :
  Rel C io (upd H a' (.lst ys)) σ (δ.set i (some (.nd ts'))) (fpu fp i (a' :: bs')) ex∧Stp false H δ fp (upd H a' (.lst ys)) (δ.set i (some (.nd ts'))) (fpu fp i (a' :: bs')):=by
 have nd:=R.nd i
 rw[hf]at nd
 have hn:=Qj.mp nd
 have hm:a'∈fp i:=by rw[hf];exact .head _
 have ne':∀a,¬Foot fp a->a≠a':=λa h z=>h ⟨i,by rw[z];exact hm⟩
 have kp:∀b o,H b=some o->b≠a'->upd H a' (.lst ys) b=some o:=λb o e n=>by rw[Zr n];exact e
 have sub:∀a,a∈a' :: bs'->a∈fp i:=λa m=>by
  rw[hf]
  rcases Xo.mp m with rfl|m
  ·exact .head _
  ·exact .tail _ (hs.subset m)
 have o':Owns G (upd H a' (.lst ys)) (Lf C (fpu fp i (a' :: bs')) (exu ex [])) ys ts' bs':=by
  have f0:∀a,¬Foot fp a->¬Foot (fpu fp i (a' :: bs')) a:=λa h z=>by
   rcases z.of_u with z|⟨j,_,z⟩
   ·exact h ⟨i,sub a z⟩
   ·exact h ⟨j,z⟩
  have f1:∀a (zs:MuO),Lf C fp ex a->Rd H a zs.ho->Lf C (fpu fp i (a' :: bs')) (exu ex []) a∧Rd (upd H a' (.lst ys)) a zs.ho:=λa zs l q=>by
   refine⟨⟨f0 a l.1,λz=>l.2.1 (Za4.mp z),l.2.2⟩,?_⟩
   rcases q with q|⟨u,q⟩
   ·exact .inl (kp a _ q (ne' a l.1))
   ·exact .inr ⟨u,kp a _ q (ne' a l.1)⟩
  have f2:∀a (zs:ImO),H a=some zs.ho->upd H a' (.lst ys) a=some zs.ho:=λa zs q=>kp a _ q λz=>ImO.nl q (z▸hx)
  exact o.frame f1 f2 λa m zs q=>kp a _ q λz=>hn.1 (hs.subset (z▸m))
 have key:=R.change (new:=[]) (as':=a' :: bs') (t':=.nd ts') (H':=upd H a' (.lst ys)) hi hv (λb o e nb=>kp b o e λz=>nb (by rw[z];exact hm)) (λb e=>by
   by_cases q:b=a'
   ·subst q;rw[Zx]at e;cases e
   ·rwa[Zr q]at e) (.nd Zx o') (Qj.mpr ⟨λm=>hn.1 (hs.subset m),hn.2.sublist hs⟩) (λa m=>.inl (sub a m)) (λa m=>nomatch m)
 exact⟨key.1.drop λa z=>.inl z,key.2⟩
end
variable {G:Xb}
section
variable {X:Cx}{io:List Nat}{p c p' c':Bool}{a b e:Expr}{ma m mi mj:MEt}{pos pp p2 apos cpos px:Pos}{K:Xb}{i:Nat}{x:Str}
theorem Rel.ownNd{C:MC G}{H:Hp}{σ:St}{δ:Ze}{fp:Fp}{ex:Addr->Prop}{ts:List OT}(R:Rel C io H σ δ fp ex)(hi:δ[i]? =some (some (.nd ts))) :
  ∃a' xs bs,σ[i]? =some (some (.ref a'))∧H a'=some (.lst xs)∧Owns G H (Lf C fp ex) xs ts bs∧fp i=a' :: bs:=by
 obtain⟨v,e,o⟩:=R.own i _ hi
 generalize hf:fp i=as at o
 cases o with
 | nd h r=>exact⟨_,_,_,e,h,r,rfl⟩
noncomputable def Zj5(i:Nat)(m:MEt):MSt:=λD δ=>match δ[i]? with
 | some (some (.nd _))=>m δ λr δ1=>match δ1[i]? with
  | some (some (.nd ts))=>ts.length<Xr∧D.nx (δ1.set i (some (.nd (ts ++ [.fz r.data]))))
  | _=>False
 | _=>False
theorem Zef(i:Nat)(he:ME X io p true e m)(hN:X.N[i]? =some x:=by rfl)(hv:Vis X.env.scope x:=by first|exact Qn rfl|exact Qi (Qn rfl)|exact Qi (Qi rfl))(hd:(x==("__debug__" : Str))=false:=by decide)
  (hcd:(x==("__classdict__" : Str))=false:=by decide)
  (hbase:Ud (.Name x px) "append" X.env (eval (.Name x px) X.env)=eval (.Name x px) X.env:=by rfl)
  (hfew:((JG cpos (Xp [e] X.env)).all (λx=>!x.1)&&(backToKw cpos (keywordEach [] X.env)).all (λx=>x.1.isSome)
   &&decide ([e].length+([]:List V5).length+(if([]:List V5).isEmpty then 0 else 1)<30))=true:=by rfl)
  (hline:(apos.endLine==cpos.line)=true:=by rfl) (hs:Xp [e] X.env=(false,eval e X.env) :: Xp [] X.env:=by rfl) (hplain:(JG cpos (Xp [] X.env)).any (·.1)=false:=by rfl)
  (hsw:Vm (.Call (.Attribute (.Name x px) "append" apos) [e] [] cpos) none pos.line X.env=pure false:=by rfl) :
  MS X io (.Expr (.Call (.Attribute (.Name x px) "append" apos) [e] [] cpos) pos) (Zj5 i m):=by
 obtain⟨_,A,s⟩:=he
 refine⟨_,Zj7 (Z1f Uz Ur Uq Zed (pv i hN hv hd hcd) (Zbs A Zh1 hs) hbase hfew hline hs hplain) hsw,λC H σ δ fp ex D D' R h E=>?_⟩
 unfold Zj5 at h
 split at h
 case h_2=>exact h.elim
 rename_i ts0 hi0
 obtain⟨a',xs0,bs0,hv0,hx0,_,_⟩:=R.ownNd hi0
 refine⟨_,hv0,.inl ⟨rfl,xs0,.inl (.inl hx0)⟩,?_⟩
 refine s C H σ δ fp ex _ _ R h λH1 v r δ1 fp1 new r1 h1=>?_
 split at h1
 case h_2=>exact h1.elim
 rename_i ts1 hi1
 have R1:=r1.base
 obtain⟨a1,xs1,bs1,hv1,hx1,o1,hf1⟩:=R1.ownNd hi1
 rw[hv0]at hv1
 cases hv1
 have q:=(r1.da R).wide (L':=Lf C fp1 ex) λa l _=>l rfl
 refine⟨a',xs1,v,rfl,rfl,hx1,by rw[o1.length];exact h1.1,?_⟩
 have o2:=o1.snoc (.fz q)
 obtain⟨R2,S2⟩:=R1.top hi1 hv0 hf1 hx1 o2 (by simp)
 exact E.nx _ σ _ _ R2 (r1.stp.kp.trans S2.kp) h1.2
noncomputable def Yei(i:Nat)(m mi:MEt):MSt:=λD δ=>m δ λr δ1=>match δ1[i]? with
 | some (some (.nd ts))=>mi δ1 λn _=>asI n.data λk=>match ixN ts.length k with
  | some j=>D.nx (δ1.set i (some (.nd (ts.set j (.fz r.data)))))
  | none=>False
 | _=>False
noncomputable def Z44(i:Nat)(m mi mj:MEt):MSt:=λD δ=>m δ λr δ1=>match δ1[i]? with
 | some (some (.nd ts))=>mi δ1 λn _=>asI n.data λk=>match ixN ts.length k with
  | some j=>match ts[j]? with
   | some (.nd us)=>mj δ1 λn' _=>asI n'.data λk'=>match ixN us.length k' with
    | some j'=>D.nx (δ1.set i (some (.nd (ts.set j (.nd (us.set j' (.fz r.data)))))))
    | none=>False
   | _=>False
  | none=>False
 | _=>False
theorem SE.pureAfter{t:TE}{C:MC G}{H:Hp}{σ:St}{δ:Ze}{fp:Fp}{ex:Addr->Prop}{K':OT->Ze->Prop}{Q:VK}(s:SE G io true c t m)(R:Rel C io H σ δ fp ex)(h:m δ K')(k:∀H' v r,Rel C io H' σ δ fp ex->Same H H'->Da G H' (λa=>c=true->Lf C fp ex a) v r.data->K' r δ->Q v H'):t σ H Q :=
 s C H σ δ fp ex _ _ R h λH1 v r δ1 fp1 new r1 h1=>by
  obtain⟨e1,e2⟩:=r1.stp.env rfl
  have q:=r1.da R
  have R1:=r1.base
  rw[e1]at R1 h1
  rw[e2]at R1 q
  exact k H1 v r R1 (λb o e=>r1.stp.keep b o e (.inl rfl)) q h1
theorem Zv8(i:Nat)(he:ME X io p true e m)(hj:ME X io true c a mi)(hN:X.N[i]? =some x:=by rfl)(hv:Vis X.env.scope x:=by first|exact Qn rfl|exact Qi (Qn rfl)|exact Qi (Qi rfl))(hd:(x==("__debug__" : Str))=false:=by decide)
  (hcd:(x==("__classdict__" : Str))=false:=by decide)
  (hpg:∀{to ti:TE},PE X (.Name x px) to->PE X a ti->PG X (.Subscript (.Name x px) a pp) (Z84 to ti Z04):=by intro _ _ A B;exact Zv9 A B set_list)
  (hs:swapsWithSole [.Subscript (.Name x px) a pp] e pos.line X.env=pure false:=by rfl) (hw:swappedStores [.Subscript (.Name x px) a pp] e X.env=pure none:=by rfl)
  (h1:(QW [.Subscript (.Name x px) a pp] X.env).map (·.2)=[V2 (.Subscript (.Name x px) a pp) X.env]:=by rfl):MS X io (.Assign [.Subscript (.Name x px) a pp] e pos) (Yei i m mi):=by
 obtain⟨_,A,s⟩:=he
 obtain⟨_,B,sj⟩:=hj
 refine⟨_,Zxg A (hpg (pv i hN hv hd hcd) B) hs hw h1,λC H σ δ fp ex D D' R h E=>?_⟩
 refine s C H σ δ fp ex _ _ R h λH1 v r δ1 fp1 new r1 h1=>?_
 have R1:=r1.base
 have q:=(r1.da R).wide (L':=Lf C fp1 ex) λa l _=>l rfl
 split at h1
 case h_2=>exact h1.elim
 rename_i ts hi
 obtain⟨a',_,_,hv0,_⟩:=R1.ownNd hi
 refine⟨_,hv0,?_⟩
 refine sj.pureAfter R1 h1 λH2 w n R2 s2 q2 h2=>?_
 obtain⟨k,rfl,h2⟩:=q2.intInv h2
 split at h2
 case h_2=>exact h2.elim
 rename_i j hj
 obtain⟨a2,xs,bs,hv2,hx,o,hf⟩:=R2.ownNd hi
 rw[hv0]at hv2
 cases hv2
 obtain⟨bs',o',hs'⟩:=Owns.set (.fz (q.same s2)) j o
 refine⟨a',xs,k,j,rfl,rfl,hx,by rw[o.length];exact hj,?_⟩
 obtain⟨R3,S3⟩:=R2.top hi hv0 hf hx o' hs'
 exact E.nx _ σ _ _ R3 (r1.stp.kp.trans (Kp.trans ⟨λb o e _=>s2 _ _ e,λz=>(nomatch z),λa z=>.inl z,s2.al⟩ S3.kp)) h2
theorem Owns.deep{H:Hp}{L:Addr->Prop}{b':Addr}{ws ws':List V}{us us':List OT}(hb:H b'=Be (HO.lst ws))(hL:¬L b')(hc:∀cs,Owns G H L ws us cs->∃cs',Owns G H L ws' us' cs'∧cs'.Sublist cs) :
  ∀{xs:List V} {ts:List OT} {as:List Addr} {j:Nat},Owns G H L xs ts as->as.Nodup->xs[j]? =Be (.ref b')->ts[j]? =Be (.nd us)->∃as',Owns G (upd H b' (.lst ws')) L xs (ts.set j (.nd us')) as'∧as'.Sublist as∧b'∈as
 | _,_,_,_,.nil,_,e,_=>by simp at e
 | _,_,_,0,.cons (as:=as) (bs:=bs) k t,nd,e,e'=>by
  simp at e e'
  subst e e'
  have nd':=Ba.mp nd
  have kp:∀a o,a≠b'->H a=Be o->upd H b' (.lst ws') a=Be o:=λa o n q=>by rw[Zr n];exact q
  have f1:∀a (zs:MuO),L a->Rd H a zs.ho->L a∧Rd (upd H b' (.lst ws')) a zs.ho:=λa zs l q=>⟨l,by
   have na:a≠b':=λz=>hL (z▸l)
   rcases q with q|⟨u,q⟩
   ·exact .inl (kp a _ na q)
   ·exact .inr ⟨u,kp a _ na q⟩⟩
  have f2:∀a (zs:ImO),H a=Be zs.ho->upd H b' (.lst ws') a=Be zs.ho:=λa zs q=>kp a _ (λz=>ImO.nl q (z▸hb)) q
  cases k with
  | nd h r=>
   rename_i xs0 as0
   rw[hb]at h
   cases h
   have nd2:=Qj.mp nd'.1
   obtain⟨cs',o',s'⟩:=hc _ r
   refine⟨b' :: cs' ++ bs,.cons (.nd Zx (o'.frame f1 f2 λa m zs q=>kp a _ (λz=>nd2.1 (s'.subset (z▸m))) q)) (t.frame f1 f2 λa m zs q=>kp a _ (λz=>nd'.2.2 b' (.head _) a m z.symm) q),List.Sublist.append_right (List.Sublist.cons₂ _ s') bs,Bs _ (.head _)⟩
 | _,_,_,j+1,.cons (as:=as) (bs:=bs) k t,nd,e,e'=>by
  have nd':=Ba.mp nd
  obtain⟨as',o,s,m⟩:=Owns.deep hb hL hc (j:=j) t nd'.2.1 (by simpa using e) (by simpa using e')
  have nb:b'∉as:=λz=>nd'.2.2 b' z b' m rfl
  refine⟨as ++ as',.cons ?_ o,List.Sublist.append_left s as,Qk _ m⟩
  have kp:∀a o,a≠b'->H a=Be o->upd H b' (.lst ws') a=Be o:=λa o n q=>by rw[Zr n];exact q
  refine k.frame (λa zs l q=>⟨l,?_⟩) (λa zs q=>kp a _ (λz=>ImO.nl q (z▸hb)) q) λa m' zs q=>kp a _ (λz=>nb (z▸m')) q
  have na:a≠b':=λz=>hL (z▸l)
  rcases q with q|⟨u,q⟩
  ·exact .inl (kp a _ na q)
  ·exact .inr ⟨u,kp a _ na q⟩
theorem Zbt(i:Nat)(he:ME X io p true e m)(hj:ME X io true c a mi)(hk:ME X io true c' b mj)(hPa:Zgw a)(hN:X.N[i]? =some x:=by rfl)(hv:Vis X.env.scope x:=by first|exact Qn rfl|exact Qi (Qn rfl)|exact Qi (Qi rfl))(hd:(x==("__debug__" : Str))=false:=by decide)
  (hcd:(x==("__classdict__" : Str))=false:=by decide)
  (hpg:∀{to ti:TE},PE X (.Subscript (.Name x px) a pp) to->PE X b ti->PG X (.Subscript (.Subscript (.Name x px) a pp) b p2) (Z84 to ti Z04):=by intro _ _ A B;exact Zv9 A B set_list)
  (hs:swapsWithSole [.Subscript (.Subscript (.Name x px) a pp) b p2] e pos.line X.env=pure false:=by rfl) (hw:swappedStores [.Subscript (.Subscript (.Name x px) a pp) b p2] e X.env=pure none:=by rfl)
  (h1:(QW [.Subscript (.Subscript (.Name x px) a pp) b p2] X.env).map (·.2)=[V2 (.Subscript (.Subscript (.Name x px) a pp) b p2) X.env]:=by rfl) :
  MS X io (.Assign [.Subscript (.Subscript (.Name x px) a pp) b p2] e pos) (Z44 i m mi mj):=by
 obtain⟨_,A,s⟩:=he
 obtain⟨_,B,sj⟩:=hj
 obtain⟨_,B2,sk⟩:=hk
 refine⟨_,Zxg A (hpg (Z1k (Zoi rfl) (pv i hN hv hd hcd) B hPa) B2) hs hw h1,λC H σ δ fp ex D D' R h E=>?_⟩
 refine s C H σ δ fp ex _ _ R h λH1 v r δ1 fp1 new r1 h1=>?_
 have R1:=r1.base
 have q:=(r1.da R).wide (L':=Lf C fp1 ex) λa l _=>l rfl
 split at h1
 case h_2=>exact h1.elim
 rename_i ts hi
 obtain⟨a',_,_,hv0,_⟩:=R1.ownNd hi
 refine⟨_,hv0,?_⟩
 refine sj.pureAfter R1 h1 λH2 w n R2 s2 q2 h2=>?_
 obtain⟨k,rfl,h2⟩:=q2.intInv h2
 split at h2
 case h_2=>exact h2.elim
 rename_i j hj
 split at h2
 case h_2=>exact h2.elim
 rename_i us hus
 -- the row
 obtain⟨a2,xs2,bs2,hv2,hx2,o2,hf2⟩:=R2.ownNd hi
 rw[hv0]at hv2
 cases hv2
 obtain⟨xr,cr,hxr,orow,_⟩:=o2.get hus
 obtain⟨b',rfl⟩:∃b',xr=V.ref b':=by
  cases orow with
  | nd h r=>exact⟨_,rfl⟩
 refine⟨a',xs2,k,V.ref b',rfl,rfl,.inl (.inl hx2),?_,?_⟩
 ·unfold atI
  rw[o2.length,hj]
  exact hxr
 refine sk.pureAfter R2 h2 λH3 w' n' R3 s3 q3 h3=>?_
 obtain⟨k',rfl,h3⟩:=q3.intInv h3
 split at h3
 case h_2=>exact h3.elim
 rename_i j' hj'
 obtain⟨a3,xs3,bs3,hv3,hx3,o3,hf3⟩:=R3.ownNd hi
 rw[hv0]at hv3
 cases hv3
 have exs:xs3=xs2:=by
  have:=s3 _ _ hx2
  rw[hx3]at this
  cases this;rfl
 subst exs
 obtain⟨xr3,cr3,hxr3,orow3,hsub3⟩:=o3.get hus
 rw[hxr]at hxr3
 cases hxr3
 have nd3:=R3.nd i
 rw[hf3]at nd3
 have hn3:=Qj.mp nd3
 cases orow3 with
 | nd hb r3=>
  rename_i ws3 bs4
  have hbm:b'∈bs3:=hsub3.subset (.head _)
  have hbf:b'∈fp1 i:=by rw[hf3];exact .tail _ hbm
  have hLb:¬Lf C fp1 ex b':=λl=>l.1 ⟨i,hbf⟩
  obtain⟨as',oo,ss,_⟩:=Owns.deep (ws':=ws3.set j' v) (us':=us.set j' (.fz r.data)) hb hLb (λcs hcs=>Owns.set (.fz ((q.same s2).same s3)) j' hcs) o3 hn3.2 hxr hus
  refine⟨b',ws3,k',j',rfl,rfl,hb,by rw[r3.length];exact hj',?_⟩
  have hba:a'≠b':=λz=>hn3.1 (z▸hbm)
  -- the change
  have sub:∀a,a∈a' :: as'->a∈fp1 i:=λa m=>by
   rw[hf3]
   rcases Xo.mp m with rfl|m
   ·exact .head _
   ·exact .tail _ (ss.subset m)
  have kp:∀b o,H3 b=some o->b≠b'->upd H3 b' (.lst (ws3.set j' v)) b=some o:=λb o e n=>by rw[Zr n];exact e
  have lw:∀a,Lf C fp1 ex a->upd H3 b' (.lst (ws3.set j' v)) a≠none->Lf C (fpu fp1 i (a' :: as')) (exu ex []) a:=λa l _=>⟨λz=>by
   rcases z.of_u with z|⟨j,_,z⟩
   ·exact l.1 ⟨i,sub a z⟩
   ·exact l.1 ⟨j,z⟩,λz=>l.2.1 (Za4.mp z),l.2.2⟩
  obtain⟨R4,S4⟩:=R3.change (new:=[]) (as':=a' :: as') (t':=.nd (ts.set j (.nd (us.set j' (.fz r.data))))) (H':=upd H3 b' (.lst (ws3.set j' v))) hi hv0 (λb o e nb=>kp b o e λz=>nb (by rw[z];exact hbf)) (λb e=>by
    by_cases q:b=b'
    ·subst q;rw[Zx]at e;cases e
    ·rwa[Zr q]at e) (.nd (by rw[Zr hba];exact hx3) (oo.wide lw)) (Qj.mpr ⟨λm=>hn3.1 (ss.subset m),hn3.2.sublist ss⟩) (λa m=>.inl (sub a m)) (λa m=>nomatch m)
  have k23:Kp H1 fp1 H3 fp1:=⟨λb o e _=>s3 _ _ (s2 _ _ e),λz=>(nomatch z),λa z=>.inl z,λb e=>s2.al b (s3.al b e)⟩
  exact E.nx _ σ _ _ (R4.drop λa z=>.inl z) (r1.stp.kp.trans (k23.trans S4.kp)) h3
end
variable {G:Xb}
mutual
noncomputable def Zzk:OT->Bool
 | .fz d=>Zbi d
 | .nd ts=>Zss ts
 | .tp ts=>Zss ts
 | .dc _ _ _=>false
noncomputable def Zss:List OT->Bool
 | []=>true
 | t :: ts=>Zzk t&&Zss ts
end
section
variable {X:Cx}{io:List Nat}{p c:Bool}{e:Expr}{m:MEt}
theorem Rel.freeze{C:MC G}{H:Hp}{σ:St}{δ:Ze}{fp:Fp}{ex:Addr->Prop}{i:Nat}{t:OT}(R:Rel C io H σ δ fp ex)(hio:i∉io)(hi:δ[i]? =some (some t)):Rel C io H σ (δ.set i (some (.fz t.data))) (fpu fp i []) ex:=by
 have hil:i<δ.length:=(Xg.mp hi).1
 have sub:∀j a,a∈fpu fp i [] j->j≠i∧a∈fp j:=λj a m=>by
  by_cases ej:j=i
  ·subst ej;rw[Zy]at m;exact nomatch m
  ·rw[Yh ej]at m;exact⟨ej,m⟩
 have lw:∀a,Lf C fp ex a->Lf C (fpu fp i []) ex a:=λa l=>⟨λ⟨j,z⟩=>l.1 ⟨j,(sub j a z).2⟩,l.2.1,l.2.2⟩
 have ln:∀a∈fp i,Lf C (fpu fp i []) ex a:=λa m=>⟨λ⟨j,z⟩=>(sub j a z).1 (R.dj j i a (sub j a z).2 m),R.dx i a m,.inr (by
  rcases R.new i a m with z|z
  ·exact absurd z.1 hio
  ·exact z)⟩
 refine⟨by rw[Br];exact R.len,λj t' e=>?_,λj h=>?_,λj=>?_,λj k a h1 h2=>R.dj j k a (sub j a h1).2 (sub k a h2).2,λj a h z=>R.dx j a (sub j a h).2 z,R.xa,R.fr,R.al,λj a h=>R.new j a (sub j a h).2,R.io⟩
 ·by_cases ej:j=i
  ·subst ej
   rw[Qo hil]at e
   cases e
   obtain⟨v,e1,o⟩:=R.own j t hi
   exact⟨v,e1,by rw[Zy];exact .fz (o.da (λa l _=>lw a l) ln)⟩
  ·rw[Qh (Bb ej)]at e
   obtain⟨w,e1,o⟩:=R.own j t' e
   exact⟨w,e1,by rw[Yh ej];exact o.wide λa l _=>lw a l⟩
 ·by_cases ej:j=i
  ·subst ej;rw[Zy]
  ·rw[Yh ej]
   exact R.emp j λt' z=>h t' (by rw[Qh (Bb ej)];exact z)
 ·by_cases ej:j=i
  ·subst ej;rw[Zy];exact .nil
  ·rw[Yh ej];exact R.nd j
noncomputable def Zkm(i:Nat)(u:MSt):MSt:=λD δ=>match δ[i]? with|some (some t)=>u D (δ.set i (some (.fz t.data)))|_=>False
theorem Zte{st:Stmt}{u:MSt}(i:Nat)(h:MS X io st u)(hio:i∉io:=by decide):MS X io st (Zkm i u):=by
 obtain⟨_,A,s⟩:=h
 exact⟨_,A,λC H σ δ fp ex D D' R h E=>by
  unfold Zkm at h
  split at h
  case h_2=>exact h.elim
  rename_i t hi
  refine s C H σ _ _ ex D D' (R.freeze hio hi) h (E.shift ⟨λb o e _=>e,λz=>(nomatch z),λa z=>?_,λb e=>e⟩)
  rcases z.of_u with z|⟨j,_,z⟩
  ·exact nomatch z
  ·exact .inl ⟨j,z⟩⟩
end
variable {G:Xb}
noncomputable def Z5n(ds:List Xa)(k:OT->Prop):Prop:=∃ns:List Int,ds=[.list (ns.map Xn)]∧ns.length≤63∧k (.fz (.bool true))
theorem Z4e{H:Hp}{a:Addr}{ns:List Int}{E:XK}(hl:ns.length≤63)(h:SqL G H a (ns.map V.int)):spD G Z5n [.ref a] H (λv _=>v= .bl true) E:=by
 refine⟨λ_=>True,[.list (ns.map Xn)],λr=>r= .fz (.bool true),.cons ?_ .nil,⟨ns,rfl,hl,rfl⟩,λr v H' new kr s o _ _=>?_⟩
 ·rcases h with h|h
  ·exact .lst trivial h (.ints ns)
  ·exact .scr h
 ·subst kr
  cases o with
  | fz q=>cases q;rfl
section
variable {P:X4}{w:Qs}{mg:Str->Option Xc}{base:Heap}{CX:CXT}{n:Nat}{f:Addr}{fd:XD}{ps:List Str}
noncomputable def plT(a b c:Int):OT:=.nd [.fz (.int a),.fz (.int b),.fz (.int c)]
noncomputable def PlT(t:OT)(n:Nat):Prop:=∃a b c:Int,t=plT a b c∧0≤c∧c≤n
theorem PlT.mono{t:OT}{m n:Nat}(h:PlT t m)(k:m≤n):PlT t n:=by
 obtain⟨a,b,c,e,h1,h2⟩:=h
 exact⟨a,b,c,e,h1,by omega⟩
theorem Pl.own{H:Hp}{L:Addr->Prop}{p:Addr}{n:Nat}(h:Pl H p n):∃t,PlT t n∧Own G H L (.ref p) t [p]:=by
 obtain⟨a,b,c,e,h1,h2⟩:=h
 exact⟨plT a b c,⟨a,b,c,rfl,h1,h2⟩,.nd e (.cons (.fz (.int a)) (.cons (.fz (.int b)) (.cons (.fz (.int c)) .nil)))⟩
theorem Da.ints_sq{H:Hp}{L:Addr->Prop}{v:V}{ns:List Int}(h:Da G H L v (.list (ns.map Xn))):∃a,v= .ref a∧SqL G H a (ns.map V.int):=by
 generalize e:QC (ns.map Xn)=d at h
 cases h with
 | lst l e1 r=>
  cases e
  rw[r.int_inv]at e1
  exact⟨_,rfl,.inl e1⟩
 | scr k=>
  rename_i a ms
  have e':=Uv e
  have:ns=ms:=(List.map_inj_right (λ_ _ h=>by cases h;rfl)).mp e'
  subst this
  exact⟨_,rfl,k.sq⟩
 | _=>cases e
end
@[simp] theorem Zeh:OT.datas []=[]:=rfl
@[simp] theorem Zde(t:OT)(ts:List OT):OT.datas (t :: ts)=t.data :: OT.datas ts:=rfl
theorem Zk1{α:Type}{xs:List α}{i:Int}(h0:0≤i):atI xs i=xs[i.toNat]?:=by
 unfold atI ixN
 rw[if_pos h0]
 split
 ·rfl
 ·rename_i h
  symm
  exact QR.mpr (by omega)
theorem Ziv{α:Type}{xs:List α}{i:Nat}:atI xs (i:Int)=xs[i]?:=by
 rw[Zk1 (by omega),QV]
@[simp] theorem Yer{α:Type}(x:α)(xs:List α):atI (x :: xs) 0=some x:=by
 rw[Zk1 (by decide)];rfl
@[simp] theorem Yfv{α:Type}(x y:α)(xs:List α):atI (x :: y :: xs) 1=some y:=by
 rw[Zk1 (by decide)];rfl
@[simp] theorem Yfp{α:Type}(x y z:α)(xs:List α):atI (x :: y :: z :: xs) 2=some z:=by
 rw[Zk1 (by decide)];rfl
@[simp] theorem Z77(ds:List Xa)(i:Int):ixD (.list ds) (.int i)=atI ds i:=rfl
@[simp] theorem Yau(ds:List Xa)(i:Int):ixD (.tuple ds) (.int i)=atI ds i:=rfl
@[simp] theorem Z42(ds:List Xa):Zus (.list ds)=some ds.length:=rfl
@[simp] theorem Z7z(ds:List Xa):Zus (.tuple ds)=some ds.length:=rfl
noncomputable def Zlw(r:List Rat):Xa:=.list (r.map frD)
noncomputable def tbD(T:List (List Rat)):Xa:=.list (T.map Zlw)
noncomputable def Yac(r:List Rat):OT:=.nd (r.map λq=>.fz (frD q))
noncomputable def tbT(T:List (List Rat)):OT:=.nd (T.map Yac)
@[simp] theorem Ztc(r:List Rat):(Yac r).data=Zlw r:=by
 unfold Yac Zlw
 rw[OT.data_nd,QD]
 rfl
@[simp] theorem Z74(T:List (List Rat)):(tbT T).data=tbD T:=by
 unfold tbT tbD
 rw[OT.data_nd,QD]
 exact congrArg QC (XH λr _=>Ztc r)
noncomputable def dd(T:List (List Rat))(i j:Nat):Rat:=(T.getD i []).getD j 0
@[simp] theorem Z9c(T:List (List Rat)):Zus (tbD T)=some T.length:=by unfold tbD Zus;simp
@[simp] theorem Z70(r:List Rat):Zus (Zlw r)=some r.length:=by unfold Zlw Zus;simp
@[simp] theorem Ybe(q:Rat):Zbi (frD q)=true:=by unfold frD fr;simp[Zbi,Zk3]
theorem Ztg{t b:Int}(ht:0≤t)(hb:0<b):0≤Xv t b:=Rat.divInt_nonneg ht (by omega)
theorem Zo0{n a:Nat}(h:a<n):ixN n (a:Int)=some a:=by
 unfold ixN
 rw[if_pos (by omega),if_pos (by omega)];simp
theorem Zl9:∀(r:List Rat),J2 (r.map frD)=true
 | []=>rfl
 | q :: r=>by
  show J2 (frD q :: r.map frD)=true
  rw[J2,Zl9 r];rfl
theorem Zlr:∀(T:List (List Rat)),J2 (T.map Zlw)=true
 | []=>rfl
 | r :: T=>by
  show J2 (Zlw r :: T.map Zlw)=true
  rw[J2,Zlr T,UW]
  unfold Zlw
  rw[Yp]
  exact Zl9 r
theorem Zn5(T:List (List Rat)):Yp (tbD T)=true:=by
 unfold tbD
 rw[Yp]
 exact Zlr T
theorem Zu4{d:Xa}(h:Yp d=true):Q3 d d=true:=Zxj h h rfl
structure Sh(n:Nat)(d:Xa):Prop where
 lay:Bh d=true
 dep:PyData.depth d≤n
theorem Sh.shp{n:Nat}{d:Xa}(h:Sh n d)(hn:n≤64:=by decide):Z2j d:=⟨by
 show(Bh d&&decide (PyData.depth d≤64))=true
 rw[h.lay,decide_eq_true (Qg h.dep hn)];rfl⟩
theorem Sh.mono{m n:Nat}{d:Xa}(h:Sh m d)(k:m≤n):Sh n d:=⟨h.lay,Qg h.dep k⟩
theorem Zlx{n:Nat}:∀{ds:List Xa},(∀d∈ds,Sh n d)->Q9 ds=true∧PyData.depthAll ds≤n
 | [],_=>⟨by rw[Q9],by rw[PyData.depthAll];exact QZ _⟩
 | d :: ds,h=>by
  obtain⟨h1,h2⟩:=Zlx λe m=>h e (.tail _ m)
  have h3:=h d (.head _)
  refine⟨by rw[Q9,h3.lay,h1];rfl,?_⟩
  rw[PyData.depthAll]
  exact Nat.max_le.mpr ⟨h3.dep,h2⟩
theorem Zd9{n:Nat}{ds:List Xa}(h:∀d∈ds,Sh n d):Sh (n+1) (.list ds) :=
 ⟨by rw[Bh];exact(Zlx h).1,by rw[PyData.depth];exact Nat.succ_le_succ (Zlx h).2⟩
theorem Zxs{n:Nat}{ds:List Xa}(h:∀d∈ds,Sh n d):Sh (n+1) (.tuple ds) :=
 ⟨by rw[Bh];exact(Zlx h).1,by rw[PyData.depth];exact Nat.succ_le_succ (Zlx h).2⟩
theorem Zs4(i:Int):Sh 0 (.int i):=⟨rfl,Nat.le_of_eq rfl⟩
theorem Yao(q:Rat):Sh 1 (frD q):=Zxs λd m=>by
 simp at m
 rcases m with rfl|rfl<;>exact Zs4 _
theorem Z20(r:List Rat):Sh 2 (Zlw r):=Zd9 λd m=>by
 obtain⟨q,_,rfl⟩:=XF.mp m
 exact Yao q
theorem Z2m(T:List (List Rat)):Sh 3 (tbD T):=Zd9 λd m=>by
 obtain⟨q,_,rfl⟩:=XF.mp m
 exact Z20 q
section
variable {X:Cx}{pins:List (Addr×Obj)}{σ:St}{H:Hp}{s:Xd}
theorem Inv.turnTup{h':Heap}{ch:List Addr}{T:Addr}{xs:List V}{its:List Xc}(I:Inv X pins σ H s)(f:∀b∈ch,Zjb X pins H b)(k:∀b o,b∉ch->s.heap.get? b=some o->h'.get? b=some o)
  (th:∀b∈ch,∃o,h'.get? b=some o) (hT:s.heap.objs.size≤T) (hz:xs.length≤Xr) (r:Vals xs its) (ht:IsTup h' T its.toArray):Inv X pins σ (upd H T (.tup xs)) { s with heap:=h' }:=by
 have hn:H T=none:=I.hok.fresh hT
 have nch:∀b u,H b=some u->b∉ch:=λb u e z=>by rw[(f b z).1]at e;cases e
 have new:ObjOk X.prog X.w (upd H T (.tup xs)) h' T (.tup xs):=⟨hz,its,r,ht⟩
 refine I.call (ch:=ch) (g':=s.gens) (d':=s.drawn) (t':=s.toks) ⟨λb o e _ _ hc=>k b o hc e,λb o e _ _ hc=>⟨o.slots,k b o hc e⟩,λb o e n _=>?_,λb o e hc=>?_,λb ys e=>?_,λb o u e=>?_,λb ps e=>?_⟩ (λb u e=>?_) I.bare (λb hb=>?_)
 ·rw[Zr (λz=>by rw[z]at e;exact absurd (Xz e) (Nat.not_lt.mpr hT))];exact n
 ·exact⟨o,k b o hc e⟩
 ·rw[Zr (Yq e hn)];exact e
 ·rw[Zr (Yq e hn)];exact e
 ·exact⟨#[],by rw[Zr (Yq e hn),e];simp⟩
 ·by_cases hb:b=T
  ·subst hb;rw[Zx]at e;cases e;exact new
  ·rw[Zr hb]at e
   refine(I.hok b u e).stay (λc v hc q=>k c v ?_ q) (λc q=>by rw[Zr (Yq q hn)];exact q) λc ys q=>by rw[Zr (Yq q hn)];exact q
   rcases hc with rfl|hc
   ·exact nch _ _ e
   ·exact nch _ _ hc
 ·obtain⟨f0,f1,f2,f3,f4,f5⟩:=f b hb
  exact⟨f3,f1,f4,f5⟩
theorem Inv.turnAll{h':Heap}{ch:List Addr}(I:Inv X pins σ H s)(f:∀b∈ch,Zjb X pins H b)(k:∀b o,b∉ch->s.heap.get? b=some o->h'.get? b=some o):Inv X pins σ H { s with heap:=h' }:=by
 have nch:∀b u,H b=some u->b∉ch:=λb u e z=>by rw[(f b z).1]at e;cases e
 refine I.call (ch:=ch) (g':=s.gens) (d':=s.drawn) (t':=s.toks) ⟨λb o e _ _ hc=>k b o hc e,λb o e _ _ hc=>⟨o.slots,k b o hc e⟩,λb o e n _=>n,λb o e hc=>⟨o,k b o hc e⟩,λb ys e=>e,λb o u e=>e,λb ps e=>⟨#[],by rw[e];simp⟩⟩ (λb u e=>?_) I.bare (λb hb=>?_)
 ·refine(I.hok b u e).stay (λc v hc q=>k c v ?_ q) (λc q=>q) λc ys q=>q
  rcases hc with rfl|hc
  ·exact nch _ _ e
  ·exact nch _ _ hc
 ·obtain⟨f0,f1,f2,f3,f4,f5⟩:=f b hb
  exact⟨f3,f1,f4,f5⟩
end
variable {G:Xb}
section
variable {X:Cx}{io:List Nat}{p c:Bool}{e a b tg:Expr}{m:MEt}{mr:MAt}
theorem Rel.keptList{C:MC G}{H:Hp}{σ:St}{δ:Ze}{fp:Fp}{ex:Addr->Prop}{v:V}{ds:List Xa}(R:Rel C io H σ δ fp ex)(q:Da G H (λa=>c=true->Lf C fp ex a) v (.list ds)) :
  ∃a xs,v= .ref a∧∀H':Hp,(∀b o,H b=some o->(c=false∨¬Foot fp b)->H' b=some o)->SqL G H' a xs∧Das G H' (λa=>c=true->(Lf C fp ex a∧H a≠none)) xs ds:=by
 generalize hd:QC ds=d at q
 cases q with
 | lst l e r=>
  cases hd
  rename_i a0 xs0
  refine⟨a0,xs0,rfl,λH' kp=>?_⟩
  obtain⟨f1,f2⟩:=R.kept kp
  exact⟨.inl (f1 _ (.lst _) l e).2,r.frame f1 f2⟩
 | scr k=>
  rename_i a ns
  have:=Uv hd
  subst this
  exact⟨a,_,rfl,λH' _=>⟨k.sq,.ints ns⟩⟩
 | _=>cases hd
noncomputable def Zm1(as bs:List Xa):List Xa:=(as.zip bs).map λx=>.tuple [x.1,x.2]
theorem Zuo{as bs:List Xa}{i:Nat}{d:Xa}(h:(Zm1 as bs)[i]? =some d):∃x y,as[i]? =some x∧bs[i]? =some y∧d= .tuple [x,y]:=by
 unfold Zm1 at h
 rw[Xk]at h
 cases e:(as.zip bs)[i]? with
 | none=>rw[e]at h;cases h
 | some z=>
  rw[e]at h
  cases h
  obtain⟨h1,h2⟩:=List.getElem?_zip_eq_some.mp e
  exact⟨z.1,z.2,h1,h2,rfl⟩
theorem Zsw{as bs:List Xa}{i:Nat}(h:(Zm1 as bs)[i]? =none):as.length≤i∨bs.length≤i:=by
 unfold Zm1 at h
 have:=QR.mp h
 simp at this
 omega
@[simp] theorem Zy1(as bs:List Xa):(Zm1 as bs).length=min as.length bs.length:=by simp[Zm1]
end
variable {G:Xb}
section
variable {X:Cx}{io:List Nat}{c1 c2 c3:Bool}{a b e:Expr}{ma mb mc:MEt}{pos:Pos}{f g:Int->Int->Bool}
end
theorem Zda:∀{ns:List Int} {its:List Xc},Vals (ns.map V.int) its->∃xs:List (Int×Tok),its=xs.map (λp=>U5 p.1 p.2)∧xs.map (·.1)=ns
 | [],_,.nil=>⟨[],rfl,rfl⟩
 | n :: ns,_,.cons r rs=>by
  obtain⟨t,e⟩:=(show∃t,_=U5 n t from r)
  obtain⟨xs,h1,h2⟩:=Zda rs
  exact⟨(n,t) :: xs,by rw[e,h1];rfl,by rw[X3,h2]⟩
noncomputable def Yb4(K:Xb):List V->Hp->VK->Prop:=λxs H Q=>∃(a:Addr) (ns:List Int),xs=[.ref a]∧SqL K H a (ns.map V.int)∧Q (.int ns.sum) H
theorem Zr0{X:Cx}{K:Xb}(hK:X.K=K)(hc:X.calm=true):Zes X (.builtin "sum") (Yb4 K):=by
 subst hK
 intro pins s σ H xs us Q I r h
 obtain⟨a,ns,rfl,hs,q⟩:=h
 obtain⟨u,rfl,ru⟩:=vals1 r
 cases(show u=QJ a from ru)
 obtain⟨its,rv,pl,hz⟩:=I.list hs
 obtain⟨ps,rfl,e2⟩:=Zda rv
 refine sum_intListG (xs:=ps.toArray) (I.ok.hd hc) (by simpa [U3]using pl.isList) λh' tk t' hk=>?_
 refine⟨.int ns.sum,H,I.kept (t':=tk) hk,⟨t',?_⟩,q⟩
 congr 1
 rw[preSum_eq,List.take_of_length_le (by simp)]
 show(ps.map (·.1)).sum=ns.sum
 rw[e2]
noncomputable def Ydt:List Xa->(Xa->Prop)->Prop:=λds k=>n1 (λd=>∃ns:List Int,d= .list (ns.map Xn)∧k (.int ns.sum)) ds
theorem Z57:PNs G (Yb4 G) Ydt:=λH L xs ds k Q hx h kk=>by
 obtain⟨v,d,rfl,rfl,q,ns,e,h'⟩:=hx.one h
 subst e
 obtain⟨a,rfl,hs⟩:=q.ints_sq
 exact⟨a,ns,rfl,hs,kk _ _ (.int _) h'⟩
section
variable {X:Cx}{io:List Nat}{p c:Bool}{a b e:Expr}{ma mb m:MEt}{pos pl:Pos}
noncomputable def Ydp(m mb:MEt):MEt:=λδ K=>m δ λr δ1=>mb δ1 λn _=>asI n.data λk=>(-(2^63)≤k∧k<2^63∧k.toNat≤Xr)∧K (.nd (Xx k.toNat (.fz r.data))) δ1
theorem Zoz{α:Type}(x:α):∀n:Nat,(Xx n [x]).flatten=Xx n x
 | 0=>rfl
 | n+1=>by rw[By,VH,Zoz x n];rfl
theorem Das.rep{H:Hp}{L:Addr->Prop}{v:V}{d:Xa}(h:Da G H L v d):∀n:Nat,Das G H L (Xx n v) (Xx n d)
 | 0=>.nil
 | n+1=>.cons h (Das.rep h n)
theorem Z6m(ha:ME X io p true a m)(hb:ME X io true c b mb)(hs:Xp [a] X.env=(false,eval a X.env) :: Xp [] X.env:=by rfl):ME X io p true (.BinOp (.List [a] pl) .Mult b pos) (Ydp m mb):=by
 obtain⟨_,A,sa⟩:=ha
 obtain⟨_,B,sb⟩:=hb
 refine⟨_,Zzh Z2l (Zwm (Zbs A Zh1 hs)) B,λC H σ δ fp ex K Q R h k=>?_⟩
 refine sa C H σ δ fp ex _ _ R h λH1 v r δ1 fp1 new r1 h1=>⟨(by show 1≤Xr;decide),λl hl=>?_⟩
 have R1:=r1.base
 have s1:=Yv hl (.lst [v])
 refine sb.pureAfter (R1.mk0 s1) h1 λH2 w n R2 s2 q2 h2=>?_
 obtain⟨i,rfl,h2⟩:=q2.intInv h2
 have q:=(((r1.da R).wide (L':=Lf C fp1 ex) λa l _=>l rfl).same s1).same s2
 refine⟨l,i,[v],rfl,rfl,s2 _ _ Zx,h2.1.1,h2.1.2.1,by show 1*i.toNat≤Xr;rw[Nat.one_mul];exact h2.1.2.2,λt ht=>?_⟩
 rw[Zoz]
 have S:Stp p H δ fp H2 δ1 fp1:=by
  have:=r1.stp.trans (p':=true) (Stp.same (p:=true) (δ:=δ1) (fp:=fp1) (s1.trans s2) (s1.trans s2).al)
  rwa[UW]at this
 refine k _ _ _ δ1 fp1 [t] (RE.tree R R2 S (Yv ht _) (Zkg ht) (Zkz t) ?_) h2.2
 have:=Own.list ht ((Das.rep q i.toNat).wide (L':=λa=>true=true->Lf C fp1 ex a) λa l _ _=>l)
 rwa[List.map_replicate]at this
end
structure Apart(X:Cx)(pins:List (Addr×Obj))(H:Hp)(b:Addr):Prop where
 fr:H b=none
 new:X.s₀.heap.get? b=none
 loc:b≠X.env.locals
 cel:∀x c,X.env.cells.lookup x=some c->c≠b
 pin:∀p∈X.pn ++ pins,p.1≠b
section
variable {X:Cx}{pins:List (Addr×Obj)}{σ:St}{H H':Hp}{s:Xd}{h':Heap}{b a C:Addr}
noncomputable def Fl(ap:Addr->Prop)(C a:Addr)(fl:Xc)(h:Heap):Prop:=∃a0 oe vs T oT ts,h.get? a=some oe∧(oe.cls= .ref C∧vs[0]? =some a0)∧oe.data= .fields vs∧vs[1]? =some (.ref T)∧T≠a∧h.get? T=some oT∧oT.data= .fields ts∧ts[3]? =some fl∧ap a∧ap T
noncomputable def Fl0(ap:Addr->Prop)(C a:Addr)(h:Heap):Prop:=∃a0 oe vs,h.get? a=some oe∧(oe.cls= .ref C∧vs[0]? =some a0)∧oe.data= .fields vs∧vs[1]? =some .none∧ap a
noncomputable def FlA(ap:Addr->Prop)(fl:Xc)(C a:Addr)(h:Heap):Prop:=Fl ap C a .none h∨Fl0 ap C a h∨Fl ap C a fl h
theorem Fl.imp{ap ap':Addr->Prop}{fl:Xc}{h:Heap}(f:∀b,ap b->ap' b)(x:Fl ap C a fl h):Fl ap' C a fl h:=by
 obtain⟨a0,oe,vs,T,oT,ts,h1,h2,h3,h4,h5,h6,h7,h8,h9,h10⟩:=x
 exact⟨a0,oe,vs,T,oT,ts,h1,h2,h3,h4,h5,h6,h7,h8,f _ h9,f _ h10⟩
section
variable {M:Model}{A:Qm}{E:Xc->Xd->Prop}{Q:Unit->Xd->Prop}{ch:List Addr}
end
end
noncomputable def Zt3(K:Xb)(C:Addr):Prop:=PySem.W.excIn K C [.type "ValueError",.type "Exception",.type "BaseException",.type "object"] "ValueError.__new__"=true
noncomputable abbrev MXt:=Ze->(Addr->Ze->Prop)->Prop
noncomputable def XW(X:Cx)(C:MC X.K)(io:List Nat)(pins:List (Addr×Obj))(ex:Addr->Prop)(H:Hp)(fp:Fp)(k:Addr->Ze->Prop)(e:Xc)(s':Xd):Prop :=
 ∃a cl σ' H' δ' fp',e= .ref a∧Inv X pins σ' H' s'∧FlA (Apart X pins H') (rawInt X.env.locals) cl a s'.heap∧Rel C io H' σ' δ' fp' ex∧Kp H fp H' fp'∧k cl δ'
noncomputable def XS(X:Cx)(io:List Nat)(st:Stmt)(m:MXt):Prop:=∀(C:MC X.K) (pins:List (Addr×Obj)) (s:Xd) (σ:St) (H:Hp) (δ:Ze) (fp:Fp) (ex:Addr->Prop) (k:Addr->Ze->Prop),Inv X pins σ H s->Rel C io H σ δ fp ex->m δ k ->
 XR (X7 X.prog X.w) X.A (exec st X.env) (λ_ _=>False) (XW X C io pins ex H fp k) s
noncomputable def XSs(X:Cx)(io:List Nat)(sts:List Stmt)(m:MXt):Prop:=∀(C:MC X.K) (pins:List (Addr×Obj)) (s:Xd) (σ:St) (H:Hp) (δ:Ze) (fp:Fp) (ex:Addr->Prop) (k:Addr->Ze->Prop),Inv X pins σ H s->Rel C io H σ δ fp ex->m δ k ->
 XR (X7 X.prog X.w) X.A (execs sts X.env) (λ_ _=>False) (XW X C io pins ex H fp k) s
section
variable {X:Cx}{io:List Nat}{p c:Bool}{e:Expr}{es:List Expr}{mr:MAt}{m:MXt}{pos:Pos}{st:Stmt}{sts a b:List Stmt}{u:MSt}{w v:MXt}{mt:MTt}{i:Nat}{x:Str}
end
section
variable {P:X4}{w:Qs}{K:Xb}{mg:Str->Option Xc}{base:Heap}
end
section
variable {X:Cx}{io:List Nat}{p c:Bool}{e:Expr}{es:List Expr}{mr:MAt}{pos pp:Pos}{k:Nat}{f:Addr}{fd:XD}{ps:List Str}{x:Str}
end
section
variable {X:Cx}{pins:List (Addr×Obj)}{σ:St}{H:Hp}{s:Xd}{a C:Addr}
noncomputable abbrev Cx.suite(X:Cx)(a:Addr):Cx:={ X with A:=X.A.mark (some (.ref a)),calm:=false }
end
theorem Zw6(b:Bool)(k:Bool->Prop):asB (.bool b) k=k b:=rfl
inductive ClsV:V->Xc->Prop where
 | own (D:Addr):ClsV (.ref D) (.ref D)
 | ty (T:String):ClsV (.ty T) (.type T)
theorem ClsV.val{v:V}{c u:Xc}(h:ClsV v c)(r:RelV v u):u=c:=by
 cases h with
 | own D=>exact r
 | ty T=>exact r
inductive ClsVs:List V->List Xc->Prop where
 | nil:ClsVs [] []
 | cons {v:V} {c:Xc} {vs:List V} {cs:List Xc}:ClsV v c->ClsVs vs cs->ClsVs (v :: vs) (c :: cs)
theorem ClsVs.length:∀{vs:List V} {cs:List Xc},ClsVs vs cs->vs.length=cs.length
 | _,_,.nil=>rfl
 | _,_,.cons _ t=>by simp[t.length]
section
variable {X:Cx}{io:List Nat}{p c:Bool}{a b:Expr}{ma:MEt}{pos pp p2:Pos}
end
end L2
namespace L2
open PySem PySem.Spec PyProof.Rows PySem.P
section
variable {prog:X4}{w:Qs}{A:Qm}{E:Xc->Xd->Prop}{s:Xd}{e t0 C:Addr}{o:Obj}{vs:Array Xc}{K:Xb}{m:Str}{tk:Tok}
structure Yfg(s:Xd)(e C t0:Addr)(m:Str)(tk:Tok):Prop where
 ob:∃o vs,s.heap.get? e=some o∧o.cls= .ref C∧o.data= .fields vs∧vs[0]? =some (.ref t0)
 tx:s.heap.TupAt t0 [.str m tk]
end
section
variable {X:Cx}{C:Addr}{x j:Str}{jk:Nat}{np cpos pos kp p1:Pos}
end
end L2
namespace L2
open PySem PySem.Spec PyProof.Rows
variable {G:Xb}
theorem Rel.topN{io:List Nat}{C:MC G}{H:Hp}{σ:St}{δ:Ze}{fp:Fp}{ex:Addr->Prop}{i:Nat}{ts ts':List OT}{a':Addr}{xs ys:List V}{bs bs' new:List Addr}(R:Rel C io H σ δ fp (exu ex new))(hi:δ[i]? =some (some (.nd ts)))(hv:σ[i]? =some (some (.ref a')))
  (hf:fp i=a' :: bs) (hx:H a'=some (.lst xs)) (o:Owns G H (Lf C fp (exu ex new)) ys ts' bs') (hs:∀a∈bs',a∈bs∨a∈new) (ndb:(a' :: bs').Nodup) (hn:∀a∈new,C.H₀ a=none∧¬ex a) :
  Rel C io (upd H a' (.lst ys)) σ (δ.set i (some (.nd ts'))) (fpu fp i (a' :: bs')) ex∧∀a,Foot (fpu fp i (a' :: bs')) a->Foot fp a∨a∈new:=by
 have hil:i<δ.length:=(Xg.mp hi).1
 have hm:a'∈fp i:=by rw[hf];exact .head _
 have kp:∀b o,H b=some o->b≠a'->upd H a' (.lst ys) b=some o:=λb o e n=>by rw[Zr n];exact e
 have mem:∀a,a∈a' :: bs'->a∈fp i∨a∈new:=λa m=>by
  rw[hf]
  rcases Xo.mp m with rfl|m
  ·exact .inl (.head _)
  ·exact(hs a m).imp (λz=>.tail _ z) id
 have sub:∀a,Foot (fpu fp i (a' :: bs')) a->Foot fp a∨a∈new:=λa z=>by
  rcases z.of_u with z|⟨j,_,z⟩
  ·exact(mem a z).imp (λz=>⟨i,z⟩) id
  ·exact .inl ⟨j,z⟩
 have lw:∀a,Lf C fp (exu ex new) a->Lf C (fpu fp i (a' :: bs')) ex a:=λa l=>⟨λz=>(sub a z).elim l.1 λz=>l.2.1 (.inr z),λz=>l.2.1 (.inl z),l.2.2⟩
 have f1:∀a (zs:MuO),Lf C fp (exu ex new) a->Rd H a zs.ho->Lf C (fpu fp i (a' :: bs')) ex a∧Rd (upd H a' (.lst ys)) a zs.ho:=λa zs l q=>by
  have na:a≠a':=λz=>l.1 ⟨i,by rw[z];exact hm⟩
  refine⟨lw a l,?_⟩
  rcases q with q|⟨u,q⟩
  ·exact .inl (kp a _ q na)
  ·exact .inr ⟨u,kp a _ q na⟩
 have f2:∀a (zs:ImO),H a=some zs.ho->upd H a' (.lst ys) a=some zs.ho:=λa zs q=>kp a _ q λz=>ImO.nl q (z▸hx)
 have hn':=Qj.mp ndb
 refine⟨⟨by rw[Br];exact R.len,λj t' e=>?_,λj h=>?_,λj=>?_,λj k a h1 h2=>?_,λj a h z=>?_,λa z=>?_,λb ob e nb=>?_,λb e=>?_,λj a h=>?_,R.io⟩,sub⟩
 ·by_cases ej:j=i
  ·subst ej
   rw[Qo hil]at e
   cases e
   exact⟨_,hv,by rw[Zy];exact .nd Zx (o.frame f1 f2 λa m zs q=>kp a _ q λz=>hn'.1 (z▸m))⟩
  ·rw[Qh (Bb ej)]at e
   obtain⟨w,e1,o1⟩:=R.own j t' e
   exact⟨w,e1,by rw[Yh ej];exact o1.frame f1 f2 λa m zs q=>kp a _ q λz=>ej (R.dj j i a m (z▸hm))⟩
 ·by_cases ej:j=i
  ·subst ej;exact absurd (Qo hil) (h _)
  ·rw[Yh ej]
   exact R.emp j λt' z=>h t' (by rw[Qh (Bb ej)];exact z)
 ·by_cases ej:j=i
  ·subst ej;rw[Zy];exact ndb
  ·rw[Yh ej];exact R.nd j
 ·have one:∀k,k≠i->a∈a' :: bs'->a∈fp k->False:=λk ek m1 m2=>by
   rcases mem a m1 with z|z
   ·exact ek (R.dj k i a m2 z)
   ·exact R.dx k a m2 (.inr z)
  by_cases ej:j=i
  ·by_cases ek:k=i
   ·rw[ej,ek]
   ·rw[ej,Zy]at h1
    rw[Yh ek]at h2
    exact(one k ek h1 h2).elim
  ·rw[Yh ej]at h1
   by_cases ek:k=i
   ·rw[ek,Zy]at h2
    exact(one j ej h2 h1).elim
   ·rw[Yh ek]at h2
    exact R.dj j k a h1 h2
 ·by_cases ej:j=i
  ·rw[ej,Zy]at h
   rcases mem a h with m|m
   ·exact R.dx i a m (.inl z)
   ·exact(hn a m).2 z
  ·rw[Yh ej]at h
   exact R.dx j a h (.inl z)
 ·by_cases e:a=a'
  ·subst e;rw[Zx];intro q;cases q
  ·rw[Zr e];exact R.xa a (.inl z)
 ·refine kp b ob (R.fr b ob e nb) λz=>?_
  rcases R.new i a' hm with y|y
  ·exact nb (z▸y.2)
  ·rw[z,y]at e;cases e
 ·refine R.al b ?_
  by_cases q:b=a'
  ·subst q;rw[Zx]at e;cases e
  ·rwa[Zr q]at e
 ·by_cases ej:j=i
  ·rw[ej,Zy]at h
   rcases mem a h with m|m
   ·rw[ej];exact R.new i a m
   ·exact .inr (hn a m).1
  ·rw[Yh ej]at h
   exact R.new j a h
noncomputable def Zgg(i:Nat)(m:MEt):MSt:=λD δ=>match δ[i]? with
 | some (some (.nd _))=>m δ λr δ1=>match δ1[i]? with
  | some (some (.nd ts))=>ts.length<Xr∧D.nx (δ1.set i (some (.nd (ts ++ [r]))))
  | _=>False
 | _=>False
section
variable {X:Cx}{io:List Nat}{p c:Bool}{e:Expr}{m:MEt}{pos apos cpos px:Pos}{i:Nat}{x:Str}
theorem Zo6(i:Nat)(he:ME X io p true e m)(hN:X.N[i]? =some x:=by rfl)(hv:Vis X.env.scope x:=by first|exact Qn rfl|exact Qi (Qn rfl)|exact Qi (Qi rfl))(hd:(x==("__debug__" : Str))=false:=by decide)
  (hcd:(x==("__classdict__" : Str))=false:=by decide)
  (hbase:Ud (.Name x px) "append" X.env (eval (.Name x px) X.env)=eval (.Name x px) X.env:=by rfl)
  (hfew:((JG cpos (Xp [e] X.env)).all (λx=>!x.1)&&(backToKw cpos (keywordEach [] X.env)).all (λx=>x.1.isSome)
   &&decide ([e].length+([]:List V5).length+(if([]:List V5).isEmpty then 0 else 1)<30))=true:=by rfl)
  (hline:(apos.endLine==cpos.line)=true:=by rfl) (hs:Xp [e] X.env=(false,eval e X.env) :: Xp [] X.env:=by rfl) (hplain:(JG cpos (Xp [] X.env)).any (·.1)=false:=by rfl)
  (hsw:Vm (.Call (.Attribute (.Name x px) "append" apos) [e] [] cpos) none pos.line X.env=pure false:=by rfl) :
  MS X io (.Expr (.Call (.Attribute (.Name x px) "append" apos) [e] [] cpos) pos) (Zgg i m):=by
 obtain⟨_,A,s⟩:=he
 refine⟨_,Zj7 (Z1f Uz Ur Uq Zed (pv i hN hv hd hcd) (Zbs A Zh1 hs) hbase hfew hline hs hplain) hsw,λC H σ δ fp ex D D' R h E=>?_⟩
 unfold Zgg at h
 split at h
 case h_2=>exact h.elim
 rename_i ts0 hi0
 obtain⟨a',xs0,bs0,hv0,hx0,_,_⟩:=R.ownNd hi0
 refine⟨_,hv0,.inl ⟨rfl,xs0,.inl (.inl hx0)⟩,?_⟩
 refine s C H σ δ fp ex _ _ R h λH1 v r δ1 fp1 new r1 h1=>?_
 split at h1
 case h_2=>exact h1.elim
 rename_i ts1 hi1
 have R1:=r1.rel
 obtain⟨a1,xs1,bs1,hv1,hx1,o1,hf1⟩:=R1.ownNd hi1
 rw[hv0]at hv1
 cases hv1
 refine⟨a',xs1,v,rfl,rfl,hx1,by rw[o1.length];exact h1.1,?_⟩
 have ow:Own X.K H1 (Lf C fp1 (exu ex new)) v r new:=r1.own.wide λa l _=>l rfl
 have o2:=o1.snoc ow
 have nd1:=R1.nd i
 rw[hf1]at nd1
 have hn1:=Qj.mp nd1
 have hm1:∀a,a∈a' :: bs1->a∈fp1 i:=λa m=>by rw[hf1];exact m
 have apart:∀a,a∈new->a∉a' :: bs1:=λa m z=>R1.dx i a (hm1 a z) (.inr m)
 obtain⟨R2,sub⟩:=R1.topN hi1 hv0 hf1 hx1 o2 (λa m=>Ql.mp m) (Qj.mpr ⟨λm=>by
   rcases Ql.mp m with z|z
   ·exact hn1.1 z
   ·exact apart a' z (.head _),Ba.mpr ⟨hn1.2,r1.nd,λa m b m' z=>apart b m' (by rw[←z];exact .tail _ m)⟩⟩) λa m=>⟨(R.newOk (r1.fresh a m)).2.2,(R.newOk (r1.fresh a m)).2.1⟩
 refine E.nx _ σ _ _ R2 ⟨λb o eb q=>?_,λz=>(nomatch z),λa z=>?_,λb eb=>?_⟩ h1.2
 ·have q':=q.resolve_left (by decide)
  rw[Zr]
  ·exact r1.stp.keep b o eb (.inr q')
  ·rintro rfl
   rcases r1.stp.grow b ⟨i,hm1 b (.head _)⟩with z|z
   ·exact q' z
   ·rw[eb]at z;cases z
 ·rcases sub a z with z|z
  ·exact r1.stp.grow a z
  ·exact .inr (r1.fresh a z)
 ·refine r1.stp.al b ?_
  by_cases q:b=a'
  ·subst q;rw[Zx]at eb;cases eb
  ·rwa[Zr q]at eb
end
variable {G:Xb}
section
variable {X:Cx}{io:List Nat}{e:Expr}{pos apos cpos px pt pl p2:Pos}{i j:Nat}{x y:Str}
end
noncomputable def Yfw:OT->Nat
 | .nd us=>us.length
 | _=>0
noncomputable def Zm4(ts:List OT):List Int:=ts.map λt=>(Yfw t:Int)
noncomputable def Zut(i:Nat):MEt:=λδ K=>match δ[i]? with
 | some (some (.nd ts))=>ts.length≤Xr∧(∀t∈ts,∃us,t= .nd us)∧K (.nd (((Zm4 ts).map Xn).map OT.fz)) δ
 | _=>False
section
variable {X:Cx}{io:List Nat}{e:Expr}{i:Nat}{y:Str}
theorem Z2u(i:Nat)(hp:PE X e (Zu1 [y] [] (Zyd X.K (Z3o i)) (Zpx 0) Z6z (tCB (Z8y X.K) (Zzv (Z3o 0) Yec)))):ME X io true true e (Zut i):=by
 refine⟨_,hp,λC H σ δ fp ex K' Q R h kk=>?_⟩
 unfold Zut at h
 split at h
 case h_2=>exact h.elim
 rename_i ts hi
 obtain⟨hz,hall,h⟩:=h
 obtain⟨a',xs,bs,hv0,hx,ow,hfp⟩:=R.ownNd hi
 refine⟨_,hv0,a',rfl,⟨xs,.inl (.inl hx)⟩,λD hD=>?_⟩
 have hDa:∀b o,H b=some o->b≠D:=λb o e=>Yq e hD
 refine Zqx (xs:=xs) (λk ys σ' H'=>(∃z,σ'=[z])∧Same H H'∧ys=((Zm4 (ts.take k)).map V.int)) ⟨⟨none,rfl⟩,Yv hD _,rfl⟩ ?_ ?_ ?_
 ·rintro k ys σ' H' _ ⟨_,s,_⟩
  exact .inl (.inl (s _ _ hx))
 ·rintro k xk ys σ' H' hk hkl hyl hD' ⟨⟨z,rfl⟩,s,rfl⟩
  have hkt:k<ts.length:=by rw[←ow.length];exact hkl
  obtain⟨t,ht⟩:∃t,ts[k]? =some t:=⟨_,Xj hkt⟩
  obtain⟨us,rfl⟩:=hall t (X5 ht)
  obtain⟨xr,cr,hxr,orow,_⟩:=ow.get ht
  rw[hk]at hxr
  cases hxr
  obtain⟨b',ws,rfl,hb,hlen⟩:∃b' ws,xk=V.ref b'∧H b'=some (.lst ws)∧ws.length=us.length:=by
   cases orow with
   | nd hb r3=>exact⟨_,_,rfl,hb,r3.length⟩
  ·show∃v,([some (V.ref b')]:St)[0]? =some (some v)∧_
   refine⟨_,rfl,b',ws,rfl,.inl (.inl (.inl (s _ _ hb))),?_⟩
   refine cPut.of hkl hyl (by rw[ow.length];exact hz) hD' ⟨⟨_,rfl⟩,λb o e=>?_,?_⟩
   ·rw[Zr (hDa b o e)];exact s b o e
   ·obtain⟨_,e⟩:=Xg.mp ht
    rw[List.take_succ_eq_append_getElem hkt,e]
    unfold Zm4
    rw[QF,QF,hlen]
    rfl
 ·rintro ys σ' H' hD' _ ⟨_,s,rfl⟩
  rw[ow.length,Bj]at hD'
  have hd:Own X.K H' (λa=>((true=true->Lf C fp ex a)∨H a=none)∧a∉[D]) (.ref D) (.nd (((Zm4 ts).map Xn).map OT.fz)) [D]:=.nd hD' (Das.owns (Das.ints _))
  exact kk H' (.ref D) _ δ fp [D] (RE.tree R R (Stp.refl true _ _ _) s (λa m=>by rw[Xy.mp m];exact hD) (Zkz D) hd) h
end
noncomputable abbrev FE:=Ze->Option (OT×Ze)
noncomputable abbrev FA:=Ze->Option (List OT×Ze)
noncomputable abbrev FT:=Ze->Option (Bool×Ze)
noncomputable abbrev FI:=Ze->Option (List Xa×Ze)
noncomputable abbrev FO:=Ze->Option (Option Int×Ze)
noncomputable abbrev FG:=Xa->Ze->Option Ze
noncomputable abbrev FGs:=List Xa->Ze->Option Ze
noncomputable def o2{α:Type}(f:Ze->Option (α×Ze)):Ze->(α->Ze->Prop)->Prop:=λδ K=>∃r δ',f δ=some (r,δ')∧K r δ'
noncomputable def oG(g:FG):MGt:=λd δ k=>∃δ',g d δ=some δ'∧k δ'
noncomputable def oGs(g:FGs):Zqq:=λd δ k=>∃δ',g d δ=some δ'∧k δ'
section
variable {X:Cx}{io:List Nat}{p c:Bool}{e tg:Expr}{es:List Expr}{m m':MEt}{mr mr':MAt}{mt mt':MTt}{mi mi':MIt}{g g':MGt}{gs gs':Zqq}{mo mo':MOt}{st:Stmt}{sts:List Stmt}{u u':MSt}{eo:Option Expr}
theorem ME.weak(h:ME X io p c e m)(w:∀δ K,m' δ K->m δ K):ME X io p c e m':=let⟨t,A,s⟩:=h;⟨t,A,λC H σ δ fp ex K Q R h k=>s C H σ δ fp ex K Q R (w δ K h) k⟩
theorem MA.weak(h:MA X io p c es mr)(w:∀δ K,mr' δ K->mr δ K):MA X io p c es mr':=let⟨t,A,s⟩:=h;⟨t,A,λC H σ δ fp ex K Q R h k=>s C H σ δ fp ex K Q R (w δ K h) k⟩
theorem MT.weak(h:MT X io p e mt)(w:∀δ K,mt' δ K->mt δ K):MT X io p e mt':=let⟨t,A,s⟩:=h;⟨t,A,λC H σ δ fp ex K Q R h k=>s C H σ δ fp ex K Q R (w δ K h) k⟩
theorem MW.weak(h:MW X io p e mt)(w:∀δ K,mt' δ K->mt δ K):MW X io p e mt':=let⟨t,A,s⟩:=h;⟨t,A,λC H σ δ fp ex K Q R h k=>s C H σ δ fp ex K Q R (w δ K h) k⟩
theorem MIfs.weak(h:MIfs X io p es mt)(w:∀δ K,mt' δ K->mt δ K):MIfs X io p es mt':=let⟨t,A,s⟩:=h;⟨t,A,λC H σ δ fp ex K Q R h k=>s C H σ δ fp ex K Q R (w δ K h) k⟩
theorem MI.weak(h:MI X io p c tg e mi)(w:∀δ K,mi' δ K->mi δ K):MI X io p c tg e mi':=let⟨t,A,s⟩:=h;⟨t,A,λC H σ δ fp ex K Q R h k=>s C H σ δ fp ex K Q R (w δ K h) k⟩
theorem MO.weak(h:MO X io p eo mo)(w:∀δ K,mo' δ K->mo δ K):MO X io p eo mo':=let⟨t,A,s⟩:=h;⟨t,A,λC H σ δ fp ex K Q R h k=>s C H σ δ fp ex K Q R (w δ K h) k⟩
theorem MG.weak(h:MG X io c tg g)(w:∀d δ K,g' d δ K->g d δ K):MG X io c tg g':=let⟨t,A,s⟩:=h;⟨t,A,λC H σ δ fp ex v d k Q R q h kk=>s C H σ δ fp ex v d k Q R q (w d δ k h) kk⟩
theorem MGs.weak(h:MGs X io c es gs)(w:∀d δ K,gs' d δ K->gs d δ K):MGs X io c es gs':=let⟨t,A,s⟩:=h;⟨t,A,λC H σ δ fp ex v d k Q R q h kk=>s C H σ δ fp ex v d k Q R q (w d δ k h) kk⟩
theorem MS.weak(h:MS X io st u)(w:∀D δ,u' D δ->u D δ):MS X io st u':=let⟨t,A,s⟩:=h;⟨t,A,λC H σ δ fp ex D D' R h E=>s C H σ δ fp ex D D' R (w D δ h) E⟩
theorem MSs.weak(h:MSs X io sts u)(w:∀D δ,u' D δ->u D δ):MSs X io sts u':=let⟨t,A,s⟩:=h;⟨t,A,λC H σ δ fp ex D D' R h E=>s C H σ δ fp ex D D' R (w D δ h) E⟩
end
noncomputable def Zu(i:Nat):FE:=λδ=>match δ[i]? with|some (some (.fz d))=>some (.fz d,δ)|_=>none
noncomputable def Zko(i:Nat):FE:=λδ=>match δ[i]? with|some (some t)=>some (.fz t.data,δ)|_=>none
noncomputable def fC(d:Xa):FE:=λδ=>some (.fz d,δ)
noncomputable def Zh(g:Xa->Xa->Option Xa)(a b:FE):FE:=λδ=>(a δ).bind λp=>(b p.2).bind λq=>(g p.1.data q.1.data).bind λd=>some (.fz d,q.2)
noncomputable def Yg(g:Xa->Xa->Option OT)(a b:FE):FE:=λδ=>(a δ).bind λp=>(b p.2).bind λq=>(g p.1.data q.1.data).bind λd=>some (d,q.2)
noncomputable def fUn(g:Xa->Option Xa)(a:FE):FE:=λδ=>(a δ).bind λp=>(g p.1.data).bind λd=>some (.fz d,p.2)
noncomputable def Z7r(a b:FE):FE:=λδ=>(a δ).bind λp=>match p.1.data with| .bool true=>b p.2| .bool false=>some (.fz (.bool false),p.2)|_=>none
noncomputable def fOr(a b:FE):FE:=λδ=>(a δ).bind λp=>match p.1.data with| .bool true=>some (.fz (.bool true),p.2)| .bool false=>b p.2|_=>none
noncomputable def fIf(t:FT)(a b:FE):FE:=λδ=>(t δ).bind λp=>if p.1=true then a p.2 else b p.2
noncomputable def tV(e:FE):FT:=λδ=>(e δ).bind λp=>match p.1 with| .fz (.bool b)=>some (b,p.2)|_=>none
noncomputable def tNo(t:FT):FT:=λδ=>(t δ).bind λp=>some (!p.1,p.2)
noncomputable def tAn(t u:FT):FT:=λδ=>(t δ).bind λp=>if p.1=true then u p.2 else some (false,p.2)
noncomputable def tO(t u:FT):FT:=λδ=>(t δ).bind λp=>if p.1=true then some (true,p.2)else u p.2
noncomputable def tD(e:FE):FT:=λδ=>(e δ).bind λp=>(Zt1 p.1.data).bind λb=>some (b,p.2)
noncomputable def Z3:FA:=λδ=>some ([],δ)
noncomputable def Zf(e:FE)(a:FA):FA:=λδ=>(e δ).bind λp=>(a p.2).bind λq=>some (p.1 :: q.1,q.2)
noncomputable def Zkq(a:FA):FE:=λδ=>(a δ).bind λp=>if p.1.length≤Xr then some (.fz (.tuple (OT.datas p.1)),p.2)else none
noncomputable def Zh3(a:FA):FE:=λδ=>(a δ).bind λp=>if p.1.length≤Xr then some (.nd p.1,p.2)else none
noncomputable def Z1z(e:FE):FE:=λδ=>(e δ).bind λp=>if Zbi p.1.data=true then some (.fz p.1.data,p.2)else none
noncomputable def Z5y(e:FE):FE:=λδ=>(e δ).bind λp=>if Zzk p.1=true then some (p.1,p.2)else none
inductive RF where
 | ok (r:OT)
 | exn (c:Str)
 | bad
noncomputable abbrev FD:=List Xa->RF
noncomputable abbrev FIO:=OT->List Xa->Option (OT×OT)
noncomputable def Zw(F:FD)(a:FA):FE:=λδ=>(a δ).bind λp=>match F (OT.datas p.1)with| .ok r=>some (r,p.2)|_=>none
noncomputable def W0(i:Nat)(F:FIO)(a:FA):FE:=λδ=>match δ[i]? with
 | some (some _)=>(a δ).bind λp=>match p.2[i]? with
  | some (some t)=>(F t (OT.datas p.1)).bind λq=>some (q.1,p.2.set i (some q.2))
  | _=>none
 | _=>none
noncomputable def Zjw(g:List Xa->Option Xa)(a:FA):FE:=λδ=>(a δ).bind λp=>(g (OT.datas p.1)).bind λd=>some (.fz d,p.2)
noncomputable def fBl(g:List Xa->Option OT)(a:FA):FE:=λδ=>(a δ).bind λp=>(g (OT.datas p.1)).bind λd=>some (d,p.2)
noncomputable def Zto(T:String)(e:FE):FE:=λδ=>(e δ).bind λp=>if Zh5 p.1.data=true then none else some (.fz (.bool (Zqc T p.1.data)),p.2)
noncomputable def oN:FO:=λδ=>some (none,δ)
noncomputable def oI(e:FE):FO:=λδ=>(e δ).bind λp=>match p.1.data with| .int i=>some (some i,p.2)|_=>none
noncomputable def fSl(e:FE)(lo hi:FO):FE:=λδ=>(e δ).bind λp=>(lo p.2).bind λq=>(hi q.2).bind λr=>match p.1.data with| .list ds=>some (.nd ((cutD ds q.1 r.1).map OT.fz),r.2)|_=>none
noncomputable def Zbb(e:FE):FI:=λδ=>(e δ).bind λp=>match p.1.data with| .list ds=>some (ds,p.2)|_=>none
noncomputable def iTp(e:FE):FI:=λδ=>(e δ).bind λp=>match p.1.data with| .tuple ds=>some (ds,p.2)|_=>none
noncomputable def rOk(j:Int):Bool:=decide (-(2^62)≤j)&&decide (j<2^62)
theorem Zfk{j:Int}(h:rOk j=true):-(2^62)≤j∧j<2^62:=by
 unfold rOk at h
 rw[XN]at h
 exact⟨of_decide_eq_true h.1,of_decide_eq_true h.2⟩
theorem Zk6{j:Int}(h0:-1000000≤j)(h1:j≤1000000):rOk j=true:=by
 unfold rOk
 rw[decide_eq_true (show -(2^62)≤j by omega),decide_eq_true (show j<2^62 by omega)];rfl
noncomputable def iRa(a:FA):FI:=λδ=>(a δ).bind λp=>match OT.datas p.1 with|[.int j]=>if rOk j=true then some (Zcg 0 j.toNat,p.2)else none|_=>none
noncomputable def iRb(a:FA):FI:=λδ=>(a δ).bind λp=>match OT.datas p.1 with|[.int i,.int j]=>if(rOk i&&rOk j)=true then some (Zcg i (j-i).toNat,p.2)else none|_=>none
noncomputable def Z6e(a:FA):FI:=λδ=>(a δ).bind λp=>match OT.datas p.1 with|[.list as,.list bs]=>some (Zm1 as bs,p.2)|_=>none
noncomputable def gNm(i:Nat):FG:=λd δ=>some (δ.set i (some (.fz d)))
noncomputable def Z6q(i:Nat):FG:=λd δ=>if Zbi d=true then some (δ.set i (some (.fz d)))else none
noncomputable def gNl:FGs:=λds δ=>match ds with|[]=>some δ|_=>none
noncomputable def gCn(g:FG)(gs:FGs):FGs:=λds δ=>match ds with|d :: r=>(g d δ).bind (gs r)|[]=>none
noncomputable def gTp(n:Nat)(gs:FGs):FG:=λd δ=>match d with| .tuple ds=>if ds.length=n then gs ds δ else none|_=>none
noncomputable def gLs(n:Nat)(gs:FGs):FG:=λd δ=>match d with| .list ds=>if ds.length=n then gs ds δ else none|_=>none
noncomputable def compLoop(g:FG)(t:FT)(e:FE):List Xa->Ze->Option (List OT×Ze)
 | [],δ=>some ([],δ)
 | d :: ds,δ=>(g d δ).bind λδ1=>(t δ1).bind λp=>if p.1=true then(e p.2).bind λq=>(compLoop g t e ds q.2).bind λz=>some (q.1 :: z.1,z.2)else compLoop g t e ds p.2
noncomputable def Wc(n:Nat)(caps:List Nat)(it:FI)(g:FG)(t:FT)(e:FE):FE:=λδ=>(it δ).bind λp=>if p.1.length≤Xr then(compLoop g t e p.1 (blk n caps p.2)).bind λz=>some (.nd z.1,p.2)else none
noncomputable def Zhh:FT:=λδ=>some (true,δ)
inductive RS where
 | nx (δ:Ze)
 | rt (r:OT) (δ:Ze)
 | bk (δ:Ze)
 | ct (δ:Ze)
 | ex (c:Str) (δ:Ze)
 | bad
noncomputable abbrev FS:=Ze->RS
noncomputable def RS.fits(D:Zf9):RS->Prop
 | .nx δ=>D.nx δ
 | .rt r δ=>D.rt r δ
 | .bk δ=>D.bk δ
 | .ct δ=>D.ct δ
 | _=>False
noncomputable def oS(f:FS):MSt:=λD δ=>(f δ).fits D
noncomputable def xS(K:Xb)(f:FS):MXt:=λδ k=>∃c C δ',f δ= .ex c δ'∧ClsAt K c C∧k C δ'
noncomputable def Zz(f g:FS):FS:=λδ=>match f δ with| .nx δ'=>g δ'|r=>r
noncomputable def fNx:FS:=λδ=>.nx δ
noncomputable def Yfm:FS:=λδ=>.bk δ
noncomputable def Yfq:FS:=λδ=>.ct δ
noncomputable def wE(e:FE)(k:OT->Ze->RS):FS:=λδ=>match e δ with|some (r,δ')=>k r δ'|none=>.bad
noncomputable def wX(F:FD)(a:FA)(k:OT->Ze->RS):FS:=λδ=>match a δ with
 | some (rs,δ1)=>match F (OT.datas rs)with
  | .ok r=>k r δ1
  | .exn c=>.ex c δ1
  | .bad=>.bad
 | none=>.bad
noncomputable def Zmx:OT->Ze->RS:=λ_ δ=>.nx δ
noncomputable def J6:OT->Ze->RS:=λr δ=>.rt r δ
noncomputable def Ybp:OT->Ze->RS:=λr δ=>if Zbi r.data=true then .rt (.fz r.data) δ else .bad
noncomputable def Wx(i:Nat):OT->Ze->RS:=λr δ=>.nx (δ.set i (some (.fz r.data)))
noncomputable def Z8w(i:Nat):OT->Ze->RS:=λr δ=>if Zbi r.data=true then .nx (δ.set i (some (.fz r.data)))else .bad
noncomputable def Zbe(i:Nat):OT->Ze->RS:=λr δ=>.nx (δ.set i (some r))
noncomputable def Ye2(g:FG):OT->Ze->RS:=λr δ=>match g r.data δ with|some δ'=>.nx δ'|none=>.bad
noncomputable def Z96:FS:=λδ=>.rt (.fz .none) δ
noncomputable def Zfh(i:Nat):FS:=λδ=>match δ[i]? with|some (some t)=>.rt t (δ.set i none)|_=>.bad
noncomputable def Zch(t:FT)(u w:FS):FS:=λδ=>match t δ with|some (b,δ')=>if b=true then u δ' else w δ'|none=>.bad
noncomputable def Znz(c:Str):FS:=λδ=>.ex c δ
noncomputable def Zba(i:Nat)(e:FE):FS:=λδ=>match δ[i]? with
 | some (some (.nd _))=>wE e (λr δ1=>match δ1[i]? with
  | some (some (.nd ts))=>if ts.length<Xr then .nx (δ1.set i (some (.nd (ts ++ [.fz r.data]))))else .bad
  | _=>.bad) δ
 | _=>.bad
noncomputable def Zb3(i:Nat)(e:FE):FS:=λδ=>match δ[i]? with
 | some (some (.nd _))=>wE e (λr δ1=>match δ1[i]? with
  | some (some (.nd ts))=>if ts.length<Xr then .nx (δ1.set i (some (.nd (ts ++ [r]))))else .bad
  | _=>.bad) δ
 | _=>.bad
noncomputable def Z14(i:Nat)(e j:FE):FS:=wE e λr δ1=>match δ1[i]? with
 | some (some (.nd ts))=>wE j (λn _=>match n.data with
  | .int k=>match ixN ts.length k with
   | some j=>.nx (δ1.set i (some (.nd (ts.set j (.fz r.data)))))
   | none=>.bad
  | _=>.bad) δ1
 | _=>.bad
noncomputable def Zb0(i:Nat)(e j j2:FE):FS:=wE e λr δ1=>match δ1[i]? with
 | some (some (.nd ts))=>wE j (λn _=>match n.data with
  | .int k=>match ixN ts.length k with
   | some j=>match ts[j]? with
    | some (.nd us)=>wE j2 (λn' _=>match n'.data with
     | .int k'=>match ixN us.length k' with
      | some j'=>.nx (δ1.set i (some (.nd (ts.set j (.nd (us.set j' (.fz r.data)))))))
      | none=>.bad
     | _=>.bad) δ1
    | _=>.bad
   | none=>.bad
  | _=>.bad) δ1
 | _=>.bad
noncomputable def Zhj(i:Nat)(u:FS):FS:=λδ=>match δ[i]? with|some (some t)=>u (δ.set i (some (.fz t.data)))|_=>.bad
noncomputable def forLoop(g:FG)(u:FS):List Xa->Ze->RS
 | [],δ=>.nx δ
 | d :: ds,δ=>match g d δ with
  | none=>.bad
  | some δ1=>match u δ1 with
   | .nx δ2=>forLoop g u ds δ2
   | .ct δ2=>forLoop g u ds δ2
   | .bk δ2=>.nx δ2
   | r=>r
noncomputable def Wl(it:FI)(g:FG)(u:FS):FS:=λδ=>match it δ with|some (ds,δ1)=>forLoop g u ds δ1|none=>.bad
noncomputable def whileLoop(t:FT)(u:FS):Nat->Ze->RS
 | 0,_=>.bad
 | n+1,δ=>match t δ with
  | none=>.bad
  | some (b,δ1)=>if b=true then match u δ1 with
   | .nx δ2=>whileLoop t u n δ2
   | .ct δ2=>whileLoop t u n δ2
   | .bk δ2=>.nx δ2
   | .rt r δ2=>.rt r δ2
   | _=>.bad
   else .nx δ1
open Classical in
noncomputable def Zio(t:FT)(u:FS):FS:=λδ=>if h:∃n,whileLoop t u n δ≠ .bad then whileLoop t u (Classical.choose h) δ else .bad
noncomputable def Zhc(n:Nat)(ds:List Xa):Ze:=ds.map (λd=>some (.fz d)) ++ Xx (n-ds.length) none
noncomputable def Zj2(n:Nat)(t:OT)(ds:List Xa):Ze:=some t :: (ds.map (λd=>some (.fz d)) ++ Xx (n-(ds.length+1)) none)
noncomputable def RS.told:RS->RF
 | .nx _=>.ok (.fz .none)
 | .rt r _=>.ok r
 | .ex c _=>.exn c
 | _=>.bad
noncomputable def J9(np n:Nat)(S:FS):FD:=λds=>if ds.length=np then(S (Zhc n ds)).told else .bad
noncomputable def RS.toldI:RS->Option (OT×OT)
 | .nx δ=>match δ[0]? with|some (some t)=>some (.fz .none,t)|_=>none
 | .rt r δ=>match δ[0]? with|some (some t)=>some (r,t)|_=>none
 | _=>none
noncomputable def Zsj(np n:Nat)(S:FS):FIO:=λt ds=>if ds.length+1=np then(S (Zj2 n t ds)).toldI else none
noncomputable def sD(F:FD):List Xa->(OT->Prop)->Prop:=λds k=>∃r,F ds= .ok r∧k r
noncomputable def sI(F:FIO):OT->List Xa->(OT->OT->Prop)->Prop:=λt ds k=>∃r t',F t ds=some (r,t')∧k r t'
theorem bs{α β:Type}{x:Option α}{f:α->Option β}{b:β}(h:x.bind f=some b):∃a,x=some a∧f a=some b:=Option.bind_eq_some_iff.mp h
section
variable {X:Cx}{io:List Nat}{p c:Bool}{e tg:Expr}{es:List Expr}{st:Stmt}{sts:List Stmt}{eo:Option Expr}{fa fb fc:FE}{ra:FA}{ta tb:FT}{i:Nat}
theorem Z7b(h:ME X io p c e (Z7v i)):ME X io p c e (o2 (Zu i)):=h.weak λδ K q91=>by
 obtain⟨r,δ',h,k⟩:=q91
 unfold Zu at h;unfold Z7v
 split at h
 ·rename_i d hd;(try rw[hd]);cases h;exact k
 ·cases h
theorem Z5u(h:ME X io p c e (Z8a i)):ME X io p c e (o2 (Zko i)):=h.weak λδ K q92=>by
 obtain⟨r,δ',h,k⟩:=q92
 unfold Zko at h;unfold Z8a
 split at h
 ·rename_i d hd;(try rw[hd]);cases h;exact k
 ·cases h
theorem Zpi{d:Xa}(h:ME X io p c e (mC d)):ME X io p c e (o2 (fC d)):=h.weak λδ K ⟨r,δ',h,k⟩=>by cases h;exact k
noncomputable def ByS(g:Xa->Xa->Option Xa)(rp:Xa->Xa->(Xa->Prop)->Prop):Prop:=∀d e r k,g d e=some r->k r->rp d e k
noncomputable def ByO(g:Xa->Xa->Option OT)(rp:Xa->Xa->(OT->Prop)->Prop):Prop:=∀d e r k,g d e=some r->k r->rp d e k
theorem Zxn{g rp}(G:ByS g rp){δ:Ze}{K:OT->Ze->Prop}(h:o2 (Zh g fa fb) δ K):Zmn rp (o2 fa) (o2 fb) δ K:=by
 obtain⟨r,δ',h,k⟩:=h
 obtain⟨⟨x,δ1⟩,h1,h⟩:=bs h
 obtain⟨⟨y,δ2⟩,h2,h⟩:=bs h
 obtain⟨d,h3,h⟩:=bs h
 cases h
 exact⟨x,δ1,h1,y,δ2,h2,G _ _ _ _ h3 k⟩
theorem Jq{g rp}(G:ByS g rp)(h:ME X io p c e (Zmn rp (o2 fa) (o2 fb))):ME X io p c e (o2 (Zh g fa fb)):=h.weak λδ K z=>Zxn G z
theorem Yfz{f:FE}{δ:Ze}{K:Bool->Ze->Prop}(h:o2 (tV f) δ K):o2 f δ (kB K):=by
 obtain⟨b,δ',h,k⟩:=h
 obtain⟨⟨x,δ1⟩,h1,h⟩:=bs h
 refine⟨x,δ1,h1,?_⟩
 unfold kB
 try dsimp only at h⊢
 split at h
 ·cases h;exact k
 ·cases h
theorem Zb9{g rp}(G:ByS g rp)(h:MT X io p e (λδ K=>Zmn rp (o2 fa) (o2 fb) δ (kB K))):MT X io p e (o2 (tV (Zh g fa fb))):=h.weak λδ K z=>Zxn G (Yfz z)
theorem Zgq{g rp}(G:ByO g rp)(h:ME X io p c e (Z79 rp (o2 fa) (o2 fb))):ME X io p c e (o2 (Yg g fa fb)):=h.weak λδ K h=>by
 obtain⟨r,δ',h,k⟩:=h
 obtain⟨⟨x,δ1⟩,h1,h⟩:=bs h
 obtain⟨⟨y,δ2⟩,h2,h⟩:=bs h
 obtain⟨d,h3,h⟩:=bs h
 cases h
 exact⟨x,δ1,h1,y,δ2,h2,G _ _ _ _ h3 k⟩
noncomputable def Z7u:Xa->Option Xa| .int i=>some (.int (-i))|_=>none
noncomputable def Z8n:Xa->Option Xa| .bool b=>some (.bool (!b))|_=>none
theorem Z3l(h:ME X io p c e (Yds (o2 fa))):ME X io p c e (o2 (fUn Z7u fa)):=h.weak λδ K h=>by
 obtain⟨r,δ',h,k⟩:=h
 obtain⟨⟨x,δ1⟩,h1,h⟩:=bs h
 obtain⟨d,h3,h⟩:=bs h
 cases h
 refine⟨x,δ1,h1,?_⟩
 dsimp only at h3⊢
 cases q:x.data<;>rw[q]at h3<;>cases h3
 exact k
theorem Z1d(h:ME X io p c e (Z32 (o2 fa))):ME X io p c e (o2 (fUn Z8n fa)):=h.weak λδ K h=>by
 obtain⟨r,δ',h,k⟩:=h
 obtain⟨⟨x,δ1⟩,h1,h⟩:=bs h
 obtain⟨d,h3,h⟩:=bs h
 cases h
 refine⟨x,δ1,h1,?_⟩
 dsimp only at h3⊢
 cases q:x.data<;>rw[q]at h3<;>cases h3
 exact k
theorem Z1b(h:ME X io p c e (Z4c (o2 fa) (o2 fb))):ME X io p c e (o2 (Z7r fa fb)):=h.weak λδ K h=>by
 obtain⟨r,δ',h,k⟩:=h
 obtain⟨⟨x,δ1⟩,h1,h⟩:=bs h
 refine⟨x,δ1,h1,?_⟩
 try dsimp only at h⊢
 split at h
 ·rename_i q;(try rw[q]);rw[Zw6,if_pos rfl];exact⟨r,δ',h,k⟩
 ·rename_i q;(try rw[q]);cases h;rw[Zw6,if_neg XC];exact k
 ·cases h
theorem Z8q(h:ME X io p c e (mIf (o2 ta) (o2 fa) (o2 fb))):ME X io p c e (o2 (fIf ta fa fb)):=h.weak λδ K h=>by
 obtain⟨r,δ',h,k⟩:=h
 obtain⟨⟨x,δ1⟩,h1,h⟩:=bs h
 refine⟨x,δ1,h1,?_⟩
 try dsimp only at h⊢
 split at h
 ·rename_i q;rw[if_pos q];exact⟨r,δ',h,k⟩
 ·rename_i q;rw[if_neg q];exact⟨r,δ',h,k⟩
theorem Z38(h:MT X io p e (Ybu (o2 ta))):MT X io p e (o2 (tNo ta)):=h.weak λδ K h=>by
 obtain⟨r,δ',h,k⟩:=h
 obtain⟨⟨x,δ1⟩,h1,h⟩:=bs h
 cases h
 exact⟨x,δ1,h1,k⟩
theorem Z5k(h:MW X io p e (Ydc (o2 ta) (o2 tb))):MW X io p e (o2 (tAn ta tb)):=h.weak λδ K h=>by
 obtain⟨r,δ',h,k⟩:=h
 obtain⟨⟨x,δ1⟩,h1,h⟩:=bs h
 refine⟨x,δ1,h1,?_⟩
 try dsimp only at h⊢
 split at h
 ·rename_i q;rw[if_pos q];exact⟨r,δ',h,k⟩
 ·rename_i q;rw[if_neg q];cases h;exact k
theorem Zi3(h:MW X io p e (mOr (o2 ta) (o2 tb))):MW X io p e (o2 (tO ta tb)):=h.weak λδ K h=>by
 obtain⟨r,δ',h,k⟩:=h
 obtain⟨⟨x,δ1⟩,h1,h⟩:=bs h
 refine⟨x,δ1,h1,?_⟩
 try dsimp only at h⊢
 split at h
 ·rename_i q;rw[if_pos q];cases h;exact k
 ·rename_i q;rw[if_neg q];exact⟨r,δ',h,k⟩
theorem Zeu(h:MT X io p e (Ycg (o2 fa))):MT X io p e (o2 (tD fa)):=h.weak λδ K h=>by
 obtain⟨r,δ',h,k⟩:=h
 obtain⟨⟨x,δ1⟩,h1,h⟩:=bs h
 obtain⟨d,h3,h⟩:=bs h
 cases h
 refine⟨x,δ1,h1,?_⟩
 dsimp only at h3⊢
 rw[h3]
 exact k
theorem Z43(h:MA X io p c es Ych):MA X io p c es (o2 Z3):=h.weak λδ K ⟨r,δ',h,k⟩=>by cases h;exact k
theorem Z06(h:MA X io p c es (Z2s (o2 fa) (o2 ra))):MA X io p c es (o2 (Zf fa ra)):=h.weak λδ K h=>by
 obtain⟨r,δ',h,k⟩:=h
 obtain⟨⟨x,δ1⟩,h1,h⟩:=bs h
 obtain⟨⟨y,δ2⟩,h2,h⟩:=bs h
 cases h
 exact⟨x,δ1,h1,y,δ2,h2,k⟩
theorem Z64(h:ME X io p c e (Ydy (o2 ra))):ME X io p c e (o2 (Zkq ra)):=h.weak λδ K h=>by
 obtain⟨r,δ',h,k⟩:=h
 obtain⟨⟨x,δ1⟩,h1,h⟩:=bs h
 refine⟨x,δ1,h1,?_⟩
 dsimp only at h
 split at h
 ·rename_i q;cases h;exact⟨q,k⟩
 ·cases h
theorem Z6s(h:ME X io p c e (Yc5 (o2 ra))):ME X io p c e (o2 (Zh3 ra)):=h.weak λδ K h=>by
 obtain⟨r,δ',h,k⟩:=h
 obtain⟨⟨x,δ1⟩,h1,h⟩:=bs h
 refine⟨x,δ1,h1,?_⟩
 dsimp only at h
 split at h
 ·rename_i q;cases h;exact⟨q,k⟩
 ·cases h
theorem Zx4(h:ME X io p c e (Z36 (o2 fa))):ME X io p c e (o2 (Z1z fa)):=h.weak λδ K h=>by
 obtain⟨r,δ',h,k⟩:=h
 obtain⟨⟨x,δ1⟩,h1,h⟩:=bs h
 refine⟨x,δ1,h1,?_⟩
 dsimp only at h
 split at h
 ·rename_i q;cases h;exact⟨q,k⟩
 ·cases h
theorem Zz5{F:FD}(h:ME X io p c e (Zu7 (sD F) (o2 ra))):ME X io p c e (o2 (Zw F ra)):=h.weak λδ K h=>by
 obtain⟨r,δ',h,k⟩:=h
 obtain⟨⟨x,δ1⟩,h1,h⟩:=bs h
 refine⟨x,δ1,h1,?_⟩
 dsimp only at h
 split at h
 ·rename_i q;cases h;exact⟨_,q,k⟩
 ·cases h
theorem Y4{F:FIO}(h:ME X io p c e (Zl7 i (sI F) (o2 ra))):ME X io p c e (o2 (W0 i F ra)):=h.weak λδ K h=>by
 obtain⟨r,δ',h,k⟩:=h
 unfold W0 at h;unfold Zl7
 split at h
 case h_2=>cases h
 rename_i t0 q0
 (try rw[q0])
 obtain⟨⟨x,δ1⟩,h1,h⟩:=bs h
 refine⟨x,δ1,h1,?_⟩
 try dsimp only at h⊢
 split at h
 case h_2=>cases h
 rename_i t q
 (try rw[q])
 obtain⟨⟨y,t'⟩,h2,h⟩:=bs h
 cases h
 exact⟨_,_,h2,k⟩
theorem Zdn{g rp}(G:∀ds r k,g ds=some r->k r->rp ds k)(h:ME X io p c e (Z7s rp (o2 ra))):ME X io p c e (o2 (Zjw g ra)):=h.weak λδ K h=>by
 obtain⟨r,δ',h,k⟩:=h
 obtain⟨⟨x,δ1⟩,h1,h⟩:=bs h
 obtain⟨d,h3,h⟩:=bs h
 cases h
 exact⟨x,δ1,h1,G _ _ _ h3 k⟩
theorem Z2y{g rp}(G:∀ds r k,g ds=some r->k r->rp ds k)(h:ME X io p c e (mBl rp (o2 ra))):ME X io p c e (o2 (fBl g ra)):=h.weak λδ K h=>by
 obtain⟨r,δ',h,k⟩:=h
 obtain⟨⟨x,δ1⟩,h1,h⟩:=bs h
 obtain⟨d,h3,h⟩:=bs h
 cases h
 exact⟨x,δ1,h1,G _ _ _ h3 k⟩
theorem Zl1{T:String}(h:ME X io p c e (Ydb T (o2 fa))):ME X io p c e (o2 (Zto T fa)):=h.weak λδ K h=>by
 obtain⟨r,δ',h,k⟩:=h
 obtain⟨⟨x,δ1⟩,h1,h⟩:=bs h
 by_cases hf:Zh5 x.data=true
 ·have h':(if Zh5 x.data=true then none else some (OT.fz (.bool (Zqc T x.data)),δ1))=some (r,δ'):=h
  rw[if_pos hf]at h'
  cases h'
 ·have h':(if Zh5 x.data=true then none else some (OT.fz (.bool (Zqc T x.data)),δ1))=some (r,δ'):=h
  rw[if_neg hf]at h'
  injection h' with h'
  injection h' with e1 e2
  subst e1 e2
  exact⟨x,_,h1,UL.mpr hf,k⟩
theorem Zr4(h:MO X io p eo Ztj):MO X io p eo (o2 oN):=h.weak λδ K ⟨r,δ',h,k⟩=>by cases h;exact k
theorem Zry(h:MO X io p eo (Z4h (o2 fa))):MO X io p eo (o2 (oI fa)):=h.weak λδ K h=>by
 obtain⟨r,δ',h,k⟩:=h
 obtain⟨⟨x,δ1⟩,h1,h⟩:=bs h
 refine⟨x,δ1,h1,?_⟩
 try dsimp only at h⊢
 split at h
 ·rename_i q;(try rw[q]);cases h;exact k
 ·cases h
theorem Z5g{lo hi:FO}(h:ME X io p c e (mSl (o2 fa) (o2 lo) (o2 hi))):ME X io p c e (o2 (fSl fa lo hi)):=h.weak λδ K h=>by
 obtain⟨r,δ',h,k⟩:=h
 obtain⟨⟨x,δ1⟩,h1,h⟩:=bs h
 obtain⟨⟨y,δ2⟩,h2,h⟩:=bs h
 obtain⟨⟨z,δ3⟩,h3,h⟩:=bs h
 refine⟨x,δ1,h1,y,δ2,h2,z,δ3,h3,?_⟩
 try dsimp only at h⊢
 split at h
 ·rename_i q;(try rw[q]);cases h;exact k
 ·cases h
theorem Zx7(h:MI X io p c tg e (iL (o2 fa))):MI X io p c tg e (o2 (Zbb fa)):=h.weak λδ K h=>by
 obtain⟨r,δ',h,k⟩:=h
 obtain⟨⟨x,δ1⟩,h1,h⟩:=bs h
 refine⟨x,δ1,h1,?_⟩
 try dsimp only at h⊢
 split at h
 ·rename_i q;(try rw[q]);cases h;exact k
 ·cases h
theorem Zae(h:MI X io p c tg e (iR1 (o2 ra))):MI X io p c tg e (o2 (iRa ra)):=h.weak λδ K h=>by
 obtain⟨r,δ',h,k⟩:=h
 obtain⟨⟨x,δ1⟩,h1,h⟩:=bs h
 refine⟨x,δ1,h1,?_⟩
 try dsimp only at h⊢
 split at h
 case h_2=>cases h
 rename_i q
 (try rw[q])
 try dsimp only
 split at h
 ·rename_i b;cases h;exact⟨Zfk b,k⟩
 ·cases h
theorem Z1s(h:MI X io p c tg e (iR2 (o2 ra))):MI X io p c tg e (o2 (iRb ra)):=h.weak λδ K h=>by
 obtain⟨r,δ',h,k⟩:=h
 obtain⟨⟨x,δ1⟩,h1,h⟩:=bs h
 refine⟨x,δ1,h1,?_⟩
 try dsimp only at h⊢
 split at h
 case h_2=>cases h
 rename_i q
 (try rw[q])
 try dsimp only
 split at h
 ·rename_i b
  cases h
  rw[XN]at b
  exact⟨⟨(Zfk b.1).1,(Zfk b.1).2,(Zfk b.2).1,(Zfk b.2).2⟩,k⟩
 ·cases h
theorem Z09(h:MG X io c tg (dName i)):MG X io c tg (oG (gNm i)):=h.weak λd δ K ⟨δ',h,k⟩=>by cases h;exact k
theorem Znx(h:MG X io c tg (Zwa i)):MG X io c tg (oG (Z6q i)):=h.weak λd δ K q93=>by
 obtain⟨δ',h,k⟩:=q93
 unfold Z6q at h
 split at h
 ·rename_i q;cases h;exact⟨q,k⟩
 ·cases h
theorem Zsh(h:MGs X io c es Ycj):MGs X io c es (oGs gNl):=h.weak λd δ K q94=>by
 obtain⟨δ',h,k⟩:=q94
 unfold gNl at h
 split at h
 ·cases h;exact⟨rfl,k⟩
 ·cases h
theorem Zgj{g:FG}{gs:FGs}(h:MGs X io c es (Zz9 (oG g) (oGs gs))):MGs X io c es (oGs (gCn g gs)):=h.weak λd δ K q95=>by
 obtain⟨δ',h,k⟩:=q95
 unfold gCn at h
 split at h
 ·obtain⟨δ1,h1,h⟩:=bs h
  exact⟨δ1,h1,δ',h,k⟩
 ·cases h
theorem Zwt{n:Nat}{gs:FGs}(h:MG X io c tg (dTup n (oGs gs))):MG X io c tg (oG (gTp n gs)):=h.weak λd δ K q96=>by
 obtain⟨δ',h,k⟩:=q96
 unfold gTp at h
 split at h
 case h_2=>cases h
 split at h
 ·rename_i q;exact⟨q,δ',h,k⟩
 ·cases h
theorem W4(h:MIfs X io p es Z4j):MIfs X io p es (o2 Zhh):=h.weak λδ K ⟨r,δ',h,k⟩=>by cases h;exact k
theorem Zxz{g:FG}{t:FT}{me:FE}{ds:List Xa}{δ0:Ze}{zs:List OT}{δe:Ze}(h:compLoop g t me ds δ0=some (zs,δe)) :
  ∃I:Nat->List OT->Ze->Prop,I 0 [] δ0∧
 (∀ (i:Nat) (d:Xa) (rs:List OT) (δ':Ze),ds[i]? =some d->I i rs δ'->oG g d δ' λδ2=>o2 t δ2 λb δ3=>if b=true then o2 me δ3 λr δ4=>I (i+1) (rs ++ [r]) δ4 else I (i+1) rs δ3)∧
 ∀rs δ',I ds.length rs δ'->rs=zs∧δ'=δe:=by
 refine⟨λi rs δ'=>∃ys,rs ++ ys=zs∧compLoop g t me (ds.drop i) δ'=some (ys,δe),⟨zs,rfl,by rw[List.drop_zero];exact h⟩,?_,?_⟩
 ·rintro i d rs δ' hd ⟨ys,e,hl⟩
  obtain⟨hi,hdi⟩:=Xg.mp hd
  rw[List.drop_eq_getElem_cons hi,hdi]at hl
  unfold compLoop at hl
  obtain⟨δ1,h1,hl⟩:=bs hl
  obtain⟨⟨b,δ2⟩,h2,hl⟩:=bs hl
  refine⟨δ1,h1,b,δ2,h2,?_⟩
  dsimp only at hl
  split at hl
  ·rename_i hb
   rw[if_pos hb]
   obtain⟨⟨r,δ3⟩,h3,hl⟩:=bs hl
   obtain⟨⟨ws,δ4⟩,h4,hl⟩:=bs hl
   cases hl
   exact⟨r,δ3,h3,ws,by rw[Bu];exact e,h4⟩
  ·rename_i hb
   rw[if_neg hb]
   exact⟨ys,e,hl⟩
 ·rintro rs δ' ⟨ys,e,hl⟩
  rw[List.drop_length]at hl
  unfold compLoop at hl
  cases hl
  exact⟨by rw[←e,QT],rfl⟩
theorem Zsr{n:Nat}{caps:List Nat}{it:FI}{g:FG}{t:FT}{me:FE}{δ:Ze}{K:OT->Ze->Prop}(h:o2 (Wc n caps it g t me) δ K):Zg9 n caps (o2 it) (oG g) (o2 t) (o2 me) δ K:=by
 obtain⟨r,δ',h,k⟩:=h
 obtain⟨⟨ds,δ1⟩,h1,h⟩:=bs h
 refine⟨ds,δ1,h1,?_⟩
 dsimp only at h
 split at h
 case isFalse=>cases h
 rename_i hz
 obtain⟨⟨zs,δe⟩,h2,h⟩:=bs h
 cases h
 obtain⟨I,i0,st,en⟩:=Zxz h2
 refine⟨hz,I,i0,st,λrs δ'' q=>?_⟩
 obtain⟨rfl,rfl⟩:=en rs δ'' q
 exact k
theorem Wr{n:Nat}{caps:List Nat}{it:FI}{g:FG}{t:FT}{me:FE}(h:ME X io p c e (Zg9 n caps (o2 it) (oG g) (o2 t) (o2 me))):ME X io p c e (o2 (Wc n caps it g t me)):=h.weak λδ K z=>Zsr z
end
section
variable {X:Cx}{io:List Nat}{p c:Bool}{e tg iter:Expr}{es:List Expr}{st:Stmt}{sts:List Stmt}{fa fb fc:FE}{ra:FA}{ta tb:FT}{i:Nat}{f g u w:FS}
theorem Z2g(h:MSs X io sts (Yag (oS f) (oS g))):MSs X io sts (oS (Zz f g)):=h.weak λD δ h=>by
 unfold oS Zz at h;unfold Yag oS
 cases q:f δ<;>rw[q]at h<;>exact h
theorem Z0n(h:MSs X io sts Z5v):MSs X io sts (oS fNx):=h.weak λD δ h=>h
theorem Znh{k:OT->Ze->RS}{D:Zf9}{δ:Ze}(h:oS (wE fa k) D δ):o2 fa δ λr δ'=>(k r δ').fits D:=by
 unfold oS wE at h
 split at h
 ·rename_i q;exact⟨_,_,q,h⟩
 ·exact h.elim
theorem o2.imp{α:Type}{f:Ze->Option (α×Ze)}{δ:Ze}{K K':α->Ze->Prop}(h:o2 f δ K)(k:∀r δ',K r δ'->K' r δ'):o2 f δ K':=let⟨r,δ',e,q⟩:=h;⟨r,δ',e,k r δ' q⟩
theorem Zi8{P:Prop}[Decidable P]{a:RS}{D:Zf9}(h:(if P then a else .bad:RS).fits D):P∧a.fits D:=by
 split at h
 ·exact⟨‹_›,h⟩
 ·exact h.elim
theorem Zng(h:MS X io st (Z5e (o2 fa))):MS X io st (oS (wE fa Zmx)):=h.weak λD δ h=>Znh h
theorem Z4i(h:MS X io st (Ybz (o2 fa))):MS X io st (oS (wE fa J6)):=h.weak λD δ h=>Znh h
theorem Zdw(h:MS X io st (Zui i)):MS X io st (oS (Zfh i)):=h.weak λD δ h=>by
 unfold oS Zfh at h;unfold Zui
 split at h
 ·rename_i q;(try rw[q]);exact h
 ·exact h.elim
theorem Z95(h:MS X io st (Ydw (o2 ta) (oS u) (oS w))):MS X io st (oS (Zch ta u w)):=h.weak λD δ h=>by
 unfold oS Zch at h
 split at h
 ·rename_i b δ' q
  refine⟨b,δ',q,?_⟩
  split at h
  ·rename_i hb;rw[if_pos hb];exact h
  ·rename_i hb;rw[if_neg hb];exact h
 ·exact h.elim
theorem Z23(h:MS X io st (Z18 i (o2 fa))):MS X io st (oS (wE fa (Wx i))):=h.weak λD δ h=>Znh h
theorem Z1x(h:MS X io st (Zpu i (o2 fa))):MS X io st (oS (wE fa (Zbe i))):=h.weak λD δ h=>Znh h
section
variable {n:Nat}{caps:List Nat}{o q:Nat}{it:FI}{gg:FG}{t:FT}{me:FE}
theorem Zoc(h:MS X io st (if true=true then Zpu i (Zg9 n caps (o2 it) (oG gg) (o2 t) (o2 me))else Z18 i (Zg9 n caps (o2 it) (oG gg) (o2 t) (o2 me)))):MS X io st (oS (wE (Wc n caps it gg t me) (Zbe i))) :=
 h.weak λD δ h=>by rw[if_pos rfl];exact Zsr (Znh h)
theorem Zjk(h:MS X io st (if false=true then Zpu i (Zg9 n caps (o2 it) (oG gg) (o2 t) (o2 me))else Z18 i (Zg9 n caps (o2 it) (oG gg) (o2 t) (o2 me)))):MS X io st (oS (wE (Wc n caps it gg t me) (Wx i))) :=
 h.weak λD δ h=>by rw[if_neg XC];exact Zsr (Znh h)
end
theorem Zea(h:MS X io st (Zj5 i (o2 fa))):MS X io st (oS (Zba i fa)):=h.weak λD δ h=>by
 unfold oS Zba at h;unfold Zj5
 split at h
 case h_2=>exact h.elim
 rename_i q;(try rw[q])
 refine(Znh h).imp λr δ' z=>?_
 split at z
 ·rename_i q2;(try rw[q2]);exact Zi8 z
 ·exact z.elim
theorem Zp8(h:MS X io st (Zgg i (o2 fa))):MS X io st (oS (Zb3 i fa)):=h.weak λD δ h=>by
 unfold oS Zb3 at h;unfold Zgg
 split at h
 case h_2=>exact h.elim
 rename_i q;(try rw[q])
 refine(Znh h).imp λr δ' z=>?_
 split at z
 ·rename_i q2;(try rw[q2]);exact Zi8 z
 ·exact z.elim
theorem Zw9(h:MS X io st (Yei i (o2 fa) (o2 fb))):MS X io st (oS (Z14 i fa fb)):=h.weak λD δ h=>by
 refine(Znh h).imp λr δ' z=>?_
 split at z
 case h_2=>exact z.elim
 rename_i q;(try rw[q])
 refine(Znh z).imp λn δ2 z=>?_
 split at z
 case h_2=>exact z.elim
 rename_i k q2;(try rw[q2])
 show match ixN _ k with|some j=>_|none=>_
 split at z
 ·rename_i q3;(try rw[q3]);exact z
 ·exact z.elim
theorem Zbx(h:MS X io st (Z44 i (o2 fa) (o2 fb) (o2 fc))):MS X io st (oS (Zb0 i fa fb fc)):=h.weak λD δ h=>by
 refine(Znh h).imp λr δ' z=>?_
 split at z
 case h_2=>exact z.elim
 rename_i q;(try rw[q])
 refine(Znh z).imp λn δ2 z=>?_
 split at z
 case h_2=>exact z.elim
 rename_i k q2;(try rw[q2])
 show match ixN _ k with|some j=>_|none=>_
 split at z
 case h_2=>exact z.elim
 rename_i q3;(try rw[q3])
 try dsimp only
 split at z
 case h_2=>exact z.elim
 rename_i q4;(try rw[q4])
 refine(Znh z).imp λn' δ3 z=>?_
 split at z
 case h_2=>exact z.elim
 rename_i k' q5;(try rw[q5])
 show match ixN _ k' with|some j=>_|none=>_
 split at z
 ·rename_i q6;(try rw[q6]);exact z
 ·exact z.elim
theorem Zr6(h:MS X io st (Zkm i (oS u))):MS X io st (oS (Zhj i u)):=h.weak λD δ h=>by
 unfold oS Zhj at h;unfold Zkm
 split at h
 ·rename_i q;(try rw[q]);exact h
 ·exact h.elim
theorem Jf{gg:FG}{d:Xa}{ds:List Xa}{δ:Ze}:forLoop gg u (d :: ds) δ=match gg d δ with
  | none=>.bad
  | some δ1=>match u δ1 with
   | .nx δ2=>forLoop gg u ds δ2
   | .ct δ2=>forLoop gg u ds δ2
   | .bk δ2=>.nx δ2
   | r=>r:=rfl
theorem Z24{it:FI}{gg:FG}(h:MS X io st (Ycq (o2 it) (oG gg) (oS u))):MS X io st (oS (Wl it gg u)):=h.weak λD δ h=>by
 unfold oS Wl at h
 split at h
 case h_2=>exact h.elim
 rename_i ds δ1 q
 refine⟨ds,δ1,q,λi δ'=>(forLoop gg u (ds.drop i) δ').fits D,by show RS.fits D (forLoop gg u (ds.drop 0) δ1);rw[List.drop_zero];exact h,λi d δ' hd z=>?_,λδ' z=>?_⟩
 ·obtain⟨hi,hdi⟩:=Xg.mp hd
  replace z:RS.fits D (forLoop gg u (ds.drop i) δ'):=z
  rw[List.drop_eq_getElem_cons hi,hdi,Jf]at z
  split at z
  case h_1=>exact z.elim
  rename_i δ2 q2
  refine⟨δ2,q2,?_⟩
  unfold oS
  cases q3:u δ2<;>rw[q3]at z<;>(try rw[q3])<;>exact z
 ·replace z:RS.fits D (forLoop gg u (ds.drop ds.length) δ'):=z
  rw[List.drop_length]at z;exact z
theorem Zn9(h:MS X io st (Zwz (o2 ta) (oS u))):MS X io st (oS (Zio ta u)):=h.weak λD δ h=>by
 unfold oS Zio at h
 split at h
 case isFalse=>exact h.elim
 rename_i hn
 refine⟨λn δ'=>(whileLoop ta u n δ').fits D,⟨_,h⟩,λn δ' z=>?_⟩
 cases n with
 | zero=>exact z.elim
 | succ n=>
  unfold whileLoop at z
  split at z
  case h_1=>exact z.elim
  rename_i b δ1 q
  refine⟨b,δ1,q,?_⟩
  split at z
  ·rename_i hb
   rw[if_pos hb]
   refine⟨λδ''=>(whileLoop ta u n δ'').fits D,λδ'' y=>⟨n,JV n,y⟩,?_⟩
   unfold oS
   cases q3:u δ1<;>rw[q3]at z<;>exact z
  ·rename_i hb
   rw[if_neg hb]
   exact z
theorem Zdi{n m:Nat}:∀{δ:Ze},whileLoop ta u n δ≠ .bad->whileLoop ta u (n+m) δ=whileLoop ta u n δ:=by
 induction n with
 | zero=>intro δ h;exact absurd rfl h
 | succ n ih=>
  intro δ h
  rw[Nat.succ_add]
  unfold whileLoop at h⊢
  cases q:ta δ with
  | none=>rfl
  | some x=>
   obtain⟨b,δ1⟩:=x
   rw[q]at h
   try dsimp only at h⊢
   split
   ·rename_i hb
    rw[if_pos hb]at h
    cases q3:u δ1<;>rw[q3]at h<;>first|exact ih h|rfl
   ·rfl
theorem Zls{r:RS}{δ:Ze}(n:Nat)(h:whileLoop ta u n δ=r)(hr:r≠ .bad):Zio ta u δ=r:=by
 have hn:∃n,whileLoop ta u n δ≠ .bad:=⟨n,by rw[h];exact hr⟩
 unfold Zio
 rw[dif_pos hn]
 have h1:=Classical.choose_spec hn
 have e1:=Zdi (m:=n) h1
 have e2:=Zdi (m:=Classical.choose hn) (show whileLoop ta u n δ≠ .bad by rw[h];exact hr)
 rw[Nat.add_comm]at e2
 rw[←e1,e2,h]
theorem Zny{cn:Str}:MS X io st (oS (Znz cn)):=Zuc.weak λD δ h=>h
class NoEx (f:FS):Prop where
 no:∀δ cn δ',f δ≠ .ex cn δ'
class NoExK (k:OT->Ze->RS):Prop where
 no:∀r δ cn δ',k r δ≠ .ex cn δ'
end
section
variable {P:X4}{w:Qs}{K:Xb}{mg:Str->Option Xc}{base:Heap}{x qual:Str}{st:Stmt}{f:Addr}{fd:XD}{N ps:List Str}{n np nn:Nat}{S:FS}
theorem RS.told_fits{r:RS}{o:OT}{k:OT->Prop}(h:r.told= .ok o)(hk:k o):r.fits (Zx9 k):=by
 cases r<;>unfold RS.told at h<;>first|(cases h;exact hk)|cases h
theorem Z5(F:Fun K x qual st f fd)(Sc:Zk N ps (Zi st))(hN:N.length=nn)(hp:np=ps.length)
  (hb:∀(cdv:Xc) (A:Qm) (outer:List Env) (s:Xd) (H:Hp) (E:XK),Room n (A.deeper (U4 qual (Zi st) s.heap.objs.size f cdv))->MSs (Ztq CX0 P w K mg base N qual (Zi st) f cdv A outer s H E).nox [] (Zar st) (oS S)) :
  FnOk P w K mg base CX0 (n+1) f fd ps (spD K (sD (J9 np nn S))):=by
 subst hN hp
 refine F.okD Sc (λds k h=>?_) λcdv A outer s H E hr=>⟨_,hb cdv A outer s H E hr,λds k h=>?_⟩
 ·obtain⟨r,h,_⟩:=h
  unfold J9 at h
  split at h
  ·assumption
  ·cases h
 ·obtain⟨r,h,hk⟩:=h
  unfold J9 at h
  split at h
  ·exact RS.told_fits h hk
  ·cases h
theorem Zl3(F:Fun K x qual st f fd)(Sc:Zk N ps (Zi st))(hN:N.length=nn)(hp:np=ps.length)
  (hb:∀(cdv:Xc) (A:Qm) (outer:List Env) (s:Xd) (H:Hp) (E:XK),Room n (A.deeper (U4 qual (Zi st) s.heap.objs.size f cdv))->MSs (Ztq CX0 P w K mg base N qual (Zi st) f cdv A outer s H E).nox [0] (Zar st) (oS S)) :
  FnOk P w K mg base CX0 (n+1) f fd ps (spI K (sI (Zsj np nn S))):=by
 subst hN hp
 refine F.okI Sc (λt ds k h=>?_) λcdv A outer s H E hr=>⟨_,hb cdv A outer s H E hr,λt ds k h=>?_⟩
 ·obtain⟨r,t',h,_⟩:=h
  unfold Zsj at h
  split at h
  ·assumption
  ·cases h
 ·obtain⟨r,t',h,hk⟩:=h
  unfold Zsj at h
  split at h
  case isFalse=>cases h
  have e:Zj2 N.length t ds=Zgr N t ds:=rfl
  rw[e]at h
  show(S (Zgr N t ds)).fits (Zyo k)
  cases q:S (Zgr N t ds)<;>rw[q]at h<;>unfold RS.toldI at h<;>first|cases h|skip
  ·rename_i δ
   show match δ[0]? with|some (some t)=>k (.fz .none) t|_=>False
   dsimp only at h
   split at h
   ·rename_i z;(try rw[z]);cases h;exact hk
   ·cases h
  ·rename_i r' δ
   show match δ[0]? with|some (some t)=>k r' t|_=>False
   dsimp only at h
   split at h
   ·rename_i z;(try rw[z]);cases h;exact hk
   ·cases h
end
noncomputable def i2(g:Int->Int->Xa):Xa->Xa->Option Xa:=λd e=>match d,e with| .int i,.int j=>some (g i j)|_,_=>none
noncomputable def i2c(c:Int->Int->Bool)(g:Int->Int->Xa):Xa->Xa->Option Xa:=λd e=>match d,e with| .int i,.int j=>if c i j=true then some (g i j)else none|_,_=>none
theorem Znp{g:Int->Int->Xa}:ByS (i2 g) (Ztr g):=λd e r k h hk=>by
 unfold i2 at h
 split at h
 ·cases h;exact hk
 ·cases h
theorem Zik{c:Int->Int->Bool}{C:Int->Int->Prop}{g:Int->Int->Xa}(hc:∀i j,c i j=true->C i j):ByS (i2c c g) (d2I C g):=λd e r k h hk=>by
 unfold i2c at h
 split at h
 ·split at h
  ·cases h;exact⟨hc _ _ ‹_›,hk⟩
  ·cases h
 ·cases h
noncomputable def Z19(a b:Int):Bool:=!(decide (Q8 a>shortFactorBits)&&decide (Q8 b>shortFactorBits)&&UJ (Q8 a+Q8 b))
noncomputable def Z2w(_ j:Int):Bool:=decide (j≠0)&&decide (j.natAbs.log2<9000)
noncomputable def Ydr(_ j:Int):Bool:=decide (j≠0)
noncomputable def Ydm(i j:Int):Bool:=decide (0≤j∧j≤1000000∧i.natAbs<2^64)
theorem Zi7{a b:Int}:Z19 a b=true↔IntMulOk a b:=by
 unfold Z19 IntMulOk
 rw[Bool.not_eq_true',Bool.not_eq_true]
noncomputable def Zci:=i2 λi j=>.int (i+j)
noncomputable def gSb:=i2 λi j=>.int (i-j)
noncomputable def Zf4:=i2c Z19 λi j=>.int (i*j)
noncomputable def Zax:=i2c Z2w λi j=>.int (i.fdiv j)
noncomputable def Zix:=i2c Ydr λi j=>.int (i.fmod j)
noncomputable def Zkp:=i2c Ydm λi j=>.int (i^j.toNat)
noncomputable def gLt:=i2 λi j=>.bool (decide (i<j))
noncomputable def gLe:=i2 λi j=>.bool (decide (i≤j))
noncomputable def gGt:=i2 λi j=>.bool (decide (j<i))
noncomputable def gGe:=i2 λi j=>.bool (decide (j≤i))
theorem Ybg:ByS Zci (Ztr λi j=>.int (i+j)):=Znp
theorem Yam:ByS gSb (Ztr λi j=>.int (i-j)):=Znp
theorem Z8l:ByS Zf4 (d2I MulOk λi j=>.int (i*j)):=Zik λi j h=>⟨Zi7.mp h⟩
theorem Z4q:ByS Zax (d2I Yd2 λi j=>.int (i.fdiv j)):=Zik λi j h=>⟨by
 unfold Z2w at h
 rw[XN]at h
 exact⟨of_decide_eq_true h.1,of_decide_eq_true h.2⟩⟩
theorem Z8h:ByS Zix (d2I (λ_ j=>j≠0) λi j=>.int (i.fmod j)):=Zik λi j h=>of_decide_eq_true h
theorem Ybk:ByS Zkp (d2I Z73 λi j=>.int (i^j.toNat)):=Zik λi j h=>⟨(of_decide_eq_true h:0≤j∧j≤1000000∧i.natAbs<2^64)⟩
theorem Ycc:ByS gLt (Ztr λi j=>.bool (decide (i<j))):=Znp
theorem Yfo:ByS gLe (Ztr λi j=>.bool (decide (i≤j))):=Znp
theorem Ygb:ByS gGt (Ztr λi j=>.bool (decide (j<i))):=Znp
theorem Yeq:ByS gGe (Ztr λi j=>.bool (decide (j≤i))):=Znp
noncomputable def gEq:Xa->Xa->Option Xa:=λd e=>if(VF d&&VF e)=true then some (.bool (Q3 d e))else none
noncomputable def gNe:Xa->Xa->Option Xa:=λd e=>if(VF d&&VF e)=true then some (.bool (!Q3 d e))else none
theorem Yad:ByS gEq dEq:=λd e r k h hk=>by
 unfold gEq at h
 split at h
 ·rename_i q
  rw[XN]at q
  cases h
  exact⟨⟨q.1⟩,⟨q.2⟩,hk⟩
 ·cases h
theorem Ye7:ByS gNe dNe:=λd e r k h hk=>by
 unfold gNe at h
 split at h
 ·rename_i q
  rw[XN]at q
  cases h
  exact⟨⟨q.1⟩,⟨q.2⟩,hk⟩
 ·cases h
noncomputable def gIs:Xa->Xa->Option Xa:=λd e=>match e with| .none=>some (.bool (Zd5 d))|_=>none
noncomputable def Zov:Xa->Xa->Option Xa:=λd e=>match e with| .none=>some (.bool (!Zd5 d))|_=>none
theorem Yes:ByS gIs Ycb:=λd e r k h hk=>by
 unfold gIs at h
 split at h
 ·cases h;exact⟨rfl,hk⟩
 ·cases h
theorem Z0e:ByS Zov Z6u:=λd e r k h hk=>by
 unfold Zov at h
 split at h
 ·cases h;exact⟨rfl,hk⟩
 ·cases h
noncomputable def Zyp(neg:Bool):Xa->Xa->Option Xa:=λd e=>match Zxh e with
 | some ds=>if(scD d&&ds.all scD)=true then some (.bool (if neg then !memS d ds else memS d ds))else none
 | none=>none
theorem Zuw{neg:Bool}:ByS (Zyp neg) (dIn neg):=λd e r k h hk=>by
 unfold Zyp at h
 split at h
 case h_2=>cases h
 rename_i ds q
 split at h
 case isFalse=>cases h
 rename_i q2
 rw[XN]at q2
 cases h
 refine⟨q2.1,?_⟩
 cases e<;>cases q
 ·exact⟨q2.2,hk⟩
 ·exact⟨q2.2,hk⟩
noncomputable def gIx:Xa->Xa->Option OT:=λd e=>(ixD d e).bind λx=>some (.fz x)
theorem Yew:ByO gIx dIx:=λd e r k h hk=>by
 obtain⟨x,h1,h2⟩:=bs h
 cases h2
 unfold dIx
 rw[h1]
 exact hk
noncomputable def Zuv:Xa->Xa->Option OT:=λd e=>match d,e with| .list ds,.list es=>if ds.length+es.length≤Xr then some (.nd ((ds ++ es).map OT.fz))else none|_,_=>none
theorem Zph:ByO Zuv dCat:=λd e r k h hk=>by
 unfold Zuv at h
 split at h
 ·split at h
  ·cases h;exact⟨‹_›,hk⟩
  ·cases h
 ·cases h
noncomputable def Zqd:List Xa->Option Xa:=λds=>match ds with|[d]=>(Zus d).bind λn=>some (.int n)|_=>none
theorem Yah:∀ds r k,Zqd ds=some r->k r->Ydg ds k:=λds r k h hk=>by
 unfold Zqd at h
 split at h
 ·obtain⟨n,h1,h2⟩:=bs h
  cases h2
  show match Zus _ with|some n=>_|none=>_
  rw[h1]
  exact hk
 ·cases h
noncomputable def Z2c:List Xa->Option Xa:=λds=>match ds with|[.int i]=>some (.int (if i<0 then -i else i))|_=>none
theorem Z0i:∀ds r k,Z2c ds=some r->k r->Ycw ds k:=λds r k h hk=>by
 unfold Z2c at h
 split at h
 ·cases h;exact hk
 ·cases h
noncomputable def Yf7:List Xa->Option Xa:=λds=>match ds with|[.int i,.int j]=>some (.int (if j>i then j else i))|_=>none
noncomputable def Z0p:List Xa->Option Xa:=λds=>match ds with|[.int i,.int j]=>some (.int (if j<i then j else i))|_=>none
theorem Z5c:∀ds r k,Z0p ds=some r->k r->Yci ds k:=λds r k h hk=>by
 unfold Z0p at h
 split at h
 ·cases h;exact hk
 ·cases h
noncomputable def Z3k:List Xa->Option Xa:=λds=>match ds with|[.int i]=>some (.int i)|[.bool b]=>some (.int (if b then 1 else 0))|_=>none
theorem Z9b:∀ds r k,Z3k ds=some r->k r->Yc1 ds k:=λds r k h hk=>by
 unfold Z3k at h
 split at h
 ·cases h;exact hk
 ·cases h;exact hk
 ·cases h
noncomputable def Z3t:List Xa->Option OT:=λds=>match ds with|[d]=>(Zxh d).bind λes=>some (.nd (es.map OT.fz))|_=>none
noncomputable def Zji:List Xa->Option (List Int)
 | []=>some []
 | .int i :: r=>(Zji r).bind λl=>some (i :: l)
 | _ :: _=>none
theorem Zeq:∀{ds:List Xa} {ns:List Int},Zji ds=some ns->ds=ns.map Xn
 | [],_,h=>by cases h;rfl
 | .int i :: r,_,h=>by
  obtain⟨l,h1,h2⟩:=bs h
  cases h2
  rw[Zeq h1];rfl
 | .none :: _,_,h=>by cases h
 | .bool _ :: _,_,h=>by cases h
 | .str _ :: _,_,h=>by cases h
 | .list _ :: _,_,h=>by cases h
 | .tuple _ :: _,_,h=>by cases h
 | .dict _ :: _,_,h=>by cases h
@[simp] theorem Zhl:∀ns:List Int,Zji (ns.map Xn)=some ns
 | []=>rfl
 | n :: ns=>by rw[X3,Zji,Zhl ns];rfl
noncomputable def Z8c:List Xa->Option Xa:=λds=>match ds with|[.list es]=>(Zji es).bind λns=>some (.int ns.sum)|_=>none
theorem Yas:∀ds r k,Z8c ds=some r->k r->Ydt ds k:=λds r k h hk=>by
 unfold Z8c at h
 split at h
 ·obtain⟨n,h1,h2⟩:=bs h
  cases h2
  exact⟨n,by rw[Zeq h1],hk⟩
 ·cases h
section
variable {X:Cx}{io:List Nat}{p c:Bool}{e tg:Expr}{es:List Expr}{st:Stmt}{fa fb fc:FE}{ra:FA}{i:Nat}
noncomputable def Yb0(a:FA):FE:=λδ=>(a δ).bind λp=>match OT.datas p.1 with|[.int j]=>if rOk j=true∧j.toNat≤Xr then some (.nd ((Zcg 0 j.toNat).map OT.fz),p.2)else none|_=>none
noncomputable def Zt7(a b:FE):FE:=λδ=>(a δ).bind λp=>(b p.2).bind λq=>match q.1.data with| .int k=>if rOk k=true∧k.toNat≤Xr then some (.nd (Xx k.toNat (.fz p.1.data)),p.2)else none|_=>none
theorem Zwv(h:ME X io p c e (Ydp (o2 fa) (o2 fb))):ME X io p c e (o2 (Zt7 fa fb)):=h.weak λδ K h=>by
 obtain⟨r,δ',h,k⟩:=h
 obtain⟨⟨x,δ1⟩,h1,h⟩:=bs h
 obtain⟨⟨y,δ2⟩,h2,h⟩:=bs h
 refine⟨x,δ1,h1,y,δ2,h2,?_⟩
 try dsimp only at h⊢
 split at h
 case h_2=>cases h
 rename_i q
 (try rw[q])
 split at h
 case isFalse=>cases h
 rename_i b
 cases h
 have z:=Zfk b.1
 exact⟨⟨by omega,by omega,b.2⟩,k⟩
noncomputable def Zsf(i:Nat):FE:=λδ=>match δ[i]? with
 | some (some (.nd ts))=>if ts.length≤Xr∧(ts.all λt=>match t with| .nd us=>true|_=>false)=true then some (.nd (((Zm4 ts).map Xn).map OT.fz),δ)else none
 | _=>none
theorem Zzn(h:ME X io p c e (Zut i)):ME X io p c e (o2 (Zsf i)):=h.weak λδ K h=>by
 obtain⟨r,δ',h,k⟩:=h
 unfold Zsf at h;unfold Zut
 split at h
 case h_2=>cases h
 rename_i ts q;(try rw[q])
 split at h
 case isFalse=>cases h
 rename_i hc
 cases h
 refine⟨hc.1,λt ht=>?_,k⟩
 have:=BP.mp hc.2 t ht
 split at this
 ·exact⟨_,rfl⟩
 ·cases this
end
variable {G:Xb}
section
variable {X:Cx}{io:List Nat}{p c:Bool}{e a b:Expr}{es:List Expr}{m ma mb:MEt}{mr:MAt}{pos apos cpos px py pt sp kp:Pos}{i j:Nat}{x y:Str}{fa fb:FE}{ra:FA}{st:Stmt}
noncomputable def Yaa(a:FA):FE:=λδ=>(a δ).bind λp=>if p.1.length≤Xr then some (.tp p.1,p.2)else none
noncomputable def Zwc(i c:Nat)(e:FE):FS:=λδ=>match δ[i]? with
 | some (some (.tp ts))=>match ts[c]? with
  | some (.nd us)=>wE e (λr _=>if us.length<Xr then .nx (δ.set i (some (.tp (ts.set c (.nd (us ++ [.fz r.data]))))))else .bad) δ
  | _=>.bad
 | _=>.bad
noncomputable def Ybx(i j:Nat)(a:FA):FS:=λδ=>match a δ with
 | some (rs,δ1)=>match OT.datas rs with
  | [d,e]=>.nx ((δ1.set i (some (.fz d))).set j (some (.fz e)))
  | _=>.bad
 | none=>.bad
end
class NoStar (e:Expr):Prop where
 h:∀es env,Xp (e :: es) env=(false,eval e env) :: Xp es env
instance nx_Name{x:Str}{p:Pos}:NoStar (.Name x p):=⟨λ_ _=>rfl⟩
instance nx_Constant{x k}{p:Pos}:NoStar (.Constant x k p):=⟨λ_ _=>rfl⟩
instance nx_BinOp{a o b}{p:Pos}:NoStar (.BinOp a o b p):=⟨λ_ _=>rfl⟩
instance nx_Compare{a o b}{p:Pos}:NoStar (.Compare a o b p):=⟨λ_ _=>rfl⟩
instance nx_Call{f a k}{p:Pos}:NoStar (.Call f a k p):=⟨λ_ _=>rfl⟩
instance nx_List{a}{p:Pos}:NoStar (.List a p):=⟨λ_ _=>rfl⟩
instance nx_Tuple{a k}{p:Pos}:NoStar (.Tuple a k p):=⟨λ_ _=>rfl⟩
instance nx_Subscript{a b}{p:Pos}:NoStar (.Subscript a b p):=⟨λ_ _=>rfl⟩
instance nx_ListComp{a b s}{p:Pos}:NoStar (.ListComp a b s p):=⟨λ_ _=>rfl⟩
theorem Zg{X:Cx}{io:List Nat}{p p' c c' p2 c2:Bool}{e:Expr}{es:List Expr}{fa:FE}{ra:FA}[NoStar e](ha:ME X io p c e (o2 fa))(hr:MA X io p' c' es (o2 ra))(hc:p'=true∨c=true:=by first|exact Qn rfl|exact Qi rfl)(h2:(p&&p')=p2:=by rfl)(h3:(c&&c')=c2:=by rfl):MA X io p2 c2 (e :: es) (o2 (Zf fa ra)) :=
 h2▸h3▸Z06 (Z1y ha hr hc (NoStar.h es X.env))
theorem Zm2{X:Cx}{io:List Nat}{p p' c c':Bool}{e:Expr}{m:MEt}(h:ME X io p c e m)(h2:p=p':=by rfl)(h3:c=c':=by rfl):ME X io p' c' e m:=h2▸h3▸h
variable {G:Xb}
section
variable {X:Cx}{io:List Nat}{p c:Bool}{e a b:Expr}{es:List Expr}{m ma mb:MEt}{mr:MAt}{pos apos cpos px py pt sp kp:Pos}{i j:Nat}{x y:Str}{fa fb:FE}{ra:FA}{st:Stmt}{u:FS}
noncomputable def Z91:=i2c Ydm λi j=>.int (i*2^j.toNat)
noncomputable def Z33:=i2c (λ_ j=>decide (0≤j)) λi j=>.int (i/2^j.toNat)
noncomputable def Z72:=i2 λi j=>.int (Builtin.bitAnd i j)
theorem Z67{f:Int->Int->Int}:P2s G (rI Z16 λi j=>.int (f i j)) (d2I Z73 λi j=>.int (f i j)):=Zxf
theorem Z9u:ByS Z91 (d2I Z73 λi j=>.int (i*2^j.toNat)):=Zik λi j h=>⟨(of_decide_eq_true h:0≤j∧j≤1000000∧i.natAbs<2^64)⟩
theorem Z7h:ByS Z33 (d2I (λ_ j=>0≤j) λi j=>.int (i/2^j.toNat)):=Zik λi j h=>of_decide_eq_true h
theorem Z5z:ByS Z72 (Ztr λi j=>.int (Builtin.bitAnd i j)):=Znp
end
structure Gives(P:X4)(w:Qs)(it:Addr)(f:List Addr)(St:Heap->Prop)(x:Xc)(St':Heap->Prop):Prop where
 mem:it∈f
 run:∀{A:Qm} {E:Xc->Xd->Prop} {s:Xd} {Q:Xc->Xd->Prop},St s.heap->(∀h',St' h'->Vq it s.heap h'->Q x { s with heap:=h' })->XR (X7 P w) A (QK (.ref it)) Q E s
 keep:∀h h',(∀c∈f,∀o,h.get? c=some o->h'.get? c=some o)->St h->St h'
 keep':∀h h',(∀c∈f,∀o,h.get? c=some o->h'.get? c=some o)->St' h->St' h'
structure Zis(P:X4)(w:Qs)(it:Addr)(f:List Addr)(St:Heap->Prop):Prop where
 mem:it∈f
 run:∀{A:Qm} {E:Xc->Xd->Prop} {s:Xd} {Q:Xc->Xd->Prop},A.handled=none->St s.heap->(∀h' e,Heap.ExtBut it s.heap h'->(∃o,h'.get? e=some o∧o.cls= .type "StopIteration")->E (.ref e) { s with heap:=h' })->XR (X7 P w) A (QK (.ref it)) Q E s
 keep:∀h h',(∀c∈f,∀o,h.get? c=some o->h'.get? c=some o)->St h->St h'
structure ZA(z TI TO i1 i2:Addr)(f1 f2:List Addr):Prop where
 TIz:TI≠z
 TOz:TO≠z
 a1:∀c∈f1,c≠z∧c≠TO∧c≠i2
 a2:∀c∈f2,c≠z∧c≠TO∧c≠i1
section
variable {P:X4}{w:Qs}{A:Qm}{E:Xc->Xd->Prop}{s:Xd}
theorem Zju{T:Addr}{a b x:Xc}{k:Nat}{Q:Unit->Xd->Prop}(hT:Bm s.heap T a b)(h:∀h',h'.get? T=some { cls:=.type "tuple",data:=.seq ((#[a,b]:Array Xc).setIfInBounds k x) }->Vq T s.heap h'->Q () { s with heap:=h' }) :
  XR (X7 P w) A (updateSeq T (·.setIfInBounds k x)) Q E s:=wpAny_updateSeq_pair hT h
theorem Zs5{z TI TO i1 i2:Addr}{f1 f2:List Addr}{S1 T1 S2 T2:Heap->Prop}{x y a b:Xc}{Q:Xc->Xd->Prop}(D:ZA z TI TO i1 i2 f1 f2)(G1:Gives P w i1 f1 S1 x T1)(G2:Gives P w i2 f2 S2 y T2)
  (hz:U6 s.heap z TI TO .none) (hTI:Bm s.heap TI (.ref i1) (.ref i2)) (hTO:Bm s.heap TO a b) (h1:S1 s.heap) (h2:S2 s.heap)
  (hQ:∀h',U6 h' z TI TO (rawInt s.heap.objs.size)->Bm h' TO x y->T1 h'->T2 h'->Bm h' s.heap.objs.size x y ->
   (∀ c o,c∉[z,TO,i1,i2]->s.heap.get? c=some o->h'.get? c=some o)->Q (.ref s.heap.objs.size) { s with heap:=h' }) :
  XR (X7 P w) A (Builtin.«zip.__next__» ⟨[.ref z],[]⟩) (λfin s'=>∃v,fin= .done (.ret v)∧Q v s') E s:=by
 obtain⟨i1z,i1O,i12⟩:=D.a1 i1 G1.mem
 obtain⟨i2z,i2O,i21⟩:=D.a2 i2 G2.mem
 have r1:z∉f1∧TO∉f1∧i2∉f1:=⟨λm=>(D.a1 z m).1 rfl,λm=>(D.a1 TO m).2.1 rfl,λm=>(D.a1 i2 m).2.2 rfl⟩
 have r2:z∉f2∧TO∉f2∧i1∉f2:=⟨λm=>(D.a2 z m).1 rfl,λm=>(D.a2 TO m).2.1 rfl,λm=>(D.a2 i1 m).2.2 rfl⟩
 have st:∀{b:Addr} {h h':Heap} {f:List Addr},Vq b h h'->b∉f->∀c∈f,∀o,h.get? c=some o->h'.get? c=some o:=λsb hb c hc o e=>sb.extBut _ _ (λq=>hb (q▸hc)) e
 show XR _ _ (field (.ref z) 2>>=_) _ _ _
 refine Xf (Bo hz rfl (x:=.bool false) rfl ?_)
 show XR _ _ (field (.ref z) 3>>=_) _ _ _
 refine Xf (Bo hz rfl (x:=.ref TI) rfl (Xf (Va hTI rfl ?_)))
 show XR _ _ (JP (.ref z)>>=_) _ _ _
 refine Xf ?_
 unfold JP
 refine Xf (Bo hz rfl (x:=.none) rfl (X8 ?_))
 simp only[if_true]
 refine Xf (wpAny_rule (Xf (Bo hz rfl (x:=.ref TO) rfl (Xf (Vh hz (by simp) λh3 z3 b3=>?_)))))
 replace z3:U6 h3 z TI TO .ellipsis:=z3
 refine Xf ?_
 simp only[List.zipIdx_cons,List.zipIdx_nil,List.forIn_cons,Uj]
 refine Xf (Xf (wpAny_onRaise ?_))
 show XR _ _ (QK (.ref i1)>>=_) _ _ _
 refine Xf (G1.run (s:={ s with heap:=h3 }) (G1.keep _ _ (st b3 r1.1) h1) λh4 k4 b4=>X8 ?_)
 have o4:Bm h4 TO a b:=b4.extBut _ _ i1O.symm (b3.extBut _ _ D.TOz hTO)
 refine Xf (Va o4 rfl (Xf (Zju (s:={ s with heap:=h4 }) o4 λh5 o5 b5=>Xf (wpAny_letGo (X8 ?_)))))
 replace o5:Bm h5 TO x b:=o5
 refine Xf (Xf (wpAny_onRaise ?_))
 show XR _ _ (QK (.ref i2)>>=_) _ _ _
 refine Xf (G2.run (s:={ s with heap:=h5 }) (G2.keep _ _ (st b5 r2.2.1) (G2.keep _ _ (st b4 r2.2.2) (G2.keep _ _ (st b3 r2.1) h2))) λh6 k6 b6=>X8 ?_)
 have o6:Bm h6 TO x b:=b6.extBut _ _ i2O.symm o5
 refine Xf (Va o6 rfl (Xf (Zju (s:={ s with heap:=h6 }) o6 λh7 o7 b7=>Xf (wpAny_letGo (X8 (X8 ?_))))))
 replace o7:Bm h7 TO x y:=o7
 refine Xf (Va o7 rfl (Xf (wpAny_newTuple ?_)))
 have sz:h7.objs.size=s.heap.objs.size:=by rw[b7.1,b6.1,b5.1,b4.1,b3.1]
 have z7:U6 h7 z TI TO .ellipsis:=b7.extBut _ _ D.TOz.symm (b6.extBut _ _ i2z.symm (b5.extBut _ _ D.TOz.symm (b4.extBut _ _ i1z.symm z3)))
 have t1:T1 h7:=G1.keep' _ _ (st b7 r1.2.1) (G1.keep' _ _ (st b6 r1.2.2) (G1.keep' _ _ (st b5 r1.2.1) k4))
 have t2:T2 h7:=G2.keep' _ _ (st b7 r2.2.1) k6
 have old:∀c o,c∉[z,TO,i1,i2]->s.heap.get? c=some o->h7.get? c=some o:=λc o n e=>by
  simp only[Xo,VM,or_false,not_or]at n
  exact b7.extBut _ _ n.2.1 (b6.extBut _ _ n.2.2.2 (b5.extBut _ _ n.2.1 (b4.extBut _ _ n.2.2.1 (b3.extBut _ _ n.1 e))))
 show XR _ _ (Uk (.ref z) (.ref h7.objs.size)>>=_) _ _ _
 refine Xf ?_
 unfold Uk
 have zp:U6 (h7.push { cls:=.type "tuple",data:=.seq #[x,y] }) z TI TO .ellipsis:=Xm _ z7
 refine Xf (Vh zp (by simp) λh8 z8 b8=>?_)
 replace z8:U6 h8 z TI TO (rawInt h7.objs.size):=z8
 refine Vh z8 (by simp) λh9 z9 b9=>?_
 replace z9:U6 h9 z TI TO (rawInt h7.objs.size):=z9
 have up:∀c o,c≠z->h7.get? c=some o->h9.get? c=some o:=λc o n e=>b9.extBut _ _ n (b8.extBut _ _ n (Xm _ e))
 have nz:h7.objs.size≠z:=XJ (Xz z7)
 have p9:Bm h9 h7.objs.size x y:=b9.extBut _ _ nz (b8.extBut _ _ nz (Qd _ rfl))
 refine X8 ⟨_,rfl,?_⟩
 show Q (.ref h7.objs.size) _
 rw[sz]at z9 p9⊢
 exact hQ h9 z9 (up _ _ D.TOz o7) (G1.keep' _ _ (λc hc o e=>up c o (λq=>r1.1 (q▸hc)) e) t1) (G2.keep' _ _ (λc hc o e=>up c o (λq=>r2.1 (q▸hc)) e) t2) p9 λc o n e=>up c o (λq=>n (by simp[q])) (old c o n e)
theorem Zvz{z TI TO i1 i2:Addr}{f1 f2:List Addr}{S1 T1 S2:Heap->Prop}{a b:Xc}{Q:Fin->Xd->Prop}(hh:A.handled=none)(D:ZA z TI TO i1 i2 f1 f2)(g1:Zis P w i1 f1 S1∨(∃x,Gives P w i1 f1 S1 x T1)∧Zis P w i2 f2 S2)
  (hz:U6 s.heap z TI TO .none) (hTI:Bm s.heap TI (.ref i1) (.ref i2)) (hTO:Bm s.heap TO a b) (h1:S1 s.heap) (h2:S2 s.heap)
  (hE:∀h' e,(∀c o,c∉[z,TO,i1,i2]->s.heap.get? c=some o->h'.get? c=some o)->(∃o,h'.get? e=some o∧o.cls= .type "StopIteration")->E (.ref e) { s with heap:=h' }) :
  XR (X7 P w) A (Builtin.«zip.__next__» ⟨[.ref z],[]⟩) Q E s:=by
 have r1:z∉f1∧TO∉f1∧i2∉f1:=⟨λm=>(D.a1 z m).1 rfl,λm=>(D.a1 TO m).2.1 rfl,λm=>(D.a1 i2 m).2.2 rfl⟩
 have r2:z∉f2∧TO∉f2∧i1∉f2:=⟨λm=>(D.a2 z m).1 rfl,λm=>(D.a2 TO m).2.1 rfl,λm=>(D.a2 i1 m).2.2 rfl⟩
 have st:∀{b:Addr} {h h':Heap} {f:List Addr},Vq b h h'->b∉f->∀c∈f,∀o,h.get? c=some o->h'.get? c=some o:=λsb hb c hc o e=>sb.extBut _ _ (λq=>hb (q▸hc)) e
 show XR _ _ (field (.ref z) 2>>=_) _ _ _
 refine Xf (Bo hz rfl (x:=.bool false) rfl ?_)
 show XR _ _ (field (.ref z) 3>>=_) _ _ _
 refine Xf (Bo hz rfl (x:=.ref TI) rfl (Xf (Va hTI rfl ?_)))
 show XR _ _ (JP (.ref z)>>=_) _ _ _
 refine Xf ?_
 unfold JP
 refine Xf (Bo hz rfl (x:=.none) rfl (X8 ?_))
 simp only[if_true]
 refine Xf (wpAny_rule (Xf (Bo hz rfl (x:=.ref TO) rfl (Xf (Vh hz (by simp) λh3 z3 b3=>?_)))))
 replace z3:U6 h3 z TI TO .ellipsis:=z3
 refine Xf ?_
 simp only[List.zipIdx_cons,List.zipIdx_nil,List.forIn_cons,Uj]
 refine Xf (Xf (wpAny_onRaise ?_))
 show XR _ _ (QK (.ref i1)>>=_) _ _ _
 rcases g1 with G1|⟨⟨x,G1⟩,G2⟩
 ·obtain⟨i1z,i1O,i12⟩:=D.a1 i1 G1.mem
  refine Xf (G1.run (s:={ s with heap:=h3 }) hh (G1.keep _ _ (st b3 r1.1) h1) λh4 e b4 he=>?_)
  obtain⟨oe,hoe,hce⟩:=he
  have z4:U6 h4 z TI TO .ellipsis:=b4 _ _ i1z.symm z3
  have ez:e≠z:=λq=>by subst q;rw[z4]at hoe;cases hoe;simp at hce
  refine Vh z4 (by simp) λh5 _ b5=>hE h5 e (λc o n q=>?_) ⟨oe,b5.extBut _ _ ez hoe,hce⟩
  simp only[Xo,VM,or_false,not_or]at n
  exact b5.extBut _ _ n.1 (b4 _ _ n.2.2.1 (b3.extBut _ _ n.1 q))
 ·obtain⟨i1z,i1O,i12⟩:=D.a1 i1 G1.mem
  obtain⟨i2z,i2O,i21⟩:=D.a2 i2 G2.mem
  refine Xf (G1.run (s:={ s with heap:=h3 }) (G1.keep _ _ (st b3 r1.1) h1) λh4 k4 b4=>X8 ?_)
  have o4:Bm h4 TO a b:=b4.extBut _ _ i1O.symm (b3.extBut _ _ D.TOz hTO)
  refine Xf (Va o4 rfl (Xf (Zju (s:={ s with heap:=h4 }) o4 λh5 o5 b5=>Xf (wpAny_letGo (X8 ?_)))))
  refine Xf (Xf (wpAny_onRaise ?_))
  show XR _ _ (QK (.ref i2)>>=_) _ _ _
  refine Xf (G2.run (s:={ s with heap:=h5 }) hh (G2.keep _ _ (st b5 r2.2.1) (G2.keep _ _ (st b4 r2.2.2) (G2.keep _ _ (st b3 r2.1) h2))) λh6 e b6 he=>?_)
  obtain⟨oe,hoe,hce⟩:=he
  have z6:U6 h6 z TI TO .ellipsis:=b6 _ _ i2z.symm (b5.extBut _ _ D.TOz.symm (b4.extBut _ _ i1z.symm z3))
  have ez:e≠z:=λq=>by subst q;rw[z6]at hoe;cases hoe;simp at hce
  refine Vh z6 (by simp) λh7 _ b7=>hE h7 e (λc o n q=>?_) ⟨oe,b7.extBut _ _ ez hoe,hce⟩
  simp only[Xo,VM,or_false,not_or]at n
  exact b7.extBut _ _ n.1 (b6 _ _ n.2.2.2 (b5.extBut _ _ n.2.1 (b4.extBut _ _ n.2.2.1 (b3.extBut _ _ n.1 q))))
theorem Zpq{z TI TO i1 i2:Addr}{f1 f2:List Addr}{S1 T1 S2 T2:Heap->Prop}{x y a b:Xc}{Q:Option Xc->Xd->Prop}(D:ZA z TI TO i1 i2 f1 f2)(G1:Gives P w i1 f1 S1 x T1)(G2:Gives P w i2 f2 S2 y T2)
  (hz:U6 s.heap z TI TO .none) (hTI:Bm s.heap TI (.ref i1) (.ref i2)) (hTO:Bm s.heap TO a b) (h1:S1 s.heap) (h2:S2 s.heap)
  (hQ:∀h',U6 h' z TI TO (rawInt s.heap.objs.size)->Bm h' TO x y->T1 h'->T2 h'->Bm h' s.heap.objs.size x y ->
   (∀ c o,c∉[z,TO,i1,i2]->s.heap.get? c=some o->h'.get? c=some o)->Q (some (.ref s.heap.objs.size)) { s with heap:=h' }):XR (X7 P w) A (pyNext (.ref z)) Q E s:=by
 have hT:s.TypeIs (.ref z) "zip" :=⟨_,hz,rfl⟩
 unfold pyNext
 exact Xf (wpAny_attempt (VJ (name:=Str.ofString "__next__") hT F.slot_zip_next (Ua F.slot_zip_next hT F.entry_zip_next (Zs5 D G1 G2 hz hTI hTO h1 h2 λh' a1 a2 a3 a4 a5 a6=>X8 (hQ h' a1 a2 a3 a4 a5 a6)) (F.args_zip_next_1 _))))
theorem Zq1{z TI TO i1 i2:Addr}{f1 f2:List Addr}{S1 T1 S2:Heap->Prop}{a b:Xc}{Q:Option Xc->Xd->Prop}(hh:A.handled=none)(D:ZA z TI TO i1 i2 f1 f2)(g1:Zis P w i1 f1 S1∨(∃x,Gives P w i1 f1 S1 x T1)∧Zis P w i2 f2 S2)
  (hz:U6 s.heap z TI TO .none) (hTI:Bm s.heap TI (.ref i1) (.ref i2)) (hTO:Bm s.heap TO a b) (h1:S1 s.heap) (h2:S2 s.heap)
  (hQ:∀h',(∀c o,c∉[z,TO,i1,i2]->s.heap.get? c=some o->h'.get? c=some o)->Q none { s with heap:=h' }):XR (X7 P w) A (pyNext (.ref z)) Q E s:=by
 have hT:s.TypeIs (.ref z) "zip" :=⟨_,hz,rfl⟩
 unfold pyNext
 refine Xf (wpAny_attempt (VJ (name:=Str.ofString "__next__") hT F.slot_zip_next (Ua F.slot_zip_next hT F.entry_zip_next (Zvz hh D g1 hz hTI hTO h1 h2 λh' e hk he=>?_) (F.args_zip_next_1 _))))
 obtain⟨o,ho,hc⟩:=he
 exact Xf (wpAny_isInstance (T :="StopIteration") (b:=true) ⟨o,ho,hc⟩ isSubtype_stop (X8 (hQ _ hk)))
theorem Zs7{it t:Addr}{i:Nat}{items:Array Xc}{x:Xc}(hx:items[i]? =some x):Gives P w it [it,t] (λh=>IsTupIter h it t i∧IsTup h t items) x (λh=>IsTupIter h it t (i+1)) where
 mem:=by simp
 run:=fun{A E s Q} ⟨hit,ht⟩ hQ=>by
  obtain⟨o,ho,hc,hd⟩:=id hit
  obtain⟨ol,hol,_,nl,hdl⟩:=ht
  unfold QK
  refine Xf (VJ (name:=Str.ofString "__next__") hit.typeIs Uu (Ua Uu hit.typeIs entry_tupleiter_next ?_ (args_tupleiter_next _)))
  show XR _ _ (field (.ref it) 0>>=_) _ _ s
  refine Xf (Bo ho hd (x:=.ref t) rfl ?_)
  show XR _ _ (if(QJ t==Q4)=true then _ else _) _ _ s
  rw[if_neg (show¬((QJ t==Q4)=true)from XC)]
  show XR _ _ (field (.ref it) 1>>=_) _ _ s
  refine Xf (Bo ho hd (x:=.int i 0) rfl ?_)
  show XR _ _ (seqItems? (.ref t)>>=_) _ _ s
  refine Xf (Va hol hdl ?_)
  simp only[QV,hx]
  refine Xf (wpAny_setField ho hd (by simp) (X8 ⟨x,rfl,X8 (hQ _ ?_ (Heap.SameBut.update ..))⟩))
  exact⟨_,Heap.get?_update_self _ ho (Obj.isFreed_of_fields (Obj.data_mapFields hd _)),(Obj.cls_mapFields ..).trans hc,by rw[Obj.data_mapFields hd];simp[rawInt]⟩
 keep:=λh h' k ⟨⟨o,a1,a2⟩,⟨o',b1,b2⟩⟩=>⟨⟨o,k it (by simp) o a1,a2⟩,⟨o',k t (by simp) o' b1,b2⟩⟩
 keep':=λh h' k ⟨o,a1,a2⟩=>⟨o,k it (by simp) o a1,a2⟩
theorem Zvy{it t:Addr}{i:Nat}{items:Array Xc}(hx:items[i]? =none):Zis P w it [it,t] (λh=>IsTupIter h it t i∧IsTup h t items) where
 mem:=by simp
 run:=fun{A E s Q} hh ⟨hit,ht⟩ hE=>by
  obtain⟨o,ho,hc,hd⟩:=id hit
  obtain⟨ol,hol,_,nl,hdl⟩:=ht
  unfold QK
  refine Xf (VJ (name:=Str.ofString "__next__") hit.typeIs Uu (Ua Uu hit.typeIs entry_tupleiter_next ?_ (args_tupleiter_next _)))
  show XR _ _ (field (.ref it) 0>>=_) _ _ s
  refine Xf (Bo ho hd (x:=.ref t) rfl ?_)
  show XR _ _ (if(QJ t==Q4)=true then _ else _) _ _ s
  rw[if_neg (show¬((QJ t==Q4)=true)from XC)]
  show XR _ _ (field (.ref it) 1>>=_) _ _ s
  refine Xf (Bo ho hd (x:=.int i 0) rfl ?_)
  show XR _ _ (seqItems? (.ref t)>>=_) _ _ s
  refine Xf (Va hol hdl ?_)
  simp only[QV,hx]
  refine Xf (wpAny_rule (Xf (wpAny_setField ho hd (by simp) ?_)))
  show XR _ _ (newExc (.type "StopIteration") []>>=_) _ _ _
  refine Xf ?_
  simp only[newExc,newTuple]
  refine Xf (wpAny_newObj_type ?_ (by size_fits))
  refine Xf (m:=firstArgMember _ _) (wpAny_of_eq (a:=Q4) (by first|rfl|(simp only[firstArgMember];rfl)) ?_)
  refine wpAny_newObj_type ?_ (by size_fits)
  simp only[raiseNew]
  refine Xf (wpAny_handled ?_)
  first|rw[show A.in1.handled=none from hh]|rw[hh]
  exact Xf (X8 (wpAny_throw (hE _ _ (((Heap.SameBut.update ..).extBut.push _).push _) ⟨_,Qd _ rfl,rfl⟩)))
 keep:=λh h' k ⟨⟨o,a1,a2⟩,⟨o',b1,b2⟩⟩=>⟨⟨o,k it (by simp) o a1,a2⟩,⟨o',k t (by simp) o' b1,b2⟩⟩
end
noncomputable abbrev zT1(h:Heap)(a:Addr):Heap:=h.push { cls:=.type "tuple_iterator",data:=.fields #[.ref a,.int 0 0] }
noncomputable abbrev zT2(h:Heap)(a b:Addr):Heap:=(zT1 h a).push { cls:=.type "tuple_iterator",data:=.fields #[.ref b,.int 0 0] }
noncomputable abbrev zT3(h:Heap)(a b:Addr):Heap:=(zT2 h a b).push { cls:=.type "tuple",data:=.seq #[.ref h.objs.size,.ref (zT1 h a).objs.size] }
noncomputable abbrev zT4(h:Heap)(a b:Addr):Heap:=(zT3 h a b).push { cls:=.type "tuple",data:=.seq #[.none,.none] }
noncomputable abbrev zT5(h:Heap)(a b:Addr):Heap:=(zT4 h a b).push { cls:=.type "zip",data:=.fields #[.none,.bool false,.bool false,.ref (zT2 h a b).objs.size,.ref (zT3 h a b).objs.size] }
theorem Zva(a b:Addr)(xs ys:Array Xc) :
  Meets (Builtin.«zip.__new__» ⟨[.type "zip",.ref a,.ref b],[]⟩) (λ_ R s=>IsTup s.heap a xs∧IsTup s.heap b ys∧R (.ok (.ret (.ref (zT4 s.heap a b).objs.size))) { s with heap:=zT5 s.heap a b }) :=
 .of_wp λprog w A R s h=>by
  obtain⟨hp,g,d,tk,os⟩:=s
  obtain⟨h1,h2,h⟩:=h
  have hsub:=sub_zip
  have hL1:IsTup (Xd.heap ⟨hp,g,d,tk,os⟩) a xs:=h1
  have hL2:IsTup (Xd.heap ⟨hp.push { cls:=.type "tuple_iterator",data:=.fields #[.ref a,.int 0 0] },g,d,tk,os⟩) b ys:=h2.push _
  wp_walk using iter_tuple hL1,iter_tuple hL2
  exact⟨_,rfl,h⟩
section
variable {P:X4}{w:Qs}{A:Qm}{E:Xc->Xd->Prop}{s:Xd}
theorem Zrt{a b:Addr}{xs ys:Array Xc}{Q:Xc->Xd->Prop}(h1:IsTup s.heap a xs)(h2:IsTup s.heap b ys)
  (h:∀h' n,n=s.heap.objs.size->U6 h' (n+4) (n+2) (n+3) .none->Bm h' (n+2) (.ref n) (.ref (n+1))->Bm h' (n+3) .none .none->IsTupIter h' n a 0->IsTupIter h' (n+1) b 0 ->
   (∀ c o,s.heap.get? c=some o->h'.get? c=some o)->Q (.ref (n+4)) { s with heap:=h' }):XR (X7 P w) A (call (.type "zip") [.ref a,.ref b]) Q E s:=by
 refine callType_new F.called_zip (by decide) (F.typeCall_zip_2 _ _) (F.newCall_zip_2 _ _) (λobj=>F.args_object_init_3 obj _ _) F.entry_zip_new (Zva a b xs ys) ⟨h1,h2,?_⟩
 have e1:(zT1 s.heap a).objs.size=s.heap.objs.size+1:=QX ..
 have e2:(zT2 s.heap a b).objs.size=s.heap.objs.size+2:=by rw[QX,e1]
 have e3:(zT3 s.heap a b).objs.size=s.heap.objs.size+3:=by rw[QX,e2]
 have e4:(zT4 s.heap a b).objs.size=s.heap.objs.size+4:=by rw[QX,e3]
 have up:∀{c o},(zT1 s.heap a).get? c=some o->(zT5 s.heap a b).get? c=some o:=λx=>Xm _ (Xm _ (Xm _ (Xm _ x)))
 have p5:(zT5 s.heap a b).get? (zT4 s.heap a b).objs.size=some _:=Qd _ rfl
 have p4:(zT5 s.heap a b).get? (zT3 s.heap a b).objs.size=some _:=Xm _ (Qd _ rfl)
 have p3:(zT5 s.heap a b).get? (zT2 s.heap a b).objs.size=some _:=Xm _ (Xm _ (Qd _ rfl))
 have p2:(zT5 s.heap a b).get? (zT1 s.heap a).objs.size=some _:=Xm _ (Xm _ (Xm _ (Qd _ rfl)))
 have p1:(zT5 s.heap a b).get? s.heap.objs.size=some _:=up (Qd _ rfl)
 show _∧_
 rw[e2,e3,e4]at p5
 rw[e1,e2]at p3
 rw[e3]at p4
 rw[e1]at p2
 rw[e4]
 exact⟨⟨_,p5,rfl⟩,h _ _ rfl p5 p3 p4 ⟨_,p1,rfl,rfl⟩ ⟨_,p2,rfl,rfl⟩ λc o x=>up (Xm _ x)⟩
end
theorem nn{n a b:Nat}(h:a≠b):n+a≠n+b:=λe=>h (Nat.add_left_cancel e)
theorem n0{n b:Nat}(h:0≠b):n≠n+b:=λe=>h (Nat.add_left_cancel (n:=n) e)
theorem nlt{n a c:Nat}(h:a<n):a≠n+c:=Xu (X6 h (Bk ..))
theorem ZA.new{n a b:Nat}(h1:a<n)(h2:b<n):ZA (n+4) (n+2) (n+3) n (n+1) [n,a] [n+1,b] where
 TIz:=(by first|exact nn (by decide)|exact n0 (by decide)|exact(n0 (by decide)).symm|exact nlt h1|exact nlt h2|exact(nlt h1).symm|exact(nlt h2).symm|exact Xu h1|exact Xu h2|exact XJ h1|exact XJ h2|omega)
 TOz:=(by first|exact nn (by decide)|exact n0 (by decide)|exact(n0 (by decide)).symm|exact nlt h1|exact nlt h2|exact(nlt h1).symm|exact(nlt h2).symm|exact Xu h1|exact Xu h2|exact XJ h1|exact XJ h2|omega)
 a1:=λc hc=>by
  simp only[Xo,VM,or_false]at hc
  rcases hc with rfl|rfl
  ·exact⟨(by first|exact nn (by decide)|exact n0 (by decide)|exact(n0 (by decide)).symm|exact nlt h1|exact nlt h2|exact(nlt h1).symm|exact(nlt h2).symm|exact Xu h1|exact Xu h2|exact XJ h1|exact XJ h2|omega),(by first|exact nn (by decide)|exact n0 (by decide)|exact(n0 (by decide)).symm|exact nlt h1|exact nlt h2|exact(nlt h1).symm|exact(nlt h2).symm|exact Xu h1|exact Xu h2|exact XJ h1|exact XJ h2|omega),(by first|exact nn (by decide)|exact n0 (by decide)|exact(n0 (by decide)).symm|exact nlt h1|exact nlt h2|exact(nlt h1).symm|exact(nlt h2).symm|exact Xu h1|exact Xu h2|exact XJ h1|exact XJ h2|omega)⟩
  ·exact⟨(by first|exact nn (by decide)|exact n0 (by decide)|exact(n0 (by decide)).symm|exact nlt h1|exact nlt h2|exact(nlt h1).symm|exact(nlt h2).symm|exact Xu h1|exact Xu h2|exact XJ h1|exact XJ h2|omega),(by first|exact nn (by decide)|exact n0 (by decide)|exact(n0 (by decide)).symm|exact nlt h1|exact nlt h2|exact(nlt h1).symm|exact(nlt h2).symm|exact Xu h1|exact Xu h2|exact XJ h1|exact XJ h2|omega),(by first|exact nn (by decide)|exact n0 (by decide)|exact(n0 (by decide)).symm|exact nlt h1|exact nlt h2|exact(nlt h1).symm|exact(nlt h2).symm|exact Xu h1|exact Xu h2|exact XJ h1|exact XJ h2|omega)⟩
 a2:=λc hc=>by
  simp only[Xo,VM,or_false]at hc
  rcases hc with rfl|rfl
  ·exact⟨(by first|exact nn (by decide)|exact n0 (by decide)|exact(n0 (by decide)).symm|exact nlt h1|exact nlt h2|exact(nlt h1).symm|exact(nlt h2).symm|exact Xu h1|exact Xu h2|exact XJ h1|exact XJ h2|omega),(by first|exact nn (by decide)|exact n0 (by decide)|exact(n0 (by decide)).symm|exact nlt h1|exact nlt h2|exact(nlt h1).symm|exact(nlt h2).symm|exact Xu h1|exact Xu h2|exact XJ h1|exact XJ h2|omega),(by first|exact nn (by decide)|exact n0 (by decide)|exact(n0 (by decide)).symm|exact nlt h1|exact nlt h2|exact(nlt h1).symm|exact(nlt h2).symm|exact Xu h1|exact Xu h2|exact XJ h1|exact XJ h2|omega)⟩
  ·exact⟨(by first|exact nn (by decide)|exact n0 (by decide)|exact(n0 (by decide)).symm|exact nlt h1|exact nlt h2|exact(nlt h1).symm|exact(nlt h2).symm|exact Xu h1|exact Xu h2|exact XJ h1|exact XJ h2|omega),(by first|exact nn (by decide)|exact n0 (by decide)|exact(n0 (by decide)).symm|exact nlt h1|exact nlt h2|exact(nlt h1).symm|exact(nlt h2).symm|exact Xu h1|exact Xu h2|exact XJ h1|exact XJ h2|omega),(by first|exact nn (by decide)|exact n0 (by decide)|exact(n0 (by decide)).symm|exact nlt h1|exact nlt h2|exact(nlt h1).symm|exact(nlt h2).symm|exact Xu h1|exact Xu h2|exact XJ h1|exact XJ h2|omega)⟩
theorem ZA.new2(n:Nat):(n+2:Nat)≠n+3∧(n+2:Nat)≠n∧(n+2:Nat)≠n+1:=⟨nn (by decide),(n0 (by decide)).symm,nn (by decide)⟩
section
variable {X:Cx}{io:List Nat}{p c:Bool}{a b:Expr}{mr:MAt}
noncomputable def Z5j(ds:List Xa):Option (List Xa):=match ds with|[.list as,.list bs]=>some (Zm1 as bs)|[.tuple as,.tuple bs]=>some (Zm1 as bs)|_=>none
noncomputable def Zer(a:FA):FI:=λδ=>(a δ).bind λp=>(Z5j (OT.datas p.1)).bind λds=>some (ds,p.2)
end
variable {G:Xb}
section
variable {X:Cx}{io:List Nat}{p c:Bool}{a b e:Expr}{mr:MAt}{ra:FA}{i:Nat}
noncomputable def isFn(y:Str)(d:Xa):Bool:=match d with| .dict [(.str x,.bool true)]=>decide (x=y)|_=>false
theorem Z0h{y:Str}{d:Xa}(h:isFn y d=true):d=fnD y:=by
 unfold isFn at h
 split at h
 ·rw[of_decide_eq_true h];rfl
 ·cases h
theorem Zzb(y:Str):isFn y (fnD y)=true:=decide_eq_true rfl
noncomputable def Zg7(i:Nat)(y:Str)(F:FD)(a:FA):FE:=λδ=>match δ[i]? with
 | some (some (.fz d))=>if isFn y d=true then Zw F a δ else none
 | _=>none
theorem Zoo{y:Str}{F:FD}(h:ME X io p c e (Zwg i y (sD F) (o2 ra))):ME X io p c e (o2 (Zg7 i y F ra)):=h.weak λδ K h=>by
 obtain⟨r,δ',h,k⟩:=h
 unfold Zg7 at h
 split at h
 ·rename_i d hd
  by_cases hf:isFn y d=true
  ·rw[if_pos hf]at h
   refine⟨by rw[hd,Z0h hf],?_⟩
   obtain⟨⟨x,δ1⟩,h1,h⟩:=bs h
   refine⟨x,δ1,h1,?_⟩
   dsimp only at h
   split at h
   ·rename_i q;cases h;exact⟨_,q,k⟩
   ·cases h
  ·rw[if_neg hf]at h;cases h
 ·cases h
end
noncomputable def Z86:List Int->Int
 | []=>0
 | x :: xs=>xs.foldl min x
theorem Zsk(xs:List Int)(x:Int):xs.foldl min x∈x :: xs∧∀a∈x :: xs,xs.foldl min x≤a:=by
 induction xs generalizing x with
 | nil=>exact⟨.head _,λa h=>by rw[Xy.mp h];exact VD _⟩
 | cons y ys ih=>
  obtain⟨h1,h2⟩:=ih (min x y)
  rw[List.foldl_cons]
  refine⟨?_,λa h=>?_⟩
  ·rcases Xo.mp h1 with h|h
   ·rw[h]
    rcases Int.le_total x y with z|z
    ·rw[Int.min_eq_left z];exact .head _
    ·rw[Int.min_eq_right z];exact .tail _ (.head _)
   ·exact .tail _ (.tail _ h)
  ·have h0:=h2 _ (.head _)
   rcases Xo.mp h with rfl|h
   ·exact Qx h0 (Int.min_le_left ..)
   ·rcases Xo.mp h with rfl|h
    ·exact Qx h0 (Int.min_le_right ..)
    ·exact h2 a (.tail _ h)
theorem Zth{ns:List Int}(h:0<ns.length):Z86 ns∈ns∧∀a∈ns,Z86 ns≤a:=by
 cases ns with
 | nil=>cases h
 | cons x xs=>exact Zsk xs x
noncomputable def Ybw(K:Xb)(l:Addr):It :=
 ⟨λi H=>∃xs x,SqL K H l xs∧xs[i]? =some x,
   λi H v H'=>∃p x,H p=none∧v= .ref p∧H'=upd H p (.tup [.int i,x])∧∀xs,SqL K H l xs->xs[i]? =some x,
   λi H=>∃xs,SqL K H l xs∧xs.length≤i⟩
noncomputable def StE(z it l:Addr)(i:Nat)(h:Heap):Prop:=(∃old,IsEnum h z it (i:Int) old)∧h.IsListIter it l i
theorem Zqw{P:X4}{w:Qs}{K:Xb}{es:List Expr}{kk:Nat}{pos:Pos}{z it l:Addr}(hne:z≠it):Turn P w K (.Tuple es kk pos) (Ybw K l) [z,it] z (StE z it l) where
 mem:=.head _
 obj:=λi h st b hb=>by
  obtain⟨⟨old,s1⟩,o4,e4,_,d4⟩:=st
  rcases Xo.mp hb with rfl|hb
  ·exact⟨_,s1,λv q=>by cases q⟩
  ·rcases Xy.mp hb with rfl
   exact⟨_,e4,λv q=>by rw[d4]at q;cases q⟩
 keep:=λi h h' st k=>by
  obtain⟨⟨old,s1⟩,s4⟩:=st
  exact⟨⟨old,k z (.head _) _ s1⟩,s4.at λo e=>k it (.tail _ (.head _)) o e⟩
 item:=by
  intro X hP hw hK hc i pins s σ H E I hf st hg
  subst hP hw hK
  obtain⟨⟨old,s1⟩,s4⟩:=st
  obtain⟨xs,x,hx,ex⟩:=hg
  obtain⟨its,rx,px,hzx⟩:=I.list hx
  obtain⟨u,hu,ru⟩:=rx.get ex
  refine wpAny_pyNext_enum_item s1 s4 px.isList (by simpa using hu) hne λh' g1 g2 g3 g4 g5=>?_
  refine⟨_,rfl,wpAny_letOwnedTupleGo_enum (s:={ s with heap:=h',toks:=s.toks+1 }) g1 λh2 z2 sb=>?_⟩
  have hTz:s.heap.objs.size≠z:=XJ (Xz s1)
  have up:∀c o,c≠z->h'.get? c=some o->h2.get? c=some o:=λc o n e=>(sb.2 c n).trans e
  have kp:∀b o,b∉[z,it]->s.heap.get? b=some o->h2.get? b=some o:=λb o n e=>by
   have n1:b≠z:=λq=>n (q▸ .head _)
   exact up b o n1 (g5 b o n1 (λq=>n (q▸ .tail _ (.head _))) e)
  have t5:=up _ _ hTz g3
  have g2':h2.IsListIter it l (i+1):=g2.at λo e=>up _ o (Bb hne) e
  have I2:Inv X pins σ (upd H s.heap.objs.size (.tup [.int i,x])) { s with heap:=h2,toks:=s.toks+1 }:=by
   refine(I.tok (s.toks+1)).turnTup (ch:=[z,it]) (its:=[.int i s.toks,u]) (λb hb=>hf b hb) kp (λb hb=>?_) (XQ _) Zwf (.cons ⟨_,rfl⟩ (.cons ru .nil)) ⟨_,t5,rfl,0,rfl⟩
   rcases Xo.mp hb with rfl|hb
   ·exact⟨_,z2⟩
   ·rcases Xy.mp hb with rfl
    obtain⟨o4,e4,_⟩:=g2'
    exact⟨_,e4⟩
  refine⟨.ref s.heap.objs.size,_,I2,rfl,⟨_,x,I.fresh,rfl,rfl,λys hy=>by rw[I.list_inj hy hx];exact ex⟩,⟨⟨_,z2⟩,g2'⟩,λb hb=>?_⟩
  have:b≠s.heap.objs.size:=by
   rcases Xo.mp hb with rfl|hb
   ·exact Xu (Xz s1)
   ·rcases Xy.mp hb with rfl
    obtain⟨o4,e4,_⟩:=s4
    exact Xu (Xz e4)
  rw[Zr this];exact(hf b hb).1
 done:=by
  intro X hP hw hK hc i pins s σ H E I hf st hg
  subst hP hw hK
  obtain⟨⟨old,s1⟩,s4⟩:=st
  obtain⟨xs,hx,he⟩:=hg
  obtain⟨its,rx,px,hzx⟩:=I.list hx
  have l1:=rx.length
  refine wpAny_pyNext_enum_end (I.ok.hd hc) s1 s4 px.isList (by simp;omega) λh' k=>⟨rfl,I.turnAll (ch:=[it]) (λb hb=>hf b (.tail _ hb)) λb o n e=>k b o (λq=>n (q▸ .head _)) e⟩
 self:=λ_ _ _ _ _ st h=>by
  obtain⟨⟨old,s1⟩,_⟩:=st
  exact wpAny_pyIter_enum s1 h
noncomputable def Yex(K:Xb)(ta:TA):TI:=λσ H R=>ta σ H λvs H1=>∃l,vs=[.ref l]∧(∃xs,SqL K H1 l xs)∧R (Ybw K l) H1
theorem Z1r{X:Cx}{K:Xb}{a:Expr}{ta:TA}{p pos pt:Pos}{es:List Expr}{kk:Nat}(hK:X.K=K)(hg:Gl X "enumerate")(hm:X.mg "enumerate"=none)(hv:Qa "enumerate"=some (.type "enumerate"))(ha:PA X [a] ta)
  (he:Xp [a] X.env=(false,eval a X.env) :: Xp [] X.env:=by rfl) (hpl:(JG pos (Xp [] X.env)).any (·.1)=false:=by rfl) :
  PI X (.Tuple es kk pt) (.Call (.Name "enumerate" p) [a] [] pos) (Yex K ta):=by
 subst hK
 intro pins s σ H R I h
 refine Vi (Zgz I hg hm hv ?_ (by decide) (by decide))
 refine JW (thn (ha pos pins s σ H _ I h) λus s1 q=>?_) he hpl
 obtain⟨vs,H1,I1,r1,l,e1,⟨xs,hx⟩,q⟩:=q
 subst e1
 obtain⟨u,rfl,ru⟩:=vals1 r1
 cases(show u=QJ l from ru)
 obtain⟨its,rx,px,hzx⟩:=I1.list hx
 refine call_enumerate_list px.isList λh' g1 g2 g3 g4=>?_
 have I2:Inv X pins σ H1 { s1 with heap:=h' }:=I1.kept (t':=s1.toks) g4
 refine wpAny_pyIter_enum (s:={ s1 with heap:=h' }) g1 ?_
 refine⟨_,[_,_],StE _ _ _,_,H1,rfl,I2,Zqw (XJ (JV _)),⟨⟨_,g1⟩,g2⟩,λb hb=>?_,q⟩
 have hb':s1.heap.objs.size≤b:=by
  rcases Xo.mp hb with rfl|hb
  ·exact Nat.le_succ _
  ·rcases Xy.mp hb with rfl
   exact XQ _
 exact I1.fpOk hb' (I1.hok.fresh hb')
noncomputable def Zjt(as:List Xa):List Xa:=as.zipIdx.map λp=>.tuple [.int p.2,p.1]
theorem Zld{as:List Xa}{i:Nat}{d:Xa}(h:(Zjt as)[i]? =some d):∃x,as[i]? =some x∧d= .tuple [.int i,x]:=by
 unfold Zjt at h
 rw[Xk,List.getElem?_zipIdx]at h
 cases e:as[i]? with
 | none=>rw[e]at h;cases h
 | some x=>
  rw[e]at h
  cases h
  exact⟨x,rfl,by rw[Vr]⟩
theorem Zp0{as:List Xa}{i:Nat}(h:(Zjt as)[i]? =none):as.length≤i:=by
 have:=QR.mp h
 unfold Zjt at this
 simpa using this
section
variable {X:Cx}{io:List Nat}{p c:Bool}{a:Expr}{mr:MAt}{ra:FA}
noncomputable def iEn(mr:MAt):MIt:=λδ K=>mr δ λrs δ'=>match OT.datas rs with|[.list as]=>K (Zjt as) δ'|_=>False
theorem Zy7{p' pos pt:Pos}{es:List Expr}{kk:Nat}(hg:Gl X "enumerate")(hm:X.mg "enumerate"=none)(hv:Qa "enumerate"=some (.type "enumerate"))(ha:MA X io p c [a] mr)
  (he:Xp [a] X.env=(false,eval a X.env) :: Xp [] X.env:=by rfl) (hpl:(JG pos (Xp [] X.env)).any (·.1)=false:=by rfl):MI X io p c (.Tuple es kk pt) (.Call (.Name "enumerate" p') [a] [] pos) (iEn mr):=by
 obtain⟨_,A,s⟩:=ha
 refine⟨_,Z1r rfl hg hm hv A he hpl,λC H σ δ fp ex K' Q R h kk=>s C H σ δ fp ex _ _ R h λH1 vs rs δ1 fp1 new r1 h1=>?_⟩
 have q:=r1.das R
 generalize OT.datas rs=ds at q h1
 split at h1
 case h_2=>exact h1.elim
 rename_i as
 cases q with
 | cons q1 q2=>
  cases q2
  have R1:=r1.base
  obtain⟨l1,xs,rfl,k1⟩:=R1.keptList q1
  have e1:=k1 H1 λ_ _ e _=>e
  refine⟨l1,rfl,⟨_,e1.1⟩,kk _ H1 _ δ1 fp1 R1 r1.stp (λH' kp i=>?_) h1⟩
  obtain⟨s1,d1⟩:=k1 H' kp
  refine⟨λd hd=>?_,λhd=>?_⟩
  ·obtain⟨x,hx,rfl⟩:=Zld hd
   obtain⟨u,hu,qu⟩:=d1.get hx
   refine⟨⟨_,u,s1,hu⟩,λv H'' hyl=>?_⟩
   obtain⟨t,u',ht,rfl,rfl,hu'⟩:=hyl
   have eu:=hu' _ s1
   rw[hu]at eu
   cases eu
   exact⟨Yv ht _,.tup Zx (.cons (.int _) (.cons (qu.same (Yv ht _)) .nil))⟩
  ·exact⟨_,s1,by rw[d1.length];exact Zp0 hd⟩
noncomputable def Zt2(a:FA):FI:=λδ=>(a δ).bind λp=>match OT.datas p.1 with|[.list as]=>some (Zjt as,p.2)|_=>none
theorem Zyc{tg e:Expr}(h:MI X io p c tg e (iEn (o2 ra))):MI X io p c tg e (o2 (Zt2 ra)):=h.weak λδ K h=>by
 obtain⟨r,δ',h,k⟩:=h
 obtain⟨⟨x,δ1⟩,h1,h⟩:=bs h
 dsimp only at h
 split at h
 ·rename_i q
  injection h with h
  injection h with e1 e2
  subst e1 e2
  refine⟨x,_,h1,?_⟩
  dsimp only
  rw[q];exact k
 ·cases h
end
variable {G:Xb}
theorem Z7d{α:Type}{p:α->Prop}{a b c d:α}(h1:p a)(h2:p b)(h3:p c)(h4:p d):∀x∈[a,b,c,d],p x:=by
 intro x hx
 rcases Xo.mp hx with rfl|hx
 ·exact h1
 rcases Xo.mp hx with rfl|hx
 ·exact h2
 rcases Xo.mp hx with rfl|hx
 ·exact h3
 rcases Xy.mp hx with rfl
 exact h4
theorem Z9j{α:Type}{p:α->Prop}{a b c d e:α}(h1:p a)(h2:p b)(h3:p c)(h4:p d)(h5:p e):∀x∈[a,b,c,d,e],p x:=λx hx=>(Xo.mp hx).elim (λq=>q▸h1) (Z7d h2 h3 h4 h5 x)
theorem no4{α:Type}{a b c d x:α}(h1:x≠a)(h2:x≠b)(h3:x≠c)(h4:x≠d):x∉[a,b,c,d]:=λhx=>Z7d (p:=λy=>x≠y) h1 h2 h3 h4 x hx rfl
noncomputable def SqB(K:Xb)(t:Bool)(H:Hp)(a:Addr)(xs:List V):Prop:=match t with|true=>H a=some (.tup xs)|false=>SqL K H a xs
noncomputable def IsB(t:Bool)(h:Heap)(a:Addr)(its:Array Xc):Prop:=match t with|true=>IsTup h a its|false=>h.IsList a its
noncomputable def ItB(t:Bool)(h:Heap)(it a:Addr)(i:Nat):Prop:=match t with|true=>IsTupIter h it a i|false=>h.IsListIter it a i
theorem ItB.at{t:Bool}{h h':Heap}{it a:Addr}{i:Nat}(x:ItB t h it a i)(k:∀o,h.get? it=some o->h'.get? it=some o):ItB t h' it a i:=by
 cases t with
 | false=>exact Heap.IsListIter.at x k
 | true=>
  obtain⟨o,ho,r⟩:=x
  exact⟨o,k o ho,r⟩
theorem ItB.obj{t:Bool}{h:Heap}{it a:Addr}{i:Nat}(x:ItB t h it a i):∃o,h.get? it=some o∧∀v,o.data≠ .cell v:=by
 cases t with
 | false=>
  obtain⟨o,ho,_,d⟩:=x
  exact⟨o,ho,λv q=>by rw[d]at q;cases q⟩
 | true=>
  obtain⟨o,ho,_,d⟩:=x
  exact⟨o,ho,λv q=>by rw[d]at q;cases q⟩
theorem IsB.lt{t:Bool}{h:Heap}{a:Addr}{its:Array Xc}(x:IsB t h a its):a<h.objs.size:=by
 cases t with
 | false=>
  obtain⟨o,ho,_⟩:=x
  exact Xz ho
 | true=>
  obtain⟨o,ho,_⟩:=x
  exact Xz ho
theorem SqB.its{X:Cx}{pins:List (Addr×Obj)}{σ:St}{H:Hp}{s:Xd}{t:Bool}{a:Addr}{xs:List V}(I:Inv X pins σ H s)(h:SqB X.K t H a xs):∃its:List Xc,Vals xs its∧IsB t s.heap a its.toArray:=by
 cases t with
 | false=>
  obtain⟨its,r,p,_⟩:=I.list h
  exact⟨its,r,p.isList⟩
 | true=>
  obtain⟨_,its,r,p⟩:=(show ObjOk X.prog X.w H s.heap a (.tup xs)from I.hok a _ h)
  exact⟨its,r,p⟩
theorem SqB.inj{X:Cx}{pins:List (Addr×Obj)}{σ:St}{H:Hp}{s:Xd}{t:Bool}{a:Addr}{xs ys:List V}(I:Inv X pins σ H s)(h:SqB X.K t H a xs)(k:SqB X.K t H a ys):xs=ys:=by
 cases t with
 | false=>exact I.list_inj h k
 | true=>
  have:=(show H a=some (.tup xs)from h).symm.trans k
  cases this
  rfl
section
variable {P:X4}{w:Qs}
theorem Zs9{t:Bool}{it a:Addr}{i:Nat}{items:Array Xc}{x:Xc}(hx:items[i]? =some x):Gives P w it [it,a] (λh=>ItB t h it a i∧IsB t h a items) x (λh=>ItB t h it a (i+1)):=by
 cases t with
 | true=>exact Zs7 hx
 | false=>
  exact⟨.head _,λst hQ=>wpAny_nextOf_list_item st.1 st.2 hx hQ,λh h' k st=>⟨Heap.IsListIter.at st.1 λo e=>k it (.head _) o e,by
   obtain⟨o,ho,r⟩:=st.2
   exact⟨o,k a (.tail _ (.head _)) o ho,r⟩⟩,λh h' k st=>Heap.IsListIter.at st λo e=>k it (.head _) o e⟩
theorem Z5p{t:Bool}{it a:Addr}{i:Nat}{items:Array Xc}(hx:items[i]? =none):Zis P w it [it,a] (λh=>ItB t h it a i∧IsB t h a items):=by
 cases t with
 | true=>exact Zvy hx
 | false=>
  exact⟨.head _,λhh st hE=>wpAny_nextOf_list_end hh st.1 st.2 hx hE,λh h' k st=>⟨Heap.IsListIter.at st.1 λo e=>k it (.head _) o e,by
   obtain⟨o,ho,r⟩:=st.2
   exact⟨o,k a (.tail _ (.head _)) o ho,r⟩⟩⟩
end
noncomputable def Yeb(K:Xb)(t:Bool)(a b:Addr):It :=
 ⟨λi H=>∃xs ys x y,SqB K t H a xs∧SqB K t H b ys∧xs[i]? =some x∧ys[i]? =some y,
   λi H v H'=>∃p x y,H p=none∧v= .ref p∧H'=upd H p (.tup [x,y])∧(∀xs,SqB K t H a xs->xs[i]? =some x)∧∀ys,SqB K t H b ys->ys[i]? =some y,
   λi H=>∃xs ys,SqB K t H a xs∧SqB K t H b ys∧(xs.length≤i∨ys.length≤i)⟩
noncomputable def Yee(t:Bool)(z TI TO i1 i2 a b:Addr)(i:Nat)(h:Heap):Prop:=U6 h z TI TO .none∧Bm h TI (.ref i1) (.ref i2)∧(∃x y,Bm h TO x y)∧ItB t h i1 a i∧ItB t h i2 b i
theorem Zrs{P:X4}{w:Qs}{K:Xb}{es:List Expr}{kk:Nat}{pos:Pos}{t:Bool}{z TI TO i1 i2 a b:Addr}(D:ZA z TI TO i1 i2 [i1,a] [i2,b])(D2:TI≠TO∧TI≠i1∧TI≠i2):Turn P w K (.Tuple es kk pos) (Yeb K t a b) [z,TI,TO,i1,i2] z (Yee t z TI TO i1 i2 a b) where
 mem:=.head _
 obj:=λi h st=>by
  obtain⟨s1,s2,⟨x,y,s3⟩,s4,s5⟩:=st
  exact Z9j ⟨_,s1,λv q=>by cases q⟩ ⟨_,s2,λv q=>by cases q⟩ ⟨_,s3,λv q=>by cases q⟩ s4.obj s5.obj
 keep:=λi h h' st k=>by
  obtain⟨s1,s2,⟨x,y,s3⟩,s4,s5⟩:=st
  have m2:TI∈[z,TI,TO,i1,i2]:=.tail _ (.head _)
  have m3:TO∈[z,TI,TO,i1,i2]:=.tail _ (.tail _ (.head _))
  have m4:i1∈[z,TI,TO,i1,i2]:=.tail _ (.tail _ (.tail _ (.head _)))
  have m5:i2∈[z,TI,TO,i1,i2]:=.tail _ (.tail _ (.tail _ (.tail _ (.head _))))
  exact⟨k z (.head _) _ s1,k TI m2 _ s2,⟨x,y,k TO m3 _ s3⟩,s4.at (k i1 m4),s5.at (k i2 m5)⟩
 item:=by
  intro X hP hw hK hc i pins s σ H E I hf st hg
  subst hP hw hK
  obtain⟨s1,s2,⟨x0,y0,s3⟩,s4,s5⟩:=st
  obtain⟨xs,ys,x,y,hx,hy,ex,ey⟩:=hg
  obtain⟨its,rx,px⟩:=hx.its I
  obtain⟨its',ry,py⟩:=hy.its I
  obtain⟨u,hu,ru⟩:=rx.get ex
  obtain⟨u',hu',ru'⟩:=ry.get ey
  rw[←List.getElem?_toArray]at hu hu'
  refine Zpq D (Zs9 hu) (Zs9 hu') s1 s2 s3 ⟨s4,px⟩ ⟨s5,py⟩ λh' g1 g2 g3 g4 g5 g6=>?_
  refine⟨_,rfl,wpAny_letOwnedTupleGo_zip (s:={ s with heap:=h' }) g1 λh2 z2 sb=>?_⟩
  have up:∀c o,c≠z->h'.get? c=some o->h2.get? c=some o:=λc o n e=>(sb.2 c n).trans e
  have kp:∀c o,c∉[z,TO,i1,i2]->s.heap.get? c=some o->h2.get? c=some o:=λc o n e=>up c o (λq=>n (q▸ .head _)) (g6 c o n e)
  have t5:Bm h2 s.heap.objs.size u u':=up _ _ (XJ (Xz s1)) g5
  have i1z:=(D.a1 i1 (.head _)).1
  have i2z:=(D.a2 i2 (.head _)).1
  have n3:=g3.at (up i1 · i1z)
  have n4:=g4.at (up i2 · i2z)
  obtain⟨f1,f2,f3,f4,f5⟩:(Zjb X pins H z∧Zjb X pins H TI∧Zjb X pins H TO∧Zjb X pins H i1∧Zjb X pins H i2):=⟨hf _ (.head _),hf _ (.tail _ (.head _)),hf _ (.tail _ (.tail _ (.head _))),hf _ (.tail _ (.tail _ (.tail _ (.head _)))),hf _ (.tail _ (.tail _ (.tail _ (.tail _ (.head _)))))⟩
  have I2:Inv X pins σ (upd H s.heap.objs.size (.tup [x,y])) { s with heap:=h2 } :=
   I.turnTup (ch:=[z,TO,i1,i2]) (its:=[u,u']) (Z7d f1 f3 f4 f5) kp (Z7d ⟨_,z2⟩ ⟨_,up _ _ D.TOz g2⟩ (n3.obj.imp λ_ q=>q.1) (n4.obj.imp λ_ q=>q.1)) (XQ _) Zwf (.cons ru (.cons ru' .nil)) ⟨_,t5,rfl,0,rfl⟩
  have lt:∀{c:Addr} {o:Obj},s.heap.get? c=some o->Zjb X pins H c->upd H s.heap.objs.size (.tup [x,y]) c=none:=λe f=>by rw[Zr (Xu (Xz e))];exact f.1
  refine⟨.ref s.heap.objs.size,_,I2,rfl,⟨_,x,y,I.fresh,rfl,rfl,λzs hz=>by rw[hz.inj I hx];exact ex,λzs hz=>by rw[hz.inj I hy];exact ey⟩,⟨z2,kp TI _ (no4 D.TIz D2.1 D2.2.1 D2.2.2) s2,⟨_,_,up _ _ D.TOz g2⟩,n3,n4⟩,?_⟩
  obtain⟨o4,e4,_⟩:=s4.obj
  obtain⟨o5,e5,_⟩:=s5.obj
  exact Z9j (lt s1 f1) (lt s2 f2) (lt s3 f3) (lt e4 f4) (lt e5 f5)
 done:=by
  intro X hP hw hK hc i pins s σ H E I hf st hg
  subst hP hw hK
  obtain⟨s1,s2,⟨x0,y0,s3⟩,s4,s5⟩:=st
  obtain⟨xs,ys,hx,hy,he⟩:=hg
  obtain⟨its,rx,px⟩:=hx.its I
  obtain⟨its',ry,py⟩:=hy.its I
  have l1:=rx.length
  have l2:=ry.length
  refine Zq1 (I.ok.hd hc) D (S1:=λh=>ItB t h i1 a i∧IsB t h a its.toArray) (T1:=λh=>ItB t h i1 a (i+1)) (S2:=λh=>ItB t h i2 b i∧IsB t h b its'.toArray) ?_ s1 s2 s3 ⟨s4,px⟩ ⟨s5,py⟩ λh' k=>⟨rfl,I.turnAll (ch:=[z,TO,i1,i2]) (Z7d (hf _ (.head _)) (hf _ (.tail _ (.tail _ (.head _)))) (hf _ (.tail _ (.tail _ (.tail _ (.head _))))) (hf _ (.tail _ (.tail _ (.tail _ (.tail _ (.head _))))))) k⟩
  cases q:its.toArray[i]? with
  | none=>exact .inl (Z5p q)
  | some v=>
   refine .inr ⟨⟨v,Zs9 q⟩,Z5p ?_⟩
   have:=(Array.getElem?_eq_some_iff.mp q).1
   rw[XM]at this
   rw[Array.getElem?_eq_none_iff,XM]
   omega
 self:=λ_ _ _ _ _ st h=>wpAny_pyIter_zip st.1 h
theorem Zqr{P:X4}{w:Qs}{A:Qm}{E:Xc->Xd->Prop}{s:Xd}{t:Bool}{a b:Addr}{xs ys:Array Xc}{Q:Xc->Xd->Prop}(h1:IsB t s.heap a xs)(h2:IsB t s.heap b ys)
  (h:∀h' n,n=s.heap.objs.size->U6 h' (n+4) (n+2) (n+3) .none->Bm h' (n+2) (.ref n) (.ref (n+1))->Bm h' (n+3) .none .none->ItB t h' n a 0->ItB t h' (n+1) b 0 ->
   (∀ c o,s.heap.get? c=some o->h'.get? c=some o)->Q (.ref (n+4)) { s with heap:=h' }):XR (X7 P w) A (call (.type "zip") [.ref a,.ref b]) Q E s:=by
 cases t with
 | true=>exact Zrt h1 h2 h
 | false=>exact call_zip_2 h1 h2 λh' g1 g2 g3 g4 g5 _ g7=>h h' _ rfl g1 g2 g3 g4 g5 g7
noncomputable def Ya6(K:Xb)(ta:TA):TI:=λσ H R=>ta σ H λvs H1=>∃t a b,vs=[.ref a,.ref b]∧(∃xs,SqB K t H1 a xs)∧(∃ys,SqB K t H1 b ys)∧R (Yeb K t a b) H1
theorem Z1v{X:Cx}{K:Xb}{a b:Expr}{ta:TA}{p pos pt:Pos}{es:List Expr}{kk:Nat}(hK:X.K=K)(hg:Gl X "zip")(hm:X.mg "zip"=none)(hv:Qa "zip"=some (.type "zip"))(ha:PA X [a,b] ta)
  (he:Xp [a,b] X.env=(false,eval a X.env) :: Xp [b] X.env:=by rfl) (hpl:(JG pos (Xp [b] X.env)).any (·.1)=false:=by rfl) :
  PI X (.Tuple es kk pt) (.Call (.Name "zip" p) [a,b] [] pos) (Ya6 K ta):=by
 subst hK
 intro pins s σ H R I h
 refine Vi (Zgz I hg hm hv ?_ (by decide) (by decide))
 refine JW (thn (ha pos pins s σ H _ I h) λus s1 q=>?_) he hpl
 obtain⟨vs,H1,I1,r1,t,l1,l2,e1,⟨xs,hx⟩,⟨ys,hy⟩,q⟩:=q
 subst e1
 obtain⟨u,u',rfl,ru,ru'⟩:=vals2 r1
 cases(show u=QJ l1 from ru)
 cases(show u'=QJ l2 from ru')
 obtain⟨its,rx,px⟩:=hx.its I1
 obtain⟨its',ry,py⟩:=hy.its I1
 refine Zqr px py λh' n en g1 g2 g3 g4 g5 g7=>?_
 have I2:Inv X pins σ H1 { s1 with heap:=h' }:=I1.kept (t':=s1.toks) g7
 refine wpAny_pyIter_zip (s:={ s1 with heap:=h' }) g1 ?_
 refine⟨_,[_,_,_,_,_],Yee _ _ _ _ _ _ _ _,_,H1,rfl,I2,Zrs (ZA.new (en▸px.lt) (en▸py.lt)) (ZA.new2 n),⟨g1,g2,⟨_,_,g3⟩,g4,g5⟩,?_,q⟩
 subst en
 have ok:∀k:Nat,Zjb X pins H1 (s1.heap.objs.size+k):=λk=>I1.fpOk (Bk _ _) (I1.hok.fresh (Bk _ _))
 exact Z9j (ok 4) (ok 2) (ok 3) (ok 0) (ok 1)
section
variable {X:Cx}{io:List Nat}{p c:Bool}{a b:Expr}{mr:MAt}{ra:FA}
noncomputable def Z7y(t:Bool)(as:List Xa):Xa:=match t with|true=>.tuple as|false=>.list as
theorem Rel.keptSq{C:MC G}{H:Hp}{σ:St}{δ:Ze}{fp:Fp}{ex:Addr->Prop}{v:V}{t:Bool}{ds:List Xa}(R:Rel C io H σ δ fp ex)(q:Da G H (λa=>c=true->Lf C fp ex a) v (Z7y t ds)) :
  ∃a xs,v= .ref a∧∀H':Hp,(∀b o,H b=some o->(c=false∨¬Foot fp b)->H' b=some o)->SqB G t H' a xs∧Das G H' (λa=>c=true->(Lf C fp ex a∧H a≠none)) xs ds:=by
 cases t with
 | false=>exact R.keptList q
 | true=>
  generalize hd:Z7y true ds=d at q
  cases q with
  | tup e r=>
   cases hd
   rename_i a0 xs0
   refine⟨a0,xs0,rfl,λH' kp=>?_⟩
   obtain⟨f1,f2⟩:=R.kept kp
   exact⟨f2 _ (.tup _) e,r.frame f1 f2⟩
  | _=>cases hd
theorem Zv4{ds es:List Xa}(h:Z5j ds=some es):∃t as bs,ds=[Z7y t as,Z7y t bs]∧es=Zm1 as bs:=by
 unfold Z5j at h
 split at h
 ·cases h;exact⟨false,_,_,rfl,rfl⟩
 ·cases h;exact⟨true,_,_,rfl,rfl⟩
 ·cases h
noncomputable def iZB(mr:MAt):MIt:=λδ K=>mr δ λrs δ'=>∃es,Z5j (OT.datas rs)=some es∧K es δ'
theorem Zgy{p' pos pt:Pos}{es:List Expr}{kk:Nat}(hg:Gl X "zip")(hm:X.mg "zip"=none)(hv:Qa "zip"=some (.type "zip"))(ha:MA X io p c [a,b] mr)
  (he:Xp [a,b] X.env=(false,eval a X.env) :: Xp [b] X.env:=by rfl) (hpl:(JG pos (Xp [b] X.env)).any (·.1)=false:=by rfl):MI X io p c (.Tuple es kk pt) (.Call (.Name "zip" p') [a,b] [] pos) (iZB mr):=by
 obtain⟨_,A,s⟩:=ha
 refine⟨_,Z1v rfl hg hm hv A he hpl,λC H σ δ fp ex K' Q R h kk=>s C H σ δ fp ex _ _ R h λH1 vs rs δ1 fp1 new r1 h1=>?_⟩
 have q:=r1.das R
 obtain⟨es,hz,h1⟩:=h1
 obtain⟨t,as,bs,e,rfl⟩:=Zv4 hz
 rw[e]at q
 cases q with
 | cons q1 q2=>
  cases q2 with
  | cons q2 q3=>
   cases q3
   have R1:=r1.base
   obtain⟨l1,xs,rfl,k1⟩:=R1.keptSq q1
   obtain⟨l2,ys,rfl,k2⟩:=R1.keptSq q2
   refine⟨t,l1,l2,rfl,⟨_,(k1 H1 λ_ _ e _=>e).1⟩,⟨_,(k2 H1 λ_ _ e _=>e).1⟩,kk _ H1 _ δ1 fp1 R1 r1.stp (λH' kp i=>?_) h1⟩
   obtain⟨s1,d1⟩:=k1 H' kp
   obtain⟨s2,d2⟩:=k2 H' kp
   refine⟨λd hd=>?_,λhd=>⟨_,_,s1,s2,by rw[d1.length,d2.length];exact Zsw hd⟩⟩
   obtain⟨x,y,hx,hy,rfl⟩:=Zuo hd
   obtain⟨u,hu,qu⟩:=d1.get hx
   obtain⟨w,hw,qw⟩:=d2.get hy
   refine⟨⟨_,_,u,w,s1,s2,hu,hw⟩,λv H'' hyl=>?_⟩
   obtain⟨t',u',w',ht,rfl,rfl,hu',hw'⟩:=hyl
   cases hu.symm.trans (hu' _ s1)
   cases hw.symm.trans (hw' _ s2)
   exact⟨Yv ht _,.tup Zx (.cons (qu.same (Yv ht _)) (.cons (qw.same (Yv ht _)) .nil))⟩
theorem Zhs{tg e:Expr}(g:MI X io p c tg e (iZB (o2 ra))):MI X io p c tg e (o2 (Zer ra)):=g.weak λδ K h=>by
 obtain⟨r,δ',h,k⟩:=h
 obtain⟨⟨x,δ1⟩,h1,h⟩:=bs h
 obtain⟨ds,h2,h⟩:=bs h
 cases h
 exact⟨x,_,h1,_,h2,k⟩
end
end L2
namespace L2
open PySem PySem.Spec PyProof.Rows PySem.W
noncomputable def kEv{α:Type}(lt:Nat->Nat->Bool):KasT α->α
 | .ret a=>a
 | .ask i j k=>kEv lt (k (lt i j))
noncomputable def kGood{α:Type}(n:Nat)(P:α->Prop):KasT α->Prop
 | .ret a=>P a
 | .ask i j k=>i<n∧j<n∧∀b,kGood n P (k b)
theorem kGood.bind{α β:Type}{n:Nat}{P:α->Prop}{R:β->Prop}{f:α->KasT β}(hf:∀a,P a->kGood n R (f a)){t:KasT α}(h:kGood n P t):kGood n R (t.bind f):=by
 induction t with
 | ret a=>exact hf a h
 | ask i j k ih=>exact⟨h.1,h.2.1,λb=>ih b (h.2.2 b)⟩
theorem kGood.ev{α:Type}{n:Nat}{P:α->Prop}{lt:Nat->Nat->Bool}{t:KasT α}(h:kGood n P t):P (kEv lt t):=by
 induction t with
 | ret a=>exact h
 | ask i j k ih=>exact ih _ (h.2.2 _)
theorem kGood.wp{α:Type}{n:Nat}{P:α->Prop}{lt:Nat->Nat->Bool}{cmp:Nat->Nat->(Bool->Xd->Prop)->Xd->Prop}{s:Xd}{Q:α->Xd->Prop}(hc:∀i j C,i<n->j<n->C (lt i j) s->cmp i j C s){t:KasT α}(h:kGood n P t)(q:Q (kEv lt t) s):t.kasWp cmp Q s:=by
 induction t with
 | ret a=>exact q
 | ask i j k ih=>exact hc i j _ h.1 h.2.1 (ih _ (h.2.2 _) q)
noncomputable def kP(n:Nat)(p:Array Nat):Prop:=p.toList.Perm (Xl n)
theorem kP.at{n:Nat}{p:Array Nat}(h:kP n p)(h0:0<n)(i:Nat):p.getD i 0<n:=by
 by_cases c:i<p.size
 ·have e:p.getD i 0=p[i]:=by simp[Array.getD,c]
  rw[e]
  exact Qp.mp (h.mem_iff.mp (Array.getElem_mem_toList c))
 ·have e:p.getD i 0=0:=by simp[Array.getD,c]
  rw[e];exact h0
theorem kP.rev{n:Nat}{p:Array Nat}(h:kP n p)(i j:Nat):kP n (kas_rev p i j):=(Array.perm_iff_toList_perm.mp (mirror_perm p i j _)).trans h
theorem kP.bub{n:Nat}{p:Array Nat}(h:kP n p)(i j:Nat):kP n (bubble p i j):=(Array.perm_iff_toList_perm.mp (bubble_perm p i j)).trans h
theorem Zoy{n:Nat}{p:Array Nat}(h:kP n p)(h0:0<n)(f m:Nat):kGood n (λ_=>True) (kas_asc p f m):=by
 induction f generalizing m with
 | zero=>exact trivial
 | succ f ih=>
  refine⟨h.at h0 _,h.at h0 _,λb=>?_⟩
  cases b
  ·exact ih _
  ·exact trivial
theorem Zq0{n:Nat}(h0:0<n)(f:Nat){p:Array Nat}(h:kP n p)(m q:Nat):kGood n (λr:Array Nat×Nat×Nat=>kP n r.1) (kas_desc f p m q):=by
 induction f generalizing p m q with
 | zero=>exact h
 | succ f ih=>
  refine⟨h.at h0 _,h.at h0 _,λb=>?_⟩
  cases b
  ·refine⟨h.at h0 _,h.at h0 _,λb=>?_⟩
   cases b
   ·exact ih h _ _
   ·exact h
  ·show kGood n _ (if q>0 then _ else _)
   split
   ·exact ih (h.rev _ _) _ _
   ·exact ih h _ _
theorem Zly{n:Nat}{p:Array Nat}(h:kP n p)(h0:0<n)(m r:Nat):kGood n (λr:Nat×Array Nat=>kP n r.2) (kas_tail3 m r p):=by
 refine kGood.bind (P:=λ_=>True) (λa _=>?_) (Zoy (h.rev _ _) h0 _ _)
 exact h.rev _ _
theorem Zec{n:Nat}{p:Array Nat}(h:kP n p)(h0:0<n)(m r:Nat):kGood n (λr:Nat×Array Nat=>kP n r.2) (kas_descPart m r p) :=
 (Zq0 h0 _ h _ _).bind λx hx=>by
  show kGood n _ (if x.2.2>0 then _ else _)
  split
  ·exact Zly (hx.rev _ _) h0 _ _
  ·exact Zly hx h0 _ _
theorem Zpt{n:Nat}{p:Array Nat}(h:kP n p)(h0:0<n)(r:Nat):kGood n (λr:Nat×Array Nat=>kP n r.2) (kas_count r p) :=
 (Zoy h h0 _ _).bind λm _=>by
  show kGood n _ (if(m==r)=true then _ else if m>1 then _ else _)
  split
  ·exact h
  ·split
   ·refine⟨h.at h0 _,h.at h0 _,λb=>?_⟩
    cases b
    ·exact Zec (h.rev _ _) h0 _ _
    ·exact h
   ·exact Zec h h0 _ _
theorem Zp3{n:Nat}{p:Array Nat}(h:kP n p)(h0:0<n)(k f l r:Nat):kGood n (λ_=>True) (kas_place p k f l r):=by
 induction f generalizing l r with
 | zero=>exact trivial
 | succ f ih=>
  show kGood n _ (if l≥r then _ else _)
  split
  ·exact trivial
  ·refine⟨h.at h0 _,h.at h0 _,λb=>?_⟩
   cases b
   ·exact ih _ _
   ·exact ih _ _
theorem Zuu{n:Nat}(h0:0<n)(f:Nat){p:Array Nat}(h:kP n p)(k:Nat):kGood n (kP n) (kas_bin f p k):=by
 induction f generalizing p k with
 | zero=>exact h
 | succ f ih=>exact(Zp3 h h0 _ _ _ _).bind λl _=>ih (h.bub _ _) _
theorem Zgp{n:Nat}(h0:0<n):kGood n (kP n) (U0 n) :=
 (Zpt (p:=Vp (Xl n)) (.refl _) h0 n).bind λr hr=>by
  show kGood n _ (if r.1<n then _ else _)
  split
  ·exact Zuu h0 _ hr _
  ·exact hr
noncomputable def Zts(lt:Nat->Nat->Bool)(n:Nat):List Nat:=(kEv lt (U0 n)).toList
theorem Zhm{lt:Nat->Nat->Bool}{n:Nat}(h0:0<n):(Zts lt n).Perm (Xl n):=(Zgp h0).ev (P:=kP n)
end L2
namespace L2
open PySem PySem.Spec PyProof.Rows PySem.W PySem.SeqAt
open AutoSeq1 (wpAny_loadPart')
open MeetsSeq MeetsSeq2 MeetsSeq3 SeqRoads2
noncomputable def ltI:List Int->List Int->Bool
 | [],[]=>false
 | [],_ :: _=>true
 | _ :: _,[]=>false
 | x :: xs,y :: ys=>if x=y then ltI xs ys else decide (x<y)
theorem Zxt{vs:List Xc}{ns:List Int}(h:Vy vs ns)(i:Nat)(hi:i<vs.length):∃x t,vs[i]? =some (.int x t)∧ns.drop i=x :: ns.drop (i+1):=by
 induction h generalizing i with
 | nil=>exact absurd hi (Qe i)
 | cons n t h ih=>
  cases i with
  | zero=>exact⟨n,t,rfl,rfl⟩
  | succ i=>exact ih i (Nat.lt_of_succ_lt_succ hi)
theorem Zoh{vs:List Xc}{ns:List Int}(h:Vy vs ns):vs.length=ns.length:=by
 induction h with
 | nil=>rfl
 | cons n t h ih=>exact congrArg Nat.succ ih
theorem Zrn{xs ys:List Int}(h:xs=[]∨ys=[]):ltI xs ys=decide (xs.length<ys.length):=by
 cases xs<;>cases ys<;>first|rfl|(rcases h with h|h<;>cases h)|exact(decide_eq_true (Nat.succ_pos _)).symm
theorem Zsy(l b:Addr)(items items2:Array Xc)(n n2:Nat)(dd dd2:Option Addr)(sl sl2:Array (Option Xc)){xs ys:List Int}(h1:Vy items.toList xs)(h2:Vy items2.toList ys)(k:Nat) :
  ∀i:Nat,items.size-i=k->i≤items.size->i≤items2.size->Meets (Builtin.«list.__eq__.loop» ⟨[.ref l,.ref b,rawInt i,rawInt 0],[]⟩)
   (λA R s=>s.heap.get? l=some { cls:=.type "list",dict:=dd,data:=.seq items n,slots:=sl }∧s.heap.get? b=some { cls:=.type "list",dict:=dd2,data:=.seq items2 n2,slots:=sl2 }∧
    R (.ok (.ret (.bool (ltI (xs.drop i) (ys.drop i))))) s):=by
 have e1:items.size=xs.length:=Zoh h1
 have e2:items2.size=ys.length:=Zoh h2
 have fin:∀i,i≤items.size->i≤items2.size->(i=items.size∨i=items2.size)->ltI (xs.drop i) (ys.drop i)=decide (items.size<items2.size):=λi u1 u2 c=>by
  rw[Zrn (c.imp (λc=>List.drop_eq_nil_of_le (by omega)) λc=>List.drop_eq_nil_of_le (by omega)),JR,JR]
  exact decide_eq_decide.mpr (by omega)
 induction k with
 | zero=>
  intro i hk u1 u2 prog w A R s h
  obtain⟨hp,g,d,tk,os⟩:=s;obtain⟨hl,hb,h⟩:=h
  wp_walk using Q0 hl,Q0 hb
  have hi1:items[((i:Nat):Int).toNat]? =none:=by simp;omega
  rw[fin i u1 u2 (.inl (by omega))]at h
  rw[hi1]
  wp_walk using Q0 hl,Q0 hb
  exact h
 | succ k ih=>
  intro i hk u1 u2 prog w A R s h
  obtain⟨hp,g,d,tk,os⟩:=s;obtain⟨hl,hb,h⟩:=h
  have hlt:i<items.size:=by omega
  obtain⟨x,t,q1,q2⟩:=Zxt h1 i hlt
  have hi1:items[((i:Nat):Int).toNat]? =some (.int x t):=by rw[QV,←q1,JL]
  wp_walk using Q0 hl,Q0 hb
  by_cases c:i<items2.size
  ·obtain⟨y,u,q3,q4⟩:=Zxt h2 i c
   have hi2:items2[((i:Nat):Int).toNat]? =some (.int y u):=by rw[QV,←q3,JL]
   have hc:((i:Int)+1)=((i+1:Nat):Int):=by push_cast;rfl
   rw[q2,q4]at h
   unfold ltI at h
   rw[hi1,hi2]
   refine Xf (EqAt.int_int x t y u prog w _ _ ?_)
   by_cases cx:x=y
   ·rw[if_pos cx]at h
    rw[beq_iff_eq.mpr cx]
    wp_walk
    rw[hc]
    exact⟨plainId_quiet plain_eq_loop _,codeAny_builtin entry_eq_loop (by
     rw[Around.under_plainId plain_eq_loop _]
     exact ih (i+1) (by omega) (by omega) (by omega) prog w A R _ ⟨hl,hb,h⟩)⟩
   ·rw[if_neg cx]at h
    rw[beq_eq_false_iff_ne.mpr cx]
    wp_walk using Q0 hl,Q0 hb
    rw[hi1,hi2]
    refine Xf (lt_int ?_)
    wp_walk
    exact h
  ·have hi2:items2[((i:Nat):Int).toNat]? =none:=by simp;omega
   rw[fin i u1 u2 (.inr (by omega))]at h
   rw[hi1,hi2]
   wp_walk using Q0 hl,Q0 hb
   exact h
theorem Zq8(l b:Addr)(items items2:Array Xc)(n n2:Nat)(dd dd2:Option Addr)(sl sl2:Array (Option Xc)){xs ys:List Int}(h1:Vy items.toList xs)(h2:Vy items2.toList ys) :
  Meets (Builtin.«list.__lt__» ⟨[.ref l,.ref b],[]⟩)
   (λA R s=>s.heap.get? l=some { cls:=.type "list",dict:=dd,data:=.seq items n,slots:=sl }∧s.heap.get? b=some { cls:=.type "list",dict:=dd2,data:=.seq items2 n2,slots:=sl2 }∧
    R (.ok (.ret (.bool (ltI xs ys)))) s):=by
 intro prog w A R s h
 obtain⟨hp,g,d,tk,os⟩:=s;obtain⟨hl,hb,h⟩:=h
 have f3:=AutoSeq1.sub_list_list
 wp_walk using Q0 hl,Q0 hb
 exact⟨plainId_quiet plain_eq_loop _,codeAny_builtin entry_eq_loop (by
  rw[Around.under_plainId plain_eq_loop _]
  exact Zsy l b items items2 n n2 dd dd2 sl sl2 h1 h2 _ 0 rfl (QZ _) (QZ _) prog w A R _ ⟨hl,hb,h⟩)⟩
section
variable {prog:X4}{w:Qs}{A:Qm}{E:Xc->Xd->Prop}{s:Xd}
theorem Zp2{l b:Addr}{items items2:Array Xc}{xs ys:List Int}{Q:Bool->Xd->Prop}(hu:A.units<cLine)(hl:s.heap.IsList l items)(hb:s.heap.IsList b items2)(h1:Vy items.toList xs)(h2:Vy items2.toList ys)(h:Q (ltI xs ys) s) :
  XR (X7 prog w) A (oneLt' true (.ref l) (.ref b)) Q E s:=by
 obtain⟨⟨cls,dd,data,sl⟩,hl,hc,n,hd⟩:=hl
 obtain⟨⟨cls2,dd2,data2,sl2⟩,hb,hc2,n2,hd2⟩:=hb
 simp only at hc hd hc2 hd2
 subst hc hd hc2 hd2
 rw[oneLt'_eq]
 simp only[if_true]
 refine Xf (wpAny_cRoomFor hu ?_)
 refine Xf (wpAny_callSpecialIfBound?_slot ⟨_,hl,rfl⟩ F.slot_list_lt (call_meets F.slot_list_lt ⟨_,hl,rfl⟩ F.entry_list_lt (F.args_list_lt_2 _ _) (Zq8 l b items items2 n n2 dd dd2 sl sl2 h1 h2) ⟨hl,hb,?_⟩))
 exact V0 h
end
section
variable {prog:X4}{w:Qs}{A:Qm}{E:Xc->Xd->Prop}{s:Xd}
end
end L2
namespace L2
open PySem PySem.Spec PyProof.Rows PySem.W
noncomputable def sLay{α:Type}(d:α)(lt:Nat->Nat->Bool)(vs:List α):List α:=if vs.length<2 then vs else(Zts lt vs.length).map λi=>vs.getD i d
theorem Zp5{α:Type}(d:α)(vs:List α):((Xl vs.length).map λi=>vs.getD i d)=vs:=by
 refine List.ext_getElem? λi=>?_
 rw[Xk]
 by_cases c:i<vs.length
 ·rw[Qz c,Xj c]
  show some (vs.getD i d)=_
  rw[Xi,Xj c];rfl
 ·rw[Q6 (by rw[Xw];omega),Q6 (by omega)];rfl
theorem Zks{α:Type}(d:α)(lt:Nat->Nat->Bool)(vs:List α):(sLay d lt vs).Perm vs:=by
 unfold sLay
 split
 ·exact .refl _
 ·have:=(Zhm (lt:=lt) (n:=vs.length) (by omega)).map λi=>vs.getD i d
  rwa[Zp5]at this
theorem Ztn{lt:Nat->Nat->Bool}{xs:List V}{us:List Xc}(h:Vals xs us):Vals (sLay .non lt xs) (sLay .none lt us):=by
 unfold sLay
 rw[h.length]
 split
 ·exact h
 ·generalize Zts lt _=l
  induction l with
  | nil=>exact .nil
  | cons i l ih=>
   refine .cons ?_ ih
   show RelV (xs.getD i V.non) (us.getD i Q4)
   rw[Xi,Xi]
   cases e:xs[i]? with
   | some x=>
    obtain⟨u,e',r⟩:=h.get e
    rw[e'];exact r
   | none=>
    have:us[i]? =none:=Q6 (by rw[←h.length];exact QR.mp e)
    rw[this];exact rfl
section
variable {prog:X4}{w:Qs}{A:Qm}{E:Xc->Xd->Prop}{s:Xd}
theorem Zpl{κ:SortKind}{lt:Nat->Nat->Bool}{h0:Heap}{a:Addr}{vs:List Xc}{n:Nat}{P:PySem.Fin->Xd->Prop}(ho:s.heap.get? a=some (BV "list" vs.toArray n))
  (k0:∀b o,h0.get? b=some o->s.heap.get? b=some o) (ha0:h0.get? a=none) (h64:vs.length<64)
  (hk:2≤vs.length->∀s':Xd,(∀b o,h0.get? b=some o->s'.heap.get? b=some o)->∀Q:SortKind->Xd->Prop,Q κ s'->XR (X7 prog w) A (keyKind' vs.toArray) Q E s')
  (hc:2≤vs.length->∀s':Xd,(∀b o,h0.get? b=some o->s'.heap.get? b=some o)->∀i j C,i<vs.length->j<vs.length->C (lt i j) s'->kas_ask prog w A κ vs i j C s')
  (h:P (.done (.ret .none)) { s with heap:=sortedHeap s.heap a vs (Vp (sLay Q4 lt vs)) }):XR (X7 prog w) A (Builtin.«list.sort» ⟨[.ref a],[]⟩) P E s:=by
 have ha:a<s.heap.objs.size:=Xz ho
 obtain⟨e1,ho1⟩:∃e1,(s.heap.update a (JH λ_=>(#[]:Array Xc))).get? a=some (BV "list" #[] e1):=⟨_,get?_update_seq ho λ_=>#[]⟩
 have ho6:(((s.heap.update a (JH λ_=>(#[]:Array Xc))).push (BV "tuple" vs.toArray 0)).push (BV "list" #[] 0)).get? a=some (BV "list" #[] e1):=Xm _ (Xm _ ho1)
 have k6:∀b o,h0.get? b=some o->(((s.heap.update a (JH λ_=>(#[]:Array Xc))).push (BV "tuple" vs.toArray 0)).push (BV "list" #[] 0)).get? b=some o:=λb o e=>by
  refine Xm _ (Xm _ ?_)
  rw[Heap.get?_update_ne _ _ _ _ (λq=>by rw[q,ha0]at e;cases e)]
  exact k0 b o e
 rw[list_sort_plain]
 refine Xf (listItems_at ho rfl ?_)
 refine Xf (listUpdate_at ho rfl ?_ (by rw[XM,Qc];omega) (QZ _))
 refine Xf (seqEpoch_at ho1 rfl ?_)
 refine Xf (wpAny_newTuple ?_ (by show vs.length≤_;rw[Qc];omega))
 refine Xf (wpAny_newList ?_ (QZ _))
 refine wpAny_holding ?_
 show XR (X7 prog w) A _ P E { s with heap:=((s.heap.update a (JH λ_=>(#[]:Array Xc))).push (BV "tuple" vs.toArray 0)).push (BV "list" #[] 0) }
 dsimp only
 have hs:vs.toArray.size=vs.length:=XM ..
 by_cases h2:vs.toArray.size<2
 ·have el:sLay Q4 lt vs=vs:=if_pos (hs▸h2)
  rw[el]at h
  rw[if_pos h2,if_pos h2]
  refine Xf (X8 ?_)
  rw[StateT.run_pure]
  refine Xf (X8 ?_)
  dsimp only
  refine Xf (seqEpoch_at ho6 rfl ?_)
  have ez:((vs.toArray.zip vs.toArray).map (·.2))=vs.toArray:=by
   apply Array.toList_inj.mp
   rw[Array.toList_map,Array.toList_zip,List.map_snd_zip (XQ _)]
  show XR _ _ (Builtin.List.listUpdate _ (λ_=>(vs.toArray.zip vs.toArray).map (·.2))>>=_) _ _ _
  rw[ez]
  refine Xf (listUpdate_at ho6 rfl ?_ (QZ _) (by rw[hs,Qc];omega))
  simp only[bne_self_eq_false,BZ,if_false]
  exact X8 h
 ·rw[if_neg h2,if_neg h2]
  have h2':2≤vs.length:=by omega
  have el:sLay Q4 lt vs=(Zts lt vs.length).map λi=>vs.getD i Q4:=if_neg (by omega)
  rw[el]at h
  refine Xf (hk h2' _ k6 _ ?_)
  have est:SortSt.mk' κ (vs.toArray.zip vs.toArray) #[] 7 none=kas_st κ (pairsOf vs) (Vp (Xl vs.length)):=by
   have e:=kas_range (pairsOf vs)
   rw[pairsOf_size]at e
   show SortSt.mk' κ (pairsOf vs) #[] 7 none=SortSt.mk' κ ((Vp (Xl vs.length)).map (kas_item (pairsOf vs))) #[] 7 none
   rw[e]
  have run:=kas_runs (prog:=prog) (w:=w) (A:=A) (κ:=κ) (it:=pairsOf vs) (E:=E) (s:={ s with heap:=((s.heap.update a (JH λ_=>(#[]:Array Xc))).push (BV "tuple" vs.toArray 0)).push (BV "list" #[] 0) })
   (Q:=λ_ st' s'=>arrOf st'=(kEv lt (U0 vs.length)).map (kas_item (pairsOf vs))∧failedOf st'=none∧s'={ s with heap:=((s.heap.update a (JH λ_=>(#[]:Array Xc))).push (BV "tuple" vs.toArray 0)).push (BV "list" #[] 0) })
   (G:=λp s'=>p=kEv lt (U0 vs.length)∧s'={ s with heap:=((s.heap.update a (JH λ_=>(#[]:Array Xc))).push (BV "tuple" vs.toArray 0)).push (BV "list" #[] 0) })
   h2' h64 (λp' st' s' _ a2 a3 a4=>⟨a4.1▸a2,a3,a4.2⟩) (by
    rw[←kas_ask_eq]
    exact(Zgp (n:=vs.length) (by omega)).wp (hc h2' _ k6) ⟨rfl,rfl⟩)
  rw[←est]at run
  refine Xf (BR run ?_ λ_ _ e=>e)
  intro r s' z
  obtain⟨har,hf,rfl⟩:=z
  have hout:(arrOf r.2).map (·.2)=Vp ((Zts lt vs.length).map λi=>vs.getD i Q4):=by
   apply Array.toList_inj.mp
   rw[har,Array.map_map,Array.toList_map]
   exact XH λi _=>by show(kas_item (pairsOf vs) i).2=_;rw[kas_item_eq]
  rw[hout]
  refine Xf (seqEpoch_at ho6 rfl ?_)
  refine Xf (listUpdate_at ho6 rfl ?_ (QZ _) (by rw[XM,Xe,(Zhm (by omega)).length_eq,Xw,Qc];omega))
  rw[hf]
  simp only[bne_self_eq_false,BZ,if_false]
  exact X8 h
theorem Zyy{κ:SortKind}{lt:Nat->Nat->Bool}{l:Addr}{vs:List Xc}{Q:Xc->Xd->Prop}(hl:s.heap.IsList l vs.toArray)(h64:vs.length<64)
  (hk:2≤vs.length->∀s':Xd,(∀b o,s.heap.get? b=some o->s'.heap.get? b=some o)->∀Q:SortKind->Xd->Prop,Q κ s'->XR (X7 prog w) A.in1.in1 (keyKind' vs.toArray) Q E s')
  (hc:2≤vs.length->∀s':Xd,(∀b o,s.heap.get? b=some o->s'.heap.get? b=some o)->∀i j C,i<vs.length->j<vs.length->C (lt i j) s'->kas_ask prog w A.in1.in1 κ vs i j C s')
  (h:Q (.ref (s.heap.objs.size+1)) { s with heap:=sortedAll s.heap vs (Vp (sLay Q4 lt vs)) }):XR (X7 prog w) A (call (.builtin "sorted") [.ref l]) Q E s:=by
 refine Calls.call_function_entry kind_sorted plain_sorted entry_sorted (args_sorted1 _) ?_
 unfold Builtin.«sorted»
 refine Xf (m:=checkCount "sorted" 1 1 _) (X8 ?_)
 refine Xf (collect_list hl ?_ (by rw[Qc];omega))
 refine Xf (wpAny_newList ?_ (by rw[Qc];omega))
 have hsz:((s.heap.push (BV "list" #[] 0)).update s.heap.objs.size (JH (· ++ vs.toArray))).objs.size=s.heap.objs.size+1:=by
  rw[Heap.size_update,size_push']
 have hoL:(((s.heap.push (BV "list" #[] 0)).update s.heap.objs.size (JH (· ++ vs.toArray))).push (BV "list" vs.toArray 0)).get? (s.heap.objs.size+1)=some (BV "list" vs.toArray 0):=by
  rw[←hsz];exact Qd _ rfl
 have keep:∀b o,s.heap.get? b=some o->(((s.heap.push (BV "list" #[] 0)).update s.heap.objs.size (JH (· ++ vs.toArray))).push (BV "list" vs.toArray 0)).get? b=some o:=λb o q=>by
  have hlt:b<s.heap.objs.size:=Xz q
  rw[Heap.get?_push_ne _ _ _ (by rw[hsz];exact Xu (Nat.lt_succ_of_lt hlt)),Heap.get?_update_ne _ _ _ _ (Xu hlt),Heap.get?_push_ne _ _ _ (Xu hlt)]
  exact q
 show XR _ _ _ _ _ { s with heap:=((s.heap.push (BV "list" #[] 0)).update s.heap.objs.size (JH (· ++ vs.toArray))).push (BV "list" vs.toArray 0) }
 rw[hsz]
 refine Xf (wpAny_holding (Ua slot_list_sort ⟨_,hoL,rfl⟩ entry_list_sort (Zpl (h0:=s.heap) hoL keep (Heap.get?_none_of_le (Nat.le_succ _)) h64 hk hc ⟨_,rfl,?_⟩) (args_list_sort _)))
 exact X8 ⟨_,rfl,h⟩
end
end L2
namespace L2
open PySem PySem.Spec PyProof.Rows PySem.W
variable {G:Xb}
structure Yb7{α:Type}(kd:Xa->Option α)(lt:α->α->Bool):Prop where
 lay:∀d k,kd d=some k->d.canLay0=true
 run:∃κ:SortKind,(∀(prog:X4) (w:Qs) (A:Qm) (E:Xc->Xd->Prop) (s:Xd) (vs:List Xc) (ds:List Xa) (as:List Addr) (Q:SortKind->Xd->Prop),2≤vs.length->ReadsAll s.heap vs ds as->(∀d∈ds,∃k,kd d=some k)->Q κ s->XR (X7 prog w) A (keyKind' vs.toArray) Q E s)∧
  ∀(prog:X4) (w:Qs) (A:Qm) (E:Xc->Xd->Prop) (s:Xd) (u v:Xc) (d e:Xa) (as bs:List Addr) (k m:α) (C:Bool->Xd->Prop),A.units+32<cLine->Reads s.heap u d as->Reads s.heap v e bs->kd d=some k->kd e=some m->C (lt k m) s->XR (X7 prog w) A (keyLt' κ u v) C E s
theorem readsAll_ints{h:Heap}(ns:List Int){vs:List Xc}{as:List Addr}(r:ReadsAll h vs (ns.map Xn) as):Vy vs ns:=by
 induction ns generalizing vs as with
 | nil=>cases r;exact .nil
 | cons n ns ih=>
  cases r with
  | cons r q=>
   cases r
   exact .cons _ _ (ih q)
theorem Ze6{h:Heap}{ns:List Int}{u:Xc}{as:List Addr}(r:Reads h u (.list (ns.map Xn)) as):∃a items,u= .ref a∧h.IsList a items∧Vy items.toList ns:=by
 cases r with
 | list e c d q=>exact⟨_,_,rfl,⟨_,e,c,_,d⟩,readsAll_ints ns q⟩
theorem readsAll_get{h:Heap}{vs:List Xc}{ds:List Xa}{as:List Addr}(r:ReadsAll h vs ds as):vs.length=ds.length∧∀(i:Nat) d,ds[i]? =some d->∃v bs,vs[i]? =some v∧Reads h v d bs:=by
 induction ds generalizing vs as with
 | nil=>cases r;exact⟨rfl,λi d e=>by rw[UG]at e;cases e⟩
 | cons d ds ih=>
  cases r with
  | cons r q=>
   obtain⟨z1,z2⟩:=ih q
   refine⟨congrArg Nat.succ z1,λi e he=>?_⟩
   cases i with
   | zero=>cases he;exact⟨_,_,rfl,r⟩
   | succ i=>exact z2 i e he
theorem lay_ints(ns:List Int):Sh 1 (.list (ns.map Xn)):=Zd9 λd m=>by
 obtain⟨x,_,rfl⟩:=XF.mp m
 exact Zs4 x
theorem Zl8(ns:List Int):Sh 1 (.tuple (ns.map Xn)):=Zxs λd m=>by
 obtain⟨x,_,rfl⟩:=XF.mp m
 exact Zs4 x
theorem Zpj{M:Model}{h:Heap}{a:Addr}{items:Array Xc}(e:h.IsList a items):Looks M h (typeOf (.ref a)) (.type "list"):=by
 obtain⟨o,e,c,_⟩:=e
 have:Looks M h (typeOf (.ref a)) o.cls:=(Looks.ld e).andThen .now
 rwa[c]at this
noncomputable def kdL:Xa->Option (List Int):=λd=>match d with| .list es=>Zji es|_=>none
theorem Zgf{d:Xa}{k:List Int}(h:kdL d=some k):d= .list (k.map Xn):=by
 cases d with
 | list es=>exact congrArg QC (Zeq h)
 | _=>cases h
theorem Zqi{h:Heap}{vs:List Xc}{ds:List Xa}{as:List Addr}(r:ReadsAll h vs ds as){v:Xc}(hv:v∈vs):∃d∈ds,∃bs,Reads h v d bs:=by
 obtain⟨i,hi⟩:=QH hv
 obtain⟨z1,z2⟩:=readsAll_get r
 have c:i<ds.length:=z1▸(Xg.mp hi).1
 obtain⟨v',bs,e,q⟩:=z2 i _ (Xj c)
 rw[hi]at e
 cases e
 exact⟨_,VR c,bs,q⟩
theorem Zxm:Yb7 kdL ltI:=by
 refine⟨λd k h=>by rw[Zgf h];exact(lay_ints k).1,oneType',λprog w A E s vs ds as Q h2 r hk q=>kas_kind (T:=.type "list") h2 (λv hv=>?_) rfl rfl q,λprog w A E s u v d e as bs k m C hu r1 r2 h1 h2 h=>?_⟩
 ·obtain⟨d,hd,bs,z⟩:=Zqi r hv
  obtain⟨k,hk⟩:=hk d hd
  rw[Zgf hk]at z
  obtain⟨a,items,rfl,e,_⟩:=Ze6 z
  exact Zpj e
 ·rw[Zgf h1]at r1
  rw[Zgf h2]at r2
  obtain⟨a,i1,rfl,e1,z1⟩:=Ze6 r1
  obtain⟨b,i2,rfl,e2,z2⟩:=Ze6 r2
  rw[keyLt'_oneType]
  exact Zp2 (by omega) e1 e2 z1 z2 h
theorem Zr9(a b:List Int):Q3 (.list (a.map Xn)) (.list (b.map Xn))=decide (a=b):=by
 have p:∀l:List Int,Yp (.list (l.map Xn))=true:=λl=>by rw[Yp];induction l with|nil=>rfl|cons x l ih=>exact ih
 have inj:∀{l m:List Int},QC (l.map Xn)= .list (m.map Xn)->l=m:=λh=>by
  injection h with h
  exact(List.map_inj_right λx y z=>by injection z).mp h
 by_cases c:a=b
 ·rw[Zxj (p a) (p b) (by rw[c]),decide_eq_true c]
 ·rw[Z3m (p a) (p b) λz=>c (inj z),decide_eq_false c]
end L2
namespace L2
open PySem PySem.Spec PyProof.Rows PySem.W
variable {G:Xb}
noncomputable def lk{α:Type}(kd:Xa->Option α)(lt:α->α->Bool)(es:List Xa):Nat->Nat->Bool:=λi j=>((kd (es.getD i .none)).bind λa=>(kd (es.getD j .none)).map λb=>lt a b).getD false
noncomputable def keyed{α:Type}(kd:Xa->Option α)(es:List Xa):Prop:=∀d∈es,∃k,kd d=some k
theorem Zo8{es:List Xa}(h:∀d∈es,d.canLay0=true):Q9 es=true:=by
 induction es with
 | nil=>rw[Q9]
 | cons d es ih=>rw[Q9,h d (.head _),ih λd m=>h d (.tail _ m)];rfl
theorem Das.sLay{H:Hp}{L:Addr->Prop}{lt:Nat->Nat->Bool}{xs:List V}{ds:List Xa}(h:Das G H L xs ds):Das G H L (L2.sLay .non lt xs) (L2.sLay .none lt ds):=by
 unfold L2.sLay
 rw[h.length]
 split
 ·exact h
 ·generalize Zts lt _=l
  induction l with
  | nil=>exact .nil
  | cons i l ih=>
   refine .cons ?_ ih
   show Da G H L (xs.getD i .non) (ds.getD i .none)
   rw[Xi,Xi]
   cases e:xs[i]? with
   | some x=>
    obtain⟨u,e',r⟩:=h.get' e
    rw[e'];exact r
   | none=>
    have:ds[i]? =none:=Q6 (by rw[←h.length];exact QR.mp e)
    rw[this];exact .non
noncomputable def Zxr{α:Type}(kd:Xa->Option α)(lt:α->α->Bool)(K:Xb):List V->Hp->VK->Prop:=λxs H Q=>∃(a:Addr) (vs:List V) (L:Addr->Prop) (es:List Xa),xs=[.ref a]∧SqL K H a vs∧Das K H L vs es∧vs.length<64∧keyed kd es∧∀l,H l=none->Q (.ref l) (upd H l (.lst (sLay .non (lk kd lt es) vs)))
section
variable {X:Cx}{α:Type}{kd:Xa->Option α}{lt:α->α->Bool}
theorem Zin{K:Xb}(S:Yb7 kd lt)(hK:X.K=K)(hu:X.A.units+64<cLine):Zes X (.builtin "sorted") (Zxr kd lt K):=by
 subst hK
 intro pins s σ H xs us Q I r h
 obtain⟨l,vs,L,es,rfl,hs,hd,h64,hk,q⟩:=h
 obtain⟨u,rfl,ru⟩:=vals1 r
 cases(show u=QJ l from ru)
 obtain⟨its,rv,pl,hz⟩:=I.list hs
 have hl:=rv.length
 obtain⟨as,ra⟩:=hd.reads rfl I rv (Zo8 λd m=>by obtain⟨k,e⟩:=hk d m;exact S.lay d k e)
 obtain⟨κ,S1,S2⟩:=S.run
 obtain⟨z1,z2⟩:=readsAll_get ra
 refine Zyy (κ:=κ) (lt:=lk kd lt es) pl.isList (by omega) (λh2 s' k Q q=>S1 _ _ _ _ s' _ es as Q h2 (ReadsAll.keeps k ra) hk q) (λh2 s' k i j C hi hj hc=>?_) ?_
 ·rw[z1]at hi hj
  obtain⟨v,b1,e1,r1⟩:=z2 i _ (Xj hi)
  obtain⟨w,b2,e2,r2⟩:=z2 j _ (Xj hj)
  obtain⟨k1,q1⟩:=hk _ (VR hi)
  obtain⟨k2,q2⟩:=hk _ (VR hj)
  have ek:lk kd lt es i j=lt k1 k2:=by
   unfold lk
   rw[Xi,Xi,Xj hi,Xj hj]
   show((kd es[i]).bind λa=>(kd es[j]).map λb=>lt a b).getD false=_
   rw[q1,q2];rfl
  rw[ek]at hc
  unfold kas_ask
  rw[Xi,Xi,e1,e2]
  exact S2 _ _ _ _ s' v w _ _ _ _ k1 k2 C (show X.A.units+1+1+32<cLine by omega) (Reads.keeps k r1) (Reads.keeps k r2) q1 q2 hc
 ·obtain⟨e,he⟩:=sortedAll_at s.heap its (Vp (sLay Q4 (lk kd lt es) its))
  refine⟨.ref (s.heap.objs.size+1),_,I.laid (t':=s.toks) (o:=.lst (sLay .non (lk kd lt es) vs)) (λb ob q=>sortedAll_old q) (by omega) ⟨?_,sLay Q4 (lk kd lt es) its,e,Ztn rv,he⟩,rfl,q _ (I.hok.fresh (by omega))⟩
  rw[(Zks _ _ _).length_eq,Qc];omega
noncomputable def Zwl(kd:Xa->Option α)(lt:α->α->Bool):List Xa->(OT->Prop)->Prop:=λds k=>n1 (λd=>∃es:List Xa,d= .list es∧es.length<64∧keyed kd es∧k (.nd ((sLay .none (lk kd lt es) es).map OT.fz))) ds
theorem Zow:PN G (Zxr kd lt G) (Zwl kd lt):=λH L xs ds k Q hx h kk=>by
 obtain⟨v,d,rfl,rfl,q,es,e,h64,hk,h⟩:=hx.one h
 have fin:∀(vs:List V) (p:Addr),Das G H L vs es->H p=none->Q (.ref p) (upd H p (.lst (sLay .non (lk kd lt es) vs))):=λvs p hv hp=>kk _ _ _ [p] (Yv hp _) (Own.list hp hv.sLay) (Zkz p) (Zkg hp) h
 subst e
 generalize ed:QC es=d at q
 cases q with
 | lst l e r=>
  cases ed
  exact⟨_,_,L,es,rfl,.inl e,r,by rw[r.length];exact h64,hk,λp hp=>fin _ p r hp⟩
 | scr ks=>
  cases ed
  exact⟨_,_,L,_,rfl,ks.sq,Das.ints _,by rw[(Das.ints (G:=G) (H:=H) (L:=L) _).length];exact h64,hk,λp hp=>fin _ p (Das.ints _) hp⟩
 | _=>cases ed
noncomputable def Zlu(kd:Xa->Option α)(lt:α->α->Bool):List Xa->Option OT:=λds=>match ds with|[.list es]=>if(decide (es.length<64)&&es.all λd=>(kd d).isSome)=true then some (.nd ((sLay .none (lk kd lt es) es).map OT.fz))else none|_=>none
theorem Zr2:∀ds r k,Zlu kd lt ds=some r->k r->Zwl kd lt ds k:=λds r k h hk=>by
 unfold Zlu at h
 split at h
 case h_2=>cases h
 split at h
 case isFalse=>cases h
 rename_i h2
 rw[XN]at h2
 cases h
 exact⟨_,rfl,of_decide_eq_true h2.1,λd m=>Option.isSome_iff_exists.mp (BP.mp h2.2 d m),hk⟩
end
end L2
namespace L2
open PySem PySem.Spec PyProof.Rows
variable {G:Xb}
noncomputable def Zzw:List Int->Int
 | []=>0
 | x :: xs=>xs.foldl max x
theorem Zsc(xs:List Int)(x:Int):xs.foldl max x∈x :: xs∧∀a∈x :: xs,a≤xs.foldl max x:=by
 induction xs generalizing x with
 | nil=>exact⟨.head _,λa h=>by rw[Xy.mp h];exact VD _⟩
 | cons y ys ih=>
  obtain⟨h1,h2⟩:=ih (max x y)
  rw[List.foldl_cons]
  refine⟨?_,λa h=>?_⟩
  ·rcases Xo.mp h1 with h|h
   ·rw[h]
    rcases Int.le_total x y with z|z
    ·rw[BW z];exact .tail _ (.head _)
    ·rw[Vz z];exact .head _
   ·exact .tail _ (.tail _ h)
  ·have h0:=h2 _ (.head _)
   rcases Xo.mp h with rfl|h
   ·exact Qx (Int.le_max_left ..) h0
   ·rcases Xo.mp h with rfl|h
    ·exact Qx (Int.le_max_right ..) h0
    ·exact h2 a (.tail _ h)
theorem Zre{ns:List Int}(h:0<ns.length):Zzw ns∈ns∧∀a∈ns,a≤Zzw ns:=by
 cases ns with
 | nil=>cases h
 | cons x xs=>exact Zsc xs x
theorem Zo5{prog:X4}{w:Qs}{A:Qm}{E:Xc->Xd->Prop}{s:Xd}{l:Addr}{xs:Array (Int×Tok)}{Q:Xc->Xd->Prop}(hh:A.handled=none)(hl:s.heap.IsTuple l (U3 xs))(hne:0<xs.size)
  (h:∀v h' tk,(U3 xs)[argBest (λi j=>decide (numAt xs i>numAt xs j)) (xs.size-1)]? =some v->(∀b o,s.heap.get? b=some o->h'.get? b=some o)->Q v { s with heap:=h',toks:=tk }) :
  XR (X7 prog w) A (call (.builtin "max") [.ref l]) Q E s:=by
 have hlt:l<s.heap.objs.size:=by obtain⟨_,e,_⟩:=hl;exact Xz e
 have hl':=hl
 obtain⟨o,eo,ec⟩:=hl'
 refine call_max_walk (wpAny_pyIter_tuple hl ?_)
 refine⟨_,_,_,_,_,_,_,rfl,Walks.tuple (A:=A.in1) hh _ l (Xu hlt) (U3 xs),⟨⟨_,Qd _ rfl,rfl,rfl⟩,⟨o,Xm _ eo,ec⟩⟩,λb hb=>?_,by simpa [U3]using hne,CmpOf.ints_gt (numAt xs) (λ_ _=>intItems_at),λv h' tk hP hk=>?_⟩
 ·show b<(s.heap.push _).objs.size
  rw[QX]
  rcases Xo.mp hb with rfl|hb
  ·exact JV _
  ·rw[Xy.mp hb];exact Nat.lt_succ_of_lt hlt
 ·refine h v h' tk (by simpa [U3]using hP) λb o e=>hk b o (λhm=>?_) (Xm _ e)
  rw[Xy.mp hm]at e
  exact absurd (Xz e) (QQ _)
noncomputable def Z4f(K:Xb):List V->Hp->VK->Prop:=λxs H Q=>∃(a:Addr) (ns:List Int),xs=[.ref a]∧(SqL K H a (ns.map V.int)∨SqT K H a (ns.map V.int))∧0<ns.length∧Q (.int (Zzw ns)) H
theorem Zlq{X:Cx}{K:Xb}(hK:X.K=K)(hc:X.calm=true):Zes X (.builtin "max") (Z4f K):=by
 subst hK
 intro pins s σ H xs us Q I r h
 obtain⟨a,ns,rfl,hs,hp,q⟩:=h
 obtain⟨u,rfl,ru⟩:=vals1 r
 cases(show u=QJ a from ru)
 have fin:∀{ps:List (Int×Tok)},ps.map (·.1)=ns->∀v h' tk,(U3 ps.toArray)[argBest (λi j=>decide (numAt ps.toArray i>numAt ps.toArray j)) (ps.toArray.size-1)]? =some v->(∀b o,s.heap.get? b=some o->h'.get? b=some o)->EP X pins σ Q v { s with heap:=h',toks:=tk }:=fun{ps} e2 v h' tk hv hk=>by
  have hl:ps.length=ns.length:=by rw[←e2,Xe]
  obtain⟨t,rfl⟩:=intItems_at hv
  obtain⟨h1,h2⟩:=argBest_gt (numAt ps.toArray) (ps.toArray.size-1)
  have hn:∀j,j<ps.length->numAt ps.toArray j=ns.getD j 0:=λj hj=>by
   rw[numAt_eq,←e2]
  refine⟨.int (Zzw ns),H,I.kept (t':=tk) hk,⟨t,?_⟩,q⟩
  have sz:ps.toArray.size=ns.length:=by rw[XM,hl]
  rw[sz]at h1 h2⊢
  obtain⟨m1,m2⟩:=Zre hp
  congr 1
  generalize ej:argBest (λi j=>decide (numAt ps.toArray i>numAt ps.toArray j)) (ns.length-1)=j at h1 h2⊢
  rw[hn j (by omega)]
  refine Ub (m2 _ ?_) ?_
  ·rw[Xi,Xj (by omega)]
   exact VR _
  ·obtain⟨j',hj',e⟩:=BJ m1
   have:=h2 j' (by omega)
   rw[hn j (by omega),hn j' (by omega),Xi (i:=j'),Xj hj',e]at this
   exact this
 rcases hs with hs|hs
 ·obtain⟨its,rv,pl,hz⟩:=I.list hs
  obtain⟨ps,rfl,e2⟩:=Zda rv
  have hl:ps.length=ns.length:=by rw[←e2,Xe]
  exact max_intList (xs:=ps.toArray) (I.ok.hd hc) (by simpa [U3]using pl.isList) (by simpa using hl▸hp) (fin e2)
 ·obtain⟨its,rv,pl,hz⟩:=I.tuple hs
  obtain⟨ps,rfl,e2⟩:=Zda rv
  have hl:ps.length=ns.length:=by rw[←e2,Xe]
  exact Zo5 (xs:=ps.toArray) (I.ok.hd hc) (by simpa [U3]using(show s.heap.IsTuple a _ from pl)) (by simpa using hl▸hp) (fin e2)
noncomputable def Z6o:List Xa->(Xa->Prop)->Prop:=λds k=>n1 (λd=>∃ns:List Int,(d= .list (ns.map Xn)∨d= .tuple (ns.map Xn))∧0<ns.length∧k (.int (Zzw ns))) ds
theorem Zro:PNs G (Z4f G) Z6o:=λH L xs ds k Q hx h kk=>by
 obtain⟨v,d,rfl,rfl,q,ns,e,hp,h'⟩:=hx.one h
 rcases e with e|e
 ·subst e
  obtain⟨a,rfl,hs⟩:=q.ints_sq
  exact⟨a,ns,rfl,.inl hs,hp,kk _ _ (.int _) h'⟩
 ·generalize ed:d=d' at q
  rw[e]at ed
  cases q with
  | tup e r=>
   cases ed
   exact⟨_,ns,rfl,.inr (.inl (.inl (by rw[r.int_inv]at e;exact e))),hp,kk _ _ (.int _) h'⟩
  | _=>cases ed
noncomputable def Zsu:List Xa->Option Xa:=λds=>match ds with|[.list es]=>(Zji es).bind λns=>if 0<ns.length then some (.int (Zzw ns))else none|[.tuple es]=>(Zji es).bind λns=>if 0<ns.length then some (.int (Zzw ns))else none|_=>none
theorem Zw4:∀ds r k,Zsu ds=some r->k r->Z6o ds k:=λds r k h hk=>by
 unfold Zsu at h
 split at h
 case h_3=>cases h
 all_goals
  obtain⟨ns,h1,h⟩:=bs h
  by_cases hp:0<ns.length
  ·rw[if_pos hp]at h
   cases h
   first
   | exact⟨ns,.inl (congrArg QC (Zeq h1)),hp,hk⟩
   | exact⟨ns,.inr (congrArg PyData.tuple (Zeq h1)),hp,hk⟩
  ·rw[if_neg hp]at h;cases h
section
variable {X:Cx}{io:List Nat}{p p' c c' q r:Bool}{a b e:Expr}{fa fb:FE}{es:List Expr}{ra:FA}{st:Stmt}{sts ss ss':List Stmt}{f g:FS}{ta:FT}
theorem xv(i:Nat){x:Str}{pos:Pos}(hN:X.N[i]? =some x:=by rfl)(hv:Vis X.env.scope x:=by first|exact Qn rfl|exact Qi (Qn rfl)|exact Qi (Qi rfl))(hd:(x==("__debug__" : Str))=false:=by decide)(he:(x==("__classdict__" : Str))=false:=by decide):ME X io true true (.Name x pos) (o2 (Zu i)):=Z7b (mv i hN hv hd he)
theorem xo(i:Nat){x:Str}{pos:Pos}(hN:X.N[i]? =some x:=by rfl)(hv:Vis X.env.scope x:=by first|exact Qn rfl|exact Qi (Qn rfl)|exact Qi (Qi rfl))(hd:(x==("__debug__" : Str))=false:=by decide)(he:(x==("__classdict__" : Str))=false:=by decide):ME X io true false (.Name x pos) (o2 (Zko i)):=Z5u (mo i hN hv hd he)
theorem xci{i:Int}{j:Nat}{pos:Pos}:ME X io true true (.Constant (.int i) j pos) (o2 (fC (.int i))):=Zpi Z3v
theorem xix{pos:Pos}(ha:ME X io p c a (o2 fa))(hb:ME X io p' c' b (o2 fb))(hc:p'=true∨c=true:=by first|exact Qn rfl|exact Qi rfl)(hs:Zgw b:=by exact λ_ _=>rfl)(h2:(p&&p')=q:=by rfl)(h3:(c&&c')=r:=by rfl):ME X io q r (.Subscript a b pos) (o2 (Yg gIx fa fb)):=h2▸h3▸Zgq Yew (Yf1 (Z0b rfl) Ybl ha hb hc (hs:=hs))
theorem xa0:MA X io true true [] (o2 Z3):=Z43 Z47
theorem xa1[NoStar e](ha:ME X io p c e (o2 fa))(h2:(p&&true)=q:=by rfl)(h3:(c&&true)=r:=by rfl):MA X io q r [e] (o2 (Zf fa Z3)):=Zg ha xa0 (.inl rfl) h2 h3
theorem xsq(h:MS X io st (oS f))(k:MSs X io sts (oS g)):MSs X io (st :: sts) (oS (Zz f g)):=Z2g (Zt6 h k)
theorem xst{pos px:Pos}(i:Nat){x:Str}(hN:X.N.Nodup)(he:ME X io p true e (o2 fa))(hi:X.N[i]? =some x:=by rfl)(hx:Loc X.env.scope x:=by first|exact Qn rfl|exact Qi rfl)(hio:i∉io:=by decide)(hs:Vm e (some (.Name x px)) pos.line X.env=pure false:=by rfl)(hf:X.fn x=true∨X.env.scope.names.lookup x=some .local:=by first|exact .inl rfl|exact .inr rfl|assumption):MS X io (.Assign [.Name x px] e pos) (oS (wE fa (Wx i))):=Z23 (Z30 hN hi hx he hio hs hf)
theorem xrt{pos:Pos}(h:ME X io p true e (o2 fa)):MS X io (.Return (some e) pos) (oS (wE fa J6)):=Z4i (Z21 h)
theorem xg{pos:Pos}(i:Nat){x:Str}(hN:X.N.Nodup)(hi:X.N[i]? =some x:=by rfl)(hx:Loc X.env.scope x:=by first|exact Qn rfl|exact Qi rfl)(hio:i∉io:=by decide)(hf:X.fn x=true∨X.env.scope.names.lookup x=some .local:=by first|exact .inl rfl|exact .inr rfl|assumption):MG X io true (.Name x pos) (oG (gNm i)):=Z09 (Zys hN hi hx hio hf)
theorem xif{pos:Pos}(h:MT X io p e (o2 ta))(k:MSs X io ss (oS f))(l:MSs X io ss' (oS g)):MS X io (.If e ss ss' pos) (oS (Zch ta f g)):=Z95 (Yaf h k l)
theorem xnl:MSs X io [] (oS fNx):=Z0n Zzo
theorem xtp{pos:Pos}{n:Nat}(h:MA X io p c es (o2 ra)):ME X io p c (.Tuple es n pos) (o2 (Zkq ra)):=Z64 (Z9i h)
theorem xls{pos:Pos}(h:MA X io p c es (o2 ra)):ME X io p c (.List es pos) (o2 (Zh3 ra)):=Z6s (Yaw h)
theorem xil{tg:Expr}(h:ME X io p c e (o2 fa)):MI X io p c tg e (o2 (Zbb fa)):=Zx7 (Zyz h)
theorem xno{pos:Pos}(h:MT X io p e (o2 ta)):MT X io p (.UnaryOp .Not e pos) (o2 (tNo ta)):=Z38 (Z5i h)
theorem Zf8{pos:Pos}(ha:ME X io p c a (o2 fa))(hb:ME X io p' c' b (o2 fb))(hc:p'=true∨c=true:=by first|exact Qn rfl|exact Qi rfl)(h2:(p&&p')=q:=by rfl):ME X io q true (.BinOp a .Add b pos) (o2 (Zh Zci fa fb)):=h2▸Jq Ybg (Zha Z6w Zjl ha hb hc)
theorem Z2d{pos:Pos}(ha:ME X io p c a (o2 fa))(hb:ME X io p' c' b (o2 fb))(hc:p'=true∨c=true:=by first|exact Qn rfl|exact Qi rfl)(h2:(p&&p')=q:=by rfl):ME X io q true (.BinOp a .Sub b pos) (o2 (Zh gSb fa fb)):=h2▸Jq Yam (Zha Z69 Zjl ha hb hc)
theorem Zig{pos:Pos}(ha:ME X io p c a (o2 fa))(hb:ME X io p' c' b (o2 fb))(hc:p'=true∨c=true:=by first|exact Qn rfl|exact Qi rfl)(h2:(p&&p')=q:=by rfl):ME X io q true (.BinOp a .Mult b pos) (o2 (Zh Zf4 fa fb)):=h2▸Jq Z8l (Zha Zzt Z3p ha hb hc)
theorem Z49{pos:Pos}(ha:ME X io p c a (o2 fa))(hb:ME X io p' c' b (o2 fb))(hc:p'=true∨c=true:=by first|exact Qn rfl|exact Qi rfl)(h2:(p&&p')=q:=by rfl):ME X io q true (.BinOp a .Mod b pos) (o2 (Zh Zix fa fb)):=h2▸Jq Z8h (Zha Zzd Zqu ha hb hc)
theorem Zwi{pos:Pos}(ha:ME X io p c a (o2 fa))(hb:ME X io p' c' b (o2 fb))(hc:p'=true∨c=true:=by first|exact Qn rfl|exact Qi rfl)(h2:(p&&p')=q:=by rfl):ME X io q true (.BinOp a .FloorDiv b pos) (o2 (Zh Zax fa fb)):=h2▸Jq Z4q (Zha Zv1 Z6r ha hb hc)
theorem Zrw{pos:Pos}(ha:ME X io p c a (o2 fa))(hb:ME X io p' c' b (o2 fb))(hc:p'=true∨c=true:=by first|exact Qn rfl|exact Qi rfl)(h2:(p&&p')=q:=by rfl):ME X io q true (.BinOp a .Pow b pos) (o2 (Zh Zkp fa fb)):=h2▸Jq Ybk (Zha Z0m Zxf ha hb hc)
theorem xeq{pos:Pos}(hu:X.A.units+64<cLine)(ha:ME X io p c a (o2 fa))(hb:ME X io p' c' b (o2 fb))(hc:p'=true∨c=true:=by first|exact Qn rfl|exact Qi rfl)(h2:(p&&p')=q:=by rfl):MT X io q (.Compare a [.Eq] [b] pos) (o2 (tV (Zh gEq fa fb))):=h2▸Zb9 Yad (Zb5 (Zrl hu) Zzg ha hb hc (hm:=Zc6 _))
theorem xne{pos:Pos}(hu:X.A.units+64<cLine)(ha:ME X io p c a (o2 fa))(hb:ME X io p' c' b (o2 fb))(hc:p'=true∨c=true:=by first|exact Qn rfl|exact Qi rfl)(h2:(p&&p')=q:=by rfl):MT X io q (.Compare a [.NotEq] [b] pos) (o2 (tV (Zh gNe fa fb))):=h2▸Zb9 Ye7 (Zb5 (Z7j hu) Z9h ha hb hc (hm:=Zc6 _))
theorem xlt{pos:Pos}(ha:ME X io p c a (o2 fa))(hb:ME X io p' c' b (o2 fb))(hc:p'=true∨c=true:=by first|exact Qn rfl|exact Qi rfl)(h2:(p&&p')=q:=by rfl):MT X io q (.Compare a [.Lt] [b] pos) (o2 (tV (Zh gLt fa fb))):=h2▸Zb9 Ycc (Zb5 Z50 Zlt ha hb hc (hm:=Zc6 _))
theorem xgt{pos:Pos}(ha:ME X io p c a (o2 fa))(hb:ME X io p' c' b (o2 fb))(hc:p'=true∨c=true:=by first|exact Qn rfl|exact Qi rfl)(h2:(p&&p')=q:=by rfl):MT X io q (.Compare a [.Gt] [b] pos) (o2 (tV (Zh gGt fa fb))):=h2▸Zb9 Ygb (Zb5 Ybd Zlt ha hb hc (hm:=Zc6 _))
theorem xle{pos:Pos}(ha:ME X io p c a (o2 fa))(hb:ME X io p' c' b (o2 fb))(hc:p'=true∨c=true:=by first|exact Qn rfl|exact Qi rfl)(h2:(p&&p')=q:=by rfl):MT X io q (.Compare a [.LtE] [b] pos) (o2 (tV (Zh gLe fa fb))):=h2▸Zb9 Yfo (Zb5 Z99 Zlt ha hb hc (hm:=Zc6 _))
theorem xge{pos:Pos}(ha:ME X io p c a (o2 fa))(hb:ME X io p' c' b (o2 fb))(hc:p'=true∨c=true:=by first|exact Qn rfl|exact Qi rfl)(h2:(p&&p')=q:=by rfl):MT X io q (.Compare a [.GtE] [b] pos) (o2 (tV (Zh gGe fa fb))):=h2▸Zb9 Yeq (Zb5 Z9s Zlt ha hb hc (hm:=Zc6 _))
theorem xfr{pos:Pos}{tg:Expr}{it:FI}{gg:FG}(hp:PassesOwn (X7 X.prog X.w) X.A X.env X.xe)(hc:X.calm=true)(hi:MI X io p true tg e (o2 it))(hg:MG X io true tg (oG gg))(hb:MSs X io ss (oS f))(hs:∀x,Bf e X.env x=pure x:=by intro _;rfl):MS X io (.For tg e ss [] pos) (oS (Wl it gg f)):=Z24 (Z3n hp hc hi hg hb hs)
theorem xg2{pos:Pos}{n:Nat}{g1 g2:FG}(hc:X.calm=true)(ha:MG X io true a (oG g1))(hb:MG X io true b (oG g2))(h1:List.map (λx=>x.snd) (QW [a,b] X.env)=V2 a X.env :: List.map (λx=>x.snd) (QW [b] X.env):=by rfl)(h2:List.map (λx=>x.snd) (QW [b] X.env)=V2 b X.env :: List.map (λx=>x.snd) (QW [] X.env):=by rfl)(h3:(QW [a,b] X.env).length=2:=by rfl)(h4:List.findIdx? (λx=>x.fst) (QW [a,b] X.env)=none:=by rfl):MG X io true (.Tuple [a,b] n pos) (oG (gTp 2 (gCn g1 (gCn g2 gNl)))):=Zwt (Zwn (n:=2) hc (Zgj (Zoj ha (Zgj (Zoj hb (Zsh Zrv) h2)) h1)) h3 h4)
theorem xso{pos px:Pos}(i:Nat){x:Str}(hN:X.N.Nodup)(he:ME X io p true e (o2 fa))(hi:X.N[i]? =some x:=by rfl)(hx:Loc X.env.scope x:=by first|exact Qn rfl|exact Qi rfl)(hio:i∉io:=by decide)(hs:Vm e (some (.Name x px)) pos.line X.env=pure false:=by rfl)(hf:X.fn x=true∨X.env.scope.names.lookup x=some .local:=by first|exact .inl rfl|exact .inr rfl|assumption):MS X io (.Assign [.Name x px] e pos) (oS (wE fa (Zbe i))):=Z1x (Zx0 hN hi hx he hio hs hf)
theorem xcl{pos pp:Pos}{k:Nat}{f:Addr}{fd:XD}{ps:List Str}{x:Str}{F:FD}(G:FnOk X.prog X.w X.K X.mg X.base CX0 k f fd ps (spD X.K (sD F)))(hr:Room k X.A)(hm:X.mg x=some (.ref f))(hk:JT X.K (.ref f)=true)(hb:Binds X.K fd ps [])(ha:MA X io p c (e :: es) (o2 ra))(hg:Gl X x:=by rfl)(h1:(x==("__debug__" : Str))=false:=by decide)(h2:Xp (e :: es) X.env=(false,eval e X.env) :: Xp es X.env:=by rfl)(h3:((JG pos (Xp es X.env)).any λx=>x.fst)=false:=by rfl):ME X io p c (.Call (.Name x pp) (e :: es) [] pos) (o2 (Zw F ra)):=Zz5 (Z3y G hr hg hm hk hb Zby ha h1 h2 h3)
theorem xln{pos pp:Pos}(hm:X.mg "len"=none)(ha:MA X io p c [e] (o2 ra))(hg:Gl X "len" :=by rfl)(h2:Xp [e] X.env=(false,eval e X.env) :: Xp [] X.env:=by rfl):ME X io p true (.Call (.Name "len" pp) [e] [] pos) (o2 (Zjw Zqd ra)):=Zdn Yah (Zi6 Z3j (Zk7 rfl) hg hm L2.B.boot_len ha (by decide) (by decide) h2 (by rfl))
end
noncomputable def tbl(P:List Nat)(led:Bool):Vc:={ mask:=7,place:=P.toArray,dummies:=#[],finger:=0,led,moves:=0,plain:=true }
noncomputable def hT(k:List Int):Int:=reduceHash (Builtin.Tuple.tupleHashOf (k.map hashInt))
noncomputable def hAt(ks:List (List Int))(i:Nat):Int:=(ks[i]?.map hT).getD 0
noncomputable def Z94(P:List Nat)(j:Nat):List Nat:=((tbl P false).put j).1.place.toList
noncomputable def Ycn(P:List Nat)(j:Nat):Nat:=((tbl P false).put j).2
noncomputable def Yf6(ks:List (List Int))(p:Nat)(k:List Int):List (List Int):=ks.take p ++ k :: ks.drop p
noncomputable def Yfn(P:List Nat)(ks:List (List Int))(k:List Int):Option (List Nat×List (List Int)) :=
 match(tbl P false).probe (hAt ks) (hT k) ((tbl P false).probeStart (hT k))with
 | some (.empty j none)=>if(tbl (Z94 P j) false).tooFull=false∧(Z94 P j).length=ks.length+1∧ks.length≤6∧Ycn P j≤ks.length then some (Z94 P j,Yf6 ks (Ycn P j) k)else none
 | some (.candidate _ i _)=>if ks[i]? =some k then some (P,ks)else none
 | _=>none
noncomputable def grow(K:List (List Int)):Nat->List (List Nat×List (List Int))->List (List Nat×List (List Int))
 | 0,S=>S
 | n+1,S=>grow K n (S ++ (S.flatMap λs=>K.filterMap λk=>Yfn s.1 s.2 k).filter λs=>!S.contains s)
noncomputable def K2:List (List Int):=[[0,0],[0,1],[1,0],[1,1]]
noncomputable def S2:List (List Nat×List (List Int)):=(grow K2 4 [([],[])]).eraseDups
section
variable {prog:X4}{w:Qs}{A:Qm}{E:Xc->Xd->Prop}{s:Xd}
inductive V6(U:Addr->List Int->Prop):List (List Int)->List (Int×Xc)->Prop
 | nil:V6 U [] []
 | cons {k:List Int} {a:Addr} {ks:List (List Int)} {l:List (Int×Xc)} (h:U a k) (t:V6 U ks l):V6 U (k :: ks) ((hT k,.ref a) :: l)
theorem V6.len{U:Addr->List Int->Prop}{ks:List (List Int)}{l:List (Int×Xc)}(h:V6 U ks l):ks.length=l.length:=by
 induction h with
 | nil=>rfl
 | cons _ _ ih=>rw[JS,JS,ih]
theorem V6.hash{U:Addr->List Int->Prop}{ks:List (List Int)}{l:List (Int×Xc)}(h:V6 U ks l):l.map (·.1)=ks.map hT:=by
 induction h with
 | nil=>rfl
 | cons _ _ ih=>rw[X3,X3,ih]
theorem V6.take{U:Addr->List Int->Prop}{ks:List (List Int)}{l:List (Int×Xc)}(h:V6 U ks l)(p:Nat):V6 U (ks.take p) (l.take p):=by
 induction h generalizing p with
 | nil=>rw[V3,V3];exact .nil
 | cons u t ih=>
  cases p with
  | zero=>exact .nil
  | succ p=>exact .cons u (ih p)
theorem V6.drop{U:Addr->List Int->Prop}{ks:List (List Int)}{l:List (Int×Xc)}(h:V6 U ks l)(p:Nat):V6 U (ks.drop p) (l.drop p):=by
 induction h generalizing p with
 | nil=>rw[V4,V4];exact .nil
 | cons u t ih=>
  cases p with
  | zero=>exact .cons u t
  | succ p=>exact ih p
noncomputable abbrev IK(prog:X4)(w:Qs)(h:Heap)(k:List Int)(a:Addr):Prop:=IsTupleKey (intKind prog w) h k a
theorem items_int{ks:List Int}{vs:List Xc}(h:ItemsAre (intKind prog w) ks vs):∀v∈vs,∃i t,v= .int i t:=by
 induction h with
 | nil=>exact λ_ m=>nomatch m
 | cons h _ ih=>
  intro v hv
  rcases Xo.mp hv with rfl|hv
  ·obtain⟨t,e⟩:=Value.isInt_shape h
   exact⟨_,t,e⟩
  ·exact ih v hv
theorem V6.at{U:Addr->List Int->Prop}{ks:List (List Int)}{es:Array (Int×Xc)}(h:V6 U ks es.toList)(i:Nat):(es[i]?.map (·.1)).getD 0=hAt ks i:=by
 unfold hAt
 rw[←Xk,←h.hash,Xk,JL]
end
section
variable {prog:X4}{w:Qs}{A:Qm}{R:Result->Xd->Prop}{I:Addr}{fp wr:List Addr}{n:Nat}{Pv:Nat->Xc->Prop}{St:Nat->Heap->Prop}
end
inductive Z9y(H:Hp):List V->List (List Int)->Prop
 | nil:Z9y H [] []
 | cons {a:Addr} {k:List Int} {xs:List V} {ks:List (List Int)} (h:H a=some (.tup (k.map V.int))) (t:Z9y H xs ks):Z9y H (.ref a :: xs) (k :: ks)
section
variable {X:Cx}{p c:Bool}{io:List Nat}{a e:Expr}{pos pos' pl pr:Pos}{t:TA}{mr:MAt}{ra:FA}
end
noncomputable abbrev Yf9(h:Heap)(T:Addr)(a b c:Xc):Prop:=h.get? T=some { cls:=.type "tuple",data:=.seq #[a,b,c] }
structure Z3A(z TI TO i1 i2 i3:Addr)(f1 f2 f3:List Addr):Prop where
 TIz:TI≠z
 TOz:TO≠z
 a1:∀c∈f1,c≠z∧c≠TO∧c≠i2∧c≠i3
 a2:∀c∈f2,c≠z∧c≠TO∧c≠i1∧c≠i3
 a3:∀c∈f3,c≠z∧c≠TO∧c≠i1∧c≠i2
section
variable {P:X4}{w:Qs}{A:Qm}{E:Xc->Xd->Prop}{s:Xd}
end
noncomputable abbrev z3A(h:Heap)(a:Addr):Heap:=h.push { cls:=.type "list_iterator",data:=.fields #[.ref a,.int 0 0] }
noncomputable abbrev z3B(h:Heap)(a b:Addr):Heap:=z3A (z3A h a) b
noncomputable abbrev z3C(h:Heap)(a b c:Addr):Heap:=z3A (z3B h a b) c
noncomputable abbrev z3D(h:Heap)(a b c:Addr):Heap:=(z3C h a b c).push { cls:=.type "tuple",data:=.seq #[.ref h.objs.size,.ref (z3A h a).objs.size,.ref (z3B h a b).objs.size] }
noncomputable abbrev z3E(h:Heap)(a b c:Addr):Heap:=(z3D h a b c).push { cls:=.type "tuple",data:=.seq #[.none,.none,.none] }
noncomputable abbrev z3F(h:Heap)(a b c:Addr):Heap:=(z3E h a b c).push { cls:=.type "zip",data:=.fields #[.none,.bool false,.bool false,.ref (z3C h a b c).objs.size,.ref (z3D h a b c).objs.size] }
section
variable {P:X4}{w:Qs}{A:Qm}{E:Xc->Xd->Prop}{s:Xd}
end
section
variable {X:Cx}{io:List Nat}{p c:Bool}{a b e:Expr}{mr:MAt}{ra:FA}
end
noncomputable def Up(xs:List Nat):Prop:=xs.Pairwise (·<·)
theorem Zxv{xs:List Nat}(h:Up xs){i j:Nat}{a b:Nat}(ha:xs[i]? =some a)(hb:xs[j]? =some b)(l:i<j):a<b:=by
 obtain⟨hi,rfl⟩:=Xg.mp ha
 obtain⟨hj,rfl⟩:=Xg.mp hb
 exact Ux.mp h i j hi hj l
theorem getD_at{xs:Array Nat}{i d:Nat}(h:i<xs.size):xs.toList[i]? =some (xs.getD i d):=by
 rw[JL,Array.getElem?_eq_getElem h,Array.getD,dif_pos h];rfl
theorem Zur{xs:Array Nat}{j:Nat}(up:Up xs.toList):∀(fuel lo hi:Nat),hi-lo≤fuel->lo≤hi->hi≤xs.size->(∀i a,i<lo->xs.toList[i]? =some a->a<j)->(∀i a,hi≤i->xs.toList[i]? =some a->j≤a) ->
  ∃p,SetTable.below.go xs j fuel lo hi=p∧p≤xs.size∧(∀i a,i<p->xs.toList[i]? =some a->a<j)∧∀i a,p≤i->xs.toList[i]? =some a->j≤a:=by
 intro fuel
 induction fuel with
 | zero=>
  intro lo hi f l z h1 h2
  have e:lo=hi:=by omega
  exact⟨lo,rfl,by omega,h1,λi a q=>h2 i a (by omega)⟩
 | succ fuel ih=>
  intro lo hi f l z h1 h2
  rw[SetTable.below.go]
  by_cases c:lo<hi
  ·rw[if_pos c]
   have hm:(lo+hi)/2<xs.size:=by omega
   have em:=getD_at (xs:=xs) (d:=j) hm
   by_cases q:xs.getD ((lo+hi)/2) j<j
   ·simp only[if_pos q]
    refine ih _ _ (by omega) (by omega) z (λi a li ea=>?_) h2
    by_cases e:i=(lo+hi)/2
    ·subst e
     rw[em]at ea
     cases ea
     exact q
    ·exact Vd (Zxv up ea em (by omega)) q
   ·simp only[if_neg q]
    refine ih _ _ (by omega) (by omega) (by omega) h1 λi a li ea=>?_
    by_cases e:i=(lo+hi)/2
    ·subst e
     rw[em]at ea
     cases ea
     omega
    ·have:=Zxv up em ea (by omega)
     omega
  ·rw[if_neg c]
   have e:lo=hi:=by omega
   exact⟨lo,rfl,by omega,h1,λi a q=>h2 i a (by omega)⟩
theorem Zkl{xs:Array Nat}(up:Up xs.toList)(j:Nat):JQ xs j≤xs.size∧(∀i a,i<JQ xs j->xs.toList[i]? =some a->a<j)∧∀i a,JQ xs j≤i->xs.toList[i]? =some a->j≤a:=by
 obtain⟨p,e,h⟩:=Zur (j:=j) up xs.size 0 xs.size (by omega) (QZ _) (XQ _) (λi a q=>absurd q (Qe _)) λi a q ea=>by
  have:=(Xg.mp ea).1
  rw[Bx]at this
  omega
 unfold JQ
 rw[e];exact h
theorem Z2n{xs:List Nat}(up:Up xs){p j:Nat}(h1:∀i a,i<p->xs[i]? =some a->a<j)(h2:∀i a,p≤i->xs[i]? =some a->j<a):Up (xs.take p ++ j :: xs.drop p):=by
 refine List.pairwise_append.mpr ⟨up.sublist (List.take_sublist ..),Uh.mpr ⟨λa ha=>?_,up.sublist (List.drop_sublist ..)⟩,λa ha b hb=>?_⟩
 ·obtain⟨i,hi⟩:=QH ha
  rw[List.getElem?_drop]at hi
  exact h2 _ a (Bk _ _) hi
 ·obtain⟨i,hi⟩:=QH ha
  have ip:i<p:=by
   have:=(Xg.mp hi).1
   rw[VP]at this
   omega
  rw[List.getElem?_take_of_lt ip]at hi
  have aj:=h1 i a ip hi
  rcases Xo.mp hb with rfl|hb
  ·exact aj
  ·obtain⟨k,hk⟩:=QH hb
   rw[List.getElem?_drop]at hk
   exact Vd aj (h2 _ b (Bk _ _) hk)
noncomputable def Zfm(t:Vc)(j:Nat):Prop:=t.place[JQ t.place j]? ≠some j
structure Tb(b:Bool)(t:Vc):Prop where
 led:t.led=b
 up:t.plain=true->Up t.place.toList
theorem Zok{t:Vc}{j:Nat}(h:t.slot j= .empty∨t.slot j= .dummy):Zfm t j:=λz=>by
 have:t.slot j= .live (JQ t.place j):=by
  unfold Vc.slot
  rw[if_pos (beq_iff_eq.mpr z)]
 rcases h with h|h<;>rw[this]at h<;>cases h
theorem Zqk{t:Vc}{f:Nat->Int}{h:Int}:∀(fuel:Nat) (p:SetTable.Probe),(∀d,p.dummy=some d->Zfm t d)->∀j dm,SetTable.probe.go t f h fuel p=some (.empty j dm)->Zfm t j∧∀d,dm=some d->Zfm t d:=by
 intro fuel
 induction fuel with
 | zero=>intro p _ j dm e;cases e
 | succ fuel ih=>
  have adv:∀q:SetTable.Probe,(t.advance q).dummy=q.dummy:=λq=>by
   unfold Vc.advance
   split<;>rfl
  intro p hp j dm e
  rw[SetTable.probe.go]at e
  split at e
  ·rename_i c
   cases e
   exact⟨Zok (.inl c),hp⟩
  ·rename_i c
   refine ih _ (λd hd=>?_) j dm e
   rw[adv]at hd
   cases hd
   exact Zok (.inr c)
  ·split at e
   ·cases e
   ·exact ih _ (λd hd=>hp d (by rw[adv]at hd;exact hd)) j dm e
theorem Zuj{t:Vc}{h:Int}{j:Nat}{d:Bool}(e:t.freeSlot h=some (j,d)):Zfm t j:=by
 unfold Vc.freeSlot at e
 split at e
 ·rename_i j' dm q
  cases e
  obtain⟨h1,h2⟩:=Zqk _ _ (λd hd=>by cases hd) _ _ q
  cases dm with
  | none=>exact h1
  | some d=>exact h2 d rfl
 ·cases e
theorem Z4x{t:Vc}{j:Nat}(up:Up t.place.toList)(n:Zfm t j):Up (t.put j).1.place.toList:=by
 show Up (Vc.insertAt t.place (JQ t.place j) j).toList
 obtain⟨b0,b1,b2⟩:=Zkl up j
 rw[SetTable.toList_insertAt]
 refine Z2n up b1 λi a l ea=>?_
 have ja:=b2 i a l ea
 rcases Ve j a with c|c
 ·exact c
 ·have e:a=j:=by omega
  subst e
  exfalso
  rcases Ve (JQ t.place a) i with c2|c2
  ·have hs:JQ t.place a<t.place.toList.length:=Vd c2 (Xg.mp ea).1
   have e1:=Xj hs
   have:=Zxv up e1 ea c2
   have:=b2 _ _ (XQ _) e1
   omega
  ·have e:i=JQ t.place a:=by omega
   subst e
   exact n (by rw[←JL];exact ea)
theorem Tb.stand{b:Bool}{t:Vc}(h:Tb b t)(n:Nat):Tb b (t.standIn n):=⟨h.led,λz=>nomatch z⟩
theorem Tb.lay{b:Bool}{t:Vc}(h:Tb b t)(es:Array (Int×Xc))(k:Int)(x:Xc):Tb b (layNew t es k x).2.1:=by
 unfold layNew
 split
 ·rename_i j d e
  dsimp only
  unfold Vc.orStandIn
  split
  ·exact⟨h.led,λz=>Z4x (h.up z) (Zuj e)⟩
  ·exact⟨h.led,λz=>nomatch z⟩
 ·exact h.stand _
noncomputable def vI:Xc->Int
 | .int k _=>k
 | _=>0
noncomputable def SetI(prog:X4)(w:Qs)(b:Bool)(h:Heap)(S:Addr)(ks:List Int):Prop :=
 ∃o es ep t,h.get? S=some o∧o.ExactSet∧o.data= .set es ep t∧ElemsOf (intKind prog w) es.toList∧es.size<scanBound∧t.fits es.size=true∧Tb b t∧es.toList.map (λe=>vI e.2)=ks
section
variable {prog:X4}{w:Qs}{A:Qm}{E:Xc->Xd->Prop}{s:Xd}{b:Bool}
theorem SetI.len{h:Heap}{S:Addr}{ks:List Int}(hS:SetI prog w b h S ks):ks.length<scanBound:=by
 obtain⟨o,es,ep,t,_,_,_,_,l,_,_,rfl⟩:=hS
 rw[Xe,Bx];exact l
theorem SetI.put{h:Heap}{S:Addr}{o:Obj}{es es':Array (Int×Xc)}{ep:Nat}{t t':Vc}(ho:h.get? S=some o)(hex:o.ExactSet)(hd:o.data= .set es ep t)(he:ElemsOf (intKind prog w) es'.toList)(hb:es'.size<scanBound)(hf:t'.fits es'.size=true)(ht:Tb b t') :
  (h.update S (Obj.putSet es' t')).get? S=some { o with data:=.set es' (ep+1) t' }∧SetI prog w b (h.update S (Obj.putSet es' t')) S (es'.toList.map λe=>vI e.2):=by
 have g:=Heap.get?_update_self (Obj.putSet es' t') ho (by rw[putSet_of es' t' hd];rfl)
 rw[putSet_of es' t' hd]at g
 exact⟨g,_,es',ep+1,t',g,hex,rfl,he,hb,hf,ht,rfl⟩
end
noncomputable def OfL{α:Type}(ks ns:List α):Prop:=ks.Nodup∧∀x,x∈ks↔x∈ns
noncomputable abbrev Of(ks ns:List Int):Prop:=OfL ks ns
structure Yge{τ:Type}(prog:X4)(w:Qs)(A:Qm)(S:Addr)(T:Heap->List τ->Prop)(h0:Heap)(n:Nat)(Ok:Xc->τ->Prop):Prop where
 stay:∀h h' ks,T h ks->(∀o,h.get? S=some o->h'.get? S=some o)->T h' ks
 add:∀(s:Xd) (E:Xc->Xd->Prop) (v:Xc) (k:τ) (ks:List τ) (Q:Bool->Xd->Prop),Ok v k->(∀b o,b<S->h0.get? b=some o->s.heap.get? b=some o)->T s.heap ks->ks.length<n->(∀c h' tk ks',Vq S s.heap h'->T h' ks'->(k∈ks->ks'=ks)->(k∉ks->ks'.Perm (ks ++ [k]))->Q c { s with heap:=h',toks:=tk })->XR (X7 prog w) A (setAdd S v) Q E s
section
variable {prog:X4}{w:Qs}{A:Qm}{R:Result->Xd->Prop}{I S:Addr}{fp wr:List Addr}{n:Nat}{Pv:Nat->Xc->Prop}{St:Nat->Heap->Prop}{τ:Type}{T:Heap->List τ->Prop}{h0:Heap}{Ok:Xc->τ->Prop}
end
section
variable {prog:X4}{w:Qs}{A:Qm}{E:Xc->Xd->Prop}{s:Xd}
end
section
variable {κ:Type}[DecidableEq κ]
noncomputable def Zp6(kvs:List (κ×V))(k:κ):Option V:=(kvs.find? λkv=>decide (kv.1=k)).map (·.2)
noncomputable def putK(kvs:List (κ×V))(k:κ)(v:V):List (κ×V) :=
 if(kvs.any λkv=>decide (kv.1=k))=true then kvs.map (λkv=>if kv.1=k then(kv.1,v)else kv)else kvs ++ [(k,v)]
noncomputable def Z7n(kvs:List (κ×V))(k:κ):List (κ×V):=kvs.filter λkv=>decide (kv.1≠k)
theorem Zge{p:κ×V}{r:List (κ×V)}{k:κ}(e:p.1=k):Zp6 (p :: r) k=some p.2:=by simp[Zp6,Vx,e]
theorem Zgn{p:κ×V}{r:List (κ×V)}{k:κ}(e:¬p.1=k):Zp6 (p :: r) k=Zp6 r k:=by simp[Zp6,Vx,e]
theorem Zor(k:κ):∀kvs:List (κ×V),(kvs.any λkv=>decide (kv.1=k))=(Zp6 kvs k).isSome
 | []=>rfl
 | p :: r=>by
  rw[Vw]
  by_cases e:p.1=k
  ·simp only[Zge e,decide_eq_true e,Bool.true_or,Option.isSome_some]
  ·rw[Zgn e,decide_eq_false e,Bool.false_or];exact Zor k r
theorem RelO.isSome_eq{o:Option V}{u:Option Xc}(r:RelO o u):o.isSome=u.isSome:=by
 cases o with
 | none=>cases u with
  | none=>rfl
  | some _=>exact(show False from r).elim
 | some _=>cases u with
  | none=>exact(show False from r).elim
  | some _=>rfl
theorem RelO.getD{o:Option V}{u:Option Xc}{d:V}{d':Xc}(r:RelO o u)(rd:RelV d d'):RelV (o.getD d) (u.getD d'):=by
 cases o with
 | none=>cases u with
  | none=>exact rd
  | some _=>exact(show False from r).elim
 | some _=>cases u with
  | none=>exact(show False from r).elim
  | some _=>exact r
theorem KV.val{kvs:List (κ×V)}{vs:List (κ×Xc)}(r:KV kvs vs)(k:κ):RelO (Zp6 kvs k) (valueAt vs k):=by
 unfold KV at r
 induction r with
 | nil=>exact Ug
 | @cons p q ps qs h t ih=>
  obtain⟨h1,h2⟩:=h
  by_cases e:p.1=k
  ·have e':q.1=k:=h1.symm.trans e
   have b:valueAt (q :: qs) k=some q.2:=by simp[valueAt,Vx,e']
   rw[Zge e,b];exact h2
  ·have e':¬q.1=k:=λz=>e (h1.trans z)
   have b:valueAt (q :: qs) k=valueAt qs k:=by simp[valueAt,Vx,e']
   rw[Zgn e,b];exact ih
theorem KV.any{kvs:List (κ×V)}{vs:List (κ×Xc)}(r:KV kvs vs)(k:κ):(kvs.any λkv=>decide (kv.1=k))=vs.any λkv=>decide (kv.1=k):=by
 unfold KV at r
 induction r with
 | nil=>rfl
 | cons h t ih=>rw[Vw,Vw,ih,h.1]
theorem KV.repl{kvs:List (κ×V)}{vs:List (κ×Xc)}(r:KV kvs vs)(k:κ){y:V}{u:Xc}(ry:RelV y u) :
  KV (kvs.map λkv=>if kv.1=k then(kv.1,y)else kv) (vs.map λkv=>if kv.1=k then(kv.1,u)else kv):=by
 unfold KV at r⊢
 induction r with
 | nil=>exact .nil
 | @cons p q ps qs h t ih=>
  rw[X3,X3]
  refine .cons ?_ ih
  obtain⟨h1,h2⟩:=h
  by_cases e:p.1=k
  ·rw[if_pos e,if_pos (h1.symm.trans e)];exact⟨h1,ry⟩
  ·rw[if_neg e,if_neg (λz=>e (h1.trans z))];exact⟨h1,h2⟩
theorem KV.put{kvs:List (κ×V)}{vs:List (κ×Xc)}(r:KV kvs vs)(k:κ){y:V}{u:Xc}(ry:RelV y u):KV (putK kvs k y) (stored vs k u):=by
 unfold putK stored
 rw[r.any k]
 by_cases e:(vs.any λkv=>decide (kv.1=k))=true
 ·rw[if_pos e,if_pos e];exact r.repl k ry
 ·rw[if_neg e,if_neg e];exact Paired.snoc r ⟨rfl,ry⟩
theorem KV.drop{kvs:List (κ×V)}{vs:List (κ×Xc)}(r:KV kvs vs)(k:κ):KV (Z7n kvs k) (without vs k):=by
 unfold KV at r⊢
 unfold Z7n without
 induction r with
 | nil=>exact .nil
 | @cons p q ps qs h t ih=>
  obtain⟨h1,h2⟩:=h
  rw[List.filter_cons,List.filter_cons]
  by_cases e:p.1=k
  ·have a:¬decide (p.1≠k)=true:=by simp[e]
   have b:¬decide (q.1≠k)=true:=by simp[h1.symm.trans e]
   rw[if_neg a,if_neg b];exact ih
  ·have e':¬q.1=k:=λz=>e (h1.trans z)
   have a:decide (p.1≠k)=true:=by simp[e]
   have b:decide (q.1≠k)=true:=by simp[e']
   rw[if_pos a,if_pos b];exact .cons ⟨h1,h2⟩ ih
theorem KV.length{kvs:List (κ×V)}{vs:List (κ×Xc)}(r:KV kvs vs):kvs.length=vs.length:=Paired.length r
end
noncomputable abbrev KT(H:Hp):List (List Key×V)->List (List Key×Addr×Xc)->Prop:=Paired λp q=>p.1=q.1∧H q.2.1=some (.tup (p.1.map kV))∧RelV p.2 q.2.2
theorem KT.val{H:Hp}{kvs:List (List Key×V)}{xs:List (List Key×Addr×Xc)}(r:KT H kvs xs)(k:List Key):RelO (Zp6 kvs k) ((atKey xs k).map (·.2)):=by
 induction r with
 | nil=>exact Ug
 | @cons p q ps qs h t ih=>
  obtain⟨h1,_,h2⟩:=h
  by_cases e:p.1=k
  ·have e':q.1=k:=h1.symm.trans e
   have b:atKey (q :: qs) k=some q.2:=by simp[atKey,Vx,e']
   rw[Zge e,b];exact h2
  ·have e':¬q.1=k:=λz=>e (h1.trans z)
   have b:atKey (q :: qs) k=atKey qs k:=by simp[atKey,Vx,e']
   rw[Zgn e,b];exact ih
theorem KT.repl{H:Hp}{kvs:List (List Key×V)}{xs:List (List Key×Addr×Xc)}(r:KT H kvs xs)(k:List Key){y:V}{u:Xc}(ry:RelV y u) :
  KT H (kvs.map λkv=>if kv.1=k then(kv.1,y)else kv) (xs.map (putAt k u)):=by
 induction r with
 | nil=>exact .nil
 | @cons p q ps qs h t ih=>
  rw[X3,X3]
  refine .cons ?_ ih
  obtain⟨h1,h2,h3⟩:=h
  unfold putAt
  by_cases e:p.1=k
  ·rw[if_pos e,if_pos (h1.symm.trans e)];exact⟨h1,h2,ry⟩
  ·rw[if_neg e,if_neg (λz=>e (h1.trans z))];exact⟨h1,h2,h3⟩
theorem KT.put{H:Hp}{kvs:List (List Key×V)}{xs:List (List Key×Addr×Xc)}(r:KT H kvs xs)(k:List Key){b:Addr}{y:V}{u:Xc}(hb:H b=some (.tup (k.map kV)))(ry:RelV y u) :
  KT H (putK kvs k y) (storedH xs k b u):=by
 have e:(kvs.any λkv=>decide (kv.1=k))=(atKey xs k).isSome:=by
  rw[Zor,(r.val k).isSome_eq,Option.isSome_map]
 unfold putK storedH
 rw[e]
 by_cases q:(atKey xs k).isSome=true
 ·rw[if_pos q,if_pos q];exact r.repl k ry
 ·rw[if_neg q,if_neg q];exact Paired.snoc r ⟨rfl,hb,ry⟩
section
variable {P:X4}{w:Qs}{H:Hp}{h:Heap}{a:Addr}
end
noncomputable def DGet(H:Hp)(a:Addr)(y:V)(r:Option V):Prop :=
 (∃ kvs k,Rd H a (.dK kvs)∧y=kV k∧r=Zp6 kvs k)∨∃kvs k b,Rd H a (.dT kvs)∧y= .ref b∧H b=some (.tup (k.map kV))∧r=Zp6 kvs k
noncomputable def DPut(H:Hp)(a:Addr)(y v:V)(H':Hp):Prop :=
 (∃ kvs k,H a=some (.dK kvs)∧y=kV k∧kvs.length<Xr∧H'=upd H a (.dK (putK kvs k v)))∨
 ∃kvs k b,H a=some (.dT kvs)∧y= .ref b∧H b=some (.tup (k.map kV))∧kvs.length<Xr∧H'=upd H a (.dT (putK kvs k v))
theorem DGet.k{H:Hp}{a:Addr}{kvs:List (Key×V)}{k:Key}(e:H a=some (.dK kvs)):DGet H a (kV k) (Zp6 kvs k):=.inl ⟨kvs,k,.inl e,rfl,rfl⟩
theorem DGet.t{H:Hp}{a b:Addr}{kvs:List (List Key×V)}{k:List Key}(e:H a=some (.dT kvs))(eb:H b=some (.tup (k.map kV))):DGet H a (.ref b) (Zp6 kvs k):=.inr ⟨kvs,k,b,.inl e,rfl,eb,rfl⟩
theorem DPut.k{H:Hp}{a:Addr}{kvs:List (Key×V)}{k:Key}{v:V}(e:H a=some (.dK kvs))(hl:kvs.length<Xr):DPut H a (kV k) v (upd H a (.dK (putK kvs k v))):=.inl ⟨kvs,k,e,rfl,hl,rfl⟩
theorem DPut.t{H:Hp}{a b:Addr}{kvs:List (List Key×V)}{k:List Key}{v:V}(e:H a=some (.dT kvs))(eb:H b=some (.tup (k.map kV)))(hl:kvs.length<Xr) :
  DPut H a (.ref b) v (upd H a (.dT (putK kvs k v))):=.inr ⟨kvs,k,b,e,rfl,eb,hl,rfl⟩
section
variable {X:Cx}{pins:List (Addr×Obj)}{σ:St}{H:Hp}{s:Xd}{a:Addr}{y v:V}{u r:Xc}{o:Option V}{A:Qm}{E:Xc->Xd->Prop}
end
section
variable {X:Cx}{pins:List (Addr×Obj)}{σ:St}{H:Hp}{s:Xd}{a:Addr}{kvs:List (Key×V)}{k:Key}{u:Xc}{A:Qm}{E:Xc->Xd->Prop}
end
section
variable {X:Cx}{o i e value:Expr}{pos pos' tpos:Pos}{td ty tv:TE}
end
section
variable {X:Cx}{pos:Pos}
end
noncomputable abbrev VV:List (V×V)->List (Xc×Xc)->Prop:=Paired λp q=>RelV p.1 q.1∧RelV p.2 q.2
structure M1(X:Cx)(o:Expr)(m:Str)(apos:Pos)(e:Expr)(cpos:Pos):Prop where
 base:Ud o m X.env (eval o X.env)=eval o X.env
 few:((JG cpos (Xp [e] X.env)).all (λx=>!x.1)&&(backToKw cpos (keywordEach [] X.env)).all (λx=>x.1.isSome)
  &&decide (([e]:List Expr).length+([]:List V5).length+(if([]:List V5).isEmpty then 0 else 1)<30))=true
 line:(apos.endLine==cpos.line)=true
 trees:JG cpos (Xp [e] X.env)=[(false,eval e X.env)]
structure M2(X:Cx)(o:Expr)(m:Str)(apos:Pos)(e f:Expr)(cpos:Pos):Prop where
 base:Ud o m X.env (eval o X.env)=eval o X.env
 few:((JG cpos (Xp [e,f] X.env)).all (λx=>!x.1)&&(backToKw cpos (keywordEach [] X.env)).all (λx=>x.1.isSome)
  &&decide (([e,f]:List Expr).length+([]:List V5).length+(if([]:List V5).isEmpty then 0 else 1)<30))=true
 line:(apos.endLine==cpos.line)=true
 trees:JG cpos (Xp [e,f] X.env)=[(false,eval e X.env),(false,eval f X.env)]
section
variable {X:Cx}{pins:List (Addr×Obj)}{σ:St}{H:Hp}{s:Xd}{a:Addr}{y d:V}{u r:Xc}{o:Option V}{A:Qm}{E:Xc->Xd->Prop}
end
section
variable {X:Cx}{o e f:Expr}{apos cpos:Pos}{td ty tx:TE}
end
variable {G:Xb}
noncomputable def Z9v(k:KY):List KY->List Xa->Option Xa
 | [],_=>none
 | _ :: _,[]=>none
 | j :: ks,d :: ds=>if j=k then some d else Z9v k ks ds
section
variable {H:Hp}{L:Addr->Prop}{κ:Type}[DecidableEq κ]{f:κ->KY}
noncomputable def Yb9(G:Xb)(H:Hp)(L:Addr->Prop)(a:Option V)(b:Option Xa):Prop:=(∃v d,a=some v∧b=some d∧Da G H L v d)∨(a=none∧b=none)
theorem look(hf:∀a b,f a=f b->a=b)(k:κ)(kvs:List (κ×V)):∀ds,Das G H L (kvs.map (·.2)) ds->Yb9 G H L (Zp6 kvs k) (Z9v (f k) (kvs.map λp=>f p.1) ds):=by
 induction kvs with
 | nil=>exact λds _=>.inr ⟨rfl,rfl⟩
 | cons p kvs ih=>
  intro ds h
  cases h with
  | cons h r=>
   rename_i d ds
   show Yb9 G H L _ (if f p.1=f k then some d else Z9v (f k) (kvs.map λp=>f p.1) ds)
   by_cases e:p.1=k
   ·rw[Zge e,if_pos (congrArg f e)]
    exact .inl ⟨_,_,rfl,rfl,h⟩
   ·rw[Zgn e,if_neg λz=>e (hf _ _ z)]
    exact ih _ r
end
section
variable {H:Hp}{L:Addr->Prop}{y:V}{e:Xa}
end
end L2
namespace L2
open PySem PySem.Spec PyProof.Rows PySem.W PySem.SeqAt
variable {G:Xb}
section
variable {prog:X4}{w:Qs}{A:Qm}{E:Xc->Xd->Prop}{s:Xd}
end
theorem Paired.at{α β:Type}{R:α->β->Prop}{as:List α}{bs:List β}(h:PySem.Paired R as bs):∀{i:Nat} {y:β},bs[i]? =some y->∃x,as[i]? =some x∧R x y:=by
 induction h with
 | nil=>intro i y z;cases z
 | cons h t ih=>
  intro i y z
  cases i with
  | zero=>cases z;exact⟨_,rfl,h⟩
  | succ i=>exact ih z
end L2
namespace L2
open PySem PySem.Spec PyProof.Rows
noncomputable def Yb2(o:Option (Option OT))(δ:Ze):Option (OT×Ze):=match o with|some (some (.fz d))=>some (.fz d,δ)|_=>none
theorem Zz1(d:Xa)(δ:Ze):Yb2 (some (some (.fz d))) δ=some (.fz d,δ):=rfl
noncomputable def Z6h(o:Option (Option OT))(δ:Ze):Option (OT×Ze):=match o with|some (some t)=>some (.fz t.data,δ)|_=>none
theorem Zyg(t:OT)(δ:Ze):Z6h (some (some t)) δ=some (.fz t.data,δ):=rfl
theorem Zyq(i:Nat)(δ:Ze):Zu i δ=Yb2 δ[i]? δ:=rfl
theorem Z0d(i:Nat)(δ:Ze):Zko i δ=Z6h δ[i]? δ:=rfl
theorem Z4p(d:Xa)(δ:Ze):fC d δ=some (.fz d,δ):=rfl
theorem Znu(g:Xa->Xa->Option Xa)(a b:FE)(δ:Ze):Zh g a b δ=(a δ).bind λp=>(b p.2).bind λq=>(g p.1.data q.1.data).bind λd=>some (.fz d,q.2):=rfl
theorem Zrc(g:Xa->Xa->Option OT)(a b:FE)(δ:Ze):Yg g a b δ=(a δ).bind λp=>(b p.2).bind λq=>(g p.1.data q.1.data).bind λd=>some (d,q.2):=rfl
theorem Z5a(g:Xa->Option Xa)(a:FE)(δ:Ze):fUn g a δ=(a δ).bind λp=>(g p.1.data).bind λd=>some (.fz d,p.2):=rfl
noncomputable def onB{α:Type}(d:Xa)(x y:Option α):Option α:=match d with| .bool true=>x| .bool false=>y|_=>none
theorem Yem{α:Type}(x y:Option α):onB (.bool true) x y=x:=rfl
theorem Yf5{α:Type}(x y:Option α):onB (.bool false) x y=y:=rfl
theorem Ybn(a b:FE)(δ:Ze):Z7r a b δ=(a δ).bind λp=>onB p.1.data (b p.2) (some (.fz (.bool false),p.2)):=by
 unfold Z7r onB
 cases a δ with
 | none=>rfl
 | some p=>first|rfl|(simp only[Xh];done)|(simp only[Xh];generalize p.1.data=d;cases d<;>first|rfl|(rename_i b;cases b<;>rfl))
theorem Yb3(a b:FE)(δ:Ze):fOr a b δ=(a δ).bind λp=>onB p.1.data (some (.fz (.bool true),p.2)) (b p.2):=by
 unfold fOr onB
 cases a δ with
 | none=>rfl
 | some p=>first|rfl|(simp only[Xh];done)|(simp only[Xh];generalize p.1.data=d;cases d<;>first|rfl|(rename_i b;cases b<;>rfl))
theorem Yeg(t:FT)(a b:FE)(δ:Ze):fIf t a b δ=(t δ).bind λp=>if p.1=true then a p.2 else b p.2:=rfl
noncomputable def Z90(t:OT)(δ:Ze):Option (Bool×Ze):=match t with| .fz (.bool b)=>some (b,δ)|_=>none
theorem Z7i(b:Bool)(δ:Ze):Z90 (.fz (.bool b)) δ=some (b,δ):=rfl
theorem Z9d(e:FE)(δ:Ze):tV e δ=(e δ).bind λp=>Z90 p.1 p.2:=by
 unfold tV Z90
 cases e δ with
 | none=>rfl
 | some p=>rfl
theorem Z2f(t:FT)(δ:Ze):tNo t δ=(t δ).bind λp=>some (!p.1,p.2):=rfl
theorem Yek(t u:FT)(δ:Ze):tAn t u δ=(t δ).bind λp=>if p.1=true then u p.2 else some (false,p.2):=rfl
theorem Z6p(t u:FT)(δ:Ze):tO t u δ=(t δ).bind λp=>if p.1=true then some (true,p.2)else u p.2:=rfl
theorem Z8g(e:FE)(δ:Ze):tD e δ=(e δ).bind λp=>(Zt1 p.1.data).bind λb=>some (b,p.2):=rfl
theorem Ybr(δ:Ze):Zhh δ=some (true,δ):=rfl
theorem Ybj(δ:Ze):Z3 δ=some ([],δ):=rfl
theorem Zj0(e:FE)(a:FA)(δ:Ze):Zf e a δ=(e δ).bind λp=>(a p.2).bind λq=>some (p.1 :: q.1,q.2):=rfl
theorem Zq3(a:FA)(δ:Ze):Zkq a δ=(a δ).bind λp=>if p.1.length≤Xr then some (.fz (.tuple (OT.datas p.1)),p.2)else none:=rfl
theorem Zjn(a:FA)(δ:Ze):Zh3 a δ=(a δ).bind λp=>if p.1.length≤Xr then some (.nd p.1,p.2)else none:=rfl
theorem Z78(a:FA)(δ:Ze):Yaa a δ=(a δ).bind λp=>if p.1.length≤Xr then some (.tp p.1,p.2)else none:=rfl
theorem Zuz(e:FE)(δ:Ze):Z1z e δ=(e δ).bind λp=>if Zbi p.1.data=true then some (.fz p.1.data,p.2)else none:=rfl
theorem Z63(e:FE)(δ:Ze):Z5y e δ=(e δ).bind λp=>if Zzk p.1=true then some (p.1,p.2)else none:=rfl
noncomputable def okO(x:RF)(δ:Ze):Option (OT×Ze):=match x with| .ok r=>some (r,δ)|_=>none
theorem Z56(r:OT)(δ:Ze):okO (.ok r) δ=some (r,δ):=rfl
theorem Zos(F:FD)(a:FA)(δ:Ze):Zw F a δ=(a δ).bind λp=>okO (F (OT.datas p.1)) p.2:=by
 unfold Zw okO
 cases a δ with
 | none=>rfl
 | some p=>rfl
noncomputable def atO{α:Type}(o:Option (Option OT))(k:OT->Option α):Option α:=match o with|some (some t)=>k t|_=>none
theorem Yfk{α:Type}(t:OT)(k:OT->Option α):atO (some (some t)) k=k t:=rfl
theorem Zqh(i:Nat)(F:FIO)(a:FA)(δ:Ze):W0 i F a δ=atO δ[i]? λ_=>(a δ).bind λp=>atO p.2[i]? λt=>(F t (OT.datas p.1)).bind λq=>some (q.1,p.2.set i (some q.2)):=by
 unfold W0
 generalize δ[i]? =o
 rcases o with _|_|t
 ·rfl
 ·rfl
 ·show(a δ).bind _=(a δ).bind _
  cases a δ with
  | none=>rfl
  | some p=>
   show(λo:Option (Option OT)=>(match o with|some (some t)=>(F t (OT.datas p.1)).bind λq=>some (q.1,p.2.set i (some q.2))|_=>none)) p.2[i]? =atO p.2[i]? _
   generalize p.2[i]? =o
   rcases o with _|_|t<;>rfl
theorem Z0q(g:List Xa->Option Xa)(a:FA)(δ:Ze):Zjw g a δ=(a δ).bind λp=>(g (OT.datas p.1)).bind λd=>some (.fz d,p.2):=rfl
theorem Z7g(g:List Xa->Option OT)(a:FA)(δ:Ze):fBl g a δ=(a δ).bind λp=>(g (OT.datas p.1)).bind λd=>some (d,p.2):=rfl
theorem Zy2(T:String)(e:FE)(δ:Ze):Zto T e δ=(e δ).bind λp=>if Zh5 p.1.data=true then none else some (.fz (.bool (Zqc T p.1.data)),p.2):=rfl
theorem Yfi(δ:Ze):oN δ=some (none,δ):=rfl
noncomputable def asInt{α:Type}(d:Xa)(k:Int->Option α):Option α:=match d with| .int i=>k i|_=>none
theorem Znj{α:Type}(i:Int)(k:Int->Option α):asInt (.int i) k=k i:=rfl
noncomputable def Zr7{α:Type}(d:Xa)(k:List Xa->Option α):Option α:=match d with| .list i=>k i|_=>none
theorem Zs3{α:Type}(i:List Xa)(k:List Xa->Option α):Zr7 (.list i) k=k i:=rfl
noncomputable def Z0w{α:Type}(d:Xa)(k:List Xa->Option α):Option α:=match d with| .tuple i=>k i|_=>none
theorem Z88{α:Type}(i:List Xa)(k:List Xa->Option α):Z0w (.tuple i) k=k i:=rfl
theorem Z8t(e:FE)(δ:Ze):oI e δ=(e δ).bind λp=>asInt p.1.data λi=>some (some i,p.2):=by
 unfold oI asInt
 cases e δ with
 | none=>rfl
 | some p=>rfl
theorem Z7f(e:FE)(lo hi:FO)(δ:Ze):fSl e lo hi δ=(e δ).bind λp=>(lo p.2).bind λq=>(hi q.2).bind λr=>Zr7 p.1.data λds=>some (.nd ((cutD ds q.1 r.1).map OT.fz),r.2):=by
 unfold fSl Zr7;rfl
theorem Zzm(e:FE)(δ:Ze):Zbb e δ=(e δ).bind λp=>Zr7 p.1.data λds=>some (ds,p.2):=by
 unfold Zbb Zr7;rfl
theorem Yd9(e:FE)(δ:Ze):iTp e δ=(e δ).bind λp=>Z0w p.1.data λds=>some (ds,p.2):=by
 unfold iTp Z0w;rfl
noncomputable def as1{α:Type}(ds:List Xa)(k:Int->Option α):Option α:=match ds with|[.int i]=>k i|_=>none
theorem Z4o{α:Type}(i:Int)(k:Int->Option α):as1 [.int i] k=k i:=rfl
noncomputable def as2{α:Type}(ds:List Xa)(k:Int->Int->Option α):Option α:=match ds with|[.int i,.int j]=>k i j|_=>none
theorem Z8j{α:Type}(i j:Int)(k:Int->Int->Option α):as2 [.int i,.int j] k=k i j:=rfl
theorem Zxo(a:FA)(δ:Ze):iRa a δ=(a δ).bind λp=>as1 (OT.datas p.1) λj=>if rOk j=true then some (Zcg 0 j.toNat,p.2)else none:=by
 unfold iRa as1;rfl
theorem Z55(a:FA)(δ:Ze):iRb a δ=(a δ).bind λp=>as2 (OT.datas p.1) λi j=>if(rOk i&&rOk j)=true then some (Zcg i (j-i).toNat,p.2)else none:=by
 unfold iRb as2;rfl
theorem Z8f(a:FA)(δ:Ze):Yb0 a δ=(a δ).bind λp=>as1 (OT.datas p.1) λj=>if rOk j=true∧j.toNat≤Xr then some (.nd ((Zcg 0 j.toNat).map OT.fz),p.2)else none:=by
 unfold Yb0 as1;rfl
theorem Zjx(a b:FE)(δ:Ze):Zt7 a b δ=(a δ).bind λp=>(b p.2).bind λq=>asInt q.1.data λk=>if rOk k=true∧k.toNat≤Xr then some (.nd (Xx k.toNat (.fz p.1.data)),p.2)else none:=by
 unfold Zt7 asInt;rfl
noncomputable def Ybm{α:Type}(ds:List Xa)(k:List Xa->List Xa->Option α):Option α:=match ds with|[.list i,.list j]=>k i j|_=>none
theorem Yb8{α:Type}(i j:List Xa)(k:List Xa->List Xa->Option α):Ybm [.list i,.list j] k=k i j:=rfl
theorem Z7q(a:FA)(δ:Ze):Z6e a δ=(a δ).bind λp=>Ybm (OT.datas p.1) λas bs=>some (Zm1 as bs,p.2):=by
 unfold Z6e Ybm;rfl
theorem Z61(i:Nat)(d:Xa)(δ:Ze):gNm i d δ=some (δ.set i (some (.fz d))):=rfl
theorem Z9r(i:Nat)(d:Xa)(δ:Ze):Z6q i d δ=if Zbi d=true then some (δ.set i (some (.fz d)))else none:=rfl
theorem Ycp(δ:Ze):gNl [] δ=some δ:=rfl
theorem Ydh(g:FG)(gs:FGs)(d:Xa)(r:List Xa)(δ:Ze):gCn g gs (d :: r) δ=(g d δ).bind (gs r):=rfl
theorem Ydo(n:Nat)(gs:FGs)(ds:List Xa)(δ:Ze):gTp n gs (.tuple ds) δ=if ds.length=n then gs ds δ else none:=rfl
theorem Yc7(n:Nat)(gs:FGs)(ds:List Xa)(δ:Ze):gLs n gs (.list ds) δ=if ds.length=n then gs ds δ else none:=rfl
noncomputable def RS.thn(r:RS)(g:FS):RS:=match r with| .nx δ=>g δ|r=>r
theorem Zsa(δ:Ze)(g:FS):(RS.nx δ).thn g=g δ:=rfl
theorem Zxp(r:OT)(δ:Ze)(g:FS):(RS.rt r δ).thn g= .rt r δ:=rfl
theorem Yd0(δ:Ze)(g:FS):(RS.bk δ).thn g= .bk δ:=rfl
theorem Ydd(δ:Ze)(g:FS):(RS.ct δ).thn g= .ct δ:=rfl
theorem Ycx(c:Str)(δ:Ze)(g:FS):(RS.ex c δ).thn g= .ex c δ:=rfl
theorem Zhf(f g:FS)(δ:Ze):Zz f g δ=(f δ).thn g:=rfl
theorem Ydk(δ:Ze):fNx δ= .nx δ:=rfl
theorem Yaz(δ:Ze):Yfm δ= .bk δ:=rfl
theorem Ya4(δ:Ze):Yfq δ= .ct δ:=rfl
theorem Z6l(c:Str)(δ:Ze):Znz c δ= .ex c δ:=rfl
theorem Z76(δ:Ze):Z96 δ= .rt (.fz .none) δ:=rfl
noncomputable def onO{α:Type}(o:Option (α×Ze))(k:α->Ze->RS):RS:=match o with|some (r,δ')=>k r δ'|none=>.bad
theorem Yo{α:Type}(r:α)(δ:Ze)(k:α->Ze->RS):onO (some (r,δ)) k=k r δ:=rfl
theorem Zaw(e:FE)(k:OT->Ze->RS)(δ:Ze):wE e k δ=onO (e δ) k:=by
 unfold wE onO
 cases e δ<;>rfl
noncomputable def onF(x:RF)(δ:Ze)(k:OT->Ze->RS):RS:=match x with| .ok r=>k r δ| .exn c=>.ex c δ| .bad=>.bad
theorem Yc9(r:OT)(δ:Ze)(k:OT->Ze->RS):onF (.ok r) δ k=k r δ:=rfl
theorem Ycu(c:Str)(δ:Ze)(k:OT->Ze->RS):onF (.exn c) δ k= .ex c δ:=rfl
theorem Yfy(F:FD)(a:FA)(k:OT->Ze->RS)(δ:Ze):wX F a k δ=onO (a δ) λrs δ1=>onF (F (OT.datas rs)) δ1 k:=by
 unfold wX onO onF
 cases a δ with
 | none=>rfl
 | some p=>rfl
theorem Zsm(t:FT)(u w:FS)(δ:Ze):Zch t u w δ=onO (t δ) λb δ'=>if b=true then u δ' else w δ':=by
 unfold Zch onO
 cases t δ<;>rfl
theorem Zx8(it:FI)(g:FG)(u:FS)(δ:Ze):Wl it g u δ=onO (it δ) λds δ1=>forLoop g u ds δ1:=by
 unfold Wl onO
 cases it δ<;>rfl
theorem Zt4(r:OT)(δ:Ze):Zmx r δ= .nx δ:=rfl
theorem Zy4(r:OT)(δ:Ze):J6 r δ= .rt r δ:=rfl
theorem Z7t(r:OT)(δ:Ze):Ybp r δ=if Zbi r.data=true then .rt (.fz r.data) δ else .bad:=rfl
theorem Zx2(i:Nat)(r:OT)(δ:Ze):Wx i r δ= .nx (δ.set i (some (.fz r.data))):=rfl
theorem Z75(i:Nat)(r:OT)(δ:Ze):Z8w i r δ=if Zbi r.data=true then .nx (δ.set i (some (.fz r.data)))else .bad:=rfl
theorem Zuf(i:Nat)(r:OT)(δ:Ze):Zbe i r δ= .nx (δ.set i (some r)):=rfl
noncomputable def onD(o:Option Ze):RS:=match o with|some δ=>.nx δ|none=>.bad
theorem Z7o(δ:Ze):onD (some δ)= .nx δ:=rfl
theorem Ybf(g:FG)(r:OT)(δ:Ze):Ye2 g r δ=onD (g r.data δ):=rfl
noncomputable def onT(o:Option (Option OT))(k:OT->RS):RS:=match o with|some (some t)=>k t|_=>.bad
theorem Zxx(t:OT)(k:OT->RS):onT (some (some t)) k=k t:=rfl
theorem Zki(i:Nat)(δ:Ze):Zfh i δ=onT δ[i]? λt=>.rt t (δ.set i none):=rfl
theorem Zpv(i:Nat)(u:FS)(δ:Ze):Zhj i u δ=onT δ[i]? λt=>u (δ.set i (some (.fz t.data))):=rfl
noncomputable def onN(o:Option (Option OT))(k:List OT->RS):RS:=match o with|some (some (.nd ts))=>k ts|_=>.bad
theorem Zum(t:List OT)(k:List OT->RS):onN (some (some (.nd t))) k=k t:=rfl
theorem Zps(i:Nat)(e:FE)(δ:Ze):Zba i e δ=onN δ[i]? λ_=>onO (e δ) λr δ1=>onN δ1[i]? λts=>if ts.length<Xr then .nx (δ1.set i (some (.nd (ts ++ [.fz r.data]))))else .bad:=by
 unfold Zba
 generalize δ[i]? =o
 rcases o with _|_|(_|_|_|_)
 ·rfl
 ·rfl
 ·rfl
 ·show wE e _ δ=onO (e δ) _
  rw[Zaw]
  congr 1
 ·rfl
 ·rfl
theorem Zmo(i:Nat)(e:FE)(δ:Ze):Zb3 i e δ=onN δ[i]? λ_=>onO (e δ) λr δ1=>onN δ1[i]? λts=>if ts.length<Xr then .nx (δ1.set i (some (.nd (ts ++ [r]))))else .bad:=by
 unfold Zb3
 generalize δ[i]? =o
 rcases o with _|_|(_|_|_|_)
 ·rfl
 ·rfl
 ·rfl
 ·show wE e _ δ=onO (e δ) _
  rw[Zaw]
  congr 1
 ·rfl
 ·rfl
noncomputable def onI(d:Xa)(k:Int->RS):RS:=match d with| .int i=>k i|_=>.bad
theorem Ye4(i:Int)(k:Int->RS):onI (.int i) k=k i:=rfl
noncomputable def onX(o:Option Nat)(k:Nat->RS):RS:=match o with|some i=>k i|_=>.bad
theorem Yev(i:Nat)(k:Nat->RS):onX (some i) k=k i:=rfl
theorem Z0r(i:Nat)(e j:FE)(δ:Ze):Z14 i e j δ=onO (e δ) λr δ1=>onN δ1[i]? λts=>onO (j δ1) λn _=>onI n.data λk=>onX (ixN ts.length k) λj=>.nx (δ1.set i (some (.nd (ts.set j (.fz r.data))))):=by
 unfold Z14
 rw[Zaw]
 congr 1
 funext r δ1
 generalize δ1[i]? =o
 rcases o with _|_|(_|_|_|_)
 ·rfl
 ·rfl
 ·rfl
 ·show wE j _ δ1=onO (j δ1) _
  rw[Zaw]
  congr 1
  funext n δ2
  generalize n.data=d
  cases d<;>try rfl
  show(match ixN _ _ with|some j=>_|none=>_)=onX (ixN _ _) _
  generalize ixN _ _=x
  cases x<;>rfl
 ·rfl
 ·rfl
noncomputable def onU(o:Option OT)(k:List OT->RS):RS:=match o with|some (.nd ts)=>k ts|_=>.bad
theorem Yeo(t:List OT)(k:List OT->RS):onU (some (.nd t)) k=k t:=rfl
noncomputable def onP(o:Option (Option OT))(k:List OT->RS):RS:=match o with|some (some (.tp ts))=>k ts|_=>.bad
theorem Yf4(t:List OT)(k:List OT->RS):onP (some (some (.tp t))) k=k t:=rfl
theorem Z6f(i c:Nat)(e:FE)(δ:Ze):Zwc i c e δ=onP δ[i]? λts=>onU ts[c]? λus=>onO (e δ) λr _=>if us.length<Xr then .nx (δ.set i (some (.tp (ts.set c (.nd (us ++ [.fz r.data]))))))else .bad:=by
 unfold Zwc
 generalize δ[i]? =o
 rcases o with _|_|(_|_|ts|_)
 ·rfl
 ·rfl
 ·rfl
 ·rfl
 ·show(match ts[c]? with|some (.nd us)=>wE e _ δ|_=>_)=onU ts[c]? _
  generalize ts[c]? =o
  rcases o with _|(_|_|_|_)
  ·rfl
  ·rfl
  ·show wE e _ δ=onO (e δ) _
   rw[Zaw]
  ·rfl
  ·rfl
 ·rfl
noncomputable def on2(ds:List Xa)(k:Xa->Xa->RS):RS:=match ds with|[d,e]=>k d e|_=>.bad
theorem Yfl(d e:Xa)(k:Xa->Xa->RS):on2 [d,e] k=k d e:=rfl
theorem Z8s(i j:Nat)(a:FA)(δ:Ze):Ybx i j a δ=onO (a δ) λrs δ1=>on2 (OT.datas rs) λd e=>.nx ((δ1.set i (some (.fz d))).set j (some (.fz e))):=by
 unfold Ybx onO on2
 cases a δ<;>rfl
theorem Zdu{np n:Nat}{S:FS}{ds:List Xa}(h:ds.length=np):J9 np n S ds=(S (Zhc n ds)).told:=by
 unfold J9;rw[if_pos h]
theorem Z07{np n:Nat}{S:FS}{t:OT}{ds:List Xa}(h:ds.length+1=np):Zsj np n S t ds=(S (Zj2 n t ds)).toldI:=by
 unfold Zsj;rw[if_pos h]
theorem Zx3(δ:Ze):(RS.nx δ).told= .ok (.fz .none):=rfl
theorem Zrh(r:OT)(δ:Ze):(RS.rt r δ).told= .ok r:=rfl
theorem Yal(c:Str)(δ:Ze):(RS.ex c δ).told= .exn c:=rfl
theorem Zwk(i j:Int):Zci (.int i) (.int j)=some (.int (i+j)):=rfl
theorem Yfd(i j:Int):gSb (.int i) (.int j)=some (.int (i-j)):=rfl
theorem Ye5(i j:Int):gLt (.int i) (.int j)=some (.bool (decide (i<j))):=rfl
theorem Yfj(i j:Int):gLe (.int i) (.int j)=some (.bool (decide (i≤j))):=rfl
theorem Z8i(i j:Int):gGt (.int i) (.int j)=some (.bool (decide (j<i))):=rfl
theorem Yav(i j:Int):gGe (.int i) (.int j)=some (.bool (decide (j≤i))):=rfl
theorem Jr{i j:Int}(h:Z19 i j=true):Zf4 (.int i) (.int j)=some (.int (i*j)):=by
 unfold Zf4 i2c;dsimp only;rw[if_pos h]
theorem Zfc{i j:Int}(h:Z2w i j=true):Zax (.int i) (.int j)=some (.int (i.fdiv j)):=by
 unfold Zax i2c;dsimp only;rw[if_pos h]
theorem Z4n{i j:Int}(h:j≠0):Zix (.int i) (.int j)=some (.int (i.fmod j)):=by
 unfold Zix i2c Ydr;dsimp only;rw[if_pos (decide_eq_true h)]
theorem Wk{m n:Nat}{x y:Int}(h:Bt m x)(k:Bt n y)(hmn:m+n≤100000000:=by decide):Z19 x y=true:=Zi7.mpr (h.mulOk k hmn)
theorem Z52{x y:Int}(h:x.natAbs<2^64):Z19 x y=true:=Zi7.mpr (.of_left (intBits_le_64 (by omega) (by omega)))
theorem Zfd{n:Nat}{i j:Int}(h0:j≠0)(h:Bt n j)(hn:n≤9000:=by decide):Z2w i j=true:=by
 obtain⟨h1,h2⟩:=DivOk.of (i:=i) h0 h hn
 unfold Z2w
 rw[decide_eq_true h1,decide_eq_true h2];rfl
theorem Zzj(i j:Int):gEq (.int i) (.int j)=some (.bool (decide (i=j))):=by
 show some (PyData.bool (i==j))=_
 rw[show(i==j)=decide (i=j)from rfl]
theorem Z8p(i j:Int):gNe (.int i) (.int j)=some (.bool (!decide (i=j))):=by
 show some (PyData.bool (!(i==j)))=_
 rw[show(i==j)=decide (i=j)from rfl]
theorem Z6c(d:Xa):gIs d .none=some (.bool (Zd5 d)):=rfl
theorem Z71(d:Xa):Zov d .none=some (.bool (!Zd5 d)):=rfl
theorem Zic(ds:List Xa)(i:Int):gIx (.list ds) (.int i)=(atI ds i).bind λx=>some (.fz x):=rfl
theorem Yf3(ds:List Xa)(i:Int):gIx (.tuple ds) (.int i)=(atI ds i).bind λx=>some (.fz x):=rfl
theorem Zqg(ds:List Xa):Zqd [.list ds]=some (.int ds.length):=rfl
theorem Ycd(ds:List Xa):Zqd [.tuple ds]=some (.int ds.length):=rfl
theorem Ztb(i:Int):Z2c [.int i]=some (.int (i.natAbs:Int)):=by
 show some (Xn (if i<0 then -i else i))=_
 congr 2;split<;>omega
theorem Ycv(i j:Int):Yf7 [.int i,.int j]=some (.int (if j>i then j else i)):=rfl
theorem Zta(i j:Int):Z0p [.int i,.int j]=some (.int (if j<i then j else i)):=rfl
theorem Yb1(i:Int):Z3k [.int i]=some (.int i):=rfl
theorem Z5w(b:Bool):Z3k [.bool b]=some (.int (if b then 1 else 0)):=rfl
theorem Z9l(ds:List Xa):Z3t [.list ds]=some (.nd (ds.map OT.fz)):=rfl
theorem Z81(ds:List Xa):Z3t [.tuple ds]=some (.nd (ds.map OT.fz)):=rfl
theorem Z5b{ds es:List Xa}(h:ds.length+es.length≤Xr):Zuv (.list ds) (.list es)=some (.nd ((ds ++ es).map OT.fz)):=by
 unfold Zuv;dsimp only;rw[if_pos h]
theorem Z68(i:Int):Z7u (.int i)=some (.int (-i)):=rfl
theorem Ycl(b:Bool):Z8n (.bool b)=some (.bool (!b)):=rfl
theorem Ydj(b:Bool):Zt1 (.bool b)=some b:=rfl
theorem Yd7(i:Int):Zt1 (.int i)=some (i !=0):=rfl
theorem Yc2:Zt1 .none=some false:=rfl
theorem Yb6(ds:List Xa):Zt1 (.list ds)=some (!ds.isEmpty):=rfl
theorem Zjm{n:Nat}{d:Xa}(h:Sh n d)(hp:Yp d=true)(hn:n≤60):gNe d d=some (.bool false):=by
 have s:VF d=true:=(h.shp (by omega)).ok
 unfold gNe
 rw[if_pos (by rw[s];rfl),Zu4 hp];rfl
theorem Znw{gg:FG}{u:FS}{ds:List Xa}{δ:Ze}(I:Nat->Ze->Prop)(h0:I 0 δ)
  (turn:∀(i:Nat) (d:Xa) (δ:Ze),ds[i]? =some d->I i δ->∃δ1 δ2,gg d δ=some δ1∧(u δ1= .nx δ2∨u δ1= .ct δ2)∧I (i+1) δ2):∃δ',forLoop gg u ds δ= .nx δ'∧I ds.length δ':=by
 induction ds generalizing δ I with
 | nil=>exact⟨δ,rfl,h0⟩
 | cons d ds ih=>
  obtain⟨δ1,δ2,e1,e2,h1⟩:=turn 0 d δ rfl h0
  obtain⟨δ',e3,h3⟩:=ih (δ:=δ2) (λi δ=>I (i+1) δ) h1 λi d' δ hd hi=>turn (i+1) d' δ (by simpa using hd) hi
  refine⟨δ',?_,h3⟩
  rw[Jf,e1]
  dsimp only
  rcases e2 with e2|e2<;>rw[e2]<;>exact e3
noncomputable def Goes(r:RS)(Q:Ze->Prop):Prop:=∃δ,(r= .nx δ∨r= .ct δ)∧Q δ
theorem Goes.nx{δ:Ze}{Q:Ze->Prop}(h:Q δ):Goes (.nx δ) Q:=⟨δ,.inl rfl,h⟩
theorem Goes.ct{δ:Ze}{Q:Ze->Prop}(h:Q δ):Goes (.ct δ) Q:=⟨δ,.inr rfl,h⟩
theorem Zsv{α:Type}{me:FE}{cs:Ze}(mk:α->Xa)(f:α->OT):∀(xs:List α) (z:Option OT),(∀x∈xs,me (some (.fz (mk x)) :: cs)=some (f x,some (.fz (mk x)) :: cs)) ->
  ∃z',compLoop (gNm 0) Zhh me (xs.map mk) (z :: cs)=some (xs.map f,z' :: cs)
 | [],z,_=>⟨z,rfl⟩
 | x :: xs,z,h=>by
  obtain⟨z',e⟩:=Zsv mk f xs (some (.fz (mk x))) λy hy=>h y (.tail _ hy)
  refine⟨z',?_⟩
  rw[X3,compLoop]
  show(some (some (OT.fz (mk x)) :: cs)).bind _=_
  rw[Xh]
  show(some (true,some (OT.fz (mk x)) :: cs)).bind _=_
  rw[Xh,if_pos rfl,h x (.head _),Xh,e];rfl
theorem Zon{α:Type}{t:FT}{me:FE}{cs:Ze}(mk:α->Xa)(p:α->Bool)(f:α->OT):∀(xs:List α) (z:Option OT),(∀x∈xs,t (some (.fz (mk x)) :: cs)=some (p x,some (.fz (mk x)) :: cs))->(∀x∈xs,p x=true->me (some (.fz (mk x)) :: cs)=some (f x,some (.fz (mk x)) :: cs)) ->
  ∃z',compLoop (gNm 0) t me (xs.map mk) (z :: cs)=some ((xs.filter p).map f,z' :: cs)
 | [],z,_,_=>⟨z,rfl⟩
 | x :: xs,z,ht,h=>by
  obtain⟨z',e⟩:=Zon mk p f xs (some (.fz (mk x))) (λy hy=>ht y (.tail _ hy)) λy hy=>h y (.tail _ hy)
  refine⟨z',?_⟩
  rw[X3,compLoop]
  show(some (some (OT.fz (mk x)) :: cs)).bind _=_
  rw[Xh,ht x (.head _),Xh]
  dsimp only
  by_cases hp:p x=true
  ·rw[if_pos hp,h x (.head _) hp,Xh,e,BK hp];rfl
  ·rw[if_neg hp,e,BL hp]
theorem Zdg{α:Type}{caps:List Nat}{it:FI}{me:FE}{cs δ δ1:Ze}(xs:List α)(mk:α->Xa)(f:α->OT)(hi:it δ=some (xs.map mk,δ1))(hz:xs.length≤Xr)(hb:blk 1 caps δ1=none :: cs)
  (h:∀x∈xs,me (some (.fz (mk x)) :: cs)=some (f x,some (.fz (mk x)) :: cs)):Wc 1 caps it (gNm 0) Zhh me δ=some (.nd (xs.map f),δ1):=by
 unfold Wc
 rw[hi,Xh]
 dsimp only
 rw[if_pos (by rw[Xe];exact hz),hb]
 obtain⟨z',e⟩:=Zsv (me:=me) (cs:=cs) mk f xs none h
 rw[e];rfl
theorem Zqm{α:Type}{caps:List Nat}{it:FI}{t:FT}{me:FE}{cs δ δ1:Ze}(xs:List α)(mk:α->Xa)(p:α->Bool)(f:α->OT)(hi:it δ=some (xs.map mk,δ1))(hz:xs.length≤Xr)(hb:blk 1 caps δ1=none :: cs)
  (ht:∀x∈xs,t (some (.fz (mk x)) :: cs)=some (p x,some (.fz (mk x)) :: cs)) (h:∀x∈xs,p x=true->me (some (.fz (mk x)) :: cs)=some (f x,some (.fz (mk x)) :: cs)):Wc 1 caps it (gNm 0) t me δ=some (.nd ((xs.filter p).map f),δ1):=by
 unfold Wc
 rw[hi,Xh]
 dsimp only
 rw[if_pos (by rw[Xe];exact hz),hb]
 obtain⟨z',e⟩:=Zon (t:=t) (me:=me) (cs:=cs) mk p f xs none ht h
 rw[e];rfl
theorem Yfr:(2≤Xr)=True:=by simp[Qc]
theorem Yfc:(1≤Xr)=True:=by simp[Qc]
theorem Ye6:(0≤Xr)=True:=by simp
theorem Z8k:(3≤Xr)=True:=by simp[Qc]
theorem Z17{α:Type}(f:α->Xa)(xs:List α):(xs.map λx=>OT.fz (f x)).map OT.data=xs.map f:=by
 rw[QD];exact XH λx _=>OT.data_fz _
theorem Zqe{α:Type}{j:Int}{x:α}(h0:0≤j)(h1:j≤1000000):(if rOk j=true then some x else none)=some x:=if_pos (Zk6 (by omega) h1)
theorem Zyf{α:Type}{i j:Int}{x:α}(h0:0≤i)(h1:i≤1000000)(h2:0≤j)(h3:j≤1000000):(if(rOk i&&rOk j)=true then some x else none)=some x:=if_pos (by rw[Zk6 (by omega) h1,Zk6 (by omega) h3];rfl)
theorem Zxi{r:RS}{k:Nat}(h:k≤1000000):(if k<Xr then r else .bad)=r:=if_pos (by rw[Qc];omega)
noncomputable def EvV(e:FE)(δ:Ze)(d:Xa):Prop:=∃t,e δ=some (t,δ)∧t.data=d
noncomputable def EvA(a:FA)(δ:Ze)(ds:List Xa):Prop:=∃ts,a δ=some (ts,δ)∧OT.datas ts=ds
noncomputable def EvT(t:FT)(δ:Ze)(b:Bool):Prop:=t δ=some (b,δ)
noncomputable def Told(F:FD)(ds:List Xa)(d:Xa):Prop:=∃t,F ds= .ok t∧t.data=d
section
variable {e a b:FE}{as:FA}{δ δ':Ze}{x y d:Xa}{xs ds:List Xa}{i j:Nat}{p q:Bool}{t u:FT}{S S':FS}{r:RS}
theorem EvV.cast{e:FE}{δ:Ze}{x y:Xa}(h:EvV e δ x)(k:x=y):EvV e δ y:=k▸h
theorem Za(h:δ[i]? =some (some (.fz d)):=by rfl):EvV (Zu i) δ d:=⟨_,by rw[Zyq,h,Zz1],OT.data_fz _⟩
theorem Ziu{t:OT}(h:δ[i]? =some (some t))(hd:t.data=d):EvV (Zko i) δ d:=⟨_,by rw[Z0d,h,Zyg],by rw[OT.data_fz,hd]⟩
theorem Z0:EvV (fC d) δ d:=⟨_,rfl,OT.data_fz _⟩
theorem Zj{g:Xa->Xa->Option Xa}(ha:EvV a δ x)(hb:EvV b δ y)(h:g x y=some d):EvV (Zh g a b) δ d:=by
 obtain⟨_,e1,d1⟩:=ha
 obtain⟨_,e2,d2⟩:=hb
 exact⟨_,by rw[Znu,e1,Xh,e2,Xh,d1,d2,h,Xh],OT.data_fz _⟩
theorem Zw0{g:Xa->Xa->Option OT}{o:OT}(ha:EvV a δ x)(hb:EvV b δ y)(h:g x y=some o)(hd:o.data=d):EvV (Yg g a b) δ d:=by
 obtain⟨_,e1,d1⟩:=ha
 obtain⟨_,e2,d2⟩:=hb
 exact⟨_,by rw[Zrc,e1,Xh,e2,Xh,d1,d2,h,Xh],hd⟩
theorem W6(ha:EvV a δ x)(hb:EvV b δ y)(h:gIx x y=some (.fz d)):EvV (Yg gIx a b) δ d:=Zw0 ha hb h (OT.data_fz _)
theorem W5{i j:Int}(ha:EvV a δ (.int i))(hb:EvV b δ (.int j)):EvV (Zh Zci a b) δ (.int (i+j)):=Zj ha hb rfl
theorem Zij{i j:Int}(ha:EvV a δ (.int i))(hb:EvV b δ (.int j)):EvV (Zh gSb a b) δ (.int (i-j)):=Zj ha hb rfl
theorem Yay{g:Xa->Option Xa}(ha:EvV a δ x)(h:g x=some d):EvV (fUn g a) δ d:=by
 obtain⟨_,e1,d1⟩:=ha
 exact⟨_,by rw[Z5a,e1,Xh,d1,h,Xh],OT.data_fz _⟩
theorem Zrq{T:String}(ha:EvV a δ x)(hf:Zh5 x=false:=by rfl):EvV (Zto T a) δ (.bool (Zqc T x)):=by
 obtain⟨_,e1,d1⟩:=ha
 exact⟨_,by rw[Zy2,e1,Xh,d1,if_neg (by rw[hf];decide)],OT.data_fz _⟩
theorem Zd:EvA Z3 δ []:=⟨_,rfl,Zeh⟩
theorem Zb(h:EvV e δ d)(k:EvA as δ ds):EvA (Zf e as) δ (d :: ds):=by
 obtain⟨_,e1,d1⟩:=h
 obtain⟨_,e2,d2⟩:=k
 exact⟨_,by rw[Zj0,e1,Xh,e2,Xh],by rw[Zde,d1,d2]⟩
theorem Zm{F:FD}(h:EvA as δ ds)(k:Told F ds d):EvV (Zw F as) δ d:=by
 obtain⟨_,e1,d1⟩:=h
 obtain⟨_,e2,d2⟩:=k
 exact⟨_,by rw[Zos,e1,Xh,d1,e2,Z56],d2⟩
theorem Zan{g:List Xa->Option Xa}(h:EvA as δ ds)(k:g ds=some d):EvV (Zjw g as) δ d:=by
 obtain⟨_,e1,d1⟩:=h
 exact⟨_,by rw[Z0q,e1,Xh,d1,k,Xh],OT.data_fz _⟩
theorem Z6d{g:List Xa->Option OT}{o:OT}(h:EvA as δ ds)(k:g ds=some o)(hd:o.data=d):EvV (fBl g as) δ d:=by
 obtain⟨_,e1,d1⟩:=h
 exact⟨_,by rw[Z7g,e1,Xh,d1,k,Xh],hd⟩
theorem Zc3:∀ts:List OT,(OT.datas ts).length=ts.length
 | []=>by rw[Zeh];rfl
 | t :: ts=>by rw[Zde,JS,JS,Zc3 ts]
theorem datas_map:∀ts:List OT,OT.datas ts=ts.map OT.data
 | []=>Zeh
 | t :: ts=>by rw[Zde,X3,datas_map ts]
theorem Zfw(h:EvA as δ ds)(hl:ds.length≤1000):EvV (Zkq as) δ (.tuple ds):=by
 obtain⟨ts,e1,d1⟩:=h
 have:=Zc3 ts
 rw[d1]at this
 exact⟨_,by rw[Zq3,e1,Xh,if_pos (by rw[Qc];show ts.length≤_;omega)],by rw[OT.data_fz];exact congrArg _ d1⟩
theorem Zaj(h:EvA as δ ds)(hl:ds.length≤1000):EvV (Zh3 as) δ (.list ds):=by
 obtain⟨ts,e1,d1⟩:=h
 have:=Zc3 ts
 rw[d1]at this
 exact⟨_,by rw[Zjn,e1,Xh,if_pos (by rw[Qc];show ts.length≤_;omega)],by rw[OT.data_nd,←datas_map,d1]⟩
theorem Zho{o:OT}{b:Bool}(h:o.data= .bool b):o= .fz (.bool b):=by
 cases o with
 | fz d=>rw[OT.data_fz]at h;rw[h]
 | nd ts=>rw[OT.data_nd]at h;cases h
 | tp ts=>rw[OT.data_tp]at h;cases h
 | dc _ _ _=>rw[OT.data_dc]at h;cases h
theorem Zdk(h:EvV e δ (.bool p)):EvT (tV e) δ p:=by
 obtain⟨_,e1,d1⟩:=h
 unfold EvT
 rw[Z9d,e1,Xh,Zho d1,Z7i]
theorem Yf8(h:EvV e δ d)(k:Zt1 d=some p):EvT (tD e) δ p:=by
 obtain⟨_,e1,d1⟩:=h
 unfold EvT
 rw[Z8g,e1,Xh,d1,k,Xh]
theorem Zkh(h:EvV e δ (.bool p)):EvT (tD e) δ p:=Yf8 h rfl
theorem Zln(h:EvT t δ p):EvT (tNo t) δ (!p):=by
 unfold EvT at h⊢
 rw[Z2f,h,Xh]
theorem Zvq(h:EvT t δ false)(k:EvT u δ p):EvT (tO t u) δ p:=by
 unfold EvT at h k⊢
 rw[Z6p,h,Xh,if_neg XC,k]
theorem Z4u(h:EvT t δ true):EvT (tO t u) δ true:=by
 unfold EvT at h⊢
 rw[Z6p,h,Xh,if_pos rfl]
theorem Yt(h:S δ= .nx δ')(k:S' δ'=r):Zz S S' δ=r:=by rw[Zhf,h,Zsa,k]
theorem Zlh{o:OT}(h:S δ= .rt o δ'):Zz S S' δ= .rt o δ':=by rw[Zhf,h,Zxp]
theorem Zq(h:EvV e δ d):wE e (Wx i) δ= .nx (δ.set i (some (.fz d))):=by
 obtain⟨_,e1,d1⟩:=h
 rw[Zaw,e1,Yo,Zx2,d1]
theorem Z31(h:EvV e δ d):∃o,wE e J6 δ= .rt o δ∧o.data=d:=by
 obtain⟨_,e1,d1⟩:=h
 exact⟨_,by rw[Zaw,e1,Yo,Zy4],d1⟩
theorem Ze2(h:EvT t δ true)(k:S δ=r):Zch t S S' δ=r:=by
 unfold EvT at h
 rw[Zsm,h,Yo,if_pos rfl,k]
theorem Jl(h:EvT t δ false)(k:S' δ=r):Zch t S S' δ=r:=by
 unfold EvT at h
 rw[Zsm,h,Yo,if_neg (by decide),k]
noncomputable def Zpd(S:FS)(δ:Ze)(d:Xa):Prop:=∃o δ',S δ= .rt o δ'∧o.data=d
theorem Yl(h:S δ= .nx δ')(k:Zpd S' δ' d):Zpd (Zz S S') δ d:=by
 obtain⟨o,δ2,e,hd⟩:=k
 exact⟨o,δ2,Yt h e,hd⟩
theorem Zt5(k:Zpd S δ d):Zpd (Zz S S') δ d:=by
 obtain⟨o,δ2,e,hd⟩:=k
 exact⟨o,δ2,Zlh e,hd⟩
theorem Wm(h:EvV e δ d):Zpd (wE e J6) δ d:=by
 obtain⟨o,e1,hd⟩:=Z31 h
 exact⟨o,δ,e1,hd⟩
theorem Zy3(h:EvT t δ true)(k:Zpd S δ d):Zpd (Zch t S S') δ d:=by
 obtain⟨o,δ2,e,hd⟩:=k
 exact⟨o,δ2,Ze2 h e,hd⟩
theorem Z1{np n:Nat}(hl:xs.length=np)(k:Zpd S (Zhc n xs) d):Told (J9 np n S) xs d:=by
 obtain⟨o,δ2,e,hd⟩:=k
 exact⟨o,by rw[Zdu hl,e,Zrh],hd⟩
noncomputable def EvO(o:FO)(δ:Ze)(l:Option Int):Prop:=o δ=some (l,δ)
theorem Yb5:EvO oN δ none:=rfl
theorem Yc0{i:Int}(h:EvV e δ (.int i)):EvO (oI e) δ (some i):=by
 obtain⟨_,e1,d1⟩:=h
 unfold EvO
 rw[Z8t,e1,Xh,d1,Znj]
theorem Z9x{lo hi:FO}{l h:Option Int}(he:EvV e δ (.list ds))(hl:EvO lo δ l)(hh:EvO hi δ h):EvV (fSl e lo hi) δ (.list (cutD ds l h)):=by
 obtain⟨_,e1,d1⟩:=he
 unfold EvO at hl hh
 exact⟨_,by rw[Z7f,e1,Xh,hl,Xh,hh,Xh,d1,Zs3],by rw[OT.data_nd,OT.map_fz]⟩
theorem Ziy{es:List Xa}(ha:EvV a δ (.list ds))(hb:EvV b δ (.list es))(h:ds.length+es.length≤1000000):EvV (Yg Zuv a b) δ (.list (ds ++ es)) :=
 Zw0 ha hb (Z5b (by rw[Qc];omega)) (by rw[OT.data_nd,OT.map_fz])
noncomputable def EvI(it:FI)(δ:Ze)(ds:List Xa):Prop:=it δ=some (ds,δ)
theorem Yx(h:EvV e δ (.list ds)):EvI (Zbb e) δ ds:=by
 obtain⟨_,e1,d1⟩:=h
 unfold EvI
 rw[Zzm,e1,Xh,d1,Zs3]
theorem Zap{n:Nat}(h:EvA as δ [.int n])(hn:n≤1000000):EvI (iRa as) δ (Zcg 0 n):=by
 obtain⟨_,e1,d1⟩:=h
 unfold EvI
 rw[Zxo,e1,Xh,d1,Z4o,Zqe (by omega) (by omega),QV]
theorem Zhg{it:FI}{g:FG}(h:EvI it δ ds)(k:forLoop g S ds δ=r):Wl it g S δ=r:=by
 unfold EvI at h
 rw[Zx8,h,Yo,k]
theorem Zb2{α:Type}{caps:List Nat}{it:FI}{me:FE}{cs:Ze}(xs:List α)(mk f:α->Xa)(hi:EvI it δ (xs.map mk))(hz:xs.length≤1000000)(hb:blk 1 caps δ=none :: cs)(h:∀x∈xs,EvV me (some (.fz (mk x)) :: cs) (f x)):EvV (Wc 1 caps it (gNm 0) Zhh me) δ (.list (xs.map f)):=by
 have g:∀x,∃o:OT,x∈xs->me (some (.fz (mk x)) :: cs)=some (o,some (.fz (mk x)) :: cs)∧o.data=f x:=λx=>by
  by_cases c:x∈xs
  ·obtain⟨o,h1,h2⟩:=h x c
   exact⟨o,λ_=>⟨h1,h2⟩⟩
  ·exact⟨.fz .none,λz=>absurd z c⟩
 obtain⟨o,ho⟩:=Classical.axiomOfChoice g
 unfold EvI at hi
 refine⟨_,Zdg (cs:=cs) xs mk o hi (by rw[Qc];omega) hb (λx hx=>(ho x hx).1),?_⟩
 rw[OT.data_nd,QD]
 exact congrArg _ (XH λx hx=>(ho x hx).2)
theorem Zo3{ts:List OT}(h:EvV e δ d)(hi:δ[i]? =some (some (.nd ts)))(hl:ts.length≤1000000):Zba i e δ= .nx (δ.set i (some (.nd (ts ++ [.fz d])))):=by
 obtain⟨_,e1,d1⟩:=h
 rw[Zps,hi,Zum,e1,Yo,hi,Zum,Zxi hl,d1]
theorem Zna{o:OT}(h:e δ=some (o,δ)):wE e (Zbe i) δ= .nx (δ.set i (some o)):=by rw[Zaw,h,Yo,Zuf]
theorem Z7x{o:OT}(h:δ[i]? =some (some o))(hd:o.data=d):Zpd (Zfh i) δ d:=⟨o,_,by rw[Zki,h,Zxx],hd⟩
theorem Zrb{o:OT}(h:δ[i]? =some (some o))(k:S (δ.set i (some (.fz o.data)))=r):Zhj i S δ=r:=by rw[Zpv,h,Zxx,k]
theorem Zy6(h:EvV e δ d):wE e Zmx δ= .nx δ:=by
 obtain⟨_,e1,d1⟩:=h
 rw[Zaw,e1,Yo,Zt4]
theorem Ztm{np n:Nat}(hl:xs.length=np)(k:S (Zhc n xs)= .nx δ'):Told (J9 np n S) xs .none:=⟨_,by rw[Zdu hl,k,Zx3],OT.data_fz _⟩
theorem Told.ok{F:FD}{b:Bool}(h:Told F ds (.bool b)):F ds= .ok (.fz (.bool b)):=by
 obtain⟨o,e1,d1⟩:=h
 rw[e1,Zho d1]
theorem Zgo{o:OT}{i:Int}(h:o.data= .int i):o= .fz (.int i):=by
 cases o with
 | fz d=>rw[OT.data_fz]at h;rw[h]
 | nd ts=>rw[OT.data_nd]at h;cases h
 | tp ts=>rw[OT.data_tp]at h;cases h
 | dc _ _ _=>rw[OT.data_dc]at h;cases h
theorem Told.int{F:FD}{i:Int}(h:Told F ds (.int i)):F ds= .ok (.fz (.int i)):=by
 obtain⟨o,e1,d1⟩:=h
 rw[e1,Zgo d1]
theorem Zsn{o:OT}(h:o.data= .none):o= .fz .none:=by
 cases o with
 | fz d=>rw[OT.data_fz]at h;rw[h]
 | nd ts=>rw[OT.data_nd]at h;cases h
 | tp ts=>rw[OT.data_tp]at h;cases h
 | dc _ _ _=>rw[OT.data_dc]at h;cases h
theorem Told.of{F:FD}{o:OT}(h:F ds= .ok o)(hd:o.data=d):Told F ds d:=⟨o,h,hd⟩
end
section
variable {e a b:FE}{as:FA}{δ δ':Ze}{x y d:Xa}{xs ds:List Xa}{i j:Int}{k:Nat}{p q:Bool}{t u:FT}{S S':FS}{r:RS}{Q:Xa->Prop}
theorem Zlv(ha:EvV a δ (.int i))(hb:EvV b δ (.int j))(h:j≠0):EvV (Zh Zix a b) δ (.int (i.fmod j)):=Zj ha hb (Z4n h)
theorem Z6i{i j:Int}(h:(decide (0<j)&&decide (j<18446744073709551616))=true):Zax (.int i) (.int j)=some (.int (i.fdiv j)):=by
 rw[XN,decide_eq_true_eq,decide_eq_true_eq]at h
 exact Zfc (Zfd (n:=64) (by omega) (Bt.of_lt (by omega) (by omega)))
theorem Z0a(ha:EvV a δ (.int i))(hb:EvV b δ (.int j))(h:(decide (0<j)&&decide (j<18446744073709551616))=true:=by decide):EvV (Zh Zax a b) δ (.int (i.fdiv j)):=Zj ha hb (Z6i h)
theorem Zms(ha:EvV a δ (.int i))(hb:EvV b δ (.int j))(h:i.natAbs<2^64:=by decide):EvV (Zh Zf4 a b) δ (.int (i*j)):=Zj ha hb (Jr (Z52 h))
theorem Zsi(ha:EvV a δ (.int i))(hb:EvV b δ (.int j))(h:decide (i<j)=p):EvV (Zh gLt a b) δ (.bool p):=h▸Zj ha hb rfl
theorem Z6a(ha:EvV a δ (.int i))(hb:EvV b δ (.int j))(h:decide (i≤j)=p):EvV (Zh gLe a b) δ (.bool p):=h▸Zj ha hb rfl
theorem Zq5(ha:EvV a δ (.int i))(hb:EvV b δ (.int j))(h:decide (j<i)=p):EvV (Zh gGt a b) δ (.bool p):=h▸Zj ha hb (Z8i _ _)
theorem Z7l(ha:EvV a δ (.int i))(hb:EvV b δ (.int j))(h:decide (j≤i)=p):EvV (Zh gGe a b) δ (.bool p):=h▸Zj ha hb (Yav _ _)
theorem Z0k(ha:EvV a δ (.int i))(hb:EvV b δ (.int j))(h:decide (i=j)=p):EvV (Zh gEq a b) δ (.bool p):=h▸Zj ha hb (Zzj _ _)
theorem Zp4(ha:EvV a δ (.int i))(hb:EvV b δ (.int j))(h:(!decide (i=j))=p):EvV (Zh gNe a b) δ (.bool p):=h▸Zj ha hb (Z8p _ _)
theorem Z5q(ha:EvV a δ (.int i)):EvV (fUn Z7u a) δ (.int (-i)):=Yay ha (Z68 _)
theorem Zn1{ds:List Xa}(h:EvV e δ (.list ds)):EvV (Zjw Zqd (Zf e Z3)) δ (.int ds.length):=Zan (Zb h Zd) (Zqg ds)
theorem Zw7(ha:EvV a δ (.list ds))(hb:EvV b δ (.int i))(h:atI ds i=some d):EvV (Yg gIx a b) δ d:=W6 ha hb (by rw[Zic,h];rfl)
noncomputable def Zp9(S:FS)(δ:Ze)(Q:Xa->Prop):Prop:=∃d,Zpd S δ d∧Q d
theorem Zdm(h:S δ= .nx δ')(k:Zp9 S' δ' Q):Zp9 (Zz S S') δ Q:=k.imp λ_ k=>⟨Yl h k.1,k.2⟩
theorem Zux(k:Zp9 S δ Q):Zp9 (Zz S S') δ Q:=k.imp λ_ k=>⟨Zt5 k.1,k.2⟩
theorem Zk9(h:EvV e δ d)(k:Q d):Zp9 (wE e J6) δ Q:=⟨d,Wm h,k⟩
theorem Z0t(h:EvT t δ true)(k:Zp9 S δ Q):Zp9 (Zch t S S') δ Q:=k.imp λ_ k=>⟨Zy3 h k.1,k.2⟩
theorem Zvo{np n:Nat}(hl:xs.length=np)(h:Zp9 S (Zhc n xs) Q):∃d,Told (J9 np n S) xs d∧Q d:=h.imp λ_ k=>⟨Z1 hl k.1,k.2⟩
theorem Zwe{it:FI}{g:FG}(I:Nat->Ze->Prop)(hi:EvI it δ ds)(h0:I 0 δ)(turn:∀(i:Nat) (d:Xa) (δ:Ze),ds[i]? =some d->I i δ->∃δ1 δ2,g d δ=some δ1∧(S δ1= .nx δ2∨S δ1= .ct δ2)∧I (i+1) δ2)(k:∀δ',I ds.length δ'->Zp9 S' δ' Q):Zp9 (Zz (Wl it g S) S') δ Q:=by
 obtain⟨δ',e,h⟩:=Znw I h0 turn
 exact Zdm (Zhg hi e) (k δ' h)
theorem Zhy{it:FI}{g:FG}(I:Nat->Ze->Prop)(hi:EvI it δ ds)(h0:I 0 δ)(turn:∀(i:Nat) (d:Xa) (δ:Ze),ds[i]? =some d->I i δ->∃δ1 δ2,g d δ=some δ1∧(S δ1= .nx δ2∨S δ1= .ct δ2)∧I (i+1) δ2)(k:∀δ',I ds.length δ'->Zpd S' δ' d):Zpd (Zz (Wl it g S) S') δ d:=by
 obtain⟨δ',e,h⟩:=Znw I h0 turn
 exact Yl (Zhg hi e) (k δ' h)
theorem Zag{it:FI}{g:FG}(I:Nat->Ze->Prop)(hi:EvI it δ ds)(h0:I 0 δ)(turn:∀(i:Nat) (d:Xa) (δ:Ze),ds[i]? =some d->I i δ->∃δ1 δ2,g d δ=some δ1∧(S δ1= .nx δ2∨S δ1= .ct δ2)∧I (i+1) δ2):∃δ',Wl it g S δ= .nx δ'∧I ds.length δ':=by
 obtain⟨δ',e,h⟩:=Znw I h0 turn
 exact⟨δ',Zhg hi e,h⟩
theorem Zyt{m n:Nat}(h:EvA as δ [.int m,.int n])(hm:m≤1000000)(hn:n≤1000000):EvI (iRb as) δ (Zcg m (n-m)):=by
 obtain⟨_,e1,d1⟩:=h
 unfold EvI
 rw[Z55,e1,Xh,d1,Z8j,Zyf (by omega) (by omega) (by omega) (by omega),show((n:Int)-(m:Int)).toNat=n-m by omega]
theorem Zlm:wE (Zh3 Z3) (Zbe k) δ= .nx (δ.set k (some (.nd []))):=Zna (by rw[Zjn];rfl)
theorem Znl{i:Int}(h:0<j):0≤i.fmod j:=by rw[Zgh h];exact Int.emod_nonneg _ (by omega)
theorem Znk{i:Int}(h:0<j):i.fmod j<j:=by rw[Zgh h];exact Int.emod_lt_of_pos _ h
theorem Zzc{es:List Xa}(h:EvA as δ ds)(hz:Z5j ds=some es):EvI (Zer as) δ es:=by
 obtain⟨_,e1,d1⟩:=h
 unfold EvI Zer
 rw[e1,Xh,d1,hz,Xh]
theorem Z2z{n:Nat}(hn:n≤1000000){v:Option OT}:(Zt7 (fC d) (Zu 1)) [v,some (.fz (.int n))]=some (.nd (Xx n (.fz d)),[v,some (.fz (.int n))]):=by
 obtain⟨_,e1,d1⟩:=Za (δ:=[v,some (.fz (.int n))]) (i:=1) (d:=.int n)
 rw[Zjx,Z4p,Xh,e1,Xh,d1,Znj,if_pos ⟨Zk6 (by omega) (by omega),by rw[Qc];omega⟩,QV,OT.data_fz]
theorem Zgl{it:FI}{g gg:FG}{δ1:Ze}(I:Nat->Ze->Prop){J:Ze->Prop}(hg:gg d δ=some δ1)(hi:EvI it δ1 ds)(h0:I 0 δ1)(turn:∀(i:Nat) (d:Xa) (δ:Ze),ds[i]? =some d->I i δ->∃δ1 δ2,g d δ=some δ1∧(S δ1= .nx δ2∨S δ1= .ct δ2)∧I (i+1) δ2)(hJ:∀δ',I ds.length δ'->J δ'):∃δ1 δ2,gg d δ=some δ1∧(Wl it g S δ1= .nx δ2∨Wl it g S δ1= .ct δ2)∧J δ2:=by
 obtain⟨δ',e,h⟩:=Znw I h0 turn
 exact⟨δ1,δ',hg,.inl (Zhg hi e),hJ δ' h⟩
theorem Z3x{T:String}(ha:EvV a δ x)(h:Zqc T x=p)(hf:Zh5 x=false:=by rfl):EvV (Zto T a) δ (.bool p):=(Zrq ha hf).cast (by rw[h])
theorem Zhr{a b:FE}{bs es:List Xa}{as:List Xa}(ha:EvV a δ (.list as))(hb:EvV b δ (.list bs))(hz:Zm1 as bs=es):EvI (Zer (Zf a (Zf b Z3))) δ es:=Zzc (Zb ha (Zb hb Zd)) (congrArg some hz)
theorem Z1o(ha:EvV a δ (.list ds)):EvI (Zt2 (Zf a Z3)) δ (Zjt ds):=by
 obtain⟨_,e1,d1⟩:=Zb ha Zd
 unfold EvI Zt2
 rw[e1,Xh]
 dsimp only
 rw[d1]
theorem Zuk{y:Str}{F:FD}(h:δ[k]? =some (some (.fz (fnD y))))(ha:EvA as δ ds)(hF:Told F ds d):EvV (Zg7 k y F as) δ d:=by
 obtain⟨o,e1,d1⟩:=Zm ha hF
 refine⟨o,?_,d1⟩
 unfold Zg7
 rw[h]
 dsimp only
 rw[if_pos (Zzb y),e1]
theorem Zeg{α:Type}{caps:List Nat}{it:FI}{me:FE}{t:FT}{cs:Ze}(xs:List α)(mk:α->Xa)(pr:α->Bool)(hi:EvI it δ (xs.map mk))(hz:xs.length≤1000000)(hb:blk 1 caps δ=none :: cs)(ht:∀x∈xs,EvT t (some (.fz (mk x)) :: cs) (pr x))(h:∀x∈xs,pr x=true->me (some (.fz (mk x)) :: cs)=some (.fz (mk x),some (.fz (mk x)) :: cs)):EvV (Wc 1 caps it (gNm 0) t me) δ (.list ((xs.filter pr).map mk)):=by
 unfold EvI at hi
 refine⟨_,Zqm (cs:=cs) xs mk pr (λx=>.fz (mk x)) hi (by rw[Qc];omega) hb (λx hx=>ht x hx) h,?_⟩
 rw[OT.data_nd,QD]
 exact congrArg _ (XH λx _=>OT.data_fz _)
theorem Told.none{F:FD}(h:Told F ds .none):F ds= .ok (.fz .none):=by
 obtain⟨o,e1,d1⟩:=h
 rw[e1,Zsn d1]
end
end L2
namespace My
open PySem L2 PySem.Spec
noncomputable def Jo:FS :=
 (Zz (wE (Zjw Z2c (Zf (Zu 0) Z3)) (Wx 0))
  (Zz (wE (Zjw Z2c (Zf (Zu 1) Z3)) (Wx 1))
  (Zz (Zio (tV (Zh gNe (Zu 1) (fC (.int 0)))) (Zz (wE (Zh Zix (Zu 0) (Zu 1)) (Wx 2))
  (Zz (wE (Zu 1) (Wx 0))
  (wE (Zu 2) (Wx 1)))))
  (wE (Zu 0) J6))))
noncomputable def Z2:FD:=J9 2 3 Jo
theorem Zjz{f1 f2:Int->Int->Option OT->Ze}{t:FT}{u:FS}(ht:∀x y z,t (f1 x y z)=some (!decide (y=0),f1 x y z))(hu:∀x y z,y≠0->∃z',u (f1 x y z)= .nx (f1 y (x.fmod y) z')) :
  ∀(n:Nat) (x y:Int) (z:Option OT),0≤x->0≤y->y.toNat<n->∃z',whileLoop t u n (f1 x y z)= .nx (f1 (JK x y:Int) 0 z')
 | 0,_,_,_,_,_,h=>absurd h (Qe _)
 | n+1,x,y,z,hx,hy,h=>by
  unfold whileLoop
  rw[ht]
  dsimp only
  by_cases c:y=0
  ·subst c
   refine⟨z,?_⟩
   simp only[decide_true,Bool.not_true,BZ,if_false]
   rw[Int.gcd_zero_right]
   congr 2
   omega
  ·simp only[c,decide_false,Bool.not_false,if_true]
   obtain⟨z1,e1⟩:=hu x y z c
   rw[e1]
   dsimp only
   have hm:x.fmod y=x%y:=Zgh (by omega)
   have h1:0≤x%y:=Int.emod_nonneg x c
   have h2:x%y<y:=Int.emod_lt_of_pos x (by omega)
   obtain⟨z2,e2⟩:=Zjz (f1:=f1) (f2:=f2) ht hu n y (x.fmod y) z1 hy (by omega) (by omega)
   exact⟨z2,by rw[e2,Ztv hx (by omega)]⟩
theorem Zao(a b:Int):Z2 [.int a,.int b]= .ok (.fz (.int (JK a b:Int))):=by
 obtain⟨z',e⟩:=Zjz (f1:=λx y z=>[some (.fz (.int x)),some (.fz (.int y)),z]) (f2:=λx y z=>[]) (t:=tV (Zh gNe (Zu 1) (fC (.int 0)))) (u:=Zz (wE (Zh Zix (Zu 0) (Zu 1)) (Wx 2)) (Zz (wE (Zu 1) (Wx 0)) (wE (Zu 2) (Wx 1)))) (λx y z=>Zdk (Zp4 Za Z0 rfl)) (λx y z hy=>⟨_,Yt (Zq (Zlv Za Za hy)) (Yt (Zq Za) (Zq Za))⟩) ((b.natAbs:Int).toNat+1) (a.natAbs:Int) (b.natAbs:Int) none (by omega) (by omega) (by omega)
 rw[Vf,Us,Us]at e
 exact Told.int<|Z1 rfl<|Yl (Zq (Zan (Zb Za Zd) (Ztb a)))<|Yl (Zq (Zan (Zb Za Zd) (Ztb b)))<|Yl (Zls _ e (by intro z;cases z)) (Wm Za)
noncomputable def Zcz:FS :=
 (Zz (wE (Zw Z2 (Zf (Zu 0) (Zf (Zu 1) Z3))) (Wx 2))
  (Zz (Zch (tV (Zh gLt (Zu 1) (fC (.int 0))))
  (wE (fUn Z7u (Zu 2)) (Wx 2))
  fNx)
  (wE (Zkq (Zf (Zh Zax (Zu 0) (Zu 2)) (Zf (Zh Zax (Zu 1) (Zu 2)) Z3))) J6)))
noncomputable def Wu:FD:=J9 2 3 Zcz
theorem Z4d{n:Nat}{t b:Int}(hb:b≠0)(hB:Bt n b)(hn:n≤9000)(s:Int)(e:s=shr t b):Zax (.int t) (.int s)=some (.int (Xv t b).num)∧Zax (.int b) (.int s)=some (.int ((Xv t b).den:Int)):=by
 subst e
 rw[Zfc (Zfd (Zwp hb) (Zv7 hb hB) hn),Zfc (Zfd (Zwp hb) (Zv7 hb hB) hn),Z05 hb,Z1c hb]
 exact⟨rfl,rfl⟩
theorem Zd1{n:Nat}{t b:Int}(hb:b≠0)(hB:Bt n b)(hn:n≤9000:=by decide):Told Wu [.int t,.int b] (frD (Xv t b)):=by
 have fin:∀{δ:Ze} {s:Int},s=shr t b->δ[0]? =some (some (.fz (.int t)))->δ[1]? =some (some (.fz (.int b)))->δ[2]? =some (some (.fz (.int s)))->Zpd (wE (Zkq (Zf (Zh Zax (Zu 0) (Zu 2)) (Zf (Zh Zax (Zu 1) (Zu 2)) Z3))) J6) δ (frD (Xv t b)):=λe h0 h1 h2=>by
  obtain⟨e1,e2⟩:=Z4d hb hB hn _ e
  exact Wm (Zfw (Zb (Zj (Za h0) (Za h2) e1) (Zb (Zj (Za h1) (Za h2) e2) Zd)) (show 2≤1000 by decide))
 have g:Told Z2 [.int t,.int b] _:=.of (Zao t b) (OT.data_fz _)
 by_cases c:b<0
 ·exact Z1 rfl<|Yl (Zq (Zm (Zb Za (Zb Za Zd)) g))<|Yl (Ze2 (Zdk (Zsi Za Z0 (decide_eq_true c))) (Zq (Z5q Za))) (fin (by unfold shr;rw[if_pos c]) rfl rfl rfl)
 ·exact Z1 rfl<|Yl (Zq (Zm (Zb Za (Zb Za Zd)) g))<|Yl (Jl (Zdk (Zsi Za Z0 (decide_eq_false c))) rfl) (fin (by unfold shr;rw[if_neg c]) rfl rfl rfl)
noncomputable def Zcw:FS :=
 (wE (Z7r (Zto "int" (Zu 0)) (fUn Z8n (Zto "bool" (Zu 0)))) J6)
noncomputable def Wn:FD:=J9 1 1 Zcw
theorem Zk4(i:Int):Wn [.int i]= .ok (.fz (.bool true)):=rfl
noncomputable def Zcy:FS :=
 (Zz (Zch (tO (tNo (tD (Zw Wn (Zf (Zu 0) Z3)))) (tO (tNo (tD (Zw Wn (Zf (Zu 1) Z3)))) (tV (Zh gEq (Zu 1) (fC (.int 0))))))
  (Znz "NoNumber")
  fNx)
  (wE (Zw Wu (Zf (Zu 0) (Zf (Zu 1) Z3))) J6))
noncomputable def Wt:FD:=J9 2 2 Zcy
theorem Zg5{n:Nat}{t b:Int}(hb:b≠0)(hB:Bt n b)(hn:n≤9000:=by decide):Told Wt [.int t,.int b] (frD (Xv t b)):=by
 have w:∀{i:Int},Told Wn [.int i] (.bool true):=fun{i}=>.of (Zk4 i) (OT.data_fz _)
 exact Z1 rfl<|Yl (Jl (Zvq (Zln (p:=true) (Zkh (Zm (Zb Za Zd) w))) (Zvq (Zln (p:=true) (Zkh (Zm (Zb Za Zd) w))) (Zdk (Z0k Za Z0 (decide_eq_false hb))))) rfl) (Wm (Zm (Zb Za (Zb Za Zd)) (Zd1 hb hB hn)))
noncomputable def Zaa:FS :=
 (Zz (wE (fC (.int 1)) (Wx 1))
  (Zz (Wl (Zbb (Zu 0)) (gNm 2)
  (wE (Zh Zf4 (Zh Zax (Zu 1) (Zw Z2 (Zf (Zu 1) (Zf (Yg gIx (Zu 2) (fC (.int 1))) Z3)))) (Yg gIx (Zu 2) (fC (.int 1)))) (Wx 1)))
  (wE (Zu 1) J6)))
noncomputable def Yi:FD:=J9 1 3 Zaa
noncomputable def prD(p:Int×Int):Xa:=.tuple [.int p.1,.int p.2]
theorem Ztz{a b B:Int}(ha:0<a)(hb:0<b)(h1:a∣B)(h2:b∣B)(hB:0<B):0<a.fdiv (JK a b)*b∧a∣a.fdiv (JK a b)*b∧b∣a.fdiv (JK a b)*b∧a.fdiv (JK a b)*b∣B:=by
 have hg:0<(JK a b:Int):=Zee (by omega)
 have d1:(JK a b:Int)∣a:=Int.gcd_dvd_left ..
 have d2:(JK a b:Int)∣b:=Int.gcd_dvd_right ..
 rw[Jc hg]
 have e:a/(JK a b:Int)*b=(Int.lcm a b:Int):=by
  have q:=Int.gcd_mul_lcm a b
  have h3:(JK a b:Int)*(Int.lcm a b:Int)=a*b:=by
   rw[←Int.natCast_mul,q,Int.natCast_mul,Int.natAbs_of_nonneg (by omega),Int.natAbs_of_nonneg (by omega)]
  obtain⟨k,hk⟩:=d1
  have e1:a/(JK a b:Int)=k:=Int.ediv_eq_of_eq_mul_right (by omega) hk
  rw[e1]
  apply Int.eq_of_mul_eq_mul_left (a:=(JK a b:Int)) (by omega)
  rw[h3,←Int.mul_assoc,←hk]
 rw[e]
 refine⟨?_,Int.dvd_lcm_left ..,Int.dvd_lcm_right ..,Int.coe_lcm_dvd h1 h2⟩
 have:Int.lcm a b≠0:=by
  rw[Ne,Int.lcm_eq_zero_iff]
  omega
 omega
theorem Ziw{n:Nat}{a B:Int}(hB:0<B)(h:a∣B)(b:Bt n B):Bt n a:=by
 refine Bt.of_le b ?_
 have:=Int.natAbs_dvd_natAbs.mpr h
 exact Nat.le_of_dvd (by omega) this
theorem Zb6{n:Nat}{B:Int}(hB:0<B)(bB:Bt n B)(hn:n≤9000:=by decide)(ps:List (Int×Int))(h:∀p∈ps,0<p.2∧p.2∣B) :
  ∃m,Told Yi [.list (ps.map prD)] (.int m)∧0<m∧(∀p∈ps,p.2∣m)∧m∣B:=by
 have key:∃d,Told Yi [.list (ps.map prD)] d∧∃m,d= .int m∧0<m∧(∀p∈ps,p.2∣m)∧m∣B:=by
  refine Zvo rfl<|Zdm (Zq Z0)<|Zwe (ds:=ps.map prD) (λi δ=>∃m z,δ=[some (.fz (.list (ps.map prD))),some (.fz (.int m)),z]∧0<m∧(∀j p,j<i->ps[j]? =some p->p.2∣m)∧m∣B) (Yx Za) ⟨1,none,rfl,by decide,λj p hj=>absurd hj (Qe j),Int.one_dvd _⟩ (λi d δ hd hi=>?_) λδ' hi=>?_
  ·obtain⟨m,z,hδ,h1,h2,h3⟩:=hi
   subst hδ
   rw[Xk]at hd
   cases e:ps[i]? with
   | none=>rw[e]at hd;cases hd
   | some p=>
    rw[e]at hd
    cases hd
    obtain⟨q1,q2⟩:=h p (X5 e)
    obtain⟨s1,s2,s3,s4⟩:=Ztz h1 q1 h3 q2 hB
    have g0:0<(JK m p.2:Int):=Zee (by omega)
    have bg:Bt n (JK m p.2:Int):=Ziw hB (Int.dvd_trans (Int.gcd_dvd_right ..) q2) bB
    have bm:Bt n (m.fdiv (JK m p.2)):=by
     rw[Jc g0]
     exact Bt.of_le (Ziw hB h3 bB) (Vt _ _)
    have at1:∀{δ:Ze},δ[2]? =some (some (.fz (prD p)))->EvV (Yg gIx (Zu 2) (fC (.int 1))) δ (.int p.2):=λh=>W6 (Za h) Z0 rfl
    refine⟨_,_,rfl,.inl (Zq (Zj (Zj Za (Zm (Zb Za (Zb (at1 rfl) Zd)) (.of (Zao m p.2) (OT.data_fz _))) (Zfc (Zfd (by omega) bg hn))) (at1 rfl) (Jr (Wk bm (Ziw hB q2 bB) (by omega))))),_,_,rfl,s1,λj p' hj hp=>?_,s4⟩
    by_cases z:j=i
    ·subst z
     rw[e]at hp;cases hp
     exact s3
    ·exact Int.dvd_trans (h2 j p' (by omega) hp) s2
  ·obtain⟨m,z,rfl,h1,h2,h3⟩:=hi
   refine Zk9 Za ⟨m,rfl,h1,λp hp=>?_,h3⟩
   obtain⟨j,hj⟩:=QH hp
   exact h2 j p (by have:=(Xg.mp hj).1;rwa[Xe]) hj
 obtain⟨d,h,m,rfl,hm⟩:=key
 exact⟨m,h,hm⟩
noncomputable def Zah:FS :=
 (Zz (wE (fC (.int 1)) (Wx 1))
  (Zz (Wl (Zbb (Zu 0)) (gNm 2)
  (wE (Zw Yi (Zf (Yg Zuv (Zh3 (Zf (Zkq (Zf (fC (.int 1)) (Zf (Zu 1) Z3))) Z3)) (Zu 2)) Z3)) (Wx 1)))
  (wE (Zu 1) J6)))
noncomputable def Yn:FD:=J9 1 3 Zah
theorem Zy5(r:List Rat):r.map frD=(r.map λq=>(q.num,(q.den:Int))).map prD:=by rw[QD];rfl
noncomputable def Z6x(T:List (List Rat))(B:Int):Prop:=∀r∈T,∀q∈r,(q.den:Int)∣B
theorem Zhv{n:Nat}{B:Int}(hB:0<B)(bB:Bt n B)(hn:n≤9000:=by decide)(T:List (List Rat))(hz:∀r∈T,r.length≤1000)(h:Z6x T B) :
  ∃m,Told Yn [tbD T] (.int m)∧0<m∧Z6x T m∧m∣B:=by
 have key:∃d,Told Yn [.list (T.map Zlw)] d∧∃m,d= .int m∧0<m∧Z6x T m∧m∣B:=by
  refine Zvo rfl<|Zdm (Zq Z0)<|Zwe (ds:=T.map Zlw) (λi δ=>∃m z,δ=[some (.fz (.list (T.map Zlw))),some (.fz (.int m)),z]∧0<m∧(∀j r,j<i->T[j]? =some r->∀q∈r,(q.den:Int)∣m)∧m∣B) (Yx Za) ⟨1,none,rfl,by decide,λj p hj=>absurd hj (Qe j),Int.one_dvd _⟩ (λi d δ hd hi=>?_) λδ' hi=>?_
  ·obtain⟨m,z,hδ,h1,h2,h3⟩:=hi
   subst hδ
   rw[Xk]at hd
   cases e:T[i]? with
   | none=>rw[e]at hd;cases hd
   | some r=>
    rw[e]at hd
    cases hd
    have hr:=X5 e
    obtain⟨m',e1,p1,p2,p3⟩:=Zb6 hB bB hn ((1,m) :: r.map λq=>(q.num,(q.den:Int))) λp hp=>by
     rcases Xo.mp hp with rfl|hp
     ·exact⟨h1,h3⟩
     ·obtain⟨q,hq,rfl⟩:=XF.mp hp
      exact⟨J4 q,h r hr q hq⟩
    rw[X3,←Zy5]at e1
    have hl:=hz r hr
    refine⟨_,_,rfl,.inl (Zq (Zm (Zb (Ziy (ds:=[prD (1,m)]) (es:=r.map frD) (Zaj (Zb (Zfw (Zb Z0 (Zb Za Zd)) (show 2≤1000 by decide)) Zd) (show 1≤1000 by decide)) Za (by rw[Xe,List.length_singleton];omega)) Zd) e1)),m',_,rfl,p1,λj r' hj hr' q hq=>?_,p3⟩
    by_cases z:j=i
    ·subst z
     rw[e]at hr';cases hr'
     exact p2 (q.num,(q.den:Int)) (.tail _ (XF.mpr ⟨q,hq,rfl⟩))
    ·exact Int.dvd_trans (h2 j r' (by omega) hr' q hq) (p2 (1,m) (.head _))
  ·obtain⟨m,z,rfl,h1,h2,h3⟩:=hi
   refine Zk9 Za ⟨m,rfl,h1,λr hr q hq=>?_,h3⟩
   obtain⟨j,hj⟩:=QH hr
   exact h2 j r (by have:=(Xg.mp hj).1;rwa[Xe]) hj q hq
 obtain⟨d,h,m,rfl,hm⟩:=key
 exact⟨m,h,hm⟩
noncomputable def scI(m:Int)(q:Rat):Int:=q.num*(m/(q.den:Int))
theorem Zwq{m:Int}{q:Rat}(h:(q.den:Int)∣m):(scI m q:Rat)=q*(m:Rat):=by
 obtain⟨k,rfl⟩:=h
 unfold scI
 rw[Int.mul_ediv_cancel_left _ (Zqf q)]
 rw[Rat.intCast_mul,Rat.intCast_mul,Yga,Rat.mul_assoc]
noncomputable def Zb8:FS :=
 (wE (Wc 1 [0] (Zbb (Zu 1)) (gNm 0) Zhh (Zh Zf4 (Yg gIx (Zu 0) (fC (.int 0))) (Zh Zax (Zu 1) (Yg gIx (Zu 0) (fC (.int 1)))))) J6)
noncomputable def W9:FD:=J9 2 2 Zb8
theorem Zfz{n:Nat}{m:Int}(hm:0<m)(bm:Bt n m)(r:List Rat)(hz:r.length≤1000)(h:∀q∈r,(q.den:Int)∣m∧Bt n q.num)(hn:n≤9000:=by decide) :
  Told W9 [.int m,Zlw r] (.list (r.map λq=>.int (scI m q))) :=
 Z1 rfl<|Wm<|Zb2 (cs:=[some (.fz (.int m))]) r frD (λq=>.int (scI m q)) (Yx Za) (by omega) rfl λq hq=>by
  obtain⟨h1,h2⟩:=h q hq
  refine(Zj (W6 (d:=.int q.num) Za Z0 rfl) (Zj Za (W6 (d:=.int (q.den:Int)) Za Z0 rfl) (Zfc (Zfd (Zqf q) (Ziw hm h1 bm) hn))) (Jr ?_)).cast ?_
  ·rw[Jc (J4 q)]
   exact Wk h2 (Bt.of_le bm (Vt _ _)) (by omega)
  ·rw[Jc (J4 q)];rfl
noncomputable def Zbj:FS :=
 (wE (Wc 1 [0] (Zbb (Zu 1)) (gNm 0) Zhh (Zw W9 (Zf (Zu 1) (Zf (Zu 0) Z3)))) J6)
noncomputable def Ww:FD:=J9 2 2 Zbj
theorem Zj8{n:Nat}{m:Int}(hm:0<m)(bm:Bt n m)(T:List (List Rat))(hT:T.length≤1000)(hz:∀r∈T,r.length≤1000)(h:Z6x T m)(hb:∀r∈T,∀q∈r,Bt n q.num)(hn:n≤9000:=by decide) :
  Told Ww [.int m,tbD T] (.list (T.map λr=>.list (r.map λq=>.int (scI m q)))) :=
 Z1 rfl<|Wm<|Zb2 (cs:=[some (.fz (.int m))]) T Zlw (λr=>.list (r.map λq=>.int (scI m q))) (Yx Za) (by omega) rfl λr hr=>Zm (Zb Za (Zb Za Zd)) (Zfz hm bm r (hz r hr) (λq hq=>⟨h r hr q hq,hb r hr q hq⟩) hn)
noncomputable def Zco:FS :=
 (Zz (wE (Zh3 Z3) (Zbe 1))
  (Zz (Wl (iRa (Zf (Zu 0) Z3)) (gNm 2)
  (Wl (iRb (Zf (Zh Zci (Zu 2) (fC (.int 1))) (Zf (Zu 0) Z3))) (gNm 3)
  (Zba 1 (Zkq (Zf (Zu 2) (Zf (Zu 3) Z3))))))
  (Zfh 1)))
noncomputable def Y9:FD:=J9 1 4 Zco
noncomputable def Wd(n:Nat):List (Nat×Nat):=(Xl n).flatMap λi=>(Xl (n-(i+1))).map λj=>(i,i+1+j)
noncomputable def ptD(p:Nat×Nat):Xa:=.tuple [.int p.1,.int p.2]
theorem Zfr{n:Nat}{p:Nat×Nat}(h:p∈Wd n):p.1<p.2∧p.2<n:=by
 unfold Wd at h
 obtain⟨i,hi,hp⟩:=VN.mp h
 obtain⟨j,hj,rfl⟩:=XF.mp hp
 have:=Qp.mp hi
 have:=Qp.mp hj
 dsimp only
 omega
theorem Ziz{n i j:Nat}(h:i<j)(hj:j<n):(i,j)∈Wd n:=by
 unfold Wd
 exact VN.mpr ⟨i,Qp.mpr (by omega),XF.mpr ⟨j-(i+1),Qp.mpr (by omega),by congr 1;omega⟩⟩
noncomputable def Zjc(n i:Nat):List (Nat×Nat):=(Xl i).flatMap λi=>(Xl (n-(i+1))).map λj=>(i,i+1+j)
theorem Zg2(n:Nat):∀i,(Zjc n i).length≤i*n
 | 0=>by simp[Zjc]
 | i+1=>by
  have:=Zg2 n i
  unfold Zjc at this⊢
  rw[List.range_succ,List.flatMap_append,Qy]
  simp only[List.flatMap_cons,List.flatMap_nil,QT,Xe,Xw]
  have e:(i+1)*n=i*n+n:=by rw[Nat.succ_mul]
  omega
theorem Zpp(n i:Nat):Zjc n (i+1)=Zjc n i ++ (Xl (n-(i+1))).map λj=>(i,i+1+j):=by
 unfold Zjc;rw[List.range_succ,List.flatMap_append];simp
theorem Zh2(n:Nat)(hn:n≤1000):Told Y9 [.int n] (.list ((Wd n).map ptD)):=by
 refine Z1 rfl<|Yl Zlm<|Zhy (ds:=Zcg 0 n) (λi δ=>∃z1 z2,δ=[some (.fz (.int n)),some (.nd (((Zjc n i).map ptD).map OT.fz)),z1,z2]) (Zap (Zb Za Zd) (by omega)) ⟨_,_,rfl⟩ (λi d δ hd h=>?_) λδ' h=>?_
 ·obtain⟨z1,z2,rfl⟩:=h
  obtain⟨hi,rfl⟩:=Z9 hd
  rw[Qw]
  have ln:=Zg2 n i
  have l2:i*n≤999*1000:=Nat.mul_le_mul (by omega) hn
  refine Zgl (ds:=Zcg ((i+1:Nat):Int) (n-(i+1))) (λj δ=>∃z,δ=[some (.fz (.int n)),some (.nd (((Zjc n i ++ (Xl j).map λj=>(i,i+1+j)).map ptD).map OT.fz)),some (.fz (.int i)),z]) rfl (Zyt (m:=i+1) (Zb (EvV.cast (W5 Za Z0) rfl) (Zb Za Zd)) (by omega) (by omega)) ⟨z2,by rw[List.range_zero,List.map_nil,QT];rfl⟩ (λj d δ hd h=>?_) λδ' h=>?_
  ·obtain⟨z,rfl⟩:=h
   obtain⟨hj,rfl⟩:=Z9 hd
   refine⟨_,_,rfl,.inl (Zo3 (Zfw (Zb Za (Zb Za Zd)) (show 2≤1000 by decide)) rfl (by rw[Xe,Xe,Qy,Xe,Xw];omega)),some (.fz (.int (((i+1:Nat):Int)+j))),?_⟩
   rw[List.range_succ]
   simp only[QF,Bu]
   rfl
  ·obtain⟨z,rfl⟩:=h
   rw[Z6,←Zpp]
   exact⟨_,_,rfl⟩
 ·obtain⟨z1,z2,rfl⟩:=h
  rw[Z6]
  exact Z7x rfl (by rw[OT.data_nd,OT.map_fz];rfl)
end My
namespace L2
open PySem PySem.Spec PyProof.Rows
variable {G:Xb}
section
variable {X:Cx}{io:List Nat}{p c:Bool}{e a b:Expr}{es:List Expr}{m mj:MEt}{pos apos cpos px sp kp:Pos}{i:Nat}{x:Str}{fa fb:FE}{st:Stmt}
noncomputable def Zo1(i:Nat)(mj m:MEt):MSt:=λD δ=>match δ[i]? with
 | some (some (.nd ts))=>mj δ λn _=>match n.data with
  | .int k=>match ixN ts.length k with
   | some j=>match ts[j]? with
    | some (.nd us)=>m δ λr _=>us.length<Xr∧D.nx (δ.set i (some (.nd (ts.set j (.nd (us ++ [.fz r.data]))))))
    | _=>False
   | none=>False
  | _=>False
 | _=>False
theorem Ztx(i:Nat)(hj:ME X io true c a mj)(he:ME X io true true e m)(hPa:Zgw a:=by exact λ_ _=>rfl)(hN:X.N[i]? =some x:=by rfl)(hv:Vis X.env.scope x:=by first|exact Qn rfl|exact Qi (Qn rfl)|exact Qi (Qi rfl))(hd:(x==("__debug__" : Str))=false:=by decide)
  (hcd:(x==("__classdict__" : Str))=false:=by decide)
  (hbase:Ud (.Subscript (.Name x px) a sp) "append" X.env (eval (.Subscript (.Name x px) a sp) X.env)=eval (.Subscript (.Name x px) a sp) X.env:=by rfl)
  (hfew:((JG cpos (Xp [e] X.env)).all (λx=>!x.1)&&(backToKw cpos (keywordEach [] X.env)).all (λx=>x.1.isSome)
   &&decide ([e].length+([]:List V5).length+(if([]:List V5).isEmpty then 0 else 1)<30))=true:=by rfl)
  (hline:(apos.endLine==cpos.line)=true:=by rfl) (hs:Xp [e] X.env=(false,eval e X.env) :: Xp [] X.env:=by rfl) (hplain:(JG cpos (Xp [] X.env)).any (·.1)=false:=by rfl)
  (hsw:Vm (.Call (.Attribute (.Subscript (.Name x px) a sp) "append" apos) [e] [] cpos) none pos.line X.env=pure false:=by rfl) :
  MS X io (.Expr (.Call (.Attribute (.Subscript (.Name x px) a sp) "append" apos) [e] [] cpos) pos) (Zo1 i mj m):=by
 obtain⟨_,A,s⟩:=he
 obtain⟨_,B,sj⟩:=hj
 refine⟨_,Zj7 (Z1f Uz Ur Uq Zed (Z1k (Zoi rfl) (pv i hN hv hd hcd) B hPa) (Zbs A Zh1 hs) hbase hfew hline hs hplain) hsw,λC H σ δ fp ex D D' R h E=>?_⟩
 unfold Zo1 at h
 split at h
 case h_2=>exact h.elim
 rename_i ts hi
 obtain⟨a',_,_,hv0,_⟩:=R.ownNd hi
 refine⟨_,hv0,?_⟩
 refine sj.pureAfter R h λH2 w n R2 s2 q2 h2=>?_
 obtain⟨k,rfl,h2⟩:=q2.intInv h2
 split at h2
 case h_2=>exact h2.elim
 rename_i j hj
 split at h2
 case h_2=>exact h2.elim
 rename_i us hus
 obtain⟨a2,xs2,bs2,hv2,hx2,o2,hf2⟩:=R2.ownNd hi
 rw[hv0]at hv2
 cases hv2
 obtain⟨xr,cr,hxr,orow,_⟩:=o2.get hus
 obtain⟨b',ws0,rfl,hb0⟩:∃b' ws0,xr=V.ref b'∧H2 b'=some (.lst ws0):=by
  cases orow with
  | nd h r=>exact⟨_,_,rfl,h⟩
 refine⟨a',xs2,k,V.ref b',rfl,rfl,.inl (.inl hx2),?_,?_⟩
 ·unfold atI
  rw[o2.length,hj]
  exact hxr
 refine⟨.inl ⟨rfl,ws0,.inl (.inl hb0)⟩,?_⟩
 refine s.pureAfter R2 h2 λH3 v r R3 s3 q h3=>?_
 obtain⟨a3,xs3,bs3,hv3,hx3,o3,hf3⟩:=R3.ownNd hi
 rw[hv0]at hv3
 cases hv3
 have exs:xs3=xs2:=by
  have:=s3 _ _ hx2
  rw[hx3]at this
  cases this;rfl
 subst exs
 obtain⟨xr3,cr3,hxr3,orow3,hsub3⟩:=o3.get hus
 rw[hxr]at hxr3
 cases hxr3
 have nd3:=R3.nd i
 rw[hf3]at nd3
 have hn3:=Qj.mp nd3
 cases orow3 with
 | nd hb r3=>
  rename_i ws3 bs4
  have hbm:b'∈bs3:=hsub3.subset (.head _)
  have hbf:b'∈fp i:=by rw[hf3];exact .tail _ hbm
  have hLb:¬Lf C fp ex b':=λl=>l.1 ⟨i,hbf⟩
  have q':=q.wide (L':=Lf C fp ex) λa l _=>l rfl
  obtain⟨as',oo,ss,_⟩:=Owns.deep (ws':=ws3 ++ [v]) (us':=us ++ [.fz r.data]) hb hLb (λcs hcs=>⟨cs,by have:=hcs.snoc (.fz q');simpa using this,List.Sublist.refl _⟩) o3 hn3.2 hxr hus
  refine⟨b',ws3,v,rfl,rfl,hb,by rw[r3.length];exact h3.1,?_⟩
  have hba:a'≠b':=λz=>hn3.1 (z▸hbm)
  have sub:∀a,a∈a' :: as'->a∈fp i:=λa m=>by
   rw[hf3]
   rcases Xo.mp m with rfl|m
   ·exact .head _
   ·exact .tail _ (ss.subset m)
  have kp:∀b o,H3 b=some o->b≠b'->upd H3 b' (.lst (ws3 ++ [v])) b=some o:=λb o e n=>by rw[Zr n];exact e
  have lw:∀a,Lf C fp ex a->upd H3 b' (.lst (ws3 ++ [v])) a≠none->Lf C (fpu fp i (a' :: as')) (exu ex []) a:=λa l _=>⟨λz=>by
   rcases z.of_u with z|⟨j,_,z⟩
   ·exact l.1 ⟨i,sub a z⟩
   ·exact l.1 ⟨j,z⟩,λz=>l.2.1 (Za4.mp z),l.2.2⟩
  obtain⟨R4,S4⟩:=R3.change (new:=[]) (as':=a' :: as') (t':=.nd (ts.set j (.nd (us ++ [.fz r.data])))) (H':=upd H3 b' (.lst (ws3 ++ [v]))) hi hv0 (λb o e nb=>kp b o e λz=>nb (by rw[z];exact hbf)) (λb e=>by
   by_cases q:b=b'
   ·subst q;rw[Zx]at e;cases e
   ·rwa[Zr q]at e) (.nd (by rw[Zr hba];exact hx3) (oo.wide lw)) (Qj.mpr ⟨λm=>hn3.1 (ss.subset m),hn3.2.sublist ss⟩) (λa m=>.inl (sub a m)) (λa m=>nomatch m)
  have k1:Kp H fp H3 fp:=⟨λb o e _=>s3 _ _ (s2 _ _ e),λz=>(nomatch z),λa z=>.inl z,λb e=>s2.al b (s3.al b e)⟩
  exact E.nx _ σ _ _ (R4.drop λa z=>.inl z) (k1.trans S4.kp) h3.2
noncomputable def Zit(i:Nat)(j e:FE):FS:=λδ=>match δ[i]? with
 | some (some (.nd ts))=>wE j (λn _=>match n.data with
  | .int k=>match ixN ts.length k with
   | some j=>match ts[j]? with
    | some (.nd us)=>wE e (λr _=>if us.length<Xr then .nx (δ.set i (some (.nd (ts.set j (.nd (us ++ [.fz r.data]))))))else .bad) δ
    | _=>.bad
   | none=>.bad
  | _=>.bad) δ
 | _=>.bad
theorem Zvf(h:MS X io st (Zo1 i (o2 fb) (o2 fa))):MS X io st (oS (Zit i fb fa)):=h.weak λD δ h=>by
 unfold oS Zit at h;unfold Zo1
 split at h
 case h_2=>exact h.elim
 rename_i q;(try rw[q]);(try dsimp only)
 refine(Znh h).imp λn δ' z=>?_
 split at z
 case h_2=>exact z.elim
 rename_i k q1;(try rw[q1]);(try dsimp only)
 split at z
 case h_2=>exact z.elim
 rename_i j q2;(try rw[q2]);(try dsimp only)
 split at z
 case h_2=>exact z.elim
 rename_i us q3;(try rw[q3]);(try dsimp only)
 exact(Znh z).imp λr δ' z=>Zi8 z
end
variable {G:Xb}
section
variable {X:Cx}{io:List Nat}{p c:Bool}{e tg:Expr}{m:MEt}
noncomputable def Z3e(z:Str):List Xa:=z.cps.toList.map λc=>.str ⟨#[c]⟩
noncomputable def iS(m:MEt):MIt:=λδ K=>m δ λr δ'=>match r.data with| .str z=>K (Z3e z) δ'|_=>False
end
variable {G:Xb}
noncomputable def Sg(z:Str)(t:Tok)(it:Addr)(i:Nat)(h:Heap):Prop:=h.IsStrIter it "str_ascii_iterator" z t i∨h.IsStrIter it "str_iterator" z t i
theorem Sg.keep{z:Str}{t:Tok}{it:Addr}{i:Nat}{h h':Heap}(q:Sg z t it i h)(k:∀o,h.get? it=some o->h'.get? it=some o):Sg z t it i h' :=
 q.imp (λ⟨o,a,b⟩=>⟨o,k o a,b⟩) λ⟨o,a,b⟩=>⟨o,k o a,b⟩
section
variable {P:X4}{w:Qs}{A:Qm}{E:Xc->Xd->Prop}{s:Xd}
structure Ap(z TI TO i1 i2:Addr):Prop where
 a1:TI≠z
 a2:TO≠z
 a3:i1≠z
 a4:i2≠z
 a5:i1≠TO
 a6:i2≠TO
 a7:i1≠i2
 a8:TI≠TO
 a9:TI≠i1
 a10:TI≠i2
noncomputable abbrev yT1(h:Heap)(x:Str)(t:Tok):Heap:=h.push { cls:=.type (strIterType x),data:=.fields #[.str x t,.int 0 0] }
noncomputable abbrev yT2(h:Heap)(x y:Str)(t u:Tok):Heap:=yT1 (yT1 h x t) y u
noncomputable abbrev yT3(h:Heap)(x y:Str)(t u:Tok):Heap:=(yT2 h x y t u).push { cls:=.type "tuple",data:=.seq #[.ref h.objs.size,.ref (yT1 h x t).objs.size] }
noncomputable abbrev yT4(h:Heap)(x y:Str)(t u:Tok):Heap:=(yT3 h x y t u).push { cls:=.type "tuple",data:=.seq #[.none,.none] }
noncomputable abbrev yT5(h:Heap)(x y:Str)(t u:Tok):Heap:=(yT4 h x y t u).push { cls:=.type "zip",data:=.fields #[.none,.bool false,.bool false,.ref (yT2 h x y t u).objs.size,.ref (yT3 h x y t u).objs.size] }
theorem Sg.at{h:Heap}{x:Str}{t:Tok}{it:Addr}(e:h.get? it=some { cls:=.type (strIterType x),data:=.fields #[.str x t,.int 0 0] }):Sg x t it 0 h:=by
 unfold strIterType at e
 split at e
 ·exact .inl ⟨_,e,rfl,rfl⟩
 ·exact .inr ⟨_,e,rfl,rfl⟩
end
section
variable {X:Cx}{io:List Nat}{p c:Bool}{a b:Expr}{mr:MAt}{ra:FA}
end
end L2
namespace L2
open PySem PySem.Spec PyProof.Rows PySem.W
theorem Zen{α β:Type}{lt:Nat->Nat->Bool}{f:α->KasT β}(t:KasT α):kEv lt (t.bind f)=kEv lt (f (kEv lt t)):=by
 induction t with
 | ret a=>rfl
 | ask i j k ih=>exact ih _
structure Tot(lt:Nat->Nat->Bool)(n:Nat):Prop where
 tr:∀i j k,i<n->j<n->k<n->lt i j=true->lt j k=true->lt i k=true
 tot:∀i j,i<n->j<n->i≠j->lt i j=false->lt j i=true
 asy:∀i j,i<n->j<n->lt i j=true->lt j i=false
section
variable {lt:Nat->Nat->Bool}{n:Nat}
noncomputable abbrev gD(p:Array Nat)(i:Nat):Nat:=p.getD i 0
theorem kP.size{p:Array Nat}(h:kP n p):p.size=n:=by rw[←Bx,List.Perm.length_eq h,Xw]
theorem Zm8{p:Array Nat}{i:Nat}(h:i<p.size):p[i]? =some (gD p i):=by rw[Array.getElem?_eq_getElem h];simp[gD,Array.getD,h]
theorem Zv0{p q:Array Nat}{i j:Nat}(h:p[i]? =q[j]?):gD p i=gD q j:=by
 show p.getD i 0=q.getD j 0
 rw[Array.getD_eq_getD_getElem?,Array.getD_eq_getD_getElem?,h]
theorem kP.blw{p:Array Nat}(h:kP n p){i:Nat}(hi:i<n):gD p i<n:=h.at (Bl (QZ _) hi) i
theorem kP.ne{p:Array Nat}(h:kP n p){i j:Nat}(hi:i<j)(hj:j<n):gD p i≠gD p j:=λe=>by
 have nd:p.toList.Nodup:=(List.Perm.nodup_iff h).mpr List.nodup_range
 have sz:=h.size
 have a:=Zm8 (p:=p) (i:=i) (by omega)
 have b:=Zm8 (p:=p) (i:=j) (by omega)
 rw[←JL]at a b
 obtain⟨a1,a2⟩:=Xg.mp a
 obtain⟨b1,b2⟩:=Xg.mp b
 exact Ux.mp nd i j a1 b1 hi (by rw[a2,b2,e])
noncomputable def Ri(lt:Nat->Nat->Bool)(p:Array Nat)(m:Nat):Prop:=∀i j,i<j->j<m->lt (gD p i) (gD p j)=true
noncomputable def Fa(lt:Nat->Nat->Bool)(p:Array Nat)(m:Nat):Prop:=∀i j,i<j->j<m->lt (gD p j) (gD p i)=true
variable (T:Tot lt n)
include T
theorem Zwx{p:Array Nat}(h:kP n p)(f:Nat):∀m,1≤m->m+f≤n->Ri lt p m->Ri lt p (kEv lt (kas_asc p f m))∧m≤kEv lt (kas_asc p f m)∧kEv lt (kas_asc p f m)≤m+f∧(kEv lt (kas_asc p f m)<m+f->lt (gD p (kEv lt (kas_asc p f m))) (gD p (kEv lt (kas_asc p f m)-1))=true):=by
 induction f with
 | zero=>exact λm _ _ r=>⟨r,XQ _,XQ _,λz=>absurd z (QQ _)⟩
 | succ f ih=>
  intro m h1 hn r
  show _∧_
  rw[kas_asc,kEv]
  cases c:lt (p.getD m 0) (p.getD (m-1) 0)with
  | true=>
   rw[if_pos rfl,kEv]
   exact⟨r,XQ _,Bk _ _,λ_=>c⟩
  | false=>
   rw[if_neg XC]
   have up:lt (gD p (m-1)) (gD p m)=true:=T.tot _ _ (h.blw (by omega)) (h.blw (by omega)) (h.ne (by omega) (by omega)).symm c
   have r2:Ri lt p (m+1):=λi j hij hj=>by
    rcases Ve j m with q|q
    ·exact r i j hij q
    ·have:j=m:=by omega
     subst this
     rcases Ve i (j-1)with q2|q2
     ·exact T.tr _ _ _ (h.blw (by omega)) (h.blw (by omega)) (h.blw (by omega)) (r i (j-1) q2 (by omega)) up
     ·have:i=j-1:=by omega
      subst this
      exact up
   obtain⟨a,b,c,d⟩:=ih (m+1) (by omega) (by omega) r2
   exact⟨a,by omega,by omega,λz=>d (by omega)⟩
theorem Z0u{p:Array Nat}(h:kP n p)(f:Nat):∀m,1≤m->m+f≤n->Fa lt p m->∃m',kEv lt (kas_desc f p m 0)=(p,m',0)∧Fa lt p m'∧m≤m'∧m'≤m+f:=by
 induction f with
 | zero=>exact λm _ _ r=>⟨m,rfl,r,XQ _,XQ _⟩
 | succ f ih=>
  intro m h1 hn r
  rw[kas_desc,kEv]
  cases c:lt (p.getD m 0) (p.getD (m-1) 0)with
  | true=>
   rw[if_pos rfl,if_neg (QQ _)]
   have r2:Fa lt p (m+1):=λi j hij hj=>by
    rcases Ve j m with q|q
    ·exact r i j hij q
    ·have:j=m:=by omega
     subst this
     rcases Ve i (j-1)with q2|q2
     ·exact T.tr _ _ _ (h.blw (by omega)) (h.blw (by omega)) (h.blw (by omega)) c (r i (j-1) q2 (by omega))
     ·have:i=j-1:=by omega
      subst this
      exact c
   obtain⟨m',e,a,b,d⟩:=ih (m+1) (by omega) (by omega) r2
   exact⟨m',e,a,by omega,by omega⟩
  | false=>
   rw[if_neg XC,kEv]
   have up:lt (p.getD (m-1) 0) (p.getD m 0)=true:=T.tot _ _ (h.blw (by omega)) (h.blw (by omega)) (h.ne (by omega) (by omega)).symm c
   rw[up,if_pos rfl,kEv]
   exact⟨m,rfl,r,XQ _,Bk _ _⟩
theorem Zun{p:Array Nat}(h:kP n p)(h0:0<n):∃m p',kEv lt (kas_count n p)=(m,p')∧kP n p'∧Ri lt p' m∧1≤m∧m≤n:=by
 rw[kas_count,Zen]
 obtain⟨a,b,c,d⟩:=Zwx T h (n-1) 1 (XQ _) (by omega) λi j _ _=>by omega
 generalize kEv lt (kas_asc p (n-1) 1)=m at a b c d
 by_cases e:m=n
 ·rw[if_pos (by rw[e];exact beq_self_eq_true _),kEv]
  exact⟨m,p,rfl,h,a,b,by omega⟩
 rw[if_neg (λz=>e (beq_iff_eq.mp z))]
 by_cases m1:m>1
 ·rw[if_pos m1,kEv,a 0 (m-1) (by omega) (by omega),if_pos rfl,kEv]
  exact⟨m,p,rfl,h,a,b,by omega⟩
 rw[if_neg m1]
 have em:m=1:=by omega
 subst em
 have lt1:=d (by omega)
 rw[kas_descPart,Zen]
 obtain⟨m',e2,f2,b2,d2⟩:=Z0u T h (n-(1+1)) (1+1) (by omega) (by omega) λi j hij hj=>by
  have:i=0:=by omega
  have:j=1:=by omega
  subst i j
  exact lt1
 rw[e2,if_neg (QQ _),kas_tail3,Zen,kEv]
 have kr:kP n (kas_rev p 0 m'):=h.rev _ _
 have rr:Ri lt (kas_rev p 0 m') m':=λi j hij hj=>by
  have ge:∀k,k<m'->gD (kas_rev p 0 m') k=gD p (m'-1-k):=λk hk=>Zv0 (by
   have:=getElem?_mirror_all (xs:=p) (i:=0) (j:=m') (by rw[h.size];omega) k
   rw[if_pos ⟨QZ _,hk⟩,Vr]at this
   exact this)
  rw[ge i (by omega),ge j hj]
  exact f2 _ _ (by omega) (by omega)
 obtain⟨a,b,c,_⟩:=Zwx T kr (n-m') m' (by omega) (by omega) rr
 have n2:2≤n:=by omega
 have:m'≤n:=by omega
 refine⟨_,_,rfl,kr,a,?_,?_⟩
 ·exact Qg (by omega) b
 ·exact Qg c (by omega)
theorem Zu6{p:Array Nat}(h:kP n p){k:Nat}(hk:k<n)(f:Nat):∀l r,l≤r->r≤k->r-l≤f->(∀i,i<l->lt (gD p i) (gD p k)=true)->(∀i,r≤i->i<k->lt (gD p k) (gD p i)=true)->Ri lt p k ->
  kEv lt (kas_place p k f l r)≤k∧(∀i,i<kEv lt (kas_place p k f l r)->lt (gD p i) (gD p k)=true)∧∀i,kEv lt (kas_place p k f l r)≤i->i<k->lt (gD p k) (gD p i)=true:=by
 induction f with
 | zero=>
  intro l r lr rk z a b R
  have:l=r:=by omega
  subst this
  exact⟨rk,a,b⟩
 | succ f ih=>
  intro l r lr rk z a b R
  rw[kas_place]
  by_cases c:l≥r
  ·rw[if_pos c,kEv]
   exact⟨by omega,a,λi x y=>b i (by omega) y⟩
  rw[if_neg c,kEv]
  have hm:(l+r)/2<k:=by omega
  cases q:lt (p.getD k 0) (p.getD ((l+r)/2) 0)with
  | true=>
   rw[if_pos rfl]
   refine ih _ _ (by omega) (by omega) (by omega) a (λi x y=>?_) R
   by_cases e:i=(l+r)/2
   ·subst e;exact q
   ·exact T.tr _ _ _ (h.blw hk) (h.blw (by omega)) (h.blw (by omega)) q (R _ _ (by omega) y)
  | false=>
   rw[if_neg XC]
   have up:lt (gD p ((l+r)/2)) (gD p k)=true:=T.tot _ _ (h.blw hk) (h.blw (by omega)) (h.ne hm hk).symm q
   refine ih _ _ (by omega) (by omega) (by omega) (λi x=>?_) b R
   by_cases e:i=(l+r)/2
   ·subst e;exact up
   ·exact T.tr _ _ _ (h.blw (by omega)) (h.blw (by omega)) (h.blw hk) (R _ _ (by omega) hm) up
theorem Z59(f:Nat):∀{p:Array Nat} (h:kP n p) (k:Nat),k+f≤n->Ri lt p k->Ri lt (kEv lt (kas_bin f p k)) (k+f):=by
 induction f with
 | zero=>exact λh k _ r=>r
 | succ f ih=>
  intro p h k hn r
  rw[kas_bin,Zen]
  obtain⟨a,b,c⟩:=Zu6 T h (k:=k) (by omega) k 0 k (QZ _) (XQ _) (by omega) (λi z=>absurd z (Qe _)) (λi x y=>absurd y (by omega)) r
  generalize kEv lt (kas_place p k k 0 k)=l at a b c
  have ge:∀j,gD (bubble p k (k-l)) j=if j=l then gD p k else if l<j∧j≤k then gD p (j-1)else gD p j:=λj=>by
   have e:=getElem?_bubble (xs:=p) (src:=k) (by rw[h.size];omega) (k-l) (by omega) j
   have e0:k-(k-l)=l:=by omega
   rw[e0]at e
   by_cases c1:j=l
   ·rw[if_pos c1]at e⊢
    exact Zv0 e
   ·rw[if_neg c1]at e⊢
    by_cases c2:l<j∧j≤k
    ·rw[if_pos c2]at e⊢
     exact Zv0 e
    ·rw[if_neg c2]at e⊢
     exact Zv0 e
  have:=ih (h.bub k (k-l)) (k+1) (by omega) λi j hij hj=>?_
  ·rw[show k+1+f=k+(f+1) by omega]at this
   exact this
  rw[ge,ge]
  rcases UT j l with q|q|q
  ·rw[if_neg (by omega),if_neg (by omega),if_neg (by omega),if_neg (by omega)]
   exact r i j hij (by omega)
  ·rw[if_neg (by omega),if_neg (by omega),if_pos q]
   exact b i (by omega)
  ·rw[if_neg (show¬j=l by omega),if_pos (show l<j∧j≤k by omega)]
   rcases UT i l with q2|q2|q2
   ·rw[if_neg (by omega),if_neg (by omega)]
    exact r i (j-1) (by omega) (by omega)
   ·rw[if_pos q2]
    exact c (j-1) (by omega) (by omega)
   ·rw[if_neg (by omega),if_pos (by omega)]
    exact r (i-1) (j-1) (by omega) (by omega)
theorem Z1p(h0:0<n):Ri lt (kEv lt (U0 n)) n:=by
 rw[U0,Zen]
 obtain⟨m,p,e,kp,r,l1,l2⟩:=Zun T (p:=Vp (Xl n)) (List.Perm.refl _) h0
 rw[e]
 by_cases c:m<n
 ·rw[if_pos c]
  have em:max m 1=m:=by omega
  rw[em]
  have:=Z59 T (n-m) kp m (by omega) r
  rw[show m+(n-m)=n by omega]at this
  exact this
 ·rw[if_neg c,kEv]
  have:m=n:=by omega
  rw[this]at r
  exact r
theorem Zx1(h0:0<n):(Zts lt n).Pairwise λi j=>lt i j=true:=by
 have h:kP n (kEv lt (U0 n)):=(Zgp h0).ev (P:=kP n)
 have r:=Z1p T h0
 refine Ux.mpr λi j hi hj hij=>?_
 have sz:=h.size
 rw[←Bx]at sz
 have l2:(Zts lt n).length=n:=sz
 have ge:∀k (hk:k<(Zts lt n).length),(Zts lt n)[k]=gD (kEv lt (U0 n)) k:=λk hk=>by
  have:=Zm8 (p:=kEv lt (U0 n)) (i:=k) (by rw[h.size];omega)
  rw[←JL]at this
  exact(Xg.mp this).2
 rw[ge,ge]
 exact r i j hij (by omega)
end
theorem Zz0{α β:Type}{d:α}{lt:Nat->Nat->Bool}{vs:List α}{R:α->α->Prop}(T:Tot lt vs.length)(hR:∀i j,i<vs.length->j<vs.length->lt i j=true->R (vs.getD i d) (vs.getD j d)):(sLay d lt vs).Pairwise R:=by
 unfold sLay
 split
 ·rename_i c
  match vs,c with
  | [],_=>exact .nil
  | [a],_=>exact U7 _ _
 ·rename_i c
  have pm:=Zhm (lt:=lt) (n:=vs.length) (by omega)
  have up:=Zx1 T (by omega)
  have h:=List.Pairwise.imp_of_mem (fun{i j} hi hj e=>hR i j (Qp.mp (pm.mem_iff.mp hi)) (Qp.mp (pm.mem_iff.mp hj)) e) up
  exact List.pairwise_map.mpr h
end L2
namespace My
open PySem L2 PySem.Spec
noncomputable abbrev Zff:=fC (.int 0)
noncomputable abbrev Z93:=Yg gIx (Zko 0) Zff
noncomputable abbrev Zce:=Zu 1
noncomputable abbrev Zf2:=Zu 2
noncomputable def Zcs:FS :=
 (Zz (wE (Zh Zix Z93 Zce) (Wx 2))
  (Zz (Z14 0 (Zh Zax Z93 Zce) Zff)
  (wE Zf2 J6)))
noncomputable def Zn:FIO:=Zsj 2 3 Zcs
noncomputable abbrev Zfl:=fC (.int 1)
noncomputable abbrev Z0f:=fC (.int 10)
noncomputable abbrev Zw8:=fC (.int 3)
noncomputable def Zbl:FS :=
 (wE (Zh Zci Zfl (W0 0 Zn (Zf (Yg gIx (Zh3 (Zf Zfl (Zf (fC (.int 12)) (Zf (Zh Zkp Z0f (fC (.int 9))) Z3)))) (W0 0 Zn (Zf Zw8 Z3))) Z3))) J6)
noncomputable def J1:FIO:=Zsj 1 1 Zbl
noncomputable abbrev Jg:=Zu 0
noncomputable def Zcv:FS :=
 (Zz (wE (Zh Zci (Zh Zci (Zh Zf4 (Zh Zix Jg (Zh Zkp Z0f (fC (.int 40)))) (fC (.int 48271))) (Zh Zf4 (Zh Zf4 (Zh Zkp Zw8 (fC (.int 60))) (Zh Zci Zce Zfl)) (Zh Zci Zce Zfl))) Zce) (Wx 2))
  (Zz (wE (Zh Zci (Zh Zf4 Zf2 Zf2) (Zh Zf4 (fC (.int 69621)) Zf2)) (Wx 2))
  (wE (Zh Zax (Zh Zix (Zh Zf4 Zf2 Zf2) (Zh Zci (Zh Zkp Z0f (fC (.int 61))) (fC (.int 7)))) (fC (.int 8))) J6)))
noncomputable def Yb:FD:=J9 2 3 Zcv
noncomputable abbrev Ya0:=Zh Zkp Z0f (fC (.int 18))
noncomputable abbrev Z2e:=fC (.int 2)
noncomputable def Jt:FS :=
 (Zz (Zch (tV (Zh gGe Jg Ya0))
  (wE (Zh3 (Zf (Zh gSb Jg Ya0) Z3)) J6)
  fNx)
  (wE (Zh3 (Zf (Zh Zci (Zh Zf4 (Zh Zci (Zh Zf4 (Zw Yb (Zf Jg (Zf Zfl Z3))) (Zh Zkp Z0f (fC (.int 60)))) (Zw Yb (Zf Jg (Zf Z2e Z3)))) (Zh Zkp Z0f (fC (.int 60)))) (Zw Yb (Zf Jg (Zf Zw8 Z3)))) Z3)) J6))
noncomputable def Jz:FD:=J9 1 1 Jt
noncomputable abbrev Zym:=wE (fC (.bool false)) J6
noncomputable abbrev Zi4:=gNm 0
noncomputable abbrev Ydz:=Wc 1 [] (Zbb Zf2) Zi4 (tNo (tD (Zto "tuple" Jg))) Jg
noncomputable abbrev Zu3:=Zh3 Z3
noncomputable def Zc2:FS :=
 (Zz (Zch (tO (tNo (tD (Zto "list" Jg))) (tV (Zh gNe Jg Zce)))
  Zym
  fNx)
  (Zz (Wl (Zbb Jg) (gNm 2)
  (Zch (tO (tNo (tD (Zto "list" Zf2))) (tV (Zh gNe Ydz Zu3)))
  Zym
  fNx))
  (wE (fC (.bool true)) J6)))
noncomputable def Ws:FD:=J9 2 3 Zc2
noncomputable abbrev Zlc:=Zf Jg Z3
noncomputable abbrev Zqa:=Zjw Zqd Zlc
noncomputable abbrev Z85:=tV (Zh (Zyp true) Jg Zce)
noncomputable abbrev Ztt:=Wx 3
noncomputable abbrev Zcf:=Zu 3
noncomputable abbrev Ztu:=Zbb Zcf
noncomputable abbrev Ztp:=gNm 8
noncomputable abbrev Zkn:=Zu 5
noncomputable abbrev Zpc:=Zu 6
noncomputable abbrev Zot:=Zu 8
noncomputable abbrev Z62:=Zf (Zu 9) Z3
noncomputable abbrev Yc3:=Zh gSb (Zjw Zsu Z62) (Yg gIx (Zu 9) Zff)
noncomputable abbrev Zek:=Zu 4
noncomputable abbrev Ycr:=tO (tV (Zh gIs Zek (fC .none))) (tV (Zh gLt (Zu 10) Zek))
noncomputable abbrev Yd3:=Zz (wE (Zh3 (Zf (Zh Zci (Yg gIx (Yg gIx Jg Zkn) Zpc) (Yg gIx (Yg gIx Jg (Zu 7)) Zot)) (Zf (Zh Zci (Yg gIx (Yg gIx Jg Zkn) (Zu 7)) (Yg gIx (Yg gIx Jg Zpc) Zot)) (Zf (Zh Zci (Yg gIx (Yg gIx Jg Zkn) Zot) (Yg gIx (Yg gIx Jg Zpc) (Zu 7))) Z3)))) (Wx 9))
  (Zz (wE Yc3 (Wx 10))
  (Zch Ycr
  (wE (Zu 10) (Wx 4))
  fNx))
noncomputable def Zcd:FS :=
 (Zz (wE Zqa (Wx 2))
  (Zz (wE (Wc 1 [1] (iRa (Zf Zf2 Z3)) Zi4 Z85 Jg) Ztt)
  (Zz (wE (fC .none) (Wx 4))
  (Zz (Wl (Zbb Zce) (gNm 5)
  (Wl (Zbb Zce) (gNm 6)
  (Wl Ztu (gNm 7)
  (Wl Ztu Ztp
  Yd3))))
  (wE Zek J6)))))
noncomputable def Yr:FD:=J9 2 11 Zcd
noncomputable abbrev Zla:=Zf Zce Z3
noncomputable abbrev Yce:=Wl (iRb (Zf Zfl Zlc)) (gNm 2)
  (wE (Yg Zuv Zce (Wc 1 [2] (Zbb Zce) Zi4 Zhh (Yg Zuv Jg (Zh3 Zla)))) (Wx 1))
noncomputable def Zcc:FS :=
 (Zz (wE (Zh3 (Zf Zu3 Z3)) (Wx 1))
  (Zz Yce
  (wE (fBl (Zlu kdL ltI) (Zf (Wc 1 [] (Zbb Zce) Zi4 (tV (Zh gNe Jg Zu3)) Jg) Z3)) J6)))
noncomputable def Ye:FD:=J9 1 3 Zcc
noncomputable abbrev Yej:=Wc 1 [] (Zbb Jg) Zi4 Zhh (Wc 1 [] (Zbb Jg) Zi4 Zhh (Zh Zf4 Z2e Jg))
noncomputable abbrev Z2a:=Zf Zcf Z3
noncomputable abbrev Yck:=wE (Zw Yr (Zf Jg Z2a)) (Wx 4)
noncomputable abbrev Zkr:=iRa Zla
noncomputable abbrev Z8m:=tV (Zh (Zyp true) Zpc Zcf)
noncomputable abbrev Yde:=Zh gSb (Yg gIx (Yg gIx (Zko 2) Zkn) Zpc) Zek
noncomputable abbrev Ydx:=Zh gSb (Yg gIx (Yg gIx (Zko 2) Zpc) Zkn) Zek
noncomputable abbrev Ydv:=Zz (Zb0 2 Yde Zkn Zpc)
  (Zb0 2 Ydx Zpc Zkn)
noncomputable def Zct:FS :=
 (Zz (wE Zqa (Wx 1))
  (Zz (wE Yej (Zbe 2))
  (Zz (Wl (Zbb (Zw Ye Zla)) (gNm 3)
  (Zz Yck
  (Wl Ztu (gNm 5)
  (Wl Zkr (gNm 6)
  (Zch Z8m
  Ydv
  fNx)))))
  (Zfh 2))))
noncomputable def Jj:FD:=J9 1 7 Zct
noncomputable abbrev Z9t:=Zjw Zqd (Zf (Zko 0) Z3)
noncomputable abbrev Z9a:=Yg gIx (Zko 0) Zcf
noncomputable def Za1:FS :=
 (Wl (iRa (Zf Z9t Z3)) (gNm 3)
  (Wl (iRa (Zf Z9t Z3)) (gNm 4)
  (Zch (tV (Zh gNe (Zh Z72 (Zh Z33 Zce Zcf) Zfl) (Zh Z72 (Zh Z33 Zce Zek) Zfl)))
  (Zb0 0 (Zh Zci (Yg gIx Z9a Zek) Zf2) Zcf Zek)
  fNx)))
noncomputable def Jh:FIO:=Zsj 3 5 Za1
noncomputable abbrev Yef:=Wc 1 [0] (iRa Zlc) Zi4 Zhh (Wc 1 [] Zkr Zi4 Zhh Zff)
noncomputable def Wz:FS :=
 (wE Yef J6)
noncomputable def Ym:FD:=J9 1 1 Wz
noncomputable def Zaq:FS :=
 (Zz (wE Z9t (Wx 1))
  (Wl Zkr (gNm 2)
  (Wl Zkr (gNm 3)
  (Wl Zkr (gNm 4)
  (Zb0 0 (Zjw Z0p (Zf (Yg gIx Z9a Zek) (Zf (Zh Zci (Yg gIx Z9a Zf2) (Yg gIx (Yg gIx (Zko 0) Zf2) Zek)) Z3))) Zcf Zek)))))
noncomputable def Jb:FIO:=Zsj 1 5 Zaq
noncomputable abbrev Yd5:=Zf (Zh Zkp Z0f (fC (.int 20))) Z3
noncomputable abbrev Yd8:=Zch (tV (Zh gNe Zcf Zfl))
  (Wl (iRa (Zf (W0 0 Zn (Zf (fC (.int 7)) Z3)) Z3)) (gNm 4)
  (Zz (wE (W0 0 Zn (Zf (Zh Z91 Zfl Zce) Z3)) (Wx 5))
  (wE (W0 2 Jh (Zf Zkn (Zf (Zh Zci Zfl (W0 0 Zn (Zf (Yg gIx (Zh3 (Zf Zw8 Yd5)) (W0 0 Zn (Zf Z2e Z3))) Z3))) Z3))) Zmx)))
  fNx
noncomputable abbrev Ydn:=wE (Yg gIx (Zh3 (Zf Zw8 (Zf (fC (.int 7)) Yd5))) (W0 0 Zn (Zf Zw8 Z3))) (Wx 7)
noncomputable abbrev Ydq:=Yg gIx (Yg gIx (Zko 6) Zot) (Zu 9)
noncomputable abbrev Yc4:=Wl (iRa (Zf Zot Z3)) (gNm 9)
  (Zz (Zb0 6 (Yg gIx (Zh3 (Zf (Zh Zci Zfl (W0 0 Zn (Zf (Zu 7) Z3))) (Zf (Zu 7) Z3))) (Zjw Z3k (Zf (Zh gEq Zcf Zw8) Z3))) Zot (Zu 9))
  (Zz (Zch (tAn (tV (Zh gEq Zcf Zw8)) (tV (Zh gEq (W0 0 Zn (Zf Z2e Z3)) Zff)))
  (Zb0 6 Zfl Zot (Zu 9))
  fNx)
  (Zb0 6 (Z1z Ydq) (Zu 9) Zot)))
noncomputable abbrev Ydu:=Wl Zkr Ztp
  (Z14 2 (Wc 2 [] (Zer (Zf (Yg gIx (Zko 2) Zot) (Zf (Yg gIx (Zko 6) Zot) Z3))) (gTp 2 (gCn (Z6q 0) (gCn (Z6q 1) gNl))) Zhh (Zh Zci Jg Zce)) Zot)
noncomputable def Zc0:FS :=
 (Zz (wE (Zw Ym Zla) (Zbe 2))
  (Zz (wE (W0 0 Zn (Zf (fC (.int 4)) Z3)) Ztt)
  (Zz Yd8
  (Zz (Zch (tV (Zh gGt Zcf Zff))
  (Zz (wE (Zw Ym Zla) (Zbe 6))
  (Zz Ydn
  (Zz (Wl Zkr Ztp
  Yc4)
  (Zz (wE (W0 6 Jb Z3) Zmx)
  Ydu))))
  fNx)
  (Zfh 2)))))
noncomputable def Zau:FIO:=Zsj 2 10 Zc0
noncomputable abbrev Zyj:=Yg gIx Jg Zf2
noncomputable abbrev Ybt:=wE (Zh Zci (Yg gIx Zyj Zcf) (Yg gIx (Yg gIx Jg Zcf) Zek)) (Wx 5)
noncomputable abbrev Z9f:=tO (tV (Zh gGt (Yg gIx Zyj Zek) Zkn)) (tV (Zh gLt (Yg gIx Zyj Zek) Zff))
noncomputable abbrev Ycy:=Zh gNe (Zw Yr (Zf Zce Zlc)) Zff
noncomputable def Zab:FS :=
 (Zz (wE Zqa (Wx 1))
  (Zz (Wl Zkr (gNm 2)
  (Wl Zkr (gNm 3)
  (Wl Zkr (gNm 4)
  (Zz Ybt
  (Zch Z9f
  Zym
  fNx)))))
  (wE (Zh gEq (Wc 1 [0] (Zbb (Zw Ye Zla)) Zi4 (tV Ycy) Jg) Zu3) J6)))
noncomputable def Y5:FD:=J9 1 6 Zab
noncomputable def Zat:FS :=
 (Zz (wE (Zjw Z2c Zlc) (Wx 2))
  (Zz (wE Zce Ztt)
  (Zz (Zio (tV (Zh gNe Zcf Zff)) (Zz (wE (Zh Zix Zf2 Zcf) (Wx 4))
  (Zz (wE Zcf (Wx 2))
  (wE Zek Ztt))))
  (wE (Zkq (Zf (Zh Zax Jg Zf2) (Zf (Zh Zax Zce Zf2) Z3))) J6))))
noncomputable def Jd:FD:=J9 2 5 Zat
noncomputable abbrev Z15:=Zf Jg Zla
noncomputable def Zb7:FS :=
 (wE (Wc 1 [1] (Zbb Jg) Zi4 Zhh (Wc 1 [1] (Zbb Jg) Zi4 Zhh (Zw Jd Z15))) J6)
noncomputable def Yd:FD:=J9 2 2 Zb7
noncomputable abbrev Yax:=Zh Zf4 (Yg gIx Jg Zff) (Yg gIx Zce Zfl)
noncomputable abbrev Ybb:=Zh Zf4 (Yg gIx Zce Zff) (Yg gIx Jg Zfl)
noncomputable abbrev Yc8:=Zf (Zh Zf4 (Yg gIx Jg Zfl) (Yg gIx Zce Zfl)) Z3
noncomputable def Zfv:FS :=
 (wE (Zw Wu (Zf (Zh gSb Yax Ybb) Yc8)) J6)
noncomputable def J5:FD:=J9 2 2 Zfv
noncomputable def Zcn:FS :=
 (wE (Zh gLt Yax Ybb) J6)
noncomputable def Zai:FD:=J9 2 2 Zcn
noncomputable def Zgu:FS :=
 (wE (Zw Wu (Zf (Zh Zci Yax Ybb) Yc8)) J6)
noncomputable def Zds:FD:=J9 2 2 Zgu
noncomputable abbrev Z65:=Yg gIx Jg Zce
noncomputable def Za0:FS :=
 (wE (Zw Zai (Zf (Zw Zds (Zf (Yg gIx Z65 Zf2) (Zf (Yg gIx Zyj Zcf) Z3))) (Zf (Yg gIx Z65 Zcf) Z3))) J6)
noncomputable def Ji:FD:=J9 4 4 Za0
noncomputable abbrev Z2o:=Zf Zcf (Zf Zek Z3)
noncomputable def Zay:FS :=
 (Zz (wE Zqa (Wx 1))
  (Zz (Wl Zkr (gNm 2)
  (Wl Zkr (gNm 3)
  (Wl Zkr (gNm 4)
  (Zch (tD (Zw Ji (Zf Jg (Zf Zf2 Z2o))))
  (wE (Zkq (Zf Zf2 Z2o)) J6)
  fNx))))
  (wE (fC .none) J6)))
noncomputable def Js:FD:=J9 1 5 Zay
noncomputable def Zbk:FS :=
 (Zch (tV (Zh Zov (Zw Js Zlc) (fC .none)))
  (Znz "NoTable")
  fNx)
noncomputable def J3:FD:=J9 1 1 Zbk
noncomputable def Zbh:FS :=
 (wE (Zh gSb (Zjw Zsu Zlc) (Yg gIx Jg Zff)) J6)
noncomputable def Y7:FD:=J9 1 1 Zbh
noncomputable def Zcm:FS :=
 (Zz (wE (Zh3 (Zf Zu3 Z3)) (Wx 1))
  (Zz Yce
  (wE (Wc 1 [] (Zbb (fBl (Zlu kdL ltI) Zla)) Zi4 (tV (Zh gGt Zqa Zff)) Jg) J6)))
noncomputable def Wo:FD:=J9 1 3 Zcm
noncomputable def Zbm:FS :=
 (Zz (wE Zu3 (Zbe 1))
  (Zz (Wl (Zt2 Zlc) (gTp 2 (gCn (gNm 2) (gCn (gNm 3) gNl)))
  (Wl (Zbb (fSl Jg (oI Zf2) oN)) (gNm 4)
  (Zba 1 (Zkq Z2o))))
  (Zfh 1)))
noncomputable def Wy:FD:=J9 1 5 Zbm
noncomputable def Zbf:FS :=
 (wE (Zkq (Zf (Zh Zci (Yg gIx Z65 Zf2) (Yg gIx (Yg gIx Jg Zcf) Zek)) (Zf (Zh Zci (Yg gIx Z65 Zcf) (Yg gIx Zyj Zek)) (Zf (Zh Zci (Yg gIx Z65 Zek) (Yg gIx Zyj Zcf)) Z3)))) J6)
noncomputable def Wa:FD:=J9 5 5 Zbf
noncomputable abbrev Z8r:=gCn Ztp (gCn (gNm 9) gNl)
noncomputable abbrev Yap:=Zjw Z0p (Zf Zkn (Zf (Zg7 2 "split_rule" Y7 (Zf (Zw Wa (Zf Jg (Zf Zpc (Zf (Zu 7) (Zf Zot Z62))))) Z3)) Z3))
noncomputable def Jv:FS :=
 (Zz (wE (Wc 1 [1] (iRa (Zf Zqa Z3)) Zi4 Z85 Jg) Ztt)
  (Zz (wE (Zw Wy Z2a) (Wx 4))
  (Zz (wE (Zg7 2 "split_rule" Y7 (Zf (Zw Wa (Zf Jg (Zf (Yg gIx Zce Zff) (Zf (Yg gIx Zce Zff) (Zf Zff (Zf Zff Z3)))))) Z3)) (Wx 5))
  (Zz (Wl (Zbb (Zw Wy Zla)) (gTp 2 (gCn (gNm 6) (gCn (gNm 7) gNl)))
  (Zz (Wl (Zbb Zek) (gTp 2 Z8r)
  (wE Yap (Wx 5)))
  (Zch (tV (Zh gLe Zkn Zff))
  (wE Zff J6)
  fNx)))
  (wE Zkn J6)))))
noncomputable def Yj:FD:=J9 3 10 Jv
noncomputable abbrev Yeh:=Zz (wE (Zw Yj (Zf Zcf (Zf Zkn Zla))) (Wx 6))
  (Zch (tV (Zh gGt Zpc Zff))
  (Zba 4 (Zkq (Zf Zkn (Zf (Zw Wt (Zf Zpc (Zf (Zh Zf4 Z2e Zf2) Z3))) Z3))))
  fNx)
noncomputable def Za2:FS :=
 (Zz (wE (Zw Yn Zlc) (Wx 2))
  (Zz (wE (Zw Ww (Zf Zf2 Zlc)) Ztt)
  (Zz (wE Zu3 (Zbe 4))
  (Zz (Wl (Zbb (Zw Wo (Zf Zqa Z3))) (gNm 5)
  Yeh)
  (Zfh 4)))))
noncomputable def Jx:FD:=J9 2 7 Za2
noncomputable def Zca:FS :=
 (Zz (wE (Zw J3 Zlc) Zmx)
  (wE (Zw Jx (Zf Jg (Zf (fC (fnD "split_rule")) Z3))) J6))
noncomputable def Ja:FD:=J9 1 1 Zca
noncomputable def Zcu:FS :=
 (wE (Wc 1 [1] (iRa Zlc) Zi4 Zhh (fIf (tV (Zh (Zyp false) Jg Zce)) Zfl Zff)) J6)
noncomputable def Zav:FD:=J9 2 2 Zcu
noncomputable def Zcb:FS :=
 (wE (Wc 1 [0] (Zbb Zce) Zi4 Zhh (Zw Zav (Zf Zce (Zf (Yg gIx Jg Zff) Z3)))) J6)
noncomputable def J8:FD:=J9 2 2 Zcb
noncomputable abbrev Z87:=gCn (gNm 3) (gCn (gNm 4) gNl)
noncomputable def Yy:FS :=
 (Zz (wE (Wc 1 [0] (iRa Zlc) Zi4 Zhh (Zt7 (Zkq (Zf Zff (Zf Zfl Z3))) Zce)) (Zbe 2))
  (Zz (Wl (Zer (Zf (Zw Y9 Zlc) Zla)) (gTp 2 Z87)
  (Zz (Zb0 2 Zek (Yg gIx Zcf Zff) (Yg gIx Zcf Zfl))
  (Zb0 2 Zek (Yg gIx Zcf Zfl) (Yg gIx Zcf Zff))))
  (Zfh 2)))
noncomputable def Yw:FD:=J9 2 5 Yy
noncomputable abbrev Z8u:=gCn Zi4 (gCn (gNm 1) gNl)
noncomputable abbrev Ydi:=wE (Wc 2 [7,8] (Zer (Zf Zkn (Zf Zek Z3))) (gTp 2 Z8u) (tV (Zh gNe Zyj (Yg gIx Jg Zcf))) Zce) (Wx 9)
noncomputable abbrev Yd4:=Zba 6 (Zw Wt (Zf (Zjw Z8c Z62) Z2a))
noncomputable def Jw:FS :=
 (Zz (wE (Wc 1 [] (Zbb Zce) Zi4 Zhh (Yg gIx Jg Zfl)) (Wx 2))
  (Zz (wE (Zw Yi (Zf Zf2 Z3)) Ztt)
  (Zz (wE (Zw W9 (Zf Zcf (Zf Zf2 Z3))) (Wx 4))
  (Zz (wE (Zw J8 Z15) (Wx 5))
  (Zz (wE Zu3 (Zbe 6))
  (Zz (Wl (Zbb (Zw Y9 Zlc)) (gTp 2 (gCn (gNm 7) (gCn Ztp gNl)))
  (Zz Ydi
  Yd4))
  (Zhj 6 (wE (Zw Yw (Zf Jg (Zf Zpc Z3))) J6))))))))
noncomputable def Y6:FD:=J9 2 10 Jw
noncomputable abbrev Yea:=Wc 2 [] (Zer Z2o) (gTp 2 Z8u) Zhh (Zw J5 Z15)
noncomputable def Zbd:FS :=
 (Zz (wE (Zw Y6 (Zf Zqa (Zf (Zw Ja Zlc) Z3))) (Wx 1))
  (Zz (wE Zu3 (Zbe 2))
  (Zz (Wl (Zer Z15) (gTp 2 Z87)
  (Zb3 2 Yea))
  (Zfh 2))))
noncomputable def Y8:FD:=J9 1 5 Zbd
noncomputable abbrev Ybv:=Zkq (Zf (Zu 11) (Zf Zfl Z3))
noncomputable def Zew:FS :=
 (Zz (Wl (Zbb (Yg Zuv (Zh3 (Zf Ya0 Z3)) (fSl Jg oN (oI (fC (.int 4)))))) (gNm 1)
  (Zz (wE (Zw Jz Zla) (Zbe 2))
  (Zz (wE (Zh Zci Zfl (W0 2 Zn (Zf (fC (.int 5)) Z3))) Ztt)
  (Zz (Zch (tV (Zh gEq (W0 2 Zn (Zf (fC (.int 8)) Z3)) (fC (.int 5))))
  (wE (fC (.int 6)) Ztt)
  fNx)
  (Zz (wE (W0 2 Zau Z2a) (Wx 4))
  (Zz (wE (W0 2 J1 Z3) (Wx 5))
  (Zz (wE (Zw Yd (Zf Zek (Zf Zkn Z3))) (Wx 6))
  (Zz (wE (Zw Jj (Zf Zek Z3)) (Wx 7))
  (Zz (wE (Zw Yd (Zf (Zu 7) (Zf (Zh Zf4 Z2e Zkn) Z3))) (Wx 8))
  (Zz (wE (Zw Yd (Zf Zek (Zf Zkn Z3))) (Wx 9))
  (Zz (wE (Zw Y8 Z62) (Zbe 10))
  (Zz (Zch (tO (tNo (tD (Zw Ws (Zf (Zko 10) (Zf Zot Z3))))) (tO (tV (Zh gNe (Zu 9) Zpc)) (tNo (tD (Zw Y5 (Zf (Zu 7) Z3))))))
  Zym
  fNx)
  (Zz (Wl (iRa Z2a) (gNm 11)
  (Zit 10 (Zu 11) Ybv))
  (Zch (tO (tV (Zh gNe (Zsf 10) (Zt7 (Zh Zci Zcf Zfl) Zcf))) (tNo (tD (Zw Ws (Zf (Zw Y8 Z62) (Zf Zot Z3))))))
  Zym
  fNx))))))))))))))
  (wE (fC (.bool true)) J6))
noncomputable def Zev:FD:=J9 1 12 Zew
end My
namespace My
open PySem L2 PySem.Spec
noncomputable def Zet:FS :=
 (Zz (Zch (tV (Zh gLt (Zu 1) (Zjw Zqd (Zf (Zu 0) Z3))))
  (wE (Yg gIx (Zu 0) (Zu 1)) J6)
  fNx)
  (wE (fC (.int 0)) J6))
noncomputable def Zn7:FD:=J9 2 2 Zet
noncomputable def Zhq:FS :=
 (Zz (Zch (tV (Zh gEq (Zh Zix (Zh Zax (Zu 0) (fC (.int 7))) (fC (.int 8))) (fC (.int 3))))
  (wE (Zh Zci (Zh Zci (Zu 2) (fC (.int 1))) (Zh Zix (Zh Zax (Zu 0) (fC (.int 56))) (Zh gSb (Zu 3) (Zu 2)))) J6)
  fNx)
  (wE (Zh Zci (Zu 1) (Zh Zix (Zu 0) (Zh gSb (Zh Zci (Zu 2) (fC (.int 1))) (Zu 1)))) J6))
noncomputable def Zs6:FD:=J9 4 4 Zhq
noncomputable def Zhe:FS :=
 (Zz (wE (Zh Zix (Zh Zf4 (Zh Zci (Zh Zci (Zh Zix (Zu 0) (fC (.int 2147483629))) (Zh Zf4 (fC (.int 9973)) (Zu 1))) (fC (.int 5))) (fC (.int 48271))) (fC (.int 2147483647))) (Wx 2))
  (Zz (wE (Zh Zix (Zh Zf4 (Zu 2) (Zu 2)) (fC (.int 2147483587))) (Wx 2))
  (wE (Zh Zax (Zh Zix (Zh Zf4 (Zh Zci (Zu 2) (Zh Zf4 (fC (.int 7919)) (Zu 1))) (fC (.int 16807))) (fC (.int 2147483563))) (fC (.int 8))) J6)))
noncomputable def Zhu:FD:=J9 2 3 Zhe
noncomputable def Zeo:FS :=
 (Zz (wE (Zh3 Z3) (Zbe 2))
  (Zz (wE (Zu 0) (Wx 3))
  (Zz (Wl (iRa (Zf (Zu 1) Z3)) (gNm 4)
  (Zz (wE (Zw Zhu (Zf (Zu 0) (Zf (Zu 4) Z3))) (Wx 5))
  (Zz (Zch (tV (Zh gGe (Zu 0) (Zh Zkp (fC (.int 10)) (fC (.int 18)))))
  (wE (Zh Zix (Zu 3) (fC (.int 720720))) (Wx 5))
  fNx)
  (Zz (wE (Zh Zax (Zu 3) (fC (.int 720720))) (Wx 3))
  (Zba 2 (Zu 5))))))
  (Zfh 2))))
noncomputable def Znv:FD:=J9 2 6 Zeo
noncomputable def Zo(p:List Int):Xa:=.list (p.map Xn)
theorem Zu9{p:List Int}{i:Int}(h0:0≤i)(h1:i<p.length):atI (p.map Xn) i=some (.int (p.getD i.toNat 0)):=by
 rw[Zk1 h0,Xk,Xj (by omega)]
 simp[Xi,Xj (show i.toNat<p.length by omega)]
theorem Zl6{a b:FE}{δ:Ze}{p:List Int}{i:Int}(ha:EvV a δ (Zo p))(hb:EvV b δ (.int i))(h0:0≤i)(h1:i<p.length):EvV (Yg gIx a b) δ (.int (p.getD i.toNat 0)):=Zw7 ha hb (Zu9 h0 h1)
theorem Z8b:Zkp (.int 10) (.int 18)=some (.int 1000000000000000000):=rfl
theorem Zz2(p:List Int):(OT.nd ((p.map Xn).map OT.fz)).data=Zo p:=by
 rw[OT.data_nd,OT.map_fz];rfl
end My
namespace L2
open PySem PySem.Spec
noncomputable def EvP(e:FE)(δ:Ze)(Q:Xa->Ze->Prop):Prop:=∃t δ',e δ=some (t,δ')∧Q t.data δ'
noncomputable def EpA(a:FA)(δ:Ze)(Q:List Xa->Ze->Prop):Prop:=∃ts δ',a δ=some (ts,δ')∧Q (OT.datas ts) δ'
noncomputable def EpT(t:FT)(δ:Ze)(Q:Bool->Ze->Prop):Prop:=∃b δ',t δ=some (b,δ')∧Q b δ'
noncomputable def EpS(S:FS)(δ:Ze)(N:Ze->Prop)(R:Xa->Ze->Prop):Prop:=(∃δ',S δ= .nx δ'∧N δ')∨∃o δ',S δ= .rt o δ'∧R o.data δ'
noncomputable def ToldI(F:FIO)(t:OT)(ds:List Xa)(Q:Xa->OT->Prop):Prop:=∃r t',F t ds=some (r,t')∧Q r.data t'
section
variable {e a b:FE}{as:FA}{δ:Ze}{Q:Xa->Ze->Prop}{QA:List Xa->Ze->Prop}{T:Bool->Ze->Prop}{t u:FT}{S S':FS}{N:Ze->Prop}{R:Xa->Ze->Prop}{i:Nat}{d:Xa}
theorem Wg(h:EvV e δ d)(q:Q d δ):EvP e δ Q:=by
 obtain⟨t,e1,e2⟩:=h
 exact⟨t,δ,e1,e2▸q⟩
theorem EvP.mono{Q':Xa->Ze->Prop}(h:EvP e δ Q)(k:∀d δ',Q d δ'->Q' d δ'):EvP e δ Q':=by
 obtain⟨t,δ',e1,q⟩:=h
 exact⟨t,δ',e1,k _ _ q⟩
theorem Zfi{g:Xa->Xa->Option Xa}(h:EvP a δ λx δ1=>EvP b δ1 λy δ2=>∃d,g x y=some d∧Q d δ2):EvP (Zh g a b) δ Q:=by
 obtain⟨t,δ1,e1,t2,δ2,e2,d,e3,q⟩:=h
 exact⟨.fz d,δ2,by rw[Znu,e1];show(b δ1).bind _=_;rw[e2];show(g _ _).bind _=_;rw[e3];rfl,by rw[OT.data_fz];exact q⟩
theorem Zo2{g:Xa->Xa->Option OT}(h:EvP a δ λx δ1=>EvP b δ1 λy δ2=>∃o,g x y=some o∧Q o.data δ2):EvP (Yg g a b) δ Q:=by
 obtain⟨t,δ1,e1,t2,δ2,e2,d,e3,q⟩:=h
 exact⟨d,δ2,by rw[Zrc,e1];show(b δ1).bind _=_;rw[e2];show(g _ _).bind _=_;rw[e3];rfl,q⟩
theorem Zdv(q:QA [] δ):EpA Z3 δ QA:=⟨[],δ,rfl,by rw[Zeh];exact q⟩
theorem Zbp(h:EvP e δ λd δ1=>EpA as δ1 λds δ2=>QA (d :: ds) δ2):EpA (Zf e as) δ QA:=by
 obtain⟨t,δ1,e1,ts,δ2,e2,q⟩:=h
 exact⟨t :: ts,δ2,by rw[Zj0,e1];show(as δ1).bind _=_;rw[e2];rfl,by rw[Zde];exact q⟩
theorem Zom{ds:List Xa}(h:EvA as δ ds)(q:QA ds δ):EpA as δ QA:=by
 obtain⟨ts,e1,e2⟩:=h
 exact⟨ts,δ,e1,e2▸q⟩
theorem Zbr{F:FIO}{t0:OT}(h0:δ[i]? =some (some t0))(h:EpA as δ λds δ1=>∃t,δ1[i]? =some (some t)∧ToldI F t ds λd t'=>Q d (δ1.set i (some t'))):EvP (W0 i F as) δ Q:=by
 obtain⟨ts,δ1,e1,t,e2,r,t',e3,q⟩:=h
 refine⟨r,δ1.set i (some t'),?_,q⟩
 rw[Zqh,h0]
 show(as δ).bind _=_
 rw[e1]
 show atO δ1[i]? _=_
 rw[e2]
 show(F t _).bind _=_
 rw[e3];rfl
theorem Z60(h:EpA as δ λds δ1=>ds.length≤1000∧Q (.list ds) δ1):EvP (Zh3 as) δ Q:=by
 obtain⟨ts,δ1,e1,hl,q⟩:=h
 refine⟨.nd ts,δ1,?_,by rw[OT.data_nd,←datas_map];exact q⟩
 rw[Zjn,e1]
 show(if ts.length≤Xr then _ else _)=_
 rw[if_pos (by rw[Zc3]at hl;rw[Qc];omega)]
theorem Z4k(h:EvP e δ λd δ'=>∃p,d= .bool p∧T p δ'):EpT (tV e) δ T:=by
 obtain⟨t,δ',e1,p,e2,q⟩:=h
 have:=Zho e2
 subst this
 exact⟨p,δ',by unfold tV;rw[e1];rfl,q⟩
theorem Zdf{p:Bool}(h:EvT t δ p)(q:T p δ):EpT t δ T:=⟨p,δ,h,q⟩
theorem Z3f(h:EpT t δ λp δ1=>(p=true->EpT u δ1 T)∧(p=false->T false δ1)):EpT (tAn t u) δ T:=by
 obtain⟨p,δ1,e1,q1,q2⟩:=h
 cases p with
 | true=>
  obtain⟨p2,δ2,e2,q⟩:=q1 rfl
  exact⟨p2,δ2,by unfold tAn;rw[e1];exact e2,q⟩
 | false=>exact⟨false,δ1,by unfold tAn;rw[e1];rfl,q2 rfl⟩
theorem Zbo{δ':Ze}(h:S δ= .nx δ')(q:N δ'):EpS S δ N R:=.inl ⟨δ',h,q⟩
theorem Z8(h:EpS S δ (λδ'=>EpS S' δ' N R) R):EpS (Zz S S') δ N R:=by
 rcases h with⟨δ',e,h⟩|⟨o,δ',e,h⟩
 ·rcases h with⟨δ2,e2,q⟩|⟨o,δ2,e2,q⟩
  ·exact .inl ⟨δ2,by rw[Zhf,e,Zsa,e2],q⟩
  ·exact .inr ⟨o,δ2,by rw[Zhf,e,Zsa,e2],q⟩
 ·exact .inr ⟨o,δ',by rw[Zhf,e,Zxp],h⟩
theorem Zd7(h:EvP e δ λd δ'=>N (δ'.set i (some (.fz d)))):EpS (wE e (Wx i)) δ N R:=by
 obtain⟨t,δ',e1,q⟩:=h
 exact .inl ⟨_,by rw[Zaw,e1];rfl,q⟩
theorem Zmj(h:EvP e δ R):EpS (wE e J6) δ N R:=by
 obtain⟨t,δ',e1,q⟩:=h
 exact .inr ⟨t,δ',by rw[Zaw,e1];rfl,q⟩
theorem Zlj(h:EpT t δ λp δ'=>(p=true->EpS S δ' N R)∧(p=false->EpS S' δ' N R)):EpS (Zch t S S') δ N R:=by
 obtain⟨p,δ',e1,q1,q2⟩:=h
 have e:Zch t S S' δ=if p=true then S δ' else S' δ':=by unfold Zch;rw[e1]
 cases p with
 | true=>
  have g:=q1 rfl
  unfold EpS at g⊢
  rw[e];exact g
 | false=>
  have g:=q2 rfl
  unfold EpS at g⊢
  rw[e];exact g
theorem Zii(q:N δ):EpS fNx δ N R:=.inl ⟨δ,rfl,q⟩
theorem EpS.mono{N':Ze->Prop}{R':Xa->Ze->Prop}(h:EpS S δ N R)(k:∀δ',N δ'->N' δ')(k2:∀d δ',R d δ'->R' d δ'):EpS S δ N' R' :=
 h.imp (λ⟨δ',e,q⟩=>⟨δ',e,k _ q⟩) λ⟨o,δ',e,q⟩=>⟨o,δ',e,k2 _ _ q⟩
theorem Zvk{g:FG}(I:Nat->Ze->Prop)(ds:List Xa)(m:Nat)(h0:I m δ)(turn:∀(k:Nat) (d:Xa) (δ:Ze),ds[k]? =some d->I (m+k) δ->∃δ1,g d δ=some δ1∧EpS S δ1 (I (m+k+1)) R)(fin:∀δ',I (m+ds.length) δ'->N δ') :
  (∃ δ',forLoop g S ds δ= .nx δ'∧N δ')∨∃o δ',forLoop g S ds δ= .rt o δ'∧R o.data δ':=by
 induction ds generalizing m δ with
 | nil=>exact .inl ⟨δ,rfl,fin δ h0⟩
 | cons d ds ih=>
  obtain⟨δ1,e1,h⟩:=turn 0 d δ rfl h0
  rcases h with⟨δ2,e2,q⟩|⟨o,δ2,e2,q⟩
  ·have e:forLoop g S (d :: ds) δ=forLoop g S ds δ2:=by rw[forLoop,e1];show(match S δ1 with| .nx δ2=>_| .ct δ2=>_| .bk δ2=>_|r=>_)=_;rw[e2]
   rw[e]
   refine ih (m+1) q (λk d' δ' hk hI=>?_) λδ' hI=>fin δ' (by rw[JS];rw[show m+1+ds.length=m+(ds.length+1) by omega]at hI;exact hI)
   have:=turn (k+1) d' δ' hk (by rw[show m+(k+1)=m+1+k by omega];exact hI)
   rwa[show m+(k+1)+1=m+1+k+1 by omega]at this
  ·refine .inr ⟨o,δ2,?_,q⟩
   rw[forLoop,e1];show(match S δ1 with| .nx δ2=>_| .ct δ2=>_| .bk δ2=>_|r=>_)=_;rw[e2]
theorem Za3{it:FI}{g:FG}{ds:List Xa}{δ0:Ze}(I:Nat->Ze->Prop)(hi:it δ=some (ds,δ0))(h0:I 0 δ0)(turn:∀(k:Nat) (d:Xa) (δ:Ze),ds[k]? =some d->I k δ->∃δ1,g d δ=some δ1∧EpS S δ1 (I (k+1)) R)(fin:∀δ',I ds.length δ'->N δ'):EpS (Wl it g S) δ N R:=by
 have e:Wl it g S δ=forLoop g S ds δ0:=by unfold Wl;rw[hi]
 have h:=Zvk (R:=R) (N:=N) (S:=S) (g:=g) (δ:=δ0) I ds 0 h0 (λk d δ hk hI=>by rw[Vr]at hI⊢;exact turn k d δ hk hI) (λδ' hI=>by rw[Vr]at hI;exact fin δ' hI)
 unfold EpS
 rw[e];exact h
noncomputable def EpI(it:FI)(δ:Ze)(Q:List Xa->Ze->Prop):Prop:=∃ds δ',it δ=some (ds,δ')∧Q ds δ'
theorem Z4s(h:EpA as δ λds δ'=>∃n:Nat,ds=[.int n]∧n≤1000000∧QA (Zcg 0 n) δ'):EpI (iRa as) δ QA:=by
 obtain⟨ts,δ',e1,n,e2,hn,q⟩:=h
 exact⟨_,δ',by rw[Zxo,e1,Xh,e2,Z4o,Zqe (by omega) (by omega),QV],q⟩
theorem Ztw{it:FI}{g:FG}(h:EpI it δ λds δ0=>∃I:Nat->Ze->Prop,I 0 δ0∧(∀(k:Nat) (d:Xa) (δ:Ze),ds[k]? =some d->I k δ->∃δ1,g d δ=some δ1∧EpS S δ1 (I (k+1)) R)∧∀δ',I ds.length δ'->N δ'):EpS (Wl it g S) δ N R:=by
 obtain⟨ds,δ0,e,I,h0,turn,fin⟩:=h
 exact Za3 I e h0 turn fin
theorem ToldI.mono{F:FIO}{t0:OT}{ds:List Xa}{Q Q':Xa->OT->Prop}(h:ToldI F t0 ds Q)(k:∀d t,Q d t->Q' d t):ToldI F t0 ds Q':=by
 obtain⟨r,t',e,q⟩:=h
 exact⟨r,t',e,k _ _ q⟩
theorem Z25{g:FG}(I:Nat->List Xa->Ze->Prop)(ds:List Xa)(m:Nat)(acc:List Xa)(h0:I m acc δ)(turn:∀(k:Nat) (d:Xa) (acc:List Xa) (δ:Ze),ds[k]? =some d->I (m+k) acc δ->∃δ1,g d δ=some δ1∧EpT t δ1 λp δ2=>(p=true->EvP e δ2 λd δ3=>I (m+k+1) (acc ++ [d]) δ3)∧(p=false->I (m+k+1) acc δ2)) :
  ∃ts δ',compLoop g t e ds δ=some (ts,δ')∧I (m+ds.length) (acc ++ ts.map OT.data) δ':=by
 induction ds generalizing m acc δ with
 | nil=>exact⟨[],δ,rfl,by rw[List.map_nil,QT];exact h0⟩
 | cons d ds ih=>
  obtain⟨δ1,e1,p,δ2,e2,q1,q2⟩:=turn 0 d acc δ rfl h0
  have next:∀(k:Nat) (d:Xa) (acc:List Xa) (δ:Ze),ds[k]? =some d->I (m+1+k) acc δ->∃δ1,g d δ=some δ1∧EpT t δ1 λp δ2=>(p=true->EvP e δ2 λd δ3=>I (m+1+k+1) (acc ++ [d]) δ3)∧(p=false->I (m+1+k+1) acc δ2):=λk d acc δ hk hI=>by
   have:=turn (k+1) d acc δ hk (by rw[show m+(k+1)=m+1+k by omega];exact hI)
   rwa[show m+(k+1)+1=m+1+k+1 by omega]at this
  have el:m+1+ds.length=m+(ds.length+1):=by omega
  cases p with
  | true=>
   obtain⟨o,δ3,e3,hI⟩:=q1 rfl
   obtain⟨ts,δ',e4,hf⟩:=ih (m+1) (acc ++ [o.data]) hI next
   refine⟨o :: ts,δ',?_,?_⟩
   ·rw[compLoop,e1];show(t δ1).bind _=_;rw[e2];show(e δ2).bind _=_;rw[e3];show(compLoop g t e ds δ3).bind _=_;rw[e4];rfl
   ·rw[JS,←el,X3];rw[Bu]at hf;exact hf
  | false=>
   obtain⟨ts,δ',e4,hf⟩:=ih (m+1) acc (q2 rfl) next
   refine⟨ts,δ',?_,by rw[JS,←el];exact hf⟩
   rw[compLoop,e1];show(t δ1).bind _=_;rw[e2];exact e4
theorem Zgd{o:OT}{δ':Ze}(h:e δ=some (o,δ'))(q:N (δ'.set i (some o))):EpS (wE e (Zbe i)) δ N R:=.inl ⟨_,by rw[Zaw,h];rfl,q⟩
theorem Zem{np n:Nat}{t0:OT}{ds:List Xa}{Q:Xa->OT->Prop}(hl:ds.length+1=np)(h:EpS S (Zj2 n t0 ds) (λδ'=>∃t',δ'[0]? =some (some t')∧Q .none t') λd δ'=>∃t',δ'[0]? =some (some t')∧Q d t'):ToldI (Zsj np n S) t0 ds Q:=by
 unfold ToldI
 rw[Z07 hl]
 rcases h with⟨δ',e,t',e2,q⟩|⟨o,δ',e,t',e2,q⟩
 ·exact⟨.fz .none,t',by rw[e];show(match δ'[0]? with|some (some t)=>some (OT.fz .none,t)|_=>none)=_;rw[e2],by rw[OT.data_fz];exact q⟩
 ·exact⟨o,t',by rw[e];show(match δ'[0]? with|some (some t)=>some (o,t)|_=>none)=_;rw[e2],q⟩
end
end L2
namespace My
open PySem L2 PySem.Spec
noncomputable def dk(x:Int):OT:=.nd [.fz (.int x)]
theorem Zya(x:Int):(dk x).data= .list [.int x]:=by unfold dk;rw[OT.data_nd];rfl
theorem btc{n:Nat}{m:Int}(h1:decide (-(2^n)<m)=true)(h2:decide (m<2^n)=true):Bt n m:=Bt.of_lt (of_decide_eq_true h1) (of_decide_eq_true h2)
theorem Zws{δ:Ze}{i n:Nat}{e j:FE}{ts:List OT}{d:Xa}{k:Int}(h:EvV e δ d)(hi:δ[i]? =some (some (.nd ts)))(hj:EvV j δ (.int k))(hx:ixN ts.length k=some n):Z14 i e j δ= .nx (δ.set i (some (.nd (ts.set n (.fz d))))):=by
 obtain⟨t,e1,e2⟩:=h
 obtain⟨u,e3,e4⟩:=hj
 rw[Z0r,e1,Yo,hi]
 show onO (j δ) _=_
 rw[e3,Yo,e4]
 show onX (ixN ts.length k) _=_
 rw[hx,e2];rfl
theorem Zne(x:Int){m:Int}(h0:0<m)(hb:Bt 400 m):ToldI Zn (dk x) [.int m] λd t'=>∃r x',d= .int r∧0≤r∧r<m∧t'=dk x':=by
 have i0:∀{δ:Ze},δ[0]? =some (some (dk x))->EvV Z93 δ (.int x):=λh=>Zw7 (Ziu h (Zya x)) Z0 rfl
 exact Zem rfl (Z8 (Zbo (Zq (Zlv (i0 rfl) Za (by omega))) (Z8 (Zbo (Zws (n:=0) (Zj (i0 rfl) Za (Zfc (Zfd (by omega) hb))) rfl Z0 rfl) (Zmj (Wg Za ⟨_,rfl,_,_,rfl,Znl h0,Znk h0,rfl⟩))))))
theorem Za5{δ:Ze}{i:Nat}{x:Int}{as:FA}{many:Int}{Q:Xa->Ze->Prop}(hi:δ[i]? =some (some (dk x)))(ha:EvA as δ [.int many])(h0:0<many)(hb:Bt 400 many)(q:∀r x',0≤r->r<many->Q (.int r) (δ.set i (some (dk x')))):EvP (W0 i Zn as) δ Q :=
 Zbr hi (Zom ha ⟨dk x,hi,(Zne x h0 hb).mono λd t' z=>by
  obtain⟨r,x',rfl,r0,r1,rfl⟩:=z
  exact q r x' r0 r1⟩)
theorem Zht{n:Nat}{t b:Int}(hb:0<b)(hB:Bt n b)(hn:n≤9000:=by decide):Told Jd [.int t,.int b] (frD (Xv t b)):=by
 obtain⟨z',e⟩:=Zjz (f1:=λx y z=>[some (.fz (.int t)),some (.fz (.int b)),some (.fz (.int x)),some (.fz (.int y)),z]) (f2:=λx y z=>[]) (t:=tV (Zh gNe Zcf Zff)) (u:=Zz (wE (Zh Zix Zf2 Zcf) (Wx 4)) (Zz (wE Zcf (Wx 2)) (wE Zek Ztt))) (λx y z=>Zdk (Zp4 Za Z0 rfl)) (λx y z hy=>⟨_,Yt (Zq (Zlv Za Za hy)) (Yt (Zq Za) (Zq Za))⟩) (b.toNat+1) (t.natAbs:Int) b none (by omega) (by omega) (by omega)
 have eg:(JK (t.natAbs:Int) b:Int)=shr t b:=by
  unfold shr
  rw[if_neg (by omega),Vf,Vf,Us]
 obtain⟨e1,e2⟩:=Z4d (t:=t) (b:=b) (by omega) hB hn _ eg
 exact Z1 rfl<|Yl (Zq (Zan (Zb Za Zd) (Ztb t)))<|Yl (Zq Za)<|Yl (Zls _ e (by intro z;cases z)) (Wm (Zfw (Zb (Zj Za Za e1) (Zb (Zj Za Za e2) Zd)) (show 2≤1000 by decide)))
theorem Z4a{a b c lo hi:Int}(ha:lo≤a∧a≤hi)(hb:lo≤b∧b≤hi)(hc:lo≤c∧c≤hi){r:Int}(h0:0≤r)(h1:r<3):∃x,gIx (.list [.int a,.int b,.int c]) (.int r)=some (.fz (.int x))∧lo≤x∧x≤hi:=by
 obtain rfl|rfl|rfl:r=0∨r=1∨r=2:=by omega
 ·exact⟨a,rfl,ha⟩
 ·exact⟨b,rfl,hb⟩
 ·exact⟨c,rfl,hc⟩
theorem Zq7{m n:Nat}{x:Int}(h0:0≤x)(h1:x≤2^m)(h:m<n):Bt n x:=by
 have:(2:Int)^m<2^n:=by
  have:=Nat.pow_lt_pow_right (a:=2) (by decide) h
  exact_mod_cast this
 exact Bt.of_lt (Ut (Int.neg_neg_of_pos (Int.pow_pos (by decide))) h0) (Int.lt_of_le_of_lt h1 this)
theorem Yey:Zkp (.int 10) (.int 40)=some (.int 10000000000000000000000000000000000000000):=rfl
theorem Yd6:Zkp (.int 10) (.int 60)=some (.int 1000000000000000000000000000000000000000000000000000000000000):=rfl
theorem Yfx:Zkp (.int 10) (.int 61)=some (.int 10000000000000000000000000000000000000000000000000000000000000):=rfl
theorem Z92:Zkp (.int 3) (.int 60)=some (.int 42391158275216203514294433201):=rfl
theorem Zje(c:Int){k:Int}(h0:0≤k)(h1:k≤3):∃v,Told Yb [.int c,.int k] (.int v)∧Bt 210 v:=by
 have bk:Bt 3 (k+1):=Bt.of_lt (by omega) (by omega)
 have bk0:Bt 3 k:=Bt.of_lt (by omega) (by omega)
 have bc:Bt 134 (c.fmod 10000000000000000000000000000000000000000):=Bt.of_lt (Ut (by decide +kernel) (Znl (by decide))) (Int.lt_trans (Znk (by decide)) (by decide +kernel))
 have b3:Bt 96 42391158275216203514294433201:=btc (by decide +kernel) (by decide +kernel)
 have b4:Bt 16 48271:=btc (by decide +kernel) (by decide +kernel)
 have b5:Bt 17 69621:=btc (by decide +kernel) (by decide +kernel)
 have bn:=((bc.mul b4).add ((b3.mul bk).mul bk)).add bk0
 have key:∃d,Told Yb [.int c,.int k] d∧∃v,d= .int v∧Bt 210 v:=by
  refine Zvo rfl (Zdm (Zq (W5 (W5 (Zj (Zlv Za (Zj Z0 Z0 Yey) (by decide)) Z0 (Jr (Wk bc b4))) (Zj (Zj (Zj Z0 Z0 Z92) (W5 Za Z0) (Jr (Wk b3 bk))) (W5 Za Z0) (Jr (Wk (b3.mul bk) bk)))) Za)) ?_)
  generalize c.fmod 10000000000000000000000000000000000000000*48271+42391158275216203514294433201*(k+1)*(k+1)+k=N at bn⊢
  refine Zdm (Zq (W5 (Zj Za Za (Jr (Wk bn bn))) (Zj Z0 Za (Jr (Wk b5 bn))))) ?_
  have bN:=(bn.mul bn).add (b5.mul bn)
  generalize N*N+69621*N=M at bN⊢
  refine Zk9 (Z0a (Zlv (Zj Za Za (Jr (Wk bN bN))) (W5 (Zj Z0 Z0 Yfx) Z0) (by decide)) Z0) ⟨_,rfl,?_⟩
  have q0:=Znl (i:=M*M) (j:=10000000000000000000000000000000000000000000000000000000000000+7) (by decide)
  have q1:=Znk (i:=M*M) (j:=10000000000000000000000000000000000000000000000000000000000000+7) (by decide)
  rw[Jc (by decide)]
  exact Bt.of_le (x:=(M*M).fmod (10000000000000000000000000000000000000000000000000000000000000+7)) (Bt.of_lt (Ut (by decide +kernel) q0) (Int.lt_trans q1 (by decide +kernel))) (Vt _ _)
 obtain⟨d,h,v,rfl,b⟩:=key
 exact⟨v,h,b⟩
theorem Yda{as:FA}{δ:Ze}{ts:List OT}(h:as δ=some (ts,δ))(hl:ts.length≤1000):Zh3 as δ=some (.nd ts,δ):=by
 rw[Zjn,h]
 exact if_pos (e:=none) (show ts.length≤Xr by rw[Qc];omega)
theorem Z28{e:FE}{as:FA}{δ:Ze}{o:OT}{ts:List OT}(h:e δ=some (o,δ))(k:as δ=some (ts,δ)):Zf e as δ=some (o :: ts,δ):=by
 rw[Zj0,h]
 show(as δ).bind _=_
 rw[k];rfl
theorem Zwr{e:FE}{δ:Ze}{i:Int}(h:EvV e δ (.int i)):e δ=some (.fz (.int i),δ):=by
 obtain⟨t,e1,e2⟩:=h
 rw[e1,Zgo e2]
theorem Zmp{e:FE}{δ:Ze}{o:OT}(h:e δ=some (o,δ)):wE e J6 δ= .rt o δ:=by rw[Zaw,h];rfl
theorem Zxy(c:Int):∃x,Jz [.int c]= .ok (dk x):=by
 have key:∃x δ',Jt [some (.fz (.int c))]= .rt (dk x) δ':=by
  by_cases h:1000000000000000000≤c
  ·exact⟨c-1000000000000000000,_,Zlh (Ze2 (Zdk (Z7l Za (Zj Z0 Z0 Z8b) (decide_eq_true h))) (Zmp (Yda (Z28 (Zwr (Zij Za (Zj Z0 Z0 Z8b))) rfl) (Nat.le_of_ble_eq_true rfl))))⟩
  ·obtain⟨v1,e1,b1⟩:=Zje c (k:=1) (by decide) (by decide)
   obtain⟨v2,e2,b2⟩:=Zje c (k:=2) (by decide) (by decide)
   obtain⟨v3,e3,b3⟩:=Zje c (k:=3) (by decide) (by decide)
   have bp:Bt 200 1000000000000000000000000000000000000000000000000000000000000:=btc (by decide +kernel) (by decide +kernel)
   have st:∀{k v:Int},Told Yb [.int c,.int k] (.int v)->EvV (Zw Yb (Zf Jg (Zf (fC (.int k)) Z3))) [some (.fz (.int c))] (.int v):=λe=>Zm (Zb Za (Zb Z0 Zd)) e
   exact⟨_,_,Yt (Jl (Zdk (Z7l Za (Zj Z0 Z0 Z8b) (decide_eq_false h))) rfl) (Zmp (Yda (Z28 (Zwr (W5 (Zj (W5 (Zj (st e1) (Zj Z0 Z0 Yd6) (Jr (Wk b1 bp))) (st e2)) (Zj Z0 Z0 Yd6) (Jr (Wk ((b1.mul bp).add b2) bp))) (st e3))) rfl) (Nat.le_of_ble_eq_true rfl)))⟩
 obtain⟨x,δ',e⟩:=key
 refine⟨x,?_⟩
 unfold Jz
 rw[Zdu (np:=1) (by rfl)]
 show(Jt [some (.fz (.int c))]).told=_
 rw[e];rfl
noncomputable def Z4(n:Nat)(f:Nat->Nat->Xa):OT:=.nd ((Xl n).map λi=>.nd ((Xl n).map λj=>.fz (f i j)))
noncomputable def Yk(n:Nat)(f:Nat->Nat->Xa):Xa:=.list ((Xl n).map λi=>.list ((Xl n).map λj=>f i j))
theorem Wj(n:Nat)(f:Nat->Nat->Xa):(Z4 n f).data=Yk n f:=by
 unfold Z4 Yk
 rw[OT.data_nd,QD]
 refine congrArg QC (XH λi _=>?_)
 show(OT.nd _).data=_
 rw[OT.data_nd,QD]
 exact congrArg QC (XH λj _=>OT.data_fz _)
theorem Zgk{n:Nat}{f g:Nat->Nat->Xa}(h:∀i j,i<n->j<n->f i j=g i j):Z4 n f=Z4 n g:=by
 unfold Z4
 refine congrArg OT.nd (XH λi hi=>congrArg OT.nd (XH λj hj=>congrArg OT.fz (h i j (Qp.mp hi) (Qp.mp hj))))
noncomputable def upG(f:Nat->Nat->Xa)(a b:Nat)(d:Xa):Nat->Nat->Xa:=λi j=>if i=a∧j=b then d else f i j
theorem Zhb{α:Type}{n a:Nat}(f:Nat->α)(x:α):((Xl n).map f).set a x=(Xl n).map λi=>if i=a then x else f i:=by
 refine List.ext_getElem? λi=>?_
 rw[List.getElem?_set,Xe,Xw,Xk,Xk]
 by_cases h:a=i
 ·subst h
  by_cases c:a<n
  ·rw[if_pos rfl,if_pos c,Qz c];simp
  ·rw[if_pos rfl,if_neg c,Q6 (by simp;omega)];rfl
 ·rw[if_neg h]
  by_cases c:i<n
  ·rw[Qz c];simp[Bb h]
  ·rw[Q6 (by simp;omega)];rfl
theorem Zhw{i n:Nat}{e j j2:FE}{δ:Ze}{d:Xa}{f:Nat->Nat->Xa}{a b:Nat}(he:EvV e δ d)(hi:δ[i]? =some (some (Z4 n f)))(hj:EvV j δ (.int a))(ha:a<n)(hk:EvV j2 δ (.int b))(hb:b<n) :
  Zb0 i e j j2 δ= .nx (δ.set i (some (Z4 n (upG f a b d)))):=by
 obtain⟨_,e2,d2⟩:=he
 obtain⟨_,e3,d3⟩:=hj
 obtain⟨_,e4,d4⟩:=hk
 unfold Zb0 Z4 at*
 rw[Zaw,e2,Yo,hi]
 dsimp only
 rw[Zaw,e3,Yo,d3]
 dsimp only
 rw[Zo0 (by rw[Xe,Xw];exact ha)]
 dsimp only
 rw[Xk,Qz ha,U9]
 dsimp only
 rw[Zaw,e4,Yo,d4]
 dsimp only
 rw[Zo0 (by rw[Xe,Xw];exact hb)]
 dsimp only
 rw[d2,Zhb,Zhb]
 refine congrArg RS.nx (congrArg (δ.set i) (congrArg some (congrArg OT.nd (XH λk _=>?_))))
 by_cases c:k=a
 ·subst c
  rw[if_pos rfl]
  refine congrArg OT.nd (XH λl _=>?_)
  unfold upG
  by_cases c2:l=b
  ·rw[if_pos c2,if_pos ⟨rfl,c2⟩]
  ·rw[if_neg c2,if_neg λz=>c2 z.2]
 ·rw[if_neg c]
  refine congrArg OT.nd (XH λl _=>?_)
  unfold upG
  rw[if_neg λz=>c z.1]
noncomputable def inG(R:Nat->Nat->Int):Nat->Nat->Xa:=λi j=>.int (R i j)
noncomputable def upR(R:Nat->Nat->Int)(a b:Nat)(v:Int):Nat->Nat->Int:=λi j=>if i=a∧j=b then v else R i j
theorem Z2p(R:Nat->Nat->Int)(a b:Nat)(v:Int):upG (inG R) a b (.int v)=inG (upR R a b v):=by
 funext i j
 unfold upG inG upR
 by_cases c:i=a∧j=b
 ·rw[if_pos c,if_pos c]
 ·rw[if_neg c,if_neg c]
theorem Zhp{i n:Nat}{e j j2:FE}{δ:Ze}{v:Int}{R:Nat->Nat->Int}{a b:Nat}(he:EvV e δ (.int v))(hi:δ[i]? =some (some (Z4 n (inG R))))(hj:EvV j δ (.int a))(ha:a<n)(hk:EvV j2 δ (.int b))(hb:b<n) :
  Zb0 i e j j2 δ= .nx (δ.set i (some (Z4 n (inG (upR R a b v))))):=by
 rw[←Z2p]
 exact Zhw he hi hj ha hk hb
theorem Zdr{n a b i0 i9 i10:Nat}{f:Nat->Nat->Xa}{δ:Ze}(ha:a<n)(hb:b<n)(h6:δ[i0]? =some (some (Z4 n f)))(h9:δ[i9]? =some (some (.fz (.int a))))(h10:δ[i10]? =some (some (.fz (.int b)))):EvV (Yg gIx (Yg gIx (Zko i0) (Zu i9)) (Zu i10)) δ (f a b):=by
 refine W6 (W6 (Ziu h6 (Wj n f)) (Za h9) (d:=.list ((Xl n).map λj=>f a j)) ?_) (Za h10) ?_
 ·unfold Yk
  rw[Zic,Ziv,Xk,Qz ha];rfl
 ·rw[Zic,Ziv,Xk,Qz hb];rfl
theorem Zm9{n i0:Nat}{f:Nat->Nat->Xa}{δ:Ze}(h:δ[i0]? =some (some (Z4 n f))):EvV (Zjw Zqd (Zf (Zko i0) Z3)) δ (.int n):=by
 have:=Zn1 (δ:=δ) (e:=Zko i0) (ds:=(Xl n).map λi=>.list ((Xl n).map λj=>f i j)) (Ziu h (Wj n f))
 rwa[Xe,Xw]at this
theorem Zk5{n:Nat}(hn:n≤10):Ym [.int n]= .ok (Z4 n (inG λ_ _=>0)):=by
 have e:Yef [some (.fz (.int n))]=some (Z4 n (inG λ_ _=>0),[some (.fz (.int n))]) :=
  Zdg (cs:=[some (.fz (.int n))]) (Xl n) (λi:Nat=>Xn (0+(i:Int))) (λi=>.nd ((Xl n).map λj=>.fz (inG (λ_ _=>0) i j))) (Zap (Zb Za Zd) (by omega)) (by rw[Xw,Qc];omega) rfl λi _=>
   Zdg (cs:=[]) (Xl n) (λi:Nat=>Xn (0+(i:Int))) (λj=>.fz (inG (λ_ _=>0) i j)) (Zap (Zb Za Zd) (by omega)) (by rw[Xw,Qc];omega) rfl λj _=>rfl
 unfold Ym
 rw[Zdu (np:=1) (by rfl)]
 show(Wz [some (.fz (.int n))]).told=_
 unfold Wz
 rw[Zmp e];rfl
noncomputable def ph(R:Nat->Nat->Int)(k:Nat):Nat->Nat->Int:=λi j=>min (R i j) (R i k+R k j)
noncomputable def fw(R:Nat->Nat->Int):Nat->Nat->Nat->Int
 | 0=>R
 | k+1=>ph (fw R k) k
structure Nn(R:Nat->Nat->Int):Prop where
 z:∀i,R i i=0
 nn:∀i j,0≤R i j
 sym:∀i j,R i j=R j i
theorem Nn.ph{R:Nat->Nat->Int}(h:Nn R)(k:Nat):Nn (ph R k) where
 z:=λi=>by
  unfold My.ph
  have:=h.nn i k
  have:=h.nn k i
  rw[h.z];omega
 nn:=λi j=>by
  unfold My.ph
  have:=h.nn i j
  have:=h.nn i k
  have:=h.nn k j
  omega
 sym:=λi j=>by
  unfold My.ph
  rw[h.sym i j,h.sym i k,h.sym k j,Int.add_comm]
theorem Nn.fw{R:Nat->Nat->Int}(h:Nn R)(k:Nat):Nn (fw R k):=by
 induction k with
 | zero=>exact h
 | succ k ih=>exact ih.ph k
noncomputable def Lg(R:Nat->Nat->Int)(k:Nat):Prop:=∀m,m<k->∀i j,R i j≤R i m+R m j
theorem Lg.ph{R:Nat->Nat->Int}{k:Nat}(h:Nn R)(l:Lg R k):Lg (ph R k) (k+1):=λm hm i j=>by
 have n1:=h.nn k m
 have n2:=h.nn m k
 have z:=h.z k
 unfold My.ph
 rcases Ve m k with c|c
 ·have:=l m c i j
  have:=l m c i k
  have:=l m c k j
  omega
 ·have:m=k:=by omega
  subst this
  rw[z]
  omega
theorem Zyx{R:Nat->Nat->Int}(h:Nn R)(k:Nat):Lg (fw R k) k:=by
 induction k with
 | zero=>exact λm hm=>absurd hm (Qe m)
 | succ k ih=>exact Lg.ph (h.fw k) ih
noncomputable def mix(R:Nat->Nat->Int)(k a b:Nat):Nat->Nat->Int:=λi j=>if i<a∨(i=a∧j<b)then ph R k i j else R i j
theorem Z2k{R:Nat->Nat->Int}(h:Nn R)(k a b i:Nat):mix R k a b i k=R i k:=by
 unfold mix
 split
 ·unfold ph;rw[h.z];have:=h.nn i k;omega
 ·rfl
theorem Z26{R:Nat->Nat->Int}(h:Nn R)(k a b j:Nat):mix R k a b k j=R k j:=by
 unfold mix
 split
 ·unfold ph;rw[h.z];have:=h.nn k j;omega
 ·rfl
theorem Zta(a b:Int):Z0p [.int a,.int b]=some (.int (min a b)):=by
 show some (Xn (if b<a then b else a))=_
 refine congrArg (λz=>some (Xn z)) ?_
 split<;>omega
theorem Zhn{n:Nat}{R S:Nat->Nat->Int}(h:∀i j,i<n->j<n->R i j=S i j):Z4 n (inG R)=Z4 n (inG S):=Zgk λi j hi hj=>congrArg Xn (h i j hi hj)
theorem Zmz{n:Nat}(hn:n≤10){R:Nat->Nat->Int}(h:Nn R):ToldI Jb (Z4 n (inG R)) [] λ_ t'=>t'=Z4 n (inG (fw R n)):=by
 refine Zem rfl (Z8 (Zbo (Zq (Zm9 rfl)) ?_))
 refine Za3 (ds:=Zcg 0 n) (λk δ=>∃z2 z3 z4,δ=[some (Z4 n (inG (fw R k))),some (.fz (.int n)),z2,z3,z4]) (Zap (Zb Za Zd) (by omega)) ⟨none,none,none,rfl⟩ (λk d δ hd q=>?_) λδ' q=>?_
 ·obtain⟨z2,z3,z4,rfl⟩:=q
  obtain⟨hk,rfl⟩:=Z9 hd
  rw[Qw]
  have hN:=h.fw k
  refine⟨_,rfl,Za3 (ds:=Zcg 0 n) (λa δ=>∃z3 z4,δ=[some (Z4 n (inG (mix (fw R k) k a 0))),some (.fz (.int n)),some (.fz (.int k)),z3,z4]) (Zap (Zb Za Zd) (by omega)) ⟨z3,z4,?_⟩ (λa d δ hd q=>?_) λδ' q=>?_⟩
  ·rw[Zhn (R:=mix (fw R k) k 0 0) (S:=fw R k) λi j _ _=>if_neg (by omega)];rfl
  ·obtain⟨z3,z4,rfl⟩:=q
   obtain⟨ha,rfl⟩:=Z9 hd
   rw[Qw]
   refine⟨_,rfl,Za3 (ds:=Zcg 0 n) (λb δ=>∃z4,δ=[some (Z4 n (inG (mix (fw R k) k a b))),some (.fz (.int n)),some (.fz (.int k)),some (.fz (.int a)),z4]) (Zap (Zb Za Zd) (by omega)) ⟨z4,rfl⟩ (λb d δ hd q=>?_) λδ' q=>?_⟩
   ·obtain⟨z4,rfl⟩:=q
    obtain⟨hb,rfl⟩:=Z9 hd
    rw[Qw]
    have v:min (mix (fw R k) k a b a b) (mix (fw R k) k a b a k+mix (fw R k) k a b k b)=ph (fw R k) k a b:=by
     rw[Z2k hN,Z26 hN,show mix (fw R k) k a b a b=fw R k a b from if_neg (by omega)];rfl
    refine⟨_,rfl,Zbo (Zhp (n:=n) (a:=a) (b:=b) (v:=ph (fw R k) k a b) (EvV.cast (Zan (Zb (Zdr (f:=inG (mix (fw R k) k a b)) (i0:=0) (i9:=3) (i10:=4) ha hb rfl rfl rfl) (Zb (W5 (Zdr (f:=inG (mix (fw R k) k a b)) (i0:=0) (i9:=3) (i10:=2) ha hk rfl rfl rfl) (Zdr (f:=inG (mix (fw R k) k a b)) (i0:=0) (i9:=2) (i10:=4) hk hb rfl rfl rfl)) Zd)) (Zta _ _)) (congrArg Xn v)) rfl Za ha Za hb) ⟨some (.fz (.int b)),?_⟩⟩
    rw[Zhn (R:=upR (mix (fw R k) k a b) a b (ph (fw R k) k a b)) (S:=mix (fw R k) k a (b+1)) λi j _ _=>?_]
    ·rfl
    ·unfold upR mix
     by_cases c:i=a∧j=b
     ·rw[if_pos c,if_pos (by omega),c.1,c.2]
     ·rw[if_neg c]
      by_cases c2:i<a∨(i=a∧j<b)
      ·rw[if_pos c2,if_pos (by omega)]
      ·rw[if_neg c2,if_neg (by omega)]
   ·obtain⟨z4,rfl⟩:=q
    refine⟨some (.fz (.int a)),z4,?_⟩
    rw[Z6,Zhn (R:=mix (fw R k) k a n) (S:=mix (fw R k) k (a+1) 0) λi j _ hj=>?_]
    ·unfold mix
     by_cases c:i<a∨(i=a∧j<n)
     ·rw[if_pos c,if_pos (by omega)]
     ·rw[if_neg c,if_neg (by omega)]
  ·obtain⟨z3,z4,rfl⟩:=q
   refine⟨some (.fz (.int k)),z3,z4,?_⟩
   rw[Z6,Zhn (R:=mix (fw R k) k n 0) (S:=fw R (k+1)) λi j hi _=>if_pos (.inl hi)]
 ·obtain⟨z2,z3,z4,rfl⟩:=q
  rw[Z6]
  exact⟨_,rfl,rfl⟩
noncomputable def bb(bits:Int)(i:Nat):Int:=Builtin.bitAnd (bits/2^i) 1
noncomputable def adC(R:Nat->Nat->Int)(bits w:Int):Nat->Nat->Int:=λi j=>if bb bits i=bb bits j then R i j else R i j+w
noncomputable def mxC(R:Nat->Nat->Int)(bits w:Int)(a b:Nat):Nat->Nat->Int:=λi j=>if i<a∨(i=a∧j<b)then adC R bits w i j else R i j
theorem Zww{δ:Ze}{k i:Nat}{bits:Int}(h1:δ[1]? =some (some (.fz (.int bits))))(hk:δ[k]? =some (some (.fz (.int i)))):EvV (Zh Z72 (Zh Z33 Zce (Zu k)) Zfl) δ (.int (bb bits i)):=by
 have e:Z33 (.int bits) (.int i)=some (.int (bits/2^i)):=by
  show(if decide ((0:Int)≤i)=true then some (Xn (bits/2^((i:Int).toNat)))else none)=_
  rw[if_pos (decide_eq_true (by omega)),QV]
 exact Zj (Zj (Za h1) (Za hk) e) Z0 rfl
theorem Zpn{n:Nat}(hn:n≤10)(R:Nat->Nat->Int)(bits w:Int):ToldI Jh (Z4 n (inG R)) [.int bits,.int w] λ_ t'=>t'=Z4 n (inG (adC R bits w)):=by
 refine Zem rfl (Za3 (ds:=Zcg 0 n) (λa δ=>∃z3 z4,δ=[some (Z4 n (inG (mxC R bits w a 0))),some (.fz (.int bits)),some (.fz (.int w)),z3,z4]) (Zap (Zb (Zm9 rfl) Zd) (by omega)) ⟨none,none,?_⟩ (λa d δ hd q=>?_) λδ' q=>?_)
 ·rw[Zhn (R:=mxC R bits w 0 0) (S:=R) λi j _ _=>if_neg (by omega)];rfl
 ·obtain⟨z3,z4,rfl⟩:=q
  obtain⟨ha,rfl⟩:=Z9 hd
  rw[Qw]
  refine⟨_,rfl,Za3 (ds:=Zcg 0 n) (λb δ=>∃z4,δ=[some (Z4 n (inG (mxC R bits w a b))),some (.fz (.int bits)),some (.fz (.int w)),some (.fz (.int a)),z4]) (Zap (Zb (Zm9 rfl) Zd) (by omega)) ⟨z4,rfl⟩ (λb d δ hd q=>?_) λδ' q=>?_⟩
  ·obtain⟨z4,rfl⟩:=q
   obtain⟨hb,rfl⟩:=Z9 hd
   rw[Qw]
   have v:mxC R bits w a b a b=R a b:=if_neg (by omega)
   have up:∀x:Int,x=adC R bits w a b->Z4 n (inG (upR (mxC R bits w a b) a b x))=Z4 n (inG (mxC R bits w a (b+1))):=λx hx=>Zhn λi j _ _=>by
    unfold upR mxC
    by_cases c:i=a∧j=b
    ·rw[if_pos c,if_pos (by omega),hx,c.1,c.2]
    ·rw[if_neg c]
     by_cases c2:i<a∨(i=a∧j<b)
     ·rw[if_pos c2,if_pos (by omega)]
     ·rw[if_neg c2,if_neg (by omega)]
   refine⟨_,rfl,Zlj (Zdf (Zdk (Zp4 (Zww rfl rfl) (Zww rfl rfl) rfl)) ⟨λc=>?_,λc=>?_⟩)⟩
   ·have c':bb bits a≠bb bits b:=by simpa using c
    refine Zbo (Zhp (n:=n) (a:=a) (b:=b) (v:=R a b+w) (W5 (EvV.cast (Zdr (f:=inG (mxC R bits w a b)) (i0:=0) (i9:=3) (i10:=4) ha hb rfl rfl rfl) (congrArg Xn v)) Za) rfl Za ha Za hb) ⟨some (.fz (.int b)),?_⟩
    rw[up _ (show R a b+w=adC R bits w a b from(if_neg c').symm)];rfl
   ·have c':bb bits a=bb bits b:=by simpa using c
    refine Zii ⟨some (.fz (.int b)),?_⟩
    rw[Zhn (R:=mxC R bits w a (b+1)) (S:=mxC R bits w a b) λi j _ _=>?_]
    ·rfl
    ·unfold mxC
     by_cases c:i=a∧j=b
     ·rw[if_pos (by omega),if_neg (by omega),c.1,c.2]
      exact if_pos c'
     ·by_cases c2:i<a∨(i=a∧j<b)
      ·rw[if_pos c2,if_pos (by omega)]
      ·rw[if_neg c2,if_neg (by omega)]
  ·obtain⟨z4,rfl⟩:=q
   refine⟨some (.fz (.int a)),z4,?_⟩
   rw[Z6,Zhn (R:=mxC R bits w a n) (S:=mxC R bits w (a+1) 0) λi j _ hj=>?_]
   ·unfold mxC
    by_cases c:i<a∨(i=a∧j<n)
    ·rw[if_pos c,if_pos (by omega)]
    ·rw[if_neg c,if_neg (by omega)]
 ·obtain⟨z3,z4,rfl⟩:=q
  rw[Z6,Zhn (R:=mxC R bits w n 0) (S:=adC R bits w) λi j hi _=>if_pos (.inl hi)]
  exact⟨_,rfl,rfl⟩
structure Lt(n:Nat)(R:Nat->Nat->Int):Prop extends Nn R where
 tri:∀i j m,m<n->R i j≤R i m+R m j
theorem Lt.add{n:Nat}{R:Nat->Nat->Int}(h:Lt n R){bits w:Int}(hw:0≤w):Lt n (adC R bits w) where
 z:=λi=>by unfold adC;rw[if_pos rfl];exact h.z i
 nn:=λi j=>by
  unfold adC
  have:=h.nn i j
  split<;>omega
 sym:=λi j=>by
  unfold adC
  rw[h.sym i j]
  by_cases c:bb bits i=bb bits j
  ·rw[if_pos c,if_pos c.symm]
  ·rw[if_neg c,if_neg λz=>c z.symm]
 tri:=λi j m hm=>by
  unfold adC
  have:=h.tri i j m hm
  split<;>split<;>split<;>first|omega|(rename_i c1 c2 c3;exact absurd (c2.trans c3) c1)
noncomputable def sdL:Nat->List (List Int)
 | 0=>[[]]
 | k+1=>sdL k ++ (sdL k).map λs=>s ++ [(k:Int)+1]
noncomputable def sdN(n:Nat):List (List Int):=(sdL (n-1)).filter λs=>!decide (s=[])
theorem Zsl(k:Nat):(sdL k).length=2^k:=by
 induction k with
 | zero=>rfl
 | succ k ih=>rw[sdL,Qy,Xe,ih,Nat.pow_succ];omega
theorem Zil(k:Nat):∀s∈sdL k,s.length≤k∧s.Pairwise (·<·)∧∀x∈s,1≤x∧x≤k:=by
 induction k with
 | zero=>intro s hs;rw[Xy.mp hs];exact⟨XQ _,.nil,λ_ m=>nomatch m⟩
 | succ k ih=>
  intro s hs
  rcases Ql.mp hs with hs|hs
  ·obtain⟨h1,h2,h3⟩:=ih s hs
   exact⟨by omega,h2,λx hx=>by have:=h3 x hx;omega⟩
  ·obtain⟨r,hr,rfl⟩:=XF.mp hs
   obtain⟨h1,h2,h3⟩:=ih r hr
   refine⟨by rw[Qy];exact Nat.succ_le_succ h1,List.pairwise_append.mpr ⟨h2,U7 ..,λx hx y hy=>?_⟩,λx hx=>?_⟩
   ·rw[Xy.mp hy]
    have:=h3 x hx
    omega
   ·rcases Ql.mp hx with z|z
    ·have:=h3 x z;omega
    ·rw[Xy.mp z];omega
theorem Zsb(p:List Int):Sh 1 (Zo p):=lay_ints p
theorem Zve(a b:List Int):gNe (Zo a) (Zo b)=some (.bool (!decide (a=b))):=by
 have s:∀p,VF (Zo p)=true:=λp=>((Zsb p).shp (by omega)).ok
 unfold gNe
 rw[if_pos (by rw[s,s];rfl)]
 exact congrArg (λz=>some (PyData.bool (!z))) (Zr9 a b)
noncomputable def frG(T:Nat->Nat->Rat):Nat->Nat->Xa:=λi j=>frD (T i j)
theorem Z1u{q r:Rat}(bq:Bt 400 q.num)(dq:Bt 400 (q.den:Int))(br:Bt 400 r.num)(dr:Bt 400 (r.den:Int)):Told Zds [frD q,frD r] (frD (q+r)):=by
 rw[←Zob]
 exact Z1 rfl<|Wm<|Zm (Zb (W5 (Zj (W6 (d:=.int q.num) Za Z0 rfl) (W6 (d:=.int (r.den:Int)) Za Z0 rfl) (Jr (Wk bq dr))) (Zj (W6 (d:=.int r.num) Za Z0 rfl) (W6 (d:=.int (q.den:Int)) Za Z0 rfl) (Jr (Wk br dq)))) (Zb (Zj (W6 (d:=.int (q.den:Int)) Za Z0 rfl) (W6 (d:=.int (r.den:Int)) Za Z0 rfl) (Jr (Wk dq dr))) Zd)) (Zd1 (Int.ne_of_gt (Int.mul_pos (J4 q) (J4 r))) (dq.mul dr))
theorem Zkl{q r:Rat}{m n:Nat}(bq:Bt m q.num)(dq:Bt m (q.den:Int))(br:Bt n r.num)(dr:Bt n (r.den:Int))(h:r≤q)(hmn:m+n≤100000000:=by decide):Told Zai [frD q,frD r] (.bool false) :=
 Z1 rfl<|Wm<|Zsi (Zj (W6 (d:=.int q.num) Za Z0 rfl) (W6 (d:=.int (r.den:Int)) Za Z0 rfl) (Jr (Wk bq dr hmn))) (Zj (W6 (d:=.int r.num) Za Z0 rfl) (W6 (d:=.int (q.den:Int)) Za Z0 rfl) (Jr (Wk br dq (by omega)))) (decide_eq_false λz=>absurd ((Zr8 q r).mp z) (Rat.not_lt.mpr h))
structure Tb(n:Nat)(T:Nat->Nat->Rat):Prop where
 num:∀i j,Bt 400 (T i j).num
 den:∀i j,Bt 400 ((T i j).den:Int)
 tri:∀i j k,j<n->T i k≤T i j+T j k
theorem Z00{n a b i0 i9 i10:Nat}{f:Nat->Nat->Xa}{δ:Ze}(ha:a<n)(hb:b<n)(h6:δ[i0]? =some (some (.fz (Yk n f))))(h9:δ[i9]? =some (some (.fz (.int a))))(h10:δ[i10]? =some (some (.fz (.int b)))):EvV (Yg gIx (Yg gIx (Zu i0) (Zu i9)) (Zu i10)) δ (f a b):=by
 refine W6 (W6 (Za h6) (Za h9) (d:=.list ((Xl n).map λj=>f a j)) ?_) (Za h10) ?_
 ·unfold Yk
  rw[Zic,Ziv,Xk,Qz ha];rfl
 ·rw[Zic,Ziv,Xk,Qz hb];rfl
theorem Zvc{n:Nat}{T:Nat->Nat->Rat}(h:Tb n T){i j k:Nat}(hi:i<n)(hj:j<n)(hk:k<n):Told Ji [Yk n (frG T),.int i,.int j,.int k] (.bool false):=by
 have e:T i j+T j k=Xv ((T i j).num*((T j k).den:Int)+(T j k).num*((T i j).den:Int)) (((T i j).den:Int)*((T j k).den:Int)):=(Zob _ _).symm
 have dp:((T i j).den:Int)*((T j k).den:Int)≠0:=Int.ne_of_gt (Int.mul_pos (J4 _) (J4 _))
 have bn:Bt 2000 (T i j+T j k).num:=by
  rw[e]
  exact Zkw dp ((((h.num i j).mul (h.den j k)).add ((h.num j k).mul (h.den i j))).mono (by decide))
 have bd:Bt 2000 ((T i j+T j k).den:Int):=by
  rw[e]
  exact Zs0 dp (((h.den i j).mul (h.den j k)).mono (by decide))
 exact Z1 rfl<|Wm<|Zm (Zb (Zm (Zb (Z00 (i0:=0) (i9:=1) (i10:=2) hi hj rfl rfl rfl) (Zb (Z00 (i0:=0) (i9:=2) (i10:=3) hj hk rfl rfl rfl) Zd)) (Z1u (h.num i j) (h.den i j) (h.num j k) (h.den j k))) (Zb (Z00 (i0:=0) (i9:=1) (i10:=3) hi hk rfl rfl rfl) Zd)) (Zkl bn bd (h.num i k) (h.den i k) (h.tri i j k hj))
theorem Zif{n:Nat}(hn:n≤10){T:Nat->Nat->Rat}(h:Tb n T):Told Js [Yk n (frG T)] .none:=by
 have gl:EvV Zqa [some (.fz (Yk n (frG T))),none,none,none,none] (.int n):=by
  have:=Zn1 (δ:=[some (.fz (Yk n (frG T))),none,none,none,none]) (e:=Zu 0) (ds:=(Xl n).map λi=>.list ((Xl n).map λj=>frG T i j)) Za
  rwa[Xe,Xw]at this
 refine Z1 rfl<|Yl (Zq gl)<|Zhy (ds:=Zcg 0 n) (λ_ δ=>∃z2 z3 z4,δ=[some (.fz (Yk n (frG T))),some (.fz (.int n)),z2,z3,z4]) (Zap (Zb Za Zd) (by omega)) ⟨none,none,none,rfl⟩ (λi d δ hd q=>?_) λδ' q=>?_
 ·obtain⟨z2,z3,z4,rfl⟩:=q
  obtain⟨hi,rfl⟩:=Z9 hd
  rw[Qw]
  refine Zgl (ds:=Zcg 0 n) (λ_ δ=>∃z3 z4,δ=[some (.fz (Yk n (frG T))),some (.fz (.int n)),some (.fz (.int i)),z3,z4]) rfl (Zap (Zb Za Zd) (by omega)) ⟨z3,z4,rfl⟩ (λj d δ hd q=>?_) λδ' q=>?_
  ·obtain⟨z3,z4,rfl⟩:=q
   obtain⟨hj,rfl⟩:=Z9 hd
   rw[Qw]
   refine Zgl (ds:=Zcg 0 n) (λ_ δ=>∃z4,δ=[some (.fz (Yk n (frG T))),some (.fz (.int n)),some (.fz (.int i)),some (.fz (.int j)),z4]) rfl (Zap (Zb Za Zd) (by omega)) ⟨z4,rfl⟩ (λk d δ hd q=>?_) λδ' q=>?_
   ·obtain⟨z4,rfl⟩:=q
    obtain⟨hk,rfl⟩:=Z9 hd
    rw[Qw]
    exact⟨_,_,rfl,.inl (Jl (Zkh (Zm (Zb Za (Zb Za (Zb Za (Zb Za Zd)))) (Zvc h hi hj hk))) rfl),_,rfl⟩
   ·obtain⟨z4,rfl⟩:=q
    exact⟨_,_,rfl⟩
  ·obtain⟨z3,z4,rfl⟩:=q
   exact⟨_,_,_,rfl⟩
 ·obtain⟨z2,z3,z4,rfl⟩:=q
  exact Wm Z0
theorem Zjr{n:Nat}(hn:n≤10){T:Nat->Nat->Rat}(h:Tb n T):Told J3 [Yk n (frG T)] .none :=
 Ztm rfl (Jl (Zdk (Zj (Zm (Zb Za Zd) (Zif hn h)) Z0 rfl)) rfl)
noncomputable def Zxw(n:Nat)(f:Nat->Int):Xa:=.list ((Xl n).map λj=>.int (f j))
noncomputable def Y0(n:Nat)(r:Nat->Nat->Int):Xa:=.list ((Xl n).map λi=>Zxw n (r i))
theorem Zgm{α:Type}{n i:Nat}(f:Nat->α)(h:i<n):atI ((Xl n).map f) (i:Int)=some (f i):=by
 rw[Ziv,Xk,Qz h];rfl
theorem Zy8{n j:Nat}{f:Nat->Int}(h:j<n):gIx (Zxw n f) (.int (j:Int))=some (.fz (.int (f j))):=by
 unfold Zxw;rw[Zic,Zgm _ h];rfl
theorem Zvv{n i:Nat}{r:Nat->Nat->Int}(h:i<n):gIx (Y0 n r) (.int (i:Int))=some (.fz (Zxw n (r i))):=by
 unfold Y0;rw[Zic,Zgm _ h];rfl
theorem Zel(n:Nat)(r:Nat->Nat->Int):Zqd [Y0 n r]=some (.int n):=by
 unfold Y0;rw[Zqg,Xe,Xw]
theorem Zad{n x y i j:Nat}{S:Nat->Nat->Int}{δ:Ze}(hx:x<n)(hy:y<n)(h0:δ[0]? =some (some (.fz (Y0 n S))))(h1:δ[i]? =some (some (.fz (.int x))))(h2:δ[j]? =some (some (.fz (.int y)))):EvV (Yg gIx (Yg gIx Jg (Zu i)) (Zu j)) δ (.int (S x y)):=W6 (W6 (Za h0) (Za h1) (Zvv hx)) (Za h2) (Zy8 hy)
theorem Z1e{it:FI}{g:FG}{S S':FS}{δ:Ze}{ds:List Xa}{Q:Xa->Prop}(I:Nat->Ze->Prop)(hi:EvI it δ ds)(h0:I 0 δ)(turn:∀(i:Nat) (d:Xa) (δ:Ze),ds[i]? =some d->I i δ->(∃δ1 δ2,g d δ=some δ1∧S δ1= .nx δ2∧I (i+1) δ2)∨∃δ1,g d δ=some δ1∧Zp9 S δ1 Q)(fin:∀δ',I ds.length δ'->Zp9 S' δ' Q):Zp9 (Zz (Wl it g S) S') δ Q:=by
 have key:(∃δ',forLoop g S ds δ= .nx δ'∧I ds.length δ')∨∃o δ',forLoop g S ds δ= .rt o δ'∧Q o.data:=by
  clear fin hi
  induction ds generalizing δ I with
  | nil=>exact .inl ⟨δ,rfl,h0⟩
  | cons d ds ih=>
   rcases turn 0 d δ rfl h0 with⟨δ1,δ2,e1,e2,h1⟩|⟨δ1,e1,d',⟨o,δ2,e2,hd⟩,hq⟩
   ·rcases ih (δ:=δ2) (λi δ=>I (i+1) δ) h1 λi d' δ hd hi=>turn (i+1) d' δ (by simpa using hd) hi with⟨δ',e3,h3⟩|⟨o,δ',e3,h3⟩
    ·refine .inl ⟨δ',?_,h3⟩
     rw[Jf,e1]
     dsimp only
     rw[e2]
     exact e3
    ·refine .inr ⟨o,δ',?_,h3⟩
     rw[Jf,e1]
     dsimp only
     rw[e2]
     exact e3
   ·refine .inr ⟨o,δ2,?_,by rw[hd];exact hq⟩
    rw[Jf,e1]
    dsimp only
    rw[e2]
 rcases key with⟨δ',e,h⟩|⟨o,δ',e,h⟩
 ·exact Zdm (Zhg hi e) (fin δ' h)
 ·exact Zux ⟨_,⟨o,δ',Zhg hi e,rfl⟩,h⟩
noncomputable def Zvp(p:List Int)(lo hi:Option Int):List Int:=(p.drop (HT.sIx p.length 0 lo)).take (HT.sIx p.length p.length hi-HT.sIx p.length 0 lo)
theorem Zt8(p:List Int)(lo hi:Option Int):cutD (p.map Xn) lo hi=(Zvp p lo hi).map Xn:=by
 unfold cutD Zvp
 rw[Xe,List.map_take,List.map_drop]
theorem Zr5{p:List Int}{k:Nat}(h:k≤p.length):Zvp p (some (k:Int)) none=p.drop k:=by
 unfold Zvp
 rw[HT.sIx_none,HT.sIx_nat,Nat.min_eq_left h,List.take_of_length_le (by rw[JR];omega)]
theorem Z3u{e:FE}{δ:Ze}{r p:List Int}{lo hi:FO}{l h:Option Int}(he:EvV e δ (Zo r))(hl:EvO lo δ l)(hh:EvO hi δ h)(hp:Zvp r l h=p):EvV (fSl e lo hi) δ (Zo p):=hp▸(Z9x (ds:=r.map Xn) he hl hh).cast (by rw[Zt8];rfl)
theorem getD_mem{p:List Int}{i:Nat}(h:i<p.length):p.getD i 0∈p:=by
 rw[Xi,Xj h];exact VR h
noncomputable def rl(S:Nat->Nat->Int)(i j k l:Nat):Int:=max (max (S i j+S k l) (S i k+S j l)) (S i l+S j k)-(S i j+S k l)
theorem Zi9{n i j k l:Nat}{S:Nat->Nat->Int}(hi:i<n)(hj:j<n)(hk:k<n)(hl:l<n):Told Wa [Y0 n S,.int i,.int j,.int k,.int l] (.tuple [.int (S i j+S k l),.int (S i k+S j l),.int (S i l+S j k)]) :=
 Z1 rfl<|Wm<|Zfw (Zb (W5 (Zad hi hj rfl rfl rfl) (Zad hk hl rfl rfl rfl)) (Zb (W5 (Zad hi hk rfl rfl rfl) (Zad hj hl rfl rfl rfl)) (Zb (W5 (Zad hi hl rfl rfl rfl) (Zad hj hk rfl rfl rfl)) Zd))) (show 3≤1000 by decide)
theorem Zjy(a b c:Int):Told Y7 [.tuple [.int a,.int b,.int c]] (.int (max (max a b) c-a)) :=
 Z1 rfl<|Wm<|Zij (Zan (Zb Za Zd) (show Zsu [.tuple [.int a,.int b,.int c]]=some (.int (max (max a b) c))from rfl)) (W6 (d:=.int a) Za Z0 rfl)
theorem Z51{a b:FE}{δ:Ze}{i j:Int}(ha:EvV a δ (.int i))(hb:EvV b δ (.int j)):EvV (Zjw Z0p (Zf a (Zf b Z3))) δ (.int (min i j)):=Zan (Zb ha (Zb hb Zd)) (My.Zta i j)
noncomputable def Zl2(p:List Int)(i:Nat):List (Int×Int):=(Xl i).flatMap λk=>(p.drop k).map λy=>(p.getD k 0,y)
noncomputable def dbl(p:List Int):List (Int×Int):=Zl2 p p.length
theorem Zir(p:List Int)(i:Nat):Zl2 p (i+1)=Zl2 p i ++ (p.drop i).map λy=>(p.getD i 0,y):=by
 unfold Zl2;rw[List.range_succ,List.flatMap_append,List.flatMap_cons,List.flatMap_nil,QT]
theorem Zsz(p:List Int)(i:Nat):(Zl2 p i).length≤i*p.length:=by
 induction i with
 | zero=>exact QZ _
 | succ i ih=>
  rw[Zir,Qy,Xe,JR,Nat.succ_mul]
  omega
theorem Zg1{p:List Int}{x:Int×Int}:x∈dbl p↔∃k j,k≤j∧j<p.length∧x=(p.getD k 0,p.getD j 0):=by
 unfold dbl Zl2
 rw[VN]
 constructor
 ·rintro⟨k,hk,h⟩
  obtain⟨y,hy,rfl⟩:=XF.mp h
  obtain⟨j,hj,rfl⟩:=BJ hy
  rw[JR]at hj
  refine⟨k,k+j,by omega,by omega,?_⟩
  rw[List.getElem_drop,Xi (i:=k+j),Xj (by omega)];rfl
 ·rintro⟨k,j,h1,h2,rfl⟩
  refine⟨k,Qp.mpr (by omega),XF.mpr ⟨_,?_,rfl⟩⟩
  have:p.getD j 0=(p.drop k).getD (j-k) 0:=by
   rw[Xi,Xi,List.getElem?_drop,show k+(j-k)=j by omega]
  rw[this]
  exact getD_mem (by rw[JR];omega)
theorem Zf0{p:List Int}{x:Int×Int}(h:x∈dbl p):x.1∈p∧x.2∈p:=by
 obtain⟨k,j,h1,h2,rfl⟩:=Zg1.mp h
 exact⟨getD_mem (by omega),getD_mem h2⟩
theorem Znf{p:List Int}{i:Nat}{d:Xa}(h:(p.map Xn)[i]? =some d):i<p.length∧d= .int (p.getD i 0):=by
 rw[Xk]at h
 cases e:p[i]? with
 | none=>rw[e]at h;cases h
 | some x=>
  rw[e]at h
  cases h
  exact⟨(Xg.mp e).1,by rw[Xi,e];rfl⟩
theorem Zei(p:List Int)(hl:p.length≤100):Told Wy [Zo p] (.list ((dbl p).map prD)):=by
 refine Z1 rfl<|Yl Zlm<|Zhy (ds:=Zjt (p.map Xn)) (λi δ=>∃z1 z2 z3,δ=[some (.fz (Zo p)),some (.nd (((Zl2 p i).map prD).map OT.fz)),z1,z2,z3]) (Z1o Za) ⟨_,_,_,rfl⟩ (λi d δ hd q=>?_) λδ' q=>?_
 ·obtain⟨z1,z2,z3,rfl⟩:=q
  obtain⟨x,hx,rfl⟩:=Zld hd
  obtain⟨hi,rfl⟩:=Znf hx
  have ln:=Zsz p i
  have l2:i*p.length≤100*100:=Nat.mul_le_mul (by omega) hl
  refine Zgl (ds:=(p.drop i).map Xn) (λj δ=>∃z,δ=[some (.fz (Zo p)),some (.nd (((Zl2 p i ++ ((p.drop i).take j).map λy=>(p.getD i 0,y)).map prD).map OT.fz)),some (.fz (.int i)),some (.fz (.int (p.getD i 0))),z]) rfl (Yx (Z3u Za (Yc0 Za) Yb5 (Zr5 (by omega)))) ⟨z3,by rw[List.take_zero,List.map_nil,QT];rfl⟩ (λj d δ hd q=>?_) λδ' q=>?_
  ·obtain⟨z,rfl⟩:=q
   obtain⟨hj,rfl⟩:=Znf hd
   refine⟨_,_,rfl,.inl (Zo3 (Zfw (Zb Za (Zb Za Zd)) (show 2≤1000 by decide)) rfl (by rw[Xe,Xe,Qy,Xe,VP,JR];omega)),some (.fz (.int ((p.drop i).getD j 0))),?_⟩
   have e:(p.drop i).take (j+1)=(p.drop i).take j ++ [(p.drop i).getD j 0]:=by
    rw[Vn,Xi,Xj hj];rfl
   rw[e]
   simp only[QF,Bu]
   rfl
  ·obtain⟨z,rfl⟩:=q
   rw[Xe,Bj,←Zir]
   exact⟨_,_,_,rfl⟩
 ·obtain⟨z1,z2,z3,rfl⟩:=q
  refine Z7x rfl ?_
  rw[OT.data_nd,OT.map_fz]
  unfold Zjt
  rw[Xe,List.length_zipIdx,Xe];rfl
noncomputable def away(n:Nat)(p:List Int):List Int:=((Xl n).filter λi:Nat=>!decide ((i:Int)∈p)).map λi:Nat=>(i:Int)
theorem Zc7{n:Nat}{p:List Int}{x:Int}:x∈away n p↔0≤x∧x<n∧x∉p:=by
 unfold away
 rw[XF]
 constructor
 ·rintro⟨i,hi,rfl⟩
  obtain⟨h1,h2⟩:=Q7.mp hi
  have:=Qp.mp h1
  exact⟨by omega,by omega,by simpa using h2⟩
 ·rintro⟨h1,h2,h3⟩
  refine⟨x.toNat,Q7.mpr ⟨Qp.mpr (by omega),?_⟩,by omega⟩
  rw[show((x.toNat:Nat):Int)=x by omega,decide_eq_false h3];rfl
theorem Zvb(n:Nat)(p:List Int):(away n p).length≤n:=by
 unfold away
 rw[Xe]
 exact Qg (Vg _ _) (Nat.le_of_eq Xw)
theorem Zg4(neg:Bool)(x:Int)(p:List Int):Zyp neg (.int x) (Zo p)=some (.bool (if neg then !decide (x∈p)else decide (x∈p))):=by
 have e:memS (.int x) (p.map Xn)=decide (x∈p):=by
  unfold memS
  rw[List.any_map]
  rw[Bool.eq_iff_iff,List.any_eq_true,decide_eq_true_eq]
  constructor
  ·rintro⟨y,hy,h⟩
   have:(y==x)=true:=h
   rw[←eq_of_beq this];exact hy
  ·intro h
   exact⟨x,h,(show(x==x)=true from beq_self_eq_true x)⟩
 have s:(p.map Xn).all scD=true:=by
  rw[BP]
  intro d hd
  obtain⟨y,_,rfl⟩:=XF.mp hd
  rfl
 show(if(scD (.int x)&&(p.map Xn).all scD)=true then some (PyData.bool (if neg then !memS (.int x) (p.map Xn)else memS (.int x) (p.map Xn)))else none)=_
 rw[s,e];rfl
theorem Zst{n:Nat}{p:List Int}{caps:List Nat}{it:FI}{δ:Ze}(hi:EvI it δ (Zcg 0 n))(hn:n≤1000)(hb:blk 1 caps δ=[none,some (.fz (Zo p))]):EvV (Wc 1 caps it Zi4 Z85 Jg) δ (Zo (away n p)):=by
 refine(Zeg (cs:=[some (.fz (Zo p))]) (Xl n) (λi:Nat=>Xn (0+(i:Int))) (λi=>!decide ((i:Int)∈p)) hi (by rw[Xw];omega) hb (λx _=>Zdk (Zj Za Za ?_)) λx _ _=>rfl).cast ?_
 ·rw[Zg4,Qw];rfl
 ·unfold away Zo
  rw[QD]
  refine congrArg QC (XH λi _=>?_)
  show Xn (0+(i:Int))=Xn i
  rw[Qw]
noncomputable def rlI(S:Nat->Nat->Int)(p q:Int×Int):Int:=rl S p.1.toNat p.2.toNat q.1.toNat q.2.toNat
noncomputable def Lst(S:Nat->Nat->Int)(A B:List Int)(m:Int):Prop:=(∃p∈dbl A,∃q∈dbl B,m=rlI S p q)∧∀p∈dbl A,∀q∈dbl B,m≤rlI S p q
theorem Lst.exists(S:Nat->Nat->Int){A B:List Int}{p q:Int×Int}(hp:p∈dbl A)(hq:q∈dbl B):∃m,Lst S A B m:=by
 obtain⟨vs,hv⟩:∃vs,vs=(dbl A).flatMap λp=>(dbl B).map λq=>rlI S p q:=⟨_,rfl⟩
 have mem:∀x,x∈vs↔∃p∈dbl A,∃q∈dbl B,x=rlI S p q:=λx=>by
  rw[hv,VN]
  constructor
  ·rintro⟨p,hp,h⟩
   obtain⟨q,hq,rfl⟩:=XF.mp h
   exact⟨p,hp,q,hq,rfl⟩
  ·rintro⟨p,hp,q,hq,rfl⟩
   exact⟨p,hp,XF.mpr ⟨q,hq,rfl⟩⟩
 have hm:=(mem _).mpr ⟨p,hp,q,hq,rfl⟩
 obtain⟨h1,h2⟩:=Zth (ns:=vs) (List.length_pos_of_mem hm)
 exact⟨Z86 vs,(mem _).mp h1,λp hp q hq=>h2 _ ((mem _).mpr ⟨p,hp,q,hq,rfl⟩)⟩
theorem Zq2{n:Nat}{S:Nat->Nat->Int}{δ:Ze}{ea eb ec ee:FE}{a b c e:Int}(h0:δ[0]? =some (some (.fz (Y0 n S))))(h2:δ[2]? =some (some (.fz (fnD "split_rule"))))(ha:EvV ea δ (.int a))(hb:EvV eb δ (.int b))(hc:EvV ec δ (.int c))(he:EvV ee δ (.int e))(ba:0≤a∧a<n)(bb:0≤b∧b<n)(bc:0≤c∧c<n)(be:0≤e∧e<n) :
  EvV (Zg7 2 "split_rule" Y7 (Zf (Zw Wa (Zf Jg (Zf ea (Zf eb (Zf ec (Zf ee Z3)))))) Z3)) δ (.int (rlI S (a,b) (c,e))):=by
 have t:=Zi9 (S:=S) (n:=n) (i:=a.toNat) (j:=b.toNat) (k:=c.toNat) (l:=e.toNat) (by omega) (by omega) (by omega) (by omega)
 rw[Vu ba.1,Vu bb.1,Vu bc.1,Vu be.1]at t
 exact Zuk h2 (Zb (Zm (Zb (Za h0) (Zb ha (Zb hb (Zb hc (Zb he Zd))))) t) Zd) (Zjy _ _ _)
noncomputable def Z2h(n:Nat)(S:Nat->Nat->Int)(A B:List Int)(least:Int)(z6 z7 z8 z9:Option OT):Ze:=[some (.fz (Y0 n S)),some (.fz (Zo A)),some (.fz (fnD "split_rule")),some (.fz (Zo B)),some (.fz (.list ((dbl B).map prD))),some (.fz (.int least)),z6,z7,z8,z9]
theorem Zi2{n:Nat}{S:Nat->Nat->Int}{A:List Int}(hn:n≤100)(hl:A.length≤100)(hA:∀x∈A,1≤x∧x<n)(ne:A≠[]):∃m,Lst S A (away n A) m∧Told Yj [Y0 n S,Zo A,fnD "split_rule"] (.int (max 0 m)):=by
 have hp:0<A.length:=List.length_pos_iff.mpr ne
 have n0:0<n:=by have:=hA _ (getD_mem hp);omega
 obtain⟨B,hB⟩:∃B,B=away n A:=⟨_,rfl⟩
 have b0:(0:Int)∈B:=by rw[hB];exact Zc7.mpr ⟨by decide,by omega,λz=>absurd (hA 0 z).1 (by decide)⟩
 have inB:∀x∈B,0≤x∧x<n:=λx hx=>by rw[hB]at hx;obtain⟨h1,h2,_⟩:=Zc7.mp hx;exact⟨h1,h2⟩
 have inA:∀x∈A,0≤x∧x<n:=λx hx=>⟨Qx (by decide) (hA x hx).1,(hA x hx).2⟩
 have a00:(A.getD 0 0,A.getD 0 0)∈dbl A:=Zg1.mpr ⟨0,0,XQ _,hp,rfl⟩
 have b00:((0:Int),(0:Int))∈dbl B:=by
  obtain⟨j,hj,e⟩:=BJ b0
  exact Zg1.mpr ⟨j,j,XQ _,hj,by rw[Xi,Xj hj,e];rfl⟩
 obtain⟨m,hm⟩:=Lst.exists S a00 b00
 rw[←hB]
 refine⟨m,hm,?_⟩
 have lB:B.length≤100:=by rw[hB];exact Qg (Zvb n A) hn
 have inner:∀(p:Int×Int) (least:Int) (z8 z9:Option OT),p∈dbl A->(∃p∈dbl A,∃q∈dbl B,least=rlI S p q)->∃δ',Wl (Zbb Zek) (gTp 2 Z8r)
   (wE Yap (Wx 5))
   (Z2h n S A B least (some (.fz (.int p.1))) (some (.fz (.int p.2))) z8 z9)= .nx δ'∧
   ∃least' z8 z9,δ'=(Z2h n S A B least' (some (.fz (.int p.1))) (some (.fz (.int p.2))) z8 z9)∧(∃p∈dbl A,∃q∈dbl B,least'=rlI S p q)∧least'≤least∧∀q∈dbl B,least'≤rlI S p q:=λp least z8 z9 hp hin=>by
  obtain⟨p1,p2⟩:=Zf0 hp
  obtain⟨δ',e,least',z8,z9,rfl,h1,h2,h3⟩:=Zag (S:=wE Yap (Wx 5)) (g:=gTp 2 Z8r) (it:=Zbb Zek) (ds:=(dbl B).map prD) (δ:=(Z2h n S A B least (some (.fz (.int p.1))) (some (.fz (.int p.2))) z8 z9))
   (λi δ=>∃least' z8 z9,δ=(Z2h n S A B least' (some (.fz (.int p.1))) (some (.fz (.int p.2))) z8 z9)∧(∃p∈dbl A,∃q∈dbl B,least'=rlI S p q)∧least'≤least∧∀j q,j<i->(dbl B)[j]? =some q->least'≤rlI S p q) (Yx Za) ⟨least,z8,z9,rfl,hin,VD _,λj q hj=>absurd hj (Qe j)⟩ λi d δ hd q=>by
   obtain⟨least',z8,z9,rfl,h1,h2,h3⟩:=q
   rw[Xk]at hd
   cases e:(dbl B)[i]? with
   | none=>rw[e]at hd;cases hd
   | some q=>
    rw[e]at hd
    cases hd
    have hq:=X5 e
    obtain⟨q1,q2⟩:=Zf0 hq
    refine⟨_,_,rfl,.inl (Zq (Z51 Za (Zq2 rfl rfl Za Za Za Za (inA _ p1) (inA _ p2) (inB _ q1) (inB _ q2)))),min least' (rlI S p q),some (.fz (.int q.1)),some (.fz (.int q.2)),rfl,?_,Qx (Int.min_le_left ..) h2,λj q' hj hq'=>?_⟩
    ·rcases Int.le_total least' (rlI S p q)with z|z
     ·rw[Int.min_eq_left z];exact h1
     ·rw[Int.min_eq_right z];exact⟨p,hp,q,hq,rfl⟩
    ·by_cases cj:j=i
     ·subst cj;rw[e]at hq';cases hq';exact Int.min_le_right ..
     ·exact Qx (Int.min_le_left ..) (h3 j q' (Nat.lt_of_le_of_ne (Nat.le_of_lt_succ hj) cj) hq')
  refine⟨_,e,least',z8,z9,rfl,h1,h2,λq hq=>?_⟩
  obtain⟨j,hj⟩:=QH hq
  exact h3 j q (by rw[Xe];exact(Xg.mp hj).1) hj
 have key:∃d,Told Yj [Y0 n S,Zo A,fnD "split_rule"] d∧d= .int (max 0 m):=by
  refine Zvo rfl<|Zdm (Zq (hB▸Zst (Zap (Zb (Zan (Zb Za Zd) (Zel n S)) Zd) (Qg hn (by decide))) (Qg hn (by decide)) rfl))<|Zdm (Zq (Zm (Zb Za Zd) (Zei B lB)))<|
   Zdm (Zq (Zq2 rfl rfl (Zl6 Za Z0 (by decide) (by omega)) (Zl6 Za Z0 (by decide) (by omega)) Z0 Z0 (inA _ (getD_mem hp)) (inA _ (getD_mem hp)) ⟨by decide,by omega⟩ ⟨by decide,by omega⟩))<|
   Z1e (ds:=(dbl A).map prD) (λi δ=>∃least z6 z7 z8 z9,δ=(Z2h n S A B least z6 z7 z8 z9)∧(∃p∈dbl A,∃q∈dbl B,least=rlI S p q)∧(∀j p,j<i->(dbl A)[j]? =some p->∀q∈dbl B,least≤rlI S p q)∧(0<i->0<least))
    (Yx (Zm (Zb Za Zd) (Zei A hl))) ⟨_,none,none,none,none,rfl,⟨_,a00,_,b00,rfl⟩,λj p hj=>absurd hj (Qe j),λz=>absurd z (QQ 0)⟩ (λi d δ hd q=>?_) λδ' q=>?_
  ·obtain⟨least,z6,z7,z8,z9,rfl,h1,h2,h3⟩:=q
   rw[Xk]at hd
   cases e:(dbl A)[i]? with
   | none=>rw[e]at hd;cases hd
   | some p=>
    rw[e]at hd
    cases hd
    have hp':=X5 e
    obtain⟨δ',e1,least',z8,z9,rfl,g1,g2,g3⟩:=inner p least z8 z9 hp' h1
    by_cases c:least'≤0
    ·refine .inr ⟨_,rfl,Zdm e1 (Z0t (Zdk (Z6a Za Z0 (decide_eq_true c))) (Zk9 Z0 ?_))⟩
     obtain⟨p',hp2,q',hq2,e2⟩:=g1
     have:=hm.2 p' hp2 q' hq2
     rw[←e2]at this
     rw[Vz (Qx this c)]
    ·refine .inl ⟨_,_,rfl,Yt e1 (Jl (Zdk (Z6a Za Z0 (decide_eq_false c))) rfl),least',_,_,_,_,rfl,g1,λj p' hj hp2 q hq=>?_,λ_=>Int.lt_of_not_ge c⟩
     by_cases cj:j=i
     ·subst cj;rw[e]at hp2;cases hp2;exact g3 q hq
     ·exact Qx g2 (h2 j p' (Nat.lt_of_le_of_ne (Nat.le_of_lt_succ hj) cj) hp2 q hq)
  ·obtain⟨least,z6,z7,z8,z9,rfl,h1,h2,h3⟩:=q
   rw[Xe]at h2 h3
   refine Zk9 Za ?_
   have l0:=h3 (List.length_pos_of_mem a00)
   have e:least=m:=by
    refine Ub ?_ ?_
    ·obtain⟨⟨p,hp',q,hq,e⟩,_⟩:=hm
     rw[e]
     obtain⟨j,hj⟩:=QH hp'
     exact h2 j p (Xg.mp hj).1 hj q hq
    ·obtain⟨p,hp',q,hq,e⟩:=h1
     rw[e]
     exact hm.2 p hp' q hq
   rw[←e,BW (Int.le_of_lt l0)]
 obtain⟨d,h,rfl⟩:=key
 exact h
theorem Zs2{t b:Int}(hb:b≠0):((Xv t b).den:Int)∣b:=by
 rw[Rat.den_divInt,if_neg hb]
 have:(b.natAbs/b.gcd t:Nat)∣b.natAbs:=Nat.div_dvd_of_dvd (by rw[Vf];exact Nat.gcd_dvd_left ..)
 exact Int.ofNat_dvd_left.mpr this
theorem Zpy{a m k:Int}(hk:0<k)(hm:0<m):Xv (k*a) (m*k)=Xv a m:=by
 rw[Int.mul_comm k a]
 exact Rat.divInt_mul_right (by omega)
noncomputable def Zdd(n:Nat)(R:Nat->Nat->Int)(b:Int):List (List Rat):=(Xl n).map λi=>(Xl n).map λj=>Xv (R i j) b
theorem Zze(T:List (List Rat)):Zqd [tbD T]=some (.int T.length):=by
 unfold tbD
 rw[Zqg,Xe]
theorem Zn6(n:Nat)(R:Nat->Nat->Int)(b:Int):(Zdd n R b).length=n:=by unfold Zdd;simp
theorem Zrm{k x y:Int}(hk:0<k):max (k*x) (k*y)=k*max x y:=by
 rcases Int.le_total x y with h|h
 ·rw[BW h,BW (BX h (by omega))]
 ·rw[Vz h,Vz (BX h (by omega))]
theorem Zuy{k x:Int}(hk:0<k):max 0 (k*x)=k*max 0 x:=by
 rcases Int.le_total 0 x with h|h
 ·rw[BW h,BW (Int.mul_nonneg (by omega) h)]
 ·rw[Vz h,Vz (VB (by omega) h),Int.mul_zero]
theorem Zsp{S R:Nat->Nat->Int}{k:Int}(hk:0<k){n i j l m:Nat}(h:∀i j,i<n->j<n->k*S i j=R i j)(hi:i<n)(hj:j<n)(hl:l<n)(hm:m<n):rl R i j l m=k*rl S i j l m:=by
 unfold rl
 rw[←h i l hi hl,←h j m hj hm,←h i m hi hm,←h j l hj hl,←h i j hi hj,←h l m hl hm,←Int.mul_add,←Int.mul_add,←Int.mul_add,Zrm hk,Zrm hk,←Int.mul_sub]
theorem Lst.scaled{S R:Nat->Nat->Int}{k:Int}(hk:0<k){n:Nat}{A B:List Int}(h:∀i j,i<n->j<n->k*S i j=R i j)(hA:∀x∈A,0≤x∧x<n)(hB:∀x∈B,0≤x∧x<n){m:Int}(hm:Lst S A B m):Lst R A B (k*m):=by
 have e:∀p∈dbl A,∀q∈dbl B,rlI R p q=k*rlI S p q:=λp hp q hq=>by
  obtain⟨p1,p2⟩:=Zf0 hp
  obtain⟨q1,q2⟩:=Zf0 hq
  have:=hA _ p1
  have:=hA _ p2
  have:=hB _ q1
  have:=hB _ q2
  exact Zsp hk h (by omega) (by omega) (by omega) (by omega)
 obtain⟨⟨p,hp,q,hq,e1⟩,h2⟩:=hm
 exact⟨⟨p,hp,q,hq,by rw[e p hp q hq,e1]⟩,λp hp q hq=>by rw[e p hp q hq];exact BX (h2 p hp q hq) (by omega)⟩
theorem Zkb(n:Nat)(R:Nat->Nat->Int)(b:Int):tbD (Zdd n R b)=Yk n (frG λi j=>Xv (R i j) b):=by
 unfold tbD Zdd Yk
 rw[QD]
 refine congrArg QC (XH λi _=>?_)
 show Zlw _=_
 unfold Zlw
 rw[QD];rfl
theorem Z0o{x y z b:Int}(hb:0<b)(h:x≤y+z):Xv x b≤Xv y b+Xv z b:=by
 have e:Xv y b+Xv z b=Xv (y+z) b:=by
  rw[Qu,Qu,Qu,JZ,JZ,JZ,Rat.intCast_add,Rat.add_mul]
 rw[e]
 refine(Rat.le_iff_sub_nonneg _ _).mpr ?_
 have e2:Xv (y+z) b-Xv x b=Xv (y+z-x) b:=by
  rw[Qu,Qu,Qu,JZ,JZ,JZ,Rat.intCast_sub,Uo,Uo,Rat.add_mul,Rat.neg_mul]
 rw[e2]
 exact Ztg (by omega) hb
theorem Z9e{n:Nat}{R:Nat->Nat->Int}{b:Int}(h:Lt n R)(hb:0<b)(bb:Bt 300 b)(bR:∀i j,Bt 300 (R i j)):Tb n λi j=>Xv (R i j) b where
 num:=λi j=>Zkw (by omega) ((bR i j).mono (by decide))
 den:=λi j=>Zs0 (by omega) (bb.mono (by decide))
 tri:=λi j k hj=>Z0o hb (h.tri i k j hj)
theorem Zf3{n:Nat}(hn:n≤10)(R:Nat->Nat->Int){b:Int}(hb:0<b)(bb:Bt 300 b):Told Yd [Yk n (inG R),.int b] (tbD (Zdd n R b)):=by
 rw[Zkb]
 exact Z1 rfl<|Wm<|Zb2 (cs:=[some (.fz (.int b))]) (Xl n) (λi=>.list ((Xl n).map λj=>inG R i j)) (λi=>.list ((Xl n).map λj=>frG (λi j=>Xv (R i j) b) i j)) (Yx Za) (by rw[Xw];omega) rfl λi _=>
  Zb2 (cs:=[some (.fz (.int b))]) (Xl n) (λj=>inG R i j) (λj=>frG (λi j=>Xv (R i j) b) i j) (Yx Za) (by rw[Xw];omega) rfl λj _=>Zm (Zb Za (Zb Za Zd)) (Zht hb bb)
theorem Lt.sum{n:Nat}{R S:Nat->Nat->Int}(h:Lt n R)(k:Lt n S):Lt n λi j=>R i j+S i j where
 z:=λi=>by show R i i+S i i=0;rw[h.z,k.z];rfl
 nn:=λi j=>Int.add_nonneg (h.nn i j) (k.nn i j)
 sym:=λi j=>by show R i j+S i j=R j i+S j i;rw[h.sym i j,k.sym i j]
 tri:=λi j m hm=>by
  have:=h.tri i j m hm
  have:=k.tri i j m hm
  show R i j+S i j≤R i m+S i m+(R m j+S m j)
  omega
theorem Lt.nought(n:Nat):Lt n λ_ _=>0:=⟨⟨λ_=>rfl,λ_ _=>VD _,λ_ _=>rfl⟩,λ_ _ _ _=>by decide⟩
theorem Lt.short{n:Nat}{R:Nat->Nat->Int}(h:Nn R):Lt n (fw R n):=⟨h.fw n,λi j m hm=>Zyx h n m hm i j⟩
noncomputable def Fd(V:List Int)(f:Xa):Prop:=(f= .none∧V=[])∨∃m,f= .int m∧m∈V∧∀x∈V,m≤x
theorem Zod{it:FI}{nm:Nat}{S:FS}{δ:Ze}{xs:List Int}(E:Xa->Ze->Prop)(val:Int->List Int){V:List Int}{f:Xa}(hE:E f δ)(hF:Fd V f)(hi:EvI it δ (xs.map Xn))(turn:∀x∈xs,∀V f δ,E f δ->Fd V f->∃δ2 f',S (δ.set nm (some (.fz (.int x))))= .nx δ2∧E f' δ2∧Fd (V ++ val x) f'):∃δ' f',Wl it (gNm nm) S δ= .nx δ'∧E f' δ'∧Fd (V ++ xs.flatMap val) f':=by
 have key:∃δ' f',forLoop (gNm nm) S (xs.map Xn) δ= .nx δ'∧E f' δ'∧Fd (V ++ xs.flatMap val) f':=by
  clear hi
  induction xs generalizing δ V f with
  | nil=>exact⟨δ,f,rfl,hE,by rw[List.flatMap_nil,QT];exact hF⟩
  | cons x xs ih=>
   obtain⟨δ2,f2,e2,h2,g2⟩:=turn x (.head _) V f δ hE hF
   obtain⟨δ',f',e,h,g⟩:=ih h2 g2 λy hy=>turn y (.tail _ hy)
   refine⟨δ',f',?_,h,by rw[List.flatMap_cons,←Bu];exact g⟩
   rw[X3,Jf,Z61]
   dsimp only
   rw[e2];exact e
 obtain⟨δ',f',e,h⟩:=key
 exact⟨δ',f',Zhg hi e,h⟩
noncomputable def tq(R:Nat->Nat->Int)(a b c e:Int):Int:=rlI R (a,b) (c,e)
noncomputable def iS:FS:=Yd3
noncomputable def iE(n:Nat)(R:Nat->Nat->Int)(A B:List Int)(f:Xa)(z5 z6 z7 z8 z9 z10:Option OT):Ze:=[some (.fz (Y0 n R)),some (.fz (Zo A)),some (.fz (.int n)),some (.fz (Zo B)),some (.fz f),z5,z6,z7,z8,z9,z10]
theorem Zw3{p:List Int}{x y:Int}(hx:x∈p)(hy:y∈p):(x,y)∈dbl p∨(y,x)∈dbl p:=by
 obtain⟨i,hi,rfl⟩:=BJ hx
 obtain⟨j,hj,rfl⟩:=BJ hy
 have g:∀k (h:k<p.length),p[k]=p.getD k 0:=λk h=>by rw[Xi,Xj h];rfl
 rw[g i hi,g j hj]
 rcases Nat.le_total i j with h|h
 ·exact .inl (Zg1.mpr ⟨i,j,h,hj,rfl⟩)
 ·exact .inr (Zg1.mpr ⟨j,i,h,hi,rfl⟩)
theorem Znt{R:Nat->Nat->Int}(sym:∀i j,R i j=R j i)(a b c e:Int):tq R b a c e=tq R a b c e∧tq R a b e c=tq R a b c e:=by
 unfold tq rlI rl
 dsimp only
 have h1:=sym b.toNat a.toNat
 have h2:=sym e.toNat c.toNat
 constructor
 ·rw[h1];omega
 ·rw[h2];omega
theorem Lst.all{R:Nat->Nat->Int}{A B:List Int}{m:Int}(sym:∀i j,R i j=R j i)(h:Lst R A B m){a b c e:Int}(ha:a∈A)(hb:b∈A)(hc:c∈B)(he:e∈B):m≤tq R a b c e:=by
 rcases Zw3 ha hb with p|p<;>rcases Zw3 hc he with q|q
 ·exact h.2 _ p _ q
 ·rw[←(Znt sym a b c e).2];exact h.2 _ p _ q
 ·rw[←(Znt sym a b c e).1];exact h.2 _ p _ q
 ·rw[←(Znt sym a b c e).1,←(Znt sym b a c e).2];exact h.2 _ p _ q
theorem Z1l(R:Nat->Nat->Int)(p q:Int×Int):0≤rlI R p q:=by
 unfold rlI rl;omega
theorem Zf1{n:Nat}{R:Nat->Nat->Int}{A:List Int}{m:Int}(hn:n≤10)(hA:∀x∈A,1≤x∧x<n)(sym:∀i j,R i j=R j i)(hm:Lst R A (away n A) m):Told Yr [Y0 n R,Zo A] (.int m)∧0≤m:=by
 obtain⟨B,hB⟩:∃B,B=away n A:=⟨_,rfl⟩
 rw[←hB]at hm
 have m0:0≤m:=by
  obtain⟨⟨p,_,q,_,e⟩,_⟩:=hm
  rw[e];exact Z1l R p q
 refine⟨?_,m0⟩
 have inA:∀x∈A,∃k:Nat,x=k∧k<n:=λx hx=>⟨x.toNat,by have:=hA x hx;omega,by have:=hA x hx;omega⟩
 have inB:∀x∈B,∃k:Nat,x=k∧k<n:=λx hx=>by
  rw[hB]at hx
  obtain⟨h1,h2,_⟩:=Zc7.mp hx
  exact⟨x.toNat,by omega,by omega⟩
 obtain⟨δ',f',e,⟨z5,z6,z7,z8,z9,z10,rfl⟩,hF⟩:=Zod (it:=Zbb Zce) (nm:=5) (S:=Wl (Zbb Zce) (gNm 6) (Wl Ztu (gNm 7) (Wl Ztu Ztp iS))) (xs:=A) (δ:=iE n R A B .none none none none none none none) (V:=[]) (f:=.none)
  (λf δ=>∃z5 z6 z7 z8 z9 z10,δ=iE n R A B f z5 z6 z7 z8 z9 z10) (λa=>A.flatMap λb=>B.flatMap λc=>B.flatMap λe=>[tq R a b c e]) ⟨_,_,_,_,_,_,rfl⟩ (.inl ⟨rfl,rfl⟩) (Yx Za) λa ha V f δ q hF=>by
  obtain⟨z5,z6,z7,z8,z9,z10,rfl⟩:=q
  obtain⟨δ',f',e,⟨z6,z7,z8,z9,z10,rfl⟩,hF⟩:=Zod (δ:=iE n R A B f (some (.fz (.int a))) z6 z7 z8 z9 z10) (it:=Zbb Zce) (nm:=6) (S:=Wl Ztu (gNm 7) (Wl Ztu Ztp iS)) (xs:=A) (V:=V) (f:=f)
   (λf δ=>∃z6 z7 z8 z9 z10,δ=iE n R A B f (some (.fz (.int a))) z6 z7 z8 z9 z10) (λb=>B.flatMap λc=>B.flatMap λe=>[tq R a b c e]) ⟨_,_,_,_,_,rfl⟩ hF (Yx Za) λb hb V f δ q hF=>by
   obtain⟨z6,z7,z8,z9,z10,rfl⟩:=q
   obtain⟨δ',f',e,⟨z7,z8,z9,z10,rfl⟩,hF⟩:=Zod (δ:=iE n R A B f (some (.fz (.int a))) (some (.fz (.int b))) z7 z8 z9 z10) (it:=Zbb Zcf) (nm:=7) (S:=Wl Ztu Ztp iS) (xs:=B) (V:=V) (f:=f)
    (λf δ=>∃z7 z8 z9 z10,δ=iE n R A B f (some (.fz (.int a))) (some (.fz (.int b))) z7 z8 z9 z10) (λc=>B.flatMap λe=>[tq R a b c e]) ⟨_,_,_,_,rfl⟩ hF (Yx Za) λc hc V f δ q hF=>by
    obtain⟨z7,z8,z9,z10,rfl⟩:=q
    obtain⟨δ',f',e,⟨z8,z9,z10,rfl⟩,hF⟩:=Zod (δ:=iE n R A B f (some (.fz (.int a))) (some (.fz (.int b))) (some (.fz (.int c))) z8 z9 z10) (it:=Zbb Zcf) (nm:=8) (S:=iS) (xs:=B) (V:=V) (f:=f)
     (λf δ=>∃z8 z9 z10,δ=iE n R A B f (some (.fz (.int a))) (some (.fz (.int b))) (some (.fz (.int c))) z8 z9 z10) (λe=>[tq R a b c e]) ⟨_,_,_,rfl⟩ hF (Yx Za) λd hd V f δ q hF=>by
     obtain⟨z8,z9,z10,rfl⟩:=q
     obtain⟨i,rfl,hi⟩:=inA a ha
     obtain⟨j,rfl,hj⟩:=inA b hb
     obtain⟨k,rfl,hk⟩:=inB c hc
     obtain⟨l,rfl,hl⟩:=inB d hd
     have eq:tq R i j k l=max (max (R i j+R k l) (R i k+R j l)) (R i l+R j k)-(R i j+R k l):=rfl
     rw[eq]
     generalize ho:max (max (R i j+R k l) (R i k+R j l)) (R i l+R j k)-(R i j+R k l)=o
     have tst:∃p,EvT Ycr (iE n R A B f (some (.fz (.int i))) (some (.fz (.int j))) (some (.fz (.int k))) (some (.fz (.int l))) (some (.fz (.list [.int (R i j+R k l),.int (R i k+R j l),.int (R i l+R j k)]))) (some (.fz (.int o)))) p∧(p=true->Fd (V ++ [o]) (.int o))∧(p=false->Fd (V ++ [o]) f):=by
      rcases hF with⟨rfl,rfl⟩|⟨m,rfl,h1,h2⟩
      ·exact⟨true,Z4u (Zdk (Zj Za Z0 (Z6c _))),λ_=>.inr ⟨o,rfl,Xy.mpr rfl,λx hx=>by rw[Xy.mp hx];exact VD _⟩,λz=>nomatch z⟩
      ·refine⟨decide (o<m),Zvq (Zdk (Zj Za Z0 (Z6c _))) (Zdk (Zsi Za Za rfl)),λz=>.inr ⟨o,rfl,Qk _ (.head _),λx hx=>?_⟩,λz=>.inr ⟨m,rfl,Bs _ h1,λx hx=>?_⟩⟩
       ·have z:=of_decide_eq_true z
        rcases Ql.mp hx with h|h
        ·have:=h2 x h;omega
        ·rw[Xy.mp h];exact VD _
       ·have z:=of_decide_eq_false z
        rcases Ql.mp hx with h|h
        ·exact h2 x h
        ·rw[Xy.mp h];omega
     obtain⟨p,hp,p1,p2⟩:=tst
     have st:=Zq (i:=9) (δ:=iE n R A B f (some (.fz (.int i))) (some (.fz (.int j))) (some (.fz (.int k))) (some (.fz (.int l))) z9 z10) (Zaj (Zb (W5 (Zad (i:=5) (j:=6) hi hj rfl rfl rfl) (Zad (i:=7) (j:=8) hk hl rfl rfl rfl)) (Zb (W5 (Zad (i:=5) (j:=7) hi hk rfl rfl rfl) (Zad (i:=6) (j:=8) hj hl rfl rfl rfl)) (Zb (W5 (Zad (i:=5) (j:=8) hi hl rfl rfl rfl) (Zad (i:=6) (j:=7) hj hk rfl rfl rfl)) Zd))) (show 3≤1000 by decide))
     have ov:EvV Yc3 (iE n R A B f (some (.fz (.int i))) (some (.fz (.int j))) (some (.fz (.int k))) (some (.fz (.int l))) (some (.fz (.list [.int (R i j+R k l),.int (R i k+R j l),.int (R i l+R j k)]))) z10) (.int o):=by
      rw[←ho]
      exact Zij (Zan (Zb Za Zd) rfl) (W6 Za Z0 rfl)
     cases p with
     | true=>exact⟨_,.int o,Yt st (Yt (Zq ov) (Ze2 hp (Zq Za))),⟨_,_,_,rfl⟩,p1 rfl⟩
     | false=>exact⟨_,f,Yt st (Yt (Zq ov) (Jl hp rfl)),⟨_,_,_,rfl⟩,p2 rfl⟩
    exact⟨_,f',e,⟨_,_,_,_,rfl⟩,hF⟩
   exact⟨_,f',e,⟨_,_,_,_,_,rfl⟩,hF⟩
  exact⟨_,f',e,⟨_,_,_,_,_,_,rfl⟩,hF⟩
 have fin:f'= .int m:=by
  have hm':=hm
  obtain⟨⟨⟨a,b⟩,hp,⟨c,d⟩,hq,em⟩,_⟩:=hm'
  obtain⟨p1,p2⟩:=Zf0 hp
  obtain⟨q1,q2⟩:=Zf0 hq
  have mem:∀x,x∈([] ++ A.flatMap λa=>A.flatMap λb=>B.flatMap λc=>B.flatMap λe=>[tq R a b c e])↔∃a∈A,∃b∈A,∃c∈B,∃e∈B,x=tq R a b c e:=λx=>by
   simp only[List.nil_append,VN,Xy]
  have hmem:=(mem m).mpr ⟨a,p1,b,p2,c,q1,d,q2,em⟩
  rcases hF with⟨_,hV⟩|⟨m',rfl,h1,h2⟩
  ·rw[hV]at hmem;cases hmem
  ·refine congrArg Xn (Ub (h2 m hmem) ?_)
   obtain⟨a,ha,b,hb,c,hc,d,hd,e⟩:=(mem m').mp h1
   rw[e]
   exact hm.all sym ha hb hc hd
 rw[fin]at e
 refine Z1 rfl<|Yl (Zq (Zan (Zb Za Zd) (Zel n R)))<|Yl (Zq (hB▸Zst (Zap (Zb Za Zd) (by omega)) (by omega) rfl))<|Yl (Zq Z0)<|Yl e (Wm Za)
theorem Zq6{F:FD}{as:FA}{δ:Ze}{ds:List Xa}{o:OT}(h:EvA as δ ds)(k:F ds= .ok o):Zw F as δ=some (o,δ):=by
 obtain⟨ts,e1,e2⟩:=h
 rw[Zos,e1]
 show okO (F (OT.datas ts)) δ=_
 rw[e2,k];rfl
theorem Zoe(h:EvP e δ λ_ δ'=>N δ'):EpS (wE e Zmx) δ N R:=by
 obtain⟨o,δ',e1,q⟩:=h
 exact .inl ⟨δ',by rw[Zaw,e1];rfl,q⟩
theorem Z8e{o:OT}(h:δ[i]? =some (some o))(q:R o.data (δ.set i none)):EpS (Zfh i) δ N R:=.inr ⟨o,_,by rw[Zki,h,Zxx],q⟩
theorem Zjv(h:EvP e δ λd δ'=>∃v S n a b,d= .int v∧δ'[i]? =some (some (Z4 n (inG S)))∧EvV j δ' (.int (a:Nat))∧a<n∧EvV j2 δ' (.int (b:Nat))∧b<n∧N (δ'.set i (some (Z4 n (inG (upR S a b v)))))):EpS (Zb0 i e j j2) δ N R:=by
 obtain⟨o,δ',e1,v,S,n,a,b,hd,hi,hj,ha,hk,hb,q⟩:=h
 have e2:Zb0 i e j j2 δ=Zb0 i (fC (.int v)) j j2 δ':=by
  unfold Zb0
  rw[Zaw,Zaw,e1,Yo,Zgo hd,Z4p,Yo]
 exact .inl ⟨_,by rw[e2];exact Zhp Z0 hi hj ha hk hb,q⟩
theorem Zoq{α:Type}{δ:Ze}{it:FI}{g:FG}{me:FE}(xs:List α)(mk f:α->Xa)(hi:EvI it δ (xs.map mk))(hz:xs.length≤1000000)(h:∀x∈xs,∀z0 z1,∃w0 w1,g (mk x) [z0,z1]=some [w0,w1]∧EvV me [w0,w1] (f x)):EvV (Wc 2 [] it g Zhh me) δ (.list (xs.map f)):=by
 obtain⟨ts,δ',e1,z0,z1,rfl,e2⟩:=Z25 (t:=Zhh) (e:=me) (g:=g) (δ:=[none,none])
  (λk acc δ=>∃z0 z1,δ=[z0,z1]∧acc=(xs.take k).map f) (xs.map mk) 0 [] ⟨none,none,rfl,rfl⟩ (λk d acc δ hd q=>by
   obtain⟨z0,z1,rfl,rfl⟩:=q
   rw[Vr]at*
   rw[Xk]at hd
   cases e:xs[k]? with
   | none=>rw[e]at hd;cases hd
   | some p=>
    rw[e]at hd
    cases hd
    have et:xs.take (k+1)=xs.take k ++ [p]:=by rw[Vn,e];rfl
    obtain⟨w0,w1,e1,e2⟩:=h p (X5 e) z0 z1
    refine⟨_,e1,Zdf rfl ⟨λ_=>Wg e2 ⟨_,_,rfl,?_⟩,λz=>nomatch z⟩⟩
    rw[et,QF];rfl)
 rw[Vr,Xe,Bj,List.nil_append]at e2
 refine⟨.nd ts,?_,by rw[OT.data_nd,e2]⟩
 unfold EvI at hi
 unfold Wc
 rw[hi]
 show(if(xs.map mk).length≤Xr then _ else none)=_
 rw[if_pos (by rw[Xe,Qc];omega)]
 show(compLoop _ _ _ _ [none,none]).bind _=_
 rw[e1];rfl
theorem Zjf{α:Type}(xs:List α)(f g:α->Xa):Zm1 (xs.map f) (xs.map g)=xs.map λx=>.tuple [f x,g x]:=by
 unfold Zm1
 rw[List.zip_map',QD];rfl
theorem Ya8{a b lo hi:Int}(ha:lo≤a∧a≤hi)(hb:lo≤b∧b≤hi)(c:Bool):∃x,gIx (.list [.int a,.int b]) (.int (if c=true then 1 else 0))=some (.fz (.int x))∧lo≤x∧x≤hi:=by
 cases c with
 | true=>exact⟨b,rfl,hb⟩
 | false=>exact⟨a,rfl,ha⟩
theorem Zvg(R:Nat->Nat->Int)(a b:Nat)(v w:Int):upR (upR R a b v) a b w=upR R a b w:=by
 funext i j
 unfold upR
 split<;>rfl
theorem Nn.put{R:Nat->Nat->Int}(h:Nn R){a b:Nat}{v:Int}(hab:a≠b)(hv:0≤v):Nn (upR (upR R a b v) b a v) where
 z:=λi=>by
  unfold upR
  rw[if_neg (by omega),if_neg (by omega)];exact h.z i
 nn:=λi j=>by
  unfold upR
  have:=h.nn i j
  split
  ·exact hv
  ·split<;>omega
 sym:=λi j=>by
  unfold upR
  have:=h.sym i j
  (repeat' split)<;>first|rfl|omega
theorem Zxd{R:Nat->Nat->Int}{M v:Int}(h:∀i j,R i j≤M)(hv:v≤M)(a b:Nat):∀i j,upR R a b v i j≤M:=λi j=>by
 unfold upR
 split
 ·exact hv
 ·exact h i j
theorem Z8o{R:Nat->Nat->Int}{M:Int}(h:∀i j,R i j≤M)(k:Nat):∀i j,fw R k i j≤M:=by
 induction k with
 | zero=>exact h
 | succ k ih=>exact λi j=>Qx (Int.min_le_left ..) (ih i j)
theorem Z6g{R:Nat->Nat->Int}{M w:Int}{k:Nat}(h:∀i j,R i j≤k*M)(hw0:0≤w)(hw:w≤M)(bits:Int):∀i j,adC R bits w i j≤(k+1:Nat)*M:=λi j=>by
 have:=h i j
 rw[Int.natCast_add,Int.add_mul,Int.natCast_one,Int.one_mul]
 unfold adC
 split<;>omega
noncomputable def lE(x:Int)(n:Nat)(o:OT)(kd:Int)(z4 z5 z6 z7 z8 z9:Option OT):Ze:=[some (dk x),some (.fz (.int n)),some o,some (.fz (.int kd)),z4,z5,z6,z7,z8,z9]
theorem Z6v{n:Nat}(h:n≤6):∃m,Z91 (.int 1) (.int n)=some (.int m)∧0<m∧m≤64:=by
 obtain rfl|rfl|rfl|rfl|rfl|rfl|rfl:n=0∨n=1∨n=2∨n=3∨n=4∨n=5∨n=6:=by omega
 all_goals exact⟨_,rfl,by decide,by decide⟩
theorem Ydl:Zkp (.int 10) (.int 20)=some (.int 100000000000000000000):=rfl
theorem Zbg{ds:List Xa}(h:∀d∈ds,Yp d=true):Yp (.list ds)=true:=by
 rw[Yp]
 induction ds with
 | nil=>rfl
 | cons d ds ih=>rw[J2,h d (.head _),ih λe he=>h e (.tail _ he)];rfl
theorem Zpb(p:List Int):Yp (Zo p)=true:=Zbg λd m=>by
 obtain⟨x,_,rfl⟩:=XF.mp m
 rfl
theorem Zz6{it:FI}{g:FG}{S:FS}{δ:Ze}{ds:List Xa}{N:Ze->Prop}{R:Xa->Ze->Prop}(I:Ze->Prop)(hi:EvI it δ ds)(h0:I δ)(turn:∀d∈ds,∀δ,I δ->∃δ1,g d δ=some δ1∧EpS S δ1 I R)(fin:∀δ',I δ'->N δ'):EpS (Wl it g S) δ N R :=
 Za3 (λ_=>I) hi h0 (λ_ d δ hd q=>turn d (X5 hd) δ q) fin
noncomputable def ctD(p:List Int×Rat):Xa:=.tuple [Zo p.1,frD p.2]
noncomputable def Zn8(L:List (List Int×Rat)):Xa:=.list (L.map ctD)
noncomputable def Z6j(L:List (List Int×Rat)):OT:=.nd ((L.map ctD).map OT.fz)
theorem Zqn(L:List (List Int×Rat)):(Z6j L).data=Zn8 L:=by unfold Z6j Zn8;rw[OT.data_nd,OT.map_fz]
theorem Zru:∀{a b c:List Int},ltI a b=true->ltI b c=true->ltI a c=true:=by
 intro a
 induction a with
 | nil=>
  intro b c h1 h2
  cases b with
  | nil=>cases h1
  | cons y b=>cases c with
   | nil=>cases h2
   | cons z c=>rfl
 | cons x a ih=>
  intro b c h1 h2
  cases b with
  | nil=>cases h1
  | cons y b=>cases c with
   | nil=>cases h2
   | cons z c=>
    unfold ltI at h1 h2⊢
    by_cases e1:x=y
    ·subst e1
     rw[if_pos rfl]at h1
     by_cases e2:x=z
     ·rw[if_pos e2]at h2⊢;exact ih h1 h2
     ·rw[if_neg e2]at h2⊢;exact h2
    ·rw[if_neg e1]at h1
     have l1:=of_decide_eq_true h1
     by_cases e2:y=z
     ·subst e2
      rw[if_neg e1];exact h1
     ·rw[if_neg e2]at h2
      have l2:=of_decide_eq_true h2
      rw[if_neg (by omega)]
      exact decide_eq_true (by omega)
theorem Zm0:∀a:List Int,ltI a a=false:=by
 intro a
 induction a with
 | nil=>rfl
 | cons x a ih=>unfold ltI;rw[if_pos rfl];exact ih
theorem Z0g:∀{a b:List Int},a≠b->ltI a b=false->ltI b a=true:=by
 intro a
 induction a with
 | nil=>
  intro b ne h
  cases b with
  | nil=>exact absurd rfl ne
  | cons y b=>cases h
 | cons x a ih=>
  intro b ne h
  cases b with
  | nil=>rfl
  | cons y b=>
   unfold ltI at h⊢
   by_cases e:x=y
   ·subst e
    rw[if_pos rfl]at h⊢
    exact ih (λz=>ne (z▸rfl)) h
   ·rw[if_neg e]at h
    rw[if_neg (Bb e)]
    have:=of_decide_eq_false h
    exact decide_eq_true (by omega)
noncomputable def Cp(s t:List Int):Prop:=(∀x∈s,x∉t)∨(∀x∈s,x∈t)∨∀x∈t,x∈s
theorem Cp.symm{s t:List Int}(h:Cp s t):Cp t s:=by
 rcases h with h|h|h
 ·exact .inl λx h1 h2=>h x h2 h1
 ·exact .inr (.inr h)
 ·exact .inr (.inl h)
structure Zpk(n:Nat)(s:List Int):Prop where
 ne:s≠[]
 up:s.Pairwise (·<·)
 pt:∀x∈s,1≤x∧x<n
theorem Zw5:∀{s t:List Int},s.Pairwise (·<·)->t.Pairwise (·<·)->(∀x,x∈s↔x∈t)->s=t:=by
 intro s
 induction s with
 | nil=>
  intro t _ _ h
  cases t with
  | nil=>rfl
  | cons y t=>exact absurd ((h y).mpr (.head _)) (λz=>nomatch z)
 | cons x s ih=>
  intro t hs ht h
  cases t with
  | nil=>exact absurd ((h x).mp (.head _)) (λz=>nomatch z)
  | cons y t=>
   have h1:∀{z:Int},z∈s->x<z:=λm=>Vs hs m
   have h2:∀{z:Int},z∈t->y<z:=λm=>Vs ht m
   have e:x=y:=by
    rcases Xo.mp ((h x).mp (.head _))with e|m
    ·exact e
    ·rcases Xo.mp ((h y).mpr (.head _))with e|m'
     ·exact e.symm
     ·have:=h1 m';have:=h2 m;omega
   subst e
   refine congrArg (x :: ·) (ih hs.tail ht.tail λz=>⟨λm=>?_,λm=>?_⟩)
   ·rcases Xo.mp ((h z).mp (.tail _ m))with e|m'
    ·have:=h1 m;omega
    ·exact m'
   ·rcases Xo.mp ((h z).mpr (.tail _ m))with e|m'
    ·have:=h2 m;omega
    ·exact m'
theorem Zyk:∀(k:Nat) (s:List Int),s.Pairwise (·<·)->(∀x∈s,1≤x∧x≤(k:Int))->s∈sdL k:=by
 intro k
 induction k with
 | zero=>
  intro s _ h
  cases s with
  | nil=>exact .head _
  | cons x s=>have:=h x (.head _);omega
 | succ k ih=>
  intro s hs h
  by_cases c:((k:Int)+1)∈s
  ·refine Ql.mpr (.inr (XF.mpr ⟨s.filter λx=>decide (x≤(k:Int)),ih _ (hs.filter _) λx hx=>?_,?_⟩))
   ·obtain⟨h1,h2⟩:=Q7.mp hx
    exact⟨(h x h1).1,of_decide_eq_true h2⟩
   ·refine Zw5 (List.pairwise_append.mpr ⟨hs.filter _,U7 ..,λx hx y hy=>?_⟩) hs λx=>?_
    ·rw[Xy.mp hy]
     have:=of_decide_eq_true (Q7.mp hx).2
     omega
    ·rw[Ql,Q7,decide_eq_true_eq,Xy]
     constructor
     ·rintro(⟨q,_⟩|rfl)
      ·exact q
      ·exact c
     ·intro q
      have:=(h x q).2
      by_cases e:x=(k:Int)+1
      ·exact .inr e
      ·exact .inl ⟨q,by omega⟩
  ·refine Ql.mpr (.inl (ih s hs λx hx=>⟨(h x hx).1,?_⟩))
   have:=(h x hx).2
   have:x≠(k:Int)+1:=λe=>c (e▸hx)
   omega
theorem Zky:∀k,(sdL k).Nodup:=by
 intro k
 induction k with
 | zero=>exact Qj.mpr ⟨(λz=>nomatch z),.nil⟩
 | succ k ih=>
  refine Ba.mpr ⟨ih,?_,λs hs t ht e=>?_⟩
  ·unfold Qq
   rw[List.pairwise_map]
   exact ih.imp λq e=>q (List.append_cancel_right e)
  ·obtain⟨r,_,rfl⟩:=XF.mp ht
   have:=((Zil k s hs).2.2 ((k:Int)+1) (by rw[e];exact Ql.mpr (.inr (.head _)))).2
   omega
theorem Zjd(n:Nat)(h1:1≤n)(s:List Int):s∈sdL (n-1)∧s≠[]↔Zpk n s:=by
 constructor
 ·rintro⟨a,b⟩
  obtain⟨_,h2,h3⟩:=Zil _ s a
  exact⟨b,h2,λx hx=>by have:=h3 x hx;omega⟩
 ·rintro⟨a,b,c⟩
  exact⟨Zyk _ s b λx hx=>by have:=c x hx;omega,a⟩
theorem Zyi{n:Nat}(hn:n≤100){R:Nat->Nat->Int}{b:Int}(hb:0<b)(bb:Bt 300 b)(bR:∀i j,i<n->j<n->Bt 300 (R i j)):∃(m k:Int) (S:Nat->Nat->Int),Told Yn [tbD (Zdd n R b)] (.int m)∧Told Ww [.int m,tbD (Zdd n R b)] (Y0 n S)∧0<m∧0<k∧b=m*k∧Bt 300 m∧∀x y,x<n->y<n->k*S x y=R x y:=by
 have hz:∀r∈Zdd n R b,r.length≤1000:=λr hr=>by
  unfold Zdd at hr
  obtain⟨x,_,rfl⟩:=XF.mp hr
  rw[Xe,Xw];omega
 have hB:Z6x (Zdd n R b) b:=λr hr q hq=>by
  unfold Zdd at hr
  obtain⟨x,_,rfl⟩:=XF.mp hr
  obtain⟨y,_,rfl⟩:=XF.mp hq
  exact Zs2 (by omega)
 have hN:∀r∈Zdd n R b,∀q∈r,Bt 300 q.num:=λr hr q hq=>by
  unfold Zdd at hr
  obtain⟨x,hx,rfl⟩:=XF.mp hr
  obtain⟨y,hy,rfl⟩:=XF.mp hq
  exact Zkw (by omega) (bR x y (Qp.mp hx) (Qp.mp hy))
 obtain⟨m,e1,m0,hm,k,rfl⟩:=Zhv hb bb (by decide) (Zdd n R b) hz hB
 have k0:0<k:=by
  by_cases c:0<k
  ·exact c
  ·have:=VB (a:=m) (b:=k) (by omega) (by omega)
   omega
 have bm:Bt 300 m:=Ziw hb ⟨k,rfl⟩ bb
 have e2:=Zj8 m0 bm (Zdd n R (m*k)) (by rw[Zn6];omega) hz hm hN
 have er:QC ((Zdd n R (m*k)).map λr=>.list (r.map λq=>.int (scI m q)))=Y0 n λi j=>scI m (Xv (R i j) (m*k)):=by
  unfold Zdd Y0
  rw[QD]
  refine congrArg QC (XH λi _=>?_)
  show QC _=Zxw _ _
  rw[QD];rfl
 rw[er]at e2
 refine⟨m,k,_,e1,e2,m0,k0,rfl,bm,λx y hx hy=>?_⟩
 have hd:((Xv (R x y) (m*k)).den:Int)∣m:=hm _ (XF.mpr ⟨x,Qp.mpr hx,rfl⟩) _ (XF.mpr ⟨y,Qp.mpr hy,rfl⟩)
 have:=Zwq hd
 have e:((k*scI m (Xv (R x y) (m*k)):Int):Rat)=((R x y:Int):Rat):=by
  have nk:((k:Int):Rat)≠0:=by
   intro z
   have:k=0:=by exact_mod_cast z
   omega
  have nm:((m:Int):Rat)≠0:=by
   intro z
   have:m=0:=by exact_mod_cast z
   omega
  rw[Rat.intCast_mul,this,Qu,Rat.intCast_mul]
  rw[Rat.mul_comm,Rat.mul_assoc]
  exact Rat.div_mul_cancel (λz=>(Rat.mul_eq_zero.mp z).elim nm nk)
 exact_mod_cast e
noncomputable def wtL(Ls:List (List Int))(W:List Int->Int)(b:Int):List (List Int×Rat):=(Ls.filter λA=>decide (0<W A)).map λA=>(A,Xv (W A) (2*b))
theorem Z08{n:Nat}{R:Nat->Nat->Int}{b:Int}{δ:Ze}(h:δ[0]? =some (some (.fz (tbD (Zdd n R b))))):EvV Zqa δ (.int n):=Zan (Zb (Za h) Zd) (by rw[Zze,Zn6])
theorem Sh.up{m n:Nat}{d:Xa}(h:Sh m d)(k:m≤n):Sh n d:=⟨h.1,Qg h.2 k⟩
theorem Zzy{np n:Nat}{S:FS}{xs:List Xa}{o:OT}{δ':Ze}(hl:xs.length=np)(k:S (Zhc n xs)= .rt o δ'):J9 np n S xs= .ok o:=by rw[Zdu hl,k,Zrh]
theorem gP9:Zkp (.int 10) (.int 9)=some (.int 1000000000):=rfl
theorem Zrf(x:Int):ToldI J1 (dk x) [] λd t'=>∃b x',d= .int b∧1≤b∧b≤1000000000∧t'=dk x':=by
 refine Zem rfl (Zmj (Zfi (Wg Z0 (Zbr rfl (Zbp (Zo2 (Wg (Zaj (Zb Z0 (Zb Z0 (Zb (Zj Z0 Z0 gP9) Zd))) (show 3≤1000 by decide)) (Za5 rfl (Zb Z0 Zd) (by decide) (btc (by decide +kernel) (by decide +kernel)) λr x1 r0 r1=>?_))))))))
 obtain⟨m,em,m0,m1⟩:=Z4a (a:=1) (b:=12) (c:=1000000000) (lo:=1) (hi:=1000000000) (by decide) (by decide) (by decide) r0 r1
 refine⟨_,em,Zdv ⟨dk x1,rfl,?_⟩⟩
 rw[OT.data_fz]
 refine(Zne x1 (m:=m) (by omega) (Bt.mono (m:=40) (Bt.of_lt (by omega) (by omega)) (by decide))).mono λd t' z=>?_
 obtain⟨q,x',rfl,q0,q1,rfl⟩:=z
 exact⟨_,rfl,_,rfl,_,_,rfl,by omega,by omega,rfl⟩
theorem Zzr:∀{a b:List (List Int)},a.Pairwise (λx y=>ltI x y=true)->b.Pairwise (λx y=>ltI x y=true)->(∀x,x∈a↔x∈b)->a=b:=by
 have irr:∀z:List Int,ltI z z≠true:=λz h=>by rw[Zm0]at h;cases h
 intro a
 induction a with
 | nil=>
  intro b _ _ h
  cases b with
  | nil=>rfl
  | cons y b=>exact absurd ((h y).mpr (.head _)) (λz=>nomatch z)
 | cons x a ih=>
  intro b ha hb h
  cases b with
  | nil=>exact absurd ((h x).mp (.head _)) (λz=>nomatch z)
  | cons y b=>
   have h1:∀{z:List Int},z∈a->ltI x z=true:=λm=>Vs ha m
   have h2:∀{z:List Int},z∈b->ltI y z=true:=λm=>Vs hb m
   have e:x=y:=by
    rcases Xo.mp ((h x).mp (.head _))with e|m
    ·exact e
    ·rcases Xo.mp ((h y).mpr (.head _))with e|m'
     ·exact e.symm
     ·exact(irr x (Zru (h1 m') (h2 m))).elim
   subst e
   refine congrArg (x :: ·) (ih ha.tail hb.tail λz=>⟨λm=>?_,λm=>?_⟩)
   ·rcases Xo.mp ((h z).mp (.tail _ m))with e|m'
    ·subst e;exact(irr _ (h1 m)).elim
    ·exact m'
   ·rcases Xo.mp ((h z).mpr (.tail _ m))with e|m'
    ·subst e;exact(irr _ (h2 m)).elim
    ·exact m'
theorem Lst.uniq{S:Nat->Nat->Int}{A B:List Int}{m m':Int}(h:Lst S A B m)(k:Lst S A B m'):m=m':=by
 obtain⟨⟨p,hp,q,hq,e⟩,l⟩:=h
 obtain⟨⟨p',hp',q',hq',e'⟩,l'⟩:=k
 have h1:=l p' hp' q' hq'
 have h2:=l' p hp q hq
 omega
theorem ixW(n:Nat)(R:Nat->Nat->Int):∃W:List Int->Int,∀A m,Lst R A (away n A) m->m=W A:=by
 have:∀A,∃w,∀m,Lst R A (away n A) m->m=w:=λA=>by
  by_cases c:∃m,Lst R A (away n A) m
  ·obtain⟨w,hw⟩:=c
   exact⟨w,λm hm=>hm.uniq hw⟩
  ·exact⟨0,λm hm=>absurd ⟨m,hm⟩ c⟩
 obtain⟨W,hW⟩:=Classical.axiomOfChoice this
 exact⟨W,hW⟩
theorem Z2m(T:List (List Rat)):Sh 3 (tbD T):=Zd9 λd m=>by
 obtain⟨r,_,rfl⟩:=XF.mp m
 exact Zd9 λd m=>by
  obtain⟨q,_,rfl⟩:=XF.mp m
  exact Zl8 [q.num,(q.den:Int)]
theorem Zn5(T:List (List Rat)):Yp (tbD T)=true:=Zbg λd m=>by
 obtain⟨r,_,rfl⟩:=XF.mp m
 exact Zbg λd m=>by
  obtain⟨q,_,rfl⟩:=XF.mp m
  exact Zvl _ _
theorem Zno{n:Nat}(hn:n≤10){R:Nat->Nat->Int}{b:Int}(hb:0<b)(bb:Bt 300 b)(bR:∀i j,i<n->j<n->Bt 300 (R i j)){Ls:List (List Int)}(eC:Told Wo [.int n] (.list (Ls.map Zo)))(hL:∀s∈Ls,Zpk n s)(lL:Ls.length≤1000){W:List Int->Int}(hW:∀A∈Ls,∀m,Lst R A (away n A) m->max 0 m=W A):Told Jx [tbD (Zdd n R b),fnD "split_rule"] (Zn8 (wtL Ls W b)):=by
 obtain⟨m,k,S,e1,e2,m0,k0,rfl,bm,sc⟩:=Zyi (n:=n) (by omega) hb bb bR
 obtain⟨δ',e3,z5,z6,rfl⟩:=Zag (it:=Zbb (Zw Wo (Zf Zqa Z3))) (g:=gNm 5) (S:=Yeh) (δ:=[some (.fz (tbD (Zdd n R (m*k)))),some (.fz (fnD "split_rule")),some (.fz (.int m)),some (.fz (Y0 n S)),some (.nd []),none,none]) (ds:=Ls.map Zo)
  (λi δ=>∃z5 z6,δ=[some (.fz (tbD (Zdd n R (m*k)))),some (.fz (fnD "split_rule")),some (.fz (.int m)),some (.fz (Y0 n S)),some (Z6j (wtL (Ls.take i) W (m*k))),z5,z6]) (Yx (Zm (Zb (Z08 rfl) Zd) eC)) ⟨none,none,rfl⟩ (λi d δ hd q=>by
   obtain⟨z5,z6,rfl⟩:=q
   rw[Xk]at hd
   cases e:Ls[i]? with
   | none=>rw[e]at hd;cases hd
   | some s=>
    rw[e]at hd
    cases hd
    have gs:=hL s (X5 e)
    have ls:s.length≤100:=by
     obtain⟨x,hx⟩:=List.exists_mem_of_ne_nil s gs.ne
     have n1:1≤n:=by have:=gs.pt x hx;omega
     have:=(Zil _ s ((Zjd n n1 s).mpr gs).1).1
     omega
    obtain⟨mS,hm,eL⟩:=Zi2 (S:=S) (A:=s) (n:=n) (by omega) ls gs.pt gs.ne
    have hR:=hW s (X5 e) _ (hm.scaled k0 sc (λx hx=>⟨by have:=(gs.pt x hx).1;omega,(gs.pt x hx).2⟩) λx hx=>by
     obtain⟨a1,a2,_⟩:=Zc7.mp hx
     exact⟨a1,a2⟩)
    rw[Zuy k0]at hR
    have eF:=Zg5 (n:=302) (t:=max 0 mS) (b:=2*m) (by omega) (Bt.mul (m:=2) (Bt.of_lt (by decide) (by decide)) bm)
    have eD:Xv (W s) (2*(m*k))=Xv (max 0 mS) (2*m):=by rw[←hR,show 2*(m*k)=(2*m)*k by rw[Int.mul_assoc],Zpy k0 (by omega)]
    have cw:0<max 0 mS↔0<W s:=by
     rw[←hR]
     exact⟨λq=>Int.mul_pos k0 q,λq=>Int.not_le.mp λz=>by have:=VB (a:=k) (by omega) z;omega⟩
    have et:wtL (Ls.take (i+1)) W (m*k)=wtL (Ls.take i) W (m*k) ++ if 0<W s then[(s,Xv (W s) (2*(m*k)))]else[]:=by
     unfold wtL
     rw[Vn,e,Option.toList_some,List.filter_append,QF]
     by_cases c:0<W s
     ·rw[if_pos c,BK (p:=λA=>decide (0<W A)) (decide_eq_true c)];rfl
     ·rw[if_neg c,BL (p:=λA=>decide (0<W A)) (by rw[decide_eq_false c];exact XC)];rfl
    have ll:(wtL (Ls.take i) W (m*k)).length≤1000:=by
     unfold wtL
     rw[Xe]
     exact Qg (Vg ..) (Qg (List.length_take_le' ..) lL)
    by_cases c:0<max 0 mS
    ·refine⟨_,_,rfl,.inl (Yt (Zq (Zm (Zb Za (Zb Za (Zb Za Zd))) eL)) (Ze2 (Zdk (Zq5 Za Z0 (decide_eq_true c))) (Zo3 (d:=ctD (s,Xv (max 0 mS) (2*m))) (ts:=((wtL (Ls.take i) W (m*k)).map ctD).map OT.fz) (Zfw (Zb Za (Zb (Zm (Zb Za (Zb (Zms Z0 Za) Zd)) eF) Zd)) (show 2≤1000 by decide)) rfl (by rw[Xe,Xe];omega)))),some (.fz (Zo s)),some (.fz (.int (max 0 mS))),?_⟩
     rw[et,if_pos (cw.mp c),eD]
     show _=[_,_,_,_,some (Z6j (wtL (Ls.take i) W (m*k) ++ [(s,Xv (max 0 mS) (2*m))])),some (.fz (Zo s)),some (.fz (.int (max 0 mS)))]
     unfold Z6j
     rw[QF,QF];rfl
    ·refine⟨_,_,rfl,.inl (Yt (Zq (Zm (Zb Za (Zb Za (Zb Za Zd))) eL)) (Jl (Zdk (Zq5 Za Z0 (decide_eq_false c))) rfl)),some (.fz (Zo s)),some (.fz (.int (max 0 mS))),?_⟩
     rw[et,if_neg (λz=>c (cw.mpr z)),QT];rfl)
 rw[Xe,Bj]at e3
 exact Z1 rfl<|Yl (Zq (Zm (Zb Za Zd) e1))<|Yl (Zq (Zm (Zb Za (Zb Za Zd)) e2))<|Yl Zlm<|Yl e3 (Z7x rfl (Zqn _))
noncomputable def Qb(n:Nat)(q:Rat):Prop:=Bt n q.num∧Bt n (q.den:Int)
theorem Qb.up{m n:Nat}{q:Rat}(h:Qb m q)(k:m≤n):Qb n q:=⟨h.1.mono k,h.2.mono k⟩
theorem Z2q{n:Nat}{t b:Int}(hb:b≠0)(ht:Bt n t)(hB:Bt n b):Qb n (Xv t b):=⟨Zkw hb ht,Zs0 hb hB⟩
theorem at0{δ:Ze}{i:Nat}{q:Rat}(h:δ[i]? =some (some (.fz (frD q)))):EvV (Yg gIx (Zu i) Zff) δ (.int q.num):=W6 (Za h) Z0 rfl
theorem at1{δ:Ze}{i:Nat}{q:Rat}(h:δ[i]? =some (some (.fz (frD q)))):EvV (Yg gIx (Zu i) Zfl) δ (.int (q.den:Int)):=W6 (Za h) Z0 rfl
theorem Zvj(q r:Rat):0<(q.den:Int)*(r.den:Int):=Int.mul_pos (J4 q) (J4 r)
theorem Zup{m n:Nat}{q r:Rat}(h:Qb m q)(k:Qb n r)(hmn:m+n≤9000):Told J5 [frD q,frD r] (frD (q-r)):=by
 rw[←Zri]
 exact Z1 rfl<|Wm<|Zm (Zb (Zij (Zj (at0 rfl) (at1 rfl) (Jr (Wk h.1 k.2 (by omega)))) (Zj (at0 rfl) (at1 rfl) (Jr (Wk k.1 h.2 (by omega))))) (Zb (Zj (at1 rfl) (at1 rfl) (Jr (Wk h.2 k.2 (by omega)))) Zd)) (Zd1 (Int.ne_of_gt (Zvj q r)) (h.2.mul k.2) hmn)
noncomputable def Qv(b:Int)(n:Nat)(q:Rat):Prop:=∃x,q=Xv x b∧Bt n x
theorem Qv.up{b:Int}{m n:Nat}{q:Rat}(h:Qv b m q)(k:m≤n):Qv b n q:=by
 obtain⟨x,e,bx⟩:=h
 exact⟨x,e,bx.mono k⟩
theorem Z0z{x y b:Int}:Xv x b+Xv y b=Xv (x+y) b:=by
 rw[Qu,Qu,Qu,JZ,JZ,JZ,Rat.intCast_add,Rat.add_mul]
theorem Zx5{x y b:Int}:Xv x b-Xv y b=Xv (x-y) b:=by
 rw[Qu,Qu,Qu,JZ,JZ,JZ,Rat.intCast_sub,Uo,Uo,Rat.add_mul,Rat.neg_mul]
theorem Qv.zero(b:Int)(n:Nat):Qv b (n+1) 0:=⟨0,(Rat.zero_divInt b).symm,(btc (n:=1) (by decide) (by decide)).mono (by omega)⟩
structure Bot(b:Int):Prop where
 lo:1≤b
 hi:b≤1000000000
theorem Zox{α:Type}(f g:α->Xa)(L:List α):Zm1 (L.map f) (L.map g)=L.map λp=>.tuple [f p,g p]:=by
 induction L with
 | nil=>rfl
 | cons x L ih=>exact congrArg (_ :: ·) ih
theorem Zzu{t:FT}{a b:FE}{δ:Ze}{d:Xa}(h:EvT t δ true)(k:EvV a δ d):EvV (fIf t a b) δ d:=by
 obtain⟨o,e1,e2⟩:=k
 exact⟨o,by unfold fIf;unfold EvT at h;rw[h];exact e1,e2⟩
theorem Zzq{t:FT}{a b:FE}{δ:Ze}{d:Xa}(h:EvT t δ false)(k:EvV b δ d):EvV (fIf t a b) δ d:=by
 obtain⟨o,e1,e2⟩:=k
 exact⟨o,by unfold fIf;unfold EvT at h;rw[h];exact e1,e2⟩
noncomputable def sd(p:List Int×Rat)(i:Nat):Int:=if(i:Int)∈p.1 then 1 else 0
noncomputable def Zfe(n:Nat)(p:List Int×Rat):Xa:=.list ((Xl n).map λi=>.int (sd p i))
theorem Zm6{n:Nat}(hn:n≤10)(p:List Int×Rat):Told Zav [.int n,Zo p.1] (Zfe n p) :=
 Z1 rfl<|Wm<|Zb2 (cs:=[some (.fz (Zo p.1))]) (Xl n) (λi:Nat=>Xn (0+(i:Int))) (λi=>.int (sd p i)) (Zap (Zb Za Zd) (by omega)) (by rw[Xw];omega) rfl λi _=>by
  have t:∀{b:Bool},decide ((i:Int)∈p.1)=b->EvT (tV (Zh (Zyp false) Jg Zce)) [some (.fz (.int (0+(i:Int)))),some (.fz (Zo p.1))] b:=λhb=>hb▸Zdk (Zj Za Za (by rw[Zg4,Qw];rfl))
  unfold sd
  by_cases c:(i:Int)∈p.1
  ·rw[if_pos c];exact Zzu (t (decide_eq_true c)) Z0
  ·rw[if_neg c];exact Zzq (t (decide_eq_false c)) Z0
theorem Zl0{n:Nat}(hn:n≤10)(L:List (List Int×Rat))(hl:L.length<64):Told J8 [.int n,Zn8 L] (.list (L.map (Zfe n))) :=
 Z1 rfl<|Wm<|Zb2 (cs:=[some (.fz (.int n))]) L ctD (Zfe n) (Yx Za) (by omega) rfl λp _=>Zm (Zb Za (Zb (W6 (d:=Zo p.1) Za Z0 rfl) Zd)) (Zm6 hn p)
noncomputable def prt(i j:Nat)(p:List Int×Rat):Bool:=!decide (sd p i=sd p j)
noncomputable def Sm(L:List (List Int×Rat))(i j:Nat):Rat:=((L.filter (prt i j)).map λp=>p.2).sum
noncomputable def Zih(L:List (List Int×Rat)):Nat×Nat->Xa:=λp=>frD (Sm L p.1 p.2)
theorem Zwo{m:Int}:∀(L:List (List Int×Rat)),(∀p∈L,(p.2.den:Int)∣m)->(((L.map λp=>scI m p.2).sum:Int):Rat)=(L.map λp=>p.2).sum*(m:Rat)
 | [],_=>by simp
 | p :: L,h=>by
  rw[X3,X3,Vv,Vv,Rat.intCast_add,Zwq (h p (.head _)),Zwo L λq hq=>h q (.tail _ hq),Rat.add_mul]
theorem Zyv{m:Int}(hm:0<m)(L:List (List Int×Rat))(h:∀p∈L,(p.2.den:Int)∣m):Xv (L.map λp=>scI m p.2).sum m=(L.map λp=>p.2).sum:=by
 have m0:(m:Rat)≠0:=λz=>by
  have:=Rat.intCast_inj.mp (z.trans (Rat.intCast_zero).symm)
  omega
 rw[Qu,Zwo L h,JZ,Rat.mul_assoc,Rat.mul_inv_cancel _ m0,Rat.mul_one]
theorem Zrp(es:List Int):Z8c [Zo es]=some (.int es.sum):=by
 show(Zji (es.map Xn)).bind _=_
 rw[Zhl];rfl
theorem Zpa{n:Nat}{m:Int}{L:List (List Int×Rat)}{a b:Nat}{δ:Ze}(ha:a<n)(hb:b<n)(hl:L.length<64)(h5:δ[5]? =some (some (.fz (.list (L.map (Zfe n))))))(h4:δ[4]? =some (some (.fz (.list (L.map λp=>.int (scI m p.2))))))(hk:blk 2 [7,8] δ=[none,none,some (.fz (.int a)),some (.fz (.int b))]) :
  EvV (Wc 2 [7,8] (Zer (Zf (Zu 5) (Zf (Zu 4) Z3))) (gTp 2 (gCn (gNm 0) (gCn (gNm 1) gNl))) (tV (Zh gNe (Yg gIx (Zu 0) (Zu 2)) (Yg gIx (Zu 0) (Zu 3)))) (Zu 1)) δ (Zo ((L.filter (prt a b)).map λp=>scI m p.2)):=by
 have hi:EvI (Zer (Zf (Zu 5) (Zf (Zu 4) Z3))) δ (L.map λp=>.tuple [Zfe n p,.int (scI m p.2)]):=Zhr (Za h5) (Za h4) (Zox (Zfe n) (λp=>.int (scI m p.2)) L)
 obtain⟨ts,δ',e1,z0,z1,rfl,e2⟩:=Z25 (t:=tV (Zh gNe (Yg gIx (Zu 0) (Zu 2)) (Yg gIx (Zu 0) (Zu 3)))) (e:=Zu 1) (g:=gTp 2 (gCn (gNm 0) (gCn (gNm 1) gNl))) (δ:=[none,none,some (.fz (.int a)),some (.fz (.int b))])
  (λk acc δ=>∃z0 z1,δ=[z0,z1,some (.fz (.int a)),some (.fz (.int b))]∧acc=(((L.take k).filter (prt a b)).map λp=>scI m p.2).map Xn) (L.map λp=>.tuple [Zfe n p,.int (scI m p.2)]) 0 [] ⟨none,none,rfl,by simp⟩ (λk d acc δ hd q=>by
   obtain⟨z0,z1,rfl,rfl⟩:=q
   rw[Vr]at*
   rw[Xk]at hd
   cases e:L[k]? with
   | none=>rw[e]at hd;cases hd
   | some p=>
    rw[e]at hd
    cases hd
    have et:L.take (k+1)=L.take k ++ [p]:=by rw[Vn,e];rfl
    have at':∀{c:Nat},c<n->gIx (Zfe n p) (.int (c:Int))=some (.fz (.int (sd p c))):=λhc=>by
     unfold Zfe
     rw[Zic,Ziv,Xk,Qz hc];rfl
    refine⟨_,rfl,Zdf (Zdk (Zp4 (W6 (d:=.int (sd p a)) Za Za (at' ha)) (W6 (d:=.int (sd p b)) Za Za (at' hb)) (p:=prt a b p) rfl)) ⟨λc=>?_,λc=>?_⟩⟩
    ·refine Wg (d:=.int (scI m p.2)) Za ⟨_,_,rfl,?_⟩
     rw[et,List.filter_append,BK c,List.filter_nil,QF,QF];rfl
    ·refine⟨_,_,rfl,?_⟩
     rw[et,List.filter_append,BL (by rw[c];decide),List.filter_nil,QT])
 rw[Vr,Xe,Bj,List.nil_append]at e2
 refine⟨.nd ts,?_,by rw[OT.data_nd,e2];rfl⟩
 unfold EvI at hi
 unfold Wc
 rw[hi]
 show(if(L.map λp=>PyData.tuple [Zfe n p,.int (scI m p.2)]).length≤Xr then _ else none)=_
 rw[if_pos (by rw[Xe,Qc];omega),hk,e1];rfl
noncomputable def Zh7:Xa:=.tuple [.int 0,.int 1]
noncomputable def Znd(g:Nat×Nat->Xa)(i j:Nat):Xa:=if i<j then g (i,j)else if j<i then g (j,i)else Zh7
theorem Ze4{n:Nat}(hn:n≤10)(g:Nat×Nat->Xa):Yw [.int n,.list ((Wd n).map g)]= .ok (Z4 n (Znd g)):=by
 have e0:(Wc 1 [0] (iRa (Zf (Zu 0) Z3)) (gNm 0) Zhh (Zt7 (Zkq (Zf (fC (.int 0)) (Zf (fC (.int 1)) Z3))) (Zu 1))) [some (.fz (.int n)),some (.fz (.list ((Wd n).map g))),none,none,none]=some (Z4 n λ_ _=>Zh7,[some (.fz (.int n)),some (.fz (.list ((Wd n).map g))),none,none,none]):=by
  have er:∀v:Option OT,(Zt7 (Zkq (Zf (fC (.int 0)) (Zf (fC (.int 1)) Z3))) (Zu 1)) [v,some (.fz (.int n))]=some (.nd (Xx n (.fz Zh7)),[v,some (.fz (.int n))]):=λv=>by
   have e2:(Zkq (Zf (fC (.int 0)) (Zf (fC (.int 1)) Z3))) [v,some (.fz (.int n))]=fC Zh7 [v,some (.fz (.int n))]:=by
    rw[Zq3]
    exact if_pos (e:=none) (show 2≤Xr by rw[Qc];omega)
   rw[←Z2z (d:=Zh7) (n:=n) (by omega)]
   rw[Zjx,Zjx,e2]
  rw[Zdg (cs:=[some (.fz (.int n))]) (Xl n) (λi:Nat=>Xn (0+(i:Int))) (λ_=>.nd (Xx n (.fz Zh7))) (Zap (Zb Za Zd) (by omega)) (by rw[Xw,Qc];omega) rfl λx _=>er _]
  unfold Z4
  have ec:((Xl n).map λ_=>OT.fz Zh7)=Xx n (OT.fz Zh7):=by rw[List.map_const',Xw]
  rw[←ec]
 have key:∃δ',Yy [some (.fz (.int n)),some (.fz (.list ((Wd n).map g))),none,none,none]= .rt (Z4 n (Znd g)) δ':=by
  obtain⟨δ',e1,f,z3,z4,rfl,h1,h2⟩:=Zag (it:=Zer (Zf (Zw Y9 (Zf (Zu 0) Z3)) (Zf (Zu 1) Z3))) (g:=gTp 2 (gCn (gNm 3) (gCn (gNm 4) gNl))) (S:=Zz (Zb0 2 (Zu 4) (Yg gIx (Zu 3) (fC (.int 0))) (Yg gIx (Zu 3) (fC (.int 1)))) (Zb0 2 (Zu 4) (Yg gIx (Zu 3) (fC (.int 1))) (Yg gIx (Zu 3) (fC (.int 0)))))
   (δ:=[some (.fz (.int n)),some (.fz (.list ((Wd n).map g))),some (Z4 n λ_ _=>Zh7),none,none]) (ds:=(Wd n).map λp=>.tuple [ptD p,g p])
   (λk δ=>∃(f:Nat->Nat->Xa) (z3 z4:Option OT),δ=[some (.fz (.int n)),some (.fz (.list ((Wd n).map g))),some (Z4 n f),z3,z4]∧(∀i,f i i=Zh7)∧∀l p,l<k->(Wd n)[l]? =some p->f p.1 p.2=g p∧f p.2 p.1=g p)
   (Zhr (Zm (Zb Za Zd) (Zh2 n (by omega))) Za (Zox ptD g _)) ⟨_,none,none,rfl,λ_=>rfl,λl p hl=>absurd hl (Qe l)⟩ (λk d δ hd q=>by
    obtain⟨f,z3,z4,rfl,h1,h2⟩:=q
    rw[Xk]at hd
    cases e:(Wd n)[k]? with
    | none=>rw[e]at hd;cases hd
    | some p=>
     rw[e]at hd
     cases hd
     obtain⟨m1,m2⟩:=Zfr (X5 e)
     have i0:∀{δ:Ze},δ[3]? =some (some (.fz (ptD p)))->EvV (Yg gIx (Zu 3) (fC (.int 0))) δ (.int (p.1:Int)):=λh=>W6 (Za h) Z0 rfl
     have i1:∀{δ:Ze},δ[3]? =some (some (.fz (ptD p)))->EvV (Yg gIx (Zu 3) (fC (.int 1))) δ (.int (p.2:Int)):=λh=>W6 (Za h) Z0 rfl
     refine⟨_,_,rfl,.inl (Yt (Zhw (n:=n) (f:=f) (a:=p.1) (b:=p.2) (d:=g p) Za rfl (i0 rfl) (by omega) (i1 rfl) (by omega)) (Zhw (n:=n) (a:=p.2) (b:=p.1) (d:=g p) Za rfl (i1 rfl) (by omega) (i0 rfl) (by omega))),_,_,_,rfl,λi=>?_,λl q hl hq=>?_⟩
     ·unfold upG
      rw[if_neg (by omega),if_neg (by omega)]
      exact h1 i
     ·by_cases c:q=p
      ·subst c
       unfold upG
       exact⟨by split<;>(try rfl);rw[if_pos ⟨rfl,rfl⟩],by rw[if_pos ⟨rfl,rfl⟩]⟩
      ·have hl':l<k:=by
        rcases Ve l k with z|z
        ·exact z
        ·have:l=k:=by omega
         subst this
         rw[e]at hq
         cases hq
         exact absurd rfl c
       obtain⟨q1,q2⟩:=Zfr (X5 hq)
       have ne:¬(q.1=p.1∧q.2=p.2):=λz=>c (Prod.ext z.1 z.2)
       obtain⟨g1,g2⟩:=h2 l q hl' hq
       unfold upG
       rw[if_neg (by omega),if_neg (by omega),if_neg (by omega),if_neg (by omega)]
       exact⟨g1,g2⟩)
  rw[Xe]at h2
  refine⟨[some (.fz (.int n)),some (.fz (.list ((Wd n).map g))),none,z3,z4],Yt (Zna e0) (Yt e1 ?_)⟩
  have eG:Z4 n f=Z4 n (Znd g):=Zgk λi j hi hj=>?_
  ·rw[eG];rfl
  unfold Znd
  rcases UT i j with c|c|c
  ·obtain⟨l,hl⟩:=QH (Ziz c hj)
   rw[if_pos c]
   exact(h2 l _ (Xg.mp hl).1 hl).1
  ·subst c
   rw[if_neg (QQ _),if_neg (QQ _)]
   exact h1 i
  ·obtain⟨l,hl⟩:=QH (Ziz c hi)
   rw[if_neg (by omega),if_pos c]
   exact(h2 l _ (Xg.mp hl).1 hl).2
 obtain⟨δ',e⟩:=key
 unfold Yw
 rw[Zdu (np:=2) (by rfl)]
 show(Yy [some (.fz (.int n)),some (.fz (.list ((Wd n).map g))),none,none,none]).told=_
 rw[e];rfl
theorem Z1a{F:FD}{as:FA}{δ:Ze}{ds:List Xa}{o:OT}(h:EvA as δ ds)(k:F ds= .ok o):wE (Zw F as) J6 δ= .rt o δ:=by rw[Zaw,Zq6 h k];rfl
theorem Znb{n:Nat}(hn:n≤10)(L:List (List Int×Rat))(hl:L.length<64){B:Int}(B0:0<B)(bB:Bt 200 B)(hw:∀p∈L,(p.2.den:Int)∣B∧Bt 200 p.2.num):Y6 [.int n,Zn8 L]= .ok (Z4 n (Znd (Zih L))):=by
 obtain⟨m,eB,m0,m1,m2⟩:=Zb6 (n:=200) B0 bB (by decide) (L.map λp=>(p.2.num,(p.2.den:Int))) λp hp=>by
  obtain⟨q,hq,rfl⟩:=XF.mp hp
  exact⟨J4 q.2,(hw q hq).1⟩
 have bm:Bt 200 m:=Ziw B0 m2 bB
 have dm:∀p∈L,(p.2.den:Int)∣m:=λp hp=>m1 (p.2.num,(p.2.den:Int)) (XF.mpr ⟨p,hp,rfl⟩)
 have eW:(L.map λp=>(p.2.num,(p.2.den:Int))).map prD=(L.map λp=>p.2).map frD:=by rw[QD,QD];rfl
 rw[eW]at eB
 have eT:=Zfz (n:=200) m0 bm (L.map λp=>p.2) (by rw[Xe];omega) λq hq=>by
  obtain⟨p,hp,rfl⟩:=XF.mp hq
  exact⟨dm p hp,(hw p hp).2⟩
 rw[QD]at eT
 have lp:(Wd n).length≤100:=by
  have:=Zg2 n n
  have e:Zjc n n=Wd n:=rfl
  rw[e]at this
  exact Qg this (Nat.mul_le_mul hn hn)
 have key:∃δ',Jw [some (.fz (.int n)),some (.fz (Zn8 L)),none,none,none,none,none,none,none,none]= .rt (Z4 n (Znd (Zih L))) δ':=by
  obtain⟨δ',e1,z7,z8,z9,rfl⟩:=Zag (it:=Zbb (Zw Y9 Zlc)) (g:=gTp 2 (gCn (gNm 7) (gCn Ztp gNl)))
   (S:=Zz Ydi Yd4)
   (δ:=[some (.fz (.int n)),some (.fz (Zn8 L)),some (.fz (.list ((L.map λp=>p.2).map frD))),some (.fz (.int m)),some (.fz (.list (L.map λp=>.int (scI m p.2)))),some (.fz (.list (L.map (Zfe n)))),some (.nd []),none,none,none]) (ds:=(Wd n).map ptD)
   (λk δ=>∃z7 z8 z9,δ=[some (.fz (.int n)),some (.fz (Zn8 L)),some (.fz (.list ((L.map λp=>p.2).map frD))),some (.fz (.int m)),some (.fz (.list (L.map λp=>.int (scI m p.2)))),some (.fz (.list (L.map (Zfe n)))),some (.nd ((((Wd n).take k).map (Zih L)).map OT.fz)),z7,z8,z9])
   (Yx (Zm (Zb Za Zd) (Zh2 n (by omega)))) ⟨none,none,none,rfl⟩ (λk d δ hd q=>by
    obtain⟨z7,z8,z9,rfl⟩:=q
    rw[Xk]at hd
    cases e:(Wd n)[k]? with
    | none=>rw[e]at hd;cases hd
    | some p=>
     rw[e]at hd
     cases hd
     obtain⟨q1,q2⟩:=Zfr (X5 e)
     have eF:Told Wt [.int ((L.filter (prt p.1 p.2)).map λp=>scI m p.2).sum,.int m] (Zih L p):=by
      have:=Zg5 (t:=((L.filter (prt p.1 p.2)).map λp=>scI m p.2).sum) (b:=m) (n:=200) (by omega) bm
      rwa[Zyv m0 _ λp hp=>dm p (Q7.mp hp).1]at this
     have et:(Wd n).take (k+1)=(Wd n).take k ++ [p]:=by rw[Vn,e];rfl
     refine⟨_,_,rfl,.inl (Yt (Zq (Zpa (n:=n) (m:=m) (L:=L) (a:=p.1) (b:=p.2) (by omega) q2 hl rfl rfl rfl)) (Zo3 (d:=Zih L p) (Zm (Zb (Zan (Zb Za Zd) (Zrp _)) (Zb Za Zd)) eF) rfl ?_)),some (.fz (.int (p.1:Int))),some (.fz (.int (p.2:Int))),some (.fz (Zo ((L.filter (prt p.1 p.2)).map λp=>scI m p.2))),?_⟩
     ·rw[Xe,Xe]
      exact Qg (List.length_take_le' ..) (by omega)
     ·rw[et,QF,QF];rfl)
  rw[Xe,Bj]at e1
  have ef:(OT.nd (((Wd n).map (Zih L)).map OT.fz)).data= .list ((Wd n).map (Zih L)):=by rw[OT.data_nd,OT.map_fz]
  refine⟨[some (.fz (.int n)),some (.fz (Zn8 L)),some (.fz (.list ((L.map λp=>p.2).map frD))),some (.fz (.int m)),some (.fz (.list (L.map λp=>.int (scI m p.2)))),some (.fz (.list (L.map (Zfe n)))),some (.fz (.list ((Wd n).map (Zih L)))),z7,z8,z9],?_⟩
  refine Yt (Zq (EvV.cast (Zb2 (cs:=[]) L ctD (λp=>frD p.2) (Yx Za) (by omega) rfl λp _=>W6 (d:=frD p.2) Za Z0 rfl) (y:=.list ((L.map λp=>p.2).map frD)) (by rw[QD];rfl))) ?_
  refine Yt (Zq (Zm (Zb Za Zd) eB)) (Yt (Zq (Zm (Zb Za (Zb Za Zd)) eT)) (Yt (Zq (Zm (Zb Za (Zb Za Zd)) (Zl0 hn L hl))) (Yt Zlm (Yt e1 (Zrb rfl ?_)))))
  rw[ef]
  exact Z1a (Zb Za (Zb Za Zd)) (Ze4 hn (Zih L))
 obtain⟨δ',e⟩:=key
 unfold Y6
 rw[Zdu (np:=2) (by rfl)]
 show(Jw [some (.fz (.int n)),some (.fz (Zn8 L)),none,none,none,none,none,none,none,none]).told=_
 rw[e];rfl
theorem Z6n{a b:FE}{δ:Ze}{d:Xa}{n:Nat}(ha:EvV a δ d)(hb:EvV b δ (.int n))(hn:n≤1000000):EvV (Zt7 a b) δ (.list (Xx n d)):=by
 obtain⟨t,e1,d1⟩:=ha
 obtain⟨u,e2,d2⟩:=hb
 refine⟨_,by rw[Zjx,e1,Xh,e2,Xh,d2,Znj,if_pos ⟨Zk6 (by omega) (by omega),by rw[Qc];omega⟩,QV],?_⟩
 rw[OT.data_nd,List.map_replicate,OT.data_fz,d1]
theorem Zyr{e:FE}{δ:Ze}{i:Nat}{o:OT}{ts:List OT}(h:e δ=some (o,δ))(hi:δ[i]? =some (some (.nd ts)))(hl:ts.length≤1000000):Zb3 i e δ= .nx (δ.set i (some (.nd (ts ++ [o])))):=by
 rw[Zmo,hi,Zum,h,Yo,hi,Zum,Zxi hl]
noncomputable def Rg(p:List Int)(a i b x y:Nat):Prop:=((x:Int)∈p.take a∧(y:Int)∉p)∨((y:Int)∈p.take a∧(x:Int)∉p)∨(x=i∧y<b∧(y:Int)∉p)∨(y=i∧x<b∧(x:Int)∉p)
theorem Yfs{p:List Int}{a i x y:Nat}:Rg p a i 0 x y↔Rg p a 0 0 x y:=by
 unfold Rg
 constructor
 ·rintro(z|z|z|z)
  ·exact .inl z
  ·exact .inr (.inl z)
  ·exact absurd z.2.1 (Qe _)
  ·exact absurd z.2.1 (Qe _)
 ·rintro(z|z|z|z)
  ·exact .inl z
  ·exact .inr (.inl z)
  ·exact absurd z.2.1 (Qe _)
  ·exact absurd z.2.1 (Qe _)
theorem Ybs{p:List Int}{a i b x y:Nat}(h:(b:Int)∈p):Rg p a i (b+1) x y↔Rg p a i b x y:=by
 unfold Rg
 have f:∀u:Nat,u<b+1∧(u:Int)∉p↔u<b∧(u:Int)∉p:=λu=>⟨λz=>⟨by
  rcases Ve u b with c|c
  ·exact c
  ·have:u=b:=by omega
   exact absurd (this▸h) z.2,z.2⟩,λz=>⟨by omega,z.2⟩⟩
 rw[f x,f y]
theorem Zu5{p:List Int}{a i b x y:Nat}(h1:¬(x=b∧y=i))(h2:¬(x=i∧y=b)):Rg p a i (b+1) x y↔Rg p a i b x y:=by
 unfold Rg
 have f1:(x=i∧y<b+1∧(y:Int)∉p)↔(x=i∧y<b∧(y:Int)∉p):=⟨λz=>⟨z.1,by have:=z.1;have:=z.2.1;omega,z.2.2⟩,λz=>⟨z.1,by have:=z.2.1;omega,z.2.2⟩⟩
 have f2:(y=i∧x<b+1∧(x:Int)∉p)↔(y=i∧x<b∧(x:Int)∉p):=⟨λz=>⟨z.1,by have:=z.1;have:=z.2.1;omega,z.2.2⟩,λz=>⟨z.1,by have:=z.2.1;omega,z.2.2⟩⟩
 rw[f1,f2]
theorem Z0j{p:List Int}{a:Nat}{x:Int}(nd:p.Nodup)(h:p[a]? =some x):x∉p.take a:=λm=>by
 obtain⟨j,hj⟩:=QH m
 rw[List.getElem?_take]at hj
 split at hj
 ·have:=(List.getElem?_inj (Xg.mp hj).1 nd).mp (hj.trans h.symm)
  omega
 ·cases hj
theorem Z5h{p:List Int}{a i b:Nat}(nd:p.Nodup)(h:p[a]? =some (i:Int))(hb:(b:Int)∉p):¬Rg p a i b i b:=by
 have hi:=X5 h
 rintro(z|z|z|z)
 ·exact Z0j nd h z.1
 ·exact z.2 hi
 ·exact absurd z.2.1 (QQ _)
 ·exact z.2.2 hi
theorem Z40{p:List Int}{a i n x y:Nat}(h:p[a]? =some (i:Int))(hx:x<n)(hy:y<n):Rg p a i n x y↔Rg p (a+1) 0 0 x y:=by
 unfold Rg
 have e:p.take (a+1)=p.take a ++ [(i:Int)]:=by rw[Vn,h];rfl
 have m:∀u:Nat,(u:Int)∈p.take (a+1)↔(u:Int)∈p.take a∨u=i:=λu=>by rw[e,Ql,Xy,Int.natCast_inj]
 rw[m x,m y]
 constructor
 ·rintro(z|z|z|z)
  ·exact .inl ⟨.inl z.1,z.2⟩
  ·exact .inr (.inl ⟨.inl z.1,z.2⟩)
  ·exact .inl ⟨.inr z.1,z.2.2⟩
  ·exact .inr (.inl ⟨.inr z.1,z.2.2⟩)
 ·rintro(⟨z|z,w⟩|⟨z|z,w⟩|z|z)
  ·exact .inl ⟨z,w⟩
  ·exact .inr (.inr (.inl ⟨z,hy,w⟩))
  ·exact .inr (.inl ⟨z,w⟩)
  ·exact .inr (.inr (.inr ⟨z,hx,w⟩))
  ·exact absurd z.2.1 (Qe _)
  ·exact absurd z.2.1 (Qe _)
theorem Zua{j e:FE}{δ:Ze}{i k:Nat}{ts us:List OT}{d:Xa}(hi:δ[i]? =some (some (.nd ts)))(hj:EvV j δ (.int (k:Int)))(ht:ts[k]? =some (.nd us))(he:EvV e δ d)(hl:us.length≤1000000):Zit i j e δ= .nx (δ.set i (some (.nd (ts.set k (.nd (us ++ [.fz d])))))):=by
 obtain⟨t1,e1,d1⟩:=hj
 obtain⟨t2,e2,d2⟩:=he
 have hk:k<ts.length:=(Xg.mp ht).1
 have hx:ixN ts.length (k:Int)=some k:=Zo0 hk
 unfold Zit
 rw[hi]
 dsimp only
 rw[Zaw,e1,Yo,d1]
 show(match ixN ts.length (k:Int)with|some j=>_|none=>_)=_
 rw[hx]
 dsimp only
 rw[ht]
 dsimp only
 rw[Zaw,e2,Yo,d2,if_pos (by rw[Qc];omega)]
theorem Zt0{m:Nat}{caps:List Nat}{it:FI}{g:FG}{t:FT}{e:FE}{δ δ':Ze}{o:OT}(h:Wc m caps it g t e δ=some (o,δ')):∃ts,o= .nd ts:=by
 unfold Wc at h
 obtain⟨p,h1,h⟩:=bs h
 split at h
 ·obtain⟨q,h2,h⟩:=bs h
  cases h
  exact⟨_,rfl⟩
 ·cases h
theorem Zu8{α β:Type}{f:α->β}{l m:List β}(h:l.Perm m):∀L:List α,m=L.map f->∃L1:List α,L1.Perm L∧l=L1.map f:=by
 induction h with
 | nil=>exact λL e=>⟨[],by rw[List.map_eq_nil_iff.mp e.symm],rfl⟩
 | cons x h ih=>
  intro L e
  cases L with
  | nil=>cases e
  | cons y L=>
   injection e with e1 e2
   obtain⟨L1,p,e3⟩:=ih L e2
   exact⟨y :: L1,p.cons y,by rw[e1,e3];rfl⟩
 | swap x y l=>
  intro L e
  cases L with
  | nil=>cases e
  | cons a L=>
   cases L with
   | nil=>injection e with _ e;cases e
   | cons b L=>
    injection e with e1 e2
    injection e2 with e2 e3
    exact⟨b :: a :: L,.swap a b L,by rw[e1,e2,e3];rfl⟩
 | trans _ _ ih1 ih2=>
  intro L e
  obtain⟨L1,p1,e1⟩:=ih2 L e
  obtain⟨L2,p2,e2⟩:=ih1 L1 e1
  exact⟨L2,p2.trans p1,e2⟩
noncomputable def Dm(D:Nat->Nat->Int)(p:Nat->Bool)(l:Int)(x y:Nat):Int:=if p x=p y then D x y else D x y-l
structure Mx(n:Nat)(D:Nat->Nat->Int):Prop where
 sy:∀i j,D i j=D j i
 zd:∀i,D i i=0
 tr:∀i j k,i<n->j<n->k<n->D i k≤D i j+D j k
noncomputable def Ge(n:Nat)(D:Nat->Nat->Int)(p:Nat->Bool)(l:Int):Prop:=∀a b c e,a<n->b<n->c<n->e<n->p a=true->p b=true->p c=false->p e=false->l≤rl D a b c e
noncomputable def Att(n:Nat)(D:Nat->Nat->Int)(p:Nat->Bool)(l:Int):Prop:=∃a b c e,a<n∧b<n∧c<n∧e<n∧p a=true∧p b=true∧p c=false∧p e=false∧rl D a b c e=l
theorem Z4g(D:Nat->Nat->Int)(a b c e:Nat):0≤rl D a b c e:=by unfold rl;omega
theorem Zyn{D:Nat->Nat->Int}(sy:∀i j,D i j=D j i)(a b c e:Nat):rl D c e a b=rl D a b c e:=by
 unfold rl
 rw[sy c a,sy e b,sy c b,sy e a];omega
theorem Z8d{D:Nat->Nat->Int}(sy:∀i j,D i j=D j i)(p:Nat->Bool)(l:Int)(i j:Nat):Dm D p l i j=Dm D p l j i:=by
 unfold Dm
 rw[sy i j]
 by_cases c:p i=p j
 ·rw[if_pos c,if_pos c.symm]
 ·rw[if_neg c,if_neg λz=>c z.symm]
theorem Zdc{D:Nat->Nat->Int}{p:Nat->Bool}{l:Int}{x y:Nat}(h:p x=p y):Dm D p l x y=D x y:=if_pos h
theorem Zdh{D:Nat->Nat->Int}{p:Nat->Bool}{l:Int}{x y:Nat}(h:p x≠p y):Dm D p l x y=D x y-l:=if_neg h
theorem Yen(D:Nat->Nat->Int)(p:Nat->Bool):Dm D p 0=D:=by
 funext x y
 unfold Dm
 split
 ·rfl
 ·exact Int.sub_zero _
theorem Zrz{ab ac ae bc be ce l:Int}(hl:0≤l)(h:2*l≤max (max (ac+be) (ab+ce)) (ae+bc)-(ac+be)):max (max (ab-l+(ce-l)) (ac+be)) (ae-l+(bc-l))-(ab-l+(ce-l))=max (max (ab+ce) (ac+be)) (ae+bc)-(ab+ce):=by omega
theorem Z4m{n:Nat}{D:Nat->Nat->Int}(M:Mx n D){p:Nat->Bool}{l:Int}(hl:0≤l)(g:Ge n D p (2*l)){a b c e:Nat}(ha:a<n)(hb:b<n)(hc:c<n)(he:e<n) :
  rl (Dm D p l) a b c e=rl D a b c e∨(p a=p b∧p c=p e∧p a≠p c∧rl (Dm D p l) a b c e=max (max (D a b+D c e) (D a c+D b e-2*l)) (D a e+D b c-2*l)-(D a b+D c e)):=by
 have two:∀{x y z w:Nat},x<n->y<n->z<n->w<n->p x=p y->p z=p w->p x≠p z->2*l≤rl D x y z w:=fun{x y z w} hx hy hz hw h1 h2 h3=>by
  cases q:p x with
  | true=>exact g x y z w hx hy hz hw q (h1▸q) (by cases r:p z with
   | true=>exact absurd (q.trans r.symm) h3
   | false=>rfl) (by rw[←h2];cases r:p z with
   | true=>exact absurd (q.trans r.symm) h3
   | false=>rfl)
  | false=>
   have r:p z=true:=by cases r:p z with
    | true=>rfl
    | false=>exact absurd (q.trans r.symm) h3
   rw[←Zyn M.sy x y z w]
   exact g z w x y hz hw hx hy r (h2▸r) q (h1▸q)
 by_cases h1:p a=p b
 ·by_cases h2:p c=p e
  ·by_cases h3:p a=p c
   ·refine .inl ?_
    unfold rl
    rw[Zdc h1,Zdc h2,Zdc h3,Zdc (h1.symm.trans (h3.trans h2)),Zdc (h3.trans h2),Zdc (h1.symm.trans h3)]
   ·refine .inr ⟨h1,h2,h3,?_⟩
    unfold rl
    rw[Zdc h1,Zdc h2,Zdh h3,Zdh (λz=>h3 (h1.trans (z.trans h2.symm))),Zdh (λz=>h3 (z.trans h2.symm)),Zdh (λz=>h3 (h1.trans z))]
    omega
  ·refine .inl ?_
   by_cases h3:p a=p c
   ·unfold rl
    rw[Zdc h1,Zdh h2,Zdc h3,Zdh (λz=>h2 (h3.symm.trans (h1.trans z))),Zdh (λz=>h2 (h3.symm.trans z)),Zdc (h1.symm.trans h3)];omega
   ·have h4:p a=p e:=by cases q:p a<;>cases r:p c<;>cases s:p e<;>simp_all
    unfold rl
    rw[Zdc h1,Zdh h2,Zdh h3,Zdc (h1.symm.trans h4),Zdc h4,Zdh (λz=>h3 (h1.trans z))];omega
 ·refine .inl ?_
  by_cases h2:p c=p e
  ·by_cases h3:p a=p c
   ·unfold rl
    rw[Zdh h1,Zdc h2,Zdc h3,Zdh (λz=>h1 (h3.trans (h2.trans z.symm))),Zdc (h3.trans h2),Zdh (λz=>h1 (h3.trans z.symm))];omega
   ·have h4:p b=p c:=by cases q:p a<;>cases r:p c<;>cases s:p b<;>simp_all
    unfold rl
    rw[Zdh h1,Zdc h2,Zdh h3,Zdc (h4.trans h2),Zdh (λz=>h3 (z.trans h2.symm)),Zdc h4];omega
  ·by_cases h3:p a=p c
   ·have h4:p b=p e:=by cases q:p a<;>cases r:p c<;>cases s:p b<;>cases t:p e<;>simp_all
    have t:=two ha hc hb he h3 h4 h1
    unfold rl at t⊢
    rw[Zdh h1,Zdh h2,Zdc h3,Zdc h4,Zdh (λz=>h2 (h3.symm.trans z)),Zdh (λz=>h1 (h3.trans z.symm))]
    rw[M.sy c b]at t
    exact Zrz hl t
   ·have h4:p a=p e:=by cases q:p a<;>cases r:p c<;>cases s:p b<;>cases t:p e<;>simp_all
    have h5:p b=p c:=by cases q:p a<;>cases r:p c<;>cases s:p b<;>cases t:p e<;>simp_all
    have t:=two ha he hb hc h4 h5 h1
    unfold rl at t⊢
    rw[Zdh h1,Zdh h2,Zdh h3,Zdh (λz=>h1 (h4.trans z.symm)),Zdc h4,Zdc h5]
    rw[M.sy e c,M.sy e b]at t
    omega
theorem Z39{n:Nat}{D:Nat->Nat->Int}(M:Mx n D){p:Nat->Bool}{l:Int}(hl:0≤l)(g:Ge n D p (2*l)){a b c e:Nat}(ha:a<n)(hb:b<n)(hc:c<n)(he:e<n):rl (Dm D p l) a b c e≤rl D a b c e:=by
 rcases Z4m M hl g ha hb hc he with h|⟨_,_,_,h⟩
 ·exact Int.le_of_eq h
 ·rw[h];unfold rl;omega
theorem five{D:Nat->Nat->Int}(sy:∀i j,D i j=D j i){a b c e x:Nat}{l m:Int}(hl:0<l)(hm:0<m)(h1:2*m≤rl D a x c e)(h2:2*m≤rl D b x c e)(h3:2*l≤rl D a b c x)(h4:2*l≤rl D a b x e):2*l+2*m≤rl D a b c e:=by
 unfold rl at*
 have s1:=sy x c
 have s2:=sy x e
 have s3:=sy x a
 have s4:=sy x b
 rw[s1]at h1 h2
 rw[sy b x]at h4
 generalize D a x=ax at*
 generalize D c e=ce at*
 generalize D a c=ac at*
 generalize D x e=xe at*
 generalize D a e=ae at*
 generalize D c x=cx at*
 generalize D b x=bx at*
 generalize D b c=bc at*
 generalize D b e=be at*
 generalize D a b=ab at*
 rw[s4]at h4
 have k1:ax+ce+2*m≤ac+xe∨ax+ce+2*m≤ae+cx:=by omega
 have k2:bx+ce+2*m≤bc+xe∨bx+ce+2*m≤be+cx:=by omega
 have k3:ab+cx+2*l≤ac+bx∨ab+cx+2*l≤ax+bc:=by omega
 have k4:ab+xe+2*l≤ax+be∨ab+xe+2*l≤ae+bx:=by omega
 clear h1 h2 h3 h4
 have r:ab+ce+2*l+2*m≤ac+be∨ab+ce+2*l+2*m≤ae+bc:=by
  rcases k1 with k1|k1<;>rcases k2 with k2|k2<;>rcases k3 with k3|k3<;>rcases k4 with k4|k4<;>omega
 omega
theorem Yai{n:Nat}{D:Nat->Nat->Int}(M:Mx n D){p q:Nat->Bool}{l m:Int}(hl:0≤l)(hm:0≤m)(g:Ge n D p (2*l))(k:Ge n D q (2*m))(ne:∃x,x<n∧q x≠p x)(no:∃x,x<n∧q x=false∧p x=false):Ge n (Dm D p l) q (2*m):=λa b c e ha hb hc he qa qb qc qe=>by
 rcases Int.lt_or_eq_of_le hm with m0|m0
 case inr=>rw[←m0];exact Z4g _ _ _ _ _
 rcases Int.lt_or_eq_of_le hl with l0|l0
 case inr=>rw[←l0,Yen];exact k a b c e ha hb hc he qa qb qc qe
 have k0:=k a b c e ha hb hc he qa qb qc qe
 rcases Z4m M hl g ha hb hc he with h|⟨h1,h2,h3,h⟩
 ·rw[h];exact k0
 ·rw[h]
  have f:2*l+2*m≤rl D a b c e:=by
   cases pa:p a with
   | true=>
    have pb:=h1.symm.trans pa
    have pc:p c=false:=by cases r:p c with
     | true=>exact absurd (pa.trans r.symm) h3
     | false=>rfl
    have pe:=h2.symm.trans pc
    obtain⟨x,hx,hq⟩:=ne
    cases qx:q x with
    | true=>
     have px:p x=false:=by cases r:p x with
      | true=>exact absurd (qx.trans r.symm) hq
      | false=>rfl
     exact five M.sy l0 m0 (k a x c e ha hx hc he qa qx qc qe) (k b x c e hb hx hc he qb qx qc qe) (g a b c x ha hb hc hx pa pb pc px) (g a b x e ha hb hx he pa pb px pe)
    | false=>
     have px:p x=true:=by cases r:p x with
      | true=>rfl
      | false=>exact absurd (qx.trans r.symm) hq
     have:=five M.sy m0 l0 (g a x c e ha hx hc he pa px pc pe) (g b x c e hb hx hc he pb px pc pe) (k a b c x ha hb hc hx qa qb qc qx) (k a b x e ha hb hx he qa qb qx qe)
     omega
   | false=>
    have pb:=h1.symm.trans pa
    have pc:p c=true:=by cases r:p c with
     | true=>rfl
     | false=>exact absurd (pa.trans r.symm) h3
    have pe:=h2.symm.trans pc
    obtain⟨x,hx,qx,px⟩:=no
    have g1:=g c e a x hc he ha hx pc pe pa px
    have g2:=g c e b x hc he hb hx pc pe pb px
    rw[Zyn M.sy]at g1 g2
    have:=five M.sy m0 l0 g1 g2 (k a b c x ha hb hc hx qa qb qc qx) (k a b x e ha hb hx he qa qb qx qe)
    omega
  unfold rl at f
  omega
theorem Z82{n:Nat}{D:Nat->Nat->Int}{p:Nat->Bool}{l:Int}(hl:0≤l)(k:Att n D p (2*l)):Att n (Dm D p l) p 0:=by
 obtain⟨a,b,c,e,ha,hb,hc,he,pa,pb,pc,pe,h⟩:=k
 refine⟨a,b,c,e,ha,hb,hc,he,pa,pb,pc,pe,?_⟩
 have f:∀{x y},p x=true->p y=false->Dm D p l x y=D x y-l:=λh1 h2=>Zdh (by rw[h1,h2];decide)
 unfold rl at h⊢
 rw[Zdc (pa.trans pb.symm),Zdc (pc.trans pe.symm),f pa pc,f pb pe,f pa pe,f pb pc]
 omega
theorem Ybi{n:Nat}{D:Nat->Nat->Int}(M:Mx n D){p:Nat->Bool}{l:Int}(hl:0≤l)(g:Ge n D p (2*l)):Mx n (Dm D p l):=by
 refine⟨Z8d M.sy p l,λi=>(Zdc rfl).trans (M.zd i),λi j k hi hj hk=>?_⟩
 have t:=M.tr i j k hi hj hk
 by_cases h1:p i=p j
 ·by_cases h2:p j=p k
  ·rw[Zdc h1,Zdc h2,Zdc (h1.trans h2)];exact t
  ·rw[Zdc h1,Zdh h2,Zdh λz=>h2 (h1.symm.trans z)];omega
 ·by_cases h2:p j=p k
  ·rw[Zdh h1,Zdc h2,Zdh λz=>h1 (z.trans h2.symm)];omega
  ·have h3:p i=p k:=by cases a:p i<;>cases b:p j<;>cases c:p k<;>simp_all
   rw[Zdh h1,Zdh h2,Zdc h3]
   have:2*l≤rl D j j i k:=by
    cases pj:p j with
    | true=>
     have pi:p i=false:=by cases a:p i with
      | true=>exact absurd (a.trans pj.symm) h1
      | false=>rfl
     exact g j j i k hj hj hi hk pj pj pi (h3.symm.trans pi)
    | false=>
     have pi:p i=true:=by cases a:p i with
      | true=>rfl
      | false=>exact absurd (a.trans pj.symm) h1
     rw[←Zyn M.sy]
     exact g i k j j hi hk hj hj pi (h3.symm.trans pi) pj pj
   unfold rl at this
   rw[M.zd j,M.sy j i]at this
   omega
noncomputable def mb(A:List Int)(x:Nat):Bool:=decide ((x:Int)∈A)
noncomputable def rs(W:List Int->Int):List (List Int)->(Nat->Nat->Int)->Nat->Nat->Int
 | [],D=>D
 | A :: L,D=>rs W L (Dm D (mb A) (W A))
theorem Zxb(W:List Int->Int)(x y:Nat):∀(L:List (List Int)) (D:Nat->Nat->Int),rs W L D x y=D x y-(L.map λA=>if mb A x=mb A y then 0 else W A).sum
 | [],D=>(Int.sub_zero _).symm
 | A :: L,D=>by
  rw[rs,Zxb W x y L,X3,Vv]
  unfold Dm
  split<;>omega
noncomputable def Un(n:Nat)(A B:List Int):Prop:=∃x,x<n∧mb A x≠mb B x
theorem Z4r{n:Nat}(hn:0<n){W:List Int->Int}:∀(L:List (List Int)) (D:Nat->Nat->Int) (Z:List Int->Prop),Mx n D->L.Pairwise (Un n)->(∀A∈L,mb A 0=false∧0≤W A∧Ge n D (mb A) (2*W A)∧Att n D (mb A) (2*W A))->(∀B,Z B->Att n D (mb B) 0)->Mx n (rs W L D)∧∀B,(B∈L∨Z B)->Att n (rs W L D) (mb B) 0
 | [],D,Z,M,_,_,hz=>⟨M,λB h=>hz B (h.resolve_left λz=>nomatch z)⟩
 | A :: L,D,Z,M,u,h,hz=>by
  obtain⟨u1,u2⟩:=Uh.mp u
  obtain⟨a0,w0,g,t⟩:=h A (.head _)
  have zero:∀{B:List Int},Att n D (mb B) 0->Att n (Dm D (mb A) (W A)) (mb B) 0:=fun{B} z=>by
   obtain⟨a,b,c,e,ha,hb,hc,he,pa,pb,pc,pe,r⟩:=z
   exact⟨a,b,c,e,ha,hb,hc,he,pa,pb,pc,pe,Ub (r▸Z39 M w0 g ha hb hc he) (Z4g _ _ _ _ _)⟩
  have ih:=Z4r hn L (Dm D (mb A) (W A)) (λB=>B=A∨Z B) (Ybi M w0 g) u2 (λB hB=>by
   obtain⟨b0,v0,k,s⟩:=h B (.tail _ hB)
   have k':Ge n (Dm D (mb A) (W A)) (mb B) (2*W B):=Yai M w0 v0 g k (by
    obtain⟨x,hx,h⟩:=u1 B hB
    exact⟨x,hx,λz=>h z.symm⟩) ⟨0,hn,b0,a0⟩
   refine⟨b0,v0,k',?_⟩
   obtain⟨a,b,c,e,ha,hb,hc,he,pa,pb,pc,pe,r⟩:=s
   exact⟨a,b,c,e,ha,hb,hc,he,pa,pb,pc,pe,Ub (r▸Z39 M w0 g ha hb hc he) (k' a b c e ha hb hc he pa pb pc pe)⟩) λB hB=>by
    rcases hB with rfl|hB
    ·exact Z82 w0 t
    ·exact zero (hz B hB)
  refine⟨ih.1,λB hB=>ih.2 B ?_⟩
  rcases hB with hB|hB
  ·rcases Xo.mp hB with rfl|hB
   ·exact .inr (.inl rfl)
   ·exact .inl hB
  ·exact .inr (.inr hB)
theorem Z2x{a b lo hi:Int}(ha:lo≤a∧a≤hi)(hb:lo≤b∧b≤hi){r:Int}(h0:0≤r)(h1:r<2):∃x,gIx (.list [.int a,.int b]) (.int r)=some (.fz (.int x))∧lo≤x∧x≤hi:=by
 obtain rfl|rfl:r=0∨r=1:=by omega
 ·exact⟨a,rfl,ha⟩
 ·exact⟨b,rfl,hb⟩
theorem Ybo{n:Nat}(hn:n≤6){M:Int}(hM:M=1000000000000000000000000000000000000001)(x kd:Int)(z6 z7 z8 z9:Option OT){RR:Xa->Ze->Prop} :
  EpS Yd8 (lE x n (Z4 n (inG λ_ _=>0)) kd none none z6 z7 z8 z9) (λδ=>∃x R z4 z5,δ=lE x n (Z4 n (inG R)) kd z4 z5 z6 z7 z8 z9∧Lt n R∧∀i j,R i j≤(7:Nat)*M) RR:=by
 have M0:0≤M:=by rw[hM];decide +kernel
 refine Zlj (Zdf (Zdk (Zp4 Za Z0 rfl)) ⟨λ_=>?_,λ_=>Zii ⟨_,_,_,_,rfl,Lt.nought n,λ_ _=>Int.mul_nonneg (by decide) M0⟩⟩)
 refine Ztw (Z4s (Zbp (Za5 rfl (Zb Z0 Zd) (by decide) (btc (by decide +kernel) (by decide +kernel)) λr x1 r0 r1=>Zdv ⟨r.toNat,?_,by omega,?_⟩)))
 ·rw[Vu r0]
 refine⟨λk δ=>∃x R z4 z5,δ=lE x n (Z4 n (inG R)) kd z4 z5 z6 z7 z8 z9∧Lt n R∧∀i j,R i j≤(k:Nat)*M,⟨_,_,_,_,rfl,Lt.nought n,λ_ _=>Int.mul_nonneg (by decide) M0⟩,λk d δ hd q=>?_,λδ' q=>?_⟩
 ·obtain⟨x,R,z4,z5,rfl,hR,bR⟩:=q
  obtain⟨m,em,m0,m1⟩:=Z6v hn
  refine⟨_,rfl,Z8 (Zd7 (Za5 rfl (Zb (Zj Z0 Za em) Zd) m0 (Bt.mono (m:=7) (Bt.of_lt (by omega) (by omega)) (by decide)) λb x2 b0 b1=>Zoe (Zbr rfl (Zbp (Wg Za (Zbp (Zfi (Wg Z0 (Zbr rfl (Zbp (Zo2 (Wg (Zaj (Zb Z0 (Zb (Zj Z0 Z0 Ydl) Zd)) (show 2≤1000 by decide)) (Za5 rfl (Zb Z0 Zd) (by decide) (btc (by decide +kernel) (by decide +kernel)) λr x3 r0 r1=>?_)))))))))))))⟩
  obtain⟨y,ey,y0,y1⟩:=Z2x (a:=3) (b:=100000000000000000000) (lo:=1) (hi:=1000000000000000000000000000000000000000) (by decide +kernel) (by decide +kernel) r0 r1
  refine⟨_,ey,Zdv ⟨dk x3,rfl,?_⟩⟩
  rw[OT.data_fz]
  refine(Zne x3 (m:=y) (Ut (by decide) y0) (Zq7 (m:=130) (Qx (by decide) y0) (Qx y1 (by decide +kernel)) (by decide))).mono λd t' z=>?_
  obtain⟨q,x',rfl,q0,q1,rfl⟩:=z
  refine⟨_,rfl,Zdv ⟨Z4 n (inG R),rfl,(Zpn (n:=n) (by omega) R b (1+q)).mono λ_ t' z=>?_⟩⟩
  subst z
  have w0:0≤1+q:=by clear y1;omega
  have w1:1+q≤M:=by
   rw[hM]
   generalize 1000000000000000000000000000000000000000=W at*
   exact Qx (show 1+q≤y+1 by omega) (Qx (Int.add_le_add_right y1 1) (Int.le_of_eq (by decide +kernel)))
  exact⟨_,_,_,_,rfl,hR.add w0,Z6g bR w0 w1 b⟩
 ·obtain⟨x,R,z4,z5,rfl,hR,bR⟩:=q
  refine⟨_,_,_,_,rfl,hR,λi j=>Qx (bR i j) (Int.mul_le_mul_of_nonneg_right ?_ M0)⟩
  rw[Z6];omega
theorem long2{n:Nat}(hn:n≤6){P:Int}(hP:P=100000000000000000000)(x:Int)(o:OT)(kd:Int)(z4 z5 z6 z7 z8 z9:Option OT){RR:Xa->Ze->Prop}{N:Ze->Prop}{S':FS}(next:∀x S z7 z8 z9,Nn S->(∀i j,S i j≤P)->EpS S' (lE x n o kd z4 z5 (some (Z4 n (inG S))) z7 z8 z9) N RR) :
  EpS (Zz (wE (Zw Ym Zla) (Zbe 6))
  (Zz Ydn
  (Zz (Wl Zkr Ztp
  Yc4) S'))) (lE x n o kd z4 z5 z6 z7 z8 z9) N RR:=by
 have P1:1≤P:=by rw[hP];decide +kernel
 refine Z8 (Zgd (Zq6 (Zb Za Zd) (Zk5 (n:=n) (by omega))) (Z8 (Zd7 (Zo2 (Wg (Zaj (Zb Z0 (Zb Z0 (Zb (Zj Z0 Z0 Ydl) Zd))) (show 3≤1000 by decide)) (Za5 rfl (Zb Z0 Zd) (by decide) (btc (by decide +kernel) (by decide +kernel)) λr x1 r0 r1=>?_))))))
 obtain⟨m,em,m0,m1⟩:=Z4a (a:=3) (b:=7) (c:=100000000000000000000) (lo:=1) (hi:=P) (by rw[hP];decide +kernel) (by rw[hP];decide +kernel) (by rw[hP];decide +kernel) r0 r1
 refine⟨_,em,?_⟩
 rw[OT.data_fz]
 have bm:Bt 400 m:=Zq7 (m:=70) (Qx (by decide) m0) (Qx m1 (by rw[hP];decide +kernel)) (by decide)
 clear em hP
 refine Z8 (Za3 (ds:=Zcg 0 n) (λ_ δ=>∃x S z8 z9,δ=lE x n o kd z4 z5 (some (Z4 n (inG S))) (some (.fz (.int m))) z8 z9∧Nn S∧∀i j,S i j≤P) (Zap (Zb Za Zd) (by omega)) ⟨_,_,_,_,rfl,(Lt.nought n).toNn,λ_ _=>by omega⟩ (λa d δ hd q=>?_) λδ' q=>?_)
 ·obtain⟨x,S,z8,z9,rfl,hS,bS⟩:=q
  obtain⟨ha,rfl⟩:=Z9 hd
  rw[Qw]
  refine⟨_,rfl,Za3 (ds:=Zcg 0 a) (λ_ δ=>∃x S z9,δ=lE x n o kd z4 z5 (some (Z4 n (inG S))) (some (.fz (.int m))) (some (.fz (.int a))) z9∧Nn S∧∀i j,S i j≤P) (Zap (Zb Za Zd) (by omega)) ⟨_,_,_,rfl,hS,bS⟩ (λb d δ hd q=>?_) λδ' q=>?_⟩
  ·obtain⟨x,S,z9,rfl,hS,bS⟩:=q
   obtain⟨hb,rfl⟩:=Z9 hd
   rw[Qw]
   refine⟨_,rfl,Z8 (Zjv (Zo2 (Z60 (Zbp (Zfi (Wg Z0 (Za5 rfl (Zb Za Zd) (by omega) bm λr x2 r0 r1=>⟨_,Zwk _ _,Zbp (Wg Za (Zdv ⟨show 2≤1000 by decide,Wg (Zan (Zb (Z0k Za Z0 rfl) Zd) (Z5w _)) ?_⟩))⟩)))))))⟩
   obtain⟨v,ev,v0,v1⟩:=Ya8 (a:=1+r) (b:=m) (lo:=1) (hi:=P) (by omega) (by omega) (decide (kd=3))
   refine⟨_,ev,v,S,n,a,b,OT.data_fz _,rfl,Za,ha,Za,by omega,?_⟩
   refine Z8 (EpS.mono (N:=λδ=>∃x v,δ=lE x n o kd z4 z5 (some (Z4 n (inG (upR S a b v)))) (some (.fz (.int m))) (some (.fz (.int a))) (some (.fz (.int b)))∧1≤v∧v≤P) (R:=λ_ _=>False) ?_ (λδ q=>?_) λ_ _ z=>z.elim)
   ·refine Zlj (Z3f (Zdf (Zdk (Z0k Za Z0 rfl)) ⟨λc=>?_,λc=>⟨(λz=>nomatch z),λ_=>Zii ⟨_,v,rfl,v0,v1⟩⟩⟩))
    refine Z4k (Zfi (Za5 rfl (Zb Z0 Zd) (by decide) (btc (by decide +kernel) (by decide +kernel)) λr x3 r0 r1=>Wg Z0 ⟨_,Zzj _ _,_,rfl,λ_=>?_,λ_=>Zii ⟨_,v,rfl,v0,v1⟩⟩))
    refine Zjv (Wg Z0 ⟨1,upR S a b v,n,a,b,rfl,rfl,Za,ha,Za,by omega,x3,1,?_,VD _,P1⟩)
    rw[Zvg];rfl
   obtain⟨x3,v,rfl,v0,v1⟩:=q
   have val:EvV Ydq (lE x3 n o kd z4 z5 (some (Z4 n (inG (upR S a b v)))) (some (.fz (.int m))) (some (.fz (.int a))) (some (.fz (.int b)))) (.int v):=(Zdr (f:=inG (upR S a b v)) (n:=n) (a:=a) (b:=b) (i0:=6) (i9:=8) (i10:=9) ha (by omega) rfl rfl rfl).cast (congrArg Xn (if_pos ⟨rfl,rfl⟩))
   refine Zjv (Wg (d:=.int v) ?_ ⟨v,upR S a b v,n,b,a,rfl,rfl,Za,by omega,Za,ha,x3,_,_,rfl,hS.put (by omega) (by omega),Zxd (Zxd bS v1 a b) v1 b a⟩)
   obtain⟨t,e1,e2⟩:=val
   exact⟨_,by rw[Zuz,e1,Xh,e2];exact if_pos rfl,OT.data_fz _⟩
  ·obtain⟨x,S,z9,rfl,hS,bS⟩:=q
   exact⟨x,S,_,z9,rfl,hS,bS⟩
 ·obtain⟨x,S,z8,z9,rfl,hS,bS⟩:=q
  exact next x S _ z8 z9 hS bS
theorem Zvs{n k:Nat}{ts:List OT}{d:Xa}{f:Nat->Xa}(h:ts.map OT.data=(Xl n).map f):(ts.set k (.fz d)).map OT.data=(Xl n).map λi=>if i=k then d else f i:=by
 rw[List.map_set,h,OT.data_fz,Zhb]
noncomputable def ad2(R W:Nat->Nat->Int)(k:Nat)(i j:Nat):Int:=if i<k then R i j+W i j else R i j
theorem Yaj{n:Nat}(hn:n≤6)(R W:Nat->Nat->Int)(x kd:Int)(z4 z5 z7 z8 z9:Option OT){RR:Xa->Ze->Prop} :
  EpS Ydu (lE x n (Z4 n (inG R)) kd z4 z5 (some (Z4 n (inG W))) z7 z8 z9)
  (λδ=>∃o z8,δ=lE x n o kd z4 z5 (some (Z4 n (inG W))) z7 z8 z9∧o.data=Yk n (inG λi j=>R i j+W i j)) RR:=by
 have eo:Z4 n (inG R)= .nd ((Xl n).map λi=>.nd ((Xl n).map λj=>.fz (inG R i j))):=rfl
 rw[eo]
 refine Za3 (ds:=Zcg 0 n) (λk δ=>∃ts z8,δ=lE x n (.nd ts) kd z4 z5 (some (Z4 n (inG W))) z7 z8 z9∧ts.map OT.data=(Xl n).map λi=>QC ((Xl n).map λj=>inG (ad2 R W k) i j)) (Zap (Zb Za Zd) (by omega)) ⟨_,z8,rfl,?_⟩ (λk d δ hd q=>?_) λδ' q=>?_
 ·have:=Wj n (inG R)
  unfold Z4 Yk at this
  rw[OT.data_nd]at this
  exact Uv this
 ·obtain⟨ts,z8,rfl,ht⟩:=q
  obtain⟨hk,rfl⟩:=Z9 hd
  rw[Qw]
  have lt:ts.length=n:=by
   have:=congrArg List.length ht
   rwa[Xe,Xe,Xw]at this
  refine⟨_,rfl,Zbo (Zws (n:=k) (d:=.list ((Xl n).map λj=>.int (R k j+W k j))) (Zoq (Xl n) (λj=>.tuple [.int (R k j),.int (W k j)]) _ (Zhr (as:=(Xl n).map λj=>.int (R k j)) (bs:=(Xl n).map λj=>.int (W k j)) (W6 (Ziu rfl (OT.data_nd ts)) (Za (d:=.int k)) ?_) (W6 (Ziu rfl (Wj n (inG W))) (Za (d:=.int k)) ?_) (Zjf _ _ _)) (by rw[Xw];omega) λj _ z0 z1=>⟨_,_,rfl,W5 Za Za⟩) rfl Za ?_) ⟨_,_,rfl,?_⟩⟩
  ·rw[ht,Zic,Zgm _ hk,Xh]
   refine congrArg (λz=>some (OT.fz (QC z))) (XH λj _=>congrArg Xn (if_neg (by omega)))
  ·unfold Yk
   rw[Zic,Zgm _ hk,Xh];rfl
  ·rw[lt];exact Zo0 hk
  ·rw[Zvs ht]
   refine XH λi _=>?_
   by_cases c:i=k
   ·rw[if_pos c,c]
    exact congrArg QC (XH λj _=>congrArg Xn (if_pos (by omega)).symm)
   ·rw[if_neg c]
    refine congrArg QC (XH λj _=>congrArg Xn ?_)
    unfold ad2
    by_cases c2:i<k
    ·rw[if_pos c2,if_pos (by omega)]
    ·rw[if_neg c2,if_neg (by omega)]
 ·obtain⟨ts,z8,rfl,ht⟩:=q
  refine⟨_,z8,rfl,?_⟩
  rw[OT.data_nd,ht,Z6]
  refine congrArg QC (XH λi hi=>congrArg QC (XH λj _=>congrArg Xn (if_pos (Qp.mp hi))))
theorem Zwd{M P:Int}(hM:M=1000000000000000000000000000000000000001)(hP:P=100000000000000000000){v:Int}(h0:0≤v)(h1:v≤(7:Nat)*M+P):Bt 161 v :=
 Zq7 (m:=160) h0 (Qx h1 (by rw[hM,hP];decide +kernel)) (by decide)
theorem Zzp{n:Nat}(hn:n≤6)(x:Int):ToldI Zau (dk x) [.int n] λd t'=>∃R x',d=Y0 n R∧Lt n R∧(∀i j,Bt 161 (R i j))∧t'=dk x':=by
 obtain⟨M,hM⟩:∃M:Int,M=1000000000000000000000000000000000000001:=⟨_,rfl⟩
 obtain⟨P,hP⟩:∃P:Int,P=100000000000000000000:=⟨_,rfl⟩
 have P0:0≤P:=by rw[hP];decide +kernel
 refine Zem rfl (Z8 (Zgd (Zq6 (Zb Za Zd) (Zk5 (n:=n) (by omega))) (Z8 (Zd7 (Za5 rfl (Zb Z0 Zd) (by decide) (btc (by decide +kernel) (by decide +kernel)) λkd x1 r0 r1=>Z8 ((Ybo hn hM x1 kd none none none none (RR:=λ_ _=>False)).mono (λδ q=>?_) λ_ _ z=>z.elim))))))
 obtain⟨x2,R,z4,z5,rfl,hR,bR⟩:=q
 refine Z8 (EpS.mono (N:=λδ=>∃x o R z4 z5 z6 z7 z8 z9,δ=lE x n o kd z4 z5 z6 z7 z8 z9∧o.data=Yk n (inG R)∧Lt n R∧∀i j,Bt 161 (R i j)) (R:=λ_ _=>False) ?_ (λδ q=>?_) λ_ _ z=>z.elim)
 ·refine Zlj (Zdf (Zdk (Zq5 Za Z0 rfl)) ⟨λ_=>?_,λ_=>Zii ⟨_,_,_,_,_,_,_,_,_,rfl,Wj n (inG R),hR,λi j=>Zwd hM hP (hR.nn i j) (Qx (bR i j) (Int.le_add_of_nonneg_right P0))⟩⟩)
  refine long2 hn hP x2 _ kd z4 z5 none none none none λx S z7 z8 z9 hS bS=>?_
  refine Z8 (Zoe (Zbr rfl (Zdv ⟨_,rfl,(Zmz (n:=n) (by omega) hS).mono λ_ t' z=>?_⟩)))
  subst z
  refine(Yaj hn R (fw S n) x kd z4 z5 z7 z8 z9 (RR:=λ_ _=>False)).mono (λδ q=>?_) λ_ _ z=>z.elim
  obtain⟨o,z8,rfl,ho⟩:=q
  exact⟨x,o,_,_,_,_,_,_,_,rfl,ho,hR.sum (Lt.short hS),λi j=>Zwd hM hP (Int.add_nonneg (hR.nn i j) ((hS.fw n).nn i j)) (Int.add_le_add (bR i j) (Z8o bS n i j))⟩
 ·obtain⟨x,o,R,z4,z5,z6,z7,z8,z9,rfl,ho,hR,bR⟩:=q
  exact Z8e rfl ⟨dk x,rfl,R,x,ho,hR,bR,rfl⟩
noncomputable def UpL(L:List (List Int)):Prop:=L.Pairwise λa b=>ltI a b=true
theorem Zc9(A:List Int):kdL (Zo A)=some A:=Zhl A
theorem Zwh{L:List (List Int)}{i j:Nat}(hi:i<L.length)(hj:j<L.length):lk kdL ltI (L.map λA=>Zo A) i j=ltI (L.getD i []) (L.getD j []):=by
 have e:∀k,k<L.length->kdL ((L.map λA=>Zo A).getD k .none)=some (L.getD k []):=λk hk=>by
  rw[Xi,Xk,Xj hk,Xi,Xj hk]
  exact Zc9 _
 unfold lk
 rw[e i hi,e j hj];rfl
theorem Zk2{L:List (List Int)}(nd:L.Nodup)(h:L.length<64):∃M:List (List Int),Zlu kdL ltI [.list (L.map λA=>Zo A)]=some (.nd ((M.map λA=>Zo A).map OT.fz))∧M.Perm L∧M.Pairwise (λa b=>ltI a b=true):=by
 have lm:(L.map λA=>Zo A).length=L.length:=Xe ..
 have gne:∀{i j:Nat},i<L.length->j<L.length->i≠j->L.getD i []≠L.getD j []:=fun{i j} hi hj ne=>by
  rw[Xi,Xi,Xj hi,Xj hj]
  exact λe=>ne ((List.getElem_inj nd).mp e)
 obtain⟨M,pM,eM⟩:=Zu8 (Zks PyData.none (lk kdL ltI (L.map λA=>Zo A)) (L.map λA=>Zo A)) L rfl
 refine⟨M,?_,pM,?_⟩
 ·show(if(decide ((L.map λA=>Zo A).length<64)&&(L.map λA=>Zo A).all λd=>(kdL d).isSome)=true then some (OT.nd ((sLay PyData.none (lk kdL ltI _) (L.map λA=>Zo A)).map OT.fz))else none)=_
  rw[if_pos,eM]
  rw[XN,decide_eq_true_eq,lm,BP]
  refine⟨h,λd m=>?_⟩
  obtain⟨p,hp,rfl⟩:=XF.mp m
  rw[Zc9];rfl
 ·have up:=Zz0 (β:=Nat) (d:=PyData.none) (vs:=L.map λA=>Zo A) (lt:=lk kdL ltI (L.map λA=>Zo A)) (R:=λa b=>∃x y,kdL a=some x∧kdL b=some y∧ltI x y=true) ⟨λi j k hi hj hk h1 h2=>?_,λi j hi hj c q=>?_,λi j hi hj q=>?_⟩ λi j hi hj q=>?_
  ·rw[eM,List.pairwise_map]at up
   refine(up.imp_of_mem fun{a b} ha hb h=>?_)
   obtain⟨x,y,h1,h2,h3⟩:=h
   rw[Zc9]at h1
   rw[Zc9]at h2
   cases h1;cases h2
   exact h3
  all_goals (try rw[lm]at hi hj)
  ·rw[lm]at hk
   rw[Zwh hi hj]at h1
   rw[Zwh hj hk]at h2
   rw[Zwh hi hk]
   exact Zru h1 h2
  ·rw[Zwh hi hj]at q
   rw[Zwh hj hi]
   exact Z0g (gne hi hj c) q
  ·rw[Zwh hi hj]at q
   rw[Zwh hj hi]
   cases z:ltI (L.getD j []) (L.getD i [])with
   | false=>rfl
   | true=>have:=Zru q z;rw[Zm0]at this;cases this
  ·rw[Zwh hi hj]at q
   refine⟨_,_,?_,?_,q⟩
   ·rw[Xi,Xk,Xj hi,Xi,Xj hi]
    exact Zc9 _
   ·rw[Xi,Xk,Xj hj,Xi,Xj hj]
    exact Zc9 _
theorem Zvr{n:Nat}(h0:1≤n)(hn:n≤6):∃Ls:List (List Int),Told Ye [.int n] (.list (Ls.map Zo))∧(∀s,s∈Ls↔Zpk n s)∧UpL Ls:=by
 have p2:∀{k:Nat},k≤5->(sdL k).length≤32:=fun{k} hk=>by
  rw[Zsl]
  exact Qg (Vo (by decide) hk) (by decide)
 have l32:(sdN n).length<64:=Bl (Vg ..) (Bl (p2 (k:=n-1) (by omega)) (by decide))
 obtain⟨Ls,eS,pm,up⟩:=Zk2 (L:=sdN n) ((Zky _).filter _) l32
 refine⟨Ls,?_,λs=>?_,up⟩
 ·refine Z1 rfl<|Yl (Zq (Zaj (Zb (Zaj Zd (show 0≤1000 by decide)) Zd) (show 1≤1000 by decide)))<|
   Zhy (ds:=Zcg 1 (n-1)) (λk δ=>∃z2,δ=[some (.fz (.int n)),some (.fz (.list ((sdL k).map Zo))),z2]) (Zyt (m:=1) (Zb Z0 (Zb Za Zd)) (by decide) (by omega)) ⟨none,rfl⟩ (λk d δ hd q=>?_) λδ' q=>?_
  ·obtain⟨z2,rfl⟩:=q
   obtain⟨hk,rfl⟩:=Z9 hd
   have lk:=p2 (k:=k) (by omega)
   refine⟨_,_,rfl,.inl (Zq (EvV.cast (Ziy (ds:=(sdL k).map Zo) (es:=(sdL k).map λs=>Zo (s ++ [(k:Int)+1])) Za (Zb2 (cs:=[some (.fz (.int (1+(k:Int))))]) (sdL k) Zo (λs=>Zo (s ++ [(k:Int)+1])) (Yx Za) (by omega) rfl λs hs=>?_) (by rw[Xe,Xe];omega)) (y:=.list ((sdL (k+1)).map Zo)) ?_)),_,rfl⟩
   ·have ls:=(Zil k s hs).1
    exact(Ziy (ds:=s.map Xn) (es:=[.int (1+(k:Int))]) Za (Zaj (Zb Za Zd) (show 1≤1000 by decide)) (by rw[Xe];show _+1≤_;omega)).cast (by unfold Zo;rw[QF,Int.add_comm];rfl)
   ·rw[sdL,QF,QD];rfl
  ·obtain⟨z2,rfl⟩:=q
   rw[Z6]
   refine Wm (Z6d (Zb (Zeg (cs:=[]) (sdL (n-1)) Zo (λs=>!decide (s=[])) (Yx Za) (Qg (p2 (by omega)) (by decide)) rfl (λs _=>Zdk (Zj Za (Zaj Zd (show 0≤1000 by decide)) (Zve s []))) λs _ _=>rfl) Zd) eS (by rw[OT.data_nd,OT.map_fz]))
 ·rw[pm.mem_iff,←Zjd n h0 s]
  unfold sdN
  rw[Q7,Bool.not_eq_true',decide_eq_false_iff_not]
theorem Zmh{n:Nat}(h0:1≤n)(hn:n≤6):∃Ls:List (List Int),Told Wo [.int n] (.list (Ls.map Zo))∧(∀s,s∈Ls↔Zpk n s)∧UpL Ls∧Ls.length<64:=by
 have p2:∀{k:Nat},k≤5->(sdL k).length≤32:=fun{k} hk=>by
  rw[Zsl]
  exact Qg (Vo (by decide) hk) (by decide)
 have l64:(sdL (n-1)).length<64:=Bl (p2 (by omega)) (by decide)
 obtain⟨L1,eS,pS,uS⟩:=Zk2 (Zky (n-1)) l64
 refine⟨L1.filter λs=>decide (0<s.length),?_,λs=>?_,uS.sublist List.filter_sublist,Bl (Vg ..) (pS.length_eq▸l64)⟩
 ·refine Z1 rfl<|Yl (Zq (Zaj (Zb (Zaj Zd (show 0≤1000 by decide)) Zd) (show 1≤1000 by decide)))<|
   Zhy (ds:=Zcg 1 (n-1)) (λk δ=>∃z2,δ=[some (.fz (.int n)),some (.fz (.list ((sdL k).map Zo))),z2]) (Zyt (m:=1) (Zb Z0 (Zb Za Zd)) (by decide) (by omega)) ⟨none,rfl⟩ (λk d δ hd q=>?_) λδ' q=>?_
  ·obtain⟨z2,rfl⟩:=q
   obtain⟨hk,rfl⟩:=Z9 hd
   have lk:=p2 (k:=k) (by omega)
   refine⟨_,_,rfl,.inl (Zq (EvV.cast (Ziy (ds:=(sdL k).map Zo) (es:=(sdL k).map λs=>Zo (s ++ [(k:Int)+1])) Za (Zb2 (cs:=[some (.fz (.int (1+(k:Int))))]) (sdL k) Zo (λs=>Zo (s ++ [(k:Int)+1])) (Yx Za) (by omega) rfl λs hs=>?_) (by rw[Xe,Xe];omega)) (y:=.list ((sdL (k+1)).map Zo)) ?_)),_,rfl⟩
   ·have ls:=(Zil k s hs).1
    exact(Ziy (ds:=s.map Xn) (es:=[.int (1+(k:Int))]) Za (Zaj (Zb Za Zd) (show 1≤1000 by decide)) (by rw[Xe];show _+1≤_;omega)).cast (by unfold Zo;rw[QF,Int.add_comm];rfl)
   ·rw[sdL,QF,QD];rfl
  ·obtain⟨z2,rfl⟩:=q
   rw[Z6]
   refine Wm (Zeg (cs:=[]) L1 Zo (λs=>decide (0<s.length)) (Yx (Z6d (Zb Za Zd) eS (by rw[OT.data_nd,OT.map_fz]))) (by rw[pS.length_eq];omega) rfl (λs _=>Zdk (Zq5 (Zn1 (ds:=s.map Xn) Za) Z0 (decide_eq_decide.mpr (by rw[Xe];omega)))) λs _ _=>rfl)
 ·rw[Q7,decide_eq_true_eq,List.length_pos_iff,pS.mem_iff]
  exact Zjd n h0 s
theorem Zr1(W:List Int->Int)(A:List Int):∀(L:List (List Int)) (D:Nat->Nat->Int),rs W (L ++ [A]) D=Dm (rs W L D) (mb A) (W A)
 | [],_=>rfl
 | B :: L,D=>by
  show rs W (L ++ [A]) (Dm D (mb B) (W B))=_
  rw[Zr1 W A L];rfl
noncomputable def ri(E:Nat->Nat->Int)(p:List Int)(w:Int)(a i b x y:Nat):Int:=@ite Int (Rg p a i b x y) (Classical.propDecidable _) (E x y-w) (E x y)
theorem Zk8{E:Nat->Nat->Int}{p:List Int}{w:Int}{a i b x y:Nat}(h:Rg p a i b x y):ri E p w a i b x y=E x y-w:=if_pos h
theorem Zp7{E:Nat->Nat->Int}{p:List Int}{w:Int}{a i b x y:Nat}(h:¬Rg p a i b x y):ri E p w a i b x y=E x y:=if_neg h
theorem Zgb{E:Nat->Nat->Int}{p:List Int}{w:Int}{a i b x y a' i' b':Nat}(h:Rg p a i b x y↔Rg p a' i' b' x y):ri E p w a i b x y=ri E p w a' i' b' x y:=by
 by_cases c:Rg p a i b x y
 ·rw[Zk8 c,Zk8 (h.mp c)]
 ·rw[Zp7 c,Zp7 λz=>c (h.mpr z)]
theorem Z3z{p:List Int}{a i b x y:Nat}:Rg p a i b x y↔Rg p a i b y x:=by
 unfold Rg
 constructor
 ·rintro(z|z|z|z)
  ·exact .inr (.inl z)
  ·exact .inl z
  ·exact .inr (.inr (.inr z))
  ·exact .inr (.inr (.inl z))
 ·rintro(z|z|z|z)
  ·exact .inr (.inl z)
  ·exact .inl z
  ·exact .inr (.inr (.inr z))
  ·exact .inr (.inr (.inl z))
theorem Z5m{E:Nat->Nat->Int}{p:List Int}{w:Int}{a i b:Nat}(nd:p.Nodup)(h:p[a]? =some (i:Int))(hb:(b:Int)∉p):upR (upR (ri E p w a i b) i b (E i b-w)) b i (E b i-w)=ri E p w a i (b+1):=by
 funext x y
 unfold upR
 have r1:Rg p a i (b+1) i b:=.inr (.inr (.inl ⟨rfl,JV b,hb⟩))
 by_cases c1:x=b∧y=i
 ·rw[if_pos c1,c1.1,c1.2,Zk8 (Z3z.mp r1)]
 ·rw[if_neg c1]
  by_cases c2:x=i∧y=b
  ·rw[if_pos c2,c2.1,c2.2,Zk8 r1]
  ·rw[if_neg c2]
   exact(Zgb (Zu5 c1 c2)).symm
noncomputable abbrev lS:FS:=Zch Z8m
  Ydv
  fNx
noncomputable def fE(n:Nat)(R E:Nat->Nat->Int)(A:List Int)(w:Int)(z5 z6:Option OT):Ze:=[some (.fz (Y0 n R)),some (.fz (.int n)),some (Z4 n (inG E)),some (.fz (Zo A)),some (.fz (.int w)),z5,z6]
theorem Zz4{n:Nat}(hn:n≤10)(R E:Nat->Nat->Int){A:List Int}(g:Zpk n A)(w:Int)(z5 z6:Option OT):∃z5' z6',Wl Ztu (gNm 5) (Wl Zkr (gNm 6) lS) (fE n R E A w z5 z6)= .nx (fE n R (Dm E (mb A) w) A w z5' z6'):=by
 have nd:A.Nodup:=g.up.imp λh=>Int.ne_of_lt h
 refine Exists.elim (Zag (it:=Zbb Zcf) (g:=gNm 5) (S:=Wl Zkr (gNm 6) lS) (δ:=fE n R E A w z5 z6) (ds:=A.map Xn) (λk δ=>∃z5 z6,δ=fE n R (ri E A w k 0 0) A w z5 z6) (Yx (Za (i:=3) rfl)) ⟨z5,z6,?base⟩ λa d δ hd q=>?turn) λδ' h=>?fin
 case base=>
  rw[show ri E A w 0 0 0=E from funext λx=>funext λy=>Zp7 (by
   unfold Rg
   rw[List.take_zero]
   rintro(z|z|z|z)
   ·exact nomatch z.1
   ·exact nomatch z.1
   ·exact absurd z.2.1 (Qe _)
   ·exact absurd z.2.1 (Qe _))]
 case turn=>
  obtain⟨z5,z6,rfl⟩:=q
  obtain⟨la,rfl⟩:=Znf hd
  have mA:A.getD a 0∈A:=getD_mem la
  have pt:=g.pt _ mA
  obtain⟨i,hi⟩:∃i:Nat,A.getD a 0=(i:Int):=⟨(A.getD a 0).toNat,by omega⟩
  have hx:A[a]? =some (i:Int):=by
   rw[←hi,Xi,Xj la];rfl
  rw[hi]at mA pt⊢
  have li:i<n:=by omega
  obtain⟨δ2,e2,z6',rfl⟩:=Zag (it:=iRa Zla) (g:=gNm 6) (S:=lS) (δ:=fE n R (ri E A w a 0 0) A w (some (.fz (.int i))) z6) (ds:=Zcg 0 n) (λb δ=>∃z6,δ=fE n R (ri E A w a i b) A w (some (.fz (.int i))) z6) (Zap (Zb (Za (i:=1) rfl) Zd) (by omega))
   ⟨z6,by rw[show ri E A w a i 0=ri E A w a 0 0 from funext λx=>funext λy=>Zgb Yfs]⟩ λb d δ hd q=>by
    obtain⟨z6,rfl⟩:=q
    obtain⟨hb,rfl⟩:=Z9 hd
    rw[Qw]
    have tt:EvT Z8m (fE n R (ri E A w a i b) A w (some (.fz (.int i))) (some (.fz (.int b)))) (!decide ((b:Int)∈A)):=Zdk (Zj (Za (i:=6) rfl) (Za (i:=3) (d:=Zo A) rfl) (Zg4 true _ _))
    by_cases c:(b:Int)∈A
    ·rw[decide_eq_true c]at tt
     exact⟨_,_,rfl,.inl (Jl tt rfl),some (.fz (.int b)),by rw[show ri E A w a i (b+1)=ri E A w a i b from funext λx=>funext λy=>Zgb (Ybs c)];rfl⟩
    ·rw[decide_eq_false c]at tt
     have n1:=Z5h nd hx c
     have ib:i≠b:=λz=>c (z▸mA)
     have v1:EvV Yde (fE n R (ri E A w a i b) A w (some (.fz (.int i))) (some (.fz (.int b)))) (.int (E i b-w)):=Zij ((Zdr (f:=inG (ri E A w a i b)) (n:=n) (a:=i) (b:=b) (i0:=2) (i9:=5) (i10:=6) li hb rfl rfl rfl).cast (congrArg Xn (Zp7 n1))) (Za (i:=4) rfl)
     have v2:EvV Ydx (fE n R (upR (ri E A w a i b) i b (E i b-w)) A w (some (.fz (.int i))) (some (.fz (.int b)))) (.int (E b i-w)):=Zij ((Zdr (f:=inG (upR (ri E A w a i b) i b (E i b-w))) (n:=n) (a:=b) (b:=i) (i0:=2) (i9:=6) (i10:=5) hb li rfl rfl rfl).cast (congrArg Xn ((if_neg λz=>ib z.2).trans (Zp7 λz=>n1 (Z3z.mp z))))) (Za (i:=4) rfl)
     refine⟨_,fE n R (ri E A w a i (b+1)) A w (some (.fz (.int i))) (some (.fz (.int b))),rfl,.inl (Ze2 tt (Yt (Zhp (i:=2) (n:=n) (a:=i) (b:=b) v1 rfl (Za (i:=5) rfl) li (Za (i:=6) rfl) hb) ((Zhp (i:=2) (n:=n) (a:=b) (b:=i) v2 rfl (Za (i:=6) rfl) hb (Za (i:=5) rfl) li).trans ?_))),_,rfl⟩
     rw[Z5m nd hx c];rfl
  rw[Z6]at e2
  refine⟨_,_,rfl,.inl e2,some (.fz (.int i)),z6',?_⟩
  show fE n R (ri E A w a i n) A w _ _=_
  unfold fE
  rw[Zhn (R:=ri E A w a i n) (S:=ri E A w (a+1) 0 0) λx y hx' hy'=>Zgb (Z40 hx hx' hy')]
 case fin=>
  obtain⟨e,z5,z6,rfl⟩:=h
  rw[Xe]at e
  refine⟨z5,z6,e.trans ?_⟩
  unfold fE
  rw[Zhn (R:=ri E A w A.length 0 0) (S:=Dm E (mb A) w) λx y hx hy=>?_]
  have k:Rg A A.length 0 0 x y↔mb A x≠mb A y:=by
   unfold Rg mb
   rw[Bj]
   constructor
   ·rintro(z|z|z|z)
    ·rw[decide_eq_true z.1,decide_eq_false z.2];decide
    ·rw[decide_eq_true z.1,decide_eq_false z.2];decide
    ·exact absurd z.2.1 (Qe _)
    ·exact absurd z.2.1 (Qe _)
   ·intro h
    by_cases c1:(x:Int)∈A
    ·by_cases c2:(y:Int)∈A
     ·exact absurd (by rw[decide_eq_true c1,decide_eq_true c2]) h
     ·exact .inl ⟨c1,c2⟩
    ·by_cases c2:(y:Int)∈A
     ·exact .inr (.inl ⟨c2,c1⟩)
     ·exact absurd (by rw[decide_eq_false c1,decide_eq_false c2]) h
  by_cases c:mb A x=mb A y
  ·rw[Zp7 λz=>k.mp z c,Zdc c]
  ·rw[Zk8 (k.mpr c),Zdh c]
theorem Zza{n:Nat}(hn:n≤10){R:Nat->Nat->Int}{Ls:List (List Int)}{W:List Int->Int}(eS:Told Ye [.int n] (.list (Ls.map Zo)))(mS:∀A∈Ls,Zpk n A)(inx:∀A∈Ls,Told Yr [Y0 n R,Zo A] (.int (W A))):Told Jj [Y0 n R] (Y0 n (rs W Ls λx y=>2*R x y)):=by
 have e0:Yej [some (.fz (Y0 n R)),some (.fz (.int n)),none,none,none,none,none]=some (Z4 n (inG λx y=>2*R x y),[some (.fz (Y0 n R)),some (.fz (.int n)),none,none,none,none,none]) :=
  Zdg (cs:=[]) (Xl n) (λi:Nat=>Zxw n (R i)) (λi=>.nd ((Xl n).map λj=>.fz (.int (2*R i j)))) (Yx (Za (i:=0) (d:=Y0 n R) rfl)) (by rw[Xw,Qc];omega) rfl λi _=>
   Zdg (cs:=[]) (Xl n) (λj:Nat=>Xn (R i j)) (λj=>.fz (.int (2*R i j))) (Yx (Za (i:=0) (d:=Zxw n (R i)) rfl)) (by rw[Xw,Qc];omega) rfl λj _=>by
    obtain⟨t,e1,e2⟩:=Zms (Z0 (δ:=[some (.fz (.int (R i j)))]) (d:=.int 2)) (Za (i:=0) (d:=.int (R i j)) rfl) (by decide)
    rw[e1,Zgo e2]
 refine Z1 rfl<|Yl (Zq (Zan (Zb (Za (i:=0) rfl) Zd) (Zel n R)))<|Yl (Zna e0) ?_
 refine Exists.elim (Zag (it:=Zbb (Zw Ye Zla)) (g:=gNm 3) (S:=Zz Yck (Wl Ztu (gNm 5) (Wl Zkr (gNm 6) lS)))
  (δ:=[some (.fz (Y0 n R)),some (.fz (.int n)),some (Z4 n (inG λx y=>2*R x y)),none,none,none,none]) (ds:=Ls.map Zo) (λk δ=>∃z3 z4 z5 z6,δ=[some (.fz (Y0 n R)),some (.fz (.int n)),some (Z4 n (inG (rs W (Ls.take k) λx y=>2*R x y))),z3,z4,z5,z6])
  (Yx (Zm (Zb (Za (i:=1) rfl) Zd) eS)) ⟨none,none,none,none,rfl⟩ λk d δ hd q=>?turn) λδ' h=>?fin
 case turn=>
  obtain⟨z3,z4,z5,z6,rfl⟩:=q
  rw[Xk]at hd
  cases eA:Ls[k]? with
  | none=>rw[eA]at hd;cases hd
  | some A=>
   rw[eA]at hd
   cases hd
   have mA:=X5 eA
   obtain⟨z5',z6',e⟩:=Zz4 hn R (rs W (Ls.take k) λx y=>2*R x y) (mS A mA) (W A) z5 z6
   refine⟨_,_,rfl,.inl (Yt (Zq (Zm (Zb (Za (i:=0) rfl) (Zb (Za (i:=3) (d:=Zo A) rfl) Zd)) (inx A mA))) e),some (.fz (Zo A)),some (.fz (.int (W A))),z5',z6',?_⟩
   rw[Vn,eA,Option.toList_some,Zr1];rfl
 case fin=>
  obtain⟨e,z3,z4,z5,z6,rfl⟩:=h
  rw[Xe,Bj]at e
  exact Yl e (Z7x (i:=2) rfl (Wj n _))
noncomputable def sW(W:List Int->Int)(Ls:List (List Int))(x y:Nat):Int:=(Ls.map λA=>if mb A x=mb A y then 0 else W A).sum
theorem Z34{W:List Int->Int}{M:Int}:∀{Ls:List (List Int)},(∀A∈Ls,0≤W A∧W A≤M)->∀x y,0≤sW W Ls x y∧sW W Ls x y≤M*(Ls.length:Int)
 | [],_,_,_=>⟨VD _,by rw[List.length_nil];exact Int.le_of_eq (Int.mul_zero M).symm⟩
 | A :: L,h,x,y=>by
  obtain⟨h1,h2⟩:=Z34 (λB hB=>h B (.tail _ hB)) x y
  obtain⟨k1,k2⟩:=h A (.head _)
  have e:sW W (A :: L) x y=(if mb A x=mb A y then 0 else W A)+sW W L x y:=by unfold sW;rw[X3,Vv]
  have e2:M*((A :: L).length:Int)=M*(L.length:Int)+M:=by
   rw[JS,Int.natCast_add,Int.mul_add]
   exact congrArg (M*(L.length:Int)+·) (Int.mul_one M)
  rw[e,e2]
  split<;>omega
theorem Zxe(i j:Nat)(A:List Int)(q:Rat):prt i j (A,q)=true↔mb A i≠mb A j:=by
 unfold prt sd mb
 by_cases a:(i:Int)∈A<;>by_cases b:(j:Int)∈A<;>simp[a,b]
theorem Z1j(p:List Int×Rat)(L:List (List Int×Rat))(i j:Nat):Sm (p :: L) i j=(if prt i j p=true then p.2 else 0)+Sm L i j:=by
 unfold Sm
 by_cases c:prt i j p=true
 ·rw[BK c,if_pos c,X3,Vv]
 ·rw[BL c,if_neg c,Rat.zero_add]
theorem Zxk{W:List Int->Int}{b:Int}:∀{Ls:List (List Int)},(∀A∈Ls,0≤W A)->∀x y,Sm (wtL Ls W b) x y=Xv (sW W Ls x y) (2*b)
 | [],_,_,_=>(Rat.zero_divInt _).symm
 | A :: L,h,x,y=>by
  have ih:=Zxk (W:=W) (b:=b) (λB hB=>h B (.tail _ hB)) x y
  have k:=h A (.head _)
  have e:sW W (A :: L) x y=(if mb A x=mb A y then 0 else W A)+sW W L x y:=by unfold sW;rw[X3,Vv]
  by_cases c:0<W A
  ·have e2:wtL (A :: L) W b=(A,Xv (W A) (2*b)) :: wtL L W b:=by
    unfold wtL
    rw[BK (p:=λA=>decide (0<W A)) (decide_eq_true c),X3]
   rw[e2,Z1j,ih,e]
   by_cases d:mb A x=mb A y
   ·rw[if_pos d,if_neg λz=>(Zxe x y A _).mp z d,Rat.zero_add,Qw]
   ·rw[if_neg d,if_pos ((Zxe x y A _).mpr d),Z0z]
  ·have e2:wtL (A :: L) W b=wtL L W b:=by
    unfold wtL
    rw[BL (p:=λA=>decide (0<W A)) (by rw[decide_eq_false c];decide)]
   rw[e2,ih,e,show(if mb A x=mb A y then 0 else W A)=0 by split<;>omega,Qw]
theorem Z83(W:List Int->Int)(Ls:List (List Int))(x y:Nat):sW W Ls x y=sW W Ls y x:=by
 unfold sW
 refine congrArg List.sum (XH λA _=>?_)
 by_cases c:mb A x=mb A y
 ·rw[if_pos c,if_pos c.symm]
 ·rw[if_neg c,if_neg λz=>c z.symm]
theorem Z2t(W:List Int->Int):∀(Ls:List (List Int)) (x:Nat),sW W Ls x x=0
 | [],_=>rfl
 | A :: L,x=>by
  have:=Z2t W L x
  unfold sW at this⊢
  rw[X3,Vv,if_pos rfl,this];rfl
theorem Z98{m:Nat}{x:Int}(h:Bt m x):x≤((2^m:Nat):Int):=by
 have h:x.natAbs<2^m:=h
 have:=Int.ofNat_lt.mpr h
 omega
theorem Z80{R:Nat->Nat->Int}{M:Int}(nn:∀i j,0≤R i j)(le:∀i j,R i j≤M)(a b c e:Nat):rl R a b c e≤2*M:=by
 have h1:=nn a b;have h2:=nn c e
 have k1:=le a b;have k2:=le c e;have k3:=le a c;have k4:=le b e;have k5:=le a e;have k6:=le b c
 unfold rl;omega
theorem Lst.wb{R:Nat->Nat->Int}{A B:List Int}{m M:Int}(nn:∀i j,0≤R i j)(le:∀i j,R i j≤M)(h:Lst R A B m):0≤m∧m≤2*M:=by
 obtain⟨⟨p,_,q,_,e⟩,_⟩:=h
 rw[e]
 exact⟨Z1l R p q,Z80 nn le _ _ _ _⟩
theorem Zw1(R:Nat->Nat->Int)(a b c e:Nat):rl (λx y=>2*R x y) a b c e=2*rl R a b c e:=by unfold rl;dsimp only;omega
theorem Zkd{n:Nat}{A:List Int}{x:Nat}(h:mb A x=false)(hx:x<n):(x:Int)∈away n A:=Zc7.mpr ⟨Int.natCast_nonneg x,by omega,of_decide_eq_false h⟩
theorem Z97{n:Nat}{R:Nat->Nat->Int}{A:List Int}{m:Int}(sy:∀i j,R i j=R j i)(hA:∀x∈A,1≤x∧x<n)(h:Lst R A (away n A) m):Ge n (λx y=>2*R x y) (mb A) (2*m)∧Att n (λx y=>2*R x y) (mb A) (2*m):=by
 refine⟨λa b c e ha hb hc he pa pb pc pe=>?_,?_⟩
 ·rw[Zw1]
  have:=h.all sy (of_decide_eq_true pa) (of_decide_eq_true pb) (Zkd pc hc) (Zkd pe he)
  have e:tq R (a:Int) b c e=rl R a b c e:=rfl
  rw[e]at this;omega
 ·obtain⟨⟨p,hp,q,hq,e⟩,_⟩:=h
  obtain⟨p1,p2⟩:=Zf0 hp
  obtain⟨q1,q2⟩:=Zf0 hq
  have g:∀{x:Int},x∈A->∃k:Nat,x=k∧k<n∧mb A k=true:=fun{x} hx=>by
   have:=hA x hx
   obtain⟨k,rfl⟩:=Int.eq_ofNat_of_zero_le (show 0≤x by omega)
   exact⟨k,rfl,by omega,decide_eq_true hx⟩
  have g':∀{x:Int},x∈away n A->∃k:Nat,x=k∧k<n∧mb A k=false:=fun{x} hx=>by
   obtain⟨h0,h1,h2⟩:=Zc7.mp hx
   obtain⟨k,rfl⟩:=Int.eq_ofNat_of_zero_le h0
   exact⟨k,rfl,by omega,decide_eq_false h2⟩
  obtain⟨a,ea,ha,pa⟩:=g p1
  obtain⟨b,eb,hb,pb⟩:=g p2
  obtain⟨c,ec,hc,pc⟩:=g' q1
  obtain⟨f,ef,hf,pf⟩:=g' q2
  refine⟨a,b,c,f,ha,hb,hc,hf,pa,pb,pc,pf,?_⟩
  rw[Zw1,e]
  unfold rlI
  rw[ea,eb,ec,ef];rfl
theorem Ybh{n:Nat}{A B:List Int}(hA:Zpk n A)(hB:Zpk n B)(ne:A≠B):Un n A B:=by
 refine Classical.byContradiction λh=>ne (Zw5 hA.up hB.up λx=>?_)
 have h:∀k:Nat,k<n->mb A k=mb B k:=λk hk=>Classical.byContradiction λz=>h ⟨k,hk,z⟩
 have g:∀{C:List Int},Zpk n C->x∈C->∃k:Nat,x=k∧k<n:=fun{C} hC hx=>by
  have:=hC.pt x hx
  obtain⟨k,rfl⟩:=Int.eq_ofNat_of_zero_le (show 0≤x by omega)
  exact⟨k,rfl,by omega⟩
 constructor
 ·intro hx
  obtain⟨k,rfl,hk⟩:=g hA hx
  have:=h k hk
  unfold mb at this
  rw[decide_eq_true hx]at this
  exact of_decide_eq_true this.symm
 ·intro hx
  obtain⟨k,rfl,hk⟩:=g hB hx
  have:=h k hk
  unfold mb at this
  rw[decide_eq_true hx]at this
  exact of_decide_eq_true this
theorem Z0x{n:Nat}(n0:0<n){R:Nat->Nat->Int}(hR:Lt n R){Ls:List (List Int)}(mC:∀A∈Ls,Zpk n A)(uC:UpL Ls){W:List Int->Int}(hW:∀A∈Ls,Lst R A (away n A) (W A)):Mx n (rs W Ls λx y=>2*R x y)∧∀A∈Ls,Att n (rs W Ls λx y=>2*R x y) (mb A) 0:=by
 have M:Mx n λx y=>2*R x y:=⟨λi j=>by rw[hR.sym i j],λi=>by rw[hR.z i];rfl,λi j k _ hj _=>by
  have:=hR.tri i k j hj
  show 2*R i k≤2*R i j+2*R j k;omega⟩
 have nd:Ls.Pairwise λA B=>A≠B:=uC.imp λh e=>by rw[e,Zm0]at h;cases h
 have:=Z4r n0 (W:=W) Ls (λx y=>2*R x y) (λ_=>False) M (nd.imp_of_mem λhA hB h=>Ybh (mC _ hA) (mC _ hB) h) (λA hA=>by
  obtain⟨g,t⟩:=Z97 hR.sym (mC A hA).pt (hW A hA)
  refine⟨decide_eq_false λz=>?_,(by obtain⟨⟨p,_,q,_,e⟩,_⟩:=hW A hA;rw[e];exact Z1l R p q),g,t⟩
  have:=((mC A hA).pt _ z).1
  exact absurd this (by decide)) λ_ z=>z.elim
 exact⟨this.1,λA hA=>this.2 A (.inl hA)⟩
noncomputable def RwI(n:Nat)(T:Nat->Nat->Rat)(rows:List OT)(k:Nat):Prop:=rows.length=k∧∀i,i<k->∃rs,rows[i]? =some (.nd rs)∧OT.datas rs=(Xl n).map λj=>frD (T i j)
theorem RwI.data{n k:Nat}{T:Nat->Nat->Rat}{rows:List OT}(h:RwI n T rows k):rows.map OT.data=(Xl k).map λi=>QC ((Xl n).map λj=>frD (T i j)):=by
 refine List.ext_getElem? λi=>?_
 rw[Xk,Xk]
 by_cases c:i<k
 ·obtain⟨rs,e1,e2⟩:=h.2 i c
  rw[e1,Qz c,U9,U9,OT.data_nd,←datas_map,e2]
 ·rw[Q6 (by rw[h.1];omega),Q6 (by rw[Xw];omega)];rfl
theorem Zvx{n:Nat}(hn:n≤10){T Q:Nat->Nat->Rat}{L:List (List Int×Rat)}(eS:Told Ja [Yk n (frG T)] (Zn8 L))(eT:Told Y6 [.int n,Zn8 L] (Yk n (frG Q)))(mi:∀i j,i<n->j<n->Told J5 [frD (T i j),frD (Q i j)] (frD (T i j-Q i j))):∃rows,Y8 [Yk n (frG T)]= .ok (.nd rows)∧RwI n (λi j=>T i j-Q i j) rows n:=by
 refine Exists.elim (Zag (it:=Zer Z15) (g:=gTp 2 Z87) (S:=Zb3 2 Yea)
  (δ:=[some (.fz (Yk n (frG T))),some (.fz (Yk n (frG Q))),some (.nd []),none,none]) (ds:=(Xl n).map λi=>.tuple [.list ((Xl n).map λj=>frG T i j),.list ((Xl n).map λj=>frG Q i j)])
  (λk δ=>∃rows z3 z4,δ=[some (.fz (Yk n (frG T))),some (.fz (Yk n (frG Q))),some (.nd rows),z3,z4]∧RwI n (λi j=>T i j-Q i j) rows k) (Zhr (Za (i:=0) (d:=Yk n (frG T)) rfl) (Za (i:=1) (d:=Yk n (frG Q)) rfl) (Zjf _ _ _)) ⟨[],none,none,rfl,rfl,λi h=>nomatch h⟩ λk d δ hd q=>?turn) λδ' h=>?fin
 case turn=>
  obtain⟨rows,z3,z4,rfl,R⟩:=q
  have hk:k<n:=by have:=(Xg.mp hd).1;rwa[Xe,Xw]at this
  rw[Xk,Qz hk]at hd
  cases hd
  obtain⟨o,e4,e5⟩:=Zoq (δ:=[some (.fz (Yk n (frG T))),some (.fz (Yk n (frG Q))),some (.nd rows),some (.fz (.list ((Xl n).map λj=>frG T k j))),some (.fz (.list ((Xl n).map λj=>frG Q k j)))]) (it:=Zer Z2o) (g:=gTp 2 Z8u) (me:=Zw J5 Z15) (Xl n) (λj=>.tuple [frG T k j,frG Q k j]) (λj=>frD (T k j-Q k j)) (Zhr (Za (i:=3) rfl) (Za (i:=4) rfl) (Zjf _ _ _)) (by rw[Xw];omega) λj hj z0 z1=>⟨_,_,rfl,Zm (Zb (Za (i:=0) rfl) (Zb (Za (i:=1) rfl) Zd)) (mi k j hk (Qp.mp hj))⟩
  obtain⟨rs,rfl⟩:=Zt0 e4
  refine⟨_,_,rfl,.inl (Zyr e4 rfl (by rw[R.1];omega)),rows ++ [.nd rs],_,_,rfl,by rw[Qy,R.1];rfl,λi hi=>?_⟩
  by_cases c:i<k
  ·obtain⟨r,e1,e2⟩:=R.2 i c
   exact⟨r,by rw[Bq (by rw[R.1];exact c)];exact e1,e2⟩
  ·obtain rfl:i=k:=by omega
   rw[OT.data_nd,←datas_map]at e5
   exact⟨rs,by rw[JF (by rw[R.1];omega),R.1,Nat.sub_self];rfl,Uv e5⟩
 case fin=>
  obtain⟨e,rows,z3,z4,rfl,R⟩:=h
  rw[Xe,Xw]at R
  have gl:EvV Zqa (Zhc 5 [Yk n (frG T)]) (.int n):=(Zn1 (ds:=(Xl n).map λi=>.list ((Xl n).map λj=>frG T i j)) (Za (i:=0) rfl)).cast (by rw[Xe,Xw])
  refine⟨rows,Zzy (δ':=[some (.fz (Yk n (frG T))),some (.fz (Yk n (frG Q))),none,z3,z4]) rfl (Yt (Zq (Zm (Zb gl (Zb (Zm (Zb (Za (i:=0) rfl) Zd) eS) Zd)) eT)) (Yt Zlm (Yt e ?_))),R⟩
  rw[Zki];rfl
theorem Z6b(q:Rat):Sh 1 (frD q):=Zl8 [q.num,(q.den:Int)]
theorem Zyh(n:Nat)(T:Nat->Nat->Rat):Sh 3 (Yk n (frG T)):=Zd9 λd m=>by
 obtain⟨i,_,rfl⟩:=XF.mp m
 exact Zd9 λd m=>by
  obtain⟨j,_,rfl⟩:=XF.mp m
  exact Z6b _
theorem Zp1(n:Nat)(T:Nat->Nat->Rat):Yp (Yk n (frG T))=true:=Zbg λd m=>by
 obtain⟨i,_,rfl⟩:=XF.mp m
 exact Zbg λd m=>by
  obtain⟨j,_,rfl⟩:=XF.mp m
  unfold frG frD;rfl
theorem Z1h{n:Nat}(hn:n≤10)(T:Nat->Nat->Rat):Told Ws [Yk n (frG T),Yk n (frG T)] (.bool true):=by
 refine Z1 rfl<|Yl (Jl (Zvq (Zln (p:=true) (Zkh (Zrq (Za (i:=0) (d:=Yk n (frG T)) rfl) rfl))) (Zdk (Zj (Za (i:=0) rfl) (Za (i:=1) rfl) (Zjm (Zyh n T) (Zp1 n T) (by decide))))) rfl) ?_
 refine Zhy (ds:=(Xl n).map λi=>.list ((Xl n).map λj=>frG T i j)) (λ_ δ=>∃z,δ=[some (.fz (Yk n (frG T))),some (.fz (Yk n (frG T))),z]) (Yx (Za (i:=0) rfl)) ⟨none,rfl⟩ (λk d δ hd q=>?_) λδ' q=>?_
 ·obtain⟨z,rfl⟩:=q
  obtain⟨i,hi,rfl⟩:=XF.mp (X5 hd)
  have ec:EvV Ydz [some (.fz (Yk n (frG T))),some (.fz (Yk n (frG T))),some (.fz (.list ((Xl n).map λj=>frG T i j)))] (.list []):=by
   have:=Zeg (caps:=[]) (t:=tNo (tD (Zto "tuple" Jg))) (me:=Zu 0) (cs:=[]) (Xl n) (λj=>frG T i j) (λ_=>false) (Yx (Za (i:=2) (δ:=[some (.fz (Yk n (frG T))),some (.fz (Yk n (frG T))),some (.fz (.list ((Xl n).map λj=>frG T i j)))]) rfl)) (by rw[Xw];omega) rfl (λx _=>Zln (p:=true) (Zkh (Z3x (Za (d:=frG T i x) rfl) rfl))) λx _ z=>nomatch z
   rwa[show(Xl n).filter (λ_=>false)=[]from List.filter_eq_nil_iff.mpr λ_ _ z=>Bool.noConfusion z]at this
  exact⟨_,_,rfl,.inl (Jl (Zvq (Zln (p:=true) (Zkh (Zrq (Za (i:=2) (d:=.list ((Xl n).map λj=>frG T i j)) rfl) rfl))) (Zdk (Zj ec (Zaj Zd (show 0≤1000 by decide)) rfl))) rfl),_,rfl⟩
 ·obtain⟨z,rfl⟩:=q
  exact Wm Z0
noncomputable def nE(n:Nat)(D:Nat->Nat->Int)(z2 z3 z4 z5:Option OT):Ze:=[some (.fz (Y0 n D)),some (.fz (.int n)),z2,z3,z4,z5]
theorem Zkx{n:Nat}(n0:1≤n)(hn:n≤6){D:Nat->Nat->Int}(M:Mx n D){Ls:List (List Int)}(eS:Told Ye [.int n] (.list (Ls.map Zo)))(lC:Ls.length<64)(mC:∀A∈Ls,Zpk n A∧A.length≤100)(hA:∀A∈Ls,Att n D (mb A) 0):Told Y5 [Y0 n D] (.bool true):=by
 have nn:∀i k,i<n->k<n->0≤D i k:=λi k hi hk=>by
  have:=M.tr i k i hi hk hi
  rw[M.zd,M.sy k i]at this;omega
 refine Z1 rfl<|Yl (Zq (Zan (Zb (Za (i:=0) rfl) Zd) (Zel n D))) ?_
 refine Zhy (ds:=Zcg 0 n) (λ_ δ=>∃z2 z3 z4 z5,δ=nE n D z2 z3 z4 z5) (Zap (Zb (Za (i:=1) rfl) Zd) (by omega)) ⟨none,none,none,none,rfl⟩ (λi d δ hd q=>?_) λδ' q=>?_
 ·obtain⟨z2,z3,z4,z5,rfl⟩:=q
  obtain⟨hi,rfl⟩:=Z9 hd
  rw[Qw]
  obtain⟨δ2,e2,z3',z4',z5',rfl⟩:=Zag (it:=iRa Zla) (g:=gNm 3) (S:=Wl Zkr (gNm 4) (Zz Ybt (Zch Z9f Zym fNx)))
   (δ:=nE n D (some (.fz (.int i))) z3 z4 z5) (ds:=Zcg 0 n) (λ_ δ=>∃z3 z4 z5,δ=nE n D (some (.fz (.int i))) z3 z4 z5) (Zap (Zb (Za (i:=1) rfl) Zd) (by omega)) ⟨z3,z4,z5,rfl⟩ λj d δ hd q=>by
    obtain⟨z3,z4,z5,rfl⟩:=q
    obtain⟨hj,rfl⟩:=Z9 hd
    rw[Qw]
    obtain⟨δ3,e3,z4',z5',rfl⟩:=Zag (it:=iRa Zla) (g:=gNm 4) (S:=Zz Ybt (Zch Z9f Zym fNx))
     (δ:=nE n D (some (.fz (.int i))) (some (.fz (.int j))) z4 z5) (ds:=Zcg 0 n) (λ_ δ=>∃z4 z5,δ=nE n D (some (.fz (.int i))) (some (.fz (.int j))) z4 z5) (Zap (Zb (Za (i:=1) rfl) Zd) (by omega)) ⟨z4,z5,rfl⟩ λk d δ hd q=>by
      obtain⟨z4,z5,rfl⟩:=q
      obtain⟨hk,rfl⟩:=Z9 hd
      rw[Qw]
      have t:=M.tr i j k hi hj hk
      have p:=nn i k hi hk
      exact⟨_,_,rfl,.inl (Yt (Zq (W5 (Zad (i:=2) (j:=3) hi hj rfl rfl rfl) (Zad (i:=3) (j:=4) hj hk rfl rfl rfl))) (Jl (Zvq (Zdk (Zq5 (Zad (i:=2) (j:=4) hi hk rfl rfl rfl) (Za (i:=5) rfl) (decide_eq_false (by omega)))) (Zdk (Zsi (Zad (i:=2) (j:=4) hi hk rfl rfl rfl) Z0 (decide_eq_false (by omega))))) rfl)),some (.fz (.int k)),_,rfl⟩
    exact⟨_,_,rfl,.inl e3,some (.fz (.int j)),z4',z5',rfl⟩
  exact⟨_,_,rfl,.inl e2,some (.fz (.int i)),z3',z4',z5',rfl⟩
 ·obtain⟨z2,z3,z4,z5,rfl⟩:=q
  refine Wm (Zj (d:=.bool true) (x:=.list []) (y:=.list []) ?_ (Zaj Zd (by decide)) rfl)
  have:=Zeg (caps:=[0]) (t:=tV Ycy) (me:=Zu 0) (cs:=[some (.fz (Y0 n D))]) Ls Zo (λ_=>false) (δ:=nE n D z2 z3 z4 z5) (Yx (Zm (Zb (Za (i:=1) rfl) Zd) eS)) (by omega) rfl (λA mA=>?_) λx _ z=>nomatch z
  ·rwa[show Ls.filter (λ_=>false)=[]from List.filter_eq_nil_iff.mpr λ_ _ z=>Bool.noConfusion z]at this
  ·obtain⟨g,lA⟩:=mC A mA
   obtain⟨m,hm,_⟩:=Zi2 (S:=D) (A:=A) (n:=n) (by omega) lA g.pt g.ne
   obtain⟨eI,m0⟩:=Zf1 (n:=n) (by omega) g.pt M.sy hm
   obtain⟨a,b,c,e,ha,hb,hc,he,pa,pb,pc,pe,r⟩:=hA A mA
   have l:=hm.all M.sy (of_decide_eq_true pa) (of_decide_eq_true pb) (Zkd pc hc) (Zkd pe he)
   have e':tq D (a:Int) b c e=rl D a b c e:=rfl
   rw[e',r]at l
   exact Zdk (Zp4 (Zm (Zb (Za (i:=1) rfl) (Zb (Za (i:=0) rfl) Zd)) eI) Z0 (by rw[decide_eq_true (show m=0 by omega)];rfl))
theorem Zsd{n:Nat}{rows:List OT}{δ:Ze}{i m:Nat}(h:δ[i]? =some (some (.nd rows)))(l:rows.length=n)(hn:n≤1000)(hr:∀k,k<n->∃us,rows[k]? =some (.nd us)∧us.length=m):EvV (Zsf i) δ (Zo (Xx n (m:Int))):=by
 have key:∀t∈rows,∃us,t= .nd us∧us.length=m:=λt ht=>by
  obtain⟨k,hk,rfl⟩:=BJ ht
  obtain⟨us,e1,e2⟩:=hr k (l▸hk)
  rw[Xj hk]at e1
  exact⟨us,QB e1,e2⟩
 refine⟨.nd (((Xx n (m:Int)).map Xn).map OT.fz),?_,Zz2 _⟩
 unfold Zsf
 rw[h]
 refine(if_pos ⟨by rw[l,Qc];omega,?_⟩).trans ?_
 ·have:Zm4 rows=Xx n (m:Int):=by
   unfold Zm4
   refine(XH (g:=λ_=>(m:Int)) λt ht=>?_).trans (by rw[List.map_const',l])
   obtain⟨us,rfl,e⟩:=key t ht
   show(us.length:Int)=_
   rw[e]
  rw[this]
 ·rw[BP]
  intro t ht
  obtain⟨us,rfl,_⟩:=key t ht
  rfl
noncomputable def lw(ns:List Int)(z1 z2 z3 z4 z5 z6 z7 z8 z9 z10 z11:Option OT):Ze:=[some (.fz (Zo ns)),z1,z2,z3,z4,z5,z6,z7,z8,z9,z10,z11]
structure Ybq(n:Nat)(R:Nat->Nat->Int)(b:Int)(LF:Nat->Nat->Int)(G:Xa)(rows:List OT):Prop where
 eT:Told Yd [Y0 n R,.int b] (tbD (Zdd n R b))
 eL:Told Jj [Y0 n R] (Y0 n LF)
 eD:Told Yd [Y0 n LF,.int (2*b)] G
 eN:Told Y5 [Y0 n LF] (.bool true)
 eR:Y8 [tbD (Zdd n R b)]= .ok (.nd rows)
 dR:(OT.nd rows).data=G
 eG:Told Ws [G,G] (.bool true)
 len:rows.length=n
 row:∀k,k<n->∃us,rows[k]? =some (.nd us)∧us.length=n
theorem Z9g{n:Nat}(n0:1≤n)(n1:n≤6){R:Nat->Nat->Int}(hR:Lt n R)(bR:∀i j,Bt 161 (R i j)){b:Int}(b0:1≤b)(b1:b≤1000000000):∃LF G rows,Ybq n R b LF G rows:=by
 have bp:0<b:=by omega
 have bb:Bt 30 b:=Bt.of_lt (by omega) (by omega)
 have b3:Bt 300 b:=bb.mono (by decide)
 have b2:Bt 31 (2*b):=Bt.of_lt (by omega) (by omega)
 have bR3:∀i j,Bt 300 (R i j):=λi j=>(bR i j).mono (by decide)
 obtain⟨Ls,eS,mS,uS⟩:=Zvr n0 n1
 obtain⟨Cs,eC,mC,uC,lC⟩:=Zmh n0 n1
 obtain rfl:Ls=Cs:=Zzr uS uC λs=>(mS s).trans (mC s).symm
 obtain⟨W,hW⟩:=ixW n R
 have lA:∀A,Zpk n A->A.length≤100:=λA g=>by
  have:=(Zil _ A ((Zjd n n0 A).mpr g).1).1
  omega
 obtain⟨M,hM⟩:∃M:Int,M=((2^161:Nat):Int):=⟨_,rfl⟩
 have leM:∀i j,R i j≤M:=λi j=>hM▸Z98 (bR i j)
 have lst:∀A∈Ls,Lst R A (away n A) (W A):=λA hA=>by
  have g:=(mC A).mp hA
  obtain⟨m,hm,_⟩:=Zi2 (S:=R) (A:=A) (n:=n) (by omega) (lA A g) g.pt g.ne
  have e:=hW A m hm
  subst e
  exact hm
 have wb:∀A∈Ls,0≤W A∧W A≤2*M:=λA hA=>(lst A hA).wb hR.nn leM
 have inx:∀A∈Ls,Told Yr [Y0 n R,Zo A] (.int (W A)):=λA hA=>(Zf1 (n:=n) (by omega) ((mC A).mp hA).pt hR.sym (lst A hA)).1
 have mg:∀A∈Ls,Zpk n A:=λA hA=>(mC A).mp hA
 obtain⟨T,hT⟩:∃T:Nat->Nat->Rat,T= λi j=>Xv (R i j) b:=⟨_,rfl⟩
 obtain⟨Q,hQ⟩:∃Q:Nat->Nat->Rat,Q= λi j=>Xv (sW W Ls i j) (2*b):=⟨_,rfl⟩
 have eg:tbD (Zdd n R b)=Yk n (frG T):=by rw[hT];exact Zkb n R b
 have eSp:Told Ja [tbD (Zdd n R b)] (Zn8 (wtL Ls W b)) :=
  Z1 rfl<|Yl (Zy6 (Zm (Zb (Za (i:=0) rfl) Zd) (by rw[Zkb];exact Zjr (by omega) (Z9e hR bp b3 bR3)))) (Wm (Zm (Zb (Za (i:=0) rfl) (Zb Z0 Zd)) (Zno (n:=n) (by omega) bp b3 (λi j _ _=>bR3 i j) eC (λs hs=>(mC s).mp hs) (by omega) (W:=W) λA hA m hm=>by
   have:=hW A m hm
   subst this
   exact BW (wb A hA).1)))
 have bigS:∀x y,0≤sW W Ls x y∧Bt 170 (sW W Ls x y):=λx y=>by
  obtain⟨h1,h2⟩:=Z34 wb x y
  refine⟨h1,Zq7 (m:=168) h1 (Qx h2 ?_) (by decide)⟩
  have M0:0≤M:=by rw[hM];exact Int.natCast_nonneg _
  exact Qx (BX (show(Ls.length:Int)≤63 by omega) (by omega)) (by rw[hM];decide +kernel)
 have eTb:Told Y6 [.int n,Zn8 (wtL Ls W b)] (Yk n (frG Q)):=by
  refine .of (Znb (n:=n) (by omega) (wtL Ls W b) ?_ (B:=2*b) (by omega) (b2.mono (by decide)) λp hp=>?_) ?_
  ·unfold wtL
   rw[Xe]
   exact Bl (Vg ..) lC
  ·unfold wtL at hp
   obtain⟨A,hA,rfl⟩:=XF.mp hp
   obtain⟨w0,w1⟩:=wb A (Q7.mp hA).1
   refine⟨Zs2 (by omega),Zkw (by omega) (Zq7 (m:=163) w0 (Qx w1 (by rw[hM];decide +kernel)) (by decide))⟩
  ·rw[←Wj,Zgk λi j _ _=>?_,Wj]
   have e:∀x y,Sm (wtL Ls W b) x y=Q x y:=λx y=>by rw[hQ];exact Zxk (λA hA=>(wb A hA).1) x y
   have sy:∀x y,Q x y=Q y x:=λx y=>by rw[hQ];exact congrArg (Xv · (2*b)) (Z83 W Ls x y)
   unfold Znd Zih frG
   dsimp only
   rw[e,e]
   rcases UT i j with c|c|c
   ·rw[if_pos c]
   ·subst c
    rw[if_neg (QQ _),if_neg (QQ _)]
    rw[show Q i i=0 by rw[hQ];exact(congrArg (Xv · (2*b)) (Z2t W Ls i)).trans (Rat.zero_divInt _)];rfl
   ·rw[if_neg (by omega),if_pos c,sy]
 obtain⟨rows,eR,RW⟩:=Zvx (n:=n) (by omega) (eg▸eSp) eTb λi j _ _=>by
  refine Zup (m:=300) (n:=300) ?_ ?_ (by decide)
  ·rw[hT];exact Z2q (by omega) (bR3 i j) b3
  ·rw[hQ];exact Z2q (by omega) ((bigS i j).2.mono (by decide)) (b2.mono (by decide))
 have eF:Yk n (frG λi j=>T i j-Q i j)=tbD (Zdd n (rs W Ls λx y=>2*R x y) (2*b)):=by
  rw[Zkb,←Wj,←Wj,Zgk λi j _ _=>?_]
  unfold frG
  refine congrArg frD ?_
  rw[hT,hQ]
  dsimp only
  rw[Zxb]
  show _-Xv (sW W Ls i j) (2*b)=Xv (2*R i j-sW W Ls i j) (2*b)
  rw[show Xv (R i j) b=Xv (2*R i j) (2*b)from(Rat.divInt_mul_left (by decide)).symm,Zx5]
 have dR:(OT.nd rows).data=Yk n (frG λi j=>T i j-Q i j):=by rw[OT.data_nd,RW.data];rfl
 obtain⟨mx,at0⟩:=Z0x (by omega) hR mg uC lst
 refine⟨rs W Ls λx y=>2*R x y,_,rows,Zf3 (n:=n) (by omega) R bp b3,Zza (by omega) eS mg inx,Zf3 (n:=n) (by omega) _ (by omega) (b2.mono (by decide)),Zkx n0 n1 mx eS lC (λA hA=>⟨mg A hA,lA A (mg A hA)⟩) at0,by rw[eg];exact eR,dR.trans eF,by rw[←eF];exact Z1h (by omega) _,RW.1,λk hk=>?_⟩
 obtain⟨us,e1,e2⟩:=RW.2 k hk
 have:=congrArg List.length e2
 rw[Zc3,Xe,Xw]at this
 exact⟨us,e1,this⟩
theorem Zv5(ns:List Int)(hl:ns.length≤63):Zev [.list (ns.map Xn)]= .ok (.fz (.bool true)):=by
 show Zev [Zo ns]=_
 have key:EpS Zew (lw ns none none none none none none none none none none none) (λ_=>False) λd _=>d= .bool true:=by
  refine Z8 (Zz6 (ds:=(1000000000000000000 :: Zvp ns none (some 4)).map Xn) (λδ=>∃z1 z2 z3 z4 z5 z6 z7 z8 z9 z10 z11,δ=lw ns z1 z2 z3 z4 z5 z6 z7 z8 z9 z10 z11)
   (Yx (Ziy (ds:=[.int 1000000000000000000]) (es:=(Zvp ns none (some 4)).map Xn) (Zaj (Zb (Zj Z0 Z0 Z8b) Zd) (show 1≤1000 by decide)) (Z3u (r:=ns) (Za (i:=0) rfl) Yb5 (Yc0 Z0) rfl) ?_)) ⟨_,_,_,_,_,_,_,_,_,_,_,rfl⟩ (λd hd δ q=>?_) λδ' q=>?_)
  ·have:(Zvp ns none (some 4)).length≤ns.length:=by
    unfold Zvp
    rw[VP,JR];omega
   rw[Xe]
   show 1+_≤_
   omega
  ·obtain⟨z1,z2,z3,z4,z5,z6,z7,z8,z9,z10,z11,rfl⟩:=q
   obtain⟨c,_,rfl⟩:=XF.mp hd
   clear hd
   obtain⟨x0,eD⟩:=Zxy c
   refine⟨_,rfl,Z8 (Zgd (Zq6 (Zb (Za (i:=1) rfl) Zd) eD) (Z8 (Zd7 (Zfi (Wg Z0 (Za5 (i:=2) rfl (Zb Z0 Zd) (by decide) (btc (by decide +kernel) (by decide +kernel)) λr x1 r0 r1=>⟨_,Zwk _ _,?_⟩))))))⟩
   obtain⟨n',hx⟩:∃n:Nat,1+r=(n:Int):=⟨(1+r).toNat,by omega⟩
   show EpS _ (lw ns (some (.fz (.int c))) (some (dk x1)) (some (.fz (.int (1+r)))) z4 z5 z6 z7 z8 z9 z10 z11) _ _
   rw[hx]
   refine Z8 (EpS.mono (N:=λδ=>∃(x:Int) (n:Nat),1≤n∧n≤6∧δ=lw ns (some (.fz (.int c))) (some (dk x)) (some (.fz (.int n))) z4 z5 z6 z7 z8 z9 z10 z11) (R:=λ_ _=>False) ?_ (λδ q=>?_) λ_ _ z=>z.elim)
   ·refine Zlj (Z4k (Zfi (Za5 (i:=2) (x:=x1) rfl (Zb Z0 Zd) (by decide) (btc (by decide +kernel) (by decide +kernel)) λr' x2 _ _=>Wg Z0 ⟨_,Zzj _ _,_,rfl,λ_=>?_,λ_=>?_⟩)))
    ·exact Zd7 (Wg Z0 ⟨x2,6,by decide,by decide,rfl⟩)
    ·exact Zii ⟨x2,n',by omega,by omega,rfl⟩
   obtain⟨x2,n,n0,n1,rfl⟩:=q
   refine Z8 (Zd7 (Zbr (i:=2) rfl (Zom (Zb (Za (i:=3) rfl) Zd) ⟨dk x2,rfl,(Zzp (n:=n) n1 x2).mono λd t z=>?_⟩)))
   obtain⟨R,x3,rfl,hR,bR,rfl⟩:=z
   refine Z8 (Zd7 (Zbr (i:=2) rfl (Zdv ⟨dk x3,rfl,(Zrf x3).mono λd t z=>?_⟩)))
   obtain⟨b,x4,rfl,b0,b1,rfl⟩:=z
   obtain⟨LF,G,rows,F⟩:=Z9g n0 n1 hR bR b0 b1
   have gT:gNe (tbD (Zdd n R b)) (tbD (Zdd n R b))=some (.bool false):=Zjm (Z2m _) (Zn5 _) (by decide)
   refine Z8 (Zbo (Zq (Zm (Zb (Za (i:=4) rfl) (Zb (Za (i:=5) rfl) Zd)) F.eT)) ?_)
   refine Z8 (Zbo (Zq (Zm (Zb (Za (i:=4) rfl) Zd) F.eL)) ?_)
   refine Z8 (Zbo (Zq (Zm (Zb (Za (i:=7) rfl) (Zb (Zms Z0 (Za (i:=5) rfl) (by decide)) Zd)) F.eD)) ?_)
   refine Z8 (Zbo (Zq (Zm (Zb (Za (i:=4) rfl) (Zb (Za (i:=5) rfl) Zd)) F.eT)) ?_)
   refine Z8 (Zgd (i:=10) (o:=.nd rows) (Zq6 (Zb (Za (i:=9) rfl) Zd) F.eR) ?_)
   refine Z8 (Zbo (Jl (Zvq (Zln (p:=true) (Zkh (Zm (Zb (Ziu (i:=10) rfl F.dR) (Zb (Za (i:=8) rfl) Zd)) F.eG))) (Zvq (Zdk (Zj (Za (i:=9) rfl) (Za (i:=6) rfl) gT)) (Zln (p:=true) (Zkh (Zm (Zb (Za (i:=7) rfl) Zd) F.eN))))) rfl) ?_)
   obtain⟨δ2,e2,rows2,z11',rfl,l2,h2⟩:=Zag (it:=iRa Z2a) (g:=gNm 11) (S:=Zit 10 (Zu 11) Ybv)
    (δ:=lw ns (some (.fz (.int c))) (some (dk x4)) (some (.fz (.int n))) (some (.fz (Y0 n R))) (some (.fz (.int b))) (some (.fz (tbD (Zdd n R b)))) (some (.fz (Y0 n LF))) (some (.fz G)) (some (.fz (tbD (Zdd n R b)))) (some (.nd rows)) z11) (ds:=Zcg 0 n)
    (λk δ=>∃rows2 z11,δ=lw ns (some (.fz (.int c))) (some (dk x4)) (some (.fz (.int n))) (some (.fz (Y0 n R))) (some (.fz (.int b))) (some (.fz (tbD (Zdd n R b)))) (some (.fz (Y0 n LF))) (some (.fz G)) (some (.fz (tbD (Zdd n R b)))) (some (.nd rows2)) z11∧rows2.length=n∧∀i,i<n->∃us,rows2[i]? =some (.nd us)∧us.length=n+if i<k then 1 else 0)
    (Zap (Zb (Za (i:=3) rfl) Zd) (by omega)) ⟨rows,z11,rfl,F.len,λi hi=>by
     obtain⟨us,e1,e2⟩:=F.row i hi
     exact⟨us,e1,by rw[if_neg (Qe i)];exact e2⟩⟩ λk d δ hd q=>by
     obtain⟨rs2,z11,rfl,l2,h2⟩:=q
     obtain⟨hk,rfl⟩:=Z9 hd
     rw[Qw]
     obtain⟨us,e1,e2⟩:=h2 k hk
     refine⟨_,_,rfl,.inl (Zua (k:=k) rfl (Za (i:=11) rfl) e1 (Zfw (Zb (Za (i:=11) rfl) (Zb Z0 Zd)) (show 2≤1000 by decide)) (by split at e2<;>omega)),rs2.set k (.nd (us ++ [.fz (.tuple [.int (k:Int),.int 1])])),some (.fz (.int k)),rfl,by rw[Br];exact l2,λi hi=>?_⟩
     by_cases c:i=k
     ·subst c
      refine⟨_,Qo (by omega),?_⟩
      rw[if_neg (QQ i)]at e2
      rw[Qy,if_pos (JV i),e2];rfl
     ·obtain⟨vs,e3,e4⟩:=h2 i hi
      refine⟨vs,by rw[Qh (Bb c)];exact e3,?_⟩
      rw[e4]
      by_cases d:i<k
      ·rw[if_pos d,if_pos (by omega)]
      ·rw[if_neg d,if_neg (by omega)]
   rw[Z6]at h2
   refine Z8 (Zbo e2 ?_)
   have eLn:=Zsd (δ:=lw ns (some (.fz (.int c))) (some (dk x4)) (some (.fz (.int n))) (some (.fz (Y0 n R))) (some (.fz (.int b))) (some (.fz (tbD (Zdd n R b)))) (some (.fz (Y0 n LF))) (some (.fz G)) (some (.fz (tbD (Zdd n R b)))) (some (.nd rows2)) z11') (i:=10) (m:=n+1) rfl l2 (by omega) λk hk=>by
    obtain⟨us,e1,e2⟩:=h2 k hk
    exact⟨us,e1,by rw[if_pos hk]at e2;exact e2⟩
   refine Zbo (Jl (Zvq (Zdk (Zj eLn (Z6n (n:=n) (W5 (Za (i:=3) rfl) Z0) (Za (i:=3) rfl) (by omega)) ?_)) (Zln (p:=true) (Zkh (Zm (Zb (Zm (Zb (Za (i:=9) rfl) Zd) (.of F.eR F.dR)) (Zb (Za (i:=8) rfl) Zd)) F.eG)))) rfl) ⟨_,_,_,_,_,_,_,_,_,_,_,rfl⟩
   have:QC (Xx n (.int ((n:Int)+1)))=Zo (Xx n ((n+1:Nat):Int)):=by
    unfold Zo
    rw[List.map_replicate];rfl
   rw[this]
   exact Zjm (Zsb _) (Zpb _) (by decide)
  ·obtain⟨z1,z2,z3,z4,z5,z6,z7,z8,z9,z10,z11,rfl⟩:=q
   exact Zmj (Wg Z0 rfl)
 rcases key with⟨_,_,z⟩|⟨o,δ',e,h⟩
 ·exact z.elim
 ·exact Told.ok (Z1 rfl ⟨o,δ',e,h⟩)
end My
namespace L2
open PySem PySem.Spec PyProof.Rows
structure Ei(K:Xb)(x:Str)(st:Stmt)(f:Addr)(fd:XD):Prop where
 a:QG K XX x=some (some (.ref f))
 F:Fun K x x st f fd
structure En(K:Xb)(mg:Str->Option Xc)(x:Str)(st:Stmt)(ps:List Str)(f:Addr)(fd:XD):Prop where
 F:Fun K x x st f fd
 b:Binds K fd ps []
 m:mg x=some (.ref f)
structure Ec(K:Xb)(mg:Str->Option Xc)(x:Str)(f:Addr):Prop where
 m:mg x=some (.ref f)
 a:ClsAt K x f
section
variable {K:Xb}{h:Heap}{mg:Str->Option Xc}{x:Str}{st:Stmt}{f:Addr}{fd:XD}
theorem en0(X:K.In h)(G:h.Ns XX mg)(q:Ei K x st f fd){ps:List Str}(hb:∀(kV doc pm:Xc) (an:Option Addr) (cdv ct:Xc) (us:List Xc),us.length=ps.length->bindArgs (Vk x x (Ze9 st) (Zar st) (Zi st) .none kV doc pm an cdv ct) ⟨us,[]⟩=pure (ps.zip us)):En K mg x st ps f fd:=⟨q.F,q.F.binds hb,PySem.W.mg_of X G q.a⟩
noncomputable abbrev Bd(x:Str)(st:Stmt)(ps:List Str)(us:List Xc):Prop:=∀(kV doc pm:Xc) (an:Option Addr) (cdv ct:Xc),bindArgs (Vk x x (Ze9 st) (Zar st) (Zi st) .none kV doc pm an cdv ct) ⟨us,[]⟩=pure (ps.zip us)
theorem l_c{us:List Xc}{n:Nat}(h:us.length=n+1):∃u vs,us=u :: vs∧vs.length=n:=by
 cases us with
 | nil=>cases h
 | cons u vs=>exact⟨u,vs,rfl,Nat.succ.inj h⟩
theorem en1(X:K.In h)(G:h.Ns XX mg)(q:Ei K x st f fd){p0:Str}(hb:∀v0,Bd x st [p0] [v0]:=by exact λ_ _ _ _ _ _ _=>rfl):En K mg x st [p0] f fd:=en0 X G q λa b c d e g us hl=>by
 have h0:us.length=1:=hl
 obtain⟨u0,us0,e0,h1⟩:=l_c h0
 cases JX h1
 subst e0
 exact hb u0 a b c d e g
theorem en2(X:K.In h)(G:h.Ns XX mg)(q:Ei K x st f fd){p0 p1:Str}(hb:∀v0 v1,Bd x st [p0,p1] [v0,v1]:=by exact λ_ _ _ _ _ _ _ _=>rfl):En K mg x st [p0,p1] f fd:=en0 X G q λa b c d e g us hl=>by
 have h0:us.length=2:=hl
 obtain⟨u0,us0,e0,h1⟩:=l_c h0
 obtain⟨u1,us1,e1,h2⟩:=l_c h1
 cases JX h2
 subst e1
 subst e0
 exact hb u0 u1 a b c d e g
theorem en3(X:K.In h)(G:h.Ns XX mg)(q:Ei K x st f fd){p0 p1 p2:Str}(hb:∀v0 v1 v2,Bd x st [p0,p1,p2] [v0,v1,v2]:=by exact λ_ _ _ _ _ _ _ _ _=>rfl):En K mg x st [p0,p1,p2] f fd:=en0 X G q λa b c d e g us hl=>by
 have h0:us.length=3:=hl
 obtain⟨u0,us0,e0,h1⟩:=l_c h0
 obtain⟨u1,us1,e1,h2⟩:=l_c h1
 obtain⟨u2,us2,e2,h3⟩:=l_c h2
 cases JX h3
 subst e2
 subst e1
 subst e0
 exact hb u0 u1 u2 a b c d e g
theorem en4(X:K.In h)(G:h.Ns XX mg)(q:Ei K x st f fd){p0 p1 p2 p3:Str}(hb:∀v0 v1 v2 v3,Bd x st [p0,p1,p2,p3] [v0,v1,v2,v3]:=by exact λ_ _ _ _ _ _ _ _ _ _=>rfl):En K mg x st [p0,p1,p2,p3] f fd:=en0 X G q λa b c d e g us hl=>by
 have h0:us.length=4:=hl
 obtain⟨u0,us0,e0,h1⟩:=l_c h0
 obtain⟨u1,us1,e1,h2⟩:=l_c h1
 obtain⟨u2,us2,e2,h3⟩:=l_c h2
 obtain⟨u3,us3,e3,h4⟩:=l_c h3
 cases JX h4
 subst e3
 subst e2
 subst e1
 subst e0
 exact hb u0 u1 u2 u3 a b c d e g
theorem en5(X:K.In h)(G:h.Ns XX mg)(q:Ei K x st f fd){p0 p1 p2 p3 p4:Str}(hb:∀v0 v1 v2 v3 v4,Bd x st [p0,p1,p2,p3,p4] [v0,v1,v2,v3,v4]:=by exact λ_ _ _ _ _ _ _ _ _ _ _=>rfl):En K mg x st [p0,p1,p2,p3,p4] f fd:=en0 X G q λa b c d e g us hl=>by
 have h0:us.length=5:=hl
 obtain⟨u0,us0,e0,h1⟩:=l_c h0
 obtain⟨u1,us1,e1,h2⟩:=l_c h1
 obtain⟨u2,us2,e2,h3⟩:=l_c h2
 obtain⟨u3,us3,e3,h4⟩:=l_c h3
 obtain⟨u4,us4,e4,h5⟩:=l_c h4
 cases JX h5
 subst e4
 subst e3
 subst e2
 subst e1
 subst e0
 exact hb u0 u1 u2 u3 u4 a b c d e g
theorem ec(X:K.In h)(G:h.Ns XX mg)(a:QG K XX x=some (some (.ref f))):Ec K mg x f:=⟨PySem.W.mg_of X G a,a⟩
end
theorem fsc{N P:List Str}{sc:V8}(h1:sc.kind= .function:=by rfl)(h2:sc.isCoroutine=false:=by rfl)(h3:sc.isGenerator=false:=by rfl)(h4:N.Nodup:=by decide +kernel)(h5:N.take P.length=P:=by rfl)(h6:∀x∈P,sc.names.lookup x=some .local∨sc.names.lookup x=some .cell:=by decide +kernel)(h7:∀y∈sc.names,y.2≠ .free:=by decide +kernel):Zk N P sc:=⟨h1,h2,h3,h4,h5,h6,h7⟩
section
variable {X:Cx}{io:List Nat}{st:Stmt}{sts ss ss':List Stmt}{f g:FS}{e:Expr}{es:List Expr}{p c:Bool}{ta:FT}{pos:Pos}{ra:FA}
noncomputable abbrev BS(X:Cx)(io:List Nat)(st:Stmt)(f:FS):Prop:=MS X io st (oS f)∧XS X io st (xS X.K f)
noncomputable abbrev BSs(X:Cx)(io:List Nat)(sts:List Stmt)(f:FS):Prop:=MSs X io sts (oS f)∧XSs X io sts (xS X.K f)
end
section
variable {X:Cx}{io:List Nat}{e:Expr}{es:List Expr}{p c:Bool}{ra:FA}{pos pp:Pos}{k k':Nat}{f:Addr}{fd:XD}{ps:List Str}{x:Str}{F:FD}{st:Stmt}
theorem xce(G:FnOk X.prog X.w X.K X.mg X.base CX0 k f fd ps (spD X.K (sD F)))(hr:Room k' X.A)(E:En X.K X.mg x st ps f fd)(ha:MA X io p c (e :: es) (o2 ra))(hle:k≤k':=by decide)(hg:Gl X x:=by rfl)(h1:(x==("__debug__" : Str))=false:=by decide)(h2:Xp (e :: es) X.env=(false,eval e X.env) :: Xp es X.env:=by rfl)(h3:((JG pos (Xp es X.env)).any λx=>x.fst)=false:=by rfl):ME X io p c (.Call (.Name x pp) (e :: es) [] pos) (o2 (Zw F ra)):=xcl G (hr.mono hle) E.m E.F.kp E.b ha hg h1 h2 h3
end
section
variable {X:Cx}{io:List Nat}{p ci pt pe:Bool}{tg iter elt:Expr}{ifs:List Expr}{sc:V8}{pos:Pos}{mi:MIt}{g:MGt}{mt:MTt}{me:MEt}
theorem Zck(own:List Str)(caps:List Nat)(N':List Str)(hi:MI X io p ci tg iter mi)
  (hg:∀C cells s₂ H₂ fp,MG (Wh X N' sc C cells s₂ H₂ fp) (Zbn own.length caps) ci tg g) (ht:∀C cells s₂ H₂ fp,MIfs (Wh X N' sc C cells s₂ H₂ fp) (Zbn own.length caps) pt ifs mt) (he:∀C cells s₂ H₂ fp,ME (Wh X N' sc C cells s₂ H₂ fp) (Zbn own.length caps) pe true elt me)
  (S:CompScope X own caps N' sc:=by exact⟨rfl,by decide +kernel,rfl,by decide +kernel,rfl,rfl⟩) (hc:X.calm=true:=by rfl) (nd:caps.Nodup:=by decide) (hp:(pt&&pe)=true:=by rfl) (hs:∀x,Bf iter X.env x=pure x:=by intro _;rfl):ME X io p true (.ListComp elt [⟨tg,iter,ifs,0⟩] sc pos) (Zg9 own.length caps mi g mt me):=Z45 S hc nd hi hg ht he hp hs
end
end L2
namespace My
open PySem L2 PySem.Spec
noncomputable def top(i:Nat):Stmt:=PySem.Challenge.pw_farcuts_k48_rests.main.body.getD i (.Pass ⟨0,0,0,0⟩)
noncomputable abbrev Zfj:Stmt:=top 41
noncomputable abbrev Zc4:Stmt:=top 48
noncomputable abbrev Zfn:Stmt:=top 39
noncomputable abbrev Ze8:Stmt:=top 40
noncomputable abbrev Ze5:Stmt:=top 53
noncomputable abbrev Zd2:Stmt:=top 49
noncomputable abbrev Zd8:Stmt:=top 50
noncomputable abbrev Ze1:Stmt:=top 51
noncomputable abbrev Zbw:Stmt:=top 45
noncomputable abbrev Zcq:Stmt:=top 44
noncomputable abbrev Za8:Stmt:=top 46
noncomputable abbrev Zex:Stmt:=top 47
noncomputable abbrev Zas:Stmt:=top 52
noncomputable abbrev Za6:Stmt:=top 42
noncomputable abbrev Zdq:Stmt:=top 43
noncomputable abbrev Jp:Stmt:=top 6
noncomputable abbrev Zft:Stmt:=top 7
noncomputable abbrev Zm7:Stmt:=top 10
noncomputable abbrev Zez:Stmt:=top 11
noncomputable abbrev Zqy:Stmt:=top 9
noncomputable abbrev Zbz:Stmt:=top 31
noncomputable abbrev Zb1:Stmt:=top 32
noncomputable abbrev Zcp:Stmt:=top 34
noncomputable abbrev Zc5:Stmt:=top 35
noncomputable abbrev Zfo:Stmt:=top 21
noncomputable abbrev Zfg:Stmt:=top 5
noncomputable abbrev Ze7:Stmt:=top 8
noncomputable abbrev Zcl:Stmt:=top 27
noncomputable abbrev Zcj:Stmt:=top 26
noncomputable abbrev Jy:Stmt:=top 28
noncomputable abbrev Zam:Stmt:=top 16
noncomputable abbrev Za7:Stmt:=top 18
noncomputable abbrev Zdz:Stmt:=top 17
noncomputable abbrev Zcr:Stmt:=top 19
noncomputable abbrev Zbq:Stmt:=top 29
noncomputable abbrev Zdp:Stmt:=top 36
noncomputable abbrev Zfs:Stmt:=top 22
noncomputable abbrev Zdx:Stmt:=top 23
noncomputable abbrev Zfb:Stmt:=top 13
noncomputable abbrev J7:Stmt:=top 14
noncomputable abbrev Zfq:Stmt:=top 24
noncomputable abbrev Zcx:Stmt:=top 37
noncomputable abbrev Zz7:Stmt:=top 54
set_option genInjectivity false in
set_option genSizeOfSpec false in
structure Txt(K:Xb)(mg:Str->Option Xc)(f:Nat->Addr)(fd:Nat->XD)(cls:Nat->Addr):Prop where
 e_law_take:En K mg "_law_take" Zfj ["deck","many"] (f 0) (fd 0)
 e_law_bottom:En K mg "_law_bottom" Zc4 ["deck"] (f 1) (fd 1)
 e_law_stir:En K mg "_law_stir" Zfn ["cell","k"] (f 2) (fd 2)
 e_law_deck:En K mg "_law_deck" Ze8 ["cell"] (f 3) (fd 3)
 e_law_good:En K mg "_law_good" Ze5 ["found","due"] (f 4) (fd 4)
 e_law_index:En K mg "_law_index" Zd2 ["rows","side"] (f 5) (fd 5)
 e_law_sides:En K mg "_law_sides" Zd8 ["n"] (f 6) (fd 6)
 e_law_left:En K mg "_law_left" Ze1 ["rows"] (f 7) (fd 7)
 e_law_add_cut:En K mg "_law_add_cut" Zbw ["rows","bits","weight"] (f 8) (fd 8)
 e_law_nought:En K mg "_law_nought" Zcq ["n"] (f 9) (fd 9)
 e_law_shortest:En K mg "_law_shortest" Za8 ["rows"] (f 10) (fd 10)
 e_law_long:En K mg "_law_long" Zex ["deck","n"] (f 11) (fd 11)
 e_law_none_left:En K mg "_law_none_left" Zas ["left"] (f 12) (fd 12)
 e_law_fraction:En K mg "_law_fraction" Za6 ["top","bottom"] (f 13) (fd 13)
 e_law_table:En K mg "_law_table" Zdq ["rows","bottom"] (f 14) (fd 14)
 e_greatest_divisor:En K mg "greatest_divisor" Jp ["a","b"] (f 15) (fd 15)
 e_in_least:En K mg "in_least" Zft ["top","bottom"] (f 16) (fd 16)
 e_minus:En K mg "minus" Zm7 ["q","r"] (f 17) (fd 17)
 e_is_below:En K mg "is_below" Zez ["q","r"] (f 18) (fd 18)
 e_plus:En K mg "plus" Zqy ["q","r"] (f 19) (fd 19)
 e_is_short_by:En K mg "is_short_by" Zbz ["table","i","j","k"] (f 20) (fd 20)
 e_first_short:En K mg "first_short" Zb1 ["table"] (f 21) (fd 21)
 e_check_long:En K mg "check_long" Zcp ["table"] (f 22) (fd 22)
 e_split_rule:En K mg "split_rule" Zc5 ["sums"] (f 23) (fd 23)
 e_all_cuts:En K mg "all_cuts" Zfo ["n"] (f 24) (fd 24)
 e_is_whole:En K mg "is_whole" Zfg ["thing"] (f 25) (fd 25)
 e_fraction:En K mg "fraction" Ze7 ["top","bottom"] (f 26) (fd 26)
 e_doubles_of:En K mg "doubles_of" Zcl ["points"] (f 27) (fd 27)
 e_three_sums:En K mg "three_sums" Zcj ["rows","i","j","k","l"] (f 28) (fd 28)
 e_least_over_sides:En K mg "least_over_sides" Jy ["rows","cut","rule"] (f 29) (fd 29)
 e_shared_bottom:En K mg "shared_bottom" Zam ["numbers"] (f 30) (fd 30)
 e_table_bottom:En K mg "table_bottom" Za7 ["table"] (f 31) (fd 31)
 e_tops_over:En K mg "tops_over" Zdz ["bottom","numbers"] (f 32) (fd 32)
 e_table_over:En K mg "table_over" Zcr ["bottom","table"] (f 33) (fd 33)
 e_weighted_by:En K mg "weighted_by" Zbq ["table","rule"] (f 34) (fd 34)
 e_splits_of:En K mg "splits_of" Zdp ["table"] (f 35) (fd 35)
 e_sides_of:En K mg "sides_of" Zfs ["n","cut"] (f 36) (fd 36)
 e_all_sides:En K mg "all_sides" Zdx ["n","cuts"] (f 37) (fd 37)
 e_pairs_of:En K mg "pairs_of" Zfb ["n"] (f 38) (fd 38)
 e_table_of_pairs:En K mg "table_of_pairs" J7 ["n","distances"] (f 39) (fd 39)
 e_table_of:En K mg "table_of" Zfq ["n","cuts"] (f 40) (fd 40)
 e_rest_table:En K mg "rest_table" Zcx ["table"] (f 41) (fd 41)
 e_law:En K mg "law" Zz7 ["script"] (f 42) (fd 42)
 fa_split_rule:ClsAt K "split_rule" (f 23)
 z_abs:mg "abs"=none
 z_bool:mg "bool"=none
 z_enumerate:mg "enumerate"=none
 z_int:mg "int"=none
 z_isinstance:mg "isinstance"=none
 z_len:mg "len"=none
 z_list:mg "list"=none
 z_max:mg "max"=none
 z_min:mg "min"=none
 z_range:mg "range"=none
 z_sorted:mg "sorted"=none
 z_sum:mg "sum"=none
 z_tuple:mg "tuple"=none
 z_zip:mg "zip"=none
 c_NoNumber:Ec K mg "NoNumber" (cls 0)
 c_NoTable:Ec K mg "NoTable" (cls 1)
 x_NoNumber:Zey K (cls 0)
 x_NoTable:Zey K (cls 1)
 r_NoNumber:Zt3 K (cls 0)
 r_NoTable:Zt3 K (cls 1)
section
variable {P:X4}{w:Qs}{K:Xb}{mg:Str->Option Xc}{base:Heap}
theorem Zgv:Zk ["deck","many","taken"] ["deck","many"] (Zi Zfj):=fsc
theorem Zdy{f:Nat->Addr}{fd:Nat->XD}{cls:Nat->Addr}(T:Txt K mg f fd cls):FnOk P w K mg base CX0 1 (f 0) (fd 0) ["deck","many"] (spI K (sI Zn)):=by
 refine Zl3 T.e_law_take.F Zgv (S:=Zcs) rfl rfl (λcdv A outer s H E hr=>?_)
 exact(xsq (xst 2 Zgv.nd (Z49 (xix (xo 0) xci) (xv 1))) (xsq (Zw9 (Zv8 0 (Zwi (xix (xo 0) xci) (xv 1)) xci)) (Zc (xrt (xv 2)))))
theorem Zi1:Zk ["deck"] ["deck"] (Zi Zc4):=fsc
theorem Zke{f:Nat->Addr}{fd:Nat->XD}{cls:Nat->Addr}(T:Txt K mg f fd cls):FnOk P w K mg base CX0 2 (f 1) (fd 1) ["deck"] (spI K (sI J1)):=by
 have G_law_take:=Zdy (P:=P) (w:=w) (base:=base) T
 refine Zl3 T.e_law_bottom.F Zi1 (S:=Zbl) rfl rfl (λcdv A outer s H E hr=>?_)
 exact(Zc (xrt (Zf8 xci (Y4 (W2 (i:=0) G_law_take (hr.mono (by decide)) (by rfl) T.e_law_take.m T.e_law_take.F.kp T.e_law_take.b Zby (xa1 (xix (xls (Zg xci (Zg xci (xa1 (Zrw xci xci))))) (Y4 (W2 (i:=0) G_law_take (hr.mono (by decide)) (by rfl) T.e_law_take.m T.e_law_take.F.kp T.e_law_take.b Zby (xa1 xci))))))))))
theorem Zd0:Zk ["cell","k","number"] ["cell","k"] (Zi Zfn):=fsc
theorem Zml{f:Nat->Addr}{fd:Nat->XD}{cls:Nat->Addr}(T:Txt K mg f fd cls):FnOk P w K mg base CX0 1 (f 2) (fd 2) ["cell","k"] (spD K (sD Yb)):=by
 refine Z5 T.e_law_stir.F Zd0 (S:=Zcv) rfl rfl (λcdv A outer s H E hr=>?_)
 exact(xsq (xst 2 Zd0.nd (Zf8 (Zf8 (Zig (Z49 (xv 0) (Zrw xci xci)) xci) (Zig (Zig (Zrw xci xci) (Zf8 (xv 1) xci)) (Zf8 (xv 1) xci))) (xv 1))) (xsq (xst 2 Zd0.nd (Zf8 (Zig (xv 2) (xv 2)) (Zig xci (xv 2)))) (Zc (xrt (Zwi (Z49 (Zig (xv 2) (xv 2)) (Zf8 (Zrw xci xci) xci)) xci)))))
theorem Zmk:Zk ["cell"] ["cell"] (Zi Ze8):=fsc
theorem Znn{f:Nat->Addr}{fd:Nat->XD}{cls:Nat->Addr}(T:Txt K mg f fd cls):FnOk P w K mg base CX0 2 (f 3) (fd 3) ["cell"] (spD K (sD Jz)):=by
 have G_law_stir:=Zml (P:=P) (w:=w) (base:=base) T
 refine Z5 T.e_law_deck.F Zmk (S:=Jt) rfl rfl (λcdv A outer s H E hr=>?_)
 exact(xsq (xif (xge (xv 0) (Zrw xci xci)) (Zc (xrt (xls (xa1 (Z2d (xv 0) (Zrw xci xci)))))) xnl) (Zc (xrt (xls (xa1 (Zf8 (Zig (Zf8 (Zig (xce G_law_stir hr T.e_law_stir (Zg (xv 0) (xa1 xci))) (Zrw xci xci)) (xce G_law_stir hr T.e_law_stir (Zg (xv 0) (xa1 xci)))) (Zrw xci xci)) (xce G_law_stir hr T.e_law_stir (Zg (xv 0) (xa1 xci)))))))))
theorem Zhz:Zk ["found","due","row"] ["found","due"] (Zi Ze5):=fsc
theorem Zmw{f:Nat->Addr}{fd:Nat->XD}{cls:Nat->Addr}(T:Txt K mg f fd cls):FnOk P w K mg base CX0 1 (f 4) (fd 4) ["found","due"] (spD K (sD Ws)):=by
 refine Z5 T.e_law_good.F Zhz (S:=Zc2) rfl rfl (λcdv A outer s H E hr=>?_)
 have hu:=hr.units
 exact(xsq (xif (MW.mt (Zi3 (Zj3 (xno (Zeu (Zeb (Zl1 (Zq9 (by decide) (by rfl) T.z_isinstance L2.B.boot_isinstance (by rfl) T.z_list L2.B.boot_list (xv 0))) (λ_=>rfl)))) (Zg3 (xne hu (xv 0) (xv 1)))))) (Zc (xrt (Zpi Zmf))) xnl) (xsq (xfr Xq rfl (xil (xv 0)) (xg 2 Zhz.nd) (Zc (xif (MW.mt (Zi3 (Zj3 (xno (Zeu (Zeb (Zl1 (Zq9 (by decide) (by rfl) T.z_isinstance L2.B.boot_isinstance (by rfl) T.z_list L2.B.boot_list (xv 2))) (λ_=>rfl)))) (Zg3 (xne hu (Wr (Zck ["one"] [] ["one"] (xil (xv 2)) (λ_ _ _ _ _=>(xg 0 (by show Qq (["one"]:List Str);decide +kernel))) (λ_ _ _ _ _=>(Zdt (xno (Zeu (Zeb (Zl1 (Zq9 (by decide) (by rfl) T.z_isinstance L2.B.boot_isinstance (by rfl) T.z_tuple L2.B.boot_tuple (xv 0))) (λ_=>rfl)))))) (λ_ _ _ _ _=>(xv 0)))) (xls xa0)))))) (Zc (xrt (Zpi Zmf))) xnl))) (Zc (xrt (Zpi Zmf)))))
theorem Yc:Zk ["rows","side","n","others","found","a","b","c","e","sums","over"] ["rows","side"] (Zi Zd2):=fsc
theorem Zfy{f:Nat->Addr}{fd:Nat->XD}{cls:Nat->Addr}(T:Txt K mg f fd cls):FnOk P w K mg base CX0 1 (f 5) (fd 5) ["rows","side"] (spD K (sD Yr)):=by
 refine Z5 T.e_law_index.F Yc (S:=Zcd) rfl rfl (λcdv A outer s H E hr=>?_)
 exact(xsq (xst 2 Yc.nd (xln T.z_len (xa1 (xv 0)))) (xsq (Zjk (Zaf (i:=3) (own:=["point"]) (caps:=[1]) (N':=["point","side"]) false Yc.nd rfl (Qn rfl) (by exact⟨rfl,by decide +kernel,rfl,by decide +kernel,rfl,rfl⟩) (by rfl) (by decide) (Zae (Zv (by rfl) T.z_range (xa1 (xv 2)))) (λ_ _ _ _ _=>(xg 0 (by show Qq (["point","side"]:List Str);decide +kernel))) (λ_ _ _ _ _=>(Zdt (Zb9 Zuw (Zb5 (Zgt rfl) Zt9 (xv 0) (xv 1) (hm:=(by with_unfolding_all rfl)))))) (λ_ _ _ _ _=>(xv 0)))) (xsq (xst 4 Yc.nd (Zpi Zou)) (xsq (xfr Xq rfl (xil (xv 1)) (xg 5 Yc.nd) (Zc (xfr Xq rfl (xil (xv 1)) (xg 6 Yc.nd) (Zc (xfr Xq rfl (xil (xv 3)) (xg 7 Yc.nd) (Zc (xfr Xq rfl (xil (xv 3)) (xg 8 Yc.nd) (xsq (xst 9 Yc.nd (xls (Zg (Zf8 (xix (xix (xv 0) (xv 5)) (xv 6)) (xix (xix (xv 0) (xv 7)) (xv 8))) (Zg (Zf8 (xix (xix (xv 0) (xv 5)) (xv 7)) (xix (xix (xv 0) (xv 6)) (xv 8))) (xa1 (Zf8 (xix (xix (xv 0) (xv 5)) (xv 8)) (xix (xix (xv 0) (xv 6)) (xv 7)))))))) (xsq (xst 10 Yc.nd (Z2d (Zdn Zw4 (Zi6 Zro (Zlq rfl (by rfl)) (by rfl) T.z_max L2.B.boot_max (xa1 (xv 9)))) (xix (xv 9) xci))) (Zc (xif (MW.mt (Zi3 (Zj3 (Zb9 Yes (Zb5 Z7k Z7a (xv 4) (Zpi Zou) (hm:=(Zc6 _)))) (Zg3 (xlt (xv 10) (xv 4)))))) (Zc (xst 4 Yc.nd (xv 10))) xnl))))))))))) (Zc (xrt (xv 4)))))))
theorem Zaz:Zk ["n","found","point"] ["n"] (Zi Zd8):=fsc
theorem Zf6{f:Nat->Addr}{fd:Nat->XD}{cls:Nat->Addr}(T:Txt K mg f fd cls):FnOk P w K mg base CX0 1 (f 6) (fd 6) ["n"] (spD K (sD Ye)):=by
 refine Z5 T.e_law_sides.F Zaz (S:=Zcc) rfl rfl (λcdv A outer s H E hr=>?_)
 have hu:=hr.units
 exact(xsq (xst 1 Zaz.nd (xls (xa1 (xls xa0)))) (xsq (xfr Xq rfl (Z1s (Zg6 (by rfl) T.z_range (Zg xci (xa1 (xv 0))))) (xg 2 Zaz.nd) (Zc (xst 1 Zaz.nd (Zm2 (Zgq Zph (Z13 (Zfa rfl) Ziq (xv 1) (Wr (Zck ["side"] [2] ["side","point"] (xil (xv 1)) (λ_ _ _ _ _=>(xg 0 (by show Qq (["side","point"]:List Str);decide +kernel))) (λ_ _ _ _ _=>(W4 W3)) (λ_ _ _ _ _=>(Zm2 (Zgq Zph (Z13 (Zfa rfl) Ziq (xv 0) (xls (xa1 (xv 1))))))))))))))) (Zc (xrt (Z2y Zr2 (Ycm Zow (Zin Zxm rfl hu) (by rfl) T.z_sorted L2.B.boot_sorted (xa1 (Wr (Zck ["side"] [] ["side"] (xil (xv 1)) (λ_ _ _ _ _=>(xg 0 (by show Qq (["side"]:List Str);decide +kernel))) (λ_ _ _ _ _=>(Zdt (xne hu (xv 0) (xls xa0)))) (λ_ _ _ _ _=>(xv 0)))))))))))
theorem Je:Zk ["rows","n","left","side","over","one","other"] ["rows"] (Zi Ze1):=fsc
theorem Znc{f:Nat->Addr}{fd:Nat->XD}{cls:Nat->Addr}(T:Txt K mg f fd cls):FnOk P w K mg base CX0 2 (f 7) (fd 7) ["rows"] (spD K (sD Jj)):=by
 have G_law_index:=Zfy (P:=P) (w:=w) (base:=base) T
 have G_law_sides:=Zf6 (P:=P) (w:=w) (base:=base) T
 refine Z5 T.e_law_left.F Je (S:=Zct) rfl rfl (λcdv A outer s H E hr=>?_)
 exact(xsq (xst 1 Je.nd (xln T.z_len (xa1 (xv 0)))) (xsq (Zoc (Zaf (i:=2) (own:=["row"]) (caps:=[]) (N':=["row"]) true Je.nd rfl (Qn rfl) (by exact⟨rfl,by decide +kernel,rfl,by decide +kernel,rfl,rfl⟩) (by rfl) (by decide) (xil (xv 0)) (λ_ _ _ _ _=>(xg 0 (by show Qq (["row"]:List Str);decide +kernel))) (λ_ _ _ _ _=>(W4 W3)) (λ_ _ _ _ _=>(Wr (Zck ["number"] [] ["number"] (xil (xv 0)) (λ_ _ _ _ _=>(xg 0 (by show Qq (["number"]:List Str);decide +kernel))) (λ_ _ _ _ _=>(W4 W3)) (λ_ _ _ _ _=>(Zig xci (xv 0)))))))) (xsq (xfr Xq rfl (xil (xce G_law_sides hr T.e_law_sides (xa1 (xv 1)))) (xg 3 Je.nd) (xsq (xst 4 Je.nd (xce G_law_index hr T.e_law_index (Zg (xv 0) (xa1 (xv 3))))) (Zc (xfr Xq rfl (xil (xv 3)) (xg 5 Je.nd) (Zc (xfr Xq rfl (Zae (Zv (by rfl) T.z_range (xa1 (xv 1)))) (xg 6 Je.nd) (Zc (xif (Zb9 Zuw (Zb5 (Zgt rfl) Zt9 (xv 6) (xv 3) (hm:=(by with_unfolding_all rfl)))) (xsq (Zbx (Zbt 2 (Z2d (xix (xix (xo 2) (xv 5)) (xv 6)) (xv 4)) (xv 5) (xv 6) (λ_ _=>rfl))) (Zc (Zbx (Zbt 2 (Z2d (xix (xix (xo 2) (xv 6)) (xv 5)) (xv 4)) (xv 6) (xv 5) (λ_ _=>rfl))))) xnl)))))))) (Zc (Zdw (Zd4 2))))))
theorem Za9:Zk ["rows","bits","weight","one","other"] ["rows","bits","weight"] (Zi Zbw):=fsc
theorem Zid{f:Nat->Addr}{fd:Nat->XD}{cls:Nat->Addr}(T:Txt K mg f fd cls):FnOk P w K mg base CX0 1 (f 8) (fd 8) ["rows","bits","weight"] (spI K (sI Jh)):=by
 refine Zl3 T.e_law_add_cut.F Za9 (S:=Za1) rfl rfl (λcdv A outer s H E hr=>?_)
 have hu:=hr.units
 exact(Zc (xfr Xq rfl (Zae (Zv (by rfl) T.z_range (xa1 (xln T.z_len (xa1 (xo 0)))))) (xg 3 Za9.nd) (Zc (xfr Xq rfl (Zae (Zv (by rfl) T.z_range (xa1 (xln T.z_len (xa1 (xo 0)))))) (xg 4 Za9.nd) (Zc (xif (xne hu (Jq Z5z (Zha Zv6 Zjl (Jq Z7h (Zha Zwj Zqu (xv 1) (xv 3))) xci)) (Jq Z5z (Zha Zv6 Zjl (Jq Z7h (Zha Zwj Zqu (xv 1) (xv 4))) xci))) (Zc (Zbx (Zbt 0 (Zf8 (xix (xix (xo 0) (xv 3)) (xv 4)) (xv 2)) (xv 3) (xv 4) (λ_ _=>rfl)))) xnl))))))
theorem Zi5:Zk ["n"] ["n"] (Zi Zcq):=fsc
theorem Zkf{f:Nat->Addr}{fd:Nat->XD}{cls:Nat->Addr}(T:Txt K mg f fd cls):FnOk P w K mg base CX0 1 (f 9) (fd 9) ["n"] (spD K (sD Ym)):=by
 refine Z5 T.e_law_nought.F Zi5 (S:=Wz) rfl rfl (λcdv A outer s H E hr=>?_)
 exact(Zc (xrt (Wr (Zck ["one"] [0] ["one","n"] (Zae (Zv (by rfl) T.z_range (xa1 (xv 0)))) (λ_ _ _ _ _=>(xg 0 (by show Qq (["one","n"]:List Str);decide +kernel))) (λ_ _ _ _ _=>(W4 W3)) (λ_ _ _ _ _=>(Wr (Zck ["other"] [] ["other"] (Zae (Zv (by rfl) T.z_range (xa1 (xv 1)))) (λ_ _ _ _ _=>(xg 0 (by show Qq (["other"]:List Str);decide +kernel))) (λ_ _ _ _ _=>(W4 W3)) (λ_ _ _ _ _=>xci))))))))
theorem Wq:Zk ["rows","n","by","one","other"] ["rows"] (Zi Za8):=fsc
theorem Zhk{f:Nat->Addr}{fd:Nat->XD}{cls:Nat->Addr}(T:Txt K mg f fd cls):FnOk P w K mg base CX0 1 (f 10) (fd 10) ["rows"] (spI K (sI Jb)):=by
 refine Zl3 T.e_law_shortest.F Wq (S:=Zaq) rfl rfl (λcdv A outer s H E hr=>?_)
 exact(xsq (xst 1 Wq.nd (xln T.z_len (xa1 (xo 0)))) (Zc (xfr Xq rfl (Zae (Zv (by rfl) T.z_range (xa1 (xv 1)))) (xg 2 Wq.nd) (Zc (xfr Xq rfl (Zae (Zv (by rfl) T.z_range (xa1 (xv 1)))) (xg 3 Wq.nd) (Zc (xfr Xq rfl (Zae (Zv (by rfl) T.z_range (xa1 (xv 1)))) (xg 4 Wq.nd) (Zc (Zbx (Zbt 0 (Zdn Z5c (Zi6 Zse (Zma (by rfl)) (by rfl) T.z_min L2.B.boot_min (Zg (xix (xix (xo 0) (xv 3)) (xv 4)) (xa1 (Zf8 (xix (xix (xo 0) (xv 3)) (xv 2)) (xix (xix (xo 0) (xv 2)) (xv 4))))))) (xv 3) (xv 4) (λ_ _=>rfl)))))))))))
theorem Yz:Zk ["deck","n","rows","kind","k","bits","ways","most","one","other"] ["deck","n"] (Zi Zex):=fsc
theorem Zns{f:Nat->Addr}{fd:Nat->XD}{cls:Nat->Addr}(T:Txt K mg f fd cls):FnOk P w K mg base CX0 2 (f 11) (fd 11) ["deck","n"] (spI K (sI Zau)):=by
 have G_law_add_cut:=Zid (P:=P) (w:=w) (base:=base) T
 have G_law_nought:=Zkf (P:=P) (w:=w) (base:=base) T
 have G_law_shortest:=Zhk (P:=P) (w:=w) (base:=base) T
 have G_law_take:=Zdy (P:=P) (w:=w) (base:=base) T
 refine Zl3 T.e_law_long.F Yz (S:=Zc0) rfl rfl (λcdv A outer s H E hr=>?_)
 have hu:=hr.units
 exact(xsq (xso 2 Yz.nd (xce G_law_nought hr T.e_law_nought (xa1 (xv 1)))) (xsq (xst 3 Yz.nd (Y4 (W2 (i:=0) G_law_take (hr.mono (by decide)) (by rfl) T.e_law_take.m T.e_law_take.F.kp T.e_law_take.b Zby (xa1 xci)))) (xsq (xif (xne hu (xv 3) xci) (Zc (xfr Xq rfl (Zae (Zv (by rfl) T.z_range (xa1 (Y4 (W2 (i:=0) G_law_take (hr.mono (by decide)) (by rfl) T.e_law_take.m T.e_law_take.F.kp T.e_law_take.b Zby (xa1 xci)))))) (xg 4 Yz.nd) (xsq (xst 5 Yz.nd (Y4 (W2 (i:=0) G_law_take (hr.mono (by decide)) (by rfl) T.e_law_take.m T.e_law_take.F.kp T.e_law_take.b Zby (xa1 (Jq Z9u (Zha Z5x Z67 xci (xv 1))))))) (Zc (Zng (Zmr (Y4 (W2 (i:=2) G_law_add_cut (hr.mono (by decide)) (by rfl) T.e_law_add_cut.m T.e_law_add_cut.F.kp T.e_law_add_cut.b Zby (Zg (xv 5) (xa1 (Zf8 xci (Y4 (W2 (i:=0) G_law_take (hr.mono (by decide)) (by rfl) T.e_law_take.m T.e_law_take.F.kp T.e_law_take.b Zby (xa1 (xix (xls (Zg xci (xa1 (Zrw xci xci)))) (Y4 (W2 (i:=0) G_law_take (hr.mono (by decide)) (by rfl) T.e_law_take.m T.e_law_take.F.kp T.e_law_take.b Zby (xa1 xci)))))))))))))))))) xnl) (xsq (xif (xgt (xv 3) xci) (xsq (xso 6 Yz.nd (xce G_law_nought hr T.e_law_nought (xa1 (xv 1)))) (xsq (xst 7 Yz.nd (xix (xls (Zg xci (Zg xci (xa1 (Zrw xci xci))))) (Y4 (W2 (i:=0) G_law_take (hr.mono (by decide)) (by rfl) T.e_law_take.m T.e_law_take.F.kp T.e_law_take.b Zby (xa1 xci))))) (xsq (xfr Xq rfl (Zae (Zv (by rfl) T.z_range (xa1 (xv 1)))) (xg 8 Yz.nd) (Zc (xfr Xq rfl (Zae (Zv (by rfl) T.z_range (xa1 (xv 8)))) (xg 9 Yz.nd) (xsq (Zbx (Zbt 6 (xix (xls (Zg (Zf8 xci (Y4 (W2 (i:=0) G_law_take (hr.mono (by decide)) (by rfl) T.e_law_take.m T.e_law_take.F.kp T.e_law_take.b Zby (xa1 (xv 7))))) (xa1 (xv 7)))) (Zdn Z9b (Yak Z66 Zs8 (by rfl) T.z_int L2.B.boot_int (xa1 (Jq Yad (Z1g (Zrl hu) Zzg (xv 3) xci (hm:=(Zc6 _)))))))) (xv 8) (xv 9) (λ_ _=>rfl))) (xsq (xif (MW.mt (Z5k (Z54 (xeq hu (xv 3) xci) (Zzx (xeq hu (Y4 (W2 (i:=0) G_law_take (hr.mono (by decide)) (by rfl) T.e_law_take.m T.e_law_take.F.kp T.e_law_take.b Zby (xa1 xci))) xci))))) (Zc (Zbx (Zbt 6 xci (xv 8) (xv 9) (λ_ _=>rfl)))) xnl) (Zc (Zbx (Zbt 6 (Zx4 (Z2i (xix (xix (xo 6) (xv 8)) (xv 9)))) (xv 9) (xv 8) (λ_ _=>rfl))))))))) (xsq (Zng (Zmr (Y4 (W2 (i:=6) G_law_shortest (hr.mono (by decide)) (by rfl) T.e_law_shortest.m T.e_law_shortest.F.kp T.e_law_shortest.b Zby xa0)))) (Zc (xfr Xq rfl (Zae (Zv (by rfl) T.z_range (xa1 (xv 1)))) (xg 8 Yz.nd) (Zc (Zw9 (Zv8 2 (Wr (Zck ["number","more"] [] ["number","more"] (Zhs (Zgy (by rfl) T.z_zip L2.B.boot_zip (Zg (xix (xo 2) (xv 8)) (xa1 (xix (xo 6) (xv 8)))))) (λ_ _ _ _ _=>(Zwt (Zwn (n:=2) (by rfl) (Zgj (Zlg (Znx (Zn2 (i:=0) (by show Qq (["number","more"]:List Str);decide +kernel))) (Zgj (Zlg (Znx (Zn2 (i:=1) (by show Qq (["number","more"]:List Str);decide +kernel))) (Zsh Zrv)))))))) (λ_ _ _ _ _=>(W4 W3)) (λ_ _ _ _ _=>(Zf8 (xv 0) (xv 1))))) (xv 8)))))))))) xnl) (Zc (Zdw (Zd4 2)))))))
theorem Ys:Zk ["left","n","one","by","other","about"] ["left"] (Zi Zas):=fsc
theorem Zf7{f:Nat->Addr}{fd:Nat->XD}{cls:Nat->Addr}(T:Txt K mg f fd cls):FnOk P w K mg base CX0 2 (f 12) (fd 12) ["left"] (spD K (sD Y5)):=by
 have G_law_index:=Zfy (P:=P) (w:=w) (base:=base) T
 have G_law_sides:=Zf6 (P:=P) (w:=w) (base:=base) T
 refine Z5 T.e_law_none_left.F Ys (S:=Zab) rfl rfl (λcdv A outer s H E hr=>?_)
 have hu:=hr.units
 exact(xsq (xst 1 Ys.nd (xln T.z_len (xa1 (xv 0)))) (xsq (xfr Xq rfl (Zae (Zv (by rfl) T.z_range (xa1 (xv 1)))) (xg 2 Ys.nd) (Zc (xfr Xq rfl (Zae (Zv (by rfl) T.z_range (xa1 (xv 1)))) (xg 3 Ys.nd) (Zc (xfr Xq rfl (Zae (Zv (by rfl) T.z_range (xa1 (xv 1)))) (xg 4 Ys.nd) (xsq (xst 5 Ys.nd (Zf8 (xix (xix (xv 0) (xv 2)) (xv 3)) (xix (xix (xv 0) (xv 3)) (xv 4)))) (Zc (xif (MW.mt (Zi3 (Zj3 (xgt (xix (xix (xv 0) (xv 2)) (xv 4)) (xv 5)) (Zg3 (xlt (xix (xix (xv 0) (xv 2)) (xv 4)) xci))))) (Zc (xrt (Zpi Zmf))) xnl)))))))) (Zc (xrt (Jq Yad (Z1g (Zrl hu) Zzg (Wr (Zck ["side"] [0] ["side","left"] (xil (xce G_law_sides hr T.e_law_sides (xa1 (xv 1)))) (λ_ _ _ _ _=>(xg 0 (by show Qq (["side","left"]:List Str);decide +kernel))) (λ_ _ _ _ _=>(Zdt (xne hu (xce G_law_index hr T.e_law_index (Zg (xv 1) (xa1 (xv 0)))) xci))) (λ_ _ _ _ _=>(xv 0)))) (xls xa0) (hm:=(Zc6 _))))))))
theorem Wb:Zk ["top","bottom","one","other","rest"] ["top","bottom"] (Zi Za6):=fsc
theorem Zhi{f:Nat->Addr}{fd:Nat->XD}{cls:Nat->Addr}(T:Txt K mg f fd cls):FnOk P w K mg base CX0 1 (f 13) (fd 13) ["top","bottom"] (spD K (sD Jd)):=by
 refine Z5 T.e_law_fraction.F Wb (S:=Zat) rfl rfl (λcdv A outer s H E hr=>?_)
 have hu:=hr.units
 exact(xsq (xst 2 Wb.nd (Zdn Z0i (Zi6 Zr3 Zkc (by rfl) T.z_abs L2.B.boot_abs (xa1 (xv 0))))) (xsq (xst 3 Wb.nd (xv 1)) (xsq (Zn9 (Zop Xq (xne hu (xv 3) xci) (xsq (xst 4 Wb.nd (Z49 (xv 2) (xv 3))) (xsq (xst 2 Wb.nd (xv 3)) (Zc (xst 3 Wb.nd (xv 4))))))) (Zc (xrt (xtp (Zg (Zwi (xv 0) (xv 2)) (xa1 (Zwi (xv 1) (xv 2))))))))))
theorem Zku:Zk ["rows","bottom"] ["rows","bottom"] (Zi Zdq):=fsc
theorem Zkv{f:Nat->Addr}{fd:Nat->XD}{cls:Nat->Addr}(T:Txt K mg f fd cls):FnOk P w K mg base CX0 2 (f 14) (fd 14) ["rows","bottom"] (spD K (sD Yd)):=by
 have G_law_fraction:=Zhi (P:=P) (w:=w) (base:=base) T
 refine Z5 T.e_law_table.F Zku (S:=Zb7) rfl rfl (λcdv A outer s H E hr=>?_)
 exact(Zc (xrt (Wr (Zck ["row"] [1] ["row","bottom"] (xil (xv 0)) (λ_ _ _ _ _=>(xg 0 (by show Qq (["row","bottom"]:List Str);decide +kernel))) (λ_ _ _ _ _=>(W4 W3)) (λ_ _ _ _ _=>(Wr (Zck ["number"] [1] ["number","bottom"] (xil (xv 0)) (λ_ _ _ _ _=>(xg 0 (by show Qq (["number","bottom"]:List Str);decide +kernel))) (λ_ _ _ _ _=>(W4 W3)) (λ_ _ _ _ _=>(xce G_law_fraction hr T.e_law_fraction (Zg (xv 0) (xa1 (xv 1))))))))))))
theorem Z7:Zk ["a","b","left"] ["a","b"] (Zi Jp):=fsc
theorem Zak{f:Nat->Addr}{fd:Nat->XD}{cls:Nat->Addr}(T:Txt K mg f fd cls):FnOk P w K mg base CX0 1 (f 15) (fd 15) ["a","b"] (spD K (sD Z2)):=by
 refine Z5 T.e_greatest_divisor.F Z7 (S:=Jo) rfl rfl (λcdv A outer s H E hr=>?_)
 have hu:=hr.units
 exact(xsq (xst 0 Z7.nd (Zdn Z0i (Zi6 Zr3 Zkc (by rfl) T.z_abs L2.B.boot_abs (xa1 (xv 0))))) (xsq (xst 1 Z7.nd (Zdn Z0i (Zi6 Zr3 Zkc (by rfl) T.z_abs L2.B.boot_abs (xa1 (xv 1))))) (xsq (Zn9 (Zop Xq (xne hu (xv 1) xci) (xsq (xst 2 Z7.nd (Z49 (xv 0) (xv 1))) (xsq (xst 0 Z7.nd (xv 1)) (Zc (xst 1 Z7.nd (xv 2))))))) (Zc (xrt (xv 0))))))
theorem Zdo:Zk ["top","bottom","shared"] ["top","bottom"] (Zi Zft):=fsc
theorem Zd3{f:Nat->Addr}{fd:Nat->XD}{cls:Nat->Addr}(T:Txt K mg f fd cls):FnOk P w K mg base CX0 2 (f 16) (fd 16) ["top","bottom"] (spD K (sD Wu)):=by
 have G_greatest_divisor:=Zak (P:=P) (w:=w) (base:=base) T
 refine Z5 T.e_in_least.F Zdo (S:=Zcz) rfl rfl (λcdv A outer s H E hr=>?_)
 exact(xsq (xst 2 Zdo.nd (xce G_greatest_divisor hr T.e_greatest_divisor (Zg (xv 0) (xa1 (xv 1))))) (xsq (xif (xlt (xv 1) xci) (Zc (xst 2 Zdo.nd (Z3l (Z9o (xv 2))))) xnl) (Zc (xrt (xtp (Zg (Zwi (xv 0) (xv 2)) (xa1 (Zwi (xv 1) (xv 2)))))))))
theorem Zv3:Zk ["q","r"] ["q","r"] (Zi Zm7):=fsc
theorem Zvu{f:Nat->Addr}{fd:Nat->XD}{cls:Nat->Addr}(T:Txt K mg f fd cls):FnOk P w K mg base CX0 3 (f 17) (fd 17) ["q","r"] (spD K (sD J5)):=by
 have G_in_least:=Zd3 (P:=P) (w:=w) (base:=base) T
 refine Z5 T.e_minus.F Zv3 (S:=Zfv) rfl rfl (λcdv A outer s H E hr=>?_)
 exact(Zc (xrt (xce G_in_least hr T.e_in_least (Zg (Z2d (Zig (xix (xv 0) xci) (xix (xv 1) xci)) (Zig (xix (xv 1) xci) (xix (xv 0) xci))) (xa1 (Zig (xix (xv 0) xci) (xix (xv 1) xci)))))))
theorem Zm5:Zk ["q","r"] ["q","r"] (Zi Zez):=fsc
theorem Zmq{f:Nat->Addr}{fd:Nat->XD}{cls:Nat->Addr}(T:Txt K mg f fd cls):FnOk P w K mg base CX0 1 (f 18) (fd 18) ["q","r"] (spD K (sD Zai)):=by
 refine Z5 T.e_is_below.F Zm5 (S:=Zcn) rfl rfl (λcdv A outer s H E hr=>?_)
 exact(Zc (xrt (Jq Ycc (Z1g Z50 Zlt (Zig (xix (xv 0) xci) (xix (xv 1) xci)) (Zig (xix (xv 1) xci) (xix (xv 0) xci)) (hm:=(Zc6 _))))))
theorem Z03:Zk ["q","r"] ["q","r"] (Zi Zqy):=fsc
theorem Zyu{f:Nat->Addr}{fd:Nat->XD}{cls:Nat->Addr}(T:Txt K mg f fd cls):FnOk P w K mg base CX0 3 (f 19) (fd 19) ["q","r"] (spD K (sD Zds)):=by
 have G_in_least:=Zd3 (P:=P) (w:=w) (base:=base) T
 refine Z5 T.e_plus.F Z03 (S:=Zgu) rfl rfl (λcdv A outer s H E hr=>?_)
 exact(Zc (xrt (xce G_in_least hr T.e_in_least (Zg (Zf8 (Zig (xix (xv 0) xci) (xix (xv 1) xci)) (Zig (xix (xv 1) xci) (xix (xv 0) xci))) (xa1 (Zig (xix (xv 0) xci) (xix (xv 1) xci)))))))
theorem Zh8:Zk ["table","i","j","k"] ["table","i","j","k"] (Zi Zbz):=fsc
theorem Zie{f:Nat->Addr}{fd:Nat->XD}{cls:Nat->Addr}(T:Txt K mg f fd cls):FnOk P w K mg base CX0 4 (f 20) (fd 20) ["table","i","j","k"] (spD K (sD Ji)):=by
 have G_is_below:=Zmq (P:=P) (w:=w) (base:=base) T
 have G_plus:=Zyu (P:=P) (w:=w) (base:=base) T
 refine Z5 T.e_is_short_by.F Zh8 (S:=Za0) rfl rfl (λcdv A outer s H E hr=>?_)
 exact(Zc (xrt (xce G_is_below hr T.e_is_below (Zg (xce G_plus hr T.e_plus (Zg (xix (xix (xv 0) (xv 1)) (xv 2)) (xa1 (xix (xix (xv 0) (xv 2)) (xv 3))))) (xa1 (xix (xix (xv 0) (xv 1)) (xv 3)))))))
theorem W7:Zk ["table","n","i","j","k"] ["table"] (Zi Zb1):=fsc
theorem Zia{f:Nat->Addr}{fd:Nat->XD}{cls:Nat->Addr}(T:Txt K mg f fd cls):FnOk P w K mg base CX0 5 (f 21) (fd 21) ["table"] (spD K (sD Js)):=by
 have G_is_short_by:=Zie (P:=P) (w:=w) (base:=base) T
 refine Z5 T.e_first_short.F W7 (S:=Zay) rfl rfl (λcdv A outer s H E hr=>?_)
 exact(xsq (xst 1 W7.nd (xln T.z_len (xa1 (xv 0)))) (xsq (xfr Xq rfl (Zae (Zv (by rfl) T.z_range (xa1 (xv 1)))) (xg 2 W7.nd) (Zc (xfr Xq rfl (Zae (Zv (by rfl) T.z_range (xa1 (xv 1)))) (xg 3 W7.nd) (Zc (xfr Xq rfl (Zae (Zv (by rfl) T.z_range (xa1 (xv 1)))) (xg 4 W7.nd) (Zc (xif (Zeu (Zeb (xce G_is_short_by hr T.e_is_short_by (Zg (xv 0) (Zg (xv 2) (Zg (xv 3) (xa1 (xv 4)))))) (λ_=>rfl))) (Zc (xrt (xtp (Zg (xv 2) (Zg (xv 3) (xa1 (xv 4))))))) xnl))))))) (Zc (xrt (Zpi Zou)))))
theorem Zjo:Zk ["table"] ["table"] (Zi Zcp):=fsc
theorem Zj9{f:Nat->Addr}{fd:Nat->XD}{cls:Nat->Addr}(T:Txt K mg f fd cls):FnOk P w K mg base CX0 6 (f 22) (fd 22) ["table"] (spD K (sD J3)):=by
 have G_first_short:=Zia (P:=P) (w:=w) (base:=base) T
 refine Z5 T.e_check_long.F Zjo (S:=Zbk) rfl rfl (λcdv A outer s H E hr=>?_)
 exact(Zc (xif (Zb9 Z0e (Zb5 Zz8 Z02 (xce G_first_short hr T.e_first_short (xa1 (xv 0))) (Zpi Zou) (hm:=(Zc6 _)))) (Zc Zny) xnl))
theorem Zjs:Zk ["sums"] ["sums"] (Zi Zc5):=fsc
theorem Zep{f:Nat->Addr}{fd:Nat->XD}{cls:Nat->Addr}(T:Txt K mg f fd cls):FnOk P w K mg base CX0 1 (f 23) (fd 23) ["sums"] (spD K (sD Y7)):=by
 refine Z5 T.e_split_rule.F Zjs (S:=Zbh) rfl rfl (λcdv A outer s H E hr=>?_)
 exact(Zc (xrt (Z2d (Zdn Zw4 (Zi6 Zro (Zlq rfl (by rfl)) (by rfl) T.z_max L2.B.boot_max (xa1 (xv 0)))) (xix (xv 0) xci))))
theorem Zbv:Zk ["n","sides","point"] ["n"] (Zi Zfo):=fsc
theorem Zme{f:Nat->Addr}{fd:Nat->XD}{cls:Nat->Addr}(T:Txt K mg f fd cls):FnOk P w K mg base CX0 1 (f 24) (fd 24) ["n"] (spD K (sD Wo)):=by
 refine Z5 T.e_all_cuts.F Zbv (S:=Zcm) rfl rfl (λcdv A outer s H E hr=>?_)
 have hu:=hr.units
 exact(xsq (xst 1 Zbv.nd (xls (xa1 (xls xa0)))) (xsq (xfr Xq rfl (Z1s (Zg6 (by rfl) T.z_range (Zg xci (xa1 (xv 0))))) (xg 2 Zbv.nd) (Zc (xst 1 Zbv.nd (Zm2 (Zgq Zph (Z13 (Zfa rfl) Ziq (xv 1) (Wr (Zck ["side"] [2] ["side","point"] (xil (xv 1)) (λ_ _ _ _ _=>(xg 0 (by show Qq (["side","point"]:List Str);decide +kernel))) (λ_ _ _ _ _=>(W4 W3)) (λ_ _ _ _ _=>(Zm2 (Zgq Zph (Z13 (Zfa rfl) Ziq (xv 0) (xls (xa1 (xv 1))))))))))))))) (Zc (xrt (Wr (Zck ["side"] [] ["side"] (xil (Z2y Zr2 (Ycm Zow (Zin Zxm rfl hu) (by rfl) T.z_sorted L2.B.boot_sorted (xa1 (xv 1))))) (λ_ _ _ _ _=>(xg 0 (by show Qq (["side"]:List Str);decide +kernel))) (λ_ _ _ _ _=>(Zdt (xgt (xln T.z_len (xa1 (xv 0))) xci))) (λ_ _ _ _ _=>(xv 0))))))))
theorem Zmu:Zk ["thing"] ["thing"] (Zi Zfg):=fsc
theorem Zmg{f:Nat->Addr}{fd:Nat->XD}{cls:Nat->Addr}(T:Txt K mg f fd cls):FnOk P w K mg base CX0 1 (f 25) (fd 25) ["thing"] (spD K (sD Wn)):=by
 refine Z5 T.e_is_whole.F Zmu (S:=Zcw) rfl rfl (λcdv A outer s H E hr=>?_)
 exact(Zc (xrt (Z1b (Ybc (Zl1 (Zq9 (by decide) (by rfl) T.z_isinstance L2.B.boot_isinstance (by rfl) T.z_int L2.B.boot_int (xv 0))) (Z9z (Z1d (Ya9 (Zl1 (Zq9 (by decide) (by rfl) T.z_isinstance L2.B.boot_isinstance (by rfl) T.z_bool L2.B.boot_bool (xv 0))))))))))
theorem Zm3:Zk ["top","bottom"] ["top","bottom"] (Zi Ze7):=fsc
theorem Zgs{f:Nat->Addr}{fd:Nat->XD}{cls:Nat->Addr}(T:Txt K mg f fd cls):FnOk P w K mg base CX0 3 (f 26) (fd 26) ["top","bottom"] (spD K (sD Wt)):=by
 have G_in_least:=Zd3 (P:=P) (w:=w) (base:=base) T
 have G_is_whole:=Zmg (P:=P) (w:=w) (base:=base) T
 refine Z5 T.e_fraction.F Zm3 (S:=Zcy) rfl rfl (λcdv A outer s H E hr=>?_)
 have hu:=hr.units
 exact(xsq (xif (MW.mt (Zi3 (Zj3 (xno (Zeu (Zeb (xce G_is_whole hr T.e_is_whole (xa1 (xv 0))) (λ_=>rfl)))) (Zi3 (Zj3 (xno (Zeu (Zeb (xce G_is_whole hr T.e_is_whole (xa1 (xv 1))) (λ_=>rfl)))) (Zg3 (xeq hu (xv 1) xci))))))) (Zc Zny) xnl) (Zc (xrt (xce G_in_least hr T.e_in_least (Zg (xv 0) (xa1 (xv 1)))))))
theorem Ju:Zk ["points","doubles","place","point","other"] ["points"] (Zi Zcl):=fsc
theorem Zjg{f:Nat->Addr}{fd:Nat->XD}{cls:Nat->Addr}(T:Txt K mg f fd cls):FnOk P w K mg base CX0 1 (f 27) (fd 27) ["points"] (spD K (sD Wy)):=by
 refine Z5 T.e_doubles_of.F Ju (S:=Zbm) rfl rfl (λcdv A outer s H E hr=>?_)
 exact(xsq (xso 1 Ju.nd (xls xa0)) (xsq (xfr Xq rfl (Zyc (Zy7 (by rfl) T.z_enumerate L2.B.boot_enumerate (xa1 (xv 0)))) (xg2 rfl (xg 2 Ju.nd) (xg 3 Ju.nd)) (Zc (xfr Xq rfl (xil (Z5g (Z3q (xv 0) (Zry (Zs1 (xv 2))) (Zr4 Ztf)))) (xg 4 Ju.nd) (Zc (Zea (Zef 1 (xtp (Zg (xv 3) (xa1 (xv 4)))))))))) (Zc (Zdw (Zd4 1)))))
theorem Zjq:Zk ["rows","i","j","k","l"] ["rows","i","j","k","l"] (Zi Zcj):=fsc
theorem Zkk{f:Nat->Addr}{fd:Nat->XD}{cls:Nat->Addr}(T:Txt K mg f fd cls):FnOk P w K mg base CX0 1 (f 28) (fd 28) ["rows","i","j","k","l"] (spD K (sD Wa)):=by
 refine Z5 T.e_three_sums.F Zjq (S:=Zbf) rfl rfl (λcdv A outer s H E hr=>?_)
 exact(Zc (xrt (xtp (Zg (Zf8 (xix (xix (xv 0) (xv 1)) (xv 2)) (xix (xix (xv 0) (xv 3)) (xv 4))) (Zg (Zf8 (xix (xix (xv 0) (xv 1)) (xv 3)) (xix (xix (xv 0) (xv 2)) (xv 4))) (xa1 (Zf8 (xix (xix (xv 0) (xv 1)) (xv 4)) (xix (xix (xv 0) (xv 2)) (xv 3)))))))))
theorem Zt:Zk ["rows","cut","rule","others","beyond","least","a","b","c","e"] ["rows","cut","rule"] (Zi Jy):=fsc
theorem Zd6{f:Nat->Addr}{fd:Nat->XD}{cls:Nat->Addr}(T:Txt K mg f fd cls):FnOk P w K mg base CX0 2 (f 29) (fd 29) ["rows","cut","rule"] (spD K (sD Yj)):=by
 have G_doubles_of:=Zjg (P:=P) (w:=w) (base:=base) T
 have G_split_rule:=Zep (P:=P) (w:=w) (base:=base) T
 have G_three_sums:=Zkk (P:=P) (w:=w) (base:=base) T
 refine Z5 T.e_least_over_sides.F Zt (S:=Jv) rfl rfl (λcdv A outer s H E hr=>?_)
 exact(xsq (Zjk (Zaf (i:=3) (own:=["point"]) (caps:=[1]) (N':=["point","cut"]) false Zt.nd rfl (Qn rfl) (by exact⟨rfl,by decide +kernel,rfl,by decide +kernel,rfl,rfl⟩) (by rfl) (by decide) (Zae (Zv (by rfl) T.z_range (xa1 (xln T.z_len (xa1 (xv 0)))))) (λ_ _ _ _ _=>(xg 0 (by show Qq (["point","cut"]:List Str);decide +kernel))) (λ_ _ _ _ _=>(Zdt (Zb9 Zuw (Zb5 (Zgt rfl) Zt9 (xv 0) (xv 1) (hm:=(by with_unfolding_all rfl)))))) (λ_ _ _ _ _=>(xv 0)))) (xsq (xst 4 Zt.nd (xce G_doubles_of hr T.e_doubles_of (xa1 (xv 3)))) (xsq (xst 5 Zt.nd (Zoo (Ztd (i:=2) G_split_rule (hr.mono (by decide)) T.fa_split_rule T.e_split_rule.F.kp T.e_split_rule.b Zby (xa1 (xce G_three_sums hr T.e_three_sums (Zg (xv 0) (Zg (xix (xv 1) xci) (Zg (xix (xv 1) xci) (Zg xci (xa1 xci)))))))))) (xsq (xfr Xq rfl (xil (xce G_doubles_of hr T.e_doubles_of (xa1 (xv 1)))) (xg2 rfl (xg 6 Zt.nd) (xg 7 Zt.nd)) (xsq (xfr Xq rfl (xil (xv 4)) (xg2 rfl (xg 8 Zt.nd) (xg 9 Zt.nd)) (Zc (xst 5 Zt.nd (Zdn Z5c (Zi6 Zse (Zma (by rfl)) (by rfl) T.z_min L2.B.boot_min (Zg (xv 5) (xa1 (Zoo (Ztd (i:=2) G_split_rule (hr.mono (by decide)) T.fa_split_rule T.e_split_rule.F.kp T.e_split_rule.b Zby (xa1 (xce G_three_sums hr T.e_three_sums (Zg (xv 0) (Zg (xv 6) (Zg (xv 7) (Zg (xv 8) (xa1 (xv 9))))))))))))))))) (Zc (xif (xle (xv 5) xci) (Zc (xrt xci)) xnl)))) (Zc (xrt (xv 5)))))))
theorem W8:Zk ["numbers","bottom","q"] ["numbers"] (Zi Zam):=fsc
theorem Zb4{f:Nat->Addr}{fd:Nat->XD}{cls:Nat->Addr}(T:Txt K mg f fd cls):FnOk P w K mg base CX0 2 (f 30) (fd 30) ["numbers"] (spD K (sD Yi)):=by
 have G_greatest_divisor:=Zak (P:=P) (w:=w) (base:=base) T
 refine Z5 T.e_shared_bottom.F W8 (S:=Zaa) rfl rfl (λcdv A outer s H E hr=>?_)
 exact(xsq (xst 1 W8.nd xci) (xsq (xfr Xq rfl (xil (xv 0)) (xg 2 W8.nd) (Zc (xst 1 W8.nd (Zig (Zwi (xv 1) (xce G_greatest_divisor hr T.e_greatest_divisor (Zg (xv 1) (xa1 (xix (xv 2) xci))))) (xix (xv 2) xci))))) (Zc (xrt (xv 1)))))
theorem Jm:Zk ["table","bottom","row"] ["table"] (Zi Za7):=fsc
theorem Zgx{f:Nat->Addr}{fd:Nat->XD}{cls:Nat->Addr}(T:Txt K mg f fd cls):FnOk P w K mg base CX0 3 (f 31) (fd 31) ["table"] (spD K (sD Yn)):=by
 have G_shared_bottom:=Zb4 (P:=P) (w:=w) (base:=base) T
 refine Z5 T.e_table_bottom.F Jm (S:=Zah) rfl rfl (λcdv A outer s H E hr=>?_)
 exact(xsq (xst 1 Jm.nd xci) (xsq (xfr Xq rfl (xil (xv 0)) (xg 2 Jm.nd) (Zc (xst 1 Jm.nd (xce G_shared_bottom hr T.e_shared_bottom (xa1 (Zm2 (Zgq Zph (Z13 (Zfa rfl) Ziq (xls (xa1 (xtp (Zg xci (xa1 (xv 1)))))) (xv 2))))))))) (Zc (xrt (xv 1)))))
theorem Zl4:Zk ["bottom","numbers"] ["bottom","numbers"] (Zi Zdz):=fsc
theorem Zfx{f:Nat->Addr}{fd:Nat->XD}{cls:Nat->Addr}(T:Txt K mg f fd cls):FnOk P w K mg base CX0 1 (f 32) (fd 32) ["bottom","numbers"] (spD K (sD W9)):=by
 refine Z5 T.e_tops_over.F Zl4 (S:=Zb8) rfl rfl (λcdv A outer s H E hr=>?_)
 exact(Zc (xrt (Wr (Zck ["q"] [0] ["q","bottom"] (xil (xv 1)) (λ_ _ _ _ _=>(xg 0 (by show Qq (["q","bottom"]:List Str);decide +kernel))) (λ_ _ _ _ _=>(W4 W3)) (λ_ _ _ _ _=>(Zig (xix (xv 0) xci) (Zwi (xv 1) (xix (xv 0) xci))))))))
theorem Zj1:Zk ["bottom","table"] ["bottom","table"] (Zi Zcr):=fsc
theorem Zj6{f:Nat->Addr}{fd:Nat->XD}{cls:Nat->Addr}(T:Txt K mg f fd cls):FnOk P w K mg base CX0 2 (f 33) (fd 33) ["bottom","table"] (spD K (sD Ww)):=by
 have G_tops_over:=Zfx (P:=P) (w:=w) (base:=base) T
 refine Z5 T.e_table_over.F Zj1 (S:=Zbj) rfl rfl (λcdv A outer s H E hr=>?_)
 exact(Zc (xrt (Wr (Zck ["row"] [0] ["row","bottom"] (xil (xv 1)) (λ_ _ _ _ _=>(xg 0 (by show Qq (["row","bottom"]:List Str);decide +kernel))) (λ_ _ _ _ _=>(W4 W3)) (λ_ _ _ _ _=>(xce G_tops_over hr T.e_tops_over (Zg (xv 1) (xa1 (xv 0)))))))))
theorem Wi:Zk ["table","rule","bottom","rows","weighted","cut","least"] ["table","rule"] (Zi Zbq):=fsc
theorem Zh9{f:Nat->Addr}{fd:Nat->XD}{cls:Nat->Addr}(T:Txt K mg f fd cls):FnOk P w K mg base CX0 4 (f 34) (fd 34) ["table","rule"] (spD K (sD Jx)):=by
 have G_all_cuts:=Zme (P:=P) (w:=w) (base:=base) T
 have G_fraction:=Zgs (P:=P) (w:=w) (base:=base) T
 have G_least_over_sides:=Zd6 (P:=P) (w:=w) (base:=base) T
 have G_table_bottom:=Zgx (P:=P) (w:=w) (base:=base) T
 have G_table_over:=Zj6 (P:=P) (w:=w) (base:=base) T
 refine Z5 T.e_weighted_by.F Wi (S:=Za2) rfl rfl (λcdv A outer s H E hr=>?_)
 exact(xsq (xst 2 Wi.nd (xce G_table_bottom hr T.e_table_bottom (xa1 (xv 0)))) (xsq (xst 3 Wi.nd (xce G_table_over hr T.e_table_over (Zg (xv 2) (xa1 (xv 0))))) (xsq (xso 4 Wi.nd (xls xa0)) (xsq (xfr Xq rfl (xil (xce G_all_cuts hr T.e_all_cuts (xa1 (xln T.z_len (xa1 (xv 0)))))) (xg 5 Wi.nd) (xsq (xst 6 Wi.nd (xce G_least_over_sides hr T.e_least_over_sides (Zg (xv 3) (Zg (xv 5) (xa1 (xv 1)))))) (Zc (xif (xgt (xv 6) xci) (Zc (Zea (Zef 4 (xtp (Zg (xv 5) (xa1 (xce G_fraction hr T.e_fraction (Zg (xv 6) (xa1 (Zig xci (xv 2))))))))))) xnl)))) (Zc (Zdw (Zd4 4)))))))
theorem Zle:Zk ["table"] ["table"] (Zi Zdp):=fsc
theorem Zlz{f:Nat->Addr}{fd:Nat->XD}{cls:Nat->Addr}(T:Txt K mg f fd cls):FnOk P w K mg base CX0 7 (f 35) (fd 35) ["table"] (spD K (sD Ja)):=by
 have G_check_long:=Zj9 (P:=P) (w:=w) (base:=base) T
 have G_split_rule:=Zep (P:=P) (w:=w) (base:=base) T
 have G_weighted_by:=Zh9 (P:=P) (w:=w) (base:=base) T
 refine Z5 T.e_splits_of.F Zle (S:=Zca) rfl rfl (λcdv A outer s H E hr=>?_)
 exact(xsq (Zng (Zmr (xce G_check_long hr T.e_check_long (xa1 (xv 0))))) (Zc (xrt (xce G_weighted_by hr T.e_weighted_by (Zg (xv 0) (xa1 (Zpi (Ye3 (by rfl) T.e_split_rule.m T.fa_split_rule))))))))
theorem Zmm:Zk ["n","cut"] ["n","cut"] (Zi Zfs):=fsc
theorem Znm{f:Nat->Addr}{fd:Nat->XD}{cls:Nat->Addr}(T:Txt K mg f fd cls):FnOk P w K mg base CX0 1 (f 36) (fd 36) ["n","cut"] (spD K (sD Zav)):=by
 refine Z5 T.e_sides_of.F Zmm (S:=Zcu) rfl rfl (λcdv A outer s H E hr=>?_)
 exact(Zc (xrt (Wr (Zck ["point"] [1] ["point","cut"] (Zae (Zv (by rfl) T.z_range (xa1 (xv 0)))) (λ_ _ _ _ _=>(xg 0 (by show Qq (["point","cut"]:List Str);decide +kernel))) (λ_ _ _ _ _=>(W4 W3)) (λ_ _ _ _ _=>(Zm2 (Z8q (Yez (Zb9 Zuw (Zb5 (Z3h rfl) Zt9 (xv 0) (xv 1) (hm:=(by with_unfolding_all rfl)))) xci xci))))))))
theorem Zmd:Zk ["n","cuts"] ["n","cuts"] (Zi Zdx):=fsc
theorem Zk0{f:Nat->Addr}{fd:Nat->XD}{cls:Nat->Addr}(T:Txt K mg f fd cls):FnOk P w K mg base CX0 2 (f 37) (fd 37) ["n","cuts"] (spD K (sD J8)):=by
 have G_sides_of:=Znm (P:=P) (w:=w) (base:=base) T
 refine Z5 T.e_all_sides.F Zmd (S:=Zcb) rfl rfl (λcdv A outer s H E hr=>?_)
 exact(Zc (xrt (Wr (Zck ["weighted"] [0] ["weighted","n"] (xil (xv 1)) (λ_ _ _ _ _=>(xg 0 (by show Qq (["weighted","n"]:List Str);decide +kernel))) (λ_ _ _ _ _=>(W4 W3)) (λ_ _ _ _ _=>(xce G_sides_of hr T.e_sides_of (Zg (xv 1) (xa1 (xix (xv 0) xci)))))))))
theorem Zbu:Zk ["n","pairs","i","j"] ["n"] (Zi Zfb):=fsc
theorem Zhd{f:Nat->Addr}{fd:Nat->XD}{cls:Nat->Addr}(T:Txt K mg f fd cls):FnOk P w K mg base CX0 1 (f 38) (fd 38) ["n"] (spD K (sD Y9)):=by
 refine Z5 T.e_pairs_of.F Zbu (S:=Zco) rfl rfl (λcdv A outer s H E hr=>?_)
 exact(xsq (xso 1 Zbu.nd (xls xa0)) (xsq (xfr Xq rfl (Zae (Zv (by rfl) T.z_range (xa1 (xv 0)))) (xg 2 Zbu.nd) (Zc (xfr Xq rfl (Z1s (Zg6 (by rfl) T.z_range (Zg (Zf8 (xv 2) xci) (xa1 (xv 0))))) (xg 3 Zbu.nd) (Zc (Zea (Zef 1 (xtp (Zg (xv 2) (xa1 (xv 3)))))))))) (Zc (Zdw (Zd4 1)))))
theorem Wv:Zk ["n","distances","table","pair","distance"] ["n","distances"] (Zi J7):=fsc
theorem Ze0{f:Nat->Addr}{fd:Nat->XD}{cls:Nat->Addr}(T:Txt K mg f fd cls):FnOk P w K mg base CX0 2 (f 39) (fd 39) ["n","distances"] (spD K (sD Yw)):=by
 have G_pairs_of:=Zhd (P:=P) (w:=w) (base:=base) T
 refine Z5 T.e_table_of_pairs.F Wv (S:=Yy) rfl rfl (λcdv A outer s H E hr=>?_)
 exact(xsq (Zoc (Zaf (i:=2) (own:=["point"]) (caps:=[0]) (N':=["point","n"]) true Wv.nd rfl (Qn rfl) (by exact⟨rfl,by decide +kernel,rfl,by decide +kernel,rfl,rfl⟩) (by rfl) (by decide) (Zae (Zv (by rfl) T.z_range (xa1 (xv 0)))) (λ_ _ _ _ _=>(xg 0 (by show Qq (["point","n"]:List Str);decide +kernel))) (λ_ _ _ _ _=>(W4 W3)) (λ_ _ _ _ _=>(Zwv (Z6m (xtp (Zg xci (xa1 xci))) (xv 1)))))) (xsq (xfr Xq rfl (Zhs (Zgy (by rfl) T.z_zip L2.B.boot_zip (Zg (xce G_pairs_of hr T.e_pairs_of (xa1 (xv 0))) (xa1 (xv 1))))) (xg2 rfl (xg 3 Wv.nd) (xg 4 Wv.nd)) (xsq (Zbx (Zbt 2 (xv 4) (xix (xv 3) xci) (xix (xv 3) xci) (λ_ _=>rfl))) (Zc (Zbx (Zbt 2 (xv 4) (xix (xv 3) xci) (xix (xv 3) xci) (λ_ _=>rfl)))))) (Zc (Zdw (Zd4 2)))))
theorem We:Zk ["n","cuts","weights","bottom","tops","sides","distances","i","j","parting"] ["n","cuts"] (Zi Zfq):=fsc
theorem Zni{f:Nat->Addr}{fd:Nat->XD}{cls:Nat->Addr}(T:Txt K mg f fd cls):FnOk P w K mg base CX0 4 (f 40) (fd 40) ["n","cuts"] (spD K (sD Y6)):=by
 have G_all_sides:=Zk0 (P:=P) (w:=w) (base:=base) T
 have G_fraction:=Zgs (P:=P) (w:=w) (base:=base) T
 have G_pairs_of:=Zhd (P:=P) (w:=w) (base:=base) T
 have G_shared_bottom:=Zb4 (P:=P) (w:=w) (base:=base) T
 have G_table_of_pairs:=Ze0 (P:=P) (w:=w) (base:=base) T
 have G_tops_over:=Zfx (P:=P) (w:=w) (base:=base) T
 refine Z5 T.e_table_of.F We (S:=Jw) rfl rfl (λcdv A outer s H E hr=>?_)
 have hu:=hr.units
 exact(xsq (Zjk (Zaf (i:=2) (own:=["weighted"]) (caps:=[]) (N':=["weighted"]) false We.nd rfl (Qn rfl) (by exact⟨rfl,by decide +kernel,rfl,by decide +kernel,rfl,rfl⟩) (by rfl) (by decide) (xil (xv 1)) (λ_ _ _ _ _=>(xg 0 (by show Qq (["weighted"]:List Str);decide +kernel))) (λ_ _ _ _ _=>(W4 W3)) (λ_ _ _ _ _=>(xix (xv 0) xci)))) (xsq (xst 3 We.nd (xce G_shared_bottom hr T.e_shared_bottom (xa1 (xv 2)))) (xsq (xst 4 We.nd (xce G_tops_over hr T.e_tops_over (Zg (xv 3) (xa1 (xv 2))))) (xsq (xst 5 We.nd (xce G_all_sides hr T.e_all_sides (Zg (xv 0) (xa1 (xv 1))))) (xsq (xso 6 We.nd (xls xa0)) (xsq (xfr Xq rfl (xil (xce G_pairs_of hr T.e_pairs_of (xa1 (xv 0)))) (xg2 rfl (xg 7 We.nd) (xg 8 We.nd)) (xsq (Zjk (Zaf (i:=9) (own:=["side","top"]) (caps:=[7,8]) (N':=["side","top","i","j"]) false We.nd rfl (Qn rfl) (by exact⟨rfl,by decide +kernel,rfl,by decide +kernel,rfl,rfl⟩) (by rfl) (by decide) (Zhs (Zgy (by rfl) T.z_zip L2.B.boot_zip (Zg (xv 5) (xa1 (xv 4))))) (λ_ _ _ _ _=>(xg2 rfl (xg 0 (by show Qq (["side","top","i","j"]:List Str);decide +kernel)) (xg 1 (by show Qq (["side","top","i","j"]:List Str);decide +kernel)))) (λ_ _ _ _ _=>(Zdt (xne hu (xix (xv 0) (xv 2)) (xix (xv 0) (xv 3))))) (λ_ _ _ _ _=>(xv 1)))) (Zc (Zea (Zef 6 (xce G_fraction hr T.e_fraction (Zg (Zdn Yas (Zi6 Z57 (Zr0 rfl (by rfl)) (by rfl) T.z_sum L2.B.boot_sum (xa1 (xv 9)))) (xa1 (xv 3))))))))) (Zc (Zr6 (Zte 6 (xrt (xce G_table_of_pairs hr T.e_table_of_pairs (Zg (xv 0) (xa1 (xv 6))))))))))))))
theorem Jk:Zk ["table","parted","rest","row","parted_row"] ["table"] (Zi Zcx):=fsc
theorem Zjp{f:Nat->Addr}{fd:Nat->XD}{cls:Nat->Addr}(T:Txt K mg f fd cls):FnOk P w K mg base CX0 8 (f 41) (fd 41) ["table"] (spD K (sD Y8)):=by
 have G_minus:=Zvu (P:=P) (w:=w) (base:=base) T
 have G_splits_of:=Zlz (P:=P) (w:=w) (base:=base) T
 have G_table_of:=Zni (P:=P) (w:=w) (base:=base) T
 refine Z5 T.e_rest_table.F Jk (S:=Zbd) rfl rfl (λcdv A outer s H E hr=>?_)
 exact(xsq (xst 1 Jk.nd (xce G_table_of hr T.e_table_of (Zg (xln T.z_len (xa1 (xv 0))) (xa1 (xce G_splits_of hr T.e_splits_of (xa1 (xv 0))))))) (xsq (xso 2 Jk.nd (xls xa0)) (xsq (xfr Xq rfl (Zhs (Zgy (by rfl) T.z_zip L2.B.boot_zip (Zg (xv 0) (xa1 (xv 1))))) (xg2 rfl (xg 3 Jk.nd) (xg 4 Jk.nd)) (Zc (Zp8 (Zo6 2 (Wr (Zck ["q","r"] [] ["q","r"] (Zhs (Zgy (by rfl) T.z_zip L2.B.boot_zip (Zg (xv 3) (xa1 (xv 4))))) (λ_ _ _ _ _=>(xg2 rfl (xg 0 (by show Qq (["q","r"]:List Str);decide +kernel)) (xg 1 (by show Qq (["q","r"]:List Str);decide +kernel)))) (λ_ _ _ _ _=>(W4 W3)) (λ_ _ _ _ _=>(xce G_minus hr T.e_minus (Zg (xv 0) (xa1 (xv 1))))))))))) (Zc (Zdw (Zd4 2))))))
theorem Zbc:Zk ["script","cell","deck","n","rows","bottom","table","left","due","handed","found","k"] ["script"] (Zi Zz7):=fsc
theorem Z35{f:Nat->Addr}{fd:Nat->XD}{cls:Nat->Addr}(T:Txt K mg f fd cls):FnOk P w K mg base CX0 9 (f 42) (fd 42) ["script"] (spD K (sD Zev)):=by
 have G_law_bottom:=Zke (P:=P) (w:=w) (base:=base) T
 have G_law_deck:=Znn (P:=P) (w:=w) (base:=base) T
 have G_law_good:=Zmw (P:=P) (w:=w) (base:=base) T
 have G_law_left:=Znc (P:=P) (w:=w) (base:=base) T
 have G_law_long:=Zns (P:=P) (w:=w) (base:=base) T
 have G_law_none_left:=Zf7 (P:=P) (w:=w) (base:=base) T
 have G_law_table:=Zkv (P:=P) (w:=w) (base:=base) T
 have G_law_take:=Zdy (P:=P) (w:=w) (base:=base) T
 have G_rest_table:=Zjp (P:=P) (w:=w) (base:=base) T
 refine Z5 T.e_law.F Zbc (S:=Zew) rfl rfl (λcdv A outer s H E hr=>?_)
 have hu:=hr.units
 exact(xsq (xfr Xq rfl (xil (Zm2 (Zgq Zph (Z13 (Zfa rfl) Ziq (xls (xa1 (Zrw xci xci))) (Z5g (Z3q (xv 0) (Zr4 Ztf) (Zry (Zs1 xci)))))))) (xg 1 Zbc.nd) (xsq (xso 2 Zbc.nd (xce G_law_deck hr T.e_law_deck (xa1 (xv 1)))) (xsq (xst 3 Zbc.nd (Zf8 xci (Y4 (W2 (i:=2) G_law_take (hr.mono (by decide)) (by rfl) T.e_law_take.m T.e_law_take.F.kp T.e_law_take.b Zby (xa1 xci))))) (xsq (xif (xeq hu (Y4 (W2 (i:=2) G_law_take (hr.mono (by decide)) (by rfl) T.e_law_take.m T.e_law_take.F.kp T.e_law_take.b Zby (xa1 xci))) xci) (Zc (xst 3 Zbc.nd xci)) xnl) (xsq (xst 4 Zbc.nd (Y4 (W2 (i:=2) G_law_long (hr.mono (by decide)) (by rfl) T.e_law_long.m T.e_law_long.F.kp T.e_law_long.b Zby (xa1 (xv 3))))) (xsq (xst 5 Zbc.nd (Y4 (W2 (i:=2) G_law_bottom (hr.mono (by decide)) (by rfl) T.e_law_bottom.m T.e_law_bottom.F.kp T.e_law_bottom.b Zby xa0))) (xsq (xst 6 Zbc.nd (xce G_law_table hr T.e_law_table (Zg (xv 4) (xa1 (xv 5))))) (xsq (xst 7 Zbc.nd (xce G_law_left hr T.e_law_left (xa1 (xv 4)))) (xsq (xst 8 Zbc.nd (xce G_law_table hr T.e_law_table (Zg (xv 7) (xa1 (Zig xci (xv 5)))))) (xsq (xst 9 Zbc.nd (xce G_law_table hr T.e_law_table (Zg (xv 4) (xa1 (xv 5))))) (xsq (xso 10 Zbc.nd (xce G_rest_table hr T.e_rest_table (xa1 (xv 9)))) (xsq (xif (MW.mt (Zi3 (Zj3 (xno (Zeu (Zeb (xce G_law_good hr T.e_law_good (Zg (xo 10) (xa1 (xv 8)))) (λ_=>rfl)))) (Zi3 (Zj3 (xne hu (xv 9) (xv 6)) (Zg3 (xno (Zeu (Zeb (xce G_law_none_left hr T.e_law_none_left (xa1 (xv 7))) (λ_=>rfl)))))))))) (Zc (xrt (Zpi Zmf))) xnl) (xsq (xfr Xq rfl (Zae (Zv (by rfl) T.z_range (xa1 (xv 3)))) (xg 11 Zbc.nd) (Zc (Zvf (Ztx 10 (xv 11) (xtp (Zg (xv 11) (xa1 xci))))))) (Zc (xif (MW.mt (Zi3 (Zj3 (xne hu (Zzn (Z2u 10 (Zqs (own:=["row"]) (caps:=[]) (N':=["row"]) (by exact⟨rfl,by decide +kernel,rfl,by decide +kernel,rfl,rfl⟩) (by rfl) (Zoa (K:=K) (by rfl) (pv 10)) (λ_ _ _ _ _=>(Zmy (i:=0) (by show Qq (["row"]:List Str);decide +kernel) (by rfl) (by first|exact Qn rfl|exact Qi rfl))) (λ_ _ _ _ _=>Zrg) (λ_ _ _ _ _=>(Zgc (Zk7 (K:=K) (by rfl)) (by rfl) T.z_len L2.B.boot_len (Zbs (pv 0) Zh1)))))) (Zwv (Z6m (Zf8 (xv 3) xci) (xv 3)))) (Zg3 (xno (Zeu (Zeb (xce G_law_good hr T.e_law_good (Zg (xce G_rest_table hr T.e_rest_table (xa1 (xv 9))) (xa1 (xv 8)))) (λ_=>rfl)))))))) (Zc (xrt (Zpi Zmf))) xnl))))))))))))))) (Zc (xrt (Zpi Zmf))))
theorem Zzi{f:Nat->Addr}{fd:Nat->XD}{cls:Nat->Addr}(T:Txt K mg f fd cls):FnOk P w K mg base CX0 9 (f 42) (fd 42) ["script"] (spD K Z5n):=(Z35 T).imp λvs H Q E q=>by
 obtain⟨L,ds,k,h1,⟨ns,e,hl,hk⟩,h3⟩:=q
 exact⟨L,ds,k,h1,⟨_,by rw[e];exact Zv5 ns hl,hk⟩,h3⟩
end
theorem Z2v{l:PySem.W.OpenLaw}{w:Qs}{K:Xb}{h:Heap}{mg:Str->Option Xc}{fa:Addr}(X:K.In h)(G:h.Ns XX mg)(hfa:mg "law"=some (.ref fa))
  (q1:Ei K "_law_take" Zfj f1 d1)
  (q2:Ei K "_law_bottom" Zc4 f2 d2)
  (q3:Ei K "_law_stir" Zfn f3 d3)
  (q4:Ei K "_law_deck" Ze8 f4 d4)
  (q5:Ei K "_law_good" Ze5 f5 d5)
  (q6:Ei K "_law_index" Zd2 f6 d6)
  (q7:Ei K "_law_sides" Zd8 f7 d7)
  (q8:Ei K "_law_left" Ze1 f8 d8)
  (q9:Ei K "_law_add_cut" Zbw f9 d9)
  (q10:Ei K "_law_nought" Zcq f10 d10)
  (q11:Ei K "_law_shortest" Za8 f11 d11)
  (q12:Ei K "_law_long" Zex f12 d12)
  (q13:Ei K "_law_none_left" Zas f13 d13)
  (q14:Ei K "_law_fraction" Za6 f14 d14)
  (q15:Ei K "_law_table" Zdq f15 d15)
  (q16:Ei K "greatest_divisor" Jp f16 d16)
  (q17:Ei K "in_least" Zft f17 d17)
  (q18:Ei K "minus" Zm7 f18 d18)
  (q19:Ei K "is_below" Zez f19 d19)
  (q20:Ei K "plus" Zqy f20 d20)
  (q21:Ei K "is_short_by" Zbz f21 d21)
  (q22:Ei K "first_short" Zb1 f22 d22)
  (q23:Ei K "check_long" Zcp f23 d23)
  (q24:Ei K "split_rule" Zc5 f24 d24)
  (q25:Ei K "all_cuts" Zfo f25 d25)
  (q26:Ei K "is_whole" Zfg f26 d26)
  (q27:Ei K "fraction" Ze7 f27 d27)
  (q28:Ei K "doubles_of" Zcl f28 d28)
  (q29:Ei K "three_sums" Zcj f29 d29)
  (q30:Ei K "least_over_sides" Jy f30 d30)
  (q31:Ei K "shared_bottom" Zam f31 d31)
  (q32:Ei K "table_bottom" Za7 f32 d32)
  (q33:Ei K "tops_over" Zdz f33 d33)
  (q34:Ei K "table_over" Zcr f34 d34)
  (q35:Ei K "weighted_by" Zbq f35 d35)
  (q36:Ei K "splits_of" Zdp f36 d36)
  (q37:Ei K "sides_of" Zfs f37 d37)
  (q38:Ei K "all_sides" Zdx f38 d38)
  (q39:Ei K "pairs_of" Zfb f39 d39)
  (q40:Ei K "table_of_pairs" J7 f40 d40)
  (q41:Ei K "table_of" Zfq f41 d41)
  (q42:Ei K "rest_table" Zcx f42 d42)
  (q43:Ei K "law" Zz7 f43 d43)
  (z0:QG K XX "abs"=some none)
  (z1:QG K XX "bool"=some none)
  (z2:QG K XX "enumerate"=some none)
  (z3:QG K XX "int"=some none)
  (z4:QG K XX "isinstance"=some none)
  (z5:QG K XX "len"=some none)
  (z6:QG K XX "list"=some none)
  (z7:QG K XX "max"=some none)
  (z8:QG K XX "min"=some none)
  (z9:QG K XX "range"=some none)
  (z10:QG K XX "sorted"=some none)
  (z11:QG K XX "sum"=some none)
  (z12:QG K XX "tuple"=some none)
  (z13:QG K XX "zip"=some none)
  (cc_NoNumber:QG K XX "NoNumber"=some (some (.ref C_NoNumber)))
  (cc_NoTable:QG K XX "NoTable"=some (some (.ref C_NoTable)))
  (x_NoNumber:Zey K C_NoNumber)
  (x_NoTable:Zey K C_NoTable)
  (r_NoNumber:Zt3 K C_NoNumber)
  (r_NoTable:Zt3 K C_NoTable)
  :∃fd:XD,(∀(s:Xd) (v:Xc),BindsTo s fd ⟨[v],[]⟩ [("script",v)])∧∀base:Heap,K.In base->base.Ns XX mg->FnOk l.prog w K mg base CX0 9 fa fd ["script"] (spD K Z5n):=by
 have e:=hfa.symm.trans (PySem.W.mg_of X G q43.a)
 cases e
 have T:Txt K mg (λk=>[f1,f2,f3,f4,f5,f6,f7,f8,f9,f10,f11,f12,f13,f14,f15,f16,f17,f18,f19,f20,f21,f22,f23,f24,f25,f26,f27,f28,f29,f30,f31,f32,f33,f34,f35,f36,f37,f38,f39,f40,f41,f42,f43].getD k 0) (λk=>[d1,d2,d3,d4,d5,d6,d7,d8,d9,d10,d11,d12,d13,d14,d15,d16,d17,d18,d19,d20,d21,d22,d23,d24,d25,d26,d27,d28,d29,d30,d31,d32,d33,d34,d35,d36,d37,d38,d39,d40,d41,d42,d43].getD k d43) (λk=>[C_NoNumber,C_NoTable].getD k 0):=⟨en2 X G q1,en1 X G q2,en2 X G q3,en1 X G q4,en2 X G q5,en2 X G q6,en1 X G q7,en1 X G q8,en3 X G q9,en1 X G q10,en1 X G q11,en2 X G q12,en1 X G q13,en2 X G q14,en2 X G q15,en2 X G q16,en2 X G q17,en2 X G q18,en2 X G q19,en2 X G q20,en4 X G q21,en1 X G q22,en1 X G q23,en1 X G q24,en1 X G q25,en1 X G q26,en2 X G q27,en1 X G q28,en5 X G q29,en3 X G q30,en1 X G q31,en1 X G q32,en2 X G q33,en2 X G q34,en2 X G q35,en1 X G q36,en2 X G q37,en2 X G q38,en1 X G q39,en2 X G q40,en2 X G q41,en1 X G q42,en1 X G q43,q24.a,Qt X G z0,Qt X G z1,Qt X G z2,Qt X G z3,Qt X G z4,Qt X G z5,Qt X G z6,Qt X G z7,Qt X G z8,Qt X G z9,Qt X G z10,Qt X G z11,Qt X G z12,Qt X G z13,ec X G cc_NoNumber,ec X G cc_NoTable,x_NoNumber,x_NoTable,r_NoNumber,r_NoTable⟩
 refine⟨d43,λs v=>?_,λbase _ _=>Zzi (P:=l.prog) (w:=w) (base:=base) T⟩
 obtain⟨_,_,_,_,_,_,_,_,_,rfl,_,_⟩:=q43.F.ex
 exact .of_eq rfl
theorem walk{l:PySem.W.OpenLaw}{q:X4}{loose:List Str}{XP:(Str->Option Xc)->Heap->Prop}{YP:Qs->Heap->Prop}{d:DefRec}{K:Params->Xb}(hn:l.most=some 63)(hdf:d.params.defaults=[])
  (hY:∀(w:Qs) (h:Heap),YP w h->(K w.params).In h)
  (F:∀(w:Qs) (mg:Str->Option Xc) (fa:Addr) (h:Heap),(K w.params).In h->h.Ns XX mg->mg d.name=some (.ref fa) ->
   ∃fd:XD,(∀(s:Xd) (u:Xc),BindsTo s fd ⟨[u],[]⟩ [("script",u)])∧∀base:Heap,(K w.params).In base->base.Ns XX mg->FnOk l.prog w (K w.params) mg base CX0 9 fa fd ["script"] (spD (K w.params) Z5n)) :
  PySem.W.WalkO q loose XP YP l.row.toRowW d [] (λf vs=>PySem.call f vs) :=
 L2.Z01 (n:=63) (k:=9) (x :="script") (CX:=λ_=>CX0) (sp:=λw=>spD (K w.params) Z5n) hn (by decide) hdf ⟨rfl,by decide,by decide⟩ hY F (λ_ _ a ns hl _ hS=>Z4e hl hS) λ_ _ _ _ _ z=>z
end My
open PySem PySem.W PyProof.Rows
theorem PySem.W.Fast.tw6712649768443326626:True:=trivial
theorem PySem.W.Fast.tw5609310192991404279:True:=trivial
theorem PySem.W.Fast.tw6230490730267538192:True:=trivial
theorem PySem.W.Fast.tw1214062823934595506:True:=trivial
theorem PySem.W.Fast.tw5239591539625951175:True:=trivial
theorem PySem.W.Fast.tw9887679056108119678:True:=trivial
theorem PySem.W.Fast.tw9488115087499441813:True:=trivial
theorem PySem.W.Fast.tw571879725519233751:True:=trivial
theorem PySem.W.Fast.tw8747974519915283608:True:=trivial
theorem PySem.W.Fast.tw13112215893478045244:True:=trivial
theorem PySem.W.Fast.tw18376369315425709489:True:=trivial
theorem PySem.W.Fast.tw9288466890253911965:True:=trivial
theorem PySem.W.Fast.tw12152805512696280426:True:=trivial
theorem PySem.W.Fast.tw9447554619165810479:True:=trivial
theorem PySem.W.Fast.tw9090456798273427284:True:=trivial
theorem PySem.W.Fast.tw10358544347751786644:True:=trivial
theorem PySem.W.Fast.tw12317341986434197365:True:=trivial
theorem PySem.W.Fast.tw9855714195032066648:True:=trivial
theorem PySem.W.Fast.tw10542620697803798678:True:=trivial
theorem PySem.W.Fast.tw6636152304637268321:True:=trivial
set_option maxRecDepth 100000 in
set_option maxHeartbeats 0 in
theorem PySem.Challenge.cw_farcuts_k48_rests_holds : PySem.Challenge.rw_farcuts_k48_rests.Holds := by
 w_on;o_law;k_head;(case hw=>w_witness2)
 k_fill
 refine My.walk (l:=PySem.Challenge.rw_farcuts_k48_rests) rfl rfl (λw h Y=>PySem.W.kIn_of Y) ?F
 case F=>
  intro w mg fa h KX G hmg
  refine' My.Z2v KX G hmg ?_ ?_ ?_ ?_ ?_ ?_ ?_ ?_ ?_ ?_ ?_ ?_ ?_ ?_ ?_ ?_ ?_ ?_ ?_ ?_ ?_ ?_ ?_ ?_ ?_ ?_ ?_ ?_ ?_ ?_ ?_ ?_ ?_ ?_ ?_ ?_ ?_ ?_ ?_ ?_ ?_ ?_ ?_ ?_ ?_ ?_ ?_ ?_ ?_ ?_ ?_ ?_ ?_ ?_ ?_ ?_ ?_ ?_ ?_ ?_ ?_ ?_ ?_
  all_goals try (first|(refine' ⟨?a,L2.Z5s ?l ?c ?k⟩;(case a=>k_is);(case l=>k_is);(case c=>k_is);(case k=>k_is))|k_is|kit_is|(show PySem.W.excIn _ _ _ _=true;k_exc)|(refine' ⟨?_,?_,?_,?_,?_,?_,?_,?_,?_,?_,?_⟩<;>first|k_is|kit_is|(show PySem.W.isClsIn _ _=true;k_is)))
#print axioms PySem.Challenge.cw_farcuts_k48_rests_holds
