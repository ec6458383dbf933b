import PyProof.Rows.All
import Wide.All
import OpenK.AllK
import Wide.FinOn
import PyProof.EqAt
import PyProof.EqKinds
import PyProof.TupleCall
import PyProof.P3In
import PyProof.ZipIter
import PyProof.ListRange
import PyProof.SetRoads
import PyProof.Rows.SetFrom
import PyProof.Rows.SeqMore2
import KE.RegKIsAll
import PySem.Challenge.RW_farcuts_k18_whole_hung_cuts
set_option Elab.async false
set_option linter.all false
set_option maxRecDepth 100000
/-! THE HAND LAYER, for ints, bools, texts, own classes, LISTS and tuples (index, slices, in, append, pop ..), calls, loops. Paste it whole ahead of your own text; what your proof does not reach may be deleted. -/
open Array renaming length_toList->Qc,getElem?_toList->QK,getElem?_eq_some_iff->V6
open Bool renaming false_eq_true->XC,false_ne_true->XH,and_eq_true->XM,not_true->Vb,eq_false_iff->Vz,eq_iff_iff->Um
open False renaming elim->Vt
open ForInStep renaming yield->Br
open Int renaming toNat_natCast->QL,gcd->By,le_trans->Vf,natCast_nonneg->Vw,lt_of_le_of_lt->V0,gcd_eq_natAbs_gcd_natAbs->V2,natAbs_ediv_le_natAbs->Ug,ofNat_lt->UG
open List renaming length_map->Xe,mem_singleton->Xj,range->Xk,getElem?_map->Xl,getElem?_eq_some_iff->Xo,mem_cons->Xp,mem_append->Xq,length_range->Xw,map_append->Xy,mem_map->XF,getElem?_eq_getElem->XJ,mem_append_right->X6,map_congr_left->X7,size_toArray->Qa,length_append->Qd,replicate->Qg,getD_eq_getElem?_getD->Ql,mem_of_getElem?->Qo,map_map->Qs,mem_range->Qt,map_cons->Qu,nodup_cons->QB,getElem?_set_ne->QM,append_nil->QS,Nodup->QT,getElem?_eq_none->QZ,lookup_cons->Q5,length_cons->Q6,zip->Q9,getElem?_eq_none_iff->JB,getElem?_set_self->JF,getElem?_range->Be,mem_append_left->Bk,getElem?_of_mem->Bl,all_eq_true->Bm,take_succ->Bv,getElem?_append_right->Bw,mem_filter->BJ,drop_eq_getElem_cons->BL,take_length->BW,nodup_append->Vg,append_assoc->Vh,length_filter_le->Vu,sum_cons->VF,replicate_succ->VH,length_drop->VJ,map_nil->VM,drop_eq_nil_of_le->VN,perm_ext_iff_of_nodup->V8,length_take_le'->V9,getElem?_append_left->Uc,filterMap_cons->Ue,nil_append->Uj,length_set->Uk,length_nil->Ul,filter_append->Uq,filter_cons_of_pos->Us,filter_cons_of_neg->Ut,toArray->Uw,take_of_length_le->Ux,flatten_cons->Uy,length_replicate->UT,getElem?_toArray->UV,contains_iff_mem->UW,not_mem_nil->U3,isEmpty_nil->U4
open Nat renaming le_trans->Xz,ne_of_lt->XQ,lt_of_lt_of_le->X4,le_refl->Qp,lt_succ_self->Qz,zero_le->QC,ne_of_gt->Q3,lt_succ_of_lt->Q8,lt_of_le_of_lt->JW,succ_le_succ->Bp,zero_add->Vd,lt_irrefl->Ve,le_add_right->Vs,le_succ_of_le->VB,le_of_lt->VD,lt_trans->VR,not_lt_zero->V1,le_of_ble_eq_true->U0
open Ne renaming symm->Vr
open Option renaming bind_some->Xh,map_eq_some_iff->Vl,some->Vn
open Option.some renaming inj->QQ
open Or renaming inl->QF,inr->QJ
open PyProof.Rows renaming callWith_type1->JH,IntsAre->BZ,KeysIn->Vk,seqObj->Vp,callWith_builtin1->Uo
open PyProof.Rows.F renaming plain_set_update_loop->Vm,entry_set_update_loop->Uz
open PySem renaming PyData->Xa,wpAny_bind->Xb,Value->Xc,Shared->Xg,wpAny_pure->Xi,starEach->Xn,sizeLine->Xr,wpAny->Xu,mainGlobals->XD,model->X5,bootBuiltins->X8,sizeLine_eq->Qh,Program->Qj,bindArgs->Qm,FuncData->Qn,Around->Qv,World->Qy,wpAny_mono->QG,wpAny_setField_rec->QX,SetTable->Q0,wpAny_loadPart'->Q7,wpAny_newObj_type->JD,compareOp->JK,rawInt->JL,wpAny_holding->JM,wpAny_call_entry->JN,backTo->JP,assignEach->JQ,wpAny_setState_of->JV,wpAny_callSpecial?_slot->JX,wpAny_field->JZ,wpAny_Call_Name_kw->Ba,wpAny_passesOwn->Bb,codeAny_builtin->Bc,wpAny_seqItems->Bj,mem_of_lookup->Bu,foldedSetIterable->BK,cellsFrom->BP,Builtin->Va,NameKind->Vj,wpAny_truthy_bool->Vo,IsPair->Vv,pushCells->Vx,intKind->VL,swapsWith->VP,plainId_quiet->V7,pyNext->Ua,wpAny_rule->Uh,codeAny_mono->Ui,wpAny_setEntries_of->Ur,binaryOp->Uu,scanBound->UJ,wpAny_loadPart_at->U5,firstArgMember->U6,codeAny->U7,cLine->U8,assign->U9
open PySem.Around renaming under_plainId->JT
open PySem.Builtin.Int renaming intBits->Bo
open PySem.Builtin.SmallTypes renaming nextOf->QV,ownedTupleIsFree->BV
open PySem.F renaming called_set->JR
open PySem.Heap renaming get?_push_of_some->Xf,get?_push_size->Xv,lt_size->Xx,size_push->Qx,SameBut->Bh,get?_update_self->V4
open PySem.Heap.SameBut renaming update->JC
open PySem.NameKind renaming free->Q4,cell->BR
open PySem.Obj renaming mapSeq->Bx
open PySem.PassesOwn renaming never->Qw
open PySem.PyData renaming int->Xm,eqv->QR,list->Bd,canLayAll0->Bq,canLay0->Vq
open PySem.SeqAt renaming EqAt->Bs,shaped->BX,canLay_of_shaped->Uv
open PySem.SetTable renaming below->QW,insertAt->Vc,grown->V3
open PySem.SetTable.probe renaming go->VG
open PySem.Str renaming ofString->Ub
open PySem.Value renaming ref->XX,none->QD,int->Vy
open PySem.W renaming Frag->Xd,nsIn->XN,kitOne->XR,keepIn->X3,codeIn->Qe,fnOf->Qi,mg_of->Qk,findIn->Qq,mg_none_of->QH,kia_one->JG,subIn->JS,Looks->Bf,hideAll->Bg,hideAll_none->V5,isClsIn->Ud,excIn->UL
open Rat renaming divInt->Vi
namespace L2
open PySem PySem.Spec PyProof.Rows
noncomputable abbrev Key:=Sum Int Str
noncomputable def Z22:Key->Xc->Bool
 | .inl k,v=>Xc.isInt k v
 | .inr x,v=>Xc.isStrOf x v
noncomputable def Ydr(w:Qy):Key->Int
 | .inl k=>hashInt k
 | .inr x=>hashStr w x
theorem Y9:∀{k:Key} {v:Xc},Z22 k v=true->(∃i t,k=Sum.inl i∧v=Vy i t)∨(∃x t,k=Sum.inr x∧v=Value.str x t)
 | .inl i,v,h=>by
  obtain⟨t,e⟩:=Value.isInt_shape (k:=i) (v:=v) h
  exact .inl ⟨i,t,rfl,e⟩
 | .inr x,v,h=>by
  obtain⟨t,e⟩:=Xc.isStrOf_shape (x:=x) (v:=v) h
  exact .inr ⟨x,t,rfl,e⟩
theorem Z5e(a b:Int):decide ((Sum.inl a:Key)=Sum.inl b)=(a==b):=by
 by_cases e:a=b
 ·subst e;simp
 ·have h:¬(Sum.inl a:Key)=Sum.inl b:=λq=>e (Sum.inl.inj q)
  rw[decide_eq_false h]
  exact(beq_eq_false_iff_ne.mpr e).symm
theorem Z6p(a b:Str):decide ((Sum.inr a:Key)=Sum.inr b)=decide (a=b):=by
 by_cases e:a=b
 ·subst e;simp
 ·have h:¬(Sum.inr a:Key)=Sum.inr b:=λq=>e (Sum.inr.inj q)
  rw[decide_eq_false h,decide_eq_false e]
theorem Z6d(a:Int)(b:Str):decide ((Sum.inl a:Key)=Sum.inr b)=false:=decide_eq_false (λq=>nomatch q)
theorem Z6y(a:Str)(b:Int):decide ((Sum.inr a:Key)=Sum.inl b)=false:=decide_eq_false (λq=>nomatch q)
noncomputable def Zlo(prog:Qj)(w:Qy):PySem.KeyKind prog w Key where
 is:=Z22
 hash:=Ydr w
 inj:=λv a b ha hb=>by
  rcases Y9 ha with⟨i,t,rfl,rfl⟩|⟨x,t,rfl,rfl⟩
  ·rcases Y9 hb with⟨j,u,rfl,e⟩|⟨y,u,rfl,e⟩
   ·injection e with e1 _;rw[e1]
   ·exact nomatch e
  ·rcases Y9 hb with⟨j,u,rfl,e⟩|⟨y,u,rfl,e⟩
   ·exact nomatch e
   ·injection e with e1 _;rw[e1]
 byValue:=λk v h=>by
  rcases Y9 h with⟨i,t,rfl,rfl⟩|⟨x,t,rfl,rfl⟩<;>rfl
 pyHash:=λhv h=>by
  rcases Y9 hv with⟨i,t,rfl,rfl⟩|⟨x,t,rfl,rfl⟩
  ·exact wpAny_pyHash_int h
  ·exact wpAny_pyHash_str h
 eqBool:=λhu hv h=>by
  rcases Y9 hu with⟨i,t,rfl,rfl⟩|⟨x,t,rfl,rfl⟩
  ·rcases Y9 hv with⟨j,u,rfl,rfl⟩|⟨y,u,rfl,rfl⟩
   ·rw[Z5e]at h;exact wpAny_eqBool_int h
   ·rw[Z6d]at h;exact SeqAt.EqAt.int_str i t y u _ _ _ _ h
  ·rcases Y9 hv with⟨j,u,rfl,rfl⟩|⟨y,u,rfl,rfl⟩
   ·rw[Z6y]at h;exact SeqAt.EqAt.str_int x t j u _ _ _ _ h
   ·rw[Z6p]at h;exact wpAny_eqBool_str h
 «strs»:=λk x t v h=>by
  rcases Y9 h with⟨i,u,rfl,e⟩|⟨y,u,rfl,e⟩
  ·exact nomatch e
  ·injection e with e1 _
   subst e1
   cases v<;>rfl
inductive V where
 | non|bl (b:Bool)|int (i:Int)|str (x:Str)|byt (b:Array UInt8)|flt (b:UInt64)|ref (a:Addr)|ty (n:String)
 deriving DecidableEq
noncomputable def RelV:V->Xc->Prop
 | .non,u=>u=QD
 | .bl b,u=>u=Value.bool b
 | .int i,u=>∃t,u=Vy i t
 | .str x,u=>∃t,u=Value.str x t
 | .byt b,u=>∃t,u=Xc.bytes b t
 | .flt b,u=>∃t,u=Xc.float b t
 | .ref a,u=>u=XX a
 | .ty n,u=>u=Value.type n
noncomputable abbrev Vals:List V->List Xc->Prop:=Paired RelV
theorem Vals.length{xs:List V}{us:List Xc}(r:Vals xs us):xs.length=us.length:=Paired.length r
theorem Vals.get{xs:List V}{us:List Xc}{i:Nat}{x:V}(h:Vals xs us)(e:xs[i]? =some x):∃u,us[i]? =some u∧RelV x u:=by
 induction h generalizing i with
 | nil=>exact(Option.some_ne_none _ (e.symm.trans List.getElem?_nil)).elim
 | cons r t ih=>
  cases i with
  | zero=>exact⟨_,rfl,QQ e▸r⟩
  | succ i=>exact ih e
theorem Vals.set{x:V}{u:Xc}(r:RelV x u){xs:List V}{us:List Xc}(i:Nat)(h:Vals xs us):Vals (xs.set i x) (us.set i u):=by
 induction h generalizing i with
 | nil=>exact .nil
 | cons q t ih=>
  cases i with
  | zero=>exact .cons r t
  | succ i=>exact .cons q (ih i)
theorem Vals.append{xs ys:List V}{us ws:List Xc}(h:Vals xs us)(s:Vals ys ws):Vals (xs ++ ys) (us ++ ws):=by
 induction h with
 | nil=>exact s
 | cons r t ih=>exact .cons r ih
theorem Vals.take{xs:List V}{us:List Xc}(n:Nat)(h:Vals xs us):Vals (xs.take n) (us.take n):=by
 induction h generalizing n with
 | nil=>rw[List.take_nil,List.take_nil];exact .nil
 | cons r t ih=>
  cases n with
  | zero=>exact .nil
  | succ n=>exact .cons r (ih n)
theorem Vals.drop{xs:List V}{us:List Xc}(n:Nat)(h:Vals xs us):Vals (xs.drop n) (us.drop n):=by
 induction h generalizing n with
 | nil=>rw[List.drop_nil,List.drop_nil];exact .nil
 | cons r t ih=>
  cases n with
  | zero=>exact .cons r t
  | succ n=>exact ih n
noncomputable def Z9x:Option V->Option Xc->Prop
 | some v,some u=>RelV v u
 | none,none=>True
 | _,_=>False
noncomputable def KV{κ:Type}:List (κ×V)->List (κ×Xc)->Prop:=Paired λ(p:κ×V) (q:κ×Xc)=>p.1=q.1∧RelV p.2 q.2
noncomputable def kV:Key->V
 | .inl i=>.int i
 | .inr x=>.str x
inductive HO where
  | lst (xs:List V)
  | tup (xs:List V)
  | dK (kvs:List (Key×V))|dT (kvs:List (List Key×V))
  | set (S:Int->Bool) (n:Nat)
  | ins (C dx:Addr) (fs:List (Str×V))
  | own (x:Addr)
  | xd (fs:List (Str×V))
  | met (f x:Addr)
  | rng (lo hi:Int)
  | frz (o:Obj) (u:HO)
  | tbl (ps:Array Xc)
  | ext (φ:Heap->Prop)
noncomputable abbrev Hp:=Addr->Option HO
noncomputable def upd(H:Hp)(a:Addr)(o:HO):Hp:=λb=>if b=a then some o else H b
theorem Z8{H:Hp}{a:Addr}{o:HO}:upd H a o a=some o:=by unfold upd;rw[if_pos rfl]
theorem Zz{H:Hp}{a b:Addr}{o:HO}(h:b≠a):upd H a o b=H b:=by unfold upd;rw[if_neg h]
theorem Y5{H:Hp}{a b:Addr}{o:HO}(h:H a=some o)(h':H b=none):a≠b:=by
 intro e;subst e;rw[h]at h';cases h'
section
variable (P:Qj)(w:Qy)
noncomputable def ObjOk(H:Hp)(h:Heap)(a:Addr):HO->Prop
 | .lst xs=>xs.length≤Xr∧∃(its:List Xc) (n:Nat),Vals xs its∧h.get? a=some { cls:=.type "list",data:=.seq its.toArray n }
 | .tup xs=>xs.length≤Xr∧∃its:List Xc,Vals xs its∧IsTup h a its.toArray
 | .dK kvs=>kvs.length≤Xr∧(a==sysModules)=false∧∃vs,KV kvs vs∧h.DictOf (Zlo P w) a vs
 | .dT kvs=>kvs.length≤Xr∧(a==sysModules)=false∧∃xs:List (List Key×Addr×Xc),
   Paired (λ(p:List Key×V) (q:List Key×Addr×Xc)=>p.1=q.1∧H q.2.1=some (.tup (p.1.map kV))∧RelV p.2 q.2.2) kvs xs∧
   ∃o es ep,h.get? a=some o∧o.ExactDict∧o.data= .dict es ep∧es.toList=xs.map (entryOfKey (tupleKind (Zlo P w)))∧(xs.map (·.1)).Nodup
 | .set S n=>h.SetOf (VL P w) a S n
 | .ins C dx fs=>H dx=some (.own a)∧fs.length≤1000∧dx≠a∧h.get? a=some (PySem.W.instObj C dx)∧
   ∃mA,h.Ns1 dx mA∧(∀f,Z9x (fs.lookup f) (mA f))∧PySem.Within mA (fs.map (·.1))
 | .own _=>∃o,h.get? a=some o
 | .xd fs=>∃mA,h.Ns1 a mA∧∀f,Z9x (fs.lookup f) (mA f)
 | .rng lo hi=>∃t u v,h.get? a=some { cls:=.type "range",data:=.fields #[.int lo t,.int hi u,.int 1 v] }
 | .frz o u=>h.get? a=some o∧ObjOk H h a u
 | .tbl ps=>h.get? a=some { cls:=.none,data:=.fields ps }
 | .met f x=>h.get? a=some (PySem.W.methodObj (.ref f) (.ref x))
 | .ext φ=>φ h∧(∃o,h.get? a=some o)∧∀h1 h2:Heap,φ h1->(∀o,h1.get? a=some o->h2.get? a=some o)->φ h2
noncomputable def HOk(H:Hp)(h:Heap):Prop:=∀a o,H a=some o->ObjOk P w H h a o
end
section
variable {P:Qj}{w:Qy}{H H':Hp}{h h':Heap}{a:Addr}{o:HO}
theorem ObjOk.lt(x:ObjOk P w H h a o):a<h.objs.size:=by
 cases o with
 | lst xs=>obtain⟨_,_,_,_,e⟩:=x;exact Xx e
 | tup xs=>obtain⟨_,_,_,p⟩:=x;exact p.lt
 | dK kvs=>obtain⟨_,_,_,_,o,_,_,e,_⟩:=x;exact Xx e
 | dT kvs=>obtain⟨_,_,_,_,o,_,_,e,_⟩:=x;exact Xx e
 | set S n=>obtain⟨o,_,_,_,e,_⟩:=x;exact Xx e
 | ins C dx fs=>obtain⟨_,_,_,e,_⟩:=x;exact Xx e
 | own y=>obtain⟨_,e⟩:=x;exact Xx e
 | xd fs=>obtain⟨_,⟨_,_,_,e,_⟩,_⟩:=x;exact Xx e
 | rng lo hi=>obtain⟨_,_,_,e⟩:=x;exact Xx e
 | frz ob u=>obtain⟨e,_⟩:=x;exact Xx e
 | tbl ps=>exact Xx (show h.get? a=some _ from x)
 | met f y=>exact Xx (show h.get? a=some _ from x)
 | ext φ=>obtain⟨_,⟨_,e⟩,_⟩:=x;exact Xx e
theorem Paired.mapP{α β:Type}{F G:α->β->Prop}{l₁:List α}{l₂:List β}(h:Paired F l₁ l₂)(f:∀a b,F a b->G a b):Paired G l₁ l₂:=by
 induction h with
 | nil=>exact .nil
 | cons r t ih=>exact .cons (f _ _ r) ih
theorem ObjOk.stay(x:ObjOk P w H h a o)(k:∀b u,(b=a∨H b=some (.own a))->h.get? b=some u->h'.get? b=some u)
  (ho:∀b,H b=some (.own a)->H' b=some (.own a)) (ht:∀b xs,H b=some (.tup xs)->H' b=some (.tup xs)):ObjOk P w H' h' a o:=by
 induction o with
 | lst xs=>obtain⟨z,its,n,r,e⟩:=x;exact⟨z,its,n,r,k _ _ (.inl rfl) e⟩
 | tup xs=>obtain⟨z,its,r,ob,e,c⟩:=x;exact⟨z,its,r,ob,k _ _ (.inl rfl) e,c⟩
 | dK kvs=>obtain⟨z,y,vs,r,ob,es,ep,e,c⟩:=x;exact⟨z,y,vs,r,ob,es,ep,k _ _ (.inl rfl) e,c⟩
 | dT kvs=>
  obtain⟨z,y,xs,r,ob,es,ep,e,c⟩:=x
  exact⟨z,y,xs,Paired.mapP r λp q z=>⟨z.1,ht _ _ z.2.1,z.2.2⟩,ob,es,ep,k _ _ (.inl rfl) e,c⟩
 | set S n=>obtain⟨ob,es,ep,t,e,c⟩:=x;exact⟨ob,es,ep,t,k _ _ (.inl rfl) e,c⟩
 | ins C dx fs=>
  obtain⟨d,z,ne,e,mA,⟨od,es,ep,e2,c⟩,r⟩:=x
  exact⟨ho _ d,z,ne,k _ _ (.inl rfl) e,mA,⟨od,es,ep,k _ _ (.inr d) e2,c⟩,r⟩
 | own y=>obtain⟨ob,e⟩:=x;exact⟨ob,k _ _ (.inl rfl) e⟩
 | xd fs=>obtain⟨mA,⟨od,es,ep,e,c⟩,r⟩:=x;exact⟨mA,⟨od,es,ep,k _ _ (.inl rfl) e,c⟩,r⟩
 | rng lo hi=>obtain⟨t,u,v,e⟩:=x;exact⟨t,u,v,k _ _ (.inl rfl) e⟩
 | frz ob u ih=>obtain⟨e,q⟩:=x;exact⟨k _ _ (.inl rfl) e,ih q⟩
 | tbl ps=>
  have e:h.get? a=some { cls:=.none,data:=.fields ps }:=x
  show h'.get? a=some { cls:=.none,data:=.fields ps }
  exact k a _ (.inl rfl) e
 | met f y=>
  have e:h.get? a=some (PySem.W.methodObj (.ref f) (.ref y)):=x
  show h'.get? a=some (PySem.W.methodObj (.ref f) (.ref y))
  exact k a _ (.inl rfl) e
 | ext φ=>obtain⟨p,⟨o,e⟩,st⟩:=x;exact⟨st _ _ p λo q=>k _ _ (.inl rfl) q,⟨o,k _ _ (.inl rfl) e⟩,st⟩
theorem HOk.lt(x:HOk P w H h)(e:H a=some o):a<h.objs.size:=(x a o e).lt
theorem HOk.fresh(x:HOk P w H h)(e:h.objs.size≤a):H a=none:=by
 cases q:H a with
 | none=>rfl
 | some u=>exact absurd (X4 (x.lt q) e) (Ve _)
theorem HOk.kept(x:HOk P w H h)(k:∀b u,h.get? b=some u->h'.get? b=some u):HOk P w H h':=λa o e=>
 (x a o e).stay (λb u _ q=>k b u q) (λ_ q=>q) λ_ _ q=>q
theorem HOk.laid(x:HOk P w H h)(k:∀b u,h.get? b=some u->h'.get? b=some u)(hp:h.objs.size≤a)(new:ObjOk P w (upd H a o) h' a o):HOk P w (upd H a o) h':=λb u e=>by
 have hn:=x.fresh hp
 by_cases hb:b=a
 ·subst hb;rw[Z8]at e;cases e;exact new
 ·rw[Zz hb]at e
  exact(x b u e).stay (λc v _ q=>k c v q) (λc q=>by rw[Zz (Y5 q hn)];exact q) λc xs q=>by rw[Zz (Y5 q hn)];exact q
end
noncomputable def Rd(H:Hp)(a:Addr)(u:HO):Prop:=H a=some u∨∃o,H a=some (.frz o u)
theorem Rd.ok{P:Qj}{w:Qy}{H:Hp}{h:Heap}{a:Addr}{u:HO}(r:Rd H a u)(x:HOk P w H h):ObjOk P w H h a u:=by
 rcases r with r|⟨o,r⟩
 ·exact x a u r
 ·obtain⟨_,q⟩:=x a _ r
  exact q
noncomputable def Mut:Option HO->Prop
 | some (.lst _)=>True
 | some (.dK _)=>True
 | some (.dT _)=>True
 | some (.set _ _)=>True
 | some (.ins _ _ _)=>True
 | some (.ext _)=>True
 | _=>False
section
variable {P:Qj}{w:Qy}{H:Hp}{h h':Heap}{x e:Addr}{o':HO}
theorem HOk.write(ok:HOk P w H h)(mu:Mut (H x))(he:e=x∨H e=some (.own x))(k:∀b u,b≠e->h.get? b=some u->h'.get? b=some u)(heo:∃u,h'.get? e=some u)
  (new:ObjOk P w (upd H x o') h' x o'):HOk P w (upd H x o') h':=λb u q=>by
 have nown:∀c y,H c=some (.own y)->c≠x:=λc y r z=>by subst z;rw[r]at mu;exact mu
 have ntup:∀c xs,H c=some (.tup xs)->c≠x:=λc xs r z=>by subst z;rw[r]at mu;exact mu
 by_cases hb:b=x
 ·subst hb;rw[Z8]at q;cases q;exact new
 ·rw[Zz hb]at q
  by_cases hbe:b=e
  ·have q':H b=some (.own x):=by
    rcases he with z|z
    ·exact absurd (hbe.trans z) hb
    ·rw[hbe];exact z
   rw[q]at q';cases q'
   obtain⟨v,hv⟩:=heo
   exact⟨v,by rw[hbe];exact hv⟩
  ·refine(ok b u q).stay (λc v hc r=>k c v ?_ r) (λc r=>by rw[Zz (nown c b r)];exact r) λc xs r=>by rw[Zz (ntup c xs r)];exact r
   rcases hc with rfl|hc
   ·exact hbe
   ·rintro rfl
    rcases he with z|z
    ·exact nown c b hc z
    ·rw[hc]at z;cases z;exact hb rfl
end
structure Un(fs ex:List Addr)(H H':Hp)(h h':Heap):Prop where
 keep:∀b o,h.get? b=some o->H b=none->b∉fs->b∉ex->h'.get? b=some o
 slot:∀b o,h.get? b=some o->H b=none->b∈fs->b∉ex->∃sl,h'.get? b=some { o with slots:=sl }
 free:∀b o,h.get? b=some o->H b=none->b∉ex->H' b=none
 there:∀b o,h.get? b=some o->b∉ex->∃o',h'.get? b=some o'
 tups:∀b xs,H b=some (.tup xs)->H' b=some (.tup xs)
 frzs:∀b o u,H b=some (.frz o u)->H' b=some (.frz o u)
 tbls:∀b ps,H b=some (.tbl ps)->∃more,H' b=some (.tbl (ps ++ more))
section
variable {fs fs' ex ex':List Addr}{H H1 H2:Hp}{h h1 h2 h':Heap}{a x e:Addr}{o:HO}
theorem Un.any(u:Un fs ex H H1 h h1){b:Addr}{ob:Obj}(q:h.get? b=some ob)(n:H b=none)(hx:b∉ex):∃sl,h1.get? b=some { ob with slots:=sl }:=by
 by_cases hb:b∈fs
 ·exact u.slot b ob q n hb hx
 ·exact⟨ob.slots,u.keep b ob q n hb hx⟩
theorem Un.kept(k:∀b u,h.get? b=some u->h'.get? b=some u):Un fs ex H H h h' :=
 ⟨λb ob q _ _ _=>k b ob q,λb ob q _ _ _=>⟨ob.slots,k b ob q⟩,λ_ _ _ n _=>n,λb ob q _=>⟨ob,k b ob q⟩,λ_ _ q=>q,λ_ _ _ q=>q,λ_ ps q=>⟨#[],by rw[q];simp⟩⟩
theorem Un.refl:Un fs ex H H h h:=Un.kept λ_ _ q=>q
theorem Un.laid(k:∀b u,h.get? b=some u->h'.get? b=some u)(hp:h.objs.size≤a)(hn:H a=none):Un fs ex H (upd H a o) h h' where
 keep:=λb u q _ _ _=>k b u q
 slot:=λb u q _ _ _=>⟨u.slots,k b u q⟩
 free:=λb u q n _=>by rw[Zz (XQ (X4 (Xx q) hp))];exact n
 there:=λb u q _=>⟨u,k b u q⟩
 tups:=λb xs q=>by rw[Zz (Y5 q hn)];exact q
 frzs:=λb u xs q=>by rw[Zz (Y5 q hn)];exact q
 tbls:=λb ps q=>⟨#[],by rw[Zz (Y5 q hn),q];simp⟩
theorem Un.write(mu:Mut (H x))(he:e=x∨H e=some (.own x))(k:∀b u,b≠e->h.get? b=some u->h'.get? b=some u)(heo:∃u,h'.get? e=some u):Un fs ex H (upd H x o) h h':=by
 have hx:∀b,H b=none->b≠x:=λb n z=>by subst z;rw[n]at mu;exact mu
 have hb:∀b,H b=none->b≠e:=λb n z=>by
  subst z
  rcases he with r|r
  ·exact hx b n r
  ·rw[n]at r;cases r
 have hm:∀b u,H b=some u->¬Mut (some u)->b≠x:=λb u q nm z=>by subst z;rw[q]at mu;exact nm mu
 refine⟨λb u q n _ _=>k b u (hb b n) q,λb u q n _ _=>⟨u.slots,k b u (hb b n) q⟩,λb u q n _=>by rw[Zz (hx b n)];exact n,λb u q _=>?_,
  λb xs q=>by rw[Zz (hm b _ q λz=>z)];exact q,λb u xs q=>by rw[Zz (hm b _ q λz=>z)];exact q,λb ps q=>⟨#[],by rw[Zz (hm b _ q λz=>z),q];simp⟩⟩
 by_cases hbe:b=e
 ·subst hbe;exact heo
 ·exact⟨u,k b u hbe q⟩
end
noncomputable def trk(h:Heap)(H:Hp):List Addr:=(Xk h.objs.size).filter λa=>(H a).isSome
noncomputable def Zt0(h:Heap)(H:Hp):Heap:=Bg h (trk h H)
theorem Zts(h:Heap)(H:Hp):(Zt0 h H).objs.size=h.objs.size:=PySem.W.hideAll_size _ _
theorem Zu7{h:Heap}{H:Hp}{b:Addr}{o:Obj}(e:h.get? b=some o)(n:H b=none):(Zt0 h H).get? b=some o :=
 PySem.W.hideAll_get _ e λhm=>by
  have q:(H b).isSome=true:=(BJ.mp hm).2
  rw[n]at q;simp at q
theorem Z2d{h:Heap}{H:Hp}{b:Addr}{o:Obj}(e:(Zt0 h H).get? b=some o):h.get? b=some o∧H b=none:=by
 have e':h.get? b=some o:=PySem.W.of_hideAll (trk h H) e
 refine⟨e',?_⟩
 cases q:H b with
 | none=>rfl
 | some x=>
  have hm:b∈trk h H:=BJ.mpr ⟨Qt.mpr (Xx e'),by simp[q]⟩
  have z:(Zt0 h H).get? b=none:=V5 (trk h H) hm
  rw[z]at e;cases e
noncomputable def Zyy(g h:Heap)(L:Addr):List (Addr×Obj):=(Xk h.objs.size).filterMap λa=>if a=L∨(g.get? a).isSome=true then none else(h.get? a).map λo=>(a,o)
noncomputable def rest(g h:Heap)(L d:Addr):List (Addr×Obj):=(Zyy g h L).filter λp=>decide (p.1≠d)
structure Mod(K:Xd)(mg:Str->Option Xc)(base:Heap):Prop where
 kin:K.In base
 glob:base.Ns XD mg
 blt:∃mb,base.Ns builtinsNs mb∧∀x:Str,x≠"__name__" ->mb x=X8 x
 nolimit:base.NoLimit
set_option genInjectivity false in
structure Cx where
 prog:Qj
 w:Qy
 K:Xd
 mg:Str->Option Xc
 base:Heap
 A:Qv
 N:List Str
 s₀:Xg
 H₀:Hp
 env:Env
 outer:List Env
 stack:List Env
 ex:List Addr
 fn:Str->Bool
 calm:Bool
 pn:List (Addr×Obj)
 xe:Xc->Xg->Prop
noncomputable def frs(l:List Env):List Addr:=l.filterMap (·.frame)
noncomputable abbrev Cx.fs(X:Cx):List Addr:=frs X.outer
noncomputable def Vis(sc:Scope)(x:Str):Prop:=sc.names.lookup x=some .local∨sc.names.lookup x=some .cell∨sc.names.lookup x=some .free
noncomputable def Loc(sc:Scope)(x:Str):Prop:=sc.names.lookup x=some .local∨sc.names.lookup x=some .cell
noncomputable def Look(env:Env)(h:Heap)(m:Str->Option Xc)(x:Str)(u:Xc):Prop :=
 (env.kindOf x=some .local∧m x=some u)∨((env.kindOf x=some .cell∨env.kindOf x=some .free)∧∃c,env.cells.lookup x=some c∧h.IsCell c (some u))
structure Cx.Ok(X:Cx):Prop where
 mod:Mod X.K X.mg X.base
 kind:X.env.scope.kind= .function
 glob:X.env.globals=XD
 blt:X.env.builtins=builtinsNs
 above:X.s₀.heap.objs.size≤X.env.locals
 inj:∀x y c,X.env.cells.lookup x=some c->X.env.cells.lookup y=some c->x=y
 has:∀x,(X.env.kindOf x=some .cell∨X.env.kindOf x=some .free)->∃c,X.env.cells.lookup x=some c
 cab:∀x c,X.fn x=true->X.env.cells.lookup x=some c->X.s₀.heap.objs.size≤c
 hd:X.calm=true->X.A.handled=none
 frames:X.A.frames=some X.stack
 stk:X.stack=X.outer∨(X.stack=X.env :: X.outer∧X.env.frame=some X.env.locals)
 exf:∀b∈X.ex,b≠X.env.locals∧∀x c,X.env.cells.lookup x=some c->c≠b
 bs:∀b o,X.base.get? b=some o->X.s₀.heap.get? b=some o∧X.H₀ b=none
 bsz:X.base.objs.size≤X.s₀.heap.objs.size
 noex:∀b o,X.base.get? b=some o->b∉X.ex
 exfs:∀b∈X.ex,b∉X.fs
 funs:X.s₀.heap.FunFrames X.base X.outer
 frf:∀b∈X.fs,X.H₀ b=none
structure Inv(X:Cx)(pins:List (Addr×Obj))(σ:List (Option V))(H:Hp)(s:Xg):Prop where
 ok:X.Ok
 os:s.os=X.s₀.os
 bare:AllBare s.gens
 base:Un X.fs X.ex X.H₀ H X.s₀.heap s.heap
 loc:∃m,s.heap.Ns X.env.locals m∧∀(i:Nat) (x:Str) (v:V),X.N[i]? =some x->σ[i]? =some (some v)->Vis X.env.scope x->∃u,RelV v u∧Look X.env s.heap m x u
 cell:∀x c,X.env.cells.lookup x=some c->∃v,s.heap.IsCell c v
 free:H X.env.locals=none
 freeC:∀x c,X.env.cells.lookup x=some c->H c=none
 pin:∀p∈X.pn ++ pins,s.heap.get? p.1=some p.2∧H p.1=none∧p.1≠X.env.locals∧p.1∉X.fs∧∀v,p.2.data≠ .cell v
 hok:HOk X.prog X.w H s.heap
 len:σ.length=X.N.length
section
variable {X:Cx}{pins:List (Addr×Obj)}{σ:List (Option V)}{H H':Hp}{s:Xg}{h':Heap}
theorem Cx.Ok.nofr(ok:X.Ok){b:Addr}{o:Obj}(e:X.base.get? b=some o):b∉X.fs:=λhb=>by
 have:=(ok.funs.mem hb).1
 rw[e]at this;cases this
theorem Inv.bs(I:Inv X pins σ H s):∀b o,X.base.get? b=some o->s.heap.get? b=some o∧H b=none:=λb o e=>
 ⟨I.base.keep b o (I.ok.bs b o e).1 (I.ok.bs b o e).2 (I.ok.nofr e) (I.ok.noex b o e),I.base.free b o (I.ok.bs b o e).1 (I.ok.bs b o e).2 (I.ok.noex b o e)⟩
theorem Inv.bk(I:Inv X pins σ H s):∀b o,X.base.get? b=some o->s.heap.get? b=some o:=λb o e=>(I.bs b o e).1
theorem Inv.mod(I:Inv X pins σ H s):Mod X.K X.mg X.base:=I.ok.mod
theorem Inv.kIn(I:Inv X pins σ H s):X.K.In s.heap:=I.ok.mod.kin.keeps I.bk
theorem Inv.lt(I:Inv X pins σ H s):X.env.locals<s.heap.objs.size:=let⟨_,hn,_⟩:=I.loc;hn.lt
theorem Inv.sz(I:Inv X pins σ H s):X.s₀.heap.objs.size≤s.heap.objs.size:=Xz I.ok.above (VD I.lt)
theorem Inv.nofs(I:Inv X pins σ H s){a:Addr}(h:s.heap.objs.size≤a):a∉X.fs:=λhb=>by
 obtain⟨_,o,ho,_⟩:=I.ok.funs.mem hb
 exact absurd (X4 (Xx ho) (Xz I.sz h)) (Ve _)
theorem Inv.cne(I:Inv X pins σ H s):∀x c,X.env.cells.lookup x=some c->c≠X.env.locals:=λx c e z=>by
 obtain⟨v,o,ho,hd⟩:=I.cell x c e
 obtain⟨m,⟨o',es,ep,ho',hd',_⟩,_⟩:=I.loc
 rw[z,ho']at ho;cases ho;rw[hd']at hd;cases hd
theorem Inv.funs(I:Inv X pins σ H s):s.heap.FunFrames X.base X.outer:=by
 have all:∀(l:List Env),(∀b∈frs l,b∈X.fs)->X.s₀.heap.FunFrames X.base l->s.heap.FunFrames X.base l:=by
  intro l
  induction l with
  | nil=>intro _ _;trivial
  | cons env r ih=>
   intro hs hl
   obtain⟨hk,⟨L,o,hf,hn,ho,hd⟩,hr⟩:=hl
   have hL:L∈X.fs:=hs L (by unfold frs;rw[Ue,hf];exact List.mem_cons_self)
   obtain⟨sl,e⟩:=I.base.slot L o ho (I.ok.frf L hL) hL λz=>I.ok.exfs L z hL
   exact⟨hk,⟨L,_,hf,hn,e,hd⟩,ih (λb hb=>hs b (by unfold frs;rw[Ue,hf];exact List.mem_cons_of_mem _ hb)) hr⟩
 exact all X.outer (λ_ hb=>hb) I.ok.funs
theorem Inv.stack(I:Inv X pins σ H s):s.heap.FunFrames X.base X.stack:=by
 rcases I.ok.stk with e|⟨e,hf⟩
 ·rw[e];exact I.funs
 ·rw[e]
  obtain⟨m,hn,_⟩:=I.loc
  refine .cons (by rw[I.ok.kind];decide) hf hn ?_ I.funs
  exact Heap.get?_none_of_le (Xz I.ok.bsz I.ok.above)
theorem Inv.stkSub(I:Inv X pins σ H s):∀b∈frs X.stack,b∈X.env.locals :: X.fs:=λb hb=>by
 rcases I.ok.stk with e|⟨e,hf⟩
 ·rw[e]at hb;exact List.mem_cons_of_mem _ hb
 ·rw[e]at hb
  unfold frs at hb
  rw[Ue,hf]at hb
  exact hb
theorem Inv.stkFree(I:Inv X pins σ H s):∀b∈frs X.stack,H b=none:=λb hb=>by
 rcases Xp.mp (I.stkSub b hb)with e|hb
 ·rw[e];exact I.free
 ·obtain⟨_,o,ho,_⟩:=I.ok.funs.mem hb
  exact I.base.free b o ho (I.ok.frf b hb) λz=>I.ok.exfs b z hb
theorem Inv.step{g':Array GenState}{t':Nat}{d':Drawn}{ch:List Addr}(I:Inv X pins σ H s)
  (hch:∀b∈ch,(b∈X.ex∨X.s₀.heap.objs.size≤b)∧b≠X.env.locals∧(∀x c,X.env.cells.lookup x=some c->c≠b)∧∀p∈X.pn ++ pins,p.1≠b)
  (keep:∀b o,b≠X.env.locals->b∉X.fs->b∉ch->s.heap.get? b=some o->H b=none->h'.get? b=some o)
  (slot:∀b o,b≠X.env.locals->b∈X.fs->b∉ch->s.heap.get? b=some o->H b=none->∃sl,h'.get? b=some { o with slots:=sl }) (free:∀b o,b∉ch->s.heap.get? b=some o->H b=none->H' b=none)
  (there:∀b o,b∉ch->s.heap.get? b=some o->∃o',h'.get? b=some o')
  (tups:∀b xs,H b=some (.tup xs)->H' b=some (.tup xs)) (frzs:∀b o u,H b=some (.frz o u)->H' b=some (.frz o u)) (tbls:∀b ps,H b=some (.tbl ps)->∃more,H' b=some (.tbl (ps ++ more)))
  (ns:∀m,s.heap.Ns X.env.locals m->h'.Ns X.env.locals m) (hok:HOk X.prog X.w H' h') (hg:AllBare g') :
  Inv X pins σ H' { s with heap:=h',gens:=g',drawn:=d',toks:=t' }:=by
 have neL:∀b o,X.s₀.heap.get? b=some o->b≠X.env.locals:=λb o e=>XQ (X4 (Xx e) I.ok.above)
 have neC:∀b o,X.s₀.heap.get? b=some o->b∉X.ex->b∉ch:=λb o e hx hb=>by
  rcases(hch b hb).1 with z|z
  ·exact hx z
  ·exact absurd (X4 (Xx e) z) (Ve _)
 have cellK:∀x c,X.env.cells.lookup x=some c->∀v,s.heap.IsCell c v->h'.IsCell c v:=λx c e v ⟨o,ho,hd⟩=>by
  have nch:c∉ch:=λz=>(hch c z).2.2.1 x c e rfl
  by_cases hc:c∈X.fs
  ·obtain⟨sl,q⟩:=slot c o (I.cne x c e) hc nch ho (I.freeC x c e)
   exact⟨_,q,hd⟩
  ·exact⟨o,keep c o (I.cne x c e) hc nch ho (I.freeC x c e),hd⟩
 refine⟨I.ok,I.os,hg,⟨λb o e n hb hx=>?_,λb o e n hb hx=>?_,λb o e n hx=>?_,λb o e hx=>?_,λb xs e=>tups b xs (I.base.tups b xs e),λb o xs e=>frzs b o xs (I.base.frzs b o xs e),λb ps e=>?_⟩,?_,λx c e=>?_,?_,λx c e=>?_,λp hp=>?_,hok,I.len⟩
 ·exact keep b o (neL b o e) hb (neC b o e hx) (I.base.keep b o e n hb hx) (I.base.free b o e n hx)
 ·obtain⟨sl,e1⟩:=I.base.slot b o e n hb hx
  obtain⟨sl',e2⟩:=slot b _ (neL b o e) hb (neC b o e hx) e1 (I.base.free b o e n hx)
  exact⟨sl',e2⟩
 ·obtain⟨o',e1⟩:=I.base.there b o e hx
  exact free b o' (neC b o e hx) e1 (I.base.free b o e n hx)
 ·obtain⟨o',e1⟩:=I.base.there b o e hx
  exact there b o' (neC b o e hx) e1
 ·obtain⟨m1,e1⟩:=I.base.tbls b ps e
  obtain⟨m2,e2⟩:=tbls b _ e1
  exact⟨m1 ++ m2,by rw[e2,Array.append_assoc]⟩
 ·obtain⟨m,hn,hl⟩:=I.loc
  refine⟨m,ns m hn,λi x v e1 e2 e3=>?_⟩
  obtain⟨u,r,l⟩:=hl i x v e1 e2 e3
  refine⟨u,r,?_⟩
  rcases l with l|⟨k,c,e,z⟩
  ·exact .inl l
  ·exact .inr ⟨k,c,e,cellK x c e _ z⟩
 ·obtain⟨v,z⟩:=I.cell x c e
  exact⟨v,cellK x c e v z⟩
 ·obtain⟨m,⟨o,_,_,ho,_⟩,_⟩:=I.loc
  exact free _ o (λz=>(hch _ z).2.1 rfl) ho I.free
 ·obtain⟨v,o,ho,hd⟩:=I.cell x c e
  exact free c o (λz=>(hch c z).2.2.1 x c e rfl) ho (I.freeC x c e)
 ·obtain⟨e,n,ne,nf,d⟩:=I.pin p hp
  have nch:p.1∉ch:=λz=>(hch p.1 z).2.2.2 p hp rfl
  exact⟨keep p.1 p.2 ne nf nch e n,free p.1 p.2 nch e n,ne,nf,d⟩
theorem Inv.un{t':Nat}(I:Inv X pins σ H s)(u:Un X.fs [] H H' s.heap h')(hok:HOk X.prog X.w H' h'):Inv X pins σ H' { s with heap:=h',toks:=t' }:=by
 obtain⟨m,⟨o,es,ep,ho,r⟩,_⟩:=id I.loc
 obtain⟨sl,hL⟩:=u.any ho I.free (by simp)
 exact I.step (g':=s.gens) (d':=s.drawn) (ch:=[]) (λ_ z=>nomatch z) (λb o _ hb _ e n=>u.keep b o e n hb (by simp)) (λb o _ hb _ e n=>u.slot b o e n hb (by simp)) (λb o _ e n=>u.free b o e n (by simp)) (λb o _ e=>u.there b o e (by simp)) u.tups u.frzs u.tbls (λm' hm=>by
  obtain⟨o',es',ep',ho',r'⟩:=hm
  rw[ho]at ho';cases ho'
  exact⟨_,es',ep',hL,r'⟩) hok I.bare
theorem Inv.call{g':Array GenState}{t':Nat}{d':Drawn}{ch:List Addr}(I:Inv X pins σ H s)(u:Un (frs X.stack) ch H H' s.heap h')(hok:HOk X.prog X.w H' h')(hg:AllBare g')
  (hch:∀b∈ch,(b∈X.ex∨X.s₀.heap.objs.size≤b)∧b≠X.env.locals∧(∀x c,X.env.cells.lookup x=some c->c≠b)∧∀p∈X.pn ++ pins,p.1≠b) :
  Inv X pins σ H' { s with heap:=h',gens:=g',drawn:=d',toks:=t' }:=by
 obtain⟨m,⟨o,es,ep,ho,r⟩,_⟩:=id I.loc
 obtain⟨sl,hL⟩:=u.any ho I.free λz=>(hch _ z).2.1 rfl
 exact I.step (ch:=ch) hch (λb o hL hb hc e n=>u.keep b o e n (λz=>(Xp.mp (I.stkSub b z)).elim hL hb) hc) (λb o _ _ hc e n=>u.any e n hc) (λb o hc e n=>u.free b o e n hc) (λb o hc e=>u.there b o e hc) u.tups u.frzs u.tbls (λm' hm=>by
  obtain⟨o',es',ep',ho',r'⟩:=hm
  rw[ho]at ho';cases ho'
  exact⟨_,es',ep',hL,r'⟩) hok hg
theorem Inv.turned{t':Nat}{it:Addr}(I:Inv X pins σ H s)(k:∀b o,b≠it->s.heap.get? b=some o->h'.get? b=some o)(hn:H it=none)(hL:it≠X.env.locals)
  (h1:it∈X.ex∨X.s₀.heap.objs.size≤it) (h2:∀x c,X.env.cells.lookup x=some c->c≠it) (h3:∀p∈X.pn ++ pins,p.1≠it):Inv X pins σ H { s with heap:=h',toks:=t' }:=by
 have nit:∀b u,H b=some u->b≠it:=λb u e z=>by rw[z,hn]at e;cases e
 refine I.step (g':=s.gens) (d':=s.drawn) (ch:=[it]) (λb hb=>?_) (λb o _ _ hc e _=>k b o (λz=>hc (by simp[z])) e) (λb o _ _ hc e _=>⟨o.slots,k b o (λz=>hc (by simp[z])) e⟩) (λ_ _ _ _ n=>n)
  (λb o hc e=>⟨o,k b o (λz=>hc (by simp[z])) e⟩) (λ_ _ e=>e) (λ_ _ _ e=>e) (λb ps e=>⟨#[],by rw[e];simp⟩) (λm hm=>?_) (λb u e=>?_) I.bare
 ·have e:b=it:=by simpa using hb
  subst e
  exact⟨h1,hL,h2,h3⟩
 ·obtain⟨o,es,ep,ho,r⟩:=hm
  exact⟨o,es,ep,k _ o (Vr hL) ho,r⟩
 ·refine(I.hok b u e).stay (λc v hc q=>k c v ?_ q) (λ_ q=>q) λ_ _ q=>q
  rcases hc with z|z
  ·rw[z];exact nit b u e
  ·exact nit c _ z
theorem Inv.tok(I:Inv X pins σ H s)(t:Nat):Inv X pins σ H { s with toks:=t }:=I.un (h':=s.heap) (t':=t) Un.refl I.hok
theorem Inv.kept{t':Nat}(I:Inv X pins σ H s)(k:∀b u,s.heap.get? b=some u->h'.get? b=some u):Inv X pins σ H { s with heap:=h',toks:=t' }:=I.un (Un.kept k) (I.hok.kept k)
theorem Inv.laid{a:Addr}{o:HO}{t':Nat}(I:Inv X pins σ H s)(k:∀b u,s.heap.get? b=some u->h'.get? b=some u)(hp:s.heap.objs.size≤a)(new:ObjOk X.prog X.w (upd H a o) h' a o) :
  Inv X pins σ (upd H a o) { s with heap:=h',toks:=t' }:=I.un (Un.laid k hp (I.hok.fresh hp)) (I.hok.laid k hp new)
theorem Inv.write{x e:Addr}{o:HO}{t':Nat}(I:Inv X pins σ H s)(mu:Mut (H x))(he:e=x∨H e=some (.own x))(k:∀b u,b≠e->s.heap.get? b=some u->h'.get? b=some u)(heo:∃u,h'.get? e=some u)
  (new:ObjOk X.prog X.w (upd H x o) h' x o):Inv X pins σ (upd H x o) { s with heap:=h',toks:=t' }:=I.un (Un.write mu he k heo) (I.hok.write mu he k heo new)
theorem Inv.pins_of{pins':List (Addr×Obj)}(I:Inv X pins σ H s)(h:∀p∈pins',s.heap.get? p.1=some p.2∧H p.1=none∧p.1≠X.env.locals∧p.1∉X.fs∧∀v,p.2.data≠ .cell v):Inv X pins' σ H s :=
 ⟨I.ok,I.os,I.bare,I.base,I.loc,I.cell,I.free,I.freeC,λp hp=>(Xq.mp hp).elim (λz=>I.pin p (Bk _ z)) (h p),I.hok,I.len⟩
theorem Zmo{N:List Str}(hN:N.Nodup){i j:Nat}{x:Str}(a:N[i]? =some x)(b:N[j]? =some x):i=j:=by
 obtain⟨h1,e1⟩:=Xo.mp a
 obtain⟨h2,e2⟩:=Xo.mp b
 exact(List.getElem_inj hN).mp (e1.trans e2.symm)
theorem Zjv{M:Model}{A:Qv}{E:Xc->Xg->Prop}{i:Nat}{x:Str}{v:V}{u:Xc}{Q:Unit->Xg->Prop}(I:Inv X pins σ H s)(hN:X.N.Nodup)(hi:X.N[i]? =some x)(hx:Loc X.env.scope x)(r:RelV v u)
  (h:∀s',Inv X pins (σ.set i (some v)) H s'->(∃a,Bh a s.heap s'.heap∧(a=X.env.locals∨X.env.cells.lookup x=some a))->Q () s') (hf:X.fn x=true∨X.env.scope.names.lookup x=some .local:=by first|exact .inl rfl|exact .inr rfl|assumption):Xu M A (storeName X.env x u) Q E s:=by
 obtain⟨m,hn,hl⟩:=id I.loc
 have hcls:(X.env.scope.kind== .class||(X.env.scope.kind== .module&&X.env.locals !=X.env.globals))=false:=by rw[I.ok.kind];rfl
 have hiσ:i<σ.length:=by rw[I.len];exact(Xo.mp hi).1
 have cne:=I.cne
 have tracked:∀{a:Addr} {h':Heap},(∃o,s.heap.get? a=some o∧H a=none)->Bh a s.heap h'->HOk X.prog X.w H h':=fun{a h'} ha hs b ob e=>by
  obtain⟨_,_,hfree⟩:=ha
  refine(I.hok b ob e).stay (λc w' hc q=>(hs.2 c ?_).trans q) (λ_ q=>q) λ_ _ q=>q
  rintro rfl
  rcases hc with rfl|hc
  ·rw[hfree]at e;cases e
  ·rw[hfree]at hc;cases hc
 rcases hx with hk|hk
 ·refine wpAny_storeName_local hk hn (λh' hn' hs=>?_) hcls
  obtain⟨oL,_,_,hoL,_⟩:=id hn
  refine h _ ⟨I.ok,I.os,I.bare,⟨λb o e n hb hx=>?_,λb o e n hb hx=>?_,I.base.free,λb o e hx=>?_,I.base.tups,I.base.frzs,I.base.tbls⟩,⟨_,hn',λj y v' e1 e2 e3=>?_⟩,λy c e=>?_,I.free,I.freeC,λp hp=>?_,tracked ⟨oL,hoL,I.free⟩ hs,by simpa using I.len⟩ ⟨_,hs,.inl rfl⟩
  ·exact(hs.2 b (XQ (X4 (Xx e) I.ok.above))).trans (I.base.keep b o e n hb hx)
  ·obtain⟨sl,e1⟩:=I.base.slot b o e n hb hx
   exact⟨sl,(hs.2 b (XQ (X4 (Xx e) I.ok.above))).trans e1⟩
  ·obtain⟨o',e1⟩:=I.base.there b o e hx
   exact⟨o',(hs.2 b (XQ (X4 (Xx e) I.ok.above))).trans e1⟩
  ·by_cases hj:j=i
   ·subst hj
    rw[hi]at e1;cases e1
    rw[JF hiσ]at e2
    cases e2
    exact⟨u,r,.inl ⟨hk,by simp⟩⟩
   ·rw[QM (Vr hj)]at e2
    obtain⟨u',r',q⟩:=hl j y v' e1 e2 e3
    refine⟨u',r',?_⟩
    rcases q with⟨k,e⟩|⟨k,c,e,z⟩
    ·refine .inl ⟨k,?_⟩
     have:y≠x:=λe=>hj (Zmo hN e1 (e▸hi))
     simp[this,e]
    ·exact .inr ⟨k,c,e,z.sameBut hs (cne y c e)⟩
  ·obtain⟨w',z⟩:=I.cell y c e
   exact⟨w',z.sameBut hs (cne y c e)⟩
  ·obtain⟨e,n,ne,nf,d⟩:=I.pin p hp
   exact⟨(hs.2 p.1 ne).trans e,n,ne,nf,d⟩
 ·have hfn:X.fn x=true:=by
   rcases hf with z|z
   ·exact z
   ·rw[z]at hk;cases hk
  obtain⟨c,hc⟩:=I.ok.has x (.inl hk)
  obtain⟨w',z⟩:=I.cell x c hc
  refine wpAny_storeName_cell I.ok.kind hk hc z (λh' hc' hs=>?_)
  obtain⟨oc,hoc,hocd⟩:=id z
  refine h { s with heap:=h' } ⟨I.ok,I.os,I.bare,⟨λb o e n hb hx=>?_,λb o e n hb hx=>?_,I.base.free,λb o e hx=>?_,I.base.tups,I.base.frzs,I.base.tbls⟩,⟨m,hn.sameBut hs (Vr (cne x c hc)),λj y v' e1 e2 e3=>?_⟩,λy c' e=>?_,I.free,I.freeC,λp hp=>?_,tracked ⟨oc,hoc,I.freeC x c hc⟩ hs,by simpa using I.len⟩ ⟨c,hs,.inr hc⟩
  ·exact(hs.2 b (XQ (X4 (Xx e) (I.ok.cab x c hfn hc)))).trans (I.base.keep b o e n hb hx)
  ·obtain⟨sl,e1⟩:=I.base.slot b o e n hb hx
   exact⟨sl,(hs.2 b (XQ (X4 (Xx e) (I.ok.cab x c hfn hc)))).trans e1⟩
  ·obtain⟨o',e1⟩:=I.base.there b o e hx
   exact⟨o',(hs.2 b (XQ (X4 (Xx e) (I.ok.cab x c hfn hc)))).trans e1⟩
  ·by_cases hj:j=i
   ·subst hj
    rw[hi]at e1;cases e1
    rw[JF hiσ]at e2
    cases e2
    exact⟨u,r,.inr ⟨.inl hk,c,hc,hc'⟩⟩
   ·rw[QM (Vr hj)]at e2
    obtain⟨u',r',q⟩:=hl j y v' e1 e2 e3
    refine⟨u',r',?_⟩
    rcases q with q|⟨k,c',e,z'⟩
    ·exact .inl q
    ·refine .inr ⟨k,c',e,z'.sameBut hs ?_⟩
     rintro rfl
     exact hj (Zmo hN e1 (I.ok.inj _ _ _ e hc▸hi))
  ·by_cases hcc:c'=c
   ·subst hcc;exact⟨_,hc'⟩
   ·obtain⟨w2,z2⟩:=I.cell y c' e
    exact⟨w2,z2.sameBut hs hcc⟩
  ·obtain⟨e,n,ne,nf,d⟩:=I.pin p hp
   refine⟨(hs.2 p.1 ?_).trans e,n,ne,nf,d⟩
   intro q
   rw[q,hoc]at e
   have q':oc=p.2:=QQ e
   exact d w' (by rw[←q'];exact hocd)
theorem Zf1{M:Model}{A:Qv}{E:Xc->Xg->Prop}{i:Nat}{x:Str}{v:V}{u:Xc}{Q:Unit->Xg->Prop}(I:Inv X pins σ H s)(hN:X.N.Nodup)(hi:X.N[i]? =some x)(hx:Loc X.env.scope x)(r:RelV v u)
  (h:∀s',Inv X pins (σ.set i (some v)) H s'->Q () s') (hf:X.fn x=true∨X.env.scope.names.lookup x=some .local:=by first|exact .inl rfl|exact .inr rfl|assumption):Xu M A (storeName X.env x u) Q E s :=
 Zjv I hN hi hx r (λs' I' _=>h s' I') hf
theorem Inv.call'{s':Xg}{ch:List Addr}(I:Inv X pins σ H s)(ho:s'.os=s.os)(u:Un (frs X.stack) ch H H' s.heap s'.heap)(hok:HOk X.prog X.w H' s'.heap)(hg:AllBare s'.gens)
  (hch:∀b∈ch,(b∈X.ex∨X.s₀.heap.objs.size≤b)∧b≠X.env.locals∧(∀x c,X.env.cells.lookup x=some c->c≠b)∧∀p∈X.pn ++ pins,p.1≠b):Inv X pins σ H' s':=by
 obtain⟨h',g',d',t',o'⟩:=s'
 have e:o'=s.os:=ho
 subst e
 exact I.call (g':=g') (t':=t') (d':=d') u hok hg hch
end
noncomputable abbrev XK:=Xc->Option Addr->Hp->Prop
noncomputable abbrev St:=List (Option V)
noncomputable abbrev VK:=V->Hp->Prop
noncomputable abbrev TE:=St->Hp->VK->Prop
noncomputable abbrev TT:=St->Hp->(Bool->Hp->Prop)->Prop
noncomputable abbrev TA:=St->Hp->(List V->Hp->Prop)->Prop
set_option genInjectivity false in
structure Ends where
 nx:St->Hp->Prop
 rt:VK
 bk:St->Hp->Prop:=λ_ _=>False
 ct:St->Hp->Prop:=λ_ _=>False
noncomputable abbrev TS:=Ends->St->Hp->Prop
noncomputable def EP(X:Cx)(pins:List (Addr×Obj))(σ:St)(Q:VK)(u:Xc)(s':Xg):Prop:=∃v H',Inv X pins σ H' s'∧RelV v u∧Q v H'
noncomputable def TP(X:Cx)(pins:List (Addr×Obj))(σ:St)(Q:Bool->Hp->Prop)(b:Bool)(s':Xg):Prop:=∃H',Inv X pins σ H' s'∧Q b H'
noncomputable def AP(X:Cx)(pins:List (Addr×Obj))(σ:St)(Q:List V->Hp->Prop)(us:List Xc)(s':Xg):Prop:=∃vs H',Inv X pins σ H' s'∧Vals vs us∧Q vs H'
noncomputable def SP(X:Cx)(pins:List (Addr×Obj))(D:Ends)(f:Flow)(s':Xg):Prop :=
 match f with
 | .next=>∃σ' H',Inv X pins σ' H' s'∧D.nx σ' H'
 | .brk=>∃σ' H',Inv X pins σ' H' s'∧D.bk σ' H'
 | .cont=>∃σ' H',Inv X pins σ' H' s'∧D.ct σ' H'
 | .ret u=>∃v σ' H',Inv X pins σ' H' s'∧RelV v u∧D.rt v H'
noncomputable def PE(X:Cx)(e:Expr)(t:TE):Prop :=
 ∀(pins:List (Addr×Obj)) (s:Xg) (σ:St) (H:Hp) (Q:VK),Inv X pins σ H s->t σ H Q->Xu (X5 X.prog X.w) X.A (eval e X.env) (EP X pins σ Q) X.xe s
noncomputable def PT(X:Cx)(e:Expr)(t:TT):Prop :=
 ∀(pins:List (Addr×Obj)) (s:Xg) (σ:St) (H:Hp) (Q:Bool->Hp->Prop),Inv X pins σ H s->t σ H Q->Xu (X5 X.prog X.w) X.A (isTrue e X.env (eval e X.env)) (TP X pins σ Q) X.xe s
noncomputable def PW(X:Cx)(e:Expr)(t:TT):Prop :=
 ∀(whole:Sem Xc) (pins:List (Addr×Obj)) (s:Xg) (σ:St) (H:Hp) (Q:Bool->Hp->Prop),Inv X pins σ H s->t σ H Q->Xu (X5 X.prog X.w) X.A (isTrue e X.env whole) (TP X pins σ Q) X.xe s
theorem PW.pt{X:Cx}{e:Expr}{t:TT}(h:PW X e t):PT X e t:=h _
noncomputable def PA(X:Cx)(es:List Expr)(t:TA):Prop :=
 ∀(pos:Pos) (pins:List (Addr×Obj)) (s:Xg) (σ:St) (H:Hp) (Q:List V->Hp->Prop),Inv X pins σ H s->t σ H Q->Xu (X5 X.prog X.w) X.A (spliced (JP pos (Xn es X.env))) (AP X pins σ Q) X.xe s
noncomputable def PS(X:Cx)(st:Stmt)(t:TS):Prop :=
 ∀(pins:List (Addr×Obj)) (s:Xg) (σ:St) (H:Hp) (D:Ends),Inv X pins σ H s->t D σ H->Xu (X5 X.prog X.w) X.A (exec st X.env) (SP X pins D) X.xe s
noncomputable def PSs(X:Cx)(st:List Stmt)(t:TS):Prop :=
 ∀(pins:List (Addr×Obj)) (s:Xg) (σ:St) (H:Hp) (D:Ends),Inv X pins σ H s->t D σ H->Xu (X5 X.prog X.w) X.A (execs st X.env) (SP X pins D) X.xe s
theorem thn{α:Type}{t:Sem α}{Q Q':α->Xg->Prop}{M:Model}{A:Qv}{E:Xc->Xg->Prop}{s:Xg}(h:Xu M A t Q E s)(hQ:∀a s,Q a s->Q' a s):Xu M A t Q' E s:=QG h hQ λ_ _ x=>x
section
variable {X:Cx}
noncomputable def Z9t(i:Nat):TE:=λσ H Q=>∃v,σ[i]? =some (some v)∧Q v H
noncomputable def tC(v:V):TE:=λ_ H Q=>Q v H
theorem Z2q{i:Nat}{x:Str}{pos:Pos}(hN:X.N[i]? =some x)(hv:Vis X.env.scope x)(hd:(x==("__debug__" : Str))=false:=by decide)(hcd:(x==("__classdict__" : Str))=false:=by decide):PE X (.Name x pos) (Z9t i):=by
 intro pins s σ H Q I h
 obtain⟨v,e,h⟩:=h
 obtain⟨m,hn,hl⟩:=I.loc
 obtain⟨u,r,l⟩:=hl i x v hN e hv
 have fin:EP X pins σ Q u s:=⟨v,H,I,r,h⟩
 rcases l with⟨hk,hm⟩|⟨hk,c,hc,hcell⟩
 ·exact wpAny_Name (wpAny_loadName_local I.ok.kind hk hn hm fin) hd
 ·rcases hk with hk|hk
  ·exact wpAny_Name (wpAny_loadName_cell I.ok.kind hk hc hcell fin) hd
  ·exact wpAny_Name (wpAny_loadName_free I.ok.kind hk hc hcell fin hcd) hd
theorem Z2u{i j pos}:PE X (.Constant (.int i) j pos) (tC (.int i)):=λ_ _ _ H _ I h=>wpAny_Constant_int ⟨.int i,H,I.tok _,⟨_,rfl⟩,h⟩
theorem Yau{b j pos}:PE X (.Constant (.bool b) j pos) (tC (.bl b)):=λ_ _ _ H _ I h=>Constant_bool ⟨.bl b,H,I,rfl,h⟩
theorem Z3l{j pos}:PE X (.Constant .none j pos) (tC .non):=λ_ _ _ H _ I h=>Constant_none ⟨.non,H,I,rfl,h⟩
noncomputable def Gl(X:Cx)(x:Str):Prop:=X.env.kindOf x=some .globalImplicit
theorem Zl9{E:Xc->Xg->Prop}{pins:List (Addr×Obj)}{s:Xg}{σ:St}{H:Hp}{x:Str}{u:Xc}{pos:Pos}{Q:Xc->Xg->Prop}(I:Inv X pins σ H s)(hg:Gl X x)(hm:X.mg x=some u)(h:Q u s)
  (hd:(x==("__debug__" : Str))=false:=by decide):Xu (X5 X.prog X.w) X.A (eval (.Name x pos) X.env) Q E s :=
 Calls.Name_function_global I.ok.kind hg (Calls.loadGlobal_global (by rw[I.ok.glob];exact I.mod.glob.keeps I.bk) hm h) hd
theorem Zct{E:Xc->Xg->Prop}{pins:List (Addr×Obj)}{s:Xg}{σ:St}{H:Hp}{x:Str}{u:Xc}{pos:Pos}{Q:Xc->Xg->Prop}(I:Inv X pins σ H s)(hg:Gl X x)(hm:X.mg x=none)(hv:X8 x=some u)(h:Q u s)
  (hn:x≠"__name__" :=by decide) (hd:(x==("__debug__" : Str))=false:=by decide):Xu (X5 X.prog X.w) X.A (eval (.Name x pos) X.env) Q E s:=by
 obtain⟨mb,h1,h2⟩:=I.mod.blt
 exact Calls.Name_function_global I.ok.kind hg (Calls.loadGlobal_builtin (by rw[I.ok.glob];exact I.mod.glob.keeps I.bk) hm (by rw[I.ok.blt];exact h1.keeps I.bk) ((h2 x hn).trans hv) h) hd
theorem Zy2{x:Str}{v:V}{u:Xc}{pos:Pos}(hg:Gl X x)(hm:X.mg x=none)(hv:X8 x=some u)(r:RelV v u)(hn:x≠"__name__" :=by decide)(hd:(x==("__debug__" : Str))=false:=by decide):PE X (.Name x pos) (tC v) :=
 λ_ _ _ H _ I h=>Zct I hg hm hv ⟨v,H,I,r,h⟩ hn hd
noncomputable def t2I(ta tb:TE)(k:Int->Int->Hp->Prop):St->Hp->Prop:=λσ H=>ta σ H λx H1=>tb σ H1 λy H2=>∃i j,x= .int i∧y= .int j∧k i j H2
variable {a b:Expr}{ta tb:TE}{pos:Pos}
noncomputable def Z2j(p:Int->Int->Bool)(ta tb:TE):TE:=λσ H Q=>t2I ta tb (λi j H2=>Q (.bl (p i j)) H2) σ H
noncomputable abbrev tLt:TE->TE->TE:=Z2j λi j=>decide (i<j)
noncomputable abbrev tLe:TE->TE->TE:=Z2j λi j=>decide (i≤j)
noncomputable abbrev tGt:TE->TE->TE:=Z2j λi j=>decide (j<i)
noncomputable abbrev tGe:TE->TE->TE:=Z2j λi j=>decide (j≤i)
noncomputable abbrev Ye9:TE->TE->TE:=Z2j λi j=>decide (i=j)
noncomputable abbrev Yfa:TE->TE->TE:=Z2j λi j=>!decide (i=j)
noncomputable def tB(t:TE):TT:=λσ H Q=>t σ H λx H1=>∃c,x= .bl c∧Q c H1
variable {tA tB':TT}{rest:List Expr}
noncomputable def Ye8(t u:TT):TT:=λσ H Q=>t σ H λc H1=>if c=true then u σ H1 Q else Q false H1
noncomputable def tOr(t u:TT):TT:=λσ H Q=>t σ H λc H1=>if c=true then Q true H1 else u σ H1 Q
noncomputable def Yem(t:TT):TT:=λσ H Q=>t σ H λc H1=>Q (!c) H1
theorem Zz9(ha:PT X a tA):PW X (.BoolOp .And [a] pos) tA:=by
 intro wh pins s σ H Q I h
 refine isTrue_and (thn (ha pins s σ H Q I h) λc s1 e=>?_)
 cases c with
 | true=>exact isTrue_and_nil e
 | false=>exact e
theorem Z30(ha:PT X a tA):PW X (.BoolOp .Or [a] pos) tA:=by
 intro wh pins s σ H Q I h
 refine isTrue_or (thn (ha pins s σ H Q I h) λc s1 e=>?_)
 cases c with
 | false=>exact isTrue_or_nil e
 | true=>exact e
theorem Z6u(ha:PT X a tA)(hb:PW X (.BoolOp .And (b :: rest) pos) tB'):PW X (.BoolOp .And (a :: b :: rest) pos) (Ye8 tA tB'):=by
 intro wh pins s σ H Q I h
 refine isTrue_and (thn (ha pins s σ H _ I h) λc s1 qz9=>?_)
 obtain⟨H1,I1,q1⟩:=qz9
 cases c with
 | true=>exact hb wh pins s1 σ H1 Q I1 q1
 | false=>exact⟨H1,I1,q1⟩
theorem Z9y(ha:PT X a tA)(hb:PW X (.BoolOp .Or (b :: rest) pos) tB'):PW X (.BoolOp .Or (a :: b :: rest) pos) (tOr tA tB'):=by
 intro wh pins s σ H Q I h
 refine isTrue_or (thn (ha pins s σ H _ I h) λc s1 qz9=>?_)
 obtain⟨H1,I1,q1⟩:=qz9
 cases c with
 | true=>exact⟨H1,I1,q1⟩
 | false=>exact hb wh pins s1 σ H1 Q I1 q1
theorem Z2v(ha:PT X a tA):PT X (.UnaryOp .Not a pos) (Yem tA):=by
 intro pins s σ H Q I h
 exact isTrue_not (ha pins s σ H (λc H1=>Q (!c) H1) I h)
noncomputable def Z8x(ta tb:TE):TE:=λσ H Q=>ta σ H λx H1=>∃c,x= .bl c∧if c=true then tb σ H1 Q else Q (.bl false) H1
noncomputable def Z8h(ta:TE):TE:=λσ H Q=>ta σ H λx H1=>∃c,x= .bl c∧Q (.bl (!c)) H1
theorem Z5v{op}{t:TE}(h:PE X a t):PE X (.BoolOp op [a] pos) t:=λpins s σ H Q I hw=>BoolOp_one (h pins s σ H Q I hw)
theorem Z3i(ha:PE X a ta)(hb:PE X (.BoolOp .And (b :: rest) pos) tb):PE X (.BoolOp .And (a :: b :: rest) pos) (Z8x ta tb):=by
 intro pins s σ H Q I h
 refine BoolOp_and (thn (ha pins s σ H _ I h) λv s1 qz9=>?_)
 obtain⟨x,H1,I1,r1,q1⟩:=qz9
 obtain⟨c,rfl,q1⟩:=q1
 cases r1
 refine Vo ?_
 cases c with
 | true=>exact hb pins s1 σ H1 Q I1 q1
 | false=>exact⟨.bl false,H1,I1,rfl,q1⟩
theorem Z67(ha:PE X a ta):PE X (.UnaryOp .Not a pos) (Z8h ta):=by
 intro pins s σ H Q I h
 refine UnaryOp_ (thn (ha pins s σ H _ I h) λv s1 qz9=>?_)
 obtain⟨x,H1,I1,r1,q1⟩:=qz9
 obtain⟨c,rfl,q1⟩:=q1
 cases r1
 exact not_of (Vo ⟨.bl (!c),H1,I1,rfl,q1⟩)
noncomputable def tIf(t:TT)(ta tb:TE):TE:=λσ H Q=>t σ H λc H1=>if c=true then ta σ H1 Q else tb σ H1 Q
theorem Zvk{c:Expr}(hc:PT X c tA)(ha:PE X a ta)(hb:PE X b tb):PE X (.IfExp c a b pos) (tIf tA ta tb):=by
 intro pins s σ H Q I h
 refine wpAny_IfExp (thn (hc pins s σ H _ I h) λd s1 qz9=>?_)
 obtain⟨H1,I1,q1⟩:=qz9
 cases d with
 | true=>exact ha pins s1 σ H1 Q I1 q1
 | false=>exact hb pins s1 σ H1 Q I1 q1
end
noncomputable def SqL(K:Xd)(H:Hp)(a:Addr)(xs:List V):Prop :=
 Rd H a (.lst xs)∨
  ∃(o:Obj) (its:Array Xc) (n:Nat),K.lookup a=some o∧o.cls= .type "list"∧o.dict=none∧o.data= .seq its n∧its.size≤Xr∧Vals xs its.toList
noncomputable def SqT(K:Xd)(H:Hp)(a:Addr)(xs:List V):Prop :=
 Rd H a (.tup xs)∨
  ∃(o:Obj) (its:Array Xc) (n:Nat),K.lookup a=some o∧o.cls= .type "tuple"∧o.data= .seq its n∧its.size≤Xr∧Vals xs its.toList
noncomputable def Ye6:Xc->Option V
 | .none=>some .non
 | .bool b=>some (.bl b)
 | .int i _=>some (.int i)
 | .str x _=>some (.str x)
 | .bytes b _=>some (.byt b)
 | .float b _=>some (.flt b)
 | .ref a=>some (.ref a)
 | .type n=>some (.ty n)
 | _=>none
theorem RelV.abs{x:V}{u:Xc}(r:RelV x u):Ye6 u=some x:=by
 cases x with
 | non=>cases r;rfl
 | bl _=>cases r;rfl
 | int _=>obtain⟨t,rfl⟩:=r;rfl
 | str _=>obtain⟨t,rfl⟩:=r;rfl
 | byt _=>obtain⟨t,rfl⟩:=r;rfl
 | flt _=>obtain⟨t,rfl⟩:=r;rfl
 | ref _=>cases r;rfl
 | ty _=>cases r;rfl
theorem RelV.inj{x y:V}{u:Xc}(r:RelV x u)(q:RelV y u):x=y:=QQ (r.abs.symm.trans q.abs)
theorem Vals.inj{xs ys:List V}{us:List Xc}(h:Vals xs us)(k:Vals ys us):xs=ys:=by
 induction h generalizing ys with
 | nil=>cases k;rfl
 | cons r t ih=>
  cases k with
  | cons r' t'=>rw[r.inj r',ih t']
section
variable {X:Cx}{pins:List (Addr×Obj)}{σ:St}{H:Hp}{s:Xg}{a:Addr}{xs ys:List V}
theorem Inv.list(I:Inv X pins σ H s)(h:SqL X.K H a xs):∃its:List Xc,Vals xs its∧PlainL s.heap a its.toArray∧xs.length≤Xr:=by
 rcases h with h|⟨o,its,n,hk,hc,hd,hs,hz,r⟩
 ·obtain⟨z,its,n,r,e⟩:=h.ok I.hok
  exact⟨its,r,⟨_,n,e,rfl,rfl,rfl⟩,z⟩
 ·refine⟨its.toList,r,⟨o,n,I.kIn a o hk,hc,hd,by simpa using hs⟩,?_⟩
  have e:=r.length
  simp only[Qc]at e
  omega
theorem Inv.tuple(I:Inv X pins σ H s)(h:SqT X.K H a xs):∃its:List Xc,Vals xs its∧IsTup s.heap a its.toArray∧xs.length≤Xr:=by
 rcases h with h|⟨o,its,n,hk,hc,hs,hz,r⟩
 ·obtain⟨z,its,r,p⟩:=h.ok I.hok
  exact⟨its,r,p,z⟩
 ·refine⟨its.toList,r,⟨o,I.kIn a o hk,hc,n,by simpa using hs⟩,?_⟩
  have e:=r.length
  simp only[Qc]at e
  omega
theorem Inv.list_inj(I:Inv X pins σ H s)(h:SqL X.K H a xs)(h':SqL X.K H a ys):xs=ys:=by
 obtain⟨its,r,⟨o,n,e,_,_,d⟩,_⟩:=I.list h
 obtain⟨its',r',⟨o',n',e',_,_,d'⟩,_⟩:=I.list h'
 rw[e]at e';cases e'
 rw[d]at d'
 injection d' with d1 _
 have:its=its':=by simpa using congrArg Array.toList d1
 subst this
 exact r.inj r'
end
noncomputable abbrev Cx.wish(X:Cx)(E:Xc->Xg->Prop):Cx:={ X with xe:=E }
noncomputable abbrev Cx.nox(X:Cx):Cx:=X.wish λ_ _=>False
theorem Cx.Ok.wish{X:Cx}(ok:X.Ok)(E:Xc->Xg->Prop):(X.wish E).Ok :=
 ⟨ok.mod,ok.kind,ok.glob,ok.blt,ok.above,ok.inj,ok.has,ok.cab,ok.hd,ok.frames,ok.stk,ok.exf,ok.bs,ok.bsz,ok.noex,ok.exfs,ok.funs,ok.frf⟩
theorem Cx.Ok.unwish{X:Cx}{E:Xc->Xg->Prop}(ok:(X.wish E).Ok):X.Ok :=
 ⟨ok.mod,ok.kind,ok.glob,ok.blt,ok.above,ok.inj,ok.has,ok.cab,ok.hd,ok.frames,ok.stk,ok.exf,ok.bs,ok.bsz,ok.noex,ok.exfs,ok.funs,ok.frf⟩
section
variable {X:Cx}{pins:List (Addr×Obj)}{σ:St}{H:Hp}{s:Xg}{E:Xc->Xg->Prop}
theorem Inv.wish(I:Inv X pins σ H s)(E:Xc->Xg->Prop):Inv (X.wish E) pins σ H s:=⟨I.ok.wish E,I.os,I.bare,I.base,I.loc,I.cell,I.free,I.freeC,I.pin,I.hok,I.len⟩
theorem Inv.unwish(I:Inv (X.wish E) pins σ H s):Inv X pins σ H s:=⟨I.ok.unwish,I.os,I.bare,I.base,I.loc,I.cell,I.free,I.freeC,I.pin,I.hok,I.len⟩
theorem SP.unwish{D:Ends}{f:Flow}{s':Xg}(h:SP (X.wish E) pins D f s'):SP X pins D f s':=by
 cases f with
 | next=>obtain⟨σ',H',I,q⟩:=h;exact⟨σ',H',I.unwish,q⟩
 | brk=>obtain⟨σ',H',I,q⟩:=h;exact⟨σ',H',I.unwish,q⟩
 | cont=>obtain⟨σ',H',I,q⟩:=h;exact⟨σ',H',I.unwish,q⟩
 | ret u=>obtain⟨v,σ',H',I,r,q⟩:=h;exact⟨v,σ',H',I.unwish,r,q⟩
theorem PSs.nox{st:List Stmt}{t:TS}(h:PSs X.nox st t):PSs X st t:=λpins s σ H D I hw=>
 QG (h pins s σ H D (I.wish _) hw) (λ_ _ q=>q.unwish) λ_ _ z=>Vt z
end
section
variable {X:Cx}{st:Stmt}{rest:List Stmt}{t u:TS}{e:Expr}{te:TE}{pos:Pos}
noncomputable def Z96:TS:=λD σ H=>D.nx σ H
noncomputable def Yev(t u:TS):TS:=λD σ H=>t { D with nx:=u D } σ H
theorem Z1j:PSs X [] Z96:=λ_ _ σ H _ I h=>wpAny_execs_nil ⟨σ,H,I,h⟩
theorem Zwn(h1:PS X st t)(h2:PSs X rest u):PSs X (st :: rest) (Yev t u):=by
 intro pins s σ H D I h
 refine wpAny_execs_cons (thn (h1 pins s σ H { D with nx:=u D } I h) λf s1 q=>?_)
 cases f with
 | next=>
  obtain⟨σ',H',I',q⟩:=q
  exact h2 pins s1 σ' H' D I' q
 | ret v=>exact q
 | brk=>exact q
 | cont=>exact q
theorem Z11(h1:PS X st t):PSs X [st] t:=by
 intro pins s σ H D I h
 refine wpAny_execs_cons (thn (h1 pins s σ H D I h) λf s1 q=>?_)
 cases f with
 | next=>exact wpAny_execs_nil q
 | ret v=>exact q
 | brk=>exact q
 | cont=>exact q
theorem Inv.quiet{pins:List (Addr×Obj)}{σ:St}{H:Hp}{s:Xg}(I:Inv X pins σ H s):interactive X.env=false:=by simp[interactive,I.ok.kind]
noncomputable def Z9k(te:TE):TS:=λD σ H=>te σ H λ_ H1=>D.nx σ H1
theorem Zr8(he:PE X e te)(hs:VP e none pos.line X.env=pure false:=by rfl):PS X (.Expr e pos) (Z9k te):=by
 intro pins s σ H D I h
 refine wpAny_Expr_any (thn (he pins s σ H _ I h) λv s1 qz9=>?_) I.quiet hs
 obtain⟨x,H1,I1,r1,q1⟩:=qz9
 exact⟨σ,H1,I1,q1⟩
noncomputable def Yez(te:TE):TS:=λD σ H=>te σ H D.rt
theorem Zx4(he:PE X e te):PS X (.Return (some e) pos) (Yez te):=by
 intro pins s σ H D I h
 refine wpAny_Return_some (thn (he pins s σ H _ I h) λv s1 qz9=>?_)
 obtain⟨x,H1,I1,r1,q1⟩:=qz9
 exact⟨x,σ,H1,I1,r1,q1⟩
noncomputable def Ydo(c:TT)(t u:TS):TS:=λD σ H=>c σ H λb H1=>if b=true then t D σ H1 else u D σ H1
theorem Z9j{c:Expr}{a b:List Stmt}{tc:TT}(hc:PT X c tc)(ha:PSs X a t)(hb:PSs X b u):PS X (.If c a b pos) (Ydo tc t u):=by
 intro pins s σ H D I h
 refine wpAny_If (thn (hc pins s σ H _ I h) λd s1 qz9=>?_)
 obtain⟨H1,I1,q1⟩:=qz9
 cases d with
 | true=>exact ha pins s1 σ H1 D I1 q1
 | false=>exact hb pins s1 σ H1 D I1 q1
noncomputable def Z32:TS:=λ_ _ _=>False
theorem Ztz:PS X st Z32:=λ_ _ _ _ _ _ h=>h.elim
end
noncomputable abbrev TG:=V->St->Hp->(St->Hp->Prop)->Prop
noncomputable abbrev TGs:=List V->St->Hp->(St->Hp->Prop)->Prop
noncomputable def PG(X:Cx)(target:Expr)(t:TG):Prop :=
 ∀(pins:List (Addr×Obj)) (s:Xg) (σ:St) (H:Hp) (v:V) (u:Xc) (Q:St->Hp->Prop),Inv X pins σ H s->RelV v u->t v σ H Q ->
  Xu (X5 X.prog X.w) X.A (U9 target X.env u) (λ_ s'=>∃σ' H',Inv X pins σ' H' s'∧Q σ' H') X.xe s
noncomputable def PGs(X:Cx)(ts:List Expr)(t:TGs):Prop :=
 ∀(pins:List (Addr×Obj)) (s:Xg) (σ:St) (H:Hp) (vs:List V) (us:List Xc) (Q:St->Hp->Prop),Inv X pins σ H s->Vals vs us->t vs σ H Q ->
  Xu (X5 X.prog X.w) X.A (assignInOrder ((JQ ts X.env).map (·.2)) us) (λ_ s'=>∃σ' H',Inv X pins σ' H' s'∧Q σ' H') X.xe s
noncomputable abbrev Z9e:=V->V->V->Hp->(Hp->Prop)->Prop
noncomputable def Ybz(X:Cx)(t:Z9e):Prop :=
 ∀(pins:List (Addr×Obj)) (s:Xg) (σ:St) (H:Hp) (o i v:V) (ov iv u:Xc) (Q:Hp->Prop),Inv X pins σ H s->RelV o ov->RelV i iv->RelV v u->t o i v H Q ->
  Xu (X5 X.prog X.w) X.A (setItem ov iv u) (λ_ s'=>∃H',Inv X pins σ H' s'∧Q H') X.xe s
noncomputable abbrev TIp:=V->V->Hp->VK->Prop
section
variable {X:Cx}{pos:Pos}
noncomputable def Zpc(i:Nat):TG:=λv σ H Q=>Q (σ.set i (some v)) H
theorem Zpp{i:Nat}{x:Str}(hN:X.N.Nodup)(hi:X.N[i]? =some x)(hx:Loc X.env.scope x)(hf:X.fn x=true∨X.env.scope.names.lookup x=some .local:=by first|exact .inl rfl|exact .inr rfl|assumption):PG X (.Name x pos) (Zpc i):=by
 intro pins s σ H v u Q I r h
 exact wpAny_assign_Name (Zf1 I hN hi hx r (λs' I'=>⟨_,H,I',h⟩) hf)
noncomputable def Yeh:TGs:=λvs σ H Q=>vs=[]∧Q σ H
noncomputable def Z79(t:TG)(u:TGs):TGs:=λvs σ H Q=>∃v r,vs=v :: r∧t v σ H λσ' H'=>u r σ' H' Q
theorem Z0s:PGs X [] Yeh:=by
 intro pins s σ H vs us Q I r h
 obtain⟨e,h⟩:=h
 subst e
 cases r
 exact assignInOrder_nil ⟨σ,H,I,h⟩
theorem Zmn{e:Expr}{es:List Expr}{t:TG}{u:TGs}(h1:PG X e t)(h2:PGs X es u)
  (hs:(JQ (e :: es) X.env).map (·.2)=U9 e X.env :: (JQ es X.env).map (·.2):=by rfl):PGs X (e :: es) (Z79 t u):=by
 intro pins s σ H vs us Q I r h
 obtain⟨v,vr,e1,h⟩:=h
 subst e1
 cases r with
 | cons r rr=>
  rw[hs]
  refine assignInOrder_cons (thn (h1 pins s σ H _ _ _ I r h) λ_ s1 qz9=>?_)
  obtain⟨σ1,H1,I1,q1⟩:=qz9
  exact h2 pins s1 σ1 H1 _ _ Q I1 rr q1
noncomputable def Yd5(K:Xd)(n:Nat)(t:TGs):TG:=λv σ H Q=>∃a xs,v= .ref a∧SqT K H a xs∧xs.length=n∧t xs σ H Q
theorem Z7b{es:List Expr}{k:Nat}{t:TGs}{n:Nat}(hc:X.calm=true)(h:PGs X es t)
  (hn:(JQ es X.env).length=n:=by rfl) (hst:(JQ es X.env).findIdx? (·.1)=none:=by rfl):PG X (.Tuple es k pos) (Yd5 X.K n t):=by
 intro pins s σ H v u Q I r hw
 obtain⟨a,xs,e1,hq,hl,hw⟩:=hw
 subst e1
 cases r
 obtain⟨its,rv,ht,hz⟩:=I.tuple hq
 refine assign_Tuple_tuple (I.ok.hd hc) ht (by simp[hn,←hl,rv.length]) hst λh' hx=>?_
 have I1:Inv X pins σ H { s with heap:=h' }:=I.kept (t':=s.toks) λb o e=>hx b o (XQ (Xx e)) e
 exact h pins _ σ H xs _ Q I1 (by simpa using rv) hw
noncomputable def Z84(to ti:TE)(t:Z9e):TG:=λv σ H Q=>to σ H λo H1=>ti σ H1 λi H2=>t o i v H2 λH3=>Q σ H3
theorem Zx1{o i:Expr}{to ti:TE}{t:Z9e}(ho:PE X o to)(hi:PE X i ti)(hs:Ybz X t)
  (ha:∀v,U9 (.Subscript o i pos) X.env v=(do
   let ov←holding [v] (eval o X.env)
   let iv←holding [v,ov] (eval i X.env)
   standAt pos
   holding [v,ov,iv] (setItem ov iv v)
   release [v,ov,iv] []):=by intro _;rfl):PG X (.Subscript o i pos) (Z84 to ti t):=by
 intro pins s σ H v u Q I r h
 rw[ha]
 refine Xb (JM (thn (ho pins s σ H _ I h) λov s1 qz9=>?_))
 obtain⟨x,H1,I1,r1,q1⟩:=qz9
 refine Xb (JM (thn (hi pins s1 σ H1 _ I1 q1) λiv s2 qz9=>?_))
 obtain⟨y,H2,I2,r2,q2⟩:=qz9
 refine Xb (wpAny_standAt (Xb (JM (thn (hs pins s2 σ H2 x y v ov iv u _ I2 r1 r2 r q2) λ_ s3 qz9=>?_))))
 obtain⟨H3,I3,q3⟩:=qz9
 exact wpAny_release ⟨σ,H3,I3,q3⟩
noncomputable def Z2m(te:TE)(g:TG):TS:=λD σ H=>te σ H λx H1=>g x σ H1 D.nx
theorem Zww{tg e:Expr}{te:TE}{g:TG}(he:PE X e te)(hg:PG X tg g)(hs:swapsWithSole [tg] e pos.line X.env=pure false:=by rfl)(hw:swappedStores [tg] e X.env=pure none:=by rfl)
  (h1:(JQ [tg] X.env).map (·.2)=[U9 tg X.env]:=by rfl):PS X (.Assign [tg] e pos) (Z2m te g):=by
 intro pins s σ H D I h
 refine wpAny_Assign_stores (thn (he pins s σ H _ I h) λv s1 qz9=>?_) hs hw
 obtain⟨x,H1,I1,r1,q1⟩:=qz9
 rw[h1]
 exact thn (hg pins s1 σ H1 x v _ I1 r1 q1) λ_ s2 q=>q
theorem Zsb{i:Nat}{x:Str}{e:Expr}{te:TE}{pos':Pos}(hN:X.N.Nodup)(hi:X.N[i]? =some x)(hx:Loc X.env.scope x)(he:PE X e te)(hs:VP e (some (.Name x pos')) pos.line X.env=pure false:=by rfl)(hf:X.fn x=true∨X.env.scope.names.lookup x=some .local:=by first|exact .inl rfl|exact .inr rfl|assumption) :
  PS X (.Assign [.Name x pos'] e pos) (Z2m te (Zpc i)):=by
 intro pins s σ H D I h
 refine wpAny_Assign_Name (thn (he pins s σ H _ I h) λv s1 qz9=>?_) hs
 obtain⟨y,H1,I1,r1,q1⟩:=qz9
 exact Zf1 I1 hN hi hx r1 (λs2 I2=>⟨_,H1,I2,q1⟩) hf
noncomputable def Ydl(i j:Nat)(ta:TA):TS:=λD σ H=>ta σ H λvs H1=>∃v w,vs=[v,w]∧D.nx ((σ.set i (some v)).set j (some w)) H1
theorem Z5d{i j:Nat}{x y:Str}{a b:Expr}{ta:TA}{px py pt:Pos}{kt k2 pt2}(hc:X.calm=true)(hN:X.N.Nodup)(hi:X.N[i]? =some x)(hj:X.N[j]? =some y)(hij:i≠j)
  (hx:X.env.scope.names.lookup x=some .local) (hy:X.env.scope.names.lookup y=some .local) (ha:PA X [a,b] ta)
  (hw:swappedStores [.Tuple [.Name x px,.Name y py] kt pt] (.Tuple [a,b] k2 pt2) X.env=pure (some [x,y]))
  (hs:swapsWithSole [.Tuple [.Name x px,.Name y py] kt pt] (.Tuple [a,b] k2 pt2) pos.line X.env=pure false:=by rfl) :
  PS X (.Assign [.Tuple [.Name x px,.Name y py] kt pt] (.Tuple [a,b] k2 pt2) pos) (Ydl i j ta):=by
 intro pins s σ H D I h
 rw[exec_Assign_arm]
 refine Xb (wpAny_standAt ?_)
 rw[hs]
 refine Xb (Xi ?_)
 rw[if_neg (by decide)]
 refine Xb (Tuple_ (thn (ha _ pins s σ H _ I h) λus s1 qz9=>?_))
 obtain⟨vs,H1,I1,r1,q1⟩:=qz9
 obtain⟨v,w,e1,q1⟩:=q1
 subst e1
 obtain⟨u1,u2,rfl,rv,rw'⟩:∃u1 u2,us=[u1,u2]∧RelV v u1∧RelV w u2:=by
  cases r1 with
  | cons p q=>
   cases q with
   | cons p' q'=>
    cases q'
    exact⟨_,_,rfl,p,p'⟩
 refine JD ?_ (by show 2≤Xr;decide)
 have I2:Inv X pins σ H1 { s1 with heap:=s1.heap.push { cls:=.type "tuple",data:=.seq [u1,u2].toArray } }:=I1.kept (t':=s1.toks) λb o e=>Xf _ e
 rw[hw]
 refine Xb (Xi ?_)
 show Xu (X5 X.prog X.w) X.A (do rule "assign.swapped-stores";let items←unpackItems (.ref s1.heap.objs.size) 2 none;assignInOrder [λv=>bindName X.env y v,λv=>bindName X.env x v] items.reverse;pure Flow.next) _ _ _
 refine Xb (Uh (Xb (unpackItems_tuple (items:=#[u1,u2]) (I.ok.hd hc) (IsTup.new s1.heap _) λh' hx'=>?_)))
 have I3:=I2.kept (h':=h') (t':=s1.toks) λb o e=>hx' b o (XQ (Xx e)) e
 show Xu _ _ (assignInOrder [λv=>bindName X.env y v,λv=>bindName X.env x v] [u2,u1]>>= λ_=>pure Flow.next) _ _ _
 refine Xb (assignInOrder_cons (wpAny_bindName (Zf1 I3 hN hj (.inl hy) rw' (λs2 I4=>?_) (.inr hy))))
 refine assignInOrder_cons (wpAny_bindName (Zf1 I4 hN hi (.inl hx) rv (λs3 I5=>assignInOrder_nil (Xi ?_)) (.inr hx)))
 rw[List.set_comm _ _ (Vr hij)]at I5
 exact⟨_,H1,I5,q1⟩
end
section
variable {X:Cx}{pos:Pos}
noncomputable def Z29(c:TT)(tb:TS):TS:=λD σ H=>∃W:Nat->St->Hp->Prop,(∃m,W m σ H)∧∀m σ H,W m σ H ->
 c σ H λb H1=>if b=true then∃N:St->Hp->Prop,(∀σ' H',N σ' H'->∃m',m'<m∧W m' σ' H')∧tb { D with nx:=N,ct:=N,bk:=D.nx } σ H1 else D.nx σ H1
theorem Zv4{c:Expr}{body:List Stmt}{tc:TT}{tb:TS}(hp:PassesOwn (X5 X.prog X.w) X.A X.env X.xe)(hc:PT X c tc)(hb:PSs X body tb):PS X (.While c body [] pos) (Z29 tc tb):=by
 intro pins s σ H D I h
 obtain⟨W,⟨m0,w0⟩,turn⟩:=h
 refine wpAny_While (codeAny_whileLoop (λn s'=>∃σ' H',Inv X pins σ' H' s'∧W n σ' H') ?_ m0 ⟨σ,H,I,w0⟩)
 rintro n s1 ⟨σ1,H1,I1,w1⟩
 refine Bb hp (thn (hc pins s1 σ1 H1 _ I1 (turn n σ1 H1 w1)) λb s2 qz9=>?_)
 obtain⟨H2,I2,q2⟩:=qz9
 cases b with
 | true=>
  obtain⟨N,hN,q2⟩:=q2
  rw[if_pos rfl]
  refine Bb hp (thn (hb pins s2 σ1 H2 _ I2 q2) λf s3 q3=>?_)
  cases f with
  | next=>
   obtain⟨σ3,H3,I3,n3⟩:=q3
   obtain⟨m',hm,w3⟩:=hN σ3 H3 n3
   exact⟨m',hm,σ3,H3,I3,w3⟩
  | cont=>
   obtain⟨σ3,H3,I3,n3⟩:=q3
   obtain⟨m',hm,w3⟩:=hN σ3 H3 n3
   exact⟨m',hm,σ3,H3,I3,w3⟩
  | brk=>exact q3
  | ret v=>exact q3
 | false=>
  rw[if_neg XH]
  exact wpAny_execs_nil ⟨σ1,H2,I2,q2⟩
end
set_option genInjectivity false in
structure It where
 go:Nat->Hp->Prop
 yld:Nat->Hp->V->Hp->Prop
 stop:Nat->Hp->Prop
noncomputable def Zhp(X:Cx)(pins:List (Addr×Obj))(H:Hp)(b:Addr):Prop :=
 H b=none∧b≠X.env.locals∧b∉X.fs∧(b∈X.ex∨X.s₀.heap.objs.size≤b)∧(∀x c,X.env.cells.lookup x=some c->c≠b)∧∀p∈X.pn ++ pins,p.1≠b
theorem Inv.fpOk{X:Cx}{pins:List (Addr×Obj)}{σ:St}{H H':Hp}{s:Xg}{b:Addr}(I:Inv X pins σ H s)(hb:s.heap.objs.size≤b)(hn:H' b=none):Zhp X pins H' b:=by
 refine⟨hn,Q3 (X4 I.lt hb),I.nofs hb,.inr (Xz I.sz hb),λx c e z=>?_,λp hp z=>?_⟩
 ·obtain⟨v,q⟩:=I.cell x c e
  exact absurd (X4 q.lt (by rw[z];exact hb)) (Ve _)
 ·exact absurd (X4 (Xx (I.pin p hp).1) (by rw[z];exact hb)) (Ve _)
structure Turn(P:Qj)(w:Qy)(K:Xd)(tg:Expr)(J:It)(fp:List Addr)(it:Addr)(tn:Nat->Heap->Prop):Prop where
 mem:it∈fp
 obj:∀i h,tn i h->∀b∈fp,∃o,h.get? b=some o∧∀v,o.data≠ .cell v
 keep:∀i h h',tn i h->(∀b∈fp,∀o,h.get? b=some o->h'.get? b=some o)->tn i h'
 item:∀(X:Cx),X.prog=P->X.w=w->X.K=K->X.calm=true->∀(i:Nat) (pins:List (Addr×Obj)) (s:Xg) (σ:St) (H:Hp) (E:Xc->Xg->Prop),Inv X pins σ H s->(∀b∈fp,Zhp X pins H b)->tn i s.heap->J.go i H ->
  Xu (X5 P w) X.A (Ua (.ref it)) (λr s1=>∃u,r=some u∧
   Xu (X5 P w) X.A (letOwnedTupleGo tg (.ref it) u) (λ_ s2=>∃x H',Inv X pins σ H' s2∧RelV x u∧J.yld i H x H'∧tn (i+1) s2.heap∧∀b∈fp,H' b=none) E s1) E s
 done:∀(X:Cx),X.prog=P->X.w=w->X.K=K->X.calm=true->∀(i:Nat) (pins:List (Addr×Obj)) (s:Xg) (σ:St) (H:Hp) (E:Xc->Xg->Prop),Inv X pins σ H s->(∀b∈fp,Zhp X pins H b)->tn i s.heap->J.stop i H ->
  Xu (X5 P w) X.A (Ua (.ref it)) (λr s1=>r=none∧Inv X pins σ H s1) E s
 self:∀(A:Qv) (i:Nat) (s:Xg) (Q:Xc->Xg->Prop) (E:Xc->Xg->Prop),tn i s.heap->Q (.ref it) s->Xu (X5 P w) A (pyIter (.ref it)) Q E s
noncomputable abbrev TI:=St->Hp->(It->Hp->Prop)->Prop
noncomputable def PIE(X:Cx)(pins:List (Addr×Obj))(σ:St)(tg:Expr)(R:It->Hp->Prop)(itv:Xc)(s2:Xg):Prop :=
 ∃(it:Addr) (fp:List Addr) (tn:Nat->Heap->Prop) (J:It) (H':Hp),itv= .ref it∧Inv X pins σ H' s2∧Turn X.prog X.w X.K tg J fp it tn∧tn 0 s2.heap∧(∀b∈fp,Zhp X pins H' b)∧R J H'
noncomputable def PI(X:Cx)(tg iter:Expr)(wi:TI):Prop :=
 ∀(pins:List (Addr×Obj)) (s:Xg) (σ:St) (H:Hp) (R:It->Hp->Prop),Inv X pins σ H s->wi σ H R ->
  Xu (X5 X.prog X.w) X.A (eval iter X.env) (λv s1=>Xu (X5 X.prog X.w) X.A (pyIter v) (PIE X pins σ tg R) X.xe s1) X.xe s
theorem Z4n{M:Model}{A:Qv}{E:Xc->Xg->Prop}{s:Xg}{tg:Expr}{it:Addr}{u:Xc}{o:Obj}{n:String}{vs:Array Xc}{Q:Unit->Xg->Prop}(ho:s.heap.get? it=some o)(hc:o.cls= .type n)(hd:o.data= .fields vs)
  (hn:["enumerate","zip","dict_itemiterator","dict_reverseitemiterator","odict_iterator","itertools.zip_longest","itertools.pairwise"].contains n=false) (hQ:Q () s):Xu M A (letOwnedTupleGo tg (.ref it) u) Q E s:=by
 unfold letOwnedTupleGo
 cases tg<;>first
  | exact Xi hQ
  | (cases u<;>first
    | exact Xi hQ
    | (refine Xb (wpAny_load ho ?_)
       rw[hc,hd]
       show Xu M A (if(["enumerate","zip","dict_itemiterator","dict_reverseitemiterator","odict_iterator","itertools.zip_longest","itertools.pairwise"].contains n&&vs[0]? ==some (JL _))=true then _ else _) Q E s
       rw[if_neg (by intro h;rw[hn,Bool.false_and]at h;cases h)]
       exact Xi hQ))
noncomputable def Itl(K:Xd)(a:Addr):It :=
 ⟨λi H=>∃xs x,SqL K H a xs∧xs[i]? =some x,λi H x H'=>H'=H∧∀xs,SqL K H a xs->xs[i]? =some x,λi H=>∃xs,SqL K H a xs∧xs.length≤i⟩
noncomputable def Itr(lo:Int)(n:Nat):It:=⟨λi _=>i<n,λi H x H'=>H'=H∧x= .int (lo+i),λi _=>n≤i⟩
theorem Zq1{P:Qj}{w:Qy}{K:Xd}{tg:Expr}(a it:Addr):Turn P w K tg (Itl K a) [it] it (λi h=>h.IsListIter it a i) where
 mem:=by simp
 obj:=λi h st b hb=>by
  have e:b=it:=by simpa using hb
  subst e
  obtain⟨o,e,c,d⟩:=st
  exact⟨o,e,λv z=>by rw[d]at z;cases z⟩
 keep:=λi h h' st k=>st.at λo e=>k it (by simp) o e
 item:=by
  intro X hP hw hK hc i pins s σ H E I hf st hg
  subst hP hw hK
  obtain⟨xs,x,hq,hx⟩:=hg
  obtain⟨its,rv,p,hz⟩:=I.list hq
  obtain⟨u,hu,ru⟩:=rv.get hx
  obtain⟨f0,f1,f2,f3,f4,f5⟩:=hf it (by simp)
  refine wpAny_pyNext_list_item st p.isList (x:=u) (by simpa using hu) λh' st' sb=>?_
  have I1:Inv X pins σ H { s with heap:=h' }:=I.turned (t':=s.toks) (λb o hb e=>(sb.2 b hb).trans e) f0 f1 f3 f4 f5
  obtain⟨o,e,c,d⟩:=id st'
  exact⟨u,rfl,Z4n (s:={ s with heap:=h' }) e c d (by decide) ⟨x,H,I1,ru,⟨rfl,λys hy=>by rw[I.list_inj hy hq];exact hx⟩,st',λb hb=>(hf b hb).1⟩⟩
 done:=by
  intro X hP hw hK hc i pins s σ H E I hf st hg
  subst hP hw hK
  obtain⟨xs,hq,hx⟩:=hg
  obtain⟨its,rv,p,hz⟩:=I.list hq
  obtain⟨f0,f1,f2,f3,f4,f5⟩:=hf it (by simp)
  have hl:=rv.length
  exact wpAny_pyNext_list_end (I.ok.hd hc) st p.isList (by simp;omega) λh' eb=>⟨rfl,I.turned (t':=s.toks) (λb o hb e=>eb b o hb e) f0 f1 f3 f4 f5⟩
 self:=λ_ _ _ _ _ st h=>wpAny_pyIter_listiter st h
theorem Zoy{P:Qj}{w:Qy}{K:Xd}{tg:Expr}(it:Addr)(lo:Int)(n:Nat):Turn P w K tg (Itr lo n) [it] it (λi h=>IsRangeIter h it (lo+(i:Nat)*1) ((n:Int)-(i:Nat)) 1) where
 mem:=by simp
 obj:=λi h st b hb=>by
  have e:b=it:=by simpa using hb
  subst e
  exact⟨_,st,λv z=>by
   have z':Data.fields _=Data.cell v:=z
   cases z'⟩
 keep:=λi h h' st k=>k it (by simp) _ st
 item:=by
  intro X hP hw hK hc i pins s σ H E I hf st hg
  subst hP hw hK
  obtain⟨f0,f1,f2,f3,f4,f5⟩:=hf it (by simp)
  have W:=Walks.range (prog:=X.prog) (w:=X.w) (I.ok.hd hc) it lo 1 n
  refine W.item i s _ _ hg st λv h' tk hv st' kk=>?_
  obtain⟨t,rfl⟩:=hv
  have I1:Inv X pins σ H { s with heap:=h',toks:=tk }:=I.turned (λb o hb e=>kk b o (by simpa using hb) e) f0 f1 f3 f4 f5
  refine⟨_,rfl,Z4n (s:={ s with heap:=h',toks:=tk }) (n :="range_iterator") st' rfl rfl (by decide) ⟨.int (lo+i),H,I1,⟨t,?_⟩,⟨rfl,rfl⟩,st',λb hb=>(hf b hb).1⟩⟩
  rw[Int.mul_one]
 done:=by
  intro X hP hw hK hc i pins s σ H E I hf st hg
  subst hP hw hK
  obtain⟨f0,f1,f2,f3,f4,f5⟩:=hf it (by simp)
  exact wpAny_pyNext_range_end (I.ok.hd hc) st (by have:n≤i:=hg;omega) λh' eb=>⟨rfl,I.turned (t':=s.toks) (λb o hb e=>eb b o hb e) f0 f1 f3 f4 f5⟩
 self:=λ_ _ _ _ _ st h=>wpAny_pyIter_rangeiter st h
section
variable {X:Cx}{tg:Expr}
noncomputable def Z34(K:Xd)(tl:TE):TI:=λσ H R=>tl σ H λx H1=>∃a,x= .ref a∧(∃xs,SqL K H1 a xs)∧R (Itl K a) H1
theorem Zze{l:Expr}{tl:TE}(hl:PE X l tl):PI X tg l (Z34 X.K tl):=by
 intro pins s σ H R I h
 refine thn (hl pins s σ H _ I h) λv s1 qz9=>?_
 obtain⟨x,H1,I1,r1,q1⟩:=qz9
 obtain⟨a,e,⟨xs,hq⟩,q⟩:=q1
 subst e
 cases r1
 obtain⟨its,rv,p,hz⟩:=I1.list hq
 refine wpAny_pyIter_list p.isList ?_
 refine⟨s1.heap.objs.size,[s1.heap.objs.size],_,_,H1,rfl,I1.kept (t':=s1.toks) λb o e=>Xf _ e,Zq1 a _,⟨_,Xv _ rfl,rfl,rfl⟩,λb hb=>?_,q⟩
 have e:b=s1.heap.objs.size:=by simpa using hb
 subst e
 exact I1.fpOk (Qp _) (I1.hok.fresh (Qp _))
theorem Znt{pins:List (Addr×Obj)}{σ:St}{H:Hp}{s:Xg}{R:It->Hp->Prop}{E:Xc->Xg->Prop}{lo hi:Int}{t u v:Tok}{tk:Nat}(I:Inv X pins σ H s)(h1:-(2^62)≤lo)(h2:lo<2^62)(h3:-(2^62)≤hi)(h4:hi<2^62)
  (q:R (Itr lo (hi-lo).toNat) H):Xu (X5 X.prog X.w) X.A (pyIter (.ref s.heap.objs.size)) (PIE X pins σ tg R) E { s with heap:=s.heap.push { cls:=.type "range",data:=.fields #[.int lo t,.int hi u,.int 1 v] },toks:=tk }:=by
 refine wpAny_pyIter_range (IsRange.new ..) (small_one h1 h2 h3 h4) ?_
 have I1:Inv X pins σ H { s with heap:=s.heap.push { cls:=.type "range",data:=.fields #[.int lo t,.int hi u,.int 1 v] },toks:=tk }:=I.kept λb o e=>Xf _ e
 refine⟨(s.heap.push { cls:=.type "range",data:=.fields #[.int lo t,.int hi u,.int 1 v] }).objs.size,[(s.heap.push { cls:=.type "range",data:=.fields #[.int lo t,.int hi u,.int 1 v] }).objs.size],_,_,H,rfl,
  I1.kept (t':=tk) λb o e=>Xf _ e,Zoy _ lo (hi-lo).toNat,?_,λb hb=>?_,q⟩
 ·have e1:lo+((0:Nat):Int)*1=lo:=by simp
  have e2:(((hi-lo).toNat:Nat):Int)-((0:Nat):Int)=Builtin.Range.rangeSize lo hi 1:=by rw[rangeSize_one];split<;>omega
  show IsRangeIter _ _ (lo+((0:Nat):Int)*1) ((((hi-lo).toNat:Nat):Int)-((0:Nat):Int)) 1
  rw[e1,e2]
  exact Xv _ rfl
 ·have e:b=(s.heap.push { cls:=.type "range",data:=.fields #[.int lo t,.int hi u,.int 1 v] }).objs.size:=by simpa using hb
  subst e
  exact I1.fpOk (Qp _) (I1.hok.fresh (Qp _))
noncomputable def Z8l(ta:TA):TI:=λσ H R=>ta σ H λvs H1=>∃j:Int,vs=[.int j]∧-(2^62)≤j∧j<2^62∧R (Itr 0 j.toNat) H1
noncomputable def Z82(ta:TA):TI:=λσ H R=>ta σ H λvs H1=>∃i j:Int,vs=[.int i,.int j]∧(-(2^62)≤i∧i<2^62∧-(2^62)≤j∧j<2^62)∧R (Itr i (j-i).toNat) H1
theorem Zr9{a:Expr}{ta:TA}{p pos:Pos}(hg:Gl X "range")(hm:X.mg "range"=none)(ha:PA X [a] ta)(hs:Xn [a] X.env=[(false,eval a X.env)]:=by rfl):PI X tg (.Call (.Name "range" p) [a] [] pos) (Z8l ta):=by
 intro pins s σ H R I h
 refine Call_ (Zct I hg hm boot_range (JH (thn (ha pos pins s σ H _ I h) λus s1 qz9=>?_) hs rfl))
 obtain⟨vs,H1,I1,r1,q1⟩:=qz9
 obtain⟨j,e,q1,q2,q⟩:=q1
 subst e
 cases r1 with
 | cons r rr=>
  cases rr
  obtain⟨t,rfl⟩:=r
  exact call_range_1 (Znt I1 (by omega) (by omega) q1 q2 (by simpa using q))
theorem Zqv{a b:Expr}{ta:TA}{p pos:Pos}(hg:Gl X "range")(hm:X.mg "range"=none)(ha:PA X [a,b] ta)(hs:Xn [a,b] X.env=[(false,eval a X.env),(false,eval b X.env)]:=by rfl)(hs2:Xn [b] X.env=[(false,eval b X.env)]:=by rfl) :
  PI X tg (.Call (.Name "range" p) [a,b] [] pos) (Z82 ta):=by
 intro pins s σ H R I h
 refine Call_ (Zct I hg hm boot_range (JH (thn (ha pos pins s σ H _ I h) λus s1 ⟨vs,H1,I1,r1,q1⟩=>?_) (by rw[hs,hs2]) (by rw[hs2];rfl)))
 obtain⟨i,j,e,⟨q1,q2,q3,q4⟩,q⟩:=q1
 subst e
 cases r1 with
 | cons r rr=>
  cases rr with
  | cons r' rr=>
   cases rr
   obtain⟨t,rfl⟩:=r
   obtain⟨t',rfl⟩:=r'
   exact call_range_2 (Znt I1 q1 q2 q3 q4 q)
noncomputable def Ydt(wi:TI)(g:TG)(tb:TS):TS:=λD σ H=>wi σ H λJ H1=>∃W:Nat->Nat->St->Hp->Prop,(∃m,W 0 m σ H1)∧∀i m σ H,W i m σ H ->
 (J.stop i H∧D.nx σ H)∨(J.go i H∧∃N:St->Hp->Prop,(∀σ' H',N σ' H'->∃m',m'<m∧W (i+1) m' σ' H')∧∀x H',J.yld i H x H'->g x σ H' λσ2 H2=>tb { D with nx:=N,ct:=N,bk:=D.nx } σ2 H2)
noncomputable def Zhm(fp:List Addr)(h:Heap):List (Addr×Obj):=fp.filterMap λb=>(h.get? b).map λo=>(b,o)
theorem Zau{fp:List Addr}{h:Heap}{b:Addr}{o:Obj}(hb:b∈fp)(e:h.get? b=some o):(b,o)∈Zhm fp h:=List.mem_filterMap.mpr ⟨b,hb,by rw[e];rfl⟩
theorem Zs6{fp:List Addr}{h:Heap}{p:Addr×Obj}(hp:p∈Zhm fp h):p.1∈fp∧h.get? p.1=some p.2:=by
 obtain⟨b,hb,e⟩:=List.mem_filterMap.mp hp
 cases q:h.get? b with
 | none=>rw[q]at e;cases e
 | some o=>
  rw[q]at e
  have e':(b,o)=p:=QQ e
  subst e'
  exact⟨hb,q⟩
theorem Inv.pinned{pins:List (Addr×Obj)}{σ:St}{H:Hp}{s:Xg}{fp:List Addr}(I:Inv X pins σ H s)(hf:∀b∈fp,Zhp X pins H b)(ho:∀b∈fp,∃o,s.heap.get? b=some o∧∀v,o.data≠ .cell v):Inv X (pins ++ Zhm fp s.heap) σ H s :=
 I.pins_of λp hp=>(Xq.mp hp).elim (λz=>I.pin p (X6 _ z)) λz=>by
  obtain⟨hb,e⟩:=Zs6 z
  obtain⟨f0,f1,f2,_⟩:=hf p.1 hb
  obtain⟨o,e',d⟩:=ho p.1 hb
  rw[e]at e';cases e'
  exact⟨e,f0,f1,f2,d⟩
theorem Inv.unpinned{pins pl:List (Addr×Obj)}{σ:St}{H:Hp}{s:Xg}(I:Inv X (pins ++ pl) σ H s):Inv X pins σ H s:=I.pins_of λp hp=>I.pin p (X6 _ (Bk _ hp))
theorem Z6g{iter:Expr}{body:List Stmt}{wi:TI}{g:TG}{tb:TS}{pos:Pos}(hp:PassesOwn (X5 X.prog X.w) X.A X.env X.xe)(hc:X.calm=true)(hi:PI X tg iter wi)(hg:PG X tg g)(hb:PSs X body tb)
  (hs:∀x,BK iter X.env x=pure x:=by intro _;rfl):PS X (.For tg iter body [] pos) (Ydt wi g tb):=by
 intro pins s σ H D I h
 refine wpAny_For (thn (hi pins s σ H _ I h) λv s1 h1=>thn h1 λitv s2 h2=>?_) hs
 obtain⟨it,fp,tn,J,H2,e,I2,T,st2,f2,W,⟨m0,w0⟩,turn⟩:=h2
 subst e
 -- what stays true of the iterator's objects through the loop
 have stat:∀{H':Hp},(∀b∈fp,H' b=none)->∀b∈fp,Zhp X pins H' b:=λhn b hb=>⟨hn b hb,(f2 b hb).2⟩
 refine codeAny_forLoop_any (λn s'=>∃i σ' H',Inv X pins σ' H' s'∧tn i s'.heap∧(∀b∈fp,H' b=none)∧W i n σ' H') ?_ m0 ⟨0,σ,H2,I2,st2,λb hb=>(f2 b hb).1,w0⟩
 rintro n s3 ⟨i,σ3,H3,I3,st3,fr3,w3⟩
 rcases turn i n σ3 H3 w3 with⟨stop,qn⟩|⟨go,N,hN,step⟩
 ·refine Bb hp (thn (T.done X rfl rfl rfl hc i pins s3 σ3 H3 X.xe I3 (stat fr3) st3 stop) λr s4 qz9=>?_)
  obtain⟨hr,I4⟩:=qz9
  subst hr
  exact wpAny_execs_nil ⟨σ3,H3,I4,qn⟩
 ·refine Bb hp (thn (T.item X rfl rfl rfl hc i pins s3 σ3 H3 X.xe I3 (stat fr3) st3 go) λr s4 qz9=>?_)
  obtain⟨u,hr,h4⟩:=qz9
  subst hr
  refine Bb hp (thn h4 λ_ s5 qz9=>?_)
  obtain⟨x,H5,I5,r5,y5,st5,fr5⟩:=qz9
  have I5':=I5.pinned (stat fr5) (T.obj _ _ st5)
  refine Bb hp (thn (hg _ s5 σ3 H5 x u _ I5' r5 (step x H5 y5)) λ_ s6 qz9=>?_)
  obtain⟨σ6,H6,I6,q6⟩:=qz9
  refine Bb hp (thn (hb _ s6 σ6 H6 _ I6 q6) λf s7 q7=>?_)
  have again:∀{σ7:St} {H7:Hp},Inv X (pins ++ Zhm fp s5.heap) σ7 H7 s7->N σ7 H7->∃m,m<n∧∃i σ' H',Inv X pins σ' H' s7∧tn i s7.heap∧(∀b∈fp,H' b=none)∧W i m σ' H':=fun{σ7 H7} I7 n7=>by
   obtain⟨m',hm,w7⟩:=hN σ7 H7 n7
   refine⟨m',hm,i+1,σ7,H7,I7.unpinned,T.keep _ _ _ st5 λb hb o e=>(I7.pin (b,o) (X6 _ (X6 _ (Zau hb e)))).1,λb hb=>?_,w7⟩
   obtain⟨o,e,d⟩:=T.obj _ _ st5 b hb
   exact(I7.pin (b,o) (X6 _ (X6 _ (Zau hb e)))).2.1
  cases f with
  | next=>obtain⟨σ7,H7,I7,n7⟩:=q7;exact again I7 n7
  | cont=>obtain⟨σ7,H7,I7,n7⟩:=q7;exact again I7 n7
  | brk=>obtain⟨σ7,H7,I7,q7⟩:=q7;exact⟨σ7,H7,I7.unpinned,q7⟩
  | ret v=>obtain⟨x7,σ7,H7,I7,r7,q7⟩:=q7;exact⟨x7,σ7,H7,I7.unpinned,r7,q7⟩
end
noncomputable abbrev R2:=V->V->Hp->VK->Prop
noncomputable def OpR(X:Cx)(f:Xc->Xc->Sem Xc)(r:R2):Prop :=
 ∀(pins:List (Addr×Obj)) (s:Xg) (σ:St) (H:Hp) (x y:V) (v u:Xc) (Q:VK),Inv X pins σ H s->RelV x v->RelV y u->r x y H Q ->
  Xu (X5 X.prog X.w) X.A (f v u) (EP X pins σ Q) X.xe s
noncomputable def UnR(X:Cx)(f:Xc->Sem Xc)(r:V->Hp->VK->Prop):Prop :=
 ∀(pins:List (Addr×Obj)) (s:Xg) (σ:St) (H:Hp) (x:V) (v:Xc) (Q:VK),Inv X pins σ H s->RelV x v->r x H Q ->
  Xu (X5 X.prog X.w) X.A (f v) (EP X pins σ Q) X.xe s
noncomputable def Zbt(X:Cx)(f:Xc)(r:List V->Hp->VK->Prop):Prop :=
 ∀(pins:List (Addr×Obj)) (s:Xg) (σ:St) (H:Hp) (xs:List V) (us:List Xc) (Q:VK),Inv X pins σ H s->Vals xs us->r xs H Q ->
  Xu (X5 X.prog X.w) X.A (call f us) (EP X pins σ Q) X.xe s
noncomputable def Yds(X:Cx)(r:V->Hp->(Bool->Hp->Prop)->Prop):Prop :=
 ∀(pins:List (Addr×Obj)) (s:Xg) (σ:St) (H:Hp) (x:V) (v:Xc) (Q:Bool->Hp->Prop),Inv X pins σ H s->RelV x v->r x H Q ->
  Xu (X5 X.prog X.w) X.A (truthy v) (TP X pins σ Q) X.xe s
noncomputable def tOp(r:R2)(ta tb:TE):TE:=λσ H Q=>ta σ H λx H1=>tb σ H1 λy H2=>r x y H2 Q
noncomputable def tUn(r:V->Hp->VK->Prop)(ta:TE):TE:=λσ H Q=>ta σ H λx H1=>r x H1 Q
noncomputable def rI(C:Int->Int->Prop)(g:Int->Int->V):R2:=λx y H Q=>∃i j,x= .int i∧y= .int j∧C i j∧Q (g i j) H
noncomputable def rI0(g:Int->Int->V):R2:=λx y H Q=>∃i j,x= .int i∧y= .int j∧Q (g i j) H
noncomputable def rU(g:Int->V):V->Hp->VK->Prop:=λx H Q=>∃i,x= .int i∧Q (g i) H
section
variable {X:Cx}{a b c:Expr}{ta tb tc:TE}{pos:Pos}
theorem Ya1(ha:PE X a ta)(hb:PE X b tb){pins:List (Addr×Obj)}{s:Xg}{σ:St}{H:Hp}{R:V->V->Hp->Prop}(I:Inv X pins σ H s)
  (h:ta σ H λx H1=>tb σ H1 λy H2=>R x y H2) {Q:Xc->Xg->Prop} {f:Xc->Xc->Sem Xc}
  (hf:∀v u s2 x y H2,Inv X pins σ H2 s2->RelV x v->RelV y u->R x y H2->Xu (X5 X.prog X.w) X.A (f v u) Q X.xe s2) :
  Xu (X5 X.prog X.w) X.A (eval a X.env) (λv s₁=>Xu (X5 X.prog X.w) X.A (eval b X.env) (λu s₂=>Xu (X5 X.prog X.w) X.A (f v u) Q X.xe s₂) X.xe s₁) X.xe s:=by
 refine thn (ha pins s σ H _ I h) λv s1 qz9=>?_
 obtain⟨x,H1,I1,r1,q1⟩:=qz9
 refine thn (hb pins s1 σ H1 _ I1 q1) λu s2 qz9=>?_
 obtain⟨y,H2,I2,r2,q2⟩:=qz9
 exact hf v u s2 x y H2 I2 r1 r2 q2
theorem Zyv{op:Operator}{r:R2}(ho:OpR X (Uu op) r)(ha:PE X a ta)(hb:PE X b tb):PE X (.BinOp a op b pos) (tOp r ta tb):=by
 intro pins s σ H Q I h
 exact wpAny_BinOp (Ya1 ha hb I h λv u s2 x y H2 I2 rx ry q=>ho pins s2 σ H2 x y v u Q I2 rx ry q)
theorem Z98{op:UnaryOp}{r:V->Hp->VK->Prop}(ho:UnR X (unaryOp op) r)(ha:PE X a ta):PE X (.UnaryOp op a pos) (tUn r ta):=by
 intro pins s σ H Q I h
 refine UnaryOp_ (thn (ha pins s σ H _ I h) λv s1 qz9=>?_)
 obtain⟨x,H1,I1,r1,q1⟩:=qz9
 exact ho pins s1 σ H1 x v Q I1 r1 q1
theorem opI{f:Xc->Xc->Sem Xc}{C:Int->Int->Prop}{g:Int->Int->Int}
  (rule:∀(i j:Int) (t u:Tok) (s:Xg) (Q:Xc->Xg->Prop) (E:Xc->Xg->Prop),C i j->Q (.int (g i j) s.toks) { s with toks:=s.toks+1 }->Xu (X5 X.prog X.w) X.A (f (.int i t) (.int j u)) Q E s) :
  OpR X f (rI C λi j=>.int (g i j)):=by
 intro pins s σ H x y v u Q I rx ry h
 obtain⟨i,j,rfl,rfl,hc,q⟩:=h
 obtain⟨t,rfl⟩:=rx
 obtain⟨t',rfl⟩:=ry
 exact rule i j t t' s _ _ hc ⟨.int (g i j),H,I.tok _,⟨_,rfl⟩,q⟩
theorem Ycm{f:Xc->Xc->Sem Xc}{g:Int->Int->Int}
  (rule:∀(i j:Int) (t u:Tok) (s:Xg) (Q:Xc->Xg->Prop) (E:Xc->Xg->Prop),Q (.int (g i j) s.toks) { s with toks:=s.toks+1 }->Xu (X5 X.prog X.w) X.A (f (.int i t) (.int j u)) Q E s) :
  OpR X f (rI0 λi j=>.int (g i j)):=by
 intro pins s σ H x y v u Q I rx ry h
 obtain⟨i,j,rfl,rfl,q⟩:=h
 obtain⟨t,rfl⟩:=rx
 obtain⟨t',rfl⟩:=ry
 exact rule i j t t' s _ _ ⟨.int (g i j),H,I.tok _,⟨_,rfl⟩,q⟩
theorem Z7x{f:Xc->Xc->Sem Xc}{g:Int->Int->Bool}
  (rule:∀(i j:Int) (t u:Tok) (s:Xg) (Q:Xc->Xg->Prop) (E:Xc->Xg->Prop),Q (.bool (g i j)) s->Xu (X5 X.prog X.w) X.A (f (.int i t) (.int j u)) Q E s) :
  OpR X f (rI0 λi j=>.bl (g i j)):=by
 intro pins s σ H x y v u Q I rx ry h
 obtain⟨i,j,rfl,rfl,q⟩:=h
 obtain⟨t,rfl⟩:=rx
 obtain⟨t',rfl⟩:=ry
 exact rule i j t t' s _ _ ⟨.bl (g i j),H,I,rfl,q⟩
noncomputable def Z7k(i j:Int):Prop:=0≤j∧j≤1000000∧i.natAbs<2^64
noncomputable def CMul(i j:Int):Prop:=(-(2^64)<i∧i<2^64)∨(-(2^64)<j∧j<2^64)
theorem CMul.ok{i j:Int}(h:CMul i j):IntMulOk i j:=by
 rcases h with⟨h1,h2⟩|⟨h1,h2⟩
 ·exact .of_left (intBits_le_64 h1 h2)
 ·exact .of_right (intBits_le_64 h1 h2)
theorem Z63:OpR X (Uu .Add) (rI0 λi j=>.int (i+j)):=Ycm λ_ _ _ _ _ _ _ q=>add_int q
theorem Z5p:OpR X (Uu .Sub) (rI0 λi j=>.int (i-j)):=Ycm λ_ _ _ _ _ _ _ q=>sub_int q
theorem Zyb:OpR X (Uu .Mod) (rI (λ_ j=>j≠0) λi j=>.int (i.fmod j)):=opI λ_ _ _ _ _ _ _ hc q=>mod_int' hc q
theorem Z4x:OpR X (Uu .Pow) (rI Z7k λi j=>.int (i^j.toNat)):=opI λ_ _ _ _ _ _ _ hc q=>pow_int_small hc.1 hc.2.1 hc.2.2 q
theorem unI{f:Xc->Sem Xc}{g:Int->Int}
  (rule:∀(i:Int) (t:Tok) (s:Xg) (Q:Xc->Xg->Prop) (E:Xc->Xg->Prop),Q (.int (g i) s.toks) { s with toks:=s.toks+1 }->Xu (X5 X.prog X.w) X.A (f (.int i t)) Q E s) :
  UnR X f (rU λi=>.int (g i)):=by
 intro pins s σ H x v Q I rx h
 obtain⟨i,rfl,q⟩:=h
 obtain⟨t,rfl⟩:=rx
 exact rule i t s _ _ ⟨.int (g i),H,I.tok _,⟨_,rfl⟩,q⟩
theorem Z7g:UnR X (unaryOp .USub) (rU λi=>.int (-i)):=unI λ_ _ _ _ _ q=>neg_int q
end
section
variable {X:Cx}{a b c:Expr}{ta tb tc:TE}{pos:Pos}
theorem Zwx{pins:List (Addr×Obj)}{σ:St}{H:Hp}{s:Xg}{Q:VK}{k k':Bool}(I:Inv X pins σ H s)(q:Q (.bl k) H)(e:k=k'):EP X pins σ Q (.bool k') s:=by
 subst e
 exact⟨.bl k,H,I,rfl,q⟩
theorem Zqx:OpR X (JK .Lt) (rI0 λi j=>.bl (decide (i<j))):=Z7x λ_ _ _ _ _ _ _ q=>lt_int q
theorem Zug:OpR X (JK .LtE) (rI0 λi j=>.bl (decide (i≤j))):=Z7x λ_ _ _ _ _ _ _ q=>le_int q
theorem Z6i:OpR X (JK .Gt) (rI0 λi j=>.bl (decide (j<i))):=Z7x λ_ _ _ _ _ _ _ q=>gt_int q
theorem Yac:OpR X (JK .GtE) (rI0 λi j=>.bl (decide (j≤i))):=Z7x λ_ _ _ _ _ _ _ q=>ge_int q
theorem Zq8:OpR X (JK .Is) (λx y H Q=>y= .non∧Q (.bl (decide (x= .non))) H):=by
 intro pins s σ H x y v u Q I rx ry h
 obtain⟨rfl,q⟩:=h
 cases ry
 refine is_none_gen (Zwx I q ?_)
 cases x<;>first
  | (cases rx;rfl)
  | (obtain⟨t,rfl⟩:=rx;rfl)
theorem Zyc:OpR X (JK .IsNot) (λx y H Q=>y= .non∧Q (.bl (!decide (x= .non))) H):=by
 intro pins s σ H x y v u Q I rx ry h
 obtain⟨rfl,q⟩:=h
 cases ry
 refine isnot_none_gen (Zwx I q ?_)
 cases x<;>first
  | (cases rx;rfl)
  | (obtain⟨t,rfl⟩:=rx;rfl)
theorem Zb4(b:Expr){op:CmpOp}(h:op≠ .In:=by decide)(h2:op≠ .NotIn:=by decide):behindInMarks op b=false:=by
 have e1:(op==CmpOp.In)=false:=by cases op<;>first|rfl|exact absurd rfl h
 have e2:(op==CmpOp.NotIn)=false:=by cases op<;>first|rfl|exact absurd rfl h2
 cases b<;>simp[behindInMarks,e1,e2]
theorem Zzq{op:CmpOp}{r:R2}(ho:OpR X (JK op) r)(ha:PE X a ta)(hb:PE X b tb)(hm:behindInMarks op b=false):PE X (.Compare a [op] [b] pos) (tOp r ta tb):=by
 intro pins s σ H Q I h
 exact wpAny_Compare1 (Ya1 ha hb I h λv u s2 x y H2 I2 rx ry q=>ho pins s2 σ H2 x y v u Q I2 rx ry q) hm
noncomputable def Zzu(t:TE):TT:=λσ H Q=>t σ H λx H'=>∃k,x= .bl k∧Q k H'
theorem Z1z{op:CmpOp}{r:R2}(ho:OpR X (JK op) r)(ha:PE X a ta)(hb:PE X b tb)(hm:behindInMarks op b=false):PT X (.Compare a [op] [b] pos) (Zzu (tOp r ta tb)):=by
 intro pins s σ H Q I h
 refine wpAny_isTrue_Compare1 (thn (ha pins s σ H _ I h) λv s1 ⟨x,H1,I1,r1,q1⟩=>thn (hb pins s1 σ H1 _ I1 q1) λu s2 ⟨y,H2,I2,r2,q2⟩=>
  thn (ho pins s2 σ H2 x y v u _ I2 r1 r2 q2) λc s3 ⟨z,H3,I3,r3,k,e,q3⟩=>?_) hm
 subst e
 cases r3
 exact Vo ⟨H3,I3,q3⟩
noncomputable def Ztp(r r':R2)(ta tb tc:TE):TE:=λσ H Q=>ta σ H λx H1=>tb σ H1 λy H2=>r x y H2 λz H3=>∃k,z= .bl k∧
 (if k=true then tc σ H3 λw' H4=>r' y w' H4 Q else Q (.bl false) H3)
theorem Zvb{op op':CmpOp}{r r':R2}(ho:OpR X (JK op) r)(ho':OpR X (JK op') r')(ha:PE X a ta)(hb:PE X b tb)(hc:PE X c tc)
  (hm:lastMarks [op,op'] [b,c]=false:=by with_unfolding_all rfl):PE X (.Compare a [op,op'] [b,c] pos) (Ztp r r' ta tb tc):=by
 intro pins s σ H Q I h
 refine Compare_chain (thn (ha pins s σ H _ I h) λv s1 ⟨x,H1,I1,r1,q1⟩=>chain_link (thn (hb pins s1 σ H1 _ I1 q1) λu s2 ⟨y,H2,I2,r2,q2⟩=>
  thn (ho pins s2 σ H2 x y v u _ I2 r1 r2 q2) λd s3 ⟨z,H3,I3,r3,k,e,q3⟩=>?_)) hm
 subst e
 cases r3
 refine Vo ?_
 cases k with
 | false=>exact ite_ff ⟨.bl false,H3,I3,rfl,q3⟩
 | true=>exact ite_tt (chain_last (thn (hc pins s3 σ H3 _ I3 q3) λw' s4 ⟨z',H4,I4,r4,q4⟩=>ho' pins s4 σ H4 y z' u w' Q I4 r2 r4 q4))
theorem Zvx{op op':CmpOp}{r r':R2}(ho:OpR X (JK op) r)(ho':OpR X (JK op') r')(ha:PE X a ta)(hb:PE X b tb)(hc:PE X c tc)
  (hm:lastMarks [op,op'] [b,c]=false:=by with_unfolding_all rfl):PT X (.Compare a [op,op'] [b,c] pos) (Zzu (Ztp r r' ta tb tc)):=by
 intro pins s σ H Q I h
 refine isTrue_chain (thn (ha pins s σ H _ I h) λv s1 ⟨x,H1,I1,r1,q1⟩=>test_link (thn (hb pins s1 σ H1 _ I1 q1) λu s2 ⟨y,H2,I2,r2,q2⟩=>
  thn (ho pins s2 σ H2 x y v u _ I2 r1 r2 q2) λd s3 ⟨z,H3,I3,r3,k,e,q3⟩=>?_)) hm
 subst e
 cases r3
 refine Vo ?_
 cases k with
 | false=>
  obtain⟨k',e',q'⟩:=q3
  cases e'
  exact ite_ff ⟨H3,I3,q'⟩
 | true=>
  refine ite_tt (test_last (thn (hc pins s3 σ H3 _ I3 q3) λw' s4 qz9=>?_))
  obtain⟨z',H4,I4,r4,q4⟩:=qz9
  refine thn (ho' pins s4 σ H4 y z' u w' _ I4 r2 r4 q4) λd' s5 qz9=>?_
  obtain⟨z2,H5,I5,r5,k2,e2,q5⟩:=qz9
  subst e2
  cases r5
  exact Vo ⟨H5,I5,q5⟩
noncomputable def Z9p(K:Xd)(x:V)(H:Hp)(k:Bool):Prop :=
 match x with
 | .non=>k=false
 | .bl b=>k=b
 | .int i=>k=(i !=0)
 | .str y=>y.length≤Xr∧k=((y.length:Int) !=0)
 | .byt y=>y.size≤Xr∧k=((y.size:Int) !=0)
 | .ref p=>(∃xs,SqL K H p xs∧k= !xs.isEmpty)∨(∃xs,SqT K H p xs∧k= !xs.isEmpty)∨∃kvs,H p=some (.dK kvs)∧k= !kvs.isEmpty
 | _=>False
theorem Zog{κ:Type}{kvs:List (κ×V)}{vs:List (κ×Xc)}(r:KV kvs vs):(!vs.isEmpty)= !kvs.isEmpty:=by
 cases r<;>rfl
theorem Zhj{xs:List V}{its:List Xc}(r:Vals xs its):(!its.toArray.isEmpty)= !xs.isEmpty:=by
 cases r<;>simp
theorem Zia:(Xr:Nat)<2^63:=by rw[Qh];decide
theorem Z57:Yds X (λx H Q=>∃k,Z9p X.K x H k∧Q k H):=by
 intro pins s σ H x v Q I rx h
 obtain⟨k,e,q⟩:=h
 have hl:=Zia
 have hs:Xr=16777216:=Qh
 cases x with
 | non=>
  cases rx
  have e':k=false:=e
  subst e'
  exact truthy_none ⟨H,I,q⟩
 | bl b=>
  cases rx
  have e':k=b:=e
  subst e'
  exact Vo ⟨H,I,q⟩
 | int i=>
  obtain⟨t,rfl⟩:=rx
  have e':k=(i !=0):=e
  subst e'
  exact PySem.P.truthy_int ⟨H,I,q⟩
 | str y=>
  obtain⟨t,rfl⟩:=rx
  obtain⟨hy,e'⟩:y.length≤Xr∧k=((y.length:Int) !=0):=e
  subst e'
  exact PySem.P.truthy_str (by omega) ⟨H,I.tok _,q⟩
 | byt y=>
  obtain⟨t,rfl⟩:=rx
  obtain⟨hy,e'⟩:y.size≤Xr∧k=((y.size:Int) !=0):=e
  subst e'
  exact PySem.W.truthy_bytes (by omega) ⟨H,I.tok _,q⟩
 | ref p=>
  cases rx
  have e':(∃xs,SqL X.K H p xs∧k= !xs.isEmpty)∨(∃xs,SqT X.K H p xs∧k= !xs.isEmpty)∨∃kvs,H p=some (.dK kvs)∧k= !kvs.isEmpty:=e
  rcases e' with⟨xs,hx,e'⟩|⟨xs,hx,e'⟩|⟨kvs,hx,e'⟩
  ·subst e'
   obtain⟨its,r,pl,hz⟩:=I.list hx
   have hlen:=r.length
   exact wpAny_truthy_list pl.isList (by simp only[Qa];omega) ⟨H,I.tok _,by rw[Zhj r];exact q⟩
  ·subst e'
   obtain⟨its,r,pl,hz⟩:=I.tuple hx
   have hlen:=r.length
   exact truthy_tuple pl (by simp only[Qa];omega) ⟨H,I.tok _,by rw[Zhj r];exact q⟩
  ·subst e'
   obtain⟨hz,hS,vs,r,m⟩:kvs.length≤Xr∧(p==sysModules)=false∧∃vs,KV kvs vs∧s.heap.DictOf (Zlo X.prog X.w) p vs:=I.hok p _ hx
   have hlen:kvs.length=vs.length:=Paired.length r
   exact wpAny_truthy_dict hS m (by omega) ⟨H,I.tok _,by rw[Zog r];exact q⟩
 | _=>exact(show False from e).elim
theorem Zuc(ha:PE X a ta)(he:∀whole,isTrue a X.env whole=(do let v←whole;standAt a.pos;holding [v] (truthy v))) :
  PT X a (λσ H Q=>ta σ H λx H'=>∃k,Z9p X.K x H' k∧Q k H'):=by
 intro pins s σ H Q I h
 refine isTrue_plain (thn (ha pins s σ H _ I h) λv s1 qz9=>?_) (he _)
 obtain⟨x,H1,I1,r1,q1⟩:=qz9
 exact Z57 pins s1 σ H1 x v Q I1 r1 q1
theorem vals1{x:V}{us:List Xc}(r:Vals [x] us):∃u,us=[u]∧RelV x u:=by
 cases r with
 | cons r1 r2=>cases r2;exact⟨_,rfl,r1⟩
theorem vals2{x y:V}{us:List Xc}(r:Vals [x,y] us):∃u w',us=[u,w']∧RelV x u∧RelV y w':=by
 cases r with
 | cons r1 r2=>
  cases r2 with
  | cons r3 r4=>cases r4;exact⟨_,_,rfl,r1,r3⟩
theorem Zfu:Zbt X (.builtin "abs") (λxs H Q=>∃i,xs=[.int i]∧Q (.int (if i<0 then -i else i)) H):=by
 intro pins s σ H xs us Q I r h
 obtain⟨i,rfl,q⟩:=h
 obtain⟨u,rfl,t,rfl⟩:=vals1 r
 exact call_abs_int λu tk=>⟨.int (if i<0 then -i else i),H,I.tok _,⟨_,rfl⟩,q⟩
theorem Zqn(hc:X.calm=true):Zbt X (.builtin "max") (λxs H Q=>∃i j,xs=[.int i,.int j]∧Q (.int (if j>i then j else i)) H):=by
 intro pins s σ H xs us Q I r h
 obtain⟨i,j,rfl,q⟩:=h
 obtain⟨u,w',rfl,⟨t,rfl⟩,⟨t',rfl⟩⟩:=vals2 r
 refine max_two_ints (I.ok.hd hc) λh' tk k=>⟨_,H,I.kept k,?_,q⟩
 by_cases hj:j>i
 ·rw[if_pos hj,if_pos hj];exact⟨_,rfl⟩
 ·rw[if_neg hj,if_neg hj];exact⟨_,rfl⟩
theorem Zqa(hc:X.calm=true):Zbt X (.builtin "min") (λxs H Q=>∃i j,xs=[.int i,.int j]∧Q (.int (if j<i then j else i)) H):=by
 intro pins s σ H xs us Q I r h
 obtain⟨i,j,rfl,q⟩:=h
 obtain⟨u,w',rfl,⟨t,rfl⟩,⟨t',rfl⟩⟩:=vals2 r
 refine min_two_ints (I.ok.hd hc) λh' tk k=>⟨_,H,I.kept k,?_,q⟩
 by_cases hj:j<i
 ·rw[if_pos hj,if_pos hj];exact⟨_,rfl⟩
 ·rw[if_neg hj,if_neg hj];exact⟨_,rfl⟩
theorem Zka:Zbt X (.type "int") (λxs H Q=>(∃i,xs=[.int i]∧Q (.int i) H)∨∃k,xs=[.bl k]∧Q (.int (if k then 1 else 0)) H):=by
 intro pins s σ H xs us Q I r h
 rcases h with⟨i,rfl,q⟩|⟨k,rfl,q⟩
 ·obtain⟨u,rfl,t,rfl⟩:=vals1 r
  exact call_int_int ⟨.int i,H,I,⟨_,rfl⟩,q⟩
 ·obtain⟨u,rfl,r1⟩:=vals1 r
  cases r1
  exact call_int_bool ⟨.int (if k then 1 else 0),H,I.tok _,⟨_,rfl⟩,q⟩
end
structure ObjM(h:Heap)(x dx C:Addr)(mA:Str->Option Xc):Prop where
 obj:h.get? x=some (PySem.W.instObj C dx)
 ns:h.Ns1 dx mA
 ne:dx≠x
theorem Zre{h:Heap}{dx:Addr}{mA:Str->Option Xc}(n:h.Ns1 dx mA):∃od,h.get? dx=some od∧∀name,PySem.W.lookIn name od=some (mA name):=by
 obtain⟨o,es,ep,ho,hd,hk,_,hm⟩:=n
 refine⟨o,ho,λname=>?_⟩
 have e:=hm name
 unfold nsFind findBy at e
 rw[←Array.find?_toList]at e
 unfold PySem.W.lookIn
 rw[hd]
 dsimp only
 split
 ·rename_i y q
  rw[q]at e
  exact congrArg some e
 ·rename_i q
  rw[q]at e
  have a:es.toList.any (·.refKey)=false:=by
   rw[List.any_eq_false]
   intro y hy
   obtain⟨z,t,hkey⟩:=hk y (Array.mem_toList_iff.mp hy)
   simp[DictEntry.refKey,hkey]
  have a':¬es.toList.any (·.refKey)=true:=by rw[a];exact XH
  rw[if_neg a']
  exact congrArg some e
theorem ObjM.look{h:Heap}{x dx C:Addr}{mA:Str->Option Xc}(I:ObjM h x dx C mA):∃od,PySem.W.InstAt h x (PySem.W.instObj C dx) C (some od)∧∀name,PySem.W.lookIn name od=some (mA name) :=
 let⟨od,ho,hl⟩:=Zre I.ns
 ⟨od,⟨I.obj,rfl,rfl,ho⟩,hl⟩
section
variable {prog:Qj}{w:Qy}{A:Qv}{E:Xc->Xg->Prop}{s:Xg}{K:Xd}{x dx C f:Addr}{mA:Str->Option Xc}{name:Str}{v:Xc}
end
section
variable {P:Qj}{w:Qy}{H H':Hp}{h h':Heap}{a C dx:Addr}{fs fs':List (Str×V)}
theorem Zzo(hok:HOk P w H h)(e:H a=some (.ins C dx fs)):∃mA,ObjM h a dx C mA∧(∀f,Z9x (fs.lookup f) (mA f))∧PySem.Within mA (fs.map (·.1))∧fs.length≤1000∧H dx=some (.own a):=by
 obtain⟨d,z,ne,ob,mA,n,r,q⟩:=(show ObjOk P w H h a (.ins C dx fs)from hok a _ e)
 exact⟨mA,⟨ob,n,ne⟩,r,q,z,d⟩
end
structure Cls(K:Xd)(C:Addr):Prop where
 pg:PySem.W.plainGet K C Str.empty=true
 hd:PySem.W.hasDictIn K C=true
 po:PySem.W.plainOver K C=true
 sa:Qq K (.ref C) "__setattr__"=some (some (.builtin "object.__setattr__"))
theorem Cls.get{K:Xd}{C:Addr}(c:Cls K C)(f:Str):PySem.W.plainGet K C f=true:=c.pg
structure Con(K:Xd)(C:Addr)(f:Str)(v:V)(u:Xc):Prop where
 at_:Qq K (.ref C) f=some (some u)
 rel:RelV v u
 get:PySem.W.specialIn K u "__get__"=some none
 cp:PySem.W.copiedNames.contains f=false
structure Meth(K:Xd)(C:Addr)(m:Str)(f:Addr):Prop where
 at_:Qq K (.ref C) m=some (some (.ref f))
 fn:PySem.W.isFn K (.ref f)=true
 kp:X3 K (.ref f)=true
section
variable {X:Cx}{pins:List (Addr×Obj)}{σ:St}{H:Hp}{s:Xg}{a C dx:Addr}{fs:List (Str×V)}{f:Str}{v:V}{A:Qv}{E:Xc->Xg->Prop}
end
section
variable {X:Cx}{o e value:Expr}{f:Str}{pos pos' tpos:Pos}{ta tv:TE}
end
section
variable {X:Cx}{pins:List (Addr×Obj)}{σ:St}{H:Hp}{s:Xg}{A:Qv}{E:Xc->Xg->Prop}{Q:Xc->Xg->Prop}{c:Xc}{b:Bool}
inductive Zpm(K:Xd)(H:Hp):V->Xc->Prop where
 | non:Zpm K H .non (.type "NoneType")
 | bl (x:Bool):Zpm K H (.bl x) (.type "bool")
 | int (i:Int):Zpm K H (.int i) (.type "int")
 | str (x:Str):Zpm K H (.str x) (.type "str")
 | flt (x:UInt64):Zpm K H (.flt x) (.type "float")
 | lst {a:Addr} {xs:List V} (e:H a=some (.lst xs)):Zpm K H (.ref a) (.type "list")
 | frz {a:Addr} {o:Obj} {xs:List V} (e:H a=some (.frz o (.lst xs))):Zpm K H (.ref a) (.type "list")
 | tup {a:Addr} {xs:List V} (e:H a=some (.tup xs)):Zpm K H (.ref a) (.type "tuple")
 | dK {a:Addr} {kvs:List (Key×V)} (e:H a=some (.dK kvs)):Zpm K H (.ref a) (.type "dict")
 | dT {a:Addr} {kvs:List (List Key×V)} (e:H a=some (.dT kvs)):Zpm K H (.ref a) (.type "dict")
 | ins {a C dx:Addr} {fs:List (Str×V)} (e:H a=some (.ins C dx fs)) (cl:Cls K C) (ha:Qq K (.ref C) "__class__"=some (some (.builtin "object.__class__")))
   (hn:PySem.W.specialIn K (.builtin "object.__class__") "__get__"=some (some (.builtin "getset_descriptor.__get__"))) (htk:PySem.W.takesIn K (.builtin "object.__class__")=some true)
   (hm:PySem.W.mroIn K C (.type "object")=some true):Zpm K H (.ref a) (.ref C)
theorem Zav{x:V}{u t:Xc}(I:Inv X pins σ H s)(rx:RelV x u)(ty:Zpm X.K H x t)(e:XR X.K t c=some b)(h:∀tk,Q (.bool b) { s with toks:=tk }) :
  Xu (X5 X.prog X.w) A (call (.builtin "isinstance") [u,c]) Q E s:=by
 cases ty with
 | non=>cases(show u=QD from rx);exact JG PySem.W.kitx_none I.kIn True.intro e (λz=>nomatch z) h
 | bl y=>cases(show u=Value.bool y from rx);exact JG PySem.W.kitx_bool I.kIn True.intro e (λz=>nomatch z) h
 | int i=>obtain⟨t,q⟩:=(show∃t,u=Vy i t from rx);cases q;exact JG PySem.W.kitx_int I.kIn True.intro e (λz=>nomatch z) h
 | str y=>obtain⟨t,q⟩:=(show∃t,u=Value.str y t from rx);cases q;exact JG PySem.W.kitx_str I.kIn True.intro e (λz=>nomatch z) h
 | flt y=>obtain⟨t,q⟩:=(show∃t,u=Xc.float y t from rx);cases q;exact JG PySem.W.kitx_float I.kIn True.intro e (λz=>nomatch z) h
 | @lst a xs ea=>
  cases(show u=XX a from rx)
  obtain⟨_,_,n,_,h1⟩:=(show ObjOk X.prog X.w H s.heap a (.lst xs)from I.hok a _ ea)
  exact JG PySem.W.kitx_list I.kIn ⟨_,h1,rfl⟩ e (λz=>nomatch z) h
 | @frz a ob xs ea=>
  cases(show u=XX a from rx)
  obtain⟨_,_,_,n,_,h1⟩:=(show ObjOk X.prog X.w H s.heap a (.frz ob (.lst xs))from I.hok a _ ea)
  exact JG PySem.W.kitx_list I.kIn ⟨_,h1,rfl⟩ e (λz=>nomatch z) h
 | @tup a xs ea=>
  cases(show u=XX a from rx)
  obtain⟨_,_,_,p⟩:=(show ObjOk X.prog X.w H s.heap a (.tup xs)from I.hok a _ ea)
  obtain⟨o,h1,h2,_⟩:=p
  exact JG PySem.W.kitx_tuple I.kIn ⟨o,h1,h2⟩ e (λz=>nomatch z) h
 | @dK a kvs ea=>
  cases(show u=XX a from rx)
  obtain⟨_,_,vs,_,p⟩:=(show ObjOk X.prog X.w H s.heap a (.dK kvs)from I.hok a _ ea)
  obtain⟨o,es,ep,h1,h2,_⟩:=p
  exact JG PySem.W.kitx_dict I.kIn ⟨o,h1,h2.1⟩ e (λz=>nomatch z) h
 | @dT a kvs ea=>
  cases(show u=XX a from rx)
  obtain⟨_,_,xs,_,o,es,ep,h1,h2,_⟩:=(show ObjOk X.prog X.w H s.heap a (.dT kvs)from I.hok a _ ea)
  exact JG PySem.W.kitx_dict I.kIn ⟨o,h1,h2.1⟩ e (λz=>nomatch z) h
 | @ins a C dx fs ea cl ha hn htk hm=>
  cases(show u=XX a from rx)
  obtain⟨mA,O,_⟩:=Zzo I.hok ea
  obtain⟨od,J,_⟩:=O.look
  exact JG (PySem.W.kitx_own (cl.get _) cl.hd ha hn htk hm) I.kIn J e (λz=>nomatch z) h
end
structure Room(k:Nat)(A:Qv):Prop where
 hd:A.handled=none
 dp:A.depth+3*k+5<recursionLimit
 un:A.units+16*k+200<U8
theorem Room.mono{j k:Nat}{A:Qv}(r:Room k A)(h:j≤k):Room j A:=⟨r.hd,by have:=r.dp;omega,by have:=r.un;omega⟩
theorem Room.deeper{k:Nat}{A:Qv}(r:Room (k+1) A)(env:Env):Room k (A.deeper env) :=
 ⟨r.hd,by have:=r.dp;show A.depth+1+3*k+5<_;omega,by have:=r.un;show A.units+3+16*k+200<_;omega⟩
theorem Room.depth{k:Nat}{A:Qv}(r:Room k A):A.depth<recursionLimit:=by have:=r.dp;omega
theorem Room.units{k:Nat}{A:Qv}(r:Room k A):A.units+64<U8:=by have:=r.un;omega
noncomputable def Ydz:TA:=λ_ H Q=>Q [] H
noncomputable def Z4b(ta:TE)(tr:TA):TA:=λσ H Q=>ta σ H λx H1=>tr σ H1 λxs H2=>Q (x :: xs) H2
section
variable {X:Cx}{e:Expr}{es:List Expr}{te:TE}{t:TA}{pos:Pos}
theorem Zj4:PA X [] Ydz:=λ_ _ _ _ H Q I h=>Calls.spliced_nil ⟨[],H,I,.nil,h⟩
theorem Zdq(ha:PE X e te)(hr:PA X es t)(hs:Xn (e :: es) X.env=(false,eval e X.env) :: Xn es X.env:=by rfl):PA X (e :: es) (Z4b te t):=by
 intro pos pins s σ H Q I h
 rw[hs]
 show Xu _ _ (spliced ((false,eval e X.env) :: JP pos (Xn es X.env))) _ _ s
 refine Calls.spliced_cons (thn (ha pins s σ H _ I h) λu s1 qz9=>?_)
 obtain⟨x,H1,I1,r1,q1⟩:=qz9
 refine thn (hr pos pins s1 σ H1 _ I1 q1) λus s2 qz9=>?_
 obtain⟨xs,H2,I2,r2,q2⟩:=qz9
 exact⟨x :: xs,H2,I2,.cons r1 r2,q2⟩
noncomputable def Ydw(t:TA):TE:=λσ H Q=>t σ H λxs H1=>xs.length≤Xr∧∀p,H1 p=none->Q (.ref p) (upd H1 p (.tup xs))
noncomputable def Yd7(t:TA):TE:=λσ H Q=>t σ H λxs H1=>xs.length≤Xr∧∀p,H1 p=none->Q (.ref p) (upd H1 p (.lst xs))
theorem Zw6{x1}(h:PA X es t):PE X (.Tuple es x1 pos) (Ydw t):=by
 intro pins s σ H Q I hq
 refine wpAny_Tuple_spliced (thn (h pos pins s σ H _ I hq) λus s1 ⟨xs,H1,I1,r,z,q⟩=>⟨by rw[←r.length];exact z,?_⟩)
 have hf:H1 s1.heap.objs.size=none:=I1.hok.fresh (Qp _)
 refine⟨.ref s1.heap.objs.size,upd H1 s1.heap.objs.size (.tup xs),I1.laid (t':=s1.toks) (λb u e=>Xf _ e) (Qp _) ?_,rfl,q _ hf⟩
 exact⟨z,us,r,⟨_,Xv _ rfl,rfl,_,rfl⟩⟩
theorem Zwr(h:PA X es t):PE X (.List es pos) (Yd7 t):=by
 intro pins s σ H Q I hq
 refine wpAny_List_spliced (thn (h pos pins s σ H _ I hq) λus s1 ⟨xs,H1,I1,r,z,q⟩=>⟨by rw[←r.length];exact z,?_⟩)
 have hf:H1 s1.heap.objs.size=none:=I1.hok.fresh (Qp _)
 refine⟨.ref s1.heap.objs.size,upd H1 s1.heap.objs.size (.lst xs),I1.laid (t':=s1.toks) (λb u e=>Xf _ e) (Qp _) ?_,rfl,q _ hf⟩
 exact⟨z,us,0,r,Xv _ rfl⟩
end
noncomputable abbrev Sp:=List V->Hp->VK->XK->Prop
noncomputable abbrev CXT:=List Env->Hp->Xg->XK->Xc->Xg->Prop
structure Z7w(P:Qj)(w:Qy)(K:Xd)(mg:Str->Option Xc)(base:Heap)(A:Qv)(outer:List Env)(s:Xg)(H:Hp):Prop where
 frames:A.frames=some outer
 mod:Mod K mg base
 bs:∀b o,base.get? b=some o->s.heap.get? b=some o∧H b=none
 bsz:base.objs.size≤s.heap.objs.size
 funs:s.heap.FunFrames base outer
 frf:∀b∈frs outer,H b=none
 hok:HOk P w H s.heap
 bare:AllBare s.gens
noncomputable def CE(outer:List Env)(P:Qj)(w:Qy)(H:Hp)(s:Xg)(Q:VK)(u:Xc)(s':Xg):Prop :=
 ∃v H',s'.os=s.os∧AllBare s'.gens∧Un (frs outer) [] H H' s.heap s'.heap∧HOk P w H' s'.heap∧RelV v u∧Q v H'
noncomputable def CR(CX:CXT)(outer:List Env)(P:Qj)(w:Qy)(H:Hp)(s:Xg)(Q:VK)(E:XK)(r:Result)(s':Xg):Prop :=
 match r with
 | .ok (.ret u)=>CE outer P w H s Q u s'
 | .ok _=>False
 | .error e=>CX outer H s E e s'
structure FnOk(P:Qj)(w:Qy)(K:Xd)(mg:Str->Option Xc)(base:Heap)(CX:CXT)(k:Nat)(f:Addr)(fd:Qn)(ps:List Str)(sp:Sp):Prop where
 len:∀vs H Q E,sp vs H Q E->vs.length=ps.length
 run:∀(A:Qv) (outer:List Env) (s:Xg) (H:Hp) (args:Args) (us:List Xc) (vs:List V) (Q:VK) (E:XK),Room k A->Z7w P w K mg base A outer s H->BindsTo s fd args (ps.zip us)->Vals vs us->sp vs H Q E ->
  U7 (X5 P w) A (.call (.ref f) args) (CR CX outer P w H s Q E) s
theorem FnOk.imp{P:Qj}{w:Qy}{K:Xd}{mg:Str->Option Xc}{base:Heap}{CX:CXT}{k:Nat}{f:Addr}{fd:Qn}{ps:List Str}{sp sp':Sp}(F:FnOk P w K mg base CX k f fd ps sp)
  (h:∀vs H Q E,sp' vs H Q E->sp vs H Q E):FnOk P w K mg base CX k f fd ps sp' :=
 ⟨λvs H Q E q=>F.len vs H Q E (h _ _ _ _ q),λA outer s H args us vs Q E hr he hb hv hs=>F.run A outer s H args us vs Q E hr he hb hv (h _ _ _ _ hs)⟩
section
variable {X:Cx}{pins:List (Addr×Obj)}{σ:St}{H:Hp}{s s':Xg}
theorem Inv.env0(I:Inv X pins σ H s):Z7w X.prog X.w X.K X.mg X.base X.A X.stack s H :=
 ⟨I.ok.frames,I.ok.mod,I.bs,Xz I.ok.bsz I.sz,I.stack,I.stkFree,I.hok,I.bare⟩
theorem Inv.after{Q:VK}{u:Xc}(I:Inv X pins σ H s)(h:CE X.stack X.prog X.w H s Q u s'):EP X pins σ Q u s':=by
 obtain⟨v,H',os,bare,un,hok,r,q⟩:=h
 obtain⟨hh,g,d,t,os'⟩:=s'
 obtain rfl:os'=s.os:=os
 exact⟨v,H',I.call (h':=hh) (g':=g) (d':=d) (t':=t) (ch:=[]) un hok bare (λb z=>absurd z (by simp)),r,q⟩
end
noncomputable def Z1g(sp:Sp)(dvs:List V)(E:XK)(t:TA):TE:=λσ H Q=>t σ H λvs H1=>sp (vs ++ dvs) H1 Q E
noncomputable def Binds(K:Xd)(fd:Qn)(ps:List Str)(ds:List Xc):Prop :=
 ∀(s:Xg) (us:List Xc),K.In s.heap->(us ++ ds).length=ps.length->BindsTo s fd ⟨us,[]⟩ (ps.zip (us ++ ds))
theorem Binds.all{K:Xd}{fd:Qn}{ps:List Str}(h:∀us:List Xc,us.length=ps.length->bindArgs fd ⟨us,[]⟩=pure (ps.zip us)):Binds K fd ps []:=λs us _ hl=>by
 rw[QS]at hl⊢
 exact .of_eq (h us hl)
noncomputable def Zkz(CX:CXT)(X:Cx)(E:XK):Prop:=∀(pins:List (Addr×Obj)) (σ:St) (H:Hp) (s:Xg) (e:Xc) (s':Xg),Inv X pins σ H s->CX X.stack H s E e s'->X.xe e s'
section
variable {X:Cx}{CX:CXT}{k:Nat}{f C:Addr}{fd:Qn}{ps:List Str}{sp:Sp}{dvs:List V}{ds:List Xc}{E:XK}{x m:Str}{p pos apos:Pos}{e o:Expr}{es:List Expr}{ta:TE}{t:TA}
theorem Z5h{pins:List (Addr×Obj)}{σ:St}{H:Hp}{s:Xg}{Q:VK}{us:List Xc}{vs:List V}(F:FnOk X.prog X.w X.K X.mg X.base CX k f fd ps sp)(hr:Room k X.A)(hb:Binds X.K fd ps ds)(hd:Vals dvs ds)(hx:Zkz CX X E)
  (I:Inv X pins σ H s) (r:Vals vs us) (h:sp (vs ++ dvs) H Q E):Xu (X5 X.prog X.w) X.A (call (.ref f) us) (EP X pins σ Q) X.xe s:=by
 have r2:Vals (vs ++ dvs) (us ++ ds):=r.append hd
 have hl:(us ++ ds).length=ps.length:=by rw[←r2.length];exact F.len _ _ _ _ h
 refine wpAny_call (Ui (F.run X.A X.stack s H ⟨us,[]⟩ (us ++ ds) (vs ++ dvs) Q E hr I.env0 (hb s us I.kIn hl) r2 h) λr s' hq=>?_)
 cases r with
 | error e=>exact hx pins σ H s e s' I hq
 | ok fl=>
  cases fl with
  | ret u=>exact I.after hq
  | next=>exact Vt hq
  | brk=>exact Vt hq
  | cont=>exact Vt hq
theorem Zq6(F:FnOk X.prog X.w X.K X.mg X.base CX k f fd ps sp)(hr:Room k X.A)(hg:Gl X x)(hm:X.mg x=some (.ref f))(hk:X3 X.K (.ref f)=true)(hb:Binds X.K fd ps ds)(hd:Vals dvs ds)(hx:Zkz CX X E)
  (ha:PA X (e :: es) t) (hdb:(x==("__debug__" : Str))=false:=by decide) (he:Xn (e :: es) X.env=(false,eval e X.env) :: Xn es X.env:=by rfl) (hpl:(JP pos (Xn es X.env)).any (·.1)=false:=by rfl) :
  PE X (.Call (.Name x p) (e :: es) [] pos) (Z1g sp dvs E t):=by
 intro pins s σ H Q I h
 refine Ba (Zl9 I hg hm ?_ hdb)
 refine PySem.W.callWith_K (h₀:=X.base) I.ok.mod.kin hk (thn (ha pos pins s σ H _ I h) λus s1 qz9=>?_) he hpl
 obtain⟨vs,H1,I1,r,q⟩:=qz9
 refine⟨I1.kIn,?_⟩
 exact Z5h F hr hb hd hx I1 r q
structure Mk(K:Xd)(C f:Addr):Prop where
 makes:PySem.W.makesIn K C=true
 init:Qq K (.ref C) "__init__"=some (some (.ref f))
 fn:PySem.W.isFn K (.ref f)=true
 kp:X3 K (.ref C)=true
end
section
variable {X:Cx}{CX:CXT}{k:Nat}{f C:Addr}{fd:Qn}{ps ks:List Str}{sp:Sp}{E:XK}{x m:Str}{p pos apos kpos:Pos}{e o:Expr}{es:List Expr}{kws:List Keyword}{te ta:TE}{t tk:TA}{nm:Option Str}
structure Ya8(K:Xd)(fd:Qn)(ps ks:List Str)(g:List Xc->List Xc->List Xc)(gV:List V->List V->List V):Prop where
 to:∀(s:Xg) (us ws:List Xc),K.In s.heap->(g us ws).length=ps.length->BindsTo s fd ⟨us,ks.zip ws⟩ (ps.zip (g us ws))
 rel:∀{vs:List V} {us:List Xc} {zs:List V} {ws:List Xc},Vals vs us->Vals zs ws->Vals (gV vs zs) (g us ws)
variable {g:List Xc->List Xc->List Xc}{gV:List V->List V->List V}
end
structure Zw(N P:List Str)(sc:Scope):Prop where
 kind:sc.kind= .function
 co:sc.isCoroutine=false
 gen:sc.isGenerator=false
 nd:N.Nodup
 pre:N.take P.length=P
 par:∀x∈P,sc.names.lookup x=some .local∨sc.names.lookup x=some .cell
 nofree:∀y∈sc.names,y.2≠ .free
theorem Zjy{kindOf:Str->Option Vj}{x:Str}:∀{binds:List (Str×Xc)} {m:Str->Option Xc},(∀v,(x,v)∉binds)->bindL kindOf binds m x=m x
 | [],_,_=>rfl
 | (n,v) :: r,m,h=>by
  unfold bindL
  rw[Zjy λw hw=>h w (List.mem_cons_of_mem _ hw)]
  split
  ·have:x≠n:=by rintro rfl;exact h v List.mem_cons_self
   simp[this]
  ·rfl
theorem Zkr{kindOf:Str->Option Vj}{x:Str}:∀{binds:List (Str×Xc)} {m:Str->Option Xc},(∀v,(x,v)∉binds)->bindC kindOf binds m x=m x
 | [],_,_=>rfl
 | (n,v) :: r,m,h=>by
  unfold bindC
  rw[Zkr λw hw=>h w (List.mem_cons_of_mem _ hw)]
  split
  ·rfl
  ·have:x≠n:=by rintro rfl;exact h v List.mem_cons_self
   simp[this]
theorem Zjk{kindOf:Str->Option Vj}{x:Str}{v:Xc}:∀{P:List Str} {vs:List Xc} {i:Nat} {m:Str->Option Xc},P.Nodup->P[i]? =some x->vs[i]? =some v->kindOf x=some .local ->
  bindL kindOf (P.zip vs) m x=some v
 | [],_,_,_,_,h,_,_=>by simp at h
 | _ :: _,[],_,_,_,_,h,_=>by simp at h
 | p :: P,w :: vs,0,m,nd,h1,h2,hk=>by
  simp at h1 h2;subst h1;subst h2
  show bindL kindOf ((p,w) :: P.zip vs) m p=_
  unfold bindL
  rw[Zjy λv hv=>(QB.mp nd).1 (List.of_mem_zip hv).1,if_pos hk]
  simp
 | p :: P,w :: vs,i+1,m,nd,h1,h2,hk=>by
  show bindL kindOf ((p,w) :: P.zip vs) m x=_
  unfold bindL
  exact Zjk (i:=i) (QB.mp nd).2 (by simpa using h1) (by simpa using h2) hk
theorem Zj6{kindOf:Str->Option Vj}{x:Str}{v:Xc}:∀{P:List Str} {vs:List Xc} {i:Nat} {m:Str->Option Xc},P.Nodup->P[i]? =some x->vs[i]? =some v->kindOf x≠some .local ->
  bindC kindOf (P.zip vs) m x=some v
 | [],_,_,_,_,h,_,_=>by simp at h
 | _ :: _,[],_,_,_,_,h,_=>by simp at h
 | p :: P,w :: vs,0,m,nd,h1,h2,hk=>by
  simp at h1 h2;subst h1;subst h2
  show bindC kindOf ((p,w) :: P.zip vs) m p=_
  unfold bindC
  rw[Zkr λv hv=>(QB.mp nd).1 (List.of_mem_zip hv).1,if_neg hk]
  simp
 | p :: P,w :: vs,i+1,m,nd,h1,h2,hk=>by
  show bindC kindOf ((p,w) :: P.zip vs) m x=_
  unfold bindC
  exact Zj6 (i:=i) (QB.mp nd).2 (by simpa using h1) (by simpa using h2) hk
noncomputable def start(N:List Str)(vs:List V):St:=vs.map some ++ Qg (N.length-vs.length) none
noncomputable def Zpl(CX:CXT)(P:Qj)(w:Qy)(K:Xd)(mg:Str->Option Xc)(base:Heap)(N:List Str)(qual:Str)(scope:Scope)(f:Addr)(cd:Xc)(A:Qv)(outer:List Env)(s:Xg)(H:Hp)(E:XK):Cx where
 prog:=P
 w:=w
 K:=K
 mg:=mg
 base:=base
 A:=A.deeper (envOfC qual scope s.heap.objs.size f cd)
 N:=N
 s₀:=s
 H₀:=H
 env:=envOfC qual scope s.heap.objs.size f cd
 outer:=outer
 stack:=envOfC qual scope s.heap.objs.size f cd :: outer
 ex:=[]
 calm:=true
 fn:=λ_=>true
 pn:=[]
 xe:=λe s'=>Xu (X5 P w) (A.deeper (envOfC qual scope s.heap.objs.size f cd)) (leaving (envOfC qual scope s.heap.objs.size f cd) e) (λ_ s''=>CX outer H s E e s'') (λe' s''=>CX outer H s E e' s'') s'
theorem Zmk{sc:Scope}{n:Nat}{x:Str}(h:sc.names.lookup x=some .cell):∃c,(BP n sc.names []).lookup x=some c:=by
 have q:=PySem.W.cellsFrom_some sc.names n [] (.inl h)
 exact Option.isSome_iff_exists.mp q
theorem Zs8{CX:CXT}{P:Qj}{w:Qy}{K:Xd}{mg:Str->Option Xc}{base:Heap}{N ps:List Str}{qual:Str}{scope:Scope}{f:Addr}{cd:Xc}{A:Qv}{outer:List Env}{s s1:Xg}{H:Hp}{E:XK}{us:List Xc}{vs:List V}
  (S:Zw N ps scope) (hd:A.handled=none) (e0:Z7w P w K mg base A outer s H) (hl:vs.length=ps.length) (r:Vals vs us)
  (x:InCallC s s.heap.objs.size (bindL (envOfC qual scope s.heap.objs.size f cd).kindOf (ps.zip us) λ_=>none) (BP (s.heap.objs.size+1) scope.names []) (bindC (envOfC qual scope s.heap.objs.size f cd).kindOf (ps.zip us) λ_=>none) s1) :
  Inv (Zpl CX P w K mg base N qual scope f cd A outer s H E) [] (start N vs) H s1:=by
 have hpl:ps.length≤N.length:=by have:=congrArg List.length S.pre;rw[List.length_take]at this;omega
 obtain⟨h1,tk,rfl,hk⟩:=x.done
 have noA:∀b:Addr,b∉(Zpl CX P w K mg base N qual scope f cd A outer s H E).ex:=λb z=>absurd (show b∈([]:List Addr)from z) (by simp)
 refine⟨⟨e0.mod,S.kind,rfl,rfl,Qp _,λy z c h1 h2=>?_,λy hy=>?_,λy c _ h=>?_,λ_=>hd,Qv.frames_deeper e0.frames,.inr ⟨rfl,rfl⟩,λb z=>absurd z (noA b),e0.bs,e0.bsz,λb _ _=>noA b,λb z=>absurd z (noA b),e0.funs,e0.frf⟩,
  rfl,e0.bare,Un.kept hk,⟨_,x.toInCall.ns,λi y v h1 h2 h3=>?_⟩,λy c h=>⟨_,x.cell y c h⟩,e0.hok.fresh (Qp _),λy c h=>?_,λp hp=>absurd (show p∈([]:List (Addr×Obj))from hp) (by simp),e0.hok.kept hk,?_⟩
 ·exact name_of_addr x.apart (Bu h1) (Bu h2)
 ·have hy:scope.names.lookup y=some .cell∨scope.names.lookup y=some .free:=hy
  rcases hy with hy|hy
  ·exact Zmk hy
  ·exact absurd rfl (S.nofree _ (Bu hy))
 ·exact VD (x.above y c (Bu h))
 ·have hi:i<vs.length:=by
   unfold start at h2
   by_cases hi:i<vs.length
   ·exact hi
   ·rw[Bw (by simpa using hi)]at h2
    rw[List.getElem?_replicate]at h2
    split at h2<;>cases h2
  have ha:vs[i]? =some v:=by
   unfold start at h2
   rw[Uc (by simpa using hi),Xl]at h2
   cases e:vs[i]? with
   | none=>rw[e]at h2;cases h2
   | some a=>rw[e]at h2;cases h2;rfl
  obtain⟨u,hu,rv⟩:=r.get ha
  have hp:ps[i]? =some y:=by
   rw[←S.pre,List.getElem?_take_of_lt (by omega)];exact h1
  have ndP:ps.Nodup:=by rw[←S.pre];exact S.nd.sublist (List.take_sublist _ _)
  refine⟨u,rv,?_⟩
  rcases S.par y (Qo hp)with k|k
  ·exact .inl ⟨k,Zjk ndP hp hu k⟩
  ·obtain⟨c,e⟩:=Zmk (n:=s.heap.objs.size+1) k
   refine .inr ⟨.inl k,c,e,?_⟩
   have q:=x.cell y c e
   rw[Zj6 ndP hp hu (by show scope.names.lookup y≠_;rw[k];decide)]at q
   exact q
 ·exact e0.hok.fresh (VD (x.above y c (Bu h)))
 ·unfold start
  show _=N.length
  rw[Qd,Xe,UT]
  omega
theorem Z5b{CX:CXT}{P:Qj}{w:Qy}{K:Xd}{mg:Str->Option Xc}{base:Heap}{k:Nat}{f:Addr}{name qual:Str}{params:Arguments}{body:List Stmt}{scope:Scope}{dV kV doc pm cdv ct oc:Xc}{an od:Option Addr}
  {osl:Array (Option Xc)} {N ps:List Str} {sp:Sp} (lk:K.lookup f=some ⟨oc,od,.func (Qi name qual params body scope dV kV doc pm an cdv ct),osl⟩) (hcd:Qe K cdv qual=true) (S:Zw N ps scope)
  (len:∀vs H Q E,sp vs H Q E->vs.length=ps.length)
  (hbody:∀(A:Qv) (outer:List Env) (s:Xg) (H:Hp) (vs:List V) (Q:VK) (E:XK),Room k (A.deeper (envOfC qual scope s.heap.objs.size f cdv))->sp vs H Q E ->
   ∃t,PSs (Zpl CX P w K mg base N qual scope f cdv A outer s H E) body t∧t { nx:=λ_ H'=>Q .non H',rt:=Q } (start N vs) H) :
  FnOk P w K mg base CX (k+1) f (Qi name qual params body scope dV kV doc pm an cdv ct) ps sp:=by
 refine⟨len,λA outer s H args us vs Q E hr e0 hb r hsp=>?_⟩
 have hl:=len _ _ _ _ hsp
 have KX:K.In s.heap:=e0.mod.kin.keeps λb o e=>(e0.bs b o e).1
 have lim:s.heap.NoLimit:=e0.mod.nolimit.keeps λb o e=>(e0.bs b o e).1
 have hkind:∀y∈ps.zip us,scope.names.lookup y.1=some .local∨(scope.names.lookup y.1=some .cell∧((BP (s.heap.objs.size+1) scope.names []).lookup y.1).isSome=true):=λ⟨n,v⟩ hy=>by
  rcases S.par n (List.of_mem_zip hy).1 with q|q
  ·exact .inl q
  ·exact .inr ⟨q,PySem.W.cellsFrom_some _ _ _ (.inl q)⟩
 refine codeAny_call_function hr.depth (KX _ _ lk) rfl S.co S.gen rfl (PySem.W.codeRec_of KX hcd) (hb _ _ _ _ ?_)
 refine wpAny_newFunctionEnv_cells S.kind hkind λenv he s1 x=>?_
 subst he
 refine⟨lim.keeps x.toInCall.keep,codeAny_func ?_⟩
 obtain⟨t,ht,hq⟩:=hbody A outer s H vs Q E (hr.deeper _) hsp
 have I:Inv (Zpl CX P w K mg base N qual scope f cdv A outer s H E) [] (start N vs) H s1:=Zs8 S hr.hd e0 hl r x
 refine QG (ht [] s1 (start N vs) H _ I hq) (λfl s' hs=>?_) λe s' hs=>hs
 have fin:∀{σ':St} {H':Hp} {v:V} {u:Xc},Inv (Zpl CX P w K mg base N qual scope f cdv A outer s H E) [] σ' H' s'->RelV v u->Q v H'->CE outer P w H s Q u s' :=
  fun{σ' H' v u} J rv q=>⟨v,H',J.os,J.bare,J.base,J.hok,rv,q⟩
 cases fl with
 | ret u=>
  obtain⟨v,σ',H',J,rv,q⟩:=hs
  exact fin J rv q
 | next=>
  obtain⟨σ',H',J,q⟩:=hs
  exact fin (v:=V.non) (u:=QD) J rfl q
 | brk=>
  obtain⟨_,_,_,q⟩:=hs
  exact Vt q
 | cont=>
  obtain⟨_,_,_,q⟩:=hs
  exact Vt q
section
variable {X:Cx}{x:Str}{p pos:Pos}{e:Expr}{es:List Expr}{t:TA}{id T:String}{r:List V->Hp->VK->Prop}
noncomputable def tCB(r:List V->Hp->VK->Prop)(t:TA):TE:=λσ H Q=>t σ H λvs H1=>r vs H1 Q
theorem Zig(hc:Zbt X (.builtin id) r)(hg:Gl X x)(hm:X.mg x=none)(hv:X8 x=some (.builtin id))(ha:PA X (e :: es) t)(hn:x≠"__name__" :=by decide)(hdb:(x==("__debug__" : Str))=false:=by decide)
  (he:Xn (e :: es) X.env=(false,eval e X.env) :: Xn es X.env:=by rfl) (hpl:(JP pos (Xn es X.env)).any (·.1)=false:=by rfl):PE X (.Call (.Name x p) (e :: es) [] pos) (tCB r t):=by
 intro pins s σ H Q I h
 refine Ba (Zct I hg hm hv ?_ hn hdb)
 refine Uo (thn (ha pos pins s σ H _ I h) λus s1 qz9=>?_) he hpl
 obtain⟨vs,H1,I1,r1,q1⟩:=qz9
 exact hc pins s1 σ H1 vs us Q I1 r1 q1
theorem Zd6(hc:Zbt X (.type T) r)(hg:Gl X x)(hm:X.mg x=none)(hv:X8 x=some (.type T))(ha:PA X (e :: es) t)(hn:x≠"__name__" :=by decide)(hdb:(x==("__debug__" : Str))=false:=by decide)
  (he:Xn (e :: es) X.env=(false,eval e X.env) :: Xn es X.env:=by rfl) (hpl:(JP pos (Xn es X.env)).any (·.1)=false:=by rfl):PE X (.Call (.Name x p) (e :: es) [] pos) (tCB r t):=by
 intro pins s σ H Q I h
 refine Ba (Zct I hg hm hv ?_ hn hdb)
 refine JH (thn (ha pos pins s σ H _ I h) λus s1 qz9=>?_) he hpl
 obtain⟨vs,H1,I1,r1,q1⟩:=qz9
 exact hc pins s1 σ H1 vs us Q I1 r1 q1
end
end L2
namespace HT
open PySem PyProof.Rows
section
open PySem.SeqAt
open PySem.AutoSeq1 (wpAny_loadPart')
open PySem.MeetsSeq PySem.MeetsSeq2 PySem.MeetsSeq3
end
section
variable {prog:Qj}{w:Qy}{A:Qv}{E:Xc->Xg->Prop}{s:Xg}
noncomputable def sIx(n d:Nat):Option Int->Nat
 | none=>d
 | some v=>if v<0 then(v+(n:Int)).toNat else min v.toNat n
theorem sIx_none(n d:Nat):sIx n d none=d:=rfl
theorem sIx_nat(n d k:Nat):sIx n d (some (k:Int))=min k n:=by
 show(if(k:Int)<0 then((k:Int)+(n:Int)).toNat else min (k:Int).toNat n)=min k n
 rw[if_neg (by omega),QL]
end
end HT
namespace L2
open PySem PySem.Spec PyProof.Rows
noncomputable abbrev TO:=St->Hp->(Option Int->Hp->Prop)->Prop
noncomputable def PO(X:Cx)(e:Option Expr)(t:TO):Prop :=
 ∀(pins:List (Addr×Obj)) (s:Xg) (σ:St) (H:Hp) (Q:Option Int->Hp->Prop),Inv X pins σ H s->t σ H Q ->
  Xu (X5 X.prog X.w) X.A (evalPart e X.env) (λu s'=>∃o H',Inv X pins σ H' s'∧IsPart u o∧Q o H') X.xe s
noncomputable def Z17:TO:=λ_ H Q=>Q none H
noncomputable def Z78(t:TE):TO:=λσ H Q=>t σ H λx H1=>∃i,x= .int i∧Q (some i) H1
section
variable {X:Cx}{e:Expr}{te:TE}{lo hi:Option Expr}{tl th:TO}{pos p2:Pos}
theorem Zy9:PO X none Z17:=by
 intro pins s σ H Q I h
 rw[evalPart_none]
 exact Xi ⟨none,H,I,.none,h⟩
theorem Zy7(h:PE X e te):PO X (some e) (Z78 te):=by
 intro pins s σ H Q I hw
 rw[evalPart_some]
 refine thn (h pins s σ H _ I hw) λu s1 qz9=>?_
 obtain⟨x,H1,I1,r1,q1⟩:=qz9
 obtain⟨i,rfl,q⟩:=q1
 obtain⟨t,rfl⟩:=r1
 exact⟨some i,H1,I1,.int i t,q⟩
noncomputable def SlR(X:Cx)(r:V->Option Int->Option Int->Hp->VK->Prop):Prop :=
 ∀(pins:List (Addr×Obj)) (s:Xg) (σ:St) (H:Hp) (x:V) (v vl vu:Xc) (lo hi:Option Int) (sl:Addr) (Q:VK),Inv X pins σ H s->RelV x v->s.heap.IsSliceOf sl vl vu .none->IsPart vl lo->IsPart vu hi->r x lo hi H Q ->
  ∃T id,typeLookup (.type T) "__getitem__"=pure (some (.builtin id))∧s.TypeIs v T∧Xu (X5 X.prog X.w) X.A (getItem v (.ref sl)) (EP X pins σ Q) X.xe s
noncomputable def tSl(r:V->Option Int->Option Int->Hp->VK->Prop)(te:TE)(tl th:TO):TE:=λσ H Q=>te σ H λx H1=>tl σ H1 λl H2=>th σ H2 λu H3=>r x l u H3 Q
theorem Zv5{r:V->Option Int->Option Int->Hp->VK->Prop}(hr:SlR X r)(he:PE X e te)(hl:PO X lo tl)(hu:PO X hi th):PE X (.Subscript e (.Slice lo hi none p2) pos) (tSl r te tl th):=by
 intro pins s σ H Q I h
 refine Subscript_ (thn (he pins s σ H _ I h) λv s1 qz9=>?_)
 obtain⟨x,H1,I1,r1,q1⟩:=qz9
 refine wpAny_Slice (thn (hl pins s1 σ H1 _ I1 q1) λvl s2 qz9=>?_)
 obtain⟨l,H2,I2,pl,q2⟩:=qz9
 refine thn (hu pins s2 σ H2 _ I2 q2) λvu s3 qz9=>?_
 obtain⟨u,H3,I3,pu,q3⟩:=qz9
 rw[evalPart_none]
 refine Xi ?_
 have I4:Inv X pins σ H3 { s3 with heap:=s3.heap.push { cls:=.type "slice",data:=.fields #[vl,vu,.none] } }:=I3.kept (t':=s3.toks) λb ob q=>Xf _ q
 obtain⟨T,id,hT,ht,hg⟩:=hr pins { s3 with heap:=s3.heap.push { cls:=.type "slice",data:=.fields #[vl,vu,.none] } } σ H3 x v vl vu l u s3.heap.objs.size Q I4 r1 (Heap.IsSliceOf.new ..) pl pu q3
 show Xu (X5 X.prog X.w) X.A (subscriptTail e (.Slice lo hi none p2) v (.ref s3.heap.objs.size)) (EP X pins σ Q) X.xe { s3 with heap:=s3.heap.push { cls:=.type "slice",data:=.fields #[vl,vu,.none] } }
 exact tail_any (ops:=[.ref s3.heap.objs.size,v]) ht hT hg (by with_unfolding_all rfl)
noncomputable def Z2i(xs:List V)(lo hi:Option Int):List V:=(xs.drop (HT.sIx xs.length 0 lo)).take (HT.sIx xs.length xs.length hi-HT.sIx xs.length 0 lo)
theorem Zmc(xs:List V)(lo hi:Option Int):(Z2i xs lo hi).length≤xs.length:=by
 unfold Z2i
 rw[List.length_take,VJ]
 omega
end
noncomputable def ixN(n:Nat)(i:Int):Option Nat:=if 0≤i then(if i<n then some i.toNat else none)else if -(n:Int)≤i then some (i+n).toNat else none
noncomputable def atI{α:Type}(xs:List α)(i:Int):Option α:=(ixN xs.length i).bind λj=>xs[j]?
theorem Zr5{n:Nat}{i:Int}{j:Nat}(h:ixN n i=some j):seqIndex? i n=some j∧j<n∧-(n:Int)≤i∧i<n:=by
 unfold ixN at h
 by_cases h0:0≤i
 ·rw[if_pos h0]at h
  by_cases h1:i<n
  ·rw[if_pos h1]at h
   have e:i.toNat=j:=QQ h
   exact⟨by rw[seqIndex_of h0 h1,e],by omega,by omega,h1⟩
  ·rw[if_neg h1]at h;cases h
 ·rw[if_neg h0]at h
  by_cases h1:-(n:Int)≤i
  ·rw[if_pos h1]at h
   have e:(i+n).toNat=j:=QQ h
   exact⟨by rw[seqIndex_neg (by omega) h1,e],by omega,h1,by omega⟩
  ·rw[if_neg h1]at h;cases h
theorem Zl2{α:Type}{xs:List α}{i:Int}{v:α}(h:atI xs i=some v):∃j,seqIndex? i xs.length=some j∧xs[j]? =some v∧j<xs.length∧-(xs.length:Int)≤i∧i<xs.length:=by
 unfold atI at h
 cases e:ixN xs.length i with
 | none=>rw[e]at h;cases h
 | some j=>
  rw[e]at h
  obtain⟨h1,h2,h3,h4⟩:=Zr5 e
  exact⟨j,h1,h,h2,h3,h4⟩
theorem Zng{α:Type}(xs:List α)(v:α):atI (xs ++ [v]) (-1)=some v:=by
 have hl:(xs ++ [v]).length=xs.length+1:=by simp
 have e:ixN (xs ++ [v]).length (-1)=some xs.length:=by
  unfold ixN
  rw[hl,if_neg (by decide),if_pos (by omega)]
  congr 1
  omega
 unfold atI
 rw[e]
 show(xs ++ [v])[xs.length]? =some v
 simp
noncomputable def Zi6(b:Expr):Prop:=∀o i,subscripted b false o i=operate [o,i] (getItem o i)
noncomputable def IxR(X:Cx)(r:R2):Prop :=
 ∀(value slice:Expr) (pins:List (Addr×Obj)) (s:Xg) (σ:St) (H:Hp) (x y:V) (v u:Xc) (Q:VK),Inv X pins σ H s->RelV x v->RelV y u->r x y H Q ->
  subscripted slice false v u=operate [v,u] (getItem v u)->Xu (X5 X.prog X.w) X.A (subscriptTail value slice v u) (EP X pins σ Q) X.xe s
noncomputable def MtR(X:Cx)(id:String)(r:V->List V->Hp->VK->Prop):Prop :=
 ∀(pins:List (Addr×Obj)) (s:Xg) (σ:St) (H:Hp) (x:V) (xs:List V) (v:Xc) (us:List Xc) (Q:VK),Inv X pins σ H s->RelV x v->Vals xs us->r x xs H Q ->
  Xu (X5 X.prog X.w) X.A (call (.builtin id) (v :: us)) (EP X pins σ Q) X.xe s
section
variable {X:Cx}{a b:Expr}{ta tb:TE}{pos:Pos}
theorem IxR.or{r r':R2}(h:IxR X r)(h':IxR X r'):IxR X (λx y H Q=>r x y H Q∨r' x y H Q):=by
 intro value slice pins s σ H x y v u Q I rx ry q hs
 rcases q with q|q
 ·exact h value slice pins s σ H x y v u Q I rx ry q hs
 ·exact h' value slice pins s σ H x y v u Q I rx ry q hs
theorem Z41{r:R2}(hr:IxR X r)(ha:PE X a ta)(hb:PE X b tb)(hs:Zi6 b):PE X (.Subscript a b pos) (tOp r ta tb):=by
 intro pins s σ H Q I h
 exact Subscript_ (Ya1 ha hb I h λv u s2 x y H2 I2 rx ry q=>hr a b pins s2 σ H2 x y v u Q I2 rx ry q (hs _ _))
noncomputable def Z9f(K:Xd):R2:=λx y H Q=>∃p xs i v,x= .ref p∧y= .int i∧SqL K H p xs∧atI xs i=some v∧Q v H
noncomputable def Ybq(K:Xd):R2:=λx y H Q=>∃p xs i v,x= .ref p∧y= .int i∧SqT K H p xs∧atI xs i=some v∧Q v H
noncomputable def Yci:R2:=λx y H Q=>∃z i c,x= .str z∧y= .int i∧z.length≤Xr∧atI z.cps.toList i=some c∧Q (.str ⟨#[c]⟩) H
theorem Zst:IxR X (Z9f X.K):=by
 intro value slice pins s σ H x y v u Q I rx ry h hs
 obtain⟨p,xs,i,z,rfl,rfl,hq,he,q⟩:=h
 cases rx
 obtain⟨t,rfl⟩:=ry
 obtain⟨its,r,pl,hz⟩:=I.list hq
 obtain⟨j,h1,h2,h3,h4,h5⟩:=Zl2 he
 obtain⟨w,ew,rw'⟩:=r.get h2
 have hl:=r.length
 have hn:=Zia
 have fin:EP X pins σ Q w s:=⟨z,H,I,rw',q⟩
 by_cases h0:0≤i
 ·have hj:i.toNat=j:=by
   rw[seqIndex_of h0 h5]at h1
   exact QQ h1
  exact item_listR pl.isList h0 (by omega) (by rw[hj];simpa using ew) fin hs
 ·have hj:(i+(its.toArray.size:Int)).toNat=j:=by
   rw[seqIndex_neg (by omega) h4]at h1
   rw[Qa,←hl]
   exact QQ h1
  exact subscriptTail_builtinR (x:=w) pl.isList.typeIs slot_list_getitem.lookup
   (wpAny_getItem_list_neg (Q:=λr s'=>r=w∧EP X pins σ Q r s') pl.isList (by omega) (by rw[Qa]<;>omega) (by omega) (by rw[hj];simpa using ew) ⟨rfl,fin⟩) hs
theorem Z6e:IxR X (Ybq X.K):=by
 intro value slice pins s σ H x y v u Q I rx ry h hs
 obtain⟨p,xs,i,z,rfl,rfl,hq,he,q⟩:=h
 cases rx
 obtain⟨t,rfl⟩:=ry
 obtain⟨its,r,pl,hz⟩:=I.tuple hq
 obtain⟨j,h1,h2,h3,h4,h5⟩:=Zl2 he
 obtain⟨w,ew,rw'⟩:=r.get h2
 have hl:=r.length
 have hn:=Zia
 have fin:EP X pins σ Q w s:=⟨z,H,I,rw',q⟩
 exact subscriptTail_builtinR (x:=w) pl.typeIs slot_tuple_getitem.lookup
  (getItem_tuple (j:=j) (Q:=λr s'=>r=w∧EP X pins σ Q r s') pl (by omega) (by omega) (by rw[Qa,←hl];exact h1) (by simpa using ew) ⟨rfl,fin⟩) hs
theorem Z4g:IxR X Yci:=by
 intro value slice pins s σ H x y v u Q I rx ry h hs
 obtain⟨z,i,c,rfl,rfl,hz,he,q⟩:=h
 obtain⟨t,rfl⟩:=rx
 obtain⟨t',rfl⟩:=ry
 obtain⟨j,h1,h2,h3,h4,h5⟩:=Zl2 he
 have hl:z.cps.toList.length=z.length:=by simp[Str.length]
 rw[hl]at h1 h4 h5
 have hn:=Zia
 exact tail_any (typeIs_str s z t) slot_str_getitem.lookup (getItem_str (c:=c) (by
  have e1:decide (i< -(2^63:Int))=false:=decide_eq_false (by omega)
  have e2:decide (i≥2^63)=false:=decide_eq_false (by omega)
  rw[e1,e2,Bool.or_false]) (by rw[h1];simpa using h2) ⟨.str ⟨#[c]⟩,H,I.tok _,⟨_,rfl⟩,q⟩) hs
noncomputable def rIx(K:Xd):R2:=λx y H Q=>Z9f K x y H Q∨Ybq K x y H Q∨Yci x y H Q
theorem Z20:IxR X (rIx X.K):=Zst.or (Z6e.or Z4g)
theorem Zn0(its:List Xc)(n j:Nat)(u:Xc):Bx (·.setIfInBounds j u) { cls:=.type "list",data:=.seq its.toArray n }={ cls:=.type "list",data:=.seq (its.set j u).toArray n }:=by
 simp[Bx]
theorem Inv.lst{pins:List (Addr×Obj)}{σ:St}{H:Hp}{s:Xg}{p:Addr}{xs:List V}(I:Inv X pins σ H s)(h:H p=some (.lst xs)) :
  ∃(its:List Xc) (n:Nat),Vals xs its∧s.heap.get? p=some { cls:=.type "list",data:=.seq its.toArray n }∧xs.length≤Xr:=by
 obtain⟨z,its,n,r,e⟩:=I.hok p _ h
 exact⟨its,n,r,e,z⟩
theorem Inv.lstUpd{pins:List (Addr×Obj)}{σ:St}{H:Hp}{s:Xg}{p:Addr}{xs ys:List V}{its its':List Xc}{n n':Nat}{f:Obj->Obj}(I:Inv X pins σ H s)(h:H p=some (.lst xs))
  (ho:s.heap.get? p=some { cls:=.type "list",data:=.seq its.toArray n }) (hf:f { cls:=.type "list",data:=.seq its.toArray n }={ cls:=.type "list",data:=.seq its'.toArray n' }) (r:Vals ys its') (hz:ys.length≤Xr) (t:Nat) :
  Inv X pins σ (upd H p (.lst ys)) { s with heap:=s.heap.update p f,toks:=t }:=by
 have e:(s.heap.update p f).get? p=some { cls:=.type "list",data:=.seq its'.toArray n' }:=by
  rw[V4 f ho (by rw[hf]<;>rfl),hf]
 refine I.write (x:=p) (e:=p) (by rw[h];trivial) (.inl rfl) (λb u hb q=>(Heap.get?_update_other _ _ (Vr hb)).trans q) ⟨_,e⟩ ?_
 exact⟨hz,its',n',r,e⟩
noncomputable def Z1u:V->V->V->Hp->(Hp->Prop)->Prop:=λo i v H Q=>∃p xs k j,o= .ref p∧i= .int k∧H p=some (.lst xs)∧ixN xs.length k=some j∧Q (upd H p (.lst (xs.set j v)))
theorem set_list:Ybz X Z1u:=by
 intro pins s σ H o i v ov iv u Q I ro ri rv h
 obtain⟨p,xs,k,j,rfl,rfl,hp,hj,q⟩:=h
 cases ro
 obtain⟨t,rfl⟩:=ri
 obtain⟨its,n,r,ho,hz⟩:=I.lst hp
 obtain⟨h1,h2,h3,h4⟩:=Zr5 hj
 have hl:=r.length
 have hn:=Zia
 have I':Inv X pins σ (upd H p (.lst (xs.set j v))) { s with heap:=s.heap.update p (Bx (·.setIfInBounds j u)) } :=
  I.lstUpd hp ho (Zn0 its n j u) (r.set rv j) (by rw[Uk];exact hz) s.toks
 by_cases h0:0≤k
 ·have hk:k.toNat=j:=by
   rw[seqIndex_of h0 h4]at h1
   exact QQ h1
  exact PySem.W.ki_setAt ho h0 (by omega) (by rw[Qa,←hl];exact h4) (by rw[hk];exact⟨_,I',q⟩)
 ·have hk:(k+(its.toArray.size:Int)).toNat=j:=by
   rw[seqIndex_neg (by omega) h3]at h1
   rw[Qa,←hl]
   exact QQ h1
  exact PySem.W.ki_setBack ho (by omega) (by rw[Qa,←hl];exact h3) (by omega) (by rw[hk];exact⟨_,I',q⟩)
theorem Zj7(lo hi:Option Int)(n:Nat):(sliceBounds lo hi none n).1=((HT.sIx n 0 lo:Nat):Int)∧(sliceBounds lo hi none n).2.1=((HT.sIx n n hi:Nat):Int)∧(sliceBounds lo hi none n).2.2=1:=by
 refine⟨?_,?_,rfl⟩
 ·cases lo with
  | none=>simp[sliceBounds,HT.sIx]
  | some i=>
   simp only[sliceBounds,HT.sIx,Option.getD_none,show(1:Int)>0 by decide,if_true]
   by_cases h:i<0
   ·simp only[h,if_true]<;>omega
   ·simp only[h,if_false]<;>omega
 ·cases hi with
  | none=>simp[sliceBounds,HT.sIx]
  | some i=>
   simp only[sliceBounds,HT.sIx,Option.getD_none,show(1:Int)>0 by decide,if_true]
   by_cases h:i<0
   ·simp only[h,if_true]<;>omega
   ·simp only[h,if_false]<;>omega
theorem Zit(its:List Xc)(lo hi:Option Int):slicePick its.toArray lo hi none=((its.drop (HT.sIx its.length 0 lo)).take (HT.sIx its.length its.length hi-HT.sIx its.length 0 lo)).toArray:=by
 obtain⟨h1,h2,h3⟩:=Zj7 lo hi its.toArray.size
 unfold slicePick
 rw[h1,h2,h3]
 simp only[sliceRange_one,pick_run,Qa]<;>rfl
noncomputable def Ydb(K:Xd):V->Option Int->Option Int->Hp->VK->Prop:=λx lo hi H Q=>∃a xs,x= .ref a∧SqL K H a xs∧∀p,H p=none->Q (.ref p) (upd H p (.lst (Z2i xs lo hi)))
theorem Zzi:SlR X (Ydb X.K):=by
 intro pins s σ H x v vl vu lo hi sl Q I rx hs pl pu h
 obtain⟨a,xs,rfl,hx,q⟩:=h
 cases rx
 obtain⟨its,r,ht,hz⟩:=I.list hx
 have hlen:=r.length
 refine⟨"list",_,slot_list_getitem.lookup,ht.isList.typeIs,?_⟩
 refine wpAny_getItem_list_slice ht.isList hs pl pu .none (by simp) ?_ (by rw[Qa]<;>omega)
 rw[Zit,←hlen]
 refine⟨.ref s.heap.objs.size,_,I.laid (t':=s.toks) (o:=.lst (Z2i xs lo hi)) (λb ob q=>Xf _ q) (Qp _) ?_,rfl,q _ (I.hok.fresh (Qp _))⟩
 exact⟨Xz (Zmc xs lo hi) hz,_,0,(r.drop (HT.sIx xs.length 0 lo)).take (HT.sIx xs.length xs.length hi-HT.sIx xs.length 0 lo),Xv _ rfl⟩
noncomputable def Zf9:V->Bool
 | .non=>true
 | .bl _=>true
 | .int _=>true
 | .str _=>true
 | _=>false
noncomputable def eqV:V->V->Bool
 | .non,.non=>true
 | .bl a,.bl b=>a==b
 | .bl a,.int b=>(if a then 1 else 0)==b
 | .int a,.bl b=>a==(if b then 1 else 0)
 | .int a,.int b=>a==b
 | .str a,.str b=>a==b
 | _,_=>false
theorem Z5w{A:Qv}{s:Xg}{y x:V}{u v:Xc}(ry:RelV y u)(rx:RelV x v)(fy:Zf9 y=true)(fx:Zf9 x=true):Bs A s u v (eqV y x):=by
 cases y with
 | non=>
  cases ry
  cases x with
  | non=>cases rx;exact Bs.same _
  | bl b=>cases rx;exact Bs.none_bool b
  | int b=>obtain⟨t,rfl⟩:=rx;exact Bs.none_int b t
  | str b=>obtain⟨t,rfl⟩:=rx;exact Bs.none_str b t
  | _=>exact absurd (show false=true from fx) XH
 | bl a=>
  cases ry
  cases x with
  | non=>cases rx;exact Bs.bool_none a
  | bl b=>cases rx;exact Bs.bool_bool a b
  | int b=>obtain⟨t,rfl⟩:=rx;exact Bs.bool_int a b t
  | str b=>obtain⟨t,rfl⟩:=rx;exact Bs.bool_str a b t
  | _=>exact absurd (show false=true from fx) XH
 | int a=>
  obtain⟨t',rfl⟩:=ry
  cases x with
  | non=>cases rx;exact Bs.int_none a t'
  | bl b=>cases rx;exact Bs.int_bool a t' b
  | int b=>obtain⟨t,rfl⟩:=rx;exact Bs.int_int a t' b t
  | str b=>obtain⟨t,rfl⟩:=rx;exact SeqAt.EqAt.int_str a t' b t
  | _=>exact absurd (show false=true from fx) XH
 | str a=>
  obtain⟨t',rfl⟩:=ry
  cases x with
  | non=>cases rx;exact Bs.str_none a t'
  | bl b=>cases rx;exact Bs.str_bool a t' b
  | int b=>obtain⟨t,rfl⟩:=rx;exact SeqAt.EqAt.str_int a t' b t
  | str b=>obtain⟨t,rfl⟩:=rx;exact Bs.str_str a t' b t
  | _=>exact absurd (show false=true from fx) XH
 | _=>exact absurd (show false=true from fy) XH
noncomputable def eqU(x:V)(u:Xc):Bool:=match u with
 | .none=>eqV .non x
 | .bool b=>eqV (.bl b) x
 | .int i _=>eqV (.int i) x
 | .str z _=>eqV (.str z) x
 | _=>false
theorem Zxb{x y:V}{u:Xc}(r:RelV y u)(f:Zf9 y=true):eqU x u=eqV y x:=by
 cases y with
 | non=>cases r;rfl
 | bl b=>cases r;rfl
 | int i=>obtain⟨t,rfl⟩:=r;rfl
 | str z=>obtain⟨t,rfl⟩:=r;rfl
 | _=>exact absurd (show false=true from f) XH
theorem Zij{x:V}{xs:List V}{us:List Xc}(h:Vals xs us)(f:xs.all Zf9=true):us.any (eqU x)=xs.any λy=>eqV y x:=by
 induction h with
 | nil=>rfl
 | cons r t ih=>
  rw[List.all_cons,XM]at f
  rw[List.any_cons,List.any_cons,Zxb r f.1,ih f.2]
theorem Zfs{A:Qv}{s:Xg}{x:V}{v:Xc}(rx:RelV x v)(fx:Zf9 x=true){xs:List V}{us:List Xc}(h:Vals xs us)(f:xs.all Zf9=true):∀u∈us,Bs A s u v (eqU x u):=by
 induction h with
 | nil=>intro u hu;cases hu
 | cons r t ih=>
  intro u' hu
  rw[List.all_cons,XM]at f
  rcases Xp.mp hu with rfl|hu
  ·rw[Zxb r f.1];exact Z5w r rx f.1 fx
  ·exact ih f.2 u' hu
noncomputable def inV(x:V)(xs:List V):Bool:=xs.any λy=>eqV y x
noncomputable def rIn(K:Xd)(neg:Bool):R2:=λx y H Q=>∃p xs,y= .ref p∧(SqL K H p xs∨SqT K H p xs)∧Zf9 x=true∧xs.all Zf9=true∧Q (.bl (if neg then !inV x xs else inV x xs)) H
theorem Zs0:OpR X (JK .In) (rIn X.K false):=by
 intro pins s σ H x y v u Q I rx ry h
 obtain⟨p,xs,rfl,hq,fx,fs,q⟩:=h
 cases ry
 rcases hq with hq|hq
 ·obtain⟨its,r,pl,hz⟩:=I.list hq
  refine SeqAt.in_listAt (eqU x) pl.isList (λw hw=>Zfs rx fx r fs w (by simpa using hw)) ⟨.bl _,H,I,rfl,?_⟩
  rw[show its.toArray.any (eqU x)=its.any (eqU x) by simp,Zij r fs]
  exact q
 ·obtain⟨its,r,pl,hz⟩:=I.tuple hq
  refine SeqAt.in_tupleAt (eqU x) pl (λw hw=>Zfs rx fx r fs w (by simpa using hw)) ⟨.bl _,H,I,rfl,?_⟩
  rw[show its.toArray.any (eqU x)=its.any (eqU x) by simp,Zij r fs]
  exact q
theorem Zkk:OpR X (JK .NotIn) (rIn X.K true):=by
 intro pins s σ H x y v u Q I rx ry h
 obtain⟨p,xs,rfl,hq,fx,fs,q⟩:=h
 cases ry
 rcases hq with hq|hq
 ·obtain⟨its,r,pl,hz⟩:=I.list hq
  refine SeqAt.notIn_listAt (eqU x) pl.isList (λw hw=>Zfs rx fx r fs w (by simpa using hw)) ⟨.bl _,H,I,rfl,?_⟩
  rw[show its.toArray.any (eqU x)=its.any (eqU x) by simp,Zij r fs]
  exact q
 ·obtain⟨its,r,pl,hz⟩:=I.tuple hq
  refine SeqAt.notIn_tupleAt (eqU x) pl (λw hw=>Zfs rx fx r fs w (by simpa using hw)) ⟨.bl _,H,I,rfl,?_⟩
  rw[show its.toArray.any (eqU x)=its.any (eqU x) by simp,Zij r fs]
  exact q
theorem Zkx:Zbt X (.builtin "len") (λxs H Q=>∃p ys,xs=[.ref p]∧(SqL X.K H p ys∨SqT X.K H p ys)∧Q (.int ys.length) H):=by
 intro pins s σ H xs us Q I r h
 obtain⟨p,ys,rfl,hq,q⟩:=h
 obtain⟨u,rfl,rx⟩:=vals1 r
 cases rx
 have hn:=Zia
 rcases hq with hq|hq
 ·obtain⟨its,r',pl,hz⟩:=I.list hq
  have hlen:=r'.length
  exact Calls.call_len_list pl.isList (by simp only[Qa]<;>omega) ⟨.int ys.length,H,I.tok _,⟨s.toks+1,by rw[Qa,hlen]⟩,q⟩
 ·obtain⟨its,r',pl,hz⟩:=I.tuple hq
  have hlen:=r'.length
  exact len_tuple pl (by simp only[Qa]<;>omega) ⟨.int ys.length,H,I.tok _,⟨s.toks+1,by rw[Qa,hlen]⟩,q⟩
theorem Zk0:Zbt X (.type "list") (λxs H Q=>∃p ys,xs=[.ref p]∧(SqL X.K H p ys∨SqT X.K H p ys)∧∀l,H l=none->Q (.ref l) (upd H l (.lst ys))):=by
 intro pins s σ H xs us Q I r h
 obtain⟨p,ys,rfl,hq,q⟩:=h
 obtain⟨u,rfl,rx⟩:=vals1 r
 cases rx
 have fin:∀(its:List Xc),Vals ys its->ys.length≤Xr->∀(h':Heap) (c':Nat),(∀b o',s.heap.get? b=some o'->h'.get? b=some o') ->
   h'.get? s.heap.objs.size=some { cls:=.type "list",dict:=none,data:=.seq its.toArray c',slots:=#[] }->EP X pins σ Q (.ref s.heap.objs.size) { s with heap:=h' }:=λits r' hz h' c' kp e=>
  ⟨.ref s.heap.objs.size,_,I.laid (t':=s.toks) kp (Qp _) (show ObjOk X.prog X.w _ h' _ (.lst ys)from⟨hz,its,c',r',e⟩),rfl,q _ (I.hok.fresh (Qp _))⟩
 rcases hq with hq|hq
 ·obtain⟨its,r',pl,hz⟩:=I.list hq
  have hlen:=r'.length
  obtain⟨o,ho,hc,n,hd⟩:=pl.isList
  exact call_list_seq p (.inl rfl) ho hc hd (λh' c' kp e=>fin its r' hz h' c' kp e) (by simp only[Qa]<;>omega)
 ·obtain⟨its,r',pl,hz⟩:=I.tuple hq
  have hlen:=r'.length
  obtain⟨o,ho,hc,n,hd⟩:=pl
  exact call_list_seq p (.inr rfl) ho hc hd (λh' c' kp e=>fin its r' hz h' c' kp e) (by simp only[Qa]<;>omega)
noncomputable def tyV(K:Xd)(T:String)(x:V)(H:Hp):Prop:=match x with
 | .str _=>T="str"
 | .int _=>T="int"
 | .ref p=>(T="list"∧∃xs,SqL K H p xs)∨(T="tuple"∧∃o,K.lookup p=some o∧o.cls= .type "tuple"∧o.dict=none)∨
   (T="dict"∧((∃kvs,H p=some (.dK kvs))∨∃kvs,H p=some (.dT kvs)))∨(T="set"∧∃S n,H p=some (.set S n))
 | _=>False
theorem Z28{pins:List (Addr×Obj)}{σ:St}{H:Hp}{s:Xg}{T:String}{x:V}{v:Xc}(I:Inv X pins σ H s)(r:RelV x v)(ty:tyV X.K T x H) :
  s.TypeIs v T∧∀a,v= .ref a->∃ob,s.heap.get? a=some ob∧ob.dict=none:=by
 cases x with
 | str z=>
  obtain⟨t,rfl⟩:=r
  cases(show T="str"from ty)
  exact⟨typeIs_str s z t,λ_ e=>nomatch e⟩
 | int i=>
  obtain⟨t,rfl⟩:=r
  cases(show T="int"from ty)
  exact⟨typeIs_int s i t,λ_ e=>nomatch e⟩
 | ref p=>
  cases r
  rcases ty with⟨rfl,xs,hq⟩|⟨rfl,o,hk,hc,hd⟩|⟨rfl,hk⟩|⟨rfl,S,n,hk⟩
  ·obtain⟨its,_,pl,_⟩:=I.list hq
   refine⟨pl.isList.typeIs,λa e=>?_⟩
   cases e
   obtain⟨o,n,e,c,hd,_⟩:=pl
   exact⟨o,e,hd⟩
  ·refine⟨⟨o,I.kIn p o hk,hc⟩,λa e=>?_⟩
   cases e
   exact⟨o,I.kIn _ o hk,hd⟩
  ·have z:∃o,s.heap.get? p=some o∧o.ExactDict:=by
    rcases hk with⟨kvs,hk⟩|⟨kvs,hk⟩
    ·obtain⟨_,_,_,_,o,_,_,e,ex,_⟩:=I.hok p _ hk
     exact⟨o,e,ex⟩
    ·obtain⟨_,_,_,_,o,_,_,e,ex,_⟩:=I.hok p _ hk
     exact⟨o,e,ex⟩
   obtain⟨o,e,ex⟩:=z
   refine⟨⟨o,e,ex.1⟩,λa e2=>?_⟩
   cases e2
   exact⟨o,e,ex.2.1⟩
  ·obtain⟨o,_,_,_,e,ex,_⟩:=I.hok p _ hk
   refine⟨⟨o,e,ex.1⟩,λa e2=>?_⟩
   cases e2
   exact⟨o,e,ex.2.1⟩
 | _=>exact Vt ty
noncomputable def tBM(K:Xd)(T:String)(r:V->List V->Hp->VK->Prop)(to:TE)(t:TA):TE:=λσ H Q=>to σ H λx H1=>tyV K T x H1∧t σ H1 λxs H2=>r x xs H2 Q
variable {o e:Expr}{es:List Expr}{to:TE}{t:TA}{name:Str}{apos cpos:Pos}{T id:String}{r:V->List V->Hp->VK->Prop}
theorem Z8y(pa:PlainAttrs T)(slot:Slot T name id)(hty:typeOf (.builtin id)=pure (.type "method_descriptor"))(hm:MtR X id r)(ho:PE X o to)(ha:PA X (e :: es) t)
  (hbase:attributeBase o name X.env (eval o X.env)=eval o X.env:=by rfl)
  (hfew:((JP cpos (Xn (e :: es) X.env)).all (λx=>!x.1)&&(backToKw cpos (keywordEach [] X.env)).all (λx=>x.1.isSome)
   &&decide ((e :: es).length+([]:List Keyword).length+(if([]:List Keyword).isEmpty then 0 else 1)<30))=true:=by rfl)
  (hline:(apos.endLine==cpos.line)=true:=by rfl) (hs:Xn (e :: es) X.env=(false,eval e X.env) :: Xn es X.env:=by rfl) (hplain:(JP cpos (Xn es X.env)).any (·.1)=false:=by rfl) :
  PE X (.Call (.Attribute o name apos) (e :: es) [] cpos) (tBM X.K T r to t):=by
 intro pins s σ H Q I h
 refine wpAny_Call_method_late hbase hfew hline rfl (thn (ho pins s σ H _ I h) λv s1 qz9=>?_)
 obtain⟨x,H1,I1,r1,ty,q1⟩:=qz9
 obtain⟨h1,h2⟩:=Z28 I1 r1 ty
 refine⟨T,id,pa,slot,hty,h1,h2,?_⟩
 have hA:=ha cpos pins s1 σ H1 _ I1 q1
 rw[hs]at hA⊢
 refine Calls.callWith_builtin (by show(false||(JP cpos (Xn es X.env)).any (·.1))=false;rw[hplain]<;>rfl) (Calls.evalArgs_plain ?_)
 refine thn hA λus s2 qz9=>?_
 obtain⟨vs,H2,I2,r2,q2⟩:=qz9
 exact hm pins s2 σ H2 x vs v us Q I2 r1 r2 q2
end
noncomputable def MtM(X:Cx)(id:String)(r:V->List V->Hp->VK->Prop):Prop :=
 ∀(pins:List (Addr×Obj)) (s:Xg) (σ:St) (H:Hp) (x:V) (xs:List V) (v:Xc) (us:List Xc) (Q:VK),Inv X pins σ H s->RelV x v->Vals xs us->r x xs H Q ->
  Xu (X5 X.prog X.w) X.A (call (.builtin id) (v :: us)) (EP X pins σ Q) X.xe s
theorem Vals.one{x:V}{us:List Xc}(h:Vals [x] us):∃u,us=[u]∧RelV x u:=by
 cases h with
 | cons r t=>cases t;exact⟨_,rfl,r⟩
theorem Vals.zero:∀{us:List Xc},Vals [] us->us=[]
 | _,.nil=>rfl
theorem Vals.rep{xs:List V}{us:List Xc}(h:Vals xs us):∀k:Nat,Vals (Qg k xs).flatten (Qg k us).flatten
 | 0=>.nil
 | k+1=>by
  rw[VH,VH,Uy,Uy]
  exact Vals.append h (Vals.rep h k)
theorem foldl_rep(its:List Xc):∀(k:Nat) (acc:List Xc),
  List.foldl (λx1 x2=>x1 ++ x2) acc.toArray (Qg k its.toArray)=(acc ++ (Qg k its).flatten).toArray
 | 0,acc=>by simp
 | k+1,acc=>by
  have e:acc.toArray ++ its.toArray=(acc ++ its).toArray:=by simp
  have e2:(acc ++ its) ++ (Qg k its).flatten=acc ++ (Qg (k+1) its).flatten:=by
   rw[VH,Uy,Vh]
  rw[←e2,←foldl_rep its k (acc ++ its),←e,VH,List.foldl_cons]
section
variable {X:Cx}{pins:List (Addr×Obj)}{σ:St}{H:Hp}{s:Xg}{l b:Addr}{xs ys zs:List V}
theorem Inv.lset{its its':List Xc}{n:Nat}{f:Array Xc->Array Xc}{t':Nat}(I:Inv X pins σ H s)(hH:H l=some (.lst xs))
  (e:s.heap.get? l=some { cls:=.type "list",data:=.seq its.toArray n }) (hf:f its.toArray=its'.toArray) (hv:Vals ys its') (hz:ys.length≤Xr) :
  Inv X pins σ (upd H l (.lst ys)) { s with heap:=s.heap.update l (Bx f),toks:=t' }:=by
 have q:=PySem.IsL.update e f
 rw[hf]at q
 refine I.write (x:=l) (e:=l) (by rw[hH];exact trivial) (.inl rfl) (λb' u hb hu=>(Heap.get?_update_other s.heap (Bx f) (Vr hb)).trans hu) ⟨_,q⟩ ?_
 exact⟨hz,its',_,hv,q⟩
theorem Inv.lnew{its:List Xc}{t':Nat}(I:Inv X pins σ H s)(hv:Vals ys its)(hz:ys.length≤Xr) :
  Inv X pins σ (upd H s.heap.objs.size (.lst ys)) { s with heap:=s.heap.push { cls:=.type "list",data:=.seq its.toArray },toks:=t' } :=
 I.laid (λ_ _ q=>Xf _ q) (Qp _) ⟨hz,its,0,hv,Xv _ rfl⟩
theorem Inv.fresh(I:Inv X pins σ H s):H s.heap.objs.size=none:=I.hok.fresh (Qp _)
theorem Inv.lstM(I:Inv X pins σ H s)(hH:H l=some (.lst xs)):xs.length≤Xr∧∃(its:List Xc) (n:Nat),Vals xs its∧xs.length=its.length∧s.heap.get? l=some { cls:=.type "list",data:=.seq its.toArray n }:=by
 obtain⟨z,its,n,r,e⟩:=I.hok l _ hH
 exact⟨z,its,n,r,r.length,e⟩
theorem Zwf{n:Nat}(h:n≤Xr):Builtin.List.listTooLong n=false:=by
 unfold Builtin.List.listTooLong
 exact decide_eq_false (by omega)
end
section
variable {X:Cx}
noncomputable def Z1q:V->List V->Hp->VK->Prop:=λx vs H Q=>∃l xs y,x= .ref l∧vs=[y]∧H l=some (.lst xs)∧xs.length<Xr∧Q .non (upd H l (.lst (xs ++ [y])))
theorem Zk1:MtM X "list.append" Z1q:=by
 intro pins s σ H x vs v us Q I rx rv h
 obtain⟨l,xs,y,rfl,rfl,hH,hz,q⟩:=h
 cases rx
 obtain⟨u,rfl,ru⟩:=rv.one
 obtain⟨z,its,n,r,hl,e⟩:=I.lstM hH
 refine call_meets F.slot_list_append ⟨_,e,rfl⟩ F.entry_list_append (F.args_list_append_2 _ _) (PySem.list_append l its.toArray n u (by rw[Qa];omega)) ⟨e,?_⟩
 refine⟨.non,_,I.lset (its':=its ++ [u]) hH e (by simp) (r.append (.cons ru .nil)) ?_,rfl,q⟩
 rw[Qd,List.length_singleton]
 omega
noncomputable def Yei:R2:=λx y H Q=>∃l k xs,x= .ref l∧y= .int k∧H l=some (.lst xs)∧-(2^63)≤k∧k<2^63∧xs.length*k.toNat≤Xr∧
 ∀p,H p=none->Q (.ref p) (upd H p (.lst (Qg k.toNat xs).flatten))
theorem len_rep{α:Type}(xs:List α)(k:Nat):(Qg k xs).flatten.length=k*xs.length:=by
 induction k with
 | zero=>simp
 | succ k ih=>rw[VH,Uy,Qd,ih,Nat.succ_mul,Nat.add_comm]
theorem Z6k:OpR X (Uu .Mult) Yei:=by
 intro pins s σ H x y v u Q I rx ry h
 obtain⟨l,k,xs,rfl,rfl,hH,h1,h2,hz,q⟩:=h
 cases rx
 obtain⟨t,rfl⟩:=ry
 obtain⟨z,its,n,r,hl,e⟩:=I.lstM hH
 have hlen:its.toArray.size*k.toNat≤Xr:=by rw[Qa,←hl];exact hz
 have hcap:¬its.toArray.size*k.toNat>(2^63-1)/8:=by
  have:(Xr:Nat)≤(2^63-1)/8:=by decide
  omega
 have hfit:¬(!Va.List.listFitsIndex k)=true:=by
  rw[fitsIndex_both h1 h2]
  exact XH
 have hlong:¬Builtin.List.listTooLong (its.toArray.size*k.toNat)=true:=by
  rw[Zwf hlen]
  exact XH
 have hnew:List.foldl (λx1 x2=>x1 ++ x2) #[] (Qg (if its.toArray.isEmpty=true then 0 else k.toNat) its.toArray)=(Qg k.toNat its).flatten.toArray:=by
  have f0:∀m:Nat,List.foldl (λx1 x2=>x1 ++ x2) #[] (Qg m its.toArray)=(Qg m its).flatten.toArray:=λm=>by
   have:=foldl_rep its m []
   rw[Uj]at this
   exact this
  rw[f0]
  cases its with
  | nil=>simp
  | cons a r'=>rw[if_neg (by simp)]
 refine wpAny_binaryOp_repeat_ref (T :="list") (U :="int") (by decide) ⟨_,e,rfl⟩ (λs'=>typeIs_int s' k t) noFill_list_mul F.fills_int_mul F.slot_int_rmul repeat_list F.slot_int_index.lookup
  (call_meets F.slot_int_rmul (typeIs_int s k t) F.entry_int_rmul (F.args_int_rmul_2 _ _) (int___rmul___int_list k t l its.toArray n)
   ⟨e,rfl,⟨_,e,rfl⟩,call_meets F.slot_list_mul ⟨_,e,rfl⟩ F.entry_list_mul (F.args_list_mul_2 _ _) (AutoListH.list___mul___list_int_3 l its.toArray n k t hfit hcap hlong) ⟨e,?_⟩⟩)
 rw[hnew]
 exact⟨.ref _,_,I.lnew (t':=s.toks) (r.rep k.toNat) (by rw[len_rep,Nat.mul_comm];exact hz),rfl,q _ I.fresh⟩
end
section
variable {prog:Qj}{w:Qy}{A:Qv}{E:Xc->Xg->Prop}{s:Xg}
end
section
variable {X:Cx}
end
end L2
namespace Att
open PySem PySem.W PySem.Calls PyProof.Rows
theorem Zgg{P:Params}{h:Heap}:∀(ns:List Int) (vs:List Xc),WellAll P h vs (ns.map WData.int)->BZ vs ns:=by
 intro ns
 induction ns with
 | nil=>
  intro vs w
  rw[VM]at w
  cases w
  exact .nil
 | cons n ns ih=>
  intro vs w
  rw[Qu]at w
  cases w with
  | cons a b=>
   cases a
   exact .cons _ _ (ih _ b)
theorem Zsy{l:OpenLaw}{n:Nat}(hn:l.most=some n){P:Params}{h:Heap}{args:List WData}{vals:List Xc}
  (hpre:l.row.toRowW.claim.pre args=true) (hwl:WellAll P h vals args) :
  ∃a vs ns,vals=[XX a]∧args=[WData.list (ns.map WData.int)]∧h.get? a=some { cls:=.type "list",data:=.seq vs.toArray }∧BZ vs ns∧ns.length≤n:=by
 have hsh:WShape.hasAll [] args [.list .int]=true:=(pre_splitW hpre).1
 have hc:l.pre.holds [] { args:=args }=true:=(pre_splitW hpre).2
 obtain⟨d,r,rfl,h1,h2⟩:=hasAllW_cons hsh
 obtain rfl:=hasAllW_nil h2
 obtain⟨xs,rfl,h3⟩:=hasW_list h1
 obtain⟨ns,rfl⟩:=items_int h3
 have hlen:ns.length≤n:=by
  unfold OpenLaw.pre at hc
  have h4:(WTm.not (.lt (.lit (.int (n:Int))) (.len (.arg 0)))).holds [] { args:=[.list (ns.map .int)] }=true:=by
   have h4:=(holds_andW hc).1
   rw[hn]at h4
   exact h4
  have h5:=condW_of h4 (w_not (w_lt w_lit (w_len_list (w_arg rfl))))
  rw[Xe]at h5
  refine Nat.le_of_not_lt λq=>?_
  have q':(n:Int)<((ns.length:Nat):Int):=by omega
  first
   | (rw[decide_eq_true q']at h5;exact absurd h5 (by decide))
   | (simp at h5;omega)
 cases hwl with
 | cons w1 w2=>
  cases w2
  cases w1 with
  | list ho hall=>exact⟨_,_,ns,rfl,rfl,ho,Zgg ns _ hall,hlen⟩
theorem Zss(l:OpenLaw)(args:List WData):l.row.toRowW.claim.post args (.bool true) args=true :=
 postW_of (r:=l.row.toRowW) (X:=(true==true))
  (show WShape.has [] (.bool true) .bool=true by first|rfl|decide|simp[WShape.has,WShape.arms,WShape.armsAll])
  (show(WTm.eq .res (.lit (.bool true))).value [] { args:=args,res:=some (.bool true),after:=args }=some (.bool (true==true))from w_eq_bool (w_res rfl) w_lit) rfl
theorem attach_call{l:OpenLaw}{n:Nat}{q:Qj}{loose:List Str}{XP:(Str->Option Xc)->Heap->Prop}{YP:Qy->Heap->Prop}{d:DefRec}
  (hn:l.most=some n) (hdf:d.params.defaults=[])
  (call:∀(w:Qy) (s₀ s₁:Xg) (mg mb:Str->Option Xc) (fa:Addr) (o:Obj) (pm cd doc:Xc) (a:Addr) (vs:List Xc) (ns:List Int),
   Ground q loose [] XP w s₀ mg mb s₁.heap->YP w s₁.heap ->
   s₁.heap.get? fa=some o->o.data= .func (docDef d.name d.params d.body d.scope pm cd doc)->s₁.heap.CodeRec cd d.name->mg d.name=some (.ref fa) ->
   s₁.heap.get? a=some { cls:=.type "list",data:=.seq vs.toArray }->BZ vs ns->ns.length≤n->s₁.gens=#[] ->
   U7 (X5 l.prog w) callerA (.call (.ref fa) ⟨[.ref a],[]⟩) (λr s'=>r= .ok (.ret (.bool true))∧OldK s₁.heap s'.heap∧s'.os=s₁.os∧AllBare s'.gens) s₁) :
  WalkO q loose XP YP l.row.toRowW d [] (λf vs=>PySem.call f vs):=by
 intro w s₀ s₁ mg mb G Y fa o pm cd doc dV kV ho hd hcd hD hmg hg args vals as hpre hlay hrd hwl hlo
 obtain rfl:dV= .none:=Dflts.none hD hdf
 obtain rfl:kV= .none:=Dflts.noKw hD
 obtain⟨a,vs,ns,rfl,rfl,hobj,hints,hlen⟩:=Zsy hn hpre hwl
 refine enter_call (Ui (call w s₀ s₁ mg mb fa o pm cd doc a vs ns G Y ho (fd_plain hd) hcd hmg hobj hints hlen hg) λr s' hq=>?_)
 obtain⟨rfl,h2,h3,h4⟩:=hq
 exact⟨.inl ⟨.bool true,.bool true,[],rfl,λ_=>rfl,.bool true,Zss l _,λ_=>⟨List.Pairwise.nil,λ_ hm=>(nomatch hm)⟩⟩,h2,h3,h4⟩
section
variable {prog:Qj}{w:Qy}{A:Qv}{E:Xc->Xg->Prop}{s:Xg}{K:Frag}
end
end Att
namespace L2
open PySem PySem.Spec PyProof.Rows
theorem Ztr{vs:List Xc}{ns:List Int}(h:BZ vs ns):Vals (ns.map V.int) vs:=by
 induction h with
 | nil=>exact .nil
 | cons n t h ih=>exact .cons ⟨t,rfl⟩ ih
noncomputable def Only(H:Hp):Prop:=∀b,H b=none∨∃o xs,H b=some (.frz o (.lst xs))
theorem Zux{P:Qj}{w:Qy}{K:Xd}{mg mb:Str->Option Xc}{CX:CXT}{k:Nat}{fa a:Addr}{fd:Qn}{x:Str}{sp:Sp}{s₁:Xg}{vs:List Xc}{ns:List Int}
  (KX:K.In s₁.heap) (hns:s₁.heap.Ns XD mg) (hb:s₁.heap.Ns builtinsNs mb) (hbb:∀x:Str,x≠"__name__" ->mb x=X8 x) (hlim:s₁.heap.NoLimit) (hg:s₁.gens=#[])
  (ha:s₁.heap.get? a=some { cls:=.type "list",data:=.seq vs.toArray }) (hi:BZ vs ns) (hl:ns.length≤Xr) (hr:Room k callerA)
  (F:∀base:Heap,K.In base->base.Ns XD mg->FnOk P w K mg base CX k fa fd [x] sp) (hbind:∀(s:Xg) (u:Xc),BindsTo s fd ⟨[u],[]⟩ [(x,u)])
  (hsp:∀H:Hp,Only H->SqL K H a (ns.map V.int)->sp [.ref a] H (λv _=>v= .bl true) λ_ _ _=>False)
  (hCX:∀H e s',CX [] H s₁ (λ_ _ _=>False) e s'->False) :
  U7 (X5 P w) callerA (.call (.ref fa) ⟨[.ref a],[]⟩) (λr s'=>r= .ok (.ret (.bool true))∧OldK s₁.heap s'.heap∧s'.os=s₁.os∧AllBare s'.gens) s₁:=by
 have rv:=Ztr hi
 have lenV:=hi.length
 -- from an abstract heap in which nothing but the script may be tracked
 have core:∀H:Hp,Only H->SqL K H a (ns.map V.int)->HOk P w H s₁.heap->(∀b,H b≠none->b=a)->(H a≠none->K.lookup a=none) ->
   U7 (X5 P w) callerA (.call (.ref fa) ⟨[.ref a],[]⟩) (λr s'=>r= .ok (.ret (.bool true))∧OldK s₁.heap s'.heap∧s'.os=s₁.os∧AllBare s'.gens) s₁:=by
  intro H hO hS hok hA hK
  have base_of:∀{b:Addr} {o:Obj},s₁.heap.get? b=some o->H b=none->(Zt0 s₁.heap H).get? b=some o:=λe n=>Zu7 e n
  have noA:∀{b:Addr} {o:Obj} {es:Array DictEntry} {ep:Nat},s₁.heap.get? b=some o->o.data= .dict es ep->H b=none:=fun{b o es ep} e d=>by
   cases q:H b with
   | none=>rfl
   | some u=>
    have e':b=a:=hA b (by rw[q];simp)
    subst e'
    rw[ha]at e;cases e
    have d':Data.seq vs.toArray _=Data.dict es ep:=d
    cases d'
  have nsK:∀{b:Addr} {m:Str->Option Xc},s₁.heap.Ns b m->(Zt0 s₁.heap H).Ns b m:=fun{b m} ⟨o,es,ep,e,d,r⟩=>⟨o,es,ep,base_of e (noA e d),d,r⟩
  have hKb:K.In (Zt0 s₁.heap H):=λb o e=>base_of (KX b o e) (by
   cases q:H b with
   | none=>rfl
   | some u=>
    have e':b=a:=hA b (by rw[q];simp)
    subst e'
    rw[hK (by rw[q];simp)]at e;cases e)
  have hM:Mod K mg (Zt0 s₁.heap H):=⟨hKb,nsK hns,⟨mb,nsK hb,hbb⟩,let⟨mc,h1,h2⟩:=hlim;⟨mc,nsK h1,h2⟩⟩
  have e0:Z7w P w K mg (Zt0 s₁.heap H) callerA [] s₁ H:=⟨rfl,hM,λb o e=>Z2d e,Nat.le_of_eq (Zts _ _),trivial,λb hb=>absurd (show b∈([]:List Addr)from hb) (by simp),hok,.of_eq hg⟩
  refine Ui ((F _ hKb (nsK hns)).run callerA [] s₁ H ⟨[.ref a],[]⟩ [.ref a] [.ref a] _ _ hr e0 (hbind s₁ (.ref a)) (.cons rfl .nil) (hsp H hO hS)) λr s' h=>?_
  cases r with
  | error e=>exact(hCX H e s' h).elim
  | ok fl=>
   cases fl with
   | next=>exact Vt h
   | brk=>exact Vt h
   | cont=>exact Vt h
   | ret u=>
    obtain⟨v,H',os,bare,un,hok',r',q⟩:=h
    have q':v= .bl true:=q
    subst q'
    obtain rfl:u=Value.bool true:=r'
    refine⟨rfl,OldK.of_keep λb o e=>?_,os,bare⟩
    cases q:H b with
    | none=>exact un.keep b o e q (by intro z;exact absurd (show b∈([]:List Addr)from z) (by simp)) (by simp)
    | some u=>
     rcases hO b with z|⟨ob,xs,z⟩
     ·rw[q]at z;cases z
     ·have z2:=un.frzs b ob _ z
      obtain⟨e1,_⟩:=hok b _ z
      obtain⟨e2,_⟩:=hok' b _ z2
      rw[e]at e1;cases e1
      exact e2
 cases hk:K.lookup a with
 | some o=>
  -- the script is one of the module's own objects
  have e:=KX a o hk
  rw[ha]at e
  cases e
  refine core (λ_=>none) (λ_=>.inl rfl) (.inr ⟨_,vs.toArray,_,hk,rfl,rfl,rfl,by rw[Qa,lenV];exact hl,by simpa using rv⟩) (λb u z=>by have z':(none:Option HO)=some u:=z;cases z') (λb z=>absurd rfl z) λz=>absurd rfl z
 | none=>
  refine core (λb=>if b=a then some (.frz { cls:=.type "list",data:=.seq vs.toArray } (.lst (ns.map V.int)))else none) (λb=>?_) (.inl (.inr ⟨{ cls:=.type "list",data:=.seq vs.toArray },if_pos rfl⟩)) (λb u z=>?_) (λb z=>?_) λ_=>hk
  ·by_cases hb:b=a
   ·exact .inr ⟨_,_,if_pos hb⟩
   ·exact .inl (if_neg hb)
  ·by_cases hb:b=a
   ·have z':=(if_pos hb).symm.trans z
    cases z'
    subst hb
    exact⟨ha,by rw[Xe];exact hl,vs,_,rv,ha⟩
   ·have z':=(if_neg hb).symm.trans z
    cases z'
  ·by_cases hb:b=a
   ·exact hb
   ·exact absurd (if_neg hb) z
noncomputable abbrev KOf{K:Xd}{h:Heap}(_:K.In h):Xd:=K
theorem Zys{l:PySem.W.OpenLaw}{n k:Nat}{q:Qj}{loose:List Str}{XP:(Str->Option Xc)->Heap->Prop}{YP:Qy->Heap->Prop}{d:DefRec}{K:Params->Xd}{CX:Qy->CXT}{sp:Qy->Sp}{x:Str}
  (hn:l.most=some n) (hn2:n≤Xr) (hdf:d.params.defaults=[]) (hr:Room k callerA)
  (hY:∀(w:Qy) (h:Heap),YP w h->(K w.params).In h)
  (F:∀(w:Qy) (mg:Str->Option Xc) (fa:Addr) (h:Heap),(K w.params).In h->h.Ns XD mg->mg d.name=some (.ref fa) ->
   ∃fd:Qn,(∀(s:Xg) (u:Xc),BindsTo s fd ⟨[u],[]⟩ [(x,u)])∧
    ∀base:Heap,(K w.params).In base->base.Ns XD mg->FnOk l.prog w (K w.params) mg base (CX w) k fa fd [x] (sp w))
  (hsp:∀(w:Qy) (H:Hp) (a:Addr) (ns:List Int),ns.length≤n->Only H->SqL (K w.params) H a (ns.map V.int)->sp w [.ref a] H (λv _=>v= .bl true) λ_ _ _=>False)
  (hCX:∀(w:Qy) (H:Hp) (s:Xg) (e:Xc) (s':Xg),CX w [] H s (λ_ _ _=>False) e s'->False) :
  PySem.W.WalkO q loose XP YP l.row.toRowW d [] (λf vs=>PySem.call f vs):=by
 refine Att.attach_call hn hdf λw s₀ s₁ mg mb fa o pm cd doc a vs ns G Y ho hd hcd hmg hobj hints hlen hg=>?_
 have KX:=hY w _ Y
 obtain⟨fd,hb,hF⟩:=F w mg fa _ KX G.T.g hmg
 exact Zux KX G.T.g G.T.b G.T.builtins G.T.nolimit hg hobj hints (Xz hlen hn2) hr hF hb (λH hO hS=>hsp w H a ns hlen hO hS) λH e s'=>hCX w H s₁ e s'
noncomputable def Zy(s:Stmt):Arguments:=match s with
 | .FunctionDef _ a _ _ _ _ _ _ _ _=>a
 | _=>{ posonlyargs:=[],args:=[],vararg:=none,kwonlyargs:=[],kw_defaults:=[],kwarg:=none,defaults:=[] }
noncomputable def Zr(s:Stmt):List Stmt:=match s with
 | .FunctionDef _ _ b _ _ _ _ _ _ _=>b
 | _=>[]
noncomputable def Zg(s:Stmt):Scope:=match s with
 | .FunctionDef _ _ _ _ _ _ sc _ _ _=>sc
 | _=>{ kind:=.function,names:=[],isGenerator:=false,isCoroutine:=false }
noncomputable abbrev CX0:CXT:=λ_ _ _ _ _ _=>False
noncomputable abbrev E0:XK:=λ_ _ _=>False
theorem Za5{X:Cx}:Zkz CX0 X E0:=λ_ _ _ _ _ _ _ h=>h.elim
structure Fun(K:Xd)(x qual:Str)(st:Stmt)(f:Addr)(fd:Qn):Prop where
 ex:∃(oc:Xc) (od:Option Addr) (kV doc pm:Xc) (an:Option Addr) (cdv ct:Xc) (osl:Array (Option Xc)),
  fd=Qi x qual (Zy st) (Zr st) (Zg st) .none kV doc pm an cdv ct∧K.lookup f=some ⟨oc,od,.func fd,osl⟩∧Qe K cdv qual=true
 kp:X3 K (.ref f)=true
section
variable {P:Qj}{w:Qy}{K:Xd}{mg:Str->Option Xc}{base:Heap}
theorem Fun.ok{x qual:Str}{st:Stmt}{f:Addr}{fd:Qn}{N ps:List Str}{k:Nat}{sp:Sp}(F:Fun K x qual st f fd)(S:Zw N ps (Zg st))(len:∀vs H Q E,sp vs H Q E->vs.length=ps.length)
  (hbody:∀(cdv:Xc) (A:Qv) (outer:List Env) (s:Xg) (H:Hp) (vs:List V) (Q:VK) (E:XK),Room k (A.deeper (envOfC qual (Zg st) s.heap.objs.size f cdv))->sp vs H Q E ->
   ∃t,PSs (Zpl CX0 P w K mg base N qual (Zg st) f cdv A outer s H E).nox (Zr st) t∧t { nx:=λ_ H'=>Q .non H',rt:=Q } (start N vs) H):FnOk P w K mg base CX0 (k+1) f fd ps sp:=by
 obtain⟨oc,od,kV,doc,pm,an,cdv,ct,osl,rfl,lk,hcd⟩:=F.ex
 refine Z5b lk hcd S len λA outer s H vs Q E hr hsp=>?_
 obtain⟨t,h,q⟩:=hbody cdv A outer s H vs Q E hr hsp
 exact⟨t,h.nox,q⟩
theorem Fun.binds{x qual:Str}{st:Stmt}{f:Addr}{fd:Qn}{ps:List Str}(F:Fun K x qual st f fd)
  (h:∀(kV doc pm:Xc) (an:Option Addr) (cdv ct:Xc) (us:List Xc),us.length=ps.length->bindArgs (Qi x qual (Zy st) (Zr st) (Zg st) .none kV doc pm an cdv ct) ⟨us,[]⟩=pure (ps.zip us)):Binds K fd ps []:=by
 obtain⟨oc,od,kV,doc,pm,an,cdv,ct,osl,rfl,lk,hcd⟩:=F.ex
 exact .all (h kV doc pm an cdv ct)
theorem Yx{x qual:Str}{st:Stmt}{f:Addr}{oc:Xc}{od an:Option Addr}{osl:Array (Option Xc)}{kV doc pm cdv ct:Xc}(l:K.lookup f=some ⟨oc,od,.func (Qi x qual (Zy st) (Zr st) (Zg st) .none kV doc pm an cdv ct),osl⟩)
  (c:Qe K cdv qual=true) (k:X3 K (.ref f)=true):Fun K x qual st f (Qi x qual (Zy st) (Zr st) (Zg st) .none kV doc pm an cdv ct):=⟨⟨oc,od,kV,doc,pm,an,cdv,ct,osl,rfl,l,c⟩,k⟩
end
section
variable {X:Cx}
theorem pv(i:Nat){x:Str}{pos:Pos}(hN:X.N[i]? =some x:=by rfl)(hv:Vis X.env.scope x:=by first|exact QF rfl|exact QJ (QF rfl)|exact QJ (QJ rfl))(hd:(x==("__debug__" : Str))=false:=by decide)
  (hcd:(x==("__classdict__" : Str))=false:=by decide):PE X (.Name x pos) (Z9t i):=Z2q hN hv hd hcd
end
noncomputable def Same(H H':Hp):Prop:=∀b o,H b=some o->H' b=some o
theorem Same.refl(H:Hp):Same H H:=λ_ _ h=>h
theorem Same.trans{H H1 H2:Hp}(a:Same H H1)(b:Same H1 H2):Same H H2:=λc o h=>b c o (a c o h)
theorem Same.free{H H':Hp}(e:Same H H'){l:Addr}(h:H' l=Option.none):H l=Option.none:=by
 cases q:H l with
 | none=>rfl
 | some o=>
  rw[e l o q]at h
  cases h
end L2
set_option maxHeartbeats 4000000
namespace L2
open PySem PySem.Spec PyProof.Rows
noncomputable def Bt(n:Nat)(x:Int):Prop:=x.natAbs<2^n
theorem Bt.mono{m n:Nat}{x:Int}(h:Bt m x)(hn:m≤n):Bt n x:=X4 h (Nat.pow_le_pow_right (by decide) hn)
theorem Bt.mul{m n:Nat}{x y:Int}(h:Bt m x)(k:Bt n y):Bt (m+n) (x*y):=by
 unfold Bt at*
 rw[Int.natAbs_mul,Nat.pow_add]
 exact Nat.mul_lt_mul'' h k
theorem Bt.neg{m:Nat}{x:Int}(h:Bt m x):Bt m (-x):=by
 unfold Bt at*
 rw[Int.natAbs_neg]
 exact h
theorem Bt.add{m n:Nat}{x y:Int}(h:Bt m x)(k:Bt n y):Bt (m+n+1) (x+y):=by
 unfold Bt at*
 have h1:2^m≤2^(m+n):=Nat.pow_le_pow_right (by decide) (by omega)
 have h2:2^n≤2^(m+n):=Nat.pow_le_pow_right (by decide) (by omega)
 have h3:2^(m+n+1)=2*2^(m+n):=by rw[Nat.pow_succ];omega
 have h4:=Int.natAbs_add_le x y
 omega
theorem Bt.add'{m:Nat}{x y:Int}(h:Bt m x)(k:Bt m y):Bt (m+1) (x+y):=by
 unfold Bt at*
 have h3:2^(m+1)=2*2^m:=by rw[Nat.pow_succ];omega
 have h4:=Int.natAbs_add_le x y
 omega
theorem Bt.of_le{m:Nat}{x y:Int}(h:Bt m x)(k:y.natAbs≤x.natAbs):Bt m y:=JW k h
theorem Bt.of_lt{m:Nat}{x:Int}(h1:-(2^m)<x)(h2:x<2^m):Bt m x:=by
 unfold Bt
 have e:((2^m:Nat):Int)=2^m:=by simp
 omega
theorem Bt.bits{m:Nat}{x:Int}(h:Bt m x):Bo x≤m:=by
 unfold Bo
 split
 ·exact QC _
 ·rename_i hx
  have hp:x.natAbs≠0:=by
   intro e
   apply hx
   have:x=0:=by omega
   subst this
   rfl
  have:=(Nat.log2_lt hp).mpr h
  omega
theorem Bt.mulOk{m n:Nat}{x y:Int}(h:Bt m x)(k:Bt n y)(hmn:m+n≤100000000:=by decide):IntMulOk x y:=by
 have h1:=h.bits
 have h2:=k.bits
 have h3:Builtin.Int.intTooBig (Bo x+Bo y)=false:=by
  unfold Builtin.Int.intTooBig bitsLine
  exact decide_eq_false (by omega)
 unfold IntMulOk
 rw[h3]
 simp
noncomputable def DivOk(_ j:Int):Prop:=j≠0∧j.natAbs.log2<9000
theorem DivOk.of{i j:Int}{n:Nat}(h0:j≠0)(h:Bt n j)(hn:n≤9000:=by decide):DivOk i j:=by
 refine⟨h0,?_⟩
 have hp:j.natAbs≠0:=by omega
 have:=(Nat.log2_lt hp).mpr h
 omega
section
variable {X:Cx}
theorem Zyf:OpR X (Uu .Mult) (rI IntMulOk λi j=>.int (i*j)):=opI λ_ _ _ _ _ _ _ hc q=>mul_int q hc
theorem Zwo:OpR X (Uu .FloorDiv) (rI DivOk λi j=>.int (i.fdiv j)):=opI λ_ _ _ _ _ _ _ hc q=>floordiv_int hc.1 q (.inl (PyProof.noPylong_of_log2 hc.2))
theorem Zz6:OpR X (Uu .Pow) (rI Z7k λi j=>.int (i^j.toNat)):=Z4x
end
theorem Zhc(elt target iter:Expr)(ifs:List Expr)(scope:Scope)(pos:Pos)(it acc:Xc)(env:Env) :
  compTurn (.ListComp elt [⟨target,iter,ifs,0⟩] scope pos) 0 it acc env=(standAt iter.pos>>= λ_=>Ua it>>= λr=>match r with
   | none=>pure (.done .next)
   | some v=>letOwnedTupleGo target it v>>= λ_=>U9 target env v>>= λ_=>
    (forIn ifs true λc r=>if r=true then do let ok←isTrue c env (eval c env);pure (Br ok)else pure (Br r))>>= λok=>
     if ok=true then((eval elt env>>= λx=>call (.builtin "list.append") [acc,x]>>= λ_=>pure ())>>= λ_=>
      again (.compLoop (.ListComp elt [⟨target,iter,ifs,0⟩] scope pos) 0 it acc env))
     else again (.compLoop (.ListComp elt [⟨target,iter,ifs,0⟩] scope pos) 0 it acc env)):=by rfl
theorem Zjo{prog:Qj}{w:Qy}{A:Qv}{R:Result->Xg->Prop}{s:Xg}{elt target iter:Expr}{ifs:List Expr}{scope:Scope}{pos:Pos}{it acc:Xc}{env:Env}(I:Nat->Xg->Prop)
  (turn:∀n s,I n s->Xu (X5 prog w) A (Ua it) (λr s₁=>match r with
   | none=>R (.ok .next) s₁
   | some v=>Xu (X5 prog w) A (letOwnedTupleGo target it v) (λ_ s₁=>Xu (X5 prog w) A (U9 target env v) (λ_ s₂=>
     Xu (X5 prog w) A (forIn ifs true λc r=>if r=true then do let ok←isTrue c env (eval c env);pure (Br ok)else pure (Br r)) (λok s₃=>
      if ok=true then Xu (X5 prog w) A (eval elt env) (λx s₄=>
       Xu (X5 prog w) A (call (.builtin "list.append") [acc,x]) (λ_ s₅=>∃m,m<n∧I m s₅) (notedBy (X5 prog w) A env λe s'=>R (.error e) s') s₄) (notedBy (X5 prog w) A env λe s'=>R (.error e) s') s₃
      else∃m,m<n∧I m s₃) (notedBy (X5 prog w) A env λe s'=>R (.error e) s') s₂) (notedBy (X5 prog w) A env λe s'=>R (.error e) s') s₁) (notedBy (X5 prog w) A env λe s'=>R (.error e) s') s₁) (notedBy (X5 prog w) A env λe s'=>R (.error e) s') s)
  (n:Nat) (h:I n s) :
  U7 (X5 prog w) A (.compLoop (.ListComp elt [⟨target,iter,ifs,0⟩] scope pos) 0 it acc env) R s:=by
 refine codeAny_loop rfl I (λn s hI=>?_) n h
 show Xu _ A ((compTurn (.ListComp elt [⟨target,iter,ifs,0⟩] scope pos) 0 it acc env).onRaise (λx=>do noteFrame x env;theTreesLotGoes x)) _ _ s
 refine wpAny_noted ?_
 rw[Zhc]
 refine Xb (wpAny_standAt (Xb (QG (turn n s hI) (λr s₁ h₁=>?_) λ_ _ h'=>h')))
 cases r with
 | none=>exact Xi h₁
 | some v=>
  refine Xb (QG h₁ (λ_ s₂ h₂=>?_) λ_ _ h'=>h')
  refine Xb (QG h₂ (λ_ s₂ h₂=>Xb (QG h₂ (λok s₃ h₃=>?_) λ_ _ h'=>h')) λ_ _ h'=>h')
  cases ok with
  | false=>exact Xi ⟨rfl,h₃⟩
  | true=>
   exact Xb (Xb (QG h₃ (λx s₄ h₄=>Xb (QG h₄ (λ_ s₅ h₅=>Xi (Xi ⟨rfl,h₅⟩)) λ_ _ h'=>h')) λ_ _ h'=>h'))
noncomputable def Zha(env:Env):List (Str×Vj)->List (Str×Addr)->List (Str×Addr)
 | [],acc=>acc
 | (n,k) :: r,acc=>if k== .free then Zha env r ((n,(env.cells.lookup n).getD 0) :: acc)else Zha env r acc
theorem Zi2{env:Env}:∀(names:List (Str×Vj)) (acc:List (Str×Addr)),(∀y∈names,y.2= .free->∃c,env.cells.lookup y.1=some c) ->
  (forIn names acc (λ(y:Str×Vj) cs=>(if y.2== .free then(cellOf env y.1>>= λc=>pure (Br ((y.1,c) :: cs)))else pure (Br cs):Sem (ForInStep (List (Str×Addr))))))=pure (Zha env names acc)
 | [],acc,_=>by rw[List.forIn_nil];rfl
 | (n,k) :: r,acc,h=>by
  by_cases hk:k= .free
  ·subst hk
   obtain⟨c,hc⟩:=h (n,.free) (.head _) rfl
   have hc':env.cells.lookup n=some c:=hc
   have e:=Zi2 (env:=env) r ((n,c) :: acc) λy hy=>h y (.tail _ hy)
   have ec:cellOf env n=pure c:=by
    unfold cellOf
    rw[hc']
   rw[List.forIn_cons]
   simp only[beq_self_eq_true,if_true]
   rw[ec]
   simp only[Zha,beq_self_eq_true,if_true,hc',Option.getD_some]
   exact e
  ·have e:=Zi2 (env:=env) r acc λy hy=>h y (.tail _ hy)
   have hb:(k==Q4)=false:=by simpa using hk
   rw[List.forIn_cons]
   simp only[Zha,hb,XC,if_false]
   exact e
theorem Zdb{scope:Scope}{env:Env}(h:∀y∈scope.names,y.2= .free->∃c,env.cells.lookup y.1=some c):closureFor scope env=pure (Zha env scope.names []):=by
 have e:=Zi2 scope.names [] h
 have e':(forIn scope.names ([]:List (Str×Addr)) (λ(y:Str×Vj) cs=>(match y with|(name,kind)=>do
   if kind== .free then do let a←cellOf env name;pure (Br ((name,a) :: cs))else pure (Br cs):Sem (ForInStep (List (Str×Addr))))))=pure (Zha env scope.names []):=e
 exact congrArg (λ(m:Sem (List (Str×Addr)))=>m>>= λx=>pure x) e'
theorem Zis{env:Env}:∀(names:List (Str×Vj)) (acc:List (Str×Addr)),(∀y∈names,y.2= .free->∃c,env.cells.lookup y.1=some c) ->
  ∀n c,(n,c)∈Zha env names acc->(n,c)∈acc∨((n,Q4)∈names∧env.cells.lookup n=some c)
 | [],acc,_,n,c,h=>.inl h
 | (m,k) :: r,acc,h,n,c,hm=>by
  by_cases hk:k= .free
  ·subst hk
   obtain⟨d,hd⟩:=h (m,.free) (.head _) rfl
   have hd':env.cells.lookup m=some d:=hd
   simp only[Zha,beq_self_eq_true,if_true,hd',Option.getD_some]at hm
   rcases Zis r _ (λy hy=>h y (.tail _ hy)) n c hm with z|⟨z1,z2⟩
   ·rcases Xp.mp z with z|z
    ·cases z;exact .inr ⟨.head _,hd'⟩
    ·exact .inl z
   ·exact .inr ⟨.tail _ z1,z2⟩
  ·have hb:(k==Q4)=false:=by simpa using hk
   simp only[Zha,hb,XC,if_false]at hm
   refine(Zis r _ (λy hy=>h y (.tail _ hy)) n c hm).imp id λqz9=>?_
   obtain⟨z1,z2⟩:=qz9
   exact⟨.tail _ z1,z2⟩
theorem Zi3{env:Env}:∀(names:List (Str×Vj)) (acc:List (Str×Addr)),∀p∈acc,p∈Zha env names acc
 | [],_,_,h=>h
 | (m,k) :: r,acc,p,h=>by
  unfold Zha
  split
  ·exact Zi3 r _ p (.tail _ h)
  ·exact Zi3 r _ p h
theorem Zje{env:Env}:∀(names:List (Str×Vj)) (acc:List (Str×Addr)) (n:Str),(n,Q4)∈names->∃c,(n,c)∈Zha env names acc
 | [],_,_,h=>nomatch h
 | (m,k) :: r,acc,n,h=>by
  rcases Xp.mp h with z|z
  ·cases z
   exact⟨_,by
    simp only[Zha,beq_self_eq_true,if_true]
    exact Zi3 _ _ _ (.head _)⟩
  ·unfold Zha
   split
   ·exact Zje r _ n z
   ·exact Zje r _ n z
theorem Ze8{env:Env}(inj:∀x y c,env.cells.lookup x=some c->env.cells.lookup y=some c->x=y):∀(names:List (Str×Vj)) (acc:List (Str×Addr)),
  (∀ y∈names,y.2= .free->∃c,env.cells.lookup y.1=some c)->(names.map (·.1)).Nodup->(∀p∈acc,env.cells.lookup p.1=some p.2)->(∀p∈acc,p.1∉names.map (·.1))->(acc.Pairwise λx y=>x.2≠y.2) ->
  (Zha env names acc).Pairwise λx y=>x.2≠y.2
 | [],_,_,_,_,_,h=>h
 | (m,k) :: r,acc,hf,hn,ha,hd,hp=>by
  rw[Qu,QB]at hn
  have hf':∀y∈r,y.2= .free->∃c,env.cells.lookup y.1=some c:=λy hy=>hf y (.tail _ hy)
  have hd':∀p∈acc,p.1∉r.map (·.1):=λp hp z=>hd p hp (by rw[Qu];exact .tail _ z)
  by_cases hk:k= .free
  ·subst hk
   obtain⟨d,hd0⟩:=hf (m,.free) (.head _) rfl
   have hd1:env.cells.lookup m=some d:=hd0
   simp only[Zha,beq_self_eq_true,if_true,hd1,Option.getD_some]
   refine Ze8 inj r _ hf' hn.2 (λp hp'=>?_) (λp hp'=>?_) (List.pairwise_cons.mpr ⟨λp hp' z=>?_,hp⟩)
   ·rcases Xp.mp hp' with rfl|hp'
    ·exact hd1
    ·exact ha p hp'
   ·rcases Xp.mp hp' with rfl|hp'
    ·exact hn.1
    ·exact hd' p hp'
   ·have e:m=p.1:=inj m p.1 d hd1 (by rw[ha p hp',←z])
    exact hd p hp' (by rw[Qu,←e];exact .head _)
  ·have hb:(k==Q4)=false:=by simpa using hk
   simp only[Zha,hb,XC,if_false]
   exact Ze8 inj r _ hf' hn.2 ha hd' hp
structure Zo6(h:Heap)(lo:Nat)(names:List (Str×Vj))(acc cs:List (Str×Addr)):Prop where
 mem:∀n c,(n,c)∈cs->(n,c)∈acc∨(h.IsCell c none∧lo≤c∧(n,BR)∈names)
 has:∀n,(n,BR)∈names->∃c,(n,c)∈cs
 old:∀p∈acc,p∈cs
theorem Zep:∀(names:List (Str×Vj)) (h:Heap) (lo:Nat) (acc:List (Str×Addr)),lo≤h.objs.size->Zo6 (Vx h names) lo names acc (BP h.objs.size names acc)
 | [],_,_,_,_=>⟨λ_ _ m=>.inl m,(λ_ m=>nomatch m),λ_ m=>m⟩
 | (name,kind) :: r,h,lo,acc,hlo=>by
  by_cases hk:(kind==BR)=true
  ·have ek:kind= .cell:=by simpa using hk
   subst ek
   have ih:=Zep r (h.push { cls:=.type "cell",data:=.cell none }) lo ((name,h.objs.size) :: acc) (by rw[Qx];omega)
   rw[Qx]at ih
   have e1:BP h.objs.size ((name,.cell) :: r) acc=BP (h.objs.size+1) r ((name,h.objs.size) :: acc):=by
    rw[BP,if_pos hk]
   have e2:Vx h ((name,.cell) :: r)=Vx (h.push { cls:=.type "cell",data:=.cell none }) r:=by
    rw[Vx,if_pos hk]
   rw[e1,e2]
   refine⟨λn c m=>?_,λn m=>?_,λp m=>ih.old p (.tail _ m)⟩
   ·rcases ih.mem n c m with z|⟨z1,z2,z3⟩
    ·rcases Xp.mp z with z|z
     ·cases z
      exact .inr ⟨⟨_,pushCells_keeps _ _ _ _ (Xv _ rfl),rfl⟩,hlo,.head _⟩
     ·exact .inl z
    ·exact .inr ⟨z1,z2,.tail _ z3⟩
   ·rcases Xp.mp m with z|z
    ·cases z
     exact⟨_,ih.old _ (.head _)⟩
    ·exact ih.has n z
  ·have ih:=Zep r h lo acc hlo
   have e1:BP h.objs.size ((name,kind) :: r) acc=BP h.objs.size r acc:=by
    rw[BP,if_neg hk]
   have e2:Vx h ((name,kind) :: r)=Vx h r:=by
    rw[Vx,if_neg hk]
   rw[e1,e2]
   refine⟨λn c m=>(ih.mem n c m).imp id λ⟨z1,z2,z3⟩=>⟨z1,z2,.tail _ z3⟩,λn m=>?_,ih.old⟩
   rcases Xp.mp m with z|z
   ·cases z
    exact absurd rfl hk
   ·exact ih.has n z
theorem Zg6(names:List (Str×Vj)):∀(h:Heap) (acc:List (Str×Addr)),(acc.Pairwise λx y=>x.2≠y.2)->(∀p∈acc,p.2<h.objs.size)->(BP h.objs.size names acc).Pairwise λx y=>x.2≠y.2:=by
 induction names with
 | nil=>intro h acc ha _;exact ha
 | cons y r ih=>
  intro h acc ha hb
  obtain⟨name,kind⟩:=y
  unfold BP
  split
  ·have:=ih (h.push { cls:=.type "cell",data:=.cell none }) ((name,h.objs.size) :: acc) (List.pairwise_cons.mpr ⟨λp hp=>Q3 (hb p hp),ha⟩) (λp hp=>by
    rw[Qx]
    rcases Xp.mp hp with rfl|hp
    ·exact Qz _
    ·exact Q8 (hb p hp))
   rwa[Qx]at this
  ·exact ih h acc ha hb
theorem Zhb{M:Model}{A:Qv}{E:Xc->Xg->Prop}{s:Xg}{scope:Scope}{globals:Addr}{cl:List (Str×Addr)}{qual:Str}{env:Env}{Q:Env->Xg->Prop}
  (hQ:Q (newEnv scope s.heap.objs.size globals (BP (s.heap.objs.size+1) scope.names cl) qual none .none (some env) builtinsNs)
   { s with heap:=Vx (s.heap.push { cls:=.type "dict",data:=.dict #[] }) scope.names }) :
  Xu M A (newFunctionEnv scope globals cl [] qual none .none (some env)) Q E s:=by
 simp only[newFunctionEnv,Option.isSome_some,if_true]
 refine Xb (wpAny_alloc ?_)
 refine Xb (wpAny_layCells _ (λname kind cells=>by cases hkc:kind==BR<;>simp[hkc]) _ _ _ _ ?_)
 rw[show({ s with heap:=s.heap.push { cls:=.type "dict",data:=.dict #[] } }:Xg).heap.objs.size=s.heap.objs.size+1 from Qx ..]
 rw[List.forIn_nil]
 exact Xb (Xi (Xi hQ))
noncomputable def We(X:Cx)(N':List Str)(sc:Scope)(C:Addr)(cells:List (Str×Addr))(s₂:Xg)(H₂:Hp)(fp:List Addr):Cx :=
 { X with N:=N',s₀:=s₂,H₀:=H₂,env:=compEnvC sc cells C X.env,outer:=X.stack,stack:=X.stack,ex:=fp,fn:=λx=>sc.names.lookup x==some .cell,pn:=[],xe:=λ_ _=>False }
theorem Zda{env:Env}:∀{names:List (Str×Vj)} {x:Str} {k:Vj},names.lookup x=some k ->
  (names.map λ(n,k)=>if(k==Q4&&env.scope.kind== .function&&env.kindOf n==some .cell)then(n,BR)else(n,k)).lookup x=
   some (if(k==Q4&&env.scope.kind== .function&&env.kindOf x==some .cell)then BR else k)
 | [],_,_,h=>by simp at h
 | (n,k') :: r,x,k,h=>by
  have ih:=@Zda env r x k
  show List.lookup x ((if(k'==Q4&&env.scope.kind== .function&&env.kindOf n==some .cell)=true then(n,BR)else(n,k')) :: _)=_
  cases hx:x==n with
  | true=>
   simp only[Q5,hx]at h
   cases h
   have e:=beq_iff_eq.mp hx
   subst e
   split<;>simp[Q5]
  | false=>
   simp only[Q5,hx]at h
   split
   ·simp only[Q5,hx];exact ih h
   ·simp only[Q5,hx];exact ih h
theorem Zfi{env:Env}:∀{names:List (Str×Vj)} {x:Str},names.lookup x=none ->
  (names.map λ(n,k)=>if(k==Q4&&env.scope.kind== .function&&env.kindOf n==some .cell)then(n,BR)else(n,k)).lookup x=none
 | [],_,_=>rfl
 | (n,k') :: r,x,h=>by
  have ih:=@Zfi env r x
  show List.lookup x ((if(k'==Q4&&env.scope.kind== .function&&env.kindOf n==some .cell)=true then(n,BR)else(n,k')) :: _)=_
  cases hx:x==n with
  | true=>
   simp only[Q5,hx]at h
   cases h
  | false=>
   simp only[Q5,hx]at h
   split
   ·simp only[Q5,hx];exact ih h
   ·simp only[Q5,hx];exact ih h
theorem Zd7{α:Type}:∀{l:List (Str×α)} {n:Str} {c:α},(l.map (·.1)).Nodup->(n,c)∈l->l.lookup n=some c
 | (k,v) :: r,n,c,hd,h=>by
  rw[Qu,QB]at hd
  rcases Xp.mp h with e|hr
  ·cases e
   simp[Q5]
  ·have hne:(n==k)=false:=by
    refine Vz.mpr λz=>hd.1 ?_
    have e:n=k:=beq_iff_eq.mp z
    rw[←e]
    exact XF.mpr ⟨(n,c),hr,rfl⟩
   rw[Q5,hne]
   exact Zd7 hd.2 hr
theorem Ys{α:Type}:∀{l:List (Str×α)} {n:Str} {c:α},(n,c)∈l->∃d,l.lookup n=some d∧(n,d)∈l
 | (k,v) :: r,n,c,h=>by
  by_cases e:n=k
  ·subst e
   exact⟨v,by simp[Q5],List.mem_cons_self⟩
  ·have hne:(n==k)=false:=by simpa using e
   rcases Xp.mp h with z|z
   ·cases z;exact absurd rfl e
   ·obtain⟨d,h1,h2⟩:=Ys z
    exact⟨d,by rw[Q5,hne];exact h1,.tail _ h2⟩
structure CompScope(X:Cx)(own:List Str)(caps:List Nat)(N':List Str)(sc:Scope):Prop where
 kind:sc.kind= .function
 nd:N'.Nodup
 names:N'=own ++ caps.map λi=>X.N.getD i Str.empty
 nn:(sc.names.map (·.1)).Nodup
 free:(sc.names.all λy=>y.2 != .free||(X.env.kindOf y.1==some .cell||X.env.kindOf y.1==some .free))=true
 caps:(caps.all λi=>sc.names.lookup (X.N.getD i Str.empty)==some .free)=true
noncomputable def Je(own:List Str)(caps:List Nat)(σ:St):St:=own.map (λ_=>none) ++ caps.map λi=>(σ[i]?).getD none
section
variable {X:Cx}{own:List Str}{caps:List Nat}{N':List Str}{sc:Scope}
theorem CompScope.lk(S:CompScope X own caps N' sc){n:Str}{k:Vj}(h:(n,k)∈sc.names):sc.names.lookup n=some k:=Zd7 S.nn h
theorem CompScope.fr(S:CompScope X own caps N' sc){n:Str}(h:(n,Q4)∈sc.names):X.env.kindOf n=some .cell∨X.env.kindOf n=some .free:=by
 have:=Bm.mp S.free _ h
 simpa using this
theorem Zom{pins:List (Addr×Obj)}{σ:St}{H:Hp}{s:Xg}{fp:List Addr}{cl:List (Str×Addr)}(S:CompScope X own caps N' sc)(I:Inv X pins σ H s)
  (f:∀b∈fp,Zhp X pins H b) (fo:∀b∈fp,∃o,s.heap.get? b=some o)
  (hcl:∀n c,(n,c)∈cl->(n,Q4)∈sc.names∧X.env.cells.lookup n=some c) (hcl2:∀n,(n,Q4)∈sc.names->∃c,(n,c)∈cl) (hapart:cl.Pairwise λx y=>x.2≠y.2) :
  Inv (We X N' sc (s.heap.objs.size+1) (BP (s.heap.objs.size+2) sc.names cl) s H fp) [] (Je own caps σ) (upd H s.heap.objs.size (.lst []))
   { s with heap:=Vx ((s.heap.push { cls:=.type "list",data:=.seq #[] }).push { cls:=.type "dict",data:=.dict #[] }) sc.names }:=by
 generalize hh1:s.heap.push { cls:=.type "list",data:=.seq #[] }=h1
 have z1:h1.objs.size=s.heap.objs.size+1:=by rw[←hh1,Qx]
 generalize hh2:h1.push { cls:=.type "dict",data:=.dict #[] }=h2
 have z2:h2.objs.size=s.heap.objs.size+2:=by rw[←hh2,Qx,z1]
 have BC:=Zep sc.names h2 (s.heap.objs.size+2) cl (by omega)
 have AP:=Zg6 sc.names h2 cl hapart (λp hp=>by
  obtain⟨v,hv⟩:=I.cell p.1 p.2 (hcl p.1 p.2 hp).2
  exact X4 hv.lt (by omega))
 rw[z2]at BC AP
 have keep:∀b o,s.heap.get? b=some o->(Vx h2 sc.names).get? b=some o:=λb o e=>pushCells_keeps _ _ _ _ (by
  rw[←hh2]
  refine Xf _ ?_
  rw[←hh1]
  exact Xf _ e)
 have hD:(Vx h2 sc.names).get? s.heap.objs.size=some { cls:=.type "list",data:=.seq #[] }:=pushCells_keeps _ _ _ _ (by
  rw[←hh2]
  refine Xf _ ?_
  rw[←hh1]
  exact Xv _ rfl)
 have hC:(Vx h2 sc.names).Ns (s.heap.objs.size+1) (λ_=>none):=by
  refine Heap.Ns.keeps ?_ (pushCells_keeps _ _)
  have:=Heap.Ns.new h1 (.type "dict")
  rw[hh2,z1]at this
  exact this
 have cellOld:∀n c,X.env.cells.lookup n=some c->c<s.heap.objs.size:=λn c e=>by
  obtain⟨v,hv⟩:=I.cell n c e
  exact hv.lt
 have lk':∀n c,(BP (s.heap.objs.size+2) sc.names cl).lookup n=some c->(n,c)∈BP (s.heap.objs.size+2) sc.names cl:=λn c e=>Bu e
 have hnD:H s.heap.objs.size=none:=I.fresh
 have fresh:∀c,s.heap.objs.size<c->upd H s.heap.objs.size (.lst []) c=none:=λc hc=>by
  rw[Zz (Q3 hc)]
  exact I.hok.fresh (VD hc)
 have isc:∀n c,(n,c)∈BP (s.heap.objs.size+2) sc.names cl->∃v,(Vx h2 sc.names).IsCell c v:=λn c m=>by
  rcases BC.mem n c m with z|⟨z,_⟩
  ·obtain⟨v,hv⟩:=I.cell n c (hcl n c z).2
   exact⟨v,hv.keeps keep⟩
  ·exact⟨none,z⟩
 have okH:HOk X.prog X.w (upd H s.heap.objs.size (.lst [])) (Vx h2 sc.names):=by
  refine I.hok.laid keep (Qp _) ?_
  exact⟨QC _,[],0,.nil,hD⟩
 have kinds:∀x k,sc.names.lookup x=some k->(relabel sc X.env).names.lookup x=some (if(k==Q4&&X.env.scope.kind== .function&&X.env.kindOf x==some .cell)then BR else k):=λx k e=>Zda e
 have kindsR:∀x k,(relabel sc X.env).names.lookup x=some k->∃k',(x,k')∈sc.names∧k=(if(k'==Q4&&X.env.scope.kind== .function&&X.env.kindOf x==some .cell)then BR else k'):=λx k e=>by
  cases q:sc.names.lookup x with
  | none=>
   have:=Zfi (env:=X.env) q
   rw[show(relabel sc X.env).names.lookup x=_ from this]at e
   cases e
  | some k'=>
   refine⟨k',Bu q,?_⟩
   rw[kinds x k' q]at e
   exact(QQ e).symm
 refine⟨⟨I.ok.mod,S.kind,I.ok.glob,I.ok.blt,?_,?_,?_,?_,I.ok.hd,I.ok.frames,.inl rfl,?_,?_,?_,?_,?_,?_,?_⟩,rfl,I.bare,?_,?_,?_,?_,?_,(λp hp=>nomatch hp),okH,?_⟩
 ·show s.heap.objs.size≤s.heap.objs.size+1;omega
 ·intro x y c e1 e2
  exact name_of_addr AP (lk' x c e1) (lk' y c e2)
 ·intro x hx
  rcases hx with hx|hx
  ·obtain⟨k',hm,hk'⟩:=kindsR x _ hx
   cases k' with
   | cell=>
    obtain⟨c,hc⟩:=BC.has x hm
    obtain⟨d,h1,_⟩:=Ys hc
    exact⟨d,h1⟩
   | free=>
    obtain⟨c,hc⟩:=hcl2 _ hm
    obtain⟨d,h1,_⟩:=Ys (BC.old _ hc)
    exact⟨d,h1⟩
   | _=>simp at hk'
  ·obtain⟨k',hm,hk'⟩:=kindsR x _ hx
   cases k' with
   | free=>
    obtain⟨c,hc⟩:=hcl2 _ hm
    obtain⟨d,h1,_⟩:=Ys (BC.old _ hc)
    exact⟨d,h1⟩
   | _=>simp at hk'
 ·intro x c hf e
  have hf':sc.names.lookup x=some .cell:=by simpa [We]using hf
  rcases BC.mem x c (lk' x c e)with z|⟨_,z,_⟩
  ·-- a free one and a cell at once: the name stands once
   exfalso
   have q:=S.lk (hcl x c z).1
   rw[hf']at q
   cases q
  ·show s.heap.objs.size≤c;omega
 ·intro b hb
  obtain⟨o,ho⟩:=fo b hb
  have hlt:=Xx ho
  refine⟨XQ (VR hlt (Qz _)),λx c e z=>?_⟩
  rcases BC.mem x c (lk' x c e)with q|⟨_,q,_⟩
  ·exact(f b hb).2.2.2.2.1 x c (hcl x c q).2 z
  ·subst z
   exact absurd hlt (Nat.not_lt.mpr (Xz (Vs _ 2) q))
 ·exact I.bs
 ·exact Xz I.ok.bsz I.sz
 ·intro b o e hb
  rcases(f b hb).2.2.2.1 with z|z
  ·exact I.ok.noex b o e z
  ·exact absurd (X4 (Xx e) I.ok.bsz) (Nat.not_lt.mpr z)
 ·intro b hb z
  rcases Xp.mp (I.stkSub b z)with q|q
  ·exact(f b hb).2.1 q
  ·exact(f b hb).2.2.1 q
 ·exact I.stack
 ·exact I.stkFree
 ·exact Un.laid keep (Qp _) hnD
 ·refine⟨_,hC,λi x v e1 e2 e3=>?_⟩
  have e1':(own ++ caps.map λi=>X.N.getD i Str.empty)[i]? =some x:=by rw[←S.names];exact e1
  have e2':(own.map (λ_=>(none:Option V)) ++ caps.map λi=>(σ[i]?).getD none)[i]? =some (some v):=e2
  by_cases hi:i<own.length
  ·rw[Uc (by simpa using hi),Xl]at e2'
   cases q:own[i]? with
   | none=>rw[q]at e2';cases e2'
   | some y=>rw[q]at e2';cases e2'
  ·rw[Bw (by simpa using hi),Xl]at e2'
   rw[Bw (by omega),Xl]at e1'
   rw[Xe]at e2'
   cases q:caps[i-own.length]? with
   | none=>rw[q]at e2';cases e2'
   | some j=>
    rw[q]at e1' e2'
    have e1:X.N.getD j Str.empty=x:=QQ e1'
    have e2:(σ[j]?).getD none=some v:=QQ e2'
    have e4:σ[j]? =some (some v):=by
     cases r:σ[j]? with
     | none=>rw[r]at e2;cases e2
     | some o=>rw[r]at e2;exact congrArg some e2
    have hj:j<X.N.length:=by rw[←I.len];exact(Xo.mp e4).1
    have e5:X.N[j]? =some x:=by rw[←e1];simp[Ql,hj]
    have hc:=Bm.mp S.caps j (Qo q)
    have e6:sc.names.lookup x=some .free:=by rw[←e1];simpa using hc
    have hm:=Bu e6
    have kx:=S.fr hm
    obtain⟨m,hn,hl⟩:=I.loc
    obtain⟨u,ru,lo⟩:=hl j x v e5 e4 (by rcases kx with z|z;exact .inr (.inl z);exact .inr (.inr z))
    refine⟨u,ru,.inr ⟨?_,?_⟩⟩
    ·have:=kinds x _ e6
     show(relabel sc X.env).names.lookup x=_∨(relabel sc X.env).names.lookup x=_
     rw[this]
     split
     ·exact .inl rfl
     ·exact .inr rfl
    ·rcases lo with⟨z,_⟩|⟨_,c,hc1,hc2⟩
     ·rcases kx with w|w<;>(rw[w]at z;cases z)
     ·obtain⟨d,hd⟩:=hcl2 x hm
      obtain⟨d',h1,h2⟩:=Ys (BC.old _ hd)
      refine⟨d',h1,?_⟩
      rcases BC.mem x d' h2 with w|⟨_,_,w⟩
      ·have w':=(hcl x d' w).2
       rw[hc1]at w'
       cases w'
       exact hc2.keeps keep
      ·have:=S.lk w
       rw[e6]at this
       cases this
 ·intro x c e
  exact isc x c (lk' x c e)
 ·exact fresh _ (Qz _)
 ·intro x c e
  rcases BC.mem x c (lk' x c e)with z|⟨_,z,_⟩
  ·have e':=(hcl x c z).2
   have hlt:=cellOld x c e'
   rw[Zz (XQ hlt)]
   exact I.freeC x c e'
  ·exact fresh c (by omega)
 ·show(Je own caps σ).length=N'.length
  rw[S.names]
  unfold Je
  simp
end
noncomputable def Z18(J:It)(g:TG)(tt:TT)(te:TE)(σ0:St)(D:Addr)(Q:Hp->Prop)(H1:Hp):Prop :=
 ∃W:Nat->Nat->St->Hp->Prop,(∃m,W 0 m σ0 (upd H1 D (.lst [])))∧∀i m σ' H',W i m σ' H' ->
  (J.stop i H'∧Q H')∨(J.go i H'∧∀x H2,J.yld i H' x H2->g x σ' H2 λσ2 H3=>tt σ2 H3 λb H4=>
   if b=true then te σ2 H4 λy H5=>∃ys,H5 D=some (.lst ys)∧ys.length<Xr∧∃m',m'<m∧W (i+1) m' σ2 (upd H5 D (.lst (ys ++ [y])))
   else∃m',m'<m∧W (i+1) m' σ2 H4)
noncomputable def Zus(own:List Str)(caps:List Nat)(wi:TI)(g:TG)(tt:TT)(te:TE):TE:=λσ H Q=>wi σ H λJ H1=>∀D,H1 D=none->Z18 J g tt te (Je own caps σ) D (Q (.ref D)) H1
noncomputable def Z9n:TT:=λ_ H Q=>Q true H
noncomputable def Z0m(X:Cx)(ifs:List Expr)(t:TT):Prop :=
 ∀(pins:List (Addr×Obj)) (s:Xg) (σ:St) (H:Hp) (Q:Bool->Hp->Prop),Inv X pins σ H s->t σ H Q ->
  Xu (X5 X.prog X.w) X.A (forIn ifs true λc r=>if r=true then do let ok←isTrue c X.env (eval c X.env);pure (Br ok)else pure (Br r)) (TP X pins σ Q) X.xe s
theorem Zyl{X:Cx}:Z0m X [] Z9n:=λpins s σ H Q I h=>by
 rw[List.forIn_nil]
 exact Xi ⟨H,I,h⟩
theorem Z0d{X:Cx}{c:Expr}{t:TT}(h:PT X c t):Z0m X [c] t:=λpins s σ H Q I q=>wpAny_tests_one (h pins s σ H Q I q)
theorem Z0y{M:Model}{A:Qv}{α:Type}{t:Sem α}{Q Q':α->Xg->Prop}{E:Xc->Xg->Prop}{s:Xg}(h:Xu M A t Q (λ_ _=>False) s)(hQ:∀a s,Q a s->Q' a s):Xu M A t Q' E s :=
 QG h hQ λ_ _ z=>z.elim
section
variable {X:Cx}{own:List Str}{caps:List Nat}{N':List Str}{sc:Scope}{tg elt iter:Expr}{ifs:List Expr}{pos:Pos}{wi:TI}{g:TG}{tt:TT}{te:TE}
theorem Znm{pins p':List (Addr×Obj)}{σ σ':St}{H H':Hp}{s s':Xg}{fp:List Addr}{C:Addr}{cells:List (Str×Addr)}{h':Heap}(I:Inv X pins σ H s)(f:∀b∈fp,Zhp X pins H b)
  (I':Inv (We X N' sc C cells s H fp) p' σ' H' s') (hs:Bh C s'.heap h'):Inv X pins σ H' { s' with heap:=h' }:=by
 have hC:s.heap.objs.size≤C:=I'.ok.above
 have B:=I'.base
 have ne:∀b o,s.heap.get? b=some o->b≠C:=λb o e=>XQ (X4 (Xx e) hC)
 obtain⟨m,⟨oC,_,_,hoC,_⟩,_⟩:=I'.loc
 refine I.call' (ch:=fp) (s':={ s' with heap:=h' }) I'.os ⟨λb o e n hb hx=>?_,λb o e n hb hx=>?_,B.free,λb o e hx=>?_,B.tups,B.frzs,B.tbls⟩ (λb ob e=>?_) I'.bare λb hb=>?_
 ·exact(hs.2 b (ne b o e)).trans (B.keep b o e n hb hx)
 ·obtain⟨sl,q⟩:=B.slot b o e n hb hx
  exact⟨sl,(hs.2 b (ne b o e)).trans q⟩
 ·obtain⟨o',q⟩:=B.there b o e hx
  exact⟨o',(hs.2 b (ne b o e)).trans q⟩
 ·have hfree:H' C=none:=I'.free
  refine(I'.hok b ob e).stay (λc w' hc q=>(hs.2 c ?_).trans q) (λ_ q=>q) λ_ _ q=>q
  rintro rfl
  rcases hc with rfl|hc
  ·rw[hfree]at e;cases e
  ·rw[hfree]at hc;cases hc
 ·obtain⟨_,f1,_,f3,f4,f5⟩:=f b hb
  exact⟨f3,f1,f4,f5⟩
theorem Zhv{Qf:Result->Xg->Prop}(S:CompScope X own caps N' sc)(hc:X.calm=true)
  (hg:∀C cells s₂ H₂ fp,PG (We X N' sc C cells s₂ H₂ fp) tg g) (ht:∀C cells s₂ H₂ fp,Z0m (We X N' sc C cells s₂ H₂ fp) ifs tt) (he:∀C cells s₂ H₂ fp,PE (We X N' sc C cells s₂ H₂ fp) elt te)
  {pins:List (Addr×Obj)} {σ:St} {H:Hp} {s:Xg} {fp:List Addr} {it:Addr} {tn:Nat->Heap->Prop} {J:It} {Q:Hp->Prop} (I:Inv X pins σ H s) (T:Turn X.prog X.w X.K tg J fp it tn) (st:tn 0 s.heap) (f:∀b∈fp,Zhp X pins H b)
  (h:Z18 J g tt te (Je own caps σ) s.heap.objs.size Q H)
  (fin:∀s' σ' H' p' C cells,Inv (We X N' sc C cells s H fp) p' σ' H' s'->C=s.heap.objs.size+1->Q H'->Qf (.ok .next) s') :
  Xu (X5 X.prog X.w) X.A (newFunctionEnv sc X.env.globals (Zha X.env sc.names []) [] X.env.qual none .none (some X.env)) (λcenv s₄=>
   cenv.locals=s.heap.objs.size+1∧U7 (X5 X.prog X.w) X.A (.compStart (.ListComp elt [⟨tg,iter,ifs,0⟩] sc pos) 0 (.ref it) (.ref s.heap.objs.size) { cenv with scope:=relabel sc X.env }) Qf s₄) X.xe
    { s with heap:=s.heap.push { cls:=.type "list",data:=.seq #[] } }:=by
 have hf:∀y∈sc.names,y.2= .free->∃c,X.env.cells.lookup y.1=some c:=λy hy e=>by
  obtain⟨n,k⟩:=y
  have e':k= .free:=e
  subst e'
  exact I.ok.has n (S.fr hy)
 have hcl:∀n c,(n,c)∈Zha X.env sc.names []->(n,Q4)∈sc.names∧X.env.cells.lookup n=some c:=λn c m=>(Zis sc.names [] hf n c m).elim (λz=>nomatch z) id
 have hap:=Ze8 I.ok.inj sc.names [] hf S.nn (λ_ z=>nomatch z) (λ_ z=>nomatch z) .nil
 have I0:=Zom (cl:=Zha X.env sc.names []) S I f (λb hb=>let⟨o,e,_⟩:=T.obj _ _ st b hb;⟨o,e⟩) hcl (λn m=>Zje sc.names [] n m) hap
 refine Zhb ?_
 rw[show({ s with heap:=s.heap.push { cls:=.type "list",data:=.seq #[] } }:Xg).heap.objs.size=s.heap.objs.size+1 from Qx ..]
 refine⟨rfl,?_⟩
 dsimp only
 generalize hs0:({ s with heap:=Vx ((s.heap.push { cls:=.type "list",data:=.seq #[] }).push { cls:=.type "dict",data:=.dict #[] }) sc.names }:Xg)=s0 at I0⊢
 have st0:tn 0 s0.heap:=T.keep _ _ _ st λb hb o e=>by
  rw[←hs0]
  exact pushCells_keeps _ _ _ _ (Xf _ (Xf _ e))
 generalize hcells:BP (s.heap.objs.size+1+1) sc.names (Zha X.env sc.names [])=cells at I0⊢
 -- the loop
 obtain⟨W,⟨m0,w0⟩,turn⟩:=h
 have loop:U7 (X5 X.prog X.w) X.A (.compLoop (.ListComp elt [⟨tg,iter,ifs,0⟩] sc pos) 0 (.ref it) (.ref s.heap.objs.size) (We X N' sc (s.heap.objs.size+1) cells s H fp).env) Qf s0:=by
  generalize hX':We X N' sc (s.heap.objs.size+1) cells s H fp=X' at I0⊢
  have hg':=hg (s.heap.objs.size+1) cells s H fp
  have ht':=ht (s.heap.objs.size+1) cells s H fp
  have he':=he (s.heap.objs.size+1) cells s H fp
  have fin':=λs' σ' H' p' (z:Inv (We X N' sc (s.heap.objs.size+1) cells s H fp) p' σ' H' s')=>fin s' σ' H' p' _ _ z rfl
  rw[hX']at hg' ht' he' fin'
  have hxe:X'.xe= λ_ _=>False:=by rw[←hX'];rfl
  have hpr:X'.prog=X.prog:=by rw[←hX'];rfl
  have hw:X'.w=X.w:=by rw[←hX'];rfl
  have hK:X'.K=X.K:=by rw[←hX'];rfl
  have hA:X'.A=X.A:=by rw[←hX'];rfl
  have hcm:X'.calm=true:=by rw[←hX'];exact hc
  have hex:X'.ex=fp:=by rw[←hX'];rfl
  have hpn:X'.pn=[]:=by rw[←hX'];rfl
  have stat:∀{H':Hp},(∀b∈fp,H' b=none)->∀b∈fp,Zhp X' [] H' b:=λhn b hb=>by
   have e1:=I0.ok.exf b (by rw[hex];exact hb)
   have e2:=I0.ok.exfs b (by rw[hex];exact hb)
   exact⟨hn b hb,e1.1,e2,.inl (by rw[hex];exact hb),e1.2,λp hp=>by rw[hpn]at hp;exact nomatch hp⟩
  have frD:∀b∈fp,(upd H s.heap.objs.size (.lst [])) b=none:=λb hb=>by
   obtain⟨o,e,_⟩:=T.obj _ _ st b hb
   rw[Zz (XQ (Xx e))]
   exact(f b hb).1
  have T':Turn X'.prog X'.w X'.K tg J fp it tn:=by rw[hpr,hw,hK];exact T
  rw[←hpr,←hw,←hA]
  refine Zjo (λn s'=>∃i σ' H',Inv X' [] σ' H' s'∧tn i s'.heap∧(∀b∈fp,H' b=none)∧W i n σ' H') ?_ m0 ⟨0,_,_,I0,st0,frD,w0⟩
  rintro n s3 ⟨i,σ3,H3,I3,st3,fr3,w3⟩
  rcases turn i n σ3 H3 w3 with⟨stop,qn⟩|⟨go,step⟩
  ·refine Z0y (T'.done X' rfl rfl rfl hcm i [] s3 σ3 H3 _ I3 (stat fr3) st3 stop) λr s4 qz9=>?_
   obtain⟨hr,I4⟩:=qz9
   subst hr
   exact fin' s4 σ3 H3 [] I4 qn
  ·refine Z0y (T'.item X' rfl rfl rfl hcm i [] s3 σ3 H3 _ I3 (stat fr3) st3 go) λr s4 qz9=>?_
   obtain⟨u,hr,h4⟩:=qz9
   subst hr
   refine Z0y h4 λ_ s5 qz9=>?_
   obtain⟨x,H5,I5,r5,y5,st5,fr5⟩:=qz9
   have I5':=I5.pinned (stat fr5) (T.obj _ _ st5)
   have hgg:=hg' _ s5 σ3 H5 x u _ I5' r5 (step x H5 y5)
   rw[hxe]at hgg
   refine Z0y hgg λ_ s6 qz9=>?_
   obtain⟨σ6,H6,I6,q6⟩:=qz9
   have htt:=ht' _ s6 σ6 H6 _ I6 q6
   rw[hxe]at htt
   refine Z0y htt λok s7 qz9=>?_
   obtain⟨H7,I7,q7⟩:=qz9
   have again:∀{σ7:St} {H7:Hp} {s7:Xg} {m:Nat},Inv X' ([] ++ Zhm fp s5.heap) σ7 H7 s7->W (i+1) m σ7 H7->m<n->∃m,m<n∧∃i σ' H',Inv X' [] σ' H' s7∧tn i s7.heap∧(∀b∈fp,H' b=none)∧W i m σ' H':=fun{σ7 H7 s7 m} I7 w7 hm=>by
    refine⟨m,hm,i+1,σ7,H7,I7.unpinned,T.keep _ _ _ st5 λb hb o e=>(I7.pin (b,o) (X6 _ (X6 _ (Zau hb e)))).1,λb hb=>?_,w7⟩
    obtain⟨o,e,d⟩:=T.obj _ _ st5 b hb
    exact(I7.pin (b,o) (X6 _ (X6 _ (Zau hb e)))).2.1
   cases ok with
   | false=>
    obtain⟨m',hm,w7⟩:=q7
    rw[if_neg XH]
    exact again I7 w7 hm
   | true=>
    rw[if_pos rfl]
    have hee:=he' _ s7 σ6 H7 _ I7 q7
    rw[hxe]at hee
    refine Z0y hee λy s8 qz9=>?_
    obtain⟨vy,H8,I8,r8,ys,hD,hlen,m',hm,w8⟩:=qz9
    have hap:=Zk1 (X:=X') _ s8 σ6 H8 (.ref s.heap.objs.size) [vy] (.ref s.heap.objs.size) [y] (λ_ H'=>W (i+1) m' σ6 H') I8 rfl (.cons r8 .nil) ⟨_,ys,vy,rfl,rfl,hD,hlen,w8⟩
    rw[hxe]at hap
    refine Z0y hap λz s9 qz9=>?_
    obtain⟨_,H9,I9,_,w9⟩:=qz9
    exact again I9 w9 hm
 exact codeAny_compStart_list loop (T.self _ 0 _ _ _ st0 loop)
theorem Z1y(S:CompScope X own caps N' sc)(hc:X.calm=true)(hi:PI X tg iter wi)
  (hg:∀C cells s₂ H₂ fp,PG (We X N' sc C cells s₂ H₂ fp) tg g) (ht:∀C cells s₂ H₂ fp,Z0m (We X N' sc C cells s₂ H₂ fp) ifs tt) (he:∀C cells s₂ H₂ fp,PE (We X N' sc C cells s₂ H₂ fp) elt te)
  (hs:∀x,BK iter X.env x=pure x:=by intro _;rfl):PE X (.ListComp elt [⟨tg,iter,ifs,0⟩] sc pos) (Zus own caps wi g tt te):=by
 intro pins s σ H Q I h
 rw[eval_ListComp]
 have hf:∀y∈sc.names,y.2= .free->∃c,X.env.cells.lookup y.1=some c:=λy hy e=>by
  obtain⟨n,k⟩:=y
  have e':k= .free:=e
  subst e'
  exact I.ok.has n (S.fr hy)
 refine wpAny_comprehension_free (use:=none) rfl hs (Zdb hf) S.kind (λy hy e=>by obtain⟨n,k⟩:=y;have e':k= .local:=e;subst e';exact S.lk hy) ?_
 refine thn (hi pins s σ H _ I h) λv s1 h1=>thn h1 λitv s2 h2=>?_
 obtain⟨it,fp,tn,J,H2,e,I2,T,st2,f2,q⟩:=h2
 subst e
 refine JD ?_
 refine thn (Zhv (iter:=iter) (pos:=pos) (Qf:=compPost (X5 X.prog X.w) X.A X.xe none (EP X pins σ Q) (.ref s2.heap.objs.size) (s2.heap.objs.size+1)) S hc hg ht he I2 T st2 f2 (q s2.heap.objs.size I2.fresh) ?_) λcenv s4 ⟨hl,hr⟩=>?_
 ·intro s' σ' H' p' C cells I' eC q'
  subst eC
  obtain⟨m,hn,_⟩:=id I'.loc
  exact⟨m,hn,λh' hs'=>⟨.ref s2.heap.objs.size,H',Znm I2 f2 I' hs',rfl,q'⟩⟩
 ·rw[←hl]at hr
  exact hr
end
section
variable {X:Cx}{own:List Str}{caps:List Nat}{N':List Str}{sc:Scope}{tg elt iter:Expr}{ifs:List Expr}{pos:Pos}{wi:TI}{g:TG}{tt:TT}{te:TE}
theorem Zh2{i:Nat}{y:Str}{py spos:Pos}(hN:X.N.Nodup)(hy:X.N[i]? =some y)(hx:Loc X.env.scope y)(S:CompScope X own caps N' sc)(hc:X.calm=true)(hi:PI X tg iter wi)
  (hg:∀C cells s₂ H₂ fp,PG (We X N' sc C cells s₂ H₂ fp) tg g) (ht:∀C cells s₂ H₂ fp,Z0m (We X N' sc C cells s₂ H₂ fp) ifs tt) (he:∀C cells s₂ H₂ fp,PE (We X N' sc C cells s₂ H₂ fp) elt te)
  (hsw:VP (.ListComp elt [⟨tg,iter,ifs,0⟩] sc pos) (some (.Name y py)) spos.line X.env=pure true:=by rfl)
  (hs:∀x,BK iter X.env x=pure x:=by intro _;rfl) (hf:X.fn y=true∨X.env.scope.names.lookup y=some .local:=by first|exact .inl rfl|exact .inr rfl|assumption) :
  PS X (.Assign [.Name y py] (.ListComp elt [⟨tg,iter,ifs,0⟩] sc pos) spos) (Z2m (Zus own caps wi g tt te) (Zpc i)):=by
 intro pins s σ H D I h
 have hfr:∀y∈sc.names,y.2= .free->∃c,X.env.cells.lookup y.1=some c:=λy hy e=>by
  obtain⟨n,k⟩:=y
  have e':k= .free:=e
  subst e'
  exact I.ok.has n (S.fr hy)
 rw[exec_Assign_Name_used _ _ _ _ hsw]
 refine Xb (wpAny_standAt (Xb ?_))
 show Xu _ X.A (do let _←comprehension (.ListComp elt [⟨tg,iter,ifs,0⟩] sc pos) sc X.env _ (newList []) false (eval iter X.env) (some (U9 (.Name y py) X.env))) _ _ s
 refine Xb (QG (wpAny_comprehension_free (use:=some (U9 (.Name y py) X.env)) (Q:=λ_ s'=>SP X pins D .next s') rfl hs (Zdb hfr) S.kind (λy hy e=>by obtain⟨n,k⟩:=y;have e':k= .local:=e;subst e';exact S.lk hy) ?_) (λ_ s' hq=>Xi (Xi hq)) λ_ _ e=>e)
 refine thn (hi pins s σ H _ I h) λv s1 h1=>thn h1 λitv s2 h2=>?_
 obtain⟨it,fp,tn,J,H2,e,I2,T,st2,f2,q⟩:=h2
 subst e
 refine JD ?_
 refine thn (Zhv (iter:=iter) (pos:=pos) (Qf:=compPost (X5 X.prog X.w) X.A X.xe (some (U9 (.Name y py) X.env)) (λ_ s'=>SP X pins D .next s') (.ref s2.heap.objs.size) (s2.heap.objs.size+1)) S hc hg ht he I2 T st2 f2 (q s2.heap.objs.size I2.fresh) ?_) λcenv s4 ⟨hl,hr⟩=>?_
 ·intro s' σ' H' p' C cells I' eC q'
  subst eC
  obtain⟨m,hn,_⟩:=id I'.loc
  have I3:Inv X pins σ H' s':=Znm I2 f2 I' (.refl ..)
  show Xu _ X.A (U9 (.Name y py) X.env (.ref s2.heap.objs.size)) _ _ s'
  refine wpAny_assign_Name (Zjv (v:=.ref s2.heap.objs.size) I3 hN hy hx rfl (λs5 I5 hsb=>?_) hf)
  have hC:s2.heap.objs.size<s2.heap.objs.size+1:=Qz _
  have ltL:X.env.locals<s2.heap.objs.size:=I2.lt
  have ltC:∀x c,X.env.cells.lookup x=some c->c<s2.heap.objs.size:=λx c e=>by
   obtain⟨w',z⟩:=I2.cell x c e
   exact z.lt
  refine⟨m,?_,λh' hs'=>⟨σ.set i (some (.ref s2.heap.objs.size)),H',?_,q'⟩⟩
  ·obtain⟨a,hsa,ha⟩:=hsb
   refine hn.sameBut hsa ?_
   rcases ha with ha|ha
   ·rw[ha];exact Q3 (VR ltL hC)
   ·exact Q3 (VR (ltC _ _ ha) hC)
  ·refine I5.turned (t':=s5.toks) (it:=s2.heap.objs.size+1) (λb o hb e=>(hs'.2 b hb).trans e) I'.free (Q3 (VR ltL hC)) (.inr (Xz I2.sz (VD hC))) (λx c e=>XQ (VR (ltC x c e) hC)) λp hp=>?_
   obtain⟨e,_⟩:=I2.pin p hp
   exact XQ (VR (Xx e) hC)
 ·rw[←hl]at hr
  exact hr
end
section
variable (n:Nat)(D:Addr)(Pv:Nat->List V->St->Hp->Prop)
variable {n D Pv}
end
mutual
inductive Is(H:Hp)(L:Addr->Prop):V->Xa->Prop where
 | non:Is H L .non .none
 | bl (b:Bool):Is H L (.bl b) (.bool b)
 | int (i:Int):Is H L (.int i) (.int i)
 | str (x:Str):Is H L (.str x) (.str x)
 | lst {a:Addr} {xs:List V} {ds:List Xa}:L a->H a=some (.lst xs)->IsAll H L xs ds->Is H L (.ref a) (.list ds)
 | tup {a:Addr} {xs:List V} {ds:List Xa}:H a=some (.tup xs)->IsAll H L xs ds->Is H L (.ref a) (.tuple ds)
inductive IsAll(H:Hp)(L:Addr->Prop):List V->List Xa->Prop where
 | nil:IsAll H L [] []
 | cons {x:V} {xs:List V} {d:Xa} {ds:List Xa}:Is H L x d->IsAll H L xs ds->IsAll H L (x :: xs) (d :: ds)
end
section
variable {H H':Hp}{L L':Addr->Prop}
theorem IsAll.ind{Q:List V->List Xa->Prop}(n:Q [] [])(c:∀{x:V} {xs:List V} {d:Xa} {ds:List Xa},Is H L x d->IsAll H L xs ds->Q xs ds->Q (x :: xs) (d :: ds)):∀{xs ds},IsAll H L xs ds->Q xs ds:=λh=>
 IsAll.rec (motive_1:=λ_ _ _=>True) (motive_2:=λxs ds _=>Q xs ds) trivial (λ_=>trivial) (λ_=>trivial) (λ_=>trivial) (λ_ _ _ _=>trivial) (λ_ _ _=>trivial) n (λp q _ r=>c p q r) h
theorem IsAll.length{xs:List V}{ds:List Xa}(h:IsAll H L xs ds):xs.length=ds.length:=IsAll.ind (Q:=λxs ds=>xs.length=ds.length) rfl (λ_ _ r=>congrArg (·+1) r) h
theorem IsAll.set{xs:List V}{ds:List Xa}{x:V}{d:Xa}(i:Nat)(h:IsAll H L xs ds)(k:Is H L x d):IsAll H L (xs.set i x) (ds.set i d) :=
 IsAll.ind (Q:=λxs ds=>∀i,IsAll H L (xs.set i x) (ds.set i d)) (λ_=>.nil) (λh q r i=>Nat.casesOn i (.cons k q) λi=>.cons h (r i)) h i
end
section
variable {X:Cx}{pins:List (Addr×Obj)}{σ:St}{H:Hp}{s:Xg}{L L':Addr->Prop}
end
noncomputable abbrev Shp(d:Xa):Prop:=BX d=true
section
variable {X:Cx}
end
mutual
noncomputable def Yu:Xa->Bool
 | .none=>true
 | .int _=>true
 | .str _=>true
 | .list ds=>Zds ds
 | .tuple ds=>Zds ds
 | _=>false
noncomputable def Zds:List Xa->Bool
 | []=>true
 | d :: ds=>Yu d&&Zds ds
end
mutual
theorem Zlr:∀(d e:Xa),Yu d=true->Yu e=true->(QR d e=true↔d=e)
 | .none,e,_,he=>by cases e<;>simp_all [QR,Yu]
 | .int i,e,_,he=>by cases e<;>simp_all [QR,Yu]
 | .str i,e,_,he=>by cases e<;>simp_all [QR,Yu]
 | .list ds,e,hd,he=>by
  cases e with
  | list es=>
   rw[Yu]at hd he
   rw[QR,Bd.injEq]
   exact Zek ds es hd he
  | _=>simp_all [QR,Yu]
 | .tuple ds,e,hd,he=>by
  cases e with
  | tuple es=>
   rw[Yu]at hd he
   rw[QR,PyData.tuple.injEq]
   exact Zek ds es hd he
  | _=>simp_all [QR,Yu]
 | .bool b,e,hd,_=>by simp[Yu]at hd
 | .dict b,e,hd,_=>by simp[Yu]at hd
theorem Zek:∀(ds es:List Xa),Zds ds=true->Zds es=true->(PyData.eqvAll ds es=true↔ds=es)
 | [],[],_,_=>by simp[PyData.eqvAll]
 | [],_ :: _,_,_=>by simp[PyData.eqvAll]
 | _ :: _,[],_,_=>by simp[PyData.eqvAll]
 | d :: ds,e :: es,hd,he=>by
  rw[Zds,XM]at hd he
  rw[PyData.eqvAll,XM,Zlr d e hd.1 he.1,Zek ds es hd.2 he.2,List.cons.injEq]
end
theorem Zxx{d e:Xa}(h:Yu d=true)(k:Yu e=true)(q:d=e):QR d e=true:=(Zlr d e h k).mpr q
theorem Zxc{d e:Xa}(h:Yu d=true)(k:Yu e=true)(q:d≠e):QR d e=false:=Vz.mpr λz=>q ((Zlr d e h k).mp z)
noncomputable def fr(a b:Int):Xa:=.tuple [.int a,.int b]
theorem Zd8{t b:Int}(hb:b≠0):0<(By t b:Int):=by
 have:=Int.gcd_pos_of_ne_zero_right t hb
 omega
theorem J0{t g:Int}(hg:0<g):t.fdiv g=t/g:=Int.fdiv_eq_ediv_of_nonneg t (by omega)
theorem Zcq{t g:Int}(hg:0<g)(h:g∣t):t.fdiv (-g)= -(t/g):=by
 obtain⟨k,rfl⟩:=h
 rw[Int.mul_ediv_cancel_left _ (by omega)]
 have e:g*k=(-k)*(-g):=by rw[Int.neg_mul_neg,Int.mul_comm]
 rw[e,Int.mul_fdiv_cancel _ (by omega)]
noncomputable def shr(t b:Int):Int:=if b<0 then -(By t b:Int)else(By t b:Int)
theorem Z04{t b:Int}(hb:b≠0):t.fdiv (shr t b)=(Vi t b).num:=by
 have hg:=Zd8 (t:=t) hb
 have hd:(By t b:Int)∣t:=Int.gcd_dvd_left ..
 rw[Rat.num_divInt,Int.gcd_comm b t]
 unfold shr
 by_cases h:b<0
 ·rw[if_pos h,Zcq hg hd,Int.sign_eq_neg_one_of_neg h,Int.neg_one_mul,Int.neg_ediv_of_dvd hd]
 ·rw[if_neg h,J0 hg,Int.sign_eq_one_of_pos (by omega),Int.one_mul]
theorem Z12{t b:Int}(hb:b≠0):b.fdiv (shr t b)=((Vi t b).den:Int):=by
 have hg:=Zd8 (t:=t) hb
 have hd:(By t b:Int)∣b:=Int.gcd_dvd_right ..
 rw[Rat.den_divInt,if_neg hb,Int.gcd_comm b t]
 unfold shr
 by_cases h:b<0
 ·have e:(b.natAbs:Int)= -b:=by omega
  rw[if_pos h,Zcq hg hd,Int.natCast_ediv,e,Int.neg_ediv_of_dvd hd]
 ·have e:(b.natAbs:Int)=b:=by omega
  rw[if_neg h,J0 hg,Int.natCast_ediv,e]
theorem Zxk{t b:Int}(hb:b≠0):shr t b≠0:=by
 have hg:=Zd8 (t:=t) hb
 unfold shr
 split<;>omega
theorem Zxi{n:Nat}{t b:Int}(hb:b≠0)(h:Bt n b):Bt n (shr t b):=by
 have h1:Bt n (By t b:Int):=by
  refine Bt.of_le h ?_
  have:=Int.gcd_le_natAbs_right t hb
  omega
 unfold shr
 split
 ·exact h1.neg
 ·exact h1
theorem Zw8{n:Nat}{t b:Int}(hb:b≠0)(h:Bt n t):Bt n (Vi t b).num:=by
 rw[Rat.num_divInt]
 refine Bt.of_le h ?_
 refine Xz (Ug _ _) ?_
 rw[Int.natAbs_mul]
 have:b.sign.natAbs≤1:=by
  rw[Int.natAbs_sign]
  split<;>omega
 calc b.sign.natAbs*t.natAbs≤1*t.natAbs:=Nat.mul_le_mul_right _ this
  _=t.natAbs:=Nat.one_mul _
theorem Zqg(q:Rat):(q.den:Int)≠0:=by
 have:=q.den_pos
 omega
theorem Zea(q:Rat):(0:Int)<(q.den:Int):=by
 have:=q.den_pos
 omega
theorem Zwj(q r:Rat):Vi (q.num*(r.den:Int)+r.num*(q.den:Int)) ((q.den:Int)*(r.den:Int))=q+r:=by
 rw[Rat.add_def',←Int.natCast_mul,Rat.divInt_ofNat]
noncomputable def frD(q:Rat):Xa:=fr q.num (q.den:Int)
noncomputable def BQ(n:Nat)(q:Rat):Prop:=Bt n q.num∧Bt n (q.den:Int)
theorem BQ.zero:BQ 1 0:=⟨by unfold Bt;decide,by unfold Bt;decide⟩
section
variable {X:Cx}{K:Xd}{a b o e:Expr}{ta tb tl to:TE}{pos:Pos}
theorem Zur(hK:X.K=K):IxR X (Z9f K):=hK▸Zst
theorem Z1o(hK:X.K=K):IxR X (rIx K):=hK▸Z20
theorem Zvv(hK:X.K=K):SlR X (Ydb K):=hK▸Zzi
noncomputable def Ybi(K:Xd):List V->Hp->VK->Prop:=λxs H Q=>∃p ys,xs=[.ref p]∧(SqL K H p ys∨SqT K H p ys)∧Q (.int ys.length) H
theorem Zpv(hK:X.K=K):Zbt X (.builtin "len") (Ybi K):=by subst hK;exact Zkx
noncomputable def Zqh(K:Xd):List V->Hp->VK->Prop:=λxs H Q=>∃p ys,xs=[.ref p]∧(SqL K H p ys∨SqT K H p ys)∧∀l,H l=none->Q (.ref l) (upd H l (.lst ys))
theorem Zoi(hK:X.K=K):Zbt X (.type "list") (Zqh K):=by subst hK;exact Zk0
noncomputable def Yd6(K:Xd)(ta:TE):TT:=λσ H Q=>ta σ H λx H'=>∃k,Z9p K x H' k∧Q k H'
theorem Z0i(hK:X.K=K)(ha:PE X a ta)(he:∀whole,isTrue a X.env whole=(do let v←whole;standAt a.pos;holding [v] (truthy v))):PT X a (Yd6 K ta):=by subst hK;exact Zuc ha he
theorem Zuy{tg l:Expr}(hK:X.K=K)(hl:PE X l tl):PI X tg l (Z34 K tl):=by subst hK;exact Zze hl
theorem Znf(hK:X.K=K):OpR X (JK .In) (rIn K false):=by subst hK;exact Zs0
theorem Zj1(hK:X.K=K):OpR X (JK .NotIn) (rIn K true):=by subst hK;exact Zkk
end
theorem Z5{H:Hp}{p:Addr}(h:H p=none)(o:HO):Same H (upd H p o):=λb u q=>by rw[Zz (Y5 q h)];exact q
noncomputable def But(p:Addr)(H H':Hp):Prop:=∀b o,b≠p->H b=some o->H' b=some o
theorem But.upd(p:Addr)(H:Hp)(o:HO):But p H (upd H p o):=λb u n e=>by rw[Zz n];exact e
noncomputable def Pl(H:Hp)(p:Addr)(n:Nat):Prop:=∃a b c:Int,H p=some (.lst [.int a,.int b,.int c])∧0≤c∧c≤n
theorem Pl.at{H:Hp}{p:Addr}{n:Nat}(h:Pl H p n):∃xs,H p=some (.lst xs):=by
 obtain⟨a,b,c,e,h1,h2⟩:=h
 exact⟨_,e⟩
namespace B
theorem boot_abs:X8 "abs"=some (.builtin "abs"):=by decide +kernel
theorem boot_len:X8 "len"=some (.builtin "len"):=by decide +kernel
theorem boot_max:X8 "max"=some (.builtin "max"):=by decide +kernel
theorem boot_min:X8 "min"=some (.builtin "min"):=by decide +kernel
theorem boot_isinstance:X8 "isinstance"=some (.builtin "isinstance"):=by decide +kernel
theorem boot_sum:X8 "sum"=some (.builtin "sum"):=by decide +kernel
theorem boot_sorted:X8 "sorted"=some (.builtin "sorted"):=by decide +kernel
theorem boot_int:X8 "int"=some (.type "int"):=by decide +kernel
theorem boot_bool:X8 "bool"=some (.type "bool"):=by decide +kernel
theorem boot_list:X8 "list"=some (.type "list"):=by decide +kernel
theorem boot_range:X8 "range"=some (.type "range"):=by decide +kernel
theorem boot_zip:X8 "zip"=some (.type "zip"):=by decide +kernel
theorem boot_enumerate:X8 "enumerate"=some (.type "enumerate"):=by decide +kernel
theorem boot_set:X8 "set"=some (.type "set"):=by decide +kernel
end B
theorem Zf4{a b:Int}(hb:0<b):a.fmod b=a%b:=Int.fmod_eq_emod_of_nonneg a (by omega)
theorem Zva{x y:Int}(hx:0≤x)(hy:0<y):By y (x.fmod y)=By x y:=by
 rw[Zf4 hy,Int.gcd_comm x y]
 have e:=Int.emod_add_mul_ediv x y
 conv=>rhs;rw[←e]
 rw[Int.gcd_add_mul_left_right]
theorem Zxl:(2:Nat)≤Xr:=by decide
theorem bt9{x:Int}(h:x.natAbs<2^200):Bt 9000 x:=Bt.mono (m:=200) h (by decide)
theorem Zuv(q:Rat):Vi q.num (q.den:Int)=q:=Rat.num_divInt_den q
theorem BQ.n{n:Nat}{q:Rat}(h:BQ n q):Bt n q.num:=h.1
theorem BQ.d{n:Nat}{q:Rat}(h:BQ n q):Bt n (q.den:Int):=h.2
theorem Yed(q:Rat):(((q.den:Int)):Rat)≠0:=by
 intro z
 exact Zqg q (Rat.intCast_eq_zero_iff.mp z)
theorem Ye5(q:Rat):((q.num:Int):Rat)=q*(((q.den:Int)):Rat):=by
 have h:=Zuv q
 rw[Rat.divInt_eq_div]at h
 have d:=Yed q
 conv=>rhs;lhs;rw[←h]
 grind
variable {G:Xd}
noncomputable def KS(G:Xd)(a:Addr)(ns:List Int):Prop:=∃(o:Obj) (its:Array Xc) (n:Nat),G.lookup a=some o∧o.cls= .type "list"∧o.dict=none∧o.data= .seq its n∧its.size≤Xr∧Vals (ns.map V.int) its.toList
theorem KS.sq{G:Xd}{H:Hp}{a:Addr}{ns:List Int}(h:KS G a ns):SqL G H a (ns.map V.int):=.inr h
noncomputable def exD(x:Str):Xa:=.dict [(.str x,.none)]
noncomputable def fnD(x:Str):Xa:=.dict [(.str x,.bool true)]
noncomputable def Zkv:Xa->Bool| .dict ((_,.bool _) :: _)=>true|_=>false
noncomputable def ClsAt(G:Xd)(x:Str)(C:Addr):Prop:=XN G XD x=some (some (.ref C))
structure Zik(G:Xd)(C:Addr):Prop where
 ga:Qq G (.ref C) "__getattribute__"=some (some (.builtin "BaseException.__getattribute__"))
 gt:Qq G (.ref C) "__getattr__"=some none
 cl:Qq G (.ref C) "__class__"=some (some (.builtin "object.__class__"))
 isB:JS G (.ref C) (.type "BaseException")=some true
 isO:JS G (.ref C) (.type "object")=some true
 isC:(PySem.W.clsIn G C).isSome=true
 k1:XR G (.ref C) (.type "int")=some false
 k2:XR G (.ref C) (.type "bool")=some false
 k3:XR G (.ref C) (.type "str")=some false
 k4:XR G (.ref C) (.type "list")=some false
 k5:XR G (.ref C) (.type "tuple")=some false
noncomputable def ExO(C a:Addr)(h:Heap):Prop:=∃o vs,h.get? a=some o∧o.cls= .ref C∧o.data= .fields vs
inductive ImO where
 | tup (xs:List V)
 | ext (φ:Heap->Prop)
noncomputable def ImO.ho:ImO->HO
 | .tup xs=>.tup xs
 | .ext φ=>.ext φ
inductive MuO where
 | lst (xs:List V)
 | dK (kvs:List (Key×V))
 | dT (kvs:List (List Key×V))
noncomputable def MuO.ho:MuO->HO
 | .lst xs=>.lst xs
 | .dK kvs=>.dK kvs
 | .dT kvs=>.dT kvs
noncomputable def Ycg:Key->Xa
 | .inl i=>.int i
 | .inr x=>.str x
noncomputable def Ye7(ks:List Key):Xa:=.tuple (ks.map Ycg)
noncomputable abbrev KY:=Sum Key (List Key)
noncomputable def kyD:KY->Xa
 | .inl k=>Ycg k
 | .inr ks=>Ye7 ks
noncomputable def MuO.dic(t:Bool)(ks:List KY)(xs:List V):MuO->Prop
 | .lst _=>False
 | .dK kvs=>t=false∧ks=kvs.map (λp=>.inl p.1)∧xs=kvs.map (·.2)
 | .dT kvs=>t=true∧ks=kvs.map (λp=>.inr p.1)∧xs=kvs.map (·.2)
noncomputable def dcD(t:Bool)(ks:List KY)(ds:List Xa):Xa:=.dict ((.none,.bool t) :: (ks.map kyD).zip ds)
theorem ImO.nm{H:Hp}{a:Addr}{x:ImO}{y:MuO}(h:H a=some x.ho)(h':H a=some y.ho):False:=by
 rw[h]at h'
 cases x<;>cases y<;>cases h'
theorem ImO.nl{H:Hp}{a:Addr}{x:ImO}{ys:List V}(h:H a=some x.ho)(h':H a=some (.lst ys)):False:=by
 rw[h]at h'
 cases x<;>cases h'
mutual
inductive Da(G:Xd)(H:Hp)(L:Addr->Prop):V->Xa->Prop where
 | non:Da G H L .non .none
 | bl (b:Bool):Da G H L (.bl b) (.bool b)
 | int (i:Int):Da G H L (.int i) (.int i)
 | str (x:Str):Da G H L (.str x) (.str x)
 | lst {a:Addr} {xs:List V} {ds:List Xa}:L a->Rd H a (.lst xs)->Das G H L xs ds->Da G H L (.ref a) (.list ds)
 | tup {a:Addr} {xs:List V} {ds:List Xa}:H a=some (.tup xs)->Das G H L xs ds->Da G H L (.ref a) (.tuple ds)
 | scr {a:Addr} {ns:List Int}:KS G a ns->Da G H L (.ref a) (.list (ns.map Xm))
 | exc {a C:Addr} {x:Str}:Zik G C->ClsAt G x C->H a=some (.ext (ExO C a))->Da G H L (.ref a) (exD x)
 | fn {a:Addr} {x:Str}:ClsAt G x a->Da G H L (.ref a) (fnD x)
 | dic {a:Addr} {o:MuO} {t:Bool} {ks:List KY} {xs:List V} {ds:List Xa}:L a->Rd H a o.ho->o.dic t ks xs->Das G H L xs ds->Da G H L (.ref a) (dcD t ks ds)
inductive Das(G:Xd)(H:Hp)(L:Addr->Prop):List V->List Xa->Prop where
 | nil:Das G H L [] []
 | cons {x:V} {xs:List V} {d:Xa} {ds:List Xa}:Da G H L x d->Das G H L xs ds->Das G H L (x :: xs) (d :: ds)
end
section
variable {H H':Hp}{L L':Addr->Prop}
theorem Da.both{P:V->Xa->Prop}{Q:List V->List Xa->Prop}(c1:P .non .none)(c2:∀b,P (.bl b) (.bool b))(c3:∀i,P (.int i) (.int i))(c4:∀x,P (.str x) (.str x))
  (c5:∀{a:Addr} {xs:List V} {ds:List Xa},L a->Rd H a (.lst xs)->Q xs ds->P (.ref a) (.list ds)) (c6:∀{a:Addr} {xs:List V} {ds:List Xa},H a=some (.tup xs)->Q xs ds->P (.ref a) (.tuple ds))
  (c7:∀{a:Addr} {ns:List Int},KS G a ns->P (.ref a) (.list (ns.map Xm))) (c8:∀{a C:Addr} {x:Str},Zik G C->ClsAt G x C->H a=some (.ext (ExO C a))->P (.ref a) (exD x)) (c9:∀{a:Addr} {x:Str},ClsAt G x a->P (.ref a) (fnD x))
  (c10:∀{a:Addr} {o:MuO} {t:Bool} {ks:List KY} {xs:List V} {ds:List Xa},L a->Rd H a o.ho->o.dic t ks xs->Q xs ds->P (.ref a) (dcD t ks ds)) (n:Q [] []) (c:∀{x:V} {xs:List V} {d:Xa} {ds:List Xa},P x d->Q xs ds->Q (x :: xs) (d :: ds)):(∀{v d},Da G H L v d->P v d)∧∀{xs ds},Das G H L xs ds->Q xs ds :=
 ⟨λh=>Da.rec (motive_1:=λv d _=>P v d) (motive_2:=λxs ds _=>Q xs ds) c1 c2 c3 c4 (λp e _ r=>c5 p e r) (λe _ r=>c6 e r) (λk=>c7 k) (λk l m=>c8 k l m) (λk=>c9 k) (λp e k _ r=>c10 p e k r) n (λ_ _ p q=>c p q) h,
   λh=>Das.rec (motive_1:=λv d _=>P v d) (motive_2:=λxs ds _=>Q xs ds) c1 c2 c3 c4 (λp e _ r=>c5 p e r) (λe _ r=>c6 e r) (λk=>c7 k) (λk l m=>c8 k l m) (λk=>c9 k) (λp e k _ r=>c10 p e k r) n (λ_ _ p q=>c p q) h⟩
theorem Das.ind{Q:List V->List Xa->Prop}(n:Q [] [])(c:∀{x:V} {xs:List V} {d:Xa} {ds:List Xa},Da G H L x d->Das G H L xs ds->Q xs ds->Q (x :: xs) (d :: ds)):∀{xs ds},Das G H L xs ds->Q xs ds:=λh=>
 Das.rec (motive_1:=λ_ _ _=>True) (motive_2:=λxs ds _=>Q xs ds) trivial (λ_=>trivial) (λ_=>trivial) (λ_=>trivial) (λ_ _ _ _=>trivial) (λ_ _ _=>trivial) (λ_=>trivial) (λ_ _ _=>trivial) (λ_=>trivial) (λ_ _ _ _ _=>trivial) n (λp q _ r=>c p q r) h
theorem Da.frame2(hl:∀a (xs:MuO),L a->Rd H a xs.ho->L' a∧Rd H' a xs.ho)(ht:∀a (xs:ImO),H a=some xs.ho->H' a=some xs.ho):(∀{v:V} {d:Xa},Da G H L v d->Da G H' L' v d)∧∀{xs:List V} {ds:List Xa},Das G H L xs ds->Das G H' L' xs ds :=
 Da.both .non .bl .int .str (fun{_ xs _} p e r=>.lst (hl _ (.lst xs) p e).1 (hl _ (.lst xs) p e).2 r) (fun{_ xs _} e r=>.tup (ht _ (.tup xs) e) r) .scr (λc n e=>.exc c n (ht _ (.ext _) e)) .fn (λp e k r=>.dic (hl _ _ p e).1 (hl _ _ p e).2 k r) .nil .cons
theorem Da.frame(hl:∀a (xs:MuO),L a->Rd H a xs.ho->L' a∧Rd H' a xs.ho)(ht:∀a (xs:ImO),H a=some xs.ho->H' a=some xs.ho){v:V}{d:Xa}(h:Da G H L v d):Da G H' L' v d:=(Da.frame2 hl ht).1 h
theorem Das.frame(hl:∀a (xs:MuO),L a->Rd H a xs.ho->L' a∧Rd H' a xs.ho)(ht:∀a (xs:ImO),H a=some xs.ho->H' a=some xs.ho){xs:List V}{ds:List Xa}(h:Das G H L xs ds):Das G H' L' xs ds:=(Da.frame2 hl ht).2 h
theorem Rd.same{a:Addr}{u:HO}(s:Same H H')(h:Rd H a u):Rd H' a u:=h.imp (s _ _) λ⟨o,h⟩=>⟨o,s _ _ h⟩
theorem Rd.some{a:Addr}{u:HO}(h:Rd H a u):H a≠Option.none:=by
 rcases h with h|⟨o,h⟩<;>rw[h]<;>intro z<;>cases z
theorem Da.same(h:Same H H'){v:V}{d:Xa}(x:Da G H L v d):Da G H' L v d:=x.frame (λa xs p e=>⟨p,e.same h⟩) λa xs e=>h _ _ e
theorem Das.same(h:Same H H'){v:List V}{d:List Xa}(x:Das G H L v d):Das G H' L v d:=x.frame (λa xs p e=>⟨p,e.same h⟩) λa xs e=>h _ _ e
theorem Da.wide(h:∀a,L a->H a≠none->L' a){v:V}{d:Xa}(x:Da G H L v d):Da G H L' v d:=x.frame (λa xs p e=>⟨h a p e.some,e⟩) λa xs e=>e
theorem Das.wide(h:∀a,L a->H a≠none->L' a){v:List V}{d:List Xa}(x:Das G H L v d):Das G H L' v d:=x.frame (λa xs p e=>⟨h a p e.some,e⟩) λa xs e=>e
theorem Das.length{xs:List V}{ds:List Xa}(h:Das G H L xs ds):xs.length=ds.length:=Das.ind (Q:=λxs ds=>xs.length=ds.length) rfl (λ_ _ r=>congrArg (·+1) r) h
theorem Das.append{xs ys:List V}{ds es:List Xa}(h:Das G H L xs ds)(k:Das G H L ys es):Das G H L (xs ++ ys) (ds ++ es):=Das.ind (Q:=λxs ds=>Das G H L (xs ++ ys) (ds ++ es)) k (λh _ r=>.cons h r) h
theorem Das.get{xs:List V}{ds:List Xa}{i:Nat}{d:Xa}(h:Das G H L xs ds):ds[i]? =some d->∃x,xs[i]? =some x∧Da G H L x d :=
 Das.ind (Q:=λxs ds=>∀i,ds[i]? =some d->∃x,xs[i]? =some x∧Da G H L x d) (λ_ e=>(Option.some_ne_none _ (e.symm.trans List.getElem?_nil)).elim) (fun{x _ _ _} h _ r i=>Nat.casesOn i (λe=>⟨x,rfl,QQ e▸h⟩) λi e=>r i e) h i
theorem Das.get'{xs:List V}{ds:List Xa}{i:Nat}{x:V}(h:Das G H L xs ds):xs[i]? =some x->∃d,ds[i]? =some d∧Da G H L x d :=
 Das.ind (Q:=λxs ds=>∀i,xs[i]? =some x->∃d,ds[i]? =some d∧Da G H L x d) (λ_ e=>(Option.some_ne_none _ (e.symm.trans List.getElem?_nil)).elim) (fun{_ _ d _} h _ r i=>Nat.casesOn i (λe=>⟨d,rfl,QQ e▸h⟩) λi e=>r i e) h i
theorem Das.take{xs:List V}{ds:List Xa}(n:Nat)(h:Das G H L xs ds):Das G H L (xs.take n) (ds.take n) :=
 Das.ind (Q:=λxs ds=>∀n,Das G H L (xs.take n) (ds.take n)) (λn=>by rw[List.take_nil,List.take_nil];exact .nil) (λh _ r n=>Nat.casesOn n .nil λn=>.cons h (r n)) h n
theorem Das.drop{xs:List V}{ds:List Xa}(n:Nat)(h:Das G H L xs ds):Das G H L (xs.drop n) (ds.drop n) :=
 Das.ind (Q:=λxs ds=>∀n,Das G H L (xs.drop n) (ds.drop n)) (λn=>by rw[List.drop_nil,List.drop_nil];exact .nil) (λh q r n=>Nat.casesOn n (.cons h q) λn=>r n) h n
theorem Das.ints(ns:List Int):Das G H L (ns.map V.int) (ns.map Xm):=by
 induction ns with
 | nil=>exact .nil
 | cons n ns ih=>exact .cons (.int n) ih
theorem Das.int_inv{xs:List V}{ns:List Int}(h:Das G H L xs (ns.map Xm)):xs=ns.map V.int:=by
 induction ns generalizing xs with
 | nil=>cases h;rfl
 | cons n ns ih=>
  rw[Qu]at h
  cases h with
  | cons h r=>cases h;rw[ih r];rfl
end
theorem Zo7{h:Heap}(ns:List Int){us:List Xc}(v:Vals (ns.map V.int) us):∃as,ReadsAll h us (ns.map Xm) as:=by
 induction ns generalizing us with
 | nil=>cases v;exact⟨_,.nil⟩
 | cons n ns ih=>
  rw[Qu]at v
  cases v with
  | cons r rs=>
   obtain⟨t,e⟩:=(show∃t,_=Vy n t from r)
   subst e
   obtain⟨bs,k'⟩:=ih rs
   exact⟨_,.cons (.int n t) k'⟩
section
variable {X:Cx}{pins:List (Addr×Obj)}{σ:St}{H:Hp}{s:Xg}{L L':Addr->Prop}
theorem Da.reads2(hG:X.K=G)(I:Inv X pins σ H s):(∀{v:V} {d:Xa},Da G H L v d->∀u,RelV v u->d.canLay0=true->∃as,Reads s.heap u d as)∧∀{xs:List V} {ds:List Xa},Das G H L xs ds->∀us,Vals xs us->Bq ds=true->∃as,ReadsAll s.heap us ds as:=by
 refine Da.both ?_ ?_ ?_ ?_ ?_ ?_ ?_ ?_ ?_ ?_ ?_ ?_
 ·intro u r _
  cases(show _=QD from r)
  exact⟨_,.none⟩
 ·intro b u r _
  cases(show _=Value.bool b from r)
  exact⟨_,.bool b⟩
 ·intro i u r _
  obtain⟨t,e⟩:=(show∃t,_=Vy i t from r)
  subst e
  exact⟨_,.int i t⟩
 ·intro x u r _
  obtain⟨t,e⟩:=(show∃t,_=Value.str x t from r)
  subst e
  exact⟨_,.str x t⟩
 ·intro a xs ds _ e q u r hcl
  cases(show _=XX a from r)
  obtain⟨_,its,n,vs,h1⟩:=(show ObjOk X.prog X.w H s.heap a (.lst xs)from e.ok I.hok)
  rw[Vq]at hcl
  obtain⟨as,k⟩:=q _ vs hcl
  exact⟨_,Reads.list h1 rfl rfl k⟩
 ·intro a xs ds e q u r hcl
  cases(show _=XX a from r)
  obtain⟨_,its,vs,o,ho,hc,n,hd⟩:=(show ObjOk X.prog X.w H s.heap a (.tup xs)from I.hok a _ e)
  rw[Vq]at hcl
  obtain⟨as,k⟩:=q _ vs hcl
  exact⟨_,Reads.tuple ho hc hd k⟩
 ·intro a ns k u r _
  cases(show _=XX a from r)
  subst hG
  obtain⟨its,vs,⟨o,n,ho,hc,hd,hs⟩,_⟩:=I.list (k.sq (H:=H))
  obtain⟨as,q⟩:=Zo7 ns vs
  exact⟨_,Reads.list ho hc hs q⟩
 ·intro a C x _ _ e u r hc
  rw[exD,Vq]at hc
  cases hc
 ·intro a x _ u r hc
  rw[fnD,Vq]at hc
  cases hc
 ·intro a o t ks xs ds _ _ _ _ u r hc
  rw[dcD,Vq]at hc
  cases hc
 ·intro us v _
  cases v
  exact⟨_,.nil⟩
 ·intro x xs d ds h q us v hc
  cases v with
  | cons r rs=>
   rw[Bq,XM]at hc
   obtain⟨as,k⟩:=h _ r hc.1
   obtain⟨bs,k'⟩:=q _ rs hc.2
   exact⟨_,.cons k k'⟩
theorem Da.reads(hG:X.K=G)(I:Inv X pins σ H s){v:V}{d:Xa}{u:Xc}(h:Da G H L v d)(r:RelV v u)(c:d.canLay0=true):∃as,Reads s.heap u d as:=(Da.reads2 hG I).1 h u r c
theorem Das.reads(hG:X.K=G)(I:Inv X pins σ H s){xs:List V}{ds:List Xa}{us:List Xc}(h:Das G H L xs ds)(r:Vals xs us)(c:Bq ds=true):∃as,ReadsAll s.heap us ds as:=(Da.reads2 hG I).2 h us r c
end
inductive OT where
 | fz (d:Xa)
 | nd (ts:List OT)
 | tp (ts:List OT)
 | dc (t:Bool) (ks:List KY) (ds:List Xa)
mutual
noncomputable def OT.data:OT->Xa
 | .fz d=>d
 | .nd ts=>.list (OT.datas ts)
 | .tp ts=>.tuple (OT.datas ts)
 | .dc t ks ds=>dcD t ks ds
noncomputable def OT.datas:List OT->List Xa
 | []=>[]
 | t :: ts=>t.data :: OT.datas ts
end
theorem OT.datas_map:∀(ts:List OT),OT.datas ts=ts.map OT.data
 | []=>rfl
 | t :: ts=>by rw[OT.datas,OT.datas_map ts];rfl
@[simp] theorem OT.data_fz(d:Xa):(OT.fz d).data=d:=by rw[OT.data]
@[simp] theorem OT.data_nd(ts:List OT):(OT.nd ts).data= .list (ts.map OT.data):=by rw[OT.data,OT.datas_map]
@[simp] theorem OT.data_tp(ts:List OT):(OT.tp ts).data= .tuple (ts.map OT.data):=by rw[OT.data,OT.datas_map]
theorem OT.data_dc(t:Bool)(ks:List KY)(ds:List Xa):(OT.dc t ks ds).data=dcD t ks ds:=by rw[OT.data]
@[simp] theorem OT.map_fz(ds:List Xa):(ds.map OT.fz).map OT.data=ds:=by
 rw[Qs]
 exact(X7 λd _=>OT.data_fz d).trans (List.map_id _)
mutual
inductive Own(G:Xd)(H:Hp)(L:Addr->Prop):V->OT->List Addr->Prop where
 | fz {v:V} {d:Xa}:Da G H L v d->Own G H L v (.fz d) []
 | nd {a:Addr} {xs:List V} {ts:List OT} {bs:List Addr}:H a=some (.lst xs)->Owns G H L xs ts bs->Own G H L (.ref a) (.nd ts) (a :: bs)
 | tp {a:Addr} {xs:List V} {ts:List OT} {bs:List Addr}:H a=some (.tup xs)->Owns G H L xs ts bs->Own G H L (.ref a) (.tp ts) bs
 | dc {a:Addr} {o:MuO} {t:Bool} {ks:List KY} {xs:List V} {ds:List Xa}:H a=some o.ho->o.dic t ks xs->Das G H L xs ds->Own G H L (.ref a) (.dc t ks ds) [a]
inductive Owns(G:Xd)(H:Hp)(L:Addr->Prop):List V->List OT->List Addr->Prop where
 | nil:Owns G H L [] [] []
 | cons {x:V} {xs:List V} {t:OT} {ts:List OT} {as bs:List Addr}:Own G H L x t as->Owns G H L xs ts bs->Owns G H L (x :: xs) (t :: ts) (as ++ bs)
end
section
variable {H H':Hp}{L L':Addr->Prop}
theorem Own.both{P:V->OT->List Addr->Prop}{Q:List V->List OT->List Addr->Prop}(c1:∀{v:V} {d:Xa},Da G H L v d->P v (.fz d) [])(c2:∀{a:Addr} {xs:List V} {ts:List OT} {bs:List Addr},H a=some (.lst xs)->Q xs ts bs->P (.ref a) (.nd ts) (a :: bs))
  (c3:∀{a:Addr} {xs:List V} {ts:List OT} {bs:List Addr},H a=some (.tup xs)->Q xs ts bs->P (.ref a) (.tp ts) bs) (c4:∀{a:Addr} {o:MuO} {t:Bool} {ks:List KY} {xs:List V} {ds:List Xa},H a=some o.ho->o.dic t ks xs->Das G H L xs ds->P (.ref a) (.dc t ks ds) [a]) (n:Q [] [] []) (c:∀{x:V} {xs:List V} {t:OT} {ts:List OT} {as bs:List Addr},P x t as->Q xs ts bs->Q (x :: xs) (t :: ts) (as ++ bs)) :
  (∀ {v t as},Own G H L v t as->P v t as)∧∀{xs ts as},Owns G H L xs ts as->Q xs ts as :=
 ⟨λh=>Own.rec (motive_1:=λv t as _=>P v t as) (motive_2:=λxs ts as _=>Q xs ts as) c1 (λe _ r=>c2 e r) (λe _ r=>c3 e r) (λe k r=>c4 e k r) n (λ_ _ p q=>c p q) h,
   λh=>Owns.rec (motive_1:=λv t as _=>P v t as) (motive_2:=λxs ts as _=>Q xs ts as) c1 (λe _ r=>c2 e r) (λe _ r=>c3 e r) (λe k r=>c4 e k r) n (λ_ _ p q=>c p q) h⟩
theorem Own.frame2(hl:∀a (xs:MuO),L a->Rd H a xs.ho->L' a∧Rd H' a xs.ho)(ht:∀a (xs:ImO),H a=some xs.ho->H' a=some xs.ho) :
  (∀ {v:V} {t:OT} {as:List Addr},Own G H L v t as->(∀a∈as,∀xs:MuO,H a=some xs.ho->H' a=some xs.ho)->Own G H' L' v t as)∧∀{xs:List V} {ts:List OT} {as:List Addr},Owns G H L xs ts as->(∀a∈as,∀xs:MuO,H a=some xs.ho->H' a=some xs.ho)->Owns G H' L' xs ts as :=
 Own.both (λh _=>.fz (h.frame hl ht)) (fun{_ xs _ _} e r ha=>.nd (ha _ (.head _) (.lst xs) e) (r λa m=>ha a (.tail _ m))) (fun{_ xs _ _} e r ha=>.tp (ht _ (.tup xs) e) (r ha)) (λe k r ha=>.dc (ha _ (.head _) _ e) k (r.frame hl ht)) (λ_=>.nil) (λh r ha=>.cons (h λa m=>ha a (Bk _ m)) (r λa m=>ha a (X6 _ m)))
theorem Own.frame(hl:∀a (xs:MuO),L a->Rd H a xs.ho->L' a∧Rd H' a xs.ho)(ht:∀a (xs:ImO),H a=some xs.ho->H' a=some xs.ho){v:V}{t:OT}{as:List Addr}(ha:∀a∈as,∀xs:MuO,H a=some xs.ho->H' a=some xs.ho)(h:Own G H L v t as):Own G H' L' v t as:=(Own.frame2 hl ht).1 h ha
theorem Owns.frame(hl:∀a (xs:MuO),L a->Rd H a xs.ho->L' a∧Rd H' a xs.ho)(ht:∀a (xs:ImO),H a=some xs.ho->H' a=some xs.ho){xs:List V}{ts:List OT}{as:List Addr}(ha:∀a∈as,∀xs:MuO,H a=some xs.ho->H' a=some xs.ho)(h:Owns G H L xs ts as):Owns G H' L' xs ts as:=(Own.frame2 hl ht).2 h ha
theorem Own.same(h:Same H H'){v:V}{t:OT}{as:List Addr}(x:Own G H L v t as):Own G H' L v t as:=x.frame (λa xs p e=>⟨p,e.same h⟩) (λa xs e=>h _ _ e) λa _ xs e=>h _ _ e
theorem Own.wide(h:∀a,L a->H a≠none->L' a){v:V}{t:OT}{as:List Addr}(x:Own G H L v t as):Own G H L' v t as:=x.frame (λa xs p e=>⟨h a p e.some,e⟩) (λa xs e=>e) λa _ xs e=>e
theorem Owns.wide(h:∀a,L a->H a≠none->L' a){v:List V}{t:List OT}{as:List Addr}(x:Owns G H L v t as):Owns G H L' v t as:=x.frame (λa xs p e=>⟨h a p e.some,e⟩) (λa xs e=>e) λa _ xs e=>e
theorem Owns.same(h:Same H H'){v:List V}{t:List OT}{as:List Addr}(x:Owns G H L v t as):Owns G H' L v t as:=x.frame (λa xs p e=>⟨p,e.same h⟩) (λa xs e=>h _ _ e) λa _ xs e=>h _ _ e
theorem Own.da2(h:∀a,L a->H a≠none->L' a):(∀{v:V} {t:OT} {as:List Addr},Own G H L v t as->(∀a∈as,L' a)->Da G H L' v t.data)∧∀{v:List V} {t:List OT} {as:List Addr},Owns G H L v t as->(∀a∈as,L' a)->Das G H L' v (OT.datas t) :=
 Own.both (λk _=>by rw[OT.data_fz];exact k.wide h) (λe r ha=>by rw[OT.data];exact .lst (ha _ (.head _)) (.inl e) (r λa m=>ha a (.tail _ m))) (λe r ha=>by rw[OT.data];exact .tup e (r ha)) (λe k r ha=>by rw[OT.data];exact .dic (ha _ (.head _)) (.inl e) k (r.wide h)) (λ_=>.nil) (λk r ha=>.cons (k λa m=>ha a (Bk _ m)) (r λa m=>ha a (X6 _ m)))
theorem Own.da(h:∀a,L a->H a≠none->L' a){v:V}{t:OT}{as:List Addr}(ha:∀a∈as,L' a)(k:Own G H L v t as):Da G H L' v t.data:=(Own.da2 h).1 k ha
theorem Owns.das(h:∀a,L a->H a≠none->L' a){v:List V}{t:List OT}{as:List Addr}(ha:∀a∈as,L' a)(k:Owns G H L v t as):Das G H L' v (OT.datas t):=(Own.da2 h).2 k ha
theorem Own.some2:(∀{v:V} {t:OT} {as:List Addr},Own G H L v t as->∀a∈as,∃xs:MuO,H a=some xs.ho)∧∀{v:List V} {t:List OT} {as:List Addr},Owns G H L v t as->∀a∈as,∃xs:MuO,H a=some xs.ho :=
 Own.both (λ_ _ m=>nomatch m) (fun{_ xs _ _} e r a m=>(Xp.mp m).elim (λq=>⟨.lst xs,q▸e⟩) (r a)) (λ_ r=>r) (fun{_ o _ _ _ _} e _ _ a m=>⟨o,Xj.mp m▸e⟩) (λ_ m=>nomatch m) (λk r a m=>(Xq.mp m).elim (k a) (r a))
theorem Own.some{v:V}{t:OT}{as:List Addr}(h:Own G H L v t as):∀a∈as,∃xs:MuO,H a=some xs.ho:=Own.some2.1 h
theorem Owns.some{v:List V}{t:List OT}{as:List Addr}(h:Owns G H L v t as):∀a∈as,∃xs:MuO,H a=some xs.ho:=Own.some2.2 h
theorem Owns.length{xs:List V}{ts:List OT}{as:List Addr}(h:Owns G H L xs ts as):xs.length=ts.length:=(Own.both (P:=λ_ _ _=>True) (Q:=λxs ts _=>xs.length=ts.length) (λ_=>trivial) (λ_ _=>trivial) (λ_ _=>trivial) (λ_ _ _=>trivial) rfl (λ_ r=>congrArg (·+1) r)).2 h
theorem Das.owns{xs:List V}{ds:List Xa}(h:Das G H L xs ds):Owns G H L xs (ds.map OT.fz) []:=Das.ind (Q:=λxs ds=>Owns G H L xs (ds.map OT.fz) []) .nil (λh _ r=>.cons (.fz h) r) h
end
variable {G:Xd}
noncomputable abbrev Zh:=List (Option OT)
noncomputable abbrev Fp:=Nat->List Addr
set_option genInjectivity false in
structure MC(G:Xd) where
 H₀:Hp
 as₀:Addr->Prop
 L:Addr->Prop
 σ₀:St
noncomputable def Foot(fp:Fp)(a:Addr):Prop:=∃i,a∈fp i
noncomputable def Lf(C:MC G)(fp:Fp)(ex:Addr->Prop)(a:Addr):Prop:=¬Foot fp a∧¬ex a∧(C.L a∨C.H₀ a=none)
structure Rel(C:MC G)(io:List Nat)(H:Hp)(σ:St)(δ:Zh)(fp:Fp)(ex:Addr->Prop):Prop where
 len:σ.length=δ.length
 own:∀(i:Nat) (t:OT),δ[i]? =some (some t)->∃v,σ[i]? =some (some v)∧Own G H (Lf C fp ex) v t (fp i)
 emp:∀i:Nat,(∀t,δ[i]? ≠some (some t))->fp i=[]
 nd:∀i,(fp i).Nodup
 dj:∀i j a,a∈fp i->a∈fp j->i=j
 dx:∀i a,a∈fp i->¬ex a
 xa:∀a,ex a->H a≠none
 fr:∀b o,C.H₀ b=some o->¬C.as₀ b->H b=some o
 al:∀b,H b=none->C.H₀ b=none
 new:∀i a,a∈fp i->(i∈io∧C.as₀ a)∨C.H₀ a=none
 io:∀i∈io,σ[i]? =C.σ₀[i]?
structure Stp(p:Bool)(H:Hp)(δ:Zh)(fp:Fp)(H':Hp)(δ':Zh)(fp':Fp):Prop where
 keep:∀b o,H b=some o->(p=true∨¬Foot fp b)->H' b=some o
 env:p=true->δ'=δ∧fp'=fp
 grow:∀a,Foot fp' a->Foot fp a∨H a=none
 al:∀b,H' b=none->H b=none
section
variable {C:MC G}{io:List Nat}{H H' H'':Hp}{σ:St}{δ δ' δ'':Zh}{fp fp' fp'':Fp}{ex ex':Addr->Prop}{p p' c:Bool}{v:V}{d:Xa}{r:OT}{new:List Addr}
theorem Rel.foot(R:Rel C io H σ δ fp ex){a:Addr}(h:Foot fp a):∃xs:MuO,H a=some xs.ho:=by
 obtain⟨i,h⟩:=h
 by_cases q:∃t,δ[i]? =some (some t)
 ·obtain⟨t,q⟩:=q
  obtain⟨v,_,o⟩:=R.own i t q
  exact o.some a h
 ·rw[R.emp i (λt z=>q ⟨t,z⟩)]at h
  exact nomatch h
theorem Rel.footSome(R:Rel C io H σ δ fp ex){a:Addr}(h:H a=none):¬Foot fp a:=λz=>by
 obtain⟨xs,e⟩:=R.foot z
 rw[h]at e
 cases e
theorem Stp.refl(p:Bool)(H:Hp)(δ:Zh)(fp:Fp):Stp p H δ fp H δ fp:=⟨λ_ _ h _=>h,λ_=>⟨rfl,rfl⟩,λ_ h=>.inl h,λ_ h=>h⟩
theorem Stp.same(h:Same H H')(hn:∀b,H' b=none->H b=none):Stp p H δ fp H' δ fp:=⟨λ_ _ q _=>h _ _ q,λ_=>⟨rfl,rfl⟩,λ_ h=>.inl h,hn⟩
theorem Same.al(h:Same H H'):∀b,H' b=none->H b=none:=λ_ q=>h.free q
theorem Stp.trans(a:Stp p H δ fp H' δ' fp')(b:Stp p' H' δ' fp' H'' δ'' fp''):Stp (p&&p') H δ fp H'' δ'' fp'' where
 keep:=λx o e h=>by
  rcases h with h|h
  ·rw[XM]at h
   exact b.keep x o (a.keep x o e (.inl h.1)) (.inl h.2)
  ·refine b.keep x o (a.keep x o e (.inr h)) (.inr λz=>?_)
   rcases a.grow x z with z|z
   ·exact h z
   ·rw[e]at z;cases z
 env:=λh=>by
  rw[XM]at h
  obtain⟨e1,e2⟩:=a.env h.1
  obtain⟨e3,e4⟩:=b.env h.2
  exact⟨e3.trans e1,e4.trans e2⟩
 grow:=λx h=>by
  rcases b.grow x h with h|h
  ·exact a.grow x h
  ·exact .inr (a.al x h)
 al:=λx h=>a.al x (b.al x h)
theorem Rel.frameL(R:Rel C io H σ δ fp ex)(S:Stp p H δ fp H' δ' fp')(hc:p=true∨c=true)(hx:∀a,ex' a->ex a∨H a=none) :
  (∀ a (xs:MuO),(c=true->Lf C fp ex a)->Rd H a xs.ho->(c=true->Lf C fp' ex' a)∧Rd H' a xs.ho)∧(∀a (xs:ImO),H a=some xs.ho->H' a=some xs.ho):=by
 have nf:∀a,Foot fp a->∃xs:MuO,H a=some xs.ho:=λa h=>R.foot h
 refine⟨λa xs l q=>⟨λhc'=>?_,?_⟩,λa xs q=>S.keep a _ q (.inr λz=>?_)⟩
 ·obtain⟨l1,l2,l3⟩:=l hc'
  refine⟨λz=>?_,λz=>?_,l3⟩
  ·rcases S.grow a z with z|z
   ·exact l1 z
   ·exact q.some z
  ·rcases hx a z with z|z
   ·exact l2 z
   ·exact q.some z
 ·have hk:p=true∨¬Foot fp a:=by
   rcases hc with h|h
   ·exact .inl h
   ·exact .inr (l h).1
  rcases q with q|⟨o,q⟩
  ·exact .inl (S.keep a _ q hk)
  ·exact .inr ⟨o,S.keep a _ q hk⟩
 ·obtain⟨ys,e⟩:=nf a z
  exact ImO.nm q e
theorem Rel.own_step(R:Rel C io H σ δ fp ex)(S:Stp p H δ fp H' δ' fp')(hc:p=true∨c=true)(hx:∀a,ex' a->ex a∨H a=none)(hn:∀a∈new,ex a)
  (x:Own G H (λa=>c=true->Lf C fp ex a) v r new):Own G H' (λa=>c=true->Lf C fp' ex' a) v r new :=
 x.frame (R.frameL S hc hx).1 (R.frameL S hc hx).2 λa m xs e=>S.keep a _ e (.inr λ⟨i,z⟩=>R.dx i a z (hn a m))
theorem Rel.owns_step(R:Rel C io H σ δ fp ex)(S:Stp p H δ fp H' δ' fp')(hc:p=true∨c=true)(hx:∀a,ex' a->ex a∨H a=none)(hn:∀a∈new,ex a){vs:List V}{rs:List OT}
  (x:Owns G H (λa=>c=true->Lf C fp ex a) vs rs new):Owns G H' (λa=>c=true->Lf C fp' ex' a) vs rs new :=
 x.frame (R.frameL S hc hx).1 (R.frameL S hc hx).2 λa m xs e=>S.keep a _ e (.inr λ⟨i,z⟩=>R.dx i a z (hn a m))
theorem Rel.drop(R:Rel C io H σ δ fp ex)(h:∀a,ex' a->ex a):Rel C io H σ δ fp ex' :=
 ⟨R.len,λi t e=>by
  obtain⟨v,e1,o⟩:=R.own i t e
  exact⟨v,e1,o.wide λa l _=>⟨l.1,λz=>l.2.1 (h a z),l.2.2⟩⟩,R.emp,R.nd,R.dj,λi a m z=>R.dx i a m (h a z),λa z=>R.xa a (h a z),R.fr,R.al,R.new,R.io⟩
theorem Rel.made(R:Rel C io H σ δ fp ex)(s:Same H H')(hn:∀a∈new,H a=none∧H' a≠none):Rel C io H' σ δ fp (λa=>ex a∨a∈new) :=
 ⟨R.len,λi t e=>by
  obtain⟨v,e1,o⟩:=R.own i t e
  refine⟨v,e1,(o.wide λa l q=>⟨l.1,λz=>?_,l.2.2⟩).same s⟩
  rcases z with z|z
  ·exact l.2.1 z
  ·exact q (hn a z).1,R.emp,R.nd,R.dj,λi a m z=>by
   rcases z with z|z
   ·exact R.dx i a m z
   ·exact R.footSome (hn a z).1 ⟨i,m⟩,λa z=>by
   rcases z with z|z
   ·intro q;exact R.xa a z (s.free q)
   ·exact(hn a z).2,λb o e n=>s _ _ (R.fr b o e n),λb q=>R.al b (s.free q),R.new,R.io⟩
end
noncomputable abbrev MEt:=Zh->(OT->Zh->Prop)->Prop
noncomputable abbrev MAt:=Zh->(List OT->Zh->Prop)->Prop
noncomputable abbrev MTt:=Zh->(Bool->Zh->Prop)->Prop
noncomputable abbrev exu(ex:Addr->Prop)(new:List Addr):Addr->Prop:=λa=>ex a∨a∈new
structure RE(C:MC G)(io:List Nat)(p c:Bool)(H:Hp)(σ:St)(δ:Zh)(fp:Fp)(ex:Addr->Prop)(H':Hp)(v:V)(r:OT)(δ':Zh)(fp':Fp)(new:List Addr):Prop where
 rel:Rel C io H' σ δ' fp' (exu ex new)
 stp:Stp p H δ fp H' δ' fp'
 own:Own G H' (λa=>c=true->Lf C fp' (exu ex new) a) v r new
 nd:new.Nodup
 fresh:∀a∈new,H a=none
structure RA(C:MC G)(io:List Nat)(p c:Bool)(H:Hp)(σ:St)(δ:Zh)(fp:Fp)(ex:Addr->Prop)(H':Hp)(v:List V)(r:List OT)(δ':Zh)(fp':Fp)(new:List Addr):Prop where
 rel:Rel C io H' σ δ' fp' (exu ex new)
 stp:Stp p H δ fp H' δ' fp'
 own:Owns G H' (λa=>c=true->Lf C fp' (exu ex new) a) v r new
 nd:new.Nodup
 fresh:∀a∈new,H a=none
noncomputable def SE(G:Xd)(io:List Nat)(p c:Bool)(t:TE)(m:MEt):Prop:=∀(C:MC G) (H:Hp) (σ:St) (δ:Zh) (fp:Fp) (ex:Addr->Prop) (K:OT->Zh->Prop) (Q:VK),Rel C io H σ δ fp ex->m δ K ->
 (∀ H' v r δ' fp' new,RE C io p c H σ δ fp ex H' v r δ' fp' new->K r δ'->Q v H')->t σ H Q
noncomputable def SA(G:Xd)(io:List Nat)(p c:Bool)(t:TA)(m:MAt):Prop:=∀(C:MC G) (H:Hp) (σ:St) (δ:Zh) (fp:Fp) (ex:Addr->Prop) (K:List OT->Zh->Prop) (Q:List V->Hp->Prop),Rel C io H σ δ fp ex->m δ K ->
 (∀ H' v r δ' fp' new,RA C io p c H σ δ fp ex H' v r δ' fp' new->K r δ'->Q v H')->t σ H Q
noncomputable def STt(G:Xd)(io:List Nat)(p:Bool)(t:TT)(m:MTt):Prop:=∀(C:MC G) (H:Hp) (σ:St) (δ:Zh) (fp:Fp) (ex:Addr->Prop) (K:Bool->Zh->Prop) (Q:Bool->Hp->Prop),Rel C io H σ δ fp ex->m δ K ->
 (∀ H' b δ' fp',Rel C io H' σ δ' fp' ex->Stp p H δ fp H' δ' fp'->K b δ'->Q b H')->t σ H Q
noncomputable def ME(X:Cx)(io:List Nat)(p c:Bool)(e:Expr)(m:MEt):Prop:=∃t,PE X e t∧SE X.K io p c t m
noncomputable def MA(X:Cx)(io:List Nat)(p c:Bool)(e:List Expr)(m:MAt):Prop:=∃t,PA X e t∧SA X.K io p c t m
noncomputable def MT(X:Cx)(io:List Nat)(p:Bool)(e:Expr)(m:MTt):Prop:=∃t,PT X e t∧STt X.K io p t m
noncomputable def MW(X:Cx)(io:List Nat)(p:Bool)(e:Expr)(m:MTt):Prop:=∃t,PW X e t∧STt X.K io p t m
section
variable {C:MC G}{io:List Nat}{H H' H'':Hp}{σ:St}{δ δ' δ'':Zh}{fp fp' fp'':Fp}{ex ex':Addr->Prop}{p p' c:Bool}{v:V}{d:Xa}{r:OT}{vs:List V}{rs:List OT}{new:List Addr}
theorem Rel.newOk(R:Rel C io H σ δ fp ex){a:Addr}(h:H a=none):¬Foot fp a∧¬ex a∧C.H₀ a=none:=⟨R.footSome h,λz=>R.xa a z h,R.al a h⟩
theorem RE.da(R:RE C io p c H σ δ fp ex H' v r δ' fp' new)(R0:Rel C io H σ δ fp ex):Da G H' (λa=>c=true->Lf C fp' ex a) v r.data:=by
 refine R.own.da (λa l _ h=>?_) (λa m _=>?_)
 ·exact⟨(l h).1,λz=>(l h).2.1 (.inl z),(l h).2.2⟩
 ·refine⟨λqz9=>?_,(R0.newOk (R.fresh a m)).2.1,.inr (R0.newOk (R.fresh a m)).2.2⟩
  obtain⟨i,z⟩:=qz9
  exact R.rel.dx i a z (.inr m)
theorem RA.das(R:RA C io p c H σ δ fp ex H' vs rs δ' fp' new)(R0:Rel C io H σ δ fp ex):Das G H' (λa=>c=true->Lf C fp' ex a) vs (OT.datas rs):=by
 refine R.own.das (λa l _ h=>?_) (λa m _=>?_)
 ·exact⟨(l h).1,λz=>(l h).2.1 (.inl z),(l h).2.2⟩
 ·refine⟨λqz9=>?_,(R0.newOk (R.fresh a m)).2.1,.inr (R0.newOk (R.fresh a m)).2.2⟩
  obtain⟨i,z⟩:=qz9
  exact R.rel.dx i a z (.inr m)
theorem RE.base(R:RE C io p c H σ δ fp ex H' v r δ' fp' new):Rel C io H' σ δ' fp' ex:=R.rel.drop λa z=>.inl z
theorem RA.base(R:RA C io p c H σ δ fp ex H' vs rs δ' fp' new):Rel C io H' σ δ' fp' ex:=R.rel.drop λa z=>.inl z
theorem Zbx{a:Addr}:exu ex [] a↔ex a:=by simp[exu]
theorem RE.fz(R:Rel C io H' σ δ' fp' ex)(S:Stp p H δ fp H' δ' fp')(h:Da G H' (λa=>c=true->Lf C fp' ex a) v d):RE C io p c H σ δ fp ex H' v (.fz d) δ' fp' [] :=
 ⟨R.drop λa z=>Zbx.mp z,S,.fz (h.wide λa l _ hc=>⟨(l hc).1,λz=>(l hc).2.1 (Zbx.mp z),(l hc).2.2⟩),.nil,λa m=>nomatch m⟩
theorem RE.tree{H1:Hp}(R0:Rel C io H σ δ fp ex)(R:Rel C io H1 σ δ' fp' ex)(S:Stp p H δ fp H1 δ' fp')(s:Same H1 H')(hn:∀a∈new,H1 a=none)(nd:new.Nodup)
  (o:Own G H' (λa=>((c=true->Lf C fp' ex a)∨H1 a=none)∧a∉new) v r new):RE C io p c H σ δ fp ex H' v r δ' fp' new:=by
 refine⟨R.made s λa m=>⟨hn a m,λz=>?_⟩,?_,o.wide λa l q hc=>?_,nd,λa m=>S.al a (hn a m)⟩
 ·obtain⟨xs,e⟩:=o.some a m
  rw[z]at e;cases e
 ·have:=S.trans (p':=true) (Stp.same (p:=true) (δ:=δ') (fp:=fp') s s.al)
  rwa[Bool.and_true]at this
 ·rcases l.1 with l1|l1
  ·exact⟨(l1 hc).1,λz=>z.elim (l1 hc).2.1 l.2,(l1 hc).2.2⟩
  ·exact⟨R.footSome l1,λz=>z.elim (λz=>R.xa a z l1) l.2,.inr (R.al a l1)⟩
end
inductive ScD:V->Xa->Prop where
 | non:ScD .non .none
 | bl (b:Bool):ScD (.bl b) (.bool b)
 | int (i:Int):ScD (.int i) (.int i)
 | str (x:Str):ScD (.str x) (.str x)
theorem ScD.da{H:Hp}{L:Addr->Prop}{v:V}{d:Xa}(h:ScD v d):Da G H L v d:=by
 cases h
 ·exact .non
 ·exact .bl _
 ·exact .int _
 ·exact .str _
section
variable {X:Cx}{io:List Nat}{p p' c c':Bool}{e a b:Expr}{m ma mb:MEt}{es:List Expr}
noncomputable def Z7r(i:Nat):MEt:=λδ K=>match δ[i]? with|some (some (.fz d))=>K (.fz d) δ|_=>False
noncomputable def Z7u(i:Nat):MEt:=λδ K=>match δ[i]? with|some (some t)=>K (.fz t.data) δ|_=>False
noncomputable def mC(d:Xa):MEt:=λδ K=>K (.fz d) δ
theorem mv(i:Nat){x:Str}{pos:Pos}(hN:X.N[i]? =some x:=by rfl)(hv:Vis X.env.scope x:=by first|exact QF rfl|exact QJ (QF rfl)|exact QJ (QJ rfl))(hd:(x==("__debug__" : Str))=false:=by decide)
  (hcd:(x==("__classdict__" : Str))=false:=by decide):ME X io true true (.Name x pos) (Z7r i):=by
 refine⟨_,pv i hN hv hd hcd,λC H σ δ fp ex K Q R h k=>?_⟩
 unfold Z7r at h
 split at h
 ·rename_i d hd
  obtain⟨v,e,o⟩:=R.own i _ hd
  refine⟨v,e,k H v _ δ fp [] (.fz R (.refl _ _ _ _) ?_) h⟩
  generalize fp i=as at o
  cases o with
  | fz q=>exact q.wide λa l _ _=>l
 ·exact h.elim
theorem mo(i:Nat){x:Str}{pos:Pos}(hN:X.N[i]? =some x:=by rfl)(hv:Vis X.env.scope x:=by first|exact QF rfl|exact QJ (QF rfl)|exact QJ (QJ rfl))(hd:(x==("__debug__" : Str))=false:=by decide)
  (hcd:(x==("__classdict__" : Str))=false:=by decide):ME X io true false (.Name x pos) (Z7u i):=by
 refine⟨_,pv i hN hv hd hcd,λC H σ δ fp ex K Q R h k=>?_⟩
 unfold Z7u at h
 split at h
 ·rename_i d hd
  obtain⟨v,e,o⟩:=R.own i _ hd
  exact⟨v,e,k H v _ δ fp [] (.fz R (.refl _ _ _ _) (o.da (λa _ _ z=>(nomatch z)) λa _ z=>(nomatch z))) h⟩
 ·exact h.elim
theorem Zln{t:V}{d:Xa}(h:PE X e (tC t))(s:ScD t d):ME X io true true e (mC d) :=
 ⟨_,h,λC H σ δ fp ex K Q R h k=>k H t _ δ fp [] (.fz R (.refl _ _ _ _) s.da) h⟩
theorem Z6t{i j pos}:ME X io true true (.Constant (.int i) j pos) (mC (.int i)):=Zln Z2u (.int i)
theorem Zt6{b j pos}:ME X io true true (.Constant (.bool b) j pos) (mC (.bool b)):=Zln Yau (.bl b)
theorem Zj0{j pos}:ME X io true true (.Constant .none j pos) (mC .none):=Zln Z3l .non
theorem SE.two{ta tb:TE}(ha:SE G io p c ta ma)(hb:SE G io p' c' tb mb)(hc:p'=true∨c=true){C:MC G}{H:Hp}{σ:St}{δ:Zh}{fp:Fp}{ex:Addr->Prop}{K:OT->OT->Zh->Prop}{Q:V->V->Hp->Prop}
  (R:Rel C io H σ δ fp ex) (h:ma δ λx δ1=>mb δ1 λy δ2=>K x y δ2)
  (k:∀H' x y u v δ' fp',Rel C io H' σ δ' fp' ex->Stp (p&&p') H δ fp H' δ' fp'->Da G H' (λa=>(c&&c')=true->Lf C fp' ex a) x u.data->Da G H' (λa=>(c&&c')=true->Lf C fp' ex a) y v.data->K u v δ'->Q x y H') :
  ta σ H λx H1=>tb σ H1 λy H2=>Q x y H2:=by
 refine ha C H σ δ fp ex _ _ R h λH1 x u δ1 fp1 new1 r1 h1=>?_
 refine hb C H1 σ δ1 fp1 (exu ex new1) _ _ r1.rel h1 λH2 y v δ2 fp2 new2 r2 h2=>?_
 have o1:=r1.rel.own_step (ex':=exu (exu ex new1) new2) r2.stp (c:=c) hc (λa z=>z.imp id λz=>r2.fresh a z) (λa m=>.inr m) r1.own
 have R2:Rel C io H2 σ δ2 fp2 ex:=r2.rel.drop λa z=>.inl (.inl z)
 have q1:Da G H2 (λa=>c=true->Lf C fp2 ex a) x u.data:=by
  refine o1.da (λa l _ z=>?_) (λa m z=>?_)
  ·exact⟨(l z).1,λw=>(l z).2.1 (.inl (.inl w)),(l z).2.2⟩
  ·have:=R.newOk (r1.fresh a m)
   refine⟨λqz9=>?_,this.2.1,.inr this.2.2⟩
   obtain⟨i,w⟩:=qz9
   exact r2.rel.dx i a w (.inl (.inr m))
 have q2:=r2.da r1.rel
 refine k H2 x y u v δ2 fp2 R2 (r1.stp.trans r2.stp) (q1.wide λa l _ z=>l (by rw[XM]at z;exact z.1)) (q2.wide λa l _ z=>?_) h2
 have l:=l (by rw[XM]at z;exact z.2)
 exact⟨l.1,λw=>l.2.1 (.inl w),l.2.2⟩
noncomputable def P2s(G:Xd)(r:R2)(rp:Xa->Xa->(Xa->Prop)->Prop):Prop:=∀(H:Hp) (L:Addr->Prop) (x y:V) (d e:Xa) (k:Xa->Prop) (Q:VK),Da G H L x d->Da G H L y e->rp d e k->(∀v d',ScD v d'->k d'->Q v H)->r x y H Q
noncomputable def P2(G:Xd)(r:R2)(rp:Xa->Xa->(OT->Prop)->Prop):Prop:=∀(H:Hp) (L:Addr->Prop) (x y:V) (d e:Xa) (k:OT->Prop) (Q:VK),Da G H L x d->Da G H L y e->rp d e k ->
 (∀ H' v o new,Same H H'->Own G H' (λa=>(L a∨H a=none)∧a∉new) v o new->new.Nodup->(∀a∈new,H a=none)->k o->Q v H')->r x y H Q
noncomputable def Zlk(rp:Xa->Xa->(Xa->Prop)->Prop)(ma mb:MEt):MEt:=λδ K=>ma δ λx δ1=>mb δ1 λy δ2=>rp x.data y.data λd=>K (.fz d) δ2
noncomputable def Z7q(rp:Xa->Xa->(OT->Prop)->Prop)(ma mb:MEt):MEt:=λδ K=>ma δ λx δ1=>mb δ1 λy δ2=>rp x.data y.data λd=>K d δ2
theorem Z0l{r:R2}{rp}{ta tb:TE}(P:P2s G r rp)(ha:SE G io p c ta ma)(hb:SE G io p' c' tb mb)(hc:p'=true∨c=true):SE G io (p&&p') true (tOp r ta tb) (Zlk rp ma mb):=by
 intro C H σ δ fp ex K Q R h k
 refine SE.two (K:=λx y δ2=>rp x.data y.data λd=>K (.fz d) δ2) (Q:=λx y H2=>r x y H2 Q) ha hb hc R h λH' x y u v δ' fp' R' S q1 q2 h'=>?_
 exact P H' _ x y _ _ _ _ q1 q2 h' λw d' sc h''=>k H' w _ δ' fp' [] (.fz R' S sc.da) h''
theorem Ybf{r:R2}{rp}{ta tb:TE}(P:P2 G r rp)(ha:SE G io p c ta ma)(hb:SE G io p' c' tb mb)(hc:p'=true∨c=true):SE G io (p&&p') (c&&c') (tOp r ta tb) (Z7q rp ma mb):=by
 intro C H σ δ fp ex K Q R h k
 refine SE.two (K:=λx y δ2=>rp x.data y.data λd=>K d δ2) (Q:=λx y H2=>r x y H2 Q) ha hb hc R h λH' x y u v δ' fp' R' S q1 q2 h'=>?_
 exact P H' _ x y _ _ _ _ q1 q2 h' λH2 w o new s ow nd hn h''=>k H2 w o δ' fp' new (RE.tree R R' S s hn nd ow) h''
theorem Zpj{op:Operator}{r:R2}{rp}{pos:Pos}(ho:OpR X (Uu op) r)(P:P2s X.K r rp)(ha:ME X io p c a ma)(hb:ME X io p' c' b mb)(hc:p'=true∨c=true:=by first|exact QF rfl|exact QJ rfl):ME X io (p&&p') true (.BinOp a op b pos) (Zlk rp ma mb):=by
 obtain⟨_,A,sa⟩:=ha
 obtain⟨_,B,sb⟩:=hb
 exact⟨_,Zyv ho A B,Z0l P sa sb hc⟩
theorem Z48{op:Operator}{r:R2}{rp}{pos:Pos}(ho:OpR X (Uu op) r)(P:P2 X.K r rp)(ha:ME X io p c a ma)(hb:ME X io p' c' b mb)(hc:p'=true∨c=true:=by first|exact QF rfl|exact QJ rfl):ME X io (p&&p') (c&&c') (.BinOp a op b pos) (Z7q rp ma mb):=by
 obtain⟨_,A,sa⟩:=ha
 obtain⟨_,B,sb⟩:=hb
 exact⟨_,Zyv ho A B,Ybf P sa sb hc⟩
theorem Zpd{op:CmpOp}{r:R2}{rp}{pos:Pos}(ho:OpR X (JK op) r)(P:P2s X.K r rp)(ha:ME X io p c a ma)(hb:ME X io p' c' b mb)(hc:p'=true∨c=true:=by first|exact QF rfl|exact QJ rfl)(hm:behindInMarks op b=false):ME X io (p&&p') true (.Compare a [op] [b] pos) (Zlk rp ma mb):=by
 obtain⟨_,A,sa⟩:=ha
 obtain⟨_,B,sb⟩:=hb
 exact⟨_,Zzq ho A B hm,Z0l P sa sb hc⟩
theorem Ye2{r:R2}{rp}{pos:Pos}(ho:IxR X r)(P:P2 X.K r rp)(ha:ME X io p c a ma)(hb:ME X io p' c' b mb)(hc:p'=true∨c=true:=by first|exact QF rfl|exact QJ rfl)(hs:Zi6 b):ME X io (p&&p') (c&&c') (.Subscript a b pos) (Z7q rp ma mb):=by
 obtain⟨_,A,sa⟩:=ha
 obtain⟨_,B,sb⟩:=hb
 exact⟨_,Z41 ho A B hs,Ybf P sa sb hc⟩
noncomputable def kB(K:Bool->Zh->Prop):OT->Zh->Prop:=λo δ=>match o with| .fz (.bool b)=>K b δ|_=>False
theorem Z6a{t:TE}(h:SE G io p c t m):STt G io p (Zzu t) (λδ K=>m δ (kB K)):=by
 intro C H σ δ fp ex K Q R h' k
 refine h C H σ δ fp ex _ _ R h' λH' v r δ' fp' new r1 h1=>?_
 cases r with
 | nd ts=>exact h1.elim
 | tp ts=>exact h1.elim
 | dc _ _ _=>exact h1.elim
 | fz d=>
  cases d with
  | bool b=>
   cases r1.own with
   | fz q=>
    cases q
    exact⟨b,rfl,k H' b δ' fp' r1.base r1.stp h1⟩
  | _=>exact h1.elim
theorem Zb9{op:CmpOp}{r:R2}{rp}{pos:Pos}(ho:OpR X (JK op) r)(P:P2s X.K r rp)(ha:ME X io p c a ma)(hb:ME X io p' c' b mb)(hc:p'=true∨c=true:=by first|exact QF rfl|exact QJ rfl)(hm:behindInMarks op b=false) :
  MT X io (p&&p') (.Compare a [op] [b] pos) (λδ K=>Zlk rp ma mb δ (kB K)):=by
 obtain⟨_,A,sa⟩:=ha
 obtain⟨_,B,sb⟩:=hb
 exact⟨_,Z1z ho A B hm,Z6a (Z0l P sa sb hc)⟩
end
variable {G:Xd}
section
variable {X:Cx}{io:List Nat}{p p' p'' c c':Bool}{e a b:Expr}{m ma mb:MEt}{es rest:List Expr}{ta tb:MTt}{pos:Pos}
noncomputable def Yda(t:MTt):MTt:=λδ K=>t δ λb δ'=>K (!b) δ'
noncomputable def Ycj(t u:MTt):MTt:=λδ K=>t δ λb δ'=>if b=true then u δ' K else K false δ'
noncomputable def mOr(t u:MTt):MTt:=λδ K=>t δ λb δ'=>if b=true then K true δ' else u δ' K
theorem Z3z(h:MT X io p a ta):MT X io p (.UnaryOp .Not a pos) (Yda ta):=by
 obtain⟨_,A,sa⟩:=h
 exact⟨_,Z2v A,λC H σ δ fp ex K Q R h k=>sa C H σ δ fp ex _ _ R h λH' b δ' fp' R' S h'=>k H' (!b) δ' fp' R' S h'⟩
theorem Zev(h:MT X io p a ta):MW X io p (.BoolOp .And [a] pos) ta:=by
 obtain⟨_,A,sa⟩:=h
 exact⟨_,Zz9 A,sa⟩
theorem Zbh(h:MT X io p a ta):MW X io p (.BoolOp .Or [a] pos) ta:=by
 obtain⟨_,A,sa⟩:=h
 exact⟨_,Z30 A,sa⟩
theorem Stp.andL{H H':Hp}{δ δ':Zh}{fp fp':Fp}(S:Stp p H δ fp H' δ' fp'):Stp (p&&p') H δ fp H' δ' fp':=by
 have:=S.trans (Stp.refl p' H' δ' fp')
 exact this
theorem Zh4(h:MT X io p a ta)(g:MW X io p' (.BoolOp .And (b :: rest) pos) tb):MW X io (p&&p') (.BoolOp .And (a :: b :: rest) pos) (Ycj ta tb):=by
 obtain⟨_,A,sa⟩:=h
 obtain⟨_,B,sb⟩:=g
 exact⟨_,Z6u A B,λC H σ δ fp ex K Q R h k=>sa C H σ δ fp ex _ _ R h λH' b δ' fp' R' S h'=>by
  cases b with
  | true=>
   rw[if_pos rfl]at h'⊢
   exact sb C H' σ δ' fp' ex _ _ R' h' λH2 b2 δ2 fp2 R2 S2 h2=>k H2 b2 δ2 fp2 R2 (S.trans S2) h2
  | false=>
   rw[if_neg XH]at h'⊢
   exact k H' false δ' fp' R' S.andL h'⟩
theorem Zc1(h:MT X io p a ta)(g:MW X io p' (.BoolOp .Or (b :: rest) pos) tb):MW X io (p&&p') (.BoolOp .Or (a :: b :: rest) pos) (mOr ta tb):=by
 obtain⟨_,A,sa⟩:=h
 obtain⟨_,B,sb⟩:=g
 exact⟨_,Z9y A B,λC H σ δ fp ex K Q R h k=>sa C H σ δ fp ex _ _ R h λH' b δ' fp' R' S h'=>by
  cases b with
  | true=>
   rw[if_pos rfl]at h'⊢
   exact k H' true δ' fp' R' S.andL h'
  | false=>
   rw[if_neg XH]at h'⊢
   exact sb C H' σ δ' fp' ex _ _ R' h' λH2 b2 δ2 fp2 R2 S2 h2=>k H2 b2 δ2 fp2 R2 (S.trans S2) h2⟩
theorem MW.mt(h:MW X io p e ta):MT X io p e ta:=by
 obtain⟨_,A,sa⟩:=h
 exact⟨_,A.pt,sa⟩
noncomputable def Zt1:Xa->Option Bool
 | .none=>some false
 | .bool b=>some b
 | .int i=>some (i !=0)
 | .list ds=>some (!ds.isEmpty)
 | .tuple ds=>some (!ds.isEmpty)
 | _=>none
noncomputable def Yct(m:MEt):MTt:=λδ K=>m δ λr δ'=>match Zt1 r.data with|some b=>K b δ'|none=>False
theorem Das.isEmpty{H:Hp}{L:Addr->Prop}{xs:List V}{ds:List Xa}(h:Das G H L xs ds):xs.isEmpty=ds.isEmpty:=by cases h<;>rfl
theorem Zad(ha:ME X io p c a ma)(he:∀whole,isTrue a X.env whole=(do let v←whole;standAt a.pos;holding [v] (truthy v))):MT X io p a (Yct ma):=by
 obtain⟨_,A,sa⟩:=ha
 exact⟨_,Z0i rfl A he,λC H σ δ fp ex K' Q R h k=>sa C H σ δ fp ex _ _ R h λH' v r δ' fp' new r1 h1=>by
  have q:=r1.da R
  generalize r.data=d at q h1
  cases q with
  | non=>exact⟨_,rfl,k H' _ δ' fp' r1.base r1.stp h1⟩
  | bl b=>exact⟨_,rfl,k H' _ δ' fp' r1.base r1.stp h1⟩
  | int b=>exact⟨_,rfl,k H' _ δ' fp' r1.base r1.stp h1⟩
  | str x=>exact h1.elim
  | lst _ e q=>exact⟨_,.inl ⟨_,.inl e,rfl⟩,k H' _ δ' fp' r1.base r1.stp (by rw[q.isEmpty];exact h1)⟩
  | tup e q=>exact⟨_,.inr (.inl ⟨_,.inl (.inl e),rfl⟩),k H' _ δ' fp' r1.base r1.stp (by rw[q.isEmpty];exact h1)⟩
  | scr q=>exact⟨_,.inl ⟨_,q.sq,rfl⟩,k H' _ δ' fp' r1.base r1.stp (by simpa [Zt1]using h1)⟩
  | exc _ _ _=>exact h1.elim
  | fn _=>exact h1.elim
  | dic _ _ _ _=>exact h1.elim⟩
noncomputable def asB(d:Xa)(k:Bool->Prop):Prop:=match d with| .bool b=>k b|_=>False
noncomputable def Z2z(a b:MEt):MEt:=λδ K=>a δ λx δ1=>asB x.data λc=>if c=true then b δ1 K else K (.fz (.bool false)) δ1
noncomputable def Z6l(a:MEt):MEt:=λδ K=>a δ λx δ1=>asB x.data λc=>K (.fz (.bool (!c))) δ1
noncomputable def mIf(t:MTt)(a b:MEt):MEt:=λδ K=>t δ λc δ1=>if c=true then a δ1 K else b δ1 K
theorem Da.boolInv{H:Hp}{L:Addr->Prop}{v:V}{d:Xa}{k:Bool->Prop}(q:Da G H L v d)(h:asB d k):∃b,v= .bl b∧k b:=by
 cases q with
 | bl b=>exact⟨b,rfl,h⟩
 | _=>exact h.elim
theorem RE.step{C:MC G}{H H1 H2:Hp}{σ:St}{δ δ1 δ2:Zh}{fp fp1 fp2:Fp}{ex:Addr->Prop}{v:V}{r:OT}{new:List Addr}(S:Stp p H δ fp H1 δ1 fp1)(R:RE C io p' c H1 σ δ1 fp1 ex H2 v r δ2 fp2 new) :
  RE C io (p&&p') c H σ δ fp ex H2 v r δ2 fp2 new:=⟨R.rel,S.trans R.stp,R.own,R.nd,λa m=>S.al a (R.fresh a m)⟩
theorem Z4c{op}(h:ME X io p c a ma):ME X io p c (.BoolOp op [a] pos) ma:=by
 obtain⟨_,A,sa⟩:=h
 exact⟨_,Z5v A,sa⟩
theorem Z4k(ha:ME X io p c a ma)(hb:ME X io p' c' (.BoolOp .And (b :: rest) pos) mb):ME X io (p&&p') c' (.BoolOp .And (a :: b :: rest) pos) (Z2z ma mb):=by
 obtain⟨_,A,sa⟩:=ha
 obtain⟨_,B,sb⟩:=hb
 exact⟨_,Z3i A B,λC H σ δ fp ex K Q R h k=>sa C H σ δ fp ex _ _ R h λH' v r δ' fp' new r1 h1=>by
  obtain⟨b,rfl,h1⟩:=(r1.da R).boolInv h1
  refine⟨b,rfl,?_⟩
  cases b with
  | true=>
   rw[if_pos rfl]at h1⊢
   exact sb C H' σ δ' fp' ex _ _ r1.base h1 λH2 w r2 δ2 fp2 new2 R2 h2=>k H2 w r2 δ2 fp2 new2 (R2.step r1.stp) h2
  | false=>
   rw[if_neg XH]at h1⊢
   exact k H' _ _ δ' fp' [] (RE.fz r1.base r1.stp.andL (.bl false)) h1⟩
theorem Yax(ha:ME X io p c a ma):ME X io p true (.UnaryOp .Not a pos) (Z6l ma):=by
 obtain⟨_,A,sa⟩:=ha
 exact⟨_,Z67 A,λC H σ δ fp ex K Q R h k=>sa C H σ δ fp ex _ _ R h λH' v r δ' fp' new r1 h1=>by
  obtain⟨b,rfl,h1⟩:=(r1.da R).boolInv h1
  exact⟨b,rfl,k H' _ _ δ' fp' [] (RE.fz r1.base r1.stp (.bl _)) h1⟩⟩
theorem Stp.cast{p p':Bool}{H H':Hp}{δ δ':Zh}{fp fp':Fp}(h:p'=true->p=true)(S:Stp p H δ fp H' δ' fp'):Stp p' H δ fp H' δ' fp' :=
 ⟨λb o e q=>S.keep b o e (q.imp h id),λq=>S.env (h q),S.grow,S.al⟩
theorem RE.cast{C:MC G}{H H1:Hp}{σ:St}{δ δ1:Zh}{fp fp1:Fp}{ex:Addr->Prop}{v:V}{r:OT}{new:List Addr}(hp:p'=true->p=true)(hc:c'=true->c=true)(R:RE C io p c H σ δ fp ex H1 v r δ1 fp1 new) :
  RE C io p' c' H σ δ fp ex H1 v r δ1 fp1 new:=⟨R.rel,R.stp.cast hp,R.own.wide λa l _ z=>l (hc z),R.nd,R.fresh⟩
theorem Ydj{t:Expr}(ht:MT X io p t ta)(ha:ME X io p' c a ma)(hb:ME X io p'' c' b mb):ME X io (p&&(p'&&p'')) (c&&c') (.IfExp t a b pos) (mIf ta ma mb):=by
 obtain⟨_,T,st⟩:=ht
 obtain⟨_,A,sa⟩:=ha
 obtain⟨_,B,sb⟩:=hb
 exact⟨_,Zvk T A B,λC H σ δ fp ex K Q R h k=>st C H σ δ fp ex _ _ R h λH' b δ' fp' R' S h'=>by
  cases b with
  | true=>
   rw[if_pos rfl]at h'⊢
   exact sa C H' σ δ' fp' ex _ _ R' h' λH2 w r2 δ2 fp2 new2 R2 h2=>k H2 w r2 δ2 fp2 new2 ((R2.step S).cast (λz=>by simp at z;simp[z]) (λz=>by simp at z;exact z.1)) h2
  | false=>
   rw[if_neg XH]at h'⊢
   exact sb C H' σ δ' fp' ex _ _ R' h' λH2 w r2 δ2 fp2 new2 R2 h2=>k H2 w r2 δ2 fp2 new2 ((R2.step S).cast (λz=>by simp at z;simp[z]) (λz=>by simp at z;exact z.2)) h2⟩
end
section
variable {X:Cx}{io:List Nat}{p p' p'' c c':Bool}{e a b:Expr}{m ma mb:MEt}{es rest:List Expr}{mr:MAt}{pos:Pos}
noncomputable def Ycl:MAt:=λδ K=>K [] δ
noncomputable def Z59(m:MEt)(mr:MAt):MAt:=λδ K=>m δ λr δ1=>mr δ1 λrs δ2=>K (r :: rs) δ2
theorem Z25:MA X io true true [] Ycl:=⟨_,Zj4,λC H σ δ fp ex K Q R h k=>k H [] [] δ fp [] ⟨R.drop λa z=>Zbx.mp z,.refl _ _ _ _,.nil,.nil,λa m=>nomatch m⟩ h⟩
theorem Z0b(ha:ME X io p c e m)(hr:MA X io p' c' es mr)(hc:p'=true∨c=true)(hs:Xn (e :: es) X.env=(false,eval e X.env) :: Xn es X.env:=by rfl):MA X io (p&&p') (c&&c') (e :: es) (Z59 m mr):=by
 obtain⟨tA,A,sa⟩:=ha
 obtain⟨tB,B,sb⟩:=hr
 refine⟨_,Zdq A B hs,λC H σ δ fp ex K Q R h k=>?_⟩
 refine sa C H σ δ fp ex _ _ R h λH1 x u δ1 fp1 new1 r1 h1=>?_
 refine sb C H1 σ δ1 fp1 (exu ex new1) _ _ r1.rel h1 λH2 ys us δ2 fp2 new2 r2 h2=>?_
 have o1:=r1.rel.own_step (ex':=exu (exu ex new1) new2) r2.stp (c:=c) hc (λa z=>z.imp id λz=>r2.fresh a z) (λa m=>.inr m) r1.own
 have eqx:∀a,exu ex (new1 ++ new2) a->exu (exu ex new1) new2 a:=λa z=>by
  rcases z with z|z
  ·exact .inl (.inl z)
  ·rcases Xq.mp z with z|z
   ·exact .inl (.inr z)
   ·exact .inr z
 refine k H2 (x :: ys) (u :: us) δ2 fp2 (new1 ++ new2) ⟨r2.rel.drop eqx,r1.stp.trans r2.stp,.cons (o1.wide λa l _ z=>?_) (r2.own.wide λa l _ z=>?_),?_,?_⟩ h2
 ·have l:=l (by rw[XM]at z;exact z.1)
  exact⟨l.1,λw=>l.2.1 (eqx a w),l.2.2⟩
 ·have l:=l (by rw[XM]at z;exact z.2)
  exact⟨l.1,λw=>l.2.1 (eqx a w),l.2.2⟩
 ·refine Vg.mpr ⟨r1.nd,r2.nd,λa m b m' z=>?_⟩
  subst z
  obtain⟨xs,e⟩:=r1.own.some a m
  rw[r2.fresh a m']at e
  cases e
 ·intro a m
  rcases Xq.mp m with m|m
  ·exact r1.fresh a m
  ·exact r1.stp.al a (r2.fresh a m)
noncomputable def Ybo(m:MAt):MEt:=λδ K=>m δ λrs δ'=>rs.length≤Xr∧K (.fz (.tuple (OT.datas rs))) δ'
noncomputable def Ya5(m:MAt):MEt:=λδ K=>m δ λrs δ'=>rs.length≤Xr∧K (.nd rs) δ'
theorem Z9w{x1}(h:MA X io p c es mr):ME X io p c (.Tuple es x1 pos) (Ybo mr):=by
 obtain⟨tA,A,sa⟩:=h
 refine⟨_,Zw6 A,λC H σ δ fp ex K Q R h k=>?_⟩
 refine sa C H σ δ fp ex _ _ R h λH1 vs rs δ1 fp1 new1 r1 h1=>⟨by rw[r1.own.length];exact h1.1,λq hq=>?_⟩
 have s:=Z5 hq (.tup vs)
 have R1:=r1.base
 have S:=r1.stp.trans (p':=true) (Stp.same (p:=true) (δ:=δ1) (fp:=fp1) s s.al)
 rw[Bool.and_true]at S
 refine k _ _ _ δ1 fp1 [] (.fz ?_ S (.tup Z8 ((r1.das R).same s))) h1.2
 exact(R1.made (new:=[]) s λa m=>nomatch m).drop λa z=>.inl z
theorem Ya4(h:MA X io p c es mr):ME X io p c (.List es pos) (Ya5 mr):=by
 obtain⟨tA,A,sa⟩:=h
 refine⟨_,Zwr A,λC H σ δ fp ex K Q R h k=>?_⟩
 refine sa C H σ δ fp ex _ _ R h λH1 vs rs δ1 fp1 new1 r1 h1=>⟨by rw[r1.own.length];exact h1.1,λq hq=>?_⟩
 have s:=Z5 hq (.lst vs)
 have S:=r1.stp.trans (p':=true) (Stp.same (p:=true) (δ:=δ1) (fp:=fp1) s s.al)
 rw[Bool.and_true]at S
 have hqn:q∉new1:=λm=>by
  obtain⟨xs,e⟩:=r1.own.some q m
  rw[hq]at e;cases e
 have R2:=(r1.rel.made (new:=[q]) s λa m=>by
  rcases Xj.mp m with rfl
  exact⟨hq,by rw[Z8];intro z;cases z⟩)
 have eqx:∀a,exu ex (q :: new1) a->exu (exu ex new1) [q] a:=λa z=>by
  rcases z with z|z
  ·exact .inl (.inl z)
  ·rcases Xp.mp z with z|z
   ·exact .inr (Xj.mpr z)
   ·exact .inl (.inr z)
 refine k _ _ _ δ1 fp1 (q :: new1) ⟨R2.drop eqx,S,.nd Z8 ((r1.own.wide λa l w z=>?_).same s),QB.mpr ⟨hqn,r1.nd⟩,λa m=>?_⟩ h1.2
 ·have l:=l z
  refine⟨l.1,λy=>?_,l.2.2⟩
  rcases eqx a y with y|y
  ·exact l.2.1 y
  ·rcases Xj.mp y with rfl
   exact w hq
 ·rcases Xp.mp m with rfl|m
  ·exact r1.stp.al _ hq
  ·exact r1.fresh a m
end
variable {G:Xd}
noncomputable def spD(G:Xd)(S:List Xa->(OT->Prop)->Prop):Sp:=λvs H Q _=>∃L ds k,Das G H L vs ds∧S ds k∧
 ∀r v H' new,k r->Same H H'->Own G H' (λa=>(L a∨H a=none)∧a∉new) v r new->new.Nodup->(∀a∈new,H a=none)->Q v H'
noncomputable def spI(G:Xd)(S:OT->List Xa->(OT->OT->Prop)->Prop):Sp:=λvs H Q _=>∃L v0 t0 as vs' ds k,vs=v0 :: vs'∧Own G H L v0 t0 as∧as.Nodup∧(∀a∈as,¬L a)∧Das G H L vs' ds∧S t0 ds k∧
 ∀r t' v H' new as',k r t'->(∀b o,H b=some o->b∉as->H' b=some o)->(∀b,H' b=none->H b=none) ->
  Own G H' (λa=>(L a∨H a=none)∧a∉new∧a∉as') v r new->Own G H' (λa=>(L a∨H a=none)∧a∉new∧a∉as') v0 t' as'->(as' ++ new).Nodup->(∀a∈new,H a=none)->(∀a∈as',a∈as∨H a=none)->Q v H'
section
variable {X:Cx}{io:List Nat}{p p' p'' c c':Bool}{e a b:Expr}{m ma mb:MEt}{es rest:List Expr}{mr:MAt}{pos:Pos}
variable {CX:CXT}{k:Nat}{f:Addr}{fd:Qn}{ps:List Str}{E:XK}{x:Str}{pp:Pos}
noncomputable def Zzm(S:List Xa->(OT->Prop)->Prop)(mr:MAt):MEt:=λδ K=>mr δ λrs δ1=>S (OT.datas rs) λr=>K r δ1
theorem Yaz{S}{t:TA}(sa:SA G io p c t mr):SE G io p c (Z1g (spD G S) [] E t) (Zzm S mr):=by
 intro C H σ δ fp ex K Q R h kk
 refine sa C H σ δ fp ex _ _ R h λH1 vs rs δ1 fp1 new1 r1 h1=>?_
 rw[QS]
 refine⟨_,_,_,r1.das R,h1,λr v H' new kr s o nd hn=>?_⟩
 exact kk H' v r δ1 fp1 new (RE.tree R r1.base r1.stp s hn nd o) kr
theorem Z7f{S}(F:FnOk X.prog X.w X.K X.mg X.base CX k f fd ps (spD X.K S))(hr:Room k X.A)(hg:Gl X x)(hm:X.mg x=some (.ref f))(hk:X3 X.K (.ref f)=true)(hb:Binds X.K fd ps [])(hx:Zkz CX X E)
  (ha:MA X io p c (e :: es) mr) (hdb:(x==("__debug__" : Str))=false:=by decide) (he:Xn (e :: es) X.env=(false,eval e X.env) :: Xn es X.env:=by rfl) (hpl:(JP pos (Xn es X.env)).any (·.1)=false:=by rfl) :
  ME X io p c (.Call (.Name x pp) (e :: es) [] pos) (Zzm S mr):=by
 obtain⟨_,A,sa⟩:=ha
 exact⟨_,Zq6 F hr hg hm hk hb .nil hx A hdb he hpl,Yaz sa⟩
noncomputable def Zkc(i:Nat)(S:OT->List Xa->(OT->OT->Prop)->Prop)(mr:MAt):MEt:=λδ K=>match δ[i]? with
 | some (some _)=>mr δ λrs δ1=>match δ1[i]? with
  | some (some t)=>S t (OT.datas rs) λr t'=>K r (δ1.set i (some t'))
  | _=>False
 | _=>False
noncomputable def fpu(fp:Fp)(i:Nat)(as:List Addr):Fp:=λj=>if j=i then as else fp j
theorem Yh{fp:Fp}{i:Nat}{as:List Addr}:fpu fp i as i=as:=if_pos rfl
theorem Wd{fp:Fp}{i j:Nat}{as:List Addr}(h:j≠i):fpu fp i as j=fp j:=if_neg h
theorem Foot.of_u{fp:Fp}{i:Nat}{as:List Addr}{a:Addr}(h:Foot (fpu fp i as) a):a∈as∨∃j,j≠i∧a∈fp j:=by
 obtain⟨j,h⟩:=h
 by_cases e:j=i
 ·subst e;rw[Yh]at h;exact .inl h
 ·rw[Wd e]at h;exact .inr ⟨j,e,h⟩
theorem Rel.change{C:MC G}{H H':Hp}{σ:St}{δ:Zh}{fp:Fp}{ex:Addr->Prop}{i:Nat}{t t':OT}{v:V}{as' new:List Addr}(R:Rel C io H σ δ fp ex)(hi:δ[i]? =some (some t))(hv:σ[i]? =some (some v))
  (keep:∀b o,H b=some o->b∉fp i->H' b=some o) (al:∀b,H' b=none->H b=none) (o:Own G H' (Lf C (fpu fp i as') (exu ex new)) v t' as') (nd:as'.Nodup) (new':∀a∈as',a∈fp i∨H a=none)
  (hn:∀a∈new,H a=none∧H' a≠none∧a∉as') :
  Rel C io H' σ (δ.set i (some t')) (fpu fp i as') (exu ex new)∧Stp false H δ fp H' (δ.set i (some t')) (fpu fp i as'):=by
 have hil:i<δ.length:=(Xo.mp hi).1
 have apart:∀j a,j≠i->a∈fp j->a∉as':=λj a e m z=>by
  rcases new' a z with z|z
  ·exact e (R.dj j i a m z)
  ·exact R.footSome z ⟨j,m⟩
 constructor
 ·refine⟨by rw[Uk];exact R.len,λj t'' e=>?_,λj h=>?_,λj=>?_,λj k a h1 h2=>?_,λj a h z=>?_,λa z w=>z.elim (λz=>R.xa a z (al a w)) (λz=>(hn a z).2.1 w),λb ob e n=>?_,λb z=>R.al b (al b z),λj a h=>?_,R.io⟩
  ·by_cases ej:j=i
   ·subst ej
    rw[JF hil]at e
    cases e
    exact⟨v,hv,by rw[Yh];exact o⟩
   ·rw[QM (Vr ej)]at e
    obtain⟨w,e1,o1⟩:=R.own j t'' e
    refine⟨w,e1,?_⟩
    rw[Wd ej]
    refine o1.frame (λa xs l q=>?_) (λa xs q=>keep a _ q λz=>?_) λa m xs q=>keep a _ q λz=>ej (R.dj j i a m z)
    ·have na:a∉fp i:=λz=>l.1 ⟨i,z⟩
     refine⟨⟨λz=>?_,λz=>z.elim l.2.1 λz=>q.some (hn a z).1,l.2.2⟩,?_⟩
     ·rcases z.of_u with z|⟨k,_,z⟩
      ·rcases new' a z with z|z
       ·exact na z
       ·exact q.some z
      ·exact l.1 ⟨k,z⟩
     ·rcases q with q|⟨u,q⟩
      ·exact .inl (keep a _ q na)
      ·exact .inr ⟨u,keep a _ q na⟩
    ·obtain⟨ys,e⟩:=R.foot ⟨i,z⟩
     exact ImO.nm q e
  ·by_cases ej:j=i
   ·subst ej
    exact absurd (JF hil) (h t')
   ·rw[Wd ej]
    refine R.emp j λt'' z=>h t'' ?_
    rw[QM (Vr ej)]
    exact z
  ·by_cases ej:j=i
   ·subst ej;rw[Yh];exact nd
   ·rw[Wd ej];exact R.nd j
  ·by_cases ej:j=i
   ·subst ej
    rw[Yh]at h1
    by_cases ek:k=j
    ·exact ek.symm
    ·rw[Wd ek]at h2
     exact absurd h1 (apart k a ek h2)
   ·rw[Wd ej]at h1
    by_cases ek:k=i
    ·subst ek
     rw[Yh]at h2
     exact absurd h2 (apart j a ej h1)
    ·rw[Wd ek]at h2
     exact R.dj j k a h1 h2
  ·by_cases ej:j=i
   ·subst ej
    rw[Yh]at h
    rcases z with z|z
    ·rcases new' a h with w|w
     ·exact R.dx _ a w z
     ·exact R.xa a z w
    ·exact(hn a z).2.2 h
   ·rw[Wd ej]at h
    rcases z with z|z
    ·exact R.dx j a h z
    ·exact R.footSome (hn a z).1 ⟨j,h⟩
  ·refine keep b ob (R.fr b ob e n) λz=>?_
   rcases R.new i b z with w|w
   ·exact n w.2
   ·rw[e]at w;cases w
  ·by_cases ej:j=i
   ·subst ej
    rw[Yh]at h
    rcases new' a h with w|w
    ·exact R.new _ a w
    ·exact .inr (R.al a w)
   ·rw[Wd ej]at h
    exact R.new j a h
 ·refine⟨λb ob e q=>keep b ob e λz=>(q.resolve_left (by decide)) ⟨i,z⟩,λz=>(nomatch z),λa z=>?_,al⟩
  rcases z.of_u with z|⟨j,_,z⟩
  ·exact(new' a z).imp (λw=>⟨i,w⟩) id
  ·exact .inl ⟨j,z⟩
theorem Z5q{S}{i:Nat}{t:TA}(sa:SA G io p true t mr):SE G io false true (Z1g (spI G S) [] E (Z4b (Z9t i) t)) (Zkc i S mr):=by
 intro C H σ δ fp ex K Q R h kk
 unfold Zkc at h
 split at h
 case h_2=>exact h.elim
 rename_i t0 hi0
 obtain⟨v0,hv,_⟩:=R.own i t0 hi0
 refine⟨v0,hv,?_⟩
 refine sa C H σ δ fp ex _ _ R h λH1 vs rs δ1 fp1 new1 r1 h1=>?_
 show spI G S ((v0 :: vs) ++ []) H1 Q E
 rw[QS]
 split at h1
 case h_2=>exact h1.elim
 rename_i t1 hi1
 have R1:=r1.base
 obtain⟨v1,hv1,o1⟩:=R1.own i t1 hi1
 rw[hv]at hv1
 cases hv1
 refine⟨Lf C fp1 ex,v0,t1,fp1 i,vs,_,_,rfl,o1,R1.nd i,λa m l=>l.1 ⟨i,m⟩,(r1.das R).wide λa l _=>l rfl,h1,?_⟩
 intro r t' v H' new as' kr keep al orr ot nd hn ha
 have nd2:=Vg.mp nd
 have lw:∀a,((Lf C fp1 ex a∨H1 a=none)∧a∉new∧a∉as')->H' a≠none->Lf C (fpu fp1 i as') (exu ex new) a:=λa l _=>by
  have hf:¬Foot (fpu fp1 i as') a:=λz=>by
   rcases z.of_u with z|⟨j,_,z⟩
   ·exact l.2.2 z
   ·rcases l.1 with l1|l1
    ·exact l1.1 ⟨j,z⟩
    ·exact R1.footSome l1 ⟨j,z⟩
  rcases l.1 with l1|l1
  ·exact⟨hf,λz=>z.elim l1.2.1 l.2.1,l1.2.2⟩
  ·have:=R1.newOk l1
   exact⟨hf,λz=>z.elim this.2.1 l.2.1,.inr this.2.2⟩
 have hnn:∀a∈new,H' a≠none:=λa m z=>by
  obtain⟨xs,e⟩:=orr.some a m
  rw[z]at e;cases e
 obtain⟨R2,S2⟩:=R1.change (new:=new) hi1 hv keep al (ot.wide lw) nd2.1 ha (λa m=>⟨hn a m,hnn a m,λz=>nd2.2.2 a z a m rfl⟩)
 refine kk H' v r _ _ new ⟨R2,?_,orr.wide λa l q _=>lw a l q,nd2.2.1,λa m=>r1.stp.al a (hn a m)⟩ kr
 exact(r1.stp.trans S2).cast λz=>nomatch z
theorem Yw{S}{i:Nat}{y:Str}{py:Pos}(F:FnOk X.prog X.w X.K X.mg X.base CX k f fd ps (spI X.K S))(hr:Room k X.A)(hg:Gl X x)(hm:X.mg x=some (.ref f))(hk:X3 X.K (.ref f)=true)(hb:Binds X.K fd ps [])(hx:Zkz CX X E)
  (ha:MA X io p true es mr) (hN:X.N[i]? =some y:=by rfl) (hv:Vis X.env.scope y:=by first|exact QF rfl|exact QJ (QF rfl)|exact QJ (QJ rfl)) (hd:(y==("__debug__" : Str))=false:=by decide)
  (hcd:(y==("__classdict__" : Str))=false:=by decide)
  (hdb:(x==("__debug__" : Str))=false:=by decide) (he:Xn (.Name y py :: es) X.env=(false,eval (.Name y py) X.env) :: Xn es X.env:=by rfl) (hpl:(JP pos (Xn es X.env)).any (·.1)=false:=by rfl) :
  ME X io false true (.Call (.Name x pp) (.Name y py :: es) [] pos) (Zkc i S mr):=by
 obtain⟨_,A,sa⟩:=ha
 exact⟨_,Zq6 F hr hg hm hk hb .nil hx (Zdq (pv i hN hv hd hcd) A he) hdb he hpl,Z5q sa⟩
noncomputable def PNs(G:Xd)(r:List V->Hp->VK->Prop)(rp:List Xa->(Xa->Prop)->Prop):Prop:=∀(H:Hp) (L:Addr->Prop) (xs:List V) (ds:List Xa) (k:Xa->Prop) (Q:VK),Das G H L xs ds->rp ds k->(∀v d',ScD v d'->k d'->Q v H)->r xs H Q
noncomputable def PN(G:Xd)(r:List V->Hp->VK->Prop)(rp:List Xa->(OT->Prop)->Prop):Prop:=∀(H:Hp) (L:Addr->Prop) (xs:List V) (ds:List Xa) (k:OT->Prop) (Q:VK),Das G H L xs ds->rp ds k ->
 (∀ H' v o new,Same H H'->Own G H' (λa=>(L a∨H a=none)∧a∉new) v o new->new.Nodup->(∀a∈new,H a=none)->k o->Q v H')->r xs H Q
noncomputable def Z7y(rp:List Xa->(Xa->Prop)->Prop)(mr:MAt):MEt:=λδ K=>mr δ λrs δ1=>rp (OT.datas rs) λd=>K (.fz d) δ1
noncomputable def mBl(rp:List Xa->(OT->Prop)->Prop)(mr:MAt):MEt:=λδ K=>mr δ λrs δ1=>rp (OT.datas rs) λo=>K o δ1
theorem Ycq{r rp}{t:TA}(P:PNs G r rp)(sa:SA G io p c t mr):SE G io p true (tCB r t) (Z7y rp mr):=λC H σ δ fp ex K Q R h kk=>
 sa C H σ δ fp ex _ _ R h λH1 vs rs δ1 fp1 new1 r1 h1=>P H1 _ vs _ _ _ (r1.das R) h1 λv d' sc h2=>kk H1 v _ δ1 fp1 [] (.fz r1.base r1.stp sc.da) h2
theorem sBl{r rp}{t:TA}(P:PN G r rp)(sa:SA G io p c t mr):SE G io p c (tCB r t) (mBl rp mr):=λC H σ δ fp ex K Q R h kk=>
 sa C H σ δ fp ex _ _ R h λH1 vs rs δ1 fp1 new1 r1 h1=>P H1 _ vs _ _ _ (r1.das R) h1 λH' v o new s ow nd hn h2=>kk H' v o δ1 fp1 new (RE.tree R r1.base r1.stp s hn nd ow) h2
variable {id T:String}{r:List V->Hp->VK->Prop}
theorem Zjl{rp}(P:PNs X.K r rp)(hc:Zbt X (.builtin id) r)(hg:Gl X x)(hm:X.mg x=none)(hv:X8 x=some (.builtin id))(ha:MA X io p c (e :: es) mr)(hn:x≠"__name__" :=by decide)(hdb:(x==("__debug__" : Str))=false:=by decide)
  (he:Xn (e :: es) X.env=(false,eval e X.env) :: Xn es X.env:=by rfl) (hpl:(JP pos (Xn es X.env)).any (·.1)=false:=by rfl):ME X io p true (.Call (.Name x pp) (e :: es) [] pos) (Z7y rp mr):=by
 obtain⟨_,A,sa⟩:=ha
 exact⟨_,Zig hc hg hm hv A hn hdb he hpl,Ycq P sa⟩
theorem Z9b{rp}(P:PN X.K r rp)(hc:Zbt X (.builtin id) r)(hg:Gl X x)(hm:X.mg x=none)(hv:X8 x=some (.builtin id))(ha:MA X io p c (e :: es) mr)(hn:x≠"__name__" :=by decide)(hdb:(x==("__debug__" : Str))=false:=by decide)
  (he:Xn (e :: es) X.env=(false,eval e X.env) :: Xn es X.env:=by rfl) (hpl:(JP pos (Xn es X.env)).any (·.1)=false:=by rfl):ME X io p c (.Call (.Name x pp) (e :: es) [] pos) (mBl rp mr):=by
 obtain⟨_,A,sa⟩:=ha
 exact⟨_,Zig hc hg hm hv A hn hdb he hpl,sBl P sa⟩
theorem Z51{rp}(P:PNs X.K r rp)(hc:Zbt X (.type T) r)(hg:Gl X x)(hm:X.mg x=none)(hv:X8 x=some (.type T))(ha:MA X io p c (e :: es) mr)(hn:x≠"__name__" :=by decide)(hdb:(x==("__debug__" : Str))=false:=by decide)
  (he:Xn (e :: es) X.env=(false,eval e X.env) :: Xn es X.env:=by rfl) (hpl:(JP pos (Xn es X.env)).any (·.1)=false:=by rfl):ME X io p true (.Call (.Name x pp) (e :: es) [] pos) (Z7y rp mr):=by
 obtain⟨_,A,sa⟩:=ha
 exact⟨_,Zd6 hc hg hm hv A hn hdb he hpl,Ycq P sa⟩
theorem Yeu{rp}(P:PN X.K r rp)(hc:Zbt X (.type T) r)(hg:Gl X x)(hm:X.mg x=none)(hv:X8 x=some (.type T))(ha:MA X io p c (e :: es) mr)(hn:x≠"__name__" :=by decide)(hdb:(x==("__debug__" : Str))=false:=by decide)
  (he:Xn (e :: es) X.env=(false,eval e X.env) :: Xn es X.env:=by rfl) (hpl:(JP pos (Xn es X.env)).any (·.1)=false:=by rfl):ME X io p c (.Call (.Name x pp) (e :: es) [] pos) (mBl rp mr):=by
 obtain⟨_,A,sa⟩:=ha
 exact⟨_,Zd6 hc hg hm hv A hn hdb he hpl,sBl P sa⟩
end
variable {G:Xd}
mutual
noncomputable def Za3:Xa->Bool
 | .none=>true
 | .bool _=>true
 | .int _=>true
 | .str _=>true
 | .tuple ds=>Zj3 ds
 | .list _=>false
 | .dict _=>false
noncomputable def Zj3:List Xa->Bool
 | []=>true
 | d :: ds=>Za3 d&&Zj3 ds
end
theorem Da.flat2{H:Hp}{L L':Addr->Prop}:(∀{v:V} {d:Xa},Da G H L v d->Za3 d=true->Da G H L' v d)∧∀{v:List V} {d:List Xa},Das G H L v d->Zj3 d=true->Das G H L' v d :=
 Da.both (λ_=>.non) (λb _=>.bl b) (λi _=>.int i) (λx _=>.str x) (λ_ _ _ h=>by rw[Za3]at h;cases h) (λe r h=>.tup e (r (by rw[Za3]at h;exact h))) (λk _=>.scr k) (λc n e _=>.exc c n e) (λk _=>.fn k) (λ_ _ _ _ h=>by rw[dcD,Za3]at h;cases h) (λ_=>.nil)
  (λk r h=>by rw[Zj3,XM]at h;exact .cons (k h.1) (r h.2))
theorem Da.flat{H:Hp}{L L':Addr->Prop}{v:V}{d:Xa}(h:Da G H L v d)(f:Za3 d=true):Da G H L' v d:=Da.flat2.1 h f
set_option genInjectivity false in
structure Zgy where
 nx:Zh->Prop
 rt:OT->Zh->Prop
 bk:Zh->Prop:=λ_=>False
 ct:Zh->Prop:=λ_=>False
noncomputable abbrev MSt:=Zgy->Zh->Prop
noncomputable abbrev Kp(H:Hp)(fp:Fp)(H':Hp)(fp':Fp):Prop:=Stp false H [] fp H' [] fp'
theorem Stp.kp{p:Bool}{H H':Hp}{δ δ':Zh}{fp fp':Fp}(S:Stp p H δ fp H' δ' fp'):Kp H fp H' fp':=⟨λb o e q=>S.keep b o e (.inr (q.resolve_left (by decide))),λz=>(nomatch z),S.grow,S.al⟩
theorem Kp.trans{H H1 H2:Hp}{fp fp1 fp2:Fp}(a:Kp H fp H1 fp1)(b:Kp H1 fp1 H2 fp2):Kp H fp H2 fp2:=Stp.trans a b
theorem Kp.refl(H:Hp)(fp:Fp):Kp H fp H fp:=Stp.refl _ _ _ _
structure RelEnds(C:MC G)(io:List Nat)(ex:Addr->Prop)(H:Hp)(fp:Fp)(D:Zgy)(D':Ends):Prop where
 nx:∀H' σ' δ' fp',Rel C io H' σ' δ' fp' ex->Kp H fp H' fp'->D.nx δ'->D'.nx σ' H'
 bk:∀H' σ' δ' fp',Rel C io H' σ' δ' fp' ex->Kp H fp H' fp'->D.bk δ'->D'.bk σ' H'
 ct:∀H' σ' δ' fp',Rel C io H' σ' δ' fp' ex->Kp H fp H' fp'->D.ct δ'->D'.ct σ' H'
 rt:∀H' σ' v r δ' fp' new,Rel C io H' σ' δ' fp' (exu ex new)->Own G H' (Lf C fp' (exu ex new)) v r new->new.Nodup->(∀a∈new,C.H₀ a=none)->D.rt r δ'->D'.rt v H'
theorem RelEnds.shift{C:MC G}{io:List Nat}{ex:Addr->Prop}{H H1:Hp}{fp fp1:Fp}{D:Zgy}{D':Ends}(E:RelEnds C io ex H fp D D')(k:Kp H fp H1 fp1):RelEnds C io ex H1 fp1 D D' :=
 ⟨λH' σ' δ' fp' R q=>E.nx H' σ' δ' fp' R (k.trans q),λH' σ' δ' fp' R q=>E.bk H' σ' δ' fp' R (k.trans q),λH' σ' δ' fp' R q=>E.ct H' σ' δ' fp' R (k.trans q),E.rt⟩
noncomputable def SS(G:Xd)(io:List Nat)(t:TS)(m:MSt):Prop:=∀(C:MC G) (H:Hp) (σ:St) (δ:Zh) (fp:Fp) (ex:Addr->Prop) (D:Zgy) (D':Ends),Rel C io H σ δ fp ex->m D δ->RelEnds C io ex H fp D D'->t D' σ H
noncomputable def MS(X:Cx)(io:List Nat)(st:Stmt)(m:MSt):Prop:=∃t,PS X st t∧SS X.K io t m
noncomputable def MSs(X:Cx)(io:List Nat)(st:List Stmt)(m:MSt):Prop:=∃t,PSs X st t∧SS X.K io t m
section
variable {X:Cx}{io:List Nat}{p p' p'' c c':Bool}{e a b:Expr}{m ma mb:MEt}{es rest:List Expr}{mr:MAt}{pos:Pos}{st:Stmt}{sts:List Stmt}{u w:MSt}{mt:MTt}
noncomputable def Z36:MSt:=λD δ=>D.nx δ
noncomputable def Yen(w:MSt)(D:Zgy)(δ:Zh):Prop:=w D δ
noncomputable def Z8u(u w:MSt):MSt:=λD δ=>u { D with nx:=Yen w D } δ
theorem Z1l:MSs X io [] Z36:=⟨_,Z1j,λC H σ δ fp ex D D' R h E=>E.nx H σ δ fp R (.refl _ _) h⟩
theorem Zj(h:MS X io st u):MSs X io [st] u:=by
 obtain⟨_,A,s⟩:=h
 exact⟨_,Z11 A,s⟩
theorem Zvw(h:MS X io st u)(g:MSs X io sts w):MSs X io (st :: sts) (Z8u u w):=by
 obtain⟨_,A,s⟩:=h
 obtain⟨tb,B,s'⟩:=g
 exact⟨_,Zwn A B,λC H σ δ fp ex D D' R h E=>s C H σ δ fp ex _ _ R h ⟨λH1 σ1 δ1 fp1 R1 k1 h1=>s' C H1 σ1 δ1 fp1 ex D D' R1 h1 (E.shift k1),E.bk,E.ct,E.rt⟩⟩
noncomputable def Z5c:MSt:=λ_ _=>False
theorem Zui:MS X io st Z5c:=⟨_,Ztz,λC H σ δ fp ex D D' R h E=>h.elim⟩
noncomputable def Z3n(m:MEt):MSt:=λD δ=>m δ λ_ δ'=>D.nx δ'
theorem Zta(he:ME X io p c e m)(hs:VP e none pos.line X.env=pure false:=by rfl):MS X io (.Expr e pos) (Z3n m):=by
 obtain⟨_,A,s⟩:=he
 exact⟨_,Zr8 A hs,λC H σ δ fp ex D D' R h E=>s C H σ δ fp ex _ _ R h λH' v r δ' fp' new r1 h1=>E.nx H' σ δ' fp' r1.base r1.stp.kp h1⟩
noncomputable def Yc1(m:MEt):MSt:=λD δ=>m δ λr δ'=>D.rt r δ'
theorem Z55(he:ME X io p true e m):MS X io (.Return (some e) pos) (Yc1 m):=by
 obtain⟨_,A,s⟩:=he
 exact⟨_,Zx4 A,λC H σ δ fp ex D D' R h E=>s C H σ δ fp ex _ _ R h λH' v r δ' fp' new r1 h1=>E.rt H' σ v r δ' fp' new r1.rel (r1.own.wide λa l _=>l rfl) r1.nd (λa m=>(R.newOk (r1.fresh a m)).2.2) h1⟩
noncomputable def Zuf(i:Nat):MSt:=λD δ=>match δ[i]? with|some (some t)=>D.rt t (δ.set i none)|_=>False
theorem Rel.take{C:MC G}{H:Hp}{σ:St}{δ:Zh}{fp:Fp}{ex:Addr->Prop}{i:Nat}{t:OT}(R:Rel C io H σ δ fp ex)(hi:δ[i]? =some (some t)):Rel C io H σ (δ.set i none) (fpu fp i []) (exu ex (fp i)):=by
 have hil:i<δ.length:=(Xo.mp hi).1
 have get:∀j (t':OT),(δ.set i none)[j]? =some (some t')->j≠i∧δ[j]? =some (some t'):=λj t' e=>by
  by_cases ej:j=i
  ·subst ej;rw[JF hil]at e;cases e
  ·rw[QM (Vr ej)]at e;exact⟨ej,e⟩
 have sub:∀j a,a∈fpu fp i [] j->j≠i∧a∈fp j:=λj a m=>by
  by_cases ej:j=i
  ·subst ej;rw[Yh]at m;exact nomatch m
  ·rw[Wd ej]at m;exact⟨ej,m⟩
 have lw:∀a,Lf C fp ex a->Lf C (fpu fp i []) (exu ex (fp i)) a:=λa l=>⟨λ⟨j,z⟩=>l.1 ⟨j,(sub j a z).2⟩,λz=>z.elim l.2.1 λz=>l.1 ⟨i,z⟩,l.2.2⟩
 refine⟨by rw[Uk];exact R.len,λj t' e=>?_,λj h=>?_,λj=>?_,λj k a h1 h2=>R.dj j k a (sub j a h1).2 (sub k a h2).2,λj a h z=>?_,λa z w=>?_,R.fr,R.al,λj a h=>R.new j a (sub j a h).2,R.io⟩
 ·obtain⟨ej,e⟩:=get j t' e
  obtain⟨w,e1,o⟩:=R.own j t' e
  exact⟨w,e1,by rw[Wd ej];exact o.wide λa l _=>lw a l⟩
 ·by_cases ej:j=i
  ·subst ej;rw[Yh]
  ·rw[Wd ej]
   exact R.emp j λt' z=>h t' (by rw[QM (Vr ej)];exact z)
 ·by_cases ej:j=i
  ·subst ej;rw[Yh];exact .nil
  ·rw[Wd ej];exact R.nd j
 ·obtain⟨ej,h⟩:=sub j a h
  rcases z with z|z
  ·exact R.dx j a h z
  ·exact ej (R.dj j i a h z)
 ·rcases z with z|z
  ·exact R.xa a z w
  ·exact R.footSome w ⟨i,z⟩
theorem Zgd(i:Nat){x:Str}{px:Pos}(hio:i∉io:=by decide)(hN:X.N[i]? =some x:=by rfl)(hv:Vis X.env.scope x:=by first|exact QF rfl|exact QJ (QF rfl)|exact QJ (QJ rfl))(hd:(x==("__debug__" : Str))=false:=by decide)
  (hcd:(x==("__classdict__" : Str))=false:=by decide):MS X io (.Return (some (.Name x px)) pos) (Zuf i):=by
 refine⟨_,Zx4 (pv i hN hv hd hcd),λC H σ δ fp ex D D' R h E=>?_⟩
 unfold Zuf at h
 split at h
 case h_2=>exact h.elim
 rename_i t hi
 obtain⟨v,e,o⟩:=R.own i t hi
 have lw:∀a,Lf C fp ex a->H a≠none->Lf C (fpu fp i []) (exu ex (fp i)) a:=λa l _=>⟨λz=>by
  rcases z.of_u with z|⟨j,_,z⟩
  ·exact nomatch z
  ·exact l.1 ⟨j,z⟩,λz=>z.elim l.2.1 λz=>l.1 ⟨i,z⟩,l.2.2⟩
 have hn:∀a∈fp i,C.H₀ a=none:=λa m=>by
  rcases R.new i a m with z|z
  ·exact absurd z.1 hio
  ·exact z
 exact⟨v,e,E.rt H σ v t _ _ (fp i) (R.take hi) (o.wide lw) (R.nd i) hn h⟩
noncomputable def Yc4(t:MTt)(u w:MSt):MSt:=λD δ=>t δ λb δ'=>if b=true then u D δ' else w D δ'
theorem Yaf{cnd:Expr}{ss ss':List Stmt}(hc:MT X io p cnd mt)(ha:MSs X io ss u)(hb:MSs X io ss' w):MS X io (.If cnd ss ss' pos) (Yc4 mt u w):=by
 obtain⟨_,T,s⟩:=hc
 obtain⟨_,A,sa⟩:=ha
 obtain⟨_,B,sb⟩:=hb
 exact⟨_,Z9j T A B,λC H σ δ fp ex D D' R h E=>s C H σ δ fp ex _ _ R h λH' b δ' fp' R' S h'=>by
  cases b with
  | true=>
   rw[if_pos rfl]at h'⊢
   exact sa C H' σ δ' fp' ex D D' R' h' (E.shift S.kp)
  | false=>
   rw[if_neg XH]at h'⊢
   exact sb C H' σ δ' fp' ex D D' R' h' (E.shift S.kp)⟩
theorem Rel.put{C:MC G}{H:Hp}{σ:St}{δ:Zh}{fp:Fp}{ex:Addr->Prop}{i:Nat}{v:V}{r:OT}{new:List Addr}(R:Rel C io H σ δ fp (exu ex new))(hio:i∉io)(o:Own G H (Lf C fp (exu ex new)) v r new)(nd:new.Nodup)
  (hn:∀a∈new,C.H₀ a=none∧¬ex a):∃fp',Rel C io H (σ.set i (some v)) (δ.set i (some r)) fp' ex∧∀a,Foot fp' a->Foot fp a∨a∈new:=by
 by_cases hil:i<δ.length
 case neg=>
  refine⟨fp,?_,λa h=>.inl h⟩
  have hl:=R.len
  rw[List.set_eq_of_length_le (show δ.length≤i by omega),List.set_eq_of_length_le (show σ.length≤i by omega)]
  exact R.drop λa z=>.inl z
 have hsl:i<σ.length:=by rw[R.len];exact hil
 have sub:∀a,Foot (fpu fp i new) a->Foot fp a∨a∈new:=λa z=>by
  rcases z.of_u with z|⟨j,_,z⟩
  ·exact .inr z
  ·exact .inl ⟨j,z⟩
 have lw:∀a,Lf C fp (exu ex new) a->Lf C (fpu fp i new) ex a:=λa l=>⟨λz=>(sub a z).elim l.1 λz=>l.2.1 (.inr z),λz=>l.2.1 (.inl z),l.2.2⟩
 refine⟨fpu fp i new,⟨by rw[Uk,Uk];exact R.len,λj t' e=>?_,λj h=>?_,λj=>?_,λj k a h1 h2=>?_,λj a h z=>?_,λa z=>R.xa a (.inl z),R.fr,R.al,λj a h=>?_,λj hj=>?_⟩,sub⟩
 ·by_cases ej:j=i
  ·subst ej
   rw[JF hil]at e
   cases e
   exact⟨v,JF hsl,by rw[Yh];exact o.wide λa l _=>lw a l⟩
  ·rw[QM (Vr ej)]at e
   obtain⟨w,e1,o1⟩:=R.own j t' e
   exact⟨w,by rw[QM (Vr ej)];exact e1,by rw[Wd ej];exact o1.wide λa l _=>lw a l⟩
 ·by_cases ej:j=i
  ·subst ej;exact absurd (JF hil) (h r)
  ·rw[Wd ej]
   exact R.emp j λt' z=>h t' (by rw[QM (Vr ej)];exact z)
 ·by_cases ej:j=i
  ·subst ej;rw[Yh];exact nd
  ·rw[Wd ej];exact R.nd j
 ·by_cases ej:j=i
  ·subst ej
   rw[Yh]at h1
   by_cases ek:k=j
   ·exact ek.symm
   ·rw[Wd ek]at h2
    exact absurd (.inr h1) (R.dx k a h2)
  ·rw[Wd ej]at h1
   by_cases ek:k=i
   ·subst ek
    rw[Yh]at h2
    exact absurd (.inr h2) (R.dx j a h1)
   ·rw[Wd ek]at h2
    exact R.dj j k a h1 h2
 ·by_cases ej:j=i
  ·subst ej
   rw[Yh]at h
   exact(hn a h).2 z
  ·rw[Wd ej]at h
   exact R.dx j a h (.inl z)
 ·by_cases ej:j=i
  ·subst ej
   rw[Yh]at h
   exact .inr (hn a h).1
  ·rw[Wd ej]at h
   exact R.new j a h
 ·have ej:j≠i:=λz=>hio (z▸hj)
  rw[QM (Vr ej)]
  exact R.io j hj
theorem RE.put{C:MC G}{H H':Hp}{σ:St}{δ δ':Zh}{fp fp':Fp}{ex:Addr->Prop}{i:Nat}{v:V}{r:OT}{new:List Addr}(R:RE C io p true H σ δ fp ex H' v r δ' fp' new)(R0:Rel C io H σ δ fp ex)(hio:i∉io) :
  ∃fp2,Rel C io H' (σ.set i (some v)) (δ'.set i (some r)) fp2 ex∧Kp H fp H' fp2:=by
 obtain⟨fp2,R2,g⟩:=R.rel.put hio (R.own.wide λa l _=>l rfl) R.nd λa m=>⟨(R0.newOk (R.fresh a m)).2.2,(R0.newOk (R.fresh a m)).2.1⟩
 refine⟨fp2,R2,λb o e q=>R.stp.keep b o e (.inr (q.resolve_left (by decide))),λz=>(nomatch z),λa z=>?_,R.stp.al⟩
 rcases g a z with z|z
 ·exact R.stp.grow a z
 ·exact .inr (R.fresh a z)
theorem RE.fzc{C:MC G}{H H':Hp}{σ:St}{δ δ':Zh}{fp fp':Fp}{ex:Addr->Prop}{v:V}{r:OT}{new:List Addr}(R:RE C io p c H σ δ fp ex H' v r δ' fp' new)(R0:Rel C io H σ δ fp ex) :
  RE C io p c H σ δ fp ex H' v (.fz r.data) δ' fp' []:=.fz R.base R.stp (R.da R0)
theorem RE.fzs{C:MC G}{H H':Hp}{σ:St}{δ δ':Zh}{fp fp':Fp}{ex:Addr->Prop}{v:V}{r:OT}{new:List Addr}(R:RE C io p c H σ δ fp ex H' v r δ' fp' new)(R0:Rel C io H σ δ fp ex)(h:Za3 r.data=true) :
  RE C io p true H σ δ fp ex H' v (.fz r.data) δ' fp' []:=.fz R.base R.stp ((R.da R0).flat h)
noncomputable def Zu1(i:Nat)(m:MEt):MSt:=λD δ=>m δ λr δ'=>D.nx (δ'.set i (some (.fz r.data)))
noncomputable def Zzw(i:Nat)(m:MEt):MSt:=λD δ=>m δ λr δ'=>Za3 r.data=true∧D.nx (δ'.set i (some (.fz r.data)))
noncomputable def Zi4(i:Nat)(m:MEt):MSt:=λD δ=>m δ λr δ'=>D.nx (δ'.set i (some r))
section
variable {i:Nat}{x:Str}{px:Pos}
theorem Yad{t:TE}(s:SE G io p true t m)(hio:i∉io):SS G io (Z2m t (Zpc i)) (Zu1 i m):=λC H σ δ fp ex D D' R h E=>s C H σ δ fp ex _ _ R h λH' v r δ' fp' new r1 h1=>by
 obtain⟨fp2,R2,k2⟩:=(r1.fzc R).put R hio
 exact E.nx H' _ _ fp2 R2 k2 h1
theorem Z9c{t:TE}(s:SE G io p c t m)(hio:i∉io):SS G io (Z2m t (Zpc i)) (Zzw i m):=λC H σ δ fp ex D D' R h E=>s C H σ δ fp ex _ _ R h λH' v r δ' fp' new r1 h1=>by
 obtain⟨fp2,R2,k2⟩:=(r1.fzs R h1.1).put R hio
 exact E.nx H' _ _ fp2 R2 k2 h1.2
theorem Zz3{t:TE}(s:SE G io p true t m)(hio:i∉io):SS G io (Z2m t (Zpc i)) (Zi4 i m):=λC H σ δ fp ex D D' R h E=>s C H σ δ fp ex _ _ R h λH' v r δ' fp' new r1 h1=>by
 obtain⟨fp2,R2,k2⟩:=r1.put R hio
 exact E.nx H' _ _ fp2 R2 k2 h1
theorem Z3o(hN:X.N.Nodup)(hi:X.N[i]? =some x)(hx:Loc X.env.scope x)(he:ME X io p true e m)(hio:i∉io:=by decide)(hs:VP e (some (.Name x px)) pos.line X.env=pure false:=by rfl)(hf:X.fn x=true∨X.env.scope.names.lookup x=some .local:=by first|exact .inl rfl|exact .inr rfl|assumption) :
  MS X io (.Assign [.Name x px] e pos) (Zu1 i m):=by
 obtain⟨_,A,s⟩:=he
 exact⟨_,Zsb hN hi hx A hs hf,Yad s hio⟩
theorem Zy3(hN:X.N.Nodup)(hi:X.N[i]? =some x)(hx:Loc X.env.scope x)(he:ME X io p c e m)(hio:i∉io:=by decide)(hs:VP e (some (.Name x px)) pos.line X.env=pure false:=by rfl)(hf:X.fn x=true∨X.env.scope.names.lookup x=some .local:=by first|exact .inl rfl|exact .inr rfl|assumption) :
  MS X io (.Assign [.Name x px] e pos) (Zzw i m):=by
 obtain⟨_,A,s⟩:=he
 exact⟨_,Zsb hN hi hx A hs hf,Z9c s hio⟩
theorem Zsr(hN:X.N.Nodup)(hi:X.N[i]? =some x)(hx:Loc X.env.scope x)(he:ME X io p true e m)(hio:i∉io:=by decide)(hs:VP e (some (.Name x px)) pos.line X.env=pure false:=by rfl)(hf:X.fn x=true∨X.env.scope.names.lookup x=some .local:=by first|exact .inl rfl|exact .inr rfl|assumption) :
  MS X io (.Assign [.Name x px] e pos) (Zi4 i m):=by
 obtain⟨_,A,s⟩:=he
 exact⟨_,Zsb hN hi hx A hs hf,Zz3 s hio⟩
end
noncomputable def Zxv(t:MTt)(u:MSt):MSt:=λD δ=>∃W:Nat->Zh->Prop,(∃n,W n δ)∧∀n δ,W n δ->t δ λb δ'=>if b=true then∃N:Zh->Prop,(∀δ',N δ'->∃n',n'<n∧W n' δ')∧u { D with nx:=N,ct:=N,bk:=D.nx } δ' else D.nx δ'
theorem Zml{cnd:Expr}{ss:List Stmt}(hp:PassesOwn (X5 X.prog X.w) X.A X.env X.xe)(hc:MT X io p cnd mt)(ha:MSs X io ss u):MS X io (.While cnd ss [] pos) (Zxv mt u):=by
 obtain⟨_,T,s⟩:=hc
 obtain⟨_,A,sa⟩:=ha
 refine⟨_,Zv4 hp T A,λC H σ δ fp ex D D' R h E=>?_⟩
 obtain⟨W,⟨n0,w0⟩,turn⟩:=h
 refine⟨λn σ' H'=>∃δ' fp',Rel C io H' σ' δ' fp' ex∧Kp H fp H' fp'∧W n δ',⟨n0,δ,fp,R,.refl _ _,w0⟩,?_⟩
 rintro n σ1 H1 ⟨δ1,fp1,R1,k1,w1⟩
 refine s C H1 σ1 δ1 fp1 ex _ _ R1 (turn n δ1 w1) λH2 b δ2 fp2 R2 S2 h2=>?_
 have k2:=k1.trans S2.kp
 cases b with
 | true=>
  rw[if_pos rfl]at h2⊢
  obtain⟨N,hN,h2⟩:=h2
  refine⟨λσ' H'=>∃δ' fp',Rel C io H' σ' δ' fp' ex∧Kp H fp H' fp'∧N δ',λσ' H' ⟨δ',fp',R',k',n'⟩=>?_,?_⟩
  ·obtain⟨n1,hn1,w1⟩:=hN δ' n'
   exact⟨n1,hn1,δ',fp',R',k',w1⟩
  ·refine sa C H2 σ1 δ2 fp2 ex _ _ R2 h2 ⟨λH' σ' δ' fp' R' k' n'=>⟨δ',fp',R',k2.trans k',n'⟩,λH' σ' δ' fp' R' k' n'=>E.nx H' σ' δ' fp' R' (k2.trans k') n',λH' σ' δ' fp' R' k' n'=>⟨δ',fp',R',k2.trans k',n'⟩,E.rt⟩
 | false=>
  rw[if_neg XH]at h2⊢
  exact E.nx H2 σ1 δ2 fp2 R2 k2 h2
end
variable {G:Xd}
noncomputable def Zhy(N:List Str)(ds:List Xa):Zh:=ds.map (λd=>some (.fz d)) ++ Qg (N.length-ds.length) none
noncomputable def Zg2(N:List Str)(t:OT)(ds:List Xa):Zh:=some t :: (ds.map (λd=>some (.fz d)) ++ Qg (N.length-(ds.length+1)) none)
section
variable {H:Hp}{L:Addr->Prop}{vs:List V}{ds:List Xa}{N:List Str}
theorem Zjt{i:Nat}{t:OT}{n:Nat}(h:(ds.map (λd=>some (.fz d)) ++ Qg n none:Zh)[i]? =some (some t)):∃d,ds[i]? =some d∧t= .fz d:=by
 rw[List.getElem?_append]at h
 split at h
 ·rw[Xl]at h
  cases e:ds[i]? with
  | none=>rw[e]at h;cases h
  | some d=>rw[e]at h;cases h;exact⟨d,rfl,rfl⟩
 ·rw[List.getElem?_replicate]at h
  split at h
  ·cases h
  ·cases h
theorem Rel.entry(h:Das G H L vs ds):Rel (G:=G) ⟨H,λ_=>False,L,start N vs⟩ [] H (start N vs) (Zhy N ds) (λ_=>[]) (λ_=>False):=by
 refine⟨?_,λi t e=>?_,λ_ _=>rfl,λ_=>.nil,λi j a m=>(nomatch m),λi a m=>(nomatch m),λa z=>z.elim,λb o e _=>e,λb e=>e,λi a m=>(nomatch m),λi m=>nomatch m⟩
 ·unfold start Zhy
  simp[h.length]
 ·obtain⟨d,e',rfl⟩:=Zjt e
  obtain⟨x,e1,q⟩:=h.get e'
  refine⟨x,?_,.fz (q.wide λa l _=>⟨λ⟨j,z⟩=>(nomatch z),λz=>z,.inl l⟩)⟩
  unfold L2.start
  rw[Uc (by rw[Xe];exact(Xo.mp e1).1),Xl,e1]
  rfl
variable {P:Qj}{w:Qy}{K:Xd}{mg:Str->Option Xc}{base:Heap}
noncomputable def Z06(k:OT->Prop):Zgy:={ nx:=λ_=>k (.fz .none),rt:=λr _=>k r }
theorem Fun.okD{x qual:Str}{st:Stmt}{f:Addr}{fd:Qn}{N ps:List Str}{n:Nat}{S:List Xa->(OT->Prop)->Prop}(F:Fun K x qual st f fd)(Sc:Zw N ps (Zg st))(len:∀ds k,S ds k->ds.length=ps.length)
  (hbody:∀(cdv:Xc) (A:Qv) (outer:List Env) (s:Xg) (H:Hp) (E:XK),Room n (A.deeper (envOfC qual (Zg st) s.heap.objs.size f cdv)) ->
   ∃m,MSs (Zpl CX0 P w K mg base N qual (Zg st) f cdv A outer s H E).nox [] (Zr st) m∧∀ds k,S ds k->m (Z06 k) (Zhy N ds)):FnOk P w K mg base CX0 (n+1) f fd ps (spD K S):=by
 refine F.ok Sc (λvs H Q E h=>?_) (λcdv A outer s H vs Q E hr h=>?_)
 ·obtain⟨L,ds,k,h1,h2,_⟩:=h
  rw[h1.length]
  exact len ds k h2
 ·obtain⟨L,ds,k,h1,h2,h3⟩:=h
  obtain⟨m,⟨t,A1,s1⟩,q⟩:=hbody cdv A outer s H E hr
  refine⟨t,A1,s1 ⟨H,λ_=>False,L,start N vs⟩ H _ _ _ _ (Z06 k) _ (Rel.entry h1) (q ds k h2) ⟨λH' σ' δ' fp' R _ hk=>?_,λ_ _ _ _ _ _ z=>z.elim,λ_ _ _ _ _ _ z=>z.elim,λH' σ' v r δ' fp' new R o nd hn hk=>?_⟩⟩
  ·exact h3 _ .non H' [] hk (λb o e=>R.fr b o e id) (.fz .non) .nil λa m=>nomatch m
  ·refine h3 r v H' new hk (λb o e=>R.fr b o e id) (o.wide λa l _=>⟨?_,λz=>l.2.1 (.inr z)⟩) nd hn
   exact l.2.2
theorem Rel.entryI{v0:V}{t0:OT}{as:List Addr}(o:Own G H L v0 t0 as)(nd:as.Nodup)(hL:∀a∈as,¬L a)(h:Das G H L vs ds) :
  Rel (G:=G) ⟨H,λa=>a∈as,L,start N (v0 :: vs)⟩ [0] H (start N (v0 :: vs)) (Zg2 N t0 ds) (λi=>if i=0 then as else[]) (λ_=>False):=by
 have lw:∀a,L a->H a≠none->Lf (G:=G) ⟨H,λa=>a∈as,L,L2.start N (v0 :: vs)⟩ (λi=>if i=0 then as else[]) (λ_=>False) a:=λa l _=>⟨λq91=>by
  obtain⟨i,z⟩:=q91
  dsimp only at z
  split at z
  ·exact hL a z l
  ·exact(nomatch z),λz=>z,.inl l⟩
 have sub:∀i a,a∈(if i=0 then as else[])->i=0∧a∈as:=λi a m=>by
  split at m
  ·exact⟨by assumption,m⟩
  ·exact nomatch m
 refine⟨?_,λi t e=>?_,λi h=>?_,λi=>?_,λi j a m m'=>(sub i a m).1.trans (sub j a m').1.symm,λi a m z=>z,λa z=>z.elim,λb o e _=>e,λb e=>e,λi a m=>.inl ⟨by rw[(sub i a m).1];exact Xj.mpr rfl,(sub i a m).2⟩,λi _=>rfl⟩
 ·unfold L2.start L2.Zg2
  simp[h.length]
 ·cases i with
  | zero=>
   have e':t0=t:=by
    unfold L2.Zg2 at e
    simpa using e
   subst e'
   exact⟨v0,rfl,o.wide lw⟩
  | succ i=>
   have e':(ds.map (λd=>some (.fz d)) ++ Qg (N.length-(ds.length+1)) none:Zh)[i]? =some (some t):=e
   obtain⟨d,e2,rfl⟩:=Zjt e'
   obtain⟨x,e1,q⟩:=h.get e2
   refine⟨x,?_,.fz (q.wide lw)⟩
   show(vs.map some ++ _)[i]? =_
   rw[Uc (by rw[Xe];exact(Xo.mp e1).1),Xl,e1]
   rfl
 ·split
  ·subst i
   exact absurd rfl (h t0)
  ·rfl
 ·split
  ·exact nd
  ·exact .nil
noncomputable def Zz4(k:OT->OT->Prop):Zgy:={ nx:=λδ=>match δ[0]? with|some (some t)=>k (.fz .none) t|_=>False,rt:=λr δ=>match δ[0]? with|some (some t)=>k r t|_=>False }
theorem Fun.okI{x qual:Str}{st:Stmt}{f:Addr}{fd:Qn}{N ps:List Str}{n:Nat}{S:OT->List Xa->(OT->OT->Prop)->Prop}(F:Fun K x qual st f fd)(Sc:Zw N ps (Zg st))(len:∀t ds k,S t ds k->ds.length+1=ps.length)
  (hbody:∀(cdv:Xc) (A:Qv) (outer:List Env) (s:Xg) (H:Hp) (E:XK),Room n (A.deeper (envOfC qual (Zg st) s.heap.objs.size f cdv)) ->
   ∃m,MSs (Zpl CX0 P w K mg base N qual (Zg st) f cdv A outer s H E).nox [0] (Zr st) m∧∀t ds k,S t ds k->m (Zz4 k) (Zg2 N t ds)):FnOk P w K mg base CX0 (n+1) f fd ps (spI K S):=by
 refine F.ok Sc (λvs H Q E h=>?_) (λcdv A outer s H vs Q E hr h=>?_)
 ·obtain⟨L,v0,t0,as,vs',ds,k,rfl,_,_,_,h1,h2,_⟩:=h
  rw[Q6,h1.length]
  exact len t0 ds k h2
 ·obtain⟨L,v0,t0,as,vs',ds,k,rfl,o0,nd0,hL,h1,h2,h3⟩:=h
  obtain⟨m,⟨t,A1,s1⟩,q⟩:=hbody cdv A outer s H E hr
  have fin:∀H' σ' v r δ' fp' new,Rel (G:=K) ⟨H,λa=>a∈as,L,L2.start N (v0 :: vs')⟩ [0] H' σ' δ' fp' (exu (λ_=>False) new)->Own K H' (Lf (G:=K) ⟨H,λa=>a∈as,L,L2.start N (v0 :: vs')⟩ fp' (exu (λ_=>False) new)) v r new->new.Nodup->(∀a∈new,H a=none) ->
    (match δ'[0]? with|some (some t)=>k r t|_=>False)->Q v H':=by
   intro H' σ' v r δ' fp' new R o nd hn hk
   split at hk
   case h_2=>exact hk.elim
   rename_i t' e'
   obtain⟨u,eu,ou⟩:=R.own 0 t' e'
   have hio:=R.io 0 (by simp)
   rw[eu]at hio
   have:u=v0:=by
    have e2:(L2.start N (v0 :: vs'))[0]? =some (some v0):=rfl
    have hio':some (some u)=(L2.start N (v0 :: vs'))[0]?:=hio
    rw[e2]at hio'
    cases hio';rfl
   subst this
   refine h3 r t' v H' new (fp' 0) hk (λb ob e nb=>R.fr b ob e nb) (λb e=>R.al b e) (o.wide λa l _=>⟨l.2.2,λz=>l.2.1 (.inr z),λz=>l.1 ⟨0,z⟩⟩) (ou.wide λa l _=>⟨l.2.2,λz=>l.2.1 (.inr z),λz=>l.1 ⟨0,z⟩⟩) ?_ hn λa m=>?_
   ·exact Vg.mpr ⟨R.nd 0,nd,λa m b m' z=>by subst z;exact R.dx 0 a m (.inr m')⟩
   ·rcases R.new 0 a m with z|z
    ·exact .inl z.2
    ·exact .inr z
  refine⟨t,A1,s1 ⟨H,λa=>a∈as,L,L2.start N (v0 :: vs')⟩ H _ _ _ _ (Zz4 k) _ (Rel.entryI o0 nd0 hL h1) (q t0 ds k h2) ⟨λH' σ' δ' fp' R _ hk=>?_,λ_ _ _ _ _ _ z=>z.elim,λ_ _ _ _ _ _ z=>z.elim,λH' σ' v r δ' fp' new R o nd hn hk=>fin H' σ' v r δ' fp' new R o nd hn hk⟩⟩
  exact fin H' σ' .non (.fz .none) δ' fp' [] (R.drop λa z=>Zbx.mp z) (.fz .non) .nil (λa m=>nomatch m) hk
end
noncomputable abbrev MGt:=Xa->Zh->(Zh->Prop)->Prop
noncomputable abbrev Ztk:=List Xa->Zh->(Zh->Prop)->Prop
noncomputable def SG(G:Xd)(io:List Nat)(c:Bool)(t:TG)(g:MGt):Prop:=∀(C:MC G) (H:Hp) (σ:St) (δ:Zh) (fp:Fp) (ex:Addr->Prop) (v:V) (d:Xa) (k:Zh->Prop) (Q:St->Hp->Prop),Rel C io H σ δ fp ex->Da G H (λa=>c=true->Lf C fp ex a) v d->g d δ k ->
 (∀ σ' δ' fp',Rel C io H σ' δ' fp' ex->Kp H fp H fp'->k δ'->Q σ' H)->t v σ H Q
noncomputable def SGs(G:Xd)(io:List Nat)(c:Bool)(t:TGs)(g:Ztk):Prop:=∀(C:MC G) (H:Hp) (σ:St) (δ:Zh) (fp:Fp) (ex:Addr->Prop) (v:List V) (d:List Xa) (k:Zh->Prop) (Q:St->Hp->Prop),Rel C io H σ δ fp ex->Das G H (λa=>c=true->Lf C fp ex a) v d->g d δ k ->
 (∀ σ' δ' fp',Rel C io H σ' δ' fp' ex->Kp H fp H fp'->k δ'->Q σ' H)->t v σ H Q
noncomputable def MG(X:Cx)(io:List Nat)(c:Bool)(tg:Expr)(g:MGt):Prop:=∃t,PG X tg t∧SG X.K io c t g
noncomputable def MGs(X:Cx)(io:List Nat)(c:Bool)(tg:List Expr)(g:Ztk):Prop:=∃t,PGs X tg t∧SGs X.K io c t g
section
variable {X:Cx}{io:List Nat}{c:Bool}{pos:Pos}{i:Nat}{x:Str}
noncomputable def dName(i:Nat):MGt:=λd δ k=>k (δ.set i (some (.fz d)))
noncomputable def Zw4(i:Nat):MGt:=λd δ k=>Za3 d=true∧k (δ.set i (some (.fz d)))
theorem Rel.putD{C:MC G}{H:Hp}{σ:St}{δ:Zh}{fp:Fp}{ex:Addr->Prop}{v:V}{d:Xa}(R:Rel C io H σ δ fp ex)(hio:i∉io)(q:Da G H (Lf C fp ex) v d) :
  ∃fp',Rel C io H (σ.set i (some v)) (δ.set i (some (.fz d))) fp' ex∧Kp H fp H fp':=by
 obtain⟨fp',R',g⟩:=(R.drop λa z=>Zbx.mp z).put (new:=[]) hio (.fz (q.wide λa l _=>⟨l.1,λz=>l.2.1 (Zbx.mp z),l.2.2⟩)) .nil (λa m=>nomatch m)
 exact⟨fp',R',λb o e _=>e,λz=>(nomatch z),λa z=>(g a z).imp id λz=>(nomatch z),λb e=>e⟩
theorem Z0j(hN:X.N.Nodup)(hi:X.N[i]? =some x:=by rfl)(hx:Loc X.env.scope x:=by first|exact QF rfl|exact QJ rfl)(hio:i∉io:=by decide)(hf:X.fn x=true∨X.env.scope.names.lookup x=some .local:=by first|exact .inl rfl|exact .inr rfl|assumption):MG X io true (.Name x pos) (dName i) :=
 ⟨_,Zpp hN hi hx hf,λC H σ δ fp ex v d k Q R q h kk=>by
  obtain⟨fp',R',k'⟩:=R.putD hio (q.wide λa l _=>l rfl)
  exact kk _ _ fp' R' k' h⟩
theorem Zmm(hN:X.N.Nodup)(hi:X.N[i]? =some x:=by rfl)(hx:Loc X.env.scope x:=by first|exact QF rfl|exact QJ rfl)(hio:i∉io:=by decide)(hf:X.fn x=true∨X.env.scope.names.lookup x=some .local:=by first|exact .inl rfl|exact .inr rfl|assumption):MG X io c (.Name x pos) (Zw4 i) :=
 ⟨_,Zpp hN hi hx hf,λC H σ δ fp ex v d k Q R q h kk=>by
  obtain⟨fp',R',k'⟩:=R.putD hio (q.flat h.1)
  exact kk _ _ fp' R' k' h.2⟩
noncomputable def Yca:Ztk:=λds δ k=>ds=[]∧k δ
noncomputable def Zzf(g:MGt)(gs:Ztk):Ztk:=λds δ k=>match ds with|d :: r=>g d δ λδ'=>gs r δ' k|[]=>False
theorem Zso:MGs X io c [] Yca:=⟨_,Z0s,λC H σ δ fp ex v d k Q R q h kk=>by
 obtain⟨rfl,h⟩:=h
 cases q
 exact⟨rfl,kk σ δ fp R (.refl _ _) h⟩⟩
theorem Rel.kp_das{C:MC G}{H H':Hp}{σ:St}{δ:Zh}{fp fp':Fp}{ex:Addr->Prop}{vs:List V}{ds:List Xa}(R:Rel C io H σ δ fp ex)(S:Kp H fp H' fp')(h:Das G H (Lf C fp ex) vs ds):Das G H' (Lf C fp' ex) vs ds:=by
 have S':Stp false H δ fp H' δ fp':=⟨S.keep,λz=>(nomatch z),S.grow,S.al⟩
 obtain⟨f1,f2⟩:=R.frameL (c:=true) (ex':=ex) S' (.inr rfl) λa z=>.inl z
 exact h.frame (λa xs l q=>⟨(f1 a xs (λ_=>l) q).1 rfl,(f1 a xs (λ_=>l) q).2⟩) f2
theorem Zny{e:Expr}{es:List Expr}{g:MGt}{gs:Ztk}(h1:MG X io true e g)(h2:MGs X io true es gs)
  (hs:(JQ (e :: es) X.env).map (·.2)=U9 e X.env :: (JQ es X.env).map (·.2):=by rfl):MGs X io true (e :: es) (Zzf g gs):=by
 obtain⟨_,A,s⟩:=h1
 obtain⟨_,B,s'⟩:=h2
 exact⟨_,Zmn A B hs,λC H σ δ fp ex v d k Q R q h kk=>by
  cases q with
  | nil=>exact h.elim
  | cons q qs=>
   refine⟨_,_,rfl,s C H σ δ fp ex _ _ _ _ R q h λσ1 δ1 fp1 R1 k1 h1=>?_⟩
   exact s' C H σ1 δ1 fp1 ex _ _ _ _ R1 ((R.kp_das k1 (qs.wide λa l _=>l rfl)).wide λa l _ _=>l) h1 λσ2 δ2 fp2 R2 k2 h2=>kk σ2 δ2 fp2 R2 (k1.trans k2) h2⟩
theorem Zkj{e:Expr}{es:List Expr}{g:MGt}{gs:Ztk}(h1:MG X io false e g)(h2:MGs X io false es gs)
  (hs:(JQ (e :: es) X.env).map (·.2)=U9 e X.env :: (JQ es X.env).map (·.2):=by rfl):MGs X io false (e :: es) (Zzf g gs):=by
 obtain⟨_,A,s⟩:=h1
 obtain⟨_,B,s'⟩:=h2
 exact⟨_,Zmn A B hs,λC H σ δ fp ex v d k Q R q h kk=>by
  cases q with
  | nil=>exact h.elim
  | cons q qs=>
   refine⟨_,_,rfl,s C H σ δ fp ex _ _ _ _ R (q.wide λa _ _ z=>nomatch z) h λσ1 δ1 fp1 R1 k1 h1=>?_⟩
   exact s' C H σ1 δ1 fp1 ex _ _ _ _ R1 (qs.wide λa _ _ z=>nomatch z) h1 λσ2 δ2 fp2 R2 k2 h2=>kk σ2 δ2 fp2 R2 (k1.trans k2) h2⟩
noncomputable def dTup(n:Nat)(gs:Ztk):MGt:=λd δ k=>match d with| .tuple ds=>ds.length=n∧gs ds δ k|_=>False
theorem Zwp{es:List Expr}{k:Nat}{gs:Ztk}{n:Nat}(hc:X.calm=true)(h:MGs X io c es gs)
  (hn:(JQ es X.env).length=n:=by rfl) (hst:(JQ es X.env).findIdx? (·.1)=none:=by rfl):MG X io c (.Tuple es k pos) (dTup n gs):=by
 obtain⟨_,A,s⟩:=h
 exact⟨_,Z7b hc A hn hst,λC H σ δ fp ex v d k Q R q h kk=>by
  cases q with
  | tup e qs=>exact⟨_,_,rfl,.inl (.inl e),by rw[qs.length];exact h.1,s C H σ δ fp ex _ _ _ _ R qs h.2 kk⟩
  | _=>exact h.elim⟩
end
variable {G:Xd}
noncomputable def IterOk(C:MC G)(fp:Fp)(ex:Addr->Prop)(H1:Hp)(c:Bool)(J:It)(ds:List Xa):Prop:=∀H':Hp,(∀b o,H1 b=some o->(c=false∨¬Foot fp b)->H' b=some o)->∀i:Nat,
 (∀ d,ds[i]? =some d->J.go i H'∧∀x H'',J.yld i H' x H''->Same H' H''∧Da G H'' (λa=>c=true->(Lf C fp ex a∧H1 a≠none)) x d)∧(ds[i]? =none->J.stop i H')
noncomputable abbrev MIt:=Zh->(List Xa->Zh->Prop)->Prop
noncomputable def SI(G:Xd)(io:List Nat)(p c:Bool)(t:TI)(m:MIt):Prop:=∀(C:MC G) (H:Hp) (σ:St) (δ:Zh) (fp:Fp) (ex:Addr->Prop) (K:List Xa->Zh->Prop) (Q:It->Hp->Prop),Rel C io H σ δ fp ex->m δ K ->
 (∀ J H1 ds δ1 fp1,Rel C io H1 σ δ1 fp1 ex->Stp p H δ fp H1 δ1 fp1->IterOk C fp1 ex H1 c J ds->K ds δ1->Q J H1)->t σ H Q
noncomputable def MI(X:Cx)(io:List Nat)(p c:Bool)(tg iter:Expr)(m:MIt):Prop:=∃t,PI X tg iter t∧SI X.K io p c t m
section
variable {X:Cx}{io:List Nat}{p c:Bool}{e a b tg:Expr}{m:MEt}{mr:MAt}{K:Xd}
noncomputable def iL(m:MEt):MIt:=λδ K=>m δ λr δ'=>match r.data with| .list ds=>K ds δ'|_=>False
theorem Rel.kept{C:MC G}{H H':Hp}{σ:St}{δ:Zh}{fp:Fp}{ex:Addr->Prop}(R:Rel C io H σ δ fp ex)(kp:∀b o,H b=some o->(c=false∨¬Foot fp b)->H' b=some o) :
  (∀ a (xs:MuO),(c=true->Lf C fp ex a)->Rd H a xs.ho->(c=true->(Lf C fp ex a∧H a≠none))∧Rd H' a xs.ho)∧(∀a (xs:ImO),H a=some xs.ho->H' a=some xs.ho):=by
 refine⟨λa xs l q=>⟨λhc=>⟨l hc,q.some⟩,?_⟩,λa xs q=>kp a _ q (.inr λz=>?_)⟩
 ·have hk:c=false∨¬Foot fp a:=by
   cases c with
   | false=>exact .inl rfl
   | true=>exact .inr (l rfl).1
  rcases q with q|⟨o,q⟩
  ·exact .inl (kp a _ q hk)
  ·exact .inr ⟨o,kp a _ q hk⟩
 ·obtain⟨ys,e⟩:=R.foot z
  exact ImO.nm q e
theorem Z0u(h:ME X io p c e m):MI X io p c tg e (iL m):=by
 obtain⟨_,A,s⟩:=h
 exact⟨_,Zuy rfl A,λC H σ δ fp ex K' Q R h kk=>s C H σ δ fp ex _ _ R h λH1 v r δ1 fp1 new r1 h1=>by
  have q:=r1.da R
  generalize r.data=d at q h1
  cases q with
  | lst l e qs=>
   refine⟨_,rfl,⟨_,.inl e⟩,kk _ H1 _ δ1 fp1 r1.base r1.stp (λH' kp i=>?_) h1⟩
   obtain⟨f1,f2⟩:=r1.base.kept kp
   have e':=(f1 _ (.lst _) l e).2
   have qs':=qs.frame f1 f2
   refine⟨λd hd=>?_,λhd=>?_⟩
   ·obtain⟨x,hx,qx⟩:=qs'.get hd
    refine⟨⟨_,x,.inl e',hx⟩,λy H'' hy=>?_⟩
    obtain⟨rfl,hy⟩:=hy
    have:=hy _ (.inl e')
    rw[hx]at this
    cases this
    exact⟨Same.refl _,qx⟩
   ·exact⟨_,.inl e',by rw[qs'.length];exact JB.mp hd⟩
  | scr ks=>
   refine⟨_,rfl,⟨_,ks.sq⟩,kk _ H1 _ δ1 fp1 r1.base r1.stp (λH' kp i=>?_) h1⟩
   refine⟨λd hd=>?_,λhd=>?_⟩
   ·obtain⟨x,hx,qx⟩:=(Das.ints (G:=X.K) (H:=H') (L:=λa=>c=true->(Lf C fp1 ex a∧H1 a≠none)) _).get hd
    refine⟨⟨_,x,ks.sq,hx⟩,λy H'' hy=>?_⟩
    obtain⟨rfl,hy⟩:=hy
    have:=hy _ ks.sq
    rw[hx]at this
    cases this
    exact⟨Same.refl _,qx⟩
   ·refine⟨_,ks.sq,?_⟩
    have:=JB.mp hd
    simpa using this
  | _=>exact h1.elim⟩
noncomputable def Zc5(lo:Int)(n:Nat):List Xa:=(Xk n).map λ(i:Nat)=>Xm (lo+(i:Int))
@[simp] theorem Wb(lo:Int)(n:Nat):(Zc5 lo n).length=n:=by simp[Zc5]
theorem Zae{lo:Int}{n i:Nat}{d:Xa}(h:(Zc5 lo n)[i]? =some d):i<n∧d= .int (lo+i):=by
 have hi:i<n:=by
  have:=(Xo.mp h).1
  simpa using this
 unfold Zc5 at h
 rw[Xl,Be hi]at h
 cases h
 exact⟨hi,rfl⟩
theorem Znl{C:MC G}{fp:Fp}{ex:Addr->Prop}{H1:Hp}{lo:Int}{n:Nat}:IterOk C fp ex H1 true (Itr lo n) (Zc5 lo n):=λH' _ i=>by
 refine⟨λd hd=>?_,λhd=>?_⟩
 ·obtain⟨hi,rfl⟩:=Zae hd
  refine⟨hi,λx H'' hy=>?_⟩
  obtain⟨rfl,rfl⟩:=hy
  exact⟨Same.refl _,.int _⟩
 ·have:=JB.mp hd
  show n≤i
  simpa using this
noncomputable def iR1(mr:MAt):MIt:=λδ K=>mr δ λrs δ'=>match OT.datas rs with|[.int j]=>(-(2^62)≤j∧j<2^62)∧K (Zc5 0 j.toNat) δ'|_=>False
noncomputable def iR2(mr:MAt):MIt:=λδ K=>mr δ λrs δ'=>match OT.datas rs with|[.int i,.int j]=>(-(2^62)≤i∧i<2^62∧-(2^62)≤j∧j<2^62)∧K (Zc5 i (j-i).toNat) δ'|_=>False
theorem Wo{p' pos:Pos}(hg:Gl X "range")(hm:X.mg "range"=none)(ha:MA X io p c [a] mr)(hs:Xn [a] X.env=[(false,eval a X.env)]:=by rfl):MI X io p true tg (.Call (.Name "range" p') [a] [] pos) (iR1 mr):=by
 obtain⟨_,A,s⟩:=ha
 exact⟨_,Zr9 hg hm A hs,λC H σ δ fp ex K' Q R h kk=>s C H σ δ fp ex _ _ R h λH1 vs rs δ1 fp1 new r1 h1=>by
  have q:=r1.das R
  generalize OT.datas rs=d at q h1
  split at h1
  case h_2=>exact h1.elim
  cases q with
  | cons q1 q2=>
   cases q1
   cases q2
   exact⟨_,rfl,h1.1.1,h1.1.2,kk _ H1 _ δ1 fp1 r1.base r1.stp Znl h1.2⟩⟩
theorem Zec{p' pos:Pos}(hg:Gl X "range")(hm:X.mg "range"=none)(ha:MA X io p c [a,b] mr)(hs:Xn [a,b] X.env=[(false,eval a X.env),(false,eval b X.env)]:=by rfl)(hs2:Xn [b] X.env=[(false,eval b X.env)]:=by rfl):MI X io p true tg (.Call (.Name "range" p') [a,b] [] pos) (iR2 mr):=by
 obtain⟨_,A,s⟩:=ha
 exact⟨_,Zqv hg hm A hs hs2,λC H σ δ fp ex K' Q R h kk=>s C H σ δ fp ex _ _ R h λH1 vs rs δ1 fp1 new r1 h1=>by
  have q:=r1.das R
  generalize OT.datas rs=d at q h1
  split at h1
  case h_2=>exact h1.elim
  cases q with
  | cons q1 q2=>
   cases q1
   cases q2 with
   | cons q2 q3=>
    cases q2
    cases q3
    exact⟨_,_,rfl,h1.1,kk _ H1 _ δ1 fp1 r1.base r1.stp Znl h1.2⟩⟩
theorem IterOk.at{C:MC G}{fp fp':Fp}{ex:Addr->Prop}{H1 H' H'':Hp}{J:It}{ds:List Xa}{x:V}{d:Xa}(g:∀a,Foot fp' a->Foot fp a∨H1 a=none)(h:Da G H'' (λa=>true=true->(Lf C fp ex a∧H1 a≠none)) x d):Da G H'' (λa=>true=true->Lf C fp' ex a) x d :=
 h.wide λa l _ z=>⟨λw=>(g a w).elim (l z).1.1 (l z).2,(l z).1.2.1,(l z).1.2.2⟩
noncomputable def Yaq(ds:List Xa)(g:MGt)(u:MSt)(D:Zgy)(δ1:Zh):Prop:=∃I:Nat->Zh->Prop,I 0 δ1∧(∀(i:Nat) (d:Xa) (δ':Zh),ds[i]? =some d->I i δ'->g d δ' λδ2=>u { D with nx:=I (i+1),ct:=I (i+1),bk:=D.nx } δ2)∧∀δ',I ds.length δ'->D.nx δ'
noncomputable def Ycu(mi:MIt)(g:MGt)(u:MSt):MSt:=λD δ=>mi δ λds δ1=>Yaq ds g u D δ1
theorem Rel.mk0{C:MC G}{H H':Hp}{σ:St}{δ:Zh}{fp:Fp}{ex:Addr->Prop}(R:Rel C io H σ δ fp ex)(s:Same H H'):Rel C io H' σ δ fp ex:=(R.made (new:=[]) s λa m=>nomatch m).drop λa z=>.inl z
theorem Z4m{iter:Expr}{body:List Stmt}{mi:MIt}{g:MGt}{u:MSt}{pos:Pos}(hp:PassesOwn (X5 X.prog X.w) X.A X.env X.xe)(hc:X.calm=true)(hi:MI X io p true tg iter mi)(hg:MG X io true tg g)(hb:MSs X io body u)
  (hs:∀x,BK iter X.env x=pure x:=by intro _;rfl):MS X io (.For tg iter body [] pos) (Ycu mi g u):=by
 obtain⟨_,A,s⟩:=hi
 obtain⟨_,G,sg⟩:=hg
 obtain⟨_,B,sb⟩:=hb
 refine⟨_,Z6g hp hc A G B hs,λC H σ δ fp ex D D' R h E=>s C H σ δ fp ex _ _ R h λJ H1 ds δ1 fp1 R1 S1 it h1=>?_⟩
 obtain⟨I,h0,turn,fin⟩:=h1
 refine⟨λi n σ' H'=>n=ds.length-i∧i≤ds.length∧∃δ' fp',Rel C io H' σ' δ' fp' ex∧Kp H1 fp1 H' fp'∧I i δ',⟨ds.length,rfl,QC _,δ1,fp1,R1,.refl _ _,h0⟩,?_⟩
 rintro i n σ2 H2 ⟨rfl,hle,δ2,fp2,R2,k2,i2⟩
 have itk:=it H2 (λb o e q=>k2.keep b o e (.inr (q.resolve_left (by decide)))) i
 by_cases hlt:i<ds.length
 ·have hd:ds[i]? =some ds[i]:=XJ hlt
  obtain⟨go,yl⟩:=itk.1 _ hd
  refine .inr ⟨go,λσ' H'=>∃δ' fp',Rel C io H' σ' δ' fp' ex∧Kp H1 fp1 H' fp'∧I (i+1) δ',λσ' H' ⟨δ',fp',R',k',i'⟩=>⟨ds.length-(i+1),by omega,rfl,hlt,δ',fp',R',k',i'⟩,λx H3 hy=>?_⟩
  obtain⟨s3,q3⟩:=yl x H3 hy
  have R3:=R2.mk0 s3
  have k3:Kp H1 fp1 H3 fp2:=k2.trans ⟨λb o e _=>s3 _ _ e,λz=>(nomatch z),λa z=>.inl z,s3.al⟩
  refine sg C H3 σ2 δ2 fp2 ex x _ _ _ R3 (IterOk.at (H':=H2) (J:=J) (ds:=ds) k2.grow q3) (turn i _ δ2 hd i2) λσ4 δ4 fp4 R4 k4 h4=>?_
  have k5:=k3.trans k4
  refine sb C H3 σ4 δ4 fp4 ex _ _ R4 h4 ⟨λH' σ' δ' fp' R' k' n'=>⟨δ',fp',R',k5.trans k',n'⟩,λH' σ' δ' fp' R' k' n'=>E.nx H' σ' δ' fp' R' (S1.kp.trans (k5.trans k')) n',λH' σ' δ' fp' R' k' n'=>⟨δ',fp',R',k5.trans k',n'⟩,E.rt⟩
 ·have e:i=ds.length:=by omega
  subst e
  exact .inl ⟨itk.2 (by simp),E.nx H2 σ2 δ2 fp2 R2 (S1.kp.trans k2) (fin δ2 i2)⟩
end
noncomputable def gM(G:Xd)(io:List Nat)(c:Bool)(g:MGt):TG:=λv σ H Q=>∃(C:MC G) (δ:Zh) (fp:Fp) (ex:Addr->Prop) (d:Xa) (k:Zh->Prop),Rel C io H σ δ fp ex∧Da G H (λa=>c=true->Lf C fp ex a) v d∧g d δ k∧
 ∀σ' δ' fp',Rel C io H σ' δ' fp' ex->Kp H fp H fp'->k δ'->Q σ' H
noncomputable def tM(G:Xd)(io:List Nat)(p c:Bool)(m:MEt):TE:=λσ H Q=>∃(C:MC G) (δ:Zh) (fp:Fp) (ex:Addr->Prop) (K:OT->Zh->Prop),Rel C io H σ δ fp ex∧m δ K∧∀H' v r δ' fp' new,RE C io p c H σ δ fp ex H' v r δ' fp' new->K r δ'->Q v H'
noncomputable def ttM(G:Xd)(io:List Nat)(p:Bool)(m:MTt):TT:=λσ H Q=>∃(C:MC G) (δ:Zh) (fp:Fp) (ex:Addr->Prop) (K:Bool->Zh->Prop),Rel C io H σ δ fp ex∧m δ K∧∀H' b δ' fp',Rel C io H' σ δ' fp' ex->Stp p H δ fp H' δ' fp'->K b δ'->Q b H'
noncomputable def MIfs(X:Cx)(io:List Nat)(p:Bool)(ifs:List Expr)(m:MTt):Prop:=∃t,Z0m X ifs t∧STt X.K io p t m
section
variable {X:Cx}{io:List Nat}{p c:Bool}{e tg:Expr}{m:MEt}{mt:MTt}{g:MGt}{ifs:List Expr}
theorem MG.canon(h:MG X io c tg g):PG X tg (gM X.K io c g):=by
 obtain⟨t,A,s⟩:=h
 rintro pins sh σ H v u Q I r ⟨C,δ,fp,ex,d,k,R,q,h,kk⟩
 exact A pins sh σ H v u Q I r (s C H σ δ fp ex v d k Q R q h kk)
theorem ME.canon(h:ME X io p c e m):PE X e (tM X.K io p c m):=by
 obtain⟨t,A,s⟩:=h
 rintro pins sh σ H Q I ⟨C,δ,fp,ex,K,R,h,kk⟩
 exact A pins sh σ H Q I (s C H σ δ fp ex K Q R h kk)
theorem MIfs.canon(h:MIfs X io p ifs mt):Z0m X ifs (ttM X.K io p mt):=by
 obtain⟨t,A,s⟩:=h
 rintro pins sh σ H Q I ⟨C,δ,fp,ex,K,R,h,kk⟩
 exact A pins sh σ H Q I (s C H σ δ fp ex K Q R h kk)
noncomputable def Z4h:MTt:=λδ K=>K true δ
theorem Jz:MIfs X io true [] Z4h:=⟨_,Zyl,λC H σ δ fp ex K Q R h kk=>kk H true δ fp R (.refl _ _ _ _) h⟩
theorem Zdd{cnd:Expr}(h:MT X io p cnd mt):MIfs X io p [cnd] mt:=by
 obtain⟨_,A,s⟩:=h
 exact⟨_,Z0d A,s⟩
end
variable {G:Xd}
noncomputable def blk(n:Nat)(caps:List Nat)(δ:Zh):Zh:=Qg n none ++ caps.map λi=>(δ[i]?).getD none
noncomputable def Jh(n:Nat)(caps:List Nat)(fp:Fp):Fp:=λk=>if k<n then[]else match caps[k-n]? with|some i=>fp i|none=>[]
noncomputable def J7(n:Nat)(caps:List Nat):List Nat:=(Xk caps.length).map (·+n)
noncomputable def Zvu(C:MC G)(H1:Hp)(fp:Fp)(σ0:St):MC G:=⟨H1,Foot fp,λa=>(C.L a∨C.H₀ a=none)∧¬Foot fp a,σ0⟩
noncomputable def Ze0(ex:Addr->Prop)(D:Addr)(fp fpb:Fp)(a:Addr):Prop:=ex a∨a=D∨(Foot fp a∧¬Foot fpb a)
section
variable {C:MC G}{io:List Nat}{H1 H':Hp}{σ:St}{δ:Zh}{fp:Fp}{ex:Addr->Prop}{own:List Str}{caps:List Nat}{D:Addr}{n:Nat}
theorem Zba{k:Nat}{a:Addr}(h:a∈Jh n caps fp k):∃i,n≤k∧caps[k-n]? =some i∧a∈fp i:=by
 unfold Jh at h
 split at h
 ·exact nomatch h
 ·split at h
  ·rename_i i e
   exact⟨i,by omega,e,h⟩
  ·exact nomatch h
theorem Zv8{j i:Nat}(h:caps[j]? =some i):Jh n caps fp (n+j)=fp i:=by
 unfold Jh
 rw[if_neg (by omega),show n+j-n=j by omega,h]
theorem Z65{k:Nat}{t:OT}(h:(blk n caps δ)[k]? =some (some t)):∃i,n≤k∧caps[k-n]? =some i∧δ[i]? =some (some t):=by
 unfold blk at h
 rw[List.getElem?_append]at h
 split at h
 ·rw[List.getElem?_replicate]at h
  split at h<;>cases h
 ·rename_i hk
  rw[UT]at hk h
  rw[Xl]at h
  cases e:caps[k-n]? with
  | none=>rw[e]at h;cases h
  | some i=>
   rw[e]at h
   refine⟨i,by omega,rfl,?_⟩
   simp only[Option.map_some]at h
   cases e2:δ[i]? with
   | none=>rw[e2]at h;cases h
   | some o=>
    rw[e2]at h
    simpa using h
theorem Rel.block(R:Rel C io H1 σ δ fp ex)(nd:caps.Nodup)(hD:H1 D=none) :
  Rel (Zvu C H1 fp (Je own caps σ)) (J7 own.length caps) (upd H1 D (.lst [])) (Je own caps σ) (blk own.length caps δ) (Jh own.length caps fp) (Ze0 ex D fp (Jh own.length caps fp)):=by
 have s:=Z5 hD (.lst [])
 have sub:∀a,Foot (Jh own.length caps fp) a->Foot fp a:=λa q91=>by
  obtain⟨k,z⟩:=q91
  obtain⟨i,_,_,z⟩:=Zba z
  exact⟨i,z⟩
 have neD:∀a,H1 a≠none->a≠D:=λa h z=>h (z▸hD)
 refine⟨by unfold Je blk;simp,λk t e=>?_,λk h=>?_,λk=>?_,λk l a h1 h2=>?_,λk a h z=>?_,λa z=>?_,λb o e _=>s _ _ e,λb e=>s.free e,λk a h=>?_,λk _=>rfl⟩
 ·obtain⟨i,hk,e1,e2⟩:=Z65 e
  obtain⟨v,e3,o⟩:=R.own i t e2
  refine⟨v,?_,?_⟩
  ·unfold Je
   rw[Bw (by simpa using hk),Xe,Xl,e1]
   simp[e3]
  ·have ef:Jh own.length caps fp k=fp i:=by
    have:=Zv8 (n:=own.length) (fp:=fp) e1
    rwa[show own.length+(k-own.length)=k by omega]at this
   rw[ef]
   refine(o.wide λa l q=>⟨λz=>l.1 (sub a z),λz=>?_,.inl ⟨l.2.2,l.1⟩⟩).same s
   rcases z with z|z|z
   ·exact l.2.1 z
   ·exact neD a q z
   ·exact l.1 z.1
 ·unfold Jh
  split
  ·rfl
  ·split
   ·rename_i i e1
    refine R.emp i λt z=>h t ?_
    unfold blk
    rw[Bw (by rw[UT];omega),UT,Xl,e1]
    simp[z]
   ·rfl
 ·unfold Jh
  split
  ·exact .nil
  ·split
   ·exact R.nd _
   ·exact .nil
 ·obtain⟨i,hk,e1,m1⟩:=Zba h1
  obtain⟨j,hl,e2,m2⟩:=Zba h2
  have:=R.dj i j a m1 m2
  subst this
  have hlt:=(Xo.mp e1).1
  have:=(List.getElem?_inj hlt nd).mp (e1.trans e2.symm)
  omega
 ·obtain⟨i,hk,e1,m⟩:=Zba h
  rcases z with z|z|z
  ·exact R.dx i a m z
  ·exact R.footSome (z▸hD) ⟨i,m⟩
  ·exact z.2 ⟨k,h⟩
 ·rcases z with z|z|z
  ·intro q;exact R.xa a z (s.free q)
  ·subst z;rw[Z8];intro q;cases q
  ·obtain⟨xs,e⟩:=R.foot z.1
   rw[s _ _ e];intro q;cases q
 ·obtain⟨i,hk,e1,m⟩:=Zba h
  refine .inl ⟨?_,⟨i,m⟩⟩
  have:=(Xo.mp e1).1
  exact XF.mpr ⟨k-own.length,by simpa using this,by omega⟩
theorem Zwv{σ0:St}{fp':Fp}{ex':Addr->Prop}{a:Addr}(hx:∀a,ex a->ex' a)(l:Lf (Zvu C H1 fp σ0) fp' ex' a):Lf C fp ex a∨H1 a=none:=by
 obtain⟨l1,l2,l3⟩:=l
 rcases l3 with l3|l3
 ·exact .inl ⟨l3.2,λz=>l2 (hx a z),l3.1⟩
 ·exact .inr l3
theorem Rel.poke(R:Rel C io H' σ δ fp ex){xs ys:List V}(hx:ex D)(hD:H' D=some (.lst xs))(h0:C.H₀ D=none):Rel C io (upd H' D (.lst ys)) σ δ fp ex:=by
 have nf:¬Foot fp D:=λ⟨i,z⟩=>R.dx i D z hx
 have kp:∀b o,b≠D->H' b=some o->upd H' D (.lst ys) b=some o:=λb o n e=>by rw[Zz n];exact e
 refine⟨R.len,λi t e=>?_,R.emp,R.nd,R.dj,R.dx,λa z=>?_,λb o e n=>?_,λb e=>?_,R.new,R.io⟩
 ·obtain⟨v,e1,o⟩:=R.own i t e
  refine⟨v,e1,o.frame (λa zs l q=>⟨l,?_⟩) (λa zs q=>kp a _ (λz=>?_) q) λa m zs q=>kp a _ (λz=>nf ⟨i,z▸m⟩) q⟩
  ·have na:a≠D:=λz=>l.2.1 (z▸hx)
   rcases q with q|⟨u,q⟩
   ·exact .inl (kp a _ na q)
   ·exact .inr ⟨u,kp a _ na q⟩
  ·exact ImO.nl q (z▸hD)
 ·by_cases e:a=D
  ·subst e;rw[Z8];intro q;cases q
  ·rw[Zz e];exact R.xa a z
 ·refine kp b o (λz=>?_) (R.fr b o e n)
  rw[z,h0]at e;cases e
 ·refine R.al b ?_
  by_cases q:b=D
  ·subst q;rw[Z8]at e;cases e
  ·rwa[Zz q]at e
theorem Owns.poke{L:Addr->Prop}{xs ys zs:List V}{rs:List OT}{as:List Addr}(o:Owns G H' L zs rs as)(hD:H' D=Vn (HO.lst xs))(hL:¬L D)(hn:D∉as):Owns G (upd H' D (.lst ys)) L zs rs as:=by
 refine o.frame (λa zs l q=>⟨l,?_⟩) (λa zs q=>?_) λa m zs q=>?_
 ·have na:a≠D:=λz=>hL (z▸l)
  rcases q with q|⟨u,q⟩
  ·exact .inl (by rw[Zz na];exact q)
  ·exact .inr ⟨u,by rw[Zz na];exact q⟩
 ·rw[Zz (λz=>ImO.nl q (z▸hD))];exact q
 ·have na:a≠D:=λz=>hn (by rw[←z];exact m)
  rw[Zz na];exact q
theorem Owns.snoc{L:Addr->Prop}{xs:List V}{rs:List OT}{as bs:List Addr}{x:V}{r:OT}(h:Owns G H' L xs rs as)(k:Own G H' L x r bs):Owns G H' L (xs ++ [x]) (rs ++ [r]) (as ++ bs) :=
 Owns.rec (motive_1:=λ_ _ _ _=>True) (motive_2:=λxs rs as _=>Owns G H' L (xs ++ [x]) (rs ++ [r]) (as ++ bs)) (λ_=>trivial) (λ_ _ _=>trivial) (λ_ _ _=>trivial) (λ_ _ _=>trivial) (by have:=Owns.cons k .nil;rwa[QS]at this) (λk _ _ ih=>by rw[Vh];exact .cons k ih) h
end
structure Zxz(C:MC G)(H1:Hp)(fp1:Fp)(ex:Addr->Prop)(n:Nat)(caps:List Nat)(σ0:St)(D:Addr)(pb:Bool)(H':Hp)(σ':St)(δ':Zh)(fp':Fp)(ys:List V)(rs:List OT)(new:List Addr):Prop where
 keep:∀b o,H1 b=some o->(pb=true∨¬Foot (Jh n caps fp1) b)->H' b=some o
 al:∀b,H' b=none->H1 b=none
 dat:H' D=some (.lst ys)
 rel:Rel (Zvu C H1 fp1 σ0) (J7 n caps) H' σ' δ' fp' (exu (Ze0 ex D fp1 (Jh n caps fp1)) new)
 grow:∀a,Foot fp' a->Foot (Jh n caps fp1) a∨H1 a=none
 own:Owns G H' (λa=>true=true->Lf (Zvu C H1 fp1 σ0) fp' (exu (Ze0 ex D fp1 (Jh n caps fp1)) new) a) ys rs new
 nd:new.Nodup
 fresh:∀a∈new,H1 a=none∧a≠D
section
variable {io:List Nat}{p c pt pe ci:Bool}{g:MGt}{mt:MTt}{me:MEt}{own:List Str}{caps:List Nat}
theorem Zjw{C:MC G}{H1:Hp}{σ:St}{δ1:Zh}{fp1:Fp}{ex:Addr->Prop}{J:It}{ds:List Xa}{D:Addr}{Qf:Hp->Prop}(I:Nat->List OT->Zh->Prop)(R1:Rel C io H1 σ δ1 fp1 ex)
  (it:∀H':Hp,(∀b o,H1 b=some o->((pt&&pe)=true∨¬Foot (Jh own.length caps fp1) b)->H' b=some o)->∀i:Nat,(∀d,ds[i]? =some d->J.go i H'∧∀x H'',J.yld i H' x H''->Same H' H''∧Da G H'' (λa=>ci=true->(Lf C fp1 ex a∧H1 a≠none)) x d)∧(ds[i]? =none->J.stop i H'))
  (nd:caps.Nodup) (hD:H1 D=none) (hz:ds.length≤Xr) (h0:I 0 [] (blk own.length caps δ1))
  (turn:∀(i:Nat) (d:Xa) (rs:List OT) (δ':Zh),ds[i]? =some d->I i rs δ'->g d δ' λδ2=>mt δ2 λb δ3=>if b=true then me δ3 λr δ4=>I (i+1) (rs ++ [r]) δ4 else I (i+1) rs δ3)
  (fin:∀H' σ' δ' fp' ys rs new,Zxz C H1 fp1 ex own.length caps (Je own caps σ) D (pt&&pe) H' σ' δ' fp' ys rs new->I ds.length rs δ'->Qf H') :
  Z18 J (gM G (J7 own.length caps) ci g) (ttM G (J7 own.length caps) pt mt) (tM G (J7 own.length caps) pe true me) (Je own caps σ) D Qf H1:=by
 have hx:Ze0 ex D fp1 (Jh own.length caps fp1) D:=.inr (.inl rfl)
 refine⟨λi n σ' H'=>n=ds.length-i∧i≤ds.length∧∃rs ys new δ' fp',Zxz C H1 fp1 ex own.length caps (Je own caps σ) D (pt&&pe) H' σ' δ' fp' ys rs new∧ys.length≤i∧I i rs δ',⟨ds.length,rfl,QC _,[],[],[],_,_,⟨λb o e _=>Z5 hD _ _ _ e,(Z5 hD _).al,Z8,?_,λa z=>.inl z,.nil,.nil,λa m=>(nomatch m)⟩,Qp _,h0⟩,?_⟩
 ·exact(R1.block nd hD).drop λa z=>Zbx.mp z
 rintro i n σ2 H2 ⟨rfl,hle,rs,ys,new,δ2,fp2,B,hl,i2⟩
 have subB:∀b,Foot (Jh own.length caps fp1) b->Foot fp1 b:=λb q92=>by
  obtain⟨k,z⟩:=q92
  obtain⟨i,_,_,z⟩:=Zba z
  exact⟨i,z⟩
 have itk:=it H2 B.keep i
 by_cases hlt:i<ds.length
 case neg=>
  have e:i=ds.length:=by omega
  subst e
  exact .inl ⟨itk.2 (by simp),fin H2 σ2 δ2 fp2 ys rs new B i2⟩
 have hd:ds[i]? =some ds[i]:=XJ hlt
 obtain⟨go,yl⟩:=itk.1 _ hd
 refine .inr ⟨go,λx H3 hy=>?_⟩
 obtain⟨s3,q3⟩:=yl x H3 hy
 have R3:=B.rel.mk0 s3
 have D3:H3 D=some (.lst ys):=s3 _ _ B.dat
 -- the item,clean in the block
 have q3':Da G H3 (λa=>ci=true->Lf (Zvu C H1 fp1 (Je own caps σ)) fp2 (exu (Ze0 ex D fp1 (Jh own.length caps fp1)) new) a) x ds[i]:=by
  refine q3.wide λa l _ z=>?_
  obtain⟨⟨l1,l2,l3⟩,l4⟩:=l z
  refine⟨λw=>?_,λw=>?_,.inl ⟨l3,l1⟩⟩
  ·rcases B.grow a w with w|w
   ·exact l1 (subB a w)
   ·exact l4 w
  ·rcases w with(w|w|w)|w
   ·exact l2 w
   ·subst w;exact l4 hD
   ·exact l1 w.1
   ·exact l4 (B.fresh a w).1
 refine⟨_,δ2,fp2,_,_,_,R3,q3',turn i _ rs δ2 hd i2,λσ4 δ4 fp4 R4 k4 h4=>?_⟩
 refine⟨_,δ4,fp4,_,_,R4,h4,λH5 b δ5 fp5 R5 S5 h5=>?_⟩
 -- the state behind the test
 have keep5:∀b o,H1 b=some o->((pt&&pe)=true∨¬Foot (Jh own.length caps fp1) b)->H5 b=some o:=λb o e q=>by
  refine S5.keep b o (s3 _ _ (B.keep b o e q)) ?_
  rcases q with q|q
  ·rw[XM]at q;exact .inl q.1
  ·refine .inr λz=>?_
   rcases k4.grow b z with z|z
   ·rcases B.grow b z with z|z
    ·exact q z
    ·rw[e]at z;cases z
   ·rw[s3 _ _ (B.keep b o e (.inr q))]at z;cases z
 have al5:∀b,H5 b=none->H1 b=none:=λb e=>B.al b (s3.al b (S5.al b e))
 have grow4:∀a,Foot fp4 a->Foot (Jh own.length caps fp1) a∨H1 a=none:=λa z=>by
  rcases k4.grow a z with z|z
  ·exact B.grow a z
  ·exact .inr (B.al a (s3.al a z))
 have grow5:∀a,Foot fp5 a->Foot (Jh own.length caps fp1) a∨H1 a=none:=λa z=>by
  rcases S5.grow a z with z|z
  ·exact grow4 a z
  ·exact .inr (B.al a (s3.al a z))
 have D5:H5 D=some (.lst ys):=S5.keep D _ D3 (.inr λ⟨k,z⟩=>R4.dx k D z (.inl hx))
 have own3:=B.own.same s3
 -- the items so far behind the target and the test
 have own4:Owns G H3 (λa=>true=true->Lf (Zvu C H1 fp1 (Je own caps σ)) fp4 (exu (Ze0 ex D fp1 (Jh own.length caps fp1)) new) a) ys rs new:=by
  refine own3.wide λa l q z=>?_
  obtain⟨l1,l2,l3⟩:=l z
  exact⟨λw=>(k4.grow a w).elim l1 q,l2,l3⟩
 have own5:=R4.owns_step (ex':=exu (Ze0 ex D fp1 (Jh own.length caps fp1)) new) S5 (c:=true) (.inr rfl) (λa z=>.inl z) (λa m=>.inr m) own4
 dsimp only at h5⊢
 cases b with
 | false=>
  rw[if_neg XH]at h5⊢
  exact⟨ds.length-(i+1),by omega,rfl,hlt,rs,ys,new,δ5,fp5,⟨keep5,al5,D5,R5,grow5,own5,B.nd,B.fresh⟩,by omega,h5⟩
 | true=>
  rw[if_pos rfl]at h5⊢
  refine⟨_,δ5,fp5,_,_,R5,h5,λH6 v r δ6 fp6 nr r6 h6=>?_⟩
  have D6:H6 D=some (.lst ys):=r6.stp.keep D _ D5 (.inr λ⟨k,z⟩=>R5.dx k D z (.inl hx))
  have hDnr:D∉nr:=λz=>by
   have:=r6.fresh D z
   rw[D5]at this;cases this
  have own6:=R5.owns_step (ex':=exu (exu (Ze0 ex D fp1 (Jh own.length caps fp1)) new) nr) r6.stp (c:=true) (.inr rfl) (λa z=>z.imp id λz=>r6.fresh a z) (λa m=>.inr m) own5
  have eqx:∀a,exu (Ze0 ex D fp1 (Jh own.length caps fp1)) (new ++ nr) a->exu (exu (Ze0 ex D fp1 (Jh own.length caps fp1)) new) nr a:=λa z=>by
   rcases z with z|z
   ·exact .inl (.inl z)
   ·rcases Xq.mp z with z|z
    ·exact .inl (.inr z)
    ·exact .inr z
  have lw:∀a,(true=true->Lf (Zvu C H1 fp1 (Je own caps σ)) fp6 (exu (exu (Ze0 ex D fp1 (Jh own.length caps fp1)) new) nr) a)->H6 a≠none->(true=true->Lf (Zvu C H1 fp1 (Je own caps σ)) fp6 (exu (Ze0 ex D fp1 (Jh own.length caps fp1)) (new ++ nr)) a) :=
   λa l _ z=>⟨(l z).1,λw=>(l z).2.1 (eqx a w),(l z).2.2⟩
  have ownA:=(own6.snoc r6.own).wide lw
  refine⟨ys,D6,by omega,ds.length-(i+1),by omega,rfl,hlt,rs ++ [r],ys ++ [v],new ++ nr,δ6,fp6,⟨λb o e q=>?_,λb e=>?_,Z8,?_,λa z=>?_,?_,?_,λa m=>?_⟩,by rw[Qd];show ys.length+1≤i+1;omega,h6⟩
  ·have nD:b≠D:=λz=>by rw[z,hD]at e;cases e
   rw[Zz nD]
   refine r6.stp.keep b o (keep5 b o e q) ?_
   rcases q with q|q
   ·rw[XM]at q;exact .inl q.2
   ·refine .inr λz=>?_
    rcases grow5 b z with z|z
    ·exact q z
    ·rw[e]at z;cases z
  ·by_cases q:b=D
   ·subst q;rw[Z8]at e;cases e
   ·rw[Zz q]at e
    exact al5 b (r6.stp.al b e)
  ·exact(r6.rel.drop eqx).poke (.inl hx) D6 hD
  ·rcases r6.stp.grow a z with z|z
   ·exact grow5 a z
   ·exact .inr (al5 a z)
  ·exact ownA.poke D6 (λz=>(z rfl).2.1 (.inl hx)) (λm=>by
    rcases Xq.mp m with m|m
    ·exact(B.fresh D m).2 rfl
    ·exact hDnr m)
  ·refine Vg.mpr ⟨B.nd,r6.nd,λa m b m' z=>?_⟩
   subst z
   obtain⟨xs,e⟩:=own5.some a m
   rw[r6.fresh a m']at e;cases e
  ·rcases Xq.mp m with m|m
   ·exact B.fresh a m
   ·exact⟨al5 a (r6.fresh a m),λz=>hDnr (z▸m)⟩
end
variable {G:Xd}
section
variable {X:Cx}{io:List Nat}{p p' c pt pe ci:Bool}{g:MGt}{mt:MTt}{me m:MEt}{mi:MIt}{own:List Str}{caps:List Nat}{e:Expr}
noncomputable def Z3b(m:MEt):MEt:=λδ K=>m δ λr δ'=>Za3 r.data=true∧K (.fz r.data) δ'
theorem Zx2(h:ME X io p c e m):ME X io p true e (Z3b m):=by
 obtain⟨_,A,s⟩:=h
 exact⟨_,A,λC H σ δ fp ex K Q R h k=>s C H σ δ fp ex _ _ R h λH' v r δ' fp' new r1 h1=>k H' v _ δ' fp' [] (r1.fzs R h1.1) h1.2⟩
noncomputable def Z50(n:Nat)(caps:List Nat)(ds:List Xa)(g:MGt)(mt:MTt)(me:MEt)(δ1:Zh)(K:OT->Zh->Prop):Prop:=ds.length≤Xr∧∃I:Nat->List OT->Zh->Prop,I 0 [] (blk n caps δ1)∧
 (∀ (i:Nat) (d:Xa) (rs:List OT) (δ':Zh),ds[i]? =some d->I i rs δ'->g d δ' λδ2=>mt δ2 λb δ3=>if b=true then me δ3 λr δ4=>I (i+1) (rs ++ [r]) δ4 else I (i+1) rs δ3)∧
 ∀rs δ',I ds.length rs δ'->K (.nd rs) δ1
noncomputable def Zhd(n:Nat)(caps:List Nat)(mi:MIt)(g:MGt)(mt:MTt)(me:MEt):MEt:=λδ K=>mi δ λds δ1=>Z50 n caps ds g mt me δ1 K
theorem Zyt{wi:TI}(si:SI G io p ci wi mi)(nd:caps.Nodup)(hp:(pt&&pe)=true) :
  SE G io p true (Zus own caps wi (gM G (J7 own.length caps) ci g) (ttM G (J7 own.length caps) pt mt) (tM G (J7 own.length caps) pe true me)) (Zhd own.length caps mi g mt me):=by
 intro C H σ δ fp ex K Q R h k
 refine si C H σ δ fp ex _ _ R h λJ H1 ds δ1 fp1 R1 S1 it h1 D hD=>?_
 obtain⟨hz,I,h0,turn,fin⟩:=h1
 refine Zjw I R1 (λH' kp=>it H' λb o e _=>kp b o e (.inl hp)) nd hD hz h0 turn λH' σ' δ' fp' ys rs new B i'=>?_
 have s:Same H1 H':=λb o e=>B.keep b o e (.inl hp)
 refine k H' (.ref D) (.nd rs) δ1 fp1 (D :: new) (RE.tree R R1 S1 s (λa m=>?_) (QB.mpr ⟨λm=>(B.fresh D m).2 rfl,B.nd⟩) (.nd B.dat (B.own.wide λa l _=>?_))) (fin rs δ' i')
 ·rcases Xp.mp m with rfl|m
  ·exact hD
  ·exact(B.fresh a m).1
 ·refine⟨?_,λm=>?_⟩
  ·rcases Zwv (λa z=>.inl (.inl z)) (l rfl)with z|z
   ·exact .inl λ_=>z
   ·exact .inr z
  ·rcases Xp.mp m with z|z
   ·exact(l rfl).2.1 (.inl (.inr (.inl z)))
   ·exact(l rfl).2.1 (.inr z)
noncomputable def Zkg(caps:List Nat)(o:Nat)(δ:Zh):Bool:=caps.all λi=>i==o||match δ[i]? with|some (some (.nd _))=>false|some (some (.tp _))=>false|some (some (.dc _ _ _))=>false|_=>true
noncomputable def Z0w(n:Nat)(caps:List Nat)(o q:Nat)(ds:List Xa)(g:MGt)(mt:MTt)(me:MEt)(δ1:Zh)(K:OT->Zh->Prop):Prop:=ds.length≤Xr∧Zkg caps o δ1=true∧∃I:Nat->List OT->Zh->Prop,I 0 [] (blk n caps δ1)∧
 (∀ (i:Nat) (d:Xa) (rs:List OT) (δ':Zh),ds[i]? =some d->I i rs δ'->g d δ' λδ2=>mt δ2 λb δ3=>if b=true then me δ3 λr δ4=>I (i+1) (rs ++ [r]) δ4 else I (i+1) rs δ3)∧
 ∀rs δ',I ds.length rs δ'->match δ1[o]?,δ'[q]? with|some (some _),some (some t)=>K (.nd rs) (δ1.set o (some t))|_,_=>False
noncomputable def Zfe(n:Nat)(caps:List Nat)(o q:Nat)(mi:MIt)(g:MGt)(mt:MTt)(me:MEt):MEt:=λδ K=>mi δ λds δ1=>Z0w n caps o q ds g mt me δ1 K
theorem Zk3{C:MC G}{H:Hp}{σ:St}{δ:Zh}{fp:Fp}{ex:Addr->Prop}{o:Nat}(R:Rel C io H σ δ fp ex)(h:Zkg caps o δ=true){k:Nat}{a:Addr}{n:Nat}(m:a∈Jh n caps fp k):a∈fp o:=by
 obtain⟨i,_,e,m⟩:=Zba m
 have:=Bm.mp h i (Qo e)
 rw[Bool.or_eq_true]at this
 rcases this with z|z
 ·rw[beq_iff_eq]at z;subst z;exact m
 ·by_cases q:∃t,δ[i]? =some (some t)
  ·obtain⟨t,q⟩:=q
   obtain⟨v,_,ow⟩:=R.own i t q
   rw[q]at z
   cases t with
   | nd ts=>cases z
   | tp ts=>cases z
   | dc _ _ _=>cases z
   | fz d=>
    generalize fp i=as at ow m
    cases ow
    exact nomatch m
  ·rw[R.emp i λt w=>q ⟨t,w⟩]at m
   exact nomatch m
theorem Zws{wi:TI}{o q:Nat}(si:SI G io p true wi mi)(nd:caps.Nodup)(ho:caps[q-own.length]? =some o)(hq:own.length≤q) :
  SE G io false true (Zus own caps wi (gM G (J7 own.length caps) true g) (ttM G (J7 own.length caps) pt mt) (tM G (J7 own.length caps) pe true me)) (Zfe own.length caps o q mi g mt me):=by
 intro C H σ δ fp ex K Q R h k
 refine si C H σ δ fp ex _ _ R h λJ H1 ds δ1 fp1 R1 S1 it h1 D hD=>?_
 obtain⟨hz,hcap,I,h0,turn,fin⟩:=h1
 refine Zjw I R1 (λH' kp=>it H' λb o e q=>kp b o e (q.elim (λz=>nomatch z) λq=>.inr λz=>q (by obtain⟨k,z⟩:=z;obtain⟨j,_,_,z⟩:=Zba z;exact⟨j,z⟩))) nd hD hz h0 turn λH' σ' δ' fp' ys rs new B i'=>?_
 have h2:=fin rs δ' i'
 split at h2
 case h_2=>exact h2.elim
 rename_i t0 t' e0 e'
 obtain⟨v0,ev,_⟩:=R1.own o t0 e0
 obtain⟨v1,ev1,o1⟩:=B.rel.own q t' e'
 have hql:q-own.length<caps.length:=(Xo.mp ho).1
 have hio:=B.rel.io q (XF.mpr ⟨q-own.length,by simpa using hql,by omega⟩)
 have hs:(Je own caps σ)[q]? =some (some v0):=by
  unfold Je
  rw[Bw (by simpa using hq),Xe,Xl,ho]
  simp[ev]
 have:v1=v0:=by
  rw[ev1]at hio
  have hio':some (some v1)=(Je own caps σ)[q]?:=hio
  rw[hs]at hio'
  cases hio';rfl
 subst this
 have lw:∀a,Lf (Zvu C H1 fp1 (Je own caps σ)) fp' (exu (Ze0 ex D fp1 (Jh own.length caps fp1)) new) a->H' a≠none->Lf C (fpu fp1 o (fp' q)) (exu ex (D :: new)) a:=λa l _=>by
  have nD:a∉D :: new:=λm=>by
   rcases Xp.mp m with z|z
   ·exact l.2.1 (.inl (.inr (.inl z)))
   ·exact l.2.1 (.inr z)
  have nq:a∉fp' q:=λz=>l.1 ⟨q,z⟩
  rcases Zwv (C:=C) (fp:=fp1) (ex:=ex) (λa z=>.inl (.inl z)) l with z|z
  ·exact⟨λw=>by
    rcases w.of_u with w|⟨j,_,w⟩
    ·exact nq w
    ·exact z.1 ⟨j,w⟩,λw=>w.elim z.2.1 nD,z.2.2⟩
  ·have:=R1.newOk z
   exact⟨λw=>by
    rcases w.of_u with w|⟨j,_,w⟩
    ·exact nq w
    ·exact this.1 ⟨j,w⟩,λw=>w.elim this.2.1 nD,.inr this.2.2⟩
 obtain⟨R2,S2⟩:=R1.change (new:=D :: new) (t':=t') e0 ev (λb ob eb nb=>B.keep b ob eb (.inr λ⟨k,z⟩=>nb (Zk3 R1 hcap z))) B.al (o1.wide lw) (B.rel.nd q)
  (λa m=>by
   rcases B.grow a ⟨q,m⟩with⟨k,z⟩|z
   ·exact .inl (Zk3 R1 hcap z)
   ·exact .inr z)
  (λa m=>by
   rcases Xp.mp m with rfl|m
   ·refine⟨hD,λz=>?_,λz=>B.rel.dx q _ z (.inl (.inr (.inl rfl)))⟩
    rw[B.dat]at z;cases z
   ·refine⟨(B.fresh a m).1,λz=>?_,λz=>B.rel.dx q _ z (.inr m)⟩
    obtain⟨xs,e⟩:=B.own.some a m
    rw[z]at e;cases e)
 refine k H' (.ref D) (.nd rs) _ _ (D :: new) ⟨R2,(S1.trans S2).cast (λz=>nomatch z),.nd B.dat (B.own.wide λa l q _=>lw a (l rfl) q),QB.mpr ⟨λm=>(B.fresh D m).2 rfl,B.nd⟩,λa m=>?_⟩ h2
 rcases Xp.mp m with rfl|m
 ·exact S1.al _ hD
 ·exact S1.al _ (B.fresh a m).1
variable {N':List Str}{sc:Scope}{tg elt iter:Expr}{ifs:List Expr}{pos:Pos}
theorem Zdx(S:CompScope X own caps N' sc)(hc:X.calm=true)(nd:caps.Nodup)(hi:MI X io p ci tg iter mi)
  (hg:∀C cells s₂ H₂ fp,MG (We X N' sc C cells s₂ H₂ fp) (J7 own.length caps) ci tg g) (ht:∀C cells s₂ H₂ fp,MIfs (We X N' sc C cells s₂ H₂ fp) (J7 own.length caps) pt ifs mt) (he:∀C cells s₂ H₂ fp,ME (We X N' sc C cells s₂ H₂ fp) (J7 own.length caps) pe true elt me)
  (hp:(pt&&pe)=true:=by rfl) (hs:∀x,BK iter X.env x=pure x:=by intro _;rfl):ME X io p true (.ListComp elt [⟨tg,iter,ifs,0⟩] sc pos) (Zhd own.length caps mi g mt me):=by
 obtain⟨_,A,si⟩:=hi
 exact⟨_,Z1y S hc A (λC cells s₂ H₂ fp=>(hg C cells s₂ H₂ fp).canon) (λC cells s₂ H₂ fp=>(ht C cells s₂ H₂ fp).canon) (λC cells s₂ H₂ fp=>(he C cells s₂ H₂ fp).canon) hs,Zyt si nd hp⟩
section
variable {i:Nat}{y:Str}{py spos:Pos}
theorem Jc(own':Bool)(hN:X.N.Nodup)(hy:X.N[i]? =some y)(hx:Loc X.env.scope y)(S:CompScope X own caps N' sc)(hc:X.calm=true)(nd:caps.Nodup)(hi:MI X io p ci tg iter mi)
  (hg:∀C cells s₂ H₂ fp,MG (We X N' sc C cells s₂ H₂ fp) (J7 own.length caps) ci tg g) (ht:∀C cells s₂ H₂ fp,MIfs (We X N' sc C cells s₂ H₂ fp) (J7 own.length caps) pt ifs mt) (he:∀C cells s₂ H₂ fp,ME (We X N' sc C cells s₂ H₂ fp) (J7 own.length caps) pe true elt me)
  (hp:(pt&&pe)=true:=by rfl) (hio:i∉io:=by decide)
  (hsw:VP (.ListComp elt [⟨tg,iter,ifs,0⟩] sc pos) (some (.Name y py)) spos.line X.env=pure true:=by rfl)
  (hs:∀x,BK iter X.env x=pure x:=by intro _;rfl) (hf:X.fn y=true∨X.env.scope.names.lookup y=some .local:=by first|exact .inl rfl|exact .inr rfl|assumption) :
  MS X io (.Assign [.Name y py] (.ListComp elt [⟨tg,iter,ifs,0⟩] sc pos) spos) (if own'=true then Zi4 i (Zhd own.length caps mi g mt me)else Zu1 i (Zhd own.length caps mi g mt me)):=by
 obtain⟨_,A,si⟩:=hi
 refine⟨_,Zh2 (g:=gM X.K (J7 own.length caps) ci g) (tt:=ttM X.K (J7 own.length caps) pt mt) (te:=tM X.K (J7 own.length caps) pe true me) hN hy hx S hc A (λC cells s₂ H₂ fp=>(hg C cells s₂ H₂ fp).canon) (λC cells s₂ H₂ fp=>(ht C cells s₂ H₂ fp).canon) (λC cells s₂ H₂ fp=>(he C cells s₂ H₂ fp).canon) hsw hs hf,?_⟩
 cases own'
 ·exact Yad (Zyt si nd hp) hio
 ·exact Zz3 (Zyt si nd hp) hio
theorem Zdi{o q:Nat}(own':Bool)(hN:X.N.Nodup)(hy:X.N[i]? =some y)(hx:Loc X.env.scope y)(S:CompScope X own caps N' sc)(hc:X.calm=true)(nd:caps.Nodup)(ho:caps[q-own.length]? =some o)(hq:own.length≤q)(hi:MI X io p true tg iter mi)
  (hg:∀C cells s₂ H₂ fp,MG (We X N' sc C cells s₂ H₂ fp) (J7 own.length caps) true tg g) (ht:∀C cells s₂ H₂ fp,MIfs (We X N' sc C cells s₂ H₂ fp) (J7 own.length caps) pt ifs mt) (he:∀C cells s₂ H₂ fp,ME (We X N' sc C cells s₂ H₂ fp) (J7 own.length caps) pe true elt me)
  (hio:i∉io:=by decide)
  (hsw:VP (.ListComp elt [⟨tg,iter,ifs,0⟩] sc pos) (some (.Name y py)) spos.line X.env=pure true:=by rfl)
  (hs:∀x,BK iter X.env x=pure x:=by intro _;rfl) (hf:X.fn y=true∨X.env.scope.names.lookup y=some .local:=by first|exact .inl rfl|exact .inr rfl|assumption) :
  MS X io (.Assign [.Name y py] (.ListComp elt [⟨tg,iter,ifs,0⟩] sc pos) spos) (if own'=true then Zi4 i (Zfe own.length caps o q mi g mt me)else Zu1 i (Zfe own.length caps o q mi g mt me)):=by
 obtain⟨_,A,si⟩:=hi
 refine⟨_,Zh2 (g:=gM X.K (J7 own.length caps) true g) (tt:=ttM X.K (J7 own.length caps) pt mt) (te:=tM X.K (J7 own.length caps) pe true me) hN hy hx S hc A (λC cells s₂ H₂ fp=>(hg C cells s₂ H₂ fp).canon) (λC cells s₂ H₂ fp=>(ht C cells s₂ H₂ fp).canon) (λC cells s₂ H₂ fp=>(he C cells s₂ H₂ fp).canon) hsw hs hf,?_⟩
 cases own'
 ·exact Yad (Zws si nd ho hq) hio
 ·exact Zz3 (Zws si nd ho hq) hio
end
end
variable {G:Xd}
section
variable {X:Cx}{pins:List (Addr×Obj)}{σ:St}{H:Hp}{s:Xg}{l:Addr}{xs:List V}
noncomputable def Z6z(K:Xd):R2:=λx y H Q=>∃l b xs zs,x= .ref l∧y= .ref b∧SqL K H l xs∧SqL K H b zs∧xs.length+zs.length≤Xr∧∀p,H p=none->Q (.ref p) (upd H p (.lst (xs ++ zs)))
theorem Inv.lstQ{K:Xd}(hK:X.K=K)(I:Inv X pins σ H s)(hH:SqL K H l xs):∃(its:List Xc) (n:Nat),Vals xs its∧xs.length=its.length∧∃o,s.heap.get? l=some o∧o.cls= .type "list"∧o.dict=none∧o.data= .seq its.toArray n:=by
 subst hK
 obtain⟨its,r,⟨o,n,e,h1,h2,h3⟩,_⟩:=I.list hH
 exact⟨its,n,r,r.length,o,e,h1,h2,h3⟩
theorem Zgp{K:Xd}(hK:X.K=K):OpR X (Uu .Add) (Z6z K):=by
 intro pins s σ H x y v u Q I rx ry h
 obtain⟨l,b,xs,zs,rfl,rfl,hH,hB,hz,q⟩:=h
 cases rx
 cases ry
 obtain⟨its,n,r,hl,⟨cls,dd,data,sl⟩,ho,hc,_,hd⟩:=I.lstQ hK hH
 obtain⟨its2,n2,r2,hl2,⟨cls2,dd2,data2,sl2⟩,ho2,hc2,_,hd2⟩:=I.lstQ hK hB
 simp only at hc hd hc2 hd2
 subst hc hd hc2 hd2
 have ea:its.toArray ++ its2.toArray=(its ++ its2).toArray:=by simp
 refine concat_meets ⟨_,ho,rfl⟩ ⟨_,ho2,rfl⟩ noFill_list_add seq_list_add PySem.F.slot_list_add PySem.F.entry_list_add (PySem.F.args_list_add_2 _ _) (list_addW l b its.toArray its2.toArray n n2 dd dd2 sl sl2 (by simp only[Qa];omega)) ⟨ho,ho2,?_⟩
 rw[ea]
 exact⟨.ref _,_,I.lnew (t':=s.toks) (r.append r2) (by rw[Qd];omega),rfl,q _ I.fresh⟩
end
noncomputable def asI(d:Xa)(k:Int->Prop):Prop:=match d with| .int i=>k i|_=>False
noncomputable def asL(d:Xa)(k:List Xa->Prop):Prop:=match d with| .list ds=>k ds|_=>False
section
variable {H:Hp}{L:Addr->Prop}{v:V}{d:Xa}
theorem Da.intInv{k:Int->Prop}(q:Da G H L v d)(h:asI d k):∃i,v= .int i∧k i:=by
 cases q with
 | int b=>exact⟨b,rfl,h⟩
 | _=>exact h.elim
theorem Da.lstInv{k:List Xa->Prop}(q:Da G H L v d)(h:asL d k):∃a xs ds,v= .ref a∧SqL G H a xs∧Das G H L xs ds∧k ds:=by
 cases q with
 | lst l e r=>exact⟨_,_,_,rfl,.inl e,r,h⟩
 | scr s=>exact⟨_,_,_,rfl,s.sq,.ints _,h⟩
 | _=>exact h.elim
end
noncomputable def d2I(C:Int->Int->Prop)(g:Int->Int->Xa):Xa->Xa->(Xa->Prop)->Prop:=λd e k=>asI d λi=>asI e λj=>C i j∧k (g i j)
noncomputable def Zxr(g:Int->Int->Xa):Xa->Xa->(Xa->Prop)->Prop:=λd e k=>asI d λi=>asI e λj=>k (g i j)
theorem Z4o{C:Int->Int->Prop}{f:Int->Int->Int}:P2s G (rI C λi j=>.int (f i j)) (d2I C λi j=>.int (f i j)):=λH L x y d e k Q hx hy h kk=>by
 obtain⟨i,rfl,h⟩:=hx.intInv h
 obtain⟨j,rfl,h⟩:=hy.intInv h
 exact⟨i,j,rfl,rfl,h.1,kk _ _ (.int _) h.2⟩
structure MulOk(i j:Int):Prop where
 ok:IntMulOk i j
structure Yb5(i j:Int):Prop where
 ok:DivOk i j
structure Yc7(i j:Int):Prop where
 ok:Z7k i j
theorem Z39{f:Int->Int->Int}:P2s G (rI IntMulOk λi j=>.int (f i j)) (d2I MulOk λi j=>.int (f i j)):=λH L x y d e k Q hx hy h kk=>by
 obtain⟨i,rfl,h⟩:=hx.intInv h
 obtain⟨j,rfl,h⟩:=hy.intInv h
 exact⟨i,j,rfl,rfl,h.1.ok,kk _ _ (.int _) h.2⟩
theorem Z4i{f:Int->Int->Int}:P2s G (rI DivOk λi j=>.int (f i j)) (d2I Yb5 λi j=>.int (f i j)):=λH L x y d e k Q hx hy h kk=>by
 obtain⟨i,rfl,h⟩:=hx.intInv h
 obtain⟨j,rfl,h⟩:=hy.intInv h
 exact⟨i,j,rfl,rfl,h.1.ok,kk _ _ (.int _) h.2⟩
theorem Z4j{f:Int->Int->Int}:P2s G (rI Z7k λi j=>.int (f i j)) (d2I Yc7 λi j=>.int (f i j)):=λH L x y d e k Q hx hy h kk=>by
 obtain⟨i,rfl,h⟩:=hx.intInv h
 obtain⟨j,rfl,h⟩:=hy.intInv h
 exact⟨i,j,rfl,rfl,h.1.ok,kk _ _ (.int _) h.2⟩
theorem Zs9{f:Int->Int->Int}:P2s G (rI0 λi j=>.int (f i j)) (Zxr λi j=>.int (f i j)):=λH L x y d e k Q hx hy h kk=>by
 obtain⟨i,rfl,h⟩:=hx.intInv h
 obtain⟨j,rfl,h⟩:=hy.intInv h
 exact⟨i,j,rfl,rfl,kk _ _ (.int _) h⟩
theorem Znz{f:Int->Int->Bool}:P2s G (rI0 λi j=>.bl (f i j)) (Zxr λi j=>.bool (f i j)):=λH L x y d e k Q hx hy h kk=>by
 obtain⟨i,rfl,h⟩:=hx.intInv h
 obtain⟨j,rfl,h⟩:=hy.intInv h
 exact⟨i,j,rfl,rfl,kk _ _ (.bl _) h⟩
section
variable {X:Cx}
noncomputable def Yb3(K:Xd):R2:=λx y H Q=>∃(L L':Addr->Prop) (d e:Xa),Da K H L x d∧Da K H L' y e∧Shp d∧Shp e∧Q (.bl (QR d e)) H
noncomputable def Ybs(K:Xd):R2:=λx y H Q=>∃(L L':Addr->Prop) (d e:Xa),Da K H L x d∧Da K H L' y e∧Shp d∧Shp e∧Q (.bl (!QR d e)) H
theorem Zqd(hu:X.A.units+64<U8):OpR X (JK .Eq) (Yb3 X.K):=by
 intro pins s σ H x y v u Q I rx ry h
 obtain⟨L,L',d,e,h1,h2,s1,s2,q⟩:=h
 obtain⟨as,k1⟩:=h1.reads rfl I rx (Uv s1)
 obtain⟨bs,k2⟩:=h2.reads rfl I ry (Uv s2)
 exact eq_dataH k1 k2 s1 s2 hu ⟨.bl _,H,I,rfl,q⟩
theorem Z5s(hu:X.A.units+64<U8):OpR X (JK .NotEq) (Ybs X.K):=by
 intro pins s σ H x y v u Q I rx ry h
 obtain⟨L,L',d,e,h1,h2,s1,s2,q⟩:=h
 obtain⟨as,k1⟩:=h1.reads rfl I rx (Uv s1)
 obtain⟨bs,k2⟩:=h2.reads rfl I ry (Uv s2)
 exact ne_dataH k1 k2 s1 s2 hu ⟨.bl _,H,I,rfl,q⟩
end
structure Z64(d:Xa):Prop where
 ok:Shp d
noncomputable def dEq:Xa->Xa->(Xa->Prop)->Prop:=λd e k=>Z64 d∧Z64 e∧k (.bool (QR d e))
noncomputable def dNe:Xa->Xa->(Xa->Prop)->Prop:=λd e k=>Z64 d∧Z64 e∧k (.bool (!QR d e))
theorem Z0o:P2s G (Yb3 G) dEq:=λH L x y d e k Q hx hy h kk=>⟨L,L,d,e,hx,hy,h.1.ok,h.2.1.ok,kk _ _ (.bl _) h.2.2⟩
theorem Z8p:P2s G (Ybs G) dNe:=λH L x y d e k Q hx hy h kk=>⟨L,L,d,e,hx,hy,h.1.ok,h.2.1.ok,kk _ _ (.bl _) h.2.2⟩
noncomputable def Zdp:Xa->Bool
 | .none=>true
 | _=>false
theorem Da.isNone{H:Hp}{L:Addr->Prop}{v:V}{d:Xa}(h:Da G H L v d):decide (v= .non)=Zdp d:=by
 cases h<;>rfl
noncomputable def Yde:Xa->Xa->(Xa->Prop)->Prop:=λd e k=>e= .none∧k (.bool (Zdp d))
noncomputable def Z54:Xa->Xa->(Xa->Prop)->Prop:=λd e k=>e= .none∧k (.bool (!Zdp d))
theorem Zte:P2s G (λx y H Q=>y= .non∧Q (.bl (decide (x= .non))) H) Yde:=λH L x y d e k Q hx hy h kk=>by
 obtain⟨rfl,h⟩:=h
 cases hy
 exact⟨rfl,by rw[hx.isNone];exact kk _ _ (.bl _) h⟩
theorem Zza:P2s G (λx y H Q=>y= .non∧Q (.bl (!decide (x= .non))) H) Z54:=λH L x y d e k Q hx hy h kk=>by
 obtain⟨rfl,h⟩:=h
 cases hy
 exact⟨rfl,by rw[hx.isNone];exact kk _ _ (.bl _) h⟩
noncomputable def scD:Xa->Bool
 | .none=>true
 | .bool _=>true
 | .int _=>true
 | .str _=>true
 | _=>false
noncomputable def eqS:Xa->Xa->Bool
 | .none,.none=>true
 | .bool a,.bool b=>a==b
 | .bool a,.int b=>(if a then 1 else 0)==b
 | .int a,.bool b=>a==(if b then 1 else 0)
 | .int a,.int b=>a==b
 | .str a,.str b=>a==b
 | _,_=>false
noncomputable def memS(d:Xa)(ds:List Xa):Bool:=ds.any λe=>eqS e d
theorem Da.toSc{H:Hp}{L:Addr->Prop}{v:V}{d:Xa}(h:Da G H L v d)(s:scD d=true):ScD v d:=by
 cases h with
 | non=>exact .non
 | bl b=>exact .bl b
 | int i=>exact .int i
 | str x=>exact .str x
 | _=>cases s
theorem Da.sc{H:Hp}{L:Addr->Prop}{v:V}{d:Xa}(h:Da G H L v d)(s:scD d=true):Zf9 v=true:=by
 cases h.toSc s<;>rfl
theorem Das.sc{H:Hp}{L:Addr->Prop}{vs:List V}{ds:List Xa}(h:Das G H L vs ds):ds.all scD=true->vs.all Zf9=true :=
 Das.ind (Q:=λvs ds=>ds.all scD=true->vs.all Zf9=true) (λ_=>rfl) (λh _ r s=>by
  rw[List.all_cons,XM]at s
  rw[List.all_cons,h.sc s.1,r s.2];rfl) h
theorem Da.eqS{H:Hp}{L:Addr->Prop}{v u:V}{d e:Xa}(h:Da G H L v d)(g:Da G H L u e)(s:scD d=true)(t:scD e=true):eqV v u=L2.eqS d e:=by
 cases h.toSc s<;>cases g.toSc t<;>rfl
theorem Das.memS{H:Hp}{L:Addr->Prop}{v:V}{d:Xa}(h:Da G H L v d)(s:scD d=true){vs:List V}{ds:List Xa}(g:Das G H L vs ds):ds.all scD=true->inV v vs=L2.memS d ds :=
 Das.ind (Q:=λvs ds=>ds.all scD=true->inV v vs=L2.memS d ds) (λ_=>rfl) (λg _ r t=>by
  rw[List.all_cons,XM]at t
  have:=r t.2
  unfold inV L2.memS at*
  rw[List.any_cons,List.any_cons,this,g.eqS h t.1 s]) g
noncomputable def dIn(neg:Bool):Xa->Xa->(Xa->Prop)->Prop:=λd e k=>scD d=true∧match e with
 | .list ds=>ds.all scD=true∧k (.bool (if neg then !memS d ds else memS d ds))
 | .tuple ds=>ds.all scD=true∧k (.bool (if neg then !memS d ds else memS d ds))
 | _=>False
theorem Zof{neg:Bool}:P2s G (rIn G neg) (dIn neg):=λH L x y d e k Q hx hy h kk=>by
 obtain⟨s,h⟩:=h
 cases hy with
 | lst l e r=>exact⟨_,_,rfl,.inl (.inl e),hx.sc s,r.sc h.1,by rw[Das.memS hx s r h.1];exact kk _ _ (.bl _) h.2⟩
 | tup e r=>exact⟨_,_,rfl,.inr (.inl (.inl e)),hx.sc s,r.sc h.1,by rw[Das.memS hx s r h.1];exact kk _ _ (.bl _) h.2⟩
 | scr ks=>exact⟨_,_,rfl,.inl ks.sq,hx.sc s,(Das.ints (G:=G) (H:=H) (L:=L) _).sc h.1,by rw[Das.memS hx s (Das.ints (G:=G) (H:=H) (L:=L) _) h.1];exact kk _ _ (.bl _) h.2⟩
 | _=>exact h.elim
noncomputable def ixD(d e:Xa):Option Xa:=match d,e with
 | .list ds,.int i=>atI ds i
 | .tuple ds,.int i=>atI ds i
 | _,_=>none
noncomputable def dIx:Xa->Xa->(OT->Prop)->Prop:=λd e k=>match ixD d e with|some x=>k (.fz x)|none=>False
theorem Das.atI{H:Hp}{L:Addr->Prop}{xs:List V}{ds:List Xa}{i:Int}{d:Xa}(h:Das G H L xs ds)(e:L2.atI ds i=some d):∃x,L2.atI xs i=some x∧Da G H L x d:=by
 unfold L2.atI at*
 rw[h.length]
 cases q:ixN ds.length i with
 | none=>rw[q]at e;cases e
 | some j=>
  rw[q]at e
  exact h.get e
theorem Z88:P2 G (rIx G) dIx:=λH L x y d e k Q hx hy h kk=>by
 unfold dIx at h
 split at h
 case h_2=>exact h.elim
 rename_i z ez
 have fin:∀v,Da G H L v z->Q v H:=λv q=>kk H v (.fz z) [] (Same.refl _) (.fz (q.wide λa l _=>⟨.inl l,λm=>nomatch m⟩)) .nil (λa m=>nomatch m) h
 cases hx with
 | lst l e1 r=>
  cases hy with
  | int i=>
   obtain⟨v,e2,q⟩:=r.atI (show L2.atI _ i=some z from ez)
   exact .inl ⟨_,_,i,v,rfl,rfl,.inl e1,e2,fin v q⟩
  | _=>cases ez
 | tup e1 r=>
  cases hy with
  | int i=>
   obtain⟨v,e2,q⟩:=r.atI (show L2.atI _ i=some z from ez)
   exact .inr (.inl ⟨_,_,i,v,rfl,rfl,.inl (.inl e1),e2,fin v q⟩)
  | _=>cases ez
 | scr ks=>
  cases hy with
  | int i=>
   obtain⟨v,e2,q⟩:=(Das.ints (G:=G) (H:=H) (L:=L) _).atI (show L2.atI _ i=some z from ez)
   exact .inl ⟨_,_,i,v,rfl,rfl,ks.sq,e2,fin v q⟩
  | _=>cases ez
 | _=>cases ez
theorem Own.list{H:Hp}{L:Addr->Prop}{p:Addr}{xs:List V}{ds:List Xa}(hp:H p=none)(h:Das G H L xs ds):Own G (upd H p (.lst xs)) (λa=>(L a∨H a=none)∧a∉[p]) (.ref p) (.nd (ds.map OT.fz)) [p] :=
 .nd Z8 (((h.wide λa l q=>⟨.inl l,λm=>q (by rw[Xj.mp m];exact hp)⟩).same (Z5 hp _)).owns)
theorem Zbp{H:Hp}{p:Addr}(hp:H p=none):∀a∈[p],H a=none:=λa m=>by rw[Xj.mp m];exact hp
theorem Zdu(p:Addr):[p].Nodup:=QB.mpr ⟨λm=>(nomatch m),.nil⟩
noncomputable def dCat:Xa->Xa->(OT->Prop)->Prop:=λd e k=>asL d λds=>asL e λes=>ds.length+es.length≤Xr∧k (.nd ((ds ++ es).map OT.fz))
theorem Zki:P2 G (Z6z G) dCat:=λH L x y d e k Q hx hy h kk=>by
 obtain⟨a,xs,ds,rfl,e1,r1,h⟩:=hx.lstInv h
 obtain⟨b,ys,es,rfl,e2,r2,h⟩:=hy.lstInv h
 exact⟨a,b,xs,ys,rfl,rfl,e1,e2,by rw[r1.length,r2.length];exact h.1,λp hp=>kk _ _ _ [p] (Z5 hp _) (Own.list hp (r1.append r2)) (Zdu p) (Zbp hp) h.2⟩
noncomputable def n1(k:Xa->Prop)(ds:List Xa):Prop:=match ds with|[d]=>k d|_=>False
noncomputable def n2(k:Xa->Xa->Prop)(ds:List Xa):Prop:=match ds with|[d,e]=>k d e|_=>False
theorem Das.one{H:Hp}{L:Addr->Prop}{vs:List V}{ds:List Xa}{k:Xa->Prop}(q:Das G H L vs ds)(h:n1 k ds):∃v d,vs=[v]∧ds=[d]∧Da G H L v d∧k d:=by
 cases q with
 | nil=>exact h.elim
 | cons q r=>
  cases r with
  | nil=>exact⟨_,_,rfl,rfl,q,h⟩
  | cons _ _=>exact h.elim
theorem Das.two{H:Hp}{L:Addr->Prop}{vs:List V}{ds:List Xa}{k:Xa->Xa->Prop}(q:Das G H L vs ds)(h:n2 k ds):∃v u d e,vs=[v,u]∧ds=[d,e]∧Da G H L v d∧Da G H L u e∧k d e:=by
 cases q with
 | nil=>exact h.elim
 | cons q r=>
  cases r with
  | nil=>exact h.elim
  | cons q' r'=>
   cases r' with
   | nil=>exact⟨_,_,_,_,rfl,rfl,q,q',h⟩
   | cons _ _=>exact h.elim
noncomputable def Zu4:Xa->Option Nat
 | .list ds=>some ds.length
 | .tuple ds=>some ds.length
 | _=>none
noncomputable def Ydc:List Xa->(Xa->Prop)->Prop:=λds k=>n1 (λd=>match Zu4 d with|some n=>k (.int n)|none=>False) ds
theorem Z4q:PNs G (Ybi G) Ydc:=λH L xs ds k Q hx h kk=>by
 obtain⟨v,d,rfl,rfl,q,h⟩:=hx.one h
 cases q with
 | lst l e r=>exact⟨_,_,rfl,.inl (.inl e),by rw[r.length];exact kk _ _ (.int _) h⟩
 | tup e r=>exact⟨_,_,rfl,.inr (.inl (.inl e)),by rw[r.length];exact kk _ _ (.int _) h⟩
 | scr ks=>exact⟨_,_,rfl,.inl ks.sq,by rw[(Das.ints (G:=G) (H:=H) (L:=L) _).length];exact kk _ _ (.int _) h⟩
 | _=>exact h.elim
noncomputable def Ybt:List Xa->(Xa->Prop)->Prop:=λds k=>n1 (λd=>asI d λi=>k (.int (if i<0 then -i else i))) ds
theorem Zm2:PNs G (λxs H Q=>∃i,xs=[.int i]∧Q (.int (if i<0 then -i else i)) H) Ybt:=λH L xs ds k Q hx h kk=>by
 obtain⟨v,d,rfl,rfl,q,h⟩:=hx.one h
 obtain⟨i,rfl,h⟩:=q.intInv h
 exact⟨i,rfl,kk _ _ (.int _) h⟩
noncomputable def Yc5:List Xa->(Xa->Prop)->Prop:=λds k=>n2 (λd e=>asI d λi=>asI e λj=>k (.int (if j>i then j else i))) ds
theorem Z2c:PNs G (λxs H Q=>∃i j,xs=[.int i,.int j]∧Q (.int (if j>i then j else i)) H) Yc5:=λH L xs ds k Q hx h kk=>by
 obtain⟨v,u,d,e,rfl,rfl,q,q',h⟩:=hx.two h
 obtain⟨i,rfl,h⟩:=q.intInv h
 obtain⟨j,rfl,h⟩:=q'.intInv h
 exact⟨i,j,rfl,kk _ _ (.int _) h⟩
noncomputable def Ybr:List Xa->(Xa->Prop)->Prop:=λds k=>n2 (λd e=>asI d λi=>asI e λj=>k (.int (if j<i then j else i))) ds
theorem Zyx:PNs G (λxs H Q=>∃i j,xs=[.int i,.int j]∧Q (.int (if j<i then j else i)) H) Ybr:=λH L xs ds k Q hx h kk=>by
 obtain⟨v,u,d,e,rfl,rfl,q,q',h⟩:=hx.two h
 obtain⟨i,rfl,h⟩:=q.intInv h
 obtain⟨j,rfl,h⟩:=q'.intInv h
 exact⟨i,j,rfl,kk _ _ (.int _) h⟩
noncomputable def Ybu:List Xa->(Xa->Prop)->Prop:=λds k=>n1 (λd=>match d with| .int i=>k (.int i)| .bool b=>k (.int (if b then 1 else 0))|_=>False) ds
theorem Zw2:PNs G (λxs H Q=>(∃i,xs=[.int i]∧Q (.int i) H)∨∃k,xs=[.bl k]∧Q (.int (if k then 1 else 0)) H) Ybu:=λH L xs ds k Q hx h kk=>by
 obtain⟨v,d,rfl,rfl,q,h⟩:=hx.one h
 cases q with
 | int i=>exact .inl ⟨i,rfl,kk _ _ (.int _) h⟩
 | bl b=>exact .inr ⟨b,rfl,kk _ _ (.int _) h⟩
 | _=>exact h.elim
noncomputable def Zno:Xa->Option (List Xa)
 | .list ds=>some ds
 | .tuple ds=>some ds
 | _=>none
noncomputable def Z3c:List Xa->(OT->Prop)->Prop:=λds k=>n1 (λd=>match Zno d with|some es=>k (.nd (es.map OT.fz))|none=>False) ds
theorem Zzb:PN G (Zqh G) Z3c:=λH L xs ds k Q hx h kk=>by
 obtain⟨v,d,rfl,rfl,q,h⟩:=hx.one h
 cases q with
 | lst l e r=>exact⟨_,_,rfl,.inl (.inl e),λp hp=>kk _ _ _ [p] (Z5 hp _) (Own.list hp r) (Zdu p) (Zbp hp) h⟩
 | tup e r=>exact⟨_,_,rfl,.inr (.inl (.inl e)),λp hp=>kk _ _ _ [p] (Z5 hp _) (Own.list hp r) (Zdu p) (Zbp hp) h⟩
 | scr ks=>exact⟨_,_,rfl,.inl ks.sq,λp hp=>kk _ _ _ [p] (Z5 hp _) (Own.list hp (Das.ints _)) (Zdu p) (Zbp hp) h⟩
 | _=>exact h.elim
section
variable {X:Cx}{io:List Nat}{p c:Bool}{a:Expr}{ma:MEt}{pos:Pos}
noncomputable def Ycn(m:MEt):MEt:=λδ K=>m δ λr δ'=>asI r.data λi=>K (.fz (.int (-i))) δ'
theorem Ztq(ha:ME X io p c a ma):ME X io p true (.UnaryOp .USub a pos) (Ycn ma):=by
 obtain⟨_,A,s⟩:=ha
 exact⟨_,Z98 Z7g A,λC H σ δ fp ex K Q R h k=>s C H σ δ fp ex _ _ R h λH' v r δ' fp' new r1 h1=>by
  obtain⟨i,rfl,h1⟩:=(r1.da R).intInv h1
  exact⟨i,rfl,k H' _ _ δ' fp' [] (.fz r1.base r1.stp (.int _)) h1⟩⟩
noncomputable def Ztt(T:String):Xa->Bool
 | .none=>false
 | .bool _=>T=="bool"||T=="int"
 | .int _=>T=="int"
 | .str _=>T=="str"
 | .list _=>T=="list"
 | .tuple _=>T=="tuple"
 | .dict _=>false
noncomputable def Yc6(T:String)(m:MEt):MEt:=λδ K=>m δ λr δ'=>Zkv r.data=false∧K (.fz (.bool (Ztt T r.data))) δ'
end
section
variable {prog:Qj}{w:Qy}{A:Qv}{E:Xc->Xg->Prop}{h:Heap}{g:Array GenState}{d:Drawn}{t:Nat}{os:OsState}{a C:Addr}{o:Obj}{K:Xd}
theorem Z0a(M:Model)(hx:h.get? a=some o)(hc:o.cls= .ref C):Bf M h (typeOf (.ref a)) (.ref C):=hc▸(Bf.ld hx).andThen .now
theorem Zu0{R:Result->Xg->Prop}(X:K.In h)(Z:Zik K C)(hx:h.get? a=some o)(hc:o.cls= .ref C)(hq:R (.ok (.ret (.ref C))) ⟨h,g,d,t,os⟩) :
  U7 (X5 prog w) A (.call (.builtin "getset_descriptor.__get__") ⟨[.builtin "object.__class__",.ref a,.ref C],[]⟩) R ⟨h,g,d,t,os⟩:=by
 have L1:Bf (X5 prog w) h (isSubtype (.ref C) (.type (".".intercalate ("object.__class__".cutAt '.').dropLast))) true:=by
  rw[F.owner_object_class]
  exact PySem.W.looks_subIn X Z.isO
 have T5:(⟨h,g,d,t,os⟩:Xg).TypeIs (.builtin "object.__class__") "getset_descriptor" :=F.typeOf_object_class
 refine codeAny_call_builtin F.slot_gs_get.plain F.entry_gs_get (F.slot_gs_get.check _ _ _ _ _ _ _ _ T5 (F.args_gs_get _ _ _) ?_)
 repeat (any_goals (first|assumption|(with_reducible refine U5 hx ?_;rw[hc])|(with_reducible refine Xb (Bf.at L1 ?_))|(with_reducible refine Bf.at L1 ?_)|wp_step))
 refine⟨Code.quiet_builtin _ (by decide +kernel),Bc F.entry_object_class ?_⟩
 repeat (any_goals (first|assumption|(with_reducible refine U5 hx ?_;rw[hc])|wp_step))
theorem Zo8{tk:Tok}{Q:Fin->Xg->Prop}(X:K.In h)(Z:Zik K C)(hx:h.get? a=some o)(hc:o.cls= .ref C)(hq:Q (.done (.ret (.ref C))) ⟨h,g,d,t,os⟩) :
  Xu (X5 prog w) A (Va.«object.__getattribute__» ⟨[.ref a,.str "__class__" tk],[]⟩) Q E ⟨h,g,d,t,os⟩:=by
 have T5:(⟨h,g,d,t,os⟩:Xg).TypeIs (.builtin "object.__class__") "getset_descriptor" :=F.typeOf_object_class
 have g5:=F.typeOf_object_class
 have g6:=F.slot_gs_get.lookup
 have g7:=F.slot_gs_set.lookup
 have L4:=PySem.W.looks_findIn (M:=X5 prog w) X Z.cl
 repeat (any_goals (first|assumption|(with_reducible refine U5 hx ?_;rw[hc])|(with_reducible refine Xb (Bf.at L4 ?_))|(with_reducible refine Bf.at L4 ?_)|wp_step))
 refine Zu0 X Z hx hc ?_
 repeat (any_goals (first|assumption|wp_step))
theorem Zol{M:Model}{nameV:Xc}{Q:Unit->Xg->Prop}(X:K.In h)(Z:Zik K C)(hx:h.get? a=some o)(hc:o.cls= .ref C)(hq:Q () ⟨h,g,d,t,os⟩) :
  Xu M A (checkBuiltinCall "BaseException.__getattribute__" ⟨[.ref a,nameV],[]⟩) Q E ⟨h,g,d,t,os⟩:=by
 have e1:builtinKind "BaseException.__getattribute__"=some .slot:=by decide +kernel
 have e2:splitId "BaseException.__getattribute__"=some ("BaseException","__getattribute__"):=by decide +kernel
 have L1:=PySem.W.looks_subIn (M:=M) X Z.isB
 have e3:=F.args_bexc_ga (.ref a) nameV
 simp only[checkBuiltinCall,e1,e2]
 refine Xb ?_
 unfold isInstance
 repeat (first|(with_reducible refine U5 hx ?_;rw[hc])|(with_reducible refine Xb (Bf.at L1 ?_))|(with_reducible refine Bf.at L1 ?_)|wp_step)
 exact hq
theorem Zqi{tk:Tok}{R:Result->Xg->Prop}(X:K.In h)(Z:Zik K C)(hx:h.get? a=some o)(hc:o.cls= .ref C)(hq:R (.ok (.ret (.ref C))) ⟨h,g,d,t,os⟩) :
  U7 (X5 prog w) A (.call (.builtin "BaseException.__getattribute__") ⟨[.ref a,.str "__class__" tk],[]⟩) R ⟨h,g,d,t,os⟩ :=
 codeAny_call_builtin F.excAttr_ValueError.ga.plain F.entry_bexc_ga (Zol X Z hx hc (Zo8 X Z hx hc hq))
theorem Z1k{tk:Tok}{fill expr:Bool}{Q:Xc->Xg->Prop}(X:K.In h)(Z:Zik K C)(hx:h.get? a=some o)(hc:o.cls= .ref C)(hq:Q (.ref C) ⟨h,g,d,t,os⟩) :
  Xu (X5 prog w) A (getAttrBy (.ref a) (.str "__class__" tk) fill expr) Q E ⟨h,g,d,t,os⟩:=by
 have f3:=F.excAttr_ValueError.ga.bind (.ref a)
 have y0:(expr&&onTheHeap (Value.builtin "BaseException.__getattribute__"))=false:=by cases expr<;>rfl
 have y2:(Value.builtin "BaseException.__getattribute__"==Value.builtin "object.__getattribute__")=false:=by decide +kernel
 have y1:(onTheHeap (XX C)&&Value.builtin "BaseException.__getattribute__"==Value.builtin "object.__getattribute__")=false:=by rw[y2];rfl
 have L2:=PySem.W.looks_findIn (M:=X5 prog w) X Z.ga
 have L3:=PySem.W.looks_findIn (M:=X5 prog w) X Z.gt
 repeat (any_goals (first|assumption|(with_reducible refine U5 hx ?_;rw[hc])|(with_reducible refine Bf.at L2 ?_)|(with_reducible refine Bf.at L3 ?_)|(with_reducible refine Xb (Bf.at L2 ?_))|(with_reducible refine Xb (Bf.at L3 ?_))|wp_step))
 refine Zqi X Z hx hc ?_
 repeat (any_goals (first|assumption|wp_step))
theorem Zpy{Q:Option Xc->Xg->Prop}(X:K.In h)(Z:Zik K C)(hx:h.get? a=some o)(hc:o.cls= .ref C)(hq:Q (some (.ref C)) ⟨h,g,d,t+1,os⟩) :
  Xu (X5 prog w) A (getAttr? (.ref a) "__class__") Q E ⟨h,g,d,t,os⟩:=by
 unfold getAttr? getAttrBy?
 repeat (any_goals (first|assumption|with_reducible apply Z1k X Z hx hc|wp_step))
end
theorem Zuj{K:Xd}{a C:Addr}(Z:Zik K C):PySem.W.KitX K (.ref a) (.ref C) (λh=>∃o,h.get? a=some o∧o.cls= .ref C) where
 ty:=λM h _ p=>let⟨_,hx,hc⟩:=p;Z0a M hx hc
 it:=λM h X _=>by
  have z:=Z.isC
  unfold PySem.W.clsIn at z
  split at z
  ·rename_i ho
   intro A' Q' E' s' k q
   unfold isType loadHead
   exact Xb (wpAny_loadPart (k _ _ (X _ _ ho)) (Xi q))
  ·cases z
 ne:=λh tp dd its n sl X htp=>by
  have z:=Z.isC
  refine Vz.mpr λq=>?_
  have e:C=tp:=XX.inj (beq_iff_eq.mp q)
  subst e
  unfold PySem.W.clsIn at z
  split at z
  ·rename_i ho
   have z:=(X _ _ ho).symm.trans htp
   cases z
  ·cases z
 ca:=fun{_ _ _ _ _ s} X p k=>by
  obtain⟨h,g,d,t,os⟩:=s
  obtain⟨_,hx,hc⟩:=p
  exact Zpy X Z hx hc k
variable {G:Xd}
noncomputable def tyD:Xa->String
 | .none=>"NoneType"
 | .bool _=>"bool"
 | .int _=>"int"
 | .str _=>"str"
 | .list _=>"list"
 | .tuple _=>"tuple"
 | .dict _=>"dict"
theorem Zxq{K:Xd}{T:String}{d:Xa}(h:T="int"∨T="bool"∨T="str"∨T="list"∨T="tuple")(hd:∀kvs,d≠ .dict kvs):XR K (.type (tyD d)) (.type T)=some (Ztt T d):=by
 rcases h with rfl|rfl|rfl|rfl|rfl<;>cases d<;>first|rfl|(exact absurd rfl (hd _))|(unfold XR PySem.W.kitCls;rfl)|(simp only[tyD,Ztt];decide +kernel)
noncomputable def Yay(G:Xd):List V->Hp->VK->Prop:=λxs H Q=>∃(x:V) (T:String) (L:Addr->Prop) (d:Xa),xs=[x,.ty T]∧Da G H L x d∧Zkv d=false∧(T="int"∨T="bool"∨T="str"∨T="list"∨T="tuple")∧Q (.bl (Ztt T d)) H
theorem Zqs{X:Cx}(hK:X.K=G):Zbt X (.builtin "isinstance") (Yay G):=by
 subst hK
 intro pins s σ H xs us Q I r h
 obtain⟨x,T,L,d,rfl,q,hf,hT,h⟩:=h
 obtain⟨u,w',rfl,r1,r2⟩:=vals2 r
 cases(show w'=Value.type T from r2)
 have fin:∀tk:Nat,EP X pins σ Q (.bool (Ztt T d)) { s with toks:=tk }:=λtk=>⟨.bl _,H,I.tok tk,rfl,h⟩
 cases q with
 | non=>exact Zav I r1 .non (Zxq (d:=.none) hT λ_ z=>by cases z) fin
 | bl b=>exact Zav I r1 (.bl b) (Zxq (d:=.bool b) hT λ_ z=>by cases z) fin
 | int b=>exact Zav I r1 (.int b) (Zxq (d:=.int b) hT λ_ z=>by cases z) fin
 | str b=>exact Zav I r1 (.str b) (Zxq (d:=.str b) hT λ_ z=>by cases z) fin
 | lst l e qs=>
  rename_i ds
  rcases e with e|⟨o,e⟩
  ·exact Zav I r1 (.lst e) (Zxq (d:=.list ds) hT λ_ z=>by cases z) fin
  ·exact Zav I r1 (.frz e) (Zxq (d:=.list ds) hT λ_ z=>by cases z) fin
 | tup e qs=>
  rename_i ds
  exact Zav I r1 (.tup e) (Zxq (d:=.tuple ds) hT λ_ z=>by cases z) fin
 | scr ks=>
  rename_i a ns
  cases(show u=XX a from r1)
  obtain⟨its,vs,⟨o,n,ho,hc,hd,hs⟩,_⟩:=I.list (ks.sq (H:=H))
  exact JG PySem.W.kitx_list I.kIn ⟨o,ho,hc⟩ (Zxq (d:=.list (ns.map Xm)) hT λ_ z=>by cases z) (λz=>nomatch z) fin
 | exc Z hn e=>
  rename_i a C x
  cases(show u=XX a from r1)
  obtain⟨⟨o,vs,ho,hc,_⟩,_,_⟩:=(show ObjOk X.prog X.w H s.heap a (.ext (ExO C a))from I.hok a _ e)
  refine JG (Zuj Z) I.kIn ⟨o,ho,hc⟩ (b:=Ztt T (exD x)) ?_ (λz=>nomatch z) fin
  rcases hT with rfl|rfl|rfl|rfl|rfl
  ·exact Z.k1
  ·exact Z.k2
  ·exact Z.k3
  ·exact Z.k4
  ·exact Z.k5
 | fn _=>cases hf
 | dic _ _ _ _=>unfold dcD Zkv at hf;cases hf
section
variable {X:Cx}{io:List Nat}{p c p' c':Bool}{a b e:Expr}{ma m:MEt}{pos pp p2:Pos}{K:Xd}
theorem Z60{T:Str}{T':String}(hT:T'="int"∨T'="bool"∨T'="str"∨T'="list"∨T'="tuple")(hg:Gl X "isinstance")(hm:X.mg "isinstance"=none)(hv:X8 "isinstance"=some (.builtin "isinstance"))
  (hg2:Gl X T) (hm2:X.mg T=none) (hv2:X8 T=some (.type T')) (ha:ME X io p c a ma) (hn:T≠"__name__" :=by decide) (hd:(T==("__debug__" : Str))=false:=by decide)
  (he:Xn [a,.Name T p2] X.env=(false,eval a X.env) :: Xn [.Name T p2] X.env:=by rfl) (he2:Xn [.Name T p2] X.env=(false,eval (.Name T p2) X.env) :: Xn [] X.env:=by rfl) (hpl:(JP pos (Xn [.Name T p2] X.env)).any (·.1)=false:=by rfl) :
  ME X io p true (.Call (.Name "isinstance" pp) [a,.Name T p2] [] pos) (Yc6 T' ma):=by
 obtain⟨_,A,s⟩:=ha
 refine⟨_,Zig (Zqs rfl) hg hm hv (Zdq A (Zdq (Zy2 (v:=.ty T') hg2 hm2 hv2 rfl hn hd) Zj4 he2) he) (by decide) (by decide) he hpl,?_⟩
 intro C H σ δ fp ex K' Q R h k
 refine s C H σ δ fp ex _ _ R h λH' v r δ' fp' new r1 h1=>?_
 exact⟨v,T',_,_,rfl,r1.da R,h1.1,hT,k H' _ _ δ' fp' [] (.fz r1.base r1.stp (.bl _)) h1.2⟩
noncomputable abbrev MOt:=Zh->(Option Int->Zh->Prop)->Prop
noncomputable def MO(X:Cx)(io:List Nat)(p:Bool)(e:Option Expr)(m:MOt):Prop:=∃t,PO X e t∧∀(C:MC X.K) (H:Hp) (σ:St) (δ:Zh) (fp:Fp) (ex:Addr->Prop) (K:Option Int->Zh->Prop) (Q:Option Int->Hp->Prop),Rel C io H σ δ fp ex->m δ K ->
 (∀ H' b δ' fp',Rel C io H' σ δ' fp' ex->Stp p H δ fp H' δ' fp'->K b δ'->Q b H')->t σ H Q
noncomputable def Zqm:MOt:=λδ K=>K none δ
noncomputable def Z7i(m:MEt):MOt:=λδ K=>m δ λr δ'=>asI r.data λi=>K (some i) δ'
theorem Zrf:MO X io true none Zqm:=⟨_,Zy9,λC H σ δ fp ex K Q R h k=>k H none δ fp R (.refl _ _ _ _) h⟩
theorem Ztb(h:ME X io p c e m):MO X io p (some e) (Z7i m):=by
 obtain⟨_,A,s⟩:=h
 exact⟨_,Zy7 A,λC H σ δ fp ex K Q R h k=>s C H σ δ fp ex _ _ R h λH' v r δ' fp' new r1 h1=>by
  obtain⟨i,rfl,h1⟩:=(r1.da R).intInv h1
  exact⟨i,rfl,k H' _ δ' fp' r1.base r1.stp h1⟩⟩
noncomputable def cutD(ds:List Xa)(lo hi:Option Int):List Xa:=(ds.drop (HT.sIx ds.length 0 lo)).take (HT.sIx ds.length ds.length hi-HT.sIx ds.length 0 lo)
theorem Das.cut{H:Hp}{L:Addr->Prop}{xs:List V}{ds:List Xa}(h:Das G H L xs ds)(lo hi:Option Int):Das G H L (Z2i xs lo hi) (cutD ds lo hi):=by
 unfold Z2i cutD
 rw[h.length]
 exact(h.drop _).take _
noncomputable def mSl(m:MEt)(ml mh:MOt):MEt:=λδ K=>m δ λr δ1=>ml δ1 λlo δ2=>mh δ2 λhi δ3=>asL r.data λds=>K (.nd ((cutD ds lo hi).map OT.fz)) δ3
theorem Z3t{lo hi:Option Expr}{ml mh:MOt}(ha:ME X io true c a ma)(hl:MO X io true lo ml)(hh:MO X io true hi mh):ME X io true c (.Subscript a (.Slice lo hi none p2) pos) (mSl ma ml mh):=by
 obtain⟨_,A,s⟩:=ha
 obtain⟨_,B,sl⟩:=hl
 obtain⟨_,D,sh⟩:=hh
 refine⟨_,Zv5 (Zvv rfl) A B D,?_⟩
 intro C H σ δ fp ex K' Q R h k
 refine s C H σ δ fp ex _ _ R h λH1 v r δ1 fp1 new r1 h1=>?_
 refine sl C H1 σ δ1 fp1 ex _ _ r1.base h1 λH2 l δ2 fp2 R2 S2 h2=>?_
 refine sh C H2 σ δ2 fp2 ex _ _ R2 h2 λH3 u δ3 fp3 R3 S3 h3=>?_
 have s2:Same H1 H2:=λb o e=>S2.keep b o e (.inl rfl)
 have s3:Same H2 H3:=λb o e=>S3.keep b o e (.inl rfl)
 obtain⟨e1,e2⟩:=r1.stp.env rfl
 obtain⟨e3,e4⟩:=S2.env rfl
 obtain⟨e5,e6⟩:=S3.env rfl
 have q:=((r1.da R).same s2).same s3
 obtain⟨a',xs,ds,rfl,e,qs,h3⟩:=q.lstInv h3
 refine⟨a',xs,rfl,e,λp hp=>?_⟩
 have S:=(r1.stp.trans S2).trans S3
 refine k _ _ _ δ3 fp3 [p] (RE.tree R R3 S (Z5 hp _) (Zbp hp) (Zdu p) (Own.list hp ((qs.cut l u).wide λa l _=>?_))) h3
 rw[e6,e4]
 exact l
theorem Owns.set{H:Hp}{L:Addr->Prop}{x:V}{r:OT}(hr:Own G H L x r []):∀{xs:List V} {ts:List OT} {as:List Addr} (j:Nat),Owns G H L xs ts as->∃bs,Owns G H L (xs.set j x) (ts.set j r) bs∧bs.Sublist as
 | _,_,_,_,.nil=>⟨[],.nil,.refl _⟩
 | _,_,_,0,.cons k t=>⟨_,.cons hr t,by simp⟩
 | _,_,_,j+1,.cons (as:=as) k t=>by
  obtain⟨bs,o,s⟩:=Owns.set hr j t
  exact⟨as ++ bs,.cons k o,List.Sublist.append_left s as⟩
theorem Owns.get{H:Hp}{L:Addr->Prop}:∀{xs:List V} {ts:List OT} {as:List Addr} {j:Nat} {t:OT},Owns G H L xs ts as->ts[j]? =Vn t->∃x bs,xs[j]? =Vn x∧Own G H L x t bs∧bs.Sublist as
 | _,_,_,_,_,.nil,e=>by simp at e
 | _,_,_,0,_,.cons k _,e=>by simp at e;subst e;exact⟨_,_,rfl,k,List.sublist_append_left _ _⟩
 | _,_,_,j+1,t,.cons _ r,e=>by
  obtain⟨x,bs,h1,h2,h3⟩:=Owns.get (j:=j) (t:=t) r (by simpa using e)
  exact⟨x,bs,by simpa using h1,h2,h3.trans (List.sublist_append_right _ _)⟩
theorem Rel.top{C:MC G}{H:Hp}{σ:St}{δ:Zh}{fp:Fp}{ex:Addr->Prop}{i:Nat}{ts ts':List OT}{a':Addr}{xs ys:List V}{bs bs':List Addr}(R:Rel C io H σ δ fp ex)(hi:δ[i]? =some (some (.nd ts)))(hv:σ[i]? =some (some (.ref a')))
  (hf:fp i=a' :: bs) (hx:H a'=some (.lst xs)) (o:Owns G H (Lf C fp ex) ys ts' bs') (hs:bs'.Sublist bs) :
  Rel C io (upd H a' (.lst ys)) σ (δ.set i (some (.nd ts'))) (fpu fp i (a' :: bs')) ex∧Stp false H δ fp (upd H a' (.lst ys)) (δ.set i (some (.nd ts'))) (fpu fp i (a' :: bs')):=by
 have nd:=R.nd i
 rw[hf]at nd
 have hn:=QB.mp nd
 have hm:a'∈fp i:=by rw[hf];exact .head _
 have ne':∀a,¬Foot fp a->a≠a':=λa h z=>h ⟨i,by rw[z];exact hm⟩
 have kp:∀b o,H b=some o->b≠a'->upd H a' (.lst ys) b=some o:=λb o e n=>by rw[Zz n];exact e
 have sub:∀a,a∈a' :: bs'->a∈fp i:=λa m=>by
  rw[hf]
  rcases Xp.mp m with rfl|m
  ·exact .head _
  ·exact .tail _ (hs.subset m)
 have o':Owns G (upd H a' (.lst ys)) (Lf C (fpu fp i (a' :: bs')) (exu ex [])) ys ts' bs':=by
  have f0:∀a,¬Foot fp a->¬Foot (fpu fp i (a' :: bs')) a:=λa h z=>by
   rcases z.of_u with z|⟨j,_,z⟩
   ·exact h ⟨i,sub a z⟩
   ·exact h ⟨j,z⟩
  have f1:∀a (zs:MuO),Lf C fp ex a->Rd H a zs.ho->Lf C (fpu fp i (a' :: bs')) (exu ex []) a∧Rd (upd H a' (.lst ys)) a zs.ho:=λa zs l q=>by
   refine⟨⟨f0 a l.1,λz=>l.2.1 (Zbx.mp z),l.2.2⟩,?_⟩
   rcases q with q|⟨u,q⟩
   ·exact .inl (kp a _ q (ne' a l.1))
   ·exact .inr ⟨u,kp a _ q (ne' a l.1)⟩
  have f2:∀a (zs:ImO),H a=some zs.ho->upd H a' (.lst ys) a=some zs.ho:=λa zs q=>kp a _ q λz=>ImO.nl q (z▸hx)
  exact o.frame f1 f2 λa m zs q=>kp a _ q λz=>hn.1 (hs.subset (z▸m))
 have key:=R.change (new:=[]) (as':=a' :: bs') (t':=.nd ts') (H':=upd H a' (.lst ys)) hi hv (λb o e nb=>kp b o e λz=>nb (by rw[z];exact hm)) (λb e=>by
   by_cases q:b=a'
   ·subst q;rw[Z8]at e;cases e
   ·rwa[Zz q]at e) (.nd Z8 o') (QB.mpr ⟨λm=>hn.1 (hs.subset m),hn.2.sublist hs⟩) (λa m=>.inl (sub a m)) (λa m=>nomatch m)
 exact⟨key.1.drop λa z=>.inl z,key.2⟩
end
variable {G:Xd}
section
variable {X:Cx}{io:List Nat}{p c p' c':Bool}{a b e:Expr}{ma m mi mj:MEt}{pos pp p2 apos cpos px:Pos}{K:Xd}{i:Nat}{x:Str}
theorem Rel.ownNd{C:MC G}{H:Hp}{σ:St}{δ:Zh}{fp:Fp}{ex:Addr->Prop}{ts:List OT}(R:Rel C io H σ δ fp ex)(hi:δ[i]? =some (some (.nd ts))) :
  ∃a' xs bs,σ[i]? =some (some (.ref a'))∧H a'=some (.lst xs)∧Owns G H (Lf C fp ex) xs ts bs∧fp i=a' :: bs:=by
 obtain⟨v,e,o⟩:=R.own i _ hi
 generalize hf:fp i=as at o
 cases o with
 | nd h r=>exact⟨_,_,_,e,h,r,rfl⟩
noncomputable def Zii(i:Nat)(m:MEt):MSt:=λD δ=>match δ[i]? with
 | some (some (.nd _))=>m δ λr δ1=>match δ1[i]? with
  | some (some (.nd ts))=>ts.length<Xr∧D.nx (δ1.set i (some (.nd (ts ++ [.fz r.data]))))
  | _=>False
 | _=>False
theorem Jk(i:Nat)(he:ME X io p true e m)(hN:X.N[i]? =some x:=by rfl)(hv:Vis X.env.scope x:=by first|exact QF rfl|exact QJ (QF rfl)|exact QJ (QJ rfl))(hd:(x==("__debug__" : Str))=false:=by decide)
  (hcd:(x==("__classdict__" : Str))=false:=by decide)
  (hbase:attributeBase (.Name x px) "append" X.env (eval (.Name x px) X.env)=eval (.Name x px) X.env:=by rfl)
  (hfew:((JP cpos (Xn [e] X.env)).all (λx=>!x.1)&&(backToKw cpos (keywordEach [] X.env)).all (λx=>x.1.isSome)
   &&decide ([e].length+([]:List Keyword).length+(if([]:List Keyword).isEmpty then 0 else 1)<30))=true:=by rfl)
  (hline:(apos.endLine==cpos.line)=true:=by rfl) (hs:Xn [e] X.env=(false,eval e X.env) :: Xn [] X.env:=by rfl) (hplain:(JP cpos (Xn [] X.env)).any (·.1)=false:=by rfl)
  (hsw:VP (.Call (.Attribute (.Name x px) "append" apos) [e] [] cpos) none pos.line X.env=pure false:=by rfl) :
  MS X io (.Expr (.Call (.Attribute (.Name x px) "append" apos) [e] [] cpos) pos) (Zii i m):=by
 obtain⟨_,A,s⟩:=he
 refine⟨_,Zr8 (Z8y PySem.F.plainAttrs_list PySem.F.slot_list_append PySem.F.type_list_append Zk1 (pv i hN hv hd hcd) (Zdq A Zj4 hs) hbase hfew hline hs hplain) hsw,λC H σ δ fp ex D D' R h E=>?_⟩
 unfold Zii at h
 split at h
 case h_2=>exact h.elim
 rename_i ts0 hi0
 obtain⟨a',xs0,bs0,hv0,hx0,_,_⟩:=R.ownNd hi0
 refine⟨_,hv0,.inl ⟨rfl,xs0,.inl (.inl hx0)⟩,?_⟩
 refine s C H σ δ fp ex _ _ R h λH1 v r δ1 fp1 new r1 h1=>?_
 split at h1
 case h_2=>exact h1.elim
 rename_i ts1 hi1
 have R1:=r1.base
 obtain⟨a1,xs1,bs1,hv1,hx1,o1,hf1⟩:=R1.ownNd hi1
 rw[hv0]at hv1
 cases hv1
 have q:=(r1.da R).wide (L':=Lf C fp1 ex) λa l _=>l rfl
 refine⟨a',xs1,v,rfl,rfl,hx1,by rw[o1.length];exact h1.1,?_⟩
 have o2:=o1.snoc (.fz q)
 obtain⟨R2,S2⟩:=R1.top hi1 hv0 hf1 hx1 o2 (by simp)
 exact E.nx _ σ _ _ R2 (r1.stp.kp.trans S2.kp) h1.2
noncomputable def Yce(i:Nat)(m mi:MEt):MSt:=λD δ=>m δ λr δ1=>match δ1[i]? with
 | some (some (.nd ts))=>mi δ1 λn _=>asI n.data λk=>match ixN ts.length k with
  | some j=>D.nx (δ1.set i (some (.nd (ts.set j (.fz r.data)))))
  | none=>False
 | _=>False
noncomputable def Z3h(i:Nat)(m mi mj:MEt):MSt:=λD δ=>m δ λr δ1=>match δ1[i]? with
 | some (some (.nd ts))=>mi δ1 λn _=>asI n.data λk=>match ixN ts.length k with
  | some j=>match ts[j]? with
   | some (.nd us)=>mj δ1 λn' _=>asI n'.data λk'=>match ixN us.length k' with
    | some j'=>D.nx (δ1.set i (some (.nd (ts.set j (.nd (us.set j' (.fz r.data)))))))
    | none=>False
   | _=>False
  | none=>False
 | _=>False
theorem SE.pureAfter{t:TE}{C:MC G}{H:Hp}{σ:St}{δ:Zh}{fp:Fp}{ex:Addr->Prop}{K':OT->Zh->Prop}{Q:VK}(s:SE G io true c t m)(R:Rel C io H σ δ fp ex)(h:m δ K')(k:∀H' v r,Rel C io H' σ δ fp ex->Same H H'->Da G H' (λa=>c=true->Lf C fp ex a) v r.data->K' r δ->Q v H'):t σ H Q :=
 s C H σ δ fp ex _ _ R h λH1 v r δ1 fp1 new r1 h1=>by
  obtain⟨e1,e2⟩:=r1.stp.env rfl
  have q:=r1.da R
  have R1:=r1.base
  rw[e1]at R1 h1
  rw[e2]at R1 q
  exact k H1 v r R1 (λb o e=>r1.stp.keep b o e (.inl rfl)) q h1
theorem Znj(i:Nat)(he:ME X io p true e m)(hj:ME X io true c a mi)(hN:X.N[i]? =some x:=by rfl)(hv:Vis X.env.scope x:=by first|exact QF rfl|exact QJ (QF rfl)|exact QJ (QJ rfl))(hd:(x==("__debug__" : Str))=false:=by decide)
  (hcd:(x==("__classdict__" : Str))=false:=by decide)
  (hpg:∀{to ti:TE},PE X (.Name x px) to->PE X a ti->PG X (.Subscript (.Name x px) a pp) (Z84 to ti Z1u):=by intro _ _ A B;exact Zx1 A B set_list)
  (hs:swapsWithSole [.Subscript (.Name x px) a pp] e pos.line X.env=pure false:=by rfl) (hw:swappedStores [.Subscript (.Name x px) a pp] e X.env=pure none:=by rfl)
  (h1:(JQ [.Subscript (.Name x px) a pp] X.env).map (·.2)=[U9 (.Subscript (.Name x px) a pp) X.env]:=by rfl):MS X io (.Assign [.Subscript (.Name x px) a pp] e pos) (Yce i m mi):=by
 obtain⟨_,A,s⟩:=he
 obtain⟨_,B,sj⟩:=hj
 refine⟨_,Zww A (hpg (pv i hN hv hd hcd) B) hs hw h1,λC H σ δ fp ex D D' R h E=>?_⟩
 refine s C H σ δ fp ex _ _ R h λH1 v r δ1 fp1 new r1 h1=>?_
 have R1:=r1.base
 have q:=(r1.da R).wide (L':=Lf C fp1 ex) λa l _=>l rfl
 split at h1
 case h_2=>exact h1.elim
 rename_i ts hi
 obtain⟨a',_,_,hv0,_⟩:=R1.ownNd hi
 refine⟨_,hv0,?_⟩
 refine sj.pureAfter R1 h1 λH2 w n R2 s2 q2 h2=>?_
 obtain⟨k,rfl,h2⟩:=q2.intInv h2
 split at h2
 case h_2=>exact h2.elim
 rename_i j hj
 obtain⟨a2,xs,bs,hv2,hx,o,hf⟩:=R2.ownNd hi
 rw[hv0]at hv2
 cases hv2
 obtain⟨bs',o',hs'⟩:=Owns.set (.fz (q.same s2)) j o
 refine⟨a',xs,k,j,rfl,rfl,hx,by rw[o.length];exact hj,?_⟩
 obtain⟨R3,S3⟩:=R2.top hi hv0 hf hx o' hs'
 exact E.nx _ σ _ _ R3 (r1.stp.kp.trans (Kp.trans ⟨λb o e _=>s2 _ _ e,λz=>(nomatch z),λa z=>.inl z,s2.al⟩ S3.kp)) h2
theorem Owns.deep{H:Hp}{L:Addr->Prop}{b':Addr}{ws ws':List V}{us us':List OT}(hb:H b'=Vn (HO.lst ws))(hL:¬L b')(hc:∀cs,Owns G H L ws us cs->∃cs',Owns G H L ws' us' cs'∧cs'.Sublist cs) :
  ∀{xs:List V} {ts:List OT} {as:List Addr} {j:Nat},Owns G H L xs ts as->as.Nodup->xs[j]? =Vn (.ref b')->ts[j]? =Vn (.nd us)->∃as',Owns G (upd H b' (.lst ws')) L xs (ts.set j (.nd us')) as'∧as'.Sublist as∧b'∈as
 | _,_,_,_,.nil,_,e,_=>by simp at e
 | _,_,_,0,.cons (as:=as) (bs:=bs) k t,nd,e,e'=>by
  simp at e e'
  subst e e'
  have nd':=Vg.mp nd
  have kp:∀a o,a≠b'->H a=Vn o->upd H b' (.lst ws') a=Vn o:=λa o n q=>by rw[Zz n];exact q
  have f1:∀a (zs:MuO),L a->Rd H a zs.ho->L a∧Rd (upd H b' (.lst ws')) a zs.ho:=λa zs l q=>⟨l,by
   have na:a≠b':=λz=>hL (z▸l)
   rcases q with q|⟨u,q⟩
   ·exact .inl (kp a _ na q)
   ·exact .inr ⟨u,kp a _ na q⟩⟩
  have f2:∀a (zs:ImO),H a=Vn zs.ho->upd H b' (.lst ws') a=Vn zs.ho:=λa zs q=>kp a _ (λz=>ImO.nl q (z▸hb)) q
  cases k with
  | nd h r=>
   rename_i xs0 as0
   rw[hb]at h
   cases h
   have nd2:=QB.mp nd'.1
   obtain⟨cs',o',s'⟩:=hc _ r
   refine⟨b' :: cs' ++ bs,.cons (.nd Z8 (o'.frame f1 f2 λa m zs q=>kp a _ (λz=>nd2.1 (s'.subset (z▸m))) q)) (t.frame f1 f2 λa m zs q=>kp a _ (λz=>nd'.2.2 b' (.head _) a m z.symm) q),List.Sublist.append_right (List.Sublist.cons₂ _ s') bs,Bk _ (.head _)⟩
 | _,_,_,j+1,.cons (as:=as) (bs:=bs) k t,nd,e,e'=>by
  have nd':=Vg.mp nd
  obtain⟨as',o,s,m⟩:=Owns.deep hb hL hc (j:=j) t nd'.2.1 (by simpa using e) (by simpa using e')
  have nb:b'∉as:=λz=>nd'.2.2 b' z b' m rfl
  refine⟨as ++ as',.cons ?_ o,List.Sublist.append_left s as,X6 _ m⟩
  have kp:∀a o,a≠b'->H a=Vn o->upd H b' (.lst ws') a=Vn o:=λa o n q=>by rw[Zz n];exact q
  refine k.frame (λa zs l q=>⟨l,?_⟩) (λa zs q=>kp a _ (λz=>ImO.nl q (z▸hb)) q) λa m' zs q=>kp a _ (λz=>nb (z▸m')) q
  have na:a≠b':=λz=>hL (z▸l)
  rcases q with q|⟨u,q⟩
  ·exact .inl (kp a _ na q)
  ·exact .inr ⟨u,kp a _ na q⟩
theorem Zqy(i:Nat)(he:ME X io p true e m)(hj:ME X io true c a mi)(hk:ME X io true c' b mj)(hPa:Zi6 a)(hN:X.N[i]? =some x:=by rfl)(hv:Vis X.env.scope x:=by first|exact QF rfl|exact QJ (QF rfl)|exact QJ (QJ rfl))(hd:(x==("__debug__" : Str))=false:=by decide)
  (hcd:(x==("__classdict__" : Str))=false:=by decide)
  (hpg:∀{to ti:TE},PE X (.Subscript (.Name x px) a pp) to->PE X b ti->PG X (.Subscript (.Subscript (.Name x px) a pp) b p2) (Z84 to ti Z1u):=by intro _ _ A B;exact Zx1 A B set_list)
  (hs:swapsWithSole [.Subscript (.Subscript (.Name x px) a pp) b p2] e pos.line X.env=pure false:=by rfl) (hw:swappedStores [.Subscript (.Subscript (.Name x px) a pp) b p2] e X.env=pure none:=by rfl)
  (h1:(JQ [.Subscript (.Subscript (.Name x px) a pp) b p2] X.env).map (·.2)=[U9 (.Subscript (.Subscript (.Name x px) a pp) b p2) X.env]:=by rfl) :
  MS X io (.Assign [.Subscript (.Subscript (.Name x px) a pp) b p2] e pos) (Z3h i m mi mj):=by
 obtain⟨_,A,s⟩:=he
 obtain⟨_,B,sj⟩:=hj
 obtain⟨_,B2,sk⟩:=hk
 refine⟨_,Zww A (hpg (Z41 (Zur rfl) (pv i hN hv hd hcd) B hPa) B2) hs hw h1,λC H σ δ fp ex D D' R h E=>?_⟩
 refine s C H σ δ fp ex _ _ R h λH1 v r δ1 fp1 new r1 h1=>?_
 have R1:=r1.base
 have q:=(r1.da R).wide (L':=Lf C fp1 ex) λa l _=>l rfl
 split at h1
 case h_2=>exact h1.elim
 rename_i ts hi
 obtain⟨a',_,_,hv0,_⟩:=R1.ownNd hi
 refine⟨_,hv0,?_⟩
 refine sj.pureAfter R1 h1 λH2 w n R2 s2 q2 h2=>?_
 obtain⟨k,rfl,h2⟩:=q2.intInv h2
 split at h2
 case h_2=>exact h2.elim
 rename_i j hj
 split at h2
 case h_2=>exact h2.elim
 rename_i us hus
 -- the row
 obtain⟨a2,xs2,bs2,hv2,hx2,o2,hf2⟩:=R2.ownNd hi
 rw[hv0]at hv2
 cases hv2
 obtain⟨xr,cr,hxr,orow,_⟩:=o2.get hus
 obtain⟨b',rfl⟩:∃b',xr=V.ref b':=by
  cases orow with
  | nd h r=>exact⟨_,rfl⟩
 refine⟨a',xs2,k,V.ref b',rfl,rfl,.inl (.inl hx2),?_,?_⟩
 ·unfold atI
  rw[o2.length,hj]
  exact hxr
 refine sk.pureAfter R2 h2 λH3 w' n' R3 s3 q3 h3=>?_
 obtain⟨k',rfl,h3⟩:=q3.intInv h3
 split at h3
 case h_2=>exact h3.elim
 rename_i j' hj'
 obtain⟨a3,xs3,bs3,hv3,hx3,o3,hf3⟩:=R3.ownNd hi
 rw[hv0]at hv3
 cases hv3
 have exs:xs3=xs2:=by
  have:=s3 _ _ hx2
  rw[hx3]at this
  cases this;rfl
 subst exs
 obtain⟨xr3,cr3,hxr3,orow3,hsub3⟩:=o3.get hus
 rw[hxr]at hxr3
 cases hxr3
 have nd3:=R3.nd i
 rw[hf3]at nd3
 have hn3:=QB.mp nd3
 cases orow3 with
 | nd hb r3=>
  rename_i ws3 bs4
  have hbm:b'∈bs3:=hsub3.subset (.head _)
  have hbf:b'∈fp1 i:=by rw[hf3];exact .tail _ hbm
  have hLb:¬Lf C fp1 ex b':=λl=>l.1 ⟨i,hbf⟩
  obtain⟨as',oo,ss,_⟩:=Owns.deep (ws':=ws3.set j' v) (us':=us.set j' (.fz r.data)) hb hLb (λcs hcs=>Owns.set (.fz ((q.same s2).same s3)) j' hcs) o3 hn3.2 hxr hus
  refine⟨b',ws3,k',j',rfl,rfl,hb,by rw[r3.length];exact hj',?_⟩
  have hba:a'≠b':=λz=>hn3.1 (z▸hbm)
  -- the change
  have sub:∀a,a∈a' :: as'->a∈fp1 i:=λa m=>by
   rw[hf3]
   rcases Xp.mp m with rfl|m
   ·exact .head _
   ·exact .tail _ (ss.subset m)
  have kp:∀b o,H3 b=some o->b≠b'->upd H3 b' (.lst (ws3.set j' v)) b=some o:=λb o e n=>by rw[Zz n];exact e
  have lw:∀a,Lf C fp1 ex a->upd H3 b' (.lst (ws3.set j' v)) a≠none->Lf C (fpu fp1 i (a' :: as')) (exu ex []) a:=λa l _=>⟨λz=>by
   rcases z.of_u with z|⟨j,_,z⟩
   ·exact l.1 ⟨i,sub a z⟩
   ·exact l.1 ⟨j,z⟩,λz=>l.2.1 (Zbx.mp z),l.2.2⟩
  obtain⟨R4,S4⟩:=R3.change (new:=[]) (as':=a' :: as') (t':=.nd (ts.set j (.nd (us.set j' (.fz r.data))))) (H':=upd H3 b' (.lst (ws3.set j' v))) hi hv0 (λb o e nb=>kp b o e λz=>nb (by rw[z];exact hbf)) (λb e=>by
    by_cases q:b=b'
    ·subst q;rw[Z8]at e;cases e
    ·rwa[Zz q]at e) (.nd (by rw[Zz hba];exact hx3) (oo.wide lw)) (QB.mpr ⟨λm=>hn3.1 (ss.subset m),hn3.2.sublist ss⟩) (λa m=>.inl (sub a m)) (λa m=>nomatch m)
  have k23:Kp H1 fp1 H3 fp1:=⟨λb o e _=>s3 _ _ (s2 _ _ e),λz=>(nomatch z),λa z=>.inl z,λb e=>s2.al b (s3.al b e)⟩
  exact E.nx _ σ _ _ (R4.drop λa z=>.inl z) (r1.stp.kp.trans (k23.trans S4.kp)) h3
end
variable {G:Xd}
mutual
noncomputable def Z0t:OT->Bool
 | .fz d=>Za3 d
 | .nd ts=>Zr3 ts
 | .tp ts=>Zr3 ts
 | .dc _ _ _=>false
noncomputable def Zr3:List OT->Bool
 | []=>true
 | t :: ts=>Z0t t&&Zr3 ts
end
section
variable {X:Cx}{io:List Nat}{p c:Bool}{e:Expr}{m:MEt}
theorem Rel.freeze{C:MC G}{H:Hp}{σ:St}{δ:Zh}{fp:Fp}{ex:Addr->Prop}{i:Nat}{t:OT}(R:Rel C io H σ δ fp ex)(hio:i∉io)(hi:δ[i]? =some (some t)):Rel C io H σ (δ.set i (some (.fz t.data))) (fpu fp i []) ex:=by
 have hil:i<δ.length:=(Xo.mp hi).1
 have sub:∀j a,a∈fpu fp i [] j->j≠i∧a∈fp j:=λj a m=>by
  by_cases ej:j=i
  ·subst ej;rw[Yh]at m;exact nomatch m
  ·rw[Wd ej]at m;exact⟨ej,m⟩
 have lw:∀a,Lf C fp ex a->Lf C (fpu fp i []) ex a:=λa l=>⟨λ⟨j,z⟩=>l.1 ⟨j,(sub j a z).2⟩,l.2.1,l.2.2⟩
 have ln:∀a∈fp i,Lf C (fpu fp i []) ex a:=λa m=>⟨λ⟨j,z⟩=>(sub j a z).1 (R.dj j i a (sub j a z).2 m),R.dx i a m,.inr (by
  rcases R.new i a m with z|z
  ·exact absurd z.1 hio
  ·exact z)⟩
 refine⟨by rw[Uk];exact R.len,λj t' e=>?_,λj h=>?_,λj=>?_,λj k a h1 h2=>R.dj j k a (sub j a h1).2 (sub k a h2).2,λj a h z=>R.dx j a (sub j a h).2 z,R.xa,R.fr,R.al,λj a h=>R.new j a (sub j a h).2,R.io⟩
 ·by_cases ej:j=i
  ·subst ej
   rw[JF hil]at e
   cases e
   obtain⟨v,e1,o⟩:=R.own j t hi
   exact⟨v,e1,by rw[Yh];exact .fz (o.da (λa l _=>lw a l) ln)⟩
  ·rw[QM (Vr ej)]at e
   obtain⟨w,e1,o⟩:=R.own j t' e
   exact⟨w,e1,by rw[Wd ej];exact o.wide λa l _=>lw a l⟩
 ·by_cases ej:j=i
  ·subst ej;rw[Yh]
  ·rw[Wd ej]
   exact R.emp j λt' z=>h t' (by rw[QM (Vr ej)];exact z)
 ·by_cases ej:j=i
  ·subst ej;rw[Yh];exact .nil
  ·rw[Wd ej];exact R.nd j
noncomputable def Zim(i:Nat)(u:MSt):MSt:=λD δ=>match δ[i]? with|some (some t)=>u D (δ.set i (some (.fz t.data)))|_=>False
theorem Zg0{st:Stmt}{u:MSt}(i:Nat)(h:MS X io st u)(hio:i∉io:=by decide):MS X io st (Zim i u):=by
 obtain⟨_,A,s⟩:=h
 exact⟨_,A,λC H σ δ fp ex D D' R h E=>by
  unfold Zim at h
  split at h
  case h_2=>exact h.elim
  rename_i t hi
  refine s C H σ _ _ ex D D' (R.freeze hio hi) h (E.shift ⟨λb o e _=>e,λz=>(nomatch z),λa z=>?_,λb e=>e⟩)
  rcases z.of_u with z|⟨j,_,z⟩
  ·exact nomatch z
  ·exact .inl ⟨j,z⟩⟩
end
variable {G:Xd}
noncomputable def Z4e(ds:List Xa)(k:OT->Prop):Prop:=∃ns:List Int,ds=[.list (ns.map Xm)]∧ns.length≤63∧k (.fz (.bool true))
theorem Z4a{H:Hp}{a:Addr}{ns:List Int}{E:XK}(hl:ns.length≤63)(h:SqL G H a (ns.map V.int)):spD G Z4e [.ref a] H (λv _=>v= .bl true) E:=by
 refine⟨λ_=>True,[.list (ns.map Xm)],λr=>r= .fz (.bool true),.cons ?_ .nil,⟨ns,rfl,hl,rfl⟩,λr v H' new kr s o _ _=>?_⟩
 ·rcases h with h|h
  ·exact .lst trivial h (.ints ns)
  ·exact .scr h
 ·subst kr
  cases o with
  | fz q=>cases q;rfl
section
variable {P:Qj}{w:Qy}{mg:Str->Option Xc}{base:Heap}{CX:CXT}{n:Nat}{f:Addr}{fd:Qn}{ps:List Str}
theorem Da.ints_sq{H:Hp}{L:Addr->Prop}{v:V}{ns:List Int}(h:Da G H L v (.list (ns.map Xm))):∃a,v= .ref a∧SqL G H a (ns.map V.int):=by
 generalize e:Bd (ns.map Xm)=d at h
 cases h with
 | lst l e1 r=>
  cases e
  rw[r.int_inv]at e1
  exact⟨_,rfl,.inl e1⟩
 | scr k=>
  rename_i a ms
  have e':=PyData.list.inj e
  have:ns=ms:=(List.map_inj_right (λ_ _ h=>by cases h;rfl)).mp e'
  subst this
  exact⟨_,rfl,k.sq⟩
 | _=>cases e
end
@[simp] theorem Zd4:OT.datas []=[]:=rfl
@[simp] theorem Zc0(t:OT)(ts:List OT):OT.datas (t :: ts)=t.data :: OT.datas ts:=rfl
theorem Zky{α:Type}{xs:List α}{i:Int}(h0:0≤i):atI xs i=xs[i.toNat]?:=by
 unfold atI ixN
 rw[if_pos h0]
 split
 ·rfl
 ·rename_i h
  symm
  exact JB.mpr (by omega)
theorem Zm4{α:Type}{xs:List α}{i:Nat}:atI xs (i:Int)=xs[i]?:=by
 rw[Zky (by omega),QL]
@[simp] theorem Yek{α:Type}(x:α)(xs:List α):atI (x :: xs) 0=some x:=by
 rw[Zky (by decide)];rfl
@[simp] theorem Yeq{α:Type}(x y:α)(xs:List α):atI (x :: y :: xs) 1=some y:=by
 rw[Zky (by decide)];rfl
@[simp] theorem Yex{α:Type}(x y z:α)(xs:List α):atI (x :: y :: z :: xs) 2=some z:=by
 rw[Zky (by decide)];rfl
@[simp] theorem Z7o(ds:List Xa)(i:Int):ixD (.list ds) (.int i)=atI ds i:=rfl
@[simp] theorem Yan(ds:List Xa)(i:Int):ixD (.tuple ds) (.int i)=atI ds i:=rfl
@[simp] theorem Z6r(ds:List Xa):Zu4 (.list ds)=some ds.length:=rfl
@[simp] theorem Z70(ds:List Xa):Zu4 (.tuple ds)=some ds.length:=rfl
noncomputable def Z2h(r:List Rat):Xa:=.list (r.map frD)
noncomputable def tbD(T:List (List Rat)):Xa:=.list (T.map Z2h)
noncomputable def Z95(r:List Rat):OT:=.nd (r.map λq=>.fz (frD q))
noncomputable def tbT(T:List (List Rat)):OT:=.nd (T.map Z95)
@[simp] theorem Zrn(r:List Rat):(Z95 r).data=Z2h r:=by
 unfold Z95 Z2h
 rw[OT.data_nd,Qs]
 rfl
@[simp] theorem Z7j(T:List (List Rat)):(tbT T).data=tbD T:=by
 unfold tbT tbD
 rw[OT.data_nd,Qs]
 exact congrArg Bd (X7 λr _=>Zrn r)
noncomputable def dd(T:List (List Rat))(i j:Nat):Rat:=(T.getD i []).getD j 0
@[simp] theorem Yao(T:List (List Rat)):Zu4 (tbD T)=some T.length:=by unfold tbD Zu4;simp
@[simp] theorem Z7t(r:List Rat):Zu4 (Z2h r)=some r.length:=by unfold Z2h Zu4;simp
@[simp] theorem Z80(q:Rat):Za3 (frD q)=true:=by unfold frD fr;simp[Za3,Zj3]
theorem Zrd{n a:Nat}(h:a<n):ixN n (a:Int)=some a:=by
 unfold ixN
 rw[if_pos (by omega),if_pos (by omega)];simp
theorem Zna{d:Xa}(h:Yu d=true):QR d d=true:=Zxx h h rfl
structure Sh(n:Nat)(d:Xa):Prop where
 lay:Vq d=true
 dep:PyData.depth d≤n
theorem Sh.shp{n:Nat}{d:Xa}(h:Sh n d)(hn:n≤64:=by decide):Z64 d:=⟨by
 show(Vq d&&decide (PyData.depth d≤64))=true
 rw[h.lay,decide_eq_true (Xz h.dep hn)];rfl⟩
theorem Zj2{n:Nat}:∀{ds:List Xa},(∀d∈ds,Sh n d)->Bq ds=true∧PyData.depthAll ds≤n
 | [],_=>⟨by rw[Bq],by rw[PyData.depthAll];exact QC _⟩
 | d :: ds,h=>by
  obtain⟨h1,h2⟩:=Zj2 λe m=>h e (.tail _ m)
  have h3:=h d (.head _)
  refine⟨by rw[Bq,h3.lay,h1];rfl,?_⟩
  rw[PyData.depthAll]
  exact Nat.max_le.mpr ⟨h3.dep,h2⟩
theorem Zjb{n:Nat}{ds:List Xa}(h:∀d∈ds,Sh n d):Sh (n+1) (.list ds) :=
 ⟨by rw[Vq];exact(Zj2 h).1,by rw[PyData.depth];exact Bp (Zj2 h).2⟩
theorem Zsk{n:Nat}{ds:List Xa}(h:∀d∈ds,Sh n d):Sh (n+1) (.tuple ds) :=
 ⟨by rw[Vq];exact(Zj2 h).1,by rw[PyData.depth];exact Bp (Zj2 h).2⟩
theorem Zx8(i:Int):Sh 0 (.int i):=⟨rfl,Nat.le_of_eq rfl⟩
section
variable {X:Cx}{pins:List (Addr×Obj)}{σ:St}{H:Hp}{s:Xg}
theorem Inv.turnTup{h':Heap}{ch:List Addr}{T:Addr}{xs:List V}{its:List Xc}(I:Inv X pins σ H s)(f:∀b∈ch,Zhp X pins H b)(k:∀b o,b∉ch->s.heap.get? b=some o->h'.get? b=some o)
  (th:∀b∈ch,∃o,h'.get? b=some o) (hT:s.heap.objs.size≤T) (hz:xs.length≤Xr) (r:Vals xs its) (ht:IsTup h' T its.toArray):Inv X pins σ (upd H T (.tup xs)) { s with heap:=h' }:=by
 have hn:H T=none:=I.hok.fresh hT
 have nch:∀b u,H b=some u->b∉ch:=λb u e z=>by rw[(f b z).1]at e;cases e
 have new:ObjOk X.prog X.w (upd H T (.tup xs)) h' T (.tup xs):=⟨hz,its,r,ht⟩
 refine I.call (ch:=ch) (g':=s.gens) (d':=s.drawn) (t':=s.toks) ⟨λb o e _ _ hc=>k b o hc e,λb o e _ _ hc=>⟨o.slots,k b o hc e⟩,λb o e n _=>?_,λb o e hc=>?_,λb ys e=>?_,λb o u e=>?_,λb ps e=>?_⟩ (λb u e=>?_) I.bare (λb hb=>?_)
 ·rw[Zz (λz=>by rw[z]at e;exact absurd (Xx e) (Nat.not_lt.mpr hT))];exact n
 ·exact⟨o,k b o hc e⟩
 ·rw[Zz (Y5 e hn)];exact e
 ·rw[Zz (Y5 e hn)];exact e
 ·exact⟨#[],by rw[Zz (Y5 e hn),e];simp⟩
 ·by_cases hb:b=T
  ·subst hb;rw[Z8]at e;cases e;exact new
  ·rw[Zz hb]at e
   refine(I.hok b u e).stay (λc v hc q=>k c v ?_ q) (λc q=>by rw[Zz (Y5 q hn)];exact q) λc ys q=>by rw[Zz (Y5 q hn)];exact q
   rcases hc with rfl|hc
   ·exact nch _ _ e
   ·exact nch _ _ hc
 ·obtain⟨f0,f1,f2,f3,f4,f5⟩:=f b hb
  exact⟨f3,f1,f4,f5⟩
theorem Inv.turnAll{h':Heap}{ch:List Addr}(I:Inv X pins σ H s)(f:∀b∈ch,Zhp X pins H b)(k:∀b o,b∉ch->s.heap.get? b=some o->h'.get? b=some o):Inv X pins σ H { s with heap:=h' }:=by
 have nch:∀b u,H b=some u->b∉ch:=λb u e z=>by rw[(f b z).1]at e;cases e
 refine I.call (ch:=ch) (g':=s.gens) (d':=s.drawn) (t':=s.toks) ⟨λb o e _ _ hc=>k b o hc e,λb o e _ _ hc=>⟨o.slots,k b o hc e⟩,λb o e n _=>n,λb o e hc=>⟨o,k b o hc e⟩,λb ys e=>e,λb o u e=>e,λb ps e=>⟨#[],by rw[e];simp⟩⟩ (λb u e=>?_) I.bare (λb hb=>?_)
 ·refine(I.hok b u e).stay (λc v hc q=>k c v ?_ q) (λc q=>q) λc ys q=>q
  rcases hc with rfl|hc
  ·exact nch _ _ e
  ·exact nch _ _ hc
 ·obtain⟨f0,f1,f2,f3,f4,f5⟩:=f b hb
  exact⟨f3,f1,f4,f5⟩
end
variable {G:Xd}
section
variable {X:Cx}{io:List Nat}{p c:Bool}{e a b tg:Expr}{m:MEt}{mr:MAt}
theorem Rel.keptList{C:MC G}{H:Hp}{σ:St}{δ:Zh}{fp:Fp}{ex:Addr->Prop}{v:V}{ds:List Xa}(R:Rel C io H σ δ fp ex)(q:Da G H (λa=>c=true->Lf C fp ex a) v (.list ds)) :
  ∃a xs,v= .ref a∧∀H':Hp,(∀b o,H b=some o->(c=false∨¬Foot fp b)->H' b=some o)->SqL G H' a xs∧Das G H' (λa=>c=true->(Lf C fp ex a∧H a≠none)) xs ds:=by
 generalize hd:Bd ds=d at q
 cases q with
 | lst l e r=>
  cases hd
  rename_i a0 xs0
  refine⟨a0,xs0,rfl,λH' kp=>?_⟩
  obtain⟨f1,f2⟩:=R.kept kp
  exact⟨.inl (f1 _ (.lst _) l e).2,r.frame f1 f2⟩
 | scr k=>
  rename_i a ns
  have:=PyData.list.inj hd
  subst this
  exact⟨a,_,rfl,λH' _=>⟨k.sq,.ints ns⟩⟩
 | _=>cases hd
noncomputable def Zn4(as bs:List Xa):List Xa:=(as.zip bs).map λx=>.tuple [x.1,x.2]
theorem Zuo{as bs:List Xa}{i:Nat}{d:Xa}(h:(Zn4 as bs)[i]? =some d):∃x y,as[i]? =some x∧bs[i]? =some y∧d= .tuple [x,y]:=by
 unfold Zn4 at h
 rw[Xl]at h
 cases e:(as.zip bs)[i]? with
 | none=>rw[e]at h;cases h
 | some z=>
  rw[e]at h
  cases h
  obtain⟨h1,h2⟩:=List.getElem?_zip_eq_some.mp e
  exact⟨z.1,z.2,h1,h2,rfl⟩
theorem Zsa{as bs:List Xa}{i:Nat}(h:(Zn4 as bs)[i]? =none):as.length≤i∨bs.length≤i:=by
 unfold Zn4 at h
 have:=JB.mp h
 simp at this
 omega
@[simp] theorem Z13(as bs:List Xa):(Zn4 as bs).length=min as.length bs.length:=by simp[Zn4]
end
variable {G:Xd}
section
variable {X:Cx}{io:List Nat}{c1 c2 c3:Bool}{a b e:Expr}{ma mb mc:MEt}{pos:Pos}{f g:Int->Int->Bool}
noncomputable def Zht(f g:Int->Int->Bool)(ma mb mc:MEt):MEt:=λδ K=>ma δ λx δ1=>mb δ1 λy δ2=>asI x.data λi=>asI y.data λj=>if f i j=true then mc δ2 λz δ3=>asI z.data λk=>K (.fz (.bool (g j k))) δ3 else K (.fz (.bool false)) δ2
theorem Zxe{ta tb tc:TE}(ha:SE G io true c1 ta ma)(hb:SE G io true c2 tb mb)(hc:SE G io true c3 tc mc):SE G io true true (Ztp (rI0 λi j=>.bl (f i j)) (rI0 λi j=>.bl (g i j)) ta tb tc) (Zht f g ma mb mc):=by
 intro C H σ δ fp ex K Q R h k
 refine ha.pureAfter R h λH1 x u R1 s1 q1 h1=>?_
 refine hb.pureAfter R1 h1 λH2 y v R2 s2 q2 h2=>?_
 obtain⟨i,rfl,h2⟩:=q1.intInv h2
 obtain⟨j,rfl,h2⟩:=q2.intInv h2
 refine⟨i,j,rfl,rfl,f i j,rfl,?_⟩
 by_cases hf:f i j=true
 ·rw[if_pos hf]at h2⊢
  refine hc.pureAfter R2 h2 λH3 z w R3 s3 q3 h3=>?_
  obtain⟨l,rfl,h3⟩:=q3.intInv h3
  have s13:Same H H3:=(s1.trans s2).trans s3
  exact⟨j,l,rfl,rfl,k H3 _ _ δ fp [] (.fz R3 (.same s13 s13.al) (.bl _)) h3⟩
 ·rw[if_neg hf]at h2⊢
  have s12:Same H H2:=s1.trans s2
  exact k H2 _ _ δ fp [] (.fz R2 (.same s12 s12.al) (.bl _)) h2
theorem Zyi{op op':CmpOp}(ho:OpR X (JK op) (rI0 λi j=>.bl (f i j)))(ho':OpR X (JK op') (rI0 λi j=>.bl (g i j)))(ha:ME X io true c1 a ma)(hb:ME X io true c2 b mb)(hc:ME X io true c3 e mc)
  (hm:lastMarks [op,op'] [b,e]=false:=by with_unfolding_all rfl):ME X io true true (.Compare a [op,op'] [b,e] pos) (Zht f g ma mb mc):=by
 obtain⟨_,A,sa⟩:=ha
 obtain⟨_,B,sb⟩:=hb
 obtain⟨_,D,sc⟩:=hc
 exact⟨_,Zvb ho ho' A B D hm,Zxe sa sb sc⟩
theorem Zjf{op op':CmpOp}(ho:OpR X (JK op) (rI0 λi j=>.bl (f i j)))(ho':OpR X (JK op') (rI0 λi j=>.bl (g i j)))(ha:ME X io true c1 a ma)(hb:ME X io true c2 b mb)(hc:ME X io true c3 e mc)
  (hm:lastMarks [op,op'] [b,e]=false:=by with_unfolding_all rfl):MT X io true (.Compare a [op,op'] [b,e] pos) (λδ K=>Zht f g ma mb mc δ (kB K)):=by
 obtain⟨_,A,sa⟩:=ha
 obtain⟨_,B,sb⟩:=hb
 obtain⟨_,D,sc⟩:=hc
 exact⟨_,Zvx ho ho' A B D hm,Z6a (Zxe sa sb sc)⟩
end
theorem Zew:∀{ns:List Int} {its:List Xc},Vals (ns.map V.int) its->∃xs:List (Int×Tok),its=xs.map (λp=>Vy p.1 p.2)∧xs.map (·.1)=ns
 | [],_,.nil=>⟨[],rfl,rfl⟩
 | n :: ns,_,.cons r rs=>by
  obtain⟨t,e⟩:=(show∃t,_=Vy n t from r)
  obtain⟨xs,h1,h2⟩:=Zew rs
  exact⟨(n,t) :: xs,by rw[e,h1];rfl,by rw[Qu,h2]⟩
noncomputable def Yb8(K:Xd):List V->Hp->VK->Prop:=λxs H Q=>∃(a:Addr) (ns:List Int),xs=[.ref a]∧SqL K H a (ns.map V.int)∧Q (.int ns.sum) H
theorem Zq7{X:Cx}{K:Xd}(hK:X.K=K)(hc:X.calm=true):Zbt X (.builtin "sum") (Yb8 K):=by
 subst hK
 intro pins s σ H xs us Q I r h
 obtain⟨a,ns,rfl,hs,q⟩:=h
 obtain⟨u,rfl,ru⟩:=vals1 r
 cases(show u=XX a from ru)
 obtain⟨its,rv,pl,hz⟩:=I.list hs
 obtain⟨ps,rfl,e2⟩:=Zew rv
 refine sum_intListG (xs:=ps.toArray) (I.ok.hd hc) (by simpa [intItems]using pl.isList) λh' tk t' hk=>?_
 refine⟨.int ns.sum,H,I.kept (t':=tk) hk,⟨t',?_⟩,q⟩
 congr 1
 rw[preSum_eq,Ux (by simp)]
 show(ps.map (·.1)).sum=ns.sum
 rw[e2]
noncomputable def Ycd:List Xa->(Xa->Prop)->Prop:=λds k=>n1 (λd=>∃ns:List Int,d= .list (ns.map Xm)∧k (.int ns.sum)) ds
theorem Z2o:PNs G (Yb8 G) Ycd:=λH L xs ds k Q hx h kk=>by
 obtain⟨v,d,rfl,rfl,q,ns,e,h'⟩:=hx.one h
 subst e
 obtain⟨a,rfl,hs⟩:=q.ints_sq
 exact⟨a,ns,rfl,hs,kk _ _ (.int _) h'⟩
section
variable {X:Cx}{io:List Nat}{p c:Bool}{a b e:Expr}{ma mb m:MEt}{pos pl:Pos}
noncomputable def Ybx(m mb:MEt):MEt:=λδ K=>m δ λr δ1=>mb δ1 λn _=>asI n.data λk=>(-(2^63)≤k∧k<2^63∧k.toNat≤Xr)∧K (.nd (Qg k.toNat (.fz r.data))) δ1
theorem Zms{α:Type}(x:α):∀n:Nat,(Qg n [x]).flatten=Qg n x
 | 0=>rfl
 | n+1=>by rw[VH,Uy,Zms x n];rfl
theorem Das.rep{H:Hp}{L:Addr->Prop}{v:V}{d:Xa}(h:Da G H L v d):∀n:Nat,Das G H L (Qg n v) (Qg n d)
 | 0=>.nil
 | n+1=>.cons h (Das.rep h n)
theorem Z9l(ha:ME X io p true a m)(hb:ME X io true c b mb)(hs:Xn [a] X.env=(false,eval a X.env) :: Xn [] X.env:=by rfl):ME X io p true (.BinOp (.List [a] pl) .Mult b pos) (Ybx m mb):=by
 obtain⟨_,A,sa⟩:=ha
 obtain⟨_,B,sb⟩:=hb
 refine⟨_,Zyv Z6k (Zwr (Zdq A Zj4 hs)) B,λC H σ δ fp ex K Q R h k=>?_⟩
 refine sa C H σ δ fp ex _ _ R h λH1 v r δ1 fp1 new r1 h1=>⟨(by show 1≤Xr;decide),λl hl=>?_⟩
 have R1:=r1.base
 have s1:=Z5 hl (.lst [v])
 refine sb.pureAfter (R1.mk0 s1) h1 λH2 w n R2 s2 q2 h2=>?_
 obtain⟨i,rfl,h2⟩:=q2.intInv h2
 have q:=(((r1.da R).wide (L':=Lf C fp1 ex) λa l _=>l rfl).same s1).same s2
 refine⟨l,i,[v],rfl,rfl,s2 _ _ Z8,h2.1.1,h2.1.2.1,by show 1*i.toNat≤Xr;rw[Nat.one_mul];exact h2.1.2.2,λt ht=>?_⟩
 rw[Zms]
 have S:Stp p H δ fp H2 δ1 fp1:=by
  have:=r1.stp.trans (p':=true) (Stp.same (p:=true) (δ:=δ1) (fp:=fp1) (s1.trans s2) (s1.trans s2).al)
  rwa[Bool.and_true]at this
 refine k _ _ _ δ1 fp1 [t] (RE.tree R R2 S (Z5 ht _) (Zbp ht) (Zdu t) ?_) h2.2
 have:=Own.list ht ((Das.rep q i.toNat).wide (L':=λa=>true=true->Lf C fp1 ex a) λa l _ _=>l)
 rwa[List.map_replicate]at this
end
variable {G:Xd}
section
variable {X:Cx}
noncomputable def Zz1:List V->Hp->VK->Prop:=λvs H Q=>∃i j:Int,vs=[.int i,.int j]∧∀r,H r=none->Q (.ref r) (upd H r (.rng i j))
theorem Zpu:Zbt X (.type "range") Zz1:=by
 intro pins s σ H vs us Q I r h
 obtain⟨i,j,rfl,q⟩:=h
 obtain⟨u,u',rfl,⟨t,rfl⟩,⟨t',rfl⟩⟩:=vals2 r
 refine call_range_2 ?_
 exact⟨.ref s.heap.objs.size,_,I.laid (o:=.rng i j) (λb o e=>Xf _ e) (Qp _) ⟨_,_,_,Xv _ rfl⟩,rfl,q _ I.fresh⟩
noncomputable def Zv3(lo:Int)(n:Nat):List V:=(Xk n).map λ(i:Nat)=>V.int (lo+(i:Int))
noncomputable def Zv1:List V->Hp->VK->Prop:=λvs H Q=>∃r lo hi,vs=[.ref r]∧H r=some (.rng lo hi)∧(-(2^62)≤lo∧lo<2^62∧-(2^62)≤hi∧hi<2^62)∧(hi-lo).toNat≤Xr∧∀l,H l=none->Q (.ref l) (upd H l (.lst (Zv3 lo (hi-lo).toNat)))
theorem Zk2(lo:Int)(n:Nat):Zv3 lo (n+1)= .int lo :: Zv3 (lo+1) n:=by
 unfold Zv3
 rw[List.range_succ_eq_map,Qu,Qs]
 congr 1
 ·simp
 ·refine X7 λi _=>?_
  show V.int (lo+((i+1:Nat):Int))=V.int (lo+1+(i:Int))
  congr 1
  omega
theorem Znd:∀(acc:List Xc) (lo:Int),(∀(i:Nat) (v:Xc),acc[i]? =some v->∃t,v=Vy (lo+i) t)->Vals (Zv3 lo acc.length) acc
 | [],_,_=>.nil
 | v :: acc,lo,h=>by
  rw[Q6,Zk2]
  obtain⟨t,e⟩:=h 0 v rfl
  refine .cons ⟨t,by rw[e];simp⟩ (Znd acc (lo+1) λi w hw=>?_)
  obtain⟨t',e'⟩:=h (i+1) w (by simpa using hw)
  refine⟨t',?_⟩
  rw[e']
  congr 1
  omega
theorem Zif(hc:X.calm=true):Zbt X (.type "list") Zv1:=by
 intro pins s σ H vs us Q I r h
 obtain⟨a,lo,hi,rfl,e,hb,hz,q⟩:=h
 obtain⟨u,rfl,ru⟩:=vals1 r
 cases(show u=XX a from ru)
 obtain⟨t,u',v,e1⟩:=(show ObjOk X.prog X.w H s.heap a (.rng lo hi)from I.hok a _ e)
 refine call_list_range (n:=(hi-lo).toNat) (I.ok.hd hc) e1 ?_ ?_ hz λh' tk acc c' hk hS hacc=>?_
 ·exact small_one hb.1 hb.2.1 hb.2.2.1 hb.2.2.2
 ·rw[rangeSize_one];split<;>omega
 ·refine⟨.ref s.heap.objs.size,_,I.laid (o:=.lst (Zv3 lo (hi-lo).toNat)) (t':=tk) hk (Qp _) ⟨?_,acc.toList,c',?_,by simpa using hS⟩,rfl,q _ I.fresh⟩
  ·simp[Zv3];omega
  ·have:=Znd acc.toList lo λi v hv=>by
    obtain⟨t,e⟩:=hacc.2 i v (by simpa using hv)
    exact⟨t,by rw[e,Int.mul_one]⟩
   rwa[show acc.toList.length=(hi-lo).toNat by simpa using hacc.1]at this
end
end L2
namespace L2
open PySem PySem.Spec PyProof.Rows PySem.SeqAt
variable {G:Xd}
theorem Ztf(lo:Int)(n:Nat):Zc5 lo (n+1)= .int lo :: Zc5 (lo+1) n:=by
 unfold Zc5
 rw[List.range_succ_eq_map,Qu,Qs]
 congr 1
 ·simp
 ·refine X7 λi _=>?_
  show Xm (lo+((i+1:Nat):Int))=Xm (lo+1+(i:Int))
  congr 1
  omega
theorem Das.rng{H:Hp}{L:Addr->Prop}:∀(n:Nat) (lo:Int),Das G H L (Zv3 lo n) (Zc5 lo n)
 | 0,_=>.nil
 | n+1,lo=>by
  rw[Zk2,Ztf]
  exact .cons (.int _) (Das.rng n _)
section
variable {X:Cx}{io:List Nat}{p c:Bool}{a b e:Expr}{ma mb m:MEt}{mr:MAt}{pos pos' pl pr:Pos}
noncomputable def Ycx(mr:MAt):MEt:=λδ K=>mr δ λrs δ'=>n2 (λd d'=>asI d λi=>asI d' λj=>(-(2^62)≤i∧i<2^62∧-(2^62)≤j∧j<2^62∧(j-i).toNat≤Xr)∧K (.nd ((Zc5 i (j-i).toNat).map OT.fz)) δ') (OT.datas rs)
theorem Z6j{C:MC G}{H H1:Hp}{σ:St}{δ δ1:Zh}{fp fp1:Fp}{ex:Addr->Prop}{r l:Addr}{lo hi:Int}{n:Nat}(R:Rel C io H σ δ fp ex)(R1:Rel C io H1 σ δ1 fp1 ex)(S:Stp p H δ fp H1 δ1 fp1)(hr:H1 r=none)
  (hl:upd H1 r (.rng lo hi) l=none):RE C io p true H σ δ fp ex (upd (upd H1 r (.rng lo hi)) l (.lst (Zv3 lo n))) (.ref l) (.nd ((Zc5 lo n).map OT.fz)) δ1 fp1 [l]:=by
 have s1:=Z5 hr (.rng lo hi)
 have S':Stp p H δ fp (upd H1 r (.rng lo hi)) δ1 fp1:=by
  have:=S.trans (p':=true) (Stp.same (p:=true) (δ:=δ1) (fp:=fp1) s1 s1.al)
  rwa[Bool.and_true]at this
 exact RE.tree R (R1.mk0 s1) S' (Z5 hl _) (Zbp hl) (Zdu l) (Own.list hl (Das.rng n lo))
theorem Zrw(hc:X.calm=true)(hgl:Gl X "list")(hml:X.mg "list"=none)(hvl:X8 "list"=some (.type "list"))(hg:Gl X "range")(hm:X.mg "range"=none)(hv:X8 "range"=some (.type "range"))(ha:MA X io p c [a,b] mr)
  (he:Xn [a,b] X.env=(false,eval a X.env) :: Xn [b] X.env:=by rfl) (hpl:(JP pos' (Xn [b] X.env)).any (·.1)=false:=by rfl)
  (he':Xn [.Call (.Name "range" pr) [a,b] [] pos'] X.env=(false,eval (.Call (.Name "range" pr) [a,b] [] pos') X.env) :: Xn [] X.env:=by rfl) (hpl':(JP pos (Xn [] X.env)).any (·.1)=false:=by rfl) :
  ME X io p true (.Call (.Name "list" pl) [.Call (.Name "range" pr) [a,b] [] pos'] [] pos) (Ycx mr):=by
 obtain⟨_,A,s⟩:=ha
 refine⟨_,Zd6 (Zif hc) hgl hml hvl (Zdq (Zd6 Zpu hg hm hv A (he:=he) (hpl:=hpl)) Zj4 he') (he:=he') (hpl:=hpl'),λC H σ δ fp ex K Q R h kk=>s C H σ δ fp ex _ _ R h λH1 vs rs δ1 fp1 new r1 h1=>?_⟩
 obtain⟨v,u,d,e,rfl,e2,q,q',h2⟩:=(r1.das R).two h1
 obtain⟨i,rfl,h2⟩:=q.intInv h2
 obtain⟨j,rfl,h2⟩:=q'.intInv h2
 exact⟨i,j,rfl,λr hr=>⟨r,i,j,rfl,Z8,⟨h2.1.1,h2.1.2.1,h2.1.2.2.1,h2.1.2.2.2.1⟩,h2.1.2.2.2.2,λl hl=>kk _ _ _ δ1 fp1 [l] (Z6j R r1.base r1.stp hr hl) h2.2⟩⟩
end
section
variable {X:Cx}{io:List Nat}{p c:Bool}{a b e:Expr}{ma mb m:MEt}{mr:MAt}{pos pos' pl pr:Pos}
end
end L2
namespace L2
open PySem PySem.Spec PyProof.Rows
theorem ObjOk.is{P:Qj}{w:Qy}{H:Hp}{h:Heap}{a:Addr}{o:HO}(x:ObjOk P w H h a o):∃u,h.get? a=some u:=by
 cases o with
 | lst xs=>obtain⟨_,_,_,_,e⟩:=x;exact⟨_,e⟩
 | tup xs=>obtain⟨_,_,_,ob,e,_⟩:=x;exact⟨_,e⟩
 | dK kvs=>obtain⟨_,_,_,_,o,_,_,e,_⟩:=x;exact⟨_,e⟩
 | dT kvs=>obtain⟨_,_,_,_,o,_,_,e,_⟩:=x;exact⟨_,e⟩
 | set S n=>obtain⟨o,_,_,_,e,_⟩:=x;exact⟨_,e⟩
 | ins C dx fs=>obtain⟨_,_,_,e,_⟩:=x;exact⟨_,e⟩
 | own y=>obtain⟨_,e⟩:=x;exact⟨_,e⟩
 | xd fs=>obtain⟨_,⟨_,_,_,e,_⟩,_⟩:=x;exact⟨_,e⟩
 | rng lo hi=>obtain⟨_,_,_,e⟩:=x;exact⟨_,e⟩
 | frz ob u=>obtain⟨e,_⟩:=x;exact⟨_,e⟩
 | tbl ps=>exact⟨_,(show h.get? a=some _ from x)⟩
 | met f y=>exact⟨_,(show h.get? a=some _ from x)⟩
 | ext φ=>obtain⟨_,⟨_,e⟩,_⟩:=x;exact⟨_,e⟩
structure Apart(X:Cx)(pins:List (Addr×Obj))(H:Hp)(b:Addr):Prop where
 fr:H b=none
 new:X.s₀.heap.get? b=none
 loc:b≠X.env.locals
 cel:∀x c,X.env.cells.lookup x=some c->c≠b
 pin:∀p∈X.pn ++ pins,p.1≠b
section
variable {X:Cx}{pins:List (Addr×Obj)}{σ:St}{H H':Hp}{s:Xg}{h':Heap}{b a C:Addr}
theorem Inv.apart(I:Inv X pins σ H s)(hex:X.ex=[])(hb:s.heap.get? b=none)(hH:H' b=none):Apart X pins H' b:=by
 have ne:∀c o,s.heap.get? c=some o->c≠b:=λc o e z=>by rw[z,hb]at e;cases e
 refine⟨hH,?_,?_,λx c e=>?_,λp hp=>?_⟩
 ·cases q:X.s₀.heap.get? b with
  | none=>rfl
  | some o=>
   obtain⟨o',e⟩:=I.base.there b o q (by rw[hex];simp)
   rw[hb]at e;cases e
 ·obtain⟨m,⟨o,_,_,ho,_⟩,_⟩:=I.loc
  exact(ne _ _ ho).symm
 ·obtain⟨v,o,ho,_⟩:=I.cell x c e
  exact ne _ _ ho
 ·exact ne _ _ (I.pin p hp).1
theorem Inv.unheld(I:Inv X pins σ H s)(hb:s.heap.get? b=none):H b=none:=by
 cases q:H b with
 | none=>rfl
 | some u=>
  obtain⟨o,e⟩:=(I.hok b u q).is
  rw[hb]at e;cases e
theorem Inv.nofrs(I:Inv X pins σ H s)(hb:b≠X.env.locals)(hf:b∉X.fs):b∉frs X.stack:=λz=>(Xp.mp (I.stkSub b z)).elim hb hf
theorem Inv.flown{t':Nat}(I:Inv X pins σ H s){ch:List Addr}(hch:∀b∈ch,Apart X pins H b)(keep:∀b o,b∉frs X.stack->b∉ch->s.heap.get? b=some o->h'.get? b=some o)
  (slot:∀b o,b∈frs X.stack->s.heap.get? b=some o->∃sl,h'.get? b=some { o with slots:=sl }):Inv X pins σ H { s with heap:=h',toks:=t' }:=by
 have any:∀b o,b∉ch->s.heap.get? b=some o->∃sl,h'.get? b=some { o with slots:=sl }:=λb o n e=>by
  by_cases hb:b∈frs X.stack
  ·exact slot b o hb e
  ·exact⟨o.slots,keep b o hb n e⟩
 have neL:∀b o,X.s₀.heap.get? b=some o->b≠X.env.locals:=λb o e=>XQ (X4 (Xx e) I.ok.above)
 have neC:∀b o,X.s₀.heap.get? b=some o->b∉ch:=λb o e hb=>by
  have:=(hch b hb).new
  rw[this]at e;cases e
 have cellK:∀x c,X.env.cells.lookup x=some c->∀v,s.heap.IsCell c v->h'.IsCell c v:=λx c e v q91=>by
  obtain⟨o,ho,hd⟩:=q91
  obtain⟨sl,q⟩:=any c o (λz=>(hch c z).cel x c e rfl) ho
  exact⟨_,q,hd⟩
 have nL:X.env.locals∉ch:=λz=>(hch _ z).loc rfl
 refine⟨I.ok,I.os,I.bare,⟨λb o e n hb hx=>?_,λb o e n hb hx=>?_,I.base.free,λb o e hx=>?_,I.base.tups,I.base.frzs,I.base.tbls⟩,?_,λx c e=>?_,I.free,I.freeC,λp hp=>?_,λb u e=>?_,I.len⟩
 ·exact keep b o (I.nofrs (neL b o e) hb) (neC b o e) (I.base.keep b o e n hb hx)
 ·obtain⟨sl,e1⟩:=I.base.slot b o e n hb hx
  obtain⟨sl',e2⟩:=any b _ (neC b o e) e1
  exact⟨sl',e2⟩
 ·obtain⟨o',e1⟩:=I.base.there b o e hx
  obtain⟨sl,e2⟩:=any b o' (neC b o e) e1
  exact⟨_,e2⟩
 ·obtain⟨m,⟨o,es,ep,ho,r⟩,hl⟩:=I.loc
  obtain⟨sl,q⟩:=any _ o nL ho
  refine⟨m,⟨_,es,ep,q,r⟩,λi x v e1 e2 e3=>?_⟩
  obtain⟨u,rv,l⟩:=hl i x v e1 e2 e3
  refine⟨u,rv,?_⟩
  rcases l with l|⟨k,c,e,z⟩
  ·exact .inl l
  ·exact .inr ⟨k,c,e,cellK x c e _ z⟩
 ·obtain⟨v,z⟩:=I.cell x c e
  exact⟨v,cellK x c e v z⟩
 ·obtain⟨e,n,ne,nf,d⟩:=I.pin p hp
  exact⟨keep p.1 p.2 (I.nofrs ne nf) (λz=>(hch _ z).pin p hp rfl) e,n,ne,nf,d⟩
 ·refine(I.hok b u e).stay (λc v hc q=>keep c v (λz=>?_) (λz=>?_) q) (λ_ q=>q) λ_ _ q=>q
  ·have n:=I.stkFree c z
   rcases hc with rfl|hc
   ·rw[n]at e;cases e
   ·rw[n]at hc;cases hc
  ·have n:=(hch c z).fr
   rcases hc with rfl|hc
   ·rw[n]at e;cases e
   ·rw[n]at hc;cases hc
noncomputable def Fl(ap:Addr->Prop)(C a:Addr)(fl:Xc)(h:Heap):Prop:=∃a0 oe vs T oT ts,h.get? a=some oe∧(oe.cls= .ref C∧vs[0]? =some a0)∧oe.data= .fields vs∧vs[1]? =some (.ref T)∧T≠a∧h.get? T=some oT∧oT.data= .fields ts∧ts[3]? =some fl∧ap a∧ap T
noncomputable def Fl0(ap:Addr->Prop)(C a:Addr)(h:Heap):Prop:=∃a0 oe vs,h.get? a=some oe∧(oe.cls= .ref C∧vs[0]? =some a0)∧oe.data= .fields vs∧vs[1]? =some .none∧ap a
noncomputable def FlA(ap:Addr->Prop)(fl:Xc)(C a:Addr)(h:Heap):Prop:=Fl ap C a .none h∨Fl0 ap C a h∨Fl ap C a fl h
theorem Fl.imp{ap ap':Addr->Prop}{fl:Xc}{h:Heap}(f:∀b,ap b->ap' b)(x:Fl ap C a fl h):Fl ap' C a fl h:=by
 obtain⟨a0,oe,vs,T,oT,ts,h1,h2,h3,h4,h5,h6,h7,h8,h9,h10⟩:=x
 exact⟨a0,oe,vs,T,oT,ts,h1,h2,h3,h4,h5,h6,h7,h8,f _ h9,f _ h10⟩
section
variable {M:Model}{A:Qv}{E:Xc->Xg->Prop}{Q:Unit->Xg->Prop}{ch:List Addr}
theorem Inv.hidFrames(I:Inv X pins σ H s):s.heap.FunFrames (Bg s.heap (frs X.stack ++ ch)) X.stack :=
 PySem.W.funFrames_hide I.stack λenv he b hb=>Bk _ (List.mem_filterMap.mpr ⟨env,he,hb⟩)
theorem Inv.flyTo(I:Inv X pins σ H s)(hch:∀b∈ch,Apart X pins H b)(k1:(Bg s.heap (frs X.stack ++ ch)).StaysIn h')(k4:∀b o,s.heap.get? b=some o->(∀vs,o.data≠ .fields vs)->∃sl,h'.get? b=some { o with slots:=sl }) :
  Inv X pins σ H { s with heap:=h' } :=
 I.flown (t':=s.toks) hch (λb o hf hc e=>k1 b o (PySem.W.hideAll_get _ e λz=>(Xq.mp z).elim hf hc)) λb o hb e=>by
  obtain⟨_,o',ho',hd⟩:=I.stack.mem hb
  rw[e]at ho';cases ho'
  exact k4 b o e hd
theorem Inv.flyT(I:Inv X pins σ H s)(hex:X.ex=[])(hch:∀b∈ch,Apart X pins H b){T:Addr}{oT:Obj}{ts:Array Xc}(k4:∀b o,s.heap.get? b=some o->(∀vs,o.data≠ .fields vs)->∃sl,h'.get? b=some { o with slots:=sl })
  (hT:(Bg s.heap (frs X.stack ++ ch)).get? T=none) (h1:h'.get? T=some oT) (h2:oT.data= .fields ts):Apart X pins H T:=by
 by_cases hc:T∈ch
 ·exact hch T hc
 by_cases hf:T∈frs X.stack
 ·obtain⟨_,o',ho',hd⟩:=I.stack.mem hf
  obtain⟨sl,e⟩:=k4 T o' ho' hd
  rw[h1]at e
  cases e
  exact absurd h2 (hd ts)
 have hn:s.heap.get? T=none:=by
  cases q:s.heap.get? T with
  | none=>rfl
  | some o=>
   have:=PySem.W.hideAll_get (frs X.stack ++ ch) q λz=>(Xq.mp z).elim hf hc
   rw[hT]at this;cases this
 exact I.apart hex hn (I.unheld hn)
theorem Zmu(I:Inv X pins σ H s)(hex:X.ex=[])(hst:X.stack=X.env :: X.outer)(hf:X.env.frame=some X.env.locals)(hA:A.frames=some X.stack)(F:FlA (Apart X pins H) (JL X.env.locals) C a s.heap)
  (h:∀s',Inv X pins σ H s'->Fl (Apart X pins H) C a (JL X.env.locals) s'.heap->Q () s'):Xu M A (noteFrame (.ref a) X.env) Q E s:=by
 rcases F with F|F|F
 ·obtain⟨a0,oe,vs,T,oT,ts,eA,cA,dA,v1,nT,eT,dT,t3,pA,pT⟩:=F
  have hch:∀b∈[a,T],Apart X pins H b:=λb hb=>by
   rcases Xp.mp hb with rfl|hb
   ·exact pA
   ·rw[Xj.mp hb];exact pT
  have hen:(Bg s.heap (frs X.stack ++ [a,T])).get? a=none:=V5 _ (X6 _ (.head _))
  have hTn:(Bg s.heap (frs X.stack ++ [a,T])).get? T=none:=V5 _ (X6 _ (.tail _ (.head _)))
  have fr:=I.hidFrames (ch:=[a,T])
  refine wpAny_noteFrame_onW (base:=Bg s.heap (frs X.stack ++ [a,T])) (outer:=X.outer) (hA.trans (by rw[hst])) (hst▸fr) hf ⟨oe,vs,T,oT,ts,eA,cA,dA,v1,hTn,nT,eT,dT,t3⟩ (λb o e=>PySem.W.of_hideAll _ e) hen λh' hN=>?_
  obtain⟨k1,_,⟨oe',vs',T',oT',ts',e1,e2,e3,e4,e5,e6,e7,e8,e9⟩,k4⟩:=hN
  exact h _ (I.flyTo hch k1 k4) ⟨a0,oe',vs',T',oT',ts',e1,e2,e3,e4,e6,e7,e8,e9,pA,I.flyT hex hch k4 e5 e7 e8⟩
 ·obtain⟨a0,oe,vs,eA,cA,dA,v1,pA⟩:=F
  have hch:∀b∈[a],Apart X pins H b:=λb hb=>by rw[Xj.mp hb];exact pA
  have hen:(Bg s.heap (frs X.stack ++ [a])).get? a=none:=V5 _ (X6 _ (.head _))
  have fr:=I.hidFrames (ch:=[a])
  unfold noteFrame
  simp only[hf]
  refine Xb (JZ eA dA v1 ?_)
  rw[if_neg (by decide)]
  refine wpAny_entryW (base:=Bg s.heap (frs X.stack ++ [a])) (outer:=X.outer) (hA.trans (by rw[hst])) (hst▸fr) hf eA (λb o e=>PySem.W.of_hideAll _ e) hen dA (V6.mp v1).1 cA.2 λh' hN=>?_
  obtain⟨k1,_,⟨oe',vs',T',oT',ts',e1,e2,e3,e4,e5,e6,e7,e8,e9⟩,k4⟩:=hN
  exact h _ (I.flyTo hch k1 k4) ⟨a0,oe',vs',T',oT',ts',e1,⟨e2.1.trans cA.1,e2.2⟩,e3,e4,e6,e7,e8,e9,pA,I.flyT hex hch k4 e5 e7 e8⟩
 ·have F':=F
  obtain⟨a0,oe,vs,T,oT,ts,eA,cA,dA,v1,nT,eT,dT,t3,pA,pT⟩:=F
  unfold noteFrame
  simp only[hf]
  refine Xb (JZ eA dA v1 ?_)
  rw[if_pos (by rfl)]
  refine Xb (JZ eT dT t3 ?_)
  rw[if_pos (by simp)]
  exact Xi (h s I F')
theorem Zwk(I:Inv X pins σ H s)(hex:X.ex=[]){fl:Xc}(F:Fl (Apart X pins H) C a fl s.heap)
  (h:∀s',Inv X pins σ H s'->Fl (Apart X pins H) C a .none s'.heap->Q () s'):Xu M A (setFlight (.ref a) none) Q E s:=by
 obtain⟨a0,oe,vs,T,oT,ts,eA,cA,dA,v1,nT,eT,dT,t3,pA,pT⟩:=F
 have hch:∀b∈[a,T],Apart X pins H b:=λb hb=>by
  rcases Xp.mp hb with rfl|hb
  ·exact pA
  ·rw[Xj.mp hb];exact pT
 have hTn:(Bg s.heap (frs X.stack ++ [a,T])).get? T=none:=V5 _ (X6 _ (.tail _ (.head _)))
 refine wpAny_setFlight_noneW (base:=Bg s.heap (frs X.stack ++ [a,T])) (l:=X.stack) (λb o e=>PySem.W.of_hideAll _ e) I.hidFrames ⟨oe,vs,T,oT,ts,eA,cA,dA,v1,hTn,nT,eT,dT,t3⟩ λh' k1 _ k3 k4'=>?_
 have k4:∀b o,s.heap.get? b=some o->(∀vs,o.data≠ .fields vs)->∃sl,h'.get? b=some { o with slots:=sl }:=λb o e n=>⟨o.slots,k4' b o e n⟩
 obtain⟨oe',vs',T',oT',ts',e1,e2,e3,e4,e5,e6,e7,e8,e9⟩:=k3
 exact h _ (I.flyTo hch k1 k4) ⟨a0,oe',vs',T',oT',ts',e1,e2,e3,e4,e6,e7,e8,e9,pA,I.flyT hex hch k4 e5 e7 e8⟩
theorem Zsd(I:Inv X pins σ H s)(hex:X.ex=[])(hst:X.stack=X.env :: X.outer)(hf:X.env.frame=some X.env.locals)(hA:A.frames=some X.stack)(F:FlA (Apart X pins H) (JL X.env.locals) C a s.heap)
  (h:∀s',Inv X pins σ H s'->Fl (Apart X pins H) C a .none s'.heap->Q () s'):Xu M A (leaving X.env (.ref a)) Q E s:=by
 unfold leaving
 exact Xb (Zmu I hex hst hf hA F λs1 I1 F1=>Zwk I1 hex F1 h)
end
end
noncomputable def Zlh(K:Xd)(C:Addr):Prop:=UL K C [.type "ValueError",.type "Exception",.type "BaseException",.type "object"] "ValueError.__new__"=true
theorem Zzk{K:Xd}{h:Heap}{C:Addr}{bmB:List Xc}{newId:String}(X:K.In h)(q:UL K C bmB newId=true) :
  ∃bm N nm qn bs hdct sn sub ab col dd k0 k1 k2 k3 k5 mN,h.get? C=some (excClassObj nm qn C N bs bm hdct sn sub ab col dd k0 k1 k2 k3 k5 newId)∧h.Ns N mN∧mN "__init__"=none∧OwnTail h bmB bm:=by
 unfold UL at q
 split at q
 case h_2=>cases q
 rename_i dd cd sl ho
 split at q
 case h_2=>cases q
 rename_i C' bm k0 k1 k2 k3 n k5 hm hs
 simp only[XM,beq_iff_eq,Bool.not_eq_true']at q
 obtain⟨⟨⟨⟨⟨rfl,rfl⟩,e1⟩,e2⟩,e3⟩,e4⟩:=q
 obtain⟨nm,bs,mro,ns,qn,hd,sn,sub,ab,col,del⟩:=cd
 dsimp only at hm e1 e3 e4
 subst hm e1
 obtain⟨l⟩:=sl
 have e5:l=[k0,k1,k2,k3,some (.builtin n),k5]:=hs
 subst e5
 exact⟨bm,ns,nm,qn,bs,hd,sn,sub,ab,col,dd,k0,k1,k2,k3,k5,_,X _ _ ho,.of_isNs (PySem.W.isNs_of_in X e3),PySem.W.nsMap_none_of_in X e3 e4,PySem.W.tail_of_in X e2⟩
noncomputable abbrev MXt:=Zh->(Addr->Zh->Prop)->Prop
noncomputable def XW(X:Cx)(C:MC X.K)(io:List Nat)(pins:List (Addr×Obj))(ex:Addr->Prop)(H:Hp)(fp:Fp)(k:Addr->Zh->Prop)(e:Xc)(s':Xg):Prop :=
 ∃a cl σ' H' δ' fp',e= .ref a∧Inv X pins σ' H' s'∧FlA (Apart X pins H') (JL X.env.locals) cl a s'.heap∧Rel C io H' σ' δ' fp' ex∧Kp H fp H' fp'∧k cl δ'
noncomputable def XE(X:Cx)(io:List Nat)(e:Expr)(m:MXt):Prop:=∀(C:MC X.K) (pins:List (Addr×Obj)) (s:Xg) (σ:St) (H:Hp) (δ:Zh) (fp:Fp) (ex:Addr->Prop) (k:Addr->Zh->Prop),Inv X pins σ H s->Rel C io H σ δ fp ex->m δ k ->
 Xu (X5 X.prog X.w) X.A (eval e X.env) (λ_ _=>False) (XW X C io pins ex H fp k) s
noncomputable def XS(X:Cx)(io:List Nat)(st:Stmt)(m:MXt):Prop:=∀(C:MC X.K) (pins:List (Addr×Obj)) (s:Xg) (σ:St) (H:Hp) (δ:Zh) (fp:Fp) (ex:Addr->Prop) (k:Addr->Zh->Prop),Inv X pins σ H s->Rel C io H σ δ fp ex->m δ k ->
 Xu (X5 X.prog X.w) X.A (exec st X.env) (λ_ _=>False) (XW X C io pins ex H fp k) s
noncomputable def XSs(X:Cx)(io:List Nat)(sts:List Stmt)(m:MXt):Prop:=∀(C:MC X.K) (pins:List (Addr×Obj)) (s:Xg) (σ:St) (H:Hp) (δ:Zh) (fp:Fp) (ex:Addr->Prop) (k:Addr->Zh->Prop),Inv X pins σ H s->Rel C io H σ δ fp ex->m δ k ->
 Xu (X5 X.prog X.w) X.A (execs sts X.env) (λ_ _=>False) (XW X C io pins ex H fp k) s
theorem XW.shift{X:Cx}{C:MC X.K}{io:List Nat}{pins:List (Addr×Obj)}{ex:Addr->Prop}{H H1:Hp}{fp fp1:Fp}{k:Addr->Zh->Prop}{e:Xc}{s:Xg}(q:Kp H fp H1 fp1)(h:XW X C io pins ex H1 fp1 k e s):XW X C io pins ex H fp k e s:=by
 obtain⟨a,cl,σ',H',δ',fp',e,I,F,R,K,hk⟩:=h
 exact⟨a,cl,σ',H',δ',fp',e,I,F,R,q.trans K,hk⟩
noncomputable def Zs3:MXt:=λ_ _=>False
noncomputable def Z8w(u:MSt)(w:MXt):MXt:=λδ k=>u { nx:=λδ'=>w δ' k,rt:=λ_ _=>False } δ
noncomputable def Ycw(t:MTt)(u w:MXt):MXt:=λδ k=>t δ λb δ'=>if b=true then u δ' k else w δ' k
noncomputable def Zr2(cl:Addr):MXt:=λδ k=>k cl δ
section
variable {X:Cx}{io:List Nat}{p c:Bool}{e:Expr}{es:List Expr}{mr:MAt}{m:MXt}{pos:Pos}{st:Stmt}{sts a b:List Stmt}{u:MSt}{w v:MXt}{mt:MTt}{i:Nat}{x:Str}
theorem Ztn:XSs X io sts Zs3:=λ_ _ _ _ _ _ _ _ _ _ _ h=>h.elim
theorem Zve:XS X io st Zs3:=λ_ _ _ _ _ _ _ _ _ _ _ h=>h.elim
theorem Znu(h:XS X io st w):XSs X io (st :: sts) w:=λC pins s σ H δ fp ex k I R hm=>wpAny_execs_cons (thn (h C pins s σ H δ fp ex k I R hm) λ_ _ z=>z.elim)
theorem Zu6(h:MS X io st u)(g:XSs X io sts w)(hx:X.xe= λ_ _=>False:=by rfl):XSs X io (st :: sts) (Z8w u w):=by
 obtain⟨t,A,sS⟩:=h
 intro C pins s σ H δ fp ex k I R hm
 refine wpAny_execs_cons (QG (A pins s σ H { nx:=λσ1 H1=>∃δ1 fp1,Rel C io H1 σ1 δ1 fp1 ex∧Kp H fp H1 fp1∧w δ1 k,rt:=λ_ _=>False } I
  (sS C H σ δ fp ex _ _ R hm ⟨λH' σ' δ' fp' R' k' h'=>⟨δ',fp',R',k',h'⟩,λ_ _ _ _ _ _ z=>z.elim,λ_ _ _ _ _ _ z=>z.elim,λ_ _ _ _ _ _ _ _ _ _ _ z=>z.elim⟩)) (λf s1 q=>?_) λe s1 q=>by rw[hx]at q;exact q.elim)
 cases f with
 | next=>
  obtain⟨σ1,H1,I1,δ1,fp1,R1,k1,h1⟩:=q
  exact QG (g C pins s1 σ1 H1 δ1 fp1 ex k I1 R1 h1) (λ_ _ z=>z) λe s2 z=>z.shift k1
 | ret v=>obtain⟨_,_,_,_,_,z⟩:=q;exact z.elim
 | brk=>obtain⟨_,_,_,z⟩:=q;exact z.elim
 | cont=>obtain⟨_,_,_,z⟩:=q;exact z.elim
theorem Zud(ht:MT X io p e mt)(ha:XSs X io a w)(hb:XSs X io b v)(hx:X.xe= λ_ _=>False:=by rfl):XS X io (.If e a b pos) (Ycw mt w v):=by
 obtain⟨t,A,sT⟩:=ht
 intro C pins s σ H δ fp ex k I R hm
 refine wpAny_If (QG (A pins s σ H (λr H1=>∃δ1 fp1,Rel C io H1 σ δ1 fp1 ex∧Kp H fp H1 fp1∧if r=true then w δ1 k else v δ1 k) I
  (sT C H σ δ fp ex _ _ R hm λH' r δ' fp' R' S' h'=>⟨δ',fp',R',S'.kp,h'⟩)) (λr s1 q=>?_) λe s1 q=>by rw[hx]at q;exact q.elim)
 obtain⟨H1,I1,δ1,fp1,R1,k1,h1⟩:=q
 cases r with
 | true=>exact QG (ha C pins s1 σ H1 δ1 fp1 ex k I1 R1 h1) (λ_ _ z=>z) λe s2 z=>z.shift k1
 | false=>exact QG (hb C pins s1 σ H1 δ1 fp1 ex k I1 R1 h1) (λ_ _ z=>z) λe s2 z=>z.shift k1
theorem Z1m(he:XE X io e m)(hs:VP e none pos.line X.env=pure false:=by rfl):XS X io (.Expr e pos) m:=λC pins s σ H δ fp ex k I R hm=>
 wpAny_Expr_any (thn (he C pins s σ H δ fp ex k I R hm) λ_ _ z=>z.elim) I.quiet hs
theorem Zf3{C:Addr}{x j:Str}{jk:Nat}{np cpos pos kp:Pos}(hex:X.ex=[])(hh:X.A.handled=none)(hg:Gl X x)(hm:X.mg x=some (.ref C))(q:Zlh X.K C)(hd:(x==("__debug__" : Str))=false:=by decide) :
  XS X io (.Raise (some (.Call (.Name x np) [.Constant (.str j) jk kp] [] cpos)) none pos) (Zr2 C):=by
 intro M pins s σ H δ fp ex k I R hk
 obtain⟨tl,N,nm,qn,bs,hdct,sn,sub,ab,col,dd,k0,k1,k2,k3,k5,mN,hC,hN,hni,TL⟩:=Zzk I.ok.mod.kin q
 refine wpAny_Raise_call_subT (C:=C) (nm:=nm) (q:=qn) (N:=N) (bs:=bs) (bm:=tl) (hdct:=hdct) (sn:=sn) (sub:=sub) (ab:=ab) (col:=col) (dd:=dd) (k0:=k0) (k1:=k1) (k2:=k2) (k3:=k3) (k5:=k5)
  PySem.F.excBase_ValueError (mN:=mN) (TL.hasType PySem.F.excBase_ValueError.hasBase) hh rfl hni (Zl9 I hg hm ⟨rfl,?_⟩ hd)
 refine Calls.evalArgs_plain ?_
 refine Calls.spliced_cons ?_
 show Xu _ _ (eval (.Constant (.str j) jk kp) X.env) _ _ _
 refine Calls.Constant_str ?_
 refine Calls.spliced_nil ?_
 have I1:=I.tok (s.toks+1)
 refine⟨rfl,by show 1≤Xr;decide,I1.bk _ _ hC,hN.keeps I1.bk,TL.keeps I1.bk,λh' e hx=>?_⟩
 obtain⟨t,e1,_,_⟩:=hx.there
 have I2:=I1.kept (t':=s.toks+1) hx.keeps
 exact⟨e,C,σ,H,δ,fp,rfl,I2,.inr (.inl ⟨_,_,_,e1,⟨rfl,rfl⟩,rfl,rfl,I1.apart hex hx.new (I1.unheld hx.new)⟩),R,.refl _ _,hk⟩
end
noncomputable def CX1(P:Qj)(w:Qy):CXT:=λouter H s E e s'=>∃a C H',e= .ref a∧s'.os=s.os∧AllBare s'.gens∧Un (frs outer) [] H H' s.heap s'.heap∧HOk P w H' s'.heap∧Fl (λb=>H' b=none∧s.heap.get? b=none) C a .none s'.heap∧E (.ref C) none H'
noncomputable def spX(G:Xd)(S:List Xa->Addr->Prop):Sp:=λvs H Q E=>∃L ds cl,Das G H L vs ds∧S ds cl∧∀H',Same H H'->E (.ref cl) none H'
section
variable {P:Qj}{w:Qy}{K:Xd}{mg:Str->Option Xc}{base:Heap}
theorem Fun.okX{x qual:Str}{st:Stmt}{f:Addr}{fd:Qn}{N ps:List Str}{n:Nat}{S:List Xa->Addr->Prop}(F:Fun K x qual st f fd)(Sc:Zw N ps (Zg st))(len:∀ds cl,S ds cl->ds.length=ps.length)
  (hbody:∀(cdv:Xc) (A:Qv) (outer:List Env) (s:Xg) (H:Hp) (E:XK),Room n (A.deeper (envOfC qual (Zg st) s.heap.objs.size f cdv)) ->
   ∃m,XSs (Zpl (CX1 P w) P w K mg base N qual (Zg st) f cdv A outer s H E).nox [] (Zr st) m∧∀ds cl,S ds cl->m (Zhy N ds) (λc _=>c=cl)):FnOk P w K mg base (CX1 P w) (n+1) f fd ps (spX K S):=by
 obtain⟨oc,od,kV,doc,pm,an,cdv,ct,osl,rfl,lk,hcd⟩:=F.ex
 refine Z5b lk hcd Sc (λvs H Q E h=>?_) λA outer s H vs Q E hr hsp=>?_
 ·obtain⟨L,ds,cl,h1,h2,_⟩:=h
  rw[h1.length]
  exact len ds cl h2
 obtain⟨L,ds,cl,h1,h2,h3⟩:=hsp
 obtain⟨m,hX,q⟩:=hbody cdv A outer s H E hr
 refine⟨λ_ σ' H'=>σ'=start N vs∧H'=H,λpins s1 σ1 H1 D I e=>?_,rfl,rfl⟩
 obtain⟨rfl,rfl⟩:=e
 refine QG (hX ⟨H1,λ_=>False,L,start N vs⟩ pins s1 _ _ _ _ _ (λc _=>c=cl) (I.wish _) (Rel.entry h1) (q ds cl h2)) (λ_ _ z=>z.elim) λe s' z=>?_
 obtain⟨a,cl',σ',H',δ',fp',rfl,I',F',R',K',rfl⟩:=z
 exact Zsd I' rfl rfl rfl I'.ok.frames F' λs'' J FF=>⟨a,cl',H',rfl,J.os,J.bare,J.base,J.hok,FF.imp λb ap=>⟨ap.fr,ap.new⟩,h3 H' λb o e=>R'.fr b o e id⟩
end
theorem Rel.grown{G:Xd}{C:MC G}{io:List Nat}{H H':Hp}{σ:St}{δ:Zh}{fp:Fp}{ex:Addr->Prop}(R:Rel C io H σ δ fp ex)(s:Same H H'):Rel C io H' σ δ fp ex :=
 (R.made (new:=[]) s (λa m=>nomatch m)).drop λa z=>.inl z
noncomputable def Zw5(S:List Xa->Addr->Prop)(mr:MAt):MXt:=λδ k=>mr δ λrs δ1=>∃cl,S (OT.datas rs) cl∧k cl δ1
section
variable {X:Cx}{io:List Nat}{p c:Bool}{e:Expr}{es:List Expr}{mr:MAt}{pos pp:Pos}{k:Nat}{f:Addr}{fd:Qn}{ps:List Str}{x:Str}
theorem Z2b{S}(F:FnOk X.prog X.w X.K X.mg X.base (CX1 X.prog X.w) k f fd ps (spX X.K S))(hr:Room k X.A)(hg:Gl X x)(hm:X.mg x=some (.ref f))(hk:X3 X.K (.ref f)=true)(hb:Binds X.K fd ps [])
  (ha:MA X io p c (e :: es) mr) (hex:X.ex=[]:=by rfl) (hx:X.xe= λ_ _=>False:=by rfl) (hdb:(x==("__debug__" : Str))=false:=by decide) (he:Xn (e :: es) X.env=(false,eval e X.env) :: Xn es X.env:=by rfl) (hpl:(JP pos (Xn es X.env)).any (·.1)=false:=by rfl) :
  XE X io (.Call (.Name x pp) (e :: es) [] pos) (Zw5 S mr):=by
 obtain⟨t,A,sA⟩:=ha
 intro C pins s σ H δ fp ex kk I R hm'
 refine Ba (Zl9 I hg hm ?_ hdb)
 refine PySem.W.callWith_K (h₀:=X.base) I.ok.mod.kin hk (QG (A pos pins s σ H (λvs H1=>∃δ1 fp1 L ds cl,Rel C io H1 σ δ1 fp1 ex∧Kp H fp H1 fp1∧Das X.K H1 L vs ds∧S ds cl∧kk cl δ1) I
  (sA C H σ δ fp ex _ _ R hm' λH1 vs rs δ1 fp1 new r1 h1=>let⟨cl,h2,h3⟩:=h1;⟨δ1,fp1,_,_,cl,r1.base,r1.stp.kp,r1.das R,h2,h3⟩)) (λus s1 ⟨vs,H1,I1,r,q⟩=>⟨I1.kIn,?_⟩) λe s1 z=>by rw[hx]at z;exact z.elim) he hpl
 obtain⟨δ1,fp1,L,ds,cl,R1,k1,hd,hS,hkk⟩:=q
 have hsp:spX X.K S vs H1 (λ_ _=>False) (λc _ H'=>c= .ref cl∧Same H1 H'):=⟨L,ds,cl,hd,hS,λH' s=>⟨rfl,s⟩⟩
 have hl:(us ++ []).length=ps.length:=by rw[QS,←r.length];exact F.len _ _ _ _ hsp
 have hB:=hb s1 us I1.kIn hl
 rw[QS]at hB
 refine wpAny_call (Ui (F.run X.A X.stack s1 H1 ⟨us,[]⟩ us vs _ _ hr I1.env0 hB r hsp) λres s' hq=>?_)
 cases res with
 | error e=>
  obtain⟨a,C',H',rfl,ho,bare,un,hok,FF,eC,same⟩:=hq
  cases eC
  have J:=I1.call' (ch:=[]) ho un hok bare λb z=>nomatch z
  exact⟨a,cl,σ,H',δ1,fp1,rfl,J,.inl (FF.imp λb z=>I1.apart hex z.2 z.1),R1.grown same,k1.trans (Stp.same same same.al),hkk⟩
 | ok fl=>
  cases fl with
  | ret u=>obtain⟨_,_,_,_,_,_,_,z⟩:=hq;exact z.elim
  | next=>exact Vt hq
  | brk=>exact Vt hq
  | cont=>exact Vt hq
end
section
variable {X:Cx}{pins:List (Addr×Obj)}{σ:St}{H:Hp}{s:Xg}{a C:Addr}
noncomputable abbrev Cx.suite(X:Cx)(a:Addr):Cx:={ X with A:=X.A.mark (some (.ref a)),calm:=false }
end
theorem Zxn(b:Bool)(k:Bool->Prop):asB (.bool b) k=k b:=rfl
inductive Z93:V->Xc->Prop where
 | own (D:Addr):Z93 (.ref D) (.ref D)
 | ty (T:String):Z93 (.ty T) (.type T)
inductive ClsVs:List V->List Xc->Prop where
 | nil:ClsVs [] []
 | cons {v:V} {c:Xc} {vs:List V} {cs:List Xc}:Z93 v c->ClsVs vs cs->ClsVs (v :: vs) (c :: cs)
theorem ClsVs.length:∀{vs:List V} {cs:List Xc},ClsVs vs cs->vs.length=cs.length
 | _,_,.nil=>rfl
 | _,_,.cons _ t=>by simp[t.length]
section
variable {X:Cx}{io:List Nat}{p c:Bool}{a b:Expr}{ma:MEt}{pos pp p2:Pos}
end
end L2
namespace L2
open PySem PySem.Spec PyProof.Rows PySem.P
section
variable {prog:Qj}{w:Qy}{A:Qv}{E:Xc->Xg->Prop}{s:Xg}{e t0 C:Addr}{o:Obj}{vs:Array Xc}{K:Xd}{m:Str}{tk:Tok}
structure Ydx(s:Xg)(e C t0:Addr)(m:Str)(tk:Tok):Prop where
 ob:∃o vs,s.heap.get? e=some o∧o.cls= .ref C∧o.data= .fields vs∧vs[0]? =some (.ref t0)
 tx:s.heap.TupAt t0 [.str m tk]
end
section
variable {X:Cx}{C:Addr}{x j:Str}{jk:Nat}{np cpos pos kp p1:Pos}
end
end L2
namespace L2
open PySem PySem.Spec PyProof.Rows
section
variable {X:Cx}{pins:List (Addr×Obj)}{σ:St}{H:Hp}{s:Xg}{M:Model}{A:Qv}{E:Xc->Xg->Prop}{Q:Unit->Xg->Prop}{C a L:Addr}{fl:Xc}
theorem Zvn(I:Inv X pins σ H s)(F:Fl (Apart X pins H) C a fl s.heap)
  (h:∀s',Inv X pins σ H s'->Fl (Apart X pins H) C a (JL L) s'.heap->Q () s'):Xu M A (setFlight (.ref a) (some L)) Q E s:=by
 obtain⟨a0,oe,vs,T,oT,ts,eA,cA,dA,v1,nT,eT,dT,t3,pA,pT⟩:=F
 have hsz:3<ts.size:=(V6.mp t3).1
 unfold setFlight
 refine Xb (JZ eA dA v1 ?_)
 rw[if_pos (show(XX T !=QD)=true from by simp)]
 refine wpAny_setField eT dT hsz ?_
 have hm:Obj.mapFields (λz=>z.setIfInBounds 3 ((some L:Option Addr).elim QD λf=>JL f)) oT={ oT with data:=.fields (ts.setIfInBounds 3 (JL L)) }:=by
  obtain⟨c1,c2,c3,c4⟩:=oT
  have dT':c3= .fields ts:=dT
  subst dT'
  rfl
 have self:=V4 (Obj.mapFields (λz=>z.setIfInBounds 3 ((some L:Option Addr).elim QD λf=>JL f))) eT (by rw[hm];rfl)
 have other:∀b o,b≠T->s.heap.get? b=some o->(s.heap.update T (Obj.mapFields (λz=>z.setIfInBounds 3 ((some L:Option Addr).elim QD λf=>JL f)))).get? b=some o:=λb o n e=>(Heap.get?_update_other _ _ (Vr n)).trans e
 rw[hm]at self
 refine h _ (I.flown (t':=s.toks) (ch:=[T]) (λb hb=>by rw[Xj.mp hb];exact pT) (λb o hf hc e=>other b o (λz=>hc (by simp[z])) e) λb o hb e=>?_) ⟨a0,oe,vs,T,_,_,other a oe (Vr nT) eA,cA,dA,v1,nT,self,rfl,?_,pA,pT⟩
 ·obtain⟨_,o',ho',hd⟩:=I.stack.mem hb
  have hbT:b≠T:=λz=>by
   subst z
   rw[eT]at ho'
   cases ho'
   exact hd ts dT
  exact⟨o.slots,other b o hbT e⟩
 ·simp[hsz]
theorem Zri{Cm:MC X.K}{io:List Nat}{ex:Addr->Prop}{fp:Fp}{k:Addr->Zh->Prop}(hex:X.ex=[]:=by rfl)(hst:X.stack=X.env :: X.outer:=by rfl)(hf:X.env.frame=some X.env.locals:=by rfl) :
  PassesOwn (X5 X.prog X.w) X.A X.env (XW X Cm io pins ex H fp k):=by
 rintro e s' ⟨a,cl,σ',H',δ',fp',rfl,I,F,R,Kp,hk⟩
 refine Zmu I hex hst hf I.ok.frames F λs1 I1 F1=>?_
 have F1':=F1
 obtain⟨a0,oe,vs,T,oT,ts,eA,cA,dA,v1,nT,eT,dT,t3,pA,pT⟩:=F1
 show Xu _ _ _ _ _ s1
 refine Xb (JZ eA dA v1 ?_)
 rw[if_neg (by simp)]
 rw[hf]
 exact Zvn I1 F1' λs2 I2 F2=>⟨a,cl,σ',H',δ',fp',rfl,I2,.inr (.inr F2),R,Kp,hk⟩
end
noncomputable def Z47(ds:List Xa)(g:MGt)(u:MSt)(x:MXt)(δ:Zh)(k:Addr->Zh->Prop):Prop:=∃(I:Nat->Zh->Prop) (r:Nat),r<ds.length∧I 0 δ∧
 (∀ i d δ',i<r->ds[i]? =some d->I i δ'->g d δ' λδ2=>u { nx:=I (i+1),ct:=I (i+1),rt:=λ_ _=>False } δ2)∧∀d δ',ds[r]? =some d->I r δ'->g d δ' λδ2=>x δ2 k
noncomputable def Z58(mi:MIt)(g:MGt)(u:MSt)(x:MXt):MXt:=λδ k=>mi δ λds δ1=>Z47 ds g u x δ1 k
section
variable {X:Cx}{io:List Nat}{p:Bool}{tg iter:Expr}{body:List Stmt}{mi:MIt}{g:MGt}{u:MSt}{x:MXt}{pos:Pos}
theorem XW.unpin{C:MC X.K}{pins more:List (Addr×Obj)}{ex:Addr->Prop}{H:Hp}{fp:Fp}{k:Addr->Zh->Prop}{e:Xc}{s:Xg}(h:XW X C io (pins ++ more) ex H fp k e s):XW X C io pins ex H fp k e s:=by
 obtain⟨a,cl,σ',H',δ',fp',rfl,I,F,R,K,hk⟩:=h
 have ap:∀b,Apart X (pins ++ more) H' b->Apart X pins H' b:=λb z=>⟨z.fr,z.new,z.loc,z.cel,λq hq=>z.pin q ((Xq.mp hq).elim (λm=>Bk _ m) λm=>X6 _ (Bk _ m))⟩
 refine⟨a,cl,σ',H',δ',fp',rfl,I.unpinned,?_,R,K,hk⟩
 rcases F with F|F|F
 ·exact .inl (F.imp ap)
 ·obtain⟨a0,oe,vs,eA,cA,dA,v1,pA⟩:=F
  exact .inr (.inl ⟨a0,oe,vs,eA,cA,dA,v1,ap _ pA⟩)
 ·exact .inr (.inr (F.imp ap))
theorem Z6v(hc:X.calm=true)(hi:MI X io p true tg iter mi)(hg:MG X io true tg g)(hb:MSs X io body u)(hbx:XSs X io body x)(hx:X.xe= λ_ _=>False:=by rfl)
  (hex:X.ex=[]:=by rfl) (hst:X.stack=X.env :: X.outer:=by rfl) (hf:X.env.frame=some X.env.locals:=by rfl) (hs:∀x,BK iter X.env x=pure x:=by intro _;rfl):XS X io (.For tg iter body [] pos) (Z58 mi g u x):=by
 obtain⟨_,A,sI⟩:=hi
 obtain⟨gt,G,sg⟩:=hg
 obtain⟨tb,B,sb⟩:=hb
 intro C pins s σ H δ fp ex k I R hm
 have hp:PassesOwn (X5 X.prog X.w) X.A X.env (XW X C io pins ex H fp k):=Zri hex hst hf
 have no:∀(E:Xc->Xg->Prop) (e:Xc) (s':Xg),X.xe e s'->E e s':=λE e s' z=>by rw[hx]at z;exact z.elim
 refine wpAny_For (QG (A pins s σ H (λJ H1=>∃W:Nat->Nat->St->Hp->Prop,(∃m,W 0 m σ H1)∧∀i m σ' H',W i m σ' H'->J.go i H'∧∃N:St->Hp->Prop,(∀σ2 H2,N σ2 H2->∃m',m'<m∧W (i+1) m' σ2 H2)∧
   ∀x' H3,J.yld i H' x' H3->gt x' σ' H3 λσ4 H4=>tb { nx:=N,ct:=N,bk:=λ_ _=>False,rt:=λ_ _=>False } σ4 H4∨∃δ4 fp4,Rel C io H4 σ4 δ4 fp4 ex∧Kp H fp H4 fp4∧x δ4 k) I (sI C H σ δ fp ex _ _ R hm λJ H1 ds δ1 fp1 R1 S1 it h1=>?_)) (λv s1 h1=>QG h1 (λitv s2 h2=>?_) (no _)) (no _)) hs
 ·obtain⟨I0,r,hr,h0,turn,last⟩:=h1
  refine⟨λi n σ' H'=>n=r-i∧i≤r∧∃δ' fp',Rel C io H' σ' δ' fp' ex∧Kp H1 fp1 H' fp'∧I0 i δ',⟨r,rfl,QC _,δ1,fp1,R1,.refl _ _,h0⟩,?_⟩
  rintro i n σ2 H2 ⟨rfl,hle,δ2,fp2,R2,k2,i2⟩
  have itk:=it H2 (λb o e q=>k2.keep b o e (.inr (q.resolve_left (by decide)))) i
  have hlt:i<ds.length:=by omega
  have hd:ds[i]? =some ds[i]:=XJ hlt
  obtain⟨go,yl⟩:=itk.1 _ hd
  refine⟨go,λσ' H'=>i<r∧∃δ' fp',Rel C io H' σ' δ' fp' ex∧Kp H1 fp1 H' fp'∧I0 (i+1) δ',λσ' H' ⟨hir,δ',fp',R',k',i'⟩=>⟨r-(i+1),by omega,rfl,hir,δ',fp',R',k',i'⟩,λx' H3 hy=>?_⟩
  obtain⟨s3,q3⟩:=yl x' H3 hy
  have R3:=R2.mk0 s3
  have k3:Kp H1 fp1 H3 fp2:=k2.trans ⟨λb o e _=>s3 _ _ e,λz=>(nomatch z),λa z=>.inl z,s3.al⟩
  by_cases hir:i<r
  ·refine sg C H3 σ2 δ2 fp2 ex x' _ _ _ R3 (IterOk.at (H':=H2) (J:=J) (ds:=ds) k2.grow q3) (turn i _ δ2 hir hd i2) λσ4 δ4 fp4 R4 k4 h4=>?_
   have k5:=k3.trans k4
   exact .inl (sb C H3 σ4 δ4 fp4 ex _ _ R4 h4 ⟨λH' σ' δ' fp' R' k' n'=>⟨hir,δ',fp',R',k5.trans k',n'⟩,λ_ _ _ _ _ _ z=>z.elim,λH' σ' δ' fp' R' k' n'=>⟨hir,δ',fp',R',k5.trans k',n'⟩,λ_ _ _ _ _ _ _ _ _ _ _ z=>z.elim⟩)
  ·have e:i=r:=by omega
   subst e
   refine sg C H3 σ2 δ2 fp2 ex x' _ _ _ R3 (IterOk.at (H':=H2) (J:=J) (ds:=ds) k2.grow q3) (last _ δ2 hd i2) λσ4 δ4 fp4 R4 k4 h4=>?_
   exact .inr ⟨δ4,fp4,R4,S1.kp.trans (k3.trans k4),h4⟩
 ·obtain⟨it,fpi,tn,J,H2,e,I2,T,st2,f2,W,⟨m0,w0⟩,turn⟩:=h2
  subst e
  have stat:∀{H':Hp},(∀b∈fpi,H' b=none)->∀b∈fpi,Zhp X pins H' b:=λhn b hb=>⟨hn b hb,(f2 b hb).2⟩
  refine codeAny_forLoop_any (λn s'=>∃i σ' H',Inv X pins σ' H' s'∧tn i s'.heap∧(∀b∈fpi,H' b=none)∧W i n σ' H') ?_ m0 ⟨0,σ,H2,I2,st2,λb hb=>(f2 b hb).1,w0⟩
  rintro n s3 ⟨i,σ3,H3,I3,st3,fr3,w3⟩
  obtain⟨go,N,hN,step⟩:=turn i n σ3 H3 w3
  refine Bb hp (QG (T.item X rfl rfl rfl hc i pins s3 σ3 H3 X.xe I3 (stat fr3) st3 go) (λr s4 qz9=>?_) (no _))
  obtain⟨u',hr,h4⟩:=qz9
  subst hr
  refine Bb hp (QG h4 (λ_ s5 qz9=>?_) (no _))
  obtain⟨x5,H5,I5,r5,y5,st5,fr5⟩:=qz9
  have I5':=I5.pinned (stat fr5) (T.obj _ _ st5)
  refine Bb hp (QG (G _ s5 σ3 H5 x5 u' _ I5' r5 (step x5 H5 y5)) (λ_ s6 qz9=>?_) (no _))
  obtain⟨σ6,H6,I6,q6⟩:=qz9
  rcases q6 with q6|⟨δ4,fp4,R4,K4,h4⟩
  ·refine Bb hp (QG (B _ s6 σ6 H6 _ I6 q6) (λf s7 q7=>?_) (no _))
   have again:∀{σ7:St} {H7:Hp},Inv X (pins ++ Zhm fpi s5.heap) σ7 H7 s7->N σ7 H7->∃m,m<n∧∃i σ' H',Inv X pins σ' H' s7∧tn i s7.heap∧(∀b∈fpi,H' b=none)∧W i m σ' H':=fun{σ7 H7} I7 n7=>by
    obtain⟨m',hm,w7⟩:=hN σ7 H7 n7
    refine⟨m',hm,i+1,σ7,H7,I7.unpinned,T.keep _ _ _ st5 λb hb o e=>(I7.pin (b,o) (X6 _ (X6 _ (Zau hb e)))).1,λb hb=>?_,w7⟩
    obtain⟨o,e,d⟩:=T.obj _ _ st5 b hb
    exact(I7.pin (b,o) (X6 _ (X6 _ (Zau hb e)))).2.1
   cases f with
   | next=>obtain⟨σ7,H7,I7,n7⟩:=q7;exact again I7 n7
   | cont=>obtain⟨σ7,H7,I7,n7⟩:=q7;exact again I7 n7
   | brk=>obtain⟨_,_,_,z⟩:=q7;exact z.elim
   | ret v=>obtain⟨_,_,_,_,_,z⟩:=q7;exact z.elim
  ·exact Bb hp (QG (hbx C _ s6 σ6 H6 δ4 fp4 ex k I6 R4 h4) (λ_ _ z=>z.elim) λe s7 z=>(z.shift K4).unpin)
end
noncomputable abbrev FE:=Zh->Option (OT×Zh)
noncomputable abbrev FA:=Zh->Option (List OT×Zh)
noncomputable abbrev FT:=Zh->Option (Bool×Zh)
noncomputable abbrev FI:=Zh->Option (List Xa×Zh)
noncomputable abbrev FO:=Zh->Option (Option Int×Zh)
noncomputable abbrev FG:=Xa->Zh->Option Zh
noncomputable abbrev FGs:=List Xa->Zh->Option Zh
noncomputable def o2{α:Type}(f:Zh->Option (α×Zh)):Zh->(α->Zh->Prop)->Prop:=λδ K=>∃r δ',f δ=some (r,δ')∧K r δ'
noncomputable def oG(g:FG):MGt:=λd δ k=>∃δ',g d δ=some δ'∧k δ'
noncomputable def oGs(g:FGs):Ztk:=λd δ k=>∃δ',g d δ=some δ'∧k δ'
section
variable {X:Cx}{io:List Nat}{p c:Bool}{e tg:Expr}{es:List Expr}{m m':MEt}{mr mr':MAt}{mt mt':MTt}{mi mi':MIt}{g g':MGt}{gs gs':Ztk}{mo mo':MOt}{st:Stmt}{sts:List Stmt}{u u':MSt}{eo:Option Expr}
theorem ME.weak(h:ME X io p c e m)(w:∀δ K,m' δ K->m δ K):ME X io p c e m':=let⟨t,A,s⟩:=h;⟨t,A,λC H σ δ fp ex K Q R h k=>s C H σ δ fp ex K Q R (w δ K h) k⟩
theorem MA.weak(h:MA X io p c es mr)(w:∀δ K,mr' δ K->mr δ K):MA X io p c es mr':=let⟨t,A,s⟩:=h;⟨t,A,λC H σ δ fp ex K Q R h k=>s C H σ δ fp ex K Q R (w δ K h) k⟩
theorem MT.weak(h:MT X io p e mt)(w:∀δ K,mt' δ K->mt δ K):MT X io p e mt':=let⟨t,A,s⟩:=h;⟨t,A,λC H σ δ fp ex K Q R h k=>s C H σ δ fp ex K Q R (w δ K h) k⟩
theorem MW.weak(h:MW X io p e mt)(w:∀δ K,mt' δ K->mt δ K):MW X io p e mt':=let⟨t,A,s⟩:=h;⟨t,A,λC H σ δ fp ex K Q R h k=>s C H σ δ fp ex K Q R (w δ K h) k⟩
theorem MIfs.weak(h:MIfs X io p es mt)(w:∀δ K,mt' δ K->mt δ K):MIfs X io p es mt':=let⟨t,A,s⟩:=h;⟨t,A,λC H σ δ fp ex K Q R h k=>s C H σ δ fp ex K Q R (w δ K h) k⟩
theorem MI.weak(h:MI X io p c tg e mi)(w:∀δ K,mi' δ K->mi δ K):MI X io p c tg e mi':=let⟨t,A,s⟩:=h;⟨t,A,λC H σ δ fp ex K Q R h k=>s C H σ δ fp ex K Q R (w δ K h) k⟩
theorem MO.weak(h:MO X io p eo mo)(w:∀δ K,mo' δ K->mo δ K):MO X io p eo mo':=let⟨t,A,s⟩:=h;⟨t,A,λC H σ δ fp ex K Q R h k=>s C H σ δ fp ex K Q R (w δ K h) k⟩
theorem MG.weak(h:MG X io c tg g)(w:∀d δ K,g' d δ K->g d δ K):MG X io c tg g':=let⟨t,A,s⟩:=h;⟨t,A,λC H σ δ fp ex v d k Q R q h kk=>s C H σ δ fp ex v d k Q R q (w d δ k h) kk⟩
theorem MGs.weak(h:MGs X io c es gs)(w:∀d δ K,gs' d δ K->gs d δ K):MGs X io c es gs':=let⟨t,A,s⟩:=h;⟨t,A,λC H σ δ fp ex v d k Q R q h kk=>s C H σ δ fp ex v d k Q R q (w d δ k h) kk⟩
theorem MS.weak(h:MS X io st u)(w:∀D δ,u' D δ->u D δ):MS X io st u':=let⟨t,A,s⟩:=h;⟨t,A,λC H σ δ fp ex D D' R h E=>s C H σ δ fp ex D D' R (w D δ h) E⟩
theorem MSs.weak(h:MSs X io sts u)(w:∀D δ,u' D δ->u D δ):MSs X io sts u':=let⟨t,A,s⟩:=h;⟨t,A,λC H σ δ fp ex D D' R h E=>s C H σ δ fp ex D D' R (w D δ h) E⟩
end
noncomputable def Zd(i:Nat):FE:=λδ=>match δ[i]? with|some (some (.fz d))=>some (.fz d,δ)|_=>none
noncomputable def Zef(i:Nat):FE:=λδ=>match δ[i]? with|some (some t)=>some (.fz t.data,δ)|_=>none
noncomputable def fC(d:Xa):FE:=λδ=>some (.fz d,δ)
noncomputable def Zf(g:Xa->Xa->Option Xa)(a b:FE):FE:=λδ=>(a δ).bind λp=>(b p.2).bind λq=>(g p.1.data q.1.data).bind λd=>some (.fz d,q.2)
noncomputable def Yk(g:Xa->Xa->Option OT)(a b:FE):FE:=λδ=>(a δ).bind λp=>(b p.2).bind λq=>(g p.1.data q.1.data).bind λd=>some (d,q.2)
noncomputable def fUn(g:Xa->Option Xa)(a:FE):FE:=λδ=>(a δ).bind λp=>(g p.1.data).bind λd=>some (.fz d,p.2)
noncomputable def Zxo(a b:FE):FE:=λδ=>(a δ).bind λp=>match p.1.data with| .bool true=>b p.2| .bool false=>some (.fz (.bool false),p.2)|_=>none
noncomputable def fOr(a b:FE):FE:=λδ=>(a δ).bind λp=>match p.1.data with| .bool true=>some (.fz (.bool true),p.2)| .bool false=>b p.2|_=>none
noncomputable def fIf(t:FT)(a b:FE):FE:=λδ=>(t δ).bind λp=>if p.1=true then a p.2 else b p.2
noncomputable def tV(e:FE):FT:=λδ=>(e δ).bind λp=>match p.1 with| .fz (.bool b)=>some (b,p.2)|_=>none
noncomputable def tNo(t:FT):FT:=λδ=>(t δ).bind λp=>some (!p.1,p.2)
noncomputable def tAn(t u:FT):FT:=λδ=>(t δ).bind λp=>if p.1=true then u p.2 else some (false,p.2)
noncomputable def tO(t u:FT):FT:=λδ=>(t δ).bind λp=>if p.1=true then some (true,p.2)else u p.2
noncomputable def tD(e:FE):FT:=λδ=>(e δ).bind λp=>(Zt1 p.1.data).bind λb=>some (b,p.2)
noncomputable def Zm:FA:=λδ=>some ([],δ)
noncomputable def Zc(e:FE)(a:FA):FA:=λδ=>(e δ).bind λp=>(a p.2).bind λq=>some (p.1 :: q.1,q.2)
noncomputable def Zdt(a:FA):FE:=λδ=>(a δ).bind λp=>if p.1.length≤Xr then some (.fz (.tuple (OT.datas p.1)),p.2)else none
noncomputable def Zcb(a:FA):FE:=λδ=>(a δ).bind λp=>if p.1.length≤Xr then some (.nd p.1,p.2)else none
noncomputable def Zmg(e:FE):FE:=λδ=>(e δ).bind λp=>if Za3 p.1.data=true then some (.fz p.1.data,p.2)else none
noncomputable def Z3k(e:FE):FE:=λδ=>(e δ).bind λp=>if Z0t p.1=true then some (p.1,p.2)else none
inductive RF where
 | ok (r:OT)
 | exn (c:Str)
 | bad
noncomputable abbrev FD:=List Xa->RF
noncomputable abbrev FIO:=OT->List Xa->Option (OT×OT)
noncomputable def Z1(F:FD)(a:FA):FE:=λδ=>(a δ).bind λp=>match F (OT.datas p.1)with| .ok r=>some (r,p.2)|_=>none
noncomputable def Yg(i:Nat)(F:FIO)(a:FA):FE:=λδ=>match δ[i]? with
 | some (some _)=>(a δ).bind λp=>match p.2[i]? with
  | some (some t)=>(F t (OT.datas p.1)).bind λq=>some (q.1,p.2.set i (some q.2))
  | _=>none
 | _=>none
noncomputable def Zdk(g:List Xa->Option Xa)(a:FA):FE:=λδ=>(a δ).bind λp=>(g (OT.datas p.1)).bind λd=>some (.fz d,p.2)
noncomputable def fBl(g:List Xa->Option OT)(a:FA):FE:=λδ=>(a δ).bind λp=>(g (OT.datas p.1)).bind λd=>some (d,p.2)
noncomputable def Z7m(T:String)(e:FE):FE:=λδ=>(e δ).bind λp=>if Zkv p.1.data=true then none else some (.fz (.bool (Ztt T p.1.data)),p.2)
noncomputable def oN:FO:=λδ=>some (none,δ)
noncomputable def oI(e:FE):FO:=λδ=>(e δ).bind λp=>match p.1.data with| .int i=>some (some i,p.2)|_=>none
noncomputable def fSl(e:FE)(lo hi:FO):FE:=λδ=>(e δ).bind λp=>(lo p.2).bind λq=>(hi q.2).bind λr=>match p.1.data with| .list ds=>some (.nd ((cutD ds q.1 r.1).map OT.fz),r.2)|_=>none
noncomputable def Zc7(f g:Int->Int->Bool)(a b c:FE):FE:=λδ=>(a δ).bind λp=>(b p.2).bind λq=>match p.1.data,q.1.data with
 | .int i,.int j=>if f i j=true then(c q.2).bind λr=>match r.1.data with| .int k=>some (.fz (.bool (g j k)),r.2)|_=>none else some (.fz (.bool false),q.2)
 | _,_=>none
noncomputable def Zc9(e:FE):FI:=λδ=>(e δ).bind λp=>match p.1.data with| .list ds=>some (ds,p.2)|_=>none
noncomputable def iTp(e:FE):FI:=λδ=>(e δ).bind λp=>match p.1.data with| .tuple ds=>some (ds,p.2)|_=>none
noncomputable def rOk(j:Int):Bool:=decide (-(2^62)≤j)&&decide (j<2^62)
theorem Zbb{j:Int}(h:rOk j=true):-(2^62)≤j∧j<2^62:=by
 unfold rOk at h
 rw[XM]at h
 exact⟨of_decide_eq_true h.1,of_decide_eq_true h.2⟩
theorem Zhw{j:Int}(h0:-1000000≤j)(h1:j≤1000000):rOk j=true:=by
 unfold rOk
 rw[decide_eq_true (show -(2^62)≤j by omega),decide_eq_true (show j<2^62 by omega)];rfl
noncomputable def iRa(a:FA):FI:=λδ=>(a δ).bind λp=>match OT.datas p.1 with|[.int j]=>if rOk j=true then some (Zc5 0 j.toNat,p.2)else none|_=>none
noncomputable def iRb(a:FA):FI:=λδ=>(a δ).bind λp=>match OT.datas p.1 with|[.int i,.int j]=>if(rOk i&&rOk j)=true then some (Zc5 i (j-i).toNat,p.2)else none|_=>none
noncomputable def Z3r(a:FA):FI:=λδ=>(a δ).bind λp=>match OT.datas p.1 with|[.list as,.list bs]=>some (Zn4 as bs,p.2)|_=>none
noncomputable def gNm(i:Nat):FG:=λd δ=>some (δ.set i (some (.fz d)))
noncomputable def Zvh(i:Nat):FG:=λd δ=>if Za3 d=true then some (δ.set i (some (.fz d)))else none
noncomputable def gNl:FGs:=λds δ=>match ds with|[]=>some δ|_=>none
noncomputable def gCn(g:FG)(gs:FGs):FGs:=λds δ=>match ds with|d :: r=>(g d δ).bind (gs r)|[]=>none
noncomputable def gTp(n:Nat)(gs:FGs):FG:=λd δ=>match d with| .tuple ds=>if ds.length=n then gs ds δ else none|_=>none
noncomputable def gLs(n:Nat)(gs:FGs):FG:=λd δ=>match d with| .list ds=>if ds.length=n then gs ds δ else none|_=>none
noncomputable def compLoop(g:FG)(t:FT)(e:FE):List Xa->Zh->Option (List OT×Zh)
 | [],δ=>some ([],δ)
 | d :: ds,δ=>(g d δ).bind λδ1=>(t δ1).bind λp=>if p.1=true then(e p.2).bind λq=>(compLoop g t e ds q.2).bind λz=>some (q.1 :: z.1,z.2)else compLoop g t e ds p.2
noncomputable def Y6(n:Nat)(caps:List Nat)(it:FI)(g:FG)(t:FT)(e:FE):FE:=λδ=>(it δ).bind λp=>if p.1.length≤Xr then(compLoop g t e p.1 (blk n caps p.2)).bind λz=>some (.nd z.1,p.2)else none
noncomputable def Zcg(n:Nat)(caps:List Nat)(o q:Nat)(it:FI)(g:FG)(t:FT)(e:FE):FE:=λδ=>(it δ).bind λp=>if p.1.length≤Xr∧Zkg caps o p.2=true then
  (compLoop g t e p.1 (blk n caps p.2)).bind λz=>match p.2[o]?,z.2[q]? with|some (some _),some (some t)=>some (.nd z.1,p.2.set o (some t))|_,_=>none
 else none
noncomputable def Zee:FT:=λδ=>some (true,δ)
inductive RS where
 | nx (δ:Zh)
 | rt (r:OT) (δ:Zh)
 | bk (δ:Zh)
 | ct (δ:Zh)
 | ex (c:Str) (δ:Zh)
 | bad
noncomputable abbrev FS:=Zh->RS
noncomputable def RS.fits(D:Zgy):RS->Prop
 | .nx δ=>D.nx δ
 | .rt r δ=>D.rt r δ
 | .bk δ=>D.bk δ
 | .ct δ=>D.ct δ
 | _=>False
noncomputable def oS(f:FS):MSt:=λD δ=>(f δ).fits D
noncomputable def xS(K:Xd)(f:FS):MXt:=λδ k=>∃c C δ',f δ= .ex c δ'∧ClsAt K c C∧k C δ'
noncomputable def Z0(f g:FS):FS:=λδ=>match f δ with| .nx δ'=>g δ'|r=>r
noncomputable def fNx:FS:=λδ=>.nx δ
noncomputable def Yer:FS:=λδ=>.bk δ
noncomputable def Ydm:FS:=λδ=>.ct δ
noncomputable def wE(e:FE)(k:OT->Zh->RS):FS:=λδ=>match e δ with|some (r,δ')=>k r δ'|none=>.bad
noncomputable def wX(F:FD)(a:FA)(k:OT->Zh->RS):FS:=λδ=>match a δ with
 | some (rs,δ1)=>match F (OT.datas rs)with
  | .ok r=>k r δ1
  | .exn c=>.ex c δ1
  | .bad=>.bad
 | none=>.bad
noncomputable def Zvs:OT->Zh->RS:=λ_ δ=>.nx δ
noncomputable def J6:OT->Zh->RS:=λr δ=>.rt r δ
noncomputable def Yar:OT->Zh->RS:=λr δ=>if Za3 r.data=true then .rt (.fz r.data) δ else .bad
noncomputable def W3(i:Nat):OT->Zh->RS:=λr δ=>.nx (δ.set i (some (.fz r.data)))
noncomputable def Zo1(i:Nat):OT->Zh->RS:=λr δ=>if Za3 r.data=true then .nx (δ.set i (some (.fz r.data)))else .bad
noncomputable def Za1(i:Nat):OT->Zh->RS:=λr δ=>.nx (δ.set i (some r))
noncomputable def Yd2(g:FG):OT->Zh->RS:=λr δ=>match g r.data δ with|some δ'=>.nx δ'|none=>.bad
noncomputable def Yat:FS:=λδ=>.rt (.fz .none) δ
noncomputable def Ze5(i:Nat):FS:=λδ=>match δ[i]? with|some (some t)=>.rt t (δ.set i none)|_=>.bad
noncomputable def Zbn(t:FT)(u w:FS):FS:=λδ=>match t δ with|some (b,δ')=>if b=true then u δ' else w δ'|none=>.bad
noncomputable def Zgu(c:Str):FS:=λδ=>.ex c δ
noncomputable def Yp(i:Nat)(e:FE):FS:=λδ=>match δ[i]? with
 | some (some (.nd _))=>wE e (λr δ1=>match δ1[i]? with
  | some (some (.nd ts))=>if ts.length<Xr then .nx (δ1.set i (some (.nd (ts ++ [.fz r.data]))))else .bad
  | _=>.bad) δ
 | _=>.bad
noncomputable def Znp(i:Nat)(e:FE):FS:=λδ=>match δ[i]? with
 | some (some (.nd _))=>wE e (λr δ1=>match δ1[i]? with
  | some (some (.nd ts))=>if ts.length<Xr then .nx (δ1.set i (some (.nd (ts ++ [r]))))else .bad
  | _=>.bad) δ
 | _=>.bad
noncomputable def Zu5(i:Nat)(e j:FE):FS:=wE e λr δ1=>match δ1[i]? with
 | some (some (.nd ts))=>wE j (λn _=>match n.data with
  | .int k=>match ixN ts.length k with
   | some j=>.nx (δ1.set i (some (.nd (ts.set j (.fz r.data)))))
   | none=>.bad
  | _=>.bad) δ1
 | _=>.bad
noncomputable def Zlg(i:Nat)(e j j2:FE):FS:=wE e λr δ1=>match δ1[i]? with
 | some (some (.nd ts))=>wE j (λn _=>match n.data with
  | .int k=>match ixN ts.length k with
   | some j=>match ts[j]? with
    | some (.nd us)=>wE j2 (λn' _=>match n'.data with
     | .int k'=>match ixN us.length k' with
      | some j'=>.nx (δ1.set i (some (.nd (ts.set j (.nd (us.set j' (.fz r.data)))))))
      | none=>.bad
     | _=>.bad) δ1
    | _=>.bad
   | none=>.bad
  | _=>.bad) δ1
 | _=>.bad
noncomputable def Zdh(i:Nat)(u:FS):FS:=λδ=>match δ[i]? with|some (some t)=>u (δ.set i (some (.fz t.data)))|_=>.bad
noncomputable def forLoop(g:FG)(u:FS):List Xa->Zh->RS
 | [],δ=>.nx δ
 | d :: ds,δ=>match g d δ with
  | none=>.bad
  | some δ1=>match u δ1 with
   | .nx δ2=>forLoop g u ds δ2
   | .ct δ2=>forLoop g u ds δ2
   | .bk δ2=>.nx δ2
   | r=>r
noncomputable def Zbw(it:FI)(g:FG)(u:FS):FS:=λδ=>match it δ with|some (ds,δ1)=>forLoop g u ds δ1|none=>.bad
noncomputable def whileLoop(t:FT)(u:FS):Nat->Zh->RS
 | 0,_=>.bad
 | n+1,δ=>match t δ with
  | none=>.bad
  | some (b,δ1)=>if b=true then match u δ1 with
   | .nx δ2=>whileLoop t u n δ2
   | .ct δ2=>whileLoop t u n δ2
   | .bk δ2=>.nx δ2
   | .rt r δ2=>.rt r δ2
   | _=>.bad
   else .nx δ1
open Classical in
noncomputable def Zhx(t:FT)(u:FS):FS:=λδ=>if h:∃n,whileLoop t u n δ≠ .bad then whileLoop t u (Classical.choose h) δ else .bad
noncomputable def Zc8(n:Nat)(ds:List Xa):Zh:=ds.map (λd=>some (.fz d)) ++ Qg (n-ds.length) none
noncomputable def Ziz(n:Nat)(t:OT)(ds:List Xa):Zh:=some t :: (ds.map (λd=>some (.fz d)) ++ Qg (n-(ds.length+1)) none)
noncomputable def RS.told:RS->RF
 | .nx _=>.ok (.fz .none)
 | .rt r _=>.ok r
 | .ex c _=>.exn c
 | _=>.bad
noncomputable def Zbo(np n:Nat)(S:FS):FD:=λds=>if ds.length=np then(S (Zc8 n ds)).told else .bad
noncomputable def RS.toldI:RS->Option (OT×OT)
 | .nx δ=>match δ[0]? with|some (some t)=>some (.fz .none,t)|_=>none
 | .rt r δ=>match δ[0]? with|some (some t)=>some (r,t)|_=>none
 | _=>none
noncomputable def Ztw(np n:Nat)(S:FS):FIO:=λt ds=>if ds.length+1=np then(S (Ziz n t ds)).toldI else none
noncomputable def sD(F:FD):List Xa->(OT->Prop)->Prop:=λds k=>∃r,F ds= .ok r∧k r
noncomputable def sI(F:FIO):OT->List Xa->(OT->OT->Prop)->Prop:=λt ds k=>∃r t',F t ds=some (r,t')∧k r t'
noncomputable def sX(K:Xd)(F:FD):List Xa->Addr->Prop:=λds cl=>∃c,F ds= .exn c∧ClsAt K c cl
theorem bs{α β:Type}{x:Option α}{f:α->Option β}{b:β}(h:x.bind f=some b):∃a,x=some a∧f a=some b:=Option.bind_eq_some_iff.mp h
section
variable {X:Cx}{io:List Nat}{p c:Bool}{e tg:Expr}{es:List Expr}{st:Stmt}{sts:List Stmt}{eo:Option Expr}{fa fb fc:FE}{ra:FA}{ta tb:FT}{i:Nat}
theorem Z4y(h:ME X io p c e (Z7r i)):ME X io p c e (o2 (Zd i)):=h.weak λδ K q91=>by
 obtain⟨r,δ',h,k⟩:=q91
 unfold Zd at h;unfold Z7r
 split at h
 ·rename_i d hd;(try rw[hd]);cases h;exact k
 ·cases h
theorem Z3d(h:ME X io p c e (Z7u i)):ME X io p c e (o2 (Zef i)):=h.weak λδ K q92=>by
 obtain⟨r,δ',h,k⟩:=q92
 unfold Zef at h;unfold Z7u
 split at h
 ·rename_i d hd;(try rw[hd]);cases h;exact k
 ·cases h
theorem Ztu{d:Xa}(h:ME X io p c e (mC d)):ME X io p c e (o2 (fC d)):=h.weak λδ K ⟨r,δ',h,k⟩=>by cases h;exact k
noncomputable def ByS(g:Xa->Xa->Option Xa)(rp:Xa->Xa->(Xa->Prop)->Prop):Prop:=∀d e r k,g d e=some r->k r->rp d e k
noncomputable def ByO(g:Xa->Xa->Option OT)(rp:Xa->Xa->(OT->Prop)->Prop):Prop:=∀d e r k,g d e=some r->k r->rp d e k
theorem Zxt{g rp}(G:ByS g rp){δ:Zh}{K:OT->Zh->Prop}(h:o2 (Zf g fa fb) δ K):Zlk rp (o2 fa) (o2 fb) δ K:=by
 obtain⟨r,δ',h,k⟩:=h
 obtain⟨⟨x,δ1⟩,h1,h⟩:=bs h
 obtain⟨⟨y,δ2⟩,h2,h⟩:=bs h
 obtain⟨d,h3,h⟩:=bs h
 cases h
 exact⟨x,δ1,h1,y,δ2,h2,G _ _ _ _ h3 k⟩
theorem Zaa{g rp}(G:ByS g rp)(h:ME X io p c e (Zlk rp (o2 fa) (o2 fb))):ME X io p c e (o2 (Zf g fa fb)):=h.weak λδ K z=>Zxt G z
theorem Yc9{f:FE}{δ:Zh}{K:Bool->Zh->Prop}(h:o2 (tV f) δ K):o2 f δ (kB K):=by
 obtain⟨b,δ',h,k⟩:=h
 obtain⟨⟨x,δ1⟩,h1,h⟩:=bs h
 refine⟨x,δ1,h1,?_⟩
 unfold kB
 try dsimp only at h⊢
 split at h
 ·cases h;exact k
 ·cases h
theorem Zca{g rp}(G:ByS g rp)(h:MT X io p e (λδ K=>Zlk rp (o2 fa) (o2 fb) δ (kB K))):MT X io p e (o2 (tV (Zf g fa fb))):=h.weak λδ K z=>Zxt G (Yc9 z)
theorem Zhu{g rp}(G:ByO g rp)(h:ME X io p c e (Z7q rp (o2 fa) (o2 fb))):ME X io p c e (o2 (Yk g fa fb)):=h.weak λδ K h=>by
 obtain⟨r,δ',h,k⟩:=h
 obtain⟨⟨x,δ1⟩,h1,h⟩:=bs h
 obtain⟨⟨y,δ2⟩,h2,h⟩:=bs h
 obtain⟨d,h3,h⟩:=bs h
 cases h
 exact⟨x,δ1,h1,y,δ2,h2,G _ _ _ _ h3 k⟩
noncomputable def Ztv:Xa->Option Xa| .int i=>some (.int (-i))|_=>none
noncomputable def Z8t:Xa->Option Xa| .bool b=>some (.bool (!b))|_=>none
theorem Zke(h:ME X io p c e (Ycn (o2 fa))):ME X io p c e (o2 (fUn Ztv fa)):=h.weak λδ K h=>by
 obtain⟨r,δ',h,k⟩:=h
 obtain⟨⟨x,δ1⟩,h1,h⟩:=bs h
 obtain⟨d,h3,h⟩:=bs h
 cases h
 refine⟨x,δ1,h1,?_⟩
 dsimp only at h3⊢
 cases q:x.data<;>rw[q]at h3<;>cases h3
 exact k
theorem Zz2(h:ME X io p c e (Z6l (o2 fa))):ME X io p c e (o2 (fUn Z8t fa)):=h.weak λδ K h=>by
 obtain⟨r,δ',h,k⟩:=h
 obtain⟨⟨x,δ1⟩,h1,h⟩:=bs h
 obtain⟨d,h3,h⟩:=bs h
 cases h
 refine⟨x,δ1,h1,?_⟩
 dsimp only at h3⊢
 cases q:x.data<;>rw[q]at h3<;>cases h3
 exact k
theorem Zrc(h:ME X io p c e (Z2z (o2 fa) (o2 fb))):ME X io p c e (o2 (Zxo fa fb)):=h.weak λδ K h=>by
 obtain⟨r,δ',h,k⟩:=h
 obtain⟨⟨x,δ1⟩,h1,h⟩:=bs h
 refine⟨x,δ1,h1,?_⟩
 try dsimp only at h⊢
 split at h
 ·rename_i q;(try rw[q]);rw[Zxn,if_pos rfl];exact⟨r,δ',h,k⟩
 ·rename_i q;(try rw[q]);cases h;rw[Zxn,if_neg XH];exact k
 ·cases h
theorem Yal(h:ME X io p c e (mIf (o2 ta) (o2 fa) (o2 fb))):ME X io p c e (o2 (fIf ta fa fb)):=h.weak λδ K h=>by
 obtain⟨r,δ',h,k⟩:=h
 obtain⟨⟨x,δ1⟩,h1,h⟩:=bs h
 refine⟨x,δ1,h1,?_⟩
 try dsimp only at h⊢
 split at h
 ·rename_i q;rw[if_pos q];exact⟨r,δ',h,k⟩
 ·rename_i q;rw[if_neg q];exact⟨r,δ',h,k⟩
theorem Z52(h:MT X io p e (Yda (o2 ta))):MT X io p e (o2 (tNo ta)):=h.weak λδ K h=>by
 obtain⟨r,δ',h,k⟩:=h
 obtain⟨⟨x,δ1⟩,h1,h⟩:=bs h
 cases h
 exact⟨x,δ1,h1,k⟩
theorem Zh1(h:MW X io p e (Ycj (o2 ta) (o2 tb))):MW X io p e (o2 (tAn ta tb)):=h.weak λδ K h=>by
 obtain⟨r,δ',h,k⟩:=h
 obtain⟨⟨x,δ1⟩,h1,h⟩:=bs h
 refine⟨x,δ1,h1,?_⟩
 try dsimp only at h⊢
 split at h
 ·rename_i q;rw[if_pos q];exact⟨r,δ',h,k⟩
 ·rename_i q;rw[if_neg q];cases h;exact k
theorem Zc2(h:MW X io p e (mOr (o2 ta) (o2 tb))):MW X io p e (o2 (tO ta tb)):=h.weak λδ K h=>by
 obtain⟨r,δ',h,k⟩:=h
 obtain⟨⟨x,δ1⟩,h1,h⟩:=bs h
 refine⟨x,δ1,h1,?_⟩
 try dsimp only at h⊢
 split at h
 ·rename_i q;rw[if_pos q];cases h;exact k
 ·rename_i q;rw[if_neg q];exact⟨r,δ',h,k⟩
theorem Zac(h:MT X io p e (Yct (o2 fa))):MT X io p e (o2 (tD fa)):=h.weak λδ K h=>by
 obtain⟨r,δ',h,k⟩:=h
 obtain⟨⟨x,δ1⟩,h1,h⟩:=bs h
 obtain⟨d,h3,h⟩:=bs h
 cases h
 refine⟨x,δ1,h1,?_⟩
 dsimp only at h3⊢
 rw[h3]
 exact k
theorem Z38(h:MA X io p c es Ycl):MA X io p c es (o2 Zm):=h.weak λδ K ⟨r,δ',h,k⟩=>by cases h;exact k
theorem Zz7(h:MA X io p c es (Z59 (o2 fa) (o2 ra))):MA X io p c es (o2 (Zc fa ra)):=h.weak λδ K h=>by
 obtain⟨r,δ',h,k⟩:=h
 obtain⟨⟨x,δ1⟩,h1,h⟩:=bs h
 obtain⟨⟨y,δ2⟩,h2,h⟩:=bs h
 cases h
 exact⟨x,δ1,h1,y,δ2,h2,k⟩
theorem Z5l(h:ME X io p c e (Ybo (o2 ra))):ME X io p c e (o2 (Zdt ra)):=h.weak λδ K h=>by
 obtain⟨r,δ',h,k⟩:=h
 obtain⟨⟨x,δ1⟩,h1,h⟩:=bs h
 refine⟨x,δ1,h1,?_⟩
 dsimp only at h
 split at h
 ·rename_i q;cases h;exact⟨q,k⟩
 ·cases h
theorem Z4d(h:ME X io p c e (Ya5 (o2 ra))):ME X io p c e (o2 (Zcb ra)):=h.weak λδ K h=>by
 obtain⟨r,δ',h,k⟩:=h
 obtain⟨⟨x,δ1⟩,h1,h⟩:=bs h
 refine⟨x,δ1,h1,?_⟩
 dsimp only at h
 split at h
 ·rename_i q;cases h;exact⟨q,k⟩
 ·cases h
theorem Zq5(h:ME X io p c e (Z3b (o2 fa))):ME X io p c e (o2 (Zmg fa)):=h.weak λδ K h=>by
 obtain⟨r,δ',h,k⟩:=h
 obtain⟨⟨x,δ1⟩,h1,h⟩:=bs h
 refine⟨x,δ1,h1,?_⟩
 dsimp only at h
 split at h
 ·rename_i q;cases h;exact⟨q,k⟩
 ·cases h
theorem Zyn{F:FD}(h:ME X io p c e (Zzm (sD F) (o2 ra))):ME X io p c e (o2 (Z1 F ra)):=h.weak λδ K h=>by
 obtain⟨r,δ',h,k⟩:=h
 obtain⟨⟨x,δ1⟩,h1,h⟩:=bs h
 refine⟨x,δ1,h1,?_⟩
 dsimp only at h
 split at h
 ·rename_i q;cases h;exact⟨_,q,k⟩
 ·cases h
theorem Yd{F:FIO}(h:ME X io p c e (Zkc i (sI F) (o2 ra))):ME X io p c e (o2 (Yg i F ra)):=h.weak λδ K h=>by
 obtain⟨r,δ',h,k⟩:=h
 unfold Yg at h;unfold Zkc
 split at h
 case h_2=>cases h
 rename_i t0 q0
 (try rw[q0])
 obtain⟨⟨x,δ1⟩,h1,h⟩:=bs h
 refine⟨x,δ1,h1,?_⟩
 try dsimp only at h⊢
 split at h
 case h_2=>cases h
 rename_i t q
 (try rw[q])
 obtain⟨⟨y,t'⟩,h2,h⟩:=bs h
 cases h
 exact⟨_,_,h2,k⟩
theorem Zc3{g rp}(G:∀ds r k,g ds=some r->k r->rp ds k)(h:ME X io p c e (Z7y rp (o2 ra))):ME X io p c e (o2 (Zdk g ra)):=h.weak λδ K h=>by
 obtain⟨r,δ',h,k⟩:=h
 obtain⟨⟨x,δ1⟩,h1,h⟩:=bs h
 obtain⟨d,h3,h⟩:=bs h
 cases h
 exact⟨x,δ1,h1,G _ _ _ h3 k⟩
theorem Zvy{g rp}(G:∀ds r k,g ds=some r->k r->rp ds k)(h:ME X io p c e (mBl rp (o2 ra))):ME X io p c e (o2 (fBl g ra)):=h.weak λδ K h=>by
 obtain⟨r,δ',h,k⟩:=h
 obtain⟨⟨x,δ1⟩,h1,h⟩:=bs h
 obtain⟨d,h3,h⟩:=bs h
 cases h
 exact⟨x,δ1,h1,G _ _ _ h3 k⟩
theorem Zwq{T:String}(h:ME X io p c e (Yc6 T (o2 fa))):ME X io p c e (o2 (Z7m T fa)):=h.weak λδ K h=>by
 obtain⟨r,δ',h,k⟩:=h
 obtain⟨⟨x,δ1⟩,h1,h⟩:=bs h
 by_cases hf:Zkv x.data=true
 ·have h':(if Zkv x.data=true then none else some (OT.fz (.bool (Ztt T x.data)),δ1))=some (r,δ'):=h
  rw[if_pos hf]at h'
  cases h'
 ·have h':(if Zkv x.data=true then none else some (OT.fz (.bool (Ztt T x.data)),δ1))=some (r,δ'):=h
  rw[if_neg hf]at h'
  injection h' with h'
  injection h' with e1 e2
  subst e1 e2
  exact⟨x,_,h1,Vz.mpr hf,k⟩
theorem Zto(h:MO X io p eo Zqm):MO X io p eo (o2 oN):=h.weak λδ K ⟨r,δ',h,k⟩=>by cases h;exact k
theorem Zpt(h:MO X io p eo (Z7i (o2 fa))):MO X io p eo (o2 (oI fa)):=h.weak λδ K h=>by
 obtain⟨r,δ',h,k⟩:=h
 obtain⟨⟨x,δ1⟩,h1,h⟩:=bs h
 refine⟨x,δ1,h1,?_⟩
 try dsimp only at h⊢
 split at h
 ·rename_i q;(try rw[q]);cases h;exact k
 ·cases h
theorem Z4p{lo hi:FO}(h:ME X io p c e (mSl (o2 fa) (o2 lo) (o2 hi))):ME X io p c e (o2 (fSl fa lo hi)):=h.weak λδ K h=>by
 obtain⟨r,δ',h,k⟩:=h
 obtain⟨⟨x,δ1⟩,h1,h⟩:=bs h
 obtain⟨⟨y,δ2⟩,h2,h⟩:=bs h
 obtain⟨⟨z,δ3⟩,h3,h⟩:=bs h
 refine⟨x,δ1,h1,y,δ2,h2,z,δ3,h3,?_⟩
 try dsimp only at h⊢
 split at h
 ·rename_i q;(try rw[q]);cases h;exact k
 ·cases h
theorem Zp5{f g:Int->Int->Bool}{δ:Zh}{K:OT->Zh->Prop}(h:o2 (Zc7 f g fa fb fc) δ K):Zht f g (o2 fa) (o2 fb) (o2 fc) δ K:=by
 obtain⟨r,δ',h,k⟩:=h
 obtain⟨⟨x,δ1⟩,h1,h⟩:=bs h
 obtain⟨⟨y,δ2⟩,h2,h⟩:=bs h
 refine⟨x,δ1,h1,y,δ2,h2,?_⟩
 try dsimp only at h⊢
 split at h
 case h_2=>cases h
 rename_i i j q1 q2
 (try rw[q1,q2])
 show(if f i j=true then _ else _)
 split at h
 ·rename_i hf
  rw[if_pos hf]
  obtain⟨⟨z,δ3⟩,h3,h⟩:=bs h
  refine⟨z,δ3,h3,?_⟩
  try dsimp only at h⊢
  split at h
  ·rename_i q;(try rw[q]);cases h;exact k
  ·cases h
 ·rename_i hf
  rw[if_neg hf]
  cases h
  exact k
theorem Zvl{f g:Int->Int->Bool}(h:ME X io p c e (Zht f g (o2 fa) (o2 fb) (o2 fc))):ME X io p c e (o2 (Zc7 f g fa fb fc)):=h.weak λδ K z=>Zp5 z
theorem Zio{f g:Int->Int->Bool}(h:MT X io p e (λδ K=>Zht f g (o2 fa) (o2 fb) (o2 fc) δ (kB K))):MT X io p e (o2 (tV (Zc7 f g fa fb fc))):=h.weak λδ K z=>Zp5 (Yc9 z)
theorem Z0v(h:MI X io p c tg e (iL (o2 fa))):MI X io p c tg e (o2 (Zc9 fa)):=h.weak λδ K h=>by
 obtain⟨r,δ',h,k⟩:=h
 obtain⟨⟨x,δ1⟩,h1,h⟩:=bs h
 refine⟨x,δ1,h1,?_⟩
 try dsimp only at h⊢
 split at h
 ·rename_i q;(try rw[q]);cases h;exact k
 ·cases h
theorem Zgk(h:MI X io p c tg e (iR1 (o2 ra))):MI X io p c tg e (o2 (iRa ra)):=h.weak λδ K h=>by
 obtain⟨r,δ',h,k⟩:=h
 obtain⟨⟨x,δ1⟩,h1,h⟩:=bs h
 refine⟨x,δ1,h1,?_⟩
 try dsimp only at h⊢
 split at h
 case h_2=>cases h
 rename_i q
 (try rw[q])
 try dsimp only
 split at h
 ·rename_i b;cases h;exact⟨Zbb b,k⟩
 ·cases h
theorem Zwi(h:MI X io p c tg e (iR2 (o2 ra))):MI X io p c tg e (o2 (iRb ra)):=h.weak λδ K h=>by
 obtain⟨r,δ',h,k⟩:=h
 obtain⟨⟨x,δ1⟩,h1,h⟩:=bs h
 refine⟨x,δ1,h1,?_⟩
 try dsimp only at h⊢
 split at h
 case h_2=>cases h
 rename_i q
 (try rw[q])
 try dsimp only
 split at h
 ·rename_i b
  cases h
  rw[XM]at b
  exact⟨⟨(Zbb b.1).1,(Zbb b.1).2,(Zbb b.2).1,(Zbb b.2).2⟩,k⟩
 ·cases h
theorem Zzy(h:MG X io c tg (dName i)):MG X io c tg (oG (gNm i)):=h.weak λd δ K ⟨δ',h,k⟩=>by cases h;exact k
theorem Zm3(h:MG X io c tg (Zw4 i)):MG X io c tg (oG (Zvh i)):=h.weak λd δ K q93=>by
 obtain⟨δ',h,k⟩:=q93
 unfold Zvh at h
 split at h
 ·rename_i q;cases h;exact⟨q,k⟩
 ·cases h
theorem Zpo(h:MGs X io c es Yca):MGs X io c es (oGs gNl):=h.weak λd δ K q94=>by
 obtain⟨δ',h,k⟩:=q94
 unfold gNl at h
 split at h
 ·cases h;exact⟨rfl,k⟩
 ·cases h
theorem Zf0{g:FG}{gs:FGs}(h:MGs X io c es (Zzf (oG g) (oGs gs))):MGs X io c es (oGs (gCn g gs)):=h.weak λd δ K q95=>by
 obtain⟨δ',h,k⟩:=q95
 unfold gCn at h
 split at h
 ·obtain⟨δ1,h1,h⟩:=bs h
  exact⟨δ1,h1,δ',h,k⟩
 ·cases h
theorem Zxw{n:Nat}{gs:FGs}(h:MG X io c tg (dTup n (oGs gs))):MG X io c tg (oG (gTp n gs)):=h.weak λd δ K q96=>by
 obtain⟨δ',h,k⟩:=q96
 unfold gTp at h
 split at h
 case h_2=>cases h
 split at h
 ·rename_i q;exact⟨q,δ',h,k⟩
 ·cases h
theorem J3(h:MIfs X io p es Z4h):MIfs X io p es (o2 Zee):=h.weak λδ K ⟨r,δ',h,k⟩=>by cases h;exact k
theorem Zsf{g:FG}{t:FT}{me:FE}{ds:List Xa}{δ0:Zh}{zs:List OT}{δe:Zh}(h:compLoop g t me ds δ0=some (zs,δe)) :
  ∃I:Nat->List OT->Zh->Prop,I 0 [] δ0∧
 (∀ (i:Nat) (d:Xa) (rs:List OT) (δ':Zh),ds[i]? =some d->I i rs δ'->oG g d δ' λδ2=>o2 t δ2 λb δ3=>if b=true then o2 me δ3 λr δ4=>I (i+1) (rs ++ [r]) δ4 else I (i+1) rs δ3)∧
 ∀rs δ',I ds.length rs δ'->rs=zs∧δ'=δe:=by
 refine⟨λi rs δ'=>∃ys,rs ++ ys=zs∧compLoop g t me (ds.drop i) δ'=some (ys,δe),⟨zs,rfl,by rw[List.drop_zero];exact h⟩,?_,?_⟩
 ·rintro i d rs δ' hd ⟨ys,e,hl⟩
  obtain⟨hi,hdi⟩:=Xo.mp hd
  rw[BL hi,hdi]at hl
  unfold compLoop at hl
  obtain⟨δ1,h1,hl⟩:=bs hl
  obtain⟨⟨b,δ2⟩,h2,hl⟩:=bs hl
  refine⟨δ1,h1,b,δ2,h2,?_⟩
  dsimp only at hl
  split at hl
  ·rename_i hb
   rw[if_pos hb]
   obtain⟨⟨r,δ3⟩,h3,hl⟩:=bs hl
   obtain⟨⟨ws,δ4⟩,h4,hl⟩:=bs hl
   cases hl
   exact⟨r,δ3,h3,ws,by rw[Vh];exact e,h4⟩
  ·rename_i hb
   rw[if_neg hb]
   exact⟨ys,e,hl⟩
 ·rintro rs δ' ⟨ys,e,hl⟩
  rw[List.drop_length]at hl
  unfold compLoop at hl
  cases hl
  exact⟨by rw[←e,QS],rfl⟩
theorem Zsh{n:Nat}{caps:List Nat}{it:FI}{g:FG}{t:FT}{me:FE}{δ:Zh}{K:OT->Zh->Prop}(h:o2 (Y6 n caps it g t me) δ K):Zhd n caps (o2 it) (oG g) (o2 t) (o2 me) δ K:=by
 obtain⟨r,δ',h,k⟩:=h
 obtain⟨⟨ds,δ1⟩,h1,h⟩:=bs h
 refine⟨ds,δ1,h1,?_⟩
 dsimp only at h
 split at h
 case isFalse=>cases h
 rename_i hz
 obtain⟨⟨zs,δe⟩,h2,h⟩:=bs h
 cases h
 obtain⟨I,i0,st,en⟩:=Zsf h2
 refine⟨hz,I,i0,st,λrs δ'' q=>?_⟩
 obtain⟨rfl,rfl⟩:=en rs δ'' q
 exact k
theorem Zbv{n:Nat}{caps:List Nat}{it:FI}{g:FG}{t:FT}{me:FE}(h:ME X io p c e (Zhd n caps (o2 it) (oG g) (o2 t) (o2 me))):ME X io p c e (o2 (Y6 n caps it g t me)):=h.weak λδ K z=>Zsh z
theorem Zru{n:Nat}{caps:List Nat}{o q:Nat}{it:FI}{g:FG}{t:FT}{me:FE}{δ:Zh}{K:OT->Zh->Prop}(h:o2 (Zcg n caps o q it g t me) δ K):Zfe n caps o q (o2 it) (oG g) (o2 t) (o2 me) δ K:=by
 obtain⟨r,δ',h,k⟩:=h
 obtain⟨⟨ds,δ1⟩,h1,h⟩:=bs h
 refine⟨ds,δ1,h1,?_⟩
 dsimp only at h
 split at h
 case isFalse=>cases h
 rename_i hz
 obtain⟨⟨zs,δe⟩,h2,h⟩:=bs h
 obtain⟨I,i0,st,en⟩:=Zsf h2
 refine⟨hz.1,hz.2,I,i0,st,λrs δ'' qq=>?_⟩
 obtain⟨rfl,rfl⟩:=en rs δ'' qq
 dsimp only at h
 split at h
 ·rename_i q1 q2
  (try rw[q1,q2])
  cases h
  exact k
 ·cases h
end
section
variable {X:Cx}{io:List Nat}{p c:Bool}{e tg iter:Expr}{es:List Expr}{st:Stmt}{sts:List Stmt}{fa fb fc:FE}{ra:FA}{ta tb:FT}{i:Nat}{f g u w:FS}
theorem Z5t(h:MSs X io sts (Z8u (oS f) (oS g))):MSs X io sts (oS (Z0 f g)):=h.weak λD δ h=>by
 unfold oS Z0 at h;unfold Z8u oS
 cases q:f δ<;>rw[q]at h<;>exact h
theorem Z03(h:MSs X io sts Z36):MSs X io sts (oS fNx):=h.weak λD δ h=>h
theorem Zmf{k:OT->Zh->RS}{D:Zgy}{δ:Zh}(h:oS (wE fa k) D δ):o2 fa δ λr δ'=>(k r δ').fits D:=by
 unfold oS wE at h
 split at h
 ·rename_i q;exact⟨_,_,q,h⟩
 ·exact h.elim
theorem o2.imp{α:Type}{f:Zh->Option (α×Zh)}{δ:Zh}{K K':α->Zh->Prop}(h:o2 f δ K)(k:∀r δ',K r δ'->K' r δ'):o2 f δ K':=let⟨r,δ',e,q⟩:=h;⟨r,δ',e,k r δ' q⟩
theorem Znc{P:Prop}[Decidable P]{a:RS}{D:Zgy}(h:(if P then a else .bad:RS).fits D):P∧a.fits D:=by
 split at h
 ·exact⟨‹_›,h⟩
 ·exact h.elim
theorem Zqb(h:MS X io st (Z3n (o2 fa))):MS X io st (oS (wE fa Zvs)):=h.weak λD δ h=>Zmf h
theorem Z3m(h:MS X io st (Yc1 (o2 fa))):MS X io st (oS (wE fa J6)):=h.weak λD δ h=>Zmf h
theorem Zgj(h:MS X io st (Zuf i)):MS X io st (oS (Ze5 i)):=h.weak λD δ h=>by
 unfold oS Ze5 at h;unfold Zuf
 split at h
 ·rename_i q;(try rw[q]);exact h
 ·exact h.elim
theorem Z83(h:MS X io st (Yc4 (o2 ta) (oS u) (oS w))):MS X io st (oS (Zbn ta u w)):=h.weak λD δ h=>by
 unfold oS Zbn at h
 split at h
 ·rename_i b δ' q
  refine⟨b,δ',q,?_⟩
  split at h
  ·rename_i hb;rw[if_pos hb];exact h
  ·rename_i hb;rw[if_neg hb];exact h
 ·exact h.elim
theorem Z5a(h:MS X io st (Zu1 i (o2 fa))):MS X io st (oS (wE fa (W3 i))):=h.weak λD δ h=>Zmf h
theorem Zy8(h:MS X io st (Zzw i (o2 fa))):MS X io st (oS (wE fa (Zo1 i))):=h.weak λD δ h=>(Zmf h).imp λr δ' q=>Znc q
theorem Zq3(h:MS X io st (Zi4 i (o2 fa))):MS X io st (oS (wE fa (Za1 i))):=h.weak λD δ h=>Zmf h
section
variable {n:Nat}{caps:List Nat}{o q:Nat}{it:FI}{gg:FG}{t:FT}{me:FE}
theorem Zv2(h:MS X io st (if true=true then Zi4 i (Zhd n caps (o2 it) (oG gg) (o2 t) (o2 me))else Zu1 i (Zhd n caps (o2 it) (oG gg) (o2 t) (o2 me)))):MS X io st (oS (wE (Y6 n caps it gg t me) (Za1 i))) :=
 h.weak λD δ h=>by rw[if_pos rfl];exact Zsh (Zmf h)
theorem Zdn(h:MS X io st (if false=true then Zi4 i (Zhd n caps (o2 it) (oG gg) (o2 t) (o2 me))else Zu1 i (Zhd n caps (o2 it) (oG gg) (o2 t) (o2 me)))):MS X io st (oS (wE (Y6 n caps it gg t me) (W3 i))) :=
 h.weak λD δ h=>by rw[if_neg XH];exact Zsh (Zmf h)
theorem Zkq(h:MS X io st (if true=true then Zi4 i (Zfe n caps o q (o2 it) (oG gg) (o2 t) (o2 me))else Zu1 i (Zfe n caps o q (o2 it) (oG gg) (o2 t) (o2 me)))):MS X io st (oS (wE (Zcg n caps o q it gg t me) (Za1 i))) :=
 h.weak λD δ h=>by rw[if_pos rfl];exact Zru (Zmf h)
theorem Zwl(h:MS X io st (if false=true then Zi4 i (Zfe n caps o q (o2 it) (oG gg) (o2 t) (o2 me))else Zu1 i (Zfe n caps o q (o2 it) (oG gg) (o2 t) (o2 me)))):MS X io st (oS (wE (Zcg n caps o q it gg t me) (W3 i))) :=
 h.weak λD δ h=>by rw[if_neg XH];exact Zru (Zmf h)
end
theorem Jo(h:MS X io st (Zii i (o2 fa))):MS X io st (oS (Yp i fa)):=h.weak λD δ h=>by
 unfold oS Yp at h;unfold Zii
 split at h
 case h_2=>exact h.elim
 rename_i q;(try rw[q])
 refine(Zmf h).imp λr δ' z=>?_
 split at z
 ·rename_i q2;(try rw[q2]);exact Znc z
 ·exact z.elim
theorem Zmw(h:MS X io st (Yce i (o2 fa) (o2 fb))):MS X io st (oS (Zu5 i fa fb)):=h.weak λD δ h=>by
 refine(Zmf h).imp λr δ' z=>?_
 split at z
 case h_2=>exact z.elim
 rename_i q;(try rw[q])
 refine(Zmf z).imp λn δ2 z=>?_
 split at z
 case h_2=>exact z.elim
 rename_i k q2;(try rw[q2])
 show match ixN _ k with|some j=>_|none=>_
 split at z
 ·rename_i q3;(try rw[q3]);exact z
 ·exact z.elim
theorem Zsp(h:MS X io st (Z3h i (o2 fa) (o2 fb) (o2 fc))):MS X io st (oS (Zlg i fa fb fc)):=h.weak λD δ h=>by
 refine(Zmf h).imp λr δ' z=>?_
 split at z
 case h_2=>exact z.elim
 rename_i q;(try rw[q])
 refine(Zmf z).imp λn δ2 z=>?_
 split at z
 case h_2=>exact z.elim
 rename_i k q2;(try rw[q2])
 show match ixN _ k with|some j=>_|none=>_
 split at z
 case h_2=>exact z.elim
 rename_i q3;(try rw[q3])
 try dsimp only
 split at z
 case h_2=>exact z.elim
 rename_i q4;(try rw[q4])
 refine(Zmf z).imp λn' δ3 z=>?_
 split at z
 case h_2=>exact z.elim
 rename_i k' q5;(try rw[q5])
 show match ixN _ k' with|some j=>_|none=>_
 split at z
 ·rename_i q6;(try rw[q6]);exact z
 ·exact z.elim
theorem Zg5(h:MS X io st (Zim i (oS u))):MS X io st (oS (Zdh i u)):=h.weak λD δ h=>by
 unfold oS Zdh at h;unfold Zim
 split at h
 ·rename_i q;(try rw[q]);exact h
 ·exact h.elim
theorem Za8{gg:FG}{d:Xa}{ds:List Xa}{δ:Zh}:forLoop gg u (d :: ds) δ=match gg d δ with
  | none=>.bad
  | some δ1=>match u δ1 with
   | .nx δ2=>forLoop gg u ds δ2
   | .ct δ2=>forLoop gg u ds δ2
   | .bk δ2=>.nx δ2
   | r=>r:=rfl
theorem Z43{it:FI}{gg:FG}(h:MS X io st (Ycu (o2 it) (oG gg) (oS u))):MS X io st (oS (Zbw it gg u)):=h.weak λD δ h=>by
 unfold oS Zbw at h
 split at h
 case h_2=>exact h.elim
 rename_i ds δ1 q
 refine⟨ds,δ1,q,λi δ'=>(forLoop gg u (ds.drop i) δ').fits D,by show RS.fits D (forLoop gg u (ds.drop 0) δ1);rw[List.drop_zero];exact h,λi d δ' hd z=>?_,λδ' z=>?_⟩
 ·obtain⟨hi,hdi⟩:=Xo.mp hd
  replace z:RS.fits D (forLoop gg u (ds.drop i) δ'):=z
  rw[BL hi,hdi,Za8]at z
  split at z
  case h_1=>exact z.elim
  rename_i δ2 q2
  refine⟨δ2,q2,?_⟩
  unfold oS
  cases q3:u δ2<;>rw[q3]at z<;>(try rw[q3])<;>exact z
 ·replace z:RS.fits D (forLoop gg u (ds.drop ds.length) δ'):=z
  rw[List.drop_length]at z;exact z
theorem Zmx(h:MS X io st (Zxv (o2 ta) (oS u))):MS X io st (oS (Zhx ta u)):=h.weak λD δ h=>by
 unfold oS Zhx at h
 split at h
 case isFalse=>exact h.elim
 rename_i hn
 refine⟨λn δ'=>(whileLoop ta u n δ').fits D,⟨_,h⟩,λn δ' z=>?_⟩
 cases n with
 | zero=>exact z.elim
 | succ n=>
  unfold whileLoop at z
  split at z
  case h_1=>exact z.elim
  rename_i b δ1 q
  refine⟨b,δ1,q,?_⟩
  split at z
  ·rename_i hb
   rw[if_pos hb]
   refine⟨λδ''=>(whileLoop ta u n δ'').fits D,λδ'' y=>⟨n,Qz n,y⟩,?_⟩
   unfold oS
   cases q3:u δ1<;>rw[q3]at z<;>exact z
  ·rename_i hb
   rw[if_neg hb]
   exact z
theorem Zc6{n m:Nat}:∀{δ:Zh},whileLoop ta u n δ≠ .bad->whileLoop ta u (n+m) δ=whileLoop ta u n δ:=by
 induction n with
 | zero=>intro δ h;exact absurd rfl h
 | succ n ih=>
  intro δ h
  rw[Nat.succ_add]
  unfold whileLoop at h⊢
  cases q:ta δ with
  | none=>rfl
  | some x=>
   obtain⟨b,δ1⟩:=x
   rw[q]at h
   try dsimp only at h⊢
   split
   ·rename_i hb
    rw[if_pos hb]at h
    cases q3:u δ1<;>rw[q3]at h<;>first|exact ih h|rfl
   ·rfl
theorem Zkf{r:RS}{δ:Zh}(n:Nat)(h:whileLoop ta u n δ=r)(hr:r≠ .bad):Zhx ta u δ=r:=by
 have hn:∃n,whileLoop ta u n δ≠ .bad:=⟨n,by rw[h];exact hr⟩
 unfold Zhx
 rw[dif_pos hn]
 have h1:=Classical.choose_spec hn
 have e1:=Zc6 (m:=n) h1
 have e2:=Zc6 (m:=Classical.choose hn) (show whileLoop ta u n δ≠ .bad by rw[h];exact hr)
 rw[Nat.add_comm]at e2
 rw[←e1,e2,h]
theorem Za9{cn:Str}:MS X io st (oS (Zgu cn)):=Zui.weak λD δ h=>h
theorem Yck{F:FD}{k:OT->Zh->RS}(h:MS X io st (oS (wE (Z1 F ra) k))):MS X io st (oS (wX F ra k)):=h.weak λD δ h=>by
 unfold oS wX at h;unfold oS wE Z1
 split at h
 case h_2=>exact h.elim
 rename_i rs δ1 q
 (try rw[q])
 dsimp only[Option.bind]
 split at h
 ·rename_i q2;(try rw[q2]);exact h
 ·exact h.elim
 ·exact h.elim
theorem XS.weak{m m':MXt}(h:XS X io st m)(w:∀δ k,m' δ k->m δ k):XS X io st m':=λC pins s σ H δ fp ex k I R hm=>h C pins s σ H δ fp ex k I R (w δ k hm)
theorem XSs.weak{m m':MXt}(h:XSs X io sts m)(w:∀δ k,m' δ k->m δ k):XSs X io sts m':=λC pins s σ H δ fp ex k I R hm=>h C pins s σ H δ fp ex k I R (w δ k hm)
theorem XE.weak{m m':MXt}(h:XE X io e m)(w:∀δ k,m' δ k->m δ k):XE X io e m':=λC pins s σ H δ fp ex k I R hm=>h C pins s σ H δ fp ex k I R (w δ k hm)
class NoEx (f:FS):Prop where
 no:∀δ cn δ',f δ≠ .ex cn δ'
class NoExK (k:OT->Zh->RS):Prop where
 no:∀r δ cn δ',k r δ≠ .ex cn δ'
theorem Yas(f:FS)[NoEx f]:XS X io st (xS X.K f):=Zve.weak λδ k ⟨cn,_,δ',h,_⟩=>(NoEx.no δ cn δ' h).elim
theorem Zga(f:FS)[NoEx f]:XSs X io sts (xS X.K f):=Ztn.weak λδ k ⟨cn,_,δ',h,_⟩=>(NoEx.no δ cn δ' h).elim
instance nx_kDrop_k:NoExK Zvs:=⟨λ_ _ _ _ h=>by cases h⟩
instance nx_kRet_k:NoExK J6:=⟨λ_ _ _ _ h=>by cases h⟩
instance nx_kSet_k:NoExK (W3 i):=⟨λ_ _ _ _ h=>by cases h⟩
instance nx_kSetO_k:NoExK (Za1 i):=⟨λ_ _ _ _ h=>by cases h⟩
instance nx_wE{k:OT->Zh->RS}[NoExK k]:NoEx (wE fa k):=⟨λδ cn δ' h=>by
 unfold wE at h
 split at h
 ·exact NoExK.no _ _ _ _ h
 ·cases h⟩
instance nx_fSeq[NoEx f][NoEx g]:NoEx (Z0 f g):=⟨λδ cn δ' h=>by
 unfold Z0 at h
 split at h
 ·exact NoEx.no _ _ _ h
 ·exact NoEx.no _ _ _ h⟩
instance nx_fNx:NoEx fNx:=⟨λ_ _ _ h=>by cases h⟩
instance nx_fRetO:NoEx (Ze5 i):=⟨λ_ _ _ h=>by unfold Ze5 at h;split at h<;>cases h⟩
instance nx_fIfS[NoEx u][NoEx w]:NoEx (Zbn ta u w):=⟨λδ cn δ' h=>by
 unfold Zbn at h
 split at h
 ·split at h
  ·exact NoEx.no _ _ _ h
  ·exact NoEx.no _ _ _ h
 ·cases h⟩
theorem Zzl{k:OT->Zh->RS}{δ:Zh}(n:∀r δ cn δ',k r δ≠ .ex cn δ'){cn:Str}{δ':Zh}(h:wE fa k δ= .ex cn δ'):False:=by
 unfold wE at h
 split at h
 ·exact n _ _ _ _ h
 ·cases h
instance nx_fAppend:NoEx (Yp i fa):=⟨λδ cn δ' h=>by
 unfold Yp at h
 split at h
 ·exact Zzl (λr δ1 _ _ z=>by
   split at z
   ·split at z<;>cases z
   ·cases z) h
 ·cases h⟩
theorem Zco[NoEx u]{gg:FG}{cn:Str}{δ':Zh}:∀(ds:List Xa) (δ:Zh),forLoop gg u ds δ≠ .ex cn δ'
 | [],δ=>λh=>by cases h
 | d :: ds,δ=>λh=>by
  rw[Za8]at h
  split at h
  ·cases h
  ·split at h
   ·exact Zco ds _ h
   ·exact Zco ds _ h
   ·cases h
   ·exact NoEx.no _ _ _ h
instance nx_fFor[NoEx u]{it:FI}{gg:FG}:NoEx (Zbw it gg u):=⟨λδ cn δ' h=>by
 unfold Zbw at h
 split at h
 ·exact Zco _ _ h
 ·cases h⟩
theorem Zf7{cn:Str}{C:Addr}(hc:ClsAt X.K cn C)(h:XS X io st (Zr2 C)):XS X io st (xS X.K (Zgu cn)):=h.weak λδ k z=>by
 obtain⟨c',C',δ',h,k1,k2⟩:=z
 cases h
 have:=k1.symm.trans hc
 injection this with this;injection this with this;injection this with this
 subst this
 exact k2
theorem Zz8{F:FD}{k:OT->Zh->RS}[NoExK k](h:XE X io e (Zw5 (sX X.K F) (o2 ra))):XE X io e (xS X.K (wX F ra k)):=h.weak λδ kk z=>by
 obtain⟨c',C',δ',h,k1,k2⟩:=z
 unfold wX at h
 split at h
 case h_2=>cases h
 rename_i rs δ1 q
 refine⟨rs,δ1,q,?_⟩
 split at h
 ·exact(NoExK.no _ _ _ _ h).elim
 ·rename_i q2
  cases h
  exact⟨C',⟨_,q2,k1⟩,k2⟩
 ·cases h
theorem Zks(h1:XS X io st (xS X.K f))(m1:MS X io st (oS f))(h2:XSs X io sts (xS X.K g))(hx:X.xe= λ_ _=>False:=by rfl):XSs X io (st :: sts) (xS X.K (Z0 f g)):=by
 intro C pins s σ H δ fp ex k I R hm
 obtain⟨cn,C',δ',h,k1,k2⟩:=hm
 unfold Z0 at h
 split at h
 ·rename_i δ1 q
  exact Zu6 m1 h2 hx C pins s σ H δ fp ex k I R (by
   show(f δ).fits _
   (try rw[q])
   exact⟨cn,C',δ',h,k1,k2⟩)
 ·exact Znu h1 C pins s σ H δ fp ex k I R ⟨cn,C',δ',h,k1,k2⟩
theorem Ze6(h1:XS X io st (xS X.K f)):XSs X io [st] (xS X.K f):=Znu h1
theorem Zul{a b:List Stmt}{pos:Pos}(h:XS X io (.If e a b pos) (Ycw (o2 ta) (xS X.K u) (xS X.K w))):XS X io (.If e a b pos) (xS X.K (Zbn ta u w)):=h.weak λδ k z=>by
 obtain⟨cn,C',δ',h,k1,k2⟩:=z
 unfold Zbn at h
 split at h
 case h_2=>cases h
 rename_i b δ1 q
 refine⟨b,δ1,q,?_⟩
 split at h
 ·rename_i hb;rw[if_pos hb];exact⟨cn,C',δ',h,k1,k2⟩
 ·rename_i hb;rw[if_neg hb];exact⟨cn,C',δ',h,k1,k2⟩
theorem Zh6{gg:FG}{cn:Str}{δ':Zh}:∀(ds:List Xa) (δ:Zh),forLoop gg u ds δ= .ex cn δ'->∃(S:Nat->Zh) (r:Nat),r<ds.length∧S 0=δ∧
  (∀ i d,i<r->ds[i]? =some d->∃δ1,gg d (S i)=some δ1∧(u δ1= .nx (S (i+1))∨u δ1= .ct (S (i+1))))∧∀d,ds[r]? =some d->∃δ1,gg d (S r)=some δ1∧u δ1= .ex cn δ'
 | [],δ,h=>by cases h
 | d :: ds,δ,h=>by
  rw[Za8]at h
  split at h
  ·cases h
  rename_i δ1 q
  have go:∀δ2,(u δ1= .nx δ2∨u δ1= .ct δ2)->forLoop gg u ds δ2= .ex cn δ'->∃(S:Nat->Zh) (r:Nat),r<(d :: ds).length∧S 0=δ∧
    (∀ i d',i<r->(d :: ds)[i]? =some d'->∃δ1,gg d' (S i)=some δ1∧(u δ1= .nx (S (i+1))∨u δ1= .ct (S (i+1))))∧∀d',(d :: ds)[r]? =some d'->∃δ1,gg d' (S r)=some δ1∧u δ1= .ex cn δ':=λδ2 hu hl=>by
   obtain⟨S,r,h1,h2,h3,h4⟩:=Zh6 ds δ2 hl
   refine⟨λi=>match i with|0=>δ|i+1=>S i,r+1,by simpa using h1,rfl,λi d' hi hd=>?_,λd' hd=>h4 d' (by simpa using hd)⟩
   cases i with
   | zero=>
    have:d=d':=by simpa using hd
    subst this
    exact⟨δ1,q,by show _=RS.nx (S 0)∨_=RS.ct (S 0);rw[h2];exact hu⟩
   | succ i=>exact h3 i d' (by omega) (by simpa using hd)
  split at h
  ·rename_i q2;exact go _ (.inl q2) h
  ·rename_i q2;exact go _ (.inr q2) h
  ·cases h
  ·rename_i q2 _ _ _
   exact⟨λ_=>δ,0,by simp,rfl,λi d' hi=>absurd hi (V1 i),λd' hd=>by
    have:d=d':=by simpa using hd
    subst this
    exact⟨δ1,q,h⟩⟩
theorem Z40{it:FI}{gg:FG}(h:XS X io st (Z58 (o2 it) (oG gg) (oS u) (xS X.K u))):XS X io st (xS X.K (Zbw it gg u)):=h.weak λδ k z=>by
 obtain⟨cn,C',δ',h,k1,k2⟩:=z
 unfold Zbw at h
 split at h
 case h_2=>cases h
 rename_i ds δ1 q
 refine⟨ds,δ1,q,?_⟩
 obtain⟨S,r,h1,h2,h3,h4⟩:=Zh6 ds δ1 h
 refine⟨λi δ=>δ=S i,r,h1,h2.symm,λi d δ2 hi hd e=>?_,λd δ2 hd e=>?_⟩
 ·subst e
  obtain⟨δ3,a,b⟩:=h3 i d hi hd
  refine⟨δ3,a,?_⟩
  unfold oS
  rcases b with b|b<;>rw[b]<;>rfl
 ·subst e
  obtain⟨δ3,a,b⟩:=h4 d hd
  exact⟨δ3,a,cn,C',δ',b,k1,k2⟩
end
section
variable {P:Qj}{w:Qy}{K:Xd}{mg:Str->Option Xc}{base:Heap}{x qual:Str}{st:Stmt}{f:Addr}{fd:Qn}{N ps:List Str}{n np nn:Nat}{S:FS}
theorem RS.told_fits{r:RS}{o:OT}{k:OT->Prop}(h:r.told= .ok o)(hk:k o):r.fits (Z06 k):=by
 cases r<;>unfold RS.told at h<;>first|(cases h;exact hk)|cases h
theorem Wm(F:Fun K x qual st f fd)(Sc:Zw N ps (Zg st))(hN:N.length=nn)(hp:np=ps.length)
  (hb:∀(cdv:Xc) (A:Qv) (outer:List Env) (s:Xg) (H:Hp) (E:XK),Room n (A.deeper (envOfC qual (Zg st) s.heap.objs.size f cdv))->MSs (Zpl CX0 P w K mg base N qual (Zg st) f cdv A outer s H E).nox [] (Zr st) (oS S)) :
  FnOk P w K mg base CX0 (n+1) f fd ps (spD K (sD (Zbo np nn S))):=by
 subst hN hp
 refine F.okD Sc (λds k h=>?_) λcdv A outer s H E hr=>⟨_,hb cdv A outer s H E hr,λds k h=>?_⟩
 ·obtain⟨r,h,_⟩:=h
  unfold Zbo at h
  split at h
  ·assumption
  ·cases h
 ·obtain⟨r,h,hk⟩:=h
  unfold Zbo at h
  split at h
  ·exact RS.told_fits h hk
  ·cases h
theorem Zmj(F:Fun K x qual st f fd)(Sc:Zw N ps (Zg st))(hN:N.length=nn)(hp:np=ps.length)
  (hb:∀(cdv:Xc) (A:Qv) (outer:List Env) (s:Xg) (H:Hp) (E:XK),Room n (A.deeper (envOfC qual (Zg st) s.heap.objs.size f cdv))->XSs (Zpl (CX1 P w) P w K mg base N qual (Zg st) f cdv A outer s H E).nox [] (Zr st) (xS K S)) :
  FnOk P w K mg base (CX1 P w) (n+1) f fd ps (spX K (sX K (Zbo np nn S))):=by
 subst hN hp
 refine F.okX Sc (λds cl h=>?_) λcdv A outer s H E hr=>⟨_,hb cdv A outer s H E hr,λds cl h=>?_⟩
 ·obtain⟨r,h,_⟩:=h
  unfold Zbo at h
  split at h
  ·assumption
  ·cases h
 ·obtain⟨c,h,hc⟩:=h
  unfold Zbo at h
  split at h
  case isFalse=>cases h
  have e:Zc8 N.length ds=Zhy N ds:=rfl
  rw[e]at h
  cases q:S (Zhy N ds)<;>rw[q]at h<;>unfold RS.told at h<;>cases h
  exact⟨_,cl,_,q,hc,rfl⟩
theorem Zni(F:Fun K x qual st f fd)(Sc:Zw N ps (Zg st))(hN:N.length=nn)(hp:np=ps.length)
  (hb:∀(cdv:Xc) (A:Qv) (outer:List Env) (s:Xg) (H:Hp) (E:XK),Room n (A.deeper (envOfC qual (Zg st) s.heap.objs.size f cdv))->MSs (Zpl CX0 P w K mg base N qual (Zg st) f cdv A outer s H E).nox [0] (Zr st) (oS S)) :
  FnOk P w K mg base CX0 (n+1) f fd ps (spI K (sI (Ztw np nn S))):=by
 subst hN hp
 refine F.okI Sc (λt ds k h=>?_) λcdv A outer s H E hr=>⟨_,hb cdv A outer s H E hr,λt ds k h=>?_⟩
 ·obtain⟨r,t',h,_⟩:=h
  unfold Ztw at h
  split at h
  ·assumption
  ·cases h
 ·obtain⟨r,t',h,hk⟩:=h
  unfold Ztw at h
  split at h
  case isFalse=>cases h
  have e:Ziz N.length t ds=Zg2 N t ds:=rfl
  rw[e]at h
  show(S (Zg2 N t ds)).fits (Zz4 k)
  cases q:S (Zg2 N t ds)<;>rw[q]at h<;>unfold RS.toldI at h<;>first|cases h|skip
  ·rename_i δ
   show match δ[0]? with|some (some t)=>k (.fz .none) t|_=>False
   dsimp only at h
   split at h
   ·rename_i z;(try rw[z]);cases h;exact hk
   ·cases h
  ·rename_i r' δ
   show match δ[0]? with|some (some t)=>k r' t|_=>False
   dsimp only at h
   split at h
   ·rename_i z;(try rw[z]);cases h;exact hk
   ·cases h
end
noncomputable def i2(g:Int->Int->Xa):Xa->Xa->Option Xa:=λd e=>match d,e with| .int i,.int j=>some (g i j)|_,_=>none
noncomputable def i2c(c:Int->Int->Bool)(g:Int->Int->Xa):Xa->Xa->Option Xa:=λd e=>match d,e with| .int i,.int j=>if c i j=true then some (g i j)else none|_,_=>none
theorem Zrr{g:Int->Int->Xa}:ByS (i2 g) (Zxr g):=λd e r k h hk=>by
 unfold i2 at h
 split at h
 ·cases h;exact hk
 ·cases h
theorem Znv{c:Int->Int->Bool}{C:Int->Int->Prop}{g:Int->Int->Xa}(hc:∀i j,c i j=true->C i j):ByS (i2c c g) (d2I C g):=λd e r k h hk=>by
 unfold i2c at h
 split at h
 ·split at h
  ·cases h;exact⟨hc _ _ ‹_›,hk⟩
  ·cases h
 ·cases h
noncomputable def Z0e(a b:Int):Bool:=!(decide (Bo a>shortFactorBits)&&decide (Bo b>shortFactorBits)&&Builtin.Int.intTooBig (Bo a+Bo b))
noncomputable def Z5u(_ j:Int):Bool:=decide (j≠0)&&decide (j.natAbs.log2<9000)
noncomputable def Ybb(_ j:Int):Bool:=decide (j≠0)
noncomputable def Ydf(i j:Int):Bool:=decide (0≤j∧j≤1000000∧i.natAbs<2^64)
theorem Zf2{a b:Int}:Z0e a b=true↔IntMulOk a b:=by
 unfold Z0e IntMulOk
 rw[Bool.not_eq_true',Bool.not_eq_true]
noncomputable def Zde:=i2 λi j=>.int (i+j)
noncomputable def gSb:=i2 λi j=>.int (i-j)
noncomputable def Zfb:=i2c Z0e λi j=>.int (i*j)
noncomputable def Za4:=i2c Z5u λi j=>.int (i.fdiv j)
noncomputable def Zfr:=i2c Ybb λi j=>.int (i.fmod j)
noncomputable def Zkw:=i2c Ydf λi j=>.int (i^j.toNat)
noncomputable def gLt:=i2 λi j=>.bool (decide (i<j))
noncomputable def gLe:=i2 λi j=>.bool (decide (i≤j))
noncomputable def gGt:=i2 λi j=>.bool (decide (j<i))
noncomputable def gGe:=i2 λi j=>.bool (decide (j≤i))
theorem Yag:ByS Zde (Zxr λi j=>.int (i+j)):=Zrr
theorem Z8b:ByS gSb (Zxr λi j=>.int (i-j)):=Zrr
theorem Yai:ByS Zfb (d2I MulOk λi j=>.int (i*j)):=Znv λi j h=>⟨Zf2.mp h⟩
theorem Z66:ByS Za4 (d2I Yb5 λi j=>.int (i.fdiv j)):=Znv λi j h=>⟨by
 unfold Z5u at h
 rw[XM]at h
 exact⟨of_decide_eq_true h.1,of_decide_eq_true h.2⟩⟩
theorem Z77:ByS Zfr (d2I (λ_ j=>j≠0) λi j=>.int (i.fmod j)):=Znv λi j h=>of_decide_eq_true h
theorem Yav:ByS Zkw (d2I Yc7 λi j=>.int (i^j.toNat)):=Znv λi j h=>⟨(of_decide_eq_true h:0≤j∧j≤1000000∧i.natAbs<2^64)⟩
theorem Ydk:ByS gLt (Zxr λi j=>.bool (decide (i<j))):=Zrr
theorem Ycy:ByS gGt (Zxr λi j=>.bool (decide (j<i))):=Zrr
theorem Ydu:ByS gGe (Zxr λi j=>.bool (decide (j≤i))):=Zrr
noncomputable def gEq:Xa->Xa->Option Xa:=λd e=>if(BX d&&BX e)=true then some (.bool (QR d e))else none
noncomputable def gNe:Xa->Xa->Option Xa:=λd e=>if(BX d&&BX e)=true then some (.bool (!QR d e))else none
theorem Ya3:ByS gEq dEq:=λd e r k h hk=>by
 unfold gEq at h
 split at h
 ·rename_i q
  rw[XM]at q
  cases h
  exact⟨⟨q.1⟩,⟨q.2⟩,hk⟩
 ·cases h
theorem Yd3:ByS gNe dNe:=λd e r k h hk=>by
 unfold gNe at h
 split at h
 ·rename_i q
  rw[XM]at q
  cases h
  exact⟨⟨q.1⟩,⟨q.2⟩,hk⟩
 ·cases h
noncomputable def gIs:Xa->Xa->Option Xa:=λd e=>match e with| .none=>some (.bool (Zdp d))|_=>none
noncomputable def Zh7:Xa->Xa->Option Xa:=λd e=>match e with| .none=>some (.bool (!Zdp d))|_=>none
theorem Z8j:ByS gIs Yde:=λd e r k h hk=>by
 unfold gIs at h
 split at h
 ·cases h;exact⟨rfl,hk⟩
 ·cases h
theorem Z1f:ByS Zh7 Z54:=λd e r k h hk=>by
 unfold Zh7 at h
 split at h
 ·cases h;exact⟨rfl,hk⟩
 ·cases h
noncomputable def Zk5(neg:Bool):Xa->Xa->Option Xa:=λd e=>match Zno e with
 | some ds=>if(scD d&&ds.all scD)=true then some (.bool (if neg then !memS d ds else memS d ds))else none
 | none=>none
theorem Zn3{neg:Bool}:ByS (Zk5 neg) (dIn neg):=λd e r k h hk=>by
 unfold Zk5 at h
 split at h
 case h_2=>cases h
 rename_i ds q
 split at h
 case isFalse=>cases h
 rename_i q2
 rw[XM]at q2
 cases h
 refine⟨q2.1,?_⟩
 cases e<;>cases q
 ·exact⟨q2.2,hk⟩
 ·exact⟨q2.2,hk⟩
noncomputable def gIx:Xa->Xa->Option OT:=λd e=>(ixD d e).bind λx=>some (.fz x)
theorem Ydn:ByO gIx dIx:=λd e r k h hk=>by
 obtain⟨x,h1,h2⟩:=bs h
 cases h2
 unfold dIx
 rw[h1]
 exact hk
noncomputable def Znw:Xa->Xa->Option OT:=λd e=>match d,e with| .list ds,.list es=>if ds.length+es.length≤Xr then some (.nd ((ds ++ es).map OT.fz))else none|_,_=>none
theorem Zsj:ByO Znw dCat:=λd e r k h hk=>by
 unfold Znw at h
 split at h
 ·split at h
  ·cases h;exact⟨‹_›,hk⟩
  ·cases h
 ·cases h
noncomputable def Zji:List Xa->Option Xa:=λds=>match ds with|[d]=>(Zu4 d).bind λn=>some (.int n)|_=>none
theorem Yah:∀ds r k,Zji ds=some r->k r->Ydc ds k:=λds r k h hk=>by
 unfold Zji at h
 split at h
 ·obtain⟨n,h1,h2⟩:=bs h
  cases h2
  show match Zu4 _ with|some n=>_|none=>_
  rw[h1]
  exact hk
 ·cases h
noncomputable def Zyd:List Xa->Option Xa:=λds=>match ds with|[.int i]=>some (.int (if i<0 then -i else i))|_=>none
theorem Zwe:∀ds r k,Zyd ds=some r->k r->Ybt ds k:=λds r k h hk=>by
 unfold Zyd at h
 split at h
 ·cases h;exact hk
 ·cases h
noncomputable def Z7p:List Xa->Option Xa:=λds=>match ds with|[.int i,.int j]=>some (.int (if j>i then j else i))|_=>none
theorem Ya0:∀ds r k,Z7p ds=some r->k r->Yc5 ds k:=λds r k h hk=>by
 unfold Z7p at h
 split at h
 ·cases h;exact hk
 ·cases h
noncomputable def Z7z:List Xa->Option Xa:=λds=>match ds with|[.int i,.int j]=>some (.int (if j<i then j else i))|_=>none
theorem Z89:∀ds r k,Z7z ds=some r->k r->Ybr ds k:=λds r k h hk=>by
 unfold Z7z at h
 split at h
 ·cases h;exact hk
 ·cases h
noncomputable def Zxd:List Xa->Option Xa:=λds=>match ds with|[.int i]=>some (.int i)|[.bool b]=>some (.int (if b then 1 else 0))|_=>none
theorem Z4s:∀ds r k,Zxd ds=some r->k r->Ybu ds k:=λds r k h hk=>by
 unfold Zxd at h
 split at h
 ·cases h;exact hk
 ·cases h;exact hk
 ·cases h
noncomputable def Zrl:List Xa->Option OT:=λds=>match ds with|[d]=>(Zno d).bind λes=>some (.nd (es.map OT.fz))|_=>none
theorem Z3q:∀ds r k,Zrl ds=some r->k r->Z3c ds k:=λds r k h hk=>by
 unfold Zrl at h
 split at h
 ·obtain⟨n,h1,h2⟩:=bs h
  cases h2
  show match Zno _ with|some n=>_|none=>_
  rw[h1]
  exact hk
 ·cases h
noncomputable def Zdc:List Xa->Option (List Int)
 | []=>some []
 | .int i :: r=>(Zdc r).bind λl=>some (i :: l)
 | _ :: _=>none
theorem Zcx:∀{ds:List Xa} {ns:List Int},Zdc ds=some ns->ds=ns.map Xm
 | [],_,h=>by cases h;rfl
 | .int i :: r,_,h=>by
  obtain⟨l,h1,h2⟩:=bs h
  cases h2
  rw[Zcx h1];rfl
 | .none :: _,_,h=>by cases h
 | .bool _ :: _,_,h=>by cases h
 | .str _ :: _,_,h=>by cases h
 | .list _ :: _,_,h=>by cases h
 | .tuple _ :: _,_,h=>by cases h
 | .dict _ :: _,_,h=>by cases h
@[simp] theorem Zcm:∀ns:List Int,Zdc (ns.map Xm)=some ns
 | []=>rfl
 | n :: ns=>by rw[Qu,Zdc,Zcm ns];rfl
noncomputable def Z33:List Xa->Option Xa:=λds=>match ds with|[.list es]=>(Zdc es).bind λns=>some (.int ns.sum)|_=>none
theorem Z9r:∀ds r k,Z33 ds=some r->k r->Ycd ds k:=λds r k h hk=>by
 unfold Z33 at h
 split at h
 ·obtain⟨n,h1,h2⟩:=bs h
  cases h2
  exact⟨n,by rw[Zcx h1],hk⟩
 ·cases h
section
variable {X:Cx}{io:List Nat}{p c:Bool}{e tg:Expr}{es:List Expr}{st:Stmt}{fa fb fc:FE}{ra:FA}{i:Nat}
noncomputable def Ycz(a:FA):FE:=λδ=>(a δ).bind λp=>match OT.datas p.1 with|[.int j]=>if rOk j=true∧j.toNat≤Xr then some (.nd ((Zc5 0 j.toNat).map OT.fz),p.2)else none|_=>none
noncomputable def Z2f(a:FA):FE:=λδ=>(a δ).bind λp=>match OT.datas p.1 with|[.int i,.int j]=>if rOk i=true∧rOk j=true∧(j-i).toNat≤Xr then some (.nd ((Zc5 i (j-i).toNat).map OT.fz),p.2)else none|_=>none
theorem Z2r(h:ME X io p c e (Ycx (o2 ra))):ME X io p c e (o2 (Z2f ra)):=h.weak λδ K h=>by
 obtain⟨r,δ',h,k⟩:=h
 obtain⟨⟨x,δ1⟩,h1,h⟩:=bs h
 refine⟨x,δ1,h1,?_⟩
 dsimp only at h
 split at h
 case h_2=>cases h
 rename_i q
 split at h
 case isFalse=>cases h
 rename_i b
 cases h
 (try rw[q])
 exact⟨⟨(Zbb b.1).1,(Zbb b.1).2,(Zbb b.2.1).1,(Zbb b.2.1).2,b.2.2⟩,k⟩
noncomputable def Zyw(a b:FE):FE:=λδ=>(a δ).bind λp=>(b p.2).bind λq=>match q.1.data with| .int k=>if rOk k=true∧k.toNat≤Xr then some (.nd (Qg k.toNat (.fz p.1.data)),p.2)else none|_=>none
theorem Z6x(h:ME X io p c e (Ybx (o2 fa) (o2 fb))):ME X io p c e (o2 (Zyw fa fb)):=h.weak λδ K h=>by
 obtain⟨r,δ',h,k⟩:=h
 obtain⟨⟨x,δ1⟩,h1,h⟩:=bs h
 obtain⟨⟨y,δ2⟩,h2,h⟩:=bs h
 refine⟨x,δ1,h1,y,δ2,h2,?_⟩
 try dsimp only at h⊢
 split at h
 case h_2=>cases h
 rename_i q
 (try rw[q])
 split at h
 case isFalse=>cases h
 rename_i b
 cases h
 have z:=Zbb b.1
 exact⟨⟨by omega,by omega,b.2⟩,k⟩
end
variable {G:Xd}
section
variable {X:Cx}{io:List Nat}{p c:Bool}{e a b:Expr}{es:List Expr}{m ma mb:MEt}{mr:MAt}{pos apos cpos px py pt sp kp:Pos}{i j:Nat}{x y:Str}{fa fb:FE}{ra:FA}{st:Stmt}
noncomputable def Z6q(m:MAt):MEt:=λδ K=>m δ λrs δ'=>rs.length≤Xr∧K (.tp rs) δ'
theorem Z5i{x1}(h:MA X io p c es mr):ME X io p c (.Tuple es x1 pos) (Z6q mr):=by
 obtain⟨tA,A,sa⟩:=h
 refine⟨_,Zw6 A,λC H σ δ fp ex K Q R h k=>?_⟩
 refine sa C H σ δ fp ex _ _ R h λH1 vs rs δ1 fp1 new1 r1 h1=>⟨by rw[r1.own.length];exact h1.1,λq hq=>?_⟩
 have s:=Z5 hq (.tup vs)
 have S:=r1.stp.trans (p':=true) (Stp.same (p:=true) (δ:=δ1) (fp:=fp1) s s.al)
 rw[Bool.and_true]at S
 exact k _ _ _ δ1 fp1 new1 ⟨(r1.rel.made (new:=[]) s λa m=>nomatch m).drop λa z=>.inl z,S,.tp Z8 (r1.own.same s),r1.nd,r1.fresh⟩ h1.2
noncomputable def Zpk(a:FA):FE:=λδ=>(a δ).bind λp=>if p.1.length≤Xr then some (.tp p.1,p.2)else none
theorem Z1d(h:ME X io p c e (Z6q (o2 ra))):ME X io p c e (o2 (Zpk ra)):=h.weak λδ K h=>by
 obtain⟨r,δ',h,k⟩:=h
 obtain⟨⟨x,δ1⟩,h1,h⟩:=bs h
 refine⟨x,δ1,h1,?_⟩
 dsimp only at h
 split at h
 ·rename_i q;cases h;exact⟨q,k⟩
 ·cases h
noncomputable def Zw0(i c:Nat)(e:FE):FS:=λδ=>match δ[i]? with
 | some (some (.tp ts))=>match ts[c]? with
  | some (.nd us)=>wE e (λr _=>if us.length<Xr then .nx (δ.set i (some (.tp (ts.set c (.nd (us ++ [.fz r.data]))))))else .bad) δ
  | _=>.bad
 | _=>.bad
noncomputable def Ybg(i j:Nat)(mr:MAt):MSt:=λD δ=>mr δ λrs δ1=>∃d e,OT.datas rs=[d,e]∧D.nx ((δ1.set i (some (.fz d))).set j (some (.fz e)))
theorem Z62{kt k2:Nat}{pt2:Pos}(hc:X.calm=true)(hN:X.N.Nodup)(hi:X.N[i]? =some x)(hj:X.N[j]? =some y)(hij:i≠j)(hx:X.env.scope.names.lookup x=some .local)(hy:X.env.scope.names.lookup y=some .local)(ha:MA X io p true [a,b] mr)
  (hi':i∉io:=by decide) (hj':j∉io:=by decide)
  (hw:swappedStores [.Tuple [.Name x px,.Name y py] kt pt] (.Tuple [a,b] k2 pt2) X.env=pure (some [x,y]):=by rfl)
  (hs:swapsWithSole [.Tuple [.Name x px,.Name y py] kt pt] (.Tuple [a,b] k2 pt2) pos.line X.env=pure false:=by rfl) :
  MS X io (.Assign [.Tuple [.Name x px,.Name y py] kt pt] (.Tuple [a,b] k2 pt2) pos) (Ybg i j mr):=by
 obtain⟨_,A,s⟩:=ha
 refine⟨_,Z5d hc hN hi hj hij hx hy A hw hs,λC H σ δ fp ex D D' R h E=>?_⟩
 refine s C H σ δ fp ex _ _ R h λH1 vs rs δ1 fp1 new r1 h1=>?_
 obtain⟨d,e,hd,h1⟩:=h1
 have q:=(r1.das R).wide (L':=Lf C fp1 ex) λa l _=>l rfl
 rw[hd]at q
 cases q with
 | cons q1 q=>
  cases q with
  | cons q2 q=>
   cases q
   obtain⟨fp2,R2,k2⟩:=r1.base.putD hi' q1
   have z:=r1.base.kp_das k2 (.cons q2 .nil)
   cases z with
   | cons q2' _=>
    obtain⟨fp3,R3,k3⟩:=R2.putD hj' q2'
    exact⟨_,_,rfl,E.nx _ _ _ fp3 R3 (r1.stp.kp.trans (k2.trans k3)) h1⟩
noncomputable def Zw1(i j:Nat)(a:FA):FS:=λδ=>match a δ with
 | some (rs,δ1)=>match OT.datas rs with
  | [d,e]=>.nx ((δ1.set i (some (.fz d))).set j (some (.fz e)))
  | _=>.bad
 | none=>.bad
theorem Z5m(h:MS X io st (Ybg i j (o2 ra))):MS X io st (oS (Zw1 i j ra)):=h.weak λD δ h=>by
 unfold oS Zw1 at h
 split at h
 case h_2=>exact h.elim
 rename_i rs δ1 q
 refine⟨rs,δ1,q,?_⟩
 split at h
 ·rename_i q2;exact⟨_,_,q2,h⟩
 ·exact h.elim
end
class NoStar (e:Expr):Prop where
 h:∀es env,Xn (e :: es) env=(false,eval e env) :: Xn es env
instance nx_Name{x:Str}{p:Pos}:NoStar (.Name x p):=⟨λ_ _=>rfl⟩
instance nx_Constant{x k}{p:Pos}:NoStar (.Constant x k p):=⟨λ_ _=>rfl⟩
instance nx_BinOp{a o b}{p:Pos}:NoStar (.BinOp a o b p):=⟨λ_ _=>rfl⟩
instance nx_Compare{a o b}{p:Pos}:NoStar (.Compare a o b p):=⟨λ_ _=>rfl⟩
instance nx_Call{f a k}{p:Pos}:NoStar (.Call f a k p):=⟨λ_ _=>rfl⟩
instance nx_List{a}{p:Pos}:NoStar (.List a p):=⟨λ_ _=>rfl⟩
instance nx_Tuple{a k}{p:Pos}:NoStar (.Tuple a k p):=⟨λ_ _=>rfl⟩
instance nx_Subscript{a b}{p:Pos}:NoStar (.Subscript a b p):=⟨λ_ _=>rfl⟩
instance nx_ListComp{a b s}{p:Pos}:NoStar (.ListComp a b s p):=⟨λ_ _=>rfl⟩
theorem Ze{X:Cx}{io:List Nat}{p p' c c' p2 c2:Bool}{e:Expr}{es:List Expr}{fa:FE}{ra:FA}[NoStar e](ha:ME X io p c e (o2 fa))(hr:MA X io p' c' es (o2 ra))(hc:p'=true∨c=true:=by first|exact QF rfl|exact QJ rfl)(h2:(p&&p')=p2:=by rfl)(h3:(c&&c')=c2:=by rfl):MA X io p2 c2 (e :: es) (o2 (Zc fa ra)) :=
 h2▸h3▸Zz7 (Z0b ha hr hc (NoStar.h es X.env))
theorem Zn8{X:Cx}{io:List Nat}{p p' c c':Bool}{e:Expr}{m:MEt}(h:ME X io p c e m)(h2:p=p':=by rfl)(h3:c=c':=by rfl):ME X io p' c' e m:=h2▸h3▸h
variable {G:Xd}
section
variable {X:Cx}{io:List Nat}{p c:Bool}{e a b:Expr}{es:List Expr}{m ma mb:MEt}{mr:MAt}{pos apos cpos px py pt sp kp:Pos}{i j:Nat}{x y:Str}{fa fb:FE}{ra:FA}{st:Stmt}{u:FS}
noncomputable def insI(x:Int):List Int->List Int
 | []=>[x]
 | y :: ys=>if x≤y then x :: y :: ys else y :: insI x ys
noncomputable def Zcc:List Int->List Int
 | []=>[]
 | x :: xs=>insI x (Zcc xs)
theorem insI_perm(x:Int):∀l,(insI x l).Perm (x :: l)
 | []=>.refl _
 | y :: ys=>by
  unfold insI
  split
  ·exact .refl _
  ·exact((insI_perm x ys).cons y).trans (.swap x y ys)
theorem Zak:∀l,(Zcc l).Perm l
 | []=>.refl _
 | x :: xs=>(insI_perm x _).trans ((Zak xs).cons x)
theorem Zf8(x:Int):∀{l},l.Pairwise (·≤·)->(insI x l).Pairwise (·≤·)
 | [],_=>.cons (λ_ m=>nomatch m) .nil
 | y :: ys,h=>by
  unfold insI
  cases h with
  | cons h1 h2=>
   split
   ·rename_i c
    refine .cons (λz m=>?_) (.cons h1 h2)
    rcases Xp.mp m with rfl|m
    ·exact c
    ·exact Vf c (h1 z m)
   ·rename_i c
    refine .cons (λz m=>?_) (Zf8 x h2)
    rcases Xp.mp ((insI_perm x ys).mem_iff.mp m)with rfl|m
    ·omega
    ·exact h1 z m
theorem J8:∀l,(Zcc l).Pairwise (·≤·)
 | []=>.nil
 | x :: xs=>Zf8 x (J8 xs)
theorem Zag:∀{l₁ l₂:List Int},l₁.Perm l₂->l₁.Pairwise (·≤·)->l₂.Pairwise (·≤·)->l₁=l₂
 | [],l₂,h,_,_=>h.nil_eq
 | a :: l₁,[],h,_,_=>h.eq_nil
 | a :: l₁,b :: l₂,h,h1,h2=>by
  cases h1 with
  | cons p1 q1=>
   cases h2 with
   | cons p2 q2=>
    have e:a=b:=by
     have m1:a∈b :: l₂:=h.mem_iff.mp (.head _)
     have m2:b∈a :: l₁:=h.mem_iff.mpr (.head _)
     rcases Xp.mp m1 with e|m1
     ·exact e
     ·rcases Xp.mp m2 with e|m2
      ·exact e.symm
      ·have:=p2 a m1
       have:=p1 b m2
       omega
    subst e
    rw[Zag h.cons_inv q1 q2]
theorem Z31:∀{its:List Xc} {ns:List Int},BZ its ns->Vals (ns.map V.int) its
 | [],_,h=>by cases h;exact .nil
 | v :: its,_,h=>by
  cases h with
  | cons n t h=>exact .cons ⟨_,rfl⟩ (Z31 h)
end
structure Gives(P:Qj)(w:Qy)(it:Addr)(f:List Addr)(St:Heap->Prop)(x:Xc)(St':Heap->Prop):Prop where
 mem:it∈f
 run:∀{A:Qv} {E:Xc->Xg->Prop} {s:Xg} {Q:Xc->Xg->Prop},St s.heap->(∀h',St' h'->Bh it s.heap h'->Q x { s with heap:=h' })->Xu (X5 P w) A (QV (.ref it)) Q E s
 keep:∀h h',(∀c∈f,∀o,h.get? c=some o->h'.get? c=some o)->St h->St h'
 keep':∀h h',(∀c∈f,∀o,h.get? c=some o->h'.get? c=some o)->St' h->St' h'
structure Zh8(P:Qj)(w:Qy)(it:Addr)(f:List Addr)(St:Heap->Prop):Prop where
 mem:it∈f
 run:∀{A:Qv} {E:Xc->Xg->Prop} {s:Xg} {Q:Xc->Xg->Prop},A.handled=none->St s.heap->(∀h' e,Heap.ExtBut it s.heap h'->(∃o,h'.get? e=some o∧o.cls= .type "StopIteration")->E (.ref e) { s with heap:=h' })->Xu (X5 P w) A (QV (.ref it)) Q E s
 keep:∀h h',(∀c∈f,∀o,h.get? c=some o->h'.get? c=some o)->St h->St h'
structure ZA(z TI TO i1 i2:Addr)(f1 f2:List Addr):Prop where
 TIz:TI≠z
 TOz:TO≠z
 a1:∀c∈f1,c≠z∧c≠TO∧c≠i2
 a2:∀c∈f2,c≠z∧c≠TO∧c≠i1
section
variable {P:Qj}{w:Qy}{A:Qv}{E:Xc->Xg->Prop}{s:Xg}
theorem Zi7{T:Addr}{a b x:Xc}{k:Nat}{Q:Unit->Xg->Prop}(hT:Vv s.heap T a b)(h:∀h',h'.get? T=some { cls:=.type "tuple",data:=.seq ((#[a,b]:Array Xc).setIfInBounds k x) }->Bh T s.heap h'->Q () { s with heap:=h' }) :
  Xu (X5 P w) A (updateSeq T (·.setIfInBounds k x)) Q E s:=wpAny_updateSeq_pair hT h
theorem Zpx{z TI TO i1 i2:Addr}{f1 f2:List Addr}{S1 T1 S2 T2:Heap->Prop}{x y a b:Xc}{Q:Xc->Xg->Prop}(D:ZA z TI TO i1 i2 f1 f2)(G1:Gives P w i1 f1 S1 x T1)(G2:Gives P w i2 f2 S2 y T2)
  (hz:IsZip s.heap z TI TO .none) (hTI:Vv s.heap TI (.ref i1) (.ref i2)) (hTO:Vv s.heap TO a b) (h1:S1 s.heap) (h2:S2 s.heap)
  (hQ:∀h',IsZip h' z TI TO (JL s.heap.objs.size)->Vv h' TO x y->T1 h'->T2 h'->Vv h' s.heap.objs.size x y ->
   (∀ c o,c∉[z,TO,i1,i2]->s.heap.get? c=some o->h'.get? c=some o)->Q (.ref s.heap.objs.size) { s with heap:=h' }) :
  Xu (X5 P w) A (Va.«zip.__next__» ⟨[.ref z],[]⟩) (λfin s'=>∃v,fin= .done (.ret v)∧Q v s') E s:=by
 obtain⟨i1z,i1O,i12⟩:=D.a1 i1 G1.mem
 obtain⟨i2z,i2O,i21⟩:=D.a2 i2 G2.mem
 have r1:z∉f1∧TO∉f1∧i2∉f1:=⟨λm=>(D.a1 z m).1 rfl,λm=>(D.a1 TO m).2.1 rfl,λm=>(D.a1 i2 m).2.2 rfl⟩
 have r2:z∉f2∧TO∉f2∧i1∉f2:=⟨λm=>(D.a2 z m).1 rfl,λm=>(D.a2 TO m).2.1 rfl,λm=>(D.a2 i1 m).2.2 rfl⟩
 have st:∀{b:Addr} {h h':Heap} {f:List Addr},Bh b h h'->b∉f->∀c∈f,∀o,h.get? c=some o->h'.get? c=some o:=λsb hb c hc o e=>sb.extBut _ _ (λq=>hb (q▸hc)) e
 show Xu _ _ (field (.ref z) 2>>=_) _ _ _
 refine Xb (JZ hz rfl (x:=.bool false) rfl ?_)
 show Xu _ _ (field (.ref z) 3>>=_) _ _ _
 refine Xb (JZ hz rfl (x:=.ref TI) rfl (Xb (Bj hTI rfl ?_)))
 show Xu _ _ (BV (.ref z)>>=_) _ _ _
 refine Xb ?_
 unfold BV
 refine Xb (JZ hz rfl (x:=.none) rfl (Xi ?_))
 simp only[if_true]
 refine Xb (Uh (Xb (JZ hz rfl (x:=.ref TO) rfl (Xb (QX hz (by simp) λh3 z3 b3=>?_)))))
 replace z3:IsZip h3 z TI TO .ellipsis:=z3
 refine Xb ?_
 simp only[List.zipIdx_cons,List.zipIdx_nil,List.forIn_cons,List.forIn_nil]
 refine Xb (Xb (wpAny_onRaise ?_))
 show Xu _ _ (QV (.ref i1)>>=_) _ _ _
 refine Xb (G1.run (s:={ s with heap:=h3 }) (G1.keep _ _ (st b3 r1.1) h1) λh4 k4 b4=>Xi ?_)
 have o4:Vv h4 TO a b:=b4.extBut _ _ i1O.symm (b3.extBut _ _ D.TOz hTO)
 refine Xb (Bj o4 rfl (Xb (Zi7 (s:={ s with heap:=h4 }) o4 λh5 o5 b5=>Xb (wpAny_letGo (Xi ?_)))))
 replace o5:Vv h5 TO x b:=o5
 refine Xb (Xb (wpAny_onRaise ?_))
 show Xu _ _ (QV (.ref i2)>>=_) _ _ _
 refine Xb (G2.run (s:={ s with heap:=h5 }) (G2.keep _ _ (st b5 r2.2.1) (G2.keep _ _ (st b4 r2.2.2) (G2.keep _ _ (st b3 r2.1) h2))) λh6 k6 b6=>Xi ?_)
 have o6:Vv h6 TO x b:=b6.extBut _ _ i2O.symm o5
 refine Xb (Bj o6 rfl (Xb (Zi7 (s:={ s with heap:=h6 }) o6 λh7 o7 b7=>Xb (wpAny_letGo (Xi (Xi ?_))))))
 replace o7:Vv h7 TO x y:=o7
 refine Xb (Bj o7 rfl (Xb (wpAny_newTuple ?_)))
 have sz:h7.objs.size=s.heap.objs.size:=by rw[b7.1,b6.1,b5.1,b4.1,b3.1]
 have z7:IsZip h7 z TI TO .ellipsis:=b7.extBut _ _ D.TOz.symm (b6.extBut _ _ i2z.symm (b5.extBut _ _ D.TOz.symm (b4.extBut _ _ i1z.symm z3)))
 have t1:T1 h7:=G1.keep' _ _ (st b7 r1.2.1) (G1.keep' _ _ (st b6 r1.2.2) (G1.keep' _ _ (st b5 r1.2.1) k4))
 have t2:T2 h7:=G2.keep' _ _ (st b7 r2.2.1) k6
 have old:∀c o,c∉[z,TO,i1,i2]->s.heap.get? c=some o->h7.get? c=some o:=λc o n e=>by
  simp only[Xp,U3,or_false,not_or]at n
  exact b7.extBut _ _ n.2.1 (b6.extBut _ _ n.2.2.2 (b5.extBut _ _ n.2.1 (b4.extBut _ _ n.2.2.1 (b3.extBut _ _ n.1 e))))
 show Xu _ _ (Builtin.SmallTypes.ownedTupleHandOut (.ref z) (.ref h7.objs.size)>>=_) _ _ _
 refine Xb ?_
 unfold Builtin.SmallTypes.ownedTupleHandOut
 have zp:IsZip (h7.push { cls:=.type "tuple",data:=.seq #[x,y] }) z TI TO .ellipsis:=Xf _ z7
 refine Xb (QX zp (by simp) λh8 z8 b8=>?_)
 replace z8:IsZip h8 z TI TO (JL h7.objs.size):=z8
 refine QX z8 (by simp) λh9 z9 b9=>?_
 replace z9:IsZip h9 z TI TO (JL h7.objs.size):=z9
 have up:∀c o,c≠z->h7.get? c=some o->h9.get? c=some o:=λc o n e=>b9.extBut _ _ n (b8.extBut _ _ n (Xf _ e))
 have nz:h7.objs.size≠z:=Q3 (Xx z7)
 have p9:Vv h9 h7.objs.size x y:=b9.extBut _ _ nz (b8.extBut _ _ nz (Xv _ rfl))
 refine Xi ⟨_,rfl,?_⟩
 show Q (.ref h7.objs.size) _
 rw[sz]at z9 p9⊢
 exact hQ h9 z9 (up _ _ D.TOz o7) (G1.keep' _ _ (λc hc o e=>up c o (λq=>r1.1 (q▸hc)) e) t1) (G2.keep' _ _ (λc hc o e=>up c o (λq=>r2.1 (q▸hc)) e) t2) p9 λc o n e=>up c o (λq=>n (by simp[q])) (old c o n e)
theorem Zwc{z TI TO i1 i2:Addr}{f1 f2:List Addr}{S1 T1 S2:Heap->Prop}{a b:Xc}{Q:Fin->Xg->Prop}(hh:A.handled=none)(D:ZA z TI TO i1 i2 f1 f2)(g1:Zh8 P w i1 f1 S1∨(∃x,Gives P w i1 f1 S1 x T1)∧Zh8 P w i2 f2 S2)
  (hz:IsZip s.heap z TI TO .none) (hTI:Vv s.heap TI (.ref i1) (.ref i2)) (hTO:Vv s.heap TO a b) (h1:S1 s.heap) (h2:S2 s.heap)
  (hE:∀h' e,(∀c o,c∉[z,TO,i1,i2]->s.heap.get? c=some o->h'.get? c=some o)->(∃o,h'.get? e=some o∧o.cls= .type "StopIteration")->E (.ref e) { s with heap:=h' }) :
  Xu (X5 P w) A (Va.«zip.__next__» ⟨[.ref z],[]⟩) Q E s:=by
 have r1:z∉f1∧TO∉f1∧i2∉f1:=⟨λm=>(D.a1 z m).1 rfl,λm=>(D.a1 TO m).2.1 rfl,λm=>(D.a1 i2 m).2.2 rfl⟩
 have r2:z∉f2∧TO∉f2∧i1∉f2:=⟨λm=>(D.a2 z m).1 rfl,λm=>(D.a2 TO m).2.1 rfl,λm=>(D.a2 i1 m).2.2 rfl⟩
 have st:∀{b:Addr} {h h':Heap} {f:List Addr},Bh b h h'->b∉f->∀c∈f,∀o,h.get? c=some o->h'.get? c=some o:=λsb hb c hc o e=>sb.extBut _ _ (λq=>hb (q▸hc)) e
 show Xu _ _ (field (.ref z) 2>>=_) _ _ _
 refine Xb (JZ hz rfl (x:=.bool false) rfl ?_)
 show Xu _ _ (field (.ref z) 3>>=_) _ _ _
 refine Xb (JZ hz rfl (x:=.ref TI) rfl (Xb (Bj hTI rfl ?_)))
 show Xu _ _ (BV (.ref z)>>=_) _ _ _
 refine Xb ?_
 unfold BV
 refine Xb (JZ hz rfl (x:=.none) rfl (Xi ?_))
 simp only[if_true]
 refine Xb (Uh (Xb (JZ hz rfl (x:=.ref TO) rfl (Xb (QX hz (by simp) λh3 z3 b3=>?_)))))
 replace z3:IsZip h3 z TI TO .ellipsis:=z3
 refine Xb ?_
 simp only[List.zipIdx_cons,List.zipIdx_nil,List.forIn_cons,List.forIn_nil]
 refine Xb (Xb (wpAny_onRaise ?_))
 show Xu _ _ (QV (.ref i1)>>=_) _ _ _
 rcases g1 with G1|⟨⟨x,G1⟩,G2⟩
 ·obtain⟨i1z,i1O,i12⟩:=D.a1 i1 G1.mem
  refine Xb (G1.run (s:={ s with heap:=h3 }) hh (G1.keep _ _ (st b3 r1.1) h1) λh4 e b4 he=>?_)
  obtain⟨oe,hoe,hce⟩:=he
  have z4:IsZip h4 z TI TO .ellipsis:=b4 _ _ i1z.symm z3
  have ez:e≠z:=λq=>by subst q;rw[z4]at hoe;cases hoe;simp at hce
  refine QX z4 (by simp) λh5 _ b5=>hE h5 e (λc o n q=>?_) ⟨oe,b5.extBut _ _ ez hoe,hce⟩
  simp only[Xp,U3,or_false,not_or]at n
  exact b5.extBut _ _ n.1 (b4 _ _ n.2.2.1 (b3.extBut _ _ n.1 q))
 ·obtain⟨i1z,i1O,i12⟩:=D.a1 i1 G1.mem
  obtain⟨i2z,i2O,i21⟩:=D.a2 i2 G2.mem
  refine Xb (G1.run (s:={ s with heap:=h3 }) (G1.keep _ _ (st b3 r1.1) h1) λh4 k4 b4=>Xi ?_)
  have o4:Vv h4 TO a b:=b4.extBut _ _ i1O.symm (b3.extBut _ _ D.TOz hTO)
  refine Xb (Bj o4 rfl (Xb (Zi7 (s:={ s with heap:=h4 }) o4 λh5 o5 b5=>Xb (wpAny_letGo (Xi ?_)))))
  refine Xb (Xb (wpAny_onRaise ?_))
  show Xu _ _ (QV (.ref i2)>>=_) _ _ _
  refine Xb (G2.run (s:={ s with heap:=h5 }) hh (G2.keep _ _ (st b5 r2.2.1) (G2.keep _ _ (st b4 r2.2.2) (G2.keep _ _ (st b3 r2.1) h2))) λh6 e b6 he=>?_)
  obtain⟨oe,hoe,hce⟩:=he
  have z6:IsZip h6 z TI TO .ellipsis:=b6 _ _ i2z.symm (b5.extBut _ _ D.TOz.symm (b4.extBut _ _ i1z.symm z3))
  have ez:e≠z:=λq=>by subst q;rw[z6]at hoe;cases hoe;simp at hce
  refine QX z6 (by simp) λh7 _ b7=>hE h7 e (λc o n q=>?_) ⟨oe,b7.extBut _ _ ez hoe,hce⟩
  simp only[Xp,U3,or_false,not_or]at n
  exact b7.extBut _ _ n.1 (b6 _ _ n.2.2.2 (b5.extBut _ _ n.2.1 (b4.extBut _ _ n.2.2.1 (b3.extBut _ _ n.1 q))))
theorem Zn2{z TI TO i1 i2:Addr}{f1 f2:List Addr}{S1 T1 S2 T2:Heap->Prop}{x y a b:Xc}{Q:Option Xc->Xg->Prop}(D:ZA z TI TO i1 i2 f1 f2)(G1:Gives P w i1 f1 S1 x T1)(G2:Gives P w i2 f2 S2 y T2)
  (hz:IsZip s.heap z TI TO .none) (hTI:Vv s.heap TI (.ref i1) (.ref i2)) (hTO:Vv s.heap TO a b) (h1:S1 s.heap) (h2:S2 s.heap)
  (hQ:∀h',IsZip h' z TI TO (JL s.heap.objs.size)->Vv h' TO x y->T1 h'->T2 h'->Vv h' s.heap.objs.size x y ->
   (∀ c o,c∉[z,TO,i1,i2]->s.heap.get? c=some o->h'.get? c=some o)->Q (some (.ref s.heap.objs.size)) { s with heap:=h' }):Xu (X5 P w) A (Ua (.ref z)) Q E s:=by
 have hT:s.TypeIs (.ref z) "zip" :=⟨_,hz,rfl⟩
 unfold Ua
 exact Xb (wpAny_attempt (JX (name:=Ub "__next__") hT F.slot_zip_next (JN F.slot_zip_next hT F.entry_zip_next (Zpx D G1 G2 hz hTI hTO h1 h2 λh' a1 a2 a3 a4 a5 a6=>Xi (hQ h' a1 a2 a3 a4 a5 a6)) (F.args_zip_next_1 _))))
theorem Zsq{z TI TO i1 i2:Addr}{f1 f2:List Addr}{S1 T1 S2:Heap->Prop}{a b:Xc}{Q:Option Xc->Xg->Prop}(hh:A.handled=none)(D:ZA z TI TO i1 i2 f1 f2)(g1:Zh8 P w i1 f1 S1∨(∃x,Gives P w i1 f1 S1 x T1)∧Zh8 P w i2 f2 S2)
  (hz:IsZip s.heap z TI TO .none) (hTI:Vv s.heap TI (.ref i1) (.ref i2)) (hTO:Vv s.heap TO a b) (h1:S1 s.heap) (h2:S2 s.heap)
  (hQ:∀h',(∀c o,c∉[z,TO,i1,i2]->s.heap.get? c=some o->h'.get? c=some o)->Q none { s with heap:=h' }):Xu (X5 P w) A (Ua (.ref z)) Q E s:=by
 have hT:s.TypeIs (.ref z) "zip" :=⟨_,hz,rfl⟩
 unfold Ua
 refine Xb (wpAny_attempt (JX (name:=Ub "__next__") hT F.slot_zip_next (JN F.slot_zip_next hT F.entry_zip_next (Zwc hh D g1 hz hTI hTO h1 h2 λh' e hk he=>?_) (F.args_zip_next_1 _))))
 obtain⟨o,ho,hc⟩:=he
 exact Xb (wpAny_isInstance (T :="StopIteration") (b:=true) ⟨o,ho,hc⟩ isSubtype_stop (Xi (hQ _ hk)))
theorem Zrb{it t:Addr}{i:Nat}{items:Array Xc}{x:Xc}(hx:items[i]? =some x):Gives P w it [it,t] (λh=>IsTupIter h it t i∧IsTup h t items) x (λh=>IsTupIter h it t (i+1)) where
 mem:=by simp
 run:=fun{A E s Q} ⟨hit,ht⟩ hQ=>by
  obtain⟨o,ho,hc,hd⟩:=id hit
  obtain⟨ol,hol,_,nl,hdl⟩:=ht
  unfold QV
  refine Xb (JX (name:=Ub "__next__") hit.typeIs slot_tupleiter_next (JN slot_tupleiter_next hit.typeIs entry_tupleiter_next ?_ (args_tupleiter_next _)))
  show Xu _ _ (field (.ref it) 0>>=_) _ _ s
  refine Xb (JZ ho hd (x:=.ref t) rfl ?_)
  show Xu _ _ (if(XX t==QD)=true then _ else _) _ _ s
  rw[if_neg (show¬((XX t==QD)=true)from XH)]
  show Xu _ _ (field (.ref it) 1>>=_) _ _ s
  refine Xb (JZ ho hd (x:=.int i 0) rfl ?_)
  show Xu _ _ (seqItems? (.ref t)>>=_) _ _ s
  refine Xb (Bj hol hdl ?_)
  simp only[QL,hx]
  refine Xb (wpAny_setField ho hd (by simp) (Xi ⟨x,rfl,Xi (hQ _ ?_ (JC ..))⟩))
  exact⟨_,V4 _ ho (Obj.isFreed_of_fields (Obj.data_mapFields hd _)),(Obj.cls_mapFields ..).trans hc,by rw[Obj.data_mapFields hd];simp[JL]⟩
 keep:=λh h' k ⟨⟨o,a1,a2⟩,⟨o',b1,b2⟩⟩=>⟨⟨o,k it (by simp) o a1,a2⟩,⟨o',k t (by simp) o' b1,b2⟩⟩
 keep':=λh h' k ⟨o,a1,a2⟩=>⟨o,k it (by simp) o a1,a2⟩
theorem Zvo{it t:Addr}{i:Nat}{items:Array Xc}(hx:items[i]? =none):Zh8 P w it [it,t] (λh=>IsTupIter h it t i∧IsTup h t items) where
 mem:=by simp
 run:=fun{A E s Q} hh ⟨hit,ht⟩ hE=>by
  obtain⟨o,ho,hc,hd⟩:=id hit
  obtain⟨ol,hol,_,nl,hdl⟩:=ht
  unfold QV
  refine Xb (JX (name:=Ub "__next__") hit.typeIs slot_tupleiter_next (JN slot_tupleiter_next hit.typeIs entry_tupleiter_next ?_ (args_tupleiter_next _)))
  show Xu _ _ (field (.ref it) 0>>=_) _ _ s
  refine Xb (JZ ho hd (x:=.ref t) rfl ?_)
  show Xu _ _ (if(XX t==QD)=true then _ else _) _ _ s
  rw[if_neg (show¬((XX t==QD)=true)from XH)]
  show Xu _ _ (field (.ref it) 1>>=_) _ _ s
  refine Xb (JZ ho hd (x:=.int i 0) rfl ?_)
  show Xu _ _ (seqItems? (.ref t)>>=_) _ _ s
  refine Xb (Bj hol hdl ?_)
  simp only[QL,hx]
  refine Xb (Uh (Xb (wpAny_setField ho hd (by simp) ?_)))
  show Xu _ _ (newExc (.type "StopIteration") []>>=_) _ _ _
  refine Xb ?_
  simp only[newExc,newTuple]
  refine Xb (JD ?_ (by size_fits))
  refine Xb (m:=U6 _ _) (wpAny_of_eq (a:=QD) (by first|rfl|(simp only[U6];rfl)) ?_)
  refine JD ?_ (by size_fits)
  simp only[raiseNew]
  refine Xb (wpAny_handled ?_)
  first|rw[show A.in1.handled=none from hh]|rw[hh]
  exact Xb (Xi (wpAny_throw (hE _ _ (((JC ..).extBut.push _).push _) ⟨_,Xv _ rfl,rfl⟩)))
 keep:=λh h' k ⟨⟨o,a1,a2⟩,⟨o',b1,b2⟩⟩=>⟨⟨o,k it (by simp) o a1,a2⟩,⟨o',k t (by simp) o' b1,b2⟩⟩
end
noncomputable abbrev zT1(h:Heap)(a:Addr):Heap:=h.push { cls:=.type "tuple_iterator",data:=.fields #[.ref a,.int 0 0] }
noncomputable abbrev zT2(h:Heap)(a b:Addr):Heap:=(zT1 h a).push { cls:=.type "tuple_iterator",data:=.fields #[.ref b,.int 0 0] }
noncomputable abbrev zT3(h:Heap)(a b:Addr):Heap:=(zT2 h a b).push { cls:=.type "tuple",data:=.seq #[.ref h.objs.size,.ref (zT1 h a).objs.size] }
noncomputable abbrev zT4(h:Heap)(a b:Addr):Heap:=(zT3 h a b).push { cls:=.type "tuple",data:=.seq #[.none,.none] }
noncomputable abbrev zT5(h:Heap)(a b:Addr):Heap:=(zT4 h a b).push { cls:=.type "zip",data:=.fields #[.none,.bool false,.bool false,.ref (zT2 h a b).objs.size,.ref (zT3 h a b).objs.size] }
theorem Zvp(a b:Addr)(xs ys:Array Xc) :
  Meets (Va.«zip.__new__» ⟨[.type "zip",.ref a,.ref b],[]⟩) (λ_ R s=>IsTup s.heap a xs∧IsTup s.heap b ys∧R (.ok (.ret (.ref (zT4 s.heap a b).objs.size))) { s with heap:=zT5 s.heap a b }) :=
 .of_wp λprog w A R s h=>by
  obtain⟨hp,g,d,tk,os⟩:=s
  obtain⟨h1,h2,h⟩:=h
  have hsub:=sub_zip
  have hL1:IsTup (Xg.heap ⟨hp,g,d,tk,os⟩) a xs:=h1
  have hL2:IsTup (Xg.heap ⟨hp.push { cls:=.type "tuple_iterator",data:=.fields #[.ref a,.int 0 0] },g,d,tk,os⟩) b ys:=h2.push _
  wp_walk using iter_tuple hL1,iter_tuple hL2
  exact⟨_,rfl,h⟩
section
variable {P:Qj}{w:Qy}{A:Qv}{E:Xc->Xg->Prop}{s:Xg}
theorem Zrv{a b:Addr}{xs ys:Array Xc}{Q:Xc->Xg->Prop}(h1:IsTup s.heap a xs)(h2:IsTup s.heap b ys)
  (h:∀h' n,n=s.heap.objs.size->IsZip h' (n+4) (n+2) (n+3) .none->Vv h' (n+2) (.ref n) (.ref (n+1))->Vv h' (n+3) .none .none->IsTupIter h' n a 0->IsTupIter h' (n+1) b 0 ->
   (∀ c o,s.heap.get? c=some o->h'.get? c=some o)->Q (.ref (n+4)) { s with heap:=h' }):Xu (X5 P w) A (call (.type "zip") [.ref a,.ref b]) Q E s:=by
 refine callType_new F.called_zip (by decide) (F.typeCall_zip_2 _ _) (F.newCall_zip_2 _ _) (λobj=>F.args_object_init_3 obj _ _) F.entry_zip_new (Zvp a b xs ys) ⟨h1,h2,?_⟩
 have e1:(zT1 s.heap a).objs.size=s.heap.objs.size+1:=Qx ..
 have e2:(zT2 s.heap a b).objs.size=s.heap.objs.size+2:=by rw[Qx,e1]
 have e3:(zT3 s.heap a b).objs.size=s.heap.objs.size+3:=by rw[Qx,e2]
 have e4:(zT4 s.heap a b).objs.size=s.heap.objs.size+4:=by rw[Qx,e3]
 have up:∀{c o},(zT1 s.heap a).get? c=some o->(zT5 s.heap a b).get? c=some o:=λx=>Xf _ (Xf _ (Xf _ (Xf _ x)))
 have p5:(zT5 s.heap a b).get? (zT4 s.heap a b).objs.size=some _:=Xv _ rfl
 have p4:(zT5 s.heap a b).get? (zT3 s.heap a b).objs.size=some _:=Xf _ (Xv _ rfl)
 have p3:(zT5 s.heap a b).get? (zT2 s.heap a b).objs.size=some _:=Xf _ (Xf _ (Xv _ rfl))
 have p2:(zT5 s.heap a b).get? (zT1 s.heap a).objs.size=some _:=Xf _ (Xf _ (Xf _ (Xv _ rfl)))
 have p1:(zT5 s.heap a b).get? s.heap.objs.size=some _:=up (Xv _ rfl)
 show _∧_
 rw[e2,e3,e4]at p5
 rw[e1,e2]at p3
 rw[e3]at p4
 rw[e1]at p2
 rw[e4]
 exact⟨⟨_,p5,rfl⟩,h _ _ rfl p5 p3 p4 ⟨_,p1,rfl,rfl⟩ ⟨_,p2,rfl,rfl⟩ λc o x=>up (Xf _ x)⟩
end
theorem nad{c d:Nat}(h:c<d∨d<c):c≠d:=by omega
theorem ZA.new{n a b:Nat}(h1:a<n)(h2:b<n):ZA (n+4) (n+2) (n+3) n (n+1) [n,a] [n+1,b] where
 TIz:=nad (by omega)
 TOz:=nad (by omega)
 a1:=λc hc=>by
  simp only[Xp,U3,or_false]at hc
  rcases hc with rfl|rfl
  ·exact⟨nad (by omega),nad (by omega),nad (by omega)⟩
  ·exact⟨nad (by omega),nad (by omega),nad (by omega)⟩
 a2:=λc hc=>by
  simp only[Xp,U3,or_false]at hc
  rcases hc with rfl|rfl
  ·exact⟨nad (by omega),nad (by omega),nad (by omega)⟩
  ·exact⟨nad (by omega),nad (by omega),nad (by omega)⟩
theorem ZA.new2(n:Nat):(n+2:Nat)≠n+3∧(n+2:Nat)≠n∧(n+2:Nat)≠n+1:=⟨by omega,by omega,by omega⟩
section
variable {X:Cx}{io:List Nat}{p c:Bool}{a b:Expr}{mr:MAt}
noncomputable def Z6m(ds:List Xa):Option (List Xa):=match ds with|[.list as,.list bs]=>some (Zn4 as bs)|[.tuple as,.tuple bs]=>some (Zn4 as bs)|_=>none
noncomputable def Zfo(a:FA):FI:=λδ=>(a δ).bind λp=>(Z6m (OT.datas p.1)).bind λds=>some (ds,p.2)
end
variable {G:Xd}
section
variable {X:Cx}{io:List Nat}{p c:Bool}{a b e:Expr}{mr:MAt}{ra:FA}{i:Nat}
noncomputable def isFn(y:Str)(d:Xa):Bool:=match d with| .dict [(.str x,.bool true)]=>decide (x=y)|_=>false
end
noncomputable def Ybk(K:Xd)(l:Addr):It :=
 ⟨λi H=>∃xs x,SqL K H l xs∧xs[i]? =some x,
   λi H v H'=>∃p x,H p=none∧v= .ref p∧H'=upd H p (.tup [.int i,x])∧∀xs,SqL K H l xs->xs[i]? =some x,
   λi H=>∃xs,SqL K H l xs∧xs.length≤i⟩
noncomputable def StE(z it l:Addr)(i:Nat)(h:Heap):Prop:=(∃old,IsEnum h z it (i:Int) old)∧h.IsListIter it l i
theorem Zrs{P:Qj}{w:Qy}{K:Xd}{es:List Expr}{kk:Nat}{pos:Pos}{z it l:Addr}(hne:z≠it):Turn P w K (.Tuple es kk pos) (Ybk K l) [z,it] z (StE z it l) where
 mem:=.head _
 obj:=λi h st b hb=>by
  obtain⟨⟨old,s1⟩,o4,e4,_,d4⟩:=st
  rcases Xp.mp hb with rfl|hb
  ·exact⟨_,s1,λv q=>by cases q⟩
  ·rcases Xj.mp hb with rfl
   exact⟨_,e4,λv q=>by rw[d4]at q;cases q⟩
 keep:=λi h h' st k=>by
  obtain⟨⟨old,s1⟩,s4⟩:=st
  exact⟨⟨old,k z (.head _) _ s1⟩,s4.at λo e=>k it (.tail _ (.head _)) o e⟩
 item:=by
  intro X hP hw hK hc i pins s σ H E I hf st hg
  subst hP hw hK
  obtain⟨⟨old,s1⟩,s4⟩:=st
  obtain⟨xs,x,hx,ex⟩:=hg
  obtain⟨its,rx,px,hzx⟩:=I.list hx
  obtain⟨u,hu,ru⟩:=rx.get ex
  refine wpAny_pyNext_enum_item s1 s4 px.isList (by simpa using hu) hne λh' g1 g2 g3 g4 g5=>?_
  refine⟨_,rfl,wpAny_letOwnedTupleGo_enum (s:={ s with heap:=h',toks:=s.toks+1 }) g1 λh2 z2 sb=>?_⟩
  have hTz:s.heap.objs.size≠z:=Q3 (Xx s1)
  have up:∀c o,c≠z->h'.get? c=some o->h2.get? c=some o:=λc o n e=>(sb.2 c n).trans e
  have kp:∀b o,b∉[z,it]->s.heap.get? b=some o->h2.get? b=some o:=λb o n e=>by
   have n1:b≠z:=λq=>n (q▸ .head _)
   exact up b o n1 (g5 b o n1 (λq=>n (q▸ .tail _ (.head _))) e)
  have t5:=up _ _ hTz g3
  have g2':h2.IsListIter it l (i+1):=g2.at λo e=>up _ o (Vr hne) e
  have I2:Inv X pins σ (upd H s.heap.objs.size (.tup [.int i,x])) { s with heap:=h2,toks:=s.toks+1 }:=by
   refine(I.tok (s.toks+1)).turnTup (ch:=[z,it]) (its:=[.int i s.toks,u]) (λb hb=>hf b hb) kp (λb hb=>?_) (Qp _) Zxl (.cons ⟨_,rfl⟩ (.cons ru .nil)) ⟨_,t5,rfl,0,rfl⟩
   rcases Xp.mp hb with rfl|hb
   ·exact⟨_,z2⟩
   ·rcases Xj.mp hb with rfl
    obtain⟨o4,e4,_⟩:=g2'
    exact⟨_,e4⟩
  refine⟨.ref s.heap.objs.size,_,I2,rfl,⟨_,x,I.fresh,rfl,rfl,λys hy=>by rw[I.list_inj hy hx];exact ex⟩,⟨⟨_,z2⟩,g2'⟩,λb hb=>?_⟩
  have:b≠s.heap.objs.size:=by
   rcases Xp.mp hb with rfl|hb
   ·exact XQ (Xx s1)
   ·rcases Xj.mp hb with rfl
    obtain⟨o4,e4,_⟩:=s4
    exact XQ (Xx e4)
  rw[Zz this];exact(hf b hb).1
 done:=by
  intro X hP hw hK hc i pins s σ H E I hf st hg
  subst hP hw hK
  obtain⟨⟨old,s1⟩,s4⟩:=st
  obtain⟨xs,hx,he⟩:=hg
  obtain⟨its,rx,px,hzx⟩:=I.list hx
  have l1:=rx.length
  refine wpAny_pyNext_enum_end (I.ok.hd hc) s1 s4 px.isList (by simp;omega) λh' k=>⟨rfl,I.turnAll (ch:=[it]) (λb hb=>hf b (.tail _ hb)) λb o n e=>k b o (λq=>n (q▸ .head _)) e⟩
 self:=λ_ _ _ _ _ st h=>by
  obtain⟨⟨old,s1⟩,_⟩:=st
  exact wpAny_pyIter_enum s1 h
noncomputable def Yd1(K:Xd)(ta:TA):TI:=λσ H R=>ta σ H λvs H1=>∃l,vs=[.ref l]∧(∃xs,SqL K H1 l xs)∧R (Ybk K l) H1
theorem Zzp{X:Cx}{K:Xd}{a:Expr}{ta:TA}{p pos pt:Pos}{es:List Expr}{kk:Nat}(hK:X.K=K)(hg:Gl X "enumerate")(hm:X.mg "enumerate"=none)(hv:X8 "enumerate"=some (.type "enumerate"))(ha:PA X [a] ta)
  (he:Xn [a] X.env=(false,eval a X.env) :: Xn [] X.env:=by rfl) (hpl:(JP pos (Xn [] X.env)).any (·.1)=false:=by rfl) :
  PI X (.Tuple es kk pt) (.Call (.Name "enumerate" p) [a] [] pos) (Yd1 K ta):=by
 subst hK
 intro pins s σ H R I h
 refine Ba (Zct I hg hm hv ?_ (by decide) (by decide))
 refine JH (thn (ha pos pins s σ H _ I h) λus s1 q=>?_) he hpl
 obtain⟨vs,H1,I1,r1,l,e1,⟨xs,hx⟩,q⟩:=q
 subst e1
 obtain⟨u,rfl,ru⟩:=vals1 r1
 cases(show u=XX l from ru)
 obtain⟨its,rx,px,hzx⟩:=I1.list hx
 refine call_enumerate_list px.isList λh' g1 g2 g3 g4=>?_
 have I2:Inv X pins σ H1 { s1 with heap:=h' }:=I1.kept (t':=s1.toks) g4
 refine wpAny_pyIter_enum (s:={ s1 with heap:=h' }) g1 ?_
 refine⟨_,[_,_],StE _ _ _,_,H1,rfl,I2,Zrs (Q3 (Qz _)),⟨⟨_,g1⟩,g2⟩,λb hb=>?_,q⟩
 have hb':s1.heap.objs.size≤b:=by
  rcases Xp.mp hb with rfl|hb
  ·exact Nat.le_succ _
  ·rcases Xj.mp hb with rfl
   exact Qp _
 exact I1.fpOk hb' (I1.hok.fresh hb')
noncomputable def Zip(as:List Xa):List Xa:=as.zipIdx.map λp=>.tuple [.int p.2,p.1]
theorem Zqe{as:List Xa}{i:Nat}{d:Xa}(h:(Zip as)[i]? =some d):∃x,as[i]? =some x∧d= .tuple [.int i,x]:=by
 unfold Zip at h
 rw[Xl,List.getElem?_zipIdx]at h
 cases e:as[i]? with
 | none=>rw[e]at h;cases h
 | some x=>
  rw[e]at h
  cases h
  exact⟨x,rfl,by rw[Vd]⟩
theorem Zpa{as:List Xa}{i:Nat}(h:(Zip as)[i]? =none):as.length≤i:=by
 have:=JB.mp h
 unfold Zip at this
 simpa using this
section
variable {X:Cx}{io:List Nat}{p c:Bool}{a:Expr}{mr:MAt}{ra:FA}
noncomputable def iEn(mr:MAt):MIt:=λδ K=>mr δ λrs δ'=>match OT.datas rs with|[.list as]=>K (Zip as) δ'|_=>False
theorem Z1t{p' pos pt:Pos}{es:List Expr}{kk:Nat}(hg:Gl X "enumerate")(hm:X.mg "enumerate"=none)(hv:X8 "enumerate"=some (.type "enumerate"))(ha:MA X io p c [a] mr)
  (he:Xn [a] X.env=(false,eval a X.env) :: Xn [] X.env:=by rfl) (hpl:(JP pos (Xn [] X.env)).any (·.1)=false:=by rfl):MI X io p c (.Tuple es kk pt) (.Call (.Name "enumerate" p') [a] [] pos) (iEn mr):=by
 obtain⟨_,A,s⟩:=ha
 refine⟨_,Zzp rfl hg hm hv A he hpl,λC H σ δ fp ex K' Q R h kk=>s C H σ δ fp ex _ _ R h λH1 vs rs δ1 fp1 new r1 h1=>?_⟩
 have q:=r1.das R
 generalize OT.datas rs=ds at q h1
 split at h1
 case h_2=>exact h1.elim
 rename_i as
 cases q with
 | cons q1 q2=>
  cases q2
  have R1:=r1.base
  obtain⟨l1,xs,rfl,k1⟩:=R1.keptList q1
  have e1:=k1 H1 λ_ _ e _=>e
  refine⟨l1,rfl,⟨_,e1.1⟩,kk _ H1 _ δ1 fp1 R1 r1.stp (λH' kp i=>?_) h1⟩
  obtain⟨s1,d1⟩:=k1 H' kp
  refine⟨λd hd=>?_,λhd=>?_⟩
  ·obtain⟨x,hx,rfl⟩:=Zqe hd
   obtain⟨u,hu,qu⟩:=d1.get hx
   refine⟨⟨_,u,s1,hu⟩,λv H'' hyl=>?_⟩
   obtain⟨t,u',ht,rfl,rfl,hu'⟩:=hyl
   have eu:=hu' _ s1
   rw[hu]at eu
   cases eu
   exact⟨Z5 ht _,.tup Z8 (.cons (.int _) (.cons (qu.same (Z5 ht _)) .nil))⟩
  ·exact⟨_,s1,by rw[d1.length];exact Zpa hd⟩
noncomputable def Zoj(a:FA):FI:=λδ=>(a δ).bind λp=>match OT.datas p.1 with|[.list as]=>some (Zip as,p.2)|_=>none
theorem Zy0{tg e:Expr}(h:MI X io p c tg e (iEn (o2 ra))):MI X io p c tg e (o2 (Zoj ra)):=h.weak λδ K h=>by
 obtain⟨r,δ',h,k⟩:=h
 obtain⟨⟨x,δ1⟩,h1,h⟩:=bs h
 dsimp only at h
 split at h
 ·rename_i q
  injection h with h
  injection h with e1 e2
  subst e1 e2
  refine⟨x,_,h1,?_⟩
  dsimp only
  rw[q];exact k
 ·cases h
end
variable {G:Xd}
theorem Z42{α:Type}{p:α->Prop}{a b c d:α}(h1:p a)(h2:p b)(h3:p c)(h4:p d):∀x∈[a,b,c,d],p x:=by
 intro x hx
 rcases Xp.mp hx with rfl|hx
 ·exact h1
 rcases Xp.mp hx with rfl|hx
 ·exact h2
 rcases Xp.mp hx with rfl|hx
 ·exact h3
 rcases Xj.mp hx with rfl
 exact h4
theorem Yae{α:Type}{p:α->Prop}{a b c d e:α}(h1:p a)(h2:p b)(h3:p c)(h4:p d)(h5:p e):∀x∈[a,b,c,d,e],p x:=λx hx=>(Xp.mp hx).elim (λq=>q▸h1) (Z42 h2 h3 h4 h5 x)
theorem no4{α:Type}{a b c d x:α}(h1:x≠a)(h2:x≠b)(h3:x≠c)(h4:x≠d):x∉[a,b,c,d]:=λhx=>Z42 (p:=λy=>x≠y) h1 h2 h3 h4 x hx rfl
noncomputable def SqB(K:Xd)(t:Bool)(H:Hp)(a:Addr)(xs:List V):Prop:=match t with|true=>H a=some (.tup xs)|false=>SqL K H a xs
noncomputable def IsB(t:Bool)(h:Heap)(a:Addr)(its:Array Xc):Prop:=match t with|true=>IsTup h a its|false=>h.IsList a its
noncomputable def ItB(t:Bool)(h:Heap)(it a:Addr)(i:Nat):Prop:=match t with|true=>IsTupIter h it a i|false=>h.IsListIter it a i
theorem ItB.at{t:Bool}{h h':Heap}{it a:Addr}{i:Nat}(x:ItB t h it a i)(k:∀o,h.get? it=some o->h'.get? it=some o):ItB t h' it a i:=by
 cases t with
 | false=>exact Heap.IsListIter.at x k
 | true=>
  obtain⟨o,ho,r⟩:=x
  exact⟨o,k o ho,r⟩
theorem ItB.obj{t:Bool}{h:Heap}{it a:Addr}{i:Nat}(x:ItB t h it a i):∃o,h.get? it=some o∧∀v,o.data≠ .cell v:=by
 cases t with
 | false=>
  obtain⟨o,ho,_,d⟩:=x
  exact⟨o,ho,λv q=>by rw[d]at q;cases q⟩
 | true=>
  obtain⟨o,ho,_,d⟩:=x
  exact⟨o,ho,λv q=>by rw[d]at q;cases q⟩
theorem IsB.lt{t:Bool}{h:Heap}{a:Addr}{its:Array Xc}(x:IsB t h a its):a<h.objs.size:=by
 cases t with
 | false=>
  obtain⟨o,ho,_⟩:=x
  exact Xx ho
 | true=>
  obtain⟨o,ho,_⟩:=x
  exact Xx ho
theorem SqB.its{X:Cx}{pins:List (Addr×Obj)}{σ:St}{H:Hp}{s:Xg}{t:Bool}{a:Addr}{xs:List V}(I:Inv X pins σ H s)(h:SqB X.K t H a xs):∃its:List Xc,Vals xs its∧IsB t s.heap a its.toArray:=by
 cases t with
 | false=>
  obtain⟨its,r,p,_⟩:=I.list h
  exact⟨its,r,p.isList⟩
 | true=>
  obtain⟨_,its,r,p⟩:=(show ObjOk X.prog X.w H s.heap a (.tup xs)from I.hok a _ h)
  exact⟨its,r,p⟩
theorem SqB.inj{X:Cx}{pins:List (Addr×Obj)}{σ:St}{H:Hp}{s:Xg}{t:Bool}{a:Addr}{xs ys:List V}(I:Inv X pins σ H s)(h:SqB X.K t H a xs)(k:SqB X.K t H a ys):xs=ys:=by
 cases t with
 | false=>exact I.list_inj h k
 | true=>
  have:=(show H a=some (.tup xs)from h).symm.trans k
  cases this
  rfl
section
variable {P:Qj}{w:Qy}
theorem Zq9{t:Bool}{it a:Addr}{i:Nat}{items:Array Xc}{x:Xc}(hx:items[i]? =some x):Gives P w it [it,a] (λh=>ItB t h it a i∧IsB t h a items) x (λh=>ItB t h it a (i+1)):=by
 cases t with
 | true=>exact Zrb hx
 | false=>
  exact⟨.head _,λst hQ=>wpAny_nextOf_list_item st.1 st.2 hx hQ,λh h' k st=>⟨Heap.IsListIter.at st.1 λo e=>k it (.head _) o e,by
   obtain⟨o,ho,r⟩:=st.2
   exact⟨o,k a (.tail _ (.head _)) o ho,r⟩⟩,λh h' k st=>Heap.IsListIter.at st λo e=>k it (.head _) o e⟩
theorem Z35{t:Bool}{it a:Addr}{i:Nat}{items:Array Xc}(hx:items[i]? =none):Zh8 P w it [it,a] (λh=>ItB t h it a i∧IsB t h a items):=by
 cases t with
 | true=>exact Zvo hx
 | false=>
  exact⟨.head _,λhh st hE=>wpAny_nextOf_list_end hh st.1 st.2 hx hE,λh h' k st=>⟨Heap.IsListIter.at st.1 λo e=>k it (.head _) o e,by
   obtain⟨o,ho,r⟩:=st.2
   exact⟨o,k a (.tail _ (.head _)) o ho,r⟩⟩⟩
end
noncomputable def Yb9(K:Xd)(t:Bool)(a b:Addr):It :=
 ⟨λi H=>∃xs ys x y,SqB K t H a xs∧SqB K t H b ys∧xs[i]? =some x∧ys[i]? =some y,
   λi H v H'=>∃p x y,H p=none∧v= .ref p∧H'=upd H p (.tup [x,y])∧(∀xs,SqB K t H a xs->xs[i]? =some x)∧∀ys,SqB K t H b ys->ys[i]? =some y,
   λi H=>∃xs ys,SqB K t H a xs∧SqB K t H b ys∧(xs.length≤i∨ys.length≤i)⟩
noncomputable def Yb2(t:Bool)(z TI TO i1 i2 a b:Addr)(i:Nat)(h:Heap):Prop:=IsZip h z TI TO .none∧Vv h TI (.ref i1) (.ref i2)∧(∃x y,Vv h TO x y)∧ItB t h i1 a i∧ItB t h i2 b i
theorem Zsu{P:Qj}{w:Qy}{K:Xd}{es:List Expr}{kk:Nat}{pos:Pos}{t:Bool}{z TI TO i1 i2 a b:Addr}(D:ZA z TI TO i1 i2 [i1,a] [i2,b])(D2:TI≠TO∧TI≠i1∧TI≠i2):Turn P w K (.Tuple es kk pos) (Yb9 K t a b) [z,TI,TO,i1,i2] z (Yb2 t z TI TO i1 i2 a b) where
 mem:=.head _
 obj:=λi h st=>by
  obtain⟨s1,s2,⟨x,y,s3⟩,s4,s5⟩:=st
  exact Yae ⟨_,s1,λv q=>by cases q⟩ ⟨_,s2,λv q=>by cases q⟩ ⟨_,s3,λv q=>by cases q⟩ s4.obj s5.obj
 keep:=λi h h' st k=>by
  obtain⟨s1,s2,⟨x,y,s3⟩,s4,s5⟩:=st
  have m2:TI∈[z,TI,TO,i1,i2]:=.tail _ (.head _)
  have m3:TO∈[z,TI,TO,i1,i2]:=.tail _ (.tail _ (.head _))
  have m4:i1∈[z,TI,TO,i1,i2]:=.tail _ (.tail _ (.tail _ (.head _)))
  have m5:i2∈[z,TI,TO,i1,i2]:=.tail _ (.tail _ (.tail _ (.tail _ (.head _))))
  exact⟨k z (.head _) _ s1,k TI m2 _ s2,⟨x,y,k TO m3 _ s3⟩,s4.at (k i1 m4),s5.at (k i2 m5)⟩
 item:=by
  intro X hP hw hK hc i pins s σ H E I hf st hg
  subst hP hw hK
  obtain⟨s1,s2,⟨x0,y0,s3⟩,s4,s5⟩:=st
  obtain⟨xs,ys,x,y,hx,hy,ex,ey⟩:=hg
  obtain⟨its,rx,px⟩:=hx.its I
  obtain⟨its',ry,py⟩:=hy.its I
  obtain⟨u,hu,ru⟩:=rx.get ex
  obtain⟨u',hu',ru'⟩:=ry.get ey
  rw[←UV]at hu hu'
  refine Zn2 D (Zq9 hu) (Zq9 hu') s1 s2 s3 ⟨s4,px⟩ ⟨s5,py⟩ λh' g1 g2 g3 g4 g5 g6=>?_
  refine⟨_,rfl,wpAny_letOwnedTupleGo_zip (s:={ s with heap:=h' }) g1 λh2 z2 sb=>?_⟩
  have up:∀c o,c≠z->h'.get? c=some o->h2.get? c=some o:=λc o n e=>(sb.2 c n).trans e
  have kp:∀c o,c∉[z,TO,i1,i2]->s.heap.get? c=some o->h2.get? c=some o:=λc o n e=>up c o (λq=>n (q▸ .head _)) (g6 c o n e)
  have t5:Vv h2 s.heap.objs.size u u':=up _ _ (Q3 (Xx s1)) g5
  have i1z:=(D.a1 i1 (.head _)).1
  have i2z:=(D.a2 i2 (.head _)).1
  have n3:=g3.at (up i1 · i1z)
  have n4:=g4.at (up i2 · i2z)
  obtain⟨f1,f2,f3,f4,f5⟩:(Zhp X pins H z∧Zhp X pins H TI∧Zhp X pins H TO∧Zhp X pins H i1∧Zhp X pins H i2):=⟨hf _ (.head _),hf _ (.tail _ (.head _)),hf _ (.tail _ (.tail _ (.head _))),hf _ (.tail _ (.tail _ (.tail _ (.head _)))),hf _ (.tail _ (.tail _ (.tail _ (.tail _ (.head _)))))⟩
  have I2:Inv X pins σ (upd H s.heap.objs.size (.tup [x,y])) { s with heap:=h2 } :=
   I.turnTup (ch:=[z,TO,i1,i2]) (its:=[u,u']) (Z42 f1 f3 f4 f5) kp (Z42 ⟨_,z2⟩ ⟨_,up _ _ D.TOz g2⟩ (n3.obj.imp λ_ q=>q.1) (n4.obj.imp λ_ q=>q.1)) (Qp _) Zxl (.cons ru (.cons ru' .nil)) ⟨_,t5,rfl,0,rfl⟩
  have lt:∀{c:Addr} {o:Obj},s.heap.get? c=some o->Zhp X pins H c->upd H s.heap.objs.size (.tup [x,y]) c=none:=λe f=>by rw[Zz (XQ (Xx e))];exact f.1
  refine⟨.ref s.heap.objs.size,_,I2,rfl,⟨_,x,y,I.fresh,rfl,rfl,λzs hz=>by rw[hz.inj I hx];exact ex,λzs hz=>by rw[hz.inj I hy];exact ey⟩,⟨z2,kp TI _ (no4 D.TIz D2.1 D2.2.1 D2.2.2) s2,⟨_,_,up _ _ D.TOz g2⟩,n3,n4⟩,?_⟩
  obtain⟨o4,e4,_⟩:=s4.obj
  obtain⟨o5,e5,_⟩:=s5.obj
  exact Yae (lt s1 f1) (lt s2 f2) (lt s3 f3) (lt e4 f4) (lt e5 f5)
 done:=by
  intro X hP hw hK hc i pins s σ H E I hf st hg
  subst hP hw hK
  obtain⟨s1,s2,⟨x0,y0,s3⟩,s4,s5⟩:=st
  obtain⟨xs,ys,hx,hy,he⟩:=hg
  obtain⟨its,rx,px⟩:=hx.its I
  obtain⟨its',ry,py⟩:=hy.its I
  have l1:=rx.length
  have l2:=ry.length
  refine Zsq (I.ok.hd hc) D (S1:=λh=>ItB t h i1 a i∧IsB t h a its.toArray) (T1:=λh=>ItB t h i1 a (i+1)) (S2:=λh=>ItB t h i2 b i∧IsB t h b its'.toArray) ?_ s1 s2 s3 ⟨s4,px⟩ ⟨s5,py⟩ λh' k=>⟨rfl,I.turnAll (ch:=[z,TO,i1,i2]) (Z42 (hf _ (.head _)) (hf _ (.tail _ (.tail _ (.head _)))) (hf _ (.tail _ (.tail _ (.tail _ (.head _))))) (hf _ (.tail _ (.tail _ (.tail _ (.tail _ (.head _))))))) k⟩
  cases q:its.toArray[i]? with
  | none=>exact .inl (Z35 q)
  | some v=>
   refine .inr ⟨⟨v,Zq9 q⟩,Z35 ?_⟩
   have:=(V6.mp q).1
   rw[Qa]at this
   rw[Array.getElem?_eq_none_iff,Qa]
   omega
 self:=λ_ _ _ _ _ st h=>wpAny_pyIter_zip st.1 h
theorem Zsv{P:Qj}{w:Qy}{A:Qv}{E:Xc->Xg->Prop}{s:Xg}{t:Bool}{a b:Addr}{xs ys:Array Xc}{Q:Xc->Xg->Prop}(h1:IsB t s.heap a xs)(h2:IsB t s.heap b ys)
  (h:∀h' n,n=s.heap.objs.size->IsZip h' (n+4) (n+2) (n+3) .none->Vv h' (n+2) (.ref n) (.ref (n+1))->Vv h' (n+3) .none .none->ItB t h' n a 0->ItB t h' (n+1) b 0 ->
   (∀ c o,s.heap.get? c=some o->h'.get? c=some o)->Q (.ref (n+4)) { s with heap:=h' }):Xu (X5 P w) A (call (.type "zip") [.ref a,.ref b]) Q E s:=by
 cases t with
 | true=>exact Zrv h1 h2 h
 | false=>exact call_zip_2 h1 h2 λh' g1 g2 g3 g4 g5 _ g7=>h h' _ rfl g1 g2 g3 g4 g5 g7
noncomputable def Z92(K:Xd)(ta:TA):TI:=λσ H R=>ta σ H λvs H1=>∃t a b,vs=[.ref a,.ref b]∧(∃xs,SqB K t H1 a xs)∧(∃ys,SqB K t H1 b ys)∧R (Yb9 K t a b) H1
theorem Z0h{X:Cx}{K:Xd}{a b:Expr}{ta:TA}{p pos pt:Pos}{es:List Expr}{kk:Nat}(hK:X.K=K)(hg:Gl X "zip")(hm:X.mg "zip"=none)(hv:X8 "zip"=some (.type "zip"))(ha:PA X [a,b] ta)
  (he:Xn [a,b] X.env=(false,eval a X.env) :: Xn [b] X.env:=by rfl) (hpl:(JP pos (Xn [b] X.env)).any (·.1)=false:=by rfl) :
  PI X (.Tuple es kk pt) (.Call (.Name "zip" p) [a,b] [] pos) (Z92 K ta):=by
 subst hK
 intro pins s σ H R I h
 refine Ba (Zct I hg hm hv ?_ (by decide) (by decide))
 refine JH (thn (ha pos pins s σ H _ I h) λus s1 q=>?_) he hpl
 obtain⟨vs,H1,I1,r1,t,l1,l2,e1,⟨xs,hx⟩,⟨ys,hy⟩,q⟩:=q
 subst e1
 obtain⟨u,u',rfl,ru,ru'⟩:=vals2 r1
 cases(show u=XX l1 from ru)
 cases(show u'=XX l2 from ru')
 obtain⟨its,rx,px⟩:=hx.its I1
 obtain⟨its',ry,py⟩:=hy.its I1
 refine Zsv px py λh' n en g1 g2 g3 g4 g5 g7=>?_
 have I2:Inv X pins σ H1 { s1 with heap:=h' }:=I1.kept (t':=s1.toks) g7
 refine wpAny_pyIter_zip (s:={ s1 with heap:=h' }) g1 ?_
 refine⟨_,[_,_,_,_,_],Yb2 _ _ _ _ _ _ _ _,_,H1,rfl,I2,Zsu (ZA.new (en▸px.lt) (en▸py.lt)) (ZA.new2 n),⟨g1,g2,⟨_,_,g3⟩,g4,g5⟩,?_,q⟩
 subst en
 have ok:∀k:Nat,Zhp X pins H1 (s1.heap.objs.size+k):=λk=>I1.fpOk (Vs _ _) (I1.hok.fresh (Vs _ _))
 exact Yae (ok 4) (ok 2) (ok 3) (ok 0) (ok 1)
section
variable {X:Cx}{io:List Nat}{p c:Bool}{a b:Expr}{mr:MAt}{ra:FA}
noncomputable def Z72(t:Bool)(as:List Xa):Xa:=match t with|true=>.tuple as|false=>.list as
theorem Rel.keptSq{C:MC G}{H:Hp}{σ:St}{δ:Zh}{fp:Fp}{ex:Addr->Prop}{v:V}{t:Bool}{ds:List Xa}(R:Rel C io H σ δ fp ex)(q:Da G H (λa=>c=true->Lf C fp ex a) v (Z72 t ds)) :
  ∃a xs,v= .ref a∧∀H':Hp,(∀b o,H b=some o->(c=false∨¬Foot fp b)->H' b=some o)->SqB G t H' a xs∧Das G H' (λa=>c=true->(Lf C fp ex a∧H a≠none)) xs ds:=by
 cases t with
 | false=>exact R.keptList q
 | true=>
  generalize hd:Z72 true ds=d at q
  cases q with
  | tup e r=>
   cases hd
   rename_i a0 xs0
   refine⟨a0,xs0,rfl,λH' kp=>?_⟩
   obtain⟨f1,f2⟩:=R.kept kp
   exact⟨f2 _ (.tup _) e,r.frame f1 f2⟩
  | _=>cases hd
theorem Zt9{ds es:List Xa}(h:Z6m ds=some es):∃t as bs,ds=[Z72 t as,Z72 t bs]∧es=Zn4 as bs:=by
 unfold Z6m at h
 split at h
 ·cases h;exact⟨false,_,_,rfl,rfl⟩
 ·cases h;exact⟨true,_,_,rfl,rfl⟩
 ·cases h
noncomputable def iZB(mr:MAt):MIt:=λδ K=>mr δ λrs δ'=>∃es,Z6m (OT.datas rs)=some es∧K es δ'
theorem Zld{p' pos pt:Pos}{es:List Expr}{kk:Nat}(hg:Gl X "zip")(hm:X.mg "zip"=none)(hv:X8 "zip"=some (.type "zip"))(ha:MA X io p c [a,b] mr)
  (he:Xn [a,b] X.env=(false,eval a X.env) :: Xn [b] X.env:=by rfl) (hpl:(JP pos (Xn [b] X.env)).any (·.1)=false:=by rfl):MI X io p c (.Tuple es kk pt) (.Call (.Name "zip" p') [a,b] [] pos) (iZB mr):=by
 obtain⟨_,A,s⟩:=ha
 refine⟨_,Z0h rfl hg hm hv A he hpl,λC H σ δ fp ex K' Q R h kk=>s C H σ δ fp ex _ _ R h λH1 vs rs δ1 fp1 new r1 h1=>?_⟩
 have q:=r1.das R
 obtain⟨es,hz,h1⟩:=h1
 obtain⟨t,as,bs,e,rfl⟩:=Zt9 hz
 rw[e]at q
 cases q with
 | cons q1 q2=>
  cases q2 with
  | cons q2 q3=>
   cases q3
   have R1:=r1.base
   obtain⟨l1,xs,rfl,k1⟩:=R1.keptSq q1
   obtain⟨l2,ys,rfl,k2⟩:=R1.keptSq q2
   refine⟨t,l1,l2,rfl,⟨_,(k1 H1 λ_ _ e _=>e).1⟩,⟨_,(k2 H1 λ_ _ e _=>e).1⟩,kk _ H1 _ δ1 fp1 R1 r1.stp (λH' kp i=>?_) h1⟩
   obtain⟨s1,d1⟩:=k1 H' kp
   obtain⟨s2,d2⟩:=k2 H' kp
   refine⟨λd hd=>?_,λhd=>⟨_,_,s1,s2,by rw[d1.length,d2.length];exact Zsa hd⟩⟩
   obtain⟨x,y,hx,hy,rfl⟩:=Zuo hd
   obtain⟨u,hu,qu⟩:=d1.get hx
   obtain⟨w,hw,qw⟩:=d2.get hy
   refine⟨⟨_,_,u,w,s1,s2,hu,hw⟩,λv H'' hyl=>?_⟩
   obtain⟨t',u',w',ht,rfl,rfl,hu',hw'⟩:=hyl
   cases hu.symm.trans (hu' _ s1)
   cases hw.symm.trans (hw' _ s2)
   exact⟨Z5 ht _,.tup Z8 (.cons (qu.same (Z5 ht _)) (.cons (qw.same (Z5 ht _)) .nil))⟩
theorem Zlu{tg e:Expr}(g:MI X io p c tg e (iZB (o2 ra))):MI X io p c tg e (o2 (Zfo ra)):=g.weak λδ K h=>by
 obtain⟨r,δ',h,k⟩:=h
 obtain⟨⟨x,δ1⟩,h1,h⟩:=bs h
 obtain⟨ds,h2,h⟩:=bs h
 cases h
 exact⟨x,_,h1,_,h2,k⟩
end
end L2
namespace L2
open PySem PySem.Spec PyProof.Rows PySem.W
noncomputable def kEv{α:Type}(lt:Nat->Nat->Bool):KasT α->α
 | .ret a=>a
 | .ask i j k=>kEv lt (k (lt i j))
noncomputable def kGood{α:Type}(n:Nat)(P:α->Prop):KasT α->Prop
 | .ret a=>P a
 | .ask i j k=>i<n∧j<n∧∀b,kGood n P (k b)
theorem kGood.bind{α β:Type}{n:Nat}{P:α->Prop}{R:β->Prop}{f:α->KasT β}(hf:∀a,P a->kGood n R (f a)){t:KasT α}(h:kGood n P t):kGood n R (t.bind f):=by
 induction t with
 | ret a=>exact hf a h
 | ask i j k ih=>exact⟨h.1,h.2.1,λb=>ih b (h.2.2 b)⟩
theorem kGood.ev{α:Type}{n:Nat}{P:α->Prop}{lt:Nat->Nat->Bool}{t:KasT α}(h:kGood n P t):P (kEv lt t):=by
 induction t with
 | ret a=>exact h
 | ask i j k ih=>exact ih _ (h.2.2 _)
theorem kGood.wp{α:Type}{n:Nat}{P:α->Prop}{lt:Nat->Nat->Bool}{cmp:Nat->Nat->(Bool->Xg->Prop)->Xg->Prop}{s:Xg}{Q:α->Xg->Prop}(hc:∀i j C,i<n->j<n->C (lt i j) s->cmp i j C s){t:KasT α}(h:kGood n P t)(q:Q (kEv lt t) s):t.kasWp cmp Q s:=by
 induction t with
 | ret a=>exact q
 | ask i j k ih=>exact hc i j _ h.1 h.2.1 (ih _ (h.2.2 _) q)
noncomputable def kP(n:Nat)(p:Array Nat):Prop:=p.toList.Perm (Xk n)
theorem kP.at{n:Nat}{p:Array Nat}(h:kP n p)(h0:0<n)(i:Nat):p.getD i 0<n:=by
 by_cases c:i<p.size
 ·have e:p.getD i 0=p[i]:=by simp[Array.getD,c]
  rw[e]
  exact Qt.mp (h.mem_iff.mp (Array.getElem_mem_toList c))
 ·have e:p.getD i 0=0:=by simp[Array.getD,c]
  rw[e];exact h0
theorem kP.rev{n:Nat}{p:Array Nat}(h:kP n p)(i j:Nat):kP n (kas_rev p i j):=(Array.perm_iff_toList_perm.mp (mirror_perm p i j _)).trans h
theorem kP.bub{n:Nat}{p:Array Nat}(h:kP n p)(i j:Nat):kP n (bubble p i j):=(Array.perm_iff_toList_perm.mp (bubble_perm p i j)).trans h
theorem Zmp{n:Nat}{p:Array Nat}(h:kP n p)(h0:0<n)(f m:Nat):kGood n (λ_=>True) (kas_asc p f m):=by
 induction f generalizing m with
 | zero=>exact trivial
 | succ f ih=>
  refine⟨h.at h0 _,h.at h0 _,λb=>?_⟩
  cases b
  ·exact ih _
  ·exact trivial
theorem Zrt{n:Nat}(h0:0<n)(f:Nat){p:Array Nat}(h:kP n p)(m q:Nat):kGood n (λr:Array Nat×Nat×Nat=>kP n r.1) (kas_desc f p m q):=by
 induction f generalizing p m q with
 | zero=>exact h
 | succ f ih=>
  refine⟨h.at h0 _,h.at h0 _,λb=>?_⟩
  cases b
  ·refine⟨h.at h0 _,h.at h0 _,λb=>?_⟩
   cases b
   ·exact ih h _ _
   ·exact h
  ·show kGood n _ (if q>0 then _ else _)
   split
   ·exact ih (h.rev _ _) _ _
   ·exact ih h _ _
theorem Zjr{n:Nat}{p:Array Nat}(h:kP n p)(h0:0<n)(m r:Nat):kGood n (λr:Nat×Array Nat=>kP n r.2) (kas_tail3 m r p):=by
 refine kGood.bind (P:=λ_=>True) (λa _=>?_) (Zmp (h.rev _ _) h0 _ _)
 exact h.rev _ _
theorem Zdz{n:Nat}{p:Array Nat}(h:kP n p)(h0:0<n)(m r:Nat):kGood n (λr:Nat×Array Nat=>kP n r.2) (kas_descPart m r p) :=
 (Zrt h0 _ h _ _).bind λx hx=>by
  show kGood n _ (if x.2.2>0 then _ else _)
  split
  ·exact Zjr (hx.rev _ _) h0 _ _
  ·exact Zjr hx h0 _ _
theorem Zpf{n:Nat}{p:Array Nat}(h:kP n p)(h0:0<n)(r:Nat):kGood n (λr:Nat×Array Nat=>kP n r.2) (kas_count r p) :=
 (Zmp h h0 _ _).bind λm _=>by
  show kGood n _ (if(m==r)=true then _ else if m>1 then _ else _)
  split
  ·exact h
  ·split
   ·refine⟨h.at h0 _,h.at h0 _,λb=>?_⟩
    cases b
    ·exact Zdz (h.rev _ _) h0 _ _
    ·exact h
   ·exact Zdz h h0 _ _
theorem Zod{n:Nat}{p:Array Nat}(h:kP n p)(h0:0<n)(k f l r:Nat):kGood n (λ_=>True) (kas_place p k f l r):=by
 induction f generalizing l r with
 | zero=>exact trivial
 | succ f ih=>
  show kGood n _ (if l≥r then _ else _)
  split
  ·exact trivial
  ·refine⟨h.at h0 _,h.at h0 _,λb=>?_⟩
   cases b
   ·exact ih _ _
   ·exact ih _ _
theorem Zvq{n:Nat}(h0:0<n)(f:Nat){p:Array Nat}(h:kP n p)(k:Nat):kGood n (kP n) (kas_bin f p k):=by
 induction f generalizing p k with
 | zero=>exact h
 | succ f ih=>exact(Zod h h0 _ _ _ _).bind λl _=>ih (h.bub _ _) _
theorem Zko{n:Nat}(h0:0<n):kGood n (kP n) (kas_sort n) :=
 (Zpf (p:=Uw (Xk n)) (.refl _) h0 n).bind λr hr=>by
  show kGood n _ (if r.1<n then _ else _)
  split
  ·exact Zvq h0 _ hr _
  ·exact hr
noncomputable def Z2g(lt:Nat->Nat->Bool)(n:Nat):List Nat:=(kEv lt (kas_sort n)).toList
theorem Zkh{lt:Nat->Nat->Bool}{n:Nat}(h0:0<n):(Z2g lt n).Perm (Xk n):=(Zko h0).ev (P:=kP n)
end L2
namespace L2
open PySem PySem.Spec PyProof.Rows PySem.W PySem.SeqAt
open AutoSeq1 (wpAny_loadPart')
open MeetsSeq MeetsSeq2 MeetsSeq3 SeqRoads2
noncomputable def ltI:List Int->List Int->Bool
 | [],[]=>false
 | [],_ :: _=>true
 | _ :: _,[]=>false
 | x :: xs,y :: ys=>if x=y then ltI xs ys else decide (x<y)
theorem Znh{vs:List Xc}{ns:List Int}(h:BZ vs ns)(i:Nat)(hi:i<vs.length):∃x t,vs[i]? =some (.int x t)∧ns.drop i=x :: ns.drop (i+1):=by
 induction h generalizing i with
 | nil=>exact absurd hi (V1 i)
 | cons n t h ih=>
  cases i with
  | zero=>exact⟨n,t,rfl,rfl⟩
  | succ i=>exact ih i (Nat.lt_of_succ_lt_succ hi)
theorem Zfq{vs:List Xc}{ns:List Int}(h:BZ vs ns):vs.length=ns.length:=by
 induction h with
 | nil=>rfl
 | cons n t h ih=>exact congrArg Nat.succ ih
theorem Zjz{xs ys:List Int}(h:xs=[]∨ys=[]):ltI xs ys=decide (xs.length<ys.length):=by
 cases xs<;>cases ys<;>first|rfl|(rcases h with h|h<;>cases h)|exact(decide_eq_true (Nat.succ_pos _)).symm
theorem Zp0(l b:Addr)(items items2:Array Xc)(n n2:Nat)(dd dd2:Option Addr)(sl sl2:Array (Option Xc)){xs ys:List Int}(h1:BZ items.toList xs)(h2:BZ items2.toList ys)(k:Nat) :
  ∀i:Nat,items.size-i=k->i≤items.size->i≤items2.size->Meets (Va.«list.__eq__.loop» ⟨[.ref l,.ref b,JL i,JL 0],[]⟩)
   (λA R s=>s.heap.get? l=some { cls:=.type "list",dict:=dd,data:=.seq items n,slots:=sl }∧s.heap.get? b=some { cls:=.type "list",dict:=dd2,data:=.seq items2 n2,slots:=sl2 }∧
    R (.ok (.ret (.bool (ltI (xs.drop i) (ys.drop i))))) s):=by
 have e1:items.size=xs.length:=Zfq h1
 have e2:items2.size=ys.length:=Zfq h2
 have fin:∀i,i≤items.size->i≤items2.size->(i=items.size∨i=items2.size)->ltI (xs.drop i) (ys.drop i)=decide (items.size<items2.size):=λi u1 u2 c=>by
  rw[Zjz (c.imp (λc=>VN (by omega)) λc=>VN (by omega)),VJ,VJ]
  exact decide_eq_decide.mpr (by omega)
 induction k with
 | zero=>
  intro i hk u1 u2 prog w A R s h
  obtain⟨hp,g,d,tk,os⟩:=s;obtain⟨hl,hb,h⟩:=h
  wp_walk using Q7 hl,Q7 hb
  have hi1:items[((i:Nat):Int).toNat]? =none:=by simp;omega
  rw[fin i u1 u2 (.inl (by omega))]at h
  rw[hi1]
  wp_walk using Q7 hl,Q7 hb
  exact h
 | succ k ih=>
  intro i hk u1 u2 prog w A R s h
  obtain⟨hp,g,d,tk,os⟩:=s;obtain⟨hl,hb,h⟩:=h
  have hlt:i<items.size:=by omega
  obtain⟨x,t,q1,q2⟩:=Znh h1 i hlt
  have hi1:items[((i:Nat):Int).toNat]? =some (.int x t):=by rw[QL,←q1,QK]
  wp_walk using Q7 hl,Q7 hb
  by_cases c:i<items2.size
  ·obtain⟨y,u,q3,q4⟩:=Znh h2 i c
   have hi2:items2[((i:Nat):Int).toNat]? =some (.int y u):=by rw[QL,←q3,QK]
   have hc:((i:Int)+1)=((i+1:Nat):Int):=by push_cast;rfl
   rw[q2,q4]at h
   unfold ltI at h
   rw[hi1,hi2]
   refine Xb (EqAt.int_int x t y u prog w _ _ ?_)
   by_cases cx:x=y
   ·rw[if_pos cx]at h
    rw[beq_iff_eq.mpr cx]
    wp_walk
    rw[hc]
    exact⟨V7 plain_eq_loop _,Bc entry_eq_loop (by
     rw[JT plain_eq_loop _]
     exact ih (i+1) (by omega) (by omega) (by omega) prog w A R _ ⟨hl,hb,h⟩)⟩
   ·rw[if_neg cx]at h
    rw[beq_eq_false_iff_ne.mpr cx]
    wp_walk using Q7 hl,Q7 hb
    rw[hi1,hi2]
    refine Xb (lt_int ?_)
    wp_walk
    exact h
  ·have hi2:items2[((i:Nat):Int).toNat]? =none:=by simp;omega
   rw[fin i u1 u2 (.inr (by omega))]at h
   rw[hi1,hi2]
   wp_walk using Q7 hl,Q7 hb
   exact h
theorem Zqq(l b:Addr)(items items2:Array Xc)(n n2:Nat)(dd dd2:Option Addr)(sl sl2:Array (Option Xc)){xs ys:List Int}(h1:BZ items.toList xs)(h2:BZ items2.toList ys) :
  Meets (Va.«list.__lt__» ⟨[.ref l,.ref b],[]⟩)
   (λA R s=>s.heap.get? l=some { cls:=.type "list",dict:=dd,data:=.seq items n,slots:=sl }∧s.heap.get? b=some { cls:=.type "list",dict:=dd2,data:=.seq items2 n2,slots:=sl2 }∧
    R (.ok (.ret (.bool (ltI xs ys)))) s):=by
 intro prog w A R s h
 obtain⟨hp,g,d,tk,os⟩:=s;obtain⟨hl,hb,h⟩:=h
 have f3:=AutoSeq1.sub_list_list
 wp_walk using Q7 hl,Q7 hb
 exact⟨V7 plain_eq_loop _,Bc entry_eq_loop (by
  rw[JT plain_eq_loop _]
  exact Zp0 l b items items2 n n2 dd dd2 sl sl2 h1 h2 _ 0 rfl (QC _) (QC _) prog w A R _ ⟨hl,hb,h⟩)⟩
section
variable {prog:Qj}{w:Qy}{A:Qv}{E:Xc->Xg->Prop}{s:Xg}
theorem Zpe{l b:Addr}{items items2:Array Xc}{xs ys:List Int}{Q:Bool->Xg->Prop}(hu:A.units<U8)(hl:s.heap.IsList l items)(hb:s.heap.IsList b items2)(h1:BZ items.toList xs)(h2:BZ items2.toList ys)(h:Q (ltI xs ys) s) :
  Xu (X5 prog w) A (oneLt' true (.ref l) (.ref b)) Q E s:=by
 obtain⟨⟨cls,dd,data,sl⟩,hl,hc,n,hd⟩:=hl
 obtain⟨⟨cls2,dd2,data2,sl2⟩,hb,hc2,n2,hd2⟩:=hb
 simp only at hc hd hc2 hd2
 subst hc hd hc2 hd2
 rw[oneLt'_eq]
 simp only[if_true]
 refine Xb (wpAny_cRoomFor hu ?_)
 refine Xb (wpAny_callSpecialIfBound?_slot ⟨_,hl,rfl⟩ F.slot_list_lt (call_meets F.slot_list_lt ⟨_,hl,rfl⟩ F.entry_list_lt (F.args_list_lt_2 _ _) (Zqq l b items items2 n n2 dd dd2 sl sl2 h1 h2) ⟨hl,hb,?_⟩))
 exact Vo h
end
theorem Z6f{prog:Qj}{w:Qy}{A:Qv}{E:Xc->Xg->Prop}{s:Xg}{a b:Int}{t u:Tok}{Q:Xc->Xg->Prop}(h:Q (.bool (decide (a<b))) s):Xu (X5 prog w) A (richCompare .Lt (.int a t) (.int b u)) Q E s:=lt_int h
theorem Zn5(l b:Addr)(items items2:Array Xc)(n n2:Nat)(dd dd2:Option Addr)(sl sl2:Array (Option Xc)){xs ys:List Int}(h1:BZ items.toList xs)(h2:BZ items2.toList ys) :
  Meets (Va.«tuple.__lt__» ⟨[.ref l,.ref b],[]⟩)
   (λA R s=>s.heap.get? l=some { cls:=.type "tuple",dict:=dd,data:=.seq items n,slots:=sl }∧s.heap.get? b=some { cls:=.type "tuple",dict:=dd2,data:=.seq items2 n2,slots:=sl2 }∧
    R (.ok (.ret (.bool (ltI xs ys)))) s) :=
 .of_wp λprog w A R s h=>by
  obtain⟨hp,g,d,tk,os⟩:=s;obtain⟨hl,hb,h⟩:=h
  have f2:=AutoSeq1.sub_tuple_tuple
  have e1:items.toList.length=xs.length:=Zfq h1
  have e2:items2.toList.length=ys.length:=Zfq h2
  wp_walk using Q7 hl,Q7 hb,wpAny_forIn_list _ (λrest b s'=>b.1=none∧s'=⟨hp,g,d,tk,os⟩∧∃i,rest=(items.toList.zip items2.toList).drop i∧i≤items.toList.length∧i≤items2.toList.length∧
   R (.ok (.ret (.bool (ltI (xs.drop i) (ys.drop i))))) ⟨hp,g,d,tk,os⟩) _
  case turn=>
   rintro⟨v,u⟩ rest b s' ⟨hb',rfl,i,hz,u1,u2,hR⟩
   have hlt:i<(items.toList.zip items2.toList).length:=by
    rcases Nat.lt_or_ge i (items.toList.zip items2.toList).length with h'|h'
    ·exact h'
    ·rw[List.drop_of_length_le h']at hz;cases hz
   have hm:=hlt
   rw[List.length_zip]at hm
   obtain⟨x,t,q1,q2⟩:=Znh h1 i (by omega)
   obtain⟨y,r,q3,q4⟩:=Znh h2 i (by omega)
   rw[BL hlt]at hz
   injection hz with hyx hrest
   have hz0:(items.toList.zip items2.toList)[i]? =some (.int x t,.int y r):=by rw[List.getElem?_zip_eq_some];exact⟨q1,q3⟩
   rw[XJ hlt]at hz0
   injection hz0 with hz0
   rw[hz0]at hyx
   cases hyx
   rw[q2,q4]at hR
   unfold ltI at hR
   refine Xb (EqAt.int_int x t y r prog w _ _ ?_)
   by_cases cx:x=y
   ·rw[if_pos cx]at hR
    rw[beq_iff_eq.mpr cx]
    wp_walk
    exact⟨rfl,rfl,i+1,hrest,by omega,by omega,hR⟩
   ·rw[if_neg cx]at hR
    rw[beq_eq_false_iff_ne.mpr cx]
    wp_walk using Z6f
    exact⟨_,rfl,hR⟩
  case fin=>
   rintro⟨b1,b2⟩ s' ⟨hb',rfl,i,hz,u1,u2,hR⟩
   simp only at hb'
   subst hb'
   have hge:min items.toList.length items2.toList.length≤i:=by
    rcases Nat.lt_or_ge i (items.toList.zip items2.toList).length with h'|h'
    ·rw[BL h']at hz;cases hz
    ·rw[List.length_zip]at h';exact h'
   have hv:ltI (xs.drop i) (ys.drop i)=decide (items.size<items2.size):=by
    rw[Zjz ((show i=items.toList.length∨i=items2.toList.length by omega).imp (λc=>VN (by omega)) λc=>VN (by omega)),VJ,VJ]
    rw[Qc]at e1 e2 u1 u2
    exact decide_eq_decide.mpr (by omega)
   rw[hv]at hR
   wp_walk
   exact⟨_,rfl,hR⟩
  case h=>
   exact⟨rfl,rfl,0,rfl,QC _,QC _,h⟩
section
variable {prog:Qj}{w:Qy}{A:Qv}{E:Xc->Xg->Prop}{s:Xg}
theorem Zsn{l b:Addr}{items items2:Array Xc}{xs ys:List Int}{Q:Bool->Xg->Prop}(hu:A.units<U8)(hl:s.heap.IsTuple l items)(hb:s.heap.IsTuple b items2)(h1:BZ items.toList xs)(h2:BZ items2.toList ys)(h:Q (ltI xs ys) s) :
  Xu (X5 prog w) A (oneLt' false (.ref l) (.ref b)) Q E s:=by
 obtain⟨⟨cls,dd,data,sl⟩,hl,hc,n,hd⟩:=hl
 obtain⟨⟨cls2,dd2,data2,sl2⟩,hb,hc2,n2,hd2⟩:=hb
 simp only at hc hd hc2 hd2
 subst hc hd hc2 hd2
 exact kat_one _ _ (richCompare_meets_room (op:=.Lt) ⟨_,hl,rfl⟩ ⟨_,hb,rfl⟩ F.slot_tuple_lt F.entry_tuple_lt (F.args_tuple_lt_2 _ _) (Zn5 l b items items2 n n2 dd dd2 sl sl2 h1 h2)
  ⟨hl,hb,show Value.bool (ltI xs ys)≠Xc.notImplemented∧_ from⟨(λx=>nomatch x),h⟩⟩ hu)
end
end L2
namespace L2
open PySem PySem.Spec PyProof.Rows PySem.W
noncomputable def sLay{α:Type}(d:α)(lt:Nat->Nat->Bool)(vs:List α):List α:=if vs.length<2 then vs else(Z2g lt vs.length).map λi=>vs.getD i d
theorem Zox{α:Type}(d:α)(vs:List α):((Xk vs.length).map λi=>vs.getD i d)=vs:=by
 refine List.ext_getElem? λi=>?_
 rw[Xl]
 by_cases c:i<vs.length
 ·rw[Be c,XJ c]
  show some (vs.getD i d)=_
  rw[Ql,XJ c];rfl
 ·rw[QZ (by rw[Xw];omega),QZ (by omega)];rfl
theorem Zjn{α:Type}(d:α)(lt:Nat->Nat->Bool)(vs:List α):(sLay d lt vs).Perm vs:=by
 unfold sLay
 split
 ·exact .refl _
 ·have:=(Zkh (lt:=lt) (n:=vs.length) (by omega)).map λi=>vs.getD i d
  rwa[Zox]at this
theorem Ztc{lt:Nat->Nat->Bool}{xs:List V}{us:List Xc}(h:Vals xs us):Vals (sLay .non lt xs) (sLay .none lt us):=by
 unfold sLay
 rw[h.length]
 split
 ·exact h
 ·generalize Z2g lt _=l
  induction l with
  | nil=>exact .nil
  | cons i l ih=>
   refine .cons ?_ ih
   show RelV (xs.getD i V.non) (us.getD i QD)
   rw[Ql,Ql]
   cases e:xs[i]? with
   | some x=>
    obtain⟨u,e',r⟩:=h.get e
    rw[e'];exact r
   | none=>
    have:us[i]? =none:=QZ (by rw[←h.length];exact JB.mp e)
    rw[this];exact rfl
section
variable {prog:Qj}{w:Qy}{A:Qv}{E:Xc->Xg->Prop}{s:Xg}
theorem Zop{κ:SortKind}{lt:Nat->Nat->Bool}{h0:Heap}{a:Addr}{vs:List Xc}{n:Nat}{P:PySem.Fin->Xg->Prop}(ho:s.heap.get? a=some (Vp "list" vs.toArray n))
  (k0:∀b o,h0.get? b=some o->s.heap.get? b=some o) (ha0:h0.get? a=none) (h64:vs.length<64)
  (hk:2≤vs.length->∀s':Xg,(∀b o,h0.get? b=some o->s'.heap.get? b=some o)->∀Q:SortKind->Xg->Prop,Q κ s'->Xu (X5 prog w) A (keyKind' vs.toArray) Q E s')
  (hc:2≤vs.length->∀s':Xg,(∀b o,h0.get? b=some o->s'.heap.get? b=some o)->∀i j C,i<vs.length->j<vs.length->C (lt i j) s'->kas_ask prog w A κ vs i j C s')
  (h:P (.done (.ret .none)) { s with heap:=sortedHeap s.heap a vs (Uw (sLay QD lt vs)) }):Xu (X5 prog w) A (Va.«list.sort» ⟨[.ref a],[]⟩) P E s:=by
 have ha:a<s.heap.objs.size:=Xx ho
 obtain⟨e1,ho1⟩:∃e1,(s.heap.update a (Bx λ_=>(#[]:Array Xc))).get? a=some (Vp "list" #[] e1):=⟨_,get?_update_seq ho λ_=>#[]⟩
 have ho6:(((s.heap.update a (Bx λ_=>(#[]:Array Xc))).push (Vp "tuple" vs.toArray 0)).push (Vp "list" #[] 0)).get? a=some (Vp "list" #[] e1):=Xf _ (Xf _ ho1)
 have k6:∀b o,h0.get? b=some o->(((s.heap.update a (Bx λ_=>(#[]:Array Xc))).push (Vp "tuple" vs.toArray 0)).push (Vp "list" #[] 0)).get? b=some o:=λb o e=>by
  refine Xf _ (Xf _ ?_)
  rw[Heap.get?_update_ne _ _ _ _ (λq=>by rw[q,ha0]at e;cases e)]
  exact k0 b o e
 rw[list_sort_plain]
 refine Xb (listItems_at ho rfl ?_)
 refine Xb (listUpdate_at ho rfl ?_ (by rw[Qa,Qh];omega) (QC _))
 refine Xb (seqEpoch_at ho1 rfl ?_)
 refine Xb (wpAny_newTuple ?_ (by show vs.length≤_;rw[Qh];omega))
 refine Xb (wpAny_newList ?_ (QC _))
 refine JM ?_
 show Xu (X5 prog w) A _ P E { s with heap:=((s.heap.update a (Bx λ_=>(#[]:Array Xc))).push (Vp "tuple" vs.toArray 0)).push (Vp "list" #[] 0) }
 dsimp only
 have hs:vs.toArray.size=vs.length:=Qa ..
 by_cases h2:vs.toArray.size<2
 ·have el:sLay QD lt vs=vs:=if_pos (hs▸h2)
  rw[el]at h
  rw[if_pos h2,if_pos h2]
  refine Xb (Xi ?_)
  rw[StateT.run_pure]
  refine Xb (Xi ?_)
  dsimp only
  refine Xb (seqEpoch_at ho6 rfl ?_)
  have ez:((vs.toArray.zip vs.toArray).map (·.2))=vs.toArray:=by
   apply Array.toList_inj.mp
   rw[Array.toList_map,Array.toList_zip,List.map_snd_zip (Qp _)]
  show Xu _ _ (Builtin.List.listUpdate _ (λ_=>(vs.toArray.zip vs.toArray).map (·.2))>>=_) _ _ _
  rw[ez]
  refine Xb (listUpdate_at ho6 rfl ?_ (QC _) (by rw[hs,Qh];omega))
  simp only[bne_self_eq_false,XC,if_false]
  exact Xi h
 ·rw[if_neg h2,if_neg h2]
  have h2':2≤vs.length:=by omega
  have el:sLay QD lt vs=(Z2g lt vs.length).map λi=>vs.getD i QD:=if_neg (by omega)
  rw[el]at h
  refine Xb (hk h2' _ k6 _ ?_)
  have est:SortSt.mk' κ (vs.toArray.zip vs.toArray) #[] 7 none=kas_st κ (pairsOf vs) (Uw (Xk vs.length)):=by
   have e:=kas_range (pairsOf vs)
   rw[pairsOf_size]at e
   show SortSt.mk' κ (pairsOf vs) #[] 7 none=SortSt.mk' κ ((Uw (Xk vs.length)).map (kas_item (pairsOf vs))) #[] 7 none
   rw[e]
  have run:=kas_runs (prog:=prog) (w:=w) (A:=A) (κ:=κ) (it:=pairsOf vs) (E:=E) (s:={ s with heap:=((s.heap.update a (Bx λ_=>(#[]:Array Xc))).push (Vp "tuple" vs.toArray 0)).push (Vp "list" #[] 0) })
   (Q:=λ_ st' s'=>arrOf st'=(kEv lt (kas_sort vs.length)).map (kas_item (pairsOf vs))∧failedOf st'=none∧s'={ s with heap:=((s.heap.update a (Bx λ_=>(#[]:Array Xc))).push (Vp "tuple" vs.toArray 0)).push (Vp "list" #[] 0) })
   (G:=λp s'=>p=kEv lt (kas_sort vs.length)∧s'={ s with heap:=((s.heap.update a (Bx λ_=>(#[]:Array Xc))).push (Vp "tuple" vs.toArray 0)).push (Vp "list" #[] 0) })
   h2' h64 (λp' st' s' _ a2 a3 a4=>⟨a4.1▸a2,a3,a4.2⟩) (by
    rw[←kas_ask_eq]
    exact(Zko (n:=vs.length) (by omega)).wp (hc h2' _ k6) ⟨rfl,rfl⟩)
  rw[←est]at run
  refine Xb (QG run ?_ λ_ _ e=>e)
  intro r s' z
  obtain⟨har,hf,rfl⟩:=z
  have hout:(arrOf r.2).map (·.2)=Uw ((Z2g lt vs.length).map λi=>vs.getD i QD):=by
   apply Array.toList_inj.mp
   rw[har,Array.map_map,Array.toList_map]
   exact X7 λi _=>by show(kas_item (pairsOf vs) i).2=_;rw[kas_item_eq]
  rw[hout]
  refine Xb (seqEpoch_at ho6 rfl ?_)
  refine Xb (listUpdate_at ho6 rfl ?_ (QC _) (by rw[Qa,Xe,(Zkh (by omega)).length_eq,Xw,Qh];omega))
  rw[hf]
  simp only[bne_self_eq_false,XC,if_false]
  exact Xi h
theorem Z02{κ:SortKind}{lt:Nat->Nat->Bool}{l:Addr}{vs:List Xc}{Q:Xc->Xg->Prop}(hl:s.heap.IsList l vs.toArray)(h64:vs.length<64)
  (hk:2≤vs.length->∀s':Xg,(∀b o,s.heap.get? b=some o->s'.heap.get? b=some o)->∀Q:SortKind->Xg->Prop,Q κ s'->Xu (X5 prog w) A.in1.in1 (keyKind' vs.toArray) Q E s')
  (hc:2≤vs.length->∀s':Xg,(∀b o,s.heap.get? b=some o->s'.heap.get? b=some o)->∀i j C,i<vs.length->j<vs.length->C (lt i j) s'->kas_ask prog w A.in1.in1 κ vs i j C s')
  (h:Q (.ref (s.heap.objs.size+1)) { s with heap:=sortedAll s.heap vs (Uw (sLay QD lt vs)) }):Xu (X5 prog w) A (call (.builtin "sorted") [.ref l]) Q E s:=by
 refine Calls.call_function_entry kind_sorted plain_sorted entry_sorted (args_sorted1 _) ?_
 unfold Va.«sorted»
 refine Xb (m:=checkCount "sorted" 1 1 _) (Xi ?_)
 refine Xb (collect_list hl ?_ (by rw[Qh];omega))
 refine Xb (wpAny_newList ?_ (by rw[Qh];omega))
 have hsz:((s.heap.push (Vp "list" #[] 0)).update s.heap.objs.size (Bx (· ++ vs.toArray))).objs.size=s.heap.objs.size+1:=by
  rw[Heap.size_update,size_push']
 have hoL:(((s.heap.push (Vp "list" #[] 0)).update s.heap.objs.size (Bx (· ++ vs.toArray))).push (Vp "list" vs.toArray 0)).get? (s.heap.objs.size+1)=some (Vp "list" vs.toArray 0):=by
  rw[←hsz];exact Xv _ rfl
 have keep:∀b o,s.heap.get? b=some o->(((s.heap.push (Vp "list" #[] 0)).update s.heap.objs.size (Bx (· ++ vs.toArray))).push (Vp "list" vs.toArray 0)).get? b=some o:=λb o q=>by
  have hlt:b<s.heap.objs.size:=Xx q
  rw[Heap.get?_push_ne _ _ _ (by rw[hsz];exact XQ (Q8 hlt)),Heap.get?_update_ne _ _ _ _ (XQ hlt),Heap.get?_push_ne _ _ _ (XQ hlt)]
  exact q
 show Xu _ _ _ _ _ { s with heap:=((s.heap.push (Vp "list" #[] 0)).update s.heap.objs.size (Bx (· ++ vs.toArray))).push (Vp "list" vs.toArray 0) }
 rw[hsz]
 refine Xb (JM (JN slot_list_sort ⟨_,hoL,rfl⟩ entry_list_sort (Zop (h0:=s.heap) hoL keep (Heap.get?_none_of_le (Nat.le_succ _)) h64 hk hc ⟨_,rfl,?_⟩) (args_list_sort _)))
 exact Xi ⟨_,rfl,h⟩
end
end L2
namespace L2
open PySem PySem.Spec PyProof.Rows PySem.W
variable {G:Xd}
structure Yc2{α:Type}(kd:Xa->Option α)(lt:α->α->Bool):Prop where
 lay:∀d k,kd d=some k->d.canLay0=true
 run:∃κ:SortKind,(∀(prog:Qj) (w:Qy) (A:Qv) (E:Xc->Xg->Prop) (s:Xg) (vs:List Xc) (ds:List Xa) (as:List Addr) (Q:SortKind->Xg->Prop),2≤vs.length->ReadsAll s.heap vs ds as->(∀d∈ds,∃k,kd d=some k)->Q κ s->Xu (X5 prog w) A (keyKind' vs.toArray) Q E s)∧
  ∀(prog:Qj) (w:Qy) (A:Qv) (E:Xc->Xg->Prop) (s:Xg) (u v:Xc) (d e:Xa) (as bs:List Addr) (k m:α) (C:Bool->Xg->Prop),A.units+32<U8->Reads s.heap u d as->Reads s.heap v e bs->kd d=some k->kd e=some m->C (lt k m) s->Xu (X5 prog w) A (keyLt' κ u v) C E s
theorem readsAll_ints{h:Heap}(ns:List Int){vs:List Xc}{as:List Addr}(r:ReadsAll h vs (ns.map Xm) as):BZ vs ns:=by
 induction ns generalizing vs as with
 | nil=>cases r;exact .nil
 | cons n ns ih=>
  cases r with
  | cons r q=>
   cases r
   exact .cons _ _ (ih q)
theorem Zcw{h:Heap}{ns:List Int}{u:Xc}{as:List Addr}(r:Reads h u (.list (ns.map Xm)) as):∃a items,u= .ref a∧h.IsList a items∧BZ items.toList ns:=by
 cases r with
 | list e c d q=>exact⟨_,_,rfl,⟨_,e,c,_,d⟩,readsAll_ints ns q⟩
theorem Zen{h:Heap}{ns:List Int}{u:Xc}{as:List Addr}(r:Reads h u (.tuple (ns.map Xm)) as):∃a items,u= .ref a∧h.IsTuple a items∧BZ items.toList ns:=by
 cases r with
 | tuple e c d q=>exact⟨_,_,rfl,⟨_,e,c,_,d⟩,readsAll_ints ns q⟩
theorem readsAll_get{h:Heap}{vs:List Xc}{ds:List Xa}{as:List Addr}(r:ReadsAll h vs ds as):vs.length=ds.length∧∀(i:Nat) d,ds[i]? =some d->∃v bs,vs[i]? =some v∧Reads h v d bs:=by
 induction ds generalizing vs as with
 | nil=>cases r;exact⟨rfl,λi d e=>by rw[List.getElem?_nil]at e;cases e⟩
 | cons d ds ih=>
  cases r with
  | cons r q=>
   obtain⟨z1,z2⟩:=ih q
   refine⟨congrArg Nat.succ z1,λi e he=>?_⟩
   cases i with
   | zero=>cases he;exact⟨_,_,rfl,r⟩
   | succ i=>exact z2 i e he
theorem lay_ints(ns:List Int):Sh 1 (.list (ns.map Xm)):=Zjb λd m=>by
 obtain⟨x,_,rfl⟩:=XF.mp m
 exact Zx8 x
theorem Zbg(ns:List Int):Sh 1 (.tuple (ns.map Xm)):=Zsk λd m=>by
 obtain⟨x,_,rfl⟩:=XF.mp m
 exact Zx8 x
theorem Zn7{M:Model}{h:Heap}{a:Addr}{items:Array Xc}(e:h.IsList a items):Looks M h (typeOf (.ref a)) (.type "list"):=by
 obtain⟨o,e,c,_⟩:=e
 have:Looks M h (typeOf (.ref a)) o.cls:=(Looks.ld e).andThen .now
 rwa[c]at this
noncomputable def kdT:Xa->Option (List Int×List Int):=λd=>match d with| .tuple [.list es,.tuple fs]=>(Zdc es).bind λns=>(Zdc fs).bind λms=>some (ns,ms)|_=>none
noncomputable def ltT:List Int×List Int->List Int×List Int->Bool:=λa b=>if a.1=b.1 then(if a.2=b.2 then false else ltI a.2 b.2)else ltI a.1 b.1
theorem Zfz{d:Xa}{k:List Int×List Int}(h:kdT d=some k):d= .tuple [.list (k.1.map Xm),.tuple (k.2.map Xm)]:=by
 unfold kdT at h
 split at h
 case h_2=>cases h
 obtain⟨ns,h1,h⟩:=bs h
 obtain⟨ms,h2,h⟩:=bs h
 cases h
 rw[Zcx h1,Zcx h2]
theorem Zma{h:Heap}{k:List Int×List Int}{u:Xc}{as:List Addr}(r:Reads h u (.tuple [.list (k.1.map Xm),.tuple (k.2.map Xm)]) as):∃t o n a b,u= .ref t∧h.get? t=some o∧o.cls= .type "tuple"∧o.data= .seq #[.ref a,.ref b] n∧(∃bs,Reads h (.ref a) (.list (k.1.map Xm)) bs)∧∃bs,Reads h (.ref b) (.tuple (k.2.map Xm)) bs:=by
 cases r with
 | @tuple t o vs n xs as e c d q=>
  obtain⟨l,hl⟩:∃l,l=vs.toList:=⟨_,rfl⟩
  rw[←hl]at q
  cases q with
  | cons r1 q=>
   cases q with
   | cons r2 q=>
    cases q
    obtain⟨a,_,rfl,_⟩:=Zcw r1
    obtain⟨b,_,rfl,_⟩:=Zen r2
    have:vs=#[.ref a,.ref b]:=Array.toList_inj.mp hl.symm
    subst this
    exact⟨t,o,n,a,b,rfl,e,c,d,⟨_,r1⟩,_,r2⟩
theorem Zd2(a b:List Int):QR (.list (a.map Xm)) (.list (b.map Xm))=decide (a=b):=by
 have p:∀l:List Int,Yu (.list (l.map Xm))=true:=λl=>by rw[Yu];induction l with|nil=>rfl|cons x l ih=>exact ih
 have inj:∀{l m:List Int},Bd (l.map Xm)= .list (m.map Xm)->l=m:=λh=>by
  injection h with h
  exact(List.map_inj_right λx y z=>by injection z).mp h
 by_cases c:a=b
 ·rw[Zxx (p a) (p b) (by rw[c]),decide_eq_true c]
 ·rw[Zxc (p a) (p b) λz=>c (inj z),decide_eq_false c]
theorem Zqk(a b:List Int):QR (.tuple (a.map Xm)) (.tuple (b.map Xm))=decide (a=b):=by
 have e:∀xs ys:List Xa,QR (.tuple xs) (.tuple ys)=QR (.list xs) (.list ys):=λxs ys=>by
  rw[QR,QR]
 rw[e,Zd2]
theorem Zp6:Yc2 kdT ltT:=by
 refine⟨λd k h=>?_,tuples' true,λprog w A E s vs ds as Q h2 r hk q=>?_,λprog w A E s u v d e as bs k m C hu r1 r2 h1 h2 h=>?_⟩
 ·rw[Zfz h]
  exact(Zsk (n:=1) λd m=>by
   rcases Xp.mp m with rfl|m
   ·exact lay_ints _
   ·rw[Xj.mp m];exact Zbg _).1
 ·have key:∃fs:List Xc,KatTups s.heap vs fs∧fs.length=vs.length∧∀v∈fs,∃a items,v= .ref a∧s.heap.IsList a items:=by
   clear h2 q
   induction ds generalizing vs as with
   | nil=>cases r;exact⟨[],trivial,rfl,λ_ m=>nomatch m⟩
   | cons d ds ih=>
    cases r with
    | cons r q=>
     obtain⟨fs,t,l,z⟩:=ih _ _ q λd m=>hk d (.tail _ m)
     obtain⟨k,hk⟩:=hk d (.head _)
     rw[Zfz hk]at r
     obtain⟨t',o,n,a,b,rfl,e,c,hd,⟨_,x1⟩,_⟩:=Zma r
     obtain⟨a',items,ea,ex,_⟩:=Zcw x1
     cases ea
     refine⟨.ref a :: fs,KatTups.cons e c hd rfl t,congrArg Nat.succ l,λv hv=>?_⟩
     rcases Xp.mp hv with rfl|hv
     ·exact⟨a,items,rfl,ex⟩
     ·exact z v hv
  obtain⟨fs,t,l,z⟩:=key
  exact kat_kind (T:=.type "list") t (by omega) (λv hv=>by obtain⟨a,items,rfl,e⟩:=z v hv;exact Zn7 e) rfl q
 ·rw[Zfz h1]at r1
  rw[Zfz h2]at r2
  obtain⟨t1,o1,n1,a1,b1,rfl,g1,c1,d1,⟨_,x1⟩,_,y1⟩:=Zma r1
  obtain⟨t2,o2,n2,a2,b2,rfl,g2,c2,d2,⟨_,x2⟩,_,y2⟩:=Zma r2
  refine kat_lt g1 d1 g2 d2 (kat_cons ?_)
  refine SeqAt.eqAt_reads _ _ A s _ _ _ _ x1 x2 (lay_ints _).1 (lay_ints _).1 (by have:=(lay_ints k.1).2;omega) prog w _ _ ?_
  rw[Zd2]
  unfold ltT at h
  obtain⟨p1,i1,e1,l1,z1⟩:=Zcw x1
  obtain⟨p2,i2,e2,l2,z2⟩:=Zcw x2
  cases e1;cases e2
  by_cases c:k.1=m.1
  ·rw[if_pos c]at h
   rw[decide_eq_true c]
   refine kat_yes (kat_cons ?_)
   refine SeqAt.eqAt_reads _ _ A s _ _ _ _ y1 y2 (Zbg _).1 (Zbg _).1 (by have:=(Zbg k.2).2;omega) prog w _ _ ?_
   rw[Zqk]
   obtain⟨p1,i1,e1,l1,z1⟩:=Zen y1
   obtain⟨p2,i2,e2,l2,z2⟩:=Zen y2
   cases e1;cases e2
   by_cases c':k.2=m.2
   ·rw[if_pos c']at h
    rw[decide_eq_true c']
    exact kat_yes (kat_nil h)
   ·rw[if_neg c']at h
    rw[decide_eq_false c']
    exact kat_no (Zsn (by omega) l1 l2 z1 z2 h)
  ·rw[if_neg c]at h
   rw[decide_eq_false c]
   exact kat_no (Zpe (by omega) l1 l2 z1 z2 h)
end L2
namespace L2
open PySem PySem.Spec PyProof.Rows PySem.W
variable {G:Xd}
noncomputable def lk{α:Type}(kd:Xa->Option α)(lt:α->α->Bool)(es:List Xa):Nat->Nat->Bool:=λi j=>((kd (es.getD i .none)).bind λa=>(kd (es.getD j .none)).map λb=>lt a b).getD false
noncomputable def keyed{α:Type}(kd:Xa->Option α)(es:List Xa):Prop:=∀d∈es,∃k,kd d=some k
theorem Zo3{es:List Xa}(h:∀d∈es,d.canLay0=true):Bq es=true:=by
 induction es with
 | nil=>rw[Bq]
 | cons d es ih=>rw[Bq,h d (.head _),ih λd m=>h d (.tail _ m)];rfl
theorem Das.sLay{H:Hp}{L:Addr->Prop}{lt:Nat->Nat->Bool}{xs:List V}{ds:List Xa}(h:Das G H L xs ds):Das G H L (L2.sLay .non lt xs) (L2.sLay .none lt ds):=by
 unfold L2.sLay
 rw[h.length]
 split
 ·exact h
 ·generalize Z2g lt _=l
  induction l with
  | nil=>exact .nil
  | cons i l ih=>
   refine .cons ?_ ih
   show Da G H L (xs.getD i .non) (ds.getD i .none)
   rw[Ql,Ql]
   cases e:xs[i]? with
   | some x=>
    obtain⟨u,e',r⟩:=h.get' e
    rw[e'];exact r
   | none=>
    have:ds[i]? =none:=QZ (by rw[←h.length];exact JB.mp e)
    rw[this];exact .non
noncomputable def Zxm{α:Type}(kd:Xa->Option α)(lt:α->α->Bool)(K:Xd):List V->Hp->VK->Prop:=λxs H Q=>∃(a:Addr) (vs:List V) (L:Addr->Prop) (es:List Xa),xs=[.ref a]∧SqL K H a vs∧Das K H L vs es∧vs.length<64∧keyed kd es∧∀l,H l=none->Q (.ref l) (upd H l (.lst (sLay .non (lk kd lt es) vs)))
section
variable {X:Cx}{α:Type}{kd:Xa->Option α}{lt:α->α->Bool}
theorem Zeq{K:Xd}(S:Yc2 kd lt)(hK:X.K=K)(hu:X.A.units+64<U8):Zbt X (.builtin "sorted") (Zxm kd lt K):=by
 subst hK
 intro pins s σ H xs us Q I r h
 obtain⟨l,vs,L,es,rfl,hs,hd,h64,hk,q⟩:=h
 obtain⟨u,rfl,ru⟩:=vals1 r
 cases(show u=XX l from ru)
 obtain⟨its,rv,pl,hz⟩:=I.list hs
 have hl:=rv.length
 obtain⟨as,ra⟩:=hd.reads rfl I rv (Zo3 λd m=>by obtain⟨k,e⟩:=hk d m;exact S.lay d k e)
 obtain⟨κ,S1,S2⟩:=S.run
 obtain⟨z1,z2⟩:=readsAll_get ra
 refine Z02 (κ:=κ) (lt:=lk kd lt es) pl.isList (by omega) (λh2 s' k Q q=>S1 _ _ _ _ s' _ es as Q h2 (ReadsAll.keeps k ra) hk q) (λh2 s' k i j C hi hj hc=>?_) ?_
 ·rw[z1]at hi hj
  obtain⟨v,b1,e1,r1⟩:=z2 i _ (XJ hi)
  obtain⟨w,b2,e2,r2⟩:=z2 j _ (XJ hj)
  obtain⟨k1,q1⟩:=hk _ (List.getElem_mem hi)
  obtain⟨k2,q2⟩:=hk _ (List.getElem_mem hj)
  have ek:lk kd lt es i j=lt k1 k2:=by
   unfold lk
   rw[Ql,Ql,XJ hi,XJ hj]
   show((kd es[i]).bind λa=>(kd es[j]).map λb=>lt a b).getD false=_
   rw[q1,q2];rfl
  rw[ek]at hc
  unfold kas_ask
  rw[Ql,Ql,e1,e2]
  exact S2 _ _ _ _ s' v w _ _ _ _ k1 k2 C (show X.A.units+1+1+32<U8 by omega) (Reads.keeps k r1) (Reads.keeps k r2) q1 q2 hc
 ·obtain⟨e,he⟩:=sortedAll_at s.heap its (Uw (sLay QD (lk kd lt es) its))
  refine⟨.ref (s.heap.objs.size+1),_,I.laid (t':=s.toks) (o:=.lst (sLay .non (lk kd lt es) vs)) (λb ob q=>sortedAll_old q) (by omega) ⟨?_,sLay QD (lk kd lt es) its,e,Ztc rv,he⟩,rfl,q _ (I.hok.fresh (by omega))⟩
  rw[(Zjn _ _ _).length_eq,Qh];omega
noncomputable def Zx7(kd:Xa->Option α)(lt:α->α->Bool):List Xa->(OT->Prop)->Prop:=λds k=>n1 (λd=>∃es:List Xa,d= .list es∧es.length<64∧keyed kd es∧k (.nd ((sLay .none (lk kd lt es) es).map OT.fz))) ds
theorem Ziu:PN G (Zxm kd lt G) (Zx7 kd lt):=λH L xs ds k Q hx h kk=>by
 obtain⟨v,d,rfl,rfl,q,es,e,h64,hk,h⟩:=hx.one h
 have fin:∀(vs:List V) (p:Addr),Das G H L vs es->H p=none->Q (.ref p) (upd H p (.lst (sLay .non (lk kd lt es) vs))):=λvs p hv hp=>kk _ _ _ [p] (Z5 hp _) (Own.list hp hv.sLay) (Zdu p) (Zbp hp) h
 subst e
 generalize ed:Bd es=d at q
 cases q with
 | lst l e r=>
  cases ed
  exact⟨_,_,L,es,rfl,.inl e,r,by rw[r.length];exact h64,hk,λp hp=>fin _ p r hp⟩
 | scr ks=>
  cases ed
  exact⟨_,_,L,_,rfl,ks.sq,Das.ints _,by rw[(Das.ints (G:=G) (H:=H) (L:=L) _).length];exact h64,hk,λp hp=>fin _ p (Das.ints _) hp⟩
 | _=>cases ed
noncomputable def Zh5(kd:Xa->Option α)(lt:α->α->Bool):List Xa->Option OT:=λds=>match ds with|[.list es]=>if(decide (es.length<64)&&es.all λd=>(kd d).isSome)=true then some (.nd ((sLay .none (lk kd lt es) es).map OT.fz))else none|_=>none
theorem Zl1:∀ds r k,Zh5 kd lt ds=some r->k r->Zx7 kd lt ds k:=λds r k h hk=>by
 unfold Zh5 at h
 split at h
 case h_2=>cases h
 split at h
 case isFalse=>cases h
 rename_i h2
 rw[XM]at h2
 cases h
 exact⟨_,rfl,of_decide_eq_true h2.1,λd m=>Option.isSome_iff_exists.mp (Bm.mp h2.2 d m),hk⟩
end
end L2
namespace L2
open PySem PySem.Spec PyProof.Rows
section
variable {X:Cx}{io:List Nat}{p p' c c' q r:Bool}{a b e:Expr}{fa fb:FE}{es:List Expr}{ra:FA}{st:Stmt}{sts ss ss':List Stmt}{f g:FS}{ta:FT}
theorem xv(i:Nat){x:Str}{pos:Pos}(hN:X.N[i]? =some x:=by rfl)(hv:Vis X.env.scope x:=by first|exact QF rfl|exact QJ (QF rfl)|exact QJ (QJ rfl))(hd:(x==("__debug__" : Str))=false:=by decide)(he:(x==("__classdict__" : Str))=false:=by decide):ME X io true true (.Name x pos) (o2 (Zd i)):=Z4y (mv i hN hv hd he)
theorem xo(i:Nat){x:Str}{pos:Pos}(hN:X.N[i]? =some x:=by rfl)(hv:Vis X.env.scope x:=by first|exact QF rfl|exact QJ (QF rfl)|exact QJ (QJ rfl))(hd:(x==("__debug__" : Str))=false:=by decide)(he:(x==("__classdict__" : Str))=false:=by decide):ME X io true false (.Name x pos) (o2 (Zef i)):=Z3d (mo i hN hv hd he)
theorem xci{i:Int}{j:Nat}{pos:Pos}:ME X io true true (.Constant (.int i) j pos) (o2 (fC (.int i))):=Ztu Z6t
theorem xix{pos:Pos}(ha:ME X io p c a (o2 fa))(hb:ME X io p' c' b (o2 fb))(hc:p'=true∨c=true:=by first|exact QF rfl|exact QJ rfl)(hs:Zi6 b:=by exact λ_ _=>rfl)(h2:(p&&p')=q:=by rfl)(h3:(c&&c')=r:=by rfl):ME X io q r (.Subscript a b pos) (o2 (Yk gIx fa fb)):=h2▸h3▸Zhu Ydn (Ye2 (Z1o rfl) Z88 ha hb hc (hs:=hs))
theorem xa0:MA X io true true [] (o2 Zm):=Z38 Z25
theorem xa1[NoStar e](ha:ME X io p c e (o2 fa))(h2:(p&&true)=q:=by rfl)(h3:(c&&true)=r:=by rfl):MA X io q r [e] (o2 (Zc fa Zm)):=Ze ha xa0 (.inl rfl) h2 h3
theorem xsq(h:MS X io st (oS f))(k:MSs X io sts (oS g)):MSs X io (st :: sts) (oS (Z0 f g)):=Z5t (Zvw h k)
theorem xst{pos px:Pos}(i:Nat){x:Str}(hN:X.N.Nodup)(he:ME X io p true e (o2 fa))(hi:X.N[i]? =some x:=by rfl)(hx:Loc X.env.scope x:=by first|exact QF rfl|exact QJ rfl)(hio:i∉io:=by decide)(hs:VP e (some (.Name x px)) pos.line X.env=pure false:=by rfl)(hf:X.fn x=true∨X.env.scope.names.lookup x=some .local:=by first|exact .inl rfl|exact .inr rfl|assumption):MS X io (.Assign [.Name x px] e pos) (oS (wE fa (W3 i))):=Z5a (Z3o hN hi hx he hio hs hf)
theorem xrt{pos:Pos}(h:ME X io p true e (o2 fa)):MS X io (.Return (some e) pos) (oS (wE fa J6)):=Z3m (Z55 h)
theorem xg{pos:Pos}(i:Nat){x:Str}(hN:X.N.Nodup)(hi:X.N[i]? =some x:=by rfl)(hx:Loc X.env.scope x:=by first|exact QF rfl|exact QJ rfl)(hio:i∉io:=by decide)(hf:X.fn x=true∨X.env.scope.names.lookup x=some .local:=by first|exact .inl rfl|exact .inr rfl|assumption):MG X io true (.Name x pos) (oG (gNm i)):=Zzy (Z0j hN hi hx hio hf)
theorem xif{pos:Pos}(h:MT X io p e (o2 ta))(k:MSs X io ss (oS f))(l:MSs X io ss' (oS g)):MS X io (.If e ss ss' pos) (oS (Zbn ta f g)):=Z83 (Yaf h k l)
theorem xnl:MSs X io [] (oS fNx):=Z03 Z1l
theorem xtp{pos:Pos}{n:Nat}(h:MA X io p c es (o2 ra)):ME X io p c (.Tuple es n pos) (o2 (Zdt ra)):=Z5l (Z9w h)
theorem xls{pos:Pos}(h:MA X io p c es (o2 ra)):ME X io p c (.List es pos) (o2 (Zcb ra)):=Z4d (Ya4 h)
theorem xil{tg:Expr}(h:ME X io p c e (o2 fa)):MI X io p c tg e (o2 (Zc9 fa)):=Z0v (Z0u h)
theorem xno{pos:Pos}(h:MT X io p e (o2 ta)):MT X io p (.UnaryOp .Not e pos) (o2 (tNo ta)):=Z52 (Z3z h)
theorem Zkt{pos:Pos}(ha:ME X io p c a (o2 fa))(hb:ME X io p' c' b (o2 fb))(hc:p'=true∨c=true:=by first|exact QF rfl|exact QJ rfl)(h2:(p&&p')=q:=by rfl):ME X io q true (.BinOp a .Add b pos) (o2 (Zf Zde fa fb)):=h2▸Zaa Yag (Zpj Z63 Zs9 ha hb hc)
theorem Z2l{pos:Pos}(ha:ME X io p c a (o2 fa))(hb:ME X io p' c' b (o2 fb))(hc:p'=true∨c=true:=by first|exact QF rfl|exact QJ rfl)(h2:(p&&p')=q:=by rfl):ME X io q true (.BinOp a .Sub b pos) (o2 (Zf gSb fa fb)):=h2▸Zaa Z8b (Zpj Z5p Zs9 ha hb hc)
theorem Zow{pos:Pos}(ha:ME X io p c a (o2 fa))(hb:ME X io p' c' b (o2 fb))(hc:p'=true∨c=true:=by first|exact QF rfl|exact QJ rfl)(h2:(p&&p')=q:=by rfl):ME X io q true (.BinOp a .Mult b pos) (o2 (Zf Zfb fa fb)):=h2▸Zaa Yai (Zpj Zyf Z39 ha hb hc)
theorem Zut{pos:Pos}(ha:ME X io p c a (o2 fa))(hb:ME X io p' c' b (o2 fb))(hc:p'=true∨c=true:=by first|exact QF rfl|exact QJ rfl)(h2:(p&&p')=q:=by rfl):ME X io q true (.BinOp a .Mod b pos) (o2 (Zf Zfr fa fb)):=h2▸Zaa Z77 (Zpj Zyb Z4o ha hb hc)
theorem Zw9{pos:Pos}(ha:ME X io p c a (o2 fa))(hb:ME X io p' c' b (o2 fb))(hc:p'=true∨c=true:=by first|exact QF rfl|exact QJ rfl)(h2:(p&&p')=q:=by rfl):ME X io q true (.BinOp a .FloorDiv b pos) (o2 (Zf Za4 fa fb)):=h2▸Zaa Z66 (Zpj Zwo Z4i ha hb hc)
theorem Z2n{pos:Pos}(ha:ME X io p c a (o2 fa))(hb:ME X io p' c' b (o2 fb))(hc:p'=true∨c=true:=by first|exact QF rfl|exact QJ rfl)(h2:(p&&p')=q:=by rfl):ME X io q true (.BinOp a .Pow b pos) (o2 (Zf Zkw fa fb)):=h2▸Zaa Yav (Zpj Zz6 Z4j ha hb hc)
theorem xeq{pos:Pos}(hu:X.A.units+64<U8)(ha:ME X io p c a (o2 fa))(hb:ME X io p' c' b (o2 fb))(hc:p'=true∨c=true:=by first|exact QF rfl|exact QJ rfl)(h2:(p&&p')=q:=by rfl):MT X io q (.Compare a [.Eq] [b] pos) (o2 (tV (Zf gEq fa fb))):=h2▸Zca Ya3 (Zb9 (Zqd hu) Z0o ha hb hc (hm:=Zb4 _))
theorem xne{pos:Pos}(hu:X.A.units+64<U8)(ha:ME X io p c a (o2 fa))(hb:ME X io p' c' b (o2 fb))(hc:p'=true∨c=true:=by first|exact QF rfl|exact QJ rfl)(h2:(p&&p')=q:=by rfl):MT X io q (.Compare a [.NotEq] [b] pos) (o2 (tV (Zf gNe fa fb))):=h2▸Zca Yd3 (Zb9 (Z5s hu) Z8p ha hb hc (hm:=Zb4 _))
theorem xlt{pos:Pos}(ha:ME X io p c a (o2 fa))(hb:ME X io p' c' b (o2 fb))(hc:p'=true∨c=true:=by first|exact QF rfl|exact QJ rfl)(h2:(p&&p')=q:=by rfl):MT X io q (.Compare a [.Lt] [b] pos) (o2 (tV (Zf gLt fa fb))):=h2▸Zca Ydk (Zb9 Zqx Znz ha hb hc (hm:=Zb4 _))
theorem xgt{pos:Pos}(ha:ME X io p c a (o2 fa))(hb:ME X io p' c' b (o2 fb))(hc:p'=true∨c=true:=by first|exact QF rfl|exact QJ rfl)(h2:(p&&p')=q:=by rfl):MT X io q (.Compare a [.Gt] [b] pos) (o2 (tV (Zf gGt fa fb))):=h2▸Zca Ycy (Zb9 Z6i Znz ha hb hc (hm:=Zb4 _))
theorem xge{pos:Pos}(ha:ME X io p c a (o2 fa))(hb:ME X io p' c' b (o2 fb))(hc:p'=true∨c=true:=by first|exact QF rfl|exact QJ rfl)(h2:(p&&p')=q:=by rfl):MT X io q (.Compare a [.GtE] [b] pos) (o2 (tV (Zf gGe fa fb))):=h2▸Zca Ydu (Zb9 Yac Znz ha hb hc (hm:=Zb4 _))
theorem xfr{pos:Pos}{tg:Expr}{it:FI}{gg:FG}(hp:PassesOwn (X5 X.prog X.w) X.A X.env X.xe)(hc:X.calm=true)(hi:MI X io p true tg e (o2 it))(hg:MG X io true tg (oG gg))(hb:MSs X io ss (oS f))(hs:∀x,BK e X.env x=pure x:=by intro _;rfl):MS X io (.For tg e ss [] pos) (oS (Zbw it gg f)):=Z43 (Z4m hp hc hi hg hb hs)
theorem xg2{pos:Pos}{n:Nat}{g1 g2:FG}(hc:X.calm=true)(ha:MG X io true a (oG g1))(hb:MG X io true b (oG g2))(h1:List.map (λx=>x.snd) (JQ [a,b] X.env)=U9 a X.env :: List.map (λx=>x.snd) (JQ [b] X.env):=by rfl)(h2:List.map (λx=>x.snd) (JQ [b] X.env)=U9 b X.env :: List.map (λx=>x.snd) (JQ [] X.env):=by rfl)(h3:(JQ [a,b] X.env).length=2:=by rfl)(h4:List.findIdx? (λx=>x.fst) (JQ [a,b] X.env)=none:=by rfl):MG X io true (.Tuple [a,b] n pos) (oG (gTp 2 (gCn g1 (gCn g2 gNl)))):=Zxw (Zwp (n:=2) hc (Zf0 (Zny ha (Zf0 (Zny hb (Zpo Zso) h2)) h1)) h3 h4)
theorem xso{pos px:Pos}(i:Nat){x:Str}(hN:X.N.Nodup)(he:ME X io p true e (o2 fa))(hi:X.N[i]? =some x:=by rfl)(hx:Loc X.env.scope x:=by first|exact QF rfl|exact QJ rfl)(hio:i∉io:=by decide)(hs:VP e (some (.Name x px)) pos.line X.env=pure false:=by rfl)(hf:X.fn x=true∨X.env.scope.names.lookup x=some .local:=by first|exact .inl rfl|exact .inr rfl|assumption):MS X io (.Assign [.Name x px] e pos) (oS (wE fa (Za1 i))):=Zq3 (Zsr hN hi hx he hio hs hf)
theorem xcl{pos pp:Pos}{k:Nat}{f:Addr}{fd:Qn}{ps:List Str}{x:Str}{F:FD}(G:FnOk X.prog X.w X.K X.mg X.base CX0 k f fd ps (spD X.K (sD F)))(hr:Room k X.A)(hm:X.mg x=some (.ref f))(hk:X3 X.K (.ref f)=true)(hb:Binds X.K fd ps [])(ha:MA X io p c (e :: es) (o2 ra))(hg:Gl X x:=by rfl)(h1:(x==("__debug__" : Str))=false:=by decide)(h2:Xn (e :: es) X.env=(false,eval e X.env) :: Xn es X.env:=by rfl)(h3:((JP pos (Xn es X.env)).any λx=>x.fst)=false:=by rfl):ME X io p c (.Call (.Name x pp) (e :: es) [] pos) (o2 (Z1 F ra)):=Zyn (Z7f G hr hg hm hk hb Za5 ha h1 h2 h3)
theorem xln{pos pp:Pos}(hm:X.mg "len"=none)(ha:MA X io p c [e] (o2 ra))(hg:Gl X "len" :=by rfl)(h2:Xn [e] X.env=(false,eval e X.env) :: Xn [] X.env:=by rfl):ME X io p true (.Call (.Name "len" pp) [e] [] pos) (o2 (Zdk Zji ra)):=Zc3 Yah (Zjl Z4q (Zpv rfl) hg hm L2.B.boot_len ha (by decide) (by decide) h2 (by rfl))
end
noncomputable def tbl(P:List Nat)(led:Bool):Q0:={ mask:=7,place:=P.toArray,dummies:=#[],finger:=0,led,moves:=0,plain:=true }
noncomputable def hT(k:List Int):Int:=reduceHash (Builtin.Tuple.tupleHashOf (k.map hashInt))
noncomputable def hAt(ks:List (List Int))(i:Nat):Int:=(ks[i]?.map hT).getD 0
noncomputable def Zt4(P:List Nat)(j:Nat):List Nat:=((tbl P false).put j).1.place.toList
noncomputable def Zty(P:List Nat)(j:Nat):Nat:=((tbl P false).put j).2
noncomputable def Yep(ks:List (List Int))(p:Nat)(k:List Int):List (List Int):=ks.take p ++ k :: ks.drop p
noncomputable def Z0n(P:List Nat)(ks:List (List Int))(k:List Int):Option (List Nat×List (List Int)) :=
 match(tbl P false).probe (hAt ks) (hT k) ((tbl P false).probeStart (hT k))with
 | some (.empty j none)=>if(tbl (Zt4 P j) false).tooFull=false∧(Zt4 P j).length=ks.length+1∧ks.length≤6∧Zty P j≤ks.length then some (Zt4 P j,Yep ks (Zty P j) k)else none
 | some (.candidate _ i _)=>if ks[i]? =some k then some (P,ks)else none
 | _=>none
noncomputable def grow(K:List (List Int)):Nat->List (List Nat×List (List Int))->List (List Nat×List (List Int))
 | 0,S=>S
 | n+1,S=>grow K n (S ++ (S.flatMap λs=>K.filterMap λk=>Z0n s.1 s.2 k).filter λs=>!S.contains s)
noncomputable def okS(K:List (List Int))(S:List (List Nat×List (List Int))):Bool:=S.all λs=>K.all λk=>match Z0n s.1 s.2 k with
 | some s'=>S.contains s'&&(s'.2.length==if s.2.contains k then s.2.length else s.2.length+1)&&K.all λx=>s'.2.contains x==(s.2.contains x||x==k)
 | none=>false
noncomputable def K2:List (List Int):=[[0,0],[0,1],[1,0],[1,1]]
noncomputable def S2:List (List Nat×List (List Int)):=(grow K2 4 [([],[])]).eraseDups
set_option maxRecDepth 100000 in
theorem Ydv:okS K2 S2=true:=by decide +kernel
section
variable {prog:Qj}{w:Qy}{A:Qv}{E:Xc->Xg->Prop}{s:Xg}
inductive Vk(U:Addr->List Int->Prop):List (List Int)->List (Int×Xc)->Prop
 | nil:Vk U [] []
 | cons {k:List Int} {a:Addr} {ks:List (List Int)} {l:List (Int×Xc)} (h:U a k) (t:Vk U ks l):Vk U (k :: ks) ((hT k,.ref a) :: l)
theorem Vk.len{U:Addr->List Int->Prop}{ks:List (List Int)}{l:List (Int×Xc)}(h:Vk U ks l):ks.length=l.length:=by
 induction h with
 | nil=>rfl
 | cons _ _ ih=>rw[Q6,Q6,ih]
theorem Vk.hash{U:Addr->List Int->Prop}{ks:List (List Int)}{l:List (Int×Xc)}(h:Vk U ks l):l.map (·.1)=ks.map hT:=by
 induction h with
 | nil=>rfl
 | cons _ _ ih=>rw[Qu,Qu,ih]
theorem Vk.get{U:Addr->List Int->Prop}{ks:List (List Int)}{l:List (Int×Xc)}(h:Vk U ks l){i:Nat}{k:List Int}(e:ks[i]? =some k):∃a,l[i]? =some (hT k,.ref a)∧U a k:=by
 induction h generalizing i with
 | nil=>simp at e
 | cons u t ih=>
  cases i with
  | zero=>cases e;exact⟨_,rfl,u⟩
  | succ i=>exact ih e
theorem Vk.all{U:Addr->List Int->Prop}{ks:List (List Int)}{l:List (Int×Xc)}(h:Vk U ks l):∀e∈l,∃a k,e.2= .ref a∧U a k:=by
 induction h with
 | nil=>exact λ_ m=>nomatch m
 | cons u t ih=>
  intro e he
  rcases Xp.mp he with rfl|he
  ·exact⟨_,_,rfl,u⟩
  ·exact ih e he
theorem Vk.app{U:Addr->List Int->Prop}{ks ks':List (List Int)}{l l':List (Int×Xc)}(h:Vk U ks l)(h':Vk U ks' l'):Vk U (ks ++ ks') (l ++ l'):=by
 induction h with
 | nil=>exact h'
 | cons u t ih=>exact .cons u ih
theorem Vk.take{U:Addr->List Int->Prop}{ks:List (List Int)}{l:List (Int×Xc)}(h:Vk U ks l)(p:Nat):Vk U (ks.take p) (l.take p):=by
 induction h generalizing p with
 | nil=>rw[List.take_nil,List.take_nil];exact .nil
 | cons u t ih=>
  cases p with
  | zero=>exact .nil
  | succ p=>exact .cons u (ih p)
theorem Vk.drop{U:Addr->List Int->Prop}{ks:List (List Int)}{l:List (Int×Xc)}(h:Vk U ks l)(p:Nat):Vk U (ks.drop p) (l.drop p):=by
 induction h generalizing p with
 | nil=>rw[List.drop_nil,List.drop_nil];exact .nil
 | cons u t ih=>
  cases p with
  | zero=>exact .cons u t
  | succ p=>exact ih p
theorem Zo4{α:Type}(xs:Array α)(p:Nat)(x:α)(h:p≤xs.size):(Vc xs p x).toList=xs.toList.take p ++ x :: xs.toList.drop p:=by
 unfold Vc
 rw[Array.toList_append,Array.toList_push,Array.toList_extract,Array.toList_extract]
 simp
 rw[Ux (by simp)]
noncomputable def Ts(U:Addr->List Int->Prop)(h:Heap)(S:Addr)(P:List Nat)(ks:List (List Int)):Prop :=
 ∃o es ep led,h.get? S=some o∧o.ExactSet∧o.data= .set es ep (tbl P led)∧P.length=es.size∧es.size≤7∧Vk U ks es.toList
theorem Zm0{P:List Nat}{led:Bool}{n:Nat}(h:P.length=n)(h7:n≤7):(tbl P led).fits n=true:=by
 unfold SetTable.fits tbl Q0.fill
 simp[h,h7]
theorem Zpz(P:List Nat)(led:Bool):(tbl P led).gaveWay=false:=by show((7:Nat)%2==0)=false;decide
theorem Zrh(P:List Nat)(led:Bool)(f:Nat->Int)(h:Int)(p:SetTable.Probe):(tbl P led).probe f h p=(tbl P false).probe f h p:=by
 have key:∀n p,VG (tbl P led) f h n p=VG (tbl P false) f h n p:=λn=>by
  induction n with
  | zero=>exact λ_=>rfl
  | succ n ih=>
   intro p
   rw[VG,VG]
   have e:(tbl P led).slot p.j=(tbl P false).slot p.j:=rfl
   rw[e]
   cases(tbl P false).slot p.j with
   | empty=>rfl
   | dummy=>exact ih _
   | live i=>
    dsimp only
    split
    ·rfl
    ·exact ih _
 exact key _ _
noncomputable abbrev IK(prog:Qj)(w:Qy)(h:Heap)(k:List Int)(a:Addr):Prop:=IsTupleKey (VL prog w) h k a
theorem items_int{ks:List Int}{vs:List Xc}(h:ItemsAre (VL prog w) ks vs):∀v∈vs,∃i t,v= .int i t:=by
 induction h with
 | nil=>exact λ_ m=>nomatch m
 | cons h _ ih=>
  intro v hv
  rcases Xp.mp hv with rfl|hv
  ·obtain⟨t,e⟩:=Value.isInt_shape h
   exact⟨_,t,e⟩
  ·exact ih v hv
theorem Zp8{k:List Int}{a:Addr}{Q:Bool->Xg->Prop}(hk:IK prog w s.heap k a)(h:Q true s):Xu (X5 prog w) A (hashByValue 8 (.ref a)) Q E s:=by
 have hT:=hk.typeIs
 obtain⟨o,its,n,ho,_,hd,hi⟩:=hk
 unfold hashByValue
 refine Xb (wpAny_specialOf hT F.slot_tuple_hash.lookup ?_)
 dsimp only
 refine Xb (Bj ho hd ?_)
 show Xu _ _ (forIn its _ _>>=_) _ _ s
 rw[←Array.forIn_toList]
 refine Xb (wpAny_forIn_list _ (λrest r s'=>r.1=none∧s'=s∧∀v∈rest,∃i t,v=Vy i t) _ ?_ ?_ _ _ ⟨rfl,rfl,items_int hi⟩)
 ·rintro v rest r s' ⟨hr,rfl,hall⟩
  obtain⟨i,t,rfl⟩:=hall v (.head _)
  refine Xb (wpAny_of_eq (show hashByValue 7 (.int i t)=pure true from rfl) ?_)
  simp only[Vb,XC,if_false]
  exact Xi ⟨rfl,rfl,λu hu=>hall u (.tail _ hu)⟩
 ·rintro⟨r1,r2⟩ s' ⟨hr,rfl,_⟩
  simp only at hr
  subst hr
  exact Xi h
theorem Zkd{k:List Int}{a:Addr}{Q:Bool->Xg->Prop}(hk:IK prog w s.heap k a)(h:Q false s):Xu (X5 prog w) A (ofAClassStatement 8 (.ref a)) Q E s:=by
 have hT:=hk.typeIs
 obtain⟨o,its,n,ho,hc,hd,hi⟩:=hk
 unfold ofAClassStatement
 refine Xb (wpAny_typeOf hT ?_)
 dsimp only
 refine Xb (Xi ?_)
 refine Xb (Bj ho hd ?_)
 show Xu _ _ (forIn its _ _>>=_) _ _ s
 rw[←Array.forIn_toList]
 refine Xb (wpAny_forIn_list _ (λrest r s'=>r.1=none∧s'=s∧∀v∈rest,∃i t,v=Vy i t) _ ?_ ?_ _ _ ⟨rfl,rfl,items_int hi⟩)
 ·rintro v rest r s' ⟨hr,rfl,hall⟩
  obtain⟨i,t,rfl⟩:=hall v (.head _)
  refine Xb (wpAny_of_eq (show ofAClassStatement 7 (.int i t)=pure false from rfl) ?_)
  simp only[XC,if_false]
  exact Xi ⟨rfl,rfl,λu hu=>hall u (.tail _ hu)⟩
 ·rintro⟨r1,r2⟩ s' ⟨hr,rfl,_⟩
  simp only at hr
  subst hr
  exact Xi h
theorem Zvi{k:List Int}{a:Addr}{ys:List Xc}{Q:Bool->Xg->Prop}(hk:IK prog w s.heap k a)(hy:∀y∈ys,∃b k',y= .ref b∧IK prog w s.heap k' b)(h:Q false s):Xu (X5 prog w) A (searchCouldBeSeen (.ref a) ys) Q E s:=by
 unfold searchCouldBeSeen
 refine Xb (wpAny_forIn_list _ (λrest r s'=>r.1=none∧s'=s∧∀y∈rest,∃b k',y=XX b∧IK prog w s.heap k' b) _ ?_ ?_ _ _ ⟨rfl,rfl,hy⟩)
 ·rintro y rest r s' ⟨hr,rfl,hall⟩
  obtain⟨b,k',rfl,hb⟩:=hall y (.head _)
  dsimp only
  split
  ·exact Xi ⟨rfl,rfl,λu hu=>hall u (.tail _ hu)⟩
  ·refine Xb (wpAny_eqIsQuiet_tuple hk ?_)
   simp only[Vb,XC,if_false]
   refine Xb (wpAny_eqIsQuiet_tuple hb ?_)
   simp only[Vb,XC,if_false]
   refine Xb (Zkd hk ?_)
   simp only[XC,if_false]
   refine Xb (Zkd hb ?_)
   simp only[XC,if_false]
   exact Xi ⟨rfl,rfl,λu hu=>hall u (.tail _ hu)⟩
 ·rintro⟨r1,r2⟩ s' ⟨hr,rfl,_⟩
  simp only at hr
  subst hr
  exact Xi h
theorem Vk.at{U:Addr->List Int->Prop}{ks:List (List Int)}{es:Array (Int×Xc)}(h:Vk U ks es.toList)(i:Nat):(es[i]?.map (·.1)).getD 0=hAt ks i:=by
 unfold hAt
 rw[←Xl,←h.hash,Xl,QK]
theorem Zrj{U:Addr->List Int->Prop}{ks:List (List Int)}{es:Array (Int×Xc)}{P:List Nat}{led:Bool}{h:Int}{m:Option Q0.Met}(hk:Vk U ks es.toList)(hp:(tbl P false).probe (hAt ks) h ((tbl P false).probeStart h)=m)(f:Nat->Int)(hf:∀i,f i=(es[i]?.map (·.1)).getD 0):(tbl P led).probe f h ((none:Option SetTable.Probe).getD ((tbl P led).probeStart h))=m:=by
 have e:f=hAt ks:=funext λi=>(hf i).trans (hk.at i)
 rw[e,Zrh];exact hp
theorem Zoo{U:Addr->List Int->Prop}{S:Addr}{o:Obj}{es:Array (Int×Xc)}{ep:Nat}{P:List Nat}{led:Bool}{ks:List (List Int)}{x:Xc}{h:Int}{j:Nat}{Q:SetFound->Xg->Prop}(ho:s.heap.get? S=some o)(hd:o.data= .set es ep (tbl P led))(hf:(tbl P led).fits es.size=true)(hk:Vk U ks es.toList)
  (hp:(tbl P false).probe (hAt ks) h ((tbl P false).probeStart h)=some (.empty j none)) (q:Q (.free j false) s):Xu (X5 prog w) A (setSearch S x h true) Q E s:=by
 unfold setSearch setSearchFrom
 refine Xb (JV ho hd hf ?_)
 dsimp only
 rw[Zpz]
 simp only[XC,if_false]
 rw[Zrj hk hp]
 ·exact Xi q
 ·exact λi=>rfl
theorem Zou{U:Addr->List Int->Prop}{S a:Addr}{o:Obj}{es:Array (Int×Xc)}{ep:Nat}{P:List Nat}{led:Bool}{ks:List (List Int)}{k:List Int}{j i:Nat}{nx:SetTable.Probe}{Q:SetFound->Xg->Prop}(hu:A.units<U8)(ho:s.heap.get? S=some o)(hd:o.data= .set es ep (tbl P led))(hf:(tbl P led).fits es.size=true)(hk:Vk U ks es.toList)
  (hG:∀a k,U a k->IK prog w s.heap k a) (ha:U a k) (hp:(tbl P false).probe (hAt ks) (hT k) ((tbl P false).probeStart (hT k))=some (.candidate j i nx)) (hi:ks[i]? =some k) (q:Q (.there none) s):Xu (X5 prog w) A (setSearch S (.ref a) (hT k) true) Q E s:=by
 unfold setSearch setSearchFrom
 refine Xb (JV ho hd hf ?_)
 dsimp only
 rw[Zpz]
 simp only[XC,if_false]
 rw[Zrj hk hp]
 rotate_left
 ·exact λi=>rfl
 dsimp only
 obtain⟨b,eb,ub⟩:=hk.get hi
 rw[QK]at eb
 have fin:Xu (X5 prog w) A (holding [XX b] (eqBool (.ref b) (.ref a))) (λv s'=>v=true∧s'=s) E s:=JM (wpAny_eqBool_tuple hu (hG b k ub) (hG a k ha) ⟨decide_eq_true rfl,rfl⟩)
 cases led with
 | true=>
  simp only[show(tbl P true).led=true from rfl,Vb,XC,if_false]
  rw[eb]
  refine Xb (thn fin λv s' z=>?_)
  obtain⟨rfl,rfl⟩:=z
  refine Xb (JV ho hd hf ?_)
  dsimp only
  rw[if_pos (show(true&&true)=true from rfl)]
  exact Xi q
 | false=>
  simp only[show(tbl P false).led=false from rfl,Bool.not_false,if_true]
  refine Xb (Zvi (hG a k ha) (λy hy=>?_) ?_)
  ·obtain⟨e,he,rfl⟩:=XF.mp hy
   have he':e∈es.toList:=by
    rw[Array.toList_filter]at he
    exact(BJ.mp he).1
   obtain⟨b,k',eb,ub⟩:=hk.all e he'
   exact⟨b,k',eb,hG b k' ub⟩
  ·simp only[XC,if_false]
   rw[eb]
   refine Xb (thn fin λv s' z=>?_)
   obtain⟨rfl,rfl⟩:=z
   refine Xb (JV ho hd hf ?_)
   dsimp only
   rw[if_pos (show(true&&true)=true from rfl)]
   exact Xi q
theorem Z8z(P:List Nat)(led:Bool)(j:Nat):(tbl P led).put j=(tbl (Zt4 P j) led,Zty P j):=rfl
theorem Z76{U:Addr->List Int->Prop}{S a:Addr}{P P':List Nat}{ks ks':List (List Int)}{k:List Int}{Q:Bool->Xg->Prop}(hu:A.units<U8)(hS:Ts U s.heap S P ks)(hG:∀a k,U a k->IK prog w s.heap k a)(ha:U a k)(hadd:Z0n P ks k=some (P',ks'))
  (q:∀v h' tk,Bh S s.heap h'->Ts U h' S P' ks'->Q v { s with heap:=h',toks:=tk }):Xu (X5 prog w) A (setAdd S (.ref a)) Q E s:=by
 obtain⟨o,es,ep,led,ho,hex,hd,lP,l7,hk⟩:=hS
 have hf:=Zm0 (led:=led) lP l7
 have lk:ks.length=es.size:=hk.len.trans Qc
 unfold setAdd
 refine JM (Xb (wpAny_pyHash_tuple hu (hG a k ha) ?_))
 show Xu _ _ (setAddHashed S (.ref a) (hT k)) Q E _
 unfold setAddHashed setAddHashedIn
 refine JM (Xb (JV ho hd hf ?_))
 dsimp only
 rw[show byScan (.ref a) es=false from rfl]
 simp only[XC,if_false]
 unfold Z0n at hadd
 split at hadd
 ·rename_i j hp
  split at hadd
  ·rename_i c
   obtain⟨c1,c2,c3,c4⟩:=c
   cases hadd
   refine Xb (Zoo ho hd hf hk hp ?_)
   dsimp only
   refine Xb (JV ho hd hf ?_)
   dsimp only
   rw[Z8z]
   dsimp only
   have pl:(tbl (Zt4 P j) led).plain=true:=rfl
   rw[pl,if_pos rfl]
   refine Xb (Zp8 (s:={ s with toks:=s.toks+(k.length+1) }) (hG a k ha) ?_)
   rw[if_pos rfl]
   have sz:(Vc es (Zty P j) (hT k,XX a)).toList=es.toList.take (Zty P j) ++ (hT k,XX a) :: es.toList.drop (Zty P j):=Zo4 es _ _ (by omega)
   have szl:(Vc es (Zty P j) (hT k,XX a)).size=es.size+1:=by
    rw[←Qc,sz,Qd,Q6,List.length_take,VJ,Qc];omega
   refine Xb (wpAny_storeSet_of ho hd ?_ (by rw[szl,Qh];omega))
   have tf:(tbl (Zt4 P j) led).tooFull=false:=c1
   rw[tf]
   simp only[Bool.and_false,XC,if_false]
   have hg:(s.heap.update S (Obj.putSet (Vc es (Zty P j) (hT k,XX a)) (tbl (Zt4 P j) led))).get? S=some { o with data:=.set (Vc es (Zty P j) (hT k,XX a)) (ep+1) (tbl (Zt4 P j) led) }:=by
    have:=V4 (Obj.putSet (Vc es (Zty P j) (hT k,XX a)) (tbl (Zt4 P j) led)) ho (by rw[putSet_of _ _ hd];rfl)
    rw[putSet_of _ _ hd]at this
    exact this
   refine Xi (q true _ _ (JC ..) ⟨_,_,_,led,hg,hex,rfl,by rw[szl];omega,by rw[szl];omega,?_⟩)
   rw[sz]
   exact(hk.take _).app (.cons ha (hk.drop _))
  ·cases hadd
 ·rename_i j i nx hp
  split at hadd
  ·rename_i c
   cases hadd
   refine Xb (Zou (s:={ s with toks:=s.toks+(k.length+1) }) hu ho hd hf hk hG ha hp c ?_)
   exact Xi (q false s.heap _ (Heap.SameBut.refl ..) ⟨o,es,ep,led,ho,hex,hd,lP,l7,hk⟩)
  ·cases hadd
 ·cases hadd
noncomputable def Zqu:List Nat×List (List Int)->List (List Int)->Option (List Nat×List (List Int))
 | st,[]=>some st
 | st,k :: r=>(Z0n st.1 st.2 k).bind λst'=>Zqu st' r
end
section
variable {prog:Qj}{w:Qy}{A:Qv}{R:Result->Xg->Prop}{I:Addr}{fp wr:List Addr}{n:Nat}{Pv:Nat->Xc->Prop}{St:Nat->Heap->Prop}
theorem Z7e(W:Walks prog w A.in1 I fp wr n Pv St)(S:Addr)(sf:S∉fp)(hu:A.units+8<U8){U:Addr->List Int->Prop}(hU:∀a k,U a k->a≠S∧a∉wr)(kss:List (List Int))(ln:kss.length=n)(hv:∀i v,Pv i v->∃a k,v= .ref a∧kss[i]? =some k∧U a k) :
  ∀(m i:Nat) (s:Xg) (P P':List Nat) (ks ks':List (List Int)),n-i=m->i≤n->St i s.heap->Ts U s.heap S P ks->(∀a k,U a k->IK prog w s.heap k a)->Zqu (P,ks) (kss.drop i)=some (P',ks') ->
  (∀ h' tk,Ts U h' S P' ks'->(∀b o,b∉wr->b≠S->s.heap.get? b=some o->h'.get? b=some o)->R (.ok (.ret .none)) { s with heap:=h',toks:=tk }) ->
  U7 (X5 prog w) A (.builtin "set.update.loop" ⟨[.ref S,.ref I],[]⟩) R s:=by
 have sw:S∉wr:=λh=>sf (W.sub _ h)
 intro m
 induction m with
 | zero=>
  intro i s P P' ks ks' em ei st hS hG hr r
  have en:i=n:=by omega
  refine Bc Uz ?_;rw[JT Vm _]
  show Xu _ A.in1 (Ua (.ref I)>>=_) _ _ _
  refine Xb (W.done s _ _ (en▸st) λh' tk kp=>?_)
  show Xu _ A.in1 (ret QD) _ _ { s with heap:=h',toks:=tk }
  rw[VN (by omega)]at hr
  cases hr
  obtain⟨o,es,ep,led,ho,rest⟩:=hS
  exact Xi (r h' tk ⟨o,es,ep,led,kp S _ sw ho,rest⟩ λb o nb _ e=>kp b o nb e)
 | succ m ih=>
  intro i s P P' ks ks' em ei st hS hG hr r
  have lt:i<n:=by omega
  refine Bc Uz ?_;rw[JT Vm _]
  show Xu _ A.in1 (Ua (.ref I)>>=_) _ _ _
  refine Xb (W.item i s _ _ lt st λv h' tk pv st' kp=>?_)
  obtain⟨a,k,rfl,ek,ua⟩:=hv i v pv
  show Xu _ A.in1 (holding [XX a] (setAdd S (.ref a))>>=_) _ _ { s with heap:=h',toks:=tk }
  have hG':∀a k,U a k->IK prog w h' k a:=λa k u=>by
   obtain⟨o,its,c,ho,rest⟩:=hG a k u
   exact⟨o,its,c,kp a o (hU a k u).2 ho,rest⟩
  have hS':Ts U h' S P ks:=by
   obtain⟨o,es,ep,led,ho,rest⟩:=hS
   exact⟨o,es,ep,led,kp S _ sw ho,rest⟩
  obtain⟨hi,e2⟩:=Xo.mp ek
  rw[BL hi,e2,Zqu]at hr
  obtain⟨⟨P1,ks1⟩,ha,hr⟩:=Option.bind_eq_some_iff.mp hr
  refine Xb (JM (Z76 (s:={ s with heap:=h',toks:=tk }) (A:=A.in1) (show A.units+1<U8 by omega) hS' hG' ua ha λv h2 tk2 sb hS2=>?_))
  have k2:∀b o,b≠S->h'.get? b=some o->h2.get? b=some o:=λb o nS e=>by rw[sb.2 b nS];exact e
  refine Xi ⟨V7 Vm _,ih (i+1) _ P1 P' ks1 ks' (by omega) lt (W.frame _ _ _ st' λb bf o e=>k2 b o (λh:b=S=>sf (by rw[←h];exact bf)) e) hS2 (λa k u=>?_) hr λh3 tk3 hS3 kp3=>?_⟩
  ·obtain⟨o,its,c,ho,rest⟩:=hG' a k u
   exact⟨o,its,c,k2 a o (hU a k u).1 ho,rest⟩
  ·exact r h3 tk3 hS3 λb o nb nS e=>kp3 b o nb nS (k2 b o nS (kp b o nb e))
end
section
variable {prog:Qj}{w:Qy}{A:Qv}{E:Xc->Xg->Prop}{s:Xg}
theorem Z0k{l:Addr}{its:Array Xc}{kss ks':List (List Int)}{P':List Nat}{led:Bool}{Q:Xc->Xg->Prop}(hh:A.handled=none)(hu:A.units+24<U8)(hl:s.heap.IsList l its)(ln:kss.length=its.size)
  (hv:∀(i:Nat) (v:Xc),its[i]? =some v->∃a k,v=XX a∧kss[i]? =some k∧IK prog w s.heap k a) (hr:Zqu ([],[]) kss=some (P',ks'))
  (q:∀h' tk o es ep led,h'.get? s.heap.objs.size=some o->o.ExactSet->o.data= .set es ep (tbl P' led)->(tbl P' led).fits es.size=true->es.size=ks'.length->(∀b o,b<s.heap.objs.size->s.heap.get? b=some o->h'.get? b=some o)->Q .none { s with heap:=h',toks:=tk }) :
  Xu (X5 prog w) A (Va.«set.__init__» ⟨[XX s.heap.objs.size,XX l],[]⟩) (λfin s'=>∃v,fin= .done (.ret v)∧Q v s') E { s with heap:=s.heap.push { cls:=.type "set",dict:=none,data:=.set #[] 0 (.fresh 0 0 led) } }:=by
 obtain⟨ol,hol,hcl,nl,hdl⟩:=id hl
 obtain⟨ocls,odict,odata,oslots⟩:=ol
 simp only at hcl hdl
 subst hcl hdl
 have ho':(s.heap.push { cls:=.type "set",dict:=none,data:=.set #[] 0 (.fresh 0 0 led) }).get? l=some { cls:=.type "list",dict:=odict,data:=.seq its nl,slots:=oslots }:=Xf _ hol
 have gS:(s.heap.push { cls:=.type "set",dict:=none,data:=.set #[] 0 (.fresh 0 0 led) }).get? s.heap.objs.size=some { cls:=.type "set",dict:=none,data:=.set #[] 0 (.fresh 0 0 led) }:=Xv _ rfl
 have hT:Shared.TypeIs { s with heap:=s.heap.push { cls:=.type "set",dict:=none,data:=.set #[] 0 (.fresh 0 0 led) } } (.ref s.heap.objs.size) "set" :=⟨_,gS,rfl⟩
 have h1:=F.sub_list_set
 have h2:=F.sub_list_frozenset
 have h3:(Value.type "list"==Value.type "dict")=false:=by decide
 have hl1:(s.heap.push { cls:=.type "set",dict:=none,data:=.set #[] 0 (.fresh 0 0 led) }).IsList l its:=⟨_,ho',rfl,nl,rfl⟩
 unfold Va.«set.__init__» noKeywords Builtin.Frozenset.updateFrom
 generalize hPI:pyIter=PI
 wp_walk
 subst hPI
 refine wpAny_pyIter_list hl1 (Xb (wpAny_runValue ?_))
 have lS:l<s.heap.objs.size:=Xx hol
 have below:∀a k,(∃i:Nat,its[i]? =some (XX a)∧kss[i]? =some k∧IK prog w s.heap k a)->a<s.heap.objs.size:=λa k u=>by
  obtain⟨_,_,_,o,_,_,ho,_⟩:=u
  exact Xx ho
 refine Z7e (U:=λa k=>∃i:Nat,its[i]? =some (XX a)∧kss[i]? =some k∧IK prog w s.heap k a) (Walks.list (by simpa using hh) _ l ?hne its) s.heap.objs.size ?sf ?hu ?hU kss ln (λi v hiv=>?hv) its.size 0 _ [] P' [] ks' (by omega) (QC _) ⟨⟨_,Xv _ rfl,rfl,rfl⟩,hl1.push _⟩ ⟨_,#[],0,led,Xf _ gS,⟨rfl,rfl,rfl⟩,rfl,rfl,QC _,.nil⟩ ?hG hr ?hR
 case hne=>rw[Qx];exact XQ (Q8 lS)
 case sf=>
  rw[Qx]
  intro m
  rcases Xp.mp m with e|m
  ·exact XQ (Qz _) e
  ·exact Q3 lS (Xj.mp m)
 case hu=>show A.units+8<U8;omega
 case hU=>
  intro a k u
  have:=below a k u
  refine⟨XQ this,λm=>?_⟩
  rw[Qx]at m
  exact XQ (Q8 this) (Xj.mp m)
 case hv=>
  obtain⟨a,k,rfl,ek,ik⟩:=hv i v hiv
  exact⟨a,k,rfl,ek,i,hiv,ek,ik⟩
 case hG=>
  intro a k u
  obtain⟨_,_,_,o,i2,c,ho,rest⟩:=u
  exact⟨o,i2,c,Xf _ (Xf _ ho),rest⟩
 case hR=>
  intro h' tk hS kp
  obtain⟨o,es,ep,led',ho,hex,hd,lP,l7,hk⟩:=hS
  refine Xi ?_;show Xu _ _ (ret QD) _ _ { s with heap:=h',toks:=tk }
  refine Xi ⟨_,rfl,q h' tk o es ep led' ho hex hd (Zm0 lP l7) (hk.len.trans Qc).symm λb o lb e=>?_⟩
  refine kp b o (λm=>?_) (XQ lb) (Xf _ (Xf _ e))
  rw[Qx]at m
  exact XQ (Q8 lb) (Xj.mp m)
theorem Zrg{l:Addr}{its:Array Xc}{kss ks':List (List Int)}{P':List Nat}{Q:Xc->Xg->Prop}(hh:A.handled=none)(hu:A.units+32<U8)(hl:s.heap.IsList l its)(ln:kss.length=its.size)
  (hv:∀(i:Nat) (v:Xc),its[i]? =some v->∃a k,v=XX a∧kss[i]? =some k∧IK prog w s.heap k a) (hr:Zqu ([],[]) kss=some (P',ks'))
  (q:∀h' tk o es ep led,h'.get? s.heap.objs.size=some o->o.ExactSet->o.data= .set es ep (tbl P' led)->(tbl P' led).fits es.size=true->es.size=ks'.length->(∀b o,b<s.heap.objs.size->s.heap.get? b=some o->h'.get? b=some o)->Q (XX s.heap.objs.size) { s with heap:=h',toks:=tk }) :
  Xu (X5 prog w) A (call (.type "set") [XX l]) Q E s:=by
 obtain⟨c,tl,e0⟩:=JR.mro
 have e1:=JR.made
 have e2:=JR.sub
 refine wpAny_call (codeAny_of_tree ?_);show Xu _ _ (callAny (.type "set") _) _ _ _
 refine Xi ⟨Code.quiet_builtin _ (by decide +kernel),Bc F.entry_type_call ?_⟩;rw[Around.under_plain (weight_type_call_type "set" [XX l] []) rfl]
 have e3:=JR.notType
 have e4:=JR.canCreate
 have e5:=F.typeCall_set_1 (XX l)
 repeat any_goals first|assumption|wp_step
 refine Ui (code_set_new_1 (XX l) (E:=E) (Q₁:=λobj s1=>∃led:Bool,obj=XX s.heap.objs.size∧s1={ s with heap:=s.heap.push { cls:=.type "set",dict:=none,data:=.set #[] 0 (.fresh 0 0 led) } }) λled=>⟨led,rfl,rfl⟩) λr s1 r1=>?_
 cases r with
 | error e=>exact r1
 | ok fl=>
  cases fl with
  | ret obj=>
   obtain⟨led,rfl,rfl⟩:=r1
   have gS:(s.heap.push { cls:=.type "set",dict:=none,data:=.set #[] 0 (.fresh 0 0 led) }).get? s.heap.objs.size=some { cls:=.type "set",dict:=none,data:=.set #[] 0 (.fresh 0 0 led) }:=Xv _ rfl
   have hT:Shared.TypeIs { s with heap:=s.heap.push { cls:=.type "set",dict:=none,data:=.set #[] 0 (.fresh 0 0 led) } } (XX s.heap.objs.size) "set" :=⟨_,gS,rfl⟩
   have e6:=JR.init.lookup
   have e7:=JR.init.bind (XX s.heap.objs.size)
   repeat any_goals first|assumption|wp_step
   refine Ui (codeAny_call_builtin (R:=wants (λr s2=>r= .none∧∃h' tk o es ep led,s2={ s with heap:=h',toks:=tk }∧h'.get? s.heap.objs.size=some o∧o.ExactSet∧o.data= .set es ep (tbl P' led)∧(tbl P' led).fits es.size=true∧es.size=ks'.length∧∀b o,b<s.heap.objs.size->s.heap.get? b=some o->h'.get? b=some o) E) JR.init.plain F.entry_set_init (check_set_init_1 hT ?_)) λr2 s2 hr2=>?_
   ·refine QG (Z0k (by simpa using hh) (show _+24<U8 by dsimp only;omega) hl ln hv hr (Q:=λr s2=>r= .none∧∃h' tk o es ep led,s2={ s with heap:=h',toks:=tk }∧h'.get? s.heap.objs.size=some o∧o.ExactSet∧o.data= .set es ep (tbl P' led)∧(tbl P' led).fits es.size=true∧es.size=ks'.length∧∀b o,b<s.heap.objs.size->s.heap.get? b=some o->h'.get? b=some o) λh' tk o es ep led a1 a2 a3 a4 a5 a6=>⟨rfl,h',tk,o,es,ep,led,rfl,a1,a2,a3,a4,a5,a6⟩) (λfin s' hf=>?_) λ_ _ x=>x
    obtain⟨v,rfl,hq⟩:=hf
    exact hq
   ·cases r2 with
    | error e=>exact hr2
    | ok fl2=>
     cases fl2 with
     | ret r=>
      obtain⟨rfl,h',tk,o,es,ep,led,rfl,a1,a2,a3,a4,a5,a6⟩:=hr2
      repeat any_goals first|assumption|wp_step
      exact q h' tk o es ep led a1 a2 a3 a4 a5 a6
     | _=>exact hr2.elim
  | _=>exact r1.elim
end
noncomputable def tupI(k:List Int):Xa:=.tuple (k.map Xm)
inductive Z00(H:Hp):List V->List (List Int)->Prop
 | nil:Z00 H [] []
 | cons {a:Addr} {k:List Int} {xs:List V} {ks:List (List Int)} (h:H a=some (.tup (k.map V.int))) (t:Z00 H xs ks):Z00 H (.ref a :: xs) (k :: ks)
theorem Zwm{G:Xd}{H:Hp}{L:Addr->Prop}{kss:List (List Int)}:∀{xs:List V},Das G H L xs (kss.map tupI)->Z00 H xs kss:=by
 induction kss with
 | nil=>
  intro xs h
  cases h
  exact .nil
 | cons k kss ih=>
  intro xs h
  cases h with
  | cons h t=>
   generalize e:tupI k=d at h
   cases h with
   | tup e1 r=>
    cases e
    rw[r.int_inv]at e1
    exact .cons e1 (ih t)
   | _=>cases e
theorem Z07{G:Xd}{H:Hp}{L:Addr->Prop}{v:V}{kss:List (List Int)}(h:Da G H L v (.list (kss.map tupI))):∃a xs,v= .ref a∧SqL G H a xs∧Z00 H xs kss:=by
 generalize e:Bd (kss.map tupI)=d at h
 cases h with
 | lst l e1 r=>
  cases e
  exact⟨_,_,rfl,.inl e1,Zwm r⟩
 | scr k=>
  rename_i a ms
  have e':=PyData.list.inj e
  have hn:ms=[]:=by
   cases ms with
   | nil=>rfl
   | cons m ms=>
    cases kss with
    | nil=>cases e'
    | cons k kss=>cases(List.cons.inj e').1
  subst hn
  have hk:kss=[]:=by
   cases kss with
   | nil=>rfl
   | cons k kss=>cases e'
  subst hk
  obtain⟨a',e2,hs⟩:=Da.ints_sq (L:=λ_=>True) (Da.scr (H:=H) k)
  cases e2
  exact⟨_,_,rfl,hs,.nil⟩
 | _=>cases e
theorem Zor{prog:Qj}{w:Qy}:∀{k:List Int} {its:List Xc},Vals (k.map V.int) its->ItemsAre (VL prog w) k its:=fun{k}=>by
 induction k with
 | nil=>
  intro its h
  cases h
  exact .nil
 | cons i k ih=>
  intro its h
  cases h with
  | cons h t=>
   obtain⟨t0,rfl⟩:=h
   exact .cons (intKind_is prog w i t0) (ih t)
section
variable {X:Cx}{p c:Bool}{io:List Nat}{a e:Expr}{pos pos' pl pr:Pos}{t:TA}{mr:MAt}{ra:FA}
theorem Zyj{pins:List (Addr×Obj)}{σ:St}{H:Hp}{s:Xg}(I:Inv X pins σ H s){xs:List V}{kss:List (List Int)}(h:Z00 H xs kss):∀{its:List Xc},Vals xs its->its.length=kss.length∧∀(i:Nat) (v:Xc),its[i]? =some v->∃a k,v=XX a∧kss[i]? =some k∧IK X.prog X.w s.heap k a:=by
 induction h with
 | nil=>
  intro its r
  cases r
  exact⟨rfl,λi v e=>by simp at e⟩
 | cons h t ih=>
  intro its r
  cases r with
  | cons r rr=>
   cases r
   obtain⟨l,g⟩:=ih rr
   refine⟨by rw[Q6,Q6,l],λi v e=>?_⟩
   cases i with
   | zero=>
    cases e
    obtain⟨its',rv,pl,_⟩:=I.tuple (.inl (.inl h))
    obtain⟨o,ho,hc,n,hd⟩:=(show s.heap.IsTuple _ its'.toArray from pl)
    exact⟨_,_,rfl,rfl,o,its'.toArray,n,ho,hc,hd,Zor rv⟩
   | succ i=>exact g i v e
noncomputable def Ydy(K:Xd)(t:TA):TE:=λσ H Q=>t σ H λvs H1=>∃(l:Addr) (xs:List V) (kss:List (List Int)) (P':List Nat) (ks':List (List Int)),vs=[.ref l]∧SqL K H1 l xs∧Z00 H1 xs kss∧Zqu ([],[]) kss=some (P',ks')∧Q (.int ks'.length) H1
theorem Zph(hc:X.calm=true)(hu:X.A.units+64<U8)(hgl:Gl X "len")(hml:X.mg "len"=none)(hvl:X8 "len"=some (.builtin "len"))(hg:Gl X "set")(hm:X.mg "set"=none)(hv:X8 "set"=some (.type "set"))(ha:PA X [a] t)
  (he:Xn [a] X.env=(false,eval a X.env) :: Xn [] X.env:=by rfl) (hpl:(JP pos' (Xn [] X.env)).any (·.1)=false:=by rfl)
  (he':Xn [.Call (.Name "set" pr) [a] [] pos'] X.env=(false,eval (.Call (.Name "set" pr) [a] [] pos') X.env) :: Xn [] X.env:=by rfl) (hpl':(JP pos (Xn [] X.env)).any (·.1)=false:=by rfl) :
  PE X (.Call (.Name "len" pl) [.Call (.Name "set" pr) [a] [] pos'] [] pos) (Ydy X.K t):=by
 intro pins s σ H Q I h
 refine Ba (Zct I hgl hml hvl ?_ (by decide) (by decide))
 refine Uo ?_ he' hpl'
 rw[he']
 show Xu _ _ (spliced ((false,eval (.Call (.Name "set" pr) [a] [] pos') X.env) :: JP pos (Xn [] X.env))) _ _ s
 have inner:Xu (X5 X.prog X.w) X.A (eval (.Call (.Name "set" pr) [a] [] pos') X.env) (λu s2=>∃(S:Addr) (o:Obj) (es:Array (Int×Xc)) (ep:Nat) (P':List Nat) (led:Bool) (H1:Hp),u=XX S∧s2.heap.get? S=some o∧o.ExactSet∧o.data= .set es ep (tbl P' led)∧(tbl P' led).fits es.size=true∧Inv X pins σ H1 s2∧Q (.int es.size) H1) X.xe s:=by
  refine Ba (Zct I hg hm hv ?_ (by decide) (by decide))
  refine JH (thn (ha pos' pins s σ H _ I h) λus s1 qz=>?_) he hpl
  obtain⟨vs,H1,I1,r1,l,xs,kss,P',ks',rfl,hs,ht,hr,q⟩:=qz
  obtain⟨u,rfl,ru⟩:=vals1 r1
  cases(show u=XX l from ru)
  obtain⟨its,rv,pl,hz⟩:=I1.list hs
  obtain⟨ll,g⟩:=Zyj I1 ht rv
  refine Zrg (its:=its.toArray) (I1.ok.hd hc) (by omega) pl.isList (by simp[ll]) (λi v e=>g i v (by simpa using e)) hr λh' tk o es ep led a1 a2 a3 a4 a5 a6=>?_
  exact⟨_,o,es,ep,P',led,H1,rfl,a1,a2,a3,a4,I1.kept (t':=tk) (λb u e=>a6 b u (Xx e) e),by rw[a5];exact q⟩
 refine Calls.spliced_cons (thn inner λu s2 qz=>?_)
 obtain⟨S,o,es,ep,P',led,H1,rfl,ho,hex,hd,hf,I2,q⟩:=qz
 refine Calls.spliced_nil ?_
 have l7:es.size≤7:=by
  unfold SetTable.fits at hf
  rw[XM,beq_iff_eq,decide_eq_true_eq]at hf
  have e:(tbl P' led).fill=(tbl P' led).place.size:=rfl
  have:=hf.2
  rw[e,hf.1]at this
  exact this
 exact call_len_set ho hex hd hf (by omega) ⟨.int es.size,H1,I2.kept (h':=s2.heap) (λb o e=>e),⟨_,rfl⟩,q⟩
noncomputable def Zmq(mr:MAt):MEt:=λδ K=>mr δ λrs δ'=>n1 (λd=>∃(kss:List (List Int)) (P':List Nat) (ks':List (List Int)),d= .list (kss.map tupI)∧Zqu ([],[]) kss=some (P',ks')∧K (.fz (.int ks'.length)) δ') (OT.datas rs)
theorem Zrq(hc:X.calm=true)(hu:X.A.units+64<U8)(hgl:Gl X "len")(hml:X.mg "len"=none)(hvl:X8 "len"=some (.builtin "len"))(hg:Gl X "set")(hm:X.mg "set"=none)(hv:X8 "set"=some (.type "set"))(ha:MA X io p c [a] mr)
  (he:Xn [a] X.env=(false,eval a X.env) :: Xn [] X.env:=by rfl) (hpl:(JP pos' (Xn [] X.env)).any (·.1)=false:=by rfl)
  (he':Xn [.Call (.Name "set" pr) [a] [] pos'] X.env=(false,eval (.Call (.Name "set" pr) [a] [] pos') X.env) :: Xn [] X.env:=by rfl) (hpl':(JP pos (Xn [] X.env)).any (·.1)=false:=by rfl) :
  ME X io p true (.Call (.Name "len" pl) [.Call (.Name "set" pr) [a] [] pos'] [] pos) (Zmq mr):=by
 obtain⟨_,A,s⟩:=ha
 refine⟨_,Zph hc hu hgl hml hvl hg hm hv A he hpl he' hpl',λC H σ δ fp ex K Q R h kk=>s C H σ δ fp ex _ _ R h λH1 vs rs δ1 fp1 new r1 h1=>?_⟩
 obtain⟨v,d,rfl,e2,q,kss,P',ks',e,hr,h2⟩:=(r1.das R).one h1
 subst e
 obtain⟨l,xs,rfl,hs,ht⟩:=Z07 q
 exact⟨l,xs,kss,P',ks',rfl,hs,ht,hr,kk _ _ _ δ1 fp1 [] (.fz r1.base r1.stp (.int _)) h2⟩
noncomputable def Zsm:List Xa->Option (List (List Int))
 | []=>some []
 | .tuple ds :: r=>(Zdc ds).bind λk=>(Zsm r).bind λks=>some (k :: ks)
 | _ :: _=>none
theorem Zt8{es:List Xa}{kss:List (List Int)}(h:Zsm es=some kss):es=kss.map tupI:=by
 induction es generalizing kss with
 | nil=>cases h;rfl
 | cons d r ih=>
  cases d with
  | tuple ds=>
   rw[Zsm]at h
   obtain⟨k,h1,h⟩:=bs h
   obtain⟨ks,h2,h⟩:=bs h
   cases h
   rw[Qu,←ih h2,Zcx h1];rfl
  | _=>cases h
theorem Ztg(kss:List (List Int)):Zsm (kss.map tupI)=some kss:=by
 induction kss with
 | nil=>rfl
 | cons k kss ih=>
  rw[Qu]
  show(Zdc (k.map Xm)).bind _=_
  rw[Zcm,Xh,ih,Xh]
noncomputable def Yap(ds:List Xa):Option (List Xa):=match ds with|[.list es]=>some es|_=>none
theorem Zz5{ds es:List Xa}(h:Yap ds=some es):ds=[.list es]:=by
 unfold Yap at h
 split at h
 ·cases h;rfl
 ·cases h
noncomputable def Zf5(a:FA):FE:=λδ=>(a δ).bind λp=>(Yap (OT.datas p.1)).bind λes=>(Zsm es).bind λkss=>(Zqu ([],[]) kss).bind λr=>some (.fz (.int r.2.length),p.2)
theorem Zn9(h:ME X io p c e (Zmq (o2 ra))):ME X io p c e (o2 (Zf5 ra)):=h.weak λδ K h=>by
 obtain⟨r,δ',h,k⟩:=h
 obtain⟨⟨x,δ1⟩,h1,h⟩:=bs h
 refine⟨x,δ1,h1,?_⟩
 obtain⟨es,h2,h⟩:=bs h
 obtain⟨kss,h3,h⟩:=bs h
 obtain⟨st,h4,h⟩:=bs h
 cases h
 rw[show OT.datas x=[.list es]from Zz5 h2]
 exact⟨kss,st.1,st.2,congrArg Bd (Zt8 h3),h4,k⟩
end
noncomputable abbrev Yd8(h:Heap)(T:Addr)(a b c:Xc):Prop:=h.get? T=some { cls:=.type "tuple",data:=.seq #[a,b,c] }
structure Z3A(z TI TO i1 i2 i3:Addr)(f1 f2 f3:List Addr):Prop where
 TIz:TI≠z
 TOz:TO≠z
 a1:∀c∈f1,c≠z∧c≠TO∧c≠i2∧c≠i3
 a2:∀c∈f2,c≠z∧c≠TO∧c≠i1∧c≠i3
 a3:∀c∈f3,c≠z∧c≠TO∧c≠i1∧c≠i2
section
variable {P:Qj}{w:Qy}{A:Qv}{E:Xc->Xg->Prop}{s:Xg}
end
noncomputable abbrev z3A(h:Heap)(a:Addr):Heap:=h.push { cls:=.type "list_iterator",data:=.fields #[.ref a,.int 0 0] }
noncomputable abbrev z3B(h:Heap)(a b:Addr):Heap:=z3A (z3A h a) b
noncomputable abbrev z3C(h:Heap)(a b c:Addr):Heap:=z3A (z3B h a b) c
noncomputable abbrev z3D(h:Heap)(a b c:Addr):Heap:=(z3C h a b c).push { cls:=.type "tuple",data:=.seq #[.ref h.objs.size,.ref (z3A h a).objs.size,.ref (z3B h a b).objs.size] }
noncomputable abbrev z3E(h:Heap)(a b c:Addr):Heap:=(z3D h a b c).push { cls:=.type "tuple",data:=.seq #[.none,.none,.none] }
noncomputable abbrev z3F(h:Heap)(a b c:Addr):Heap:=(z3E h a b c).push { cls:=.type "zip",data:=.fields #[.none,.bool false,.bool false,.ref (z3C h a b c).objs.size,.ref (z3D h a b c).objs.size] }
section
variable {P:Qj}{w:Qy}{A:Qv}{E:Xc->Xg->Prop}{s:Xg}
end
section
variable {X:Cx}{io:List Nat}{p c:Bool}{a b e:Expr}{mr:MAt}{ra:FA}
end
noncomputable def Up(xs:List Nat):Prop:=xs.Pairwise (·<·)
theorem Zvc{xs:List Nat}(h:Up xs){i j:Nat}{a b:Nat}(ha:xs[i]? =some a)(hb:xs[j]? =some b)(l:i<j):a<b:=by
 obtain⟨hi,rfl⟩:=Xo.mp ha
 obtain⟨hj,rfl⟩:=Xo.mp hb
 exact List.pairwise_iff_getElem.mp h i j hi hj l
theorem getD_at{xs:Array Nat}{i d:Nat}(h:i<xs.size):xs.toList[i]? =some (xs.getD i d):=by
 rw[QK,Array.getElem?_eq_getElem h,Array.getD,dif_pos h];rfl
theorem Zu9{xs:Array Nat}{j:Nat}(up:Up xs.toList):∀(fuel lo hi:Nat),hi-lo≤fuel->lo≤hi->hi≤xs.size->(∀i a,i<lo->xs.toList[i]? =some a->a<j)->(∀i a,hi≤i->xs.toList[i]? =some a->j≤a) ->
  ∃p,SetTable.below.go xs j fuel lo hi=p∧p≤xs.size∧(∀i a,i<p->xs.toList[i]? =some a->a<j)∧∀i a,p≤i->xs.toList[i]? =some a->j≤a:=by
 intro fuel
 induction fuel with
 | zero=>
  intro lo hi f l z h1 h2
  have e:lo=hi:=by omega
  exact⟨lo,rfl,by omega,h1,λi a q=>h2 i a (by omega)⟩
 | succ fuel ih=>
  intro lo hi f l z h1 h2
  rw[SetTable.below.go]
  by_cases c:lo<hi
  ·rw[if_pos c]
   have hm:(lo+hi)/2<xs.size:=by omega
   have em:=getD_at (xs:=xs) (d:=j) hm
   by_cases q:xs.getD ((lo+hi)/2) j<j
   ·simp only[if_pos q]
    refine ih _ _ (by omega) (by omega) z (λi a li ea=>?_) h2
    by_cases e:i=(lo+hi)/2
    ·subst e
     rw[em]at ea
     cases ea
     exact q
    ·exact VR (Zvc up ea em (by omega)) q
   ·simp only[if_neg q]
    refine ih _ _ (by omega) (by omega) (by omega) h1 λi a li ea=>?_
    by_cases e:i=(lo+hi)/2
    ·subst e
     rw[em]at ea
     cases ea
     omega
    ·have:=Zvc up em ea (by omega)
     omega
  ·rw[if_neg c]
   have e:lo=hi:=by omega
   exact⟨lo,rfl,by omega,h1,λi a q=>h2 i a (by omega)⟩
theorem Zie{xs:Array Nat}(up:Up xs.toList)(j:Nat):QW xs j≤xs.size∧(∀i a,i<QW xs j->xs.toList[i]? =some a->a<j)∧∀i a,QW xs j≤i->xs.toList[i]? =some a->j≤a:=by
 obtain⟨p,e,h⟩:=Zu9 (j:=j) up xs.size 0 xs.size (by omega) (QC _) (Qp _) (λi a q=>absurd q (V1 _)) λi a q ea=>by
  have:=(Xo.mp ea).1
  rw[Qc]at this
  omega
 unfold QW
 rw[e];exact h
theorem Zoe{xs:Array Nat}(up:Up xs.toList){i a:Nat}(h:xs.toList[i]? =some a):QW xs (a+1)=i+1:=by
 obtain⟨b0,b1,b2⟩:=Zie up (a+1)
 have hi:=(Xo.mp h).1
 rw[Qc]at hi
 rcases Nat.lt_trichotomy (QW xs (a+1)) (i+1)with c|c|c
 ·have:=b2 i a (by omega) h
  omega
 ·exact c
 ·have hs:i+1<xs.toList.length:=by rw[Qc];omega
  have e1:=XJ hs
  have:=b1 (i+1) _ c e1
  have:=Zvc up h e1 (Qz _)
  omega
theorem Zoa{xs:Array Nat}(up:Up xs.toList):QW xs 0=0:=by
 obtain⟨b0,b1,_⟩:=Zie up 0
 cases e:QW xs 0 with
 | zero=>rfl
 | succ k=>
  rw[e]at b0 b1
  have hs:0<xs.toList.length:=by rw[Qc];omega
  exact absurd (b1 0 _ (Nat.zero_lt_succ _) (XJ hs)) (V1 _)
theorem Z4z{xs:List Nat}(up:Up xs){p j:Nat}(h1:∀i a,i<p->xs[i]? =some a->a<j)(h2:∀i a,p≤i->xs[i]? =some a->j<a):Up (xs.take p ++ j :: xs.drop p):=by
 refine List.pairwise_append.mpr ⟨up.sublist (List.take_sublist ..),List.pairwise_cons.mpr ⟨λa ha=>?_,up.sublist (List.drop_sublist ..)⟩,λa ha b hb=>?_⟩
 ·obtain⟨i,hi⟩:=Bl ha
  rw[List.getElem?_drop]at hi
  exact h2 _ a (Vs _ _) hi
 ·obtain⟨i,hi⟩:=Bl ha
  have ip:i<p:=by
   have:=(Xo.mp hi).1
   rw[List.length_take]at this
   omega
  rw[List.getElem?_take_of_lt ip]at hi
  have aj:=h1 i a ip hi
  rcases Xp.mp hb with rfl|hb
  ·exact aj
  ·obtain⟨k,hk⟩:=Bl hb
   rw[List.getElem?_drop]at hk
   exact VR aj (h2 _ b (Vs _ _) hk)
noncomputable def Ze9(t:Q0)(j:Nat):Prop:=t.place[QW t.place j]? ≠some j
structure Tb(b:Bool)(t:Q0):Prop where
 led:t.led=b
 up:t.plain=true->Up t.place.toList
theorem Zm5{t:Q0}{j:Nat}(h:t.slot j= .empty∨t.slot j= .dummy):Ze9 t j:=λz=>by
 have:t.slot j= .live (QW t.place j):=by
  unfold Q0.slot
  rw[if_pos (beq_iff_eq.mpr z)]
 rcases h with h|h<;>rw[this]at h<;>cases h
theorem Zp7{t:Q0}{f:Nat->Int}{h:Int}:∀(fuel:Nat) (p:SetTable.Probe),(∀d,p.dummy=some d->Ze9 t d)->∀j dm,VG t f h fuel p=some (.empty j dm)->Ze9 t j∧∀d,dm=some d->Ze9 t d:=by
 intro fuel
 induction fuel with
 | zero=>intro p _ j dm e;cases e
 | succ fuel ih=>
  have adv:∀q:SetTable.Probe,(t.advance q).dummy=q.dummy:=λq=>by
   unfold Q0.advance
   split<;>rfl
  intro p hp j dm e
  rw[VG]at e
  split at e
  ·rename_i c
   cases e
   exact⟨Zm5 (.inl c),hp⟩
  ·rename_i c
   refine ih _ (λd hd=>?_) j dm e
   rw[adv]at hd
   cases hd
   exact Zm5 (.inr c)
  ·split at e
   ·cases e
   ·exact ih _ (λd hd=>hp d (by rw[adv]at hd;exact hd)) j dm e
theorem Zvd{t:Q0}{h:Int}{j:Nat}{d:Bool}(e:t.freeSlot h=some (j,d)):Ze9 t j:=by
 unfold Q0.freeSlot at e
 split at e
 ·rename_i j' dm q
  cases e
  obtain⟨h1,h2⟩:=Zp7 _ _ (λd hd=>by cases hd) _ _ q
  cases dm with
  | none=>exact h1
  | some d=>exact h2 d rfl
 ·cases e
theorem Z26{t:Q0}{j:Nat}(up:Up t.place.toList)(n:Ze9 t j):Up (t.put j).1.place.toList:=by
 show Up (Vc t.place (QW t.place j) j).toList
 obtain⟨b0,b1,b2⟩:=Zie up j
 rw[SetTable.toList_insertAt]
 refine Z4z up b1 λi a l ea=>?_
 have ja:=b2 i a l ea
 rcases Nat.lt_or_ge j a with c|c
 ·exact c
 ·have e:a=j:=by omega
  subst e
  exfalso
  rcases Nat.lt_or_ge (QW t.place a) i with c2|c2
  ·have hs:QW t.place a<t.place.toList.length:=VR c2 (Xo.mp ea).1
   have e1:=XJ hs
   have:=Zvc up e1 ea c2
   have:=b2 _ _ (Qp _) e1
   omega
  ·have e:i=QW t.place a:=by omega
   subst e
   exact n (by rw[←QK];exact ea)
theorem Tb.stand{b:Bool}{t:Q0}(h:Tb b t)(n:Nat):Tb b (t.standIn n):=⟨h.led,λz=>nomatch z⟩
theorem Tb.lay{b:Bool}{t:Q0}(h:Tb b t)(es:Array (Int×Xc))(k:Int)(x:Xc):Tb b (layNew t es k x).2.1:=by
 unfold layNew
 split
 ·rename_i j d e
  dsimp only
  unfold Q0.orStandIn
  split
  ·exact⟨h.led,λz=>Z26 (h.up z) (Zvd e)⟩
  ·exact⟨h.led,λz=>nomatch z⟩
 ·exact h.stand _
theorem Z1x(f:Nat->Option Nat)(n:Nat):Up (((Xk n).filterMap λj=>(f j).map (j,·)).map (·.1)):=by
 have e:∀l:List Nat,((l.filterMap λj=>(f j).map (j,·)).map (·.1)).Sublist l:=λl=>by
  induction l with
  | nil=>exact .slnil
  | cons a l ih=>
   rw[Ue]
   cases f a with
   | none=>exact ih.cons a
   | some v=>exact ih.cons_cons a
 exact List.Pairwise.sublist (e _) List.pairwise_lt_range
theorem Tb.relay{b:Bool}{t:Q0}(h:Tb b t)(es:Array (Int×Xc))(n:Nat):Tb b (relayAll t es n).2.1:=by
 unfold relayAll
 split
 ·rename_i t' order e
  dsimp only
  split
  ·unfold Q0.relaid Q0.laid at e
   obtain⟨ow,_,e⟩:=Option.bind_eq_some_iff.mp e
   cases e
   exact⟨h.led,λ_=>Z1x _ _⟩
  ·exact h.stand _
 ·exact h.stand _
noncomputable def vI:Xc->Int
 | .int k _=>k
 | _=>0
noncomputable def SetI(prog:Qj)(w:Qy)(b:Bool)(h:Heap)(S:Addr)(ks:List Int):Prop :=
 ∃o es ep t,h.get? S=some o∧o.ExactSet∧o.data= .set es ep t∧ElemsOf (VL prog w) es.toList∧es.size<UJ∧t.fits es.size=true∧Tb b t∧es.toList.map (λe=>vI e.2)=ks
section
variable {prog:Qj}{w:Qy}{A:Qv}{E:Xc->Xg->Prop}{s:Xg}{b:Bool}
theorem Zpw{k:Int}{v:Xc}(h:(VL prog w).is k v=true):∃t,v= .int k t:=by
 cases v<;>simp_all [VL,Xc.isInt]
theorem SetI.stay{h h':Heap}{S:Addr}{ks:List Int}(hS:SetI prog w b h S ks)(k:∀o,h.get? S=some o->h'.get? S=some o):SetI prog w b h' S ks:=by
 obtain⟨o,es,ep,t,ho,r⟩:=hS
 exact⟨o,es,ep,t,k o ho,r⟩
theorem SetI.put{h:Heap}{S:Addr}{o:Obj}{es es':Array (Int×Xc)}{ep:Nat}{t t':Q0}(ho:h.get? S=some o)(hex:o.ExactSet)(hd:o.data= .set es ep t)(he:ElemsOf (VL prog w) es'.toList)(hb:es'.size<UJ)(hf:t'.fits es'.size=true)(ht:Tb b t') :
  (h.update S (Obj.putSet es' t')).get? S=some { o with data:=.set es' (ep+1) t' }∧SetI prog w b (h.update S (Obj.putSet es' t')) S (es'.toList.map λe=>vI e.2):=by
 have g:=V4 (Obj.putSet es' t') ho (by rw[putSet_of es' t' hd];rfl)
 rw[putSet_of es' t' hd]at g
 exact⟨g,_,es',ep+1,t',g,hex,rfl,he,hb,hf,ht,rfl⟩
theorem Zx9{g:Bool->Sem Unit}(hg:∀(c:Bool) (s₁:Xg) (Q':Unit->Xg->Prop),Q' () s₁->Xu (X5 prog w) A (g c) Q' E s₁){S:Addr}{o:Obj}{es es1:Array (Int×Xc)}{ep:Nat}{t t1:Q0}{wasDummy:Bool}{R:Option Bool->Xg->Prop}
  (ho:s.heap.get? S=some o) (hex:o.ExactSet) (hd:o.data= .set es ep t) (he:ElemsOf (VL prog w) es1.toList) (hb:es1.size<UJ) (hf:t1.fits es1.size=true) (ht:Tb b t1)
  (q:∀h' ks',Bh S s.heap h'->SetI prog w b h' S ks'->ks'.Perm (es1.toList.map λe=>vI e.2)->R (some true) { s with heap:=h' }) :
  Xu (X5 prog w) A (do
    storeSet S es1 t1
    if(!wasDummy&&t1.tooFull)=true then do
      g (relayAll t1 es1 (V3 es1.size)).2.2
      storeSet S (relayAll t1 es1 (V3 es1.size)).1 (relayAll t1 es1 (V3 es1.size)).2.1
      pure (some true)
     else pure (some true)) R E s:=by
 refine Xb (wpAny_storeSet_of ho hd ?_ (fits_of_scanBound hb))
 obtain⟨g1,S1⟩:=SetI.put (b:=b) ho hex hd he hb hf ht
 split
 ·have pm:=relayAll_perm t1 es1 (V3 es1.size)
  have ff:=relayAll_fits t1 es1 (V3 es1.size)
  have tt:=ht.relay es1 (V3 es1.size)
  generalize relayAll t1 es1 (V3 es1.size)=Rl at pm ff tt⊢
  obtain⟨es2,t3,gv⟩:=Rl
  have sz:es2.size=es1.size:=by rw[←Qc,pm.length_eq,Qc]
  have b2:es2.size<UJ:=by rw[sz];exact hb
  refine Xb (hg _ _ _ (Xb (wpAny_storeSet_of g1 rfl ?_ (fits_of_scanBound b2))))
  obtain⟨_,S2⟩:=SetI.put (b:=b) g1 hex rfl (he.perm pm) b2 ff tt
  exact Xi (q _ _ ((JC s.heap S _).trans (JC _ S _)) S2 (pm.map _))
 ·exact Xi (q _ _ (JC s.heap S _) S1 (.refl _))
theorem Yaa{S:Addr}{ks:List Int}{k:Int}{u:Tok}{Q:Bool->Xg->Prop}(hS:SetI prog w b s.heap S ks)(hr:ks.length+1<UJ)
  (q:∀v h' tk ks',Bh S s.heap h'->SetI prog w b h' S ks'->(k∈ks->ks'=ks)->(k∉ks->ks'.Perm (ks ++ [k]))->Q v { s with heap:=h',toks:=tk }):Xu (X5 prog w) A (setAdd S (.int k u)) Q E s:=by
 have hS0:=hS
 obtain⟨o,es,ep,t,ho,hex,hd,he,hb,hf,ht,rfl⟩:=hS
 unfold setAdd
 refine JM (Xb ((VL prog w).pyHash (k:=k) (intKind_is _ _ _ _) ?_))
 show Xu _ _ (setAddHashed S (.int k u) ((VL prog w).hash k)) Q E { s with toks:=s.toks+1 }
 unfold setAddHashed setAddHashedIn
 refine JM (Xb (JV (s:={ s with toks:=s.toks+1 }) ho hd hf ?_))
 dsimp only
 rw[byScan_of (x:=.int k u) rfl hb he,if_pos rfl]
 unfold setAddByScan
 refine Xb (Xb (Uh (Xb (wpAny_setScan_of (s:={ s with toks:=s.toks+1 }) (intKind_is prog w k u) ho hd hf he ?_))))
 cases hx:List.findIdx? (λe=>(VL prog w).is k e.2) es.toList with
 | some j=>
  dsimp only
  obtain⟨hj,pj,_⟩:=List.findIdx?_eq_some_iff_getElem.mp hx
  obtain⟨tj,ej⟩:=Zpw pj
  have hk:k∈es.toList.map λe=>vI e.2:=XF.mpr ⟨_,List.getElem_mem hj,by rw[ej];rfl⟩
  exact Xi (Xi (q _ s.heap _ _ (Heap.SameBut.refl ..) hS0 (λ_=>rfl) λz=>absurd hk z))
 | none=>
  dsimp only
  have hk:k∉es.toList.map λe=>vI e.2:=λz=>by
   obtain⟨e,m,ev⟩:=XF.mp z
   obtain⟨⟨k',i1,_⟩,_⟩:=he e m
   obtain⟨t',e2⟩:=Zpw i1
   have:=List.findIdx?_eq_none_iff.mp hx e m
   rw[e2]at this ev
   cases ev
   have z2:(VL prog w).is k' (.int k' t')=false:=this
   rw[intKind_is]at z2
   cases z2
  have gw:∀(c:Bool) {s₁:Xg} {Q':Unit->Xg->Prop},Q' () s₁->Xu (X5 prog w) A (match c with|true=>rule "set.scan.the-table-gave-way"|false=>pure ()) Q' E s₁:=λc s₁ Q' z=>by
   cases c<;>first|exact Xi z|exact Uh z
  have pm:=layNew_perm t es ((VL prog w).hash k) (.int k u)
  have ff:=layNew_fits t es ((VL prog w).hash k) (.int k u)
  have tt:=ht.lay es ((VL prog w).hash k) (.int k u)
  generalize layNew t es ((VL prog w).hash k) (.int k u)=Ln at pm ff tt⊢
  obtain⟨es1,t1,wd,gv⟩:=Ln
  dsimp only at pm ff tt⊢
  rw[Array.toList_push]at pm
  have he1:ElemsOf (VL prog w) es1.toList:=(he.push (intKind_is prog w k u) rfl).perm pm
  have hb1:es1.size<UJ:=by
   rw[←Qc,pm.length_eq,Qd]
   rw[Xe]at hr
   exact hr
  refine Xb (gw _ ?_)
  have fin:∀h' ks',Bh S s.heap h'->SetI prog w b h' S ks'->ks'.Perm (es1.toList.map λe=>vI e.2)->Xu (X5 prog w) A (pure true) Q E { s with heap:=h',toks:=s.toks+1 }:=λh' ks' sb S' p'=>Xi (q _ h' _ ks' sb S' (λz=>absurd z hk) λ_=>p'.trans (by
   have:=pm.map (λe:Int×Xc=>vI e.2)
   rw[Xy]at this
   exact this))
  have hv:hashByValue 8 (.int k u)=pure true:=hashByValue_scannable 8 (x:=.int k u) rfl
  split
  ·refine Xb ?_
   rw[hv]
   refine Xi ?_
   simp only[if_true]
   exact Zx9 (s:={ s with toks:=s.toks+1 }) (by intro c s₁ Q' z;cases c<;>first|exact Xi z|exact Uh z) ho hex hd he1 hb1 ff tt λh' ks' sb S' p'=>fin h' ks' sb S' p'
  ·refine Xb (Xi ?_)
   simp only[if_true]
   exact Zx9 (s:={ s with toks:=s.toks+1 }) (by intro c s₁ Q' z;cases c<;>first|exact Xi z|exact Uh z) ho hex hd he1 hb1 ff tt λh' ks' sb S' p'=>fin h' ks' sb S' p'
end
noncomputable def byT(w:Qy):Bool:=w.params.followText "set-order"
noncomputable def Of(ks ns:List Int):Prop:=ks.Nodup∧∀x,x∈ks↔x∈ns
section
variable {prog:Qj}{w:Qy}{A:Qv}{R:Result->Xg->Prop}{I:Addr}{fp wr:List Addr}{n:Nat}{Pv:Nat->Xc->Prop}{St:Nat->Heap->Prop}{b:Bool}
theorem Z27(W:Walks prog w A.in1 I fp wr n Pv St)(S:Addr)(sf:S∉fp)(ns:List Int)(ln:ns.length=n)(lb:n+1<UJ)(hv:∀i v,Pv i v->∃k t,v= .int k t∧ns[i]? =some k) :
  ∀(m i:Nat) (s:Xg) (ks:List Int),n-i=m->i≤n->St i s.heap->SetI prog w b s.heap S ks->Of ks (ns.take i)->ks.length≤i ->
  (∀ h' tk ks',SetI prog w b h' S ks'->Of ks' ns->(∀b o,b∉wr->b≠S->s.heap.get? b=some o->h'.get? b=some o)->R (.ok (.ret .none)) { s with heap:=h',toks:=tk }) ->
  U7 (X5 prog w) A (.builtin "set.update.loop" ⟨[.ref S,.ref I],[]⟩) R s:=by
 have sw:S∉wr:=λh=>sf (W.sub _ h)
 intro m
 induction m with
 | zero=>
  intro i s ks em ei st hS hO lk r
  have en:i=n:=by omega
  refine Bc Uz ?_;rw[JT Vm _]
  show Xu _ A.in1 (Ua (.ref I)>>=_) _ _ _
  refine Xb (W.done s _ _ (en▸st) λh' tk kp=>?_)
  show Xu _ A.in1 (ret QD) _ _ { s with heap:=h',toks:=tk }
  rw[Ux (by omega)]at hO
  exact Xi (r h' tk ks (hS.stay λo e=>kp S o sw e) hO λb o nb _ e=>kp b o nb e)
 | succ m ih=>
  intro i s ks em ei st hS hO lk r
  have lt:i<n:=by omega
  refine Bc Uz ?_;rw[JT Vm _]
  show Xu _ A.in1 (Ua (.ref I)>>=_) _ _ _
  refine Xb (W.item i s _ _ lt st λv h' tk pv st' kp=>?_)
  obtain⟨k,t,rfl,ek⟩:=hv i v pv
  show Xu _ A.in1 (holding [Vy k t] (setAdd S (.int k t))>>=_) _ _ { s with heap:=h',toks:=tk }
  refine Xb (JM (Yaa (s:={ s with heap:=h',toks:=tk }) (hS.stay λo e=>kp S o sw e) (by omega) λv h2 tk2 ks2 sb hS2 c1 c2=>?_))
  have k2:∀b o,b≠S->h'.get? b=some o->h2.get? b=some o:=λb o nS e=>by rw[sb.2 b nS];exact e
  have et:ns.take (i+1)=ns.take i ++ [k]:=by rw[Bv,ek];rfl
  have hO2:Of ks2 (ns.take (i+1))∧ks2.length≤i+1:=by
   by_cases c:k∈ks
   ·rw[c1 c]
    refine⟨⟨hO.1,λx=>?_⟩,VB lk⟩
    rw[et,Xq,←hO.2,Xj]
    exact⟨.inl,λm=>m.elim id λe=>e▸c⟩
   ·have pm:=c2 c
    refine⟨⟨pm.nodup_iff.mpr (Vg.mpr ⟨hO.1,QB.mpr ⟨(λz=>nomatch z),.nil⟩,λa ha y hy e=>c (by rw[←Xj.mp hy,←e];exact ha)⟩),λx=>?_⟩,by rw[pm.length_eq,Qd];exact Bp lk⟩
    rw[pm.mem_iff,et,Xq,Xq,hO.2]
  refine Xi ⟨V7 Vm _,ih (i+1) _ ks2 (by omega) lt (W.frame _ _ _ st' λb bf o e=>k2 b o (λh:b=S=>sf (by rw[←h];exact bf)) e) hS2 hO2.1 hO2.2 λh3 tk3 ks3 hS3 hO3 kp3=>?_⟩
  exact r h3 tk3 ks3 hS3 hO3 λb o nb nS e=>kp3 b o nb nS (k2 b o nS (kp b o nb e))
end
section
variable {prog:Qj}{w:Qy}{A:Qv}{E:Xc->Xg->Prop}{s:Xg}
theorem Z8i(a:Xc){Q₁:Xc->Xg->Prop}(h:Q₁ (.ref s.heap.objs.size) { s with heap:=s.heap.push { cls:=.type "set",dict:=none,data:=.set #[] 0 (.fresh 0 0 (!byT w)) } }) :
  U7 (X5 prog w) A (.call (.builtin "set.__new__") ⟨[.type "set",a],[]⟩) (wants Q₁ E) s:=by
 refine codeAny_of_tree ?_;show Xu _ A.in1 (do checkBuiltinCall "set.__new__" ⟨[.type "set",a],[]⟩;again (.builtin "set.__new__" ⟨[.type "set",a],[]⟩)) _ _ s
 refine Xb (wpAny_of_eq (F.newCall_set_1 a) (Xi ⟨V7 F.plain_set_new _,Bc F.entry_set_new ?_⟩));rw[JT F.plain_set_new _]
 unfold Va.«set.__new__» Builtin.Frozenset.newClass
 have hsub:=sub_set_self
 obtain⟨hp,g,d,tk,os⟩:=s
 dsimp only
 wp_walk
 refine wpAny_askSetting (Xi ?_);dsimp only;simp only[newObj]
 exact Xb (wpAny_alloc (Xi (Xi h)))
theorem Z5r{l:Addr}{its:Array Xc}{ns:List Int}{b:Bool}{Q:Xc->Xg->Prop}(hh:A.handled=none)(hl:s.heap.IsList l its)(ln:ns.length=its.size)(lb:its.size+1<UJ)(hv:∀(i:Nat) (v:Xc),its[i]? =some v->∃k t,v=Vy k t∧ns[i]? =some k)
  (q:∀h' tk ks,SetI prog w b h' s.heap.objs.size ks->Of ks ns->(∀b o,b<s.heap.objs.size->s.heap.get? b=some o->h'.get? b=some o)->Q .none { s with heap:=h',toks:=tk }) :
  Xu (X5 prog w) A (Va.«set.__init__» ⟨[XX s.heap.objs.size,XX l],[]⟩) (λfin s'=>∃v,fin= .done (.ret v)∧Q v s') E { s with heap:=s.heap.push { cls:=.type "set",dict:=none,data:=.set #[] 0 (.fresh 0 0 b) } }:=by
 obtain⟨ol,hol,hcl,nl,hdl⟩:=id hl
 obtain⟨ocls,odict,odata,oslots⟩:=ol
 simp only at hcl hdl
 subst hcl hdl
 have ho':(s.heap.push { cls:=.type "set",dict:=none,data:=.set #[] 0 (.fresh 0 0 b) }).get? l=some { cls:=.type "list",dict:=odict,data:=.seq its nl,slots:=oslots }:=Xf _ hol
 have gS:(s.heap.push { cls:=.type "set",dict:=none,data:=.set #[] 0 (.fresh 0 0 b) }).get? s.heap.objs.size=some { cls:=.type "set",dict:=none,data:=.set #[] 0 (.fresh 0 0 b) }:=Xv _ rfl
 have hT:Shared.TypeIs { s with heap:=s.heap.push { cls:=.type "set",dict:=none,data:=.set #[] 0 (.fresh 0 0 b) } } (.ref s.heap.objs.size) "set" :=⟨_,gS,rfl⟩
 have h1:=F.sub_list_set
 have h2:=F.sub_list_frozenset
 have h3:(Value.type "list"==Value.type "dict")=false:=by decide
 have hl1:(s.heap.push { cls:=.type "set",dict:=none,data:=.set #[] 0 (.fresh 0 0 b) }).IsList l its:=⟨_,ho',rfl,nl,rfl⟩
 unfold Va.«set.__init__» noKeywords Builtin.Frozenset.updateFrom
 generalize hPI:pyIter=PI
 wp_walk
 subst hPI
 refine wpAny_pyIter_list hl1 (Xb (wpAny_runValue ?_))
 have lS:l<s.heap.objs.size:=Xx hol
 refine Z27 (b:=b) (Walks.list (by simpa using hh) _ l ?hne its) s.heap.objs.size ?sf ns ln lb (λi v hiv=>hv i v hiv) its.size 0 _ [] (by omega) (QC _) ⟨⟨_,Xv _ rfl,rfl,rfl⟩,hl1.push _⟩ ⟨_,#[],0,_,Xf _ gS,⟨rfl,rfl,rfl⟩,rfl,(λe m=>nomatch m),(by decide),rfl,⟨rfl,λ_=>.nil⟩,rfl⟩ ⟨.nil,λx=>by rw[List.take_zero]⟩ (Qp _) ?hR
 case hne=>rw[Qx];exact XQ (Q8 lS)
 case sf=>
  rw[Qx]
  intro m
  rcases Xp.mp m with e|m
  ·exact XQ (Qz _) e
  ·exact Q3 lS (Xj.mp m)
 case hR=>
  intro h' tk ks hS hO kp
  refine Xi ?_;show Xu _ _ (ret QD) _ _ { s with heap:=h',toks:=tk }
  refine Xi ⟨_,rfl,q h' tk ks hS hO λb o lb e=>?_⟩
  refine kp b o (λm=>?_) (XQ lb) (Xf _ (Xf _ e))
  rw[Qx]at m
  exact XQ (Q8 lb) (Xj.mp m)
theorem Zpq{l:Addr}{its:Array Xc}{ns:List Int}{Q:Xc->Xg->Prop}(hh:A.handled=none)(hl:s.heap.IsList l its)(ln:ns.length=its.size)(lb:its.size+1<UJ)(hv:∀(i:Nat) (v:Xc),its[i]? =some v->∃k t,v=Vy k t∧ns[i]? =some k)
  (q:∀h' tk ks,SetI prog w (!byT w) h' s.heap.objs.size ks->Of ks ns->(∀b o,b<s.heap.objs.size->s.heap.get? b=some o->h'.get? b=some o)->Q (XX s.heap.objs.size) { s with heap:=h',toks:=tk }) :
  Xu (X5 prog w) A (call (.type "set") [XX l]) Q E s:=by
 obtain⟨c,tl,e0⟩:=JR.mro
 have e1:=JR.made
 have e2:=JR.sub
 refine wpAny_call (codeAny_of_tree ?_);show Xu _ _ (callAny (.type "set") _) _ _ _
 refine Xi ⟨Code.quiet_builtin _ (by decide +kernel),Bc F.entry_type_call ?_⟩;rw[Around.under_plain (weight_type_call_type "set" [XX l] []) rfl]
 have e3:=JR.notType
 have e4:=JR.canCreate
 have e5:=F.typeCall_set_1 (XX l)
 repeat any_goals first|assumption|wp_step
 refine Ui (Z8i (XX l) (E:=E) (Q₁:=λobj s1=>obj=XX s.heap.objs.size∧s1={ s with heap:=s.heap.push { cls:=.type "set",dict:=none,data:=.set #[] 0 (.fresh 0 0 (!byT w)) } }) ⟨rfl,rfl⟩) λr s1 r1=>?_
 cases r with
 | error e=>exact r1
 | ok fl=>
  cases fl with
  | ret obj=>
   obtain⟨rfl,rfl⟩:=r1
   have gS:(s.heap.push { cls:=.type "set",dict:=none,data:=.set #[] 0 (.fresh 0 0 (!byT w)) }).get? s.heap.objs.size=some { cls:=.type "set",dict:=none,data:=.set #[] 0 (.fresh 0 0 (!byT w)) }:=Xv _ rfl
   have hT:Shared.TypeIs { s with heap:=s.heap.push { cls:=.type "set",dict:=none,data:=.set #[] 0 (.fresh 0 0 (!byT w)) } } (XX s.heap.objs.size) "set" :=⟨_,gS,rfl⟩
   have e6:=JR.init.lookup
   have e7:=JR.init.bind (XX s.heap.objs.size)
   repeat any_goals first|assumption|wp_step
   refine Ui (codeAny_call_builtin (R:=wants (λr s2=>r= .none∧∃h' tk ks,s2={ s with heap:=h',toks:=tk }∧SetI prog w (!byT w) h' s.heap.objs.size ks∧Of ks ns∧∀b o,b<s.heap.objs.size->s.heap.get? b=some o->h'.get? b=some o) E) JR.init.plain F.entry_set_init (check_set_init_1 hT ?_)) λr2 s2 hr2=>?_
   ·refine QG (Z5r (b:=!byT w) (by simpa using hh) hl ln lb hv (Q:=λr s2=>r= .none∧∃h' tk ks,s2={ s with heap:=h',toks:=tk }∧SetI prog w (!byT w) h' s.heap.objs.size ks∧Of ks ns∧∀b o,b<s.heap.objs.size->s.heap.get? b=some o->h'.get? b=some o) λh' tk ks a1 a2 a3=>⟨rfl,h',tk,ks,rfl,a1,a2,a3⟩) (λfin s' hf=>?_) λ_ _ x=>x
    obtain⟨v,rfl,hq⟩:=hf
    exact hq
   ·cases r2 with
    | error e=>exact hr2
    | ok fl2=>
     cases fl2 with
     | ret r=>
      obtain⟨rfl,h',tk,ks,rfl,a1,a2,a3⟩:=hr2
      repeat any_goals first|assumption|wp_step
      exact q h' tk ks a1 a2 a3
     | _=>exact hr2.elim
  | _=>exact r1.elim
end
theorem Zt:Slot "set_iterator" "__next__" "set_iterator.__next__" :=
 .of (owner :="set_iterator") (n :="__next__") (by rw[typeLookup_type,builtinLookup_eq_fast];kernel_rfl) (by decide +kernel) (by decide +kernel) (by decide +kernel) (by first|exact .inl (by decide +kernel)|exact .inr (by decide +kernel)) (by rw[isSubtype_type];kernel_rfl)
theorem Wi:entryFor table "set_iterator.__next__"=some Va.«set_iterator.__next__»:=entryFor_of_fast (by kernel_rfl)
theorem Ww(a:Xc):argsOk "set_iterator.__next__" ⟨[a],[]⟩:=by unfold argsOk;kernel_rfl
noncomputable def Z74(h:Heap)(I S:Addr)(slot i n ep:Nat):Prop:=h.get? I=some { cls:=.type "set_iterator",data:=.fields #[JL slot,JL i,.ref S,JL n,JL ep] }
theorem Zp4{α:Type}:∀{l:List α} {i:Nat} (h:i<l.length),(l[i] :: l.eraseIdx i).Perm l:=fun{l}=>by
 induction l with
 | nil=>intro i h;cases h
 | cons a l ih=>
  intro i h
  cases i with
  | zero=>exact .refl _
  | succ i=>exact(List.Perm.swap ..).trans ((ih (Nat.lt_of_succ_lt_succ h)).cons a)
theorem Z0z{α:Type}(f:Nat->Nat):∀(fuel k:Nat) (left:List α) (out:Array α),left.length=fuel->(pickOrder.go f fuel k left out).toList.Perm (out.toList ++ left):=by
 intro fuel
 induction fuel with
 | zero=>
  intro k left out l
  rw[List.length_eq_zero_iff.mp l,QS,pickOrder.go]
 | succ fuel ih=>
  intro k left out l
  rw[pickOrder.go]
  have hlt:f k%left.length<left.length:=Nat.mod_lt _ (by omega)
  rw[XJ hlt]
  dsimp only
  refine(ih (k+1) _ _ (by rw[List.length_eraseIdx_of_lt hlt];omega)).trans ?_
  rw[Array.toList_push,Vh]
  exact List.Perm.append_left _ (Zp4 hlt)
theorem Zth{α:Type}(f:Nat->Nat)(xs:Array α):(pickOrder f xs).toList.Perm xs.toList:=by
 unfold pickOrder
 have:=Z0z f xs.size 0 xs.toList #[] (by rw[Qc])
 rwa[Uj]at this
section
variable {prog:Qj}{w:Qy}{A:Qv}{E:Xc->Xg->Prop}{s:Xg}
theorem Zs1{src:Source}{n:Nat}{Q:Nat->Xg->Prop}(hn:n≠0)(h:∀i,i<n->Q i { s with drawn:=s.drawn.bump src }):Xu (X5 prog w) A (choose src n) Q E s:=fun Γ p _=>by
 show Sem.wp _ _ (.choose src n .pure) _ _ _ _
 rw[Sem.wp_choose]
 exact⟨hn,h _ (Nat.mod_lt _ (Nat.pos_of_ne_zero hn))⟩
theorem Zzs{α:Type}:∀(n:Nat) (xs:List α) (s:Xg) (Q:List α->Xg->Prop),xs.length=n->(∀ys d,ys.Perm xs->Q ys { s with drawn:=d })->Xu (X5 prog w) A (drawOrder n xs) Q E s:=by
 intro n
 induction n with
 | zero=>
  intro xs s Q l q
  rw[List.length_eq_zero_iff.mp l]at q⊢
  exact Xi (q [] s.drawn (.refl _))
 | succ n ih=>
  intro xs s Q l q
  cases xs with
  | nil=>cases l
  | cons a xs=>
   rw[drawOrder]
   refine Xb (Zs1 (by rw[l];exact Nat.succ_ne_zero _) λi hi=>?_)
   rw[XJ hi]
   dsimp only
   refine Xb (ih _ _ _ (by rw[List.length_eraseIdx_of_lt hi];omega) λys d pm=>Xi (q _ d ?_))
   ·exact(pm.cons _).trans (Zp4 hi)
   ·intro z;cases z
noncomputable def Ze4(w:Qy)(S:Addr)(ep:Nat)(es:Array (Int×Xc)):List Xc:=(if byT w then(pickOrder (w.params.setOrder S ep) es).toList else es.toList).map (·.2)
theorem Zd0{w:Qy}{S:Addr}{ep:Nat}{es:Array (Int×Xc)}:(Ze4 w S ep es).Perm (es.toList.map (·.2)):=by
 unfold Ze4
 split
 ·exact(Zth _ es).map _
 ·exact .refl _
noncomputable def Zh0(w:Qy)(t:Q0)(slot i:Nat):Prop:=byT w=false->QW t.place slot=i
theorem Zgt{Q:Bool->Xg->Prop}(h:Q (byT w) s):Xu (X5 prog w) A setsByText Q E s:=by
 unfold setsByText
 exact Xb (wpAny_askSetting (Xi h))
theorem Zh3{S:Addr}{o:Obj}{es:Array (Int×Xc)}{ep slot i:Nat}{t:Q0}{Q:Option (Xc×Nat)->Xg->Prop}(ho:s.heap.get? S=some o)(hd:o.data= .set es ep t)(hf:t.fits es.size=true)(tb:Tb (!byT w) t)(hdr:byT w=false->t.plain=true∨es.size≤1)(hs:Zh0 w t slot i)
  (q:∀r,(∀x,(Ze4 w S ep es)[i]? =some x->∃nx,r=some (x,nx)∧Zh0 w t nx (i+1))->((Ze4 w S ep es)[i]? =none->r=none)->Q r s):Xu (X5 prog w) A (setNext S slot i ep) Q E s:=by
 unfold setNext
 refine Xb (JV ho hd hf (Xb (Zgt ?_)))
 cases hb:byT w with
 | true=>
  have ew:Ze4 w S ep es=(pickOrder (w.params.setOrder S ep) es).toList.map (·.2):=by unfold Ze4;rw[hb,if_pos rfl]
  simp only[if_true,bne_self_eq_false,XC,if_false]
  unfold setWalk
  refine Xb (Xb (JV ho hd hf (Xb (Zgt ?_))))
  rw[hb]
  simp only[if_true]
  refine Xb (wpAny_askSetting (Xi (Xi (q _ (λx hx=>?_) λhx=>?_))))
  ·rw[ew,Xl,QK]at hx
   show∃nx,Option.map _ (pickOrder (w.params.setOrder S ep) es)[i]? =_∧_
   cases e:(pickOrder (w.params.setOrder S ep) es)[i]? with
   | none=>rw[e]at hx;cases hx
   | some y=>
    rw[e]at hx
    cases hx
    exact⟨slot,rfl,λz=>by rw[hb]at z;cases z⟩
  ·rw[ew,Xl,QK]at hx
   show Option.map _ (pickOrder (w.params.setOrder S ep) es)[i]? =_
   cases e:(pickOrder (w.params.setOrder S ep) es)[i]? with
   | none=>rfl
   | some y=>rw[e]at hx;cases hx
 | false=>
  have ew:Ze4 w S ep es=es.toList.map (·.2):=by unfold Ze4;rw[hb];rfl
  have pl:=hdr hb
  have le:=tb.led
  rw[hb]at le
  have bl:=hs hb
  obtain⟨mask,place,dummies,finger,led,moves,plain⟩:=t
  dsimp only at pl le bl
  subst le
  have sz0:place.size=es.size:=by
   unfold SetTable.fits at hf
   rw[XM,beq_iff_eq]at hf
   exact hf.1
  have up:Up place.toList:=by
   rcases pl with pl|pl
   ·exact tb.up pl
   ·have l1:place.toList.length≤1:=by rw[Qc,sz0];exact pl
    generalize place.toList=l at l1
    match l,l1 with
    | [],_=>exact .nil
    | [a],_=>exact List.pairwise_singleton _ _
  have dr:(!plain&&decide (es.size>1))=false:=by
   rcases pl with pl|pl
   ·rw[pl];rfl
   ·rw[decide_eq_false (by omega),Bool.and_false]
  simp only[XC,if_false]
  show Xu _ _ (if(!plain&&decide (es.size>1))=true then _ else _) _ _ _
  rw[dr]
  simp only[XC,if_false]
  refine Xb (Xi ?_)
  have sz:place.size=es.size:=by
   unfold SetTable.fits at hf
   rw[XM,beq_iff_eq]at hf
   exact hf.1
  rw[bl]
  refine Xi (q _ (λx hx=>?_) λhx=>?_)
  ·rw[ew,Xl,QK]at hx
   cases e:es[i]? with
   | none=>rw[e]at hx;cases hx
   | some y=>
    rw[e]at hx
    cases hx
    have hi:i<place.size:=by rw[sz];exact(V6.mp e).1
    have ep:place[i]? =some place[i]:=Array.getElem?_eq_getElem hi
    rw[ep]
    exact⟨place[i]+1,rfl,λ_=>Zoe up (by rw[QK];exact ep)⟩
  ·rw[ew,Xl,QK]at hx
   cases e:es[i]? with
   | none=>rfl
   | some y=>rw[e]at hx;cases hx
end
section
variable {prog:Qj}{w:Qy}{A:Qv}{E:Xc->Xg->Prop}{s:Xg}
theorem Zoh{I S:Addr}{o:Obj}{es:Array (Int×Xc)}{ep slot i:Nat}{t:Q0}{x:Xc}{Q:Option Xc->Xg->Prop}(hI:Z74 s.heap I S slot i es.size ep)(ho:s.heap.get? S=some o)(hd:o.data= .set es ep t)(hf:t.fits es.size=true)(tb:Tb (!byT w) t)(hdr:byT w=false->t.plain=true∨es.size≤1)(hs:Zh0 w t slot i)(hx:(Ze4 w S ep es)[i]? =some x)
  (q:∀h' nx,Z74 h' I S nx (i+1) es.size ep->Zh0 w t nx (i+1)->Bh I s.heap h'->Q (some x) { s with heap:=h' }):Xu (X5 prog w) A (Ua (.ref I)) Q E s:=by
 have hT:s.TypeIs (.ref I) "set_iterator" :=⟨_,hI,rfl⟩
 unfold Ua
 refine Xb (wpAny_attempt (JX (name:=Ub "__next__") hT Zt (JN Zt hT Wi ?_ (Ww _))))
 unfold Va.«set_iterator.__next__» slotArgs fieldsOf
 simp only[U4,Vb,XC,if_false,Ul,bne_self_eq_false,pure_bind,bind_assoc]
 refine Xb (wpAny_load hI ?_)
 dsimp only
 refine Xb (Xi ?_)
 show Xu _ _ (setEntries S>>=_) _ _ _
 refine Xb (Ur ho hd hf ?_)
 rw[show(((es.size:Nat):Int) !=((es.size:Nat):Int))=false from bne_self_eq_false _]
 simp only[XC,if_false]
 show Xu _ _ (setNext S slot i ep>>=_) _ _ _
 refine Xb (Zh3 ho hd hf tb hdr hs λr h1 _=>?_)
 obtain⟨nx,rfl,sk⟩:=h1 x hx
 dsimp only
 refine Xb (QX hI (by simp) λh2 g2 b2=>?_)
 refine Xb (QX g2 (by simp) λh3 g3 b3=>?_)
 exact Xi ⟨_,rfl,Xi (q h3 nx g3 sk (b2.trans b3))⟩
theorem Zqf{I S:Addr}{o:Obj}{es:Array (Int×Xc)}{ep slot i:Nat}{t:Q0}{Q:Option Xc->Xg->Prop}(hh:A.handled=none)(hI:Z74 s.heap I S slot i es.size ep)(ho:s.heap.get? S=some o)(hd:o.data= .set es ep t)(hf:t.fits es.size=true)(tb:Tb (!byT w) t)(hdr:byT w=false->t.plain=true∨es.size≤1)(hs:Zh0 w t slot i)(hx:(Ze4 w S ep es)[i]? =none)
  (q:∀h',Heap.ExtBut I s.heap h'->Q none { s with heap:=h' }):Xu (X5 prog w) A (Ua (.ref I)) Q E s:=by
 have hT:s.TypeIs (.ref I) "set_iterator" :=⟨_,hI,rfl⟩
 unfold Ua
 refine Xb (wpAny_attempt (JX (name:=Ub "__next__") hT Zt (JN Zt hT Wi ?_ (Ww _))))
 unfold Va.«set_iterator.__next__» slotArgs fieldsOf
 simp only[U4,Vb,XC,if_false,Ul,bne_self_eq_false,pure_bind,bind_assoc]
 refine Xb (wpAny_load hI ?_)
 dsimp only
 refine Xb (Xi ?_)
 show Xu _ _ (setEntries S>>=_) _ _ _
 refine Xb (Ur ho hd hf ?_)
 rw[show(((es.size:Nat):Int) !=((es.size:Nat):Int))=false from bne_self_eq_false _]
 simp only[XC,if_false]
 show Xu _ _ (setNext S slot i ep>>=_) _ _ _
 refine Xb (Zh3 ho hd hf tb hdr hs λr _ h2=>?_)
 rw[h2 hx]
 dsimp only
 refine Xb (QX hI (by simp) λh3 g3 b3=>?_)
 show Xu _ _ (newExc (.type "StopIteration") []>>=_) _ _ _
 refine Xb ?_
 simp only[newExc,newTuple]
 refine Xb (JD ?_ (by size_fits))
 refine Xb (m:=U6 _ _) (wpAny_of_eq (a:=QD) (by first|rfl|(simp only[U6];rfl)) ?_)
 refine JD ?_ (by size_fits)
 simp only[raiseNew]
 refine Xb (wpAny_handled ?_)
 rw[show A.in1.handled=none from hh]
 refine Xb (Xi (wpAny_throw ?_))
 exact Xb (wpAny_isInstance (T :="StopIteration") (b:=true) ⟨_,Xv _ rfl,rfl⟩ isSubtype_stop (Xi (q _ ((b3.extBut.push _).push _))))
end
noncomputable def Z7n(h:Heap)(I S T:Addr)(i n ep:Nat):Prop:=h.get? I=some { cls:=.type "set_iterator",data:=.fields #[.ref T,JL i,.ref S,JL n,JL ep] }
noncomputable def Zpn(ps:List Nat):Array Xc:=(ps.map λ(i:Nat)=>JL i).toArray
theorem Z1v{ps:List Nat}{i p:Nat}(h:ps[i]? =some p):(Zpn ps)[i]? =some (JL p):=by
 unfold Zpn
 rw[UV,Xl,h];rfl
theorem Zqo{ps:List Nat}{i:Nat}(h:ps[i]? =none):(Zpn ps)[i]? =none:=by
 unfold Zpn
 rw[UV,Xl,h];rfl
section
variable {prog:Qj}{w:Qy}{A:Qv}{E:Xc->Xg->Prop}{s:Xg}
theorem Zpb{I S T:Addr}{o:Obj}{es:Array (Int×Xc)}{ep i p:Nat}{t:Q0}{ps:List Nat}{x:Int×Xc}{Q:Option Xc->Xg->Prop}(hI:Z7n s.heap I S T i es.size ep)(hT2:s.heap.get? T=some { cls:=.type "tuple",data:=.seq (Zpn ps) })(ho:s.heap.get? S=some o)(hd:o.data= .set es ep t)(hf:t.fits es.size=true)(hp:ps[i]? =some p)(hx:es[p]? =some x)
  (q:∀h',Z7n h' I S T (i+1) es.size ep->Bh I s.heap h'->Q (some x.2) { s with heap:=h' }):Xu (X5 prog w) A (Ua (.ref I)) Q E s:=by
 have hT:s.TypeIs (.ref I) "set_iterator" :=⟨_,hI,rfl⟩
 unfold Ua
 refine Xb (wpAny_attempt (JX (name:=Ub "__next__") hT Zt (JN Zt hT Wi ?_ (Ww _))))
 unfold Va.«set_iterator.__next__» slotArgs fieldsOf
 simp only[U4,Vb,XC,if_false,Ul,bne_self_eq_false,pure_bind,bind_assoc]
 refine Xb (wpAny_load hI ?_)
 dsimp only
 refine Xb (Xi ?_)
 show Xu _ _ (setEntries S>>=_) _ _ _
 refine Xb (Ur ho hd hf ?_)
 rw[show(((es.size:Nat):Int) !=((es.size:Nat):Int))=false from bne_self_eq_false _]
 simp only[XC,if_false]
 show Xu _ _ (seqItems? (.ref T)>>=_) _ _ _
 refine Xb (Bj hT2 rfl ?_)
 dsimp only
 rw[QL,Z1v hp]
 show Xu _ _ (setNextDrawn S p ep>>=_) _ _ _
 unfold setNextDrawn
 refine Xb (Xb (JV ho hd hf ?_))
 dsimp only
 rw[bne_self_eq_false]
 simp only[XC,if_false]
 rw[hx]
 refine Xi ?_
 refine Xb (QX hI (by simp) λh2 g2 b2=>?_)
 exact Xi ⟨_,rfl,Xi (q h2 g2 b2)⟩
theorem Zps{I S T:Addr}{o:Obj}{es:Array (Int×Xc)}{ep i:Nat}{t:Q0}{ps:List Nat}{Q:Option Xc->Xg->Prop}(hh:A.handled=none)(hI:Z7n s.heap I S T i es.size ep)(hT2:s.heap.get? T=some { cls:=.type "tuple",data:=.seq (Zpn ps) })(ho:s.heap.get? S=some o)(hd:o.data= .set es ep t)(hf:t.fits es.size=true)(hp:ps[i]? =none)
  (q:∀h',Heap.ExtBut I s.heap h'->Q none { s with heap:=h' }):Xu (X5 prog w) A (Ua (.ref I)) Q E s:=by
 have hT:s.TypeIs (.ref I) "set_iterator" :=⟨_,hI,rfl⟩
 unfold Ua
 refine Xb (wpAny_attempt (JX (name:=Ub "__next__") hT Zt (JN Zt hT Wi ?_ (Ww _))))
 unfold Va.«set_iterator.__next__» slotArgs fieldsOf
 simp only[U4,Vb,XC,if_false,Ul,bne_self_eq_false,pure_bind,bind_assoc]
 refine Xb (wpAny_load hI ?_)
 dsimp only
 refine Xb (Xi ?_)
 show Xu _ _ (setEntries S>>=_) _ _ _
 refine Xb (Ur ho hd hf ?_)
 rw[show(((es.size:Nat):Int) !=((es.size:Nat):Int))=false from bne_self_eq_false _]
 simp only[XC,if_false]
 show Xu _ _ (seqItems? (.ref T)>>=_) _ _ _
 refine Xb (Bj hT2 rfl ?_)
 dsimp only
 rw[QL,Zqo hp]
 dsimp only
 refine Xb (QX hI (by simp) λh2 g2 b2=>?_)
 refine Xb (QX g2 (by simp) λh3 g3 b3=>?_)
 show Xu _ _ (newExc (.type "StopIteration") []>>=_) _ _ _
 refine Xb ?_
 simp only[newExc,newTuple]
 refine Xb (JD ?_ (by size_fits))
 refine Xb (m:=U6 _ _) (wpAny_of_eq (a:=QD) (by first|rfl|(simp only[U6];rfl)) ?_)
 refine JD ?_ (by size_fits)
 simp only[raiseNew]
 refine Xb (wpAny_handled ?_)
 rw[show A.in1.handled=none from hh]
 refine Xb (Xi (wpAny_throw ?_))
 exact Xb (wpAny_isInstance (T :="StopIteration") (b:=true) ⟨_,Xv _ rfl,rfl⟩ isSubtype_stop (Xi (q _ (((b2.trans b3).extBut.push _).push _))))
end
theorem Zhe:entryFor table "set.__iter__"=some Va.«frozenset.__iter__»:=entryFor_alias (id' :="frozenset.__iter__") (by kernel_rfl) rfl (by decide +kernel) (by kernel_rfl)
theorem Zbi:Slot "set_iterator" "__iter__" "set_iterator.__iter__" :=
 .of (owner :="set_iterator") (n :="__iter__") (by rw[typeLookup_type,builtinLookup_eq_fast];kernel_rfl) (by decide +kernel) (by decide +kernel) (by decide +kernel) (by first|exact .inl (by decide +kernel)|exact .inr (by decide +kernel)) (by rw[isSubtype_type];kernel_rfl)
theorem Zd1:entryFor table "set_iterator.__iter__"=some Va.«dict_keyiterator.__iter__»:=entryFor_alias (id' :="dict_keyiterator.__iter__") (by kernel_rfl) (by first|rfl|decide +kernel|(unfold String.splitOn;simp +decide [String.splitOnAux])) (by decide +kernel) (by kernel_rfl)
theorem Zeu(a:Xc):argsOk "set_iterator.__iter__" ⟨[a],[]⟩:=by unfold argsOk;kernel_rfl
section
variable {prog:Qj}{w:Qy}{A:Qv}{E:Xc->Xg->Prop}{s:Xg}
theorem Zhq{I:Addr}{vs:Array Xc}{Q:Xc->Xg->Prop}(hI:s.heap.get? I=some { cls:=.type "set_iterator",data:=.fields vs })(h:Q (.ref I) s):Xu (X5 prog w) A (pyIter (.ref I)) Q E s:=by
 have hT:s.TypeIs (.ref I) "set_iterator" :=⟨_,hI,rfl⟩
 refine wpAny_pyIter_slot hT Zbi (JN Zbi hT Zd1 ?_ (Zeu _))
 show Xu _ _ (ret (.ref I)) _ _ s
 exact Xi ⟨_,rfl,"set_iterator",_,hT,Zt.lookup,h⟩
theorem Z2s{S:Addr}{o:Obj}{es:Array (Int×Xc)}{ep:Nat}{t:Q0}{Q:Xc->Xg->Prop}(ho:s.heap.get? S=some o)(hex:o.ExactSet)(hd:o.data= .set es ep t)(hf:t.fits es.size=true)(hz:es.size≤1000)
  (q1:(byT w=false->t.plain=true∨es.size≤1)->Q (.ref s.heap.objs.size) { s with heap:=s.heap.push { cls:=.type "set_iterator",data:=.fields #[JL 0,JL 0,.ref S,JL es.size,JL ep] } })
  (q2:∀ps d,ps.Perm (Xk es.size)->Q (.ref (s.heap.objs.size+1)) { s with heap:=(s.heap.push { cls:=.type "tuple",data:=.seq (Zpn ps) }).push { cls:=.type "set_iterator",data:=.fields #[.ref s.heap.objs.size,JL 0,.ref S,JL es.size,JL ep] },drawn:=d }):Xu (X5 prog w) A (pyIter (.ref S)) Q E s:=by
 have hT:s.TypeIs (.ref S) "set" :=⟨o,ho,hex.1⟩
 refine wpAny_pyIter_slot hT F.slot_set_iter (JN F.slot_set_iter hT Zhe ?_ (F.args_set_iter_1 _))
 unfold Va.«frozenset.__iter__» Builtin.Frozenset.slot0 slotArgs
 simp only[U4,Vb,XC,if_false,Ul,bne_self_eq_false,pure_bind,bind_assoc]
 unfold Builtin.Frozenset.addrOf Builtin.Frozenset.sizeOf setDrawn
 refine Xb (Xi ?_)
 refine Xb (Xb (Ur ho hd hf (Xi ?_)))
 refine Xb (Xb (JV ho hd hf (Xb (Zgt (Xi ?_)))))
 show Xu _ _ (if(!byT w&&(!t.plain&&decide (es.size>1)))=true then _ else _) _ _ _
 by_cases c:(!byT w&&(!t.plain&&decide (es.size>1)))=true
 ·rw[if_pos c]
  refine Xb (Zzs _ _ _ _ Xw λps d pm=>?_)
  refine Xb (wpAny_newTuple ?_ (by rw[Xe,pm.length_eq,Xw,Qh];omega))
  refine Xb (wpAny_setEpoch_of (Xf _ ho) hd hf ?_)
  have e:(s.heap.push { cls:=.type "tuple",data:=.seq (Zpn ps) }).objs.size=s.heap.objs.size+1:=Qx ..
  refine Xb (JD (Xi ⟨_,rfl,"set_iterator",_,⟨_,Xv _ rfl,rfl⟩,Zt.lookup,?_⟩))
  have:=q2 ps d pm
  rw[←e]at this
  exact this
 ·rw[if_neg c]
  refine Xb (wpAny_setEpoch_of ho hd hf ?_)
  refine Xb (JD (Xi ⟨_,rfl,"set_iterator",_,⟨_,Xv _ rfl,rfl⟩,Zt.lookup,q1 λhb=>?_⟩))
  rw[hb]at c
  cases hp:t.plain with
  | true=>exact .inl rfl
  | false=>
   rw[hp]at c
   exact .inr (Nat.le_of_not_lt λz=>c (by rw[decide_eq_true z];rfl))
theorem Z7c(hh:A.handled=none){I S:Addr}(ne:S≠I){o:Obj}{es:Array (Int×Xc)}{ep:Nat}{t:Q0}(hd:o.data= .set es ep t)(hf:t.fits es.size=true)(tb:Tb (!byT w) t)(hdr:byT w=false->t.plain=true∨es.size≤1) :
  Walks prog w A I [I,S] [I] es.size (λi v=>(Ze4 w S ep es)[i]? =some v) (λi h=>(∃slot,Z74 h I S slot i es.size ep∧Zh0 w t slot i)∧h.get? S=some o) where
 sub:=λb hb=>by rw[Xj.mp hb];exact .head _
 frame:=λi h h' st k=>by
  obtain⟨⟨slot,h1,h2⟩,h3⟩:=st
  exact⟨⟨slot,k I (.head _) _ h1,h2⟩,k S (.tail _ (.head _)) _ h3⟩
 item:=λi s Q E hi st q=>by
  obtain⟨⟨slot,h1,h2⟩,h3⟩:=st
  have hl:i<(Ze4 w S ep es).length:=by rw[Zd0.length_eq,Xe,Qc];exact hi
  have hx:=XJ hl
  refine Zoh h1 h3 hd hf tb hdr h2 hx λh' nx g1 g2 g3=>?_
  exact q _ h' s.toks hx ⟨⟨nx,g1,g2⟩,g3.extBut _ _ ne h3⟩ λb o nb e=>g3.extBut _ _ (λz=>nb (Xj.mpr z)) e
 done:=λs Q E st q=>by
  obtain⟨⟨slot,h1,h2⟩,h3⟩:=st
  refine Zqf hh h1 h3 hd hf tb hdr h2 (QZ (by rw[Zd0.length_eq,Xe,Qc];exact Qp _)) λh' g=>?_
  exact q h' s.toks λb o nb e=>g _ _ (λz=>nb (Xj.mpr z)) e
 self:=λi s Q E st q=>by
  obtain⟨⟨slot,h1,h2⟩,h3⟩:=st
  exact Zhq h1 q
noncomputable def Zjc(ps:List Nat)(es:Array (Int×Xc)):List Xc:=ps.filterMap λp=>es[p]?.map (·.2)
theorem Zkm{ps:List Nat}{es:Array (Int×Xc)}(pm:ps.Perm (Xk es.size)):(Zjc ps es).Perm (es.toList.map (·.2)):=by
 have e:Zjc (Xk es.size) es=es.toList.map (·.2):=by
  have h:=filterMap_getElem?_range es
  unfold Zjc
  rw[←List.map_filterMap,h]
 rw[←e]
 exact pm.filterMap _
theorem Z05{ps:List Nat}{es:Array (Int×Xc)}(h:∀p∈ps,p<es.size):∀{i p:Nat},ps[i]? =some p->∃x,es[p]? =some x∧(Zjc ps es)[i]? =some x.2:=by
 induction ps with
 | nil=>intro i p e;cases e
 | cons a ps ih=>
  intro i p e
  have ha:=h a (.head _)
  have ea:es[a]? =some es[a]:=Array.getElem?_eq_getElem ha
  have ed:Zjc (a :: ps) es=es[a].2 :: Zjc ps es:=by
   unfold Zjc
   rw[Ue,ea];rfl
  rw[ed]
  cases i with
  | zero=>
   cases e
   exact⟨_,ea,rfl⟩
  | succ i=>exact ih (λp m=>h p (.tail _ m)) e
theorem Z2x(hh:A.handled=none){I S T:Addr}(n1:S≠I)(n2:T≠I){o:Obj}{es:Array (Int×Xc)}{ep:Nat}{t:Q0}{ps:List Nat}(hd:o.data= .set es ep t)(hf:t.fits es.size=true)(pm:ps.Perm (Xk es.size)) :
  Walks prog w A I [I,S,T] [I] es.size (λi v=>(Zjc ps es)[i]? =some v) (λi h=>Z7n h I S T i es.size ep∧h.get? S=some o∧h.get? T=some { cls:=.type "tuple",data:=.seq (Zpn ps) }) where
 sub:=λb hb=>by rw[Xj.mp hb];exact .head _
 frame:=λi h h' st k=>⟨k I (.head _) _ st.1,k S (.tail _ (.head _)) _ st.2.1,k T (.tail _ (.tail _ (.head _))) _ st.2.2⟩
 item:=λi s Q E hi st q=>by
  have hl:i<ps.length:=by rw[pm.length_eq,Xw];exact hi
  have hp:=XJ hl
  obtain⟨x,h1,h2⟩:=Z05 (es:=es) (λp m=>Qt.mp (pm.mem_iff.mp m)) hp
  refine Zpb st.1 st.2.2 st.2.1 hd hf hp h1 λh' g1 g3=>?_
  exact q _ h' s.toks h2 ⟨g1,g3.extBut _ _ n1 st.2.1,g3.extBut _ _ n2 st.2.2⟩ λb o nb e=>g3.extBut _ _ (λz=>nb (Xj.mpr z)) e
 done:=λs Q E st q=>by
  refine Zps hh st.1 st.2.2 st.2.1 hd hf (QZ (by rw[pm.length_eq,Xw];exact Qp _)) λh' g=>?_
  exact q h' s.toks λb o nb e=>g _ _ (λz=>nb (Xj.mpr z)) e
 self:=λi s Q E st q=>Zhq st.1 q
end
theorem Zzh:typeLookup (.type "set") "__len__"=pure (some (.builtin "set.__len__")):=F.slot_set_len.lookup
section
variable {prog:Qj}{w:Qy}{A:Qv}{E:Xc->Xg->Prop}{s:Xg}
theorem Zxg{S:Addr}{o:Obj}{Q:Bool->Xg->Prop}(ho:s.heap.get? S=some o)(hex:o.ExactSet)(h:Q false s):Xu (X5 prog w) A (Builtin.List.listLengthHint (.ref S)) Q E s:=by
 have hT:s.TypeIs (.ref S) "set" :=⟨o,ho,hex.1⟩
 unfold Builtin.List.listLengthHint
 refine Xb (wpAny_specialOf hT Zzh ?_)
 generalize hid:("set.__len__" : String)=id0
 (fail_if_success (clear hid id0))
 wp_delta
 rw[show splitId id0=some ("set","__len__")from by subst hid;decide +kernel]
 subst hid
 refine Xb (wpAny_isInstance (b:=true) hT (by rw[isSubtype_type];kernel_rfl) ?_)
 simp only[Vb,XC,if_false]
 rw[if_pos (by decide +kernel)]
 refine Xb (wpAny_typeOf hT ?_)
 exact Xi h
theorem Zkp{I N:Addr}{fp wr:List Addr}{n:Nat}{P:Nat->Xc->Prop}{St:Nat->Heap->Prop}{R:Result->Xg->Prop}(W:Walks prog w A.in1 I fp wr n P St)(hn:n≤1000)(hN:N∉fp)(st:St 0 s.heap)(gN:s.heap.get? N=some { cls:=.type "list",data:=.seq #[] 2 })
  (q:∀h' tk (acc:Array Xc) c,acc.size=n->(∀(j:Nat) v,acc[j]? =some v->P j v)->h'.get? N=some { cls:=.type "list",data:=.seq acc c }->(∀b o,b∉N :: wr->s.heap.get? b=some o->h'.get? b=some o)->R (.ok (.ret (.ref N))) { s with heap:=h',toks:=tk }) :
  U7 (X5 prog w) A (.builtin "list.extend.loop" ⟨[.ref N,.ref I,.ref N],[]⟩) R s:=by
 refine codeAny_extend_loopS W.toS (by rw[Qh];omega) N hN (.ref N) n 0 s #[] 2 rfl (QC _) st gN (ItemsOf.nil P) λs' acc c hm g it=>?_
 obtain⟨h',g',d',tk',os'⟩:=s'
 have eg:g'=s.gens:=hm.gens
 have ed:d'=s.drawn:=hm.drawn
 have eo:os'=s.os:=hm.os
 subst eg ed eo
 exact q h' tk' acc c it.1 it.2 g hm.heap
theorem Zr6{N:Addr}{Q:Unit->Xg->Prop}(gN:s.heap.get? N=some { cls:=.type "list",data:=.seq #[] 0 })(q:∀h',h'.get? N=some { cls:=.type "list",data:=.seq #[] 2 }->Bh N s.heap h'->Q () { s with heap:=h' }):Xu (X5 prog w) A (Builtin.List.listTouch (.ref N)) Q E s:=by
 unfold Builtin.List.listTouch
 refine Xb (listUpdate_at gN rfl ?_ (by rw[Qh];exact QC _) (by rw[Qh];exact U0 rfl))
 have g1:=get?_update_seq (c :="list") (n:=0) gN (·.push .none)
 refine listUpdate_at g1 rfl (q _ ?_ ((JC ..).trans (JC ..))) (by rw[Qh];exact U0 rfl) (by rw[Qh];exact QC _)
 exact get?_update_seq (c :="list") g1 (·.pop)
end
section
variable {prog:Qj}{w:Qy}{A:Qv}{E:Xc->Xg->Prop}{s:Xg}
theorem Zhl{α:Type}{l:List α}{acc:Array α}(h:acc.size=l.length)(k:∀(j:Nat) v,acc[j]? =some v->l[j]? =some v):acc.toList=l:=by
 refine List.ext_getElem? λj=>?_
 rw[QK]
 cases e:acc[j]? with
 | some v=>exact(k j v e).symm
 | none=>
  have:=Array.getElem?_eq_none_iff.mp e
  exact(QZ (by omega)).symm
theorem Zp2{S:Addr}{o:Obj}{es:Array (Int×Xc)}{ep:Nat}{t:Q0}{Q:List Xc->Xg->Prop}(hh:A.handled=none)(ho:s.heap.get? S=some o)(hex:o.ExactSet)(hd:o.data= .set es ep t)(hf:t.fits es.size=true)(tb:Tb (!byT w) t)(hz:es.size≤1000)
  (q:∀h' tk d acc,acc.Perm (es.toList.map (·.2))->s.heap.objs.size≤h'.objs.size->(∀b o,b<s.heap.objs.size->s.heap.get? b=some o->h'.get? b=some o)->Q acc { s with heap:=h',toks:=tk,drawn:=d }):Xu (X5 prog w) A (collect (.ref S)) Q E s:=by
 have lS:S<s.heap.objs.size:=Xx ho
 unfold collect
 refine Xb (wpAny_runValue (Bc F.entry_proto_collect ?_));rw[JT F.plain_proto_collect _]
 show Xu _ A.in1 (newList []>>= λl=>again (.builtin "list.__iadd__" ⟨[l,.ref S],[]⟩)) _ _ s
 refine Xb (JD (Xi ⟨V7 F.plain_list_iadd _,Bc F.entry_list_iadd ?_⟩));rw[JT F.plain_list_iadd _]
 have g0:(s.heap.push { cls:=.type "list",data:=.seq ([]:List Xc).toArray }).get? s.heap.objs.size=some { cls:=.type "list",data:=.seq #[] 0 }:=Xv _ rfl
 have s0:(s.heap.push { cls:=.type "list",data:=.seq ([]:List Xc).toArray }).objs.size=s.heap.objs.size+1:=Qx ..
 have ho1:(s.heap.push { cls:=.type "list",data:=.seq ([]:List Xc).toArray }).get? S=some o:=Xf _ ho
 generalize hH:s.heap.push { cls:=.type "list",data:=.seq ([]:List Xc).toArray }=H1 at g0 s0 ho1⊢
 have old:∀b o,s.heap.get? b=some o->H1.get? b=some o:=λb o e=>by rw[←hH];exact Xf _ e
 show Xu _ A.in1 (Builtin.List.listExtendWith (.ref s.heap.objs.size) (.ref S) (.ref s.heap.objs.size)) _ _ { s with heap:=H1 }
 have hT1:Shared.TypeIs { s with heap:=H1 } (.ref S) "set" :=⟨o,ho1,hex.1⟩
 have ns:Builtin.List.listSameRef (.ref s.heap.objs.size) (.ref S)=false:=by simp[Builtin.List.listSameRef,Q3 lS]
 unfold Builtin.List.listExtendWith
 refine Xb (wpAny_typeOf hT1 ?_)
 rw[if_neg (by rw[ns];decide)]
 refine Xb (Z2s (s:={ s with heap:=H1 }) ho1 hex hd hf hz (λhdr=>?_) λps d pm=>?_)
 ·refine Xb (JM (Zxg (Xf _ ho1) hex ?_))
  rw[if_pos (by decide +kernel)]
  refine Xb (Uh (Xb (Zr6 (Xf _ g0) λh2 g2 b2=>Xi ⟨V7 F.plain_extend_loop _,?_⟩)))
  have gI:h2.get? H1.objs.size=some { cls:=.type "set_iterator",data:=.fields #[JL 0,JL 0,.ref S,JL es.size,JL ep] }:=b2.extBut _ _ (by rw[s0];exact Q3 (Qz _)) (Xv _ rfl)
  have gS:h2.get? S=some o:=b2.extBut _ _ (XQ lS) (Xf _ ho1)
  refine Zkp (I:=H1.objs.size) (s:={ s with heap:=h2 }) (Z7c (S:=S) (by simpa using hh) (by rw[s0];exact XQ (Q8 lS)) hd hf tb hdr) hz (λm=>?_) ⟨⟨0,gI,λhb=>?_⟩,gS⟩ g2 λh' tk acc c l1 l2 g k=>?_
  ·rw[s0]at m
   rcases Xp.mp m with e|m
   ·exact XQ (Qz _) e
   ·exact Q3 lS (Xj.mp m)
  ·refine Zoa ?_
   rcases hdr hb with z|z
   ·exact tb.up z
   ·have sz:t.place.size=es.size:=by
     unfold SetTable.fits at hf
     rw[XM,beq_iff_eq]at hf
     exact hf.1
    have l1:t.place.toList.length≤1:=by rw[Qc,sz];exact z
    generalize t.place.toList=l at l1
    match l,l1 with
    | [],_=>exact .nil
    | [a],_=>exact List.pairwise_singleton _ _
  ·have ea:acc.toList=Ze4 w S ep es:=Zhl (by rw[l1,Zd0.length_eq,Xe,Qc]) l2
   show Xu _ A (load s.heap.objs.size>>=_) _ _ { s with heap:=h',toks:=tk }
   refine Xb (wpAny_load g (Xi (q h' tk s.drawn acc.toList (ea▸Zd0) (VD (Xx g)) λb o lb e=>k b o (λm=>?_) (b2.extBut _ _ (XQ lb) (Xf _ (old b o e))))))
   rcases Xp.mp m with z|m
   ·exact XQ lb z
   ·rw[Xj.mp m,s0]at lb
    exact Ve _ (Nat.lt_of_succ_lt lb)
 ·refine Xb (JM (Zxg (Xf _ (Xf _ ho1)) hex ?_))
  rw[if_pos (by decide +kernel)]
  refine Xb (Uh (Xb (Zr6 (Xf _ (Xf _ g0)) λh2 g2 b2=>Xi ⟨V7 F.plain_extend_loop _,?_⟩)))
  have s1:(H1.push { cls:=.type "tuple",data:=.seq (Zpn ps) }).objs.size=s.heap.objs.size+1+1:=by rw[Qx,s0]
  have gI:h2.get? (s.heap.objs.size+1+1)=some { cls:=.type "set_iterator",data:=.fields #[.ref H1.objs.size,JL 0,.ref S,JL es.size,JL ep] }:=b2.extBut _ _ (Q3 (Q8 (Qz _))) (by rw[←s1];exact Xv _ rfl)
  have gS:h2.get? S=some o:=b2.extBut _ _ (XQ lS) (Xf _ (Xf _ ho1))
  have gT:h2.get? H1.objs.size=some { cls:=.type "tuple",data:=.seq (Zpn ps) }:=b2.extBut _ _ (by rw[s0];exact Q3 (Qz _)) (Xf _ (Xv _ rfl))
  rw[show H1.objs.size+1=s.heap.objs.size+1+1 by rw[s0]]
  refine Zkp (I:=s.heap.objs.size+1+1) (s:={ s with heap:=h2,drawn:=d }) (Z2x (S:=S) (T:=H1.objs.size) (by simpa using hh) (XQ (Q8 (Q8 lS))) (by rw[s0];exact XQ (Qz _)) hd hf pm) hz (λm=>?_) ⟨gI,gS,gT⟩ g2 λh' tk acc c l1 l2 g k=>?_
  ·rcases Xp.mp m with e|m
   ·exact XQ (Q8 (Qz _)) e
   rcases Xp.mp m with e|m
   ·exact Q3 lS e
   ·have:=Xj.mp m
    rw[s0]at this
    exact XQ (Qz _) this
  ·have ea:acc.toList=Zjc ps es:=Zhl (by rw[l1,(Zkm pm).length_eq,Xe,Qc]) l2
   show Xu _ A (load s.heap.objs.size>>=_) _ _ { s with heap:=h',toks:=tk,drawn:=d }
   refine Xb (wpAny_load g (Xi (q h' tk d acc.toList (ea▸Zkm pm) (VD (Xx g)) λb o lb e=>k b o (λm=>?_) (b2.extBut _ _ (XQ lb) (Xf _ (Xf _ (old b o e)))))))
   rcases Xp.mp m with z|m
   ·exact XQ lb z
   ·rw[Xj.mp m]at lb
    exact Ve _ (Nat.lt_of_succ_lt (Nat.lt_of_succ_lt lb))
end
theorem ints_of{vs:List Xc}(h:∀v∈vs,∃k t,v= .int k t):BZ vs (vs.map vI):=by
 induction vs with
 | nil=>exact .nil
 | cons v vs ih=>
  obtain⟨k,t,rfl⟩:=h v (.head _)
  exact .cons k t (ih λu m=>h u (.tail _ m))
section
variable {prog:Qj}{w:Qy}{A:Qv}{E:Xc->Xg->Prop}{s:Xg}
theorem Zuu{S:Addr}{ks:List Int}{Q:Xc->Xg->Prop}(hh:A.handled=none)(hS:SetI prog w (!byT w) s.heap S ks)(h64:ks.length<64)
  (q:∀h' tk d L (out:List Xc) c,s.heap.objs.size≤L->h'.get? L=some { cls:=.type "list",data:=.seq out.toArray c }->BZ out (Zcc ks)->(∀b o,b<s.heap.objs.size->s.heap.get? b=some o->h'.get? b=some o)->Q (.ref L) { s with heap:=h',toks:=tk,drawn:=d }):Xu (X5 prog w) A (call (.builtin "sorted") [.ref S]) Q E s:=by
 obtain⟨o,es,ep,t,ho,hex,hd,he,hb,hf,tb,rfl⟩:=hS
 rw[Xe,Qc]at h64
 refine Calls.call_function_entry kind_sorted plain_sorted entry_sorted (args_sorted1 _) ?_
 unfold Va.«sorted»
 refine Xb (m:=checkCount "sorted" 1 1 _) (Xi ?_)
 refine Xb (Zp2 (by simpa using hh) ho hex hd hf tb (by omega) λh1 tk d acc pm lN k1=>?_)
 have la:acc.length=es.size:=by rw[pm.length_eq,Xe,Qc]
 refine Xb (wpAny_newList ?_ (by rw[Qh];omega))
 have ga:(h1.push (Vp "list" acc.toArray 0)).get? h1.objs.size=some (Vp "list" acc.toArray 0):=Xv _ rfl
 have ia:BZ acc (acc.map vI):=ints_of λv m=>by
  obtain⟨e,me,rfl⟩:=XF.mp (pm.mem_iff.mp m)
  obtain⟨⟨k,i1,_⟩,_⟩:=he e me
  obtain⟨t',e2⟩:=Zpw i1
  exact⟨k,t',e2⟩
 refine Xb (JM (JN slot_list_sort ⟨_,ga,rfl⟩ entry_list_sort (list_sort_tree ga ia (by omega) λout ns' a1 a2 a3=>⟨_,rfl,?_⟩) (args_list_sort _)))
 have en:ns'=Zcc (es.toList.map λe=>vI e.2):=Zag (a2.trans (((pm.map vI).trans (by rw[Qs];exact .refl _)).trans (Zak _).symm)) a3 (J8 _)
 subst en
 have g1:=get?_update_seq (c :="list") ga (λ_=>(#[]:Array Xc))
 have g3:=get?_update_seq (c :="list") (Xf (Vp "list" #[] 0) (Xf (Vp "tuple" acc.toArray 0) g1)) (λ_=>out)
 refine Xi ⟨_,rfl,q _ tk d _ out.toList _ lN (by rw[Array.toArray_toList];exact g3) a1 λb o lb e=>?_⟩
 have nb:b≠h1.objs.size:=XQ (X4 lb lN)
 exact(JC ..).extBut _ _ nb (Xf _ (Xf _ ((JC ..).extBut _ _ nb (Xf _ (k1 b o lb e)))))
end
theorem Inv.drawn{X:Cx}{pins:List (Addr×Obj)}{σ:St}{H:Hp}{s:Xg}(I:Inv X pins σ H s)(d:Drawn):Inv X pins σ H { s with drawn:=d }:=by
 refine I.call (ch:=[]) (g':=s.gens) (d':=d) (t':=s.toks) ⟨λb o e _ _ _=>e,λb o e _ _ _=>⟨o.slots,e⟩,λb o e n _=>n,λb o e _=>⟨o,e⟩,λb ys e=>e,λb o u e=>e,λb ps e=>⟨#[],by rw[e];simp⟩⟩ (λb u e=>I.hok b u e) I.bare (λb hb=>nomatch hb)
noncomputable def dnc:List Int->List Int
 | []=>[]
 | x :: xs=>if x∈xs then dnc xs else x :: dnc xs
theorem Zjp(ns:List Int):Of (dnc ns) ns:=by
 induction ns with
 | nil=>exact⟨.nil,λx=>.rfl⟩
 | cons a ns ih=>
  rw[dnc]
  split
  ·rename_i c
   exact⟨ih.1,λx=>by rw[ih.2,Xp];exact⟨.inr,λm=>m.elim (λe=>e▸c) id⟩⟩
  ·rename_i c
   exact⟨QB.mpr ⟨λm=>c ((ih.2 a).mp m),ih.1⟩,λx=>by rw[Xp,Xp,ih.2]⟩
theorem Zzg(ns:List Int):(dnc ns).length≤ns.length:=by
 induction ns with
 | nil=>exact Qp _
 | cons a ns ih=>
  rw[dnc]
  split
  ·exact VB ih
  ·exact Bp ih
theorem Z6b{ks ns:List Int}(h:Of ks ns):ks.length≤ns.length:=by
 have pm:ks.Perm (dnc ns):=(V8 h.1 (Zjp ns).1).mpr λx=>by rw[h.2,(Zjp ns).2]
 rw[pm.length_eq];exact Zzg ns
theorem Zqj{ks ns:List Int}(h:Of ks ns):Zcc ks=Zcc (dnc ns):=by
 have pm:ks.Perm (dnc ns):=(V8 h.1 (Zjp ns).1).mpr λx=>by rw[h.2,(Zjp ns).2]
 exact Zag ((Zak ks).trans (pm.trans (Zak _).symm)) (J8 _) (J8 _)
section
variable {X:Cx}{p c:Bool}{io:List Nat}{a e:Expr}{pos pos' pl pr:Pos}{t:TA}{mr:MAt}{ra:FA}
noncomputable def tSS(K:Xd)(t:TA):TE:=λσ H Q=>t σ H λvs H1=>∃(l:Addr) (ns:List Int),vs=[.ref l]∧SqL K H1 l (ns.map V.int)∧ns.length<64∧∀p,H1 p=none->Q (.ref p) (upd H1 p (.lst ((Zcc (dnc ns)).map V.int)))
theorem Zoq(hc:X.calm=true)(hgl:Gl X "sorted")(hml:X.mg "sorted"=none)(hvl:X8 "sorted"=some (.builtin "sorted"))(hg:Gl X "set")(hm:X.mg "set"=none)(hv:X8 "set"=some (.type "set"))(ha:PA X [a] t)
  (he:Xn [a] X.env=(false,eval a X.env) :: Xn [] X.env:=by rfl) (hpl:(JP pos' (Xn [] X.env)).any (·.1)=false:=by rfl)
  (he':Xn [.Call (.Name "set" pr) [a] [] pos'] X.env=(false,eval (.Call (.Name "set" pr) [a] [] pos') X.env) :: Xn [] X.env:=by rfl) (hpl':(JP pos (Xn [] X.env)).any (·.1)=false:=by rfl) :
  PE X (.Call (.Name "sorted" pl) [.Call (.Name "set" pr) [a] [] pos'] [] pos) (tSS X.K t):=by
 intro pins s σ H Q I h
 refine Ba (Zct I hgl hml hvl ?_ (by decide) (by decide))
 refine Uo ?_ he' hpl'
 rw[he']
 show Xu _ _ (spliced ((false,eval (.Call (.Name "set" pr) [a] [] pos') X.env) :: JP pos (Xn [] X.env))) _ _ s
 have inner:Xu (X5 X.prog X.w) X.A (eval (.Call (.Name "set" pr) [a] [] pos') X.env) (λu s2=>∃(S:Addr) (ks ns:List Int) (H1:Hp),u=XX S∧SetI X.prog X.w (!byT X.w) s2.heap S ks∧Of ks ns∧ns.length<64∧Inv X pins σ H1 s2∧∀p,H1 p=none->Q (.ref p) (upd H1 p (.lst ((Zcc (dnc ns)).map V.int)))) X.xe s:=by
  refine Ba (Zct I hg hm hv ?_ (by decide) (by decide))
  refine JH (thn (ha pos' pins s σ H _ I h) λus s1 qz=>?_) he hpl
  obtain⟨vs,H1,I1,r1,l,ns,rfl,hs,h64,q⟩:=qz
  obtain⟨u,rfl,ru⟩:=vals1 r1
  cases(show u=XX l from ru)
  obtain⟨its,rv,pl,hz⟩:=I1.list hs
  obtain⟨ps,rfl,e2⟩:=Zew rv
  have lp:ps.length=ns.length:=by rw[←e2,Xe]
  refine Zpq (its:=(ps.map λp=>Vy p.1 p.2).toArray) (ns:=ns) (I1.ok.hd hc) pl.isList (by simp[lp]) (by rw[Qa,Xe];unfold UJ;omega) (λi v ev=>?_) λh' tk ks a1 a2 a3=>?_
  ·rw[UV,Xl]at ev
   cases ep:ps[i]? with
   | none=>rw[ep]at ev;cases ev
   | some p=>
    rw[ep]at ev
    cases ev
    exact⟨p.1,p.2,rfl,by rw[←e2,Xl,ep];rfl⟩
  ·exact⟨_,ks,ns,H1,rfl,a1,a2,h64,I1.kept (t':=tk) (λb u e=>a3 b u (Xx e) e),q⟩
 refine Calls.spliced_cons (thn inner λu s2 qz=>?_)
 obtain⟨S,ks,ns,H1,rfl,hS,hO,h64,I2,q⟩:=qz
 refine Calls.spliced_nil ?_
 have lk:ks.length≤ns.length:=Z6b hO
 refine Zuu (I2.ok.hd hc) hS (by omega) λh' tk d L out cc lN g io k=>?_
 rw[Zqj hO]at io
 have ld:((Zcc (dnc ns)).map V.int).length≤Xr:=by
  rw[Xe,←Zqj hO,(Zak ks).length_eq,Qh];omega
 refine⟨.ref L,_,(I2.laid (t':=tk) (o:=.lst ((Zcc (dnc ns)).map V.int)) (λb ob e=>k b ob (Xx e) e) lN ⟨ld,out,cc,Z31 io,g⟩).drawn d,rfl,q _ (I2.hok.fresh lN)⟩
noncomputable def Zmv(mr:MAt):MEt:=λδ K=>mr δ λrs δ'=>n1 (λd=>∃ns:List Int,d= .list (ns.map Xm)∧ns.length<64∧K (.nd (((Zcc (dnc ns)).map Xm).map OT.fz)) δ') (OT.datas rs)
theorem Ztj(hc:X.calm=true)(hgl:Gl X "sorted")(hml:X.mg "sorted"=none)(hvl:X8 "sorted"=some (.builtin "sorted"))(hg:Gl X "set")(hm:X.mg "set"=none)(hv:X8 "set"=some (.type "set"))(ha:MA X io p c [a] mr)
  (he:Xn [a] X.env=(false,eval a X.env) :: Xn [] X.env:=by rfl) (hpl:(JP pos' (Xn [] X.env)).any (·.1)=false:=by rfl)
  (he':Xn [.Call (.Name "set" pr) [a] [] pos'] X.env=(false,eval (.Call (.Name "set" pr) [a] [] pos') X.env) :: Xn [] X.env:=by rfl) (hpl':(JP pos (Xn [] X.env)).any (·.1)=false:=by rfl) :
  ME X io p true (.Call (.Name "sorted" pl) [.Call (.Name "set" pr) [a] [] pos'] [] pos) (Zmv mr):=by
 obtain⟨_,A,s⟩:=ha
 refine⟨_,Zoq hc hgl hml hvl hg hm hv A he hpl he' hpl',λC H σ δ fp ex K Q R h kk=>s C H σ δ fp ex _ _ R h λH1 vs rs δ1 fp1 new r1 h1=>?_⟩
 obtain⟨v,d,rfl,e2,q,ns,e,h64,h2⟩:=(r1.das R).one h1
 subst e
 obtain⟨l,rfl,hs⟩:=q.ints_sq
 refine⟨l,ns,rfl,hs,h64,λp hp=>?_⟩
 have sm:=Z5 hp (.lst ((Zcc (dnc ns)).map V.int))
 exact kk _ _ _ δ1 fp1 [p] (RE.tree R r1.base r1.stp sm (Zbp hp) (Zdu p) (Own.list hp (Das.ints _))) h2
noncomputable def Zft(a:FA):FE:=λδ=>(a δ).bind λq=>match OT.datas q.1 with|[.list es]=>(Zdc es).bind λns=>if ns.length<64 then some (.nd (((Zcc (dnc ns)).map Xm).map OT.fz),q.2)else none|_=>none
theorem Zov{c:Bool}{e:Expr}(h:ME X io p c e (Zmv (o2 ra))):ME X io p c e (o2 (Zft ra)):=h.weak λδ K h=>by
 obtain⟨r,δ',h,k⟩:=h
 obtain⟨⟨x,δ1⟩,h1,h⟩:=bs h
 refine⟨x,δ1,h1,?_⟩
 dsimp only at h⊢
 split at h
 case h_2=>cases h
 rename_i es q
 rw[q]
 obtain⟨ns,h2,h⟩:=bs h
 split at h
 case isFalse=>cases h
 rename_i l64
 cases h
 exact⟨ns,by rw[Zcx h2],l64,k⟩
end
section
variable {κ:Type}[DecidableEq κ]
noncomputable def Ztx(kvs:List (κ×V))(k:κ):Option V:=(kvs.find? λkv=>decide (kv.1=k)).map (·.2)
noncomputable def putK(kvs:List (κ×V))(k:κ)(v:V):List (κ×V) :=
 if(kvs.any λkv=>decide (kv.1=k))=true then kvs.map (λkv=>if kv.1=k then(kv.1,v)else kv)else kvs ++ [(k,v)]
theorem Zuw{p:κ×V}{r:List (κ×V)}{k:κ}(e:p.1=k):Ztx (p :: r) k=some p.2:=by simp[Ztx,List.find?_cons,e]
theorem Zvm{p:κ×V}{r:List (κ×V)}{k:κ}(e:¬p.1=k):Ztx (p :: r) k=Ztx r k:=by simp[Ztx,List.find?_cons,e]
theorem KV.length{kvs:List (κ×V)}{vs:List (κ×Xc)}(r:KV kvs vs):kvs.length=vs.length:=Paired.length r
end
noncomputable abbrev KT(H:Hp):List (List Key×V)->List (List Key×Addr×Xc)->Prop:=Paired λp q=>p.1=q.1∧H q.2.1=some (.tup (p.1.map kV))∧RelV p.2 q.2.2
section
variable {P:Qj}{w:Qy}{H:Hp}{h:Heap}{a:Addr}
end
noncomputable def DGet(H:Hp)(a:Addr)(y:V)(r:Option V):Prop :=
 (∃ kvs k,Rd H a (.dK kvs)∧y=kV k∧r=Ztx kvs k)∨∃kvs k b,Rd H a (.dT kvs)∧y= .ref b∧H b=some (.tup (k.map kV))∧r=Ztx kvs k
noncomputable def DPut(H:Hp)(a:Addr)(y v:V)(H':Hp):Prop :=
 (∃ kvs k,H a=some (.dK kvs)∧y=kV k∧kvs.length<Xr∧H'=upd H a (.dK (putK kvs k v)))∨
 ∃kvs k b,H a=some (.dT kvs)∧y= .ref b∧H b=some (.tup (k.map kV))∧kvs.length<Xr∧H'=upd H a (.dT (putK kvs k v))
theorem DGet.k{H:Hp}{a:Addr}{kvs:List (Key×V)}{k:Key}(e:H a=some (.dK kvs)):DGet H a (kV k) (Ztx kvs k):=.inl ⟨kvs,k,.inl e,rfl,rfl⟩
theorem DGet.t{H:Hp}{a b:Addr}{kvs:List (List Key×V)}{k:List Key}(e:H a=some (.dT kvs))(eb:H b=some (.tup (k.map kV))):DGet H a (.ref b) (Ztx kvs k):=.inr ⟨kvs,k,b,.inl e,rfl,eb,rfl⟩
theorem DPut.k{H:Hp}{a:Addr}{kvs:List (Key×V)}{k:Key}{v:V}(e:H a=some (.dK kvs))(hl:kvs.length<Xr):DPut H a (kV k) v (upd H a (.dK (putK kvs k v))):=.inl ⟨kvs,k,e,rfl,hl,rfl⟩
theorem DPut.t{H:Hp}{a b:Addr}{kvs:List (List Key×V)}{k:List Key}{v:V}(e:H a=some (.dT kvs))(eb:H b=some (.tup (k.map kV)))(hl:kvs.length<Xr) :
  DPut H a (.ref b) v (upd H a (.dT (putK kvs k v))):=.inr ⟨kvs,k,b,e,rfl,eb,hl,rfl⟩
section
variable {X:Cx}{pins:List (Addr×Obj)}{σ:St}{H:Hp}{s:Xg}{a:Addr}{y v:V}{u r:Xc}{o:Option V}{A:Qv}{E:Xc->Xg->Prop}
end
section
variable {X:Cx}{pins:List (Addr×Obj)}{σ:St}{H:Hp}{s:Xg}{a:Addr}{kvs:List (Key×V)}{k:Key}{u:Xc}{A:Qv}{E:Xc->Xg->Prop}
end
section
variable {X:Cx}{o i e value:Expr}{pos pos' tpos:Pos}{td ty tv:TE}
end
section
variable {X:Cx}{pos:Pos}
end
noncomputable abbrev VV:List (V×V)->List (Xc×Xc)->Prop:=Paired λp q=>RelV p.1 q.1∧RelV p.2 q.2
structure M1(X:Cx)(o:Expr)(m:Str)(apos:Pos)(e:Expr)(cpos:Pos):Prop where
 base:attributeBase o m X.env (eval o X.env)=eval o X.env
 few:((JP cpos (Xn [e] X.env)).all (λx=>!x.1)&&(backToKw cpos (keywordEach [] X.env)).all (λx=>x.1.isSome)
  &&decide (([e]:List Expr).length+([]:List Keyword).length+(if([]:List Keyword).isEmpty then 0 else 1)<30))=true
 line:(apos.endLine==cpos.line)=true
 trees:JP cpos (Xn [e] X.env)=[(false,eval e X.env)]
structure M2(X:Cx)(o:Expr)(m:Str)(apos:Pos)(e f:Expr)(cpos:Pos):Prop where
 base:attributeBase o m X.env (eval o X.env)=eval o X.env
 few:((JP cpos (Xn [e,f] X.env)).all (λx=>!x.1)&&(backToKw cpos (keywordEach [] X.env)).all (λx=>x.1.isSome)
  &&decide (([e,f]:List Expr).length+([]:List Keyword).length+(if([]:List Keyword).isEmpty then 0 else 1)<30))=true
 line:(apos.endLine==cpos.line)=true
 trees:JP cpos (Xn [e,f] X.env)=[(false,eval e X.env),(false,eval f X.env)]
section
variable {X:Cx}{pins:List (Addr×Obj)}{σ:St}{H:Hp}{s:Xg}{a:Addr}{y d:V}{u r:Xc}{o:Option V}{A:Qv}{E:Xc->Xg->Prop}
end
section
variable {X:Cx}{o e f:Expr}{apos cpos:Pos}{td ty tx:TE}
end
variable {G:Xd}
noncomputable def Z8n(k:KY):List KY->List Xa->Option Xa
 | [],_=>none
 | _ :: _,[]=>none
 | j :: ks,d :: ds=>if j=k then some d else Z8n k ks ds
section
variable {H:Hp}{L:Addr->Prop}{κ:Type}[DecidableEq κ]{f:κ->KY}
noncomputable def Ycp(G:Xd)(H:Hp)(L:Addr->Prop)(a:Option V)(b:Option Xa):Prop:=(∃v d,a=some v∧b=some d∧Da G H L v d)∨(a=none∧b=none)
theorem look(hf:∀a b,f a=f b->a=b)(k:κ)(kvs:List (κ×V)):∀ds,Das G H L (kvs.map (·.2)) ds->Ycp G H L (Ztx kvs k) (Z8n (f k) (kvs.map λp=>f p.1) ds):=by
 induction kvs with
 | nil=>exact λds _=>.inr ⟨rfl,rfl⟩
 | cons p kvs ih=>
  intro ds h
  cases h with
  | cons h r=>
   rename_i d ds
   show Ycp G H L _ (if f p.1=f k then some d else Z8n (f k) (kvs.map λp=>f p.1) ds)
   by_cases e:p.1=k
   ·rw[Zuw e,if_pos (congrArg f e)]
    exact .inl ⟨_,_,rfl,rfl,h⟩
   ·rw[Zvm e,if_neg λz=>e (hf _ _ z)]
    exact ih _ r
end
section
variable {H:Hp}{L:Addr->Prop}{y:V}{e:Xa}
end
end L2
namespace L2
open PySem PySem.Spec PyProof.Rows PySem.W PySem.SeqAt
variable {G:Xd}
section
variable {prog:Qj}{w:Qy}{A:Qv}{E:Xc->Xg->Prop}{s:Xg}
end
theorem Paired.at{α β:Type}{R:α->β->Prop}{as:List α}{bs:List β}(h:PySem.Paired R as bs):∀{i:Nat} {y:β},bs[i]? =some y->∃x,as[i]? =some x∧R x y:=by
 induction h with
 | nil=>intro i y z;cases z
 | cons h t ih=>
  intro i y z
  cases i with
  | zero=>cases z;exact⟨_,rfl,h⟩
  | succ i=>exact ih z
end L2
namespace L2
open PySem PySem.Spec PyProof.Rows
noncomputable def Ybv(o:Option (Option OT))(δ:Zh):Option (OT×Zh):=match o with|some (some (.fz d))=>some (.fz d,δ)|_=>none
theorem Zzv(d:Xa)(δ:Zh):Ybv (some (some (.fz d))) δ=some (.fz d,δ):=rfl
noncomputable def Z2w(o:Option (Option OT))(δ:Zh):Option (OT×Zh):=match o with|some (some t)=>some (.fz t.data,δ)|_=>none
theorem Z1c(t:OT)(δ:Zh):Z2w (some (some t)) δ=some (.fz t.data,δ):=rfl
theorem Zk8(i:Nat)(δ:Zh):Zd i δ=Ybv δ[i]? δ:=rfl
theorem Z1a(i:Nat)(δ:Zh):Zef i δ=Z2w δ[i]? δ:=rfl
theorem Z94(d:Xa)(δ:Zh):fC d δ=some (.fz d,δ):=rfl
theorem Zmi(g:Xa->Xa->Option Xa)(a b:FE)(δ:Zh):Zf g a b δ=(a δ).bind λp=>(b p.2).bind λq=>(g p.1.data q.1.data).bind λd=>some (.fz d,q.2):=rfl
theorem Zr7(g:Xa->Xa->Option OT)(a b:FE)(δ:Zh):Yk g a b δ=(a δ).bind λp=>(b p.2).bind λq=>(g p.1.data q.1.data).bind λd=>some (d,q.2):=rfl
theorem Z3a(g:Xa->Option Xa)(a:FE)(δ:Zh):fUn g a δ=(a δ).bind λp=>(g p.1.data).bind λd=>some (.fz d,p.2):=rfl
noncomputable def onB{α:Type}(d:Xa)(x y:Option α):Option α:=match d with| .bool true=>x| .bool false=>y|_=>none
theorem Z86{α:Type}(x y:Option α):onB (.bool true) x y=x:=rfl
theorem Z9u{α:Type}(x y:Option α):onB (.bool false) x y=y:=rfl
theorem Zrz(a b:FE)(δ:Zh):Zxo a b δ=(a δ).bind λp=>onB p.1.data (b p.2) (some (.fz (.bool false),p.2)):=by
 unfold Zxo onB
 cases a δ with
 | none=>rfl
 | some p=>first|rfl|(simp only[Xh];done)|(simp only[Xh];generalize p.1.data=d;cases d<;>first|rfl|(rename_i b;cases b<;>rfl))
theorem Ybd(a b:FE)(δ:Zh):fOr a b δ=(a δ).bind λp=>onB p.1.data (some (.fz (.bool true),p.2)) (b p.2):=by
 unfold fOr onB
 cases a δ with
 | none=>rfl
 | some p=>first|rfl|(simp only[Xh];done)|(simp only[Xh];generalize p.1.data=d;cases d<;>first|rfl|(rename_i b;cases b<;>rfl))
theorem Ya7(t:FT)(a b:FE)(δ:Zh):fIf t a b δ=(t δ).bind λp=>if p.1=true then a p.2 else b p.2:=rfl
noncomputable def Z8s(t:OT)(δ:Zh):Option (Bool×Zh):=match t with| .fz (.bool b)=>some (b,δ)|_=>none
theorem Z4v(b:Bool)(δ:Zh):Z8s (.fz (.bool b)) δ=some (b,δ):=rfl
theorem Z87(e:FE)(δ:Zh):tV e δ=(e δ).bind λp=>Z8s p.1 p.2:=by
 unfold tV Z8s
 cases e δ with
 | none=>rfl
 | some p=>rfl
theorem Z3e(t:FT)(δ:Zh):tNo t δ=(t δ).bind λp=>some (!p.1,p.2):=rfl
theorem Zxa(t u:FT)(δ:Zh):tAn t u δ=(t δ).bind λp=>if p.1=true then u p.2 else some (false,p.2):=rfl
theorem Z3y(t u:FT)(δ:Zh):tO t u δ=(t δ).bind λp=>if p.1=true then some (true,p.2)else u p.2:=rfl
theorem Z9h(e:FE)(δ:Zh):tD e δ=(e δ).bind λp=>(Zt1 p.1.data).bind λb=>some (b,p.2):=rfl
theorem Z9a(δ:Zh):Zee δ=some (true,δ):=rfl
theorem Z8a(δ:Zh):Zm δ=some ([],δ):=rfl
theorem Zjg(e:FE)(a:FA)(δ:Zh):Zc e a δ=(e δ).bind λp=>(a p.2).bind λq=>some (p.1 :: q.1,q.2):=rfl
theorem Zle(a:FA)(δ:Zh):Zdt a δ=(a δ).bind λp=>if p.1.length≤Xr then some (.fz (.tuple (OT.datas p.1)),p.2)else none:=rfl
theorem Zi1(a:FA)(δ:Zh):Zcb a δ=(a δ).bind λp=>if p.1.length≤Xr then some (.nd p.1,p.2)else none:=rfl
theorem Zuz(a:FA)(δ:Zh):Zpk a δ=(a δ).bind λp=>if p.1.length≤Xr then some (.tp p.1,p.2)else none:=rfl
theorem Zub(e:FE)(δ:Zh):Zmg e δ=(e δ).bind λp=>if Za3 p.1.data=true then some (.fz p.1.data,p.2)else none:=rfl
theorem Z3s(e:FE)(δ:Zh):Z3k e δ=(e δ).bind λp=>if Z0t p.1=true then some (p.1,p.2)else none:=rfl
noncomputable def okO(x:RF)(δ:Zh):Option (OT×Zh):=match x with| .ok r=>some (r,δ)|_=>none
theorem Z4u(r:OT)(δ:Zh):okO (.ok r) δ=some (r,δ):=rfl
theorem Zi0(F:FD)(a:FA)(δ:Zh):Z1 F a δ=(a δ).bind λp=>okO (F (OT.datas p.1)) p.2:=by
 unfold Z1 okO
 cases a δ with
 | none=>rfl
 | some p=>rfl
noncomputable def atO{α:Type}(o:Option (Option OT))(k:OT->Option α):Option α:=match o with|some (some t)=>k t|_=>none
theorem Yey{α:Type}(t:OT)(k:OT->Option α):atO (some (some t)) k=k t:=rfl
theorem Zsl(i:Nat)(F:FIO)(a:FA)(δ:Zh):Yg i F a δ=atO δ[i]? λ_=>(a δ).bind λp=>atO p.2[i]? λt=>(F t (OT.datas p.1)).bind λq=>some (q.1,p.2.set i (some q.2)):=by
 unfold Yg
 generalize δ[i]? =o
 rcases o with _|_|t
 ·rfl
 ·rfl
 ·show(a δ).bind _=(a δ).bind _
  cases a δ with
  | none=>rfl
  | some p=>
   show(λo:Option (Option OT)=>(match o with|some (some t)=>(F t (OT.datas p.1)).bind λq=>some (q.1,p.2.set i (some q.2))|_=>none)) p.2[i]? =atO p.2[i]? _
   generalize p.2[i]? =o
   rcases o with _|_|t<;>rfl
theorem Zyk(g:List Xa->Option Xa)(a:FA)(δ:Zh):Zdk g a δ=(a δ).bind λp=>(g (OT.datas p.1)).bind λd=>some (.fz d,p.2):=rfl
theorem Z6n(g:List Xa->Option OT)(a:FA)(δ:Zh):fBl g a δ=(a δ).bind λp=>(g (OT.datas p.1)).bind λd=>some (d,p.2):=rfl
theorem Z90(T:String)(e:FE)(δ:Zh):Z7m T e δ=(e δ).bind λp=>if Zkv p.1.data=true then none else some (.fz (.bool (Ztt T p.1.data)),p.2):=rfl
theorem Yew(δ:Zh):oN δ=some (none,δ):=rfl
noncomputable def asInt{α:Type}(d:Xa)(k:Int->Option α):Option α:=match d with| .int i=>k i|_=>none
theorem Zr1{α:Type}(i:Int)(k:Int->Option α):asInt (.int i) k=k i:=rfl
noncomputable def Zql{α:Type}(d:Xa)(k:List Xa->Option α):Option α:=match d with| .list i=>k i|_=>none
theorem Zqc{α:Type}(i:List Xa)(k:List Xa->Option α):Zql (.list i) k=k i:=rfl
noncomputable def Z1w{α:Type}(d:Xa)(k:List Xa->Option α):Option α:=match d with| .tuple i=>k i|_=>none
theorem Z9o{α:Type}(i:List Xa)(k:List Xa->Option α):Z1w (.tuple i) k=k i:=rfl
theorem Z9s(e:FE)(δ:Zh):oI e δ=(e δ).bind λp=>asInt p.1.data λi=>some (some i,p.2):=by
 unfold oI asInt
 cases e δ with
 | none=>rfl
 | some p=>rfl
theorem Z5g(e:FE)(lo hi:FO)(δ:Zh):fSl e lo hi δ=(e δ).bind λp=>(lo p.2).bind λq=>(hi q.2).bind λr=>Zql p.1.data λds=>some (.nd ((cutD ds q.1 r.1).map OT.fz),r.2):=by
 unfold fSl Zql;rfl
theorem Z1p(e:FE)(δ:Zh):Zc9 e δ=(e δ).bind λp=>Zql p.1.data λds=>some (ds,p.2):=by
 unfold Zc9 Zql;rfl
theorem Ycf(e:FE)(δ:Zh):iTp e δ=(e δ).bind λp=>Z1w p.1.data λds=>some (ds,p.2):=by
 unfold iTp Z1w;rfl
noncomputable def as1{α:Type}(ds:List Xa)(k:Int->Option α):Option α:=match ds with|[.int i]=>k i|_=>none
theorem Z2p{α:Type}(i:Int)(k:Int->Option α):as1 [.int i] k=k i:=rfl
noncomputable def as2{α:Type}(ds:List Xa)(k:Int->Int->Option α):Option α:=match ds with|[.int i,.int j]=>k i j|_=>none
theorem Z8c{α:Type}(i j:Int)(k:Int->Int->Option α):as2 [.int i,.int j] k=k i j:=rfl
theorem Zx5(a:FA)(δ:Zh):iRa a δ=(a δ).bind λp=>as1 (OT.datas p.1) λj=>if rOk j=true then some (Zc5 0 j.toNat,p.2)else none:=by
 unfold iRa as1;rfl
theorem Z3x(a:FA)(δ:Zh):iRb a δ=(a δ).bind λp=>as2 (OT.datas p.1) λi j=>if(rOk i&&rOk j)=true then some (Zc5 i (j-i).toNat,p.2)else none:=by
 unfold iRb as2;rfl
theorem Yam(a:FA)(δ:Zh):Ycz a δ=(a δ).bind λp=>as1 (OT.datas p.1) λj=>if rOk j=true∧j.toNat≤Xr then some (.nd ((Zc5 0 j.toNat).map OT.fz),p.2)else none:=by
 unfold Ycz as1;rfl
theorem Zl5(a b:FE)(δ:Zh):Zyw a b δ=(a δ).bind λp=>(b p.2).bind λq=>asInt q.1.data λk=>if rOk k=true∧k.toNat≤Xr then some (.nd (Qg k.toNat (.fz p.1.data)),p.2)else none:=by
 unfold Zyw asInt;rfl
noncomputable def Z8o{α:Type}(ds:List Xa)(k:List Xa->List Xa->Option α):Option α:=match ds with|[.list i,.list j]=>k i j|_=>none
theorem Ya6{α:Type}(i j:List Xa)(k:List Xa->List Xa->Option α):Z8o [.list i,.list j] k=k i j:=rfl
theorem Z7l(a:FA)(δ:Zh):Z3r a δ=(a δ).bind λp=>Z8o (OT.datas p.1) λas bs=>some (Zn4 as bs,p.2):=by
 unfold Z3r Z8o;rfl
theorem Ybp(i:Nat)(d:Xa)(δ:Zh):gNm i d δ=some (δ.set i (some (.fz d))):=rfl
theorem Z8v(i:Nat)(d:Xa)(δ:Zh):Zvh i d δ=if Za3 d=true then some (δ.set i (some (.fz d)))else none:=rfl
theorem Yc3(δ:Zh):gNl [] δ=some δ:=rfl
theorem Ybn(g:FG)(gs:FGs)(d:Xa)(r:List Xa)(δ:Zh):gCn g gs (d :: r) δ=(g d δ).bind (gs r):=rfl
theorem Yb1(n:Nat)(gs:FGs)(ds:List Xa)(δ:Zh):gTp n gs (.tuple ds) δ=if ds.length=n then gs ds δ else none:=rfl
theorem Ybl(n:Nat)(gs:FGs)(ds:List Xa)(δ:Zh):gLs n gs (.list ds) δ=if ds.length=n then gs ds δ else none:=rfl
noncomputable def RS.thn(r:RS)(g:FS):RS:=match r with| .nx δ=>g δ|r=>r
theorem Zm9(δ:Zh)(g:FS):(RS.nx δ).thn g=g δ:=rfl
theorem Zxj(r:OT)(δ:Zh)(g:FS):(RS.rt r δ).thn g= .rt r δ:=rfl
theorem Ych(δ:Zh)(g:FS):(RS.bk δ).thn g= .bk δ:=rfl
theorem Yb0(δ:Zh)(g:FS):(RS.ct δ).thn g= .ct δ:=rfl
theorem Yc8(c:Str)(δ:Zh)(g:FS):(RS.ex c δ).thn g= .ex c δ:=rfl
theorem Zbu(f g:FS)(δ:Zh):Z0 f g δ=(f δ).thn g:=rfl
theorem Yc0(δ:Zh):fNx δ= .nx δ:=rfl
theorem Z8r(δ:Zh):Yer δ= .bk δ:=rfl
theorem Z85(δ:Zh):Ydm δ= .ct δ:=rfl
theorem Z49(c:Str)(δ:Zh):Zgu c δ= .ex c δ:=rfl
theorem Z7v(δ:Zh):Yat δ= .rt (.fz .none) δ:=rfl
noncomputable def onO{α:Type}(o:Option (α×Zh))(k:α->Zh->RS):RS:=match o with|some (r,δ')=>k r δ'|none=>.bad
theorem Wj{α:Type}(r:α)(δ:Zh)(k:α->Zh->RS):onO (some (r,δ)) k=k r δ:=rfl
theorem Zcj(e:FE)(k:OT->Zh->RS)(δ:Zh):wE e k δ=onO (e δ) k:=by
 unfold wE onO
 cases e δ<;>rfl
noncomputable def onF(x:RF)(δ:Zh)(k:OT->Zh->RS):RS:=match x with| .ok r=>k r δ| .exn c=>.ex c δ| .bad=>.bad
theorem Z7h(r:OT)(δ:Zh)(k:OT->Zh->RS):onF (.ok r) δ k=k r δ:=rfl
theorem Ycb(c:Str)(δ:Zh)(k:OT->Zh->RS):onF (.exn c) δ k= .ex c δ:=rfl
theorem Z9i(F:FD)(a:FA)(k:OT->Zh->RS)(δ:Zh):wX F a k δ=onO (a δ) λrs δ1=>onF (F (OT.datas rs)) δ1 k:=by
 unfold wX onO onF
 cases a δ with
 | none=>rfl
 | some p=>rfl
theorem Zti(t:FT)(u w:FS)(δ:Zh):Zbn t u w δ=onO (t δ) λb δ'=>if b=true then u δ' else w δ':=by
 unfold Zbn onO
 cases t δ<;>rfl
theorem Zy6(it:FI)(g:FG)(u:FS)(δ:Zh):Zbw it g u δ=onO (it δ) λds δ1=>forLoop g u ds δ1:=by
 unfold Zbw onO
 cases it δ<;>rfl
theorem Zt7(r:OT)(δ:Zh):Zvs r δ= .nx δ:=rfl
theorem Zz0(r:OT)(δ:Zh):J6 r δ= .rt r δ:=rfl
theorem Z75(r:OT)(δ:Zh):Yar r δ=if Za3 r.data=true then .rt (.fz r.data) δ else .bad:=rfl
theorem Z08(i:Nat)(r:OT)(δ:Zh):W3 i r δ= .nx (δ.set i (some (.fz r.data))):=rfl
theorem Z7s(i:Nat)(r:OT)(δ:Zh):Zo1 i r δ=if Za3 r.data=true then .nx (δ.set i (some (.fz r.data)))else .bad:=rfl
theorem Zvf(i:Nat)(r:OT)(δ:Zh):Za1 i r δ= .nx (δ.set i (some r)):=rfl
noncomputable def onD(o:Option Zh):RS:=match o with|some δ=>.nx δ|none=>.bad
theorem Z71(δ:Zh):onD (some δ)= .nx δ:=rfl
theorem Z8q(g:FG)(r:OT)(δ:Zh):Yd2 g r δ=onD (g r.data δ):=rfl
noncomputable def onT(o:Option (Option OT))(k:OT->RS):RS:=match o with|some (some t)=>k t|_=>.bad
theorem Z6s(t:OT)(k:OT->RS):onT (some (some t)) k=k t:=rfl
theorem Zvr(i:Nat)(δ:Zh):Ze5 i δ=onT δ[i]? λt=>.rt t (δ.set i none):=rfl
theorem Zon(i:Nat)(u:FS)(δ:Zh):Zdh i u δ=onT δ[i]? λt=>u (δ.set i (some (.fz t.data))):=rfl
noncomputable def onN(o:Option (Option OT))(k:List OT->RS):RS:=match o with|some (some (.nd ts))=>k ts|_=>.bad
theorem Zun(t:List OT)(k:List OT->RS):onN (some (some (.nd t))) k=k t:=rfl
theorem Zhs(i:Nat)(e:FE)(δ:Zh):Yp i e δ=onN δ[i]? λ_=>onO (e δ) λr δ1=>onN δ1[i]? λts=>if ts.length<Xr then .nx (δ1.set i (some (.nd (ts ++ [.fz r.data]))))else .bad:=by
 unfold Yp
 generalize δ[i]? =o
 rcases o with _|_|(_|_|_|_)
 ·rfl
 ·rfl
 ·rfl
 ·show wE e _ δ=onO (e δ) _
  rw[Zcj]
  congr 1
 ·rfl
 ·rfl
theorem Z2a(i:Nat)(e:FE)(δ:Zh):Znp i e δ=onN δ[i]? λ_=>onO (e δ) λr δ1=>onN δ1[i]? λts=>if ts.length<Xr then .nx (δ1.set i (some (.nd (ts ++ [r]))))else .bad:=by
 unfold Znp
 generalize δ[i]? =o
 rcases o with _|_|(_|_|_|_)
 ·rfl
 ·rfl
 ·rfl
 ·show wE e _ δ=onO (e δ) _
  rw[Zcj]
  congr 1
 ·rfl
 ·rfl
noncomputable def onI(d:Xa)(k:Int->RS):RS:=match d with| .int i=>k i|_=>.bad
theorem Yeo(i:Int)(k:Int->RS):onI (.int i) k=k i:=rfl
noncomputable def onX(o:Option Nat)(k:Nat->RS):RS:=match o with|some i=>k i|_=>.bad
theorem Yeb(i:Nat)(k:Nat->RS):onX (some i) k=k i:=rfl
theorem Z0p(i:Nat)(e j:FE)(δ:Zh):Zu5 i e j δ=onO (e δ) λr δ1=>onN δ1[i]? λts=>onO (j δ1) λn _=>onI n.data λk=>onX (ixN ts.length k) λj=>.nx (δ1.set i (some (.nd (ts.set j (.fz r.data))))):=by
 unfold Zu5
 rw[Zcj]
 congr 1
 funext r δ1
 generalize δ1[i]? =o
 rcases o with _|_|(_|_|_|_)
 ·rfl
 ·rfl
 ·rfl
 ·show wE j _ δ1=onO (j δ1) _
  rw[Zcj]
  congr 1
  funext n δ2
  generalize n.data=d
  cases d<;>try rfl
  show(match ixN _ _ with|some j=>_|none=>_)=onX (ixN _ _) _
  generalize ixN _ _=x
  cases x<;>rfl
 ·rfl
 ·rfl
noncomputable def onU(o:Option OT)(k:List OT->RS):RS:=match o with|some (.nd ts)=>k ts|_=>.bad
theorem Yd9(t:List OT)(k:List OT->RS):onU (some (.nd t)) k=k t:=rfl
noncomputable def onP(o:Option (Option OT))(k:List OT->RS):RS:=match o with|some (some (.tp ts))=>k ts|_=>.bad
theorem Yeg(t:List OT)(k:List OT->RS):onP (some (some (.tp t))) k=k t:=rfl
theorem Z6h(i c:Nat)(e:FE)(δ:Zh):Zw0 i c e δ=onP δ[i]? λts=>onU ts[c]? λus=>onO (e δ) λr _=>if us.length<Xr then .nx (δ.set i (some (.tp (ts.set c (.nd (us ++ [.fz r.data]))))))else .bad:=by
 unfold Zw0
 generalize δ[i]? =o
 rcases o with _|_|(_|_|ts|_)
 ·rfl
 ·rfl
 ·rfl
 ·rfl
 ·show(match ts[c]? with|some (.nd us)=>wE e _ δ|_=>_)=onU ts[c]? _
  generalize ts[c]? =o
  rcases o with _|(_|_|_|_)
  ·rfl
  ·rfl
  ·show wE e _ δ=onO (e δ) _
   rw[Zcj]
  ·rfl
  ·rfl
 ·rfl
noncomputable def on2(ds:List Xa)(k:Xa->Xa->RS):RS:=match ds with|[d,e]=>k d e|_=>.bad
theorem Ydp(d e:Xa)(k:Xa->Xa->RS):on2 [d,e] k=k d e:=rfl
theorem Yab(i j:Nat)(a:FA)(δ:Zh):Zw1 i j a δ=onO (a δ) λrs δ1=>on2 (OT.datas rs) λd e=>.nx ((δ1.set i (some (.fz d))).set j (some (.fz e))):=by
 unfold Zw1 onO on2
 cases a δ<;>rfl
theorem Zgc{np n:Nat}{S:FS}{ds:List Xa}(h:ds.length=np):Zbo np n S ds=(S (Zc8 n ds)).told:=by
 unfold Zbo;rw[if_pos h]
theorem Zyu{np n:Nat}{S:FS}{t:OT}{ds:List Xa}(h:ds.length+1=np):Ztw np n S t ds=(S (Ziz n t ds)).toldI:=by
 unfold Ztw;rw[if_pos h]
theorem Z8e(δ:Zh):(RS.nx δ).told= .ok (.fz .none):=rfl
theorem Z09(r:OT)(δ:Zh):(RS.rt r δ).told= .ok r:=rfl
theorem Z8g(c:Str)(δ:Zh):(RS.ex c δ).told= .exn c:=rfl
theorem Ya9(i j:Int):Zde (.int i) (.int j)=some (.int (i+j)):=rfl
theorem Ydq(i j:Int):gSb (.int i) (.int j)=some (.int (i-j)):=rfl
theorem Ydi(i j:Int):gLt (.int i) (.int j)=some (.bool (decide (i<j))):=rfl
theorem Yel(i j:Int):gLe (.int i) (.int j)=some (.bool (decide (i≤j))):=rfl
theorem Z24(i j:Int):gGt (.int i) (.int j)=some (.bool (decide (j<i))):=rfl
theorem Z97(i j:Int):gGe (.int i) (.int j)=some (.bool (decide (j≤i))):=rfl
theorem Zfc{i j:Int}(h:Z0e i j=true):Zfb (.int i) (.int j)=some (.int (i*j)):=by
 unfold Zfb i2c;dsimp only;rw[if_pos h]
theorem Zge{i j:Int}(h:Z5u i j=true):Za4 (.int i) (.int j)=some (.int (i.fdiv j)):=by
 unfold Za4 i2c;dsimp only;rw[if_pos h]
theorem Zxy{i j:Int}(h:j≠0):Zfr (.int i) (.int j)=some (.int (i.fmod j)):=by
 unfold Zfr i2c Ybb;dsimp only;rw[if_pos (decide_eq_true h)]
theorem Zej{m n:Nat}{x y:Int}(h:Bt m x)(k:Bt n y)(hmn:m+n≤100000000:=by decide):Z0e x y=true:=Zf2.mpr (h.mulOk k hmn)
theorem Z5f{x y:Int}(h:x.natAbs<2^64):Z0e x y=true:=Zf2.mpr (.of_left (intBits_le_64 (by omega) (by omega)))
theorem Z5o{x y:Int}(h:y.natAbs<2^64):Z0e x y=true:=Zf2.mpr (.of_right (intBits_le_64 (by omega) (by omega)))
theorem Zgw{n:Nat}{i j:Int}(h0:j≠0)(h:Bt n j)(hn:n≤9000:=by decide):Z5u i j=true:=by
 obtain⟨h1,h2⟩:=DivOk.of (i:=i) h0 h hn
 unfold Z5u
 rw[decide_eq_true h1,decide_eq_true h2];rfl
theorem Z1r(i j:Int):gEq (.int i) (.int j)=some (.bool (decide (i=j))):=by
 show some (PyData.bool (i==j))=_
 rw[show(i==j)=decide (i=j)from rfl]
theorem Z8d(i j:Int):gNe (.int i) (.int j)=some (.bool (!decide (i=j))):=by
 show some (PyData.bool (!(i==j)))=_
 rw[show(i==j)=decide (i=j)from rfl]
theorem Yet(d:Xa):gIs d .none=some (.bool (Zdp d)):=rfl
theorem Z73(d:Xa):Zh7 d .none=some (.bool (!Zdp d)):=rfl
theorem Zme(ds:List Xa)(i:Int):gIx (.list ds) (.int i)=(atI ds i).bind λx=>some (.fz x):=rfl
theorem Ye1(ds:List Xa)(i:Int):gIx (.tuple ds) (.int i)=(atI ds i).bind λx=>some (.fz x):=rfl
theorem Z21(ds:List Xa):Zji [.list ds]=some (.int ds.length):=rfl
theorem Ycv(ds:List Xa):Zji [.tuple ds]=some (.int ds.length):=rfl
theorem Znk(i:Int):Zyd [.int i]=some (.int (i.natAbs:Int)):=by
 show some (Xm (if i<0 then -i else i))=_
 congr 2;split<;>omega
theorem Ycr(i j:Int):Z7p [.int i,.int j]=some (.int (if j>i then j else i)):=rfl
theorem Ybc(i j:Int):Z7z [.int i,.int j]=some (.int (if j<i then j else i)):=rfl
theorem Ycc(i:Int):Zxd [.int i]=some (.int i):=rfl
theorem Z5n(b:Bool):Zxd [.bool b]=some (.int (if b then 1 else 0)):=rfl
theorem Zy4(ds:List Xa):Zrl [.list ds]=some (.nd (ds.map OT.fz)):=rfl
theorem Yak(ds:List Xa):Zrl [.tuple ds]=some (.nd (ds.map OT.fz)):=rfl
theorem Z61{ds es:List Xa}(h:ds.length+es.length≤Xr):Znw (.list ds) (.list es)=some (.nd ((ds ++ es).map OT.fz)):=by
 unfold Znw;dsimp only;rw[if_pos h]
theorem Z6w(i:Int):Ztv (.int i)=some (.int (-i)):=rfl
theorem Ycs(b:Bool):Z8t (.bool b)=some (.bool (!b)):=rfl
theorem Yb7(b:Bool):Zt1 (.bool b)=some b:=rfl
theorem Ybh(i:Int):Zt1 (.int i)=some (i !=0):=rfl
theorem Ybj:Zt1 .none=some false:=rfl
theorem Ybe(ds:List Xa):Zt1 (.list ds)=some (!ds.isEmpty):=rfl
theorem Zt3{n:Nat}{d:Xa}(h:Sh n d)(hp:Yu d=true)(hn:n≤60):gNe d d=some (.bool false):=by
 have s:BX d=true:=(h.shp (by omega)).ok
 unfold gNe
 rw[if_pos (by rw[s];rfl),Zna hp];rfl
theorem Zns{gg:FG}{u:FS}{ds:List Xa}{δ:Zh}(I:Nat->Zh->Prop)(h0:I 0 δ)
  (turn:∀(i:Nat) (d:Xa) (δ:Zh),ds[i]? =some d->I i δ->∃δ1 δ2,gg d δ=some δ1∧(u δ1= .nx δ2∨u δ1= .ct δ2)∧I (i+1) δ2):∃δ',forLoop gg u ds δ= .nx δ'∧I ds.length δ':=by
 induction ds generalizing δ I with
 | nil=>exact⟨δ,rfl,h0⟩
 | cons d ds ih=>
  obtain⟨δ1,δ2,e1,e2,h1⟩:=turn 0 d δ rfl h0
  obtain⟨δ',e3,h3⟩:=ih (δ:=δ2) (λi δ=>I (i+1) δ) h1 λi d' δ hd hi=>turn (i+1) d' δ (by simpa using hd) hi
  refine⟨δ',?_,h3⟩
  rw[Za8,e1]
  dsimp only
  rcases e2 with e2|e2<;>rw[e2]<;>exact e3
noncomputable def Goes(r:RS)(Q:Zh->Prop):Prop:=∃δ,(r= .nx δ∨r= .ct δ)∧Q δ
theorem Goes.nx{δ:Zh}{Q:Zh->Prop}(h:Q δ):Goes (.nx δ) Q:=⟨δ,.inl rfl,h⟩
theorem Goes.ct{δ:Zh}{Q:Zh->Prop}(h:Q δ):Goes (.ct δ) Q:=⟨δ,.inr rfl,h⟩
theorem Zqw{α:Type}{me:FE}{cs:Zh}(mk:α->Xa)(f:α->OT):∀(xs:List α) (z:Option OT),(∀x∈xs,me (some (.fz (mk x)) :: cs)=some (f x,some (.fz (mk x)) :: cs)) ->
  ∃z',compLoop (gNm 0) Zee me (xs.map mk) (z :: cs)=some (xs.map f,z' :: cs)
 | [],z,_=>⟨z,rfl⟩
 | x :: xs,z,h=>by
  obtain⟨z',e⟩:=Zqw mk f xs (some (.fz (mk x))) λy hy=>h y (.tail _ hy)
  refine⟨z',?_⟩
  rw[Qu,compLoop]
  show(some (some (OT.fz (mk x)) :: cs)).bind _=_
  rw[Xh]
  show(some (true,some (OT.fz (mk x)) :: cs)).bind _=_
  rw[Xh,if_pos rfl,h x (.head _),Xh,e];rfl
theorem Zm1{α:Type}{t:FT}{me:FE}{cs:Zh}(mk:α->Xa)(p:α->Bool)(f:α->OT):∀(xs:List α) (z:Option OT),(∀x∈xs,t (some (.fz (mk x)) :: cs)=some (p x,some (.fz (mk x)) :: cs))->(∀x∈xs,p x=true->me (some (.fz (mk x)) :: cs)=some (f x,some (.fz (mk x)) :: cs)) ->
  ∃z',compLoop (gNm 0) t me (xs.map mk) (z :: cs)=some ((xs.filter p).map f,z' :: cs)
 | [],z,_,_=>⟨z,rfl⟩
 | x :: xs,z,ht,h=>by
  obtain⟨z',e⟩:=Zm1 mk p f xs (some (.fz (mk x))) (λy hy=>ht y (.tail _ hy)) λy hy=>h y (.tail _ hy)
  refine⟨z',?_⟩
  rw[Qu,compLoop]
  show(some (some (OT.fz (mk x)) :: cs)).bind _=_
  rw[Xh,ht x (.head _),Xh]
  dsimp only
  by_cases hp:p x=true
  ·rw[if_pos hp,h x (.head _) hp,Xh,e,Us hp];rfl
  ·rw[if_neg hp,e,Ut hp]
theorem Zil{α:Type}{caps:List Nat}{it:FI}{me:FE}{cs δ δ1:Zh}(xs:List α)(mk:α->Xa)(f:α->OT)(hi:it δ=some (xs.map mk,δ1))(hz:xs.length≤Xr)(hb:blk 1 caps δ1=none :: cs)
  (h:∀x∈xs,me (some (.fz (mk x)) :: cs)=some (f x,some (.fz (mk x)) :: cs)):Y6 1 caps it (gNm 0) Zee me δ=some (.nd (xs.map f),δ1):=by
 unfold Y6
 rw[hi,Xh]
 dsimp only
 rw[if_pos (by rw[Xe];exact hz),hb]
 obtain⟨z',e⟩:=Zqw (me:=me) (cs:=cs) mk f xs none h
 rw[e];rfl
theorem Zq4{α:Type}{caps:List Nat}{it:FI}{t:FT}{me:FE}{cs δ δ1:Zh}(xs:List α)(mk:α->Xa)(p:α->Bool)(f:α->OT)(hi:it δ=some (xs.map mk,δ1))(hz:xs.length≤Xr)(hb:blk 1 caps δ1=none :: cs)
  (ht:∀x∈xs,t (some (.fz (mk x)) :: cs)=some (p x,some (.fz (mk x)) :: cs)) (h:∀x∈xs,p x=true->me (some (.fz (mk x)) :: cs)=some (f x,some (.fz (mk x)) :: cs)):Y6 1 caps it (gNm 0) t me δ=some (.nd ((xs.filter p).map f),δ1):=by
 unfold Y6
 rw[hi,Xh]
 dsimp only
 rw[if_pos (by rw[Xe];exact hz),hb]
 obtain⟨z',e⟩:=Zm1 (t:=t) (me:=me) (cs:=cs) mk p f xs none ht h
 rw[e];rfl
theorem Yej:(2≤Xr)=True:=by simp[Qh]
theorem Ydh:(1≤Xr)=True:=by simp[Qh]
theorem Yea:(0≤Xr)=True:=by simp
theorem Ya2:(3≤Xr)=True:=by simp[Qh]
theorem Z2k{α:Type}(f:α->Xa)(xs:List α):(xs.map λx=>OT.fz (f x)).map OT.data=xs.map f:=by
 rw[Qs];exact X7 λx _=>OT.data_fz _
theorem Zrx{α:Type}{j:Int}{x:α}(h0:0≤j)(h1:j≤1000000):(if rOk j=true then some x else none)=some x:=if_pos (Zhw (by omega) h1)
theorem Zzc{α:Type}{i j:Int}{x:α}(h0:0≤i)(h1:i≤1000000)(h2:0≤j)(h3:j≤1000000):(if(rOk i&&rOk j)=true then some x else none)=some x:=if_pos (by rw[Zhw (by omega) h1,Zhw (by omega) h3];rfl)
theorem Zxs{r:RS}{k:Nat}(h:k≤1000000):(if k<Xr then r else .bad)=r:=if_pos (by rw[Qh];omega)
noncomputable def EvV(e:FE)(δ:Zh)(d:Xa):Prop:=∃t,e δ=some (t,δ)∧t.data=d
noncomputable def EvA(a:FA)(δ:Zh)(ds:List Xa):Prop:=∃ts,a δ=some (ts,δ)∧OT.datas ts=ds
noncomputable def EvT(t:FT)(δ:Zh)(b:Bool):Prop:=t δ=some (b,δ)
noncomputable def Told(F:FD)(ds:List Xa)(d:Xa):Prop:=∃t,F ds= .ok t∧t.data=d
section
variable {e a b:FE}{as:FA}{δ δ':Zh}{x y d:Xa}{xs ds:List Xa}{i j:Nat}{p q:Bool}{t u:FT}{S S':FS}{r:RS}
theorem EvV.cast{e:FE}{δ:Zh}{x y:Xa}(h:EvV e δ x)(k:x=y):EvV e δ y:=k▸h
theorem Za(h:δ[i]? =some (some (.fz d)):=by rfl):EvV (Zd i) δ d:=⟨_,by rw[Zk8,h,Zzv],OT.data_fz _⟩
theorem Zed{t:OT}(h:δ[i]? =some (some t))(hd:t.data=d):EvV (Zef i) δ d:=⟨_,by rw[Z1a,h,Z1c],by rw[OT.data_fz,hd]⟩
theorem Z2:EvV (fC d) δ d:=⟨_,rfl,OT.data_fz _⟩
theorem Zn{g:Xa->Xa->Option Xa}(ha:EvV a δ x)(hb:EvV b δ y)(h:g x y=some d):EvV (Zf g a b) δ d:=by
 obtain⟨_,e1,d1⟩:=ha
 obtain⟨_,e2,d2⟩:=hb
 exact⟨_,by rw[Zmi,e1,Xh,e2,Xh,d1,d2,h,Xh],OT.data_fz _⟩
theorem Zro{g:Xa->Xa->Option OT}{o:OT}(ha:EvV a δ x)(hb:EvV b δ y)(h:g x y=some o)(hd:o.data=d):EvV (Yk g a b) δ d:=by
 obtain⟨_,e1,d1⟩:=ha
 obtain⟨_,e2,d2⟩:=hb
 exact⟨_,by rw[Zr7,e1,Xh,e2,Xh,d1,d2,h,Xh],hd⟩
theorem Wh(ha:EvV a δ x)(hb:EvV b δ y)(h:gIx x y=some (.fz d)):EvV (Yk gIx a b) δ d:=Zro ha hb h (OT.data_fz _)
theorem Zc4{i j:Int}(ha:EvV a δ (.int i))(hb:EvV b δ (.int j)):EvV (Zf Zde a b) δ (.int (i+j)):=Zn ha hb rfl
theorem Zne{i j:Int}(ha:EvV a δ (.int i))(hb:EvV b δ (.int j)):EvV (Zf gSb a b) δ (.int (i-j)):=Zn ha hb rfl
theorem Z9z{g:Xa->Option Xa}(ha:EvV a δ x)(h:g x=some d):EvV (fUn g a) δ d:=by
 obtain⟨_,e1,d1⟩:=ha
 exact⟨_,by rw[Z3a,e1,Xh,d1,h,Xh],OT.data_fz _⟩
theorem Zwh(ha:EvV a δ (.bool true))(hb:EvV b δ d):EvV (Zxo a b) δ d:=by
 obtain⟨_,e1,d1⟩:=ha
 obtain⟨_,e2,d2⟩:=hb
 exact⟨_,by rw[Zrz,e1,Xh,d1,Z86,e2],d2⟩
theorem Zuh(ha:EvV a δ (.bool false)):EvV (Zxo a b) δ (.bool false):=by
 obtain⟨_,e1,d1⟩:=ha
 exact⟨_,by rw[Zrz,e1,Xh,d1,Z9u],OT.data_fz _⟩
theorem Zi:EvA Zm δ []:=⟨_,rfl,Zd4⟩
theorem Zb(h:EvV e δ d)(k:EvA as δ ds):EvA (Zc e as) δ (d :: ds):=by
 obtain⟨_,e1,d1⟩:=h
 obtain⟨_,e2,d2⟩:=k
 exact⟨_,by rw[Zjg,e1,Xh,e2,Xh],by rw[Zc0,d1,d2]⟩
theorem Zv{F:FD}(h:EvA as δ ds)(k:Told F ds d):EvV (Z1 F as) δ d:=by
 obtain⟨_,e1,d1⟩:=h
 obtain⟨_,e2,d2⟩:=k
 exact⟨_,by rw[Zi0,e1,Xh,d1,e2,Z4u],d2⟩
theorem Zdy{g:List Xa->Option Xa}(h:EvA as δ ds)(k:g ds=some d):EvV (Zdk g as) δ d:=by
 obtain⟨_,e1,d1⟩:=h
 exact⟨_,by rw[Zyk,e1,Xh,d1,k,Xh],OT.data_fz _⟩
theorem Zvt{g:List Xa->Option OT}{o:OT}(h:EvA as δ ds)(k:g ds=some o)(hd:o.data=d):EvV (fBl g as) δ d:=by
 obtain⟨_,e1,d1⟩:=h
 exact⟨_,by rw[Z6n,e1,Xh,d1,k,Xh],hd⟩
theorem Zbj:∀ts:List OT,(OT.datas ts).length=ts.length
 | []=>by rw[Zd4];rfl
 | t :: ts=>by rw[Zc0,Q6,Q6,Zbj ts]
theorem datas_map:∀ts:List OT,OT.datas ts=ts.map OT.data
 | []=>Zd4
 | t :: ts=>by rw[Zc0,Qu,datas_map ts]
theorem Zb8(h:EvA as δ ds)(hl:ds.length≤1000):EvV (Zdt as) δ (.tuple ds):=by
 obtain⟨ts,e1,d1⟩:=h
 have:=Zbj ts
 rw[d1]at this
 exact⟨_,by rw[Zle,e1,Xh,if_pos (by rw[Qh];show ts.length≤_;omega)],by rw[OT.data_fz];exact congrArg _ d1⟩
theorem Zfd(h:EvA as δ ds)(hl:ds.length≤1000):EvV (Zcb as) δ (.list ds):=by
 obtain⟨ts,e1,d1⟩:=h
 have:=Zbj ts
 rw[d1]at this
 exact⟨_,by rw[Zi1,e1,Xh,if_pos (by rw[Qh];show ts.length≤_;omega)],by rw[OT.data_nd,←datas_map,d1]⟩
theorem Zg7{o:OT}{b:Bool}(h:o.data= .bool b):o= .fz (.bool b):=by
 cases o with
 | fz d=>rw[OT.data_fz]at h;rw[h]
 | nd ts=>rw[OT.data_nd]at h;cases h
 | tp ts=>rw[OT.data_tp]at h;cases h
 | dc _ _ _=>rw[OT.data_dc]at h;cases h
theorem Zb0(h:EvV e δ (.bool p)):EvT (tV e) δ p:=by
 obtain⟨_,e1,d1⟩:=h
 unfold EvT
 rw[Z87,e1,Xh,Zg7 d1,Z4v]
theorem Yd0(h:EvV e δ d)(k:Zt1 d=some p):EvT (tD e) δ p:=by
 obtain⟨_,e1,d1⟩:=h
 unfold EvT
 rw[Z9h,e1,Xh,d1,k,Xh]
theorem Zoc(h:EvV e δ (.bool p)):EvT (tD e) δ p:=Yd0 h rfl
theorem Zpi(h:EvT t δ p):EvT (tNo t) δ (!p):=by
 unfold EvT at h⊢
 rw[Z3e,h,Xh]
theorem Zqz(h:EvT t δ true)(k:EvT u δ p):EvT (tAn t u) δ p:=by
 unfold EvT at h k⊢
 rw[Zxa,h,Xh,if_pos rfl,k]
theorem Zja(h:EvT t δ false):EvT (tAn t u) δ false:=by
 unfold EvT at h⊢
 rw[Zxa,h,Xh,if_neg XH]
theorem Z1h(h:EvT t δ false)(k:EvT u δ p):EvT (tO t u) δ p:=by
 unfold EvT at h k⊢
 rw[Z3y,h,Xh,if_neg XH,k]
theorem Z3j(h:EvT t δ true):EvT (tO t u) δ true:=by
 unfold EvT at h⊢
 rw[Z3y,h,Xh,if_pos rfl]
theorem Wn(h:S δ= .nx δ')(k:S' δ'=r):Z0 S S' δ=r:=by rw[Zbu,h,Zm9,k]
theorem Zkn{o:OT}(h:S δ= .rt o δ'):Z0 S S' δ= .rt o δ':=by rw[Zbu,h,Zxj]
theorem Z6(h:EvV e δ d):wE e (W3 i) δ= .nx (δ.set i (some (.fz d))):=by
 obtain⟨_,e1,d1⟩:=h
 rw[Zcj,e1,Wj,Z08,d1]
theorem Z5z(h:EvV e δ d):∃o,wE e J6 δ= .rt o δ∧o.data=d:=by
 obtain⟨_,e1,d1⟩:=h
 exact⟨_,by rw[Zcj,e1,Wj,Zz0],d1⟩
theorem Zdo(h:EvT t δ true)(k:S δ=r):Zbn t S S' δ=r:=by
 unfold EvT at h
 rw[Zti,h,Wj,if_pos rfl,k]
theorem Jb(h:EvT t δ false)(k:S' δ=r):Zbn t S S' δ=r:=by
 unfold EvT at h
 rw[Zti,h,Wj,if_neg (by decide),k]
theorem Ye3{F:FD}{k:OT->Zh->RS}(h:EvA as δ ds)(hF:Told F ds d)(hk:∀o,o.data=d->k o δ=r):wX F as k δ=r:=by
 obtain⟨_,e1,d1⟩:=h
 obtain⟨o,e2,d2⟩:=hF
 rw[Z9i,e1,Wj,d1,e2,Z7h,hk o d2]
noncomputable def Zk6(S:FS)(δ:Zh)(d:Xa):Prop:=∃o δ',S δ= .rt o δ'∧o.data=d
theorem Wk(h:S δ= .nx δ')(k:Zk6 S' δ' d):Zk6 (Z0 S S') δ d:=by
 obtain⟨o,δ2,e,hd⟩:=k
 exact⟨o,δ2,Wn h e,hd⟩
theorem Zv0(k:Zk6 S δ d):Zk6 (Z0 S S') δ d:=by
 obtain⟨o,δ2,e,hd⟩:=k
 exact⟨o,δ2,Zkn e,hd⟩
theorem Za6(h:EvV e δ d):Zk6 (wE e J6) δ d:=by
 obtain⟨o,e1,hd⟩:=Z5z h
 exact⟨o,δ,e1,hd⟩
theorem Zzd(h:EvT t δ true)(k:Zk6 S δ d):Zk6 (Zbn t S S') δ d:=by
 obtain⟨o,δ2,e,hd⟩:=k
 exact⟨o,δ2,Zdo h e,hd⟩
theorem Wg{np n:Nat}(hl:xs.length=np)(k:Zk6 S (Zc8 n xs) d):Told (Zbo np n S) xs d:=by
 obtain⟨o,δ2,e,hd⟩:=k
 exact⟨o,by rw[Zgc hl,e,Z09],hd⟩
noncomputable def EvO(o:FO)(δ:Zh)(l:Option Int):Prop:=o δ=some (l,δ)
theorem Ybw:EvO oN δ none:=rfl
theorem Yby{i:Int}(h:EvV e δ (.int i)):EvO (oI e) δ (some i):=by
 obtain⟨_,e1,d1⟩:=h
 unfold EvO
 rw[Z9s,e1,Xh,d1,Zr1]
theorem Z4r{lo hi:FO}{l h:Option Int}(he:EvV e δ (.list ds))(hl:EvO lo δ l)(hh:EvO hi δ h):EvV (fSl e lo hi) δ (.list (cutD ds l h)):=by
 obtain⟨_,e1,d1⟩:=he
 unfold EvO at hl hh
 exact⟨_,by rw[Z5g,e1,Xh,hl,Xh,hh,Xh,d1,Zqc],by rw[OT.data_nd,OT.map_fz]⟩
theorem Znn{es:List Xa}(ha:EvV a δ (.list ds))(hb:EvV b δ (.list es))(h:ds.length+es.length≤1000000):EvV (Yk Znw a b) δ (.list (ds ++ es)) :=
 Zro ha hb (Z61 (by rw[Qh];omega)) (by rw[OT.data_nd,OT.map_fz])
noncomputable def EvI(it:FI)(δ:Zh)(ds:List Xa):Prop:=it δ=some (ds,δ)
theorem Jr(h:EvV e δ (.list ds)):EvI (Zc9 e) δ ds:=by
 obtain⟨_,e1,d1⟩:=h
 unfold EvI
 rw[Z1p,e1,Xh,d1,Zqc]
theorem Zjs{n:Nat}(h:EvA as δ [.int n])(hn:n≤1000000):EvI (iRa as) δ (Zc5 0 n):=by
 obtain⟨_,e1,d1⟩:=h
 unfold EvI
 rw[Zx5,e1,Xh,d1,Z2p,Zrx (by omega) (by omega),QL]
theorem Zm6{it:FI}{g:FG}(h:EvI it δ ds)(k:forLoop g S ds δ=r):Zbw it g S δ=r:=by
 unfold EvI at h
 rw[Zy6,h,Wj,k]
theorem Zcl{α:Type}{caps:List Nat}{it:FI}{me:FE}{cs:Zh}(xs:List α)(mk f:α->Xa)(hi:EvI it δ (xs.map mk))(hz:xs.length≤1000000)(hb:blk 1 caps δ=none :: cs)(h:∀x∈xs,EvV me (some (.fz (mk x)) :: cs) (f x)):EvV (Y6 1 caps it (gNm 0) Zee me) δ (.list (xs.map f)):=by
 have g:∀x,∃o:OT,x∈xs->me (some (.fz (mk x)) :: cs)=some (o,some (.fz (mk x)) :: cs)∧o.data=f x:=λx=>by
  by_cases c:x∈xs
  ·obtain⟨o,h1,h2⟩:=h x c
   exact⟨o,λ_=>⟨h1,h2⟩⟩
  ·exact⟨.fz .none,λz=>absurd z c⟩
 obtain⟨o,ho⟩:=Classical.axiomOfChoice g
 unfold EvI at hi
 refine⟨_,Zil (cs:=cs) xs mk o hi (by rw[Qh];omega) hb (λx hx=>(ho x hx).1),?_⟩
 rw[OT.data_nd,Qs]
 exact congrArg _ (X7 λx hx=>(ho x hx).2)
theorem Zfk{ts:List OT}(h:EvV e δ d)(hi:δ[i]? =some (some (.nd ts)))(hl:ts.length≤1000000):Yp i e δ= .nx (δ.set i (some (.nd (ts ++ [.fz d])))):=by
 obtain⟨_,e1,d1⟩:=h
 rw[Zhs,hi,Zun,e1,Wj,hi,Zun,Zxs hl,d1]
theorem Zlj{o:OT}(h:e δ=some (o,δ)):wE e (Za1 i) δ= .nx (δ.set i (some o)):=by rw[Zcj,h,Wj,Zvf]
theorem Z8m{o:OT}(h:δ[i]? =some (some o))(hd:o.data=d):Zk6 (Ze5 i) δ d:=⟨o,_,by rw[Zvr,h,Z6s],hd⟩
theorem Zgh{o:OT}(h:δ[i]? =some (some o))(k:S (δ.set i (some (.fz o.data)))=r):Zdh i S δ=r:=by rw[Zon,h,Z6s,k]
theorem Told.ok{F:FD}{b:Bool}(h:Told F ds (.bool b)):F ds= .ok (.fz (.bool b)):=by
 obtain⟨o,e1,d1⟩:=h
 rw[e1,Zg7 d1]
theorem Zmy{o:OT}{i:Int}(h:o.data= .int i):o= .fz (.int i):=by
 cases o with
 | fz d=>rw[OT.data_fz]at h;rw[h]
 | nd ts=>rw[OT.data_nd]at h;cases h
 | tp ts=>rw[OT.data_tp]at h;cases h
 | dc _ _ _=>rw[OT.data_dc]at h;cases h
theorem Told.int{F:FD}{i:Int}(h:Told F ds (.int i)):F ds= .ok (.fz (.int i)):=by
 obtain⟨o,e1,d1⟩:=h
 rw[e1,Zmy d1]
theorem Zs5{o:OT}(h:o.data= .none):o= .fz .none:=by
 cases o with
 | fz d=>rw[OT.data_fz]at h;rw[h]
 | nd ts=>rw[OT.data_nd]at h;cases h
 | tp ts=>rw[OT.data_tp]at h;cases h
 | dc _ _ _=>rw[OT.data_dc]at h;cases h
theorem Told.of{F:FD}{o:OT}(h:F ds= .ok o)(hd:o.data=d):Told F ds d:=⟨o,h,hd⟩
end
section
variable {e a b:FE}{as:FA}{δ δ':Zh}{x y d:Xa}{xs ds:List Xa}{i j:Int}{k:Nat}{p q:Bool}{t u:FT}{S S':FS}{r:RS}{Q:Xa->Prop}
theorem Zfg(ha:EvV a δ (.int i))(hb:EvV b δ (.int j))(h:j≠0):EvV (Zf Zfr a b) δ (.int (i.fmod j)):=Zn ha hb (Zxy h)
theorem Z3p{i j:Int}(h:(decide (0<j)&&decide (j<18446744073709551616))=true):Za4 (.int i) (.int j)=some (.int (i.fdiv j)):=by
 rw[XM,decide_eq_true_eq,decide_eq_true_eq]at h
 exact Zge (Zgw (n:=64) (by omega) (Bt.of_lt (by omega) (by omega)))
theorem Zq2(ha:EvV a δ (.int i))(hb:EvV b δ (.int j))(h:(decide (0<j)&&decide (j<18446744073709551616))=true:=by decide):EvV (Zf Za4 a b) δ (.int (i.fdiv j)):=Zn ha hb (Z3p h)
theorem Zgi(ha:EvV a δ (.int i))(hb:EvV b δ (.int j))(h:i.natAbs<2^64:=by decide):EvV (Zf Zfb a b) δ (.int (i*j)):=Zn ha hb (Zfc (Z5f h))
theorem Zse(ha:EvV a δ (.int i))(hb:EvV b δ (.int j))(h:j.natAbs<2^64:=by decide):EvV (Zf Zfb a b) δ (.int (i*j)):=Zn ha hb (Zfc (Z5o h))
theorem Zsi(ha:EvV a δ (.int i))(hb:EvV b δ (.int j))(h:decide (i<j)=p):EvV (Zf gLt a b) δ (.bool p):=h▸Zn ha hb rfl
theorem Zy5(ha:EvV a δ (.int i))(hb:EvV b δ (.int j))(h:decide (j<i)=p):EvV (Zf gGt a b) δ (.bool p):=h▸Zn ha hb (Z24 _ _)
theorem Z4f(ha:EvV a δ (.int i))(hb:EvV b δ (.int j))(h:decide (j≤i)=p):EvV (Zf gGe a b) δ (.bool p):=h▸Zn ha hb (Z97 _ _)
theorem Zl4(ha:EvV a δ (.int i))(hb:EvV b δ (.int j))(h:decide (i=j)=p):EvV (Zf gEq a b) δ (.bool p):=h▸Zn ha hb (Z1r _ _)
theorem Zju(ha:EvV a δ (.int i))(hb:EvV b δ (.int j))(h:(!decide (i=j))=p):EvV (Zf gNe a b) δ (.bool p):=h▸Zn ha hb (Z8d _ _)
theorem Zjj(ha:EvV a δ (.int i)):EvV (fUn Ztv a) δ (.int (-i)):=Z9z ha (Z6w _)
theorem Zjm{ds:List Xa}(h:EvV e δ (.list ds)):EvV (Zdk Zji (Zc e Zm)) δ (.int ds.length):=Zdy (Zb h Zi) (Z21 ds)
theorem Zxf(ha:EvV a δ (.list ds))(hb:EvV b δ (.int i))(h:atI ds i=some d):EvV (Yk gIx a b) δ d:=Wh ha hb (by rw[Zme,h];rfl)
noncomputable def Zyp(S:FS)(δ:Zh)(Q:Xa->Prop):Prop:=∃d,Zk6 S δ d∧Q d
theorem Zmr(h:S δ= .nx δ')(k:Zyp S' δ' Q):Zyp (Z0 S S') δ Q:=k.imp λ_ k=>⟨Wk h k.1,k.2⟩
theorem Z44(h:EvV e δ d)(k:Q d):Zyp (wE e J6) δ Q:=⟨d,Za6 h,k⟩
theorem Yco{o:OT}(h:δ[k]? =some (some o))(hd:Q o.data):Zyp (Ze5 k) δ Q:=⟨_,Z8m h rfl,hd⟩
theorem Zzx{np n:Nat}(hl:xs.length=np)(h:Zyp S (Zc8 n xs) Q):∃d,Told (Zbo np n S) xs d∧Q d:=h.imp λ_ k=>⟨Wg hl k.1,k.2⟩
theorem Zrk{it:FI}{g:FG}(I:Nat->Zh->Prop)(hi:EvI it δ ds)(h0:I 0 δ)(turn:∀(i:Nat) (d:Xa) (δ:Zh),ds[i]? =some d->I i δ->∃δ1 δ2,g d δ=some δ1∧(S δ1= .nx δ2∨S δ1= .ct δ2)∧I (i+1) δ2)(k:∀δ',I ds.length δ'->Zyp S' δ' Q):Zyp (Z0 (Zbw it g S) S') δ Q:=by
 obtain⟨δ',e,h⟩:=Zns I h0 turn
 exact Zmr (Zm6 hi e) (k δ' h)
theorem Zj8{it:FI}{g:FG}(I:Nat->Zh->Prop)(hi:EvI it δ ds)(h0:I 0 δ)(turn:∀(i:Nat) (d:Xa) (δ:Zh),ds[i]? =some d->I i δ->∃δ1 δ2,g d δ=some δ1∧(S δ1= .nx δ2∨S δ1= .ct δ2)∧I (i+1) δ2)(k:∀δ',I ds.length δ'->Zk6 S' δ' d):Zk6 (Z0 (Zbw it g S) S') δ d:=by
 obtain⟨δ',e,h⟩:=Zns I h0 turn
 exact Wk (Zm6 hi e) (k δ' h)
theorem Zpr{it:FI}{g:FG}(I:Nat->Zh->Prop)(hi:EvI it δ ds)(h0:I 0 δ)(turn:∀(i:Nat) (d:Xa) (δ:Zh),ds[i]? =some d->I i δ->∃δ1 δ2,g d δ=some δ1∧(S δ1= .nx δ2∨S δ1= .ct δ2)∧I (i+1) δ2):∃δ',Zbw it g S δ= .nx δ'∧I ds.length δ':=by
 obtain⟨δ',e,h⟩:=Zns I h0 turn
 exact⟨δ',Zm6 hi e,h⟩
theorem Zv7{m n:Nat}(h:EvA as δ [.int m,.int n])(hm:m≤1000000)(hn:n≤1000000):EvI (iRb as) δ (Zc5 m (n-m)):=by
 obtain⟨_,e1,d1⟩:=h
 unfold EvI
 rw[Z3x,e1,Xh,d1,Z8c,Zzc (by omega) (by omega) (by omega) (by omega),show((n:Int)-(m:Int)).toNat=n-m by omega]
theorem Zn6{as:FA}{kss:List (List Int)}{st:List Nat×List (List Int)}(h:EvA as δ [.list (kss.map tupI)])(hr:Zqu ([],[]) kss=some st):EvV (Zf5 as) δ (.int st.2.length):=by
 obtain⟨_,e1,d1⟩:=h
 refine⟨_,?_,OT.data_fz _⟩
 unfold Zf5
 rw[e1,Xh,d1]
 show(some (kss.map tupI)).bind _=_
 rw[Xh,Ztg,Xh,hr,Xh]
theorem Zgn:wE (Zcb Zm) (Za1 k) δ= .nx (δ.set k (some (.nd []))):=Zlj (by rw[Zi1];rfl)
theorem Zei{i:Int}(h:0<j):0≤i.fmod j:=by rw[Zf4 h];exact Int.emod_nonneg _ (by omega)
theorem Ze1{i:Int}(h:0<j):i.fmod j<j:=by rw[Zf4 h];exact Int.emod_lt_of_pos _ h
theorem Z0r{o:OT}{ts ts0:List OT}(h:e δ=some (o,δ'))(h0:δ[k]? =some (some (.nd ts0)))(h1:δ'[k]? =some (some (.nd ts)))(hl:ts.length≤1000000):Yp k e δ= .nx (δ'.set k (some (.nd (ts ++ [.fz o.data])))):=by
 rw[Zhs,h0,Zun,h,Wj,h1,Zun,Zxs hl]
theorem Zyz{es:List Xa}(h:EvA as δ ds)(hz:Z6m ds=some es):EvI (Zfo as) δ es:=by
 obtain⟨_,e1,d1⟩:=h
 unfold EvI Zfo
 rw[e1,Xh,d1,hz,Xh]
theorem Z5x{n:Nat}(hn:n≤1000000){v:Option OT}:(Zyw (fC d) (Zd 1)) [v,some (.fz (.int n))]=some (.nd (Qg n (.fz d)),[v,some (.fz (.int n))]):=by
 obtain⟨_,e1,d1⟩:=Za (δ:=[v,some (.fz (.int n))]) (i:=1) (d:=.int n)
 rw[Zl5,Z94,Xh,e1,Xh,d1,Zr1,if_pos ⟨Zhw (by omega) (by omega),by rw[Qh];omega⟩,QL,OT.data_fz]
theorem Zuk{it:FI}{g gg:FG}{δ1:Zh}(I:Nat->Zh->Prop){J:Zh->Prop}(hg:gg d δ=some δ1)(hi:EvI it δ1 ds)(h0:I 0 δ1)(turn:∀(i:Nat) (d:Xa) (δ:Zh),ds[i]? =some d->I i δ->∃δ1 δ2,g d δ=some δ1∧(S δ1= .nx δ2∨S δ1= .ct δ2)∧I (i+1) δ2)(hJ:∀δ',I ds.length δ'->J δ'):∃δ1 δ2,gg d δ=some δ1∧(Zbw it g S δ1= .nx δ2∨Zbw it g S δ1= .ct δ2)∧J δ2:=by
 obtain⟨δ',e,h⟩:=Zns I h0 turn
 exact⟨δ1,δ',hg,.inl (Zm6 hi e),hJ δ' h⟩
theorem Zmb{a b:FE}{bs es:List Xa}{as:List Xa}(ha:EvV a δ (.list as))(hb:EvV b δ (.list bs))(hz:Zn4 as bs=es):EvI (Zfo (Zc a (Zc b Zm))) δ es:=Zyz (Zb ha (Zb hb Zi)) (congrArg some hz)
theorem Zyo(ha:EvV a δ (.list ds)):EvI (Zoj (Zc a Zm)) δ (Zip ds):=by
 obtain⟨_,e1,d1⟩:=Zb ha Zi
 unfold EvI Zoj
 rw[e1,Xh]
 dsimp only
 rw[d1]
theorem Zin{α:Type}{caps:List Nat}{it:FI}{me:FE}{t:FT}{cs:Zh}(xs:List α)(mk:α->Xa)(pr:α->Bool)(hi:EvI it δ (xs.map mk))(hz:xs.length≤1000000)(hb:blk 1 caps δ=none :: cs)(ht:∀x∈xs,EvT t (some (.fz (mk x)) :: cs) (pr x))(h:∀x∈xs,pr x=true->me (some (.fz (mk x)) :: cs)=some (.fz (mk x),some (.fz (mk x)) :: cs)):EvV (Y6 1 caps it (gNm 0) t me) δ (.list ((xs.filter pr).map mk)):=by
 unfold EvI at hi
 refine⟨_,Zq4 (cs:=cs) xs mk pr (λx=>.fz (mk x)) hi (by rw[Qh];omega) hb (λx hx=>ht x hx) h,?_⟩
 rw[OT.data_nd,Qs]
 exact congrArg _ (X7 λx _=>OT.data_fz _)
theorem Told.none{F:FD}(h:Told F ds .none):F ds= .ok (.fz .none):=by
 obtain⟨o,e1,d1⟩:=h
 rw[e1,Zs5 d1]
end
end L2
namespace My
open PySem L2 PySem.Spec
noncomputable def Jj:FS :=
 (Z0 (wE (Zdk Zyd (Zc (Zd 0) Zm)) (W3 0))
  (Z0 (wE (Zdk Zyd (Zc (Zd 1) Zm)) (W3 1))
  (Z0 (Zhx (tV (Zf gNe (Zd 1) (fC (.int 0)))) (Z0 (wE (Zf Zfr (Zd 0) (Zd 1)) (W3 2))
  (Z0 (wE (Zd 1) (W3 0))
  (wE (Zd 2) (W3 1)))))
  (wE (Zd 0) J6))))
noncomputable def Z3:FD:=Zbo 2 3 Jj
theorem Zi5{f1 f2:Int->Int->Option OT->Zh}{t:FT}{u:FS}(ht:∀x y z,t (f1 x y z)=some (!decide (y=0),f1 x y z))(hu:∀x y z,y≠0->∃z',u (f1 x y z)= .nx (f1 y (x.fmod y) z')) :
  ∀(n:Nat) (x y:Int) (z:Option OT),0≤x->0≤y->y.toNat<n->∃z',whileLoop t u n (f1 x y z)= .nx (f1 (By x y:Int) 0 z')
 | 0,_,_,_,_,_,h=>absurd h (V1 _)
 | n+1,x,y,z,hx,hy,h=>by
  unfold whileLoop
  rw[ht]
  dsimp only
  by_cases c:y=0
  ·subst c
   refine⟨z,?_⟩
   simp only[decide_true,Vb,XC,if_false]
   rw[Int.gcd_zero_right]
   congr 2
   omega
  ·simp only[c,decide_false,Bool.not_false,if_true]
   obtain⟨z1,e1⟩:=hu x y z c
   rw[e1]
   dsimp only
   have hm:x.fmod y=x%y:=Zf4 (by omega)
   have h1:0≤x%y:=Int.emod_nonneg x c
   have h2:x%y<y:=Int.emod_lt_of_pos x (by omega)
   obtain⟨z2,e2⟩:=Zi5 (f1:=f1) (f2:=f2) ht hu n y (x.fmod y) z1 hy (by omega) (by omega)
   exact⟨z2,by rw[e2,Zva hx (by omega)]⟩
theorem Za0(a b:Int):Z3 [.int a,.int b]= .ok (.fz (.int (By a b:Int))):=by
 obtain⟨z',e⟩:=Zi5 (f1:=λx y z=>[some (.fz (.int x)),some (.fz (.int y)),z]) (f2:=λx y z=>[]) (t:=tV (Zf gNe (Zd 1) (fC (.int 0)))) (u:=Z0 (wE (Zf Zfr (Zd 0) (Zd 1)) (W3 2)) (Z0 (wE (Zd 1) (W3 0)) (wE (Zd 2) (W3 1)))) (λx y z=>Zb0 (Zju Za Z2 rfl)) (λx y z hy=>⟨_,Wn (Z6 (Zfg Za Za hy)) (Wn (Z6 Za) (Z6 Za))⟩) ((b.natAbs:Int).toNat+1) (a.natAbs:Int) (b.natAbs:Int) none (by omega) (by omega) (by omega)
 rw[V2,Int.natAbs_natCast,Int.natAbs_natCast]at e
 exact Told.int<|Wg rfl<|Wk (Z6 (Zdy (Zb Za Zi) (Znk a)))<|Wk (Z6 (Zdy (Zb Za Zi) (Znk b)))<|Wk (Zkf _ e (by intro z;cases z)) (Za6 Za)
noncomputable def Zcs:FS :=
 (Z0 (wE (Z1 Z3 (Zc (Zd 0) (Zc (Zd 1) Zm))) (W3 2))
  (Z0 (Zbn (tV (Zf gLt (Zd 1) (fC (.int 0))))
  (wE (fUn Ztv (Zd 2)) (W3 2))
  fNx)
  (wE (Zdt (Zc (Zf Za4 (Zd 0) (Zd 2)) (Zc (Zf Za4 (Zd 1) (Zd 2)) Zm))) J6)))
noncomputable def Jv:FD:=Zbo 2 3 Zcs
theorem Z3g{n:Nat}{t b:Int}(hb:b≠0)(hB:Bt n b)(hn:n≤9000)(s:Int)(e:s=shr t b):Za4 (.int t) (.int s)=some (.int (Vi t b).num)∧Za4 (.int b) (.int s)=some (.int ((Vi t b).den:Int)):=by
 subst e
 rw[Zge (Zgw (Zxk hb) (Zxi hb hB) hn),Zge (Zgw (Zxk hb) (Zxi hb hB) hn),Z04 hb,Z12 hb]
 exact⟨rfl,rfl⟩
theorem Zgq{n:Nat}{t b:Int}(hb:b≠0)(hB:Bt n b)(hn:n≤9000:=by decide):Told Jv [.int t,.int b] (frD (Vi t b)):=by
 have fin:∀{δ:Zh} {s:Int},s=shr t b->δ[0]? =some (some (.fz (.int t)))->δ[1]? =some (some (.fz (.int b)))->δ[2]? =some (some (.fz (.int s)))->Zk6 (wE (Zdt (Zc (Zf Za4 (Zd 0) (Zd 2)) (Zc (Zf Za4 (Zd 1) (Zd 2)) Zm))) J6) δ (frD (Vi t b)):=λe h0 h1 h2=>by
  obtain⟨e1,e2⟩:=Z3g hb hB hn _ e
  exact Za6 (Zb8 (Zb (Zn (Za h0) (Za h2) e1) (Zb (Zn (Za h1) (Za h2) e2) Zi)) (show 2≤1000 by decide))
 have g:Told Z3 [.int t,.int b] _:=.of (Za0 t b) (OT.data_fz _)
 by_cases c:b<0
 ·exact Wg rfl<|Wk (Z6 (Zv (Zb Za (Zb Za Zi)) g))<|Wk (Zdo (Zb0 (Zsi Za Z2 (decide_eq_true c))) (Z6 (Zjj Za))) (fin (by unfold shr;rw[if_pos c]) rfl rfl rfl)
 ·exact Wg rfl<|Wk (Z6 (Zv (Zb Za (Zb Za Zi)) g))<|Wk (Jb (Zb0 (Zsi Za Z2 (decide_eq_false c))) rfl) (fin (by unfold shr;rw[if_neg c]) rfl rfl rfl)
noncomputable def Zcr:FS :=
 (wE (Zxo (Z7m "int" (Zd 0)) (fUn Z8t (Z7m "bool" (Zd 0)))) J6)
noncomputable def Yn:FD:=Zbo 1 1 Zcr
theorem Zfa(i:Int):Yn [.int i]= .ok (.fz (.bool true)):=rfl
noncomputable def Zaz:FS :=
 (Z0 (Zbn (tO (tNo (tD (Z1 Yn (Zc (Zd 0) Zm)))) (tO (tNo (tD (Z1 Yn (Zc (Zd 1) Zm)))) (tV (Zf gEq (Zd 1) (fC (.int 0))))))
  (Zgu "NoNumber")
  fNx)
  (wE (Z1 Jv (Zc (Zd 0) (Zc (Zd 1) Zm))) J6))
noncomputable def Y0:FD:=Zbo 2 2 Zaz
theorem Zlz{n:Nat}{t b:Int}(hb:b≠0)(hB:Bt n b)(hn:n≤9000:=by decide):Told Y0 [.int t,.int b] (frD (Vi t b)):=by
 have w:∀{i:Int},Told Yn [.int i] (.bool true):=fun{i}=>.of (Zfa i) (OT.data_fz _)
 exact Wg rfl<|Wk (Jb (Z1h (Zpi (p:=true) (Zoc (Zv (Zb Za Zi) w))) (Z1h (Zpi (p:=true) (Zoc (Zv (Zb Za Zi) w))) (Zb0 (Zl4 Za Z2 (decide_eq_false hb))))) rfl) (Za6 (Zv (Zb Za (Zb Za Zi)) (Zgq hb hB hn)))
noncomputable def Zab:FS :=
 (Z0 (wE (fC (.int 1)) (W3 1))
  (Z0 (Zbw (Zc9 (Zd 0)) (gNm 2)
  (wE (Zf Zfb (Zf Za4 (Zd 1) (Z1 Z3 (Zc (Zd 1) (Zc (Yk gIx (Zd 2) (fC (.int 1))) Zm)))) (Yk gIx (Zd 2) (fC (.int 1)))) (W3 1)))
  (wE (Zd 1) J6)))
noncomputable def Yi:FD:=Zbo 1 3 Zab
noncomputable def prD(p:Int×Int):Xa:=.tuple [.int p.1,.int p.2]
theorem Zwg{a b B:Int}(ha:0<a)(hb:0<b)(h1:a∣B)(h2:b∣B)(hB:0<B):0<a.fdiv (By a b)*b∧a∣a.fdiv (By a b)*b∧b∣a.fdiv (By a b)*b∧a.fdiv (By a b)*b∣B:=by
 have hg:0<(By a b:Int):=Zd8 (by omega)
 have d1:(By a b:Int)∣a:=Int.gcd_dvd_left ..
 have d2:(By a b:Int)∣b:=Int.gcd_dvd_right ..
 rw[J0 hg]
 have e:a/(By a b:Int)*b=(Int.lcm a b:Int):=by
  have q:=Int.gcd_mul_lcm a b
  have h3:(By a b:Int)*(Int.lcm a b:Int)=a*b:=by
   rw[←Int.natCast_mul,q,Int.natCast_mul,Int.natAbs_of_nonneg (by omega),Int.natAbs_of_nonneg (by omega)]
  obtain⟨k,hk⟩:=d1
  have e1:a/(By a b:Int)=k:=Int.ediv_eq_of_eq_mul_right (by omega) hk
  rw[e1]
  apply Int.eq_of_mul_eq_mul_left (a:=(By a b:Int)) (by omega)
  rw[h3,←Int.mul_assoc,←hk]
 rw[e]
 refine⟨?_,Int.dvd_lcm_left ..,Int.dvd_lcm_right ..,Int.coe_lcm_dvd h1 h2⟩
 have:Int.lcm a b≠0:=by
  rw[Ne,Int.lcm_eq_zero_iff]
  omega
 omega
theorem Zib{n:Nat}{a B:Int}(hB:0<B)(h:a∣B)(b:Bt n B):Bt n a:=by
 refine Bt.of_le b ?_
 have:=Int.natAbs_dvd_natAbs.mpr h
 exact Nat.le_of_dvd (by omega) this
theorem Zfn{n:Nat}{B:Int}(hB:0<B)(bB:Bt n B)(hn:n≤9000:=by decide)(ps:List (Int×Int))(h:∀p∈ps,0<p.2∧p.2∣B) :
  ∃m,Told Yi [.list (ps.map prD)] (.int m)∧0<m∧(∀p∈ps,p.2∣m)∧m∣B:=by
 have key:∃d,Told Yi [.list (ps.map prD)] d∧∃m,d= .int m∧0<m∧(∀p∈ps,p.2∣m)∧m∣B:=by
  refine Zzx rfl<|Zmr (Z6 Z2)<|Zrk (ds:=ps.map prD) (λi δ=>∃m z,δ=[some (.fz (.list (ps.map prD))),some (.fz (.int m)),z]∧0<m∧(∀j p,j<i->ps[j]? =some p->p.2∣m)∧m∣B) (Jr Za) ⟨1,none,rfl,by decide,λj p hj=>absurd hj (V1 j),Int.one_dvd _⟩ (λi d δ hd hi=>?_) λδ' hi=>?_
  ·obtain⟨m,z,hδ,h1,h2,h3⟩:=hi
   subst hδ
   rw[Xl]at hd
   cases e:ps[i]? with
   | none=>rw[e]at hd;cases hd
   | some p=>
    rw[e]at hd
    cases hd
    obtain⟨q1,q2⟩:=h p (Qo e)
    obtain⟨s1,s2,s3,s4⟩:=Zwg h1 q1 h3 q2 hB
    have g0:0<(By m p.2:Int):=Zd8 (by omega)
    have bg:Bt n (By m p.2:Int):=Zib hB (Int.dvd_trans (Int.gcd_dvd_right ..) q2) bB
    have bm:Bt n (m.fdiv (By m p.2)):=by
     rw[J0 g0]
     exact Bt.of_le (Zib hB h3 bB) (Ug _ _)
    have at1:∀{δ:Zh},δ[2]? =some (some (.fz (prD p)))->EvV (Yk gIx (Zd 2) (fC (.int 1))) δ (.int p.2):=λh=>Wh (Za h) Z2 rfl
    refine⟨_,_,rfl,.inl (Z6 (Zn (Zn Za (Zv (Zb Za (Zb (at1 rfl) Zi)) (.of (Za0 m p.2) (OT.data_fz _))) (Zge (Zgw (by omega) bg hn))) (at1 rfl) (Zfc (Zej bm (Zib hB q2 bB) (by omega))))),_,_,rfl,s1,λj p' hj hp=>?_,s4⟩
    by_cases z:j=i
    ·subst z
     rw[e]at hp;cases hp
     exact s3
    ·exact Int.dvd_trans (h2 j p' (by omega) hp) s2
  ·obtain⟨m,z,rfl,h1,h2,h3⟩:=hi
   refine Z44 Za ⟨m,rfl,h1,λp hp=>?_,h3⟩
   obtain⟨j,hj⟩:=Bl hp
   exact h2 j p (by have:=(Xo.mp hj).1;rwa[Xe]) hj
 obtain⟨d,h,m,rfl,hm⟩:=key
 exact⟨m,h,hm⟩
noncomputable def Zdj:FS :=
 (Z0 (wE (fC (.int 1)) (W3 1))
  (Z0 (Zbw (Zc9 (Zd 0)) (gNm 2)
  (wE (Z1 Yi (Zc (Yk Znw (Zcb (Zc (Zdt (Zc (fC (.int 1)) (Zc (Zd 1) Zm))) Zm)) (Zd 2)) Zm)) (W3 1)))
  (wE (Zd 1) J6)))
noncomputable def Zlm:FD:=Zbo 1 3 Zdj
noncomputable def scI(m:Int)(q:Rat):Int:=q.num*(m/(q.den:Int))
theorem Z46{m:Int}{q:Rat}(h:(q.den:Int)∣m):(scI m q:Rat)=q*(m:Rat):=by
 obtain⟨k,rfl⟩:=h
 unfold scI
 rw[Int.mul_ediv_cancel_left _ (Zqg q)]
 rw[Rat.intCast_mul,Rat.intCast_mul,Ye5,Rat.mul_assoc]
noncomputable def Zb5:FS :=
 (wE (Y6 1 [0] (Zc9 (Zd 1)) (gNm 0) Zee (Zf Zfb (Yk gIx (Zd 0) (fC (.int 0))) (Zf Za4 (Zd 1) (Yk gIx (Zd 0) (fC (.int 1)))))) J6)
noncomputable def W8:FD:=Zbo 2 2 Zb5
theorem Zj9{n:Nat}{m:Int}(hm:0<m)(bm:Bt n m)(r:List Rat)(hz:r.length≤1000)(h:∀q∈r,(q.den:Int)∣m∧Bt n q.num)(hn:n≤9000:=by decide) :
  Told W8 [.int m,Z2h r] (.list (r.map λq=>.int (scI m q))) :=
 Wg rfl<|Za6<|Zcl (cs:=[some (.fz (.int m))]) r frD (λq=>.int (scI m q)) (Jr Za) (by omega) rfl λq hq=>by
  obtain⟨h1,h2⟩:=h q hq
  refine(Zn (Wh (d:=.int q.num) Za Z2 rfl) (Zn Za (Wh (d:=.int (q.den:Int)) Za Z2 rfl) (Zge (Zgw (Zqg q) (Zib hm h1 bm) hn))) (Zfc ?_)).cast ?_
  ·rw[J0 (Zea q)]
   exact Zej h2 (Bt.of_le bm (Ug _ _)) (by omega)
  ·rw[J0 (Zea q)];rfl
noncomputable def Ze7:FS :=
 (wE (Y6 1 [0] (Zc9 (Zd 1)) (gNm 0) Zee (Z1 W8 (Zc (Zd 1) (Zc (Zd 0) Zm)))) J6)
noncomputable def Zok:FD:=Zbo 2 2 Ze7
noncomputable def Zce:FS :=
 (Z0 (wE (Zcb Zm) (Za1 1))
  (Z0 (Zbw (iRa (Zc (Zd 0) Zm)) (gNm 2)
  (Zbw (iRb (Zc (Zf Zde (Zd 2) (fC (.int 1))) (Zc (Zd 0) Zm))) (gNm 3)
  (Yp 1 (Zdt (Zc (Zd 2) (Zc (Zd 3) Zm))))))
  (Ze5 1)))
noncomputable def Yl:FD:=Zbo 1 4 Zce
noncomputable def Z4(n:Nat):List (Nat×Nat):=(Xk n).flatMap λi=>(Xk (n-(i+1))).map λj=>(i,i+1+j)
noncomputable def ptD(p:Nat×Nat):Xa:=.tuple [.int p.1,.int p.2]
theorem Zbd{n:Nat}{p:Nat×Nat}(h:p∈Z4 n):p.1<p.2∧p.2<n:=by
 unfold Z4 at h
 obtain⟨i,hi,hp⟩:=List.mem_flatMap.mp h
 obtain⟨j,hj,rfl⟩:=XF.mp hp
 have:=Qt.mp hi
 have:=Qt.mp hj
 dsimp only
 omega
theorem Ze2{n i j:Nat}(h:i<j)(hj:j<n):(i,j)∈Z4 n:=by
 unfold Z4
 exact List.mem_flatMap.mpr ⟨i,Qt.mpr (by omega),XF.mpr ⟨j-(i+1),Qt.mpr (by omega),by congr 1;omega⟩⟩
noncomputable def Ziq(n i:Nat):List (Nat×Nat):=(Xk i).flatMap λi=>(Xk (n-(i+1))).map λj=>(i,i+1+j)
theorem Zgs(n:Nat):∀i,(Ziq n i).length≤i*n
 | 0=>by simp[Ziq]
 | i+1=>by
  have:=Zgs n i
  unfold Ziq at this⊢
  rw[List.range_succ,List.flatMap_append,Qd]
  simp only[List.flatMap_cons,List.flatMap_nil,QS,Xe,Xw]
  have e:(i+1)*n=i*n+n:=by rw[Nat.succ_mul]
  omega
theorem Zpg(n i:Nat):Ziq n (i+1)=Ziq n i ++ (Xk (n-(i+1))).map λj=>(i,i+1+j):=by
 unfold Ziq;rw[List.range_succ,List.flatMap_append];simp
theorem Zdr(n:Nat)(hn:n≤1000):Told Yl [.int n] (.list ((Z4 n).map ptD)):=by
 refine Wg rfl<|Wk Zgn<|Zj8 (ds:=Zc5 0 n) (λi δ=>∃z1 z2,δ=[some (.fz (.int n)),some (.nd (((Ziq n i).map ptD).map OT.fz)),z1,z2]) (Zjs (Zb Za Zi) (by omega)) ⟨_,_,rfl⟩ (λi d δ hd h=>?_) λδ' h=>?_
 ·obtain⟨z1,z2,rfl⟩:=h
  obtain⟨hi,rfl⟩:=Zae hd
  rw[Int.zero_add]
  have ln:=Zgs n i
  have l2:i*n≤999*1000:=Nat.mul_le_mul (by omega) hn
  refine Zuk (ds:=Zc5 ((i+1:Nat):Int) (n-(i+1))) (λj δ=>∃z,δ=[some (.fz (.int n)),some (.nd (((Ziq n i ++ (Xk j).map λj=>(i,i+1+j)).map ptD).map OT.fz)),some (.fz (.int i)),z]) rfl (Zv7 (m:=i+1) (Zb (EvV.cast (Zc4 Za Z2) rfl) (Zb Za Zi)) (by omega) (by omega)) ⟨z2,by rw[List.range_zero,VM,QS];rfl⟩ (λj d δ hd h=>?_) λδ' h=>?_
  ·obtain⟨z,rfl⟩:=h
   obtain⟨hj,rfl⟩:=Zae hd
   refine⟨_,_,rfl,.inl (Zfk (Zb8 (Zb Za (Zb Za Zi)) (show 2≤1000 by decide)) rfl (by rw[Xe,Xe,Qd,Xe,Xw];omega)),some (.fz (.int (((i+1:Nat):Int)+j))),?_⟩
   rw[List.range_succ]
   simp only[Xy,Vh]
   rfl
  ·obtain⟨z,rfl⟩:=h
   rw[Wb,←Zpg]
   exact⟨_,_,rfl⟩
 ·obtain⟨z1,z2,rfl⟩:=h
  rw[Wb]
  exact Z8m rfl (by rw[OT.data_nd,OT.map_fz];rfl)
end My
namespace My
open PySem L2 PySem.Spec
noncomputable def Zcu:FS :=
 (Z0 (wE (Zcb Zm) (Za1 1))
  (Z0 (Zbw (Zc9 (fBl (Zh5 kdT ltT) (Zc (Zd 0) Zm))) (gTp 2 (gCn (gNm 2) (gCn (gNm 3) gNl)))
  (Zbn (tO (tV (Zf gEq (Zef 1) (Zcb Zm))) (tV (Zf gNe (Yk gIx (Yk gIx (Zef 1) (fUn Ztv (fC (.int 1)))) (fC (.int 0))) (Zd 2))))
  (Yp 1 (Zdt (Zc (Zd 2) (Zc (Zd 3) Zm))))
  fNx))
  (Ze5 1)))
noncomputable def Js:FD:=Zbo 1 4 Zcu
noncomputable def Zcv:FS :=
 (Z0 (Zbn (tV (Zf gEq (Yk gIx (Zef 0) (fC (.int 1))) (fC (.int 1))))
  (Z0 (wE (Zf Zfr (Yk gIx (Zef 0) (fC (.int 0))) (Zd 1)) (W3 2))
  (Z0 (Zu5 0 (Zf Za4 (Yk gIx (Zef 0) (fC (.int 0))) (Zd 1)) (fC (.int 0)))
  (wE (Zd 2) J6)))
  fNx)
  (Z0 (Zu5 0 (Zf Zde (Yk gIx (Zef 0) (fC (.int 2))) (fC (.int 1))) (fC (.int 2)))
  (Z0 (wE (Yk gIx (Zef 0) (fC (.int 2))) (Zo1 3))
  (Z0 (wE (Zf Zfb (Zf Zde (Zf Zfr (Yk gIx (Zef 0) (fC (.int 0))) (fC (.int 9999999641))) (fC (.int 953))) (Zf Zde (Zf Zfb (fC (.int 17)) (Zd 3)) (fC (.int 43)))) (W3 4))
  (Z0 (wE (Zf Zde (Zd 4) (Zf Zfb (Zf Zfb (fC (.int 3413)) (Zd 3)) (Zd 3))) (W3 4))
  (Z0 (wE (Zf Zfr (Zf Zfb (Zd 4) (Zd 4)) (fC (.int 99999999683))) (W3 4))
  (wE (Zf Zfr (Zf Za4 (Zf Zfr (Zf Zfb (Zd 4) (Zf Zde (Zd 4) (fC (.int 29)))) (fC (.int 99999999959))) (fC (.int 73))) (Zd 1)) J6)))))))
noncomputable def Zk:FIO:=Ztw 2 5 Zcv
noncomputable def Za7:FS :=
 (Z0 (wE (fC (.int 0)) (W3 1))
  (Z0 (Zbw (iRa (Zc (Yk gIx (Zcb (Zc (fC (.int 1)) (Zc (fC (.int 2)) (Zc (fC (.int 3)) (Zc (fC (.int 5)) Zm))))) (Yg 0 Zk (Zc (fC (.int 4)) Zm))) Zm)) (gNm 2)
  (wE (Zf Zde (Zf Zfb (Zd 1) (Zf Zkw (fC (.int 10)) (fC (.int 9)))) (Yg 0 Zk (Zc (Zf Zkw (fC (.int 10)) (fC (.int 9))) Zm))) (W3 1)))
  (wE (Zf Zfr (Zd 1) (Zf Zkw (fC (.int 10)) (fC (.int 40)))) J6)))
noncomputable def Jm:FIO:=Ztw 1 3 Za7
noncomputable def Zbf:FS :=
 (Z0 (wE (Zdk Zyd (Zc (Zd 0) Zm)) (W3 2))
  (Z0 (wE (Zdk Zyd (Zc (Zd 1) Zm)) (W3 3))
  (Z0 (Zhx (tV (Zf gNe (Zd 3) (fC (.int 0)))) (Zw1 2 3 (Zc (Zd 3) (Zc (Zf Zfr (Zd 2) (Zd 3)) Zm))))
  (Z0 (Zbn (tV (Zf gLt (Zd 1) (fC (.int 0))))
  (wE (Zf gSb (fC (.int 0)) (Zd 2)) (W3 2))
  fNx)
  (wE (Zdt (Zc (Zf Za4 (Zd 0) (Zd 2)) (Zc (Zf Za4 (Zd 1) (Zd 2)) Zm))) J6)))))
noncomputable def Wv:FD:=Zbo 2 4 Zbf
noncomputable def Zbm:FS :=
 (Z0 (Zbn (tV (Zf gGt (Yg 0 Zk (Zc (fC (.int 7)) Zm)) (fC (.int 0))))
  (wE (Z1 Wv (Zc (Zf Zde (fC (.int 1)) (Yg 0 Zk (Zc (fC (.int 9)) Zm))) (Zc (Yk gIx (Zcb (Zc (fC (.int 1)) (Zc (fC (.int 1)) (Zc (fC (.int 2)) (Zc (fC (.int 3)) Zm))))) (Yg 0 Zk (Zc (fC (.int 4)) Zm))) Zm))) J6)
  fNx)
  (wE (Z1 Wv (Zc (Zf Zde (fC (.int 1)) (Zf Zfr (Yg 0 Jm Zm) (Zf Zkw (fC (.int 10)) (fC (.int 39))))) (Zc (Zf Zde (fC (.int 1)) (Yg 0 Zk (Zc (fC (.int 9)) Zm))) Zm))) J6))
noncomputable def Zu:FIO:=Ztw 1 1 Zbm
noncomputable def Zck:FS :=
 (Z0 (wE (Yg 0 Zk (Zc (fC (.int 6)) Zm)) (W3 2))
  (Z0 (wE (Zcb Zm) (Za1 3))
  (Z0 (Zbn (tAn (tV (Zf gGt (Zd 1) (fC (.int 1)))) (tV (Zf gEq (Zd 2) (fC (.int 0)))))
  (wE (Zcg 1 [0] 0 1 (iRb (Zc (fC (.int 1)) (Zc (Zd 1) Zm))) (gNm 0) Zee (Zpk (Zc (Zcb (Zc (Zd 0) Zm)) (Zc (Yg 1 Zu Zm) Zm)))) (Za1 3))
  fNx)
  (Z0 (Zbn (tAn (tV (Zf gGt (Zd 1) (fC (.int 1)))) (tV (Zf gEq (Zd 2) (fC (.int 1)))))
  (wE (Zcg 1 [1,0] 0 2 (iRb (Zc (fC (.int 1)) (Zc (Zd 1) Zm))) (gNm 0) Zee (Zdt (Zc (Z2f (Zc (Zd 0) (Zc (Zd 1) Zm))) (Zc (Yg 2 Zu Zm) Zm)))) (Za1 3))
  fNx)
  (Z0 (Zbw (iRa (Zc (Yk gIx (Zcb (Zc (Yg 0 Zk (Zc (fC (.int 4)) Zm)) (Zc (Yg 0 Zk (Zc (fC (.int 12)) Zm)) Zm))) (Zdk Zxd (Zc (Zf gEq (Yg 0 Zk (Zc (fC (.int 3)) Zm)) (fC (.int 0))) Zm))) Zm)) (gNm 4)
  (Z0 (wE (Zcg 1 [0] 0 1 (iRb (Zc (fC (.int 1)) (Zc (Zd 1) Zm))) (gNm 0) (tV (Zf gEq (Yg 1 Zk (Zc (fC (.int 2)) Zm)) (fC (.int 0)))) (Zd 0)) (W3 5))
  (Zbn (tV (Zf gNe (Zd 5) (Zcb Zm)))
  (Yp 3 (Zdt (Zc (Zd 5) (Zc (Yg 0 Zu Zm) Zm))))
  fNx)))
  (Zdh 3 (wE (Z1 Js (Zc (Zd 3) Zm)) J6)))))))
noncomputable def Ju:FIO:=Ztw 2 6 Zck
noncomputable def Zg4:FS :=
 (wE (Z1 Jv (Zc (Zf Zde (Zf Zfb (Yk gIx (Zd 0) (fC (.int 0))) (Yk gIx (Zd 1) (fC (.int 1)))) (Zf Zfb (Yk gIx (Zd 1) (fC (.int 0))) (Yk gIx (Zd 0) (fC (.int 1))))) (Zc (Zf Zfb (Yk gIx (Zd 0) (fC (.int 1))) (Yk gIx (Zd 1) (fC (.int 1)))) Zm))) J6)
noncomputable def Wr:FD:=Zbo 2 2 Zg4
noncomputable def Zbe:FS :=
 (Z0 (wE (Zcb Zm) (Za1 1))
  (Z0 (Zbw (Zc9 (fBl (Zh5 kdT ltT) (Zc (Zd 0) Zm))) (gTp 2 (gCn (gNm 2) (gCn (gNm 3) gNl)))
  (Zbn (tAn (tV (Zf gNe (Zef 1) (Zcb Zm))) (tV (Zf gEq (Yk gIx (Yk gIx (Zef 1) (fUn Ztv (fC (.int 1)))) (fC (.int 0))) (Zd 2))))
  (Zu5 1 (Zdt (Zc (Zd 2) (Zc (Z1 Wr (Zc (Zmg (Yk gIx (Yk gIx (Zef 1) (fUn Ztv (fC (.int 1)))) (fC (.int 1)))) (Zc (Zd 3) Zm))) Zm))) (fUn Ztv (fC (.int 1))))
  (Yp 1 (Zdt (Zc (Zd 2) (Zc (Zd 3) Zm))))))
  (Ze5 1)))
noncomputable def Wx:FD:=Zbo 1 4 Zbe
noncomputable def Jp:FS :=
 (Z0 (wE (fC (.int 0)) (W3 2))
  (Z0 (Zbn (tV (Zf gLt (Zd 1) (Zdk Zji (Zc (Zd 0) Zm))))
  (wE (Yk gIx (Zd 0) (Zd 1)) (W3 2))
  fNx)
  (Z0 (Zbn (tV (Zf gGe (Zd 2) (Zf Zkw (fC (.int 10)) (fC (.int 18)))))
  (wE (Zcb (Zc (Zf gSb (Zd 2) (Zf Zkw (fC (.int 10)) (fC (.int 18)))) (Zc (fC (.int 1)) (Zc (fC (.int 0)) Zm)))) J6)
  fNx)
  (wE (Zcb (Zc (Zd 2) (Zc (fC (.int 0)) (Zc (Zf Zfb (fC (.int 23)) (Zd 1)) Zm)))) J6))))
noncomputable def Ws:FD:=Zbo 2 3 Jp
noncomputable def Y8:FS :=
 (Zbw (Zc9 (Zd 1)) (gNm 2)
  (Zbn (tO (tNo (tD (Z1 Yn (Zc (Zd 2) Zm)))) (tNo (tV (Zc7 (λi j=>decide (i≤j)) (λi j=>decide (i<j)) (fC (.int 0)) (Zd 2) (Zd 0)))))
  (Zgu "NoCut")
  fNx))
noncomputable def Ym:FD:=Zbo 2 3 Y8
noncomputable def Zby:FS :=
 (Z0 (wX Ym (Zc (Zd 0) (Zc (Zd 1) Zm)) Zvs)
  (Z0 (wE (Y6 1 [1] (iRa (Zc (Zd 0) Zm)) (gNm 0) (tV (Zf (Zk5 true) (Zd 0) (Zd 1))) (Zd 0)) (W3 2))
  (Z0 (Zbn (tO (tV (Zf gEq (Zdk Zji (Zc (Zd 1) Zm)) (fC (.int 0)))) (tV (Zf gEq (Zdk Zji (Zc (Zd 2) Zm)) (fC (.int 0)))))
  (Zgu "NoCut")
  fNx)
  (Z0 (Zbn (tV (Zf (Zk5 false) (fC (.int 0)) (Zd 1)))
  (wE (Zd 2) J6)
  fNx)
  (wE (Zft (Zc (Zd 1) Zm)) J6)))))
noncomputable def Wc:FD:=Zbo 2 3 Zby
noncomputable def Zb7:FS :=
 (Z0 (wE (Y6 1 [2,4] (iRa (Zc (Zd 5) Zm)) (gNm 0) Zee (Zf gSb (Zf Zde (Zd 1) (Zd 0)) (Zdk Zxd (Zc (Zf gGt (Zd 0) (Zd 2)) Zm)))) (Za1 6))
  (Z0 (Zu5 6 (Zd 1) (Zd 4))
  (Z0 (wE (Zcb Zm) (Za1 7))
  (Z0 (Zbw (Zc9 (Zd 0)) (gTp 2 (gCn (gNm 8) (gCn (gNm 9) gNl)))
  (Z0 (wE (Yk Znw (Zd 8) (Y6 2 [4,1,8] (Zoj (Zc (Zef 6) Zm)) (gTp 2 (gCn (Zvh 0) (gCn (Zvh 1) gNl))) (tAn (tV (Zf gNe (Zd 0) (Zd 2))) (tV (Zf (Zk5 false) (Zd 3) (Zd 4)))) (Zd 1))) (W3 10))
  (Yp 7 (Zdt (Zc (Z1 Wc (Zc (Zf gSb (Zf Zde (Zd 2) (Zd 5)) (fC (.int 1))) (Zc (Zd 10) Zm))) (Zc (Zd 9) Zm))))))
  (Z0 (wE (Zdk Zji (Zc (Zef 7) Zm)) (W3 11))
  (Z0 (Zbw (Zc9 (Zd 3)) (gTp 2 (gCn (gNm 8) (gCn (gNm 9) gNl)))
  (Z0 (wE (Yk Znw (Y6 1 [6] (Zc9 (Zd 8)) (gNm 0) Zee (Zmg (Yk gIx (Zef 1) (Zd 0)))) (Y6 1 [1,4,8] (iRa (Zc (Zd 2) Zm)) (gNm 0) (tAn (tV (Zf gNe (Zd 0) (Zd 1))) (tV (Zf (Zk5 false) (Zd 2) (Zd 3)))) (Zd 0))) (W3 10))
  (Yp 7 (Zdt (Zc (Z1 Wc (Zc (Zf gSb (Zf Zde (Zd 2) (Zd 5)) (fC (.int 1))) (Zc (Zd 10) Zm))) (Zc (Zd 9) Zm))))))
  (Zdh 7 (wE (Zcb (Zc (fSl (Zd 7) oN (oI (Zd 11))) (Zc (fSl (Zd 7) (oI (Zd 11)) oN) Zm))) J6))))))))
noncomputable def J9:FD:=Zbo 6 12 Zb7
noncomputable def Zci:FS :=
 (wE (Y6 1 [1] (iRa (Zc (Zd 0) Zm)) (gNm 0) Zee (fIf (tV (Zf (Zk5 false) (Zd 0) (Zd 1))) (fC (.int 1)) (fC (.int 0)))) J6)
noncomputable def Zay:FD:=Zbo 2 2 Zci
noncomputable def Zb6:FS :=
 (wE (Y6 1 [0] (Zc9 (Zd 1)) (gNm 0) Zee (Z1 Zay (Zc (Zd 1) (Zc (Yk gIx (Zd 0) (fC (.int 0))) Zm)))) J6)
noncomputable def W5:FD:=Zbo 2 2 Zb6
noncomputable def Zch:FS :=
 (wE (Zf gEq (Zf5 (Zc (Y6 2 [] (Zfo (Zc (Zd 0) (Zc (Zd 1) Zm))) (gTp 2 (gCn (gNm 0) (gCn (gNm 1) gNl))) Zee (Zdt (Zc (Zd 0) (Zc (Zd 1) Zm)))) Zm)) (fC (.int 4))) J6)
noncomputable def Za2:FD:=Zbo 2 2 Zch
noncomputable def Wu:FS :=
 (Z0 (wE (Z1 W5 (Zc (Zd 0) (Zc (Zd 1) Zm))) (W3 2))
  (Z0 (Zbw (Zc9 (Z1 Yl (Zc (Zdk Zji (Zc (Zd 2) Zm)) Zm))) (gTp 2 (gCn (gNm 3) (gCn (gNm 4) gNl)))
  (Zbn (tD (Z1 Za2 (Zc (Yk gIx (Zd 2) (Zd 3)) (Zc (Yk gIx (Zd 2) (Zd 4)) Zm))))
  (wE (Zdt (Zc (Zd 3) (Zc (Zd 4) Zm))) J6)
  fNx))
  (wE (fC .none) J6)))
noncomputable def Zo:FD:=Zbo 2 5 Wu
noncomputable def Zcp:FS :=
 (wE (Zc7 (λi j=>decide (i≤j)) (λi j=>decide (i<j)) (fC (.int 0)) (Zd 1) (Zdk Zji (Zc (Zd 0) Zm))) J6)
noncomputable def Ji:FD:=Zbo 2 2 Zcp
noncomputable def W2:FS :=
 (Z0 (Zbn (tO (tNo (tD (Z1 Ji (Zc (Zd 0) (Zc (Zd 1) Zm))))) (tNo (tD (Z1 Ji (Zc (Zd 2) (Zc (Zd 3) Zm))))))
  (Zgu "NoPoint")
  fNx)
  (Z0 (wE (Y6 1 [3] (iRa (Zc (Zdk Zji (Zc (Zd 2) Zm)) Zm)) (gNm 0) (tV (Zf gNe (Zd 0) (Zd 1))) (Zd 0)) (W3 4))
  (Z0 (wE (Zcb Zm) (Za1 5))
  (Z0 (Zbw (Zc9 (Zd 0)) (gNm 6)
  (Z0 (wE (Y6 1 [6,1,2,3] (Zc9 (Zd 4)) (gNm 0) Zee (Z1 Wr (Zc (Yk gIx (Zd 1) (Zd 2)) (Zc (Yk gIx (Yk gIx (Zd 3) (Zd 4)) (Zd 0)) Zm)))) (W3 7))
  (Yp 5 (Yk Znw (fBl Zrl (Zc (Zd 6) Zm)) (Zd 7)))))
  (Z0 (Zbw (Zc9 (Zd 4)) (gNm 8)
  (Z0 (wE (Y6 1 [2,8,3] (Zc9 (Yk gIx (Zd 0) (Zd 1))) (gNm 0) Zee (Z1 Wr (Zc (Yk gIx (Yk gIx (Zd 1) (Zd 2)) (Zd 3)) (Zc (Zd 0) Zm)))) (W3 7))
  (Yp 5 (Yk Znw (Zd 7) (Y6 1 [2,8] (Zc9 (Zd 4)) (gNm 0) Zee (Yk gIx (Yk gIx (Zd 1) (Zd 2)) (Zd 0)))))))
  (Ze5 5))))))
noncomputable def Yy:FD:=Zbo 4 9 W2
noncomputable def Yt:FS :=
 (Z0 (wE (Y6 1 [0] (iRa (Zc (Zd 0) Zm)) (gNm 0) Zee (Zyw (Zdt (Zc (fC (.int 0)) (Zc (fC (.int 1)) Zm))) (Zd 1))) (Za1 2))
  (Z0 (Zbw (Zfo (Zc (Z1 Yl (Zc (Zd 0) Zm)) (Zc (Zd 1) Zm))) (gTp 2 (gCn (gNm 3) (gCn (gNm 4) gNl)))
  (Z0 (Zlg 2 (Zd 4) (Yk gIx (Zd 3) (fC (.int 0))) (Yk gIx (Zd 3) (fC (.int 1))))
  (Zlg 2 (Zd 4) (Yk gIx (Zd 3) (fC (.int 1))) (Yk gIx (Zd 3) (fC (.int 0))))))
  (Ze5 2)))
noncomputable def Yv:FD:=Zbo 2 5 Yt
noncomputable def Jt:FS :=
 (Z0 (wE (Y6 1 [] (Zc9 (Zd 1)) (gNm 0) Zee (Yk gIx (Zd 0) (fC (.int 1)))) (W3 2))
  (Z0 (wE (Z1 Yi (Zc (Zd 2) Zm)) (W3 3))
  (Z0 (wE (Z1 W8 (Zc (Zd 3) (Zc (Zd 2) Zm))) (W3 4))
  (Z0 (wE (Z1 W5 (Zc (Zd 0) (Zc (Zd 1) Zm))) (W3 5))
  (Z0 (wE (Zcb Zm) (Za1 6))
  (Z0 (Zbw (Zc9 (Z1 Yl (Zc (Zd 0) Zm))) (gTp 2 (gCn (gNm 7) (gCn (gNm 8) gNl)))
  (Z0 (wE (Y6 2 [7,8] (Zfo (Zc (Zd 5) (Zc (Zd 4) Zm))) (gTp 2 (gCn (gNm 0) (gCn (gNm 1) gNl))) (tV (Zf gNe (Yk gIx (Zd 0) (Zd 2)) (Yk gIx (Zd 0) (Zd 3)))) (Zd 1)) (W3 9))
  (Yp 6 (Z1 Y0 (Zc (Zdk Z33 (Zc (Zd 9) Zm)) (Zc (Zd 3) Zm))))))
  (Zdh 6 (wE (Z1 Yv (Zc (Zd 0) (Zc (Zd 6) Zm))) J6))))))))
noncomputable def Yo:FD:=Zbo 2 10 Jt
noncomputable def Zel:FS :=
 (Z0 (Zbw (iRa (Zc (Zdk Z7p (Zc (fC (.int 1)) (Zc (Zdk Z7z (Zc (fC (.int 5)) (Zc (Zdk Zji (Zc (Zd 0) Zm)) Zm))) Zm))) Zm)) (gNm 1)
  (Z0 (wE (Z1 Ws (Zc (Zd 0) (Zc (Zd 1) Zm))) (Za1 2))
  (Z0 (wE (Zf Zde (fC (.int 1)) (Yg 2 Zk (Zc (fC (.int 6)) Zm))) (W3 3))
  (Z0 (wE (Zf Zde (fC (.int 1)) (Yg 2 Zk (Zc (fC (.int 5)) Zm))) (W3 4))
  (Z0 (wE (Yg 2 Ju (Zc (Zd 3) Zm)) (W3 5))
  (Z0 (wE (Yg 2 Ju (Zc (Zd 4) Zm)) (W3 6))
  (Z0 (wE (Yg 2 Zk (Zc (Zd 3) Zm)) (W3 7))
  (Z0 (wE (Yg 2 Zk (Zc (Zd 4) Zm)) (W3 8))
  (Z0 (wE (Z1 J9 (Zc (Zd 5) (Zc (Zd 7) (Zc (Zd 3) (Zc (Zd 6) (Zc (Zd 8) (Zc (Zd 4) Zm))))))) (W3 9))
  (Z0 (wE (Zf gSb (Zf Zde (Zd 3) (Zd 4)) (fC (.int 1))) (W3 10))
  (Z0 (wE (Z1 Wx (Zc (Yk Znw (Yk gIx (Zd 9) (fC (.int 0))) (Yk gIx (Zd 9) (fC (.int 1)))) Zm)) (W3 11))
  (Z0 (Zbn (tV (Zf gNe (Z1 Yy (Zc (Z1 Yo (Zc (Zd 3) (Zc (Zd 5) Zm))) (Zc (Zd 7) (Zc (Z1 Yo (Zc (Zd 4) (Zc (Zd 6) Zm))) (Zc (Zd 8) Zm))))) (Z1 Yo (Zc (Zd 10) (Zc (Zd 11) Zm)))))
  (wE (fC (.bool false)) J6)
  fNx)
  (Z0 (Zbw (Zc9 (Yk gIx (Zd 9) (fC (.int 0)))) (gTp 2 (gCn (gNm 12) (gCn (gNm 13) gNl)))
  (Zbw (Zc9 (Yk gIx (Zd 9) (fC (.int 1)))) (gTp 2 (gCn (gNm 14) (gCn (gNm 15) gNl)))
  (Z0 (wE (fBl (Zh5 kdT ltT) (Zc (Zcb (Zc (Zdt (Zc (Zd 12) (Zc (Zd 13) Zm))) (Zc (Zdt (Zc (Zd 14) (Zc (Zd 15) Zm))) Zm))) Zm)) (W3 16))
  (Zbn (tAn (tV (Zf gNe (Zd 12) (Zd 14))) (tV (Zf Zh7 (Z1 Zo (Zc (Zd 10) (Zc (Zd 16) Zm))) (fC .none))))
  (wE (fC (.bool false)) J6)
  fNx))))
  (Z0 (wE (Zxo (Zf gIs (Z1 Zo (Zc (Zd 3) (Zc (Zd 5) Zm))) (fC .none)) (Zf gIs (Z1 Zo (Zc (Zd 4) (Zc (Zd 6) Zm))) (fC .none))) (W3 17))
  (Zbn (tV (Zf gNe (Zf gIs (Z1 Zo (Zc (Zd 10) (Zc (Zd 11) Zm))) (fC .none)) (Zd 17)))
  (wE (fC (.bool false)) J6)
  fNx)))))))))))))))
  (wE (fC (.bool true)) J6))
noncomputable def Zem:FD:=Zbo 1 18 Zel
end My
namespace My
open PySem L2 PySem.Spec
noncomputable def Zdw:FS :=
 (Z0 (Zbn (tV (Zf gLt (Zd 1) (Zdk Zji (Zc (Zd 0) Zm))))
  (wE (Yk gIx (Zd 0) (Zd 1)) J6)
  fNx)
  (wE (fC (.int 0)) J6))
noncomputable def Zm7:FD:=Zbo 2 2 Zdw
noncomputable def Zg1:FS :=
 (Z0 (Zbn (tV (Zf gEq (Zf Zfr (Zf Za4 (Zd 0) (fC (.int 7))) (fC (.int 8))) (fC (.int 3))))
  (wE (Zf Zde (Zf Zde (Zd 2) (fC (.int 1))) (Zf Zfr (Zf Za4 (Zd 0) (fC (.int 56))) (Zf gSb (Zd 3) (Zd 2)))) J6)
  fNx)
  (wE (Zf Zde (Zd 1) (Zf Zfr (Zd 0) (Zf gSb (Zf Zde (Zd 2) (fC (.int 1))) (Zd 1)))) J6))
noncomputable def Ztl:FD:=Zbo 4 4 Zg1
noncomputable def Zgx:FS :=
 (Z0 (wE (Zf Zfr (Zf Zfb (Zf Zde (Zf Zde (Zf Zfr (Zd 0) (fC (.int 2147483629))) (Zf Zfb (fC (.int 9973)) (Zd 1))) (fC (.int 5))) (fC (.int 48271))) (fC (.int 2147483647))) (W3 2))
  (Z0 (wE (Zf Zfr (Zf Zfb (Zd 2) (Zd 2)) (fC (.int 2147483587))) (W3 2))
  (wE (Zf Za4 (Zf Zfr (Zf Zfb (Zf Zde (Zd 2) (Zf Zfb (fC (.int 7919)) (Zd 1))) (fC (.int 16807))) (fC (.int 2147483563))) (fC (.int 8))) J6)))
noncomputable def Zg9:FD:=Zbo 2 3 Zgx
noncomputable def Zd9:FS :=
 (Z0 (wE (Zcb Zm) (Za1 2))
  (Z0 (wE (Zd 0) (W3 3))
  (Z0 (Zbw (iRa (Zc (Zd 1) Zm)) (gNm 4)
  (Z0 (wE (Z1 Zg9 (Zc (Zd 0) (Zc (Zd 4) Zm))) (W3 5))
  (Z0 (Zbn (tV (Zf gGe (Zd 0) (Zf Zkw (fC (.int 10)) (fC (.int 18)))))
  (wE (Zf Zfr (Zd 3) (fC (.int 720720))) (W3 5))
  fNx)
  (Z0 (wE (Zf Za4 (Zd 3) (fC (.int 720720))) (W3 3))
  (Yp 2 (Zd 5))))))
  (Ze5 2))))
noncomputable def Znr:FD:=Zbo 2 6 Zd9
noncomputable def Zq(p:List Int):Xa:=.list (p.map Xm)
theorem Zvj{p:List Int}{i:Int}(h0:0≤i)(h1:i<p.length):atI (p.map Xm) i=some (.int (p.getD i.toNat 0)):=by
 rw[Zky h0,Xl,XJ (by omega)]
 simp[Ql,XJ (show i.toNat<p.length by omega)]
theorem Zqr{a b:FE}{δ:Zh}{p:List Int}{i:Int}(ha:EvV a δ (Zq p))(hb:EvV b δ (.int i))(h0:0≤i)(h1:i<p.length):EvV (Yk gIx a b) δ (.int (p.getD i.toNat 0)):=Zxf ha hb (Zvj h0 h1)
theorem Zbk{a:FE}{δ:Zh}{p:List Int}(ha:EvV a δ (Zq p)):EvV (Zdk Zji (Zc a Zm)) δ (.int p.length):=by
 have:=Zjm (ds:=p.map Xm) ha
 rwa[Xe]at this
theorem Z9m:Zkw (.int 10) (.int 18)=some (.int 1000000000000000000):=rfl
theorem Zli(p:List Int):(OT.nd ((p.map Xm).map OT.fz)).data=Zq p:=by
 rw[OT.data_nd,OT.map_fz];rfl
end My
namespace L2
open PySem PySem.Spec
noncomputable def EvP(e:FE)(δ:Zh)(Q:Xa->Zh->Prop):Prop:=∃t δ',e δ=some (t,δ')∧Q t.data δ'
noncomputable def EpA(a:FA)(δ:Zh)(Q:List Xa->Zh->Prop):Prop:=∃ts δ',a δ=some (ts,δ')∧Q (OT.datas ts) δ'
noncomputable def EpT(t:FT)(δ:Zh)(Q:Bool->Zh->Prop):Prop:=∃b δ',t δ=some (b,δ')∧Q b δ'
noncomputable def EpS(S:FS)(δ:Zh)(N:Zh->Prop)(R:Xa->Zh->Prop):Prop:=(∃δ',S δ= .nx δ'∧N δ')∨∃o δ',S δ= .rt o δ'∧R o.data δ'
noncomputable def ToldI(F:FIO)(t:OT)(ds:List Xa)(Q:Xa->OT->Prop):Prop:=∃r t',F t ds=some (r,t')∧Q r.data t'
section
variable {e a b:FE}{as:FA}{δ:Zh}{Q:Xa->Zh->Prop}{QA:List Xa->Zh->Prop}{T:Bool->Zh->Prop}{t u:FT}{S S':FS}{N:Zh->Prop}{R:Xa->Zh->Prop}{i:Nat}{d:Xa}
theorem Yb(h:EvV e δ d)(q:Q d δ):EvP e δ Q:=by
 obtain⟨t,e1,e2⟩:=h
 exact⟨t,δ,e1,e2▸q⟩
theorem Zbc{g:Xa->Xa->Option Xa}(h:EvP a δ λx δ1=>EvP b δ1 λy δ2=>∃d,g x y=some d∧Q d δ2):EvP (Zf g a b) δ Q:=by
 obtain⟨t,δ1,e1,t2,δ2,e2,d,e3,q⟩:=h
 exact⟨.fz d,δ2,by rw[Zmi,e1];show(b δ1).bind _=_;rw[e2];show(g _ _).bind _=_;rw[e3];rfl,by rw[OT.data_fz];exact q⟩
theorem Zrm{g:Xa->Xa->Option OT}(h:EvP a δ λx δ1=>EvP b δ1 λy δ2=>∃o,g x y=some o∧Q o.data δ2):EvP (Yk g a b) δ Q:=by
 obtain⟨t,δ1,e1,t2,δ2,e2,d,e3,q⟩:=h
 exact⟨d,δ2,by rw[Zr7,e1];show(b δ1).bind _=_;rw[e2];show(g _ _).bind _=_;rw[e3];rfl,q⟩
theorem Zax(q:QA [] δ):EpA Zm δ QA:=⟨[],δ,rfl,by rw[Zd4];exact q⟩
theorem Y7(h:EvP e δ λd δ1=>EpA as δ1 λds δ2=>QA (d :: ds) δ2):EpA (Zc e as) δ QA:=by
 obtain⟨t,δ1,e1,ts,δ2,e2,q⟩:=h
 exact⟨t :: ts,δ2,by rw[Zjg,e1];show(as δ1).bind _=_;rw[e2];rfl,by rw[Zc0];exact q⟩
theorem Zix{ds:List Xa}(h:EvA as δ ds)(q:QA ds δ):EpA as δ QA:=by
 obtain⟨ts,e1,e2⟩:=h
 exact⟨ts,δ,e1,e2▸q⟩
theorem Zsc{F:FD}(h:EpA as δ λds δ1=>∃d,Told F ds d∧Q d δ1):EvP (Z1 F as) δ Q:=by
 obtain⟨ts,δ1,e1,d,⟨t,e2,e3⟩,q⟩:=h
 exact⟨t,δ1,by rw[Zi0,e1];show okO (F _) _=_;rw[e2];rfl,e3▸q⟩
theorem Zdv{F:FIO}{t0:OT}(h0:δ[i]? =some (some t0))(h:EpA as δ λds δ1=>∃t,δ1[i]? =some (some t)∧ToldI F t ds λd t'=>Q d (δ1.set i (some t'))):EvP (Yg i F as) δ Q:=by
 obtain⟨ts,δ1,e1,t,e2,r,t',e3,q⟩:=h
 refine⟨r,δ1.set i (some t'),?_,q⟩
 rw[Zsl,h0]
 show(as δ).bind _=_
 rw[e1]
 show atO δ1[i]? _=_
 rw[e2]
 show(F t _).bind _=_
 rw[e3];rfl
theorem Z3f{g:List Xa->Option Xa}(h:EpA as δ λds δ1=>∃d,g ds=some d∧Q d δ1):EvP (Zdk g as) δ Q:=by
 obtain⟨ts,δ1,e1,d,e2,q⟩:=h
 exact⟨.fz d,δ1,by unfold Zdk;rw[e1];show(g _).bind _=_;rw[e2];rfl,by rw[OT.data_fz];exact q⟩
theorem Z5j(h:EpA as δ λds δ1=>ds.length≤1000∧Q (.list ds) δ1):EvP (Zcb as) δ Q:=by
 obtain⟨ts,δ1,e1,hl,q⟩:=h
 refine⟨.nd ts,δ1,?_,by rw[OT.data_nd,←datas_map];exact q⟩
 rw[Zi1,e1]
 show(if ts.length≤Xr then _ else _)=_
 rw[if_pos (by rw[Zbj]at hl;rw[Qh];omega)]
theorem Zx3(h:EpA as δ λds δ1=>ds.length≤1000∧Q (.tuple ds) δ1):EvP (Zdt as) δ Q:=by
 obtain⟨ts,δ1,e1,hl,q⟩:=h
 refine⟨.fz (.tuple (OT.datas ts)),δ1,?_,by rw[OT.data_fz];exact q⟩
 rw[Zle,e1]
 show(if ts.length≤Xr then _ else _)=_
 rw[if_pos (by rw[Zbj]at hl;rw[Qh];omega)]
theorem Z68(h:EvP e δ λd δ'=>∃p,d= .bool p∧T p δ'):EpT (tV e) δ T:=by
 obtain⟨t,δ',e1,p,e2,q⟩:=h
 have:=Zg7 e2
 subst this
 exact⟨p,δ',by unfold tV;rw[e1];rfl,q⟩
theorem W6{p:Bool}(h:EvT t δ p)(q:T p δ):EpT t δ T:=⟨p,δ,h,q⟩
theorem Zw3(h:EpT t δ λp δ1=>(p=true->EpT u δ1 T)∧(p=false->T false δ1)):EpT (tAn t u) δ T:=by
 obtain⟨p,δ1,e1,q1,q2⟩:=h
 cases p with
 | true=>
  obtain⟨p2,δ2,e2,q⟩:=q1 rfl
  exact⟨p2,δ2,by unfold tAn;rw[e1];exact e2,q⟩
 | false=>exact⟨false,δ1,by unfold tAn;rw[e1];rfl,q2 rfl⟩
theorem Jw{δ':Zh}(h:S δ= .nx δ')(q:N δ'):EpS S δ N R:=.inl ⟨δ',h,q⟩
theorem Zx(h:EpS S δ (λδ'=>EpS S' δ' N R) R):EpS (Z0 S S') δ N R:=by
 rcases h with⟨δ',e,h⟩|⟨o,δ',e,h⟩
 ·rcases h with⟨δ2,e2,q⟩|⟨o,δ2,e2,q⟩
  ·exact .inl ⟨δ2,by rw[Zbu,e,Zm9,e2],q⟩
  ·exact .inr ⟨o,δ2,by rw[Zbu,e,Zm9,e2],q⟩
 ·exact .inr ⟨o,δ',by rw[Zbu,e,Zxj],h⟩
theorem Zbq(h:EvP e δ λd δ'=>N (δ'.set i (some (.fz d)))):EpS (wE e (W3 i)) δ N R:=by
 obtain⟨t,δ',e1,q⟩:=h
 exact .inl ⟨_,by rw[Zcj,e1];rfl,q⟩
theorem Zua(h:EvP e δ λd δ'=>Za3 d=true∧N (δ'.set i (some (.fz d)))):EpS (wE e (Zo1 i)) δ N R:=by
 obtain⟨t,δ',e1,f,q⟩:=h
 exact .inl ⟨_,by rw[Zcj,e1];show Zo1 i t δ'=_;unfold Zo1;rw[if_pos f],q⟩
theorem Zb2(h:EvP e δ R):EpS (wE e J6) δ N R:=by
 obtain⟨t,δ',e1,q⟩:=h
 exact .inr ⟨t,δ',by rw[Zcj,e1];rfl,q⟩
theorem Zh9(h:EpT t δ λp δ'=>(p=true->EpS S δ' N R)∧(p=false->EpS S' δ' N R)):EpS (Zbn t S S') δ N R:=by
 obtain⟨p,δ',e1,q1,q2⟩:=h
 have e:Zbn t S S' δ=if p=true then S δ' else S' δ':=by unfold Zbn;rw[e1]
 cases p with
 | true=>
  have g:=q1 rfl
  unfold EpS at g⊢
  rw[e];exact g
 | false=>
  have g:=q2 rfl
  unfold EpS at g⊢
  rw[e];exact g
theorem Zfj(q:N δ):EpS fNx δ N R:=.inl ⟨δ,rfl,q⟩
theorem EpS.mono{N':Zh->Prop}{R':Xa->Zh->Prop}(h:EpS S δ N R)(k:∀δ',N δ'->N' δ')(k2:∀d δ',R d δ'->R' d δ'):EpS S δ N' R' :=
 h.imp (λ⟨δ',e,q⟩=>⟨δ',e,k _ q⟩) λ⟨o,δ',e,q⟩=>⟨o,δ',e,k2 _ _ q⟩
theorem Zv9{g:FG}(I:Nat->Zh->Prop)(ds:List Xa)(m:Nat)(h0:I m δ)(turn:∀(k:Nat) (d:Xa) (δ:Zh),ds[k]? =some d->I (m+k) δ->∃δ1,g d δ=some δ1∧EpS S δ1 (I (m+k+1)) R)(fin:∀δ',I (m+ds.length) δ'->N δ') :
  (∃ δ',forLoop g S ds δ= .nx δ'∧N δ')∨∃o δ',forLoop g S ds δ= .rt o δ'∧R o.data δ':=by
 induction ds generalizing m δ with
 | nil=>exact .inl ⟨δ,rfl,fin δ h0⟩
 | cons d ds ih=>
  obtain⟨δ1,e1,h⟩:=turn 0 d δ rfl h0
  rcases h with⟨δ2,e2,q⟩|⟨o,δ2,e2,q⟩
  ·have e:forLoop g S (d :: ds) δ=forLoop g S ds δ2:=by rw[forLoop,e1];show(match S δ1 with| .nx δ2=>_| .ct δ2=>_| .bk δ2=>_|r=>_)=_;rw[e2]
   rw[e]
   refine ih (m+1) q (λk d' δ' hk hI=>?_) λδ' hI=>fin δ' (by rw[Q6];rw[show m+1+ds.length=m+(ds.length+1) by omega]at hI;exact hI)
   have:=turn (k+1) d' δ' hk (by rw[show m+(k+1)=m+1+k by omega];exact hI)
   rwa[show m+(k+1)+1=m+1+k+1 by omega]at this
  ·refine .inr ⟨o,δ2,?_,q⟩
   rw[forLoop,e1];show(match S δ1 with| .nx δ2=>_| .ct δ2=>_| .bk δ2=>_|r=>_)=_;rw[e2]
theorem Zg8{it:FI}{g:FG}{ds:List Xa}{δ0:Zh}(I:Nat->Zh->Prop)(hi:it δ=some (ds,δ0))(h0:I 0 δ0)(turn:∀(k:Nat) (d:Xa) (δ:Zh),ds[k]? =some d->I k δ->∃δ1,g d δ=some δ1∧EpS S δ1 (I (k+1)) R)(fin:∀δ',I ds.length δ'->N δ'):EpS (Zbw it g S) δ N R:=by
 have e:Zbw it g S δ=forLoop g S ds δ0:=by unfold Zbw;rw[hi]
 have h:=Zv9 (R:=R) (N:=N) (S:=S) (g:=g) (δ:=δ0) I ds 0 h0 (λk d δ hk hI=>by rw[Vd]at hI⊢;exact turn k d δ hk hI) (λδ' hI=>by rw[Vd]at hI;exact fin δ' hI)
 unfold EpS
 rw[e];exact h
noncomputable def EpI(it:FI)(δ:Zh)(Q:List Xa->Zh->Prop):Prop:=∃ds δ',it δ=some (ds,δ')∧Q ds δ'
theorem Zup{it:FI}{ds:List Xa}(h:EvI it δ ds)(q:QA ds δ):EpI it δ QA:=⟨ds,δ,h,q⟩
theorem Zya(h:EpA as δ λds δ'=>∃n:Nat,ds=[.int n]∧n≤1000000∧QA (Zc5 0 n) δ'):EpI (iRa as) δ QA:=by
 obtain⟨ts,δ',e1,n,e2,hn,q⟩:=h
 exact⟨_,δ',by rw[Zx5,e1,Xh,e2,Z2p,Zrx (by omega) (by omega),QL],q⟩
theorem Ziv{it:FI}{g:FG}(h:EpI it δ λds δ0=>∃I:Nat->Zh->Prop,I 0 δ0∧(∀(k:Nat) (d:Xa) (δ:Zh),ds[k]? =some d->I k δ->∃δ1,g d δ=some δ1∧EpS S δ1 (I (k+1)) R)∧∀δ',I ds.length δ'->N δ'):EpS (Zbw it g S) δ N R:=by
 obtain⟨ds,δ0,e,I,h0,turn,fin⟩:=h
 exact Zg8 I e h0 turn fin
theorem ToldI.mono{F:FIO}{t0:OT}{ds:List Xa}{Q Q':Xa->OT->Prop}(h:ToldI F t0 ds Q)(k:∀d t,Q d t->Q' d t):ToldI F t0 ds Q':=by
 obtain⟨r,t',e,q⟩:=h
 exact⟨r,t',e,k _ _ q⟩
theorem Zym(h:EpA as δ λds δ1=>ds.length≤1000∧Q (.tuple ds) δ1):EvP (Zpk as) δ Q:=by
 obtain⟨ts,δ1,e1,hl,q⟩:=h
 refine⟨.tp ts,δ1,?_,by rw[OT.data];exact q⟩
 rw[Zuz,e1]
 show(if ts.length≤Xr then _ else _)=_
 rw[if_pos (by rw[Zbj]at hl;rw[Qh];omega)]
theorem Zy1{ts0:List OT}(h0:δ[i]? =some (some (.nd ts0)))(h:EvP e δ λd δ'=>∃ts,δ'[i]? =some (some (.nd ts))∧ts.length≤1000000∧N (δ'.set i (some (.nd (ts ++ [.fz d]))))):EpS (Yp i e) δ N R:=by
 obtain⟨o,δ',e1,ts,e2,hl,q⟩:=h
 exact .inl ⟨_,Z0r e1 h0 e2 hl,q⟩
theorem Zuq{g:FG}(I:Nat->List Xa->Zh->Prop)(ds:List Xa)(m:Nat)(acc:List Xa)(h0:I m acc δ)(turn:∀(k:Nat) (d:Xa) (acc:List Xa) (δ:Zh),ds[k]? =some d->I (m+k) acc δ->∃δ1,g d δ=some δ1∧EpT t δ1 λp δ2=>(p=true->EvP e δ2 λd δ3=>I (m+k+1) (acc ++ [d]) δ3)∧(p=false->I (m+k+1) acc δ2)) :
  ∃ts δ',compLoop g t e ds δ=some (ts,δ')∧I (m+ds.length) (acc ++ ts.map OT.data) δ':=by
 induction ds generalizing m acc δ with
 | nil=>exact⟨[],δ,rfl,by rw[VM,QS];exact h0⟩
 | cons d ds ih=>
  obtain⟨δ1,e1,p,δ2,e2,q1,q2⟩:=turn 0 d acc δ rfl h0
  have next:∀(k:Nat) (d:Xa) (acc:List Xa) (δ:Zh),ds[k]? =some d->I (m+1+k) acc δ->∃δ1,g d δ=some δ1∧EpT t δ1 λp δ2=>(p=true->EvP e δ2 λd δ3=>I (m+1+k+1) (acc ++ [d]) δ3)∧(p=false->I (m+1+k+1) acc δ2):=λk d acc δ hk hI=>by
   have:=turn (k+1) d acc δ hk (by rw[show m+(k+1)=m+1+k by omega];exact hI)
   rwa[show m+(k+1)+1=m+1+k+1 by omega]at this
  have el:m+1+ds.length=m+(ds.length+1):=by omega
  cases p with
  | true=>
   obtain⟨o,δ3,e3,hI⟩:=q1 rfl
   obtain⟨ts,δ',e4,hf⟩:=ih (m+1) (acc ++ [o.data]) hI next
   refine⟨o :: ts,δ',?_,?_⟩
   ·rw[compLoop,e1];show(t δ1).bind _=_;rw[e2];show(e δ2).bind _=_;rw[e3];show(compLoop g t e ds δ3).bind _=_;rw[e4];rfl
   ·rw[Q6,←el,Qu];rw[Vh]at hf;exact hf
  | false=>
   obtain⟨ts,δ',e4,hf⟩:=ih (m+1) acc (q2 rfl) next
   refine⟨ts,δ',?_,by rw[Q6,←el];exact hf⟩
   rw[compLoop,e1];show(t δ1).bind _=_;rw[e2];exact e4
theorem Z0f{g:FG}{it:FI}{caps:List Nat}{n o q:Nat}{ds:List Xa}{t0:OT}(I:Nat->List Xa->Zh->Prop)(hi:EvI it δ ds)(hz:ds.length≤1000000)(hc:Zkg caps o δ=true)(ho:δ[o]? =some (some t0))(h0:I 0 [] (blk n caps δ))
  (turn:∀(k:Nat) (d:Xa) (acc:List Xa) (δ:Zh),ds[k]? =some d->I k acc δ->∃δ1,g d δ=some δ1∧EpT t δ1 λp δ2=>(p=true->EvP e δ2 λd δ3=>I (k+1) (acc ++ [d]) δ3)∧(p=false->I (k+1) acc δ2)) (fin:∀acc δ',I ds.length acc δ'->∃t,δ'[q]? =some (some t)) :
  ∃ts t' δ',Zcg n caps o q it g t e δ=some (.nd ts,δ.set o (some t'))∧I ds.length (ts.map OT.data) δ'∧δ'[q]? =some (some t'):=by
 obtain⟨ts,δ',e1,hI⟩:=Zuq (t:=t) (e:=e) I ds 0 [] h0 (λk d acc δ hk h=>by rw[Vd]at h⊢;exact turn k d acc δ hk h)
 rw[Vd,Uj]at hI
 obtain⟨t',e2⟩:=fin _ _ hI
 refine⟨ts,t',δ',?_,hI,e2⟩
 unfold Zcg
 unfold EvI at hi
 rw[hi]
 show(if ds.length≤Xr∧Zkg caps o δ=true then _ else none)=_
 rw[if_pos ⟨by rw[Qh];omega,hc⟩,e1]
 show(match δ[o]?,δ'[q]? with|some (some _),some (some t)=>some (OT.nd ts,δ.set o (some t))|_,_=>none)=_
 rw[ho,e2]
theorem Ziw{o:OT}{δ':Zh}(h:e δ=some (o,δ'))(q:N (δ'.set i (some o))):EpS (wE e (Za1 i)) δ N R:=.inl ⟨_,by rw[Zcj,h];rfl,q⟩
theorem Zf6{np n:Nat}{t0:OT}{ds:List Xa}{Q:Xa->OT->Prop}(hl:ds.length+1=np)(h:EpS S (Ziz n t0 ds) (λδ'=>∃t',δ'[0]? =some (some t')∧Q .none t') λd δ'=>∃t',δ'[0]? =some (some t')∧Q d t'):ToldI (Ztw np n S) t0 ds Q:=by
 unfold ToldI
 rw[Zyu hl]
 rcases h with⟨δ',e,t',e2,q⟩|⟨o,δ',e,t',e2,q⟩
 ·exact⟨.fz .none,t',by rw[e];show(match δ'[0]? with|some (some t)=>some (OT.fz .none,t)|_=>none)=_;rw[e2],by rw[OT.data_fz];exact q⟩
 ·exact⟨o,t',by rw[e];show(match δ'[0]? with|some (some t)=>some (o,t)|_=>none)=_;rw[e2],q⟩
end
end L2
namespace My
open PySem L2 PySem.Spec
noncomputable def pl(a b c:Int):OT:=.nd [.fz (.int a),.fz (.int b),.fz (.int c)]
noncomputable def Pl(k:Nat)(t:OT):Prop:=∃a b c:Int,t=pl a b c∧0≤c∧c+k≤1000000
theorem Pl.dn{k j:Nat}{t:OT}(h:Pl (k+j) t):Pl k t:=by
 obtain⟨a,b,c,e,c0,c1⟩:=h
 exact⟨a,b,c,e,c0,Vf (Int.add_le_add_left (Int.ofNat_le.mpr (Vs k j)) c) c1⟩
theorem Zd5{i n:Nat}(h:i<n):n-i=n-(i+1)+1:=by omega
theorem Zzr(a b c:Int):(pl a b c).data= .list [.int a,.int b,.int c]:=by unfold pl;rw[OT.data_nd];rfl
theorem Zoz{δ:Zh}{a b c k:Int}{d:Xa}(h:δ[0]? =some (some (pl a b c)))(hk:atI [Xm a,.int b,.int c] k=some d):EvV (Yk gIx (Zef 0) (fC (.int k))) δ d:=Zxf (Zed h (Zzr a b c)) Z2 hk
theorem Zmt{δ:Zh}{i n:Nat}{e j:FE}{ts:List OT}{d:Xa}{k:Int}(h:EvV e δ d)(hi:δ[i]? =some (some (.nd ts)))(hj:EvV j δ (.int k))(hx:ixN ts.length k=some n):Zu5 i e j δ= .nx (δ.set i (some (.nd (ts.set n (.fz d))))):=by
 obtain⟨t,e1,e2⟩:=h
 obtain⟨u,e3,e4⟩:=hj
 rw[Z0p,e1,Wj,hi]
 show onO (j δ) _=_
 rw[e3,Wj,e4]
 show onX (ixN ts.length k) _=_
 rw[hx,e2];rfl
theorem Zs2{m:Nat}{x:Int}(h0:0≤x)(h1:x<2^m):Bt m x:=Bt.of_lt (Int.lt_of_lt_of_le (Int.neg_neg_of_pos (Int.pow_pos (by decide))) h0) h1
theorem Zye{x:Int}{n:Nat}(h0:0≤x)(h1:x<n):x.natAbs<n:=by omega
theorem Z1s{k:Nat}{t:OT}{many:Int}(h:Pl (k+1) t)(h0:0<many)(h1:many≤1000000000):ToldI Zk t [.int many] λd t'=>∃r,d= .int r∧0≤r∧r<many∧Pl k t':=by
 obtain⟨a,b,c,rfl,c0,c1⟩:=h
 have c2:c+1+(k:Int)≤1000000:=by rw[Int.add_assoc,Int.add_comm 1];exact c1
 have c3:c+(k:Int)≤1000000:=Vf (Int.add_le_add_left (Int.ofNat_le.mpr (Nat.le_succ k)) c) c1
 have d0:0≤c+1:=Int.add_nonneg c0 (by decide)
 have d1:c+1≤1000000:=Vf (Int.le_add_of_nonneg_right (Vw k)) c2
 have ne:many≠0:=λz=>absurd h0 (z▸Int.lt_irrefl 0)
 have big:(decide (0<many)&&decide (many<18446744073709551616))=true:=by rw[decide_eq_true h0,decide_eq_true (V0 h1 (by decide))];rfl
 refine Zf6 rfl (Zx (Zh9 (W6 (Zb0 (Zl4 (Zoz rfl rfl) Z2 rfl)) ⟨λ_=>?_,λ_=>?_⟩)))
 ·refine Zx (Jw (Z6 (Zfg (Zoz rfl rfl) Za ne)) ?_)
  refine Zx (Jw (Zmt (n:=0) (Zq2 (Zoz rfl rfl) Za big) rfl Z2 rfl) ?_)
  exact Zb2 (Yb Za ⟨_,rfl,_,rfl,Zei h0,Ze1 h0,a.fdiv many,b,c,rfl,c0,c3⟩)
 ·refine Zfj (Zx (Jw (Zmt (n:=2) (Zc4 (Zoz rfl rfl) Z2) rfl Z2 rfl) ?_))
  refine Zx (Zua (Yb (Zoz (a:=a) (b:=b) (c:=c+1) rfl rfl) ⟨rfl,?_⟩))
  generalize c+1=e at c2 d0 d1⊢
  have n1:0≤a.fmod 9999999641+953:=Int.add_nonneg (Zei (by decide)) (by decide)
  have n2:a.fmod 9999999641+953<10000000594:=Int.add_lt_add_right (Ze1 (by decide)) 953
  have e1:0≤17*e+43:=Int.add_nonneg (Int.mul_nonneg (by decide) d0) (by decide)
  have e2:17*e+43≤17*1000000+43:=Int.add_le_add_right (Int.mul_le_mul_of_nonneg_left d1 (by decide)) 43
  refine Zx (Jw (Z6 (Zgi (Zc4 (Zfg (Zoz (a:=a) (b:=b) (c:=e) rfl rfl) Z2 (by decide)) Z2) (Zc4 (Zgi Z2 Za) Z2) (Zye n1 (Int.lt_trans n2 (by decide))))) ?_)
  refine Zx (Jw (Z6 (Zc4 Za (Zse (Zgi Z2 Za) Za (Zye d0 (V0 d1 (by decide)))))) ?_)
  have bc:Bt 20 e:=Zs2 d0 (V0 d1 (by decide))
  have bM:=((Zs2 (m:=34) n1 (Int.lt_trans n2 (by decide))).mul (Zs2 (m:=25) e1 (V0 e2 (by decide)))).add (((Bt.of_lt (m:=12) (x:=3413) (by decide) (by decide)).mul bc).mul bc)
  generalize(a.fmod 9999999641+953)*(17*e+43)+3413*e*e=M at bM⊢
  refine Zx (Jw (Z6 (Zfg (Zn Za Za (Zfc (Zej bM bM))) Z2 (by decide))) ?_)
  have n3:=Zei (i:=M*M) (j:=99999999683) (by decide)
  have n4:=Ze1 (i:=M*M) (j:=99999999683) (by decide)
  generalize(M*M).fmod 99999999683=r at n3 n4⊢
  exact Zb2 (Yb (Zfg (Zq2 (Zfg (Zgi Za (Zc4 Za Z2) (Zye n3 (Int.lt_trans n4 (by decide)))) Z2 (by decide)) Z2) Za ne) ⟨_,rfl,_,rfl,Zei h0,Ze1 h0,a,b,e,rfl,d0,c2⟩)
theorem Z56{δ:Zh}{i j:Nat}{as:FA}{x y:Xa}(h:EvA as δ [x,y]):Zw1 i j as δ= .nx ((δ.set i (some (.fz x))).set j (some (.fz y))):=by
 obtain⟨ts,e1,e2⟩:=h
 unfold Zw1
 rw[e1]
 show(match OT.datas ts with|[d,e]=>RS.nx ((δ.set i (some (.fz d))).set j (some (.fz e)))|_=>.bad)=_
 rw[e2]
theorem Zeb{n:Nat}{t b:Int}(hb:0<b)(hB:Bt n b)(hn:n≤9000:=by decide):Told Wv [.int t,.int b] (frD (Vi t b)):=by
 obtain⟨z',e⟩:=Zi5 (f1:=λx y z=>[some (.fz (.int t)),some (.fz (.int b)),some (.fz (.int x)),some (.fz (.int y))]) (f2:=λx y z=>[]) (t:=tV (Zf gNe (Zd 3) (fC (.int 0)))) (u:=Zw1 2 3 (Zc (Zd 3) (Zc (Zf Zfr (Zd 2) (Zd 3)) Zm))) (λx y z=>Zb0 (Zju Za Z2 rfl)) (λx y z hy=>⟨none,Z56 (Zb Za (Zb (Zfg Za Za hy) Zi))⟩) ((b.natAbs:Int).toNat+1) (t.natAbs:Int) (b.natAbs:Int) none (by omega) (by omega) (by omega)
 have eg:(By (t.natAbs:Int) (b.natAbs:Int):Int)=shr t b:=by
  unfold shr
  rw[if_neg (by omega),V2,V2,Int.natAbs_natCast,Int.natAbs_natCast]
 obtain⟨e1,e2⟩:=Z3g (t:=t) (b:=b) (by omega) hB hn _ eg
 exact Wg rfl<|Wk (Z6 (Zdy (Zb Za Zi) (Znk t)))<|Wk (Z6 (Zdy (Zb Za Zi) (Znk b)))<|Wk (Zkf _ e (by intro z;cases z))<|
  Wk (Jb (Zb0 (Zsi Za Z2 (decide_eq_false (by omega)))) rfl) (Za6 (Zb8 (Zb (Zn Za Za e1) (Zb (Zn Za Za e2) Zi)) (show 2≤1000 by decide)))
theorem gP9:Zkw (.int 10) (.int 9)=some (.int 1000000000):=rfl
theorem Yes:Zkw (.int 10) (.int 39)=some (.int 1000000000000000000000000000000000000000):=rfl
theorem Yec:Zkw (.int 10) (.int 40)=some (.int 10000000000000000000000000000000000000000):=rfl
theorem Z5y{a b c d lo hi:Int}(ha:lo≤a∧a≤hi)(hb:lo≤b∧b≤hi)(hc:lo≤c∧c≤hi)(hd:lo≤d∧d≤hi){r:Int}(h0:0≤r)(h1:r<4):∃x,gIx (.list [.int a,.int b,.int c,.int d]) (.int r)=some (.fz (.int x))∧lo≤x∧x≤hi:=by
 obtain rfl|rfl|rfl|rfl:r=0∨r=1∨r=2∨r=3:=by omega
 ·exact⟨a,rfl,ha⟩
 ·exact⟨b,rfl,hb⟩
 ·exact⟨c,rfl,hc⟩
 ·exact⟨d,rfl,hd⟩
theorem Ja{δ:Zh}{i k:Nat}{t:OT}{as:FA}{many:Int}{Q:Xa->Zh->Prop}(hi:δ[i]? =some (some t))(h:Pl (k+1) t)(ha:EvA as δ [.int many])(h0:0<many)(h1:many≤1000000000)(q:∀r t',0≤r->r<many->Pl k t'->Q (.int r) (δ.set i (some t'))):EvP (Yg i Zk as) δ Q :=
 Zdv hi (Zix ha ⟨t,hi,(Z1s h h0 h1).mono λd t' z=>by
  obtain⟨r,rfl,r0,r1,p⟩:=z
  exact q r t' r0 r1 p⟩)
theorem toN{x:Int}{n:Nat}(x0:0≤x)(x1:x≤n):∃m:Nat,x=(m:Int)∧m≤n:=⟨x.toNat,by omega,by omega⟩
theorem Zot{k:Nat}{t:OT}(h:Pl (k+6) t):ToldI Jm t [] λd t'=>∃r,d= .int r∧0≤r∧r<10000000000000000000000000000000000000000∧Pl k t':=by
 refine Zf6 rfl (Zx (Jw (Z6 Z2) ?_))
 refine Zx (Ziv (Zya (Y7 (Zrm (Yb (Zfd (Zb Z2 (Zb Z2 (Zb Z2 (Zb Z2 Zi)))) (show 4≤1000 by decide)) (Ja rfl h (Zb Z2 Zi) (by decide) (by decide) λr t1 r0 r1 p1=>?_))))))
 obtain⟨x,ex,x0,x1⟩:=Z5y (a:=1) (b:=2) (c:=3) (d:=5) (lo:=0) (hi:=5) (by decide) (by decide) (by decide) (by decide) r0 r1
 obtain⟨m,rfl,hm⟩:=toN (n:=5) x0 x1
 refine⟨_,ex,Zax ⟨m,rfl,Xz hm (by decide),λi δ=>∃f t2 z,δ=[some t2,some (.fz (.int f)),z]∧Pl (k+(5-i)) t2,⟨0,t1,none,rfl,p1⟩,λi d δ hd q=>?_,λδ' q=>?_⟩⟩
 ·obtain⟨f,t2,z,rfl,p2⟩:=q
  rw[Zd5 (X4 (Zae hd).1 hm)]at p2
  exact⟨_,rfl,Zbq (Zbc (Yb (Zse Za (Zn Z2 Z2 gP9)) (Ja rfl p2 (Zb (Zn Z2 Z2 gP9) Zi) (by decide) (by decide) λr t3 r0 r1 p3=>⟨_,rfl,_,_,_,rfl,p3⟩)))⟩
 ·obtain⟨f,t2,z,rfl,p2⟩:=q
  exact Zb2 (Yb (Zfg Za (Zn Z2 Z2 Yec) (by decide)) ⟨t2,rfl,_,rfl,Zei (by decide),Ze1 (by decide),p2.dn⟩)
noncomputable def Wt(q:Rat):Prop:=(q.den:Int)∣2520∧Bt 200 q.num
theorem Zra{t b:Int}(hb:b≠0):((Vi t b).den:Int)∣b:=by
 rw[Rat.den_divInt,if_neg hb]
 have:(b.natAbs/b.gcd t:Nat)∣b.natAbs:=Nat.div_dvd_of_dvd (by rw[V2];exact Nat.gcd_dvd_left ..)
 exact Int.ofNat_dvd_left.mpr this
theorem Ye0:∀b<10,1≤b->((b:Nat):Int)∣2520:=by decide
theorem Z45{t b:Int}(t0:0≤t)(t1:t≤1000000000000000000000000000000000000000)(b0:1≤b)(b1:b≤9):Wt (Vi t b):=by
 obtain⟨n,rfl,hn⟩:=toN (n:=9) (Vf (by decide) b0) b1
 have nz:(n:Int)≠0:=λz=>absurd b0 (z▸by decide)
 exact⟨Int.dvd_trans (Zra nz) (Ye0 n (Nat.lt_succ_of_le hn) (Int.ofNat_le.mp b0)),Zw8 nz (Zs2 t0 (V0 t1 (by decide)))⟩
theorem bt9{b:Int}(b0:1≤b)(b1:b≤9):Bt 4 b:=Zs2 (Vf (by decide) b0) (V0 b1 (by decide))
theorem one_le{r:Int}(h:0≤r):1≤1+r:=Int.le_add_of_nonneg_right h
theorem Znq{r n:Int}(h:r<n):1+r≤n:=by rw[Int.add_comm];exact h
theorem Zsx{k:Nat}{t:OT}(h:Pl (k+9) t):ToldI Zu t [] λd t'=>∃q,d=frD q∧Wt q∧Pl k t':=by
 refine Zf6 rfl (Zx (Zh9 (Z68 (Zbc (Ja rfl h (Zb Z2 Zi) (by decide) (by decide) λr t1 r0 r1 p1=>Yb Z2 ⟨_,Z24 _ _,_,rfl,λ_=>?_,λ_=>?_⟩)))))
 ·refine Zb2 (Zsc (Y7 (Zbc (Yb Z2 (Ja rfl p1 (Zb Z2 Zi) (by decide) (by decide) λr2 t2 s0 s1 p2=>⟨.int (1+r2),rfl,Y7 (Zrm (Yb (Zfd (Zb Z2 (Zb Z2 (Zb Z2 (Zb Z2 Zi)))) (show 4≤1000 by decide)) (Ja rfl p2 (Zb Z2 Zi) (by decide) (by decide) λr3 t3 u0 u1 p3=>?_)))⟩)))))
  obtain⟨x,ex,x0,x1⟩:=Z5y (a:=1) (b:=1) (c:=2) (d:=3) (lo:=1) (hi:=9) (by decide) (by decide) (by decide) (by decide) u0 u1
  refine⟨_,ex,Zax ⟨_,?_,t3,rfl,_,rfl,Z45 (t:=1+r2) (Vf (by decide) (one_le s0)) (Vf (Znq s1) (by decide)) x0 x1,p3.dn (j:=6)⟩⟩
  rw[OT.data_fz]
  exact Zeb (Int.lt_of_lt_of_le (by decide) x0) (bt9 x0 x1)
 ·refine Zfj (Zb2 (Zsc (Y7 (Zbc (Yb Z2 (Zbc (Zdv rfl (Zax ⟨t1,rfl,(Zot (k:=k+2) p1).mono λd t2 z=>?_⟩))))))))
  obtain⟨f,rfl,f0,f1,p2⟩:=z
  have g0:=Zei (i:=f) (j:=1000000000000000000000000000000000000000) (by decide)
  have g1:=Ze1 (i:=f) (j:=1000000000000000000000000000000000000000) (by decide)
  refine Yb (Zn Z2 Z2 Yes) ⟨_,Zxy (by decide),.int (1+f.fmod 1000000000000000000000000000000000000000),rfl,Y7 (Zbc (Yb Z2 (Ja rfl p2 (Zb Z2 Zi) (by decide) (by decide) λr3 t3 u0 u1 p3=>?_)))⟩
  exact⟨.int (1+r3),rfl,Zax ⟨_,Zeb (Int.lt_of_lt_of_le (by decide) (one_le u0)) (bt9 (one_le u0) (Znq u1)),t3,rfl,_,rfl,Z45 (Vf (by decide) (one_le g0)) (Znq g1) (one_le u0) (Znq u1),p3.dn (j:=1)⟩⟩
noncomputable def ctD(p:List Int×Rat):Xa:=.tuple [Zq p.1,frD p.2]
noncomputable def Z9(L:List (List Int×Rat)):Xa:=.list (L.map ctD)
noncomputable def Zhh(L:List (List Int×Rat)):OT:=.nd ((L.map ctD).map OT.fz)
theorem W4(L:List (List Int×Rat)):(Zhh L).data=Z9 L:=by unfold Zhh Z9;rw[OT.data_nd,OT.map_fz]
theorem Zlt(p:List Int):Sh 1 (Zq p):=lay_ints p
theorem Zcz{ds:List Xa}(h:∀d∈ds,Yu d=true):Yu (.list ds)=true:=by
 rw[Yu]
 induction ds with
 | nil=>rfl
 | cons d ds ih=>rw[Zds,h d (.head _),ih λe he=>h e (.tail _ he)];rfl
theorem Zob(p:List Int):Yu (Zq p)=true:=Zcz λd m=>by
 obtain⟨x,_,rfl⟩:=XF.mp m
 rfl
theorem Zfw(a b:List Int):gNe (Zq a) (Zq b)=some (.bool (!decide (a=b))):=by
 have s:∀p,BX (Zq p)=true:=λp=>((Zlt p).shp (by omega)).ok
 unfold gNe
 rw[if_pos (by rw[s,s];rfl)]
 exact congrArg (λz=>some (PyData.bool (!z))) (Zd2 a b)
theorem Z8f(p:List Int×Rat):Sh 2 (ctD p):=Zsk λd m=>by
 rcases Xp.mp m with rfl|m
 ·exact Zlt _
 ·rw[Xj.mp m];exact Zbg [p.2.num,(p.2.den:Int)]
theorem Zu8(p:List Int×Rat):Yu (ctD p)=true:=by
 show(Yu (Zq p.1)&&(Yu (frD p.2)&&true))=true
 rw[Zob];rfl
theorem Znx(L:List (List Int×Rat)):Sh 3 (Z9 L):=Zjb λd m=>by
 obtain⟨p,_,rfl⟩:=XF.mp m
 exact Z8f p
theorem Zgv(L:List (List Int×Rat)):Yu (Z9 L)=true:=Zcz λd m=>by
 obtain⟨p,_,rfl⟩:=XF.mp m
 exact Zu8 p
theorem Z7a(p:List Int×Rat):kdT (ctD p)=some (p.1,[p.2.num,(p.2.den:Int)]):=by
 show((Zdc (p.1.map Xm)).bind λns=>(Zdc [.int p.2.num,.int (p.2.den:Int)]).bind λms=>some (ns,ms))=_
 rw[Zcm];rfl
theorem Zu2{α β:Type}{f:α->β}{l m:List β}(h:l.Perm m):∀L:List α,m=L.map f->∃L1:List α,L1.Perm L∧l=L1.map f:=by
 induction h with
 | nil=>exact λL e=>⟨[],by rw[List.map_eq_nil_iff.mp e.symm],rfl⟩
 | cons x h ih=>
  intro L e
  cases L with
  | nil=>cases e
  | cons y L=>
   injection e with e1 e2
   obtain⟨L1,p,e3⟩:=ih L e2
   exact⟨y :: L1,p.cons y,by rw[e1,e3];rfl⟩
 | swap x y l=>
  intro L e
  cases L with
  | nil=>cases e
  | cons a L=>
   cases L with
   | nil=>injection e with _ e;cases e
   | cons b L=>
    injection e with e1 e2
    injection e2 with e2 e3
    exact⟨b :: a :: L,.swap a b L,by rw[e1,e2,e3];rfl⟩
 | trans _ _ ih1 ih2=>
  intro L e
  obtain⟨L1,p1,e1⟩:=ih2 L e
  obtain⟨L2,p2,e2⟩:=ih1 L1 e1
  exact⟨L2,p2.trans p1,e2⟩
theorem Zez(L:List (List Int×Rat))(h:L.length<64):∃L1:List (List Int×Rat),Zh5 kdT ltT [Z9 L]=some (.nd ((L1.map ctD).map OT.fz))∧L1.Perm L:=by
 obtain⟨L1,pm,e⟩:=Zu2 (Zjn Xa.none (lk kdT ltT (L.map ctD)) (L.map ctD)) L rfl
 refine⟨L1,?_,pm⟩
 show(if(decide ((L.map ctD).length<64)&&(L.map ctD).all λd=>(kdT d).isSome)=true then some (OT.nd ((sLay Xa.none (lk kdT ltT (L.map ctD)) (L.map ctD)).map OT.fz))else none)=_
 rw[if_pos,e]
 rw[XM,decide_eq_true_eq,Xe,Bm]
 refine⟨h,λd m=>?_⟩
 obtain⟨p,_,rfl⟩:=XF.mp m
 rw[Z7a];rfl
theorem Zs7(L:List (List Int×Rat)):gEq (Z9 L) (.list [])=some (.bool (decide (L=[]))):=by
 have s:BX (Z9 L)=true:=((Znx L).shp (by omega)).ok
 have t:BX (.list [])=true:=((Znx []).shp (by omega)).ok
 unfold gEq
 rw[if_pos (by rw[s,t];rfl)]
 by_cases c:L=[]
 ·subst c;rw[decide_eq_true rfl];exact congrArg (λz=>some (PyData.bool z)) (Zna (Zgv []))
 ·have:QR (Z9 L) (.list [])=false:=Zxc (Zgv L) (Zgv []) λz=>c (by
   unfold Z9 at z
   injection z with z
   exact List.map_eq_nil_iff.mp z)
  rw[decide_eq_false c,this]
theorem Zyg(L:List (List Int×Rat))(h:L.length<64):∃L':List (List Int×Rat),Told Js [Z9 L] (Z9 L')∧(∀p∈L',p∈L)∧L'.length≤L.length:=by
 obtain⟨L1,eS,pm⟩:=Zez L h
 have hm:∀p∈L1,p∈L:=λp hp=>pm.mem_iff.mp hp
 have hl:=pm.length_eq
 have key:∃d,Told Js [Z9 L] d∧∃L':List (List Int×Rat),d=Z9 L'∧(∀p∈L',p∈L)∧L'.length≤L.length:=by
  refine Zzx rfl<|Zmr Zgn<|Zrk (ds:=L1.map ctD) (λi δ=>∃(F:List (List Int×Rat)) (z2 z3:Option OT),δ=[some (.fz (Z9 L)),some (Zhh F),z2,z3]∧(∀p∈F,p∈L)∧F.length≤i) (Jr (Zvt (Zb Za Zi) eS (by rw[OT.data_nd,OT.map_fz]))) ⟨[],none,none,rfl,(λ_ m=>nomatch m),Qp _⟩ (λi d δ hd q=>?_) λδ' q=>?_
  ·obtain⟨F,z2,z3,rfl,h1,h2⟩:=q
   obtain⟨p,hp,rfl⟩:=XF.mp (Qo hd)
   have hi:i<L1.length:=by have:=(Xo.mp hd).1;rwa[Xe]at this
   have app:(Yp 1 (Zdt (Zc (Zd 2) (Zc (Zd 3) Zm)))) [some (.fz (Z9 L)),some (Zhh F),some (.fz (Zq p.1)),some (.fz (frD p.2))]= .nx [some (.fz (Z9 L)),some (Zhh (F ++ [p])),some (.fz (Zq p.1)),some (.fz (frD p.2))]:=by
    rw[Zfk (ts:=(F.map ctD).map OT.fz) (d:=ctD p) (Zb8 (Zb Za (Zb Za Zi)) (show 2≤1000 by decide)) rfl (by rw[Xe,Xe];omega)]
    unfold Zhh
    rw[Xy,Xy];rfl
   have mem':∀x∈F ++ [p],x∈L:=λx hx=>(Xq.mp hx).elim (h1 x) λz=>by rw[Xj.mp z];exact hm p hp
   have tE:∀{b:Bool},decide (F=[])=b->EvT (tV (Zf gEq (Zef 1) (Zcb Zm))) [some (.fz (Z9 L)),some (Zhh F),some (.fz (Zq p.1)),some (.fz (frD p.2))] b:=λhb=>hb▸Zb0 (Zn (Zed rfl (W4 F)) (Zfd Zi (show 0≤1000 by decide)) (Zs7 F))
   by_cases c:F=[]
   ·exact⟨_,_,rfl,.inl (Zdo (Z3j (tE (decide_eq_true c))) app),F ++ [p],_,_,rfl,mem',by rw[Qd];exact Bp h2⟩
   ·obtain⟨F0,x,rfl⟩:∃F0 x,F=F0 ++ [x]:=⟨F.dropLast,F.getLast c,(List.dropLast_concat_getLast c).symm⟩
    have eL:gIx (Z9 (F0 ++ [x])) (.int (-1))=some (.fz (ctD x)):=by
     unfold Z9
     rw[Zme,Xy,Qu,VM,Zng];rfl
    have tN:∀{b:Bool},(!decide (x.1=p.1))=b->EvT (tV (Zf gNe (Yk gIx (Yk gIx (Zef 1) (fUn Ztv (fC (.int 1)))) (fC (.int 0))) (Zd 2))) [some (.fz (Z9 L)),some (Zhh (F0 ++ [x])),some (.fz (Zq p.1)),some (.fz (frD p.2))] b:=λhb=>hb▸Zb0 (Zn (Wh (Wh (Zed rfl (W4 _)) (Zjj Z2) eL) Z2 (d:=Zq x.1) rfl) Za (Zfw _ _))
    by_cases c2:x.1=p.1
    ·exact⟨_,_,rfl,.inl (Jb (Z1h (tE (decide_eq_false c)) (tN (by rw[decide_eq_true c2];rfl))) rfl),F0 ++ [x],_,_,rfl,h1,VB h2⟩
    ·exact⟨_,_,rfl,.inl (Zdo (Z1h (tE (decide_eq_false c)) (tN (by rw[decide_eq_false c2];rfl))) app),F0 ++ [x] ++ [p],_,_,rfl,mem',by rw[Qd];exact Bp h2⟩
  ·obtain⟨F,z2,z3,rfl,h1,h2⟩:=q
   rw[Xe,hl]at h2
   exact Yco rfl ⟨F,W4 F,h1,h2⟩
 obtain⟨d,h1,L',rfl,h2,h3⟩:=key
 exact⟨L',h1,h2,h3⟩
structure Zex(n:Nat)(p:List Int×Rat):Prop where
 wt:Wt p.2
 nd:p.1.Nodup
 rg:∀x∈p.1,1≤x∧x<n
 ne:p.1≠[]
noncomputable def Zwu(lo:Int)(n:Nat):List Int:=(Xk n).map λi:Nat=>lo+i
theorem Z4t(lo:Int)(n:Nat):Zc5 lo n=(Zwu lo n).map Xm:=by unfold Zc5 Zwu;rw[Qs];rfl
theorem Zum{lo x:Int}{n:Nat}(h:x∈Zwu lo n):lo≤x∧x<lo+n:=by
 obtain⟨i,hi,rfl⟩:=XF.mp h
 have:=Qt.mp hi
 omega
theorem Z01(lo:Int)(n:Nat):(Zwu lo n).Nodup:=by
 unfold Zwu
 exact List.Pairwise.map _ (λa b h e=>h (by omega)) List.nodup_range
theorem Z3u{as:FA}{δ:Zh}{i:Int}{j:Nat}(h:EvA as δ [.int i,.int j])(h0:0≤i)(h1:i≤1000)(h2:j≤1000):EvV (Z2f as) δ (Zq (Zwu i (j-i).toNat)):=by
 obtain⟨ts,e1,e2⟩:=h
 refine⟨.nd ((Zc5 i (j-i).toNat).map OT.fz),?_,by rw[Z4t];exact Zli _⟩
 unfold Z2f
 rw[e1]
 show(match OT.datas ts with|[.int i,.int j]=>if rOk i=true∧rOk j=true∧(j-i).toNat≤Xr then some (OT.nd ((Zc5 i (j-i).toNat).map OT.fz),δ)else none|_=>none)=_
 rw[e2]
 show(if rOk i=true∧rOk (j:Int)=true∧((j:Int)-i).toNat≤Xr then _ else none)=_
 rw[if_pos ⟨Zhw (by omega) (by omega),Zhw (by omega) (by omega),by rw[Qh];omega⟩]
theorem Zgf{δ:Zh}{i k:Nat}{t:OT}{Q:Xa->Zh->Prop}(hi:δ[i]? =some (some t))(h:Pl (k+9) t)(q:∀w t',Wt w->Pl k t'->Q (frD w) (δ.set i (some t'))):EvP (Yg i Zu Zm) δ Q :=
 Zdv hi (Zax ⟨t,hi,(Zsx h).mono λd t' z=>by
  obtain⟨w,rfl,hw,p⟩:=z
  exact q w t' hw p⟩)
noncomputable def Cts(n:Nat)(ts:List OT)(k:Nat):Prop:=∃L:List (List Int×Rat),ts.map OT.data=L.map ctD∧(∀p∈L,Zex n p)∧L.length≤k
theorem Cts.add{n k:Nat}{ts:List OT}{p:List Int×Rat}(h:Cts n ts k)(hp:Zex n p):Cts n (ts ++ [.fz (ctD p)]) (k+1):=by
 obtain⟨L,e,h1,h2⟩:=h
 refine⟨L ++ [p],by rw[Xy,Xy,e,Qu,VM,OT.data_fz];rfl,λx hx=>(Xq.mp hx).elim (h1 x) λz=>by rw[Xj.mp z];exact hp,by rw[Qd];exact Bp h2⟩
theorem Cts.len{n k:Nat}{ts:List OT}(h:Cts n ts k):ts.length≤k:=by
 obtain⟨L,e,_,h2⟩:=h
 have:=congrArg List.length e
 rw[Xe,Xe]at this
 omega
noncomputable def One(n:Nat)(k:Nat)(acc:List Xa):Prop:=∃L:List (List Int×Rat),acc=L.map ctD∧(∀p∈L,Zex n p)∧L.length≤k
theorem One.add{n k:Nat}{acc:List Xa}{p:List Int×Rat}(h:One n k acc)(hp:Zex n p):One n (k+1) (acc ++ [ctD p]):=by
 obtain⟨L,rfl,h1,h2⟩:=h
 exact⟨L ++ [p],by rw[Xy];rfl,λx hx=>(Xq.mp hx).elim (h1 x) λz=>by rw[Xj.mp z];exact hp,by rw[Qd];exact Bp h2⟩
theorem Z8k{n b:Nat}{t:OT}{k z3 z4 z5:Option OT}(hn:n≤10)(h:Pl (b+90) t):∃ts t',Zcg 1 [0] 0 1 (iRb (Zc (fC (.int 1)) (Zc (Zd 1) Zm))) (gNm 0) Zee (Zpk (Zc (Zcb (Zc (Zd 0) Zm)) (Zc (Yg 1 Zu Zm) Zm))) [some t,some (.fz (.int n)),k,z3,z4,z5]=some (.nd ts,[some t',some (.fz (.int n)),k,z3,z4,z5])∧Cts n ts 10∧Pl b t':=by
 obtain⟨ts,t',δ',e,⟨z,t2,rfl,⟨L,e2,h1,h2⟩,p2⟩,e3⟩:=Z0f (t:=Zee) (e:=Zpk (Zc (Zcb (Zc (Zd 0) Zm)) (Zc (Yg 1 Zu Zm) Zm))) (g:=gNm 0) (it:=iRb (Zc (fC (.int 1)) (Zc (Zd 1) Zm))) (δ:=[some t,some (.fz (.int n)),k,z3,z4,z5]) (caps:=[0]) (n:=1) (o:=0) (q:=1) (ds:=Zc5 1 (n-1)) (t0:=t)
  (λk acc δ=>∃z t2,δ=[z,some t2]∧One n k acc∧Pl (b+9*(10-k)) t2) (Zv7 (m:=1) (Zb Z2 (Zb Za Zi)) (by decide) (Xz hn (by decide))) (by rw[Wb];exact Xz (Nat.sub_le _ _) (Xz hn (by decide))) rfl rfl ⟨none,t,rfl,⟨[],rfl,(λ_ m=>nomatch m),Qp _⟩,h⟩
  (λk d acc δ hd q=>by
   obtain⟨z,t2,rfl,o,p2⟩:=q
   obtain⟨hk,rfl⟩:=Zae hd
   rw[Zd5 (X4 hk (Xz (Nat.sub_le _ _) hn))]at p2
   have hk2:1+(k:Int)<n:=by omega
   refine⟨_,rfl,W6 rfl ⟨λ_=>?_,λz=>nomatch z⟩⟩
   exact Zym (Y7 (Yb (d:=Zq [1+(k:Int)]) (Zfd (Zb Za Zi) (show 1≤1000 by decide)) (Y7 (Zgf rfl p2 λw t3 hw p3=>Zax ⟨show 2≤1000 by decide,_,t3,rfl,o.add (p:=([1+(k:Int)],w)) ⟨hw,QB.mpr ⟨(λz=>nomatch z),.nil⟩,λx hx=>by rw[Xj.mp hx];exact⟨one_le (Vw k),hk2⟩,(λz=>nomatch z)⟩,p3⟩)))))
  (λacc δ' q=>by
   obtain⟨z,t2,rfl,_⟩:=q
   exact⟨t2,rfl⟩)
 cases e3
 rw[Wb]at h2
 exact⟨ts,t',e,⟨L,e2,h1,Xz h2 (Xz (Nat.sub_le _ _) hn)⟩,p2.dn⟩
theorem Z9v{n b:Nat}{t:OT}{k z3 z4 z5:Option OT}(hn:n≤10)(h:Pl (b+90) t):∃ts t',Zcg 1 [1,0] 0 2 (iRb (Zc (fC (.int 1)) (Zc (Zd 1) Zm))) (gNm 0) Zee (Zdt (Zc (Z2f (Zc (Zd 0) (Zc (Zd 1) Zm))) (Zc (Yg 2 Zu Zm) Zm))) [some t,some (.fz (.int n)),k,z3,z4,z5]=some (.nd ts,[some t',some (.fz (.int n)),k,z3,z4,z5])∧Cts n ts 10∧Pl b t':=by
 obtain⟨ts,t',δ',e,⟨z,t2,rfl,⟨L,e2,h1,h2⟩,p2⟩,e3⟩:=Z0f (t:=Zee) (e:=Zdt (Zc (Z2f (Zc (Zd 0) (Zc (Zd 1) Zm))) (Zc (Yg 2 Zu Zm) Zm))) (g:=gNm 0) (it:=iRb (Zc (fC (.int 1)) (Zc (Zd 1) Zm))) (δ:=[some t,some (.fz (.int n)),k,z3,z4,z5]) (caps:=[1,0]) (n:=1) (o:=0) (q:=2) (ds:=Zc5 1 (n-1)) (t0:=t)
  (λk acc δ=>∃z t2,δ=[z,some (.fz (.int n)),some t2]∧One n k acc∧Pl (b+9*(10-k)) t2) (Zv7 (m:=1) (Zb Z2 (Zb Za Zi)) (by decide) (Xz hn (by decide))) (by rw[Wb];exact Xz (Nat.sub_le _ _) (Xz hn (by decide))) rfl rfl ⟨none,t,rfl,⟨[],rfl,(λ_ m=>nomatch m),Qp _⟩,h⟩
  (λk d acc δ hd q=>by
   obtain⟨z,t2,rfl,o,p2⟩:=q
   obtain⟨hk,rfl⟩:=Zae hd
   rw[Zd5 (X4 hk (Xz (Nat.sub_le _ _) hn))]at p2
   have hk2:1+(k:Int)<n:=by omega
   refine⟨_,rfl,W6 rfl ⟨λ_=>?_,λz=>nomatch z⟩⟩
   exact Zx3 (Y7 (Yb (Z3u (i:=1+(k:Int)) (j:=n) (Zb Za (Zb Za Zi)) (Vf (by decide) (one_le (Vw k))) (by omega) (Xz hn (by decide))) (Y7 (Zgf rfl p2 λw t3 hw p3=>Zax ⟨show 2≤1000 by decide,_,t3,rfl,o.add (p:=(Zwu (1+(k:Int)) ((n:Int)-(1+k)).toNat,w)) ⟨hw,Z01 _ _,λx hx=>by have:=Zum hx;omega,λz=>by have:=congrArg List.length z;unfold Zwu at this;rw[Xe,Xw,Ul]at this;omega⟩,p3⟩)))))
  (λacc δ' q=>by
   obtain⟨z,t2,rfl,_⟩:=q
   exact⟨t2,rfl⟩)
 cases e3
 rw[Wb]at h2
 exact⟨ts,t',e,⟨L,e2,h1,Xz h2 (Xz (Nat.sub_le _ _) hn)⟩,p2.dn⟩
theorem Z99{n b:Nat}{t:OT}{k z3 z4 z5:Option OT}(hn:n≤10)(h:Pl (b+10) t):∃(c:List Int) (t':OT) (ts:List OT),Zcg 1 [0] 0 1 (iRb (Zc (fC (.int 1)) (Zc (Zd 1) Zm))) (gNm 0) (tV (Zf gEq (Yg 1 Zk (Zc (fC (.int 2)) Zm)) (fC (.int 0)))) (Zd 0) [some t,some (.fz (.int n)),k,z3,z4,z5]=some (.nd ts,[some t',some (.fz (.int n)),k,z3,z4,z5])∧ts.map OT.data=c.map Xm∧c.Nodup∧(∀x∈c,1≤x∧x<n)∧Pl b t':=by
 obtain⟨ts,t',δ',e,⟨z,t2,rfl,⟨c,e2,h1,h2⟩,p2⟩,e3⟩:=Z0f (t:=tV (Zf gEq (Yg 1 Zk (Zc (fC (.int 2)) Zm)) (fC (.int 0)))) (e:=Zd 0) (g:=gNm 0) (it:=iRb (Zc (fC (.int 1)) (Zc (Zd 1) Zm))) (δ:=[some t,some (.fz (.int n)),k,z3,z4,z5]) (caps:=[0]) (n:=1) (o:=0) (q:=1) (ds:=Zc5 1 (n-1)) (t0:=t)
  (λk acc δ=>∃z t2,δ=[z,some t2]∧(∃c:List Int,acc=c.map Xm∧c.Nodup∧∀x∈c,1≤x∧x<1+(k:Int))∧Pl (b+(10-k)) t2) (Zv7 (m:=1) (Zb Z2 (Zb Za Zi)) (by decide) (Xz hn (by decide))) (by rw[Wb];exact Xz (Nat.sub_le _ _) (Xz hn (by decide))) rfl rfl ⟨none,t,rfl,⟨[],rfl,.nil,(λ_ m=>nomatch m)⟩,h⟩
  (λk d acc δ hd q=>by
   obtain⟨z,t2,rfl,⟨c,rfl,c1,c2⟩,p2⟩:=q
   obtain⟨hk,rfl⟩:=Zae hd
   rw[Zd5 (X4 hk (Xz (Nat.sub_le _ _) hn))]at p2
   have c3:∀x∈c,1≤x∧x<1+((k+1:Nat):Int):=λx hx=>⟨(c2 x hx).1,Int.lt_trans (c2 x hx).2 (Int.add_lt_add_left (UG.mpr (Qz k)) 1)⟩
   refine⟨_,rfl,Z68 (Zbc (Ja rfl p2 (Zb Z2 Zi) (by decide) (by decide) λr t3 r0 r1 p3=>Yb Z2 ⟨_,Z1r _ _,_,rfl,λ_=>?_,λ_=>⟨_,t3,rfl,⟨c,rfl,c1,c3⟩,p3⟩⟩))⟩
   refine Yb (d:=.int (1+(k:Int))) Za ⟨_,t3,rfl,⟨c ++ [1+(k:Int)],by rw[Xy];rfl,?_,λx hx=>?_⟩,p3⟩
   ·refine Vg.mpr ⟨c1,QB.mpr ⟨(λz=>nomatch z),.nil⟩,λa ha b hb=>?_⟩
    rw[Xj.mp hb]
    exact Int.ne_of_lt (c2 a ha).2
   ·rcases Xq.mp hx with z|z
    ·exact c3 x z
    ·rw[Xj.mp z]
     exact⟨one_le (Vw k),Int.add_lt_add_left (UG.mpr (Qz k)) 1⟩)
  (λacc δ' q=>by
   obtain⟨z,t2,rfl,_⟩:=q
   exact⟨t2,rfl⟩)
 cases e3
 rw[Wb]at h2
 exact⟨c,t',ts,e,e2,h1,λx hx=>by have:=h2 x hx;omega,p2.dn⟩
theorem Z9g{a b lo hi:Int}(ha:lo≤a∧a≤hi)(hb:lo≤b∧b≤hi)(p:Bool):∃x,gIx (.list [.int a,.int b]) (.int (if p then 1 else 0))=some (.fz (.int x))∧lo≤x∧x≤hi:=by
 cases p with
 | false=>exact⟨a,rfl,ha⟩
 | true=>exact⟨b,rfl,hb⟩
theorem Zr4{n b:Nat}{t:OT}(hn:n≤10)(h:Pl (b+404) t):ToldI Ju t [.int n] λd t'=>∃L:List (List Int×Rat),d=Z9 L∧(∀p∈L,Zex n p)∧L.length≤30∧Pl b t':=by
 refine Zf6 rfl (Zx (Zbq (Ja (k:=b+403) rfl h (Zb Z2 Zi) (by decide) (by decide) λk t1 k0 k1 p1=>?_)))
 refine Zx (Jw Zgn ?_)
 have c0:Cts n [] 10:=⟨[],rfl,(λ_ m=>nomatch m),QC _⟩
 refine Zx (EpS.mono (N:=λδ=>∃ts t2,δ=[some t2,some (.fz (.int n)),some (.fz (.int k)),some (.nd ts),none,none]∧Cts n ts 10∧Pl (b+313) t2) (R:=λ_ _=>False) ?_ (λδ q=>?_) λ_ _ z=>z.elim)
 ·refine Zh9 (Zw3 (W6 (Zb0 (Zy5 Za Z2 rfl)) ⟨λ_=>W6 (Zb0 (Zl4 Za Z2 rfl)) ⟨λ_=>?_,λ_=>?_⟩,λ_=>⟨(λz=>nomatch z),λ_=>?_⟩⟩))
  ·obtain⟨ts,t2,e,hc,p2⟩:=Z8k (n:=n) (b:=b+313) (t:=t1) (k:=some (.fz (.int k))) (z3:=some (.nd [])) (z4:=none) (z5:=none) hn p1
   exact Ziw e ⟨ts,t2,rfl,hc,p2⟩
  ·exact Zfj ⟨[],t1,rfl,c0,p1.dn (j:=90)⟩
  ·exact Zfj ⟨[],t1,rfl,c0,p1.dn (j:=90)⟩
 obtain⟨ts,t2,rfl,hc,p2⟩:=q
 refine Zx (EpS.mono (N:=λδ=>∃ts t2,δ=[some t2,some (.fz (.int n)),some (.fz (.int k)),some (.nd ts),none,none]∧Cts n ts 10∧Pl (b+223) t2) (R:=λ_ _=>False) ?_ (λδ q=>?_) λ_ _ z=>z.elim)
 ·refine Zh9 (Zw3 (W6 (Zb0 (Zy5 Za Z2 rfl)) ⟨λ_=>W6 (Zb0 (Zl4 Za Z2 rfl)) ⟨λ_=>?_,λ_=>?_⟩,λ_=>⟨(λz=>nomatch z),λ_=>?_⟩⟩))
  ·obtain⟨ts',t3,e,hc',p3⟩:=Z9v (n:=n) (b:=b+223) (t:=t2) (k:=some (.fz (.int k))) (z3:=some (.nd ts)) (z4:=none) (z5:=none) hn p2
   exact Ziw e ⟨ts',t3,rfl,hc',p3⟩
  ·exact Zfj ⟨ts,t2,rfl,hc,p2.dn (j:=90)⟩
  ·exact Zfj ⟨ts,t2,rfl,hc,p2.dn (j:=90)⟩
 obtain⟨ts,t2,rfl,hc,p2⟩:=q
 refine Zx (Ziv (Zya (Y7 (Zrm (Z5j (Y7 (Ja (k:=b+222) rfl p2 (Zb Z2 Zi) (by decide) (by decide) λa t3 a0 a1 p3=>Y7 (Ja (k:=b+221) rfl p3 (Zb Z2 Zi) (by decide) (by decide) λd t4 b0 b1 p4=>Zax ⟨show 2≤1000 by decide,Z3f (Y7 (Zbc (Ja (k:=b+220) rfl p4 (Zb Z2 Zi) (by decide) (by decide) λr t5 r0 r1 p5=>Yb Z2 ⟨_,Z1r _ _,Zax ⟨_,rfl,?_⟩⟩)))⟩))))))))
 obtain⟨x,ex,x0,x1⟩:=Z9g (a:=a) (b:=d) (lo:=0) (hi:=11) ⟨a0,Vf (Int.le_of_lt a1) (by decide)⟩ ⟨b0,Int.le_of_lt_add_one b1⟩ (decide (r=0))
 obtain⟨m,rfl,hm⟩:=toN (n:=11) x0 x1
 refine⟨_,ex,Zax ⟨m,rfl,Xz hm (by decide),λi δ=>∃ts t2 z4 z5,δ=[some t2,some (.fz (.int n)),some (.fz (.int k)),some (.nd ts),z4,z5]∧Cts n ts (10+i)∧Pl (b+20*(11-i)) t2,⟨ts,t5,none,none,rfl,hc,p5⟩,λi d δ hd q=>?_,λδ' q=>?_⟩⟩
 ·obtain⟨ts,t2,z4,z5,rfl,hc,p2⟩:=q
  have hi:i<11:=X4 (Zae hd).1 hm
  rw[Zd5 hi]at p2
  obtain⟨c,t3,us,e,eu,c1,c2,p3⟩:=Z99 (n:=n) (b:=b+20*(11-(i+1))+10) (t:=t2) (k:=some (.fz (.int k))) (z3:=some (.nd ts)) (z4:=some (.fz d)) (z5:=z5) hn p2
  refine⟨_,rfl,Zx (Zbq ⟨_,_,e,?_⟩)⟩
  have ed:(OT.nd us).data=Zq c:=by rw[OT.data_nd,eu];rfl
  rw[ed]
  have tN:∀{b:Bool},(!decide (c=[]))=b->EvT (tV (Zf gNe (Zd 5) (Zcb Zm))) [some t3,some (.fz (.int n)),some (.fz (.int k)),some (.nd ts),some (.fz d),some (.fz (Zq c))] b:=λhb=>hb▸Zb0 (Zn Za (Zfd Zi (show 0≤1000 by decide)) (Zfw c []))
  refine Zh9 (W6 (tN rfl) ⟨λhz=>?_,λ_=>Zfj ⟨ts,t3,_,_,rfl,⟨_,hc.choose_spec.1,hc.choose_spec.2.1,VB hc.choose_spec.2.2⟩,p3.dn⟩⟩)
  have hne:c≠[]:=λz=>by rw[decide_eq_true z]at hz;cases hz
  exact Zy1 rfl (Zx3 (Y7 (Yb (d:=Zq c) Za (Y7 (Zgf (k:=b+20*(11-(i+1))+1) rfl p3 λw t4 hw p4=>Zax ⟨show 2≤1000 by decide,ts,rfl,Xz hc.len (Xz (Nat.add_le_add_left (VD hi) 10) (by decide)),_,t4,_,_,rfl,hc.add (p:=(c,w)) ⟨hw,c1,c2,hne⟩,p4.dn⟩)))))
 ·obtain⟨ts,t2,z4,z5,rfl,⟨L,eL,hL,lL⟩,p2⟩:=q
  rw[Wb]at lL
  have l30:L.length≤30:=Xz lL (Xz (Nat.add_le_add_left hm 10) (by decide))
  obtain⟨L',eO,hm',hl'⟩:=Zyg L (JW l30 (by decide))
  have ed:(OT.nd ts).data=Z9 L:=by rw[OT.data_nd,eL];rfl
  refine EpS.mono (N:=λ_=>False) (R:=λd δ=>∃t',δ[0]? =some (some t')∧d=Z9 L'∧Pl b t') ?_ (λ_ z=>z.elim) λd δ z=>?_
  ·have:=Zb2 (N:=λ_=>False) (R:=λd δ=>∃t',δ[0]? =some (some t')∧d=Z9 L'∧Pl b t') (Yb (δ:=[some t2,some (.fz (.int n)),some (.fz (.int k)),some (.fz (Z9 L)),z4,z5]) (Zv (Zb (Za (i:=3)) Zi) eO) ⟨t2,rfl,rfl,p2.dn⟩)
   unfold EpS at this⊢
   rw[Zgh (o:=.nd ts) rfl rfl,ed]
   exact this
  ·obtain⟨t',e1,e2,p3⟩:=z
   exact⟨t',e1,L',e2,λp hp=>hL p (hm' p hp),Xz hl' l30,p3⟩
noncomputable def Zcd(n:Nat)(f:Nat->Nat->Xa):OT:=.nd ((Xk n).map λi=>.nd ((Xk n).map λj=>.fz (f i j)))
noncomputable def Wq(n:Nat)(f:Nat->Nat->Xa):Xa:=.list ((Xk n).map λi=>.list ((Xk n).map λj=>f i j))
theorem Zet(n:Nat)(f:Nat->Nat->Xa):(Zcd n f).data=Wq n f:=by
 unfold Zcd Wq
 rw[OT.data_nd,Qs]
 refine congrArg Bd (X7 λi _=>?_)
 show(OT.nd _).data=_
 rw[OT.data_nd,Qs]
 exact congrArg Bd (X7 λj _=>OT.data_fz _)
theorem Zjd{n:Nat}{f g:Nat->Nat->Xa}(h:∀i j,i<n->j<n->f i j=g i j):Zcd n f=Zcd n g:=by
 unfold Zcd
 refine congrArg OT.nd (X7 λi hi=>congrArg OT.nd (X7 λj hj=>congrArg OT.fz (h i j (Qt.mp hi) (Qt.mp hj))))
noncomputable def upG(f:Nat->Nat->Xa)(a b:Nat)(d:Xa):Nat->Nat->Xa:=λi j=>if i=a∧j=b then d else f i j
theorem Zgz{α:Type}{n a:Nat}(f:Nat->α)(x:α):((Xk n).map f).set a x=(Xk n).map λi=>if i=a then x else f i:=by
 refine List.ext_getElem? λi=>?_
 rw[List.getElem?_set,Xe,Xw,Xl,Xl]
 by_cases h:a=i
 ·subst h
  by_cases c:a<n
  ·rw[if_pos rfl,if_pos c,Be c];simp
  ·rw[if_pos rfl,if_neg c,QZ (by simp;omega)];rfl
 ·rw[if_neg h]
  by_cases c:i<n
  ·rw[Be c];simp[Vr h]
  ·rw[QZ (by simp;omega)];rfl
theorem Zjq{i n:Nat}{e j j2:FE}{δ:Zh}{d:Xa}{f:Nat->Nat->Xa}{a b:Nat}(he:EvV e δ d)(hi:δ[i]? =some (some (Zcd n f)))(hj:EvV j δ (.int a))(ha:a<n)(hk:EvV j2 δ (.int b))(hb:b<n) :
  Zlg i e j j2 δ= .nx (δ.set i (some (Zcd n (upG f a b d)))):=by
 obtain⟨_,e2,d2⟩:=he
 obtain⟨_,e3,d3⟩:=hj
 obtain⟨_,e4,d4⟩:=hk
 unfold Zlg Zcd at*
 rw[Zcj,e2,Wj,hi]
 dsimp only
 rw[Zcj,e3,Wj,d3]
 dsimp only
 rw[Zrd (by rw[Xe,Xw];exact ha)]
 dsimp only
 rw[Xl,Be ha,Option.map_some]
 dsimp only
 rw[Zcj,e4,Wj,d4]
 dsimp only
 rw[Zrd (by rw[Xe,Xw];exact hb)]
 dsimp only
 rw[d2,Zgz,Zgz]
 refine congrArg RS.nx (congrArg (δ.set i) (congrArg some (congrArg OT.nd (X7 λk _=>?_))))
 by_cases c:k=a
 ·subst c
  rw[if_pos rfl]
  refine congrArg OT.nd (X7 λl _=>?_)
  unfold upG
  by_cases c2:l=b
  ·rw[if_pos c2,if_pos ⟨rfl,c2⟩]
  ·rw[if_neg c2,if_neg λz=>c2 z.2]
 ·rw[if_neg c]
  refine congrArg OT.nd (X7 λl _=>?_)
  unfold upG
  rw[if_neg λz=>c z.1]
theorem Zi9{α:Type}(f g:α->Xa)(L:List α):Zn4 (L.map f) (L.map g)=L.map λp=>.tuple [f p,g p]:=by
 induction L with
 | nil=>rfl
 | cons x L ih=>exact congrArg (_ :: ·) ih
noncomputable def Zhg:Xa:=.tuple [.int 0,.int 1]
noncomputable def Zmd(g:Nat×Nat->Xa)(i j:Nat):Xa:=if i<j then g (i,j)else if j<i then g (j,i)else Zhg
theorem Zer{n:Nat}(hn:n≤10)(g:Nat×Nat->Xa):Yv [.int n,.list ((Z4 n).map g)]= .ok (Zcd n (Zmd g)):=by
 have e0:(Y6 1 [0] (iRa (Zc (Zd 0) Zm)) (gNm 0) Zee (Zyw (Zdt (Zc (fC (.int 0)) (Zc (fC (.int 1)) Zm))) (Zd 1))) [some (.fz (.int n)),some (.fz (.list ((Z4 n).map g))),none,none,none]=some (Zcd n λ_ _=>Zhg,[some (.fz (.int n)),some (.fz (.list ((Z4 n).map g))),none,none,none]):=by
  have er:∀v:Option OT,(Zyw (Zdt (Zc (fC (.int 0)) (Zc (fC (.int 1)) Zm))) (Zd 1)) [v,some (.fz (.int n))]=some (.nd (Qg n (.fz Zhg)),[v,some (.fz (.int n))]):=λv=>by
   have e2:(Zdt (Zc (fC (.int 0)) (Zc (fC (.int 1)) Zm))) [v,some (.fz (.int n))]=fC Zhg [v,some (.fz (.int n))]:=by
    rw[Zle]
    exact if_pos (e:=none) (show 2≤Xr by rw[Qh];omega)
   rw[←Z5x (d:=Zhg) (n:=n) (by omega)]
   rw[Zl5,Zl5,e2]
  rw[Zil (cs:=[some (.fz (.int n))]) (Xk n) (λi:Nat=>Xm (0+(i:Int))) (λ_=>.nd (Qg n (.fz Zhg))) (Zjs (Zb Za Zi) (by omega)) (by rw[Xw,Qh];omega) rfl λx _=>er _]
  unfold Zcd
  have ec:((Xk n).map λ_=>OT.fz Zhg)=Qg n (OT.fz Zhg):=by rw[List.map_const',Xw]
  rw[←ec]
 have key:∃δ',Yt [some (.fz (.int n)),some (.fz (.list ((Z4 n).map g))),none,none,none]= .rt (Zcd n (Zmd g)) δ':=by
  obtain⟨δ',e1,f,z3,z4,rfl,h1,h2⟩:=Zpr (it:=Zfo (Zc (Z1 Yl (Zc (Zd 0) Zm)) (Zc (Zd 1) Zm))) (g:=gTp 2 (gCn (gNm 3) (gCn (gNm 4) gNl))) (S:=Z0 (Zlg 2 (Zd 4) (Yk gIx (Zd 3) (fC (.int 0))) (Yk gIx (Zd 3) (fC (.int 1)))) (Zlg 2 (Zd 4) (Yk gIx (Zd 3) (fC (.int 1))) (Yk gIx (Zd 3) (fC (.int 0)))))
   (δ:=[some (.fz (.int n)),some (.fz (.list ((Z4 n).map g))),some (Zcd n λ_ _=>Zhg),none,none]) (ds:=(Z4 n).map λp=>.tuple [ptD p,g p])
   (λk δ=>∃(f:Nat->Nat->Xa) (z3 z4:Option OT),δ=[some (.fz (.int n)),some (.fz (.list ((Z4 n).map g))),some (Zcd n f),z3,z4]∧(∀i,f i i=Zhg)∧∀l p,l<k->(Z4 n)[l]? =some p->f p.1 p.2=g p∧f p.2 p.1=g p)
   (Zmb (Zv (Zb Za Zi) (Zdr n (by omega))) Za (Zi9 ptD g _)) ⟨_,none,none,rfl,λ_=>rfl,λl p hl=>absurd hl (V1 l)⟩ (λk d δ hd q=>by
    obtain⟨f,z3,z4,rfl,h1,h2⟩:=q
    rw[Xl]at hd
    cases e:(Z4 n)[k]? with
    | none=>rw[e]at hd;cases hd
    | some p=>
     rw[e]at hd
     cases hd
     obtain⟨m1,m2⟩:=Zbd (Qo e)
     have i0:∀{δ:Zh},δ[3]? =some (some (.fz (ptD p)))->EvV (Yk gIx (Zd 3) (fC (.int 0))) δ (.int (p.1:Int)):=λh=>Wh (Za h) Z2 rfl
     have i1:∀{δ:Zh},δ[3]? =some (some (.fz (ptD p)))->EvV (Yk gIx (Zd 3) (fC (.int 1))) δ (.int (p.2:Int)):=λh=>Wh (Za h) Z2 rfl
     refine⟨_,_,rfl,.inl (Wn (Zjq (n:=n) (f:=f) (a:=p.1) (b:=p.2) (d:=g p) Za rfl (i0 rfl) (by omega) (i1 rfl) (by omega)) (Zjq (n:=n) (a:=p.2) (b:=p.1) (d:=g p) Za rfl (i1 rfl) (by omega) (i0 rfl) (by omega))),_,_,_,rfl,λi=>?_,λl q hl hq=>?_⟩
     ·unfold upG
      rw[if_neg (by omega),if_neg (by omega)]
      exact h1 i
     ·by_cases c:q=p
      ·subst c
       unfold upG
       exact⟨by split<;>(try rfl);rw[if_pos ⟨rfl,rfl⟩],by rw[if_pos ⟨rfl,rfl⟩]⟩
      ·have hl':l<k:=by
        rcases Nat.lt_or_ge l k with z|z
        ·exact z
        ·have:l=k:=by omega
         subst this
         rw[e]at hq
         cases hq
         exact absurd rfl c
       obtain⟨q1,q2⟩:=Zbd (Qo hq)
       have ne:¬(q.1=p.1∧q.2=p.2):=λz=>c (Prod.ext z.1 z.2)
       obtain⟨g1,g2⟩:=h2 l q hl' hq
       unfold upG
       rw[if_neg (by omega),if_neg (by omega),if_neg (by omega),if_neg (by omega)]
       exact⟨g1,g2⟩)
  rw[Xe]at h2
  refine⟨[some (.fz (.int n)),some (.fz (.list ((Z4 n).map g))),none,z3,z4],Wn (Zlj e0) (Wn e1 ?_)⟩
  have eG:Zcd n f=Zcd n (Zmd g):=Zjd λi j hi hj=>?_
  ·rw[eG];rfl
  unfold Zmd
  rcases Nat.lt_trichotomy i j with c|c|c
  ·obtain⟨l,hl⟩:=Bl (Ze2 c hj)
   rw[if_pos c]
   exact(h2 l _ (Xo.mp hl).1 hl).1
  ·subst c
   rw[if_neg (Ve _),if_neg (Ve _)]
   exact h1 i
  ·obtain⟨l,hl⟩:=Bl (Ze2 c hi)
   rw[if_neg (by omega),if_pos c]
   exact(h2 l _ (Xo.mp hl).1 hl).2
 obtain⟨δ',e⟩:=key
 unfold Yv
 rw[Zgc (np:=2) (by rfl)]
 show(Yt [some (.fz (.int n)),some (.fz (.list ((Z4 n).map g))),none,none,none]).told=_
 rw[e];rfl
theorem Zcf(neg:Bool)(x:Int)(p:List Int):Zk5 neg (.int x) (Zq p)=some (.bool (if neg then !decide (x∈p)else decide (x∈p))):=by
 have e:memS (.int x) (p.map Xm)=decide (x∈p):=by
  unfold memS
  rw[List.any_map]
  rw[Um,List.any_eq_true,decide_eq_true_eq]
  constructor
  ·rintro⟨y,hy,h⟩
   have:(y==x)=true:=h
   rw[←eq_of_beq this];exact hy
  ·intro h
   exact⟨x,h,(show(x==x)=true from beq_self_eq_true x)⟩
 have s:(p.map Xm).all scD=true:=by
  rw[Bm]
  intro d hd
  obtain⟨y,_,rfl⟩:=XF.mp hd
  rfl
 show(if(scD (.int x)&&(p.map Xm).all scD)=true then some (PyData.bool (if neg then !memS (.int x) (p.map Xm)else memS (.int x) (p.map Xm)))else none)=_
 rw[s,e];rfl
theorem Z0c{t:FT}{a b:FE}{δ:Zh}{d:Xa}(h:EvT t δ true)(k:EvV a δ d):EvV (fIf t a b) δ d:=by
 obtain⟨o,e1,e2⟩:=k
 exact⟨o,by unfold fIf;unfold EvT at h;rw[h];exact e1,e2⟩
theorem Z2e{t:FT}{a b:FE}{δ:Zh}{d:Xa}(h:EvT t δ false)(k:EvV b δ d):EvV (fIf t a b) δ d:=by
 obtain⟨o,e1,e2⟩:=k
 exact⟨o,by unfold fIf;unfold EvT at h;rw[h];exact e1,e2⟩
noncomputable def sd(p:List Int×Rat)(i:Nat):Int:=if(i:Int)∈p.1 then 1 else 0
noncomputable def Zbl(n:Nat)(p:List Int×Rat):Xa:=.list ((Xk n).map λi=>.int (sd p i))
theorem Zk7{n:Nat}(hn:n≤10)(p:List Int×Rat):Told Zay [.int n,Zq p.1] (Zbl n p) :=
 Wg rfl<|Za6<|Zcl (cs:=[some (.fz (Zq p.1))]) (Xk n) (λi:Nat=>Xm (0+(i:Int))) (λi=>.int (sd p i)) (Zjs (Zb Za Zi) (by omega)) (by rw[Xw];omega) rfl λi _=>by
  have t:∀{b:Bool},decide ((i:Int)∈p.1)=b->EvT (tV (Zf (Zk5 false) (Zd 0) (Zd 1))) [some (.fz (.int (0+(i:Int)))),some (.fz (Zq p.1))] b:=λhb=>hb▸Zb0 (Zn Za Za (by rw[Zcf,Int.zero_add];rfl))
  unfold sd
  by_cases c:(i:Int)∈p.1
  ·rw[if_pos c];exact Z0c (t (decide_eq_true c)) Z2
  ·rw[if_neg c];exact Z2e (t (decide_eq_false c)) Z2
theorem Zff{n:Nat}(hn:n≤10)(L:List (List Int×Rat))(hl:L.length<64):Told W5 [.int n,Z9 L] (.list (L.map (Zbl n))) :=
 Wg rfl<|Za6<|Zcl (cs:=[some (.fz (.int n))]) L ctD (Zbl n) (Jr Za) (by omega) rfl λp _=>Zv (Zb Za (Zb (Wh (d:=Zq p.1) Za Z2 rfl) Zi)) (Zk7 hn p)
noncomputable def Wl(q:Rat):Prop:=(q.den:Int)∣2520∧Bt 300 q.num
theorem Wt.wl{q:Rat}(h:Wt q):Wl q:=⟨h.1,h.2.mono (by decide)⟩
noncomputable def prt(i j:Nat)(p:List Int×Rat):Bool:=!decide (sd p i=sd p j)
noncomputable def Sm(L:List (List Int×Rat))(i j:Nat):Rat:=((L.filter (prt i j)).map λp=>p.2).sum
noncomputable def Zhf(L:List (List Int×Rat)):Nat×Nat->Xa:=λp=>frD (Sm L p.1 p.2)
theorem Zw7{m:Int}:∀(L:List (List Int×Rat)),(∀p∈L,(p.2.den:Int)∣m)->(((L.map λp=>scI m p.2).sum:Int):Rat)=(L.map λp=>p.2).sum*(m:Rat)
 | [],_=>by simp
 | p :: L,h=>by
  rw[Qu,Qu,VF,VF,Rat.intCast_add,Z46 (h p (.head _)),Zw7 L λq hq=>h q (.tail _ hq),Rat.add_mul]
theorem Zp1{m:Int}(hm:0<m)(L:List (List Int×Rat))(h:∀p∈L,(p.2.den:Int)∣m):Vi (L.map λp=>scI m p.2).sum m=(L.map λp=>p.2).sum:=by
 have m0:(m:Rat)≠0:=λz=>by
  have:=Rat.intCast_inj.mp (z.trans (Rat.intCast_zero).symm)
  omega
 rw[Rat.divInt_eq_div,Zw7 L h,Rat.div_def,Rat.mul_assoc,Rat.mul_inv_cancel _ m0,Rat.mul_one]
theorem Ztd(es:List Int):Z33 [Zq es]=some (.int es.sum):=by
 show(Zdc (es.map Xm)).bind _=_
 rw[Zcm];rfl
theorem Zn1{n:Nat}{m:Int}{L:List (List Int×Rat)}{a b:Nat}{δ:Zh}(ha:a<n)(hb:b<n)(hl:L.length<64)(h5:δ[5]? =some (some (.fz (.list (L.map (Zbl n))))))(h4:δ[4]? =some (some (.fz (.list (L.map λp=>.int (scI m p.2))))))(hk:blk 2 [7,8] δ=[none,none,some (.fz (.int a)),some (.fz (.int b))]) :
  EvV (Y6 2 [7,8] (Zfo (Zc (Zd 5) (Zc (Zd 4) Zm))) (gTp 2 (gCn (gNm 0) (gCn (gNm 1) gNl))) (tV (Zf gNe (Yk gIx (Zd 0) (Zd 2)) (Yk gIx (Zd 0) (Zd 3)))) (Zd 1)) δ (Zq ((L.filter (prt a b)).map λp=>scI m p.2)):=by
 have hi:EvI (Zfo (Zc (Zd 5) (Zc (Zd 4) Zm))) δ (L.map λp=>.tuple [Zbl n p,.int (scI m p.2)]):=Zmb (Za h5) (Za h4) (Zi9 (Zbl n) (λp=>.int (scI m p.2)) L)
 obtain⟨ts,δ',e1,z0,z1,rfl,e2⟩:=Zuq (t:=tV (Zf gNe (Yk gIx (Zd 0) (Zd 2)) (Yk gIx (Zd 0) (Zd 3)))) (e:=Zd 1) (g:=gTp 2 (gCn (gNm 0) (gCn (gNm 1) gNl))) (δ:=[none,none,some (.fz (.int a)),some (.fz (.int b))])
  (λk acc δ=>∃z0 z1,δ=[z0,z1,some (.fz (.int a)),some (.fz (.int b))]∧acc=(((L.take k).filter (prt a b)).map λp=>scI m p.2).map Xm) (L.map λp=>.tuple [Zbl n p,.int (scI m p.2)]) 0 [] ⟨none,none,rfl,by simp⟩ (λk d acc δ hd q=>by
   obtain⟨z0,z1,rfl,rfl⟩:=q
   rw[Vd]at*
   rw[Xl]at hd
   cases e:L[k]? with
   | none=>rw[e]at hd;cases hd
   | some p=>
    rw[e]at hd
    cases hd
    have et:L.take (k+1)=L.take k ++ [p]:=by rw[Bv,e];rfl
    have at':∀{c:Nat},c<n->gIx (Zbl n p) (.int (c:Int))=some (.fz (.int (sd p c))):=λhc=>by
     unfold Zbl
     rw[Zme,Zm4,Xl,Be hc];rfl
    refine⟨_,rfl,W6 (Zb0 (Zju (Wh (d:=.int (sd p a)) Za Za (at' ha)) (Wh (d:=.int (sd p b)) Za Za (at' hb)) (p:=prt a b p) rfl)) ⟨λc=>?_,λc=>?_⟩⟩
    ·refine Yb (d:=.int (scI m p.2)) Za ⟨_,_,rfl,?_⟩
     rw[et,Uq,Us c,List.filter_nil,Xy,Xy];rfl
    ·refine⟨_,_,rfl,?_⟩
     rw[et,Uq,Ut (by rw[c];decide),List.filter_nil,QS])
 rw[Vd,Xe,BW,Uj]at e2
 refine⟨.nd ts,?_,by rw[OT.data_nd,e2];rfl⟩
 unfold EvI at hi
 unfold Y6
 rw[hi]
 show(if(L.map λp=>PyData.tuple [Zbl n p,.int (scI m p.2)]).length≤Xr then _ else none)=_
 rw[if_pos (by rw[Xe,Qh];omega),hk,e1];rfl
theorem Z7d{F:FD}{as:FA}{δ:Zh}{ds:List Xa}{o:OT}(h:EvA as δ ds)(k:F ds= .ok o):Z1 F as δ=some (o,δ):=by
 obtain⟨ts,e1,e2⟩:=h
 rw[Zi0,e1]
 show okO (F (OT.datas ts)) δ=_
 rw[e2,k];rfl
theorem Zyh{F:FD}{as:FA}{δ:Zh}{ds:List Xa}{o:OT}(h:EvA as δ ds)(k:F ds= .ok o):wE (Z1 F as) J6 δ= .rt o δ:=by rw[Zcj,Z7d h k];rfl
theorem Zll{n:Nat}(hn:n≤10)(L:List (List Int×Rat))(hl:L.length<64)(hw:∀p∈L,Wl p.2):Yo [.int n,Z9 L]= .ok (Zcd n (Zmd (Zhf L))):=by
 obtain⟨m,eB,m0,m1,m2⟩:=Zfn (n:=300) (B:=2520) (by decide) (Bt.of_lt (by decide) (by decide)) (by decide) (L.map λp=>(p.2.num,(p.2.den:Int))) λp hp=>by
  obtain⟨q,hq,rfl⟩:=XF.mp hp
  exact⟨Zea q.2,(hw q hq).1⟩
 have bm:Bt 300 m:=Zib (by decide) m2 (Bt.of_lt (by decide) (by decide))
 have dm:∀p∈L,(p.2.den:Int)∣m:=λp hp=>m1 (p.2.num,(p.2.den:Int)) (XF.mpr ⟨p,hp,rfl⟩)
 have eW:(L.map λp=>(p.2.num,(p.2.den:Int))).map prD=(L.map λp=>p.2).map frD:=by rw[Qs,Qs];rfl
 rw[eW]at eB
 have eT:=Zj9 (n:=300) m0 bm (L.map λp=>p.2) (by rw[Xe];omega) λq hq=>by
  obtain⟨p,hp,rfl⟩:=XF.mp hq
  exact⟨dm p hp,(hw p hp).2⟩
 rw[Qs]at eT
 have lp:(Z4 n).length≤100:=by
  have:=Zgs n n
  have e:Ziq n n=Z4 n:=rfl
  rw[e]at this
  exact Xz this (Nat.mul_le_mul hn hn)
 have key:∃δ',Jt [some (.fz (.int n)),some (.fz (Z9 L)),none,none,none,none,none,none,none,none]= .rt (Zcd n (Zmd (Zhf L))) δ':=by
  obtain⟨δ',e1,z7,z8,z9,rfl⟩:=Zpr (it:=Zc9 (Z1 Yl (Zc (Zd 0) Zm))) (g:=gTp 2 (gCn (gNm 7) (gCn (gNm 8) gNl)))
   (S:=Z0 (wE (Y6 2 [7,8] (Zfo (Zc (Zd 5) (Zc (Zd 4) Zm))) (gTp 2 (gCn (gNm 0) (gCn (gNm 1) gNl))) (tV (Zf gNe (Yk gIx (Zd 0) (Zd 2)) (Yk gIx (Zd 0) (Zd 3)))) (Zd 1)) (W3 9)) (Yp 6 (Z1 Y0 (Zc (Zdk Z33 (Zc (Zd 9) Zm)) (Zc (Zd 3) Zm)))))
   (δ:=[some (.fz (.int n)),some (.fz (Z9 L)),some (.fz (.list ((L.map λp=>p.2).map frD))),some (.fz (.int m)),some (.fz (.list (L.map λp=>.int (scI m p.2)))),some (.fz (.list (L.map (Zbl n)))),some (.nd []),none,none,none]) (ds:=(Z4 n).map ptD)
   (λk δ=>∃z7 z8 z9,δ=[some (.fz (.int n)),some (.fz (Z9 L)),some (.fz (.list ((L.map λp=>p.2).map frD))),some (.fz (.int m)),some (.fz (.list (L.map λp=>.int (scI m p.2)))),some (.fz (.list (L.map (Zbl n)))),some (.nd ((((Z4 n).take k).map (Zhf L)).map OT.fz)),z7,z8,z9])
   (Jr (Zv (Zb Za Zi) (Zdr n (by omega)))) ⟨none,none,none,rfl⟩ (λk d δ hd q=>by
    obtain⟨z7,z8,z9,rfl⟩:=q
    rw[Xl]at hd
    cases e:(Z4 n)[k]? with
    | none=>rw[e]at hd;cases hd
    | some p=>
     rw[e]at hd
     cases hd
     obtain⟨q1,q2⟩:=Zbd (Qo e)
     have eF:Told Y0 [.int ((L.filter (prt p.1 p.2)).map λp=>scI m p.2).sum,.int m] (Zhf L p):=by
      have:=Zlz (t:=((L.filter (prt p.1 p.2)).map λp=>scI m p.2).sum) (b:=m) (n:=300) (by omega) bm
      rwa[Zp1 m0 _ λp hp=>dm p (BJ.mp hp).1]at this
     have et:(Z4 n).take (k+1)=(Z4 n).take k ++ [p]:=by rw[Bv,e];rfl
     refine⟨_,_,rfl,.inl (Wn (Z6 (Zn1 (n:=n) (m:=m) (L:=L) (a:=p.1) (b:=p.2) (by omega) q2 hl rfl rfl rfl)) (Zfk (d:=Zhf L p) (Zv (Zb (Zdy (Zb Za Zi) (Ztd _)) (Zb Za Zi)) eF) rfl ?_)),some (.fz (.int (p.1:Int))),some (.fz (.int (p.2:Int))),some (.fz (Zq ((L.filter (prt p.1 p.2)).map λp=>scI m p.2))),?_⟩
     ·rw[Xe,Xe]
      exact Xz (V9 ..) (by omega)
     ·rw[et,Xy,Xy];rfl)
  rw[Xe,BW]at e1
  have ef:(OT.nd (((Z4 n).map (Zhf L)).map OT.fz)).data= .list ((Z4 n).map (Zhf L)):=by rw[OT.data_nd,OT.map_fz]
  refine⟨[some (.fz (.int n)),some (.fz (Z9 L)),some (.fz (.list ((L.map λp=>p.2).map frD))),some (.fz (.int m)),some (.fz (.list (L.map λp=>.int (scI m p.2)))),some (.fz (.list (L.map (Zbl n)))),some (.fz (.list ((Z4 n).map (Zhf L)))),z7,z8,z9],?_⟩
  refine Wn (Z6 (EvV.cast (Zcl (cs:=[]) L ctD (λp=>frD p.2) (Jr Za) (by omega) rfl λp _=>Wh (d:=frD p.2) Za Z2 rfl) (y:=.list ((L.map λp=>p.2).map frD)) (by rw[Qs];rfl))) ?_
  refine Wn (Z6 (Zv (Zb Za Zi) eB)) (Wn (Z6 (Zv (Zb Za (Zb Za Zi)) eT)) (Wn (Z6 (Zv (Zb Za (Zb Za Zi)) (Zff hn L hl))) (Wn Zgn (Wn e1 (Zgh rfl ?_)))))
  rw[ef]
  exact Zyh (Zb Za (Zb Za Zi)) (Zer hn (Zhf L))
 obtain⟨δ',e⟩:=key
 unfold Yo
 rw[Zgc (np:=2) (by rfl)]
 show(Jt [some (.fz (.int n)),some (.fz (Z9 L)),none,none,none,none,none,none,none,none]).told=_
 rw[e];rfl
theorem Yb6{as:FA}{δ:Zh}{ts:List OT}(h:as δ=some (ts,δ))(hl:ts.length≤1000):Zcb as δ=some (.nd ts,δ):=by
 rw[Zi1,h]
 exact if_pos (e:=none) (show ts.length≤Xr by rw[Qh];omega)
theorem Zos{e:FE}{as:FA}{δ:Zh}{o:OT}{ts:List OT}(h:e δ=some (o,δ))(k:as δ=some (ts,δ)):Zc e as δ=some (o :: ts,δ):=by
 rw[Zjg,h]
 show(as δ).bind _=_
 rw[k];rfl
theorem Zg3{e:FE}{δ:Zh}{i:Int}(h:EvV e δ (.int i)):e δ=some (.fz (.int i),δ):=by
 obtain⟨t,e1,e2⟩:=h
 rw[e1,Zmy e2]
theorem Zs4{e:FE}{δ:Zh}{o:OT}(h:e δ=some (o,δ)):wE e J6 δ= .rt o δ:=by rw[Zcj,h];rfl
theorem Zzz(ns:List Int){k:Nat}(hk:k≤10):∃t,Ws [Zq ns,.int k]= .ok t∧Pl 999000 t:=by
 have key:∀c:Int,∃t δ',Z0 (Zbn (tV (Zf gGe (Zd 2) (Zf Zkw (fC (.int 10)) (fC (.int 18))))) (wE (Zcb (Zc (Zf gSb (Zd 2) (Zf Zkw (fC (.int 10)) (fC (.int 18)))) (Zc (fC (.int 1)) (Zc (fC (.int 0)) Zm)))) J6) fNx) (wE (Zcb (Zc (Zd 2) (Zc (fC (.int 0)) (Zc (Zf Zfb (fC (.int 23)) (Zd 1)) Zm)))) J6) [some (.fz (Zq ns)),some (.fz (.int k)),some (.fz (.int c))]= .rt t δ'∧Pl 999000 t:=λc=>by
  by_cases h:1000000000000000000≤c
  ·refine⟨pl (c-1000000000000000000) 1 0,[some (.fz (Zq ns)),some (.fz (.int k)),some (.fz (.int c))],Zkn (Zdo (Zb0 (Z4f Za (Zn Z2 Z2 Z9m) (decide_eq_true h))) ?_),⟨_,_,_,rfl,by decide,by decide⟩⟩
   exact Zs4 (Yb6 (Zos (Zg3 (Zne Za (Zn Z2 Z2 Z9m))) (Zos (Zg3 Z2) (Zos (Zg3 Z2) rfl))) (U0 rfl))
  ·refine⟨pl c 0 (23*k),[some (.fz (Zq ns)),some (.fz (.int k)),some (.fz (.int c))],Wn (Jb (Zb0 (Z4f Za (Zn Z2 Z2 Z9m) (decide_eq_false h))) rfl) ?_,⟨_,_,_,rfl,by omega,by omega⟩⟩
   exact Zs4 (Yb6 (Zos (Zg3 Za) (Zos (Zg3 Z2) (Zos (Zg3 (Zgi Z2 Za)) rfl))) (U0 rfl))
 have fin:∀c:Int,∀{δ0:Zh},Jp [some (.fz (Zq ns)),some (.fz (.int k)),none]=Z0 (Zbn (tV (Zf gGe (Zd 2) (Zf Zkw (fC (.int 10)) (fC (.int 18))))) (wE (Zcb (Zc (Zf gSb (Zd 2) (Zf Zkw (fC (.int 10)) (fC (.int 18)))) (Zc (fC (.int 1)) (Zc (fC (.int 0)) Zm)))) J6) fNx) (wE (Zcb (Zc (Zd 2) (Zc (fC (.int 0)) (Zc (Zf Zfb (fC (.int 23)) (Zd 1)) Zm)))) J6) [some (.fz (Zq ns)),some (.fz (.int k)),some (.fz (.int c))]->∃t,Ws [Zq ns,.int k]= .ok t∧Pl 999000 t:=λc δ0 e=>by
  obtain⟨t,δ',e2,p⟩:=key c
  refine⟨t,?_,p⟩
  unfold Ws
  rw[Zgc (np:=2) (by rfl)]
  show(Jp [some (.fz (Zq ns)),some (.fz (.int k)),none]).told=_
  rw[e,e2];rfl
 by_cases h:(k:Int)<ns.length
 ·exact fin _ (δ0:=[]) (Wn (Z6 Z2) (Wn (Zdo (Zb0 (Zsi Za (Zbk Za) (decide_eq_true h))) (Z6 (Zqr Za Za (by omega) h))) rfl))
 ·exact fin 0 (δ0:=[]) (Wn (Z6 Z2) (Wn (Jb (Zb0 (Zsi Za (Zbk Za) (decide_eq_false h))) rfl) rfl))
theorem Zwt:∀(M:List (List Int×Rat)),(∀p∈M,Wt p.2)->Bt (220+M.length) (M.map λp:List Int×Rat=>scI 2520 p.2).sum
 | [],_=>by
  show Bt 220 (0:Int)
  exact Bt.of_lt (by decide) (by decide)
 | p :: M,h=>by
  rw[Qu,VF,Q6]
  have h1:=Zwt M λq hq=>h q (.tail _ hq)
  obtain⟨d1,b1⟩:=h p (.head _)
  have h2:Bt 220 (scI 2520 p.2):=by
   have b2:Bt 12 ((2520:Int)/(p.2.den:Int)):=Bt.of_le (m:=12) (x:=2520) (Bt.of_lt (by decide) (by decide)) (Ug _ _)
   exact Bt.mono (m:=212) (b1.mul b2) (by decide)
  exact Bt.add' (h2.mono (Vs 220 M.length)) h1
theorem Zxp(M:List (List Int×Rat))(h:∀p∈M,Wt p.2)(hl:M.length<64):(((M.map λp:List Int×Rat=>p.2).sum).den:Int)∣2520∧Bt 300 ((M.map λp:List Int×Rat=>p.2).sum).num:=by
 rw[←Zp1 (m:=2520) (by decide) M λp hp=>(h p hp).1]
 exact⟨Zra (by decide),Zw8 (by decide) ((Zwt M h).mono (by omega))⟩
theorem Z9q{q r:Rat}(bq:Bt 400 q.num)(dq:Bt 400 (q.den:Int))(br:Bt 400 r.num)(dr:Bt 400 (r.den:Int)):Told Wr [frD q,frD r] (frD (q+r)):=by
 rw[←Zwj]
 exact Wg rfl<|Za6<|Zv (Zb (Zc4 (Zn (Wh (d:=.int q.num) Za Z2 rfl) (Wh (d:=.int (r.den:Int)) Za Z2 rfl) (Zfc (Zej bq dr))) (Zn (Wh (d:=.int r.num) Za Z2 rfl) (Wh (d:=.int (q.den:Int)) Za Z2 rfl) (Zfc (Zej br dq)))) (Zb (Zn (Wh (d:=.int (q.den:Int)) Za Z2 rfl) (Wh (d:=.int (r.den:Int)) Za Z2 rfl) (Zfc (Zej dq dr))) Zi)) (Zgq (Int.ne_of_gt (Int.mul_pos (Zea q) (Zea r))) (dq.mul dr))
theorem Zl7{q r:Rat}(hq:Wl q)(hr:Wl r):Told Wr [frD q,frD r] (frD (q+r)):=by
 have bd:∀{x:Rat},(x.den:Int)∣2520->Bt 400 (x.den:Int):=λh=>(Zib (by decide) h (Bt.of_lt (m:=12) (by decide) (by decide))).mono (by decide)
 exact Z9q (hq.2.mono (by decide)) (bd hq.1) (hr.2.mono (by decide)) (bd hr.1)
theorem Z2y{K:List (List Int)}{S:List (List Nat×List (List Int))}(ok:okS K S=true):∀(kss:List (List Int)) (st:List Nat×List (List Int)),st∈S->(∀k∈kss,k∈K)->∃st',Zqu st kss=some st'∧st'∈S∧∀x∈K,st'.2.contains x=(st.2.contains x||kss.contains x)
 | [],st,h,_=>⟨st,rfl,h,λx _=>by rw[List.contains_nil,Bool.or_false]⟩
 | k :: kss,st,h,hk=>by
  have z:=Bm.mp (Bm.mp ok st h) k (hk k (.head _))
  cases e:Z0n st.1 st.2 k with
  | none=>rw[e]at z;cases z
  | some s1=>
   rw[e]at z
   replace z:((S.contains s1&&(s1.2.length==if st.2.contains k then st.2.length else st.2.length+1))&&K.all λx=>s1.2.contains x==(st.2.contains x||x==k))=true:=z
   rw[XM,XM,UW]at z
   obtain⟨s2,e2,h2,c2⟩:=Z2y ok kss s1 z.1.1 λx hx=>hk x (.tail _ hx)
   refine⟨s2,by show(Z0n st.1 st.2 k).bind _=_;rw[e];exact e2,h2,λx hx=>?_⟩
   rw[c2 x hx,eq_of_beq (Bm.mp z.2 x hx),List.contains_cons,Bool.or_assoc]
noncomputable abbrev BB:=Bool×Bool
noncomputable def B4:List BB:=[(false,false),(false,true),(true,false),(true,true)]
noncomputable def cN(bs:List BB):Nat:=(B4.filter λb=>bs.contains b).length
noncomputable def bI(b:Bool):Int:=if b then 1 else 0
noncomputable def ky(b:BB):List Int:=[bI b.1,bI b.2]
theorem Z69{a b:BB}(h:ky a=ky b):a=b:=by
 obtain⟨a1,a2⟩:=a
 obtain⟨b1,b2⟩:=b
 cases a1<;>cases a2<;>cases b1<;>cases b2<;>first|rfl|exact absurd h (by decide)
theorem Zxu(b:BB):b∈B4:=by
 obtain⟨a1,a2⟩:=b
 cases a1<;>cases a2<;>decide
theorem Yaw:(S2.all λs=>s.2.length==(K2.filter λk=>s.2.contains k).length)=true:=by decide +kernel
theorem Z53(bs:List BB):∃st,Zqu ([],[]) (bs.map ky)=some st∧st.2.length=cN bs:=by
 obtain⟨st,e,h,c⟩:=Z2y Ydv (bs.map ky) ([],[]) (by decide +kernel) λk hk=>by
  obtain⟨b,_,rfl⟩:=XF.mp hk
  show ky b∈B4.map ky
  exact XF.mpr ⟨b,Zxu b,rfl⟩
 refine⟨st,e,?_⟩
 rw[eq_of_beq (Bm.mp Yaw st h)]
 show((B4.map ky).filter λk=>st.2.contains k).length=_
 rw[List.filter_map,Xe]
 unfold cN
 refine congrArg List.length (List.filter_congr λb hb=>?_)
 show st.2.contains (ky b)=_
 rw[c (ky b) (show ky b∈B4.map ky from XF.mpr ⟨b,hb,rfl⟩),List.contains_nil,Bool.false_or,Um,UW,UW]
 constructor
 ·intro m
  obtain⟨a,ha,e⟩:=XF.mp m
  rw[←Z69 e];exact ha
 ·exact λm=>XF.mpr ⟨b,m,rfl⟩
noncomputable def kb(p q:List Int×Rat)(i:Nat):BB:=(decide ((i:Int)∈p.1),decide ((i:Int)∈q.1))
noncomputable def kbs(n:Nat)(p q:List Int×Rat):List BB:=(Xk n).map (kb p q)
noncomputable def crs(n:Nat)(p q:List Int×Rat):Bool:=decide (cN (kbs n p q)=4)
theorem Yaj(p q:List Int×Rat)(i:Nat):tupI (ky (kb p q i))= .tuple [.int (sd p i),.int (sd q i)]:=by
 have:∀p:List Int×Rat,bI (decide ((i:Int)∈p.1))=sd p i:=λp=>by unfold sd bI;by_cases c:(i:Int)∈p.1<;>simp[c]
 show PyData.tuple [.int (bI (decide ((i:Int)∈p.1))),.int (bI (decide ((i:Int)∈q.1)))]=_
 rw[this,this]
theorem Zl0{n:Nat}(hn:n≤10)(p q:List Int×Rat):Told Za2 [Zbl n p,Zbl n q] (.bool (crs n p q)):=by
 obtain⟨st,e,h⟩:=Z53 (kbs n p q)
 refine Wg rfl (Za6 (Zl4 (Zn6 (kss:=(kbs n p q).map ky) (Zb ?_ Zi) e) Z2 ?_))
 ·have hi:EvI (Zfo (Zc (Zd 0) (Zc (Zd 1) Zm))) (Zc8 2 [Zbl n p,Zbl n q]) ((Xk n).map λi=>.tuple [.int (sd p i),.int (sd q i)]):=Zmb Za Za (Zi9 (λi=>.int (sd p i)) (λi=>.int (sd q i)) _)
  obtain⟨ts,δ',e1,z0,z1,rfl,e2⟩:=Zuq (t:=Zee) (e:=Zdt (Zc (Zd 0) (Zc (Zd 1) Zm))) (g:=gTp 2 (gCn (gNm 0) (gCn (gNm 1) gNl))) (δ:=[none,none])
   (λk acc δ=>∃z0 z1,δ=[z0,z1]∧acc=((Xk n).take k).map λi=>.tuple [.int (sd p i),.int (sd q i)]) ((Xk n).map λi=>.tuple [.int (sd p i),.int (sd q i)]) 0 [] ⟨none,none,rfl,rfl⟩ (λk d acc δ hd q=>by
    obtain⟨z0,z1,rfl,rfl⟩:=q
    rw[Vd]at*
    rw[Xl]at hd
    cases e:(Xk n)[k]? with
    | none=>rw[e]at hd;cases hd
    | some i=>
     rw[e]at hd
     cases hd
     have et:(Xk n).take (k+1)=(Xk n).take k ++ [i]:=by rw[Bv,e];rfl
     refine⟨_,rfl,W6 rfl ⟨λ_=>Yb (Zb8 (Zb Za (Zb Za Zi)) (show 2≤1000 by decide)) ⟨_,_,rfl,?_⟩,λz=>nomatch z⟩⟩
     rw[et,Xy];rfl)
  rw[Vd,Xe,BW,Uj]at e2
  refine⟨.nd ts,?_,?_⟩
  ·unfold EvI at hi
   unfold Y6
   rw[hi]
   show(if((Xk n).map λi=>PyData.tuple [.int (sd p i),.int (sd q i)]).length≤Xr then _ else none)=_
   rw[if_pos (by rw[Xe,Xw,Qh];omega)]
   show(compLoop _ _ _ _ [none,none]).bind _=_
   rw[e1];rfl
  ·rw[OT.data_nd,e2]
   refine congrArg Bd ?_
   show _=((((Xk n).map (kb p q)).map ky).map tupI)
   rw[Qs,Qs]
   exact X7 λi _=>(Yaj p q i).symm
 ·rw[h]
  unfold crs
  exact decide_eq_decide.mpr (by omega)
noncomputable def Zmh(n:Nat)(L:List (List Int×Rat))(ps:List (Nat×Nat)):Xa:=match ps.find? (λp=>crs n (L.getD p.1 ([],0)) (L.getD p.2 ([],0)))with
 | some p=>ptD p
 | none=>.none
theorem Z91{n:Nat}{L:List (List Int×Rat)}{p:Nat×Nat}{ps:List (Nat×Nat)}(c:crs n (L.getD p.1 ([],0)) (L.getD p.2 ([],0))=true):Zmh n L (p :: ps)=ptD p:=by
 unfold Zmh
 rw[List.find?_cons_of_pos (p:=λp:Nat×Nat=>crs n (L.getD p.1 ([],0)) (L.getD p.2 ([],0))) c]
theorem Z81{n:Nat}{L:List (List Int×Rat)}{p:Nat×Nat}{ps:List (Nat×Nat)}(c:crs n (L.getD p.1 ([],0)) (L.getD p.2 ([],0))=false):Zmh n L (p :: ps)=Zmh n L ps:=by
 unfold Zmh
 rw[List.find?_cons_of_neg (p:=λp:Nat×Nat=>crs n (L.getD p.1 ([],0)) (L.getD p.2 ([],0))) (by rw[c];exact XH)]
theorem Zfx{n:Nat}(hn:n≤10)(L:List (List Int×Rat))(hl:L.length<64):Told Zo [.int n,Z9 L] (Zmh n L (Z4 L.length)):=by
 have at_:∀{i:Nat},i<L.length->gIx (.list (L.map (Zbl n))) (.int (i:Int))=some (.fz (Zbl n (L.getD i ([],0)))):=fun{i} h=>by
  rw[Zme,Zm4,Xl,XJ h,Ql,XJ h];rfl
 have key:EpS Wu (Zc8 5 [.int n,Z9 L]) (λ_=>False) λd _=>d=Zmh n L (Z4 L.length):=by
  refine Zx (Jw (Z6 (Zv (Zb Za (Zb Za Zi)) (Zff hn L hl))) ?_)
  refine Zx (Zg8 (ds:=(Z4 L.length).map ptD) (λk δ=>∃z3 z4,δ=[some (.fz (.int n)),some (.fz (Z9 L)),some (.fz (.list (L.map (Zbl n)))),z3,z4]∧Zmh n L (Z4 L.length)=Zmh n L ((Z4 L.length).drop k)) (Jr (Zv (Zb (EvV.cast (Zjm Za) (by rw[Xe])) Zi) (Zdr L.length (by omega)))) ⟨none,none,rfl,rfl⟩ (λk d δ hd q=>?_) λδ' q=>?_)
  ·obtain⟨z3,z4,rfl,hf⟩:=q
   rw[Xl]at hd
   cases e:(Z4 L.length)[k]? with
   | none=>rw[e]at hd;cases hd
   | some p=>
    rw[e]at hd
    cases hd
    obtain⟨p1,p2⟩:=Zbd (Qo e)
    obtain⟨hk,hp⟩:=Xo.mp e
    rw[BL hk,hp]at hf
    refine⟨_,rfl,Zh9 (W6 (Zoc (Zv (Zb (Wh Za Za (at_ (i:=p.1) (by omega))) (Zb (Wh Za Za (at_ (i:=p.2) p2)) Zi)) (Zl0 hn _ _))) ⟨λc=>?_,λc=>?_⟩)⟩
    ·refine Zb2 (Yb (d:=ptD p) (Zb8 (Zb Za (Zb Za Zi)) (show 2≤1000 by decide)) ?_)
     rw[hf,Z91 c]
    ·refine Zfj ⟨_,_,rfl,?_⟩
     rw[hf,Z81 c]
  ·obtain⟨z3,z4,rfl,hf⟩:=q
   rw[Xe,List.drop_length]at hf
   exact Zb2 (Yb Z2 (by rw[hf];rfl))
 rcases key with⟨_,_,z⟩|⟨o,δ',e,h⟩
 ·exact z.elim
 ·exact Wg rfl ⟨o,δ',e,h⟩
theorem Zt5(a b:List Int):gEq (Zq a) (Zq b)=some (.bool (decide (a=b))):=by
 have s:∀p,BX (Zq p)=true:=λp=>((Zlt p).shp (by omega)).ok
 unfold gEq
 rw[if_pos (by rw[s,s];rfl)]
 exact congrArg (λz=>some (PyData.bool z)) (Zd2 a b)
noncomputable def sdI(n:Nat)(c:Int->Bool):List Int:=((Xk n).filter λi:Nat=>c i).map λi:Nat=>(i:Int)
theorem Z1i{n:Nat}(hn:n≤10){δ:Zh}{ns:List Int}(h0:δ[0]? =some (some (.fz (.int n))))(hb:blk 1 [1] δ=[none,some (.fz (Zq ns))]):EvV (Y6 1 [1] (iRa (Zc (Zd 0) Zm)) (gNm 0) (tV (Zf (Zk5 true) (Zd 0) (Zd 1))) (Zd 0)) δ (Zq (sdI n λx=>!decide (x∈ns))):=by
 have hi:EvI (iRa (Zc (Zd 0) Zm)) δ ((Xk n).map λi:Nat=>Xm (0+(i:Int))):=Zjs (Zb (Za h0) Zi) (by omega)
 have e0:(λi:Nat=>Xm (0+(i:Int)))= λi:Nat=>Xm (i:Int):=funext λi=>by rw[Int.zero_add]
 rw[e0]at hi
 have:=Zin (δ:=δ) (t:=tV (Zf (Zk5 true) (Zd 0) (Zd 1))) (me:=Zd 0) (Xk n) (λi:Nat=>Xm (i:Int)) (λi:Nat=>!decide ((i:Int)∈ns)) hi (by rw[Xw];omega) hb (λi _=>Zb0 (Zn Za Za (Zcf true _ _))) λi _ _=>rfl
 refine this.cast ?_
 unfold Zq sdI
 rw[Qs];rfl
theorem Zgb{n:Nat}{c:Int->Bool}{x:Int}:x∈sdI n c↔0≤x∧x<n∧c x=true:=by
 unfold sdI
 rw[XF]
 constructor
 ·rintro⟨i,hi,rfl⟩
  obtain⟨h1,h2⟩:=BJ.mp hi
  have:=Qt.mp h1
  exact⟨by omega,by omega,h2⟩
 ·rintro⟨h1,h2,h3⟩
  exact⟨x.toNat,BJ.mpr ⟨Qt.mpr (by omega),by rw[Int.toNat_of_nonneg h1];exact h3⟩,Int.toNat_of_nonneg h1⟩
theorem Zeo(n:Nat)(c:Int->Bool):(sdI n c).Pairwise (·<·):=by
 unfold sdI
 exact List.Pairwise.map _ (λa b h=>by omega) ((List.pairwise_lt_range (n:=n)).filter _)
theorem Zrp{n:Nat}{ns:List Int}(h:∀x∈ns,0≤x∧x<n):Zcc (dnc ns)=sdI n λx=>decide (x∈ns):=by
 have nd:(sdI n λx=>decide (x∈ns)).Nodup:=(Zeo n _).imp λh e=>by omega
 have o:=Zjp ns
 have pm:(dnc ns).Perm (sdI n λx=>decide (x∈ns)):=(V8 o.1 nd).mpr λx=>by
  rw[o.2,Zgb,decide_eq_true_eq]
  exact⟨λm=>⟨(h x m).1,(h x m).2,m⟩,λm=>m.2.2⟩
 exact Zag ((Zak _).trans pm) (J8 _) ((Zeo n _).imp λh=>Int.le_of_lt h)
noncomputable def inR(n:Nat)(x:Int):Bool:=decide (0≤x)&&decide (x<n)
theorem Zu3{n:Nat}{x:Int}{δ:Zh}(h0:δ[0]? =some (some (.fz (.int n))))(h2:δ[2]? =some (some (.fz (.int x)))):EvV (Zc7 (λi j=>decide (i≤j)) (λi j=>decide (i<j)) (fC (.int 0)) (Zd 2) (Zd 0)) δ (.bool (inR n x)):=by
 refine⟨.fz (.bool (inR n x)),?_,OT.data_fz _⟩
 have e2:Zd 2 δ=some (.fz (.int x),δ):=by rw[Zk8,h2];rfl
 have e0:Zd 0 δ=some (.fz (.int n),δ):=by rw[Zk8,h0];rfl
 unfold Zc7
 show(Zd 2 δ).bind _=_
 rw[e2]
 show(match(Xm 0),(OT.fz (.int x)).data with| .int i,.int j=>if decide (i≤j)=true then(Zd 0 δ).bind λr=>match r.1.data with| .int k=>some (OT.fz (.bool (decide (j<k))),r.2)|_=>none else some (OT.fz (.bool false),δ)|_,_=>none)=_
 rw[OT.data_fz]
 dsimp only
 unfold inR
 by_cases c:0≤x
 ·rw[if_pos (decide_eq_true c),e0,decide_eq_true c];rfl
 ·rw[if_neg (by rw[decide_eq_false c];exact XH),decide_eq_false c];rfl
theorem Z9d{n:Nat}{x:Int}{δ:Zh}(h0:δ[0]? =some (some (.fz (.int n))))(h2:δ[2]? =some (some (.fz (.int x)))):EvT (tO (tNo (tD (Z1 Yn (Zc (Zd 2) Zm)))) (tNo (tV (Zc7 (λi j=>decide (i≤j)) (λi j=>decide (i<j)) (fC (.int 0)) (Zd 2) (Zd 0))))) δ (!inR n x) :=
 Z1h (Zpi (p:=true) (Zoc (Zv (Zb (Za h2) Zi) (Told.of (Zfa x) (OT.data_fz _))))) (Zpi (Zb0 (Zu3 h0 h2)))
theorem Z23{n:Nat}{ns:List Int}(h:∀x∈ns,inR n x=true):Ym [.int n,Zq ns]= .ok (.fz .none):=by
 have key:EpS Y8 (Zc8 3 [.int n,Zq ns]) (λ_=>True) λ_ _=>False:=by
  refine Zg8 (ds:=ns.map Xm) (λ_ δ=>∃z,δ=[some (.fz (.int n)),some (.fz (Zq ns)),z]) (Jr Za) ⟨none,rfl⟩ (λk d δ hd q=>?_) λ_ _=>trivial
  obtain⟨z,rfl⟩:=q
  obtain⟨x,hx,rfl⟩:=XF.mp (Qo hd)
  exact⟨_,rfl,Jw (Jb (by have:=Z9d (n:=n) (x:=x) (δ:=[some (.fz (.int n)),some (.fz (Zq ns)),some (.fz (.int x))]) rfl rfl;rwa[h x hx]at this) rfl) ⟨_,rfl⟩⟩
 unfold Ym
 rw[Zgc (np:=2) (by rfl)]
 rcases key with⟨δ',e,_⟩|⟨o,δ',e,z⟩
 ·exact congrArg RS.told e
 ·exact z.elim
theorem Zo2{δ:Zh}{i:Nat}{ns:List Int}(h:δ[i]? =some (some (.fz (Zq ns))))(l:ns.length<64):EvV (Zft (Zc (Zd i) Zm)) δ (Zq (Zcc (dnc ns))):=by
 obtain⟨ts,e1,e2⟩:=Zb (Za h) (Zi (δ:=δ))
 refine⟨.nd (((Zcc (dnc ns)).map Xm).map OT.fz),?_,Zli _⟩
 unfold Zft
 rw[e1,Xh]
 show(match OT.datas ts with|[.list es]=>(Zdc es).bind λns=>if ns.length<64 then some (OT.nd (((Zcc (dnc ns)).map Xm).map OT.fz),δ)else none|_=>none)=_
 rw[e2]
 show(Zdc (ns.map Xm)).bind _=_
 rw[Zcm,Xh,if_pos l]
noncomputable def ctO(n:Nat)(ns:List Int):List Int:=if 0∈ns then sdI n λx=>!decide (x∈ns)else sdI n λx=>decide (x∈ns)
theorem Zkb{n:Nat}(hn:n≤10){ns:List Int}(hl:ns.length<64)(h:∀x∈ns,0≤x∧x<n)(hne:ns≠[]){x:Nat}(hx:x<n)(hx':(x:Int)∉ns):Told Wc [.int n,Zq ns] (Zq (ctO n ns)):=by
 have l1:¬((ns.length:Int)=0):=λz=>hne (List.eq_nil_of_length_eq_zero (by omega))
 have l2:¬(((sdI n λx=>!decide (x∈ns)).length:Int)=0):=λz=>by
  have e:=List.eq_nil_of_length_eq_zero (l:=sdI n λx=>!decide (x∈ns)) (by omega)
  have m:(x:Int)∈sdI n λx=>!decide (x∈ns):=Zgb.mpr ⟨by omega,by omega,by rw[decide_eq_false hx'];rfl⟩
  rw[e]at m
  cases m
 have t:∀{b:Bool},decide ((0:Int)∈ns)=b->EvT (tV (Zf (Zk5 false) (fC (.int 0)) (Zd 1))) [some (.fz (.int n)),some (.fz (Zq ns)),some (.fz (Zq (sdI n λx=>!decide (x∈ns))))] b:=λhb=>hb▸Zb0 (Zn Z2 Za (Zcf false 0 ns))
 refine Wg rfl<|Wk (Ye3 (d:=.none) (Zb Za (Zb Za Zi)) (Told.of (Z23 λx m=>by unfold inR;rw[decide_eq_true (h x m).1,decide_eq_true (h x m).2];rfl) (OT.data_fz _)) λo _=>Zt7 _ _)<|Wk (Z6 (Z1i hn rfl rfl))<|Wk (Jb (Z1h (Zb0 (Zl4 (Zbk Za) Z2 (decide_eq_false l1))) (Zb0 (Zl4 (Zbk Za) Z2 (decide_eq_false l2)))) rfl) ?_
 unfold ctO
 by_cases z:(0:Int)∈ns
 ·rw[if_pos z]
  exact Zv0 (Zzd (t (decide_eq_true z)) (Za6 Za))
 ·rw[if_neg z,←Zrp h]
  exact Wk (Jb (t (decide_eq_false z)) rfl) (Za6 (Zo2 rfl hl))
theorem Zv6{l m:List Rat}(h:l.Perm m):l.sum=m.sum:=by
 induction h with
 | nil=>rfl
 | cons x _ ih=>rw[VF,VF,ih]
 | swap x y l=>rw[VF,VF,VF,VF];grind
 | trans _ _ h1 h2=>exact h1.trans h2
theorem Z1b{L M:List (List Int×Rat)}(h:L.Perm M)(i j:Nat):Sm L i j=Sm M i j:=Zv6 ((h.filter _).map _)
theorem Zhn(L M:List (List Int×Rat))(i j:Nat):Sm (L ++ M) i j=Sm L i j+Sm M i j:=by
 unfold Sm
 rw[Uq,Xy,List.sum_append]
theorem Zqt{p q:List Int×Rat}(h:p.1=q.1)(i j:Nat):prt i j p=prt i j q:=by unfold prt sd;rw[h]
theorem Zp3(p:List Int×Rat)(i j:Nat):Sm [p] i j=if prt i j p then p.2 else 0:=by
 unfold Sm
 by_cases c:prt i j p=true
 ·rw[Us c,if_pos c];simp[Rat.add_zero]
 ·rw[Ut c,if_neg c];rfl
theorem Z0x{x p:List Int×Rat}(h:x.1=p.1)(i j:Nat):Sm [(p.1,x.2+p.2)] i j=Sm [x] i j+Sm [p] i j:=by
 rw[Zp3,Zp3,Zp3,Zqt h,Zqt (p:=(p.1,x.2+p.2)) (q:=p) rfl]
 by_cases c:prt i j p=true
 ·rw[if_pos c,if_pos c,if_pos c]
 ·rw[if_neg c,if_neg c,if_neg c,Rat.add_zero]
noncomputable def Wsm(k:Nat)(q:Rat):Prop:=∃M:List (List Int×Rat),(∀p∈M,Wt p.2)∧M.length≤k∧q=(M.map λp:List Int×Rat=>p.2).sum
theorem Wsm.wl{k:Nat}{q:Rat}(h:Wsm k q)(hk:k<64):Wl q:=by
 obtain⟨M,h1,h2,rfl⟩:=h
 exact Zxp M h1 (by omega)
theorem Wsm.up{k l:Nat}{q:Rat}(h:Wsm k q)(hk:k≤l):Wsm l q:=by
 obtain⟨M,h1,h2,e⟩:=h
 exact⟨M,h1,by omega,e⟩
theorem Wsm.add{k:Nat}{q:Rat}{p:List Int×Rat}(h:Wsm k q)(hp:Wt p.2):Wsm (k+1) (q+p.2):=by
 obtain⟨M,h1,h2,rfl⟩:=h
 refine⟨M ++ [p],λx hx=>(Xq.mp hx).elim (h1 x) λz=>by rw[Xj.mp z];exact hp,by rw[Qd];exact Bp h2,?_⟩
 rw[Xy,List.sum_append];simp[Rat.add_zero]
structure Mg(L1 F:List (List Int×Rat))(k:Nat):Prop where
 len:F.length≤k
 ws:∀p∈F,Wsm k p.2
 sm:∀i j,Sm F i j=Sm (L1.take k) i j
 to:∀p∈F,∃q∈L1,q.1=p.1
 fro:∀q∈L1.take k,∃p∈F,p.1=q.1
theorem Mg.app{L1 F:List (List Int×Rat)}{k:Nat}{p:List Int×Rat}(h:Mg L1 F k)(e:L1[k]? =some p)(hp:Wt p.2):Mg L1 (F ++ [p]) (k+1):=by
 have et:L1.take (k+1)=L1.take k ++ [p]:=by rw[Bv,e];rfl
 have w1:Wsm (k+1) p.2:=⟨[p],λx hx=>by rw[Xj.mp hx];exact hp,by rw[List.length_singleton];omega,by simp[Rat.add_zero]⟩
 refine⟨by rw[Qd];exact Bp h.len,λx hx=>(Xq.mp hx).elim (λz=>(h.ws x z).up (Nat.le_succ k)) λz=>by rw[Xj.mp z];exact w1,λi j=>by rw[et,Zhn,Zhn,h.sm],λx hx=>(Xq.mp hx).elim (h.to x) λz=>by rw[Xj.mp z];exact⟨p,Qo e,rfl⟩,λq hq=>?_⟩
 rw[et]at hq
 rcases Xq.mp hq with z|z
 ·obtain⟨y,hy,e⟩:=h.fro q z
  exact⟨y,Xq.mpr (.inl hy),e⟩
 ·rw[Xj.mp z]
  exact⟨p,Xq.mpr (.inr (.head _)),rfl⟩
theorem Mg.join{L1 F:List (List Int×Rat)}{k:Nat}{x p:List Int×Rat}(h:Mg L1 (F ++ [x]) k)(e:L1[k]? =some p)(hp:Wt p.2)(hx:x.1=p.1):Mg L1 (F ++ [(p.1,x.2+p.2)]) (k+1):=by
 have et:L1.take (k+1)=L1.take k ++ [p]:=by rw[Bv,e];rfl
 refine⟨?_,λy hy=>(Xq.mp hy).elim (λz=>(h.ws y (Xq.mpr (.inl z))).up (Nat.le_succ k)) λz=>by rw[Xj.mp z];exact(h.ws x (Xq.mpr (.inr (.head _)))).add hp,λi j=>?_,λy hy=>(Xq.mp hy).elim (λz=>h.to y (Xq.mpr (.inl z))) λz=>by rw[Xj.mp z];exact⟨p,Qo e,rfl⟩,λq hq=>?_⟩
 ·have:=h.len
  rw[Qd]at this⊢
  exact VB this
 ·have:=h.sm i j
  rw[Zhn]at this
  rw[et,Zhn,Zhn,Z0x hx,←Rat.add_assoc,this]
 ·rw[et]at hq
  rcases Xq.mp hq with z|z
  ·obtain⟨y,hy,e⟩:=h.fro q z
   rcases Xq.mp hy with w|w
   ·exact⟨y,Xq.mpr (.inl w),e⟩
   ·refine⟨(p.1,x.2+p.2),Xq.mpr (.inr (.head _)),?_⟩
    rw[←e,Xj.mp w,hx]
  ·rw[Xj.mp z]
   exact⟨(p.1,x.2+p.2),Xq.mpr (.inr (.head _)),rfl⟩
theorem Zr0{e:FE}{δ:Zh}{d:Xa}(h:EvV e δ d)(hf:Za3 d=true):EvV (Zmg e) δ d:=by
 obtain⟨_,e1,d1⟩:=h
 exact⟨_,by rw[Zub,e1,Xh,d1,if_pos hf],OT.data_fz _⟩
theorem Z1n(L:List (List Int×Rat)):gNe (Z9 L) (.list [])=some (.bool (!decide (L=[]))):=by
 have:=Zs7 L
 unfold gEq at this
 unfold gNe
 have s:BX (Z9 L)=true:=((Znx L).shp (by omega)).ok
 have t:BX (.list [])=true:=((Znx []).shp (by omega)).ok
 rw[if_pos (by rw[s,t];rfl)]at this⊢
 injection this with this
 injection this with this
 rw[this]
theorem Zvz{α:Type}(A:List α)(a b:α):(A ++ [a]).set A.length b=A ++ [b]:=by
 induction A with
 | nil=>rfl
 | cons x A ih=>exact congrArg (x :: ·) ih
theorem Ztm(L:List (List Int×Rat))(h:L.length<64)(hw:∀p∈L,Wt p.2):∃L':List (List Int×Rat),Told Wx [Z9 L] (Z9 L')∧L'.length<64∧(∀p∈L',Wl p.2)∧(∀i j,Sm L' i j=Sm L i j)∧(∀p∈L',∃q∈L,q.1=p.1)∧∀q∈L,∃p∈L',p.1=q.1:=by
 obtain⟨L1,eS,pm⟩:=Zez L h
 have hl:=pm.length_eq
 have key:∃d,Told Wx [Z9 L] d∧∃L':List (List Int×Rat),d=Z9 L'∧Mg L1 L' L1.length:=by
  refine Zzx rfl<|Zmr Zgn<|Zrk (ds:=L1.map ctD) (λi δ=>∃(F:List (List Int×Rat)) (z2 z3:Option OT),δ=[some (.fz (Z9 L)),some (Zhh F),z2,z3]∧Mg L1 F i) (Jr (Zvt (Zb Za Zi) eS (by rw[OT.data_nd,OT.map_fz]))) ⟨[],none,none,rfl,Qp _,(λ_ m=>nomatch m),λ_ _=>rfl,(λ_ m=>nomatch m),λ_ m=>by rw[List.take_zero]at m;cases m⟩ (λi d δ hd q=>?_) λδ' q=>?_
  ·obtain⟨F,z2,z3,rfl,g⟩:=q
   rw[Xl]at hd
   obtain⟨p,hp,rfl⟩:=Vl.mp hd
   have hi:=(Xo.mp hp).1
   have hp2:Wt p.2:=hw p (pm.mem_iff.mp (Qo hp))
   have app:(Yp 1 (Zdt (Zc (Zd 2) (Zc (Zd 3) Zm)))) [some (.fz (Z9 L)),some (Zhh F),some (.fz (Zq p.1)),some (.fz (frD p.2))]= .nx [some (.fz (Z9 L)),some (Zhh (F ++ [p])),some (.fz (Zq p.1)),some (.fz (frD p.2))]:=by
    have:=g.len
    rw[Zfk (ts:=(F.map ctD).map OT.fz) (d:=ctD p) (Zb8 (Zb Za (Zb Za Zi)) (show 2≤1000 by decide)) rfl (by rw[Xe,Xe];omega)]
    unfold Zhh
    rw[Xy,Xy];rfl
   have tE:∀{b:Bool},(!decide (F=[]))=b->EvT (tV (Zf gNe (Zef 1) (Zcb Zm))) [some (.fz (Z9 L)),some (Zhh F),some (.fz (Zq p.1)),some (.fz (frD p.2))] b:=λhb=>hb▸Zb0 (Zn (Zed rfl (W4 F)) (Zfd Zi (show 0≤1000 by decide)) (Z1n F))
   by_cases c:F=[]
   ·exact⟨_,_,rfl,.inl (Jb (Zja (tE (by rw[decide_eq_true c];rfl))) app),F ++ [p],_,_,rfl,g.app hp hp2⟩
   ·obtain⟨F0,x,rfl⟩:∃F0 x,F=F0 ++ [x]:=⟨F.dropLast,F.getLast c,(List.dropLast_concat_getLast c).symm⟩
    have eL:gIx (Z9 (F0 ++ [x])) (.int (-1))=some (.fz (ctD x)):=by
     unfold Z9
     rw[Zme,Xy,Qu,VM,Zng];rfl
    have tN:∀{b:Bool},decide (x.1=p.1)=b->EvT (tV (Zf gEq (Yk gIx (Yk gIx (Zef 1) (fUn Ztv (fC (.int 1)))) (fC (.int 0))) (Zd 2))) [some (.fz (Z9 L)),some (Zhh (F0 ++ [x])),some (.fz (Zq p.1)),some (.fz (frD p.2))] b:=λhb=>hb▸Zb0 (Zn (Wh (Wh (Zed rfl (W4 _)) (Zjj Z2) eL) Z2 (d:=Zq x.1) rfl) Za (Zt5 _ _))
    have t1:=tE (b:=true) (by rw[decide_eq_false c];rfl)
    by_cases c2:x.1=p.1
    ·refine⟨_,_,rfl,.inl (Zdo (Zqz t1 (tN (decide_eq_true c2))) (Zmt (ts:=((F0 ++ [x]).map ctD).map OT.fz) (n:=F0.length) (k:=-1) (d:=ctD (p.1,x.2+p.2)) (Zb8 (Zb Za (Zb (Zv (Zb (Zr0 (Wh (Wh (Zed rfl (W4 _)) (Zjj Z2) eL) Z2 (d:=frD x.2) rfl) rfl) (Zb Za Zi)) (Zl7 ((g.ws x (Xq.mpr (.inr (.head _)))).wl (by omega)) hp2.wl)) Zi)) (show 2≤1000 by decide)) rfl (Zjj Z2) ?_)),F0 ++ [(p.1,x.2+p.2)],some (.fz (Zq p.1)),some (.fz (frD p.2)),?_,g.join hp hp2 c2⟩
     ·rw[Xe,Xe,Qd,List.length_singleton]
      unfold ixN
      rw[if_neg (by decide),if_pos (by omega)]
      exact congrArg some (by omega)
     ·refine congrArg (λz:OT=>[some (OT.fz (Z9 L)),some z,some (OT.fz (Zq p.1)),some (OT.fz (frD p.2))]) ?_
      unfold Zhh
      refine congrArg OT.nd ?_
      have e:=Zvz ((F0.map ctD).map OT.fz) (OT.fz (ctD x)) (OT.fz (ctD (p.1,x.2+p.2)))
      rw[Xe,Xe]at e
      rw[Xy,Xy,Xy,Xy]
      exact e
    ·exact⟨_,_,rfl,.inl (Jb (Zqz t1 (tN (decide_eq_false c2))) app),F0 ++ [x] ++ [p],_,_,rfl,g.app hp hp2⟩
  ·obtain⟨F,z2,z3,rfl,g⟩:=q
   rw[Xe]at g
   exact Yco rfl ⟨F,W4 F,g⟩
 obtain⟨d,h1,L',rfl,g⟩:=key
 have gl:=g.len
 have gs:=g.sm
 have gf:=g.fro
 rw[BW]at gs gf
 exact⟨L',h1,by omega,λp hp=>(g.ws p hp).wl (by omega),λi j=>(gs i j).trans (Z1b pm i j),λp hp=>(g.to p hp).imp λq z=>⟨pm.mem_iff.mp z.1,z.2⟩,λq hq=>gf q (pm.mem_iff.mpr hq)⟩
theorem Zqp{α:Type}{caps:List Nat}{it:FI}{me:FE}{t:FT}{g:FG}{δ cs:Zh}(xs:List α)(mk a b f:α->Xa)(pr:α->Bool)(hi:EvI it δ (xs.map mk))(hz:xs.length≤1000000)(hb:blk 2 caps δ=none :: none :: cs)(hg:∀x∈xs,∀z0 z1,g (mk x) (z0 :: z1 :: cs)=some (some (.fz (a x)) :: some (.fz (b x)) :: cs))(ht:∀x∈xs,EvT t (some (.fz (a x)) :: some (.fz (b x)) :: cs) (pr x))(h:∀x∈xs,EvV me (some (.fz (a x)) :: some (.fz (b x)) :: cs) (f x)):EvV (Y6 2 caps it g t me) δ (.list ((xs.filter pr).map f)):=by
 obtain⟨ts,δ',e1,z0,z1,rfl,e2⟩:=Zuq (t:=t) (e:=me) (g:=g) (δ:=none :: none :: cs)
  (λk acc δ=>∃z0 z1,δ=z0 :: z1 :: cs∧acc=((xs.take k).filter pr).map f) (xs.map mk) 0 [] ⟨none,none,rfl,rfl⟩ (λk d acc δ hd q=>by
   obtain⟨z0,z1,rfl,rfl⟩:=q
   rw[Vd]at*
   rw[Xl]at hd
   obtain⟨x,hx,rfl⟩:=Vl.mp hd
   have m:=Qo hx
   have et:xs.take (k+1)=xs.take k ++ [x]:=by rw[Bv,hx];rfl
   refine⟨_,hg x m z0 z1,W6 (ht x m) ⟨λc=>Yb (h x m) ⟨_,_,rfl,?_⟩,λc=>⟨_,_,rfl,?_⟩⟩⟩
   ·rw[et,Uq,Us c,List.filter_nil,Xy];rfl
   ·rw[et,Uq,Ut (by rw[c];decide),List.filter_nil,QS])
 rw[Vd,Xe,BW,Uj]at e2
 refine⟨.nd ts,?_,by rw[OT.data_nd,e2]⟩
 unfold EvI at hi
 unfold Y6
 rw[hi]
 show(if(xs.map mk).length≤Xr then _ else none)=_
 rw[if_pos (by rw[Xe,Qh];omega),hb,e1];rfl
noncomputable def plc(n A to:Nat)(k:Nat):Nat:=if k=to then A else if to<k then n+k-1 else n+k
noncomputable def Z19(n A to m:Nat):List Int:=(Xk m).map λk=>(plc n A to k:Int)
theorem Zt2{n A to m k:Nat}(h:k<m):gIx (Zq (Z19 n A to m)) (.int k)=some (.fz (.int (plc n A to k))):=by
 unfold Zq Z19
 rw[Zme,Zm4,Xl,Xl,Be h];rfl
noncomputable def sdA(n A to m:Nat)(c:List Int):List Int:=c ++ ((Xk m).filter λk=>!decide (k=to)&&decide ((A:Int)∈c)).map λk=>(plc n A to k:Int)
noncomputable def sdB(n A to m:Nat)(c:List Int):List Int:=(c.map λk=>(plc n A to k.toNat:Int)) ++ ((Xk n).filter λx=>!decide (x=A)&&decide ((to:Int)∈c)).map λx:Nat=>(x:Int)
noncomputable def mvA(n A to m:Nat)(p:List Int×Rat):List Int×Rat:=(ctO (n+m-1) (sdA n A to m p.1),p.2)
noncomputable def mvB(n A to m:Nat)(p:List Int×Rat):List Int×Rat:=(ctO (n+m-1) (sdB n A to m p.1),p.2)
noncomputable def sh1(n A:Nat)(x:Nat):Nat:=if x<n then x else A
noncomputable def sh2(n to:Nat)(x:Nat):Nat:=if x<n then to else if x-n<to then x-n else x-n+1
set_option synthInstance.maxHeartbeats 400000 in
set_option synthInstance.maxSize 4000 in
theorem Z15:∀n<7,∀m<6,∀A<n,∀to<m,(∀k<m,k≠to->n≤plc n A to k∧plc n A to k<n+m-1∧sh2 n to (plc n A to k)=k)∧(∀x<n+m-1,n≤x->sh2 n to x<m∧sh2 n to x≠to∧plc n A to (sh2 n to x)=x)∧A<n+m-1∧0<n+m-1∧n≤n+m-1:=by decide +kernel
structure Sz(n A to m:Nat):Prop where
 sn:n<7
 sm:m<6
 sa:A<n
 st:to<m
theorem Sz.fin{n A to m:Nat}(h:Sz n A to m):(∀k<m,k≠to->n≤plc n A to k∧plc n A to k<n+m-1∧sh2 n to (plc n A to k)=k)∧(∀x<n+m-1,n≤x->sh2 n to x<m∧sh2 n to x≠to∧plc n A to (sh2 n to x)=x)∧A<n+m-1∧0<n+m-1∧n≤n+m-1:=Z15 n h.sn m h.sm A h.sa to h.st
theorem Zfy{a b:Nat}(h:(a:Int)=(b:Int)):a=b:=Int.ofNat.inj h
theorem Zhr{α:Type}{p q:α->Bool}{l:List α}{x:α}(h:x∈l.filter λx=>!p x&&q x):x∈l∧p x=false∧q x=true:=by
 obtain⟨h1,h2⟩:=BJ.mp h
 rw[XM,Bool.not_eq_true']at h2
 exact⟨h1,h2⟩
theorem Zwy{α:Type}{p q:α->Bool}{l:List α}{x:α}(h:x∈l)(h1:p x=false)(h2:q x=true):x∈l.filter λx=>!p x&&q x :=
 BJ.mpr ⟨h,by rw[h1,h2];rfl⟩
theorem Yb4{n A to m:Nat}(z:Sz n A to m){c:List Int}(hc:∀x∈c,1≤x∧x<n){x:Nat}(hx:x<n+m-1):((x:Int)∈sdA n A to m c)↔((sh1 n A x:Int)∈c):=by
 obtain⟨f1,f2,_⟩:=z.fin
 unfold sdA sh1
 rw[Xq,XF]
 by_cases h:x<n
 ·rw[if_pos h]
  refine⟨λz=>z.elim id ?_,.inl⟩
  rintro⟨k,hk,e⟩
  obtain⟨h1,h2,_⟩:=Zhr hk
  have:=(f1 k (Qt.mp h1) (of_decide_eq_false h2)).1
  rw[Zfy e]at this
  exact absurd h (Nat.not_lt.mpr this)
 ·rw[if_neg h]
  constructor
  ·rintro(z|⟨k,hk,e⟩)
   ·exact absurd (UG.mp (hc _ z).2) h
   ·exact of_decide_eq_true (Zhr hk).2.2
  ·intro z
   obtain⟨g1,g2,g3⟩:=f2 x hx (Nat.not_lt.mp h)
   exact .inr ⟨_,Zwy (Qt.mpr g1) (decide_eq_false g2) (decide_eq_true z),by rw[g3]⟩
theorem Ybm{n A to m:Nat}(z:Sz n A to m){c:List Int}(hc:∀x∈c,1≤x∧x<m){x:Nat}(hx:x<n+m-1):((x:Int)∈sdB n A to m c)↔((sh2 n to x:Int)∈c):=by
 obtain⟨f1,f2,_⟩:=z.fin
 unfold sdB
 rw[Xq,XF,XF]
 have tn:∀{k:Int},k∈c->∃j:Nat,k=(j:Int)∧j<m:=fun{k} hk=>by
  have:=hc k hk
  exact⟨k.toNat,by omega,by omega⟩
 have pt:plc n A to to=A:=by unfold plc;rw[if_pos rfl]
 by_cases h:x<n
 ·have e2:sh2 n to x=to:=by unfold sh2;rw[if_pos h]
  rw[e2]
  constructor
  ·rintro(⟨k,hk,e⟩|⟨k,hk,e⟩)
   ·obtain⟨j,rfl,hj⟩:=tn hk
    rw[QL]at e
    by_cases c1:j=to
    ·rw[←c1];exact hk
    ·have:=(f1 j hj c1).1
     rw[Zfy e]at this
     exact absurd h (Nat.not_lt.mpr this)
   ·exact of_decide_eq_true (Zhr hk).2.2
  ·intro z
   by_cases c1:x=A
   ·exact .inl ⟨(to:Int),z,by rw[QL,pt,c1]⟩
   ·exact .inr ⟨x,Zwy (Qt.mpr h) (decide_eq_false c1) (decide_eq_true z),rfl⟩
 ·obtain⟨g1,g2,g3⟩:=f2 x hx (Nat.not_lt.mp h)
  constructor
  ·rintro(⟨k,hk,e⟩|⟨k,hk,e⟩)
   ·obtain⟨j,rfl,hj⟩:=tn hk
    rw[QL]at e
    have e:=Zfy e
    by_cases c1:j=to
    ·rw[c1,pt]at e
     exact absurd (e▸z.sa) h
    ·rw[←e,(f1 j hj c1).2.2];exact hk
   ·have e:=Zfy e
    exact absurd (e▸Qt.mp (Zhr hk).1) h
  ·exact λz=>.inl ⟨_,z,by rw[QL,g3]⟩
theorem rgA{n A to m:Nat}(z:Sz n A to m){c:List Int}(hc:∀x∈c,1≤x∧x<n):∀x∈sdA n A to m c,0≤x∧x<((n+m-1:Nat):Int):=λx hx=>by
 obtain⟨f1,_,_,_,f5⟩:=z.fin
 rcases Xq.mp hx with z|z
 ·exact⟨Vf (by decide) (hc x z).1,Int.lt_of_lt_of_le (hc x z).2 (Int.ofNat_le.mpr f5)⟩
 ·obtain⟨k,hk,rfl⟩:=XF.mp z
  obtain⟨h1,h2,_⟩:=Zhr hk
  exact⟨Vw _,UG.mpr (f1 k (Qt.mp h1) (of_decide_eq_false h2)).2.1⟩
theorem rgB{n A to m:Nat}(z:Sz n A to m){c:List Int}(hc:∀x∈c,1≤x∧x<m):∀x∈sdB n A to m c,0≤x∧x<((n+m-1:Nat):Int):=λx hx=>by
 obtain⟨f1,_,f3,_,f5⟩:=z.fin
 rcases Xq.mp hx with z|z
 ·obtain⟨k,hk,rfl⟩:=XF.mp z
  have:=hc k hk
  refine⟨Vw _,UG.mpr ?_⟩
  by_cases c1:k.toNat=to
  ·unfold plc
   rw[if_pos c1];exact f3
  ·exact(f1 k.toNat (by omega) c1).2.1
 ·obtain⟨k,hk,rfl⟩:=XF.mp z
  exact⟨Vw _,UG.mpr (X4 (Qt.mp (Zhr hk).1) f5)⟩
theorem Zm8{n:Nat}{c:List Int}(nd:c.Nodup)(hc:∀x∈c,1≤x∧x<n):c.length≤n:=by
 have pm:c.Perm (sdI n λx=>decide (x∈c)):=(V8 nd ((Zeo n _).imp λh e=>by omega)).mpr λx=>by
  rw[Zgb,decide_eq_true_eq]
  exact⟨λm=>⟨by have:=hc x m;omega,(hc x m).2,m⟩,λm=>m.2.2⟩
 rw[pm.length_eq]
 unfold sdI
 rw[Xe]
 exact Xz (Vu ..) (Nat.le_of_eq Xw)
theorem Zsg(n A to m:Nat):Zip ((Z19 n A to m).map Xm)=(Xk m).map λk:Nat=>PyData.tuple [.int k,.int (plc n A to k)]:=by
 refine List.ext_getElem? λi=>?_
 unfold Zip Z19
 rw[Xl,List.getElem?_zipIdx,Xl,Xl,Xl]
 by_cases c:i<m
 ·rw[Be c,Vd];rfl
 ·rw[QZ (by rw[Xw];omega)];rfl
noncomputable def plO(n A to m:Nat):OT:=.nd (((Z19 n A to m).map Xm).map OT.fz)
theorem Znb(n A to m:Nat):(plO n A to m).data=Zq (Z19 n A to m):=Zli _
noncomputable def sE(L M:List (List Int×Rat))(n A to m:Nat)(z6 z7 z8 z9 z10 z11:Option OT):Zh:=[some (.fz (Z9 L)),some (.fz (.int A)),some (.fz (.int n)),some (.fz (Z9 M)),some (.fz (.int to)),some (.fz (.int m)),z6,z7,z8,z9,z10,z11]
section
variable {L M:List (List Int×Rat)}{n A to m:Nat}{z7 z8 z9 z10 z11:Option OT}
theorem Zp9(hm:m≤10)(ht:to<m):Z0 (wE (Y6 1 [2,4] (iRa (Zc (Zd 5) Zm)) (gNm 0) Zee (Zf gSb (Zf Zde (Zd 1) (Zd 0)) (Zdk Zxd (Zc (Zf gGt (Zd 0) (Zd 2)) Zm)))) (Za1 6)) (Zu5 6 (Zd 1) (Zd 4)) (sE L M n A to m none z7 z8 z9 z10 z11)= .nx (sE L M n A to m (some (plO n A to m)) z7 z8 z9 z10 z11):=by
 have e0:(Y6 1 [2,4] (iRa (Zc (Zd 5) Zm)) (gNm 0) Zee (Zf gSb (Zf Zde (Zd 1) (Zd 0)) (Zdk Zxd (Zc (Zf gGt (Zd 0) (Zd 2)) Zm)))) (sE L M n A to m none z7 z8 z9 z10 z11)=some (.nd ((Xk m).map λk:Nat=>.fz (.int ((n:Int)+(0+(k:Int))-(if decide ((to:Int)<0+(k:Int))=true then 1 else 0)))),sE L M n A to m none z7 z8 z9 z10 z11):=by
  rw[Zil (cs:=[some (.fz (.int n)),some (.fz (.int to))]) (Xk m) (λi:Nat=>Xm (0+(i:Int))) (λk:Nat=>.fz (.int ((n:Int)+(0+(k:Int))-(if decide ((to:Int)<0+(k:Int))=true then 1 else 0)))) (Zjs (Zb Za Zi) (by omega)) (by rw[Xw,Qh];omega) rfl λx _=>Zg3 (Zne (Zc4 Za Za) (Zdy (Zb (Zy5 Za Za rfl) Zi) (Z5n _)))]
 refine Wn (Zlj e0) ?_
 have hp:=Zmt (i:=6) (δ:=sE L M n A to m (some (.nd ((Xk m).map λk:Nat=>.fz (.int ((n:Int)+(0+(k:Int))-(if decide ((to:Int)<0+(k:Int))=true then 1 else 0)))))) z7 z8 z9 z10 z11) (n:=to) (e:=Zd 1) (j:=Zd 4) (d:=.int A) (k:=to) Za rfl Za (Zrd (by rw[Xe,Xw];exact ht))
 refine hp.trans (congrArg (λz:OT=>RS.nx (sE L M n A to m (some z) z7 z8 z9 z10 z11)) ?_)
 unfold plO Z19
 rw[Zgz,Qs,Qs]
 refine congrArg OT.nd (X7 λk _=>?_)
 show _=OT.fz (.int (plc n A to k:Int))
 unfold plc
 by_cases c:k=to
 ·rw[if_pos c,if_pos c]
 ·rw[if_neg c,if_neg c]
  refine congrArg (λz=>OT.fz (.int z)) ?_
  by_cases c2:to<k
  ·rw[if_pos c2,if_pos (decide_eq_true (by omega))];omega
  ·rw[if_neg c2,if_neg (by rw[decide_eq_true_eq];omega)];omega
theorem Zvg(hm:m≤10){c:List Int}(hl:c.length≤10):EvV (Yk Znw (Zd 8) (Y6 2 [4,1,8] (Zoj (Zc (Zef 6) Zm)) (gTp 2 (gCn (Zvh 0) (gCn (Zvh 1) gNl))) (tAn (tV (Zf gNe (Zd 0) (Zd 2))) (tV (Zf (Zk5 false) (Zd 3) (Zd 4)))) (Zd 1))) (sE L M n A to m (some (plO n A to m)) z7 (some (.fz (Zq c))) z9 z10 z11) (Zq (sdA n A to m c)):=by
 have h:=Zqp (δ:=sE L M n A to m (some (plO n A to m)) z7 (some (.fz (Zq c))) z9 z10 z11) (caps:=[4,1,8]) (it:=Zoj (Zc (Zef 6) Zm)) (g:=gTp 2 (gCn (Zvh 0) (gCn (Zvh 1) gNl))) (t:=tAn (tV (Zf gNe (Zd 0) (Zd 2))) (tV (Zf (Zk5 false) (Zd 3) (Zd 4)))) (me:=Zd 1) (cs:=[some (.fz (.int to)),some (.fz (.int A)),some (.fz (Zq c))]) (Xk m) (λk:Nat=>PyData.tuple [.int k,.int (plc n A to k)]) (λk:Nat=>.int k) (λk=>.int (plc n A to k)) (λk=>.int (plc n A to k)) (λk=>!decide (k=to)&&decide ((A:Int)∈c)) (by rw[←Zsg];exact Zyo (Zed rfl (Znb n A to m))) (by rw[Xw];omega) rfl (λk _ z0 z1=>rfl) (λk _=>by
  by_cases e:k=to
  ·rw[decide_eq_true e]
   exact Zja (Zb0 (Zju Za Za (by rw[decide_eq_true (by omega)];rfl)))
  ·rw[decide_eq_false e]
   exact Zqz (Zb0 (Zju Za Za (by rw[decide_eq_false (by omega)];rfl))) (Zb0 (Zn Za Za (Zcf false _ _)))) λk _=>Za
 refine(Znn (ds:=c.map Xm) Za h ?_).cast ?_
 ·rw[Xe,Xe]
  have:=Vu (λk=>!decide (k=to)&&decide ((A:Int)∈c)) (Xk m)
  rw[Xw]at this
  omega
 ·unfold Zq sdA
  rw[Xy,Qs];rfl
theorem Zwd(hn:n≤10){c:List Int}(hl:c.length≤10)(hc:∀x∈c,1≤x∧x<m):EvV (Yk Znw (Y6 1 [6] (Zc9 (Zd 8)) (gNm 0) Zee (Zmg (Yk gIx (Zef 1) (Zd 0)))) (Y6 1 [1,4,8] (iRa (Zc (Zd 2) Zm)) (gNm 0) (tAn (tV (Zf gNe (Zd 0) (Zd 1))) (tV (Zf (Zk5 false) (Zd 2) (Zd 3)))) (Zd 0))) (sE L M n A to m (some (plO n A to m)) z7 (some (.fz (Zq c))) z9 z10 z11) (Zq (sdB n A to m c)):=by
 have h1:=Zcl (δ:=sE L M n A to m (some (plO n A to m)) z7 (some (.fz (Zq c))) z9 z10 z11) (caps:=[6]) (it:=Zc9 (Zd 8)) (me:=Zmg (Yk gIx (Zef 1) (Zd 0))) (cs:=[some (plO n A to m)]) c Xm (λk=>.int (plc n A to k.toNat)) (Jr Za) (by omega) rfl λk hk=>by
  have:=hc k hk
  have e:k=((k.toNat:Nat):Int):=by omega
  have g:=Zt2 (n:=n) (A:=A) (to:=to) (m:=m) (k:=k.toNat) (by omega)
  rw[←e]at g
  exact Zr0 (Wh (Zed rfl (Znb n A to m)) Za g) rfl
 have e0:(λi:Nat=>Xm (0+(i:Int)))= λi:Nat=>Xm (i:Int):=funext λi=>by rw[Int.zero_add]
 have hi:EvI (iRa (Zc (Zd 2) Zm)) (sE L M n A to m (some (plO n A to m)) z7 (some (.fz (Zq c))) z9 z10 z11) ((Xk n).map λi:Nat=>Xm (0+(i:Int))):=Zjs (Zb Za Zi) (by omega)
 rw[e0]at hi
 have h2:=Zin (caps:=[1,4,8]) (t:=tAn (tV (Zf gNe (Zd 0) (Zd 1))) (tV (Zf (Zk5 false) (Zd 2) (Zd 3)))) (me:=Zd 0) (cs:=[some (.fz (.int A)),some (.fz (.int to)),some (.fz (Zq c))]) (Xk n) (λi:Nat=>Xm (i:Int)) (λx=>!decide (x=A)&&decide ((to:Int)∈c)) hi (by rw[Xw];omega) rfl (λk _=>by
  by_cases e:k=A
  ·rw[decide_eq_true e]
   exact Zja (Zb0 (Zju Za Za (by rw[decide_eq_true (by omega)];rfl)))
  ·rw[decide_eq_false e]
   exact Zqz (Zb0 (Zju Za Za (by rw[decide_eq_false (by omega)];rfl))) (Zb0 (Zn Za Za (Zcf false _ _)))) λi _ _=>rfl
 refine(Znn h1 h2 ?_).cast ?_
 ·rw[Xe,Xe]
  have:=Vu (λx=>!decide (x=A)&&decide ((to:Int)∈c)) (Xk n)
  rw[Xw]at this
  omega
 ·unfold Zq sdB
  rw[Xy,Qs,Qs];rfl
theorem wle{n m:Nat}(hn:n≤6)(hm:m≤5):n+m-1≤10:=by omega
theorem Ydd{p:Nat->Bool}{k:Nat}:((Xk k).filter p).length≤k:=by
 have:=Vu p (Xk k)
 rwa[Xw]at this
theorem bnd{a b c d:Nat}(h:a≤c)(h1:c≤6)(k:b≤d)(k1:d≤6):a+b<64:=by omega
theorem Z10{p:List Int×Rat}(z:Sz n A to m)(hp:Zex n p):Told Wc [.int ((n+m-1:Nat):Int),Zq (sdA n A to m p.1)] (Zq (mvA n A to m p).1):=by
 obtain⟨_,_,_,f4,f5⟩:=z.fin
 obtain⟨x,hx⟩:=List.exists_mem_of_ne_nil _ hp.ne
 have hm:=Nat.le_of_lt_succ z.sm
 have hn:=Nat.le_of_lt_succ z.sn
 refine Zkb (wle hn hm) ?_ (rgA z hp.rg) (λe=>?_) (x:=0) f4 λe=>?_
 ·unfold sdA
  rw[Qd,Xe]
  exact bnd (Zm8 hp.nd hp.rg) hn Ydd (VB hm)
 ·have:=Xq.mpr (.inl hx:_∨x∈((Xk m).filter λk=>!decide (k=to)&&decide ((A:Int)∈p.1)).map λk=>(plc n A to k:Int))
  exact nomatch(e▸this:x∈([]:List Int))
 ·have:=(Yb4 z hp.rg (x:=0) f4).mp e
  unfold sh1 at this
  rw[if_pos (JW (QC _) z.sa)]at this
  exact absurd (hp.rg _ this).1 (by decide)
theorem Zyr{p:List Int×Rat}(z:Sz n A to m)(hp:Zex m p):Told Wc [.int ((n+m-1:Nat):Int),Zq (sdB n A to m p.1)] (Zq (mvB n A to m p).1):=by
 obtain⟨f1,f2,_,f4,f5⟩:=z.fin
 obtain⟨x,hx⟩:=List.exists_mem_of_ne_nil _ hp.ne
 have hm:=Nat.le_of_lt_succ z.sm
 have hn:=Nat.le_of_lt_succ z.sn
 have m0:0<m:=JW (QC _) z.st
 obtain⟨y,hy,ey⟩:∃y,y<n+m-1∧sh2 n to y=0:=by
  by_cases c:0=to
  ·exact⟨0,f4,by unfold sh2;rw[if_pos (JW (QC _) z.sa),c]⟩
  ·exact⟨_,(f1 0 m0 c).2.1,(f1 0 m0 c).2.2⟩
 refine Zkb (wle hn hm) ?_ (rgB z hp.rg) (λe=>?_) (x:=y) hy λe=>?_
 ·unfold sdB
  rw[Qd,Xe,Xe]
  exact bnd (Zm8 hp.nd hp.rg) (VB hm) Ydd hn
 ·have:=Xq.mpr (.inl (XF.mpr ⟨x,hx,rfl⟩):(plc n A to x.toNat:Int)∈(p.1.map λk=>(plc n A to k.toNat:Int))∨_∈((Xk n).filter λx=>!decide (x=A)&&decide ((to:Int)∈p.1)).map λx:Nat=>(x:Int))
  exact nomatch(e▸this:(plc n A to x.toNat:Int)∈([]:List Int))
 ·have:=(Ybm z hp.rg hy).mp e
  rw[ey]at this
  exact absurd (hp.rg _ this).1 (by decide)
end
theorem Z0g{S T U:FS}{δ δ':Zh}{d:Xa}(h:Z0 S T δ= .nx δ')(k:Zk6 U δ' d):Zk6 (Z0 S (Z0 T U)) δ d:=by
 obtain⟨o,δ2,e,hd⟩:=k
 refine⟨o,δ2,?_,hd⟩
 have a:Z0 S (Z0 T U) δ=Z0 (Z0 S T) U δ:=by
  rw[Zbu,Zbu,Zbu]
  cases S δ<;>rfl
 rw[a,Zbu,h,Zm9,e]
theorem Z16(ds:List Xa){k:Nat}(h:k≤ds.length):cutD ds none (some (k:Int))=ds.take k:=by
 unfold cutD
 rw[HT.sIx_nat,HT.sIx_none,List.drop_zero,Nat.sub_zero,Nat.min_eq_left h]
theorem Zzn(ds:List Xa){k:Nat}(h:k≤ds.length):cutD ds (some (k:Int)) none=ds.drop k:=by
 unfold cutD
 rw[HT.sIx_nat,HT.sIx_none,Nat.min_eq_left h,Ux (by rw[VJ];exact Qp _)]
theorem whl{n A to m:Nat}(z:Sz n A to m):(n:Int)+m-1=((n+m-1:Nat):Int):=by
 have:=z.sa
 omega
theorem Zwb{L M:List (List Int×Rat)}{n A to m:Nat}(z:Sz n A to m)(hL:∀p∈L,Zex n p)(hM:∀p∈M,Zex m p)(lL:L.length≤30)(lM:M.length≤30):Told J9 [Z9 L,.int A,.int n,Z9 M,.int to,.int m] (.list [Z9 (L.map (mvA n A to m)),Z9 (M.map (mvB n A to m))]):=by
 have w:∀{z6 z7 z8 z9 z10 z11:Option OT},EvV (Zf gSb (Zf Zde (Zd 2) (Zd 5)) (fC (.int 1))) (sE L M n A to m z6 z7 z8 z9 z10 z11) (.int ((n+m-1:Nat):Int)):=(Zne (Zc4 Za Za) Z2).cast (congrArg Xm (whl z))
 have m10:m≤10:=Xz (VD z.sm) (by decide)
 have n10:n≤10:=Xz (VD z.sn) (by decide)
 have app:∀(F:List (List Int×Rat)) (p:List Int×Rat),Zhh (F ++ [p])= .nd ((F.map ctD).map OT.fz ++ [.fz (ctD p)]):=λF p=>by
  unfold Zhh
  rw[Xy,Xy];rfl
 refine Wg rfl<|Z0g (Zp9 (L:=L) (M:=M) (n:=n) (A:=A) (z7:=none) (z8:=none) (z9:=none) (z10:=none) (z11:=none) m10 z.st)<|Wk Zgn<|Zj8 (ds:=L.map ctD) (λk δ=>∃z8 z9 z10,δ=sE L M n A to m (some (plO n A to m)) (some (Zhh ((L.take k).map (mvA n A to m)))) z8 z9 z10 none) (Jr Za) ⟨none,none,none,rfl⟩ (λk d δ hd q=>?_) λδ' q=>?_
 ·obtain⟨z8,z9,z10,rfl⟩:=q
  rw[Xl]at hd
  obtain⟨p,hp,rfl⟩:=Vl.mp hd
  have cp:=hL p (Qo hp)
  have hl:=Zm8 cp.nd cp.rg
  have et:L.take (k+1)=L.take k ++ [p]:=by rw[Bv,hp];rfl
  refine⟨_,_,rfl,.inl (Wn (Z6 (Zvg (n:=n) (A:=A) (to:=to) (m:=m) (L:=L) (M:=M) m10 (Xz hl n10))) (Zfk (ts:=(((L.take k).map (mvA n A to m)).map ctD).map OT.fz) (d:=ctD (mvA n A to m p)) (Zb8 (Zb (Zv (Zb w (Zb Za Zi)) (Z10 z cp)) (Zb Za Zi)) (show 2≤1000 by decide)) rfl ?_)),some (.fz (Zq p.1)),some (.fz (frD p.2)),some (.fz (Zq (sdA n A to m p.1))),?_⟩
  ·rw[Xe,Xe,Xe]
   exact Xz (V9 ..) (Xz lL (by decide))
  ·rw[et,Xy,Qu,VM,app];rfl
 ·obtain⟨z8,z9,z10,rfl⟩:=q
  rw[Xe,BW]
  refine Wk (Z6 (Zjm (Zed rfl (W4 _))))<|Zj8 (ds:=M.map ctD) (λk δ=>∃z8 z9 z10,δ=sE L M n A to m (some (plO n A to m)) (some (Zhh (L.map (mvA n A to m) ++ (M.take k).map (mvB n A to m)))) z8 z9 z10 (some (.fz (.int ((L.map (mvA n A to m)).map ctD).length)))) (Jr Za) ⟨z8,z9,z10,by rw[List.take_zero,VM,QS];rfl⟩ (λk d δ hd q=>?_) λδ' q=>?_
  ·obtain⟨z8,z9,z10,rfl⟩:=q
   rw[Xl]at hd
   obtain⟨p,hp,rfl⟩:=Vl.mp hd
   have cp:=hM p (Qo hp)
   have hl:=Zm8 cp.nd cp.rg
   have et:M.take (k+1)=M.take k ++ [p]:=by rw[Bv,hp];rfl
   refine⟨_,_,rfl,.inl (Wn (Z6 (Zwd (n:=n) (A:=A) (to:=to) (m:=m) (L:=L) (M:=M) n10 (Xz hl m10) cp.rg)) (Zfk (ts:=((L.map (mvA n A to m) ++ (M.take k).map (mvB n A to m)).map ctD).map OT.fz) (d:=ctD (mvB n A to m p)) (Zb8 (Zb (Zv (Zb w (Zb Za Zi)) (Zyr z cp)) (Zb Za Zi)) (show 2≤1000 by decide)) rfl ?_)),some (.fz (Zq p.1)),some (.fz (frD p.2)),some (.fz (Zq (sdB n A to m p.1))),?_⟩
   ·rw[Xe,Xe,Qd,Xe,Xe]
    have:=V9 k M
    omega
   ·have e2:L.map (mvA n A to m) ++ (M.take (k+1)).map (mvB n A to m)=(L.map (mvA n A to m) ++ (M.take k).map (mvB n A to m)) ++ [mvB n A to m p]:=by rw[et,Xy,Vh];rfl
    rw[e2,app];rfl
  ·obtain⟨z8,z9,z10,rfl⟩:=q
   rw[Xe,BW]
   obtain⟨o,δ2,e,hd⟩:Zk6 (wE (Zcb (Zc (fSl (Zd 7) oN (oI (Zd 11))) (Zc (fSl (Zd 7) (oI (Zd 11)) oN) Zm))) J6) (sE L M n A to m (some (plO n A to m)) (some (.fz (Z9 (L.map (mvA n A to m) ++ M.map (mvB n A to m))))) z8 z9 z10 (some (.fz (.int ((L.map (mvA n A to m)).map ctD).length)))) (.list [Z9 (L.map (mvA n A to m)),Z9 (M.map (mvB n A to m))]):=by
    refine Za6 ((Zfd (Zb (Z4r Za Ybw (Yby Za)) (Zb (Z4r Za (Yby Za) Ybw) Zi)) (show 2≤1000 by decide)).cast ?_)
    have le:((L.map (mvA n A to m)).map ctD).length≤((L.map (mvA n A to m) ++ M.map (mvB n A to m)).map ctD).length:=by
     rw[Xy,Qd];exact Vs ..
    rw[Z16 _ le,Zzn _ le,Xy,List.take_left,List.drop_left];rfl
   exact⟨o,δ2,Zgh rfl (by rw[W4];exact e),hd⟩
noncomputable def frG(T:Nat->Nat->Rat):Nat->Nat->Xa:=λi j=>frD (T i j)
theorem Z6o(q:Rat):Sh 1 (frD q):=Zbg [q.num,(q.den:Int)]
theorem Zyq(n:Nat)(T:Nat->Nat->Rat):Sh 3 (Wq n (frG T)):=Zjb λd m=>by
 obtain⟨i,_,rfl⟩:=XF.mp m
 exact Zjb λd m=>by
  obtain⟨j,_,rfl⟩:=XF.mp m
  exact Z6o _
theorem Zo9(n:Nat)(T:Nat->Nat->Rat):Yu (Wq n (frG T))=true:=Zcz λd m=>by
 obtain⟨i,_,rfl⟩:=XF.mp m
 exact Zcz λd m=>by
  obtain⟨j,_,rfl⟩:=XF.mp m
  rfl
noncomputable def hgT(n A to:Nat)(S T:Nat->Nat->Rat):Nat->Nat->Rat:=λx y=>S (sh1 n A x) (sh1 n A y)+T (sh2 n to x) (sh2 n to y)
noncomputable def bhd(m to:Nat):List Nat:=(Xk m).filter λb=>!decide (b=to)
theorem Zq0:∀m<6,∀to<m,bhd m to=(Xk (m-1)).map λk=>sh2 0 to k:=by decide
theorem Zo0{f g:Int->Int->Bool}{a b c:FE}{δ:Zh}{i j k:Int}(ha:EvV a δ (.int i))(hb:EvV b δ (.int j))(hc:EvV c δ (.int k))(h:f i j=true)(hg:g j k=true):EvV (Zc7 f g a b c) δ (.bool true):=by
 obtain⟨_,e1,d1⟩:=ha
 obtain⟨_,e2,d2⟩:=hb
 obtain⟨_,e3,d3⟩:=hc
 refine⟨.fz (.bool true),?_,OT.data_fz _⟩
 unfold Zc7
 rw[e1,Xh,e2,Xh]
 dsimp only
 rw[d1,d2]
 dsimp only
 rw[if_pos h,e3,Xh,d3]
 dsimp only
 rw[hg]
theorem Zgl{n i:Nat}{f:Nat->Nat->Xa}(h:i<n):Told Ji [Wq n f,.int i] (.bool true) :=
 Wg rfl<|Za6 (Zo0 Z2 Za (Zjm Za) (decide_eq_true (by omega)) (decide_eq_true (by rw[Xe,Xw];omega)))
theorem Zgm{n i:Nat}{f:Nat->Xa}(h:i<n):gIx (.list ((Xk n).map f)) (.int i)=some (.fz (f i)):=by
 rw[Zme,Zm4,Xl,Be h];rfl
theorem Zfv{n i:Nat}{f:Nat->Nat->Xa}(h:i<n):gIx (Wq n f) (.int i)=some (.fz (.list ((Xk n).map λj=>f i j))):=Zgm (f:=λi=>.list ((Xk n).map λj=>f i j)) h
noncomputable def hR1(n A to m:Nat)(S T:Nat->Nat->Rat)(i:Nat):Xa:=.list (((Xk n).map λj=>frG S i j) ++ (bhd m to).map λb=>frD (S i A+T to b))
noncomputable def hR2(n A to m:Nat)(S T:Nat->Nat->Rat)(b:Nat):Xa:=.list (((Xk n).map λj=>frD (T b to+S A j)) ++ (bhd m to).map λc=>frG T b c)
theorem Zsz{n A to m:Nat}(ha:A<n)(hm:m≤5)(ht:to<m){S T:Nat->Nat->Rat}(hS:∀i,S i i=0)(hT:∀i,T i i=0):Bd ((Xk n).map (hR1 n A to m S T) ++ (bhd m to).map (hR2 n A to m S T))=Wq (n+m-1) (frG (hgT n A to S T)):=by
 have hw:n+m-1=n+(m-1):=by omega
 have s1:∀{i},i<n->sh1 n A i=i:=λh=>by unfold sh1;rw[if_pos h]
 have s2:∀{i},i<n->sh2 n to i=to:=λh=>by unfold sh2;rw[if_pos h]
 have s3:∀k,sh1 n A (n+k)=A:=λk=>by unfold sh1;rw[if_neg (by omega)]
 have s4:∀k,sh2 n to (n+k)=sh2 0 to k:=λk=>by unfold sh2;rw[if_neg (show¬n+k<n by omega),if_neg (show¬k<0 by omega),Nat.add_sub_cancel_left,Nat.sub_zero]
 unfold Wq
 rw[hw,List.range_add,Zq0 m (by omega) to ht,Xy,Qs,Qs]
 refine congrArg Bd (congr (congrArg _ (X7 λi hi=>?_)) (X7 λk _=>?_))
 ·have hi:=Qt.mp hi
  unfold hR1
  rw[Xy,Zq0 m (by omega) to ht,Qs,Qs]
  refine congrArg Bd (congr (congrArg _ (X7 λj hj=>?_)) (X7 λl _=>?_))
  ·have hj:=Qt.mp hj
   unfold frG hgT
   rw[s1 hi,s1 hj,s2 hi,s2 hj,hT,Rat.add_zero]
  ·show _=frD (hgT n A to S T i (n+l))
   unfold hgT
   rw[s1 hi,s2 hi,s3,s4];rfl
 ·show hR2 n A to m S T (sh2 0 to k)=Bd ((Xk n ++ (Xk (m-1)).map (n+·)).map λj=>frG (hgT n A to S T) (n+k) j)
  unfold hR2
  rw[Xy,Zq0 m (by omega) to ht,Qs,Qs]
  refine congrArg Bd (congr (congrArg _ (X7 λj hj=>?_)) (X7 λl _=>?_))
  ·have hj:=Qt.mp hj
   show _=frD (hgT n A to S T (n+k) j)
   unfold hgT
   rw[s1 hj,s2 hj,s3,s4,Rat.add_comm]
  ·show frD (T (sh2 0 to k) (sh2 0 to l))=frD (hgT n A to S T (n+k) (n+l))
   unfold hgT
   rw[s3,s3,s4,s4,hS,Rat.zero_add]
theorem Zsw{m to b:Nat}(h:b∈bhd m to):b<m:=Qt.mp (BJ.mp h).1
theorem Z0q{n A to m:Nat}(hn:n≤6)(ha:A<n)(hm:m≤5)(ht:to<m){S T:Nat->Nat->Rat}(hS:∀i,S i i=0)(hT:∀i,T i i=0)(wS:∀i j,Wl (S i j))(wT:∀i j,Wl (T i j)):Told Yy [Wq n (frG S),.int A,Wq m (frG T),.int to] (Wq (n+m-1) (frG (hgT n A to S T))):=by
 rw[←Zsz ha hm ht hS hT]
 have lb:(bhd m to).length≤10:=by
  have:=Vu (λb=>!decide (b=to)) (Xk m)
  rw[Xw]at this
  exact Xz this (by omega)
 have hi:EvI (iRa (Zc (Zdk Zji (Zc (Zd 2) Zm)) Zm)) (Zc8 9 [Wq n (frG S),.int A,Wq m (frG T),.int to]) ((Xk m).map λi:Nat=>Xm (i:Int)):=by
  have e0:(λi:Nat=>Xm (0+(i:Int)))= λi:Nat=>Xm (i:Int):=funext λi=>by rw[Int.zero_add]
  have h:EvI (iRa (Zc (Zdk Zji (Zc (Zd 2) Zm)) Zm)) (Zc8 9 [Wq n (frG S),.int A,Wq m (frG T),.int to]) ((Xk m).map λi:Nat=>Xm (0+(i:Int))):=Zjs (Zb ((Zjm Za).cast (by rw[Xe,Xw])) Zi) (by omega)
  rwa[e0]at h
 have hb:=Zin (caps:=[3]) (t:=tV (Zf gNe (Zd 0) (Zd 1))) (me:=Zd 0) (cs:=[some (.fz (.int to))]) (Xk m) (λi:Nat=>Xm (i:Int)) (λb=>!decide (b=to)) hi (by rw[Xw];omega) rfl (λk _=>Zb0 (Zju Za Za (by rw[decide_eq_decide.mpr (show(k:Int)=(to:Int)↔k=to by omega)]))) λi _ _=>rfl
 refine Wg rfl<|Wk (Jb (Z1h (Zpi (p:=true) (Zoc (Zv (Zb Za (Zb Za Zi)) (Zgl ha)))) (Zpi (p:=true) (Zoc (Zv (Zb Za (Zb Za Zi)) (Zgl ht))))) rfl)<|Wk (Z6 hb)<|Wk Zgn<|
  Zj8 (ds:=(Xk n).map λi=>.list ((Xk n).map λj=>frG S i j)) (λk δ=>∃z6 z7,δ=[some (.fz (Wq n (frG S))),some (.fz (.int A)),some (.fz (Wq m (frG T))),some (.fz (.int to)),some (.fz (.list ((bhd m to).map λb:Nat=>.int b))),some (.nd ((((Xk n).take k).map (hR1 n A to m S T)).map OT.fz)),z6,z7,none]) (Jr Za) ⟨none,none,rfl⟩ (λk d δ hd q=>?_) λδ' q=>?_
 ·obtain⟨z6,z7,rfl⟩:=q
  rw[Xl]at hd
  obtain⟨i,hi,rfl⟩:=Vl.mp hd
  have et:(Xk n).take (k+1)=(Xk n).take k ++ [i]:=by rw[Bv,hi];rfl
  have hc:=Zcl (δ:=[some (.fz (Wq n (frG S))),some (.fz (.int A)),some (.fz (Wq m (frG T))),some (.fz (.int to)),some (.fz (.list ((bhd m to).map λb:Nat=>.int b))),some (.nd ((((Xk n).take k).map (hR1 n A to m S T)).map OT.fz)),some (.fz (.list ((Xk n).map λj=>frG S i j))),z7,none]) (caps:=[6,1,2,3]) (it:=Zc9 (Zd 4)) (me:=Z1 Wr (Zc (Yk gIx (Zd 1) (Zd 2)) (Zc (Yk gIx (Yk gIx (Zd 3) (Zd 4)) (Zd 0)) Zm))) (cs:=[some (.fz (.list ((Xk n).map λj=>frG S i j))),some (.fz (.int A)),some (.fz (Wq m (frG T))),some (.fz (.int to))]) (bhd m to) (λb:Nat=>Xm b) (λb=>frD (S i A+T to b)) (Jr Za) (by omega) rfl λb hb=>Zv (Zb (Wh Za Za (Zgm (f:=λj=>frG S i j) ha)) (Zb (Wh (Wh Za Za (Zfv ht)) Za (Zgm (f:=λj=>frG T to j) (Zsw hb))) Zi)) (Zl7 (wS i A) (wT to b))
  refine⟨_,_,rfl,.inl (Wn (Z6 hc) (Zfk (ts:=(((Xk n).take k).map (hR1 n A to m S T)).map OT.fz) (d:=hR1 n A to m S T i) (Znn (Zvt (Zb Za Zi) (Zy4 _) (by rw[OT.data_nd,OT.map_fz])) Za (by rw[Xe,Xe,Xw];omega)) rfl ?_)),some (.fz (.list ((Xk n).map λj=>frG S i j))),some (.fz (.list ((bhd m to).map λb=>frD (S i A+T to b)))),?_⟩
  ·rw[Xe,Xe]
   exact Xz (V9 ..) (by rw[Xw];omega)
  ·rw[et,Xy,Xy];rfl
 ·obtain⟨z6,z7,rfl⟩:=q
  rw[Xe,BW]
  refine Zj8 (ds:=(bhd m to).map λb:Nat=>.int b) (λk δ=>∃z7 z8,δ=[some (.fz (Wq n (frG S))),some (.fz (.int A)),some (.fz (Wq m (frG T))),some (.fz (.int to)),some (.fz (.list ((bhd m to).map λb:Nat=>.int b))),some (.nd (((Xk n).map (hR1 n A to m S T) ++ ((bhd m to).take k).map (hR2 n A to m S T)).map OT.fz)),z6,z7,z8]) (Jr Za) ⟨z7,none,by rw[List.take_zero,VM,QS]⟩ (λk d δ hd q=>?_) λδ' q=>?_
  ·obtain⟨z7,z8,rfl⟩:=q
   rw[Xl]at hd
   obtain⟨b,hb',rfl⟩:=Vl.mp hd
   have bm:=Zsw (Qo hb')
   have et:(bhd m to).take (k+1)=(bhd m to).take k ++ [b]:=by rw[Bv,hb'];rfl
   have hc:=Zcl (δ:=[some (.fz (Wq n (frG S))),some (.fz (.int A)),some (.fz (Wq m (frG T))),some (.fz (.int to)),some (.fz (.list ((bhd m to).map λb:Nat=>.int b))),some (.nd (((Xk n).map (hR1 n A to m S T) ++ ((bhd m to).take k).map (hR2 n A to m S T)).map OT.fz)),z6,z7,some (.fz (.int b))]) (caps:=[2,8,3]) (it:=Zc9 (Yk gIx (Zd 0) (Zd 1))) (me:=Z1 Wr (Zc (Yk gIx (Yk gIx (Zd 1) (Zd 2)) (Zd 3)) (Zc (Zd 0) Zm))) (cs:=[some (.fz (Wq m (frG T))),some (.fz (.int b)),some (.fz (.int to))]) (Xk n) (λj=>frG S A j) (λj=>frD (T b to+S A j)) (Jr (Wh Za Za (Zfv ha))) (by rw[Xw];omega) rfl λj _=>Zv (Zb (Wh (Wh Za Za (Zfv bm)) Za (Zgm (f:=λj=>frG T b j) ht)) (Zb Za Zi)) (Zl7 (wT b to) (wS A j))
   have hc2:∀{z:Option OT},EvV (Y6 1 [2,8] (Zc9 (Zd 4)) (gNm 0) Zee (Yk gIx (Yk gIx (Zd 1) (Zd 2)) (Zd 0))) [some (.fz (Wq n (frG S))),some (.fz (.int A)),some (.fz (Wq m (frG T))),some (.fz (.int to)),some (.fz (.list ((bhd m to).map λb:Nat=>.int b))),some (.nd (((Xk n).map (hR1 n A to m S T) ++ ((bhd m to).take k).map (hR2 n A to m S T)).map OT.fz)),z6,z,some (.fz (.int b))] (.list ((bhd m to).map λc=>frG T b c)):=fun{z}=>Zcl (cs:=[some (.fz (Wq m (frG T))),some (.fz (.int b))]) (bhd m to) (λb:Nat=>Xm b) (λc=>frG T b c) (Jr Za) (by omega) rfl λc hc=>Wh (Wh Za Za (Zfv bm)) Za (Zgm (f:=λj=>frG T b j) (Zsw hc))
   refine⟨_,_,rfl,.inl (Wn (Z6 hc) (Zfk (ts:=((Xk n).map (hR1 n A to m S T) ++ ((bhd m to).take k).map (hR2 n A to m S T)).map OT.fz) (d:=hR2 n A to m S T b) (Znn Za hc2 (by rw[Xe,Xe,Xw];omega)) rfl ?_)),some (.fz (.list ((Xk n).map λj=>frD (T b to+S A j)))),some (.fz (.int b)),?_⟩
   ·rw[Xe,Qd,Xe,Xe,Xw]
    have:=V9 k (bhd m to)
    omega
   ·have e2:(Xk n).map (hR1 n A to m S T) ++ ((bhd m to).take (k+1)).map (hR2 n A to m S T)=((Xk n).map (hR1 n A to m S T) ++ ((bhd m to).take k).map (hR2 n A to m S T)) ++ [hR2 n A to m S T b]:=by rw[et,Xy,Vh];rfl
    rw[e2,Xy (l₂:=[hR2 n A to m S T b])];rfl
  ·obtain⟨z7,z8,rfl⟩:=q
   rw[Xe,BW]
   exact Z8m rfl (by rw[OT.data_nd,OT.map_fz])
noncomputable def mb(p:List Int×Rat)(i:Nat):Bool:=decide ((i:Int)∈p.1)
theorem Zx6(i j:Nat)(p:List Int×Rat):prt i j p=(mb p i !=mb p j):=by
 unfold prt sd mb
 by_cases c:(i:Int)∈p.1<;>by_cases d:(j:Int)∈p.1<;>simp[c,d]
theorem Zes{n:Nat}{p q:List Int×Rat}:crs n p q=true↔∀a b:Bool,∃x,x<n∧mb p x=a∧mb q x=b:=by
 unfold crs cN
 rw[decide_eq_true_eq,show(4:Nat)=B4.length from rfl,List.length_filter_eq_length_iff]
 have e:∀b:BB,(kbs n p q).contains b=true↔∃x,x<n∧mb p x=b.1∧mb q x=b.2:=λb=>by
  rw[UW]
  unfold kbs
  rw[XF]
  constructor
  ·rintro⟨x,hx,rfl⟩
   exact⟨x,Qt.mp hx,rfl,rfl⟩
  ·rintro⟨x,hx,h1,h2⟩
   exact⟨x,Qt.mpr hx,Prod.ext h1 h2⟩
 exact⟨λh a b=>(e (a,b)).mp (h (a,b) (Zxu _)),λh b _=>(e b).mpr (h b.1 b.2)⟩
noncomputable def Mv(w:Nat)(sh:Nat->Nat)(p p':List Int×Rat):Prop:=∃a:Bool,∀x,x<w->mb p' x=(mb p (sh x)^^a)
theorem Zxh{w:Nat}{ns:List Int}{q:Rat}{x:Nat}(hx:x<w):mb (ctO w ns,q) x=(decide ((x:Int)∈ns)^^decide ((0:Int)∈ns)):=by
 unfold mb ctO
 by_cases c:(0:Int)∈ns
 ·rw[if_pos c,decide_eq_true c,Bool.xor_true,Um,decide_eq_true_eq,Zgb]
  exact⟨λz=>z.2.2,λz=>⟨by omega,by omega,z⟩⟩
 ·rw[if_neg c,decide_eq_false c,Bool.xor_false,Um,decide_eq_true_eq,Zgb]
  exact⟨λz=>z.2.2,λz=>⟨by omega,by omega,z⟩⟩
theorem Zho{n A to m:Nat}(z:Sz n A to m){p:List Int×Rat}(hp:Zex n p):Mv (n+m-1) (sh1 n A) p (mvA n A to m p) :=
 ⟨_,λx hx=>by
  unfold mvA
  rw[Zxh hx]
  refine congrArg (·^^_) ?_
  unfold mb
  exact decide_eq_decide.mpr (Yb4 z hp.rg hx)⟩
theorem Zhk{n A to m:Nat}(z:Sz n A to m){p:List Int×Rat}(hp:Zex m p):Mv (n+m-1) (sh2 n to) p (mvB n A to m p) :=
 ⟨_,λx hx=>by
  unfold mvB
  rw[Zxh hx]
  refine congrArg (·^^_) ?_
  unfold mb
  exact decide_eq_decide.mpr (Ybm z hp.rg hx)⟩
theorem Mv.prt{w:Nat}{sh:Nat->Nat}{p p':List Int×Rat}(h:Mv w sh p p'){x y:Nat}(hx:x<w)(hy:y<w):prt x y p'=prt (sh x) (sh y) p:=by
 obtain⟨a,h⟩:=h
 rw[Zx6,Zx6,h x hx,h y hy]
 cases a<;>cases mb p (sh x)<;>cases mb p (sh y)<;>rfl
theorem Z3v{w:Nat}{sh:Nat->Nat}{f:List Int×Rat->List Int×Rat}(h2:∀p,(f p).2=p.2){x y:Nat}(hx:x<w)(hy:y<w){L:List (List Int×Rat)}(h:∀p∈L,Mv w sh p (f p)):Sm (L.map f) x y=Sm L (sh x) (sh y):=by
 unfold Sm
 rw[List.filter_map,Qs]
 have e:L.filter (prt x y∘f)=L.filter (prt (sh x) (sh y)):=List.filter_congr λp hp=>(h p hp).prt hx hy
 rw[e]
 exact congrArg List.sum (X7 λp _=>h2 p)
theorem Mv.crs{n w:Nat}{sh:Nat->Nat}(hs:∀x,x<w->sh x<n)(hr:∀y,y<n->∃x,x<w∧sh x=y){p p' q q':List Int×Rat}(hp:Mv w sh p p')(hq:Mv w sh q q'):crs w p' q'=crs n p q:=by
 obtain⟨a,hp⟩:=hp
 obtain⟨b,hq⟩:=hq
 rw[Um,Zes,Zes]
 constructor
 ·intro h c d
  obtain⟨x,hx,h1,h2⟩:=h (c^^a) (d^^b)
  rw[hp x hx]at h1
  rw[hq x hx]at h2
  exact⟨sh x,hs x hx,Bool.xor_right_inj.mp (by rw[Bool.xor_comm a,Bool.xor_comm a,h1]),Bool.xor_right_inj.mp (by rw[Bool.xor_comm b,Bool.xor_comm b,h2])⟩
 ·intro h c d
  obtain⟨y,hy,h1,h2⟩:=h (c^^a) (d^^b)
  obtain⟨x,hx,rfl⟩:=hr y hy
  refine⟨x,hx,?_,?_⟩
  ·rw[hp x hx,h1,Bool.xor_assoc,Bool.xor_self,Bool.xor_false]
  ·rw[hq x hx,h2,Bool.xor_assoc,Bool.xor_self,Bool.xor_false]
theorem apart{n A to w:Nat}{p p' q q':List Int×Rat}(hp:Mv w (sh1 n A) p p')(hq:Mv w (sh2 n to) q q'):crs w p' q'=false:=by
 obtain⟨a,hp⟩:=hp
 obtain⟨b,hq⟩:=hq
 rw[Vz]
 intro h
 obtain⟨x,hx,h1,h2⟩:=Zes.mp h (!(mb p A^^a)) (!(mb q to^^b))
 rw[hp x hx]at h1
 rw[hq x hx]at h2
 unfold sh1 at h1
 unfold sh2 at h2
 by_cases c:x<n
 ·rw[if_pos c]at h2
  exact absurd h2 (by generalize(mb q to^^b)=z;cases z<;>decide)
 ·rw[if_neg c]at h1
  exact absurd h1 (by generalize(mb p A^^a)=z;cases z<;>decide)
theorem Zlq{n:Nat}{p q:List Int×Rat}:crs n p q=crs n q p:=by
 rw[Um,Zes,Zes]
 exact⟨λh a b=>(h b a).imp λx z=>⟨z.1,z.2.2,z.2.1⟩,λh a b=>(h b a).imp λx z=>⟨z.1,z.2.2,z.2.1⟩⟩
theorem Zlx{n:Nat}{p p' q q':List Int×Rat}(h:p.1=p'.1)(k:q.1=q'.1):crs n p q=crs n p' q':=by
 unfold crs kbs kb
 rw[h,k]
theorem Zir{n:Nat}{p q:List Int×Rat}(h:p.1=q.1):crs n p q=false:=by
 rw[Vz]
 intro z
 obtain⟨x,_,h1,h2⟩:=Zes.mp z true false
 unfold mb at h1 h2
 rw[h,h2]at h1
 cases h1
noncomputable def Non(n:Nat)(L:List (List Int×Rat)):Prop:=∀p∈L,∀q∈L,crs n p q=false
theorem Zid{n:Nat}{L:List (List Int×Rat)}:Zmh n L (Z4 L.length)= .none↔Non n L:=by
 unfold Zmh
 have at_:∀{i:Nat},i<L.length->L.getD i ([],0)∈L:=fun{i} h=>by
  rw[Ql,XJ h];exact List.getElem_mem h
 constructor
 ·intro h
  have hn:(Z4 L.length).find? (λp=>crs n (L.getD p.1 ([],0)) (L.getD p.2 ([],0)))=none:=by
   cases e:(Z4 L.length).find? (λp=>crs n (L.getD p.1 ([],0)) (L.getD p.2 ([],0)))with
   | none=>rfl
   | some p=>rw[e]at h;cases h
  rw[List.find?_eq_none]at hn
  have lt:∀{i j:Nat},i<j->j<L.length->crs n (L.getD i ([],0)) (L.getD j ([],0))=false:=fun{i j} h1 h2=>Vz.mpr (hn (i,j) (Ze2 h1 h2))
  intro p hp q hq
  obtain⟨i,hi⟩:=Bl hp
  obtain⟨j,hj⟩:=Bl hq
  have ep:L.getD i ([],0)=p:=by rw[Ql,hi];rfl
  have eq':L.getD j ([],0)=q:=by rw[Ql,hj];rfl
  have li:=(Xo.mp hi).1
  have lj:=(Xo.mp hj).1
  rcases Nat.lt_trichotomy i j with c|c|c
  ·rw[←ep,←eq'];exact lt c lj
  ·subst c
   rw[←ep,←eq'];exact Zir rfl
  ·rw[←ep,←eq',Zlq];exact lt c li
 ·intro h
  rw[List.find?_eq_none.mpr λp hp=>?_]
  obtain⟨h1,h2⟩:=Zbd hp
  rw[h _ (at_ (by omega)) _ (at_ h2)]
  exact XH
theorem Zmz{n:Nat}{L:List (List Int×Rat)}{b:Bool}(h:b=true↔Non n L):gIs (Zmh n L (Z4 L.length)) .none=some (.bool b):=by
 cases b with
 | true=>rw[Zid.mpr (h.mp rfl)];rfl
 | false=>
  have:Zmh n L (Z4 L.length)≠ .none:=λz=>XH (h.mpr (Zid.mp z))
  unfold Zmh at this⊢
  cases e:(Z4 L.length).find? (λp=>crs n (L.getD p.1 ([],0)) (L.getD p.2 ([],0)))with
  | none=>rw[e]at this;exact absurd rfl this
  | some p=>rfl
theorem Z3w{n:Nat}{P:List (List Int×Rat)}{p q:List Int×Rat}(h:P.Perm [p,q])(c:crs n p q=false):Zmh n P (Z4 P.length)= .none:=Zid.mpr λa ha b hb=>by
 have two:∀x∈[p,q],x=p∨x=q:=λx hx=>(Xp.mp hx).imp id Xj.mp
 rcases two a (h.mem_iff.mp ha)with rfl|rfl<;>rcases two b (h.mem_iff.mp hb)with rfl|rfl
 ·exact Zir rfl
 ·exact c
 ·rw[Zlq];exact c
 ·exact Zir rfl
theorem Zue{n A to m:Nat}(z:Sz n A to m){L M B:List (List Int×Rat)}(hL:∀p∈L,Zex n p)(hM:∀p∈M,Zex m p)(h1:∀p∈B,∃q∈L.map (mvA n A to m) ++ M.map (mvB n A to m),q.1=p.1)(h2:∀q∈L.map (mvA n A to m) ++ M.map (mvB n A to m),∃p∈B,p.1=q.1):Non (n+m-1) B↔Non n L∧Non m M:=by
 obtain⟨f1,f2,_,f4,f5⟩:=z.fin
 have hA:∀{p q},p∈L->q∈L->crs (n+m-1) (mvA n A to m p) (mvA n A to m q)=crs n p q:=λhp hq=>Mv.crs (λx hx=>by
  unfold sh1
  by_cases c:x<n
  ·rw[if_pos c];exact c
  ·rw[if_neg c];exact z.sa) (λy hy=>⟨y,X4 hy f5,by unfold sh1;rw[if_pos hy]⟩) (Zho z (hL _ hp)) (Zho z (hL _ hq))
 have hB:∀{p q},p∈M->q∈M->crs (n+m-1) (mvB n A to m p) (mvB n A to m q)=crs m p q:=λhp hq=>Mv.crs (λx hx=>by
  by_cases c:x<n
  ·unfold sh2;rw[if_pos c];exact z.st
  ·exact(f2 x hx (Nat.not_lt.mp c)).1) (λy hy=>by
  by_cases c:y=to
  ·exact⟨0,f4,by unfold sh2;rw[if_pos (JW (QC _) z.sa),c]⟩
  ·exact⟨_,(f1 y hy c).2.1,(f1 y hy c).2.2⟩) (Zhk z (hM _ hp)) (Zhk z (hM _ hq))
 have inA:∀{p},p∈L->∃x∈B,x.1=(mvA n A to m p).1:=λhp=>h2 _ (Xq.mpr (.inl (XF.mpr ⟨_,hp,rfl⟩)))
 have inB:∀{p},p∈M->∃x∈B,x.1=(mvB n A to m p).1:=λhp=>h2 _ (Xq.mpr (.inr (XF.mpr ⟨_,hp,rfl⟩)))
 constructor
 ·intro h
  refine⟨λp hp q hq=>?_,λp hp q hq=>?_⟩
  ·obtain⟨x,hx,ex⟩:=inA hp
   obtain⟨y,hy,ey⟩:=inA hq
   rw[←hA hp hq,←Zlx ex ey];exact h x hx y hy
  ·obtain⟨x,hx,ex⟩:=inB hp
   obtain⟨y,hy,ey⟩:=inB hq
   rw[←hB hp hq,←Zlx ex ey];exact h x hx y hy
 ·rintro⟨g1,g2⟩ x hx y hy
  obtain⟨u,hu,eu⟩:=h1 x hx
  obtain⟨v,hv,ev⟩:=h1 y hy
  rw[←Zlx eu ev]
  rcases Xq.mp hu with y|y<;>rcases Xq.mp hv with y'|y'<;>obtain⟨p,hp,rfl⟩:=XF.mp y<;>obtain⟨q,hq,rfl⟩:=XF.mp y'
  ·rw[hA hp hq];exact g1 p hp q hq
  ·exact apart (Zho z (hL p hp)) (Zhk z (hM q hq))
  ·rw[Zlq];exact apart (Zho z (hL q hq)) (Zhk z (hM p hp))
  ·rw[hB hp hq];exact g2 p hp q hq
theorem one_up{r:Int}{k:Nat}(h0:0≤r)(h1:r<k):∃n:Nat,1+r=(n:Int)∧0<n∧n≤k:=⟨(1+r).toNat,by omega,by omega,by omega⟩
theorem Zx0{a:Int}{n:Nat}(h0:0≤a)(h1:a<n):∃k:Nat,a=(k:Int)∧k<n:=⟨a.toNat,by omega,by omega⟩
theorem Ydg{k n:Nat}(h:k<max 1 (min 5 n)):k≤10:=by omega
theorem Yef:∀n<5,(if(if((n:Nat):Int)<5 then(n:Int)else 5)>1 then if(n:Int)<5 then(n:Int)else 5 else 1)=((max 1 (min 5 n):Nat):Int):=by decide
theorem fw5(n:Nat):(if(if(n:Int)<5 then(n:Int)else 5)>1 then if(n:Int)<5 then(n:Int)else 5 else 1)=((max 1 (min 5 n):Nat):Int):=by
 rcases Nat.lt_or_ge n 5 with c|c
 ·exact Yef n c
 ·have d:¬(n:Int)<5:=Int.not_lt.mpr (Int.ofNat_le.mpr c)
  rw[if_neg d,Nat.min_eq_left c];rfl
theorem Ye4(n:Nat):max 1 (min 5 n)≤1000000:=by omega
theorem Z4l{n:Nat}(h:0<n):0<(n:Int):=UG.mpr h
theorem Yba{n k:Nat}(h:n≤k)(hk:k≤1000000000):(n:Int)≤1000000000:=Int.ofNat_le.mpr (Xz h hk)
theorem Z1e(A B:List (List Int×Rat))(h:A.length+B.length≤1000):Znw (Z9 A) (Z9 B)=some (Zhh (A ++ B)):=by
 show(if(A.map ctD).length+(B.map ctD).length≤Xr then some (OT.nd ((A.map ctD ++ B.map ctD).map OT.fz))else none)=_
 unfold Zhh
 rw[if_pos (by rw[Xe,Xe,Qh];omega),Xy (f:=ctD)]
theorem Z4w(M:List (List Int×Rat))(i j:Nat):Sm M i j=Sm M j i:=by
 unfold Sm
 rw[show prt i j=prt j i from funext λp=>by unfold prt;rw[decide_eq_decide.mpr eq_comm]]
theorem Zlp(M:List (List Int×Rat))(i:Nat):Sm M i i=0:=by
 unfold Sm
 rw[List.filter_eq_nil_iff.mpr λp _=>by unfold prt;rw[decide_eq_true rfl];exact XH];rfl
theorem Z5k{M:List (List Int×Rat)}(h:∀p∈M,Wt p.2)(hl:M.length<64)(i j:Nat):Wl (Sm M i j) :=
 Zxp _ (λp hp=>h p (BJ.mp hp).1) (JW (Vu ..) hl)
theorem Zey{n:Nat}(hn:n≤10)(L:List (List Int×Rat))(hl:L.length<64)(hw:∀p∈L,Wl p.2):Told Yo [.int n,Z9 L] (Wq n (frG (Sm L))):=by
 refine Told.of (Zll hn L hl hw) ?_
 rw[Zjd (g:=frG (Sm L)) λi j _ _=>?_,Zet]
 unfold Zmd Zhf frG
 rcases Nat.lt_trichotomy i j with c|c|c
 ·rw[if_pos c]
 ·subst c
  rw[if_neg (Ve _),if_neg (Ve _),Zlp];rfl
 ·rw[if_neg (by omega),if_pos c,Z4w]
theorem Zzt{n:Nat}{S T:Nat->Nat->Rat}(h:∀i j,i<n->j<n->S i j=T i j):Wq n (frG S)=Wq n (frG T):=by
 rw[←Zet,←Zet,Zjd λi j hi hj=>?_]
 unfold frG
 rw[h i j hi hj]
noncomputable def lw(ns:List Int)(z1 z2 z3 z4 z5 z6 z7 z8 z9 z10 z11 z12 z13 z14 z15 z16 z17:Option OT):Zh:=[some (.fz (Zq ns)),z1,z2,z3,z4,z5,z6,z7,z8,z9,z10,z11,z12,z13,z14,z15,z16,z17]
theorem Z6c(b:Bool):gNe (.bool b) (.bool b)=some (.bool false):=by cases b<;>rfl
theorem Zwa(ns:List Int)(hl:ns.length≤63):Zem [.list (ns.map Xm)]= .ok (.fz (.bool true)):=by
 show Zem [Zq ns]=_
 have key:EpS Zel (lw ns none none none none none none none none none none none none none none none none none) (λ_=>False) λd _=>d= .bool true:=by
  refine Zx (Ziv (Zup (Zjs (n:=max 1 (min 5 ns.length)) (Zb (EvV.cast (Zdy (Zb Z2 (Zb (Zdy (Zb Z2 (Zb (Zbk Za) Zi)) rfl) Zi)) rfl) ?_) Zi) (Ye4 _))
   ⟨λ_ δ=>∃u:Nat->Option OT,δ=lw ns (u 1) (u 2) (u 3) (u 4) (u 5) (u 6) (u 7) (u 8) (u 9) (u 10) (u 11) (u 12) (u 13) (u 14) (u 15) (u 16) (u 17),⟨λ_=>none,rfl⟩,λk d δ hd q=>?_,λδ' q=>?_⟩))
  ·exact congrArg Xm (fw5 ns.length)
  ·obtain⟨u,rfl⟩:=q
   obtain⟨hk,rfl⟩:=Zae hd
   rw[Int.zero_add]
   obtain⟨t0,eP,p0⟩:=Zzz ns (k:=k) (Ydg hk)
   refine⟨_,rfl,Zx (Ziw (Z7d (Zb Za (Zb Za Zi)) eP) ?_)⟩
   show EpS _ (lw ns (some (.fz (.int k))) (some t0) (u 3) (u 4) (u 5) (u 6) (u 7) (u 8) (u 9) (u 10) (u 11) (u 12) (u 13) (u 14) (u 15) (u 16) (u 17)) _ _
   refine Zx (Zbq (Zbc (Yb Z2 (Ja rfl p0 (Zb Z2 Zi) (by decide) (by decide) λr t1 r0 r1 p1=>⟨.int (1+r),rfl,?_⟩))))
   obtain⟨n,hn,n0,n1⟩:=one_up (k:=6) r0 r1
   rw[hn]
   show EpS _ (lw ns (some (.fz (.int k))) (some t1) (some (.fz (.int n))) (u 4) (u 5) (u 6) (u 7) (u 8) (u 9) (u 10) (u 11) (u 12) (u 13) (u 14) (u 15) (u 16) (u 17)) _ _
   refine Zx (Zbq (Zbc (Yb Z2 (Ja rfl p1 (Zb Z2 Zi) (by decide) (by decide) λs t2 s0 s1 p2=>⟨.int (1+s),rfl,?_⟩))))
   obtain⟨m,hm,m0,m1⟩:=one_up (k:=5) s0 s1
   rw[hm]
   show EpS _ (lw ns (some (.fz (.int k))) (some t2) (some (.fz (.int n))) (some (.fz (.int m))) (u 5) (u 6) (u 7) (u 8) (u 9) (u 10) (u 11) (u 12) (u 13) (u 14) (u 15) (u 16) (u 17)) _ _
   have n10:n≤10:=Xz n1 (by decide)
   have m10:m≤10:=Xz m1 (by decide)
   refine Zx (Zbq (Zdv rfl (Zix (Zb Za Zi) ⟨t2,rfl,(Zr4 (n:=n) n10 p2).mono λd t3 z=>?_⟩)))
   obtain⟨L,rfl,hL,lL,p3⟩:=z
   show EpS _ (lw ns (some (.fz (.int k))) (some t3) (some (.fz (.int n))) (some (.fz (.int m))) (some (.fz (Z9 L))) (u 6) (u 7) (u 8) (u 9) (u 10) (u 11) (u 12) (u 13) (u 14) (u 15) (u 16) (u 17)) _ _
   refine Zx (Zbq (Zdv rfl (Zix (Zb Za Zi) ⟨t3,rfl,(Zr4 (n:=m) m10 p3).mono λd t4 z=>?_⟩)))
   obtain⟨M,rfl,hM,lM,p4⟩:=z
   show EpS _ (lw ns (some (.fz (.int k))) (some t4) (some (.fz (.int n))) (some (.fz (.int m))) (some (.fz (Z9 L))) (some (.fz (Z9 M))) (u 7) (u 8) (u 9) (u 10) (u 11) (u 12) (u 13) (u 14) (u 15) (u 16) (u 17)) _ _
   refine Zx (Zbq (Ja rfl p4 (Zb Za Zi) (Z4l n0) (Yba n1 (by decide)) λa t5 a0 a1 p5=>?_))
   obtain⟨A,ea,ha⟩:=Zx0 a0 a1
   subst ea
   show EpS _ (lw ns (some (.fz (.int k))) (some t5) (some (.fz (.int n))) (some (.fz (.int m))) (some (.fz (Z9 L))) (some (.fz (Z9 M))) (some (.fz (.int (A:Int)))) (u 8) (u 9) (u 10) (u 11) (u 12) (u 13) (u 14) (u 15) (u 16) (u 17)) _ _
   refine Zx (Zbq (Ja rfl p5 (Zb Za Zi) (Z4l m0) (Yba m1 (by decide)) λb t6 b0 b1 p6=>?_))
   obtain⟨to,eb,ht⟩:=Zx0 b0 b1
   subst eb
   show EpS _ (lw ns (some (.fz (.int k))) (some t6) (some (.fz (.int n))) (some (.fz (.int m))) (some (.fz (Z9 L))) (some (.fz (Z9 M))) (some (.fz (.int (A:Int)))) (some (.fz (.int (to:Int)))) (u 9) (u 10) (u 11) (u 12) (u 13) (u 14) (u 15) (u 16) (u 17)) _ _
   have z:Sz n A to m:=⟨Nat.lt_succ_of_le n1,Nat.lt_succ_of_le m1,ha,ht⟩
   have w10:=wle n1 m1
   have l64:L.length<64:=JW lL (by decide)
   have m64:M.length<64:=JW lM (by decide)
   refine Zx (Jw (Z6 (Zv (Zb Za (Zb Za (Zb Za (Zb Za (Zb Za (Zb Za Zi)))))) (Zwb z hL hM lL lM))) ?_)
   show EpS _ (lw ns (some (.fz (.int k))) (some t6) (some (.fz (.int n))) (some (.fz (.int m))) (some (.fz (Z9 L))) (some (.fz (Z9 M))) (some (.fz (.int (A:Int)))) (some (.fz (.int (to:Int)))) (some (.fz (.list [Z9 (L.map (mvA n A to m)),Z9 (M.map (mvB n A to m))]))) (u 10) (u 11) (u 12) (u 13) (u 14) (u 15) (u 16) (u 17)) _ _
   refine Zx (Jw (Z6 ((Zne (Zc4 Za Za) Z2).cast (congrArg Xm (whl z)))) ?_)
   show EpS _ (lw ns (some (.fz (.int k))) (some t6) (some (.fz (.int n))) (some (.fz (.int m))) (some (.fz (Z9 L))) (some (.fz (Z9 M))) (some (.fz (.int (A:Int)))) (some (.fz (.int (to:Int)))) (some (.fz (.list [Z9 (L.map (mvA n A to m)),Z9 (M.map (mvB n A to m))]))) (some (.fz (.int ((n+m-1:Nat):Int)))) (u 11) (u 12) (u 13) (u 14) (u 15) (u 16) (u 17)) _ _
   have wL:∀p∈L,Wt p.2:=λp hp=>(hL p hp).wt
   have wM:∀p∈M,Wt p.2:=λp hp=>(hM p hp).wt
   have wBoth:∀p∈L.map (mvA n A to m) ++ M.map (mvB n A to m),Wt p.2:=λp hp=>by
    rcases Xq.mp hp with z|z<;>obtain⟨q,hq,rfl⟩:=XF.mp z
    ·exact wL q hq
    ·exact wM q hq
   obtain⟨B,eB,lB,wB,sB,b1,b2⟩:=Ztm (L.map (mvA n A to m) ++ M.map (mvB n A to m)) (by rw[Qd,Xe,Xe];exact JW (Nat.add_le_add lL lM) (by decide)) wBoth
   refine Zx (Jw (Z6 (Zv (Zb (Zro (Wh (d:=Z9 (L.map (mvA n A to m))) Za Z2 rfl) (Wh (d:=Z9 (M.map (mvB n A to m))) Za Z2 rfl) (Z1e _ _ (by rw[Xe,Xe];exact Xz (Nat.add_le_add lL lM) (by decide))) (W4 _)) Zi) eB)) ?_)
   show EpS _ (lw ns (some (.fz (.int k))) (some t6) (some (.fz (.int n))) (some (.fz (.int m))) (some (.fz (Z9 L))) (some (.fz (Z9 M))) (some (.fz (.int (A:Int)))) (some (.fz (.int (to:Int)))) (some (.fz (.list [Z9 (L.map (mvA n A to m)),Z9 (M.map (mvB n A to m))]))) (some (.fz (.int ((n+m-1:Nat):Int)))) (some (.fz (Z9 B))) (u 12) (u 13) (u 14) (u 15) (u 16) (u 17)) _ _
   have eG:Wq (n+m-1) (frG (Sm B))=Wq (n+m-1) (frG (hgT n A to (Sm L) (Sm M))):=Zzt λi j hi hj=>by
    rw[sB,Zhn,Z3v (f:=mvA n A to m) (λ_=>rfl) hi hj λp hp=>Zho z (hL p hp),Z3v (f:=mvB n A to m) (λ_=>rfl) hi hj λp hp=>Zhk z (hM p hp)];rfl
   have gG:gNe (Wq (n+m-1) (frG (hgT n A to (Sm L) (Sm M)))) (Wq (n+m-1) (frG (Sm B)))=some (.bool false):=by
    rw[eG];exact Zt3 (Zyq _ _) (Zo9 _ _) (by decide)
   refine Zx (Jw (Jb (Zb0 (Zn (Zv (Zb (Zv (Zb Za (Zb Za Zi)) (Zey n10 L l64 λp hp=>(wL p hp).wl)) (Zb Za (Zb (Zv (Zb Za (Zb Za Zi)) (Zey m10 M m64 λp hp=>(wM p hp).wl)) (Zb Za Zi)))) (Z0q n1 ha m1 ht (Zlp L) (Zlp M) (Z5k wL l64) (Z5k wM m64))) (Zv (Zb Za (Zb Za Zi)) (Zey (n:=n+m-1) w10 B lB wB)) gG)) rfl) ?_)
   refine Zx (Zg8 (ds:=(L.map (mvA n A to m)).map ctD) (λ_ δ=>∃z12 z13 z14 z15 z16,δ=lw ns (some (.fz (.int k))) (some t6) (some (.fz (.int n))) (some (.fz (.int m))) (some (.fz (Z9 L))) (some (.fz (Z9 M))) (some (.fz (.int A))) (some (.fz (.int to))) (some (.fz (.list [Z9 (L.map (mvA n A to m)),Z9 (M.map (mvB n A to m))]))) (some (.fz (.int ((n+m-1:Nat):Int)))) (some (.fz (Z9 B))) z12 z13 z14 z15 z16 (u 17)) (Jr (Wh (d:=Z9 (L.map (mvA n A to m))) Za Z2 rfl)) ⟨u 12,u 13,u 14,u 15,u 16,rfl⟩ (λi d δ hd q=>?_) λδ' q=>?_)
   ·obtain⟨z12,z13,z14,z15,z16,rfl⟩:=q
    obtain⟨p,hp,rfl⟩:=XF.mp (Qo hd)
    refine⟨_,rfl,Zg8 (ds:=(M.map (mvB n A to m)).map ctD) (λ_ δ=>∃z14 z15 z16,δ=lw ns (some (.fz (.int k))) (some t6) (some (.fz (.int n))) (some (.fz (.int m))) (some (.fz (Z9 L))) (some (.fz (Z9 M))) (some (.fz (.int A))) (some (.fz (.int to))) (some (.fz (.list [Z9 (L.map (mvA n A to m)),Z9 (M.map (mvB n A to m))]))) (some (.fz (.int ((n+m-1:Nat):Int)))) (some (.fz (Z9 B))) (some (.fz (Zq p.1))) (some (.fz (frD p.2))) z14 z15 z16 (u 17)) (Jr (Wh (d:=Z9 (M.map (mvB n A to m))) Za Z2 rfl)) ⟨z14,z15,z16,rfl⟩ (λj d δ hd q=>?_) λδ' q=>?_⟩
    ·obtain⟨z14,z15,z16,rfl⟩:=q
     obtain⟨q,hq,rfl⟩:=XF.mp (Qo hd)
     obtain⟨p0,hp0,rfl⟩:=XF.mp hp
     obtain⟨q0,hq0,rfl⟩:=XF.mp hq
     obtain⟨P,eP,pm⟩:=Zez [mvA n A to m p0,mvB n A to m q0] (show 2<64 by decide)
     have eT:=Zfx (n:=n+m-1) w10 P (by rw[pm.length_eq];exact(show 2<64 by decide))
     rw[Z3w pm (apart (Zho z (hL p0 hp0)) (Zhk z (hM q0 hq0)))]at eT
     refine⟨_,rfl,Zx (Jw (Z6 (d:=Z9 P) (Zvt (Zb (Zfd (Zb (Zb8 (Zb Za (Zb Za Zi)) (show 2≤1000 by decide)) (Zb (Zb8 (Zb Za (Zb Za Zi)) (show 2≤1000 by decide)) Zi)) (show 2≤1000 by decide)) Zi) eP (by rw[OT.data_nd,OT.map_fz];rfl))) (Jw (Jb (t:=tAn (tV (Zf gNe (Zd 12) (Zd 14))) (tV (Zf Zh7 (Z1 Zo (Zc (Zd 10) (Zc (Zd 16) Zm))) (fC .none)))) ?_ rfl) ⟨_,_,_,rfl⟩))⟩
     have t2:∀{z14 z15:Option OT},EvT (tV (Zf Zh7 (Z1 Zo (Zc (Zd 10) (Zc (Zd 16) Zm))) (fC .none))) (lw ns (some (.fz (.int k))) (some t6) (some (.fz (.int n))) (some (.fz (.int m))) (some (.fz (Z9 L))) (some (.fz (Z9 M))) (some (.fz (.int A))) (some (.fz (.int to))) (some (.fz (.list [Z9 (L.map (mvA n A to m)),Z9 (M.map (mvB n A to m))]))) (some (.fz (.int ((n+m-1:Nat):Int)))) (some (.fz (Z9 B))) (some (.fz (Zq (mvA n A to m p0).1))) (some (.fz (frD (mvA n A to m p0).2))) z14 z15 (some (.fz (Z9 P))) (u 17)) false:=Zb0 (Zn (Zv (Zb Za (Zb Za Zi)) eT) Z2 rfl)
     by_cases c:(mvA n A to m p0).1=(mvB n A to m q0).1
     ·exact Zja (Zb0 (Zn Za Za (by rw[Zfw,decide_eq_true c];rfl)))
     ·exact Zqz (Zb0 (Zn Za Za (by rw[Zfw,decide_eq_false c];rfl))) t2
    ·obtain⟨z14,z15,z16,rfl⟩:=q
     exact⟨_,_,_,_,_,rfl⟩
   ·obtain⟨z12,z13,z14,z15,z16,rfl⟩:=q
    have fL:=Zfx (n:=n) n10 L l64
    have fM:=Zfx (n:=m) m10 M m64
    have fB:=Zfx (n:=n+m-1) w10 B lB
    have nb:=Zue z hL hM b1 b2
    have sel:∀P:Prop,∃b:Bool,b=true↔P:=λP=>by
     by_cases c:P
     ·exact⟨true,λ_=>c,λ_=>rfl⟩
     ·exact⟨false,(λz=>nomatch z),λz=>absurd z c⟩
    obtain⟨x,hx⟩:=sel (Non n L)
    obtain⟨y,hy⟩:=sel (Non m M)
    have hz:(x&&y)=true↔Non (n+m-1) B:=by rw[XM,hx,hy,nb]
    have eD:∀{z17:Option OT},EvV (Zxo (Zf gIs (Z1 Zo (Zc (Zd 3) (Zc (Zd 5) Zm))) (fC .none)) (Zf gIs (Z1 Zo (Zc (Zd 4) (Zc (Zd 6) Zm))) (fC .none))) (lw ns (some (.fz (.int k))) (some t6) (some (.fz (.int n))) (some (.fz (.int m))) (some (.fz (Z9 L))) (some (.fz (Z9 M))) (some (.fz (.int A))) (some (.fz (.int to))) (some (.fz (.list [Z9 (L.map (mvA n A to m)),Z9 (M.map (mvB n A to m))]))) (some (.fz (.int ((n+m-1:Nat):Int)))) (some (.fz (Z9 B))) z12 z13 z14 z15 z16 z17) (.bool (x&&y)):=fun{z17}=>by
     cases x with
     | true=>exact Zwh (Zn (Zv (Zb Za (Zb Za Zi)) fL) Z2 (Zmz hx)) (Zn (Zv (Zb Za (Zb Za Zi)) fM) Z2 (Zmz hy))
     | false=>exact Zuh (Zn (Zv (Zb Za (Zb Za Zi)) fL) Z2 (Zmz hx))
    refine Zx (Jw (Z6 eD) ?_)
    exact Jw (Jb (Zb0 (Zn (Zn (Zv (Zb Za (Zb Za Zi)) fB) Z2 (Zmz hz)) Za (Z6c _))) rfl) ⟨λi=>((lw ns (some (.fz (.int k))) (some t6) (some (.fz (.int n))) (some (.fz (.int m))) (some (.fz (Z9 L))) (some (.fz (Z9 M))) (some (.fz (.int A))) (some (.fz (.int to))) (some (.fz (.list [Z9 (L.map (mvA n A to m)),Z9 (M.map (mvB n A to m))]))) (some (.fz (.int ((n+m-1:Nat):Int)))) (some (.fz (Z9 B))) z12 z13 z14 z15 z16 (some (.fz (.bool (x&&y)))))[i]?).getD none,rfl⟩
  ·obtain⟨u,rfl⟩:=q
   exact Zb2 (Yb Z2 rfl)
 rcases key with⟨_,_,z⟩|⟨o,δ',e,h⟩
 ·exact z.elim
 ·exact Told.ok (Wg rfl ⟨o,δ',e,h⟩)
end My
namespace My
open PySem L2 PySem.Spec
theorem Zwz{P:List Xc->Prop}(h:∀a0,P [a0]):∀us:List Xc,us.length=1->P us:=λus hl=>by
 rcases us with _|⟨a0,us⟩
 ·exact absurd hl (by simp)
 rcases us with _|⟨b,us⟩
 ·exact h a0
 ·exact absurd hl (by simp)
theorem Zjh{P:List Xc->Prop}(h:∀a0 a1,P [a0,a1]):∀us:List Xc,us.length=2->P us:=λus hl=>by
 rcases us with _|⟨a0,us⟩
 ·exact absurd hl (by simp)
 rcases us with _|⟨a1,us⟩
 ·exact absurd hl (by simp)
 rcases us with _|⟨b,us⟩
 ·exact h a0 a1
 ·exact absurd hl (by simp)
theorem Yd4{P:List Xc->Prop}(h:∀a0 a1 a2 a3,P [a0,a1,a2,a3]):∀us:List Xc,us.length=4->P us:=λus hl=>by
 rcases us with _|⟨a0,us⟩
 ·exact absurd hl (by simp)
 rcases us with _|⟨a1,us⟩
 ·exact absurd hl (by simp)
 rcases us with _|⟨a2,us⟩
 ·exact absurd hl (by simp)
 rcases us with _|⟨a3,us⟩
 ·exact absurd hl (by simp)
 rcases us with _|⟨b,us⟩
 ·exact h a0 a1 a2 a3
 ·exact absurd hl (by simp)
theorem Yee{P:List Xc->Prop}(h:∀a0 a1 a2 a3 a4 a5,P [a0,a1,a2,a3,a4,a5]):∀us:List Xc,us.length=6->P us:=λus hl=>by
 rcases us with _|⟨a0,us⟩
 ·exact absurd hl (by simp)
 rcases us with _|⟨a1,us⟩
 ·exact absurd hl (by simp)
 rcases us with _|⟨a2,us⟩
 ·exact absurd hl (by simp)
 rcases us with _|⟨a3,us⟩
 ·exact absurd hl (by simp)
 rcases us with _|⟨a4,us⟩
 ·exact absurd hl (by simp)
 rcases us with _|⟨a5,us⟩
 ·exact absurd hl (by simp)
 rcases us with _|⟨b,us⟩
 ·exact h a0 a1 a2 a3 a4 a5
 ·exact absurd hl (by simp)
noncomputable def top(i:Nat):Stmt:=PySem.Challenge.pw_farcuts_k18_whole_hung_cuts.main.body.getD i (.Pass ⟨0,0,0,0⟩)
noncomputable abbrev Zai:Stmt:=top 34
noncomputable abbrev Zap:Stmt:=top 30
noncomputable abbrev Wy:Stmt:=top 32
noncomputable abbrev Jf:Stmt:=top 31
noncomputable abbrev Jd:Stmt:=top 33
noncomputable abbrev Zam:Stmt:=top 35
noncomputable abbrev Ye:Stmt:=top 7
noncomputable abbrev Zat:Stmt:=top 8
noncomputable abbrev Zhz:Stmt:=top 10
noncomputable abbrev Jg:Stmt:=top 37
noncomputable abbrev Zah:Stmt:=top 29
noncomputable abbrev Zan:Stmt:=top 6
noncomputable abbrev Wf:Stmt:=top 18
noncomputable abbrev Zcy:Stmt:=top 19
noncomputable abbrev Jy:Stmt:=top 36
noncomputable abbrev Zao:Stmt:=top 20
noncomputable abbrev J2:Stmt:=top 21
noncomputable abbrev Zaq:Stmt:=top 23
noncomputable abbrev Zar:Stmt:=top 12
noncomputable abbrev Yr:Stmt:=top 24
noncomputable abbrev Zaj:Stmt:=top 26
noncomputable abbrev Y4:Stmt:=top 27
noncomputable abbrev Zas:Stmt:=top 9
noncomputable abbrev Yz:Stmt:=top 15
noncomputable abbrev Yq:Stmt:=top 13
noncomputable abbrev J1:Stmt:=top 16
noncomputable abbrev Zal:Stmt:=top 22
noncomputable abbrev Zfm:Stmt:=top 38
set_option genInjectivity false in
set_option genSizeOfSpec false in
structure Txt(K:Xd)(mg:Str->Option Xc)(f:Nat->Addr)(fd:Nat->Qn)(cls:Nat->Addr):Prop where
 F_law_once:Fun K "_law_once" "_law_once" Zai (f 0) (fd 0)
 b_law_once:Binds K (fd 0) ["cuts"] []
 m_law_once:mg "_law_once"=some (.ref (f 0))
 F_law_take:Fun K "_law_take" "_law_take" Zap (f 1) (fd 1)
 b_law_take:Binds K (fd 1) ["pool","many"] []
 m_law_take:mg "_law_take"=some (.ref (f 1))
 F_law_figures:Fun K "_law_figures" "_law_figures" Wy (f 2) (fd 2)
 b_law_figures:Binds K (fd 2) ["pool"] []
 m_law_figures:mg "_law_figures"=some (.ref (f 2))
 F_law_lowest:Fun K "_law_lowest" "_law_lowest" Jf (f 3) (fd 3)
 b_law_lowest:Binds K (fd 3) ["top","bottom"] []
 m_law_lowest:mg "_law_lowest"=some (.ref (f 3))
 F_law_weight:Fun K "_law_weight" "_law_weight" Jd (f 4) (fd 4)
 b_law_weight:Binds K (fd 4) ["pool"] []
 m_law_weight:mg "_law_weight"=some (.ref (f 4))
 F_law_cuts:Fun K "_law_cuts" "_law_cuts" Zam (f 5) (fd 5)
 b_law_cuts:Binds K (fd 5) ["pool","many"] []
 m_law_cuts:mg "_law_cuts"=some (.ref (f 5))
 F_greatest_divisor:Fun K "greatest_divisor" "greatest_divisor" Ye (f 6) (fd 6)
 b_greatest_divisor:Binds K (fd 6) ["a","b"] []
 m_greatest_divisor:mg "greatest_divisor"=some (.ref (f 6))
 F_in_least:Fun K "in_least" "in_least" Zat (f 7) (fd 7)
 b_in_least:Binds K (fd 7) ["top","bottom"] []
 m_in_least:mg "in_least"=some (.ref (f 7))
 F_plus:Fun K "plus" "plus" Zhz (f 8) (fd 8)
 b_plus:Binds K (fd 8) ["q","r"] []
 m_plus:mg "plus"=some (.ref (f 8))
 F_law_merged:Fun K "_law_merged" "_law_merged" Jg (f 9) (fd 9)
 b_law_merged:Binds K (fd 9) ["ones"] []
 m_law_merged:mg "_law_merged"=some (.ref (f 9))
 F_law_pool:Fun K "_law_pool" "_law_pool" Zah (f 10) (fd 10)
 b_law_pool:Binds K (fd 10) ["script","k"] []
 m_law_pool:mg "_law_pool"=some (.ref (f 10))
 F_is_whole:Fun K "is_whole" "is_whole" Zan (f 11) (fd 11)
 b_is_whole:Binds K (fd 11) ["thing"] []
 m_is_whole:mg "is_whole"=some (.ref (f 11))
 F_check_points:Fun K "check_points" "check_points" Wf (f 12) (fd 12)
 b_check_points:Binds K (fd 12) ["n","points"] []
 m_check_points:mg "check_points"=some (.ref (f 12))
 F_cut_of:Fun K "cut_of" "cut_of" Zcy (f 13) (fd 13)
 b_cut_of:Binds K (fd 13) ["n","points"] []
 m_cut_of:mg "cut_of"=some (.ref (f 13))
 F_law_sides:Fun K "_law_sides" "_law_sides" Jy (f 14) (fd 14)
 b_law_sides:Binds K (fd 14) ["ones","at","many","others","to","more"] []
 m_law_sides:mg "_law_sides"=some (.ref (f 14))
 F_sides_of:Fun K "sides_of" "sides_of" Zao (f 15) (fd 15)
 b_sides_of:Binds K (fd 15) ["n","cut"] []
 m_sides_of:mg "sides_of"=some (.ref (f 15))
 F_all_sides:Fun K "all_sides" "all_sides" J2 (f 16) (fd 16)
 b_all_sides:Binds K (fd 16) ["n","cuts"] []
 m_all_sides:mg "all_sides"=some (.ref (f 16))
 F_do_cross:Fun K "do_cross" "do_cross" Zaq (f 17) (fd 17)
 b_do_cross:Binds K (fd 17) ["sides","other"] []
 m_do_cross:mg "do_cross"=some (.ref (f 17))
 F_pairs_of:Fun K "pairs_of" "pairs_of" Zar (f 18) (fd 18)
 b_pairs_of:Binds K (fd 18) ["n"] []
 m_pairs_of:mg "pairs_of"=some (.ref (f 18))
 F_first_crossing:Fun K "first_crossing" "first_crossing" Yr (f 19) (fd 19)
 b_first_crossing:Binds K (fd 19) ["n","cuts"] []
 m_first_crossing:mg "first_crossing"=some (.ref (f 19))
 F_is_point:Fun K "is_point" "is_point" Zaj (f 20) (fd 20)
 b_is_point:Binds K (fd 20) ["table","point"] []
 m_is_point:mg "is_point"=some (.ref (f 20))
 F_hung_together:Fun K "hung_together" "hung_together" Y4 (f 21) (fd 21)
 b_hung_together:Binds K (fd 21) ["table","point","other","other_point"] []
 m_hung_together:mg "hung_together"=some (.ref (f 21))
 F_fraction:Fun K "fraction" "fraction" Zas (f 22) (fd 22)
 b_fraction:Binds K (fd 22) ["top","bottom"] []
 m_fraction:mg "fraction"=some (.ref (f 22))
 F_shared_bottom:Fun K "shared_bottom" "shared_bottom" Yz (f 23) (fd 23)
 b_shared_bottom:Binds K (fd 23) ["numbers"] []
 m_shared_bottom:mg "shared_bottom"=some (.ref (f 23))
 F_table_of_pairs:Fun K "table_of_pairs" "table_of_pairs" Yq (f 24) (fd 24)
 b_table_of_pairs:Binds K (fd 24) ["n","distances"] []
 m_table_of_pairs:mg "table_of_pairs"=some (.ref (f 24))
 F_tops_over:Fun K "tops_over" "tops_over" J1 (f 25) (fd 25)
 b_tops_over:Binds K (fd 25) ["bottom","numbers"] []
 m_tops_over:mg "tops_over"=some (.ref (f 25))
 F_table_of:Fun K "table_of" "table_of" Zal (f 26) (fd 26)
 b_table_of:Binds K (fd 26) ["n","cuts"] []
 m_table_of:mg "table_of"=some (.ref (f 26))
 F_law:Fun K "law" "law" Zfm (f 27) (fd 27)
 b_law:Binds K (fd 27) ["script"] []
 m_law:mg "law"=some (.ref (f 27))
 z_abs:mg "abs"=none
 z_bool:mg "bool"=none
 z_enumerate:mg "enumerate"=none
 z_int:mg "int"=none
 z_isinstance:mg "isinstance"=none
 z_len:mg "len"=none
 z_list:mg "list"=none
 z_max:mg "max"=none
 z_min:mg "min"=none
 z_range:mg "range"=none
 z_set:mg "set"=none
 z_sorted:mg "sorted"=none
 z_sum:mg "sum"=none
 z_zip:mg "zip"=none
 mC_NoCut:mg "NoCut"=some (.ref (cls 0))
 ca_NoCut:ClsAt K "NoCut" (cls 0)
 mC_NoNumber:mg "NoNumber"=some (.ref (cls 1))
 ca_NoNumber:ClsAt K "NoNumber" (cls 1)
 mC_NoPoint:mg "NoPoint"=some (.ref (cls 2))
 ca_NoPoint:ClsAt K "NoPoint" (cls 2)
 r_NoCut:Zlh K (cls 0)
 r_NoNumber:Zlh K (cls 1)
 r_NoPoint:Zlh K (cls 2)
 x_NoCut_ga:Qq K (.ref (cls 0)) "__getattribute__"=some (some (.builtin "BaseException.__getattribute__"))
 x_NoCut_gt:Qq K (.ref (cls 0)) "__getattr__"=some none
 x_NoCut_cl:Qq K (.ref (cls 0)) "__class__"=some (some (.builtin "object.__class__"))
 x_NoCut_isB:JS K (.ref (cls 0)) (.type "BaseException")=some true
 x_NoCut_isO:JS K (.ref (cls 0)) (.type "object")=some true
 x_NoCut_isC:Ud K (cls 0)=true
 x_NoCut_k1:XR K (.ref (cls 0)) (.type "int")=some false
 x_NoCut_k2:XR K (.ref (cls 0)) (.type "bool")=some false
 x_NoCut_k3:XR K (.ref (cls 0)) (.type "str")=some false
 x_NoCut_k4:XR K (.ref (cls 0)) (.type "list")=some false
 x_NoCut_k5:XR K (.ref (cls 0)) (.type "tuple")=some false
 x_NoNumber_ga:Qq K (.ref (cls 1)) "__getattribute__"=some (some (.builtin "BaseException.__getattribute__"))
 x_NoNumber_gt:Qq K (.ref (cls 1)) "__getattr__"=some none
 x_NoNumber_cl:Qq K (.ref (cls 1)) "__class__"=some (some (.builtin "object.__class__"))
 x_NoNumber_isB:JS K (.ref (cls 1)) (.type "BaseException")=some true
 x_NoNumber_isO:JS K (.ref (cls 1)) (.type "object")=some true
 x_NoNumber_isC:Ud K (cls 1)=true
 x_NoNumber_k1:XR K (.ref (cls 1)) (.type "int")=some false
 x_NoNumber_k2:XR K (.ref (cls 1)) (.type "bool")=some false
 x_NoNumber_k3:XR K (.ref (cls 1)) (.type "str")=some false
 x_NoNumber_k4:XR K (.ref (cls 1)) (.type "list")=some false
 x_NoNumber_k5:XR K (.ref (cls 1)) (.type "tuple")=some false
 x_NoPoint_ga:Qq K (.ref (cls 2)) "__getattribute__"=some (some (.builtin "BaseException.__getattribute__"))
 x_NoPoint_gt:Qq K (.ref (cls 2)) "__getattr__"=some none
 x_NoPoint_cl:Qq K (.ref (cls 2)) "__class__"=some (some (.builtin "object.__class__"))
 x_NoPoint_isB:JS K (.ref (cls 2)) (.type "BaseException")=some true
 x_NoPoint_isO:JS K (.ref (cls 2)) (.type "object")=some true
 x_NoPoint_isC:Ud K (cls 2)=true
 x_NoPoint_k1:XR K (.ref (cls 2)) (.type "int")=some false
 x_NoPoint_k2:XR K (.ref (cls 2)) (.type "bool")=some false
 x_NoPoint_k3:XR K (.ref (cls 2)) (.type "str")=some false
 x_NoPoint_k4:XR K (.ref (cls 2)) (.type "list")=some false
 x_NoPoint_k5:XR K (.ref (cls 2)) (.type "tuple")=some false
section
variable {P:Qj}{w:Qy}{K:Xd}{mg:Str->Option Xc}{base:Heap}
theorem Zb1:Zw ["cuts","found","cut","weight"] ["cuts"] (Zg Zai):=⟨rfl,rfl,rfl,by decide +kernel,rfl,by decide +kernel,by decide +kernel⟩
theorem Zl8{f:Nat->Addr}{fd:Nat->Qn}{cls:Nat->Addr}(T:Txt K mg f fd cls):FnOk P w K mg base CX0 1 (f 0) (fd 0) ["cuts"] (spD K (sD Js)):=by
 refine Wm T.F_law_once Zb1 (S:=Zcu) rfl rfl (λcdv A outer s H E hr=>?_)
 have hu:=hr.units
 exact(xsq (xso 1 Zb1.nd (xls xa0)) (xsq (xfr Qw rfl (xil (Zvy Zl1 (Z9b Ziu (Zeq Zp6 rfl hu) (by rfl) T.z_sorted L2.B.boot_sorted (xa1 (xv 0))))) (xg2 rfl (xg 2 Zb1.nd) (xg 3 Zb1.nd)) (Zj (xif (MW.mt (Zc2 (Zc1 (xeq hu (xo 1) (xls xa0)) (Zbh (xne hu (xix (xix (xo 1) (Zke (Ztq xci))) xci) (xv 2)))))) (Zj (Jo (Jk 1 (xtp (Ze (xv 2) (xa1 (xv 3))))))) xnl))) (Zj (Zgj (Zgd 1)))))
theorem J4:Zw ["pool","many","found","step","mark"] ["pool","many"] (Zg Zap):=⟨rfl,rfl,rfl,by decide +kernel,rfl,by decide +kernel,by decide +kernel⟩
theorem Zbr{f:Nat->Addr}{fd:Nat->Qn}{cls:Nat->Addr}(T:Txt K mg f fd cls):FnOk P w K mg base CX0 1 (f 1) (fd 1) ["pool","many"] (spI K (sI Zk)):=by
 refine Zni T.F_law_take J4 (S:=Zcv) rfl rfl (λcdv A outer s H E hr=>?_)
 have hu:=hr.units
 exact(xsq (xif (xeq hu (xix (xo 0) xci) xci) (xsq (xst 2 J4.nd (Zut (xix (xo 0) xci) (xv 1))) (xsq (Zmw (Znj 0 (Zw9 (xix (xo 0) xci) (xv 1)) xci)) (Zj (xrt (xv 2))))) xnl) (xsq (Zmw (Znj 0 (Zkt (xix (xo 0) xci) xci) xci)) (xsq (Zy8 (Zy3 (i:=3) J4.nd rfl (QF rfl) (xix (xo 0) xci))) (xsq (xst 4 J4.nd (Zow (Zkt (Zut (xix (xo 0) xci) xci) xci) (Zkt (Zow xci (xv 3)) xci))) (xsq (xst 4 J4.nd (Zkt (xv 4) (Zow (Zow xci (xv 3)) (xv 3)))) (xsq (xst 4 J4.nd (Zut (Zow (xv 4) (xv 4)) xci)) (Zj (xrt (Zut (Zw9 (Zut (Zow (xv 4) (Zkt (xv 4) xci)) xci) xci) (xv 1))))))))))
theorem J5:Zw ["pool","found","turn"] ["pool"] (Zg Wy):=⟨rfl,rfl,rfl,by decide +kernel,rfl,by decide +kernel,by decide +kernel⟩
theorem Zhi{f:Nat->Addr}{fd:Nat->Qn}{cls:Nat->Addr}(T:Txt K mg f fd cls):FnOk P w K mg base CX0 2 (f 2) (fd 2) ["pool"] (spI K (sI Jm)):=by
 have G_law_take:=Zbr (P:=P) (w:=w) (base:=base) T
 refine Zni T.F_law_figures J5 (S:=Za7) rfl rfl (λcdv A outer s H E hr=>?_)
 have hu:=hr.units
 exact(xsq (xst 1 J5.nd xci) (xsq (xfr Qw rfl (Zgk (Wo (by rfl) T.z_range (xa1 (xix (xls (Ze xci (Ze xci (Ze xci (xa1 xci))))) (Yd (Yw (i:=0) G_law_take (hr.mono (by decide)) (by rfl) T.m_law_take T.F_law_take.kp T.b_law_take Za5 (xa1 xci))))))) (xg 2 J5.nd) (Zj (xst 1 J5.nd (Zkt (Zow (xv 1) (Z2n xci xci)) (Yd (Yw (i:=0) G_law_take (hr.mono (by decide)) (by rfl) T.m_law_take T.F_law_take.kp T.b_law_take Za5 (xa1 (Z2n xci xci)))))))) (Zj (xrt (Zut (xv 1) (Z2n xci xci))))))
theorem Jl:Zw ["top","bottom","one","other"] ["top","bottom"] (Zg Jf):=⟨rfl,rfl,rfl,by decide +kernel,rfl,by decide +kernel,by decide +kernel⟩
theorem Ziy{f:Nat->Addr}{fd:Nat->Qn}{cls:Nat->Addr}(T:Txt K mg f fd cls):FnOk P w K mg base CX0 1 (f 3) (fd 3) ["top","bottom"] (spD K (sD Wv)):=by
 refine Wm T.F_law_lowest Jl (S:=Zbf) rfl rfl (λcdv A outer s H E hr=>?_)
 have hu:=hr.units
 exact(xsq (xst 2 Jl.nd (Zc3 Zwe (Zjl Zm2 Zfu (by rfl) T.z_abs L2.B.boot_abs (xa1 (xv 0))))) (xsq (xst 3 Jl.nd (Zc3 Zwe (Zjl Zm2 Zfu (by rfl) T.z_abs L2.B.boot_abs (xa1 (xv 1))))) (xsq (Zmx (Zml Qw (xne hu (xv 3) xci) (Zj (Z5m (Z62 rfl Jl.nd rfl rfl (by decide) rfl rfl (Ze (xv 3) (xa1 (Zut (xv 2) (xv 3))))))))) (xsq (xif (xlt (xv 1) xci) (Zj (xst 2 Jl.nd (Z2l xci (xv 2)))) xnl) (Zj (xrt (xtp (Ze (Zw9 (xv 0) (xv 2)) (xa1 (Zw9 (xv 1) (xv 2)))))))))))
theorem Zih:Zw ["pool"] ["pool"] (Zg Jd):=⟨rfl,rfl,rfl,by decide +kernel,rfl,by decide +kernel,by decide +kernel⟩
theorem Zi8{f:Nat->Addr}{fd:Nat->Qn}{cls:Nat->Addr}(T:Txt K mg f fd cls):FnOk P w K mg base CX0 3 (f 4) (fd 4) ["pool"] (spI K (sI Zu)):=by
 have G_law_figures:=Zhi (P:=P) (w:=w) (base:=base) T
 have G_law_lowest:=Ziy (P:=P) (w:=w) (base:=base) T
 have G_law_take:=Zbr (P:=P) (w:=w) (base:=base) T
 refine Zni T.F_law_weight Zih (S:=Zbm) rfl rfl (λcdv A outer s H E hr=>?_)
 have hu:=hr.units
 exact(xsq (xif (xgt (Yd (Yw (i:=0) G_law_take (hr.mono (by decide)) (by rfl) T.m_law_take T.F_law_take.kp T.b_law_take Za5 (xa1 xci))) xci) (Zj (xrt (xcl G_law_lowest (hr.mono (by decide)) T.m_law_lowest T.F_law_lowest.kp T.b_law_lowest (Ze (Zkt xci (Yd (Yw (i:=0) G_law_take (hr.mono (by decide)) (by rfl) T.m_law_take T.F_law_take.kp T.b_law_take Za5 (xa1 xci)))) (xa1 (xix (xls (Ze xci (Ze xci (Ze xci (xa1 xci))))) (Yd (Yw (i:=0) G_law_take (hr.mono (by decide)) (by rfl) T.m_law_take T.F_law_take.kp T.b_law_take Za5 (xa1 xci))))))))) xnl) (Zj (xrt (xcl G_law_lowest (hr.mono (by decide)) T.m_law_lowest T.F_law_lowest.kp T.b_law_lowest (Ze (Zkt xci (Zut (Yd (Yw (i:=0) G_law_figures (hr.mono (by decide)) (by rfl) T.m_law_figures T.F_law_figures.kp T.b_law_figures Za5 xa0)) (Z2n xci xci))) (xa1 (Zkt xci (Yd (Yw (i:=0) G_law_take (hr.mono (by decide)) (by rfl) T.m_law_take T.F_law_take.kp T.b_law_take Za5 (xa1 xci))))))))))
theorem W9:Zw ["pool","many","kind","found","turn","cut"] ["pool","many"] (Zg Zam):=⟨rfl,rfl,rfl,by decide +kernel,rfl,by decide +kernel,by decide +kernel⟩
theorem Zlc{f:Nat->Addr}{fd:Nat->Qn}{cls:Nat->Addr}(T:Txt K mg f fd cls):FnOk P w K mg base CX0 4 (f 5) (fd 5) ["pool","many"] (spI K (sI Ju)):=by
 have G_law_once:=Zl8 (P:=P) (w:=w) (base:=base) T
 have G_law_take:=Zbr (P:=P) (w:=w) (base:=base) T
 have G_law_weight:=Zi8 (P:=P) (w:=w) (base:=base) T
 refine Zni T.F_law_cuts W9 (S:=Zck) rfl rfl (λcdv A outer s H E hr=>?_)
 have hu:=hr.units
 exact(xsq (xst 2 W9.nd (Yd (Yw (i:=0) G_law_take (hr.mono (by decide)) (by rfl) T.m_law_take T.F_law_take.kp T.b_law_take Za5 (xa1 xci)))) (xsq (xso 3 W9.nd (xls xa0)) (xsq (xif (MW.mt (Zh1 (Zh4 (xgt (xv 1) xci) (Zev (xeq hu (xv 2) xci))))) (Zj (Zkq (Zdi (i:=3) (own:=["point"]) (caps:=[0]) (N':=["point","pool"]) (o:=0) (q:=1) true W9.nd rfl (QF rfl) (by exact⟨rfl,by decide +kernel,rfl,by decide +kernel,rfl,rfl⟩) (by rfl) (by decide) rfl (by decide) (Zwi (Zec (by rfl) T.z_range (Ze xci (xa1 (xv 1))))) (λ_ _ _ _ _=>(xg 0 (by show QT (["point","pool"]:List Str);decide +kernel))) (λ_ _ _ _ _=>(J3 Jz)) (λ_ _ _ _ _=>(Z1d (Z5i (Ze (xls (xa1 (xv 0))) (xa1 (Yd (Yw (i:=1) G_law_weight (hr.mono (by decide)) (by rfl) T.m_law_weight T.F_law_weight.kp T.b_law_weight Za5 xa0)))))))))) xnl) (xsq (xif (MW.mt (Zh1 (Zh4 (xgt (xv 1) xci) (Zev (xeq hu (xv 2) xci))))) (Zj (Zkq (Zdi (i:=3) (own:=["point"]) (caps:=[1,0]) (N':=["point","many","pool"]) (o:=0) (q:=2) true W9.nd rfl (QF rfl) (by exact⟨rfl,by decide +kernel,rfl,by decide +kernel,rfl,rfl⟩) (by rfl) (by decide) rfl (by decide) (Zwi (Zec (by rfl) T.z_range (Ze xci (xa1 (xv 1))))) (λ_ _ _ _ _=>(xg 0 (by show QT (["point","many","pool"]:List Str);decide +kernel))) (λ_ _ _ _ _=>(J3 Jz)) (λ_ _ _ _ _=>(xtp (Ze (Z2r (Zrw (by rfl) (by rfl) T.z_list L2.B.boot_list (by rfl) T.z_range L2.B.boot_range (Ze (xv 0) (xa1 (xv 1))))) (xa1 (Yd (Yw (i:=2) G_law_weight (hr.mono (by decide)) (by rfl) T.m_law_weight T.F_law_weight.kp T.b_law_weight Za5 xa0))))))))) xnl) (xsq (xfr Qw rfl (Zgk (Wo (by rfl) T.z_range (xa1 (xix (xls (Ze (Yd (Yw (i:=0) G_law_take (hr.mono (by decide)) (by rfl) T.m_law_take T.F_law_take.kp T.b_law_take Za5 (xa1 xci))) (xa1 (Yd (Yw (i:=0) G_law_take (hr.mono (by decide)) (by rfl) T.m_law_take T.F_law_take.kp T.b_law_take Za5 (xa1 xci)))))) (Zc3 Z4s (Z51 Zw2 Zka (by rfl) T.z_int L2.B.boot_int (xa1 (Zaa Ya3 (Zpd (Zqd hu) Z0o (Yd (Yw (i:=0) G_law_take (hr.mono (by decide)) (by rfl) T.m_law_take T.F_law_take.kp T.b_law_take Za5 (xa1 xci))) xci (hm:=(Zb4 _))))))))))) (xg 4 W9.nd) (xsq (Zwl (Zdi (i:=5) (own:=["point"]) (caps:=[0]) (N':=["point","pool"]) (o:=0) (q:=1) false W9.nd rfl (QF rfl) (by exact⟨rfl,by decide +kernel,rfl,by decide +kernel,rfl,rfl⟩) (by rfl) (by decide) rfl (by decide) (Zwi (Zec (by rfl) T.z_range (Ze xci (xa1 (xv 1))))) (λ_ _ _ _ _=>(xg 0 (by show QT (["point","pool"]:List Str);decide +kernel))) (λ_ _ _ _ _=>(Zdd (xeq hu (Yd (Yw (i:=1) G_law_take (hr.mono (by decide)) (by rfl) T.m_law_take T.F_law_take.kp T.b_law_take Za5 (xa1 xci))) xci))) (λ_ _ _ _ _=>(xv 0)))) (Zj (xif (xne hu (xv 5) (xls xa0)) (Zj (Jo (Jk 3 (xtp (Ze (xv 5) (xa1 (Yd (Yw (i:=0) G_law_weight (hr.mono (by decide)) (by rfl) T.m_law_weight T.F_law_weight.kp T.b_law_weight Za5 xa0)))))))) xnl)))) (Zj (Zg5 (Zg0 3 (xrt (xcl G_law_once (hr.mono (by decide)) T.m_law_once T.F_law_once.kp T.b_law_once (xa1 (xv 3))))))))))))
theorem Yc:Zw ["a","b","left"] ["a","b"] (Zg Ye):=⟨rfl,rfl,rfl,by decide +kernel,rfl,by decide +kernel,by decide +kernel⟩
theorem Zaw{f:Nat->Addr}{fd:Nat->Qn}{cls:Nat->Addr}(T:Txt K mg f fd cls):FnOk P w K mg base CX0 1 (f 6) (fd 6) ["a","b"] (spD K (sD Z3)):=by
 refine Wm T.F_greatest_divisor Yc (S:=Jj) rfl rfl (λcdv A outer s H E hr=>?_)
 have hu:=hr.units
 exact(xsq (xst 0 Yc.nd (Zc3 Zwe (Zjl Zm2 Zfu (by rfl) T.z_abs L2.B.boot_abs (xa1 (xv 0))))) (xsq (xst 1 Yc.nd (Zc3 Zwe (Zjl Zm2 Zfu (by rfl) T.z_abs L2.B.boot_abs (xa1 (xv 1))))) (xsq (Zmx (Zml Qw (xne hu (xv 1) xci) (xsq (xst 2 Yc.nd (Zut (xv 0) (xv 1))) (xsq (xst 0 Yc.nd (xv 1)) (Zj (xst 1 Yc.nd (xv 2))))))) (Zj (xrt (xv 0))))))
theorem Zdm:Zw ["top","bottom","shared"] ["top","bottom"] (Zg Zat):=⟨rfl,rfl,rfl,by decide +kernel,rfl,by decide +kernel,by decide +kernel⟩
theorem Zdg{f:Nat->Addr}{fd:Nat->Qn}{cls:Nat->Addr}(T:Txt K mg f fd cls):FnOk P w K mg base CX0 2 (f 7) (fd 7) ["top","bottom"] (spD K (sD Jv)):=by
 have G_greatest_divisor:=Zaw (P:=P) (w:=w) (base:=base) T
 refine Wm T.F_in_least Zdm (S:=Zcs) rfl rfl (λcdv A outer s H E hr=>?_)
 have hu:=hr.units
 exact(xsq (xst 2 Zdm.nd (xcl G_greatest_divisor (hr.mono (by decide)) T.m_greatest_divisor T.F_greatest_divisor.kp T.b_greatest_divisor (Ze (xv 0) (xa1 (xv 1))))) (xsq (xif (xlt (xv 1) xci) (Zj (xst 2 Zdm.nd (Zke (Ztq (xv 2))))) xnl) (Zj (xrt (xtp (Ze (Zw9 (xv 0) (xv 2)) (xa1 (Zw9 (xv 1) (xv 2)))))))))
theorem Z14:Zw ["q","r"] ["q","r"] (Zg Zhz):=⟨rfl,rfl,rfl,by decide +kernel,rfl,by decide +kernel,by decide +kernel⟩
theorem Zl6{f:Nat->Addr}{fd:Nat->Qn}{cls:Nat->Addr}(T:Txt K mg f fd cls):FnOk P w K mg base CX0 3 (f 8) (fd 8) ["q","r"] (spD K (sD Wr)):=by
 have G_in_least:=Zdg (P:=P) (w:=w) (base:=base) T
 refine Wm T.F_plus Z14 (S:=Zg4) rfl rfl (λcdv A outer s H E hr=>?_)
 have hu:=hr.units
 exact(Zj (xrt (xcl G_in_least (hr.mono (by decide)) T.m_in_least T.F_in_least.kp T.b_in_least (Ze (Zkt (Zow (xix (xv 0) xci) (xix (xv 1) xci)) (Zow (xix (xv 1) xci) (xix (xv 0) xci))) (xa1 (Zow (xix (xv 0) xci) (xix (xv 1) xci)))))))
theorem Zaf:Zw ["ones","found","cut","weight"] ["ones"] (Zg Jg):=⟨rfl,rfl,rfl,by decide +kernel,rfl,by decide +kernel,by decide +kernel⟩
theorem Zic{f:Nat->Addr}{fd:Nat->Qn}{cls:Nat->Addr}(T:Txt K mg f fd cls):FnOk P w K mg base CX0 4 (f 9) (fd 9) ["ones"] (spD K (sD Wx)):=by
 have G_plus:=Zl6 (P:=P) (w:=w) (base:=base) T
 refine Wm T.F_law_merged Zaf (S:=Zbe) rfl rfl (λcdv A outer s H E hr=>?_)
 have hu:=hr.units
 exact(xsq (xso 1 Zaf.nd (xls xa0)) (xsq (xfr Qw rfl (xil (Zvy Zl1 (Z9b Ziu (Zeq Zp6 rfl hu) (by rfl) T.z_sorted L2.B.boot_sorted (xa1 (xv 0))))) (xg2 rfl (xg 2 Zaf.nd) (xg 3 Zaf.nd)) (Zj (xif (MW.mt (Zh1 (Zh4 (xne hu (xo 1) (xls xa0)) (Zev (xeq hu (xix (xix (xo 1) (Zke (Ztq xci))) xci) (xv 2)))))) (Zj (Zmw (Znj 1 (xtp (Ze (xv 2) (xa1 (xcl G_plus (hr.mono (by decide)) T.m_plus T.F_plus.kp T.b_plus (Ze (Zq5 (Zx2 (xix (xix (xo 1) (Zke (Ztq xci))) xci))) (xa1 (xv 3))))))) (Zke (Ztq xci))))) (Zj (Jo (Jk 1 (xtp (Ze (xv 2) (xa1 (xv 3)))))))))) (Zj (Zgj (Zgd 1)))))
theorem Zdf:Zw ["script","k","cell"] ["script","k"] (Zg Zah):=⟨rfl,rfl,rfl,by decide +kernel,rfl,by decide +kernel,by decide +kernel⟩
theorem Zlv{f:Nat->Addr}{fd:Nat->Qn}{cls:Nat->Addr}(T:Txt K mg f fd cls):FnOk P w K mg base CX0 1 (f 10) (fd 10) ["script","k"] (spD K (sD Ws)):=by
 refine Wm T.F_law_pool Zdf (S:=Jp) rfl rfl (λcdv A outer s H E hr=>?_)
 have hu:=hr.units
 exact(xsq (xst 2 Zdf.nd xci) (xsq (xif (xlt (xv 1) (xln T.z_len (xa1 (xv 0)))) (Zj (xst 2 Zdf.nd (xix (xv 0) (xv 1)))) xnl) (xsq (xif (xge (xv 2) (Z2n xci xci)) (Zj (xrt (xls (Ze (Z2l (xv 2) (Z2n xci xci)) (Ze xci (xa1 xci)))))) xnl) (Zj (xrt (xls (Ze (xv 2) (Ze xci (xa1 (Zow xci (xv 1)))))))))))
theorem Zlw:Zw ["thing"] ["thing"] (Zg Zan):=⟨rfl,rfl,rfl,by decide +kernel,rfl,by decide +kernel,by decide +kernel⟩
theorem Zbs{f:Nat->Addr}{fd:Nat->Qn}{cls:Nat->Addr}(T:Txt K mg f fd cls):FnOk P w K mg base CX0 1 (f 11) (fd 11) ["thing"] (spD K (sD Yn)):=by
 refine Wm T.F_is_whole Zlw (S:=Zcr) rfl rfl (λcdv A outer s H E hr=>?_)
 have hu:=hr.units
 exact(Zj (xrt (Zrc (Z4k (Zwq (Z60 (by decide) (by rfl) T.z_isinstance L2.B.boot_isinstance (by rfl) T.z_int L2.B.boot_int (xv 0))) (Z4c (Zz2 (Yax (Zwq (Z60 (by decide) (by rfl) T.z_isinstance L2.B.boot_isinstance (by rfl) T.z_bool L2.B.boot_bool (xv 0))))))))))
theorem Jq:Zw ["n","points","point"] ["n","points"] (Zg Wf):=⟨rfl,rfl,rfl,by decide +kernel,rfl,by decide +kernel,by decide +kernel⟩
theorem Zcn{f:Nat->Addr}{fd:Nat->Qn}{cls:Nat->Addr}(T:Txt K mg f fd cls):FnOk P w K mg base CX0 2 (f 12) (fd 12) ["n","points"] (spD K (sD Ym)):=by
 have G_is_whole:=Zbs (P:=P) (w:=w) (base:=base) T
 refine Wm T.F_check_points Jq (S:=Y8) rfl rfl (λcdv A outer s H E hr=>?_)
 have hu:=hr.units
 exact(Zj (xfr Qw rfl (xil (xv 1)) (xg 2 Jq.nd) (Zj (xif (MW.mt (Zc2 (Zc1 (xno (Zac (Zad (xcl G_is_whole (hr.mono (by decide)) T.m_is_whole T.F_is_whole.kp T.b_is_whole (xa1 (xv 2))) (λ_=>rfl)))) (Zbh (xno (Zio (Zjf Zug Zqx xci (xv 2) (xv 0)))))))) (Zj Za9) xnl))))
theorem Zb3{f:Nat->Addr}{fd:Nat->Qn}{cls:Nat->Addr}(T:Txt K mg f fd cls):FnOk P w K mg base (CX1 P w) 2 (f 12) (fd 12) ["n","points"] (spX K (sX K Ym)):=by
 have G_is_whole:=Zbs (P:=P) (w:=w) (base:=base) T
 refine Zmj T.F_check_points Jq (S:=Y8) rfl rfl (λcdv A outer s H E hr=>?_)
 have hu:=hr.units
 exact(Ze6 (Z40 (Z6v rfl (xil (xv 1)) (xg 2 Jq.nd) (Zj (xif (MW.mt (Zc2 (Zc1 (xno (Zac (Zad (xcl G_is_whole (hr.mono (by decide)) T.m_is_whole T.F_is_whole.kp T.b_is_whole (xa1 (xv 2))) (λ_=>rfl)))) (Zbh (xno (Zio (Zjf Zug Zqx xci (xv 2) (xv 0)))))))) (Zj Za9) xnl)) (Ze6 (Zul (Zud (MW.mt (Zc2 (Zc1 (xno (Zac (Zad (xcl G_is_whole (hr.mono (by decide)) T.m_is_whole T.F_is_whole.kp T.b_is_whole (xa1 (xv 2))) (λ_=>rfl)))) (Zbh (xno (Zio (Zjf Zug Zqx xci (xv 2) (xv 0)))))))) (Ze6 (Zf7 T.ca_NoCut (Zf3 rfl hr.hd (by rfl) T.mC_NoCut T.r_NoCut))) (Zga _)))))))
theorem Zd3:Zw ["n","points","others"] ["n","points"] (Zg Zcy):=⟨rfl,rfl,rfl,by decide +kernel,rfl,by decide +kernel,by decide +kernel⟩
theorem Zry{f:Nat->Addr}{fd:Nat->Qn}{cls:Nat->Addr}(T:Txt K mg f fd cls):FnOk P w K mg base CX0 3 (f 13) (fd 13) ["n","points"] (spD K (sD Wc)):=by
 have G_check_points:=Zcn (P:=P) (w:=w) (base:=base) T
 have GX_check_points:=Zb3 (P:=P) (w:=w) (base:=base) T
 refine Wm T.F_cut_of Zd3 (S:=Zby) rfl rfl (λcdv A outer s H E hr=>?_)
 have hu:=hr.units
 exact(xsq (Yck (Zqb (Zta (xcl G_check_points (hr.mono (by decide)) T.m_check_points T.F_check_points.kp T.b_check_points (Ze (xv 0) (xa1 (xv 1))))))) (xsq (Zdn (Jc (i:=2) (own:=["point"]) (caps:=[1]) (N':=["point","points"]) false Zd3.nd rfl (QF rfl) (by exact⟨rfl,by decide +kernel,rfl,by decide +kernel,rfl,rfl⟩) (by rfl) (by decide) (Zgk (Wo (by rfl) T.z_range (xa1 (xv 0)))) (λ_ _ _ _ _=>(xg 0 (by show QT (["point","points"]:List Str);decide +kernel))) (λ_ _ _ _ _=>(Zdd (Zca Zn3 (Zb9 (Zj1 rfl) Zof (xv 0) (xv 1) (hm:=(by with_unfolding_all rfl)))))) (λ_ _ _ _ _=>(xv 0)))) (xsq (xif (MW.mt (Zc2 (Zc1 (xeq hu (xln T.z_len (xa1 (xv 1))) xci) (Zbh (xeq hu (xln T.z_len (xa1 (xv 2))) xci))))) (Zj Za9) xnl) (xsq (xif (Zca Zn3 (Zb9 (Znf rfl) Zof xci (xv 1) (hm:=(by with_unfolding_all rfl)))) (Zj (xrt (xv 2))) xnl) (Zj (xrt (Zov (Ztj (by rfl) (by rfl) T.z_sorted L2.B.boot_sorted (by rfl) T.z_set L2.B.boot_set (xa1 (xv 1))))))))))
theorem Zo5{f:Nat->Addr}{fd:Nat->Qn}{cls:Nat->Addr}(T:Txt K mg f fd cls):FnOk P w K mg base (CX1 P w) 3 (f 13) (fd 13) ["n","points"] (spX K (sX K Wc)):=by
 have G_check_points:=Zcn (P:=P) (w:=w) (base:=base) T
 have GX_check_points:=Zb3 (P:=P) (w:=w) (base:=base) T
 refine Zmj T.F_cut_of Zd3 (S:=Zby) rfl rfl (λcdv A outer s H E hr=>?_)
 have hu:=hr.units
 exact(Zks (Z1m (Zz8 (Z2b GX_check_points (hr.mono (by decide)) (by rfl) T.m_check_points T.F_check_points.kp T.b_check_points (Ze (xv 0) (xa1 (xv 1)))))) (Yck (Zqb (Zta (xcl G_check_points (hr.mono (by decide)) T.m_check_points T.F_check_points.kp T.b_check_points (Ze (xv 0) (xa1 (xv 1))))))) (Zks (Yas _) (Zdn (Jc (i:=2) (own:=["point"]) (caps:=[1]) (N':=["point","points"]) false Zd3.nd rfl (QF rfl) (by exact⟨rfl,by decide +kernel,rfl,by decide +kernel,rfl,rfl⟩) (by rfl) (by decide) (Zgk (Wo (by rfl) T.z_range (xa1 (xv 0)))) (λ_ _ _ _ _=>(xg 0 (by show QT (["point","points"]:List Str);decide +kernel))) (λ_ _ _ _ _=>(Zdd (Zca Zn3 (Zb9 (Zj1 rfl) Zof (xv 0) (xv 1) (hm:=(by with_unfolding_all rfl)))))) (λ_ _ _ _ _=>(xv 0)))) (Zks (Zul (Zud (MW.mt (Zc2 (Zc1 (xeq hu (xln T.z_len (xa1 (xv 1))) xci) (Zbh (xeq hu (xln T.z_len (xa1 (xv 2))) xci))))) (Ze6 (Zf7 T.ca_NoCut (Zf3 rfl hr.hd (by rfl) T.mC_NoCut T.r_NoCut))) (Zga _))) (xif (MW.mt (Zc2 (Zc1 (xeq hu (xln T.z_len (xa1 (xv 1))) xci) (Zbh (xeq hu (xln T.z_len (xa1 (xv 2))) xci))))) (Zj Za9) xnl) (Zga _))))
theorem Yj:Zw ["ones","at","many","others","to","more","places","found","cut","weight","side","first"] ["ones","at","many","others","to","more"] (Zg Jy):=⟨rfl,rfl,rfl,by decide +kernel,rfl,by decide +kernel,by decide +kernel⟩
theorem Zjx{f:Nat->Addr}{fd:Nat->Qn}{cls:Nat->Addr}(T:Txt K mg f fd cls):FnOk P w K mg base CX0 4 (f 14) (fd 14) ["ones","at","many","others","to","more"] (spD K (sD J9)):=by
 have G_cut_of:=Zry (P:=P) (w:=w) (base:=base) T
 have GX_cut_of:=Zo5 (P:=P) (w:=w) (base:=base) T
 refine Wm T.F_law_sides Yj (S:=Zb7) rfl rfl (λcdv A outer s H E hr=>?_)
 have hu:=hr.units
 exact(xsq (Zq3 (Zsr (i:=6) Yj.nd rfl (QJ rfl) (Zbv (Zdx (own:=["k"]) (caps:=[2,4]) (N':=["k","many","to"]) (by exact⟨rfl,by decide +kernel,rfl,by decide +kernel,rfl,rfl⟩) (by rfl) (by decide) (Zgk (Wo (by rfl) T.z_range (xa1 (xv 5)))) (λ_ _ _ _ _=>(xg 0 (by show QT (["k","many","to"]:List Str);decide +kernel))) (λ_ _ _ _ _=>(J3 Jz)) (λ_ _ _ _ _=>(Z2l (Zkt (xv 1) (xv 0)) (Zc3 Z4s (Z51 Zw2 Zka (by rfl) T.z_int L2.B.boot_int (xa1 (Zaa Ycy (Zpd Z6i Znz (xv 0) (xv 2) (hm:=(Zb4 _))))))))))))) (xsq (Zmw (Znj 6 (xv 1) (xv 4))) (xsq (xso 7 Yj.nd (xls xa0)) (xsq (xfr Qw rfl (xil (xv 0)) (xg2 rfl (xg 8 Yj.nd) (xg 9 Yj.nd)) (xsq (xst 10 Yj.nd (Zn8 (Zhu Zsj (Z48 (Zgp rfl) Zki (xv 8) (Zbv (Zdx (own:=["k","place"]) (caps:=[4,1,8]) (N':=["k","place","to","at","cut"]) (by exact⟨rfl,by decide +kernel,rfl,by decide +kernel,rfl,rfl⟩) (by rfl) (by decide) (Zy0 (Z1t (by rfl) T.z_enumerate L2.B.boot_enumerate (xa1 (xo 6)))) (λ_ _ _ _ _=>(Zxw (Zwp (n:=2) (by rfl) (Zf0 (Zkj (Zm3 (Zmm (i:=0) (by show QT (["k","place","to","at","cut"]:List Str);decide +kernel))) (Zf0 (Zkj (Zm3 (Zmm (i:=1) (by show QT (["k","place","to","at","cut"]:List Str);decide +kernel))) (Zpo Zso)))))))) (λ_ _ _ _ _=>(Zdd (MW.mt (Zh1 (Zh4 (xne hu (xv 0) (xv 2)) (Zev (Zca Zn3 (Zb9 (Znf rfl) Zof (xv 3) (xv 4) (hm:=(by with_unfolding_all rfl)))))))))) (λ_ _ _ _ _=>(xv 1)))))))) (Zj (Jo (Jk 7 (xtp (Ze (xcl G_cut_of (hr.mono (by decide)) T.m_cut_of T.F_cut_of.kp T.b_cut_of (Ze (Z2l (Zkt (xv 2) (xv 5)) xci) (xa1 (xv 10)))) (xa1 (xv 9))))))))) (xsq (xst 11 Yj.nd (xln T.z_len (xa1 (xo 7)))) (xsq (xfr Qw rfl (xil (xv 3)) (xg2 rfl (xg 8 Yj.nd) (xg 9 Yj.nd)) (xsq (xst 10 Yj.nd (Zn8 (Zhu Zsj (Z48 (Zgp rfl) Zki (Zbv (Zdx (own:=["k"]) (caps:=[6]) (N':=["k","places"]) (by exact⟨rfl,by decide +kernel,rfl,by decide +kernel,rfl,rfl⟩) (by rfl) (by decide) (xil (xv 8)) (λ_ _ _ _ _=>(xg 0 (by show QT (["k","places"]:List Str);decide +kernel))) (λ_ _ _ _ _=>(J3 Jz)) (λ_ _ _ _ _=>(Zq5 (Zx2 (xix (xo 1) (xv 0))))))) (Zbv (Zdx (own:=["point"]) (caps:=[1,4,8]) (N':=["point","at","to","cut"]) (by exact⟨rfl,by decide +kernel,rfl,by decide +kernel,rfl,rfl⟩) (by rfl) (by decide) (Zgk (Wo (by rfl) T.z_range (xa1 (xv 2)))) (λ_ _ _ _ _=>(xg 0 (by show QT (["point","at","to","cut"]:List Str);decide +kernel))) (λ_ _ _ _ _=>(Zdd (MW.mt (Zh1 (Zh4 (xne hu (xv 0) (xv 1)) (Zev (Zca Zn3 (Zb9 (Znf rfl) Zof (xv 2) (xv 3) (hm:=(by with_unfolding_all rfl)))))))))) (λ_ _ _ _ _=>(xv 0)))))))) (Zj (Jo (Jk 7 (xtp (Ze (xcl G_cut_of (hr.mono (by decide)) T.m_cut_of T.F_cut_of.kp T.b_cut_of (Ze (Z2l (Zkt (xv 2) (xv 5)) xci) (xa1 (xv 10)))) (xa1 (xv 9))))))))) (Zj (Zg5 (Zg0 7 (xrt (xls (Ze (Z4p (Z3t (xv 7) (Zto Zrf) (Zpt (Ztb (xv 11))))) (xa1 (Z4p (Z3t (xv 7) (Zpt (Ztb (xv 11))) (Zto Zrf))))))))))))))))
theorem Zl3:Zw ["n","cut"] ["n","cut"] (Zg Zao):=⟨rfl,rfl,rfl,by decide +kernel,rfl,by decide +kernel,by decide +kernel⟩
theorem Zlb{f:Nat->Addr}{fd:Nat->Qn}{cls:Nat->Addr}(T:Txt K mg f fd cls):FnOk P w K mg base CX0 1 (f 15) (fd 15) ["n","cut"] (spD K (sD Zay)):=by
 refine Wm T.F_sides_of Zl3 (S:=Zci) rfl rfl (λcdv A outer s H E hr=>?_)
 have hu:=hr.units
 exact(Zj (xrt (Zbv (Zdx (own:=["point"]) (caps:=[1]) (N':=["point","cut"]) (by exact⟨rfl,by decide +kernel,rfl,by decide +kernel,rfl,rfl⟩) (by rfl) (by decide) (Zgk (Wo (by rfl) T.z_range (xa1 (xv 0)))) (λ_ _ _ _ _=>(xg 0 (by show QT (["point","cut"]:List Str);decide +kernel))) (λ_ _ _ _ _=>(J3 Jz)) (λ_ _ _ _ _=>(Zn8 (Yal (Ydj (Zca Zn3 (Zb9 (Znf rfl) Zof (xv 0) (xv 1) (hm:=(by with_unfolding_all rfl)))) xci xci))))))))
theorem Zk4:Zw ["n","cuts"] ["n","cuts"] (Zg J2):=⟨rfl,rfl,rfl,by decide +kernel,rfl,by decide +kernel,by decide +kernel⟩
theorem Zfh{f:Nat->Addr}{fd:Nat->Qn}{cls:Nat->Addr}(T:Txt K mg f fd cls):FnOk P w K mg base CX0 2 (f 16) (fd 16) ["n","cuts"] (spD K (sD W5)):=by
 have G_sides_of:=Zlb (P:=P) (w:=w) (base:=base) T
 refine Wm T.F_all_sides Zk4 (S:=Zb6) rfl rfl (λcdv A outer s H E hr=>?_)
 have hu:=hr.units
 exact(Zj (xrt (Zbv (Zdx (own:=["weighted"]) (caps:=[0]) (N':=["weighted","n"]) (by exact⟨rfl,by decide +kernel,rfl,by decide +kernel,rfl,rfl⟩) (by rfl) (by decide) (xil (xv 1)) (λ_ _ _ _ _=>(xg 0 (by show QT (["weighted","n"]:List Str);decide +kernel))) (λ_ _ _ _ _=>(J3 Jz)) (λ_ _ _ _ _=>(xcl G_sides_of (hr.mono (by decide)) T.m_sides_of T.F_sides_of.kp T.b_sides_of (Ze (xv 1) (xa1 (xix (xv 0) xci)))))))))
theorem Zls:Zw ["sides","other"] ["sides","other"] (Zg Zaq):=⟨rfl,rfl,rfl,by decide +kernel,rfl,by decide +kernel,by decide +kernel⟩
theorem Zla{f:Nat->Addr}{fd:Nat->Qn}{cls:Nat->Addr}(T:Txt K mg f fd cls):FnOk P w K mg base CX0 1 (f 17) (fd 17) ["sides","other"] (spD K (sD Za2)):=by
 refine Wm T.F_do_cross Zls (S:=Zch) rfl rfl (λcdv A outer s H E hr=>?_)
 have hu:=hr.units
 exact(Zj (xrt (Zaa Ya3 (Zpd (Zqd hu) Z0o (Zn9 (Zrq (by rfl) hu (by rfl) T.z_len L2.B.boot_len (by rfl) T.z_set L2.B.boot_set (xa1 (Zbv (Zdx (own:=["a","b"]) (caps:=[]) (N':=["a","b"]) (by exact⟨rfl,by decide +kernel,rfl,by decide +kernel,rfl,rfl⟩) (by rfl) (by decide) (Zlu (Zld (by rfl) T.z_zip L2.B.boot_zip (Ze (xv 0) (xa1 (xv 1))))) (λ_ _ _ _ _=>(xg2 rfl (xg 0 (by show QT (["a","b"]:List Str);decide +kernel)) (xg 1 (by show QT (["a","b"]:List Str);decide +kernel)))) (λ_ _ _ _ _=>(J3 Jz)) (λ_ _ _ _ _=>(xtp (Ze (xv 0) (xa1 (xv 1)))))))))) xci (hm:=(Zb4 _))))))
theorem Zbz:Zw ["n","pairs","i","j"] ["n"] (Zg Zar):=⟨rfl,rfl,rfl,by decide +kernel,rfl,by decide +kernel,by decide +kernel⟩
theorem Zdl{f:Nat->Addr}{fd:Nat->Qn}{cls:Nat->Addr}(T:Txt K mg f fd cls):FnOk P w K mg base CX0 1 (f 18) (fd 18) ["n"] (spD K (sD Yl)):=by
 refine Wm T.F_pairs_of Zbz (S:=Zce) rfl rfl (λcdv A outer s H E hr=>?_)
 have hu:=hr.units
 exact(xsq (xso 1 Zbz.nd (xls xa0)) (xsq (xfr Qw rfl (Zgk (Wo (by rfl) T.z_range (xa1 (xv 0)))) (xg 2 Zbz.nd) (Zj (xfr Qw rfl (Zwi (Zec (by rfl) T.z_range (Ze (Zkt (xv 2) xci) (xa1 (xv 0))))) (xg 3 Zbz.nd) (Zj (Jo (Jk 1 (xtp (Ze (xv 2) (xa1 (xv 3)))))))))) (Zj (Zgj (Zgd 1)))))
theorem Wz:Zw ["n","cuts","sides","a","b"] ["n","cuts"] (Zg Yr):=⟨rfl,rfl,rfl,by decide +kernel,rfl,by decide +kernel,by decide +kernel⟩
theorem Ze3{f:Nat->Addr}{fd:Nat->Qn}{cls:Nat->Addr}(T:Txt K mg f fd cls):FnOk P w K mg base CX0 3 (f 19) (fd 19) ["n","cuts"] (spD K (sD Zo)):=by
 have G_all_sides:=Zfh (P:=P) (w:=w) (base:=base) T
 have G_do_cross:=Zla (P:=P) (w:=w) (base:=base) T
 have G_pairs_of:=Zdl (P:=P) (w:=w) (base:=base) T
 refine Wm T.F_first_crossing Wz (S:=Wu) rfl rfl (λcdv A outer s H E hr=>?_)
 have hu:=hr.units
 exact(xsq (xst 2 Wz.nd (xcl G_all_sides (hr.mono (by decide)) T.m_all_sides T.F_all_sides.kp T.b_all_sides (Ze (xv 0) (xa1 (xv 1))))) (xsq (xfr Qw rfl (xil (xcl G_pairs_of (hr.mono (by decide)) T.m_pairs_of T.F_pairs_of.kp T.b_pairs_of (xa1 (xln T.z_len (xa1 (xv 2)))))) (xg2 rfl (xg 3 Wz.nd) (xg 4 Wz.nd)) (Zj (xif (Zac (Zad (xcl G_do_cross (hr.mono (by decide)) T.m_do_cross T.F_do_cross.kp T.b_do_cross (Ze (xix (xv 2) (xv 3)) (xa1 (xix (xv 2) (xv 4))))) (λ_=>rfl))) (Zj (xrt (xtp (Ze (xv 3) (xa1 (xv 4)))))) xnl))) (Zj (xrt (Ztu Zj0)))))
theorem Zlf:Zw ["table","point"] ["table","point"] (Zg Zaj):=⟨rfl,rfl,rfl,by decide +kernel,rfl,by decide +kernel,by decide +kernel⟩
theorem Zgo{f:Nat->Addr}{fd:Nat->Qn}{cls:Nat->Addr}(T:Txt K mg f fd cls):FnOk P w K mg base CX0 1 (f 20) (fd 20) ["table","point"] (spD K (sD Ji)):=by
 refine Wm T.F_is_point Zlf (S:=Zcp) rfl rfl (λcdv A outer s H E hr=>?_)
 have hu:=hr.units
 exact(Zj (xrt (Zvl (Zyi Zug Zqx xci (xv 1) (xln T.z_len (xa1 (xv 0)))))))
theorem Z7:Zw ["table","point","other","other_point","behind","hung","row","across","b"] ["table","point","other","other_point"] (Zg Y4):=⟨rfl,rfl,rfl,by decide +kernel,rfl,by decide +kernel,by decide +kernel⟩
theorem Zfp{f:Nat->Addr}{fd:Nat->Qn}{cls:Nat->Addr}(T:Txt K mg f fd cls):FnOk P w K mg base CX0 4 (f 21) (fd 21) ["table","point","other","other_point"] (spD K (sD Yy)):=by
 have G_is_point:=Zgo (P:=P) (w:=w) (base:=base) T
 have G_plus:=Zl6 (P:=P) (w:=w) (base:=base) T
 refine Wm T.F_hung_together Z7 (S:=W2) rfl rfl (λcdv A outer s H E hr=>?_)
 have hu:=hr.units
 exact(xsq (xif (MW.mt (Zc2 (Zc1 (xno (Zac (Zad (xcl G_is_point (hr.mono (by decide)) T.m_is_point T.F_is_point.kp T.b_is_point (Ze (xv 0) (xa1 (xv 1)))) (λ_=>rfl)))) (Zbh (xno (Zac (Zad (xcl G_is_point (hr.mono (by decide)) T.m_is_point T.F_is_point.kp T.b_is_point (Ze (xv 2) (xa1 (xv 3)))) (λ_=>rfl)))))))) (Zj Za9) xnl) (xsq (Zdn (Jc (i:=4) (own:=["b"]) (caps:=[3]) (N':=["b","other_point"]) false Z7.nd rfl (QF rfl) (by exact⟨rfl,by decide +kernel,rfl,by decide +kernel,rfl,rfl⟩) (by rfl) (by decide) (Zgk (Wo (by rfl) T.z_range (xa1 (xln T.z_len (xa1 (xv 2)))))) (λ_ _ _ _ _=>(xg 0 (by show QT (["b","other_point"]:List Str);decide +kernel))) (λ_ _ _ _ _=>(Zdd (xne hu (xv 0) (xv 1)))) (λ_ _ _ _ _=>(xv 0)))) (xsq (xso 5 Z7.nd (xls xa0)) (xsq (xfr Qw rfl (xil (xv 0)) (xg 6 Z7.nd) (xsq (Zdn (Jc (i:=7) (own:=["b"]) (caps:=[6,1,2,3]) (N':=["b","row","point","other","other_point"]) false Z7.nd rfl (QF rfl) (by exact⟨rfl,by decide +kernel,rfl,by decide +kernel,rfl,rfl⟩) (by rfl) (by decide) (xil (xv 4)) (λ_ _ _ _ _=>(xg 0 (by show QT (["b","row","point","other","other_point"]:List Str);decide +kernel))) (λ_ _ _ _ _=>(J3 Jz)) (λ_ _ _ _ _=>(xcl G_plus (hr.mono (by decide)) T.m_plus T.F_plus.kp T.b_plus (Ze (xix (xv 1) (xv 2)) (xa1 (xix (xix (xv 3) (xv 4)) (xv 0)))))))) (Zj (Jo (Jk 5 (Zn8 (Zhu Zsj (Z48 (Zgp rfl) Zki (Zvy Z3q (Yeu Zzb (Zoi rfl) (by rfl) T.z_list L2.B.boot_list (xa1 (xv 6)))) (xv 7))))))))) (xsq (xfr Qw rfl (xil (xv 4)) (xg 8 Z7.nd) (xsq (Zdn (Jc (i:=7) (own:=["r"]) (caps:=[2,8,3]) (N':=["r","other","b","other_point"]) false Z7.nd rfl (QF rfl) (by exact⟨rfl,by decide +kernel,rfl,by decide +kernel,rfl,rfl⟩) (by rfl) (by decide) (xil (xix (xv 0) (xv 1))) (λ_ _ _ _ _=>(xg 0 (by show QT (["r","other","b","other_point"]:List Str);decide +kernel))) (λ_ _ _ _ _=>(J3 Jz)) (λ_ _ _ _ _=>(xcl G_plus (hr.mono (by decide)) T.m_plus T.F_plus.kp T.b_plus (Ze (xix (xix (xv 1) (xv 2)) (xv 3)) (xa1 (xv 0))))))) (Zj (Jo (Jk 5 (Zn8 (Zhu Zsj (Z48 (Zgp rfl) Zki (xv 7) (Zbv (Zdx (own:=["c"]) (caps:=[2,8]) (N':=["c","other","b"]) (by exact⟨rfl,by decide +kernel,rfl,by decide +kernel,rfl,rfl⟩) (by rfl) (by decide) (xil (xv 4)) (λ_ _ _ _ _=>(xg 0 (by show QT (["c","other","b"]:List Str);decide +kernel))) (λ_ _ _ _ _=>(J3 Jz)) (λ_ _ _ _ _=>(xix (xix (xv 1) (xv 2)) (xv 0))))))))))))) (Zj (Zgj (Zgd 5))))))))
theorem Zeg{f:Nat->Addr}{fd:Nat->Qn}{cls:Nat->Addr}(T:Txt K mg f fd cls):FnOk P w K mg base (CX1 P w) 4 (f 21) (fd 21) ["table","point","other","other_point"] (spX K (sX K Yy)):=by
 have G_is_point:=Zgo (P:=P) (w:=w) (base:=base) T
 have G_plus:=Zl6 (P:=P) (w:=w) (base:=base) T
 refine Zmj T.F_hung_together Z7 (S:=W2) rfl rfl (λcdv A outer s H E hr=>?_)
 have hu:=hr.units
 exact(Zks (Zul (Zud (MW.mt (Zc2 (Zc1 (xno (Zac (Zad (xcl G_is_point (hr.mono (by decide)) T.m_is_point T.F_is_point.kp T.b_is_point (Ze (xv 0) (xa1 (xv 1)))) (λ_=>rfl)))) (Zbh (xno (Zac (Zad (xcl G_is_point (hr.mono (by decide)) T.m_is_point T.F_is_point.kp T.b_is_point (Ze (xv 2) (xa1 (xv 3)))) (λ_=>rfl)))))))) (Ze6 (Zf7 T.ca_NoPoint (Zf3 rfl hr.hd (by rfl) T.mC_NoPoint T.r_NoPoint))) (Zga _))) (xif (MW.mt (Zc2 (Zc1 (xno (Zac (Zad (xcl G_is_point (hr.mono (by decide)) T.m_is_point T.F_is_point.kp T.b_is_point (Ze (xv 0) (xa1 (xv 1)))) (λ_=>rfl)))) (Zbh (xno (Zac (Zad (xcl G_is_point (hr.mono (by decide)) T.m_is_point T.F_is_point.kp T.b_is_point (Ze (xv 2) (xa1 (xv 3)))) (λ_=>rfl)))))))) (Zj Za9) xnl) (Zga _))
theorem Zgr:Zw ["top","bottom"] ["top","bottom"] (Zg Zas):=⟨rfl,rfl,rfl,by decide +kernel,rfl,by decide +kernel,by decide +kernel⟩
theorem Zk9{f:Nat->Addr}{fd:Nat->Qn}{cls:Nat->Addr}(T:Txt K mg f fd cls):FnOk P w K mg base CX0 3 (f 22) (fd 22) ["top","bottom"] (spD K (sD Y0)):=by
 have G_in_least:=Zdg (P:=P) (w:=w) (base:=base) T
 have G_is_whole:=Zbs (P:=P) (w:=w) (base:=base) T
 refine Wm T.F_fraction Zgr (S:=Zaz) rfl rfl (λcdv A outer s H E hr=>?_)
 have hu:=hr.units
 exact(xsq (xif (MW.mt (Zc2 (Zc1 (xno (Zac (Zad (xcl G_is_whole (hr.mono (by decide)) T.m_is_whole T.F_is_whole.kp T.b_is_whole (xa1 (xv 0))) (λ_=>rfl)))) (Zc2 (Zc1 (xno (Zac (Zad (xcl G_is_whole (hr.mono (by decide)) T.m_is_whole T.F_is_whole.kp T.b_is_whole (xa1 (xv 1))) (λ_=>rfl)))) (Zbh (xeq hu (xv 1) xci))))))) (Zj Za9) xnl) (Zj (xrt (xcl G_in_least (hr.mono (by decide)) T.m_in_least T.F_in_least.kp T.b_in_least (Ze (xv 0) (xa1 (xv 1)))))))
theorem Zku{f:Nat->Addr}{fd:Nat->Qn}{cls:Nat->Addr}(T:Txt K mg f fd cls):FnOk P w K mg base (CX1 P w) 3 (f 22) (fd 22) ["top","bottom"] (spX K (sX K Y0)):=by
 have G_in_least:=Zdg (P:=P) (w:=w) (base:=base) T
 have G_is_whole:=Zbs (P:=P) (w:=w) (base:=base) T
 refine Zmj T.F_fraction Zgr (S:=Zaz) rfl rfl (λcdv A outer s H E hr=>?_)
 have hu:=hr.units
 exact(Zks (Zul (Zud (MW.mt (Zc2 (Zc1 (xno (Zac (Zad (xcl G_is_whole (hr.mono (by decide)) T.m_is_whole T.F_is_whole.kp T.b_is_whole (xa1 (xv 0))) (λ_=>rfl)))) (Zc2 (Zc1 (xno (Zac (Zad (xcl G_is_whole (hr.mono (by decide)) T.m_is_whole T.F_is_whole.kp T.b_is_whole (xa1 (xv 1))) (λ_=>rfl)))) (Zbh (xeq hu (xv 1) xci))))))) (Ze6 (Zf7 T.ca_NoNumber (Zf3 rfl hr.hd (by rfl) T.mC_NoNumber T.r_NoNumber))) (Zga _))) (xif (MW.mt (Zc2 (Zc1 (xno (Zac (Zad (xcl G_is_whole (hr.mono (by decide)) T.m_is_whole T.F_is_whole.kp T.b_is_whole (xa1 (xv 0))) (λ_=>rfl)))) (Zc2 (Zc1 (xno (Zac (Zad (xcl G_is_whole (hr.mono (by decide)) T.m_is_whole T.F_is_whole.kp T.b_is_whole (xa1 (xv 1))) (λ_=>rfl)))) (Zbh (xeq hu (xv 1) xci))))))) (Zj Za9) xnl) (Zga _))
theorem W7:Zw ["numbers","bottom","q"] ["numbers"] (Zg Yz):=⟨rfl,rfl,rfl,by decide +kernel,rfl,by decide +kernel,by decide +kernel⟩
theorem Zfl{f:Nat->Addr}{fd:Nat->Qn}{cls:Nat->Addr}(T:Txt K mg f fd cls):FnOk P w K mg base CX0 2 (f 23) (fd 23) ["numbers"] (spD K (sD Yi)):=by
 have G_greatest_divisor:=Zaw (P:=P) (w:=w) (base:=base) T
 refine Wm T.F_shared_bottom W7 (S:=Zab) rfl rfl (λcdv A outer s H E hr=>?_)
 have hu:=hr.units
 exact(xsq (xst 1 W7.nd xci) (xsq (xfr Qw rfl (xil (xv 0)) (xg 2 W7.nd) (Zj (xst 1 W7.nd (Zow (Zw9 (xv 1) (xcl G_greatest_divisor (hr.mono (by decide)) T.m_greatest_divisor T.F_greatest_divisor.kp T.b_greatest_divisor (Ze (xv 1) (xa1 (xix (xv 2) xci))))) (xix (xv 2) xci))))) (Zj (xrt (xv 1)))))
theorem W0:Zw ["n","distances","table","pair","distance"] ["n","distances"] (Zg Yq):=⟨rfl,rfl,rfl,by decide +kernel,rfl,by decide +kernel,by decide +kernel⟩
theorem Zeh{f:Nat->Addr}{fd:Nat->Qn}{cls:Nat->Addr}(T:Txt K mg f fd cls):FnOk P w K mg base CX0 2 (f 24) (fd 24) ["n","distances"] (spD K (sD Yv)):=by
 have G_pairs_of:=Zdl (P:=P) (w:=w) (base:=base) T
 refine Wm T.F_table_of_pairs W0 (S:=Yt) rfl rfl (λcdv A outer s H E hr=>?_)
 have hu:=hr.units
 exact(xsq (Zv2 (Jc (i:=2) (own:=["point"]) (caps:=[0]) (N':=["point","n"]) true W0.nd rfl (QF rfl) (by exact⟨rfl,by decide +kernel,rfl,by decide +kernel,rfl,rfl⟩) (by rfl) (by decide) (Zgk (Wo (by rfl) T.z_range (xa1 (xv 0)))) (λ_ _ _ _ _=>(xg 0 (by show QT (["point","n"]:List Str);decide +kernel))) (λ_ _ _ _ _=>(J3 Jz)) (λ_ _ _ _ _=>(Z6x (Z9l (xtp (Ze xci (xa1 xci))) (xv 1)))))) (xsq (xfr Qw rfl (Zlu (Zld (by rfl) T.z_zip L2.B.boot_zip (Ze (xcl G_pairs_of (hr.mono (by decide)) T.m_pairs_of T.F_pairs_of.kp T.b_pairs_of (xa1 (xv 0))) (xa1 (xv 1))))) (xg2 rfl (xg 3 W0.nd) (xg 4 W0.nd)) (xsq (Zsp (Zqy 2 (xv 4) (xix (xv 3) xci) (xix (xv 3) xci) (λ_ _=>rfl))) (Zj (Zsp (Zqy 2 (xv 4) (xix (xv 3) xci) (xix (xv 3) xci) (λ_ _=>rfl)))))) (Zj (Zgj (Zgd 2)))))
theorem Zkl:Zw ["bottom","numbers"] ["bottom","numbers"] (Zg J1):=⟨rfl,rfl,rfl,by decide +kernel,rfl,by decide +kernel,by decide +kernel⟩
theorem Zj5{f:Nat->Addr}{fd:Nat->Qn}{cls:Nat->Addr}(T:Txt K mg f fd cls):FnOk P w K mg base CX0 1 (f 25) (fd 25) ["bottom","numbers"] (spD K (sD W8)):=by
 refine Wm T.F_tops_over Zkl (S:=Zb5) rfl rfl (λcdv A outer s H E hr=>?_)
 have hu:=hr.units
 exact(Zj (xrt (Zbv (Zdx (own:=["q"]) (caps:=[0]) (N':=["q","bottom"]) (by exact⟨rfl,by decide +kernel,rfl,by decide +kernel,rfl,rfl⟩) (by rfl) (by decide) (xil (xv 1)) (λ_ _ _ _ _=>(xg 0 (by show QT (["q","bottom"]:List Str);decide +kernel))) (λ_ _ _ _ _=>(J3 Jz)) (λ_ _ _ _ _=>(Zow (xix (xv 0) xci) (Zw9 (xv 1) (xix (xv 0) xci))))))))
theorem Wa:Zw ["n","cuts","weights","bottom","tops","sides","distances","i","j","parting"] ["n","cuts"] (Zg Zal):=⟨rfl,rfl,rfl,by decide +kernel,rfl,by decide +kernel,by decide +kernel⟩
theorem Zly{f:Nat->Addr}{fd:Nat->Qn}{cls:Nat->Addr}(T:Txt K mg f fd cls):FnOk P w K mg base CX0 4 (f 26) (fd 26) ["n","cuts"] (spD K (sD Yo)):=by
 have G_all_sides:=Zfh (P:=P) (w:=w) (base:=base) T
 have G_fraction:=Zk9 (P:=P) (w:=w) (base:=base) T
 have GX_fraction:=Zku (P:=P) (w:=w) (base:=base) T
 have G_pairs_of:=Zdl (P:=P) (w:=w) (base:=base) T
 have G_shared_bottom:=Zfl (P:=P) (w:=w) (base:=base) T
 have G_table_of_pairs:=Zeh (P:=P) (w:=w) (base:=base) T
 have G_tops_over:=Zj5 (P:=P) (w:=w) (base:=base) T
 refine Wm T.F_table_of Wa (S:=Jt) rfl rfl (λcdv A outer s H E hr=>?_)
 have hu:=hr.units
 exact(xsq (Zdn (Jc (i:=2) (own:=["weighted"]) (caps:=[]) (N':=["weighted"]) false Wa.nd rfl (QF rfl) (by exact⟨rfl,by decide +kernel,rfl,by decide +kernel,rfl,rfl⟩) (by rfl) (by decide) (xil (xv 1)) (λ_ _ _ _ _=>(xg 0 (by show QT (["weighted"]:List Str);decide +kernel))) (λ_ _ _ _ _=>(J3 Jz)) (λ_ _ _ _ _=>(xix (xv 0) xci)))) (xsq (xst 3 Wa.nd (xcl G_shared_bottom (hr.mono (by decide)) T.m_shared_bottom T.F_shared_bottom.kp T.b_shared_bottom (xa1 (xv 2)))) (xsq (xst 4 Wa.nd (xcl G_tops_over (hr.mono (by decide)) T.m_tops_over T.F_tops_over.kp T.b_tops_over (Ze (xv 3) (xa1 (xv 2))))) (xsq (xst 5 Wa.nd (xcl G_all_sides (hr.mono (by decide)) T.m_all_sides T.F_all_sides.kp T.b_all_sides (Ze (xv 0) (xa1 (xv 1))))) (xsq (xso 6 Wa.nd (xls xa0)) (xsq (xfr Qw rfl (xil (xcl G_pairs_of (hr.mono (by decide)) T.m_pairs_of T.F_pairs_of.kp T.b_pairs_of (xa1 (xv 0)))) (xg2 rfl (xg 7 Wa.nd) (xg 8 Wa.nd)) (xsq (Zdn (Jc (i:=9) (own:=["side","top"]) (caps:=[7,8]) (N':=["side","top","i","j"]) false Wa.nd rfl (QF rfl) (by exact⟨rfl,by decide +kernel,rfl,by decide +kernel,rfl,rfl⟩) (by rfl) (by decide) (Zlu (Zld (by rfl) T.z_zip L2.B.boot_zip (Ze (xv 5) (xa1 (xv 4))))) (λ_ _ _ _ _=>(xg2 rfl (xg 0 (by show QT (["side","top","i","j"]:List Str);decide +kernel)) (xg 1 (by show QT (["side","top","i","j"]:List Str);decide +kernel)))) (λ_ _ _ _ _=>(Zdd (xne hu (xix (xv 0) (xv 2)) (xix (xv 0) (xv 3))))) (λ_ _ _ _ _=>(xv 1)))) (Zj (Jo (Jk 6 (xcl G_fraction (hr.mono (by decide)) T.m_fraction T.F_fraction.kp T.b_fraction (Ze (Zc3 Z9r (Zjl Z2o (Zq7 rfl (by rfl)) (by rfl) T.z_sum L2.B.boot_sum (xa1 (xv 9)))) (xa1 (xv 3))))))))) (Zj (Zg5 (Zg0 6 (xrt (xcl G_table_of_pairs (hr.mono (by decide)) T.m_table_of_pairs T.F_table_of_pairs.kp T.b_table_of_pairs (Ze (xv 0) (xa1 (xv 6))))))))))))))
theorem Jx:Zw ["script","k","pool","many","more","ones","others","at","to","parts","whole","both","cut","weight","other","weight_there","pair","due"] ["script"] (Zg Zfm):=⟨rfl,rfl,rfl,by decide +kernel,rfl,by decide +kernel,by decide +kernel⟩
theorem Z37{f:Nat->Addr}{fd:Nat->Qn}{cls:Nat->Addr}(T:Txt K mg f fd cls):FnOk P w K mg base CX0 5 (f 27) (fd 27) ["script"] (spD K (sD Zem)):=by
 have G_law_cuts:=Zlc (P:=P) (w:=w) (base:=base) T
 have G_law_merged:=Zic (P:=P) (w:=w) (base:=base) T
 have G_law_pool:=Zlv (P:=P) (w:=w) (base:=base) T
 have G_law_sides:=Zjx (P:=P) (w:=w) (base:=base) T
 have G_law_take:=Zbr (P:=P) (w:=w) (base:=base) T
 have G_first_crossing:=Ze3 (P:=P) (w:=w) (base:=base) T
 have G_hung_together:=Zfp (P:=P) (w:=w) (base:=base) T
 have GX_hung_together:=Zeg (P:=P) (w:=w) (base:=base) T
 have G_table_of:=Zly (P:=P) (w:=w) (base:=base) T
 refine Wm T.F_law Jx (S:=Zel) rfl rfl (λcdv A outer s H E hr=>?_)
 have hu:=hr.units
 exact(xsq (xfr Qw rfl (Zgk (Wo (by rfl) T.z_range (xa1 (Zc3 Ya0 (Zjl Z2c (Zqn (by rfl)) (by rfl) T.z_max L2.B.boot_max (Ze xci (xa1 (Zc3 Z89 (Zjl Zyx (Zqa (by rfl)) (by rfl) T.z_min L2.B.boot_min (Ze xci (xa1 (xln T.z_len (xa1 (xv 0)))))))))))))) (xg 1 Jx.nd) (xsq (xso 2 Jx.nd (xcl G_law_pool (hr.mono (by decide)) T.m_law_pool T.F_law_pool.kp T.b_law_pool (Ze (xv 0) (xa1 (xv 1))))) (xsq (xst 3 Jx.nd (Zkt xci (Yd (Yw (i:=2) G_law_take (hr.mono (by decide)) (by rfl) T.m_law_take T.F_law_take.kp T.b_law_take Za5 (xa1 xci))))) (xsq (xst 4 Jx.nd (Zkt xci (Yd (Yw (i:=2) G_law_take (hr.mono (by decide)) (by rfl) T.m_law_take T.F_law_take.kp T.b_law_take Za5 (xa1 xci))))) (xsq (xst 5 Jx.nd (Yd (Yw (i:=2) G_law_cuts (hr.mono (by decide)) (by rfl) T.m_law_cuts T.F_law_cuts.kp T.b_law_cuts Za5 (xa1 (xv 3))))) (xsq (xst 6 Jx.nd (Yd (Yw (i:=2) G_law_cuts (hr.mono (by decide)) (by rfl) T.m_law_cuts T.F_law_cuts.kp T.b_law_cuts Za5 (xa1 (xv 4))))) (xsq (xst 7 Jx.nd (Yd (Yw (i:=2) G_law_take (hr.mono (by decide)) (by rfl) T.m_law_take T.F_law_take.kp T.b_law_take Za5 (xa1 (xv 3))))) (xsq (xst 8 Jx.nd (Yd (Yw (i:=2) G_law_take (hr.mono (by decide)) (by rfl) T.m_law_take T.F_law_take.kp T.b_law_take Za5 (xa1 (xv 4))))) (xsq (xst 9 Jx.nd (xcl G_law_sides (hr.mono (by decide)) T.m_law_sides T.F_law_sides.kp T.b_law_sides (Ze (xv 5) (Ze (xv 7) (Ze (xv 3) (Ze (xv 6) (Ze (xv 8) (xa1 (xv 4))))))))) (xsq (xst 10 Jx.nd (Z2l (Zkt (xv 3) (xv 4)) xci)) (xsq (xst 11 Jx.nd (xcl G_law_merged (hr.mono (by decide)) T.m_law_merged T.F_law_merged.kp T.b_law_merged (xa1 (Zn8 (Zhu Zsj (Z48 (Zgp rfl) Zki (xix (xv 9) xci) (xix (xv 9) xci))))))) (xsq (xif (xne hu (xcl G_hung_together (hr.mono (by decide)) T.m_hung_together T.F_hung_together.kp T.b_hung_together (Ze (xcl G_table_of (hr.mono (by decide)) T.m_table_of T.F_table_of.kp T.b_table_of (Ze (xv 3) (xa1 (xv 5)))) (Ze (xv 7) (Ze (xcl G_table_of (hr.mono (by decide)) T.m_table_of T.F_table_of.kp T.b_table_of (Ze (xv 4) (xa1 (xv 6)))) (xa1 (xv 8)))))) (xcl G_table_of (hr.mono (by decide)) T.m_table_of T.F_table_of.kp T.b_table_of (Ze (xv 10) (xa1 (xv 11))))) (Zj (xrt (Ztu Zt6))) xnl) (xsq (xfr Qw rfl (xil (xix (xv 9) xci)) (xg2 rfl (xg 12 Jx.nd) (xg 13 Jx.nd)) (Zj (xfr Qw rfl (xil (xix (xv 9) xci)) (xg2 rfl (xg 14 Jx.nd) (xg 15 Jx.nd)) (xsq (xst 16 Jx.nd (Zvy Zl1 (Z9b Ziu (Zeq Zp6 rfl hu) (by rfl) T.z_sorted L2.B.boot_sorted (xa1 (xls (Ze (xtp (Ze (xv 12) (xa1 (xv 13)))) (xa1 (xtp (Ze (xv 14) (xa1 (xv 15))))))))))) (Zj (xif (MW.mt (Zh1 (Zh4 (xne hu (xv 12) (xv 14)) (Zev (Zca Z1f (Zb9 Zyc Zza (xcl G_first_crossing (hr.mono (by decide)) T.m_first_crossing T.F_first_crossing.kp T.b_first_crossing (Ze (xv 10) (xa1 (xv 16)))) (Ztu Zj0) (hm:=(Zb4 _)))))))) (Zj (xrt (Ztu Zt6))) xnl)))))) (xsq (xst 17 Jx.nd (Zrc (Z4k (Zaa Z8j (Zpd Zq8 Zte (xcl G_first_crossing (hr.mono (by decide)) T.m_first_crossing T.F_first_crossing.kp T.b_first_crossing (Ze (xv 3) (xa1 (xv 5)))) (Ztu Zj0) (hm:=(Zb4 _)))) (Z4c (Zaa Z8j (Zpd Zq8 Zte (xcl G_first_crossing (hr.mono (by decide)) T.m_first_crossing T.F_first_crossing.kp T.b_first_crossing (Ze (xv 4) (xa1 (xv 6)))) (Ztu Zj0) (hm:=(Zb4 _)))))))) (Zj (xif (xne hu (Zaa Z8j (Zpd Zq8 Zte (xcl G_first_crossing (hr.mono (by decide)) T.m_first_crossing T.F_first_crossing.kp T.b_first_crossing (Ze (xv 10) (xa1 (xv 11)))) (Ztu Zj0) (hm:=(Zb4 _)))) (xv 17)) (Zj (xrt (Ztu Zt6))) xnl)))))))))))))))) (Zj (xrt (Ztu Zt6))))
theorem Zzj{f:Nat->Addr}{fd:Nat->Qn}{cls:Nat->Addr}(T:Txt K mg f fd cls):FnOk P w K mg base CX0 5 (f 27) (fd 27) ["script"] (spD K Z4e):=(Z37 T).imp λvs H Q E q=>by
 obtain⟨L,ds,k,h1,⟨ns,e,hl,hk⟩,h3⟩:=q
 exact⟨L,ds,k,h1,⟨_,by rw[e];exact Zwa ns hl,hk⟩,h3⟩
end
theorem Z2t{l:PySem.W.OpenLaw}{w:Qy}{K:Xd}{h:Heap}{mg:Str->Option Xc}{fa:Addr}{C_NoCut:Addr}{C_NoNumber:Addr}{C_NoPoint:Addr}(X:K.In h)(G:h.Ns XD mg)(hfa:mg "law"=some (.ref fa))
  {f1:Addr} {od1 an1:Option Addr} {sl1:Array (Option Xc)} {oc1 kV1 dc1 pm1 cd1 ct1:Xc}
  {f2:Addr} {od2 an2:Option Addr} {sl2:Array (Option Xc)} {oc2 kV2 dc2 pm2 cd2 ct2:Xc}
  {f3:Addr} {od3 an3:Option Addr} {sl3:Array (Option Xc)} {oc3 kV3 dc3 pm3 cd3 ct3:Xc}
  {f4:Addr} {od4 an4:Option Addr} {sl4:Array (Option Xc)} {oc4 kV4 dc4 pm4 cd4 ct4:Xc}
  {f5:Addr} {od5 an5:Option Addr} {sl5:Array (Option Xc)} {oc5 kV5 dc5 pm5 cd5 ct5:Xc}
  {f6:Addr} {od6 an6:Option Addr} {sl6:Array (Option Xc)} {oc6 kV6 dc6 pm6 cd6 ct6:Xc}
  {f7:Addr} {od7 an7:Option Addr} {sl7:Array (Option Xc)} {oc7 kV7 dc7 pm7 cd7 ct7:Xc}
  {f8:Addr} {od8 an8:Option Addr} {sl8:Array (Option Xc)} {oc8 kV8 dc8 pm8 cd8 ct8:Xc}
  {f9:Addr} {od9 an9:Option Addr} {sl9:Array (Option Xc)} {oc9 kV9 dc9 pm9 cd9 ct9:Xc}
  {f10:Addr} {od10 an10:Option Addr} {sl10:Array (Option Xc)} {oc10 kV10 dc10 pm10 cd10 ct10:Xc}
  {f11:Addr} {od11 an11:Option Addr} {sl11:Array (Option Xc)} {oc11 kV11 dc11 pm11 cd11 ct11:Xc}
  {f12:Addr} {od12 an12:Option Addr} {sl12:Array (Option Xc)} {oc12 kV12 dc12 pm12 cd12 ct12:Xc}
  {f13:Addr} {od13 an13:Option Addr} {sl13:Array (Option Xc)} {oc13 kV13 dc13 pm13 cd13 ct13:Xc}
  {f14:Addr} {od14 an14:Option Addr} {sl14:Array (Option Xc)} {oc14 kV14 dc14 pm14 cd14 ct14:Xc}
  {f15:Addr} {od15 an15:Option Addr} {sl15:Array (Option Xc)} {oc15 kV15 dc15 pm15 cd15 ct15:Xc}
  {f16:Addr} {od16 an16:Option Addr} {sl16:Array (Option Xc)} {oc16 kV16 dc16 pm16 cd16 ct16:Xc}
  {f17:Addr} {od17 an17:Option Addr} {sl17:Array (Option Xc)} {oc17 kV17 dc17 pm17 cd17 ct17:Xc}
  {f18:Addr} {od18 an18:Option Addr} {sl18:Array (Option Xc)} {oc18 kV18 dc18 pm18 cd18 ct18:Xc}
  {f19:Addr} {od19 an19:Option Addr} {sl19:Array (Option Xc)} {oc19 kV19 dc19 pm19 cd19 ct19:Xc}
  {f20:Addr} {od20 an20:Option Addr} {sl20:Array (Option Xc)} {oc20 kV20 dc20 pm20 cd20 ct20:Xc}
  {f21:Addr} {od21 an21:Option Addr} {sl21:Array (Option Xc)} {oc21 kV21 dc21 pm21 cd21 ct21:Xc}
  {f22:Addr} {od22 an22:Option Addr} {sl22:Array (Option Xc)} {oc22 kV22 dc22 pm22 cd22 ct22:Xc}
  {f23:Addr} {od23 an23:Option Addr} {sl23:Array (Option Xc)} {oc23 kV23 dc23 pm23 cd23 ct23:Xc}
  {f24:Addr} {od24 an24:Option Addr} {sl24:Array (Option Xc)} {oc24 kV24 dc24 pm24 cd24 ct24:Xc}
  {f25:Addr} {od25 an25:Option Addr} {sl25:Array (Option Xc)} {oc25 kV25 dc25 pm25 cd25 ct25:Xc}
  {f26:Addr} {od26 an26:Option Addr} {sl26:Array (Option Xc)} {oc26 kV26 dc26 pm26 cd26 ct26:Xc}
  {f27:Addr} {od27 an27:Option Addr} {sl27:Array (Option Xc)} {oc27 kV27 dc27 pm27 cd27 ct27:Xc}
  {f28:Addr} {od28 an28:Option Addr} {sl28:Array (Option Xc)} {oc28 kV28 dc28 pm28 cd28 ct28:Xc}
  (a1:XN K XD "_law_once"=some (some (.ref f1))) (l1:K.lookup f1=some ⟨oc1,od1,.func (Qi "_law_once" "_law_once" (Zy Zai) (Zr Zai) (Zg Zai) .none kV1 dc1 pm1 an1 cd1 ct1),sl1⟩) (c1:Qe K cd1 "_law_once"=true) (k1:X3 K (.ref f1)=true)
  (a2:XN K XD "_law_take"=some (some (.ref f2))) (l2:K.lookup f2=some ⟨oc2,od2,.func (Qi "_law_take" "_law_take" (Zy Zap) (Zr Zap) (Zg Zap) .none kV2 dc2 pm2 an2 cd2 ct2),sl2⟩) (c2:Qe K cd2 "_law_take"=true) (k2:X3 K (.ref f2)=true)
  (a3:XN K XD "_law_figures"=some (some (.ref f3))) (l3:K.lookup f3=some ⟨oc3,od3,.func (Qi "_law_figures" "_law_figures" (Zy Wy) (Zr Wy) (Zg Wy) .none kV3 dc3 pm3 an3 cd3 ct3),sl3⟩) (c3:Qe K cd3 "_law_figures"=true) (k3:X3 K (.ref f3)=true)
  (a4:XN K XD "_law_lowest"=some (some (.ref f4))) (l4:K.lookup f4=some ⟨oc4,od4,.func (Qi "_law_lowest" "_law_lowest" (Zy Jf) (Zr Jf) (Zg Jf) .none kV4 dc4 pm4 an4 cd4 ct4),sl4⟩) (c4:Qe K cd4 "_law_lowest"=true) (k4:X3 K (.ref f4)=true)
  (a5:XN K XD "_law_weight"=some (some (.ref f5))) (l5:K.lookup f5=some ⟨oc5,od5,.func (Qi "_law_weight" "_law_weight" (Zy Jd) (Zr Jd) (Zg Jd) .none kV5 dc5 pm5 an5 cd5 ct5),sl5⟩) (c5:Qe K cd5 "_law_weight"=true) (k5:X3 K (.ref f5)=true)
  (a6:XN K XD "_law_cuts"=some (some (.ref f6))) (l6:K.lookup f6=some ⟨oc6,od6,.func (Qi "_law_cuts" "_law_cuts" (Zy Zam) (Zr Zam) (Zg Zam) .none kV6 dc6 pm6 an6 cd6 ct6),sl6⟩) (c6:Qe K cd6 "_law_cuts"=true) (k6:X3 K (.ref f6)=true)
  (a7:XN K XD "greatest_divisor"=some (some (.ref f7))) (l7:K.lookup f7=some ⟨oc7,od7,.func (Qi "greatest_divisor" "greatest_divisor" (Zy Ye) (Zr Ye) (Zg Ye) .none kV7 dc7 pm7 an7 cd7 ct7),sl7⟩) (c7:Qe K cd7 "greatest_divisor"=true) (k7:X3 K (.ref f7)=true)
  (a8:XN K XD "in_least"=some (some (.ref f8))) (l8:K.lookup f8=some ⟨oc8,od8,.func (Qi "in_least" "in_least" (Zy Zat) (Zr Zat) (Zg Zat) .none kV8 dc8 pm8 an8 cd8 ct8),sl8⟩) (c8:Qe K cd8 "in_least"=true) (k8:X3 K (.ref f8)=true)
  (a9:XN K XD "plus"=some (some (.ref f9))) (l9:K.lookup f9=some ⟨oc9,od9,.func (Qi "plus" "plus" (Zy Zhz) (Zr Zhz) (Zg Zhz) .none kV9 dc9 pm9 an9 cd9 ct9),sl9⟩) (c9:Qe K cd9 "plus"=true) (k9:X3 K (.ref f9)=true)
  (a10:XN K XD "_law_merged"=some (some (.ref f10))) (l10:K.lookup f10=some ⟨oc10,od10,.func (Qi "_law_merged" "_law_merged" (Zy Jg) (Zr Jg) (Zg Jg) .none kV10 dc10 pm10 an10 cd10 ct10),sl10⟩) (c10:Qe K cd10 "_law_merged"=true) (k10:X3 K (.ref f10)=true)
  (a11:XN K XD "_law_pool"=some (some (.ref f11))) (l11:K.lookup f11=some ⟨oc11,od11,.func (Qi "_law_pool" "_law_pool" (Zy Zah) (Zr Zah) (Zg Zah) .none kV11 dc11 pm11 an11 cd11 ct11),sl11⟩) (c11:Qe K cd11 "_law_pool"=true) (k11:X3 K (.ref f11)=true)
  (a12:XN K XD "is_whole"=some (some (.ref f12))) (l12:K.lookup f12=some ⟨oc12,od12,.func (Qi "is_whole" "is_whole" (Zy Zan) (Zr Zan) (Zg Zan) .none kV12 dc12 pm12 an12 cd12 ct12),sl12⟩) (c12:Qe K cd12 "is_whole"=true) (k12:X3 K (.ref f12)=true)
  (a13:XN K XD "check_points"=some (some (.ref f13))) (l13:K.lookup f13=some ⟨oc13,od13,.func (Qi "check_points" "check_points" (Zy Wf) (Zr Wf) (Zg Wf) .none kV13 dc13 pm13 an13 cd13 ct13),sl13⟩) (c13:Qe K cd13 "check_points"=true) (k13:X3 K (.ref f13)=true)
  (a14:XN K XD "cut_of"=some (some (.ref f14))) (l14:K.lookup f14=some ⟨oc14,od14,.func (Qi "cut_of" "cut_of" (Zy Zcy) (Zr Zcy) (Zg Zcy) .none kV14 dc14 pm14 an14 cd14 ct14),sl14⟩) (c14:Qe K cd14 "cut_of"=true) (k14:X3 K (.ref f14)=true)
  (a15:XN K XD "_law_sides"=some (some (.ref f15))) (l15:K.lookup f15=some ⟨oc15,od15,.func (Qi "_law_sides" "_law_sides" (Zy Jy) (Zr Jy) (Zg Jy) .none kV15 dc15 pm15 an15 cd15 ct15),sl15⟩) (c15:Qe K cd15 "_law_sides"=true) (k15:X3 K (.ref f15)=true)
  (a16:XN K XD "sides_of"=some (some (.ref f16))) (l16:K.lookup f16=some ⟨oc16,od16,.func (Qi "sides_of" "sides_of" (Zy Zao) (Zr Zao) (Zg Zao) .none kV16 dc16 pm16 an16 cd16 ct16),sl16⟩) (c16:Qe K cd16 "sides_of"=true) (k16:X3 K (.ref f16)=true)
  (a17:XN K XD "all_sides"=some (some (.ref f17))) (l17:K.lookup f17=some ⟨oc17,od17,.func (Qi "all_sides" "all_sides" (Zy J2) (Zr J2) (Zg J2) .none kV17 dc17 pm17 an17 cd17 ct17),sl17⟩) (c17:Qe K cd17 "all_sides"=true) (k17:X3 K (.ref f17)=true)
  (a18:XN K XD "do_cross"=some (some (.ref f18))) (l18:K.lookup f18=some ⟨oc18,od18,.func (Qi "do_cross" "do_cross" (Zy Zaq) (Zr Zaq) (Zg Zaq) .none kV18 dc18 pm18 an18 cd18 ct18),sl18⟩) (c18:Qe K cd18 "do_cross"=true) (k18:X3 K (.ref f18)=true)
  (a19:XN K XD "pairs_of"=some (some (.ref f19))) (l19:K.lookup f19=some ⟨oc19,od19,.func (Qi "pairs_of" "pairs_of" (Zy Zar) (Zr Zar) (Zg Zar) .none kV19 dc19 pm19 an19 cd19 ct19),sl19⟩) (c19:Qe K cd19 "pairs_of"=true) (k19:X3 K (.ref f19)=true)
  (a20:XN K XD "first_crossing"=some (some (.ref f20))) (l20:K.lookup f20=some ⟨oc20,od20,.func (Qi "first_crossing" "first_crossing" (Zy Yr) (Zr Yr) (Zg Yr) .none kV20 dc20 pm20 an20 cd20 ct20),sl20⟩) (c20:Qe K cd20 "first_crossing"=true) (k20:X3 K (.ref f20)=true)
  (a21:XN K XD "is_point"=some (some (.ref f21))) (l21:K.lookup f21=some ⟨oc21,od21,.func (Qi "is_point" "is_point" (Zy Zaj) (Zr Zaj) (Zg Zaj) .none kV21 dc21 pm21 an21 cd21 ct21),sl21⟩) (c21:Qe K cd21 "is_point"=true) (k21:X3 K (.ref f21)=true)
  (a22:XN K XD "hung_together"=some (some (.ref f22))) (l22:K.lookup f22=some ⟨oc22,od22,.func (Qi "hung_together" "hung_together" (Zy Y4) (Zr Y4) (Zg Y4) .none kV22 dc22 pm22 an22 cd22 ct22),sl22⟩) (c22:Qe K cd22 "hung_together"=true) (k22:X3 K (.ref f22)=true)
  (a23:XN K XD "fraction"=some (some (.ref f23))) (l23:K.lookup f23=some ⟨oc23,od23,.func (Qi "fraction" "fraction" (Zy Zas) (Zr Zas) (Zg Zas) .none kV23 dc23 pm23 an23 cd23 ct23),sl23⟩) (c23:Qe K cd23 "fraction"=true) (k23:X3 K (.ref f23)=true)
  (a24:XN K XD "shared_bottom"=some (some (.ref f24))) (l24:K.lookup f24=some ⟨oc24,od24,.func (Qi "shared_bottom" "shared_bottom" (Zy Yz) (Zr Yz) (Zg Yz) .none kV24 dc24 pm24 an24 cd24 ct24),sl24⟩) (c24:Qe K cd24 "shared_bottom"=true) (k24:X3 K (.ref f24)=true)
  (a25:XN K XD "table_of_pairs"=some (some (.ref f25))) (l25:K.lookup f25=some ⟨oc25,od25,.func (Qi "table_of_pairs" "table_of_pairs" (Zy Yq) (Zr Yq) (Zg Yq) .none kV25 dc25 pm25 an25 cd25 ct25),sl25⟩) (c25:Qe K cd25 "table_of_pairs"=true) (k25:X3 K (.ref f25)=true)
  (a26:XN K XD "tops_over"=some (some (.ref f26))) (l26:K.lookup f26=some ⟨oc26,od26,.func (Qi "tops_over" "tops_over" (Zy J1) (Zr J1) (Zg J1) .none kV26 dc26 pm26 an26 cd26 ct26),sl26⟩) (c26:Qe K cd26 "tops_over"=true) (k26:X3 K (.ref f26)=true)
  (a27:XN K XD "table_of"=some (some (.ref f27))) (l27:K.lookup f27=some ⟨oc27,od27,.func (Qi "table_of" "table_of" (Zy Zal) (Zr Zal) (Zg Zal) .none kV27 dc27 pm27 an27 cd27 ct27),sl27⟩) (c27:Qe K cd27 "table_of"=true) (k27:X3 K (.ref f27)=true)
  (a28:XN K XD "law"=some (some (.ref f28))) (l28:K.lookup f28=some ⟨oc28,od28,.func (Qi "law" "law" (Zy Zfm) (Zr Zfm) (Zg Zfm) .none kV28 dc28 pm28 an28 cd28 ct28),sl28⟩) (c28:Qe K cd28 "law"=true) (k28:X3 K (.ref f28)=true)
  (z_abs:XN K XD "abs"=some none)
  (z_bool:XN K XD "bool"=some none)
  (z_enumerate:XN K XD "enumerate"=some none)
  (z_int:XN K XD "int"=some none)
  (z_isinstance:XN K XD "isinstance"=some none)
  (z_len:XN K XD "len"=some none)
  (z_list:XN K XD "list"=some none)
  (z_max:XN K XD "max"=some none)
  (z_min:XN K XD "min"=some none)
  (z_range:XN K XD "range"=some none)
  (z_set:XN K XD "set"=some none)
  (z_sorted:XN K XD "sorted"=some none)
  (z_sum:XN K XD "sum"=some none)
  (z_zip:XN K XD "zip"=some none)
  (cc_NoCut:XN K XD "NoCut"=some (some (.ref C_NoCut)))
  (cc_NoNumber:XN K XD "NoNumber"=some (some (.ref C_NoNumber)))
  (cc_NoPoint:XN K XD "NoPoint"=some (some (.ref C_NoPoint)))
  (r_NoCut:Zlh K C_NoCut)
  (r_NoNumber:Zlh K C_NoNumber)
  (r_NoPoint:Zlh K C_NoPoint)
  (x_NoCut_ga:Qq K (.ref C_NoCut) "__getattribute__"=some (some (.builtin "BaseException.__getattribute__")))
  (x_NoCut_gt:Qq K (.ref C_NoCut) "__getattr__"=some none)
  (x_NoCut_cl:Qq K (.ref C_NoCut) "__class__"=some (some (.builtin "object.__class__")))
  (x_NoCut_isB:JS K (.ref C_NoCut) (.type "BaseException")=some true)
  (x_NoCut_isO:JS K (.ref C_NoCut) (.type "object")=some true)
  (x_NoCut_isC:Ud K C_NoCut=true)
  (x_NoCut_k1:XR K (.ref C_NoCut) (.type "int")=some false)
  (x_NoCut_k2:XR K (.ref C_NoCut) (.type "bool")=some false)
  (x_NoCut_k3:XR K (.ref C_NoCut) (.type "str")=some false)
  (x_NoCut_k4:XR K (.ref C_NoCut) (.type "list")=some false)
  (x_NoCut_k5:XR K (.ref C_NoCut) (.type "tuple")=some false)
  (x_NoNumber_ga:Qq K (.ref C_NoNumber) "__getattribute__"=some (some (.builtin "BaseException.__getattribute__")))
  (x_NoNumber_gt:Qq K (.ref C_NoNumber) "__getattr__"=some none)
  (x_NoNumber_cl:Qq K (.ref C_NoNumber) "__class__"=some (some (.builtin "object.__class__")))
  (x_NoNumber_isB:JS K (.ref C_NoNumber) (.type "BaseException")=some true)
  (x_NoNumber_isO:JS K (.ref C_NoNumber) (.type "object")=some true)
  (x_NoNumber_isC:Ud K C_NoNumber=true)
  (x_NoNumber_k1:XR K (.ref C_NoNumber) (.type "int")=some false)
  (x_NoNumber_k2:XR K (.ref C_NoNumber) (.type "bool")=some false)
  (x_NoNumber_k3:XR K (.ref C_NoNumber) (.type "str")=some false)
  (x_NoNumber_k4:XR K (.ref C_NoNumber) (.type "list")=some false)
  (x_NoNumber_k5:XR K (.ref C_NoNumber) (.type "tuple")=some false)
  (x_NoPoint_ga:Qq K (.ref C_NoPoint) "__getattribute__"=some (some (.builtin "BaseException.__getattribute__")))
  (x_NoPoint_gt:Qq K (.ref C_NoPoint) "__getattr__"=some none)
  (x_NoPoint_cl:Qq K (.ref C_NoPoint) "__class__"=some (some (.builtin "object.__class__")))
  (x_NoPoint_isB:JS K (.ref C_NoPoint) (.type "BaseException")=some true)
  (x_NoPoint_isO:JS K (.ref C_NoPoint) (.type "object")=some true)
  (x_NoPoint_isC:Ud K C_NoPoint=true)
  (x_NoPoint_k1:XR K (.ref C_NoPoint) (.type "int")=some false)
  (x_NoPoint_k2:XR K (.ref C_NoPoint) (.type "bool")=some false)
  (x_NoPoint_k3:XR K (.ref C_NoPoint) (.type "str")=some false)
  (x_NoPoint_k4:XR K (.ref C_NoPoint) (.type "list")=some false)
  (x_NoPoint_k5:XR K (.ref C_NoPoint) (.type "tuple")=some false)
  :∃fd:Qn,(∀(s:Xg) (v:Xc),BindsTo s fd ⟨[v],[]⟩ [("script",v)])∧∀base:Heap,K.In base->base.Ns XD mg->FnOk l.prog w K mg base CX0 5 fa fd ["script"] (spD K Z4e):=by
 have e:=hfa.symm.trans (Qk X G a28)
 cases e
 have F1:=Yx (st:=Zai) l1 c1 k1
 have b1:=F1.binds (ps:=["cuts"]) λ_ _ _ _ _ _ us hl=>Zwz (P:=λus=>Qm _ { pos:=us }=pure (Q9 _ us)) (λ_=>rfl) us hl
 have F2:=Yx (st:=Zap) l2 c2 k2
 have b2:=F2.binds (ps:=["pool","many"]) λ_ _ _ _ _ _ us hl=>Zjh (P:=λus=>Qm _ { pos:=us }=pure (Q9 _ us)) (λ_ _=>rfl) us hl
 have F3:=Yx (st:=Wy) l3 c3 k3
 have b3:=F3.binds (ps:=["pool"]) λ_ _ _ _ _ _ us hl=>Zwz (P:=λus=>Qm _ { pos:=us }=pure (Q9 _ us)) (λ_=>rfl) us hl
 have F4:=Yx (st:=Jf) l4 c4 k4
 have b4:=F4.binds (ps:=["top","bottom"]) λ_ _ _ _ _ _ us hl=>Zjh (P:=λus=>Qm _ { pos:=us }=pure (Q9 _ us)) (λ_ _=>rfl) us hl
 have F5:=Yx (st:=Jd) l5 c5 k5
 have b5:=F5.binds (ps:=["pool"]) λ_ _ _ _ _ _ us hl=>Zwz (P:=λus=>Qm _ { pos:=us }=pure (Q9 _ us)) (λ_=>rfl) us hl
 have F6:=Yx (st:=Zam) l6 c6 k6
 have b6:=F6.binds (ps:=["pool","many"]) λ_ _ _ _ _ _ us hl=>Zjh (P:=λus=>Qm _ { pos:=us }=pure (Q9 _ us)) (λ_ _=>rfl) us hl
 have F7:=Yx (st:=Ye) l7 c7 k7
 have b7:=F7.binds (ps:=["a","b"]) λ_ _ _ _ _ _ us hl=>Zjh (P:=λus=>Qm _ { pos:=us }=pure (Q9 _ us)) (λ_ _=>rfl) us hl
 have F8:=Yx (st:=Zat) l8 c8 k8
 have b8:=F8.binds (ps:=["top","bottom"]) λ_ _ _ _ _ _ us hl=>Zjh (P:=λus=>Qm _ { pos:=us }=pure (Q9 _ us)) (λ_ _=>rfl) us hl
 have F9:=Yx (st:=Zhz) l9 c9 k9
 have b9:=F9.binds (ps:=["q","r"]) λ_ _ _ _ _ _ us hl=>Zjh (P:=λus=>Qm _ { pos:=us }=pure (Q9 _ us)) (λ_ _=>rfl) us hl
 have F10:=Yx (st:=Jg) l10 c10 k10
 have b10:=F10.binds (ps:=["ones"]) λ_ _ _ _ _ _ us hl=>Zwz (P:=λus=>Qm _ { pos:=us }=pure (Q9 _ us)) (λ_=>rfl) us hl
 have F11:=Yx (st:=Zah) l11 c11 k11
 have b11:=F11.binds (ps:=["script","k"]) λ_ _ _ _ _ _ us hl=>Zjh (P:=λus=>Qm _ { pos:=us }=pure (Q9 _ us)) (λ_ _=>rfl) us hl
 have F12:=Yx (st:=Zan) l12 c12 k12
 have b12:=F12.binds (ps:=["thing"]) λ_ _ _ _ _ _ us hl=>Zwz (P:=λus=>Qm _ { pos:=us }=pure (Q9 _ us)) (λ_=>rfl) us hl
 have F13:=Yx (st:=Wf) l13 c13 k13
 have b13:=F13.binds (ps:=["n","points"]) λ_ _ _ _ _ _ us hl=>Zjh (P:=λus=>Qm _ { pos:=us }=pure (Q9 _ us)) (λ_ _=>rfl) us hl
 have F14:=Yx (st:=Zcy) l14 c14 k14
 have b14:=F14.binds (ps:=["n","points"]) λ_ _ _ _ _ _ us hl=>Zjh (P:=λus=>Qm _ { pos:=us }=pure (Q9 _ us)) (λ_ _=>rfl) us hl
 have F15:=Yx (st:=Jy) l15 c15 k15
 have b15:=F15.binds (ps:=["ones","at","many","others","to","more"]) λ_ _ _ _ _ _ us hl=>Yee (P:=λus=>Qm _ { pos:=us }=pure (Q9 _ us)) (λ_ _ _ _ _ _=>rfl) us hl
 have F16:=Yx (st:=Zao) l16 c16 k16
 have b16:=F16.binds (ps:=["n","cut"]) λ_ _ _ _ _ _ us hl=>Zjh (P:=λus=>Qm _ { pos:=us }=pure (Q9 _ us)) (λ_ _=>rfl) us hl
 have F17:=Yx (st:=J2) l17 c17 k17
 have b17:=F17.binds (ps:=["n","cuts"]) λ_ _ _ _ _ _ us hl=>Zjh (P:=λus=>Qm _ { pos:=us }=pure (Q9 _ us)) (λ_ _=>rfl) us hl
 have F18:=Yx (st:=Zaq) l18 c18 k18
 have b18:=F18.binds (ps:=["sides","other"]) λ_ _ _ _ _ _ us hl=>Zjh (P:=λus=>Qm _ { pos:=us }=pure (Q9 _ us)) (λ_ _=>rfl) us hl
 have F19:=Yx (st:=Zar) l19 c19 k19
 have b19:=F19.binds (ps:=["n"]) λ_ _ _ _ _ _ us hl=>Zwz (P:=λus=>Qm _ { pos:=us }=pure (Q9 _ us)) (λ_=>rfl) us hl
 have F20:=Yx (st:=Yr) l20 c20 k20
 have b20:=F20.binds (ps:=["n","cuts"]) λ_ _ _ _ _ _ us hl=>Zjh (P:=λus=>Qm _ { pos:=us }=pure (Q9 _ us)) (λ_ _=>rfl) us hl
 have F21:=Yx (st:=Zaj) l21 c21 k21
 have b21:=F21.binds (ps:=["table","point"]) λ_ _ _ _ _ _ us hl=>Zjh (P:=λus=>Qm _ { pos:=us }=pure (Q9 _ us)) (λ_ _=>rfl) us hl
 have F22:=Yx (st:=Y4) l22 c22 k22
 have b22:=F22.binds (ps:=["table","point","other","other_point"]) λ_ _ _ _ _ _ us hl=>Yd4 (P:=λus=>Qm _ { pos:=us }=pure (Q9 _ us)) (λ_ _ _ _=>rfl) us hl
 have F23:=Yx (st:=Zas) l23 c23 k23
 have b23:=F23.binds (ps:=["top","bottom"]) λ_ _ _ _ _ _ us hl=>Zjh (P:=λus=>Qm _ { pos:=us }=pure (Q9 _ us)) (λ_ _=>rfl) us hl
 have F24:=Yx (st:=Yz) l24 c24 k24
 have b24:=F24.binds (ps:=["numbers"]) λ_ _ _ _ _ _ us hl=>Zwz (P:=λus=>Qm _ { pos:=us }=pure (Q9 _ us)) (λ_=>rfl) us hl
 have F25:=Yx (st:=Yq) l25 c25 k25
 have b25:=F25.binds (ps:=["n","distances"]) λ_ _ _ _ _ _ us hl=>Zjh (P:=λus=>Qm _ { pos:=us }=pure (Q9 _ us)) (λ_ _=>rfl) us hl
 have F26:=Yx (st:=J1) l26 c26 k26
 have b26:=F26.binds (ps:=["bottom","numbers"]) λ_ _ _ _ _ _ us hl=>Zjh (P:=λus=>Qm _ { pos:=us }=pure (Q9 _ us)) (λ_ _=>rfl) us hl
 have F27:=Yx (st:=Zal) l27 c27 k27
 have b27:=F27.binds (ps:=["n","cuts"]) λ_ _ _ _ _ _ us hl=>Zjh (P:=λus=>Qm _ { pos:=us }=pure (Q9 _ us)) (λ_ _=>rfl) us hl
 have F28:=Yx (st:=Zfm) l28 c28 k28
 have b28:=F28.binds (ps:=["script"]) λ_ _ _ _ _ _ us hl=>Zwz (P:=λus=>Qm _ { pos:=us }=pure (Q9 _ us)) (λ_=>rfl) us hl
 have T:Txt K mg (λk=>[_,_,_,_,_,_,_,_,_,_,_,_,_,_,_,_,_,_,_,_,_,_,_,_,_,_,_,_].getD k 0) (λk=>[_,_,_,_,_,_,_,_,_,_,_,_,_,_,_,_,_,_,_,_,_,_,_,_,_,_,_,_].getD k (Qi "law" "law" (Zy Zfm) (Zr Zfm) (Zg Zfm) .none kV28 dc28 pm28 an28 cd28 ct28)) (λk=>[C_NoCut,C_NoNumber,C_NoPoint].getD k 0):={ F_law_once:=F1,b_law_once:=b1,m_law_once:=Qk X G a1,F_law_take:=F2,b_law_take:=b2,m_law_take:=Qk X G a2,F_law_figures:=F3,b_law_figures:=b3,m_law_figures:=Qk X G a3,F_law_lowest:=F4,b_law_lowest:=b4,m_law_lowest:=Qk X G a4,F_law_weight:=F5,b_law_weight:=b5,m_law_weight:=Qk X G a5,F_law_cuts:=F6,b_law_cuts:=b6,m_law_cuts:=Qk X G a6,F_greatest_divisor:=F7,b_greatest_divisor:=b7,m_greatest_divisor:=Qk X G a7,F_in_least:=F8,b_in_least:=b8,m_in_least:=Qk X G a8,F_plus:=F9,b_plus:=b9,m_plus:=Qk X G a9,F_law_merged:=F10,b_law_merged:=b10,m_law_merged:=Qk X G a10,F_law_pool:=F11,b_law_pool:=b11,m_law_pool:=Qk X G a11,F_is_whole:=F12,b_is_whole:=b12,m_is_whole:=Qk X G a12,F_check_points:=F13,b_check_points:=b13,m_check_points:=Qk X G a13,F_cut_of:=F14,b_cut_of:=b14,m_cut_of:=Qk X G a14,F_law_sides:=F15,b_law_sides:=b15,m_law_sides:=Qk X G a15,F_sides_of:=F16,b_sides_of:=b16,m_sides_of:=Qk X G a16,F_all_sides:=F17,b_all_sides:=b17,m_all_sides:=Qk X G a17,F_do_cross:=F18,b_do_cross:=b18,m_do_cross:=Qk X G a18,F_pairs_of:=F19,b_pairs_of:=b19,m_pairs_of:=Qk X G a19,F_first_crossing:=F20,b_first_crossing:=b20,m_first_crossing:=Qk X G a20,F_is_point:=F21,b_is_point:=b21,m_is_point:=Qk X G a21,F_hung_together:=F22,b_hung_together:=b22,m_hung_together:=Qk X G a22,F_fraction:=F23,b_fraction:=b23,m_fraction:=Qk X G a23,F_shared_bottom:=F24,b_shared_bottom:=b24,m_shared_bottom:=Qk X G a24,F_table_of_pairs:=F25,b_table_of_pairs:=b25,m_table_of_pairs:=Qk X G a25,F_tops_over:=F26,b_tops_over:=b26,m_tops_over:=Qk X G a26,F_table_of:=F27,b_table_of:=b27,m_table_of:=Qk X G a27,F_law:=F28,b_law:=b28,m_law:=Qk X G a28,z_abs:=QH X G z_abs,z_bool:=QH X G z_bool,z_enumerate:=QH X G z_enumerate,z_int:=QH X G z_int,z_isinstance:=QH X G z_isinstance,z_len:=QH X G z_len,z_list:=QH X G z_list,z_max:=QH X G z_max,z_min:=QH X G z_min,z_range:=QH X G z_range,z_set:=QH X G z_set,z_sorted:=QH X G z_sorted,z_sum:=QH X G z_sum,z_zip:=QH X G z_zip,mC_NoCut:=Qk X G cc_NoCut,ca_NoCut:=cc_NoCut,mC_NoNumber:=Qk X G cc_NoNumber,ca_NoNumber:=cc_NoNumber,mC_NoPoint:=Qk X G cc_NoPoint,ca_NoPoint:=cc_NoPoint,r_NoCut:=r_NoCut,r_NoNumber:=r_NoNumber,r_NoPoint:=r_NoPoint,x_NoCut_ga:=x_NoCut_ga,x_NoCut_gt:=x_NoCut_gt,x_NoCut_cl:=x_NoCut_cl,x_NoCut_isB:=x_NoCut_isB,x_NoCut_isO:=x_NoCut_isO,x_NoCut_isC:=x_NoCut_isC,x_NoCut_k1:=x_NoCut_k1,x_NoCut_k2:=x_NoCut_k2,x_NoCut_k3:=x_NoCut_k3,x_NoCut_k4:=x_NoCut_k4,x_NoCut_k5:=x_NoCut_k5,x_NoNumber_ga:=x_NoNumber_ga,x_NoNumber_gt:=x_NoNumber_gt,x_NoNumber_cl:=x_NoNumber_cl,x_NoNumber_isB:=x_NoNumber_isB,x_NoNumber_isO:=x_NoNumber_isO,x_NoNumber_isC:=x_NoNumber_isC,x_NoNumber_k1:=x_NoNumber_k1,x_NoNumber_k2:=x_NoNumber_k2,x_NoNumber_k3:=x_NoNumber_k3,x_NoNumber_k4:=x_NoNumber_k4,x_NoNumber_k5:=x_NoNumber_k5,x_NoPoint_ga:=x_NoPoint_ga,x_NoPoint_gt:=x_NoPoint_gt,x_NoPoint_cl:=x_NoPoint_cl,x_NoPoint_isB:=x_NoPoint_isB,x_NoPoint_isO:=x_NoPoint_isO,x_NoPoint_isC:=x_NoPoint_isC,x_NoPoint_k1:=x_NoPoint_k1,x_NoPoint_k2:=x_NoPoint_k2,x_NoPoint_k3:=x_NoPoint_k3,x_NoPoint_k4:=x_NoPoint_k4,x_NoPoint_k5:=x_NoPoint_k5 }
 exact⟨Qi "law" "law" (Zy Zfm) (Zr Zfm) (Zg Zfm) .none kV28 dc28 pm28 an28 cd28 ct28,λs v=>.of_eq rfl,λbase _ _=>Zzj (P:=l.prog) (w:=w) (base:=base) T⟩
theorem walk{l:PySem.W.OpenLaw}{q:Qj}{loose:List Str}{XP:(Str->Option Xc)->Heap->Prop}{YP:Qy->Heap->Prop}{d:DefRec}{K:Params->Xd}(hn:l.most=some 63)(hdf:d.params.defaults=[])
  (hY:∀(w:Qy) (h:Heap),YP w h->(K w.params).In h)
  (F:∀(w:Qy) (mg:Str->Option Xc) (fa:Addr) (h:Heap),(K w.params).In h->h.Ns XD mg->mg d.name=some (.ref fa) ->
   ∃fd:Qn,(∀(s:Xg) (u:Xc),BindsTo s fd ⟨[u],[]⟩ [("script",u)])∧∀base:Heap,(K w.params).In base->base.Ns XD mg->FnOk l.prog w (K w.params) mg base CX0 5 fa fd ["script"] (spD (K w.params) Z4e)) :
  PySem.W.WalkO q loose XP YP l.row.toRowW d [] (λf vs=>PySem.call f vs) :=
 L2.Zys (n:=63) (k:=5) (x :="script") (CX:=λ_=>CX0) (sp:=λw=>spD (K w.params) Z4e) hn (by decide) hdf ⟨rfl,by decide,by decide⟩ hY F (λ_ _ a ns hl _ hS=>Z4a hl hS) λ_ _ _ _ _ z=>z
end My
open PySem PySem.W PyProof.Rows
set_option maxRecDepth 100000 in
set_option maxHeartbeats 0 in
theorem PySem.Challenge.cw_farcuts_k18_whole_hung_cuts_holds : PySem.Challenge.rw_farcuts_k18_whole_hung_cuts.Holds := by
 w_on;o_law;k_head;(case hw=>w_witness2)
 k_fill
 refine My.walk (l:=PySem.Challenge.rw_farcuts_k18_whole_hung_cuts) rfl rfl (λw h Y=>PySem.W.kIn_of Y) ?F
 case F=>
  intro w mg fa h KX G hmg
  refine' My.Z2t KX G hmg ?a1 ?l1 ?c1 ?k1 ?a2 ?l2 ?c2 ?k2 ?a3 ?l3 ?c3 ?k3 ?a4 ?l4 ?c4 ?k4 ?a5 ?l5 ?c5 ?k5 ?a6 ?l6 ?c6 ?k6 ?a7 ?l7 ?c7 ?k7 ?a8 ?l8 ?c8 ?k8 ?a9 ?l9 ?c9 ?k9 ?a10 ?l10 ?c10 ?k10 ?a11 ?l11 ?c11 ?k11 ?a12 ?l12 ?c12 ?k12 ?a13 ?l13 ?c13 ?k13 ?a14 ?l14 ?c14 ?k14 ?a15 ?l15 ?c15 ?k15 ?a16 ?l16 ?c16 ?k16 ?a17 ?l17 ?c17 ?k17 ?a18 ?l18 ?c18 ?k18 ?a19 ?l19 ?c19 ?k19 ?a20 ?l20 ?c20 ?k20 ?a21 ?l21 ?c21 ?k21 ?a22 ?l22 ?c22 ?k22 ?a23 ?l23 ?c23 ?k23 ?a24 ?l24 ?c24 ?k24 ?a25 ?l25 ?c25 ?k25 ?a26 ?l26 ?c26 ?k26 ?a27 ?l27 ?c27 ?k27 ?a28 ?l28 ?c28 ?k28 ?z_abs ?z_bool ?z_enumerate ?z_int ?z_isinstance ?z_len ?z_list ?z_max ?z_min ?z_range ?z_set ?z_sorted ?z_sum ?z_zip ?cc_NoCut ?cc_NoNumber ?cc_NoPoint ?r_NoCut ?r_NoNumber ?r_NoPoint ?x_NoCut_ga ?x_NoCut_gt ?x_NoCut_cl ?x_NoCut_isB ?x_NoCut_isO ?x_NoCut_isC ?x_NoCut_k1 ?x_NoCut_k2 ?x_NoCut_k3 ?x_NoCut_k4 ?x_NoCut_k5 ?x_NoNumber_ga ?x_NoNumber_gt ?x_NoNumber_cl ?x_NoNumber_isB ?x_NoNumber_isO ?x_NoNumber_isC ?x_NoNumber_k1 ?x_NoNumber_k2 ?x_NoNumber_k3 ?x_NoNumber_k4 ?x_NoNumber_k5 ?x_NoPoint_ga ?x_NoPoint_gt ?x_NoPoint_cl ?x_NoPoint_isB ?x_NoPoint_isO ?x_NoPoint_isC ?x_NoPoint_k1 ?x_NoPoint_k2 ?x_NoPoint_k3 ?x_NoPoint_k4 ?x_NoPoint_k5
  (case a1=>k_is)
  (case l1=>k_is)
  (case c1=>k_is)
  (case k1=>k_is)
  (case a2=>k_is)
  (case l2=>k_is)
  (case c2=>k_is)
  (case k2=>k_is)
  (case a3=>k_is)
  (case l3=>k_is)
  (case c3=>k_is)
  (case k3=>k_is)
  (case a4=>k_is)
  (case l4=>k_is)
  (case c4=>k_is)
  (case k4=>k_is)
  (case a5=>k_is)
  (case l5=>k_is)
  (case c5=>k_is)
  (case k5=>k_is)
  (case a6=>k_is)
  (case l6=>k_is)
  (case c6=>k_is)
  (case k6=>k_is)
  (case a7=>k_is)
  (case l7=>k_is)
  (case c7=>k_is)
  (case k7=>k_is)
  (case a8=>k_is)
  (case l8=>k_is)
  (case c8=>k_is)
  (case k8=>k_is)
  (case a9=>k_is)
  (case l9=>k_is)
  (case c9=>k_is)
  (case k9=>k_is)
  (case a10=>k_is)
  (case l10=>k_is)
  (case c10=>k_is)
  (case k10=>k_is)
  (case a11=>k_is)
  (case l11=>k_is)
  (case c11=>k_is)
  (case k11=>k_is)
  (case a12=>k_is)
  (case l12=>k_is)
  (case c12=>k_is)
  (case k12=>k_is)
  (case a13=>k_is)
  (case l13=>k_is)
  (case c13=>k_is)
  (case k13=>k_is)
  (case a14=>k_is)
  (case l14=>k_is)
  (case c14=>k_is)
  (case k14=>k_is)
  (case a15=>k_is)
  (case l15=>k_is)
  (case c15=>k_is)
  (case k15=>k_is)
  (case a16=>k_is)
  (case l16=>k_is)
  (case c16=>k_is)
  (case k16=>k_is)
  (case a17=>k_is)
  (case l17=>k_is)
  (case c17=>k_is)
  (case k17=>k_is)
  (case a18=>k_is)
  (case l18=>k_is)
  (case c18=>k_is)
  (case k18=>k_is)
  (case a19=>k_is)
  (case l19=>k_is)
  (case c19=>k_is)
  (case k19=>k_is)
  (case a20=>k_is)
  (case l20=>k_is)
  (case c20=>k_is)
  (case k20=>k_is)
  (case a21=>k_is)
  (case l21=>k_is)
  (case c21=>k_is)
  (case k21=>k_is)
  (case a22=>k_is)
  (case l22=>k_is)
  (case c22=>k_is)
  (case k22=>k_is)
  (case a23=>k_is)
  (case l23=>k_is)
  (case c23=>k_is)
  (case k23=>k_is)
  (case a24=>k_is)
  (case l24=>k_is)
  (case c24=>k_is)
  (case k24=>k_is)
  (case a25=>k_is)
  (case l25=>k_is)
  (case c25=>k_is)
  (case k25=>k_is)
  (case a26=>k_is)
  (case l26=>k_is)
  (case c26=>k_is)
  (case k26=>k_is)
  (case a27=>k_is)
  (case l27=>k_is)
  (case c27=>k_is)
  (case k27=>k_is)
  (case a28=>k_is)
  (case l28=>k_is)
  (case c28=>k_is)
  (case k28=>k_is)
  (case z_abs=>k_is)
  (case z_bool=>k_is)
  (case z_enumerate=>k_is)
  (case z_int=>k_is)
  (case z_isinstance=>k_is)
  (case z_len=>k_is)
  (case z_list=>k_is)
  (case z_max=>k_is)
  (case z_min=>k_is)
  (case z_range=>k_is)
  (case z_set=>k_is)
  (case z_sorted=>k_is)
  (case z_sum=>k_is)
  (case z_zip=>k_is)
  (case cc_NoCut=>k_is)
  (case cc_NoNumber=>k_is)
  (case cc_NoPoint=>k_is)
  (case r_NoCut=>show UL _ _ _ _=true;k_exc)
  (case r_NoNumber=>show UL _ _ _ _=true;k_exc)
  (case r_NoPoint=>show UL _ _ _ _=true;k_exc)
  (case x_NoCut_ga=>k_is)
  (case x_NoCut_gt=>k_is)
  (case x_NoCut_cl=>k_is)
  (case x_NoCut_isB=>k_is)
  (case x_NoCut_isO=>k_is)
  (case x_NoCut_isC=>k_is)
  (case x_NoCut_k1=>kit_is)
  (case x_NoCut_k2=>kit_is)
  (case x_NoCut_k3=>kit_is)
  (case x_NoCut_k4=>kit_is)
  (case x_NoCut_k5=>kit_is)
  (case x_NoNumber_ga=>k_is)
  (case x_NoNumber_gt=>k_is)
  (case x_NoNumber_cl=>k_is)
  (case x_NoNumber_isB=>k_is)
  (case x_NoNumber_isO=>k_is)
  (case x_NoNumber_isC=>k_is)
  (case x_NoNumber_k1=>kit_is)
  (case x_NoNumber_k2=>kit_is)
  (case x_NoNumber_k3=>kit_is)
  (case x_NoNumber_k4=>kit_is)
  (case x_NoNumber_k5=>kit_is)
  (case x_NoPoint_ga=>k_is)
  (case x_NoPoint_gt=>k_is)
  (case x_NoPoint_cl=>k_is)
  (case x_NoPoint_isB=>k_is)
  (case x_NoPoint_isO=>k_is)
  (case x_NoPoint_isC=>k_is)
  (case x_NoPoint_k1=>kit_is)
  (case x_NoPoint_k2=>kit_is)
  (case x_NoPoint_k3=>kit_is)
  (case x_NoPoint_k4=>kit_is)
  (case x_NoPoint_k5=>kit_is)
#print axioms PySem.Challenge.cw_farcuts_k18_whole_hung_cuts_holds
